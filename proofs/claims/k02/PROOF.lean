import PyProof.Rows.All
import Wide.All
import OpenK.AllK
import Wide.FinOn
import HandS.ForMost
import HandS.ForExc
import HandS.IsInst
import HandS.Style
import HandS.TryMany
import HandS.CallSlots
import HandS.Defaults
import HandS.TupAny
import HandS.Star
import HandS.Strs
import HandS.Zip0
import HandS.RevTup
import PyProof.EqAt
import PyProof.EqKinds
import PyProof.TupleCall
import Open.SpecLaws
import KE.OsGo
import HandS.ForSpec
import PyProof.ReprRoads
import PyProof.StrLawsRepr
import PyProof.Rows.RegStrFacts
import HandS.RaiseMore
import PySem.Challenge.RW_cellpictures_k02_ways_and_maps_refused
set_option Elab.async false
set_option linter.all false
set_option maxRecDepth 100000
namespace Sv
open PySem L2

/-! ## data -/
inductive Dat where
  | non | bl (b : Bool) | int (i : Int) | str (x : Str) | tup (ds : List Dat) | lst (ds : List Dat) | scr (ds : List Dat) | dct (ks : List Key) (ds : List Dat) | ins (cn : Str) (fs : List Str) (ds : List Dat)
/-- a tuple without a dict of its own: made here, or of the written part -/
def TupAt (K : PySem.W.Frag) (H : Hp) (a : Addr) (vs : List V) : Prop := (∃ o : Obj, H a = some (.frz o (.tup vs)) ∧ o.dict = none) ∨
  ∃ (o : Obj) (its : Array Value) (n : Nat), K.lookup a = some o ∧ o.cls = .type "tuple" ∧ o.dict = none ∧ o.data = .seq its n ∧ its.size ≤ sizeLine ∧ Vals vs its.toList
theorem TupAt.sq {K : PySem.W.Frag} {H : Hp} {a : Addr} {vs : List V} (h : TupAt K H a vs) : SqT K H a vs := by
  rcases h with ⟨o, h, _⟩ | ⟨o, its, n, h1, h2, _, h4⟩
  · exact .inl (.inr ⟨o, h⟩)
  · exact .inr ⟨o, its, n, h1, h2, h4⟩
theorem TupAt.mono {K : PySem.W.Frag} {H H' : Hp} {a : Addr} {vs : List V} (e : Same H H') (h : TupAt K H a vs) : TupAt K H' a vs := by
  rcases h with ⟨o, h, d⟩ | h
  · exact .inl ⟨o, e _ _ h, d⟩
  · exact .inr h
mutual
inductive Rep (K : PySem.W.Frag) (H : Hp) : V → Dat → Prop
  | non : Rep K H .non .non
  | bl (b : Bool) : Rep K H (.bl b) (.bl b)
  | int (i : Int) : Rep K H (.int i) (.int i)
  | str (x : Str) : Rep K H (.str x) (.str x)
  | tup {a : Addr} {vs : List V} {ds : List Dat} : TupAt K H a vs → RepA K H vs ds → Rep K H (.ref a) (.tup ds)
  | lst {a : Addr} {vs : List V} {ds : List Dat} : Rd H a (.lst vs) → RepA K H vs ds → Rep K H (.ref a) (.lst ds)
  | scr {a : Addr} {vs : List V} {ds : List Dat} : SqL K H a vs → RepA K H vs ds → Rep K H (.ref a) (.scr ds)
  | dct {a : Addr} {kvs : List (Key × V)} {ks : List Key} {ds : List Dat} : Rd H a (.dK kvs) → kvs.map (·.1) = ks → RepA K H (kvs.map (·.2)) ds → Rep K H (.ref a) (.dct ks ds)
  | ins {a C dx : Addr} {fvs : List (Str × V)} {cn : Str} {fs : List Str} {ds : List Dat} : Rd H a (.ins C dx fvs) → PySem.W.nsIn K mainGlobals cn = some (some (.ref C)) → fvs.map (·.1) = fs → RepA K H (fvs.map (·.2)) ds → Rep K H (.ref a) (.ins cn fs ds)
inductive RepA (K : PySem.W.Frag) (H : Hp) : List V → List Dat → Prop
  | nil : RepA K H [] []
  | cons {v : V} {vs : List V} {d : Dat} {ds : List Dat} : Rep K H v d → RepA K H vs ds → RepA K H (v :: vs) (d :: ds)
end
section
variable {K : PySem.W.Frag} {H H' : Hp}
theorem sameT {a : Addr} {xs : List V} (e : Same H H') (h : SqT K H a xs) : SqT K H' a xs := by
  rcases h with (h | ⟨o, h⟩) | h
  · exact .inl (.inl (e _ _ h))
  · exact .inl (.inr ⟨o, e _ _ h⟩)
  · exact .inr h
theorem sameRd {a : Addr} {u : HO} (e : Same H H') (h : Rd H a u) : Rd H' a u := by
  rcases h with h | ⟨o, h⟩
  · exact .inl (e _ _ h)
  · exact .inr ⟨o, e _ _ h⟩
theorem sameL {a : Addr} {xs : List V} (e : Same H H') (h : SqL K H a xs) : SqL K H' a xs := by
  rcases h with h | h
  · exact .inl (sameRd e h)
  · exact .inr h
mutual
theorem Rep.mono (e : Same H H') : ∀ {d : Dat} {v : V}, Rep K H v d → Rep K H' v d
  | .non, _, h => by cases h; exact .non
  | .bl b, _, h => by cases h; exact .bl b
  | .int i, _, h => by cases h; exact .int i
  | .str x, _, h => by cases h; exact .str x
  | .tup ds, _, h => by
    cases h with
    | tup h1 h2 => exact .tup (h1.mono e) (RepA.mono e h2)
  | .lst ds, _, h => by
    cases h with
    | lst h1 h2 => exact .lst (sameRd e h1) (RepA.mono e h2)
  | .scr ds, _, h => by
    cases h with
    | scr h1 h2 => exact .scr (sameL e h1) (RepA.mono e h2)
  | .dct ks ds, _, h => by
    cases h with
    | dct h1 h2 h3 => exact .dct (sameRd e h1) h2 (RepA.mono e h3)
  | .ins cn fs ds, _, h => by
    cases h with
    | ins h1 h0 h2 h3 => exact .ins (sameRd e h1) h0 h2 (RepA.mono e h3)
theorem RepA.mono (e : Same H H') : ∀ {ds : List Dat} {vs : List V}, RepA K H vs ds → RepA K H' vs ds
  | [], _, h => by cases h; exact .nil
  | d :: ds, _, h => by
    cases h with
    | cons h1 h2 => exact .cons (Rep.mono e h1) (RepA.mono e h2)
end
theorem RepA.length : ∀ {ds : List Dat} {vs : List V}, RepA K H vs ds → vs.length = ds.length
  | [], _, h => by cases h; rfl
  | d :: ds, _, h => by
    cases h with
    | cons h1 h2 => show _ + 1 = _ + 1; rw [RepA.length h2]
theorem RepA.get : ∀ {ds : List Dat} {vs : List V} {i : Nat} {d : Dat}, RepA K H vs ds → ds[i]? = some d → ∃ v, vs[i]? = some v ∧ Rep K H v d
  | [], _, _, _, _, e => by simp at e
  | d :: ds, _, 0, _, .cons h1 h2, e => by simp at e; subst e; exact ⟨_, rfl, h1⟩
  | d :: ds, _, i + 1, x, .cons h1 h2, e => by
    obtain ⟨v, q1, q2⟩ := RepA.get (i := i) h2 (by simpa using e)
    exact ⟨v, by simpa using q1, q2⟩
theorem RepA.getV : ∀ {ds : List Dat} {vs : List V} {i : Nat} {v : V}, RepA K H vs ds → vs[i]? = some v → ∃ d, ds[i]? = some d ∧ Rep K H v d
  | [], _, _, _, h, e => by cases h; simp at e
  | d :: ds, _, 0, _, .cons h1 h2, e => by simp at e; subst e; exact ⟨_, rfl, h1⟩
  | d :: ds, _, i + 1, x, .cons h1 h2, e => by
    obtain ⟨v, q1, q2⟩ := RepA.getV (i := i) h2 (by simpa using e)
    exact ⟨v, by simpa using q1, q2⟩
theorem RepA.app : ∀ {ds es : List Dat} {vs us : List V}, RepA K H vs ds → RepA K H us es → RepA K H (vs ++ us) (ds ++ es)
  | [], _, _, _, h, s => by cases h; exact s
  | d :: ds, _, _, _, .cons h1 h2, s => .cons h1 (RepA.app h2 s)
theorem RepA.set : ∀ {ds : List Dat} {vs : List V} {v : V} {d : Dat} (i : Nat), Rep K H v d → RepA K H vs ds → RepA K H (vs.set i v) (ds.set i d)
  | [], _, _, _, _, _, h => by cases h; exact .nil
  | _ :: _, _, _, _, 0, r, .cons h1 h2 => .cons r h2
  | _ :: _, _, _, _, i + 1, r, .cons h1 h2 => .cons h1 (RepA.set i r h2)
theorem RepA.rev {ds : List Dat} {vs : List V} (h : RepA K H vs ds) : RepA K H vs.reverse ds.reverse := by
  induction ds generalizing vs with
  | nil => cases h; exact .nil
  | cons d ds ih =>
    cases h with
    | cons h1 h2 =>
      rw [List.reverse_cons, List.reverse_cons]
      exact (ih h2).app (.cons h1 .nil)
theorem RepA.of_get : ∀ {ds : List Dat} {vs : List V}, vs.length = ds.length → (∀ (i : Nat) (v : V) (d : Dat), vs[i]? = some v → ds[i]? = some d → Rep K H v d) → RepA K H vs ds
  | [], [], _, _ => .nil
  | [], _ :: _, h, _ => by simp at h
  | _ :: _, [], h, _ => by simp at h
  | d :: ds, v :: vs, h, k => .cons (k 0 v d rfl rfl) (RepA.of_get (by simpa using h) fun i u e h1 h2 => k (i + 1) u e (by simpa using h1) (by simpa using h2))
end

/-! ## slots, the relation -/
inductive Sl where
  | un | val (d : Dat) | own (ds : List Dat) | ino (ds : List Dat)
abbrev En := List Sl
def LstAt (K : PySem.W.Frag) (H H0 : Hp) (a : Addr) (ds : List Dat) : Prop := ∃ vs, H a = some (.lst vs) ∧ RepA K H0 vs ds
def mutS (ρ : En) (i : Nat) : Prop := (∃ ds, ρ[i]? = some (.own ds)) ∨ (∃ ds, ρ[i]? = some (.ino ds))

/-- what stands fast while a body runs: the entry's heap, the lists handed in (by slot), lists in the making -/
structure Fx where
  He : Hp
  G : Hp
  io : Nat → Option Addr
  rs : List (Addr × HO)

structure Rel (K : PySem.W.Frag) (x : Fx) (σ : L2.St) (H H0 : Hp) (ρ : En) : Prop where
  sub : Same H0 H
  ent : ∀ b o, x.He b = some o → (∀ i, x.io i ≠ some b) → H b = some o
  len : ρ.length = σ.length
  val : ∀ (i : Nat) (d : Dat), ρ[i]? = some (.val d) → ∃ v, σ[i]? = some (some v) ∧ Rep K H0 v d
  own : ∀ (i : Nat) (ds : List Dat), ρ[i]? = some (.own ds) → ∃ a : Addr, σ[i]? = some (some (V.ref a)) ∧ x.He a = none ∧ H0 a = none ∧ LstAt K H H0 a ds
  ino : ∀ (i : Nat) (ds : List Dat), ρ[i]? = some (.ino ds) → ∃ a : Addr, x.io i = some a ∧ σ[i]? = some (some (.ref a)) ∧ H0 a = none ∧ LstAt K H H0 a ds
  iow : ∀ (i : Nat) (a : Addr), x.io i = some a → ∃ ds, ρ[i]? = some (.ino ds)
  apart : ∀ (i j : Nat) (a : Addr), i ≠ j → mutS ρ i → mutS ρ j → σ[i]? = some (some (.ref a)) → σ[j]? ≠ some (some (.ref a))
  old : ∀ (a : Addr) (o : HO), x.He a = some o → x.G a = none → H0 a = none
  rsv : ∀ (a : Addr) (o : HO), (a, o) ∈ x.rs → H a = some o ∧ H0 a = none ∧ x.He a = none ∧ ∀ j, mutS ρ j → σ[j]? ≠ some (some (.ref a))

theorem LstAt.mono {K : PySem.W.Frag} {H H' H0 H0' : Hp} {a : Addr} {ds : List Dat} (h : LstAt K H H0 a ds) (e : H' a = H a) (s : Same H0 H0') : LstAt K H' H0' a ds := by
  obtain ⟨vs, h1, h2⟩ := h
  exact ⟨vs, by rw [e]; exact h1, h2.mono s⟩

section
variable {K : PySem.W.Frag} {x : Fx} {σ : L2.St} {H H0 H' H0' : Hp} {ρ : En}
/-- the known part and the heap grow, what stands stays -/
theorem Rel.grow (r : Rel K x σ H H0 ρ) (k : Same H H') (s : Same H0 H0') (s' : Same H0' H') (fr : ∀ a o, H a = some o → H0 a = none → H0' a = none) : Rel K x σ H' H0' ρ where
  sub := s'
  ent := fun b o h1 h2 => k _ _ (r.ent b o h1 h2)
  len := r.len
  val := fun i d e => let ⟨v, h1, h2⟩ := r.val i d e; ⟨v, h1, h2.mono s⟩
  own := fun i ds e => by
    obtain ⟨a, h1, h2, h3, vs, h4, h5⟩ := r.own i ds e
    exact ⟨a, h1, h2, fr a _ h4 h3, vs, k _ _ h4, h5.mono s⟩
  ino := fun i ds e => by
    obtain ⟨a, h1, h2, h3, vs, h4, h5⟩ := r.ino i ds e
    exact ⟨a, h1, h2, fr a _ h4 h3, vs, k _ _ h4, h5.mono s⟩
  iow := r.iow
  apart := r.apart
  old := fun a o h1 h2 => by
    obtain ⟨u, hu⟩ : ∃ u, H a = some u := by
      by_cases hi : ∀ i, x.io i ≠ some a
      · exact ⟨o, r.ent a o h1 hi⟩
      · obtain ⟨i, hi⟩ := Classical.not_forall.mp hi
        have hi : x.io i = some a := Classical.not_not.mp hi
        obtain ⟨ds, e⟩ := r.iow i a hi
        obtain ⟨b, q1, q2, q3, vs, q4, q5⟩ := r.ino i ds e
        rw [hi] at q1
        cases q1
        exact ⟨_, q4⟩
    exact fr a u hu (r.old a o h1 h2)
  rsv := fun a o e => let ⟨h1, h2, h3, h4⟩ := r.rsv a o e; ⟨k _ _ h1, fr a o h1 h2, h3, h4⟩
theorem Rel.fresh (r : Rel K x σ H H0 ρ) {p : Addr} (h : H p = none) : x.He p = none ∧ H0 p = none := by
  refine ⟨?_, r.sub.free h⟩
  cases q : x.He p with
  | none => rfl
  | some o =>
    by_cases hi : ∀ i, x.io i ≠ some p
    · rw [r.ent p o q hi] at h; cases h
    · obtain ⟨i, hi⟩ := Classical.not_forall.mp hi
      have hi : x.io i = some p := Classical.not_not.mp hi
      obtain ⟨ds, e⟩ := r.iow i p hi
      obtain ⟨a, h1, h2, h3, vs, h4, h5⟩ := r.ino i ds e
      rw [hi] at h1
      cases h1
      rw [h4] at h; cases h
/-- a new object is laid and known -/
theorem Rel.new (r : Rel K x σ H H0 ρ) {p : Addr} (o : HO) (h : H p = none) : Rel K x σ (upd H p o) (upd H0 p o) ρ ∧ Same H0 (upd H0 p o) := by
  have h0 := (r.fresh h).2
  have s0 : Same H0 (upd H0 p o) := fun b u e => by rw [upd_ne (ne_of_none e h0)]; exact e
  have s1 : Same H (upd H p o) := fun b u e => by rw [upd_ne (ne_of_none e h)]; exact e
  refine ⟨r.grow s1 s0 (fun b u e => ?_) (fun a u ha hn => ?_), s0⟩
  · by_cases hb : b = p
    · subst hb; rw [upd_same] at e ⊢; exact e
    · rw [upd_ne hb] at e ⊢; exact r.sub _ _ e
  · rw [upd_ne (ne_of_none ha h)]; exact hn
/-- a new object is laid, not known -/
theorem Rel.new' (r : Rel K x σ H H0 ρ) {p : Addr} (o : HO) (h : H p = none) : Rel K x σ (upd H p o) H0 ρ := by
  have s1 : Same H (upd H p o) := fun b u e => by rw [upd_ne (ne_of_none e h)]; exact e
  exact r.grow s1 (Same.refl _) (r.sub.trans s1) fun _ _ _ h => h
theorem get_set {α : Type} {l : List α} {i j : Nat} {z y : α} (h : (l.set i z)[j]? = some y) : (j = i ∧ y = z ∧ i < l.length) ∨ (j ≠ i ∧ l[j]? = some y) := by
  by_cases e : i = j
  · subst e
    by_cases hl : i < l.length
    · rw [List.getElem?_set_self hl] at h; cases h; exact .inl ⟨rfl, rfl, hl⟩
    · rw [List.getElem?_eq_none (by simpa using hl)] at h; cases h
  · rw [List.getElem?_set_ne e] at h; exact .inr ⟨fun z => e z.symm, h⟩
theorem mutS_set {y : Sl} {i j : Nat} (hx : ∀ ds, y ≠ .own ds ∧ y ≠ .ino ds) (h : mutS (ρ.set i y) j) : j ≠ i ∧ mutS ρ j := by
  rcases h with ⟨ds, h⟩ | ⟨ds, h⟩
  · rcases get_set h with ⟨_, e, _⟩ | ⟨ne, e⟩
    · exact absurd e.symm (hx ds).1
    · exact ⟨ne, .inl ⟨ds, e⟩⟩
  · rcases get_set h with ⟨_, e, _⟩ | ⟨ne, e⟩
    · exact absurd e.symm (hx ds).2
    · exact ⟨ne, .inr ⟨ds, e⟩⟩
theorem mutS_val {d : Dat} {i j : Nat} (h : mutS (ρ.set i (.val d)) j) : j ≠ i ∧ mutS ρ j := mutS_set (y := .val d) (fun _ => ⟨nofun, nofun⟩) h
theorem mutS_un {i j : Nat} (h : mutS (ρ.set i .un) j) : j ≠ i ∧ mutS ρ j := mutS_set (y := .un) (fun _ => ⟨nofun, nofun⟩) h
theorem Rel.noio (r : Rel K x σ H H0 ρ) {i : Nat} (h : ∀ ds, ρ[i]? ≠ some (.ino ds)) : x.io i = none := by
  cases q : x.io i with
  | none => rfl
  | some a =>
    obtain ⟨ds, e⟩ := r.iow i a q
    exact absurd e (h ds)
/-- a slot gets a known value -/
theorem Rel.setv (r : Rel K x σ H H0 ρ) {i : Nat} {v : V} {d : Dat} (hi : ∀ ds, ρ[i]? ≠ some (.ino ds)) (h : Rep K H0 v d) : Rel K x (σ.set i (some v)) H H0 (ρ.set i (.val d)) where
  sub := r.sub
  ent := r.ent
  len := by rw [List.length_set, List.length_set]; exact r.len
  val := fun j e q => by
    rcases get_set q with ⟨rfl, z, hl⟩ | ⟨ne, q⟩
    · cases z
      exact ⟨v, List.getElem?_set_self (by rw [← r.len]; exact hl), h⟩
    · rw [List.getElem?_set_ne (Ne.symm ne)]; exact r.val j e q
  own := fun j ds q => by
    rcases get_set q with ⟨rfl, z, _⟩ | ⟨ne, q⟩
    · cases z
    · rw [List.getElem?_set_ne (Ne.symm ne)]; exact r.own j ds q
  ino := fun j ds q => by
    rcases get_set q with ⟨rfl, z, _⟩ | ⟨ne, q⟩
    · cases z
    · rw [List.getElem?_set_ne (Ne.symm ne)]; exact r.ino j ds q
  iow := fun j a q => by
    obtain ⟨ds, e⟩ := r.iow j a q
    have ne : i ≠ j := fun z => hi ds (z ▸ e)
    exact ⟨ds, by rw [List.getElem?_set_ne ne]; exact e⟩
  apart := fun j k a ne h1 h2 q => by
    obtain ⟨n1, h1⟩ := mutS_val h1
    obtain ⟨n2, h2⟩ := mutS_val h2
    rw [List.getElem?_set_ne (Ne.symm n1)] at q
    rw [List.getElem?_set_ne (Ne.symm n2)]
    exact r.apart j k a ne h1 h2 q
  old := r.old
  rsv := fun a o e => by
    obtain ⟨q1, q2, q3, q4⟩ := r.rsv a o e
    refine ⟨q1, q2, q3, fun j hm => ?_⟩
    obtain ⟨n, hm⟩ := mutS_val hm
    rw [List.getElem?_set_ne (Ne.symm n)]
    exact q4 j hm
/-- a slot is forgotten -/
theorem Rel.setu (r : Rel K x σ H H0 ρ) {i : Nat} {y : Option V} (hi : ∀ ds, ρ[i]? ≠ some (.ino ds)) : Rel K x (σ.set i y) H H0 (ρ.set i .un) where
  sub := r.sub
  ent := r.ent
  len := by rw [List.length_set, List.length_set]; exact r.len
  val := fun j e q => by
    rcases get_set q with ⟨rfl, z, _⟩ | ⟨ne, q⟩
    · cases z
    · rw [List.getElem?_set_ne (Ne.symm ne)]; exact r.val j e q
  own := fun j ds q => by
    rcases get_set q with ⟨rfl, z, _⟩ | ⟨ne, q⟩
    · cases z
    · rw [List.getElem?_set_ne (Ne.symm ne)]; exact r.own j ds q
  ino := fun j ds q => by
    rcases get_set q with ⟨rfl, z, _⟩ | ⟨ne, q⟩
    · cases z
    · rw [List.getElem?_set_ne (Ne.symm ne)]; exact r.ino j ds q
  iow := fun j a q => by
    obtain ⟨ds, e⟩ := r.iow j a q
    have ne : i ≠ j := fun z => hi ds (z ▸ e)
    exact ⟨ds, by rw [List.getElem?_set_ne ne]; exact e⟩
  apart := fun j k a ne h1 h2 q => by
    obtain ⟨n1, h1⟩ := mutS_un h1
    obtain ⟨n2, h2⟩ := mutS_un h2
    rw [List.getElem?_set_ne (Ne.symm n1)] at q
    rw [List.getElem?_set_ne (Ne.symm n2)]
    exact r.apart j k a ne h1 h2 q
  old := r.old
  rsv := fun a o e => by
    obtain ⟨q1, q2, q3, q4⟩ := r.rsv a o e
    refine ⟨q1, q2, q3, fun j hm => ?_⟩
    obtain ⟨n, hm⟩ := mutS_un hm
    rw [List.getElem?_set_ne (Ne.symm n)]
    exact q4 j hm
theorem mutS_at (r : Rel K x σ H H0 ρ) {i : Nat} (h : mutS ρ i) : ∃ a vs, σ[i]? = some (some (.ref a)) ∧ H a = some (.lst vs) ∧ H0 a = none := by
  rcases h with ⟨ds, h⟩ | ⟨ds, h⟩
  · obtain ⟨a, h1, h2, h3, vs, h4, h5⟩ := r.own i ds h
    exact ⟨a, vs, h1, h4, h3⟩
  · obtain ⟨a, h1, h2, h3, vs, h4, h5⟩ := r.ino i ds h
    exact ⟨a, vs, h2, h4, h3⟩
/-- a slot gets a new list of its own -/
theorem Rel.seto (r : Rel K x σ H H0 ρ) {i : Nat} {p : Addr} {vs : List V} {ds : List Dat} (hi : ∀ ds, ρ[i]? ≠ some (.ino ds)) (hp : H p = some (.lst vs)) (h0 : H0 p = none) (he : x.He p = none) (na : ∀ j, mutS ρ j → σ[j]? ≠ some (some (.ref p))) (nr : ∀ o, (p, o) ∉ x.rs) (h : RepA K H0 vs ds) :
    Rel K x (σ.set i (some (.ref p))) H H0 (ρ.set i (.own ds)) where
  sub := r.sub
  ent := r.ent
  len := by rw [List.length_set, List.length_set]; exact r.len
  val := fun j e q => by
    rcases get_set q with ⟨rfl, z, hl⟩ | ⟨ne, q⟩
    · cases z
    · rw [List.getElem?_set_ne (Ne.symm ne)]; exact r.val j e q
  own := fun j es q => by
    rcases get_set q with ⟨rfl, z, hl⟩ | ⟨ne, q⟩
    · cases z
      exact ⟨p, List.getElem?_set_self (by rw [← r.len]; exact hl), he, h0, vs, hp, h⟩
    · rw [List.getElem?_set_ne (Ne.symm ne)]; exact r.own j es q
  ino := fun j ds q => by
    rcases get_set q with ⟨rfl, z, _⟩ | ⟨ne, q⟩
    · cases z
    · rw [List.getElem?_set_ne (Ne.symm ne)]; exact r.ino j ds q
  iow := fun j a q => by
    obtain ⟨ds, e⟩ := r.iow j a q
    have ne : i ≠ j := fun z => hi ds (z ▸ e)
    exact ⟨ds, by rw [List.getElem?_set_ne ne]; exact e⟩
  apart := fun j k a ne h1 h2 q => by
    have key : ∀ m, mutS (ρ.set i (.own ds)) m → m ≠ i → mutS ρ m := fun m hm n => by
      rcases hm with ⟨es, hm⟩ | ⟨es, hm⟩ <;> rw [List.getElem?_set_ne (Ne.symm n)] at hm
      · exact .inl ⟨es, hm⟩
      · exact .inr ⟨es, hm⟩
    by_cases hj : j = i
    · subst hj
      have hk : k ≠ j := Ne.symm ne
      rw [List.getElem?_set_ne (Ne.symm hk)]
      have hlt : j < σ.length := by
        rcases get_set q with ⟨_, _, hl⟩ | ⟨n, _⟩
        · exact hl
        · exact absurd rfl n
      rw [List.getElem?_set_self hlt] at q
      cases q
      exact na k (key k h2 hk)
    · rw [List.getElem?_set_ne (Ne.symm hj)] at q
      by_cases hk : k = i
      · subst hk
        intro q2
        rcases get_set q2 with ⟨_, z, _⟩ | ⟨n, _⟩
        · cases z
          exact na j (key j h1 hj) q
        · exact n rfl
      · rw [List.getElem?_set_ne (Ne.symm hk)]
        exact r.apart j k a ne (key j h1 hj) (key k h2 hk) q
  old := r.old
  rsv := fun a o e => by
    obtain ⟨q1, q2, q3, q4⟩ := r.rsv a o e
    refine ⟨q1, q2, q3, fun j hm => ?_⟩
    by_cases hj : j = i
    · subst hj
      intro q
      rcases get_set q with ⟨_, z, _⟩ | ⟨n, _⟩
      · cases z
        exact nr o e
      · exact n rfl
    · rw [List.getElem?_set_ne (Ne.symm hj)]
      refine q4 j ?_
      rcases hm with ⟨es, hm⟩ | ⟨es, hm⟩ <;> rw [List.getElem?_set_ne (Ne.symm hj)] at hm
      · exact .inl ⟨es, hm⟩
      · exact .inr ⟨es, hm⟩
/-- a list of one's own becomes known -/
theorem Rel.freeze (r : Rel K x σ H H0 ρ) {i : Nat} {ds : List Dat} (e : ρ[i]? = some (.own ds)) :
    ∃ a H0', σ[i]? = some (some (.ref a)) ∧ Rel K x σ H H0' (ρ.set i (.val (.lst ds))) ∧ Same H0 H0' ∧ Rep K H0' (.ref a) (.lst ds) := by
  obtain ⟨a, h1, h2, h3, vs, h4, h5⟩ := r.own i ds e
  have s0 : Same H0 (upd H0 a (.lst vs)) := fun b u q => by rw [upd_ne (ne_of_none q h3)]; exact q
  have rp : Rep K (upd H0 a (.lst vs)) (.ref a) (.lst ds) := .lst (Rd.of upd_same) (h5.mono s0)
  have hm : mutS ρ i := .inl ⟨ds, e⟩
  have ne : ∀ j b, j ≠ i → mutS ρ j → σ[j]? = some (some (.ref b)) → b ≠ a := fun j b n m q z => r.apart j i b n m hm q (by rw [z]; exact h1)
  refine ⟨a, _, h1, ⟨fun b u q => ?_, r.ent, by rw [List.length_set]; exact r.len, fun j d q => ?_, fun j es q => ?_, fun j es q => ?_, fun j b q => ?_, fun j k b n m1 m2 q => ?_, fun b o q q2 => ?_, fun b o q => ?_⟩, s0, rp⟩
  · by_cases hb : b = a
    · subst hb; rw [upd_same] at q; rw [h4]; exact q
    · rw [upd_ne hb] at q; exact r.sub _ _ q
  · rcases get_set q with ⟨rfl, z, hl⟩ | ⟨n, q⟩
    · cases z; exact ⟨_, h1, rp⟩
    · obtain ⟨v, q1, q2⟩ := r.val j d q; exact ⟨v, q1, q2.mono s0⟩
  · rcases get_set q with ⟨rfl, z, _⟩ | ⟨n, q⟩
    · cases z
    · obtain ⟨b, q1, q2, q3, q4⟩ := r.own j es q
      exact ⟨b, q1, q2, by rw [upd_ne (ne j b n (.inl ⟨es, q⟩) q1)]; exact q3, q4.mono rfl s0⟩
  · rcases get_set q with ⟨rfl, z, _⟩ | ⟨n, q⟩
    · cases z
    · obtain ⟨b, q0, q1, q3, q4⟩ := r.ino j es q
      exact ⟨b, q0, q1, by rw [upd_ne (ne j b n (.inr ⟨es, q⟩) q1)]; exact q3, q4.mono rfl s0⟩
  · obtain ⟨es, q⟩ := r.iow j b q
    have n : i ≠ j := fun z => by subst z; rw [e] at q; cases q
    exact ⟨es, by rw [List.getElem?_set_ne n]; exact q⟩
  · obtain ⟨n1, m1⟩ := mutS_val m1
    obtain ⟨n2, m2⟩ := mutS_val m2
    exact r.apart j k b n m1 m2 q
  · have nb : b ≠ a := fun z => by rw [z, h2] at q; cases q
    rw [upd_ne nb]; exact r.old b o q q2
  · obtain ⟨q1, q2, q3, q4⟩ := r.rsv b o q
    have nb : b ≠ a := fun z => q4 i hm (by rw [z]; exact h1)
    refine ⟨q1, by rw [upd_ne nb]; exact q2, q3, fun j mj => ?_⟩
    obtain ⟨n, mj⟩ := mutS_val mj
    exact q4 j mj
end
end Sv

set_option Elab.async false
set_option linter.all false
set_option maxRecDepth 100000
namespace Sv
open PySem L2
/-- a body's context: the written part, the module's names, what is wished of exceptions -/
structure Cc where
  K : PySem.W.Frag
  mg : Str → Option Value
  W : WX
/-! ## results -/
inductive R (α : Type) where
  | ok (a : α) (ρ : En) | err (c : Str) (fs : List (Str × Dat)) (ρ : En) | stuck
def M (α : Type) := En → R α
section
variable {α β : Type}
def M.ret (a : α) : M α := fun ρ => .ok a ρ
def M.bnd (f : M α) (g : α → M β) : M β := fun ρ => match f ρ with
  | .ok a ρ' => g a ρ'
  | .err c fs ρ' => .err c fs ρ'
  | .stuck => .stuck
def M.lift (o : Option α) : M α := fun ρ => match o with
  | some a => .ok a ρ
  | none => .stuck
end
/-- an exception that has come: its class by its name, its fields -/
def XAt (c : Cc) (H H0 : Hp) (cn : Str) (fs : List (Str × Dat)) (cls : Value) (d : Option Addr) : Prop :=
  ∃ C : Addr, c.mg cn = some (.ref C) ∧ cls = .ref C ∧ match d with
    | none => fs = []
    | some dx => ∃ vs : List (Str × V), H dx = some (.xd vs) ∧ vs.map (·.1) = fs.map (·.1) ∧ RepA c.K H0 (vs.map (·.2)) (fs.map (·.2))
def Run {α : Type} (c : Cc) (x : Fx) (σ : L2.St) (H0 : Hp) (r : R α) (k : α → Hp → Hp → En → Prop) : Prop := match r with
  | .ok a ρ' => ∀ H' H0', Rel c.K x σ H' H0' ρ' → Same H0 H0' → k a H' H0' ρ'
  | .err cn fs ρ' => ∀ cls d H' H0', Rel c.K x σ H' H0' ρ' → Same H0 H0' → XAt c H' H0' cn fs cls d → c.W cls d σ H'
  | .stuck => False
section
variable {α β : Type} {c : Cc} {x : Fx} {σ : L2.St} {H0 H0' : Hp} {k k' : α → Hp → Hp → En → Prop} {ρ : En}
theorem Run.up {r : R α} (h : Run c x σ H0 r k) (s : Same H0 H0') : Run c x σ H0' r k := by
  cases r with
  | ok a ρ' => exact fun H' H1 q e => h H' H1 q (s.trans e)
  | err cn fs ρ' => exact fun cls d H' H1 q e x => h cls d H' H1 q (s.trans e) x
  | stuck => exact h
theorem Run.mono {r : R α} (h : Run c x σ H0 r k) (m : ∀ a H' H1 ρ', Rel c.K x σ H' H1 ρ' → Same H0 H1 → k a H' H1 ρ' → k' a H' H1 ρ') : Run c x σ H0 r k' := by
  cases r with
  | ok a ρ' => exact fun H' H1 q e => m a H' H1 ρ' q e (h H' H1 q e)
  | err cn fs ρ' => exact h
  | stuck => exact h
theorem Run.bnd {f : M α} {g : α → M β} {k : β → Hp → Hp → En → Prop} (h : Run c x σ H0 (f.bnd g ρ) k) : Run c x σ H0 (f ρ) (fun a H' H1 ρ' => Run c x σ H1 (g a ρ') k) := by
  unfold M.bnd at h
  cases e : f ρ with
  | ok a ρ' => rw [e] at h; exact fun H' H1 q s => Run.up h s
  | err cn fs ρ' => rw [e] at h; exact h
  | stuck => rw [e] at h; exact h
theorem Run.lift {o : Option α} (h : Run c x σ H0 (M.lift o ρ) k) : ∃ a, o = some a ∧ ∀ H' H1, Rel c.K x σ H' H1 ρ → Same H0 H1 → k a H' H1 ρ := by
  cases o with
  | some a => exact ⟨a, rfl, h⟩
  | none => exact h.elim
end
/-! ## the readings -/
def tD (c : Cc) (f : M Dat) : TE := fun σ H Q => ∃ (x : Fx) (H0 : Hp) (ρ : En), Rel c.K x σ H H0 ρ ∧ Run c x σ H0 (f ρ) fun d H' H1 _ => ∀ v, Rep c.K H1 v d → Q v H'
def tDT (c : Cc) (f : M Bool) : TT := fun σ H Q => ∃ (x : Fx) (H0 : Hp) (ρ : En), Rel c.K x σ H H0 ρ ∧ Run c x σ H0 (f ρ) fun b H' _ _ => Q b H'
def tDA (c : Cc) (f : M (List Dat)) : TA := fun σ H Q => ∃ (x : Fx) (H0 : Hp) (ρ : En), Rel c.K x σ H H0 ρ ∧ Run c x σ H0 (f ρ) fun ds H' H1 _ => ∀ vs, RepA c.K H1 vs ds → Q vs H'
abbrev cc (X : Cx) (F : WX) : Cc := ⟨X.K, X.mg, F⟩
def DE (X : Cx) (F : WX) (e : Expr) (f : M Dat) : Prop := PE X e (tD (cc X F) f)
def DT (X : Cx) (F : WX) (e : Expr) (f : M Bool) : Prop := PT X e (tDT (cc X F) f)
def DA (X : Cx) (F : WX) (es : List Expr) (f : M (List Dat)) : Prop := PA X es (tDA (cc X F) f)
theorem PE.imp {X : Cx} {e : Expr} {t t' : TE} (h : PE X e t) (m : ∀ σ H Q, t' σ H Q → t σ H Q) : PE X e t' := ⟨fun pins s σ H Q I q => h.run pins s σ H Q I (m σ H Q q)⟩
theorem PT.imp {X : Cx} {e : Expr} {t t' : TT} (h : PT X e t) (m : ∀ σ H Q, t' σ H Q → t σ H Q) : PT X e t' := ⟨fun pins s σ H Q I q => h.run pins s σ H Q I (m σ H Q q)⟩
theorem PA.imp {X : Cx} {e : List Expr} {t t' : TA} (h : PA X e t) (m : ∀ σ H Q, t' σ H Q → t σ H Q) : PA X e t' := ⟨fun pos pins s σ H Q I q => h.run pos pins s σ H Q I (m σ H Q q)⟩
theorem PS.imp {X : Cx} {e : Stmt} {t t' : TS} (h : PS X e t) (m : ∀ D σ H, t' D σ H → t D σ H) : PS X e t' := ⟨fun pins s σ H D I q => h.run pins s σ H D I (m D σ H q)⟩
theorem PSs.imp {X : Cx} {e : List Stmt} {t t' : TS} (h : PSs X e t) (m : ∀ D σ H, t' D σ H → t D σ H) : PSs X e t' := ⟨fun pins s σ H D I q => h.run pins s σ H D I (m D σ H q)⟩

/-- the heap and its known part grow -/
structure Grow (H H' H0 H0' : Hp) : Prop where
  k : Same H H'
  s : Same H0 H0'
  s' : Same H0' H'
  fr : ∀ a o, H a = some o → H0 a = none → H0' a = none
theorem Grow.refl {H H0 : Hp} (h : Same H0 H) : Grow H H H0 H0 := ⟨Same.refl _, Same.refl _, h, fun _ _ _ z => z⟩
theorem Grow.trans {H H1 H2 G G1 G2 : Hp} (a : Grow H H1 G G1) (b : Grow H1 H2 G1 G2) : Grow H H2 G G2 := ⟨a.k.trans b.k, a.s.trans b.s, b.s', fun x o h1 h2 => b.fr x o (a.k _ _ h1) (a.fr x o h1 h2)⟩
theorem Grow.new {H H0 : Hp} {p : Addr} {o : HO} (h : Same H0 H) (hp : H p = none) : Grow H (upd H p o) H0 (upd H0 p o) := by
  have h0 : H0 p = none := h.free hp
  refine ⟨fun b u e => by rw [upd_ne (ne_of_none e hp)]; exact e, fun b u e => by rw [upd_ne (ne_of_none e h0)]; exact e, fun b u e => ?_, fun a u ha hn => by rw [upd_ne (ne_of_none ha hp)]; exact hn⟩
  by_cases hb : b = p
  · subst hb; rw [upd_same] at e ⊢; exact e
  · rw [upd_ne hb] at e ⊢; exact h _ _ e
theorem Grow.rel {K : PySem.W.Frag} {x : Fx} {σ : L2.St} {H H' H0 H0' : Hp} {ρ : En} (g : Grow H H' H0 H0') (r : Rel K x σ H H0 ρ) : Rel K x σ H' H0' ρ := r.grow g.k g.s g.s' g.fr

/-! ## soundness of operations by values -/
def Snd2 (K : PySem.W.Frag) (r : R2) (op : Dat → Dat → Option Dat) : Prop := ∀ (H H0 : Hp) (x y : V) (dx dy dz : Dat) (Q : VK), Same H0 H → Rep K H0 x dx → Rep K H0 y dy → op dx dy = some dz →
  (∀ v H' H0', Grow H H' H0 H0' → Rep K H0' v dz → Q v H') → r x y H Q
def Snd1 (K : PySem.W.Frag) (r : V → Hp → VK → Prop) (op : Dat → Option Dat) : Prop := ∀ (H H0 : Hp) (x : V) (dx dz : Dat) (Q : VK), Same H0 H → Rep K H0 x dx → op dx = some dz →
  (∀ v H' H0', Grow H H' H0 H0' → Rep K H0' v dz → Q v H') → r x H Q
def SndC (K : PySem.W.Frag) (r : List V → Hp → VK → Prop) (op : List Dat → Option Dat) : Prop := ∀ (H H0 : Hp) (xs : List V) (ds : List Dat) (dz : Dat) (Q : VK), Same H0 H → RepA K H0 xs ds → op ds = some dz →
  (∀ v H' H0', Grow H H' H0 H0' → Rep K H0' v dz → Q v H') → r xs H Q

section
variable {X : Cx} {F : WX} {e a b : Expr} {f g : M Dat} {pos : Pos}
/-- one part evaluated, then the rest -/
theorem part {α : Type} {c : Cc} {x : Fx} {σ : L2.St} {H H0 : Hp} {ρ : En} {f : M Dat} {g : Dat → M α} {k : α → Hp → Hp → En → Prop} {Q : VK} (r : Rel c.K x σ H H0 ρ) (h : Run c x σ H0 (f.bnd g ρ) k)
    (m : ∀ d v H' H1 ρ', Rel c.K x σ H' H1 ρ' → Same H0 H1 → Rep c.K H1 v d → Run c x σ H1 (g d ρ') k → Q v H') : tD c f σ H Q :=
  ⟨x, H0, ρ, r, (Run.bnd h).mono fun d H' H1 ρ' r' s q v hv => m d v H' H1 ρ' r' s hv q⟩
theorem partA {α : Type} {c : Cc} {x : Fx} {σ : L2.St} {H H0 : Hp} {ρ : En} {f : M (List Dat)} {g : List Dat → M α} {k : α → Hp → Hp → En → Prop} {Q : List V → Hp → Prop} (r : Rel c.K x σ H H0 ρ) (h : Run c x σ H0 (f.bnd g ρ) k)
    (m : ∀ d v H' H1 ρ', Rel c.K x σ H' H1 ρ' → Same H0 H1 → RepA c.K H1 v d → Run c x σ H1 (g d ρ') k → Q v H') : tDA c f σ H Q :=
  ⟨x, H0, ρ, r, (Run.bnd h).mono fun d H' H1 ρ' r' s q v hv => m d v H' H1 ρ' r' s hv q⟩
theorem partT {α : Type} {c : Cc} {x : Fx} {σ : L2.St} {H H0 : Hp} {ρ : En} {f : M Bool} {g : Bool → M α} {k : α → Hp → Hp → En → Prop} {Q : Bool → Hp → Prop} (r : Rel c.K x σ H H0 ρ) (h : Run c x σ H0 (f.bnd g ρ) k)
    (m : ∀ d H' H1 ρ', Rel c.K x σ H' H1 ρ' → Same H0 H1 → Run c x σ H1 (g d ρ') k → Q d H') : tDT c f σ H Q :=
  ⟨x, H0, ρ, r, (Run.bnd h).mono fun d H' H1 ρ' r' s q => m d H' H1 ρ' r' s q⟩

theorem de_int {i j} : DE X F (.Constant (.int i) j pos) (.ret (.int i)) := PE.imp pe_int fun σ H Q ⟨z, H0, ρ, r, q⟩ => q H H0 r (Same.refl _) _ (.int i)
theorem de_bl {b j} : DE X F (.Constant (.bool b) j pos) (.ret (.bl b)) := PE.imp pe_bl fun σ H Q ⟨z, H0, ρ, r, q⟩ => q H H0 r (Same.refl _) _ (.bl b)
theorem de_non {j} : DE X F (.Constant .none j pos) (.ret .non) := PE.imp pe_non fun σ H Q ⟨z, H0, ρ, r, q⟩ => q H H0 r (Same.refl _) _ .non
theorem de_str {x j} : DE X F (.Constant (.str x) j pos) (.ret (.str x)) := PE.imp pe_str fun σ H Q ⟨z, H0, ρ, r, q⟩ => q H H0 r (Same.refl _) _ (.str x)
def rdVar (i : Nat) : M Dat := fun ρ => match ρ[i]? with
  | some (.val d) => .ok d ρ
  | some (.own ds) => .ok (.lst ds) (ρ.set i (.val (.lst ds)))
  | _ => .stuck
theorem de_var (i : Nat) {x : Str} (hN : X.N[i]? = some x := by rfl) (hv : Vis X.env.scope x := by first | exact Or.inl rfl | exact Or.inr (Or.inl rfl) | exact Or.inr (Or.inr rfl)) (hd : (x == ("__debug__" : Str)) = false := by decide)
    (hcd : (x == ("__classdict__" : Str)) = false := by decide) : DE X F (.Name x pos) (rdVar i) := PE.imp (pe_var hN hv hd hcd) fun σ H Q ⟨z, H0, ρ, r, q⟩ => by
  unfold rdVar at q
  split at q
  · rename_i d e
    obtain ⟨v, h1, h2⟩ := r.val i d e
    exact ⟨v, h1, q H H0 r (Same.refl _) v h2⟩
  · rename_i ds e
    obtain ⟨a, H1, h1, h2, h3, h4⟩ := r.freeze e
    exact ⟨_, h1, q H H1 h2 h3 _ h4⟩
  · exact q.elim
def M.bin (f g : M Dat) (op : Dat → Dat → Option Dat) : M Dat := f.bnd fun x => g.bnd fun y => M.lift (op x y)
def M.un1 (f : M Dat) (op : Dat → Option Dat) : M Dat := f.bnd fun x => M.lift (op x)
theorem op_run {r : R2} {op : Dat → Dat → Option Dat} (hs : Snd2 X.K r op) {σ : L2.St} {H : Hp} {Q : VK} (h : tD (cc X F) (f.bin g op) σ H Q) : tOp r (tD (cc X F) f) (tD (cc X F) g) σ H Q := by
  obtain ⟨z, H0, ρ, rl, q⟩ := h
  refine part rl q fun dx x H1 G1 ρ1 r1 s1 hx q1 => part r1 q1 fun dy y H2 G2 ρ2 r2 s2 hy q2 => ?_
  obtain ⟨dz, e, q2⟩ := Run.lift q2
  exact hs H2 G2 x y dx dy dz Q r2.sub (hx.mono s2) hy e fun v H' H0' g hv => q2 H' H0' (g.rel r2) g.s v hv
theorem de_bin {o : Operator} {r : R2} {op : Dat → Dat → Option Dat} (ho : OpR X (binaryOp o) r) (hs : Snd2 X.K r op) (ha : DE X F a f) (hb : DE X F b g) : DE X F (.BinOp a o b pos) (f.bin g op) :=
  PE.imp (pe_op ho ha hb) fun _ _ _ h => op_run hs h
theorem de_cmp {o : CmpOp} {r : R2} {op : Dat → Dat → Option Dat} (ho : OpR X (compareOp o) r) (hs : Snd2 X.K r op) (ha : DE X F a f) (hb : DE X F b g) (hm : behindInMarks o b = false := by rfl) : DE X F (.Compare a [o] [b] pos) (f.bin g op) :=
  PE.imp (pe_cmpR ho ha hb hm) fun _ _ _ h => op_run hs h
theorem de_ix {r : R2} {op : Dat → Dat → Option Dat} (ho : IxR X r) (hs : Snd2 X.K r op) (ha : DE X F a f) (hb : DE X F b g) (hp : PlainIx b := by exact fun _ _ => rfl) : DE X F (.Subscript a b pos) (f.bin g op) :=
  PE.imp (pe_ix ho ha hb hp) fun _ _ _ h => op_run hs h
theorem de_un {o : UnaryOp} {r : V → Hp → VK → Prop} {op : Dat → Option Dat} (ho : UnR X (unaryOp o) r) (hs : Snd1 X.K r op) (ha : DE X F a f) : DE X F (.UnaryOp o a pos) (f.un1 op) :=
  PE.imp (pe_un ho ha) fun σ H Q ⟨z, H0, ρ, rl, q⟩ => part rl q fun dx x H1 G1 ρ1 r1 s1 hx q1 => by
    obtain ⟨dz, e, q2⟩ := Run.lift q1
    exact hs H1 G1 x dx dz Q r1.sub hx e fun v H' H0' g hv => q2 H' H0' (g.rel r1) g.s v hv
/-! ### arguments, displays, built-ins -/
def M.cons (f : M Dat) (g : M (List Dat)) : M (List Dat) := f.bnd fun x => g.bnd fun xs => M.ret (x :: xs)
theorem da_nil : DA X F [] (M.ret []) := PA.imp pa_nil fun σ H Q ⟨z, H0, ρ, r, q⟩ => q H H0 r (Same.refl _) _ .nil
theorem da_cons {es : List Expr} {g : M (List Dat)} (ha : DE X F e f) (hr : DA X F es g) (hs : starEach (e :: es) X.env = (false, eval e X.env) :: starEach es X.env := by rfl) : DA X F (e :: es) (f.cons g) :=
  PA.imp (pa_cons ha hr hs) fun σ H Q ⟨z, H0, ρ, rl, q⟩ => part rl q fun dx x H1 G1 ρ1 r1 s1 hx q1 => partA r1 q1 fun ds xs H2 G2 ρ2 r2 s2 hxs q2 =>
    q2 H2 G2 r2 (Same.refl _) _ (.cons (hx.mono s2) hxs)
def mkTup (ds : List Dat) : Option Dat := if ds.length ≤ 1000000 then some (.tup ds) else none
def mkLst (ds : List Dat) : Option Dat := if ds.length ≤ 1000000 then some (.lst ds) else none
theorem mkTup_some {ds : List Dat} {d : Dat} (h : mkTup ds = some d) : ds.length ≤ 1000000 ∧ d = .tup ds := by
  unfold mkTup at h; split at h
  · cases h; exact ⟨by assumption, rfl⟩
  · cases h
theorem mkLst_some {ds : List Dat} {d : Dat} (h : mkLst ds = some d) : ds.length ≤ 1000000 ∧ d = .lst ds := by
  unfold mkLst at h; split at h
  · cases h; exact ⟨by assumption, rfl⟩
  · cases h
theorem sz {n : Nat} (h : n ≤ 1000000) : n ≤ sizeLine := Nat.le_trans h (by decide)
/-- a new tuple, its object known -/
abbrev tupO (us : List Value) : Obj := { cls := .type "tuple", data := .seq us.toArray }
theorem tupO_laid {X : Cx} {pins : List (Addr × Obj)} {σ : L2.St} {H : Hp} {s : Shared} {h' : Heap} {a : Addr} {t' : Nat} {xs : List V} {us : List Value} (I : Inv X pins σ H s) (k : ∀ b u, s.heap.get? b = some u → h'.get? b = some u) (hp : s.heap.objs.size ≤ a) (e : h'.get? a = some (tupO us)) (r : Vals xs us) (z : xs.length ≤ sizeLine) :
    Inv X pins σ (upd H a (.frz (tupO us) (.tup xs))) { s with heap := h', toks := t' } := I.laid k hp ⟨e, z, us, r, ⟨_, e, rfl, _, rfl⟩⟩
def tTupF (t : TA) : TE := fun σ H Q => t σ H fun xs H1 => xs.length ≤ sizeLine ∧ ∀ (p : Addr) (o : Obj), H1 p = none → o.dict = none → Q (.ref p) (upd H1 p (.frz o (.tup xs)))
theorem pe_tupF {X : Cx} {es : List Expr} {t : TA} {pos : Pos} {x1} (h : PA X es t) : PE X (.Tuple es x1 pos) (tTupF t) := by
  refine ⟨fun pins s σ H Q I hq => ?_⟩
  refine wpAny_Tuple_spliced (thn (h.run pos pins s σ H _ I hq) fun us s1 ⟨xs, H1, I1, r, z, q⟩ => ⟨by rw [← r.length]; exact z, ?_⟩)
  have hf : H1 s1.heap.objs.size = none := I1.hok.fresh (Nat.le_refl _)
  exact ⟨.ref s1.heap.objs.size, _, tupO_laid (t' := s1.toks) I1 (fun b u e => Heap.get?_push_of_some _ e) (Nat.le_refl _) (Heap.get?_push_size _ rfl) r z, rfl, q _ _ hf rfl⟩
theorem Rep.newT {K : PySem.W.Frag} {H0 : Hp} {p : Addr} {o : Obj} {vs : List V} {ds : List Dat} (hn : H0 p = none) (hd : o.dict = none) (h : RepA K H0 vs ds) : Rep K (upd H0 p (.frz o (.tup vs))) (.ref p) (.tup ds) :=
  .tup (.inl ⟨o, upd_same, hd⟩) (h.mono fun b u e => by rw [upd_ne (ne_of_none e hn)]; exact e)
theorem Rep.newL {K : PySem.W.Frag} {H0 : Hp} {p : Addr} {vs : List V} {ds : List Dat} (hn : H0 p = none) (h : RepA K H0 vs ds) : Rep K (upd H0 p (.lst vs)) (.ref p) (.lst ds) :=
  .lst (Rd.of upd_same) (h.mono fun b u e => by rw [upd_ne (ne_of_none e hn)]; exact e)
def M.tup (f : M (List Dat)) : M Dat := f.bnd fun ds => M.lift (mkTup ds)
def M.lst (f : M (List Dat)) : M Dat := f.bnd fun ds => M.lift (mkLst ds)
theorem de_tup {es : List Expr} {g : M (List Dat)} {x1} (h : DA X F es g) : DE X F (.Tuple es x1 pos) g.tup :=
  PE.imp (pe_tupF h) fun σ H Q ⟨z, H0, ρ, rl, q⟩ => partA rl q fun ds vs H1 G1 ρ1 r1 s1 hx q1 => by
    obtain ⟨dz, e, q2⟩ := Run.lift q1
    obtain ⟨hl, rfl⟩ := mkTup_some e
    refine ⟨sz (by rw [hx.length]; exact hl), fun p o hp hd => ?_⟩
    have g := Grow.new (o := .frz o (.tup vs)) r1.sub hp
    exact q2 _ _ (g.rel r1) g.s _ (Rep.newT (r1.sub.free hp) hd hx)
theorem de_lst {es : List Expr} {g : M (List Dat)} (h : DA X F es g) : DE X F (.List es pos) g.lst :=
  PE.imp (pe_lst h) fun σ H Q ⟨z, H0, ρ, rl, q⟩ => partA rl q fun ds vs H1 G1 ρ1 r1 s1 hx q1 => by
    obtain ⟨dz, e, q2⟩ := Run.lift q1
    obtain ⟨hl, rfl⟩ := mkLst_some e
    refine ⟨sz (by rw [hx.length]; exact hl), fun p hp => ?_⟩
    have g := Grow.new (o := .lst vs) r1.sub hp
    exact q2 _ _ (g.rel r1) g.s _ (Rep.newL (r1.sub.free hp) hx)
def M.bi (f : M (List Dat)) (op : List Dat → Option Dat) : M Dat := f.bnd fun ds => M.lift (op ds)
theorem bi_run {r : List V → Hp → VK → Prop} {op : List Dat → Option Dat} {g : M (List Dat)} (hs : SndC X.K r op) {σ : L2.St} {H : Hp} {Q : VK} (h : tD (cc X F) (g.bi op) σ H Q) : tCB r (tDA (cc X F) g) σ H Q := by
  obtain ⟨z, H0, ρ, rl, q⟩ := h
  refine partA rl q fun ds xs H1 G1 ρ1 r1 s1 hx q1 => ?_
  obtain ⟨dz, e, q2⟩ := Run.lift q1
  exact hs H1 G1 xs ds dz Q r1.sub hx e fun v H' H0' g hv => q2 H' H0' (g.rel r1) g.s v hv
variable {x : Str} {p : Pos} {es : List Expr} {ga : M (List Dat)} {id T : String}
theorem de_callB {r : List V → Hp → VK → Prop} {op : List Dat → Option Dat} (hc : CallR X (.builtin id) r) (hs : SndC X.K r op) (hg : Gl X x) (hm : X.mg x = none) (hv : bootBuiltins x = some (.builtin id)) (ha : DA X F (e :: es) ga) (hn : x ≠ "__name__" := by decide) (hdb : (x == ("__debug__" : Str)) = false := by decide)
    (he : starEach (e :: es) X.env = (false, eval e X.env) :: starEach es X.env := by rfl) (hpl : (backTo pos (starEach es X.env)).any (·.1) = false := by rfl) : DE X F (.Call (.Name x p) (e :: es) [] pos) (ga.bi op) :=
  PE.imp (pe_callB hc hg hm hv ha hn hdb he hpl) fun _ _ _ h => bi_run hs h
theorem de_callTy {r : List V → Hp → VK → Prop} {op : List Dat → Option Dat} (hc : CallR X (.type T) r) (hs : SndC X.K r op) (hg : Gl X x) (hm : X.mg x = none) (hv : bootBuiltins x = some (.type T)) (ha : DA X F (e :: es) ga) (hn : x ≠ "__name__" := by decide) (hdb : (x == ("__debug__" : Str)) = false := by decide)
    (he : starEach (e :: es) X.env = (false, eval e X.env) :: starEach es X.env := by rfl) (hpl : (backTo pos (starEach es X.env)).any (·.1) = false := by rfl) : DE X F (.Call (.Name x p) (e :: es) [] pos) (ga.bi op) :=
  PE.imp (pe_callTy hc hg hm hv ha hn hdb he hpl) fun _ _ _ h => bi_run hs h
/-! ### tests, and, or, not, if .. else -/
def M.isB (f : M Dat) : M Bool := f.bnd fun d => M.lift (match d with | .bl b => some b | _ => none)
def M.ofB (f : M Bool) : M Dat := f.bnd fun b => M.ret (.bl b)
theorem dt_val (h : DE X F e f) (he : ∀ whole, isTrue e X.env whole = (do let v ← whole; standAt e.pos; holding [v] (truthy v)) := by intro _; rfl) : DT X F e f.isB :=
  PT.imp (pt_val h he) fun σ H Q ⟨z, H0, ρ, rl, q⟩ => part rl q fun d v H1 G1 ρ1 r1 s1 hx q1 => by
    obtain ⟨b, e, q2⟩ := Run.lift q1
    cases d <;> cases e
    cases hx
    exact ⟨b, rfl, q2 _ _ r1 (Same.refl _)⟩
def M.andB (f g : M Bool) : M Bool := f.bnd fun b => if b = true then g else M.ret false
def M.orB (f g : M Bool) : M Bool := f.bnd fun b => if b = true then M.ret true else g
def M.notB (f : M Bool) : M Bool := f.bnd fun b => M.ret (!b)
def DW (X : Cx) (F : WX) (e : Expr) (f : M Bool) : Prop := PW X e (tDT (cc X F) f)
theorem DW.dt {f : M Bool} (h : DW X F e f) : DT X F e f := PW.pt h
theorem PW.imp {X : Cx} {e : Expr} {t t' : TT} (h : PW X e t) (m : ∀ σ H Q, t' σ H Q → t σ H Q) : PW X e t' := ⟨fun whole pins s σ H Q I q => h.run whole pins s σ H Q I (m σ H Q q)⟩
variable {fb gb : M Bool} {rest : List Expr}
theorem dw_and1 (ha : DT X F a fb) : DW X F (.BoolOp .And [a] pos) fb := pw_and1 ha
theorem dw_or1 (ha : DT X F a fb) : DW X F (.BoolOp .Or [a] pos) fb := pw_or1 ha
theorem and_run {σ : L2.St} {H : Hp} {Q : Bool → Hp → Prop} (h : tDT (cc X F) (fb.andB gb) σ H Q) : tAnd (tDT (cc X F) fb) (tDT (cc X F) gb) σ H Q := by
  obtain ⟨z, H0, ρ, rl, q⟩ := h
  refine partT rl q fun b H1 G1 ρ1 r1 s1 q1 => ?_
  cases b with
  | true => exact ⟨z, G1, ρ1, r1, q1⟩
  | false => exact q1 H1 G1 r1 (Same.refl _)
theorem or_run {σ : L2.St} {H : Hp} {Q : Bool → Hp → Prop} (h : tDT (cc X F) (fb.orB gb) σ H Q) : tOr (tDT (cc X F) fb) (tDT (cc X F) gb) σ H Q := by
  obtain ⟨z, H0, ρ, rl, q⟩ := h
  refine partT rl q fun b H1 G1 ρ1 r1 s1 q1 => ?_
  cases b with
  | true => exact q1 H1 G1 r1 (Same.refl _)
  | false => exact ⟨z, G1, ρ1, r1, q1⟩
theorem dw_and (ha : DT X F a fb) (hb : DW X F (.BoolOp .And (b :: rest) pos) gb) : DW X F (.BoolOp .And (a :: b :: rest) pos) (fb.andB gb) := PW.imp (pw_and ha hb) fun _ _ _ h => and_run h
theorem dw_or (ha : DT X F a fb) (hb : DW X F (.BoolOp .Or (b :: rest) pos) gb) : DW X F (.BoolOp .Or (a :: b :: rest) pos) (fb.orB gb) := PW.imp (pw_or ha hb) fun _ _ _ h => or_run h
theorem dt_not (ha : DT X F a fb) : DT X F (.UnaryOp .Not a pos) fb.notB := PT.imp (pt_not ha) fun σ H Q ⟨z, H0, ρ, rl, q⟩ => partT rl q fun b H1 G1 ρ1 r1 s1 q1 => q1 H1 G1 r1 (Same.refl _)
def M.ite (f : M Bool) (g h : M Dat) : M Dat := f.bnd fun b => if b = true then g else h
theorem de_if {c : Expr} (hc : DT X F c fb) (ha : DE X F a f) (hb : DE X F b g) : DE X F (.IfExp c a b pos) (fb.ite f g) := PE.imp (pe_ifExp hc ha hb) fun σ H Q ⟨z, H0, ρ, rl, q⟩ => partT rl q fun b H1 G1 ρ1 r1 s1 q1 => by
  cases b with
  | true => exact ⟨z, G1, ρ1, r1, q1⟩
  | false => exact ⟨z, G1, ρ1, r1, q1⟩
/-- as values: all parts True or False -/
def M.andV (f g : M Dat) : M Dat := f.isB.bnd fun b => if b = true then g else M.ret (.bl false)
def M.orV (f g : M Dat) : M Dat := f.isB.bnd fun b => if b = true then M.ret (.bl true) else g
def M.notV (f : M Dat) : M Dat := f.isB.bnd fun b => M.ret (.bl (!b))
theorem bnd_assoc {α β γ : Type} (f : M α) (g : α → M β) (h : β → M γ) (ρ : En) : (f.bnd g).bnd h ρ = f.bnd (fun a => (g a).bnd h) ρ := by
  unfold M.bnd; cases f ρ <;> rfl
theorem isB_part {α : Type} {c : Cc} {x : Fx} {σ : L2.St} {H H0 : Hp} {ρ : En} {f : M Dat} {g : Bool → M α} {k : α → Hp → Hp → En → Prop} {Q : VK} (r : Rel c.K x σ H H0 ρ) (h : Run c x σ H0 (f.isB.bnd g ρ) k)
    (m : ∀ b H' H1 ρ', Rel c.K x σ H' H1 ρ' → Same H0 H1 → Run c x σ H1 (g b ρ') k → Q (.bl b) H') : tD c f σ H Q := by
  unfold M.isB at h
  rw [bnd_assoc] at h
  refine part r h fun d v H1 G1 ρ1 r1 s1 hx q1 => ?_
  cases d with
  | bl b => cases hx; exact m b H1 G1 ρ1 r1 s1 q1
  | _ => exact q1.elim
theorem de_and1 {o} (ha : DE X F a f) : DE X F (.BoolOp o [a] pos) f := pe_one ha
theorem de_and (ha : DE X F a f) (hb : DE X F (.BoolOp .And (b :: rest) pos) g) : DE X F (.BoolOp .And (a :: b :: rest) pos) (f.andV g) := PE.imp (pe_and ha hb) fun σ H Q ⟨z, H0, ρ, rl, q⟩ => isB_part rl q fun b H1 G1 ρ1 r1 s1 q1 => ⟨b, rfl, by
  cases b with
  | true => exact ⟨z, G1, ρ1, r1, q1⟩
  | false => exact q1 H1 G1 r1 (Same.refl _) _ (.bl false)⟩
theorem de_or (ha : DE X F a f) (hb : DE X F (.BoolOp .Or (b :: rest) pos) g) : DE X F (.BoolOp .Or (a :: b :: rest) pos) (f.orV g) := PE.imp (pe_or ha hb) fun σ H Q ⟨z, H0, ρ, rl, q⟩ => isB_part rl q fun b H1 G1 ρ1 r1 s1 q1 => ⟨b, rfl, by
  cases b with
  | true => exact q1 H1 G1 r1 (Same.refl _) _ (.bl true)
  | false => exact ⟨z, G1, ρ1, r1, q1⟩⟩
theorem de_not (ha : DE X F a f) : DE X F (.UnaryOp .Not a pos) f.notV := PE.imp (pe_not ha) fun σ H Q ⟨z, H0, ρ, rl, q⟩ => isB_part rl q fun b H1 G1 ρ1 r1 s1 q1 => ⟨b, rfl, q1 H1 G1 r1 (Same.refl _) _ (.bl (!b))⟩
end
end Sv

set_option Elab.async false
set_option linter.all false
set_option maxRecDepth 100000
namespace Sv
open PySem L2
/-! ## statements -/
inductive O where
  | nxt (ρ : En) | ret (d : Dat) (ρ : En) | new (ds : List Dat) (ρ : En) | brk (ρ : En) | ctn (ρ : En) | err (c : Str) (fs : List (Str × Dat)) (ρ : En) | stuck
def RunS (c : Cc) (x : Fx) (H0 : Hp) (o : O) (D : Ends) : Prop := match o with
  | .nxt ρ => ∀ σ H H1, Rel c.K x σ H H1 ρ → Same H0 H1 → D.nx σ H
  | .brk ρ => ∀ σ H H1, Rel c.K x σ H H1 ρ → Same H0 H1 → D.bk σ H
  | .ctn ρ => ∀ σ H H1, Rel c.K x σ H H1 ρ → Same H0 H1 → D.ct σ H
  | .ret d ρ => ∀ v σ H H1, Rel c.K x σ H H1 ρ → Same H0 H1 → Rep c.K H1 v d → D.rt v H
  | .new ds ρ => ∀ p σ H H1, Rel c.K x σ H H1 ρ → Same H0 H1 → x.He p = none → H1 p = none → LstAt c.K H H1 p ds → D.rt (.ref p) H
  | .err cn fs ρ => ∀ cls d σ H H1, Rel c.K x σ H H1 ρ → Same H0 H1 → XAt c H H1 cn fs cls d → c.W cls d σ H
  | .stuck => False
def tS (c : Cc) (f : En → O) : TS := fun D σ H => ∃ (x : Fx) (H0 : Hp) (ρ : En), Rel c.K x σ H H0 ρ ∧ RunS c x H0 (f ρ) D
def DS (X : Cx) (W : WX) (s : Stmt) (f : En → O) : Prop := PS X s (tS (cc X W) f)
def DB (X : Cx) (W : WX) (s : List Stmt) (f : En → O) : Prop := PSs X s (tS (cc X W) f)
def O.then (o : O) (g : En → O) : O := match o with
  | .nxt ρ => g ρ
  | o => o
def seqO (f g : En → O) : En → O := fun ρ => (f ρ).then g
def R.toO {α : Type} (r : R α) (g : α → En → O) : O := match r with
  | .ok a ρ => g a ρ
  | .err c fs ρ => .err c fs ρ
  | .stuck => .stuck
section
variable {c : Cc} {x : Fx} {H0 H0' : Hp} {D : Ends}
theorem RunS.up {o : O} (h : RunS c x H0 o D) (s : Same H0 H0') : RunS c x H0' o D := by
  cases o with
  | nxt ρ => exact fun σ H H1 r q => h σ H H1 r (s.trans q)
  | brk ρ => exact fun σ H H1 r q => h σ H H1 r (s.trans q)
  | ctn ρ => exact fun σ H H1 r q => h σ H H1 r (s.trans q)
  | ret d ρ => exact fun v σ H H1 r q => h v σ H H1 r (s.trans q)
  | new ds ρ => exact fun p σ H H1 r q => h p σ H H1 r (s.trans q)
  | err cn fs ρ => exact fun cls d σ H H1 r q => h cls d σ H H1 r (s.trans q)
  | stuck => exact h
/-- an expression's part of a statement -/
theorem RunS.part {α : Type} {r : R α} {g : α → En → O} {σ : L2.St} (h : RunS c x H0 (r.toO g) D) : Run c x σ H0 r (fun a H' H1 ρ' => RunS c x H1 (g a ρ') D) := by
  cases r with
  | ok a ρ => exact fun H' H1 q s => RunS.up h s
  | err cn fs ρ => exact fun cls d H' H1 q s x => h cls d σ H' H1 q s x
  | stuck => exact h
end
section
variable {X : Cx} {W : WX} {e a b : Expr} {f g : M Dat} {pos pos' : Pos} {s : Stmt} {rest : List Stmt} {fs gs : En → O}
theorem sp {α : Type} {c : Cc} {x : Fx} {σ : L2.St} {H H0 : Hp} {ρ : En} {f : M Dat} {g : Dat → En → O} {D : Ends} {Q : VK} (r : Rel c.K x σ H H0 ρ) (h : RunS c x H0 ((f ρ).toO g) D)
    (m : ∀ d v H' H1 ρ', Rel c.K x σ H' H1 ρ' → Same H0 H1 → Rep c.K H1 v d → RunS c x H1 (g d ρ') D → Q v H') : tD c f σ H Q :=
  ⟨x, H0, ρ, r, (RunS.part h).mono fun d H' H1 ρ' r' s q v hv => m d v H' H1 ρ' r' s hv q⟩
theorem db_nil : DB X W [] .nxt := PSs.imp pss_nil fun D σ H ⟨x, H0, ρ, r, q⟩ => q σ H H0 r (Same.refl _)
theorem seq_run {D : Ends} {σ : L2.St} {H : Hp} (h : tS (cc X W) (seqO fs gs) D σ H) : tSeq (tS (cc X W) fs) (tS (cc X W) gs) D σ H := by
  obtain ⟨x, H0, ρ, r, q⟩ := h
  refine ⟨x, H0, ρ, r, ?_⟩
  unfold seqO at q
  cases e : fs ρ with
  | nxt ρ' => rw [e] at q; exact fun σ' H' H1 r' s' => ⟨x, H1, ρ', r', RunS.up q s'⟩
  | brk ρ' => rw [e] at q; exact q
  | ctn ρ' => rw [e] at q; exact q
  | ret d ρ' => rw [e] at q; exact q
  | new ds ρ' => rw [e] at q; exact q
  | err cn fs ρ' => rw [e] at q; exact q
  | stuck => rw [e] at q; exact q
theorem db_cons (h : DS X W s fs) (k : DB X W rest gs) : DB X W (s :: rest) (seqO fs gs) := PSs.imp (pss_cons h k) fun D σ H q => seq_run q
theorem db_one (h : DS X W s fs) : DB X W [s] fs := pss_one h
theorem ds_pass : DS X W (.Pass pos) .nxt := PS.imp ps_pass fun D σ H ⟨x, H0, ρ, r, q⟩ => q σ H H0 r (Same.refl _)
theorem ds_break : DS X W (.Break pos) .brk := PS.imp ps_break fun D σ H ⟨x, H0, ρ, r, q⟩ => q σ H H0 r (Same.refl _)
theorem ds_continue : DS X W (.Continue pos) .ctn := PS.imp ps_continue fun D σ H ⟨x, H0, ρ, r, q⟩ => q σ H H0 r (Same.refl _)
theorem ds_doc {x j} : DS X W (.Expr (.Constant (.str x) j pos) pos') .nxt := PS.imp ps_doc fun D σ H ⟨x, H0, ρ, r, q⟩ => q σ H H0 r (Same.refl _)
def putS (i : Nat) (d : Dat) (ρ : En) : O := match ρ[i]? with
  | some (.ino _) => .stuck
  | none => .stuck
  | _ => .nxt (ρ.set i (.val d))
theorem putS_run {c : Cc} {x : Fx} {H0 H : Hp} {i : Nat} {d : Dat} {ρ : En} {D : Ends} {σ : L2.St} {v : V} (r : Rel c.K x σ H H0 ρ) (hv : Rep c.K H0 v d) (h : RunS c x H0 (putS i d ρ) D) : D.nx (σ.set i (some v)) H := by
  unfold putS at h
  split at h
  · exact h.elim
  · exact h.elim
  · rename_i n1 n2
    exact h _ H H0 (r.setv (fun ds e => n1 ds e) hv) (Same.refl _)
def setO (f : M Dat) (i : Nat) : En → O := fun ρ => (f ρ).toO (putS i)
theorem ds_set (i : Nat) {x : Str} (hN : X.N.Nodup) (hi : X.N[i]? = some x) (hx : Loc X.env.scope x) (he : DE X W e f) (hs : swapsWith e (some (.Name x pos')) pos.line X.env = pure false := by rfl) (hf : X.fn x = true ∨ X.env.scope.names.lookup x = some .local := by first | exact .inl rfl | exact .inr rfl | assumption) :
    DS X W (.Assign [.Name x pos'] e pos) (setO f i) := PS.imp (ps_set hN hi hx he hs hf) fun D σ H ⟨z, H0, ρ, r, q⟩ => sp (α := Dat) r q fun d v H' H1 ρ' r' s' hv q' => putS_run r' hv q'
theorem putS_then {c : Cc} {x : Fx} {H0 : Hp} {i : Nat} {d : Dat} {ρ : En} {D : Ends} {g : En → O} (h : RunS c x H0 ((putS i d ρ).then g) D) : (∀ ds, ρ[i]? ≠ some (.ino ds)) ∧ RunS c x H0 (g (ρ.set i (.val d))) D := by
  unfold putS at h
  cases e : ρ[i]? with
  | none => rw [e] at h; exact h.elim
  | some y =>
    rw [e] at h
    cases y with
    | ino ds => exact h.elim
    | un => exact ⟨nofun, h⟩
    | val _ => exact ⟨nofun, h⟩
    | own _ => exact ⟨nofun, h⟩
/-- a, b = e1, e2 -/
def parO (f g : M Dat) (i j : Nat) : En → O := fun ρ => ((f.bnd fun x => g.bnd fun y => M.ret (x, y)) ρ).toO fun p ρ' => (putS i p.1 ρ').then (putS j p.2)
theorem ds_par (i j : Nat) {x y : Str} {px py pt : Pos} {kt k2 pt2} (hc : X.calm = true) (hN : X.N.Nodup) (hi : X.N[i]? = some x) (hj : X.N[j]? = some y) (hij : i ≠ j) (hx : X.env.scope.names.lookup x = some .local) (hy : X.env.scope.names.lookup y = some .local)
    (ha : DE X W a f) (hb : DE X W b g) (hw : swappedStores [.Tuple [.Name x px, .Name y py] kt pt] (.Tuple [a, b] k2 pt2) X.env = pure (some [x, y]) := by rfl)
    (hs : swapsWithSole [.Tuple [.Name x px, .Name y py] kt pt] (.Tuple [a, b] k2 pt2) pos.line X.env = pure false := by rfl)
    (hs1 : starEach [a, b] X.env = (false, eval a X.env) :: starEach [b] X.env := by rfl) (hs2 : starEach [b] X.env = (false, eval b X.env) :: starEach [] X.env := by rfl) :
    DS X W (.Assign [.Tuple [.Name x px, .Name y py] kt pt] (.Tuple [a, b] k2 pt2) pos) (parO f g i j) :=
  PS.imp (ps_par hc hN hi hj hij hx hy (pa_cons ha (pa_cons hb pa_nil hs2) hs1) hw hs) fun D σ H ⟨z, H0, ρ, r, q⟩ => by
    have q := RunS.part (σ := σ) q
    refine part r q fun d v H1 G1 ρ1 r1 s1 h1 q1 => part r1 q1 fun d2 v2 H2 G2 ρ2 r2 s2 h2 q2 => ?_
    have q3 : RunS (cc X W) z G2 ((putS i d ρ2).then (putS j d2)) D := q2 H2 G2 r2 (Same.refl _)
    obtain ⟨n, q4⟩ := putS_then q3
    exact ⟨v, v2, rfl, putS_run (r2.setv n (h1.mono s2)) h2 q4⟩
def dropO (f : M Dat) : En → O := fun ρ => (f ρ).toO fun _ => .nxt
theorem ds_expr (he : DE X W e f) (hs : swapsWith e none pos.line X.env = pure false := by rfl) : DS X W (.Expr e pos) (dropO f) :=
  PS.imp (ps_expr he hs) fun D σ H ⟨z, H0, ρ, r, q⟩ => sp (α := Dat) r q fun d v H' H1 ρ' r' s' hv q' => q' σ H' H1 r' (Same.refl _)
def retO (f : M Dat) : En → O := fun ρ => (f ρ).toO .ret
theorem ds_ret (he : DE X W e f) : DS X W (.Return (some e) pos) (retO f) :=
  PS.imp (ps_ret he) fun D σ H ⟨z, H0, ρ, r, q⟩ => sp (α := Dat) r q fun d v H' H1 ρ' r' s' hv q' => q' v σ H' H1 r' (Same.refl _) hv
theorem ds_retN : DS X W (.Return none pos) (.ret .non) := PS.imp ps_retN fun D σ H ⟨z, H0, ρ, r, q⟩ => q .non σ H H0 r (Same.refl _) .non
/-- return [..]: a new list -/
def retL (g : M (List Dat)) : En → O := fun ρ => (g ρ).toO fun ds ρ' => if ds.length ≤ 1000000 then .new ds ρ' else .stuck
theorem ds_retL {es : List Expr} {ga : M (List Dat)} (ha : DA X W es ga) : DS X W (.Return (some (.List es pos')) pos) (retL ga) :=
  PS.imp (ps_ret (pe_lst ha)) fun D σ H ⟨z, H0, ρ, r, q⟩ => by
    refine ⟨z, H0, ρ, r, (RunS.part q).mono fun ds H1 G1 ρ1 r1 s1 q1 vs hv => ?_⟩
    split at q1
    · rename_i hl
      refine ⟨sz (by rw [hv.length]; exact hl), fun p hp => ?_⟩
      have z0 := r1.fresh hp
      exact q1 p σ _ G1 (r1.new' _ hp) (Same.refl _) z0.1 z0.2 ⟨vs, upd_same, hv⟩
    · exact q1.elim
def ifO (c : M Bool) (f g : En → O) : En → O := fun ρ => (c ρ).toO fun b ρ' => if b = true then f ρ' else g ρ'
theorem ds_if {c : Expr} {fc : M Bool} {sa sb : List Stmt} (hc : DT X W c fc) (ha : DB X W sa fs) (hb : DB X W sb gs) : DS X W (.If c sa sb pos) (ifO fc fs gs) :=
  PS.imp (ps_if hc ha hb) fun D σ H ⟨z, H0, ρ, r, q⟩ => by
    refine ⟨z, H0, ρ, r, (RunS.part q).mono fun b H1 G1 ρ1 r1 s1 q1 => ?_⟩
    cases b with
    | true => exact ⟨z, G1, ρ1, r1, q1⟩
    | false => exact ⟨z, G1, ρ1, r1, q1⟩
/-! ### targets -/
inductive Tg where
  | one (i : Nat) | tup (is : List Nat)
def Tg.slots : Tg → List Nat
  | .one i => [i]
  | .tup is => is
def gNs : List Nat → TGs
  | [] => gNil
  | i :: is => gCons (gName i) (gNs is)
def gT (K : PySem.W.Frag) : Tg → TG
  | .one i => gName i
  | .tup is => gTup K is.length (gNs is)
def setVs : List Nat → List Dat → En → Option En
  | [], [], ρ => some ρ
  | i :: is, d :: ds, ρ => match ρ[i]? with
    | some .un => setVs is ds (ρ.set i (.val d))
    | some (.val _) => setVs is ds (ρ.set i (.val d))
    | some (.own _) => setVs is ds (ρ.set i (.val d))
    | _ => none
  | _, _, _ => none
def setT : Tg → Dat → En → Option En
  | .one i, d, ρ => setVs [i] [d] ρ
  | .tup is, .tup ds, ρ => setVs is ds ρ
  | _, _, _ => none
theorem wipe_set_out {σ : L2.St} {i : Nat} {v : Option V} : ∀ {vs : List Nat}, i ∉ vs → wipe (σ.set i v) vs = (wipe σ vs).set i v
  | [], _ => rfl
  | j :: vs, h => by
    have h1 : i ≠ j := fun e => h (by simp [e])
    have h2 : i ∉ vs := fun e => h (by simp [e])
    show (wipe (σ.set i v) vs).set j none = ((wipe σ vs).set j none).set i v
    rw [wipe_set_out h2, List.set_comm _ _ h1]
theorem wipe_set {σ : L2.St} {i : Nat} {v : Option V} : ∀ {vs : List Nat}, i ∈ vs → wipe (σ.set i v) vs = wipe σ vs
  | [], h => by cases h
  | j :: vs, h => by
    show (wipe (σ.set i v) vs).set j none = (wipe σ vs).set j none
    by_cases h2 : i ∈ vs
    · rw [wipe_set h2]
    · have e : i = j := by
        rcases List.mem_cons.mp h with e | e
        · exact e
        · exact absurd e h2
      subst e
      rw [wipe_set_out h2, List.set_set]
theorem setVs_run {K : PySem.W.Frag} {x : Fx} {H H0 : Hp} {Q : L2.St → Hp → Prop} {vs0 : List Nat} : ∀ {is : List Nat} {ds : List Dat} {vs : List V} {ρ ρ' : En} {σ : L2.St}, (∀ i ∈ is, i ∈ vs0) → Rel K x σ H H0 ρ → RepA K H0 vs ds → setVs is ds ρ = some ρ' →
    (∀ σ', Rel K x σ' H H0 ρ' → wipe σ' vs0 = wipe σ vs0 → Q σ' H) → gNs is vs σ H Q
  | [], [], _, ρ, ρ', σ, _, r, .nil, e, q => by
    cases e
    exact ⟨rfl, q σ r rfl⟩
  | i :: is, d :: ds, v :: vs, ρ, ρ', σ, hm, r, .cons h1 h2, e, q => by
    refine ⟨v, vs, rfl, ?_⟩
    have go : (∀ ds, ρ[i]? ≠ some (.ino ds)) → setVs is ds (ρ.set i (.val d)) = some ρ' → gNs is vs (σ.set i (some v)) H Q := fun n e =>
      setVs_run (fun j hj => hm j (List.mem_cons_of_mem _ hj)) (r.setv n h1) h2 e fun σ' r' w => q σ' r' (w.trans (wipe_set (hm i List.mem_cons_self)))
    unfold setVs at e
    split at e
    · rename_i q1; exact go (fun ds z => by rw [q1] at z; cases z) e
    · rename_i q1; exact go (fun ds z => by rw [q1] at z; cases z) e
    · rename_i q1; exact go (fun ds z => by rw [q1] at z; cases z) e
    · cases e
  | [], _ :: _, _, _, _, _, _, _, _, e, _ => by cases e
  | _ :: _, [], _, _, _, _, _, _, _, e, _ => by cases e
theorem setVs_len : ∀ {is : List Nat} {ds : List Dat} {ρ ρ' : En}, setVs is ds ρ = some ρ' → is.length = ds.length
  | [], [], _, _, _ => rfl
  | i :: is, d :: ds, ρ, ρ', e => by
    unfold setVs at e
    have go : ∀ {ρ1}, setVs is ds ρ1 = some ρ' → (i :: is).length = (d :: ds).length := fun e => by rw [List.length_cons, List.length_cons, setVs_len e]
    split at e
    · exact go e
    · exact go e
    · exact go e
    · cases e
  | [], _ :: _, _, _, e => by cases e
  | _ :: _, [], _, _, e => by cases e
theorem gT_run {K : PySem.W.Frag} {x : Fx} {H H0 : Hp} {Q : L2.St → Hp → Prop} {t : Tg} {d : Dat} {v : V} {ρ ρ' : En} {σ : L2.St} (r : Rel K x σ H H0 ρ) (h : Rep K H0 v d) (e : setT t d ρ = some ρ')
    (q : ∀ σ', Rel K x σ' H H0 ρ' → wipe σ' t.slots = wipe σ t.slots → Q σ' H) : gT K t v σ H Q := by
  cases t with
  | one i =>
    have z := setVs_run (vs0 := [i]) (is := [i]) (vs := [v]) (Q := Q) (fun _ h => h) r (.cons h .nil) e q
    obtain ⟨v', r', e', z⟩ := z
    cases e'
    obtain ⟨_, z⟩ := z
    exact z
  | tup is =>
    cases d with
    | tup ds =>
      cases h with
      | tup h1 h2 => exact ⟨_, _, rfl, sameT r.sub h1.sq, by rw [h2.length]; exact (setVs_len e).symm, setVs_run (fun _ h => h) r h2 e q⟩
    | _ => cases e
/-! ### loops over known data -/
def items : Dat → Option (List Dat)
  | .tup ds => some ds
  | .lst ds => some ds
  | _ => none
def forL (t : Tg) (body : En → O) : List Dat → En → O
  | [], ρ => .nxt ρ
  | d :: ds, ρ => match setT t d ρ with
    | none => .stuck
    | some ρ1 => match body ρ1 with
      | .nxt ρ2 => forL t body ds ρ2
      | .ctn ρ2 => forL t body ds ρ2
      | .brk ρ2 => .nxt ρ2
      | o => o
/-- one turn -/
theorem turn_run {c : Cc} {x : Fx} {H0 : Hp} {D : Ends} {body : En → O} {N : L2.St → Hp → Prop} {ρ : En} {σ : L2.St} {H : Hp} {f : En → O} (r : Rel c.K x σ H H0 ρ)
    (h : RunS c x H0 (match body ρ with
      | .nxt ρ2 => f ρ2
      | .ctn ρ2 => f ρ2
      | .brk ρ2 => .nxt ρ2
      | o => o) D) (hN : ∀ σ' H' H1 ρ2, Rel c.K x σ' H' H1 ρ2 → Same H0 H1 → RunS c x H1 (f ρ2) D → N σ' H') : tS c body { D with nx := N, ct := N, bk := D.nx } σ H := by
  refine ⟨x, H0, ρ, r, ?_⟩
  cases e : body ρ with
  | nxt ρ2 => rw [e] at h; exact fun σ' H' H1 r' s' => hN σ' H' H1 ρ2 r' s' (RunS.up h s')
  | ctn ρ2 => rw [e] at h; exact fun σ' H' H1 r' s' => hN σ' H' H1 ρ2 r' s' (RunS.up h s')
  | brk ρ2 => rw [e] at h; exact h
  | ret d ρ' => rw [e] at h; exact h
  | new ds ρ' => rw [e] at h; exact h
  | err cn fs ρ' => rw [e] at h; exact h
  | stuck => rw [e] at h; exact h
def forO (f : M Dat) (t : Tg) (body : En → O) : En → O := fun ρ => (f ρ).toO fun d ρ' => match items d with
  | some ds => forL t body ds ρ'
  | none => .stuck
/-- the loop's word: the rest of the items is still to be run -/
theorem for_step {c : Cc} {x : Fx} {D : Ends} {t : Tg} {body : En → O} {ds : List Dat} {i : Nat} {d : Dat} {v : V} {σ : L2.St} {H H0 : Hp} {ρ : En} {N : L2.St → Hp → Prop} (hd : ds[i]? = some d) (r : Rel c.K x σ H H0 ρ) (hv : Rep c.K H0 v d)
    (h : RunS c x H0 (forL t body (ds.drop i) ρ) D) (hN : ∀ σ' H' H1 ρ2, Rel c.K x σ' H' H1 ρ2 → Same H0 H1 → RunS c x H1 (forL t body (ds.drop (i + 1)) ρ2) D → N σ' H') :
    gT c.K t v σ H fun σ2 H2 => tS c body { D with nx := N, ct := N, bk := D.nx } σ2 H2 := by
  obtain ⟨hl, e⟩ := List.getElem?_eq_some_iff.mp hd
  rw [List.drop_eq_getElem_cons hl, e] at h
  unfold forL at h
  cases q : setT t d ρ with
  | none => rw [q] at h; exact h.elim
  | some ρ1 =>
    rw [q] at h
    exact gT_run r hv q fun σ' r' _ => turn_run r' h hN
theorem pi_seq {tg l : Expr} {tl : TE} (hl : PE X l tl) : PI X tg l (fun σ H R => iTup X.K tl σ H R ∨ iList X.K tl σ H R) := ⟨fun pins s σ H R I h => h.elim (fun h => (pi_tup hl).run pins s σ H R I h) fun h => (pi_list hl).run pins s σ H R I h⟩
theorem ds_for {t : Tg} {tg : Expr} {body : List Stmt} {pos : Pos} (hp : PassesOwn (model X.prog X.w) X.A X.env X.xe) (hc : X.calm = true) (hi : DE X W e f) (hg : PG X tg (gT X.K t)) (hb : DB X W body fs)
    (hs : ∀ x, foldedSetIterable e X.env x = pure x := by intro _; rfl) : DS X W (.For tg e body [] pos) (forO f t fs) :=
  PS.imp (ps_for hp hc (pi_seq hi) hg hb hs) fun D σ H ⟨z, H0, ρ, r, q⟩ => by
    unfold forO at q
    cases ef : f ρ with
    | stuck => rw [ef] at q; exact q.elim
    | err cn fs ρ' =>
      rw [ef] at q
      refine .inl ⟨z, H0, ρ, r, ?_⟩
      rw [ef]
      exact fun cls d H' H1 r' s' x' => q cls d σ H' H1 r' s' x'
    | ok d ρ' =>
      rw [ef] at q
      cases d with
      | tup ds =>
        refine .inl ⟨z, H0, ρ, r, ?_⟩
        rw [ef]
        intro H' H1 r' s' v hv
        cases hv with
        | @tup a vs _ h1 h2 =>
          refine ⟨a, rfl, ⟨_, sameT r'.sub h1.sq⟩, for_tup (K := X.K) (a := a) (xs := vs) (fun i σ H => ∃ G ρ1, Rel X.K z σ H G ρ1 ∧ Same H1 G ∧ RunS (cc X W) z G (forL t fs (ds.drop i) ρ1) D) ⟨H1, ρ', r', Same.refl _, RunS.up q s'⟩
            (fun i σ' H2 _ ⟨G, ρ1, r1, s1, _⟩ => sameT (s1.trans r1.sub) h1.sq) (fun i v σ' H2 hi ⟨G, ρ1, r1, s1, q1⟩ => ?_) fun σ' H2 ⟨G, ρ1, r1, s1, q1⟩ => ?_⟩
          · obtain ⟨d, hd, hr⟩ := h2.getV hi
            exact for_step hd r1 (hr.mono s1) q1 fun σ' H' H1 ρ2 r' s' q' => ⟨H1, ρ2, r', s1.trans s', q'⟩
          · rw [h2.length, List.drop_length] at q1
            exact q1 σ' H2 G r1 (Same.refl _)
      | lst ds =>
        refine .inr ⟨z, H0, ρ, r, ?_⟩
        rw [ef]
        intro H' H1 r' s' v hv
        cases hv with
        | @lst a vs _ h1 h2 =>
          refine ⟨a, rfl, ⟨_, .inl (sameRd r'.sub h1)⟩, for_list (K := X.K) (a := a) (xs := vs) (fun i σ H => ∃ G ρ1, Rel X.K z σ H G ρ1 ∧ Same H1 G ∧ RunS (cc X W) z G (forL t fs (ds.drop i) ρ1) D) ⟨H1, ρ', r', Same.refl _, RunS.up q s'⟩
            (fun i σ' H2 _ ⟨G, ρ1, r1, s1, _⟩ => .inl (sameRd (s1.trans r1.sub) h1)) (fun i v σ' H2 hi ⟨G, ρ1, r1, s1, q1⟩ => ?_) fun σ' H2 ⟨G, ρ1, r1, s1, q1⟩ => ?_⟩
          · obtain ⟨d, hd, hr⟩ := h2.getV hi
            exact for_step hd r1 (hr.mono s1) q1 fun σ' H' H1 ρ2 r' s' q' => ⟨H1, ρ2, r', s1.trans s', q'⟩
          · rw [h2.length, List.drop_length] at q1
            exact q1 σ' H2 G r1 (Same.refl _)
      | _ => exact q.elim
/-! ### range -/
def rgL (lo : Int) (n : Nat) : List Dat := (List.range n).map fun i => .int (lo + (i : Nat))
theorem rgL_get {lo : Int} {n i : Nat} (h : i < n) : (rgL lo n)[i]? = some (.int (lo + (i : Nat))) := by
  unfold rgL; rw [List.getElem?_map, List.getElem?_range h]; rfl
theorem rgL_len {lo : Int} {n : Nat} : (rgL lo n).length = n := by unfold rgL; rw [List.length_map, List.length_range]
def inR (n : Int) : Bool := Nat.ble n.natAbs 4611686018427387903
theorem inR_le {n : Int} (h : inR n = true) : -4611686018427387904 ≤ n ∧ n < 4611686018427387904 := by
  have := Nat.le_of_ble_eq_true h
  omega
theorem inR_of {n : Int} (h : -4611686018427387904 < n ∧ n < 4611686018427387904) : inR n = true := Nat.ble_eq_true_of_le (by omega)
def rg1 : List Dat → Option (List Dat)
  | [.int n] => if inR n = true then some (rgL 0 n.toNat) else none
  | _ => none
def rg2 : List Dat → Option (List Dat)
  | [.int m, .int n] => if inR m = true ∧ inR n = true then some (rgL m (n - m).toNat) else none
  | _ => none
def forRO (rg : List Dat → Option (List Dat)) (g : M (List Dat)) (t : Tg) (body : En → O) : En → O := fun ρ => (g ρ).toO fun as ρ' => match rg as with
  | some ds => forL t body ds ρ'
  | none => .stuck
theorem forR_word {c : Cc} {z : Fx} {D : Ends} {t : Tg} {body : En → O} {lo : Int} {n : Nat} {σ : L2.St} {H1 G1 : Hp} {ρ1 : En} (r1 : Rel c.K z σ H1 G1 ρ1) (q1 : RunS c z G1 (forL t body (rgL lo n) ρ1) D) :
    ∃ W : Nat → Nat → L2.St → Hp → Prop, (∃ m, W 0 m σ H1) ∧ ∀ i m σ H, W i m σ H →
      ((Itr lo n).stop i H ∧ D.nx σ H) ∨ ((Itr lo n).go i H ∧ ∃ N : L2.St → Hp → Prop, (∀ σ' H', N σ' H' → ∃ m', m' < m ∧ W (i + 1) m' σ' H') ∧ ∀ x H', (Itr lo n).yld i H x H' → gT c.K t x σ H' fun σ2 H2 => tS c body { D with nx := N, ct := N, bk := D.nx } σ2 H2) :=
  for_range (lo := lo) (n := n) (fun i σ H => ∃ G ρ1, Rel c.K z σ H G ρ1 ∧ RunS c z G (forL t body ((rgL lo n).drop i) ρ1) D) ⟨G1, ρ1, r1, q1⟩ (fun i σ' H2 hi ⟨G, ρ2, r2, q2⟩ =>
      for_step (rgL_get hi) r2 (.int _) q2 fun σ' H' H1 ρ2 r' s' q' => ⟨H1, ρ2, r', q'⟩) fun σ' H2 ⟨G, ρ2, r2, q2⟩ => by
    have e : (rgL lo n).drop n = [] := List.drop_eq_nil_of_le (by rw [rgL_len]; exact Nat.le_refl _)
    rw [e] at q2
    exact q2 σ' H2 G r2 (Same.refl _)
theorem ds_forR1 {t : Tg} {tg : Expr} {body : List Stmt} {ga : M (List Dat)} {p pos pos' : Pos} (hp : PassesOwn (model X.prog X.w) X.A X.env X.xe) (hc : X.calm = true) (hgl : Gl X "range") (hm : X.mg "range" = none) (ha : DA X W [a] ga) (hg : PG X tg (gT X.K t)) (hb : DB X W body fs)
    (hs1 : starEach [a] X.env = [(false, eval a X.env)] := by rfl) (hs : ∀ x, foldedSetIterable (.Call (.Name "range" p) [a] [] pos') X.env x = pure x := by intro _; rfl) : DS X W (.For tg (.Call (.Name "range" p) [a] [] pos') body [] pos) (forRO rg1 ga t fs) :=
  PS.imp (ps_for hp hc (pi_range1 hgl hm ha hs1) hg hb hs) fun D σ H ⟨z, H0, ρ, r, q⟩ => by
    refine ⟨z, H0, ρ, r, (RunS.part q).mono fun as H1 G1 ρ1 r1 s1 q1 vs hv => ?_⟩
    split at q1
    · rename_i ds e
      unfold rg1 at e
      split at e
      · split at e
        · rename_i n hn
          have hn := inR_le hn
          cases e
          cases hv with
          | cons h1 h2 =>
            cases h1; cases h2
            exact ⟨n, rfl, by omega, by omega, forR_word (c := cc X W) r1 q1⟩
        · cases e
      · cases e
    · exact q1.elim
theorem ds_forR2 {t : Tg} {tg : Expr} {body : List Stmt} {ga : M (List Dat)} {p pos pos' : Pos} (hp : PassesOwn (model X.prog X.w) X.A X.env X.xe) (hc : X.calm = true) (hgl : Gl X "range") (hm : X.mg "range" = none) (ha : DA X W [a, b] ga) (hg : PG X tg (gT X.K t)) (hb : DB X W body fs)
    (hs1 : starEach [a, b] X.env = [(false, eval a X.env), (false, eval b X.env)] := by rfl) (hs2 : starEach [b] X.env = [(false, eval b X.env)] := by rfl) (hs : ∀ x, foldedSetIterable (.Call (.Name "range" p) [a, b] [] pos') X.env x = pure x := by intro _; rfl) : DS X W (.For tg (.Call (.Name "range" p) [a, b] [] pos') body [] pos) (forRO rg2 ga t fs) :=
  PS.imp (ps_for hp hc (pi_range2 hgl hm ha hs1 hs2) hg hb hs) fun D σ H ⟨z, H0, ρ, r, q⟩ => by
    refine ⟨z, H0, ρ, r, (RunS.part q).mono fun as H1 G1 ρ1 r1 s1 q1 vs hv => ?_⟩
    split at q1
    · rename_i ds e
      unfold rg2 at e
      split at e
      · split at e
        · rename_i m n hn
          have hn1 := inR_le hn.1
          have hn2 := inR_le hn.2
          cases e
          cases hv with
          | cons h1 h2 =>
            cases h1
            cases h2 with
            | cons h3 h4 =>
              cases h3; cases h4
              exact ⟨m, n, rfl, ⟨by omega, by omega, by omega, by omega⟩, forR_word (c := cc X W) r1 q1⟩
        · cases e
      · cases e
    · exact q1.elim
end
end Sv

set_option Elab.async false
set_option linter.all false
set_option maxRecDepth 100000
namespace Sv
open PySem L2
/-! ## lists in the making, new lists -/
abbrev Fx.add (x : Fx) (D : Addr) (o : HO) : Fx := { x with rs := (D, o) :: x.rs }
section
variable {K : PySem.W.Frag} {x : Fx} {σ σ' : L2.St} {H H0 H' H0' : Hp} {ρ : En} {D : Addr} {o o' : HO}
theorem Rel.weak (r : Rel K x σ' H H0 ρ) (hl : σ.length = σ'.length) (w : ∀ (j : Nat) (v : V), σ'[j]? = some (some v) → σ[j]? = some (some v)) : Rel K x σ H H0 ρ where
  sub := r.sub
  ent := r.ent
  len := r.len.trans hl.symm
  val := fun i d e => let ⟨v, h1, h2⟩ := r.val i d e; ⟨v, w _ _ h1, h2⟩
  own := fun i ds e => let ⟨a, h1, h2⟩ := r.own i ds e; ⟨a, w _ _ h1, h2⟩
  ino := fun i ds e => let ⟨a, h0, h1, h2⟩ := r.ino i ds e; ⟨a, h0, w _ _ h1, h2⟩
  iow := r.iow
  apart := fun i j a n m1 m2 q1 q2 => by
    obtain ⟨a1, _, e1, _⟩ := mutS_at r m1
    obtain ⟨a2, _, e2, _⟩ := mutS_at r m2
    rw [w _ _ e1] at q1; cases q1
    rw [w _ _ e2] at q2; cases q2
    exact r.apart i j a n m1 m2 e1 e2
  old := r.old
  rsv := fun a o e => by
    obtain ⟨q1, q2, q3, q4⟩ := r.rsv a o e
    refine ⟨q1, q2, q3, fun j m z => ?_⟩
    obtain ⟨a1, _, e1, _⟩ := mutS_at r m
    rw [w _ _ e1] at z; cases z
    exact q4 j m e1
theorem Rel.adds (r : Rel K x σ H H0 ρ) (hD : H D = some o) (gD : H0 D = none) (eD : x.He D = none) (na : ∀ j, mutS ρ j → σ[j]? ≠ some (some (.ref D))) : Rel K (x.add D o) σ H H0 ρ :=
  ⟨r.sub, r.ent, r.len, r.val, r.own, r.ino, r.iow, r.apart, r.old, fun a u e => by
    rcases List.mem_cons.mp e with e | e
    · cases e; exact ⟨hD, gD, eD, na⟩
    · exact r.rsv a u e⟩
theorem Rel.notat (r : Rel K x σ H H0 ρ) (h : H D = none) : ∀ j, mutS ρ j → σ[j]? ≠ some (some (.ref D)) := fun j m z => by
  obtain ⟨a, vs, e1, e2, _⟩ := mutS_at r m
  rw [z] at e1; cases e1
  rw [h] at e2; cases e2
theorem Rel.nors (r : Rel K x σ H H0 ρ) (h : H D = none) : ∀ o, (D, o) ∉ x.rs := fun o e => by
  have := (r.rsv D o e).1
  rw [h] at this; cases this
theorem Rel.start (r : Rel K x σ H H0 ρ) (h : H D = none) : Rel K (x.add D o) σ (upd H D o) H0 ρ :=
  (r.new' o h).adds upd_same (r.fresh h).2 (r.fresh h).1 (r.notat h)
theorem Rel.drop (r : Rel K (x.add D o) σ H H0 ρ) : Rel K x σ H H0 ρ := ⟨r.sub, r.ent, r.len, r.val, r.own, r.ino, r.iow, r.apart, r.old, fun a u e => r.rsv a u (List.mem_cons_of_mem _ e)⟩
theorem Rel.at (r : Rel K (x.add D o) σ H H0 ρ) : H D = some o ∧ H0 D = none ∧ x.He D = none ∧ ∀ j, mutS ρ j → σ[j]? ≠ some (some (.ref D)) := r.rsv D o List.mem_cons_self
theorem Rel.rupd (r : Rel K (x.add D o) σ H H0 ρ) (nD : ∀ u, (D, u) ∉ x.rs) : Rel K (x.add D o') σ (upd H D o') H0 ρ := by
  obtain ⟨q1, q2, q3, q4⟩ := r.at
  refine ⟨fun b u e => ?_, fun b u e n => ?_, r.len, r.val, fun i ds e => ?_, fun i ds e => ?_, r.iow, r.apart, r.old, fun a u e => ?_⟩
  · rw [upd_ne (ne_of_none e q2)]; exact r.sub _ _ e
  · have nb : b ≠ D := fun z => by subst z; rw [show x.He b = _ from e] at q3; cases q3
    rw [upd_ne nb]; exact r.ent b u e n
  · obtain ⟨a, h1, h2, h3, h4⟩ := r.own i ds e
    have na : a ≠ D := fun z => q4 i (.inl ⟨ds, e⟩) (z ▸ h1)
    exact ⟨a, h1, h2, h3, h4.mono (upd_ne na) (Same.refl _)⟩
  · obtain ⟨a, h0, h1, h3, h4⟩ := r.ino i ds e
    have na : a ≠ D := fun z => q4 i (.inr ⟨ds, e⟩) (z ▸ h1)
    exact ⟨a, h0, h1, h3, h4.mono (upd_ne na) (Same.refl _)⟩
  · rcases List.mem_cons.mp e with e | e
    · cases e; exact ⟨upd_same, q2, q3, q4⟩
    · have na : a ≠ D := fun z => nD u (z ▸ e)
      obtain ⟨p1, p2, p3, p4⟩ := r.rsv a u (List.mem_cons_of_mem _ e)
      exact ⟨by rw [upd_ne na]; exact p1, p2, p3, p4⟩
/-- a new list at p, not known yet -/
structure NewAt (K : PySem.W.Frag) (x : Fx) (σ : L2.St) (H H0 : Hp) (ρ : En) (p : Addr) (ds : List Dat) : Prop where
  he : x.He p = none
  h0 : H0 p = none
  na : ∀ j, mutS ρ j → σ[j]? ≠ some (some (.ref p))
  nr : ∀ o, (p, o) ∉ x.rs
  at' : LstAt K H H0 p ds
theorem Rel.know (r : Rel K x σ H H0 ρ) {p : Addr} {ds : List Dat} (n : NewAt K x σ H H0 ρ p ds) : ∃ H1, Rel K x σ H H1 ρ ∧ Same H0 H1 ∧ Rep K H1 (.ref p) (.lst ds) := by
  obtain ⟨vs, h1, h2⟩ := n.at'
  have h0 := n.h0
  have s0 : Same H0 (upd H0 p (.lst vs)) := fun b u e => by rw [upd_ne (ne_of_none e h0)]; exact e
  refine ⟨_, ⟨fun b u e => ?_, r.ent, r.len, fun i d e => let ⟨v, q1, q2⟩ := r.val i d e; ⟨v, q1, q2.mono s0⟩, fun i es e => ?_, fun i es e => ?_, r.iow, r.apart, fun a u e e2 => ?_, fun a u e => ?_⟩, s0, .lst (Rd.of upd_same) (h2.mono s0)⟩
  · by_cases hb : b = p
    · subst hb; rw [upd_same] at e; rw [h1]; exact e
    · rw [upd_ne hb] at e; exact r.sub _ _ e
  · obtain ⟨a, q1, q2, q3, q4⟩ := r.own i es e
    exact ⟨a, q1, q2, by
      have na : a ≠ p := fun z => n.na i (.inl ⟨es, e⟩) (z ▸ q1)
      rw [upd_ne na]; exact q3, q4.mono rfl s0⟩
  · obtain ⟨a, q0, q1, q3, q4⟩ := r.ino i es e
    exact ⟨a, q0, q1, by
      have na : a ≠ p := fun z => n.na i (.inr ⟨es, e⟩) (z ▸ q1)
      rw [upd_ne na]; exact q3, q4.mono rfl s0⟩
  · have na : a ≠ p := fun z => by rw [z, n.he] at e; cases e
    rw [upd_ne na]; exact r.old a u e e2
  · obtain ⟨q1, q2, q3, q4⟩ := r.rsv a u e
    exact ⟨q1, by
      have na : a ≠ p := fun z => n.nr u (z ▸ e)
      rw [upd_ne na]; exact q2, q3, q4⟩
def unS : List Nat → En → En
  | [], ρ => ρ
  | i :: is, ρ => (unS is ρ).set i .un
theorem Rel.wipe : ∀ {vs : List Nat}, Rel K x σ H H0 ρ → (∀ i ∈ vs, x.io i = none) → Rel K x (L2.wipe σ vs) H H0 (unS vs ρ)
  | [], r, _ => r
  | i :: vs, r, h => by
    have r1 := Rel.wipe (vs := vs) r fun j hj => h j (List.mem_cons_of_mem _ hj)
    refine r1.setu (i := i) (y := none) fun ds e => ?_
    obtain ⟨a, q, _⟩ := r1.ino i ds e
    rw [h i List.mem_cons_self] at q; cases q
theorem wipe_wipe (σ : L2.St) : ∀ vs : List Nat, L2.wipe (L2.wipe σ vs) vs = L2.wipe σ vs := by
  have key : ∀ (us vs : List Nat), (∀ i ∈ us, i ∈ vs) → L2.wipe (L2.wipe σ us) vs = L2.wipe σ vs := by
    intro us
    induction us with
    | nil => intro vs _; rfl
    | cons u us ih =>
      intro vs h
      show L2.wipe ((L2.wipe σ us).set u none) vs = _
      rw [wipe_set (h u List.mem_cons_self)]
      exact ih vs fun i hi => h i (List.mem_cons_of_mem _ hi)
  exact fun vs => key vs vs fun _ h => h
end
/-- a new list's reading -/
def tN (c : Cc) (f : M (List Dat)) : TE := fun σ H Q => ∃ (x : Fx) (H0 : Hp) (ρ : En), Rel c.K x σ H H0 ρ ∧ Run c x σ H0 (f ρ) fun ds H' H1 ρ' => ∀ p, NewAt c.K x σ H' H1 ρ' p ds → Q (.ref p) H'
def DN (X : Cx) (W : WX) (e : Expr) (f : M (List Dat)) : Prop := PE X e (tN (cc X W) f)
def M.frz (f : M (List Dat)) : M Dat := f.bnd fun ds => M.ret (.lst ds)
section
variable {X : Cx} {W : WX} {e a b : Expr} {f g : M Dat} {fn : M (List Dat)} {pos pos' : Pos}
theorem DN.de (h : DN X W e fn) : DE X W e fn.frz := PE.imp h fun σ H Q ⟨x, H0, ρ, r, q⟩ => ⟨x, H0, ρ, r, (Run.bnd q).mono fun ds H1 G1 ρ1 r1 s1 q1 p n => by
  obtain ⟨G2, r2, s2, h2⟩ := r1.know n
  exact q1 H1 G2 r2 s2 _ h2⟩
def capL (ds : List Dat) : M (List Dat) := M.lift (if ds.length ≤ 1000000 then some ds else none)
theorem dn_lst {es : List Expr} {ga : M (List Dat)} (h : DA X W es ga) : DN X W (.List es pos) (ga.bnd capL) :=
  PE.imp (pe_lst h) fun σ H Q ⟨z, H0, ρ, rl, q⟩ => partA rl q fun ds vs H1 G1 ρ1 r1 s1 hx q1 => by
    obtain ⟨ds', e, q2⟩ := Run.lift q1
    split at e
    · rename_i hl
      cases e
      refine ⟨sz (by rw [hx.length]; exact hl), fun p hp => ?_⟩
      exact q2 _ G1 (r1.new' _ hp) (Same.refl _) p ⟨(r1.fresh hp).1, (r1.fresh hp).2, r1.notat hp, r1.nors hp, vs, upd_same, hx⟩
    · cases e
/-- x = a new list -/
def setNO (f : M (List Dat)) (i : Nat) : En → O := fun ρ => (f ρ).toO fun ds ρ' => match ρ'[i]? with
  | some .un => .nxt (ρ'.set i (.own ds))
  | some (.val _) => .nxt (ρ'.set i (.own ds))
  | some (.own _) => .nxt (ρ'.set i (.own ds))
  | _ => .stuck
theorem setN_run {c : Cc} {x : Fx} {H0 H : Hp} {i : Nat} {ds : List Dat} {ρ : En} {D : Ends} {σ : L2.St} {p : Addr} (r : Rel c.K x σ H H0 ρ) (n : NewAt c.K x σ H H0 ρ p ds)
    (h : RunS c x H0 (match ρ[i]? with
  | some .un => .nxt (ρ.set i (.own ds))
  | some (.val _) => .nxt (ρ.set i (.own ds))
  | some (.own _) => .nxt (ρ.set i (.own ds))
  | _ => .stuck) D) : D.nx (σ.set i (some (.ref p))) H := by
  obtain ⟨vs, h1, h2⟩ := n.at'
  have go : (∀ ds, ρ[i]? ≠ some (.ino ds)) → RunS c x H0 (.nxt (ρ.set i (.own ds))) D → D.nx (σ.set i (some (.ref p))) H := fun hn q =>
    q _ H H0 (r.seto hn h1 n.h0 n.he n.na n.nr h2) (Same.refl _)
  split at h
  · rename_i q; exact go (fun ds z => by rw [q] at z; cases z) h
  · rename_i q; exact go (fun ds z => by rw [q] at z; cases z) h
  · rename_i q; exact go (fun ds z => by rw [q] at z; cases z) h
  · exact h.elim
theorem ds_setN (i : Nat) {x : Str} (hN : X.N.Nodup) (hi : X.N[i]? = some x) (hx : Loc X.env.scope x) (he : DN X W e fn) (hs : swapsWith e (some (.Name x pos')) pos.line X.env = pure false := by rfl) (hf : X.fn x = true ∨ X.env.scope.names.lookup x = some .local := by first | exact .inl rfl | exact .inr rfl | assumption) :
    DS X W (.Assign [.Name x pos'] e pos) (setNO fn i) := PS.imp (ps_set hN hi hx he hs hf) fun D σ H ⟨z, H0, ρ, r, q⟩ =>
      ⟨z, H0, ρ, r, (RunS.part q).mono fun ds H1 G1 ρ1 r1 s1 q1 p n => setN_run r1 n q1⟩
def retNO (f : M (List Dat)) : En → O := fun ρ => (f ρ).toO .new
theorem ds_retNw (he : DN X W e fn) : DS X W (.Return (some e) pos) (retNO fn) :=
  PS.imp (ps_ret he) fun D σ H ⟨z, H0, ρ, r, q⟩ => ⟨z, H0, ρ, r, (RunS.part q).mono fun ds H1 G1 ρ1 r1 s1 q1 p n => q1 p σ H1 G1 r1 (Same.refl _) n.he n.h0 n.at'⟩
/-! ### comprehensions -/
def lcL (t : Tg) (tt : M Bool) (g : M Dat) : List Dat → List Dat → En → R (List Dat)
  | [], acc, ρ => .ok acc ρ
  | d :: ds, acc, ρ => match setT t d ρ with
    | none => .stuck
    | some ρ1 => match tt ρ1 with
      | .ok true ρ2 => (match g ρ2 with
        | .ok y ρ3 => if acc.length < 1000000 then lcL t tt g ds (acc ++ [y]) (unS t.slots ρ3) else .stuck
        | _ => .stuck)
      | .ok false ρ2 => lcL t tt g ds acc (unS t.slots ρ2)
      | _ => .stuck
def isUn (ρ : En) (i : Nat) : Bool := match ρ[i]? with
  | some .un => true
  | _ => false
theorem isUn_eq {ρ : En} {i : Nat} (h : isUn ρ i = true) : ρ[i]? = some .un := by
  unfold isUn at h; split at h
  · assumption
  · cases h
def lcI (t : Tg) (tt : M Bool) (g : M Dat) (ds : List Dat) : M (List Dat) := fun ρ => if t.slots.all (isUn ρ) = true then lcL t tt g ds [] (unS t.slots ρ) else .stuck
def tYesM : M Bool := M.ret true
def DTs (X : Cx) (W : WX) (ifs : List Expr) (f : M Bool) : Prop := PTs X ifs (tDT (cc X W) f)
theorem dts_nil : DTs X W [] tYesM := ⟨fun pins s σ H Q I h => pts_nil.run pins s σ H Q I (by obtain ⟨z, H0, ρ, r, q⟩ := h; exact q H H0 r (Same.refl _))⟩
theorem dts_one {c : Expr} {f : M Bool} (h : DT X W c f) : DTs X W [c] f := pts_one h
/-- no exception leaves a comprehension -/
abbrev W0 : WX := fun _ _ _ _ => False
/-- the invariant of a comprehension's turns -/
def LcInv (c : Cc) (x : Fx) (σ : L2.St) (t : Tg) (tt : M Bool) (g : M Dat) (Q : VK) (G0 : Hp) (D : Addr) (ds : List Dat) (i : Nat) (H : Hp) : Prop :=
  ∃ (G : Hp) (ρ : En) (acc : List Dat) (av : List V), Rel c.K (x.add D (.lst av)) (L2.wipe σ t.slots) H G ρ ∧ Same G0 G ∧ RepA c.K G av acc ∧ (∀ j ∈ t.slots, ρ[j]? = some .un) ∧
    Run c x σ G (lcL t tt g (ds.drop i) acc ρ) fun es H' H1 ρ' => ∀ p, NewAt c.K x σ H' H1 ρ' p es → Q (.ref p) H'
theorem unS_at : ∀ {vs : List Nat} {ρ : En} {j : Nat}, j ∈ vs → j < ρ.length → (unS vs ρ)[j]? = some .un
  | i :: vs, ρ, j, h, hl => by
    have len : ∀ (us : List Nat), (unS us ρ).length = ρ.length := fun us => by
      induction us with
      | nil => rfl
      | cons u us ih => unfold unS; rw [List.length_set, ih]
    unfold unS
    by_cases e : i = j
    · subst e
      exact List.getElem?_set_self (by rw [len]; exact hl)
    · rw [List.getElem?_set_ne e]
      exact unS_at (by
        rcases List.mem_cons.mp h with z | z
        · exact absurd z.symm e
        · exact z) hl
theorem lc_turn {c c0 : Cc} (hK : c0.K = c.K) {x : Fx} {σ : L2.St} {t : Tg} {tt : M Bool} {g : M Dat} {Q : VK} {G0 : Hp} {D : Addr} {ds : List Dat} {i : Nat} {d : Dat} {v : V} {H : Hp} (hd : ds[i]? = some d) (hv : Rep c.K G0 v d) (nD : ∀ u, (D, u) ∉ x.rs) (hio : ∀ j ∈ t.slots, x.io j = none ∧ j < σ.length)
    (h : LcInv c x σ t tt g Q G0 D ds i H) :
    gT c.K t v (L2.wipe σ t.slots) H fun σ2 H2 => L2.wipe σ2 t.slots = L2.wipe σ t.slots ∧ tDT c0 tt σ2 H2 fun b H3 =>
      if b = true then tD c0 g σ2 H3 fun y H4 => ∃ acc, H4 D = some (.lst acc) ∧ acc.length < sizeLine ∧ LcInv c x σ t tt g Q G0 D ds (i + 1) (upd H4 D (.lst (acc ++ [y]))) else LcInv c x σ t tt g Q G0 D ds (i + 1) H3 := by
  obtain ⟨G, ρ, acc, av, r, s, ra, hu, q⟩ := h
  obtain ⟨hl, e⟩ := List.getElem?_eq_some_iff.mp hd
  rw [List.drop_eq_getElem_cons hl, e] at q
  unfold lcL at q
  have len : ∀ {σ2 : L2.St} {H2 G2 : Hp} {ρ2 : En} {o : HO}, Rel c.K (x.add D o) σ2 H2 G2 ρ2 → L2.wipe σ2 t.slots = L2.wipe σ t.slots → ∀ j ∈ t.slots, j < ρ2.length := fun r w j hj => by
    have e1 := r.len
    have e2 := congrArg List.length w
    rw [wipe_length, wipe_length] at e2
    have := (hio j hj).2
    omega
  cases q1 : setT t d ρ with
  | none => rw [q1] at q; exact q.elim
  | some ρ1 =>
    rw [q1] at q; try dsimp only at q
    refine gT_run r (hv.mono s) q1 fun σ2 r2 w => ⟨w.trans (wipe_wipe _ _), x.add D (.lst av), G, ρ1, hK ▸ r2, ?_⟩
    have w2 : L2.wipe σ2 t.slots = L2.wipe σ t.slots := w.trans (wipe_wipe _ _)
    cases q2 : tt ρ1 with
    | stuck => rw [q2] at q; exact q.elim
    | err cn fs ρ' => rw [q2] at q; exact q.elim
    | ok b ρ2 =>
      rw [q2] at q; try dsimp only at q
      intro H3 G3 r3 s3
      rw [hK] at r3
      cases b with
      | false =>
        rw [if_neg (by decide)]
        refine ⟨G3, unS t.slots ρ2, acc, av, w2 ▸ r3.wipe (fun j hj => (hio j hj).1), s.trans s3, ra.mono s3, fun j hj => unS_at hj (len r3 w2 j hj), Run.up q s3⟩
      | true =>
        rw [if_pos rfl]
        refine ⟨x.add D (.lst av), G3, ρ2, hK ▸ r3, ?_⟩
        dsimp only at q
        cases q3 : g ρ2 with
        | stuck => rw [q3] at q; exact q.elim
        | err cn fs ρ' => rw [q3] at q; exact q.elim
        | ok y ρ3 =>
          rw [q3] at q; try dsimp only at q
          intro H4 G4 r4 s4 yv hy
          rw [hK] at r4 hy
          obtain ⟨p1, p2, p3, p4⟩ := r4.at
          split at q
          · rename_i hz
            have s34 := s3.trans s4
            refine ⟨av, p1, Nat.lt_of_lt_of_le (by rw [ra.length]; exact hz) (by decide), G4, unS t.slots ρ3, acc ++ [y], av ++ [yv], ?_, s.trans s34, (ra.mono s34).app (.cons hy .nil), fun j hj => unS_at hj (len r4 w2 j hj), Run.up q s34⟩
            have r5 : Rel c.K (x.add D (.lst (av ++ [yv]))) σ2 (upd H4 D (.lst (av ++ [yv]))) G4 ρ3 := r4.rupd nD
            exact w2 ▸ r5.wipe (fun j hj => (hio j hj).1)
          · exact q.elim
theorem lc_end {c : Cc} {x : Fx} {σ : L2.St} {t : Tg} {tt : M Bool} {g : M Dat} {Q : VK} {G0 : Hp} {D : Addr} {ds : List Dat} {n : Nat} {H : Hp} (hn : ds.length ≤ n) (nD : ∀ u, (D, u) ∉ x.rs) (h : LcInv c x σ t tt g Q G0 D ds n H) : Q (.ref D) H := by
  obtain ⟨G, ρ, acc, av, r, s, ra, hu, q⟩ := h
  rw [List.drop_eq_nil_of_le hn] at q
  have r2 : Rel c.K (x.add D (.lst av)) σ H G ρ := r.weak (wipe_length σ _).symm fun j v e => (wipe_some e).1
  obtain ⟨p1, p2, p3, p4⟩ := r2.at
  exact q H G r2.drop (Same.refl _) D ⟨p3, p2, p4, nD, av, p1, ra⟩
theorem lc_start {c : Cc} {x : Fx} {σ : L2.St} {t : Tg} {tt : M Bool} {g : M Dat} {Q : VK} {D : Addr} {ds : List Dat} {H G : Hp} {ρ : En} (r : Rel c.K x σ H G ρ) (hD : H D = none)
    (q : Run c x σ G (lcI t tt g ds ρ) fun es H' H1 ρ' => ∀ p, NewAt c.K x σ H' H1 ρ' p es → Q (.ref p) H') : (∀ u, (D, u) ∉ x.rs) ∧ (∀ j ∈ t.slots, x.io j = none ∧ j < σ.length) ∧ LcInv c x σ t tt g Q G D ds 0 (upd H D (.lst [])) := by
  unfold lcI at q
  split at q
  · rename_i hu
    rw [List.all_eq_true] at hu
    have hio : ∀ j ∈ t.slots, x.io j = none ∧ j < σ.length := fun j hj => by
      have e := isUn_eq (hu j hj)
      exact ⟨r.noio (fun ds z => by rw [e] at z; cases z), by rw [← r.len]; exact (List.getElem?_eq_some_iff.mp e).1⟩
    refine ⟨r.nors hD, hio, G, unS t.slots ρ, [], [], ?_, Same.refl _, .nil, fun j hj => unS_at hj (by rw [r.len]; exact (hio j hj).2), q⟩
    have r1 : Rel c.K (x.add D (.lst [])) σ (upd H D (.lst [])) G ρ := r.start hD
    exact r1.wipe fun j hj => (hio j hj).1
  · exact q.elim
/-- the source: a tuple or a list that is known -/
def M.lc (f : M Dat) (t : Tg) (tt : M Bool) (g : M Dat) : M (List Dat) := f.bnd fun d => match items d with
  | some ds => lcI t tt g ds
  | none => fun _ => .stuck
variable {elt tg iter : Expr} {ifs : List Expr} {scope : Scope} {own : List (Str × Nat)} {t : Tg} {tt : M Bool}
theorem lc_reading {σ : L2.St} {H : Hp} {Q : VK} (h : tN (cc X W) (f.lc t tt g) σ H Q) : tLc (fun σ H R => iTup X.K (tD (cc X W) f) σ H R ∨ iList X.K (tD (cc X W) f) σ H R) (gT X.K t) (tDT (cc X W0) tt) (tD (cc X W0) g) t.slots σ H Q := by
  obtain ⟨z, H0, ρ, r, q⟩ := h
  unfold M.lc at q
  unfold M.bnd at q
  cases ef : f ρ with
  | stuck => rw [ef] at q; exact q.elim
  | err cn fs ρ' =>
    rw [ef] at q
    refine .inl ⟨z, H0, ρ, r, ?_⟩
    rw [ef]
    exact q
  | ok d ρ' =>
    rw [ef] at q
    cases d with
    | tup ds =>
      refine .inl ⟨z, H0, ρ, r, ?_⟩
      rw [ef]
      intro H1 G1 r1 s1 v hv
      cases hv with
      | @tup a vs _ h1 h2 =>
        refine ⟨a, rfl, ⟨_, sameT r1.sub h1.sq⟩, fun D hD => ?_⟩
        obtain ⟨nD, hio, st⟩ := lc_start (c := cc X W) r1 hD (Run.up q s1)
        refine lc_tup (K := X.K) (a := a) (xs := vs) (fun i H => LcInv (cc X W) z σ t tt g Q G1 D ds i H) st (fun i H2 _ w => ?_) (fun i v H2 hi w => ?_) fun H2 w => lc_end (by rw [h2.length]; exact Nat.le_refl _) nD w
        · obtain ⟨G, ρ2, acc, av, r2, s2, _⟩ := w
          exact sameT (s2.trans r2.sub) h1.sq
        · obtain ⟨d, hd, hr⟩ := h2.getV hi
          exact lc_turn (c := cc X W) (c0 := cc X W0) rfl hd hr nD hio w
    | lst ds =>
      refine .inr ⟨z, H0, ρ, r, ?_⟩
      rw [ef]
      intro H1 G1 r1 s1 v hv
      cases hv with
      | @lst a vs _ h1 h2 =>
        refine ⟨a, rfl, ⟨_, .inl (sameRd r1.sub h1)⟩, fun D hD => ?_⟩
        obtain ⟨nD, hio, st⟩ := lc_start (c := cc X W) r1 hD (Run.up q s1)
        refine lc_list (K := X.K) (a := a) (xs := vs) (fun i H => LcInv (cc X W) z σ t tt g Q G1 D ds i H) st (fun i H2 _ w => ?_) (fun i v H2 hi w => ?_) fun H2 w => lc_end (by rw [h2.length]; exact Nat.le_refl _) nD w
        · obtain ⟨G, ρ2, acc, av, r2, s2, _⟩ := w
          exact .inl (sameRd (s2.trans r2.sub) h1)
        · obtain ⟨d, hd, hr⟩ := h2.getV hi
          exact lc_turn (c := cc X W) (c0 := cc X W0) rfl hd hr nD hio w
    | _ => exact q.elim
theorem dn_lc (hc : X.calm = true) (hN : X.N.Nodup) (hi : DE X W iter f) (ok : BlkOk X.N X.env.scope scope own) (hown : own.map (·.2) = t.slots)
    (hg : ∀ (s : Shared) (H : Hp) (C : Addr) (cl : List (Str × Addr)) (fp : List Addr), PG (X.blk s H scope (compEnvC scope cl C X.env) fp) tg (gT X.K t)) (ht : ∀ (s : Shared) (H : Hp) (C : Addr) (cl : List (Str × Addr)) (fp : List Addr), DTs (X.blk s H scope (compEnvC scope cl C X.env) fp) W0 ifs tt)
    (he : ∀ (s : Shared) (H : Hp) (C : Addr) (cl : List (Str × Addr)) (fp : List Addr), DE (X.blk s H scope (compEnvC scope cl C X.env) fp) W0 elt g) (hs : ∀ x, foldedSetIterable iter X.env x = pure x := by intro _; rfl) :
    DN X W (.ListComp elt [⟨tg, iter, ifs, 0⟩] scope pos) (f.lc t tt g) :=
  PE.imp (pe_lc (tt := tDT (cc X W0) tt) (te := tD (cc X W0) g) hc hN (pi_seq hi) ok hg ht he hs) fun σ H Q h => by
    rw [hown]
    exact lc_reading h
end
end Sv

set_option Elab.async false
set_option linter.all false
set_option maxRecDepth 100000
namespace Sv
open PySem L2
/-! ## comprehensions over a range -/
def M.lcR (rg : List Dat → Option (List Dat)) (ga : M (List Dat)) (t : Tg) (tt : M Bool) (g : M Dat) : M (List Dat) := ga.bnd fun as => match rg as with
  | some ds => lcI t tt g ds
  | none => fun _ => .stuck
section
variable {X : Cx} {W : WX} {e a b : Expr} {f g : M Dat} {fn ga : M (List Dat)} {pos pos' p : Pos} {elt tg iter : Expr} {ifs : List Expr} {scope : Scope} {own : List (Str × Nat)} {t : Tg} {tt : M Bool}
theorem lcR_word {z : Fx} {σ : L2.St} {Q : VK} {lo : Int} {n : Nat} {H1 G1 : Hp} {ρ1 : En} (r1 : Rel X.K z σ H1 G1 ρ1) (q1 : Run (cc X W) z σ G1 (lcI t tt g (rgL lo n) ρ1) fun es H' H1 ρ' => ∀ p, NewAt X.K z σ H' H1 ρ' p es → Q (.ref p) H') (D : Addr) (hD : H1 D = none) :
    ∃ V : Nat → Nat → Hp → Prop, (∃ m, V 0 m (upd H1 D (.lst []))) ∧ ∀ i m H, V i m H →
      ((Itr lo n).stop i H ∧ Q (.ref D) H) ∨ ((Itr lo n).go i H ∧ ∃ Nx : Hp → Prop, (∀ H', Nx H' → ∃ m', m' < m ∧ V (i + 1) m' H') ∧ ∀ x H', (Itr lo n).yld i H x H' → gT X.K t x (L2.wipe σ t.slots) H' fun σ2 H2 => L2.wipe σ2 t.slots = L2.wipe σ t.slots ∧ tDT (cc X W0) tt σ2 H2 fun b H3 =>
        if b = true then tD (cc X W0) g σ2 H3 fun y H4 => ∃ acc, H4 D = some (.lst acc) ∧ acc.length < sizeLine ∧ Nx (upd H4 D (.lst (acc ++ [y]))) else Nx H3) := by
  obtain ⟨nD, hio, st⟩ := lc_start (c := cc X W) r1 hD q1
  exact lc_range (lo := lo) (n := n) (fun i H => LcInv (cc X W) z σ t tt g Q G1 D (rgL lo n) i H) st (fun i H2 hi w => lc_turn (c := cc X W) (c0 := cc X W0) rfl (rgL_get hi) (.int _) nD hio w) fun H2 w => lc_end (by rw [rgL_len]; exact Nat.le_refl _) nD w
theorem dn_lcR1 (hc : X.calm = true) (hN : X.N.Nodup) (hgl : Gl X "range") (hm : X.mg "range" = none) (ha : DA X W [a] ga) (ok : BlkOk X.N X.env.scope scope own) (hown : own.map (·.2) = t.slots)
    (hg : ∀ (s : Shared) (H : Hp) (C : Addr) (cl : List (Str × Addr)) (fp : List Addr), PG (X.blk s H scope (compEnvC scope cl C X.env) fp) tg (gT X.K t)) (ht : ∀ (s : Shared) (H : Hp) (C : Addr) (cl : List (Str × Addr)) (fp : List Addr), DTs (X.blk s H scope (compEnvC scope cl C X.env) fp) W0 ifs tt)
    (he : ∀ (s : Shared) (H : Hp) (C : Addr) (cl : List (Str × Addr)) (fp : List Addr), DE (X.blk s H scope (compEnvC scope cl C X.env) fp) W0 elt g) (hs1 : starEach [a] X.env = [(false, eval a X.env)] := by rfl) (hs : ∀ x, foldedSetIterable (.Call (.Name "range" p) [a] [] pos') X.env x = pure x := by intro _; rfl) :
    DN X W (.ListComp elt [⟨tg, .Call (.Name "range" p) [a] [] pos', ifs, 0⟩] scope pos) (M.lcR rg1 ga t tt g) :=
  PE.imp (pe_lc (tt := tDT (cc X W0) tt) (te := tD (cc X W0) g) hc hN (pi_range1 hgl hm ha hs1) ok hg ht he hs) fun σ H Q ⟨z, H0, ρ, r, q⟩ => by
    rw [hown]
    refine ⟨z, H0, ρ, r, (Run.bnd q).mono fun as H1 G1 ρ1 r1 s1 q1 vs hv => ?_⟩
    dsimp only at q1
    generalize erg : rg1 as = org at q1
    cases org with
    | none => exact q1.elim
    | some ds =>
      have e := erg
      unfold rg1 at e
      split at e
      · split at e
        · rename_i n hn
          have hn := inR_le hn
          cases e
          cases hv with
          | cons h1 h2 =>
            cases h1; cases h2
            exact ⟨n, rfl, by omega, by omega, fun D hD => lcR_word r1 q1 D hD⟩
        · cases e
      · cases e
theorem dn_lcR2 (hc : X.calm = true) (hN : X.N.Nodup) (hgl : Gl X "range") (hm : X.mg "range" = none) (ha : DA X W [a, b] ga) (ok : BlkOk X.N X.env.scope scope own) (hown : own.map (·.2) = t.slots)
    (hg : ∀ (s : Shared) (H : Hp) (C : Addr) (cl : List (Str × Addr)) (fp : List Addr), PG (X.blk s H scope (compEnvC scope cl C X.env) fp) tg (gT X.K t)) (ht : ∀ (s : Shared) (H : Hp) (C : Addr) (cl : List (Str × Addr)) (fp : List Addr), DTs (X.blk s H scope (compEnvC scope cl C X.env) fp) W0 ifs tt)
    (he : ∀ (s : Shared) (H : Hp) (C : Addr) (cl : List (Str × Addr)) (fp : List Addr), DE (X.blk s H scope (compEnvC scope cl C X.env) fp) W0 elt g) (hs1 : starEach [a, b] X.env = [(false, eval a X.env), (false, eval b X.env)] := by rfl) (hs2 : starEach [b] X.env = [(false, eval b X.env)] := by rfl)
    (hs : ∀ x, foldedSetIterable (.Call (.Name "range" p) [a, b] [] pos') X.env x = pure x := by intro _; rfl) :
    DN X W (.ListComp elt [⟨tg, .Call (.Name "range" p) [a, b] [] pos', ifs, 0⟩] scope pos) (M.lcR rg2 ga t tt g) :=
  PE.imp (pe_lc (tt := tDT (cc X W0) tt) (te := tD (cc X W0) g) hc hN (pi_range2 hgl hm ha hs1 hs2) ok hg ht he hs) fun σ H Q ⟨z, H0, ρ, r, q⟩ => by
    rw [hown]
    refine ⟨z, H0, ρ, r, (Run.bnd q).mono fun as H1 G1 ρ1 r1 s1 q1 vs hv => ?_⟩
    dsimp only at q1
    generalize erg : rg2 as = org at q1
    cases org with
    | none => exact q1.elim
    | some ds =>
      have e := erg
      unfold rg2 at e
      split at e
      · split at e
        · rename_i m n hn
          have hn1 := inR_le hn.1
          have hn2 := inR_le hn.2
          cases e
          cases hv with
          | cons h1 h2 =>
            cases h1
            cases h2 with
            | cons h3 h4 =>
              cases h3; cases h4
              exact ⟨m, n, rfl, ⟨by omega, by omega, by omega, by omega⟩, fun D hD => lcR_word r1 q1 D hD⟩
        · cases e
      · cases e
/-! ## a list of one's own, in place -/
def listAt (ρ : En) (i : Nat) : Option (List Dat) := match ρ[i]? with
  | some (.own ds) => some ds
  | some (.ino ds) => some ds
  | some (.val (.lst ds)) => some ds
  | some (.val (.scr ds)) => some ds
  | some (.val (.tup ds)) => some ds
  | _ => none
def mutAt (ρ : En) (i : Nat) : Option (List Dat) := match ρ[i]? with
  | some (.own ds) => some ds
  | some (.ino ds) => some ds
  | _ => none
def putAt (ρ : En) (i : Nat) (ds : List Dat) : En := match ρ[i]? with
  | some (.own _) => ρ.set i (.own ds)
  | some (.ino _) => ρ.set i (.ino ds)
  | _ => ρ
theorem mutAt_at {K : PySem.W.Frag} {x : Fx} {σ : L2.St} {H H0 : Hp} {ρ : En} {i : Nat} {ds : List Dat} (r : Rel K x σ H H0 ρ) (h : mutAt ρ i = some ds) : mutS ρ i ∧ ∃ a, σ[i]? = some (some (.ref a)) ∧ H0 a = none ∧ LstAt K H H0 a ds := by
  unfold mutAt at h
  split at h
  · rename_i es e
    cases h
    obtain ⟨a, h1, _, h3, h4⟩ := r.own i _ e
    exact ⟨.inl ⟨_, e⟩, a, h1, h3, h4⟩
  · rename_i es e
    cases h
    obtain ⟨a, _, h1, h3, h4⟩ := r.ino i _ e
    exact ⟨.inr ⟨_, e⟩, a, h1, h3, h4⟩
  · cases h
theorem listAt_at {K : PySem.W.Frag} {x : Fx} {σ : L2.St} {H H0 : Hp} {ρ : En} {i : Nat} {ds : List Dat} (r : Rel K x σ H H0 ρ) (h : listAt ρ i = some ds) : ∃ a vs, σ[i]? = some (some (.ref a)) ∧ (SqL K H a vs ∨ SqT K H a vs) ∧ RepA K H0 vs ds := by
  unfold listAt at h
  split at h
  · rename_i es e
    cases h
    obtain ⟨a, h1, _, h3, vs, h4, h5⟩ := r.own i _ e
    exact ⟨a, vs, h1, .inl (SqL.of h4), h5⟩
  · rename_i es e
    cases h
    obtain ⟨a, _, h1, h3, vs, h4, h5⟩ := r.ino i _ e
    exact ⟨a, vs, h1, .inl (SqL.of h4), h5⟩
  · rename_i es e
    cases h
    obtain ⟨v, h1, h2⟩ := r.val i _ e
    cases h2 with
    | lst q1 q2 => exact ⟨_, _, h1, .inl (.inl (sameRd r.sub q1)), q2⟩
  · rename_i es e
    cases h
    obtain ⟨v, h1, h2⟩ := r.val i _ e
    cases h2 with
    | scr q1 q2 => exact ⟨_, _, h1, .inl (sameL r.sub q1), q2⟩
  · rename_i es e
    cases h
    obtain ⟨v, h1, h2⟩ := r.val i _ e
    cases h2 with
    | tup q1 q2 => exact ⟨_, _, h1, .inr (sameT r.sub q1.sq), q2⟩
  · cases h
/-- behind a change of the list at a alone -/
structure GrowB (a : Addr) (H H' H0 H0' : Hp) : Prop where
  k : ∀ b o, b ≠ a → H b = some o → H' b = some o
  s : Same H0 H0'
  s' : Same H0' H'
  fr : ∀ b o, H b = some o → H0 b = none → H0' b = none
theorem Rel.inout {K : PySem.W.Frag} {x : Fx} {σ : L2.St} {H H0 H' H0' : Hp} {ρ : En} {i : Nat} {a : Addr} {ds es : List Dat} (r : Rel K x σ H H0 ρ) (h : mutAt ρ i = some ds) (ha : σ[i]? = some (some (.ref a))) (g : GrowB a H H' H0 H0') (l : LstAt K H' H0' a es) :
    Rel K x σ H' H0' (putAt ρ i es) := by
  have hm := (mutAt_at r h).1
  have he : x.He a = none ∨ x.io i = some a := by
    rcases hm with ⟨ds, e⟩ | ⟨ds, e⟩
    · obtain ⟨b, h1, h2, _⟩ := r.own i ds e; rw [ha] at h1; cases h1; exact .inl h2
    · obtain ⟨b, h0, h1, _⟩ := r.ino i ds e; rw [ha] at h1; cases h1; exact .inr h0
  have ne : ∀ j b, j ≠ i → mutS ρ j → σ[j]? = some (some (.ref b)) → b ≠ a := fun j b n m q z => r.apart j i b n m hm q (by rw [z]; exact ha)
  have big : ∀ b o, x.He b = some o → ∃ u, H b = some u := fun b o hb => by
    by_cases hi : ∀ i, x.io i ≠ some b
    · exact ⟨o, r.ent b o hb hi⟩
    · obtain ⟨i, hi⟩ := Classical.not_forall.mp hi
      have hi : x.io i = some b := Classical.not_not.mp hi
      obtain ⟨ds, e⟩ := r.iow i b hi
      obtain ⟨b', q1, q2, q3, vs, q4, q5⟩ := r.ino i ds e
      rw [hi] at q1; cases q1
      exact ⟨_, q4⟩
  have ms : ∀ j, mutS (putAt ρ i es) j → mutS ρ j := fun j m => by
    by_cases hj : j = i
    · rw [hj]; exact hm
    · have e : (putAt ρ i es)[j]? = ρ[j]? := by
        unfold putAt; split
        · rw [List.getElem?_set_ne (Ne.symm hj)]
        · rw [List.getElem?_set_ne (Ne.symm hj)]
        · rfl
      unfold mutS at m ⊢; rw [e] at m; exact m
  have oth : ∀ j, j ≠ i → (putAt ρ i es)[j]? = ρ[j]? := fun j hj => by
    unfold putAt; split
    · rw [List.getElem?_set_ne (Ne.symm hj)]
    · rw [List.getElem?_set_ne (Ne.symm hj)]
    · rfl
  have len : (putAt ρ i es).length = ρ.length := by unfold putAt; split <;> simp
  have self : ∀ y, (putAt ρ i es)[i]? = some y → (∃ d, ρ[i]? = some (.own d) ∧ y = .own es) ∨ (∃ d, ρ[i]? = some (.ino d) ∧ y = .ino es) := fun y q => by
    unfold putAt at q; split at q
    · rename_i d e
      rcases get_set q with ⟨_, z, _⟩ | ⟨n, _⟩
      · exact .inl ⟨d, e, z⟩
      · exact absurd rfl n
    · rename_i d e
      rcases get_set q with ⟨_, z, _⟩ | ⟨n, _⟩
      · exact .inr ⟨d, e, z⟩
      · exact absurd rfl n
    · rename_i n1 n2
      rcases hm with ⟨d, e⟩ | ⟨d, e⟩
      · exact absurd e (n1 d)
      · exact absurd e (n2 d)
  refine ⟨g.s', fun b o h1 h2 => ?_, len.trans r.len, fun j d q => ?_, fun j d q => ?_, fun j d q => ?_, fun j b q => ?_, fun j k b n m1 m2 => r.apart j k b n (ms j m1) (ms k m2), fun b o h1 h2 => ?_, fun b o q => ?_⟩
  · refine g.k b o (fun z => ?_) (r.ent b o h1 h2)
    subst z
    rcases he with he | he
    · rw [h1] at he; cases he
    · exact h2 i he
  · by_cases hj : j = i
    · subst hj
      rcases self _ q with ⟨_, _, z⟩ | ⟨_, _, z⟩ <;> cases z
    · rw [oth j hj] at q
      obtain ⟨v, q1, q2⟩ := r.val j d q
      exact ⟨v, q1, q2.mono g.s⟩
  · by_cases hj : j = i
    · subst hj
      rcases self _ q with ⟨d0, e0, z⟩ | ⟨_, _, z⟩
      · cases z
        obtain ⟨b, h1, h2, h3, vs, h4, h5⟩ := r.own j d0 e0
        rw [ha] at h1; cases h1
        exact ⟨a, ha, h2, g.fr a _ h4 h3, l⟩
      · cases z
    · rw [oth j hj] at q
      obtain ⟨b, h1, h2, h3, vs, h4, h5⟩ := r.own j d q
      exact ⟨b, h1, h2, g.fr b _ h4 h3, vs, g.k b _ (ne j b hj (.inl ⟨d, q⟩) h1) h4, h5.mono g.s⟩
  · by_cases hj : j = i
    · subst hj
      rcases self _ q with ⟨_, _, z⟩ | ⟨d0, e0, z⟩
      · cases z
      · cases z
        obtain ⟨b, h0, h1, h3, vs, h4, h5⟩ := r.ino j d0 e0
        rw [ha] at h1; cases h1
        exact ⟨a, h0, ha, g.fr a _ h4 h3, l⟩
    · rw [oth j hj] at q
      obtain ⟨b, h0, h1, h3, vs, h4, h5⟩ := r.ino j d q
      exact ⟨b, h0, h1, g.fr b _ h4 h3, vs, g.k b _ (ne j b hj (.inr ⟨d, q⟩) h1) h4, h5.mono g.s⟩
  · obtain ⟨d, e⟩ := r.iow j b q
    by_cases hj : j = i
    · subst hj
      refine ⟨es, ?_⟩
      unfold putAt
      rw [e]
      exact List.getElem?_set_self (List.getElem?_eq_some_iff.mp e).1
    · exact ⟨d, by rw [oth j hj]; exact e⟩
  · obtain ⟨u, hu⟩ := big b o h1
    exact g.fr b u hu (r.old b o h1 h2)
  · obtain ⟨q1, q2, q3, q4⟩ := r.rsv b o q
    have nb : b ≠ a := fun z => q4 i hm (by rw [z]; exact ha)
    exact ⟨g.k b o nb q1, g.fr b o q1 q2, q3, fun j m => q4 j (ms j m)⟩
/-- the list at a is written -/
theorem GrowB.upd {H H0 : Hp} {a : Addr} {o : HO} (s : Same H0 H) (h : H0 a = none) : GrowB a H (upd H a o) H0 H0 :=
  ⟨fun b u n e => by rw [upd_ne n]; exact e, Same.refl _, fun b u e => by rw [upd_ne (ne_of_none e h)]; exact s _ _ e, fun _ _ _ z => z⟩
def hasS (ρ : En) (i : Nat) : Bool := match ρ[i]? with
  | some (.own _) => true
  | some (.ino _) => true
  | some (.val _) => true
  | _ => false
theorem hasS_at {K : PySem.W.Frag} {x : Fx} {σ : L2.St} {H H0 : Hp} {ρ : En} {i : Nat} (r : Rel K x σ H H0 ρ) (h : hasS ρ i = true) : ∃ v, σ[i]? = some (some v) := by
  unfold hasS at h
  split at h
  · rename_i e; obtain ⟨a, h1, _⟩ := r.own i _ e; exact ⟨_, h1⟩
  · rename_i e; obtain ⟨a, _, h1, _⟩ := r.ino i _ e; exact ⟨_, h1⟩
  · rename_i e; obtain ⟨v, h1, _⟩ := r.val i _ e; exact ⟨_, h1⟩
  · cases h
/-- xs[i], xs a name -/
def ixVar (i : Nat) (g : M Dat) : M Dat := fun ρ => if hasS ρ i = true then (g.bnd fun d => fun ρ' => match listAt ρ' i, d with
  | some ds, .int k => (M.lift (atI ds k)) ρ'
  | _, _ => .stuck) ρ else .stuck
theorem ixN_len {n : Nat} {i : Int} {j : Nat} (h : ixN n i = some j) : j < n := (ixN_seq h).2.1
theorem atI_rep {K : PySem.W.Frag} {H0 : Hp} {vs : List V} {ds : List Dat} {k : Int} {d : Dat} (h : RepA K H0 vs ds) (e : atI ds k = some d) : ∃ v, atI vs k = some v ∧ Rep K H0 v d := by
  unfold atI at e ⊢
  rw [h.length]
  cases q : ixN ds.length k with
  | none => rw [q] at e; cases e
  | some j =>
    rw [q] at e
    exact h.get e
theorem de_ixVar (i : Nat) {x : Str} (hb : DE X W b g) (hp : PlainIx b := by exact fun _ _ => rfl) (hN : X.N[i]? = some x := by rfl) (hv : Vis X.env.scope x := by first | exact Or.inl rfl | exact Or.inr (Or.inl rfl) | exact Or.inr (Or.inr rfl)) (hd : (x == ("__debug__" : Str)) = false := by decide)
    (hcd : (x == ("__classdict__" : Str)) = false := by decide) : DE X W (.Subscript (.Name x p) b pos) (ixVar i g) :=
  PE.imp (pe_ix ix_seq (pe_var hN hv hd hcd) hb hp) fun σ H Q ⟨z, H0, ρ, r, q⟩ => by
    unfold ixVar at q
    split at q
    · rename_i hs
      obtain ⟨v, hv⟩ := hasS_at r hs
      refine ⟨v, hv, part r q fun d y H1 G1 ρ1 r1 s1 hy q1 => ?_⟩
      split at q1
      · rename_i ds k e
        obtain ⟨d, e2, q2⟩ := Run.lift q1
        obtain ⟨a, vs, h1, h2, h3⟩ := listAt_at r1 e
        rw [hv] at h1
        cases h1
        cases hy
        obtain ⟨w, e3, h4⟩ := atI_rep h3 e2
        have q3 := q2 H1 G1 r1 (Same.refl _) w h4
        rcases h2 with h2 | h2
        · exact .inl ⟨a, vs, k, w, rfl, rfl, h2, e3, q3⟩
        · exact .inr (.inl ⟨a, vs, k, w, rfl, rfl, h2, e3, q3⟩)
      · exact q1.elim
    · exact q.elim
/-- len(xs), xs a name -/
def lenVar (i : Nat) : M Dat := fun ρ => match listAt ρ i with
  | some ds => .ok (.int ds.length) ρ
  | none => .stuck
theorem de_lenVar (i : Nat) {x : Str} {p2 : Pos} (hgl : Gl X "len") (hm : X.mg "len" = none) (hN : X.N[i]? = some x := by rfl) (hv : Vis X.env.scope x := by first | exact Or.inl rfl | exact Or.inr (Or.inl rfl) | exact Or.inr (Or.inr rfl)) (hd : (x == ("__debug__" : Str)) = false := by decide)
    (hcd : (x == ("__classdict__" : Str)) = false := by decide) : DE X W (.Call (.Name "len" p) [.Name x p2] [] pos) (lenVar i) :=
  PE.imp (pe_callB call_len_seq hgl hm PySem.boot_len (pa_cons (pe_var hN hv hd hcd) pa_nil)) fun σ H Q ⟨z, H0, ρ, r, q⟩ => by
    unfold lenVar at q
    split at q
    · rename_i ds e
      obtain ⟨a, vs, h1, h2, h3⟩ := listAt_at r e
      refine ⟨_, h1, a, vs, rfl, h2, ?_⟩
      rw [h3.length]
      exact q H H0 r (Same.refl _) _ (.int _)
    · exact q.elim
/-- xs.append(e) -/
def appO (i : Nat) (f : M Dat) : En → O := fun ρ => if hasS ρ i = true then (f ρ).toO fun d ρ' => match mutAt ρ' i with
  | some ds => if ds.length < 1000000 then .nxt (putAt ρ' i (ds ++ [d])) else .stuck
  | none => .stuck else .stuck
/-- xs[k] = e -/
def subO (i : Nat) (g f : M Dat) : En → O := fun ρ => ((f.bnd fun d => fun ρ1 => if hasS ρ1 i = true then (g.bnd fun k => M.ret (d, k)) ρ1 else .stuck) ρ).toO fun dk ρ' => match mutAt ρ' i, dk.2 with
  | some ds, .int k => (match ixN ds.length k with
    | some j => .nxt (putAt ρ' i (ds.set j dk.1))
    | none => .stuck)
  | _, _ => .stuck
theorem ds_sub (i : Nat) {x : Str} {tpos : Pos} (hc : X.calm = true) (he : DE X W e f) (hb : DE X W b g) (hN : X.N[i]? = some x := by rfl) (hv : Vis X.env.scope x := by first | exact Or.inl rfl | exact Or.inr (Or.inl rfl) | exact Or.inr (Or.inr rfl)) (hd : (x == ("__debug__" : Str)) = false := by decide)
    (hcd : (x == ("__classdict__" : Str)) = false := by decide) (hs : swapsWithSole [.Subscript (.Name x p) b tpos] e pos.line X.env = pure false := by rfl) (hw : swappedStores [.Subscript (.Name x p) b tpos] e X.env = pure none := by rfl) (hg : ∀ (t : TSet), PSet X t → PG X (.Subscript (.Name x p) b tpos) (gSub (tVar i) (tD (cc X W) g) t)) :
    DS X W (.Assign [.Subscript (.Name x p) b tpos] e pos) (subO i g f) :=
  PS.imp (ps_asg he (hg _ set_list) hs hw) fun D σ H ⟨z, H0, ρ, r, q⟩ => by
    have q := RunS.part (σ := σ) q
    refine part r q fun d v H1 G1 ρ1 r1 s1 hv q1 => ?_
    split at q1
    · rename_i hs
      obtain ⟨w, hw⟩ := hasS_at r1 hs
      refine ⟨w, hw, part r1 q1 fun k y H2 G2 ρ2 r2 s2 hy q2 => ?_⟩
      have q3 := q2 H2 G2 r2 (Same.refl _)
      dsimp only at q3
      split at q3
      · rename_i ds k e
        split at q3
        · rename_i j ej
          obtain ⟨_, a, h1, h2, vs, h4, h5⟩ := mutAt_at r2 e
          rw [hw] at h1
          cases h1
          cases hy
          refine ⟨a, vs, k, j, rfl, rfl, h4, by rw [h5.length]; exact ej, ?_⟩
          exact q3 σ _ G2 (r2.inout e hw (GrowB.upd r2.sub h2) ⟨_, upd_same, h5.set j (hv.mono s2)⟩) (Same.refl _)
        · exact q3.elim
      · exact q3.elim
    · exact q1.elim
end
end Sv

set_option Elab.async false
set_option linter.all false
set_option maxRecDepth 100000
namespace Sv
open PySem L2 PySem.Spec PyProof.Rows
/-! ## room, and nothing that is being shown already -/
structure RoomG (k : Nat) (A : Around) : Prop where
  r : Room k A
  g : A.guards = some []
theorem RoomG.mono {j k : Nat} {A : Around} (r : RoomG k A) (h : j ≤ k) : RoomG j A := ⟨r.1.mono h, r.2⟩
theorem RoomG.units {k : Nat} {A : Around} (r : RoomG k A) : A.units + 64 < cLine := r.1.units
theorem RoomG.deeper {k : Nat} {A : Around} (r : RoomG (k + 1) A) (env : Env) : RoomG k (A.deeper env) := ⟨r.1.deeper env, r.2⟩
structure FnG (P : Program) (w : World) (K : PySem.W.Frag) (mg : Str → Option Value) (base : Heap) (c : CXT) (k : Nat) (f : Addr) (fd : FuncData) (ps : List Str) (sp : L2.Sp) : Prop where
  len : ∀ vs H Q E, sp vs H Q E → vs.length = ps.length
  run : ∀ (A : Around) (out : List Env) (s : Shared) (H : Hp) (ar : Args) (us : List Value) (vs : List V) (Q : VK) (E : XK), RoomG k A → Env0 P w K mg base A out s H → BindsTo s fd ar (ps.zip us) → Vals vs us → sp vs H Q E → codeAny (model P w) A (.call (.ref f) ar) (CR c out P w H s Q E) s
section
variable {P : Program} {w : World} {K : PySem.W.Frag} {mg : Str → Option Value} {base : Heap} {c : CXT} {k : Nat} {f : Addr} {fd : FuncData} {ps N : List Str} {sp sp' : L2.Sp}
theorem FnG.imp (F : FnG P w K mg base c k f fd ps sp) (h : ∀ vs H Q E, sp' vs H Q E → sp vs H Q E) : FnG P w K mg base c k f fd ps sp' :=
  ⟨fun vs H Q E q => F.len vs H Q E (h vs H Q E q), fun A out s H ar us vs Q E hr he hb hv hs => F.run A out s H ar us vs Q E hr he hb hv (h vs H Q E hs)⟩
/-- a def by its body -/
theorem Fun.okG {x qual : Str} {st : Stmt} (F : Fun K x qual st f fd) (S : FnScope N ps (defScope st)) (len : ∀ vs H Q E, sp vs H Q E → vs.length = ps.length)
    (hB : ∀ (cdv : Value) (A : Around) (out : List Env) (s : Shared) (H : Hp) (vs : List V) (Q : VK) (E : XK), RoomG k (A.deeper (envOfC qual (defScope st) s.heap.objs.size f cdv)) → sp vs H Q E → ∃ t, PSs (cxOf (L2.CX P w) P w K mg base N qual (defScope st) f cdv A out s H E) (defBody st) t ∧ t { nx := fun _ H' => Q .non H', rt := Q } (L2.start N vs) H) :
    FnG P w K mg base (L2.CX P w) (k + 1) f fd ps sp := by
  obtain ⟨oc, od, kV, doc, pm, an, cdv, ct, osl, rfl, lk, hcd⟩ := F.ex
  refine ⟨len, fun A out s H ar us vs Q E hr e0 hb rv hsp => ?_⟩
  have ln := len vs H Q E hsp
  have kin : K.In s.heap := e0.mod.kin.keeps fun b o q => (e0.bs b o q).1
  have nl : s.heap.NoLimit := e0.mod.nolimit.keeps fun b o q => (e0.bs b o q).1
  have pk : ∀ y ∈ ps.zip us, (defScope st).names.lookup y.1 = some .local ∨ ((defScope st).names.lookup y.1 = some .cell ∧ ((cellsFrom (s.heap.objs.size + 1) (defScope st).names []).lookup y.1).isSome = true) := fun y hy => by
    rcases S.par y.1 (List.of_mem_zip (a := y.1) (b := y.2) hy).1 with z | z
    · exact Or.inl z
    · exact Or.inr ⟨z, PySem.W.cellsFrom_some _ _ _ (.inl z)⟩
  refine codeAny_call_function hr.1.depth (kin _ _ lk) rfl S.co S.gen rfl (PySem.W.codeRec_of kin hcd) (hb _ _ _ _ (wpAny_newFunctionEnv_cells S.kind pk fun env he s1 xn => ?_))
  subst he
  refine ⟨nl.keeps xn.toInCall.keep, codeAny_func ?_⟩
  obtain ⟨t, ht, hq⟩ := hB cdv A out s H vs Q E (hr.deeper _) hsp
  have I0 : Inv (cxOf (L2.CX P w) P w K mg base N qual (defScope st) f cdv A out s H E) [] (L2.start N vs) H s1 := inv_start S hr.1.hd e0 ln rv xn
  refine wpAny_mono (ht.run [] s1 (L2.start N vs) H _ I0 hq) (fun fl s' hs => ?_) fun _ _ z => z
  have done : ∀ {τ : L2.St} {H' : Hp} {v : V} {u : Value}, Inv (cxOf (L2.CX P w) P w K mg base N qual (defScope st) f cdv A out s H E) [] τ H' s' → RelV v u → Q v H' → CE out P w H s Q u s' := fun {τ H' v u} J ru q => ⟨v, H', J.os, J.bare, J.base, J.hok, ru, q⟩
  cases fl with
  | next => obtain ⟨τ, H', J, q⟩ := hs; exact done (v := .non) (u := .none) J rfl q
  | ret u => obtain ⟨v, τ, H', J, ru, q⟩ := hs; exact done J ru q
  | brk => obtain ⟨_, _, _, q⟩ := hs; exact q.elim
  | cont => obtain ⟨_, _, _, q⟩ := hs; exact q.elim
end
section
variable {X : Cx} {c : CXT} {k : Nat} {f : Addr} {fd : FuncData} {ps : List Str} {sp : L2.Sp} {dvs : List V} {ds : List Value} {E : L2.St → XK} {x : Str} {p pos : Pos} {e : Expr} {es : List Expr} {t : TA}
theorem runG {pins : List (Addr × Obj)} {σ : L2.St} {H : Hp} {s : Shared} {Q : VK} {us ws : List Value} {vs : List V} {kw : List (Str × Value)} (F : FnG X.prog X.w X.K X.mg X.base c k f fd ps sp) (hr : RoomG k X.A) (hb : BindsTo s fd ⟨us, kw⟩ (ps.zip ws)) (hx : PassesAt c X σ (E σ))
    (I : Inv X pins σ H s) (rv : Vals vs ws) (h : sp vs H Q (E σ)) : codeAny (model X.prog X.w) X.A (.call (.ref f) ⟨us, kw⟩) (callEnd (EP X pins σ Q) X.xe) s := by
  refine codeAny_mono (F.run X.A X.stack s H ⟨us, kw⟩ ws vs Q (E σ) hr I.env0 hb rv h) fun r s' hq => ?_
  match r, hq with
  | .error e, hq => exact hx pins H s e s' I hq
  | .ok (.ret u), hq => exact I.after hq
  | .ok .next, hq => exact False.elim hq
  | .ok .brk, hq => exact False.elim hq
  | .ok .cont, hq => exact False.elim hq
theorem pe_callG (F : FnG X.prog X.w X.K X.mg X.base c k f fd ps sp) (hr : RoomG k X.A) (hg : Gl X x) (hm : X.mg x = some (.ref f)) (hk : PySem.W.keepIn X.K (.ref f) = true) (hb : Binds X.K fd ps ds) (hd : Vals dvs ds) (hx : ∀ σ, PassesAt c X σ (E σ))
    (ha : PA X (e :: es) t) (hdb : (x == ("__debug__" : Str)) = false := by decide) (he : starEach (e :: es) X.env = (false, eval e X.env) :: starEach es X.env := by rfl) (hpl : (backTo pos (starEach es X.env)).any (·.1) = false := by rfl) : PE X (.Call (.Name x p) (e :: es) [] pos) (tCallSD sp dvs E t) := by
  refine ⟨fun pins s σ H Q I h => wpAny_Call_Name_kw (ld_glob I hg hm (PySem.W.callWith_K (h₀ := X.base) I.ok.mod.kin hk (thn (ha.run pos pins s σ H _ I h) fun us s1 ⟨vs, H1, I1, r1, q⟩ => ⟨I1.kIn, ?_⟩) he hpl) hdb)⟩
  have r2 := r1.append hd
  exact wpAny_call (runG F hr (hb s1 us I1.kIn (by rw [← r2.length]; exact F.len _ _ _ _ q)) (hx σ) I1 r2 q)
theorem pe_callG0 (F : FnG X.prog X.w X.K X.mg X.base c k f fd ps sp) (hr : RoomG k X.A) (hg : Gl X x) (hm : X.mg x = some (.ref f)) (hk : PySem.W.keepIn X.K (.ref f) = true) (hb : Binds X.K fd ps []) (hx : ∀ σ, PassesAt c X σ (E σ))
    (ha : PA X (e :: es) t) (hdb : (x == ("__debug__" : Str)) = false := by decide) (he : starEach (e :: es) X.env = (false, eval e X.env) :: starEach es X.env := by rfl) (hpl : (backTo pos (starEach es X.env)).any (·.1) = false := by rfl) : PE X (.Call (.Name x p) (e :: es) [] pos) (tCallS sp E t) :=
  ⟨fun pins s σ H Q I h => (pe_callG F hr hg hm hk hb .nil hx ha hdb he hpl).run pins s σ H Q I (by
    show t σ H fun vs H1 => sp (vs ++ []) H1 Q (E σ)
    simp only [List.append_nil]
    exact h)⟩
end
end Sv

set_option Elab.async false
set_option linter.all false
set_option maxRecDepth 100000
namespace Sv
open PySem L2
/-! ## defs and calls -/
abbrev c0 (K : PySem.W.Frag) (mg : Str → Option Value) : Cc := ⟨K, mg, W0⟩
theorem XAt.cast {c c' : Cc} {H H0 : Hp} {cn : Str} {fs : List (Str × Dat)} {cls : Value} {d : Option Addr} (h : XAt c H H0 cn fs cls d) (hK : c.K = c'.K) (hm : c.mg = c'.mg) : XAt c' H H0 cn fs cls d := by
  obtain ⟨C, h1, h2, h3⟩ := h
  exact ⟨C, hm ▸ h1, h2, hK ▸ h3⟩
/-- what a call of a def that changes none of its arguments gives -/
def OutP (K : PySem.W.Frag) (mg : Str → Option Value) (H H0 : Hp) (o : O) (Q : VK) (E : XK) : Prop := match o with
  | .nxt _ => ∀ H' H0', Grow H H' H0 H0' → Q .non H'
  | .ret d _ => ∀ v H' H0', Grow H H' H0 H0' → Rep K H0' v d → Q v H'
  | .new ds _ => ∀ p H' H0', Grow H H' H0 H0' → H p = none → H0' p = none → LstAt K H' H0' p ds → Q (.ref p) H'
  | .err cn fs _ => ∀ cls d H' H0', Grow H H' H0 H0' → XAt (c0 K mg) H' H0' cn fs cls d → E cls d H'
  | _ => False
def spP (K : PySem.W.Frag) (mg : Str → Option Value) (n : Nat) (G : List Dat → O) : Sp := fun vs H Q E => ∃ H0 ds, Same H0 H ∧ RepA K H0 vs ds ∧ ds.length = n ∧ OutP K mg H H0 (G ds) Q E
/-- the slots at the entry -/
def startE (N : Nat) (ss : List Sl) : En := ss ++ List.replicate (N - ss.length) .un
/-- what a call gives that may change the list at a -/
def OutI (K : PySem.W.Frag) (mg : Str → Option Value) (a : Addr) (H H0 : Hp) (o : O) (Q : VK) (E : XK) : Prop := match o with
  | .nxt ρ => ∃ ys, ρ[0]? = some (.ino ys) ∧ ∀ H' H0', GrowB a H H' H0 H0' → LstAt K H' H0' a ys → Q .non H'
  | .ret d ρ => ∃ ys, ρ[0]? = some (.ino ys) ∧ ∀ v H' H0', GrowB a H H' H0 H0' → LstAt K H' H0' a ys → Rep K H0' v d → Q v H'
  | .new ds ρ => ∃ ys, ρ[0]? = some (.ino ys) ∧ ∀ p H' H0', GrowB a H H' H0 H0' → LstAt K H' H0' a ys → H p = none → H0' p = none → LstAt K H' H0' p ds → Q (.ref p) H'
  | .err cn fs ρ => ∃ ys, ρ[0]? = some (.ino ys) ∧ ∀ cls d H' H0', GrowB a H H' H0 H0' → LstAt K H' H0' a ys → XAt (c0 K mg) H' H0' cn fs cls d → E cls d H'
  | _ => False
def spI (K : PySem.W.Frag) (mg : Str → Option Value) (n : Nat) (G : List Dat → List Dat → O) : Sp := fun vs H Q E => ∃ H0 a xs vs' ds, vs = .ref a :: vs' ∧ Same H0 H ∧ H0 a = none ∧ LstAt K H H0 a xs ∧ RepA K H0 vs' ds ∧ ds.length + 1 = n ∧ OutI K mg a H H0 (G xs ds) Q E
abbrev WE0 (E : XK) : WX := fun cls d _ H => E cls d H
section
variable {K : PySem.W.Frag} {mg : Str → Option Value} {H H0 H' H1 : Hp} {σ : L2.St} {ρ : En}
theorem start_get {N : List Str} {vs : List V} {i : Nat} {v : V} (h : vs[i]? = some v) : (L2.start N vs)[i]? = some (some v) := by
  unfold L2.start
  rw [List.getElem?_append_left (by rw [List.length_map]; exact (List.getElem?_eq_some_iff.mp h).1), List.getElem?_map, h]
  rfl
theorem start_len {N : List Str} {vs : List V} (h : vs.length ≤ N.length) : (L2.start N vs).length = N.length := by
  unfold L2.start; rw [List.length_append, List.length_map, List.length_replicate]; omega
theorem startE_len {N : Nat} {ss : List Sl} (h : ss.length ≤ N) : (startE N ss).length = N := by
  unfold startE; rw [List.length_append, List.length_replicate]; omega
theorem startE_get {N i : Nat} {ss : List Sl} {y : Sl} (h : (startE N ss)[i]? = some y) : ss[i]? = some y ∨ y = .un := by
  unfold startE at h
  by_cases hl : i < ss.length
  · rw [List.getElem?_append_left hl] at h; exact .inl h
  · rw [List.getElem?_append_right (by omega)] at h
    obtain ⟨_, e⟩ := List.getElem?_eq_some_iff.mp h
    rw [List.getElem_replicate] at e
    exact .inr e.symm
abbrev fxP (H H0 : Hp) : Fx := ⟨H, H0, fun _ => none, []⟩
abbrev fxI (H H0 : Hp) (a : Addr) : Fx := ⟨H, H0, fun i => if i = 0 then some a else none, []⟩
theorem rel_startP {N : List Str} {vs : List V} {ds : List Dat} (s : Same H0 H) (h : RepA K H0 vs ds) (hl : ds.length ≤ N.length) : Rel K (fxP H H0) (L2.start N vs) H H0 (startE N.length (ds.map .val)) where
  sub := s
  ent := fun b o e _ => e
  len := by rw [startE_len (by rw [List.length_map]; exact hl), start_len (by rw [h.length]; exact hl)]
  val := fun i d e => by
    rcases startE_get e with e | e
    · rw [List.getElem?_map] at e
      cases q : ds[i]? with
      | none => rw [q] at e; cases e
      | some d' =>
        rw [q] at e; cases e
        obtain ⟨v, h1, h2⟩ := h.get q
        exact ⟨v, start_get h1, h2⟩
    · cases e
  own := fun i es e => by
    rcases startE_get e with e | e
    · rw [List.getElem?_map] at e; cases q : ds[i]? <;> rw [q] at e <;> cases e
    · cases e
  ino := fun i es e => by
    rcases startE_get e with e | e
    · rw [List.getElem?_map] at e; cases q : ds[i]? <;> rw [q] at e <;> cases e
    · cases e
  iow := fun i a e => by cases e
  apart := fun i j a _ m _ => by
    exfalso
    rcases m with ⟨es, e⟩ | ⟨es, e⟩ <;> rcases startE_get e with e | e
    · rw [List.getElem?_map] at e; cases q : ds[i]? <;> rw [q] at e <;> cases e
    · cases e
    · rw [List.getElem?_map] at e; cases q : ds[i]? <;> rw [q] at e <;> cases e
    · cases e
  old := fun a o _ h => h
  rsv := fun a o e => by cases e
theorem rel_startI {N : List Str} {vs : List V} {a : Addr} {xs ds : List Dat} (s : Same H0 H) (h0 : H0 a = none) (l : LstAt K H H0 a xs) (h : RepA K H0 vs ds) (hl : ds.length + 1 ≤ N.length) : Rel K (fxI H H0 a) (L2.start N (.ref a :: vs)) H H0 (startE N.length (.ino xs :: ds.map .val)) where
  sub := s
  ent := fun b o e _ => e
  len := by rw [startE_len (by rw [List.length_cons, List.length_map]; exact hl), start_len (by rw [List.length_cons, h.length]; exact hl)]
  val := fun i d e => by
    rcases startE_get e with e | e
    · cases i with
      | zero => cases e
      | succ i =>
        rw [List.getElem?_cons_succ, List.getElem?_map] at e
        cases q : ds[i]? with
        | none => rw [q] at e; cases e
        | some d' =>
          rw [q] at e; cases e
          obtain ⟨v, h1, h2⟩ := h.get q
          exact ⟨v, start_get (by rw [List.getElem?_cons_succ]; exact h1), h2⟩
    · cases e
  own := fun i es e => by
    rcases startE_get e with e | e
    · cases i with
      | zero => cases e
      | succ i => rw [List.getElem?_cons_succ, List.getElem?_map] at e; cases q : ds[i]? <;> rw [q] at e <;> cases e
    · cases e
  ino := fun i es e => by
    rcases startE_get e with e | e
    · cases i with
      | zero => cases e; exact ⟨a, rfl, start_get rfl, h0, l⟩
      | succ i => rw [List.getElem?_cons_succ, List.getElem?_map] at e; cases q : ds[i]? <;> rw [q] at e <;> cases e
    · cases e
  iow := fun i b e => by
    have e : (if i = 0 then some a else none) = some b := e
    split at e
    · rename_i hi; subst hi; exact ⟨xs, rfl⟩
    · cases e
  apart := fun i j b n m1 m2 => by
    have key : ∀ i, mutS (startE N.length (.ino xs :: ds.map .val)) i → i = 0 := fun i m => by
      cases i with
      | zero => rfl
      | succ i =>
        exfalso
        rcases m with ⟨es, e⟩ | ⟨es, e⟩ <;> rcases startE_get e with e | e
        · rw [List.getElem?_cons_succ, List.getElem?_map] at e; cases q : ds[i]? <;> rw [q] at e <;> cases e
        · cases e
        · rw [List.getElem?_cons_succ, List.getElem?_map] at e; cases q : ds[i]? <;> rw [q] at e <;> cases e
        · cases e
    exact absurd ((key i m1).trans (key j m2).symm) n
  old := fun a o _ h => h
  rsv := fun a o e => by cases e
/-- from the body's end to what the caller wants -/
theorem Rel.growP (r : Rel K (fxP H H0) σ H' H1 ρ) (s : Same H0 H1) : Grow H H' H0 H1 := ⟨fun b o e => r.ent b o e (fun _ z => nomatch z), s, r.sub, fun a o h1 h2 => r.old a o h1 h2⟩
theorem Rel.growI {a : Addr} (r : Rel K (fxI H H0 a) σ H' H1 ρ) (s : Same H0 H1) : GrowB a H H' H0 H1 := ⟨fun b o n e => r.ent b o e fun i z => by
  have z : (if i = 0 then some a else none) = some b := z
  split at z
  · cases z; exact n rfl
  · exact absurd z (by simp), s, r.sub, fun a o h1 h2 => r.old a o h1 h2⟩
theorem Rel.inoI {a : Addr} {ys : List Dat} (r : Rel K (fxI H H0 a) σ H' H1 ρ) (e : ρ[0]? = some (.ino ys)) : LstAt K H' H1 a ys := by
  obtain ⟨b, h0, h1, h2, h3⟩ := r.ino 0 ys e
  have h0 : some a = some b := h0
  cases h0
  exact h3
theorem Rel.inoE {a : Addr} (r : Rel K (fxI H H0 a) σ H' H1 ρ) : ∃ ys, ρ[0]? = some (.ino ys) := r.iow 0 a rfl
end
section
variable {P : Program} {w : World} {K : PySem.W.Frag} {mg : Str → Option Value} {base : Heap}
/-- a def by its body -/
theorem fn_pure {x qual : Str} {st : Stmt} {f : Addr} {fd : FuncData} {N ps : List Str} {k : Nat} {body : En → O} (F : Fun K x qual st f fd) (S : FnScope N ps (defScope st))
    (hb : ∀ (cdv : Value) (A : Around) (outer : List Env) (s : Shared) (H : Hp) (E : XK), RoomG k (A.deeper (PyProof.Rows.envOfC qual (defScope st) s.heap.objs.size f cdv)) → DB (cxOf (L2.CX P w) P w K mg base N qual (defScope st) f cdv A outer s H E) (WE0 E) (defBody st) body) :
    FnG P w K mg base (L2.CX P w) (k + 1) f fd ps (spP K mg ps.length fun ds => body (startE N.length (ds.map .val))) := by
  have hpn : ps.length ≤ N.length := by
    have := S.pre
    have e := congrArg List.length this
    rw [List.length_take] at e
    omega
  refine Fun.okG F S (fun vs H Q E h => ?_) (fun cdv A outer s H vs Q E hr h => ⟨_, hb cdv A outer s H E hr, ?_⟩)
  · obtain ⟨H0, ds, _, h1, h2, _⟩ := h
    rw [h1.length, h2]
  · obtain ⟨H0, ds, s0, h1, h2, q⟩ := h
    refine ⟨fxP H H0, H0, _, rel_startP s0 h1 (by omega), ?_⟩
    have q : OutP K mg H H0 (body (startE N.length (ds.map .val))) Q E := q
    revert q
    generalize body (startE N.length (ds.map .val)) = o
    intro q
    cases o with
    | nxt ρ => exact fun σ H' H1 r s => q H' H1 (r.growP s)
    | ret d ρ => exact fun v σ H' H1 r s hv => q v H' H1 (r.growP s) hv
    | new es ρ => exact fun p σ H' H1 r s he h0 l => q p H' H1 (r.growP s) he h0 l
    | err cn fs ρ => exact fun cls d σ H' H1 r s x => q cls d H' H1 (r.growP s) (x.cast rfl rfl)
    | brk ρ => exact q.elim
    | ctn ρ => exact q.elim
    | stuck => exact q.elim
theorem fn_ino {x qual : Str} {st : Stmt} {f : Addr} {fd : FuncData} {N ps : List Str} {k : Nat} {body : En → O} (F : Fun K x qual st f fd) (S : FnScope N ps (defScope st))
    (hb : ∀ (cdv : Value) (A : Around) (outer : List Env) (s : Shared) (H : Hp) (E : XK), RoomG k (A.deeper (PyProof.Rows.envOfC qual (defScope st) s.heap.objs.size f cdv)) → DB (cxOf (L2.CX P w) P w K mg base N qual (defScope st) f cdv A outer s H E) (WE0 E) (defBody st) body) :
    FnG P w K mg base (L2.CX P w) (k + 1) f fd ps (spI K mg ps.length fun xs ds => body (startE N.length (.ino xs :: ds.map .val))) := by
  have hpn : ps.length ≤ N.length := by
    have := S.pre
    have e := congrArg List.length this
    rw [List.length_take] at e
    omega
  refine Fun.okG F S (fun vs H Q E h => ?_) (fun cdv A outer s H vs Q E hr h => ⟨_, hb cdv A outer s H E hr, ?_⟩)
  · obtain ⟨H0, a, xs, vs', ds, rfl, _, _, _, h1, h2, _⟩ := h
    rw [List.length_cons, h1.length, h2]
  · obtain ⟨H0, a, xs, vs', ds, rfl, s0, h0, l, h1, h2, q⟩ := h
    refine ⟨fxI H H0 a, H0, _, rel_startI s0 h0 l h1 (by omega), ?_⟩
    have q : OutI K mg a H H0 (body (startE N.length (.ino xs :: ds.map .val))) Q E := q
    revert q
    generalize body (startE N.length (.ino xs :: ds.map .val)) = o
    intro q
    cases o with
    | nxt ρ => exact fun σ H' H1 r s => by obtain ⟨ys, e, q⟩ := q; exact q H' H1 (r.growI s) (r.inoI e)
    | ret d ρ => exact fun v σ H' H1 r s hv => by obtain ⟨ys, e, q⟩ := q; exact q v H' H1 (r.growI s) (r.inoI e) hv
    | new es ρ => exact fun p σ H' H1 r s he h0 l => by obtain ⟨ys, e, q⟩ := q; exact q p H' H1 (r.growI s) (r.inoI e) he h0 l
    | err cn fs ρ => exact fun cls d σ H' H1 r s x => by obtain ⟨ys, e, q⟩ := q; exact q cls d H' H1 (r.growI s) (r.inoI e) (x.cast rfl rfl)
    | brk ρ => exact q.elim
    | ctn ρ => exact q.elim
    | stuck => exact q.elim
end
section
variable {X : Cx} {W : WX} {e a b : Expr} {f g : M Dat} {ga : M (List Dat)} {pos p : Pos} {x : Str} {es : List Expr} {k n : Nat} {fa : Addr} {fd : FuncData} {ps : List Str} {G : List Dat → O} {GI : List Dat → List Dat → O} {dvs : List V} {dds : List Dat} {ds : List Value}
def callR (o : O) (ρ : En) : R Dat := match o with
  | .nxt _ => .ok .non ρ
  | .ret d _ => .ok d ρ
  | .new es _ => .ok (.lst es) ρ
  | .err c fs _ => .err c fs ρ
  | _ => .stuck
def callN (o : O) (ρ : En) : R (List Dat) := match o with
  | .new es _ => .ok es ρ
  | .err c fs _ => .err c fs ρ
  | _ => .stuck
def M.call (ga : M (List Dat)) (dds : List Dat) (G : List Dat → O) : M Dat := ga.bnd fun ds ρ => callR (G (ds ++ dds)) ρ
def M.callN (ga : M (List Dat)) (dds : List Dat) (G : List Dat → O) : M (List Dat) := ga.bnd fun ds ρ => Sv.callN (G (ds ++ dds)) ρ
theorem new_at {K : PySem.W.Frag} {y : Fx} {σ : L2.St} {H H0 H' H0' : Hp} {ρ : En} {q : Addr} {ds : List Dat} (r : Rel K y σ H H0 ρ) (h : H q = none) (h0 : H0' q = none) (l : LstAt K H' H0' q ds) : NewAt K y σ H' H0' ρ q ds :=
  ⟨(r.fresh h).1, h0, r.notat h, r.nors h, l⟩
theorem out_callR {y : Fx} {σ : L2.St} {H H0 : Hp} {ρ : En} {o : O} {Q : VK} (r : Rel X.K y σ H H0 ρ) (h : Run (cc X W) y σ H0 (callR o ρ) fun d H' H1 _ => ∀ v, Rep X.K H1 v d → Q v H') : OutP X.K X.mg H H0 o Q (WE W σ) := by
  cases o with
  | nxt _ => exact fun H' H0' g => h H' H0' (g.rel r) g.s _ .non
  | ret d _ => exact fun v H' H0' g hv => h H' H0' (g.rel r) g.s v hv
  | new es _ =>
    intro p H' H0' g hp h0 l
    obtain ⟨G2, r2, s2, h2⟩ := (g.rel r).know (new_at r hp h0 l)
    exact h H' G2 r2 (g.s.trans s2) _ h2
  | err cn fs _ => exact fun cls d H' H0' g x => h cls d H' H0' (g.rel r) g.s (x.cast rfl rfl)
  | brk _ => exact h.elim
  | ctn _ => exact h.elim
  | stuck => exact h.elim
theorem out_callN {y : Fx} {σ : L2.St} {H H0 : Hp} {ρ : En} {o : O} {Q : VK} (r : Rel X.K y σ H H0 ρ) (h : Run (cc X W) y σ H0 (callN o ρ) fun ds H' H1 ρ' => ∀ p, NewAt X.K y σ H' H1 ρ' p ds → Q (.ref p) H') : OutP X.K X.mg H H0 o Q (WE W σ) := by
  cases o with
  | new es _ => exact fun p H' H0' g hp h0 l => h H' H0' (g.rel r) g.s p (new_at r hp h0 l)
  | err cn fs _ => exact fun cls d H' H0' g x => h cls d H' H0' (g.rel r) g.s (x.cast rfl rfl)
  | nxt _ => exact h.elim
  | ret _ _ => exact h.elim
  | brk _ => exact h.elim
  | ctn _ => exact h.elim
  | stuck => exact h.elim
/-- how a def is called: where it stands, what it keeps, how its arguments bind; the defaults' values stand in the written part -/
theorem de_call (tk : Takes X W) (F : FnG X.prog X.w X.K X.mg X.base (L2.CX X.prog X.w) k fa fd ps (spP X.K X.mg n G)) (hr : RoomG k X.A) (hg : Gl X x) (hm : X.mg x = some (.ref fa)) (hk : PySem.W.keepIn X.K (.ref fa) = true) (hb : Binds X.K fd ps []) 
    (hn : ∀ ρ ds ρ', ga ρ = .ok ds ρ' → ds.length = n)
    (ha : DA X W (e :: es) ga) (hdb : (x == ("__debug__" : Str)) = false := by decide) (he : starEach (e :: es) X.env = (false, eval e X.env) :: starEach es X.env := by rfl) (hpl : (backTo pos (starEach es X.env)).any (·.1) = false := by rfl) :
    DE X W (.Call (.Name x p) (e :: es) [] pos) (ga.call [] G) :=
  PE.imp (pe_callG0 F hr hg hm hk hb (fun σ => passAt tk σ) ha hdb he hpl) fun σ H Q ⟨z, H0, ρ, r, q⟩ => by
    refine ⟨z, H0, ρ, r, ?_⟩
    unfold M.call at q
    unfold M.bnd at q
    have hn := hn ρ
    cases eg : ga ρ with
    | ok ds ρ1 =>
      rw [eg] at q
      exact fun H1 G1 r1 s1 vs hv => ⟨G1, ds, r1.sub, hv, hn ds ρ1 eg, by have q2 := out_callR r1 (Run.up q s1); rw [List.append_nil] at q2; exact q2⟩
    | err cn fs ρ1 => rw [eg] at q; exact q
    | stuck => rw [eg] at q; exact q
theorem dn_call (tk : Takes X W) (F : FnG X.prog X.w X.K X.mg X.base (L2.CX X.prog X.w) k fa fd ps (spP X.K X.mg n G)) (hr : RoomG k X.A) (hg : Gl X x) (hm : X.mg x = some (.ref fa)) (hk : PySem.W.keepIn X.K (.ref fa) = true) (hb : Binds X.K fd ps []) 
    (hn : ∀ ρ ds ρ', ga ρ = .ok ds ρ' → ds.length = n)
    (ha : DA X W (e :: es) ga) (hdb : (x == ("__debug__" : Str)) = false := by decide) (he : starEach (e :: es) X.env = (false, eval e X.env) :: starEach es X.env := by rfl) (hpl : (backTo pos (starEach es X.env)).any (·.1) = false := by rfl) :
    DN X W (.Call (.Name x p) (e :: es) [] pos) (ga.callN [] G) :=
  PE.imp (pe_callG0 F hr hg hm hk hb (fun σ => passAt tk σ) ha hdb he hpl) fun σ H Q ⟨z, H0, ρ, r, q⟩ => by
    refine ⟨z, H0, ρ, r, ?_⟩
    unfold M.callN at q
    unfold M.bnd at q
    have hn := hn ρ
    cases eg : ga ρ with
    | ok ds ρ1 =>
      rw [eg] at q
      exact fun H1 G1 r1 s1 vs hv => ⟨G1, ds, r1.sub, hv, hn ds ρ1 eg, by have q2 := out_callN r1 (Run.up q s1); rw [List.append_nil] at q2; exact q2⟩
    | err cn fs ρ1 => rw [eg] at q; exact q
    | stuck => rw [eg] at q; exact q
/-- f(xs, ..), xs a list of one's own that f may change -/
def callI (i : Nat) (o : O) (ρ : En) : R Dat := match o with
  | .nxt ρc => (match (ρc[0]? : Option Sl) with | some (.ino ys) => .ok .non (putAt ρ i ys) | _ => .stuck)
  | .ret d ρc => (match (ρc[0]? : Option Sl) with | some (.ino ys) => .ok d (putAt ρ i ys) | _ => .stuck)
  | .new es ρc => (match (ρc[0]? : Option Sl) with | some (.ino ys) => .ok (.lst es) (putAt ρ i ys) | _ => .stuck)
  | .err c fs ρc => (match (ρc[0]? : Option Sl) with | some (.ino ys) => .err c fs (putAt ρ i ys) | _ => .stuck)
  | _ => .stuck
def M.callI (i : Nat) (ga : M (List Dat)) (G : List Dat → List Dat → O) : M Dat := fun ρ => if hasS ρ i = true then (ga.bnd fun ds ρ1 => match mutAt ρ1 i with
  | some xs => Sv.callI i (G xs ds) ρ1
  | none => .stuck) ρ else .stuck
theorem out_callI {y : Fx} {σ : L2.St} {H H0 : Hp} {ρ : En} {o : O} {Q : VK} {i : Nat} {ad : Addr} {xs : List Dat} (r : Rel X.K y σ H H0 ρ) (hm : mutAt ρ i = some xs) (ha : σ[i]? = some (some (.ref ad)))
    (h : Run (cc X W) y σ H0 (callI i o ρ) fun d H' H1 _ => ∀ v, Rep X.K H1 v d → Q v H') : OutI X.K X.mg ad H H0 o Q (WE W σ) := by
  cases o with
  | nxt ρc =>
    unfold callI at h; dsimp only at h
    split at h
    · rename_i ys e
      exact ⟨ys, e, fun H' H0' g l => h H' H0' (r.inout hm ha g l) g.s _ .non⟩
    · exact h.elim
  | ret d ρc =>
    unfold callI at h; dsimp only at h
    split at h
    · rename_i ys e
      exact ⟨ys, e, fun v H' H0' g l hv => h H' H0' (r.inout hm ha g l) g.s v hv⟩
    · exact h.elim
  | new es ρc =>
    unfold callI at h; dsimp only at h
    split at h
    · rename_i ys e
      refine ⟨ys, e, fun p H' H0' g l hp h0 lp => ?_⟩
      have r2 := r.inout hm ha g l
      have ms : ∀ j, mutS (putAt ρ i ys) j → mutS ρ j := fun j m => by
        by_cases hj : j = i
        · rw [hj]; exact (mutAt_at r hm).1
        · have e : (putAt ρ i ys)[j]? = ρ[j]? := by
            unfold putAt; split
            · rw [List.getElem?_set_ne (Ne.symm hj)]
            · rw [List.getElem?_set_ne (Ne.symm hj)]
            · rfl
          unfold mutS at m ⊢; rw [e] at m; exact m
      obtain ⟨G2, r3, s3, h3⟩ := r2.know (p := p) (ds := es) ⟨(r.fresh hp).1, h0, fun j m => r.notat hp j (ms j m), r.nors hp, lp⟩
      exact h H' G2 r3 (g.s.trans s3) _ h3
    · exact h.elim
  | err cn fs ρc =>
    unfold callI at h; dsimp only at h
    split at h
    · rename_i ys e
      exact ⟨ys, e, fun cls d H' H0' g l x => h cls d H' H0' (r.inout hm ha g l) g.s (x.cast rfl rfl)⟩
    · exact h.elim
  | brk _ => exact h.elim
  | ctn _ => exact h.elim
  | stuck => exact h.elim
theorem de_callI (i : Nat) {y : Str} {p2 : Pos} (tk : Takes X W) (F : FnG X.prog X.w X.K X.mg X.base (L2.CX X.prog X.w) k fa fd ps (spI X.K X.mg n GI)) (hr : RoomG k X.A) (hg : Gl X x) (hm : X.mg x = some (.ref fa)) (hk : PySem.W.keepIn X.K (.ref fa) = true) (hb : Binds X.K fd ps []) 
    (hn : ∀ ρ ds ρ', ga ρ = .ok ds ρ' → ds.length + 1 = n) (ha : DA X W es ga)
    (hN : X.N[i]? = some y := by rfl) (hv : Vis X.env.scope y := by first | exact Or.inl rfl | exact Or.inr (Or.inl rfl) | exact Or.inr (Or.inr rfl)) (hd : (y == ("__debug__" : Str)) = false := by decide)
    (hcd : (y == ("__classdict__" : Str)) = false := by decide) (hdb : (x == ("__debug__" : Str)) = false := by decide) (he : starEach (.Name y p2 :: es) X.env = (false, eval (.Name y p2) X.env) :: starEach es X.env := by rfl) (hpl : (backTo pos (starEach es X.env)).any (·.1) = false := by rfl) :
    DE X W (.Call (.Name x p) (.Name y p2 :: es) [] pos) (M.callI i ga GI) :=
  PE.imp (pe_callG0 F hr hg hm hk hb (fun σ => passAt tk σ) (pa_cons (pe_var hN hv hd hcd) ha he) hdb he hpl) fun σ H Q ⟨z, H0, ρ, r, q⟩ => by
    unfold M.callI at q
    split at q
    · rename_i hs
      obtain ⟨v, hv⟩ := hasS_at r hs
      refine ⟨v, hv, ?_⟩
      refine ⟨z, H0, ρ, r, ?_⟩
      unfold M.bnd at q
      have hn := hn ρ
      cases eg : ga ρ with
      | ok ds ρ1 =>
        rw [eg] at q
        intro H1 G1 r1 s1 vs hvs
        have q1 := Run.up q s1
        dsimp only at q1
        split at q1
        · rename_i xs e
          obtain ⟨_, a, h1, h2, l⟩ := mutAt_at r1 e
          rw [hv] at h1
          cases h1
          exact ⟨G1, a, xs, vs, ds, rfl, r1.sub, h2, l, hvs, hn ds ρ1 eg, out_callI r1 e hv q1⟩
        · exact q1.elim
      | err cn fs ρ1 => rw [eg] at q; exact q
      | stuck => rw [eg] at q; exact q
    · exact q.elim
theorem cons_len {n : Nat} (h : ∀ ρ ds ρ', ga ρ = .ok ds ρ' → ds.length = n) : ∀ ρ ds ρ', (f.cons ga) ρ = .ok ds ρ' → ds.length = n + 1 := by
  intro ρ ds ρ' e
  unfold M.cons M.bnd at e
  cases e1 : f ρ with
  | ok d ρ1 =>
    rw [e1] at e; dsimp only at e
    cases e2 : ga ρ1 with
    | ok es ρ2 =>
      rw [e2] at e; dsimp only at e
      cases e
      rw [List.length_cons, h _ _ _ e2]
    | err _ _ _ => rw [e2] at e; cases e
    | stuck => rw [e2] at e; cases e
  | err _ _ _ => rw [e1] at e; cases e
  | stuck => rw [e1] at e; cases e
theorem nil_len : ∀ ρ ds ρ', (M.ret ([] : List Dat)) ρ = .ok ds ρ' → ds.length = 0 := by
  intro ρ ds ρ' e; cases e; rfl
end
end Sv

set_option Elab.async false
set_option linter.all false
set_option maxRecDepth 100000
set_option maxHeartbeats 1000000
/-! ## xs[::-1] of a tuple -/
namespace HT
open PySem PySem.Spec PyProof.Rows
section
variable {prog : Program} {w : World} {A : Around} {E : Value → Shared → Prop} {s : Shared}
theorem sliceApplied_rev {sl : Addr} {vs : Value} {n : Nat} {Q : Int × Int × Nat → Shared → Prop} (hs : s.heap.IsSliceOf sl .none .none vs) (ps : IsPart vs (some (-1)))
    (h : Q ((n : Int) - 1, -1, n) s) : wpAny (model prog w) A (Builtin.Slice.sliceApplied (.ref sl) (pure (n : Int))) Q E s := by
  obtain ⟨os, hos, hcs, hds⟩ := id hs
  unfold Builtin.Slice.sliceApplied Builtin.Slice.sliceFields
  refine wpAny_bind (wpAny_bind (wpAny_field hos hds (x := .none) rfl (wpAny_bind (wpAny_field hos hds (x := .none) rfl (wpAny_bind (wpAny_field hos hds (x := vs) rfl (wpAny_pure ?_)))))))
  refine wpAny_bind (slicePart_ ps ?_)
  show wpAny _ _ (if ((-1 : Int) == 0) = true then _ else _) _ _ s
  rw [if_neg (by decide)]
  refine wpAny_bind (slicePart_none (wpAny_bind (slicePart_none (wpAny_bind (wpAny_pure ?_)))))
  show wpAny _ _ (match Builtin.Slice.sliceAdjust none none (-1) (n : Int) with | (lo, hi) => pure (lo, (-1 : Int), Builtin.Slice.slicePlaces lo hi (-1))) _ _ s
  have e1 : Builtin.Slice.sliceAdjust none none (-1) (n : Int) = ((n : Int) - 1, -1) := by
    unfold Builtin.Slice.sliceAdjust; simp
  have e2 : Builtin.Slice.slicePlaces ((n : Int) - 1) (-1) (-1) = n := by
    unfold Builtin.Slice.slicePlaces
    have h1 : ¬ ((-1 : Int) > 0) := by decide
    rw [if_neg h1]
    by_cases h : (n : Int) - 1 > -1
    · rw [if_pos h, show (- -1 : Int) = 1 by decide, Int.ediv_one]; omega
    · rw [if_neg h]; omega
  rw [e1]
  show wpAny _ _ (pure ((n : Int) - 1, (-1 : Int), Builtin.Slice.slicePlaces ((n : Int) - 1) (-1) (-1))) _ _ s
  rw [e2]
  exact wpAny_pure h
theorem fm_congr {f g : Nat → Option Value} : ∀ (l : List Nat), (∀ m ∈ l, f m = g m) → l.filterMap f = l.filterMap g
  | [], _ => rfl
  | m :: l, h => by rw [List.filterMap_cons, List.filterMap_cons, h m List.mem_cons_self, fm_congr l fun k hk => h k (List.mem_cons_of_mem _ hk)]
theorem pick_rev (xs : Array Value) : ((List.range xs.size).filterMap fun (m : Nat) => xs[(((xs.size : Nat) : Int) - 1 + (m : Int) * -1).toNat]?).toArray = xs.toList.reverse.toArray := by
  have e : ((List.range xs.size).filterMap fun (m : Nat) => xs[(((xs.size : Nat) : Int) - 1 + (m : Int) * -1).toNat]?) = ((List.range xs.size).map fun k => xs.size - 1 - k).filterMap (xs[·]?) := by
    rw [List.filterMap_map]
    refine fm_congr _ fun m hm => ?_
    have h := List.mem_range.mp hm
    have : (((xs.size : Nat) : Int) - 1 + (m : Int) * -1).toNat = xs.size - 1 - m := by omega
    rw [this]
    rfl
  rw [e, PySem.W.krv_range, List.filterMap_reverse, PySem.W.krv_all]
theorem getItem_tuple_rev {t sl : Addr} {items : Array Value} {vs : Value} {Q : Value → Shared → Prop} (ht : IsTup s.heap t items) (hs : s.heap.IsSliceOf sl .none .none vs) (ps : IsPart vs (some (-1)))
    (h : Q (.ref s.heap.objs.size) { s with heap := s.heap.push { cls := .type "tuple", data := .seq items.toList.reverse.toArray } })
    (hsz : items.size ≤ sizeLine) : wpAny (model prog w) A (getItem (.ref t) (.ref sl)) Q E s := by
  have htake : sizeOk (.seq items.toList.reverse.toArray) := by
    show items.toList.reverse.toArray.size ≤ sizeLine
    rw [List.size_toArray, List.length_reverse, Array.length_toList]
    exact hsz
  obtain ⟨os, hos, hcs, hds⟩ := id hs
  have hTs : s.TypeIs (.ref sl) "slice" := ⟨os, hos, hcs⟩
  unfold getItem
  try with_reducible refine wpAny_holding ?_
  first | refine wpAny_bind (wpAny_pure ?_) | skip
  refine wpAny_bind (wpAny_sequenceKey ht.typeIs (by decide) ?_)
  refine wpAny_bind (wpAny_callSpecial?_slot (name := Str.ofString "__getitem__") ht.typeIs PyProof.Rows.slot_tuple_getitem
    (wpAny_call_entry PyProof.Rows.slot_tuple_getitem ht.typeIs entry_tuple_getitem ?_ (args_tuple_getitem _ _)))
  show wpAny _ _ (Builtin.Tuple.tupleItemsOf (.ref t) >>= _) _ _ s
  refine wpAny_bind (tupleItemsOf_ ht ?_)
  refine wpAny_bind (wpAny_typeOf hTs ?_)
  rw [if_pos (by decide)]
  refine wpAny_bind (sliceApplied_rev hs ps ?_)
  have hno : ¬ ((((items.size : Nat) : Int) - 1 == 0 && (-1 : Int) == 1 && items.size == items.size) = true) := by
    intro q
    rw [Bool.and_eq_true, Bool.and_eq_true] at q
    exact absurd q.1.2 (by decide)
  show wpAny _ _ (if (((items.size : Nat) : Int) - 1 == 0 && (-1 : Int) == 1 && items.size == items.size) = true then _ else _) _ _ s
  rw [if_neg hno, pick_rev]
  first
    | exact wpAny_bind (m := Builtin.Tuple.tupleExact _) (wpAny_newObj_type (wpAny_pure ⟨_, rfl, wpAny_pure h⟩) htake)
    | exact wpAny_bind (m := Builtin.Tuple.tupleExact _) (wpAny_newObj_type (wpAny_bind (wpAny_pure (wpAny_pure ⟨_, rfl, wpAny_pure h⟩))) htake)
    | exact wpAny_bind (wpAny_bind (m := Builtin.Tuple.tupleExact _) (wpAny_newObj_type (wpAny_pure (wpAny_pure ⟨_, rfl, wpAny_pure h⟩)) htake))
    | exact wpAny_bind (wpAny_bind (m := Builtin.Tuple.tupleExact _) (wpAny_newObj_type (wpAny_pure ⟨_, rfl, wpAny_pure h⟩) htake))
end
end HT
namespace Sv
open PySem L2 PyProof.Rows
def tRevA (K : PySem.W.Frag) (te : TE) : TE := fun σ H Q => te σ H fun x H1 => ∃ a xs, x = .ref a ∧ ((SqL K H1 a xs ∧ ∀ p, H1 p = none → Q (.ref p) (upd H1 p (.lst xs.reverse))) ∨ (SqT K H1 a xs ∧ ∀ (p : Addr) (o : Obj), H1 p = none → o.dict = none → Q (.ref p) (upd H1 p (.frz o (.tup xs.reverse)))))
section
variable {X : Cx} {W : WX}
theorem pe_revA {e : Expr} {te : TE} {k : Nat} {p1 p2 p3 pos : Pos} (he : PE X e te) : PE X (.Subscript e (.Slice none none (some (.UnaryOp .USub (.Constant (.int 1) k p1) p2)) p3) pos) (tRevA X.K te) := by
  refine ⟨fun pins s σ H Q I h => ?_⟩
  refine Subscript_ (thn (he.run pins s σ H _ I h) fun v s1 ⟨x, H1, I1, r1, q1⟩ => ?_)
  obtain ⟨a, xs, ex, hx⟩ := q1
  subst ex
  cases r1
  have hst : PO X (some (.UnaryOp .USub (.Constant (.int 1) k p1) p2)) (tPart (tUn (rU fun i => .int (-i)) (tC (.int 1)))) := po_some (pe_un un_neg pe_int)
  refine wpAny_Slice (thn (po_none.run pins s1 σ H1 (fun o H2 => o = none ∧ H2 = H1) I1 ⟨rfl, rfl⟩) fun vl s2 ⟨l, H2, I2, pl, el, e2⟩ => ?_)
  subst el e2
  refine thn (po_none.run pins s2 σ H2 (fun o H3 => o = none ∧ H3 = H2) I2 ⟨rfl, rfl⟩) fun vu s3 ⟨u, H3, I3, pu, eu, e3⟩ => ?_
  subst eu e3
  refine thn (hst.run pins s3 σ H3 (fun o H4 => o = some (-1) ∧ H4 = H3) I3 ⟨1, rfl, -1, rfl, rfl, rfl⟩) fun vs s4 ⟨o, H4, I4, ps, eo, e4⟩ => ?_
  subst eo e4
  have I5 : Inv X pins σ H4 { s4 with heap := s4.heap.push { cls := .type "slice", data := .fields #[vl, vu, vs] } } := I4.kept (t' := s4.toks) fun b ob q => Heap.get?_push_of_some _ q
  show wpAny (model X.prog X.w) X.A (subscriptTail e (.Slice none none (some (.UnaryOp .USub (.Constant (.int 1) k p1) p2)) p3) (.ref a) (.ref s4.heap.objs.size)) (EP X pins σ Q) X.xe { s4 with heap := s4.heap.push { cls := .type "slice", data := .fields #[vl, vu, vs] } }
  rcases hx with ⟨hx, q⟩ | ⟨hx, q⟩
  · obtain ⟨its, r, ht, hz⟩ := I5.list hx
    have hlen := r.length
    refine tail_any (ops := [.ref a, .ref s4.heap.objs.size]) ht.isList.typeIs (PySem.slot_list_getitem.lookup) ?_ (by with_unfolding_all rfl)
    refine wpAny_getItem_list_slice ht.isList (Heap.IsSliceOf.new _ vl vu vs) pl pu ps (by decide) ?_ (by rw [List.size_toArray]; omega)
    rw [PySem.W.krv_pick]
    refine ⟨.ref _, _, I5.laid (t' := s4.toks) (o := .lst xs.reverse) (fun b ob q => Heap.get?_push_of_some _ q) (Nat.le_refl _) ?_, rfl, q _ (I5.hok.fresh (Nat.le_refl _))⟩
    exact ⟨by rw [List.length_reverse]; exact hz, _, 0, r.reverse, Heap.get?_push_size _ rfl⟩
  · obtain ⟨its, r, ht, hz⟩ := I5.tuple hx
    have hlen := r.length
    cases pl
    cases pu
    refine tail_any (ops := [.ref a, .ref s4.heap.objs.size]) ht.typeIs (PyProof.Rows.slot_tuple_getitem.lookup) ?_ (by with_unfolding_all rfl)
    refine HT.getItem_tuple_rev ht (Heap.IsSliceOf.new _ .none .none vs) ps ?_ (by rw [List.size_toArray]; omega)
    exact ⟨.ref _, _, tupO_laid (t' := s4.toks) I5 (fun b ob q => Heap.get?_push_of_some _ q) (Nat.le_refl _) (Heap.get?_push_size _ rfl) r.reverse (by rw [List.length_reverse]; exact hz), rfl, q _ _ (I5.hok.fresh (Nat.le_refl _)) rfl⟩
def revD : Dat → Option Dat
  | .lst ds => some (.lst ds.reverse)
  | .tup ds => some (.tup ds.reverse)
  | _ => none
variable {e a b : Expr} {f g : M Dat} {pos p : Pos}
theorem de_rev {k : Nat} {p1 p2 p3 : Pos} (he : DE X W e f) : DE X W (.Subscript e (.Slice none none (some (.UnaryOp .USub (.Constant (.int 1) k p1) p2)) p3) pos) (f.un1 revD) :=
  PE.imp (pe_revA he) fun σ H Q ⟨z, H0, ρ, r, q⟩ => part r q fun d v H1 G1 ρ1 r1 s1 hv q1 => by
    obtain ⟨dz, e, q2⟩ := Run.lift q1
    cases d with
    | lst ds =>
      cases e
      cases hv with
      | @lst a vs _ h1 h2 =>
        refine ⟨a, vs, rfl, .inl ⟨.inl (sameRd r1.sub h1), fun p hp => ?_⟩⟩
        have g := Grow.new (o := .lst vs.reverse) r1.sub hp
        exact q2 _ _ (g.rel r1) g.s _ (Rep.newL (r1.sub.free hp) h2.rev)
    | tup ds =>
      cases e
      cases hv with
      | @tup a vs _ h1 h2 =>
        refine ⟨a, vs, rfl, .inr ⟨sameT r1.sub h1.sq, fun p o hp hd => ?_⟩⟩
        have g := Grow.new (o := .frz o (.tup vs.reverse)) r1.sub hp
        exact q2 _ _ (g.rel r1) g.s _ (Rep.newT (r1.sub.free hp) hd h2.rev)
    | _ => cases e
/-! ## operators by data -/
theorem OpR.or {h : Value → Value → Sem Value} {r r' : R2} (a : OpR X h r) (b : OpR X h r') : OpR X h (fun x y H Q => r x y H Q ∨ r' x y H Q) := fun pins s σ H x y v u Q I rx ry q =>
  q.elim (fun q => a pins s σ H x y v u Q I rx ry q) fun q => b pins s σ H x y v u Q I rx ry q
theorem Snd2.int0 {K : PySem.W.Frag} {gv : Int → Int → V} {gd : Int → Int → Dat} (h : ∀ i j H0, Rep K H0 (gv i j) (gd i j)) : Snd2 K (rI0 gv) (fun x y => match x, y with | .int i, .int j => some (gd i j) | _, _ => none) := by
  intro H H0 x y dx dy dz Q s hx hy e q
  cases dx <;> cases dy <;> cases e
  cases hx; cases hy
  exact ⟨_, _, rfl, rfl, q _ H H0 (Grow.refl s) (h _ _ _)⟩
def iop (c : Int → Int → Bool) (g : Int → Int → Int) : Dat → Dat → Option Dat
  | .int i, .int j => if c i j = true then some (.int (g i j)) else none
  | _, _ => none
theorem Snd2.intC {K : PySem.W.Frag} {C : Int → Int → Prop} {c : Int → Int → Bool} {g : Int → Int → Int} (h : ∀ i j, c i j = true → C i j) : Snd2 K (rI C fun i j => .int (g i j)) (iop c g) := by
  intro H H0 x y dx dy dz Q s hx hy e q
  cases dx with
  | int i =>
    cases dy with
    | int j =>
      cases hx; cases hy
      have e : (if c i j = true then some (Dat.int (g i j)) else none) = some dz := e
      by_cases hc : c i j = true
      · rw [if_pos hc] at e
        cases e
        exact ⟨_, _, rfl, rfl, h _ _ hc, q _ H H0 (Grow.refl s) (.int _)⟩
      · rw [if_neg hc] at e; cases e
    | _ => cases e
  | _ => cases e
def bop (g : Int → Int → Bool) : Dat → Dat → Option Dat
  | .int i, .int j => some (.bl (g i j))
  | _, _ => none
theorem Snd2.bop {K : PySem.W.Frag} {g : Int → Int → Bool} : Snd2 K (rI0 fun i j => .bl (g i j)) (Sv.bop g) := by
  intro H H0 x y dx dy dz Q s hx hy e q
  cases dx <;> cases dy <;> cases e
  cases hx; cases hy
  exact ⟨_, _, rfl, rfl, q _ H H0 (Grow.refl s) (.bl _)⟩
/-- list + list, of known ones -/
def rCatR : R2 := fun x y H Q => ∃ l b xs zs, x = .ref l ∧ y = .ref b ∧ Rd H l (.lst xs) ∧ Rd H b (.lst zs) ∧ xs.length + zs.length ≤ sizeLine ∧ ∀ p, H p = none → Q (.ref p) (upd H p (.lst (xs ++ zs)))
theorem op_catR : OpR X (binaryOp .Add) rCatR := by
  intro pins s σ H x y v u Q I rx ry h
  obtain ⟨l, b, xs, zs, rfl, rfl, hH, hB, hz, q⟩ := h
  cases rx
  cases ry
  obtain ⟨z, its, n, r, e⟩ := hH.ok I.hok
  obtain ⟨z2, its2, n2, r2, e2⟩ := hB.ok I.hok
  have l1 := r.length
  have l2 := r2.length
  refine PySem.P.add_list e e2 ?_ (by rw [List.size_toArray, List.size_toArray]; omega)
  have ea : its.toArray ++ its2.toArray = (its ++ its2).toArray := by simp
  rw [ea]
  exact ⟨.ref _, _, I.lnew (t' := s.toks) (r.append r2) (by rw [List.length_append]; omega), rfl, q _ I.fresh⟩
/-- tuple + tuple, its object known -/
def rCatF (K : PySem.W.Frag) : R2 := fun x y H Q => ∃ a b xs ys, x = .ref a ∧ y = .ref b ∧ SqT K H a xs ∧ SqT K H b ys ∧ xs.length + ys.length ≤ sizeLine ∧
  (xs = [] → Q (.ref b) H) ∧ (xs ≠ [] → ys = [] → Q (.ref a) H) ∧ (xs ≠ [] → ys ≠ [] → ∀ (p : Addr) (o : Obj), H p = none → o.dict = none → Q (.ref p) (upd H p (.frz o (.tup (xs ++ ys)))))
theorem op_catF : OpR X (binaryOp .Add) (rCatF X.K) := by
  intro pins s σ H x y v u Q I rx ry h
  obtain ⟨a, b, xs, ys, rfl, rfl, ha, hb, hz, q0, q1, q2⟩ := h
  cases rx
  cases ry
  obtain ⟨its, r1, p1, _⟩ := I.tuple ha
  obtain ⟨its2, r2, p2, _⟩ := I.tuple hb
  by_cases hx : xs = []
  · subst hx
    cases r1
    exact cat_tup0 p1 p2 ⟨.ref b, H, I, rfl, q0 rfl⟩
  · refine HT.cat_tup p1 p2 (fun z => hx (r1.nil_iff.mp z)) (fun z => ⟨.ref a, H, I, rfl, q1 hx (r2.nil_iff.mp z)⟩) (fun z => ?_) (by rw [← r1.length, ← r2.length]; exact hz)
    exact ⟨.ref s.heap.objs.size, _, tupO_laid (t' := s.toks) I (fun b ob q => Heap.get?_push_of_some _ q) (Nat.le_refl _) (Heap.get?_push_size _ rfl) (r1.append r2) (by rw [List.length_append]; exact hz), rfl, q2 hx (fun w => z (r2.nil_iff.mpr w)) _ _ (I.hok.fresh (Nat.le_refl _)) rfl⟩
def addD : Dat → Dat → Option Dat
  | .int i, .int j => some (.int (i + j))
  | .lst xs, .lst ys => if xs.length + ys.length ≤ 1000000 then some (.lst (xs ++ ys)) else none
  | .tup xs, .tup ys => if xs.length + ys.length ≤ 1000000 then some (.tup (xs ++ ys)) else none
  | _, _ => none
theorem op_addA : OpR X (binaryOp .Add) (fun x y H Q => rI0 (fun i j => .int (i + j)) x y H Q ∨ rCatR x y H Q ∨ rCatF X.K x y H Q) := OpR.or op_add (OpR.or op_catR op_catF)
theorem snd_add {K : PySem.W.Frag} : Snd2 K (fun x y H Q => rI0 (fun i j => .int (i + j)) x y H Q ∨ rCatR x y H Q ∨ rCatF K x y H Q) addD := by
  intro H H0 x y dx dy dz Q s hx hy e q
  cases dx with
  | int i =>
    cases dy <;> first | (cases e; done) | skip
    cases e
    cases hx; cases hy
    exact .inl ⟨_, _, rfl, rfl, q _ H H0 (Grow.refl s) (.int _)⟩
  | lst xs =>
    cases dy with
    | lst ys =>
     have e : (if xs.length + ys.length ≤ 1000000 then some (Dat.lst (xs ++ ys)) else none) = some dz := e
     by_cases hl : xs.length + ys.length ≤ 1000000
     · rw [if_pos hl] at e
       cases e
       cases hx with
       | @lst a vs _ h1 h2 =>
         cases hy with
         | @lst b us _ h3 h4 =>
           refine .inr (.inl ⟨a, b, vs, us, rfl, rfl, sameRd s h1, sameRd s h3, sz (by rw [h2.length, h4.length]; exact hl), fun p hp => ?_⟩)
           exact q _ _ _ (Grow.new s hp) (Rep.newL (s.free hp) (h2.app h4))
     · rw [if_neg hl] at e; cases e
    | _ => cases e
  | tup xs =>
    cases dy with
    | tup ys =>
     have e : (if xs.length + ys.length ≤ 1000000 then some (Dat.tup (xs ++ ys)) else none) = some dz := e
     by_cases hl : xs.length + ys.length ≤ 1000000
     · rw [if_pos hl] at e
       cases e
       cases hx with
       | @tup a vs _ h1 h2 =>
         cases hy with
         | @tup b us _ h3 h4 =>
           refine .inr (.inr ⟨a, b, vs, us, rfl, rfl, sameT s h1.sq, sameT s h3.sq, sz (by rw [h2.length, h4.length]; exact hl), fun z => ?_, fun _ z => ?_, fun _ _ p o hp hd => ?_⟩)
           · subst z; cases h2
             exact q _ H H0 (Grow.refl s) (.tup h3 h4)
           · subst z; cases h4
             rw [List.append_nil] at q
             exact q _ H H0 (Grow.refl s) (.tup h1 h2)
           · exact q _ _ _ (Grow.new s hp) (Rep.newT (s.free hp) hd (h2.app h4))
     · rw [if_neg hl] at e; cases e
    | _ => cases e
  | _ => cases e
theorem de_add (ha : DE X W a f) (hb : DE X W b g) : DE X W (.BinOp a .Add b pos) (f.bin g addD) := de_bin op_addA snd_add ha hb
def subD : Dat → Dat → Option Dat := iop (fun _ _ => true) fun i j => i - j
theorem de_sub (ha : DE X W a f) (hb : DE X W b g) : DE X W (.BinOp a .Sub b pos) (f.bin g subD) :=
  de_bin (r := rI (fun _ _ => True) fun i j => .int (i - j)) (fun pins s σ H x y v u Q I rx ry ⟨i, j, h1, h2, _, q⟩ => op_sub pins s σ H x y v u Q I rx ry ⟨i, j, h1, h2, q⟩) (Snd2.intC fun _ _ _ => trivial) ha hb
def mulD : Dat → Dat → Option Dat := iop (fun i j => decide ((-18446744073709551616 < i ∧ i < 18446744073709551616) ∨ (-18446744073709551616 < j ∧ j < 18446744073709551616))) fun i j => i * j
theorem de_mul (ha : DE X W a f) (hb : DE X W b g) : DE X W (.BinOp a .Mult b pos) (f.bin g mulD) := de_bin op_mul (Snd2.intC fun i j h => by
  have h := of_decide_eq_true h
  unfold CMul
  rcases h with ⟨h1, h2⟩ | ⟨h1, h2⟩
  · exact .inl ⟨by omega, by omega⟩
  · exact .inr ⟨by omega, by omega⟩) ha hb
def modD : Dat → Dat → Option Dat := iop (fun _ j => decide (0 < j)) fun i j => i % j
theorem de_mod (ha : DE X W a f) (hb : DE X W b g) : DE X W (.BinOp a .Mod b pos) (f.bin g modD) := de_bin op_mod (Snd2.intC fun i j h => of_decide_eq_true h) ha hb
def fdivD : Dat → Dat → Option Dat := iop (fun _ j => decide (0 < j ∧ j < 1073741824)) fun i j => i / j
theorem de_fdiv (ha : DE X W a f) (hb : DE X W b g) : DE X W (.BinOp a .FloorDiv b pos) (f.bin g fdivD) := de_bin op_fdiv (Snd2.intC fun i j h => by
  have h := of_decide_eq_true h
  exact h) ha hb
def powD : Dat → Dat → Option Dat := iop (fun i j => decide (0 ≤ j ∧ (Builtin.Int.intBits i : Int) * j ≤ 134217728)) fun i j => i ^ j.toNat
theorem de_pow (ha : DE X W a f) (hb : DE X W b g) : DE X W (.BinOp a .Pow b pos) (f.bin g powD) :=
  de_bin (r := rI (fun i j => 0 ≤ j ∧ (Builtin.Int.intBits i : Int) * j ≤ 2 ^ 27) fun i j => .int (i ^ j.toNat)) (opI fun _ _ _ _ _ _ _ hc q => pow_int hc.1 hc.2 q) (Snd2.intC fun i j h => by
  have h := of_decide_eq_true h
  exact ⟨h.1, by have := h.2; omega⟩) ha hb
def negD : Dat → Option Dat
  | .int i => some (.int (-i))
  | _ => none
theorem de_neg (ha : DE X W a f) : DE X W (.UnaryOp .USub a pos) (f.un1 negD) := de_un un_neg (fun H H0 x dx dz Q s hx e q => by
  cases dx <;> cases e
  cases hx
  exact ⟨_, rfl, q _ H H0 (Grow.refl s) (.int _)⟩) ha
theorem de_lt (ha : DE X W a f) (hb : DE X W b g) : DE X W (.Compare a [.Lt] [b] pos) (f.bin g (bop fun i j => decide (i < j))) := de_cmp op_lt Snd2.bop ha hb (nomark _)
theorem de_le (ha : DE X W a f) (hb : DE X W b g) : DE X W (.Compare a [.LtE] [b] pos) (f.bin g (bop fun i j => decide (i ≤ j))) := de_cmp op_le Snd2.bop ha hb (nomark _)
theorem de_gt (ha : DE X W a f) (hb : DE X W b g) : DE X W (.Compare a [.Gt] [b] pos) (f.bin g (bop fun i j => decide (j < i))) := de_cmp op_gt Snd2.bop ha hb (nomark _)
theorem de_ge (ha : DE X W a f) (hb : DE X W b g) : DE X W (.Compare a [.GtE] [b] pos) (f.bin g (bop fun i j => decide (j ≤ i))) := de_cmp op_ge Snd2.bop ha hb (nomark _)
/-! ### == of data -/
def keyPy : Key → PyData
  | .inl i => .int i
  | .inr x => .str x
mutual
def Dat.py : Dat → PyData
  | .non => .none
  | .bl b => .bool b
  | .int i => .int i
  | .str x => .str x
  | .tup ds => .tuple (Dat.pys ds)
  | .lst ds => .list (Dat.pys ds)
  | .scr ds => .list (Dat.pys ds)
  | .dct ks ds => .dict ((ks.map keyPy).zip (Dat.pys ds))
  | .ins _ _ _ => .none
def Dat.pys : List Dat → List PyData
  | [] => []
  | d :: ds => Dat.py d :: Dat.pys ds
end
/-! neither a dict nor an instance in it -/
mutual
def Dat.plain : Dat → Bool
  | .non => true
  | .bl _ => true
  | .int _ => true
  | .str _ => true
  | .tup ds => Dat.plains ds
  | .lst ds => Dat.plains ds
  | .scr ds => Dat.plains ds
  | .dct _ _ => false
  | .ins _ _ _ => false
def Dat.plains : List Dat → Bool
  | [] => true
  | d :: ds => Dat.plain d && Dat.plains ds
end
mutual
theorem Rep.dp {K : PySem.W.Frag} {H : Hp} : ∀ {d : Dat} {v : V}, d.plain = true → Rep K H v d → Dp K H v d.py
  | .non, _, _, h => by cases h; exact .non
  | .bl b, _, _, h => by cases h; exact .bl b
  | .int i, _, _, h => by cases h; exact .int i
  | .str x, _, _, h => by cases h; exact .str x
  | .tup ds, _, p, h => by
    cases h with
    | tup h1 h2 => exact .tup h1.sq (RepA.dp p h2)
  | .lst ds, _, p, h => by
    cases h with
    | lst h1 h2 => exact .lst (.inl h1) (RepA.dp p h2)
  | .scr ds, _, p, h => by
    cases h with
    | scr h1 h2 => exact .lst h1 (RepA.dp p h2)
  | .dct _ _, _, p, _ => nomatch p
  | .ins _ _ _, _, p, _ => nomatch p
theorem RepA.dp {K : PySem.W.Frag} {H : Hp} : ∀ {ds : List Dat} {vs : List V}, Dat.plains ds = true → RepA K H vs ds → DpAll K H vs (Dat.pys ds)
  | [], _, _, h => by cases h; exact .nil
  | d :: ds, _, p, h => by
    have p : (d.plain && Dat.plains ds) = true := p
    rw [Bool.and_eq_true] at p
    cases h with
    | cons h1 h2 => exact .cons (Rep.dp p.1 h1) (RepA.dp p.2 h2)
end
def eqB (d e : Dat) : Bool := PyData.eqv d.py e.py
def okE (d : Dat) : Bool := d.plain && SeqAt.shaped d.py
theorem okE_plain {d : Dat} (h : okE d = true) : d.plain = true := ((Bool.and_eq_true _ _).mp h).1
theorem okE_shaped {d : Dat} (h : okE d = true) : SeqAt.shaped d.py = true := ((Bool.and_eq_true _ _).mp h).2
def eqD (d e : Dat) : Option Dat := if okE d = true ∧ okE e = true then some (.bl (eqB d e)) else none
def neD (d e : Dat) : Option Dat := if okE d = true ∧ okE e = true then some (.bl (!eqB d e)) else none
theorem snd_eq {K : PySem.W.Frag} : Snd2 K (rEqD K) eqD := by
  intro H H0 x y dx dy dz Q s hx hy e q
  unfold eqD at e
  split at e
  · rename_i h
    cases e
    exact ⟨_, _, (hx.mono s).dp (okE_plain h.1), (hy.mono s).dp (okE_plain h.2), okE_shaped h.1, okE_shaped h.2, q _ H H0 (Grow.refl s) (.bl _)⟩
  · cases e
theorem snd_ne {K : PySem.W.Frag} : Snd2 K (rNeD K) neD := by
  intro H H0 x y dx dy dz Q s hx hy e q
  unfold neD at e
  split at e
  · rename_i h
    cases e
    exact ⟨_, _, (hx.mono s).dp (okE_plain h.1), (hy.mono s).dp (okE_plain h.2), okE_shaped h.1, okE_shaped h.2, q _ H H0 (Grow.refl s) (.bl _)⟩
  · cases e
theorem de_eq (hu : X.A.units + 64 < cLine) (ha : DE X W a f) (hb : DE X W b g) : DE X W (.Compare a [.Eq] [b] pos) (f.bin g eqD) := de_cmp (op_eqD hu) snd_eq ha hb (nomark _)
theorem de_ne (hu : X.A.units + 64 < cLine) (ha : DE X W a f) (hb : DE X W b g) : DE X W (.Compare a [.NotEq] [b] pos) (f.bin g neD) := de_cmp (op_neD hu) snd_ne ha hb (nomark _)
/-! ### is None, in -/
def isN : Dat → Bool
  | .non => true
  | _ => false
theorem isN_rep {K : PySem.W.Frag} {H : Hp} {v : V} {d : Dat} (h : Rep K H v d) : decide (v = .non) = isN d := by
  cases h <;> simp [isN]
def isNoneD (d e : Dat) : Option Dat := match e with
  | .non => some (.bl (isN d))
  | _ => none
def notNoneD (d e : Dat) : Option Dat := match e with
  | .non => some (.bl (!isN d))
  | _ => none
theorem de_isN (ha : DE X W a f) (hb : DE X W b g) : DE X W (.Compare a [.Is] [b] pos) (f.bin g isNoneD) := de_cmp op_isN (fun H H0 x y dx dy dz Q s hx hy e q => by
  cases dy <;> cases e
  cases hy
  exact ⟨rfl, by rw [isN_rep hx]; exact q _ H H0 (Grow.refl s) (.bl _)⟩) ha hb (nomark _)
theorem de_notN (ha : DE X W a f) (hb : DE X W b g) : DE X W (.Compare a [.IsNot] [b] pos) (f.bin g notNoneD) := de_cmp op_notN (fun H H0 x y dx dy dz Q s hx hy e q => by
  cases dy <;> cases e
  cases hy
  exact ⟨rfl, by rw [isN_rep hx]; exact q _ H H0 (Grow.refl s) (.bl _)⟩) ha hb (nomark _)
/-- what is flat -/
def flatD : Dat → Bool
  | .tup _ => false
  | .lst _ => false
  | .scr _ => false
  | .dct _ _ => false
  | .ins _ _ _ => false
  | _ => true
def eqF : Dat → Dat → Bool
  | .non, .non => true
  | .bl a, .bl b => a == b
  | .bl a, .int b => (if a then 1 else 0) == b
  | .int a, .bl b => a == (if b then 1 else 0)
  | .int a, .int b => a == b
  | .str a, .str b => a == b
  | _, _ => false
theorem flat_rep {K : PySem.W.Frag} {H : Hp} {v : V} {d : Dat} (h : Rep K H v d) : flatV v = flatD d := by cases h <;> rfl
theorem flat_all {K : PySem.W.Frag} {H : Hp} : ∀ {ds : List Dat} {vs : List V}, RepA K H vs ds → vs.all flatV = ds.all flatD
  | [], _, .nil => rfl
  | d :: ds, _, .cons h1 h2 => by rw [List.all_cons, List.all_cons, flat_rep h1, flat_all h2]
theorem eqF_rep {K : PySem.W.Frag} {H H' : Hp} {v u : V} {d e : Dat} (h : Rep K H v d) (h' : Rep K H' u e) : eqV v u = eqF d e := by cases h <;> cases h' <;> rfl
theorem in_rep {K : PySem.W.Frag} {H H' : Hp} {u : V} {e : Dat} (h' : Rep K H' u e) : ∀ {ds : List Dat} {vs : List V}, RepA K H vs ds → (vs.any fun y => eqV y u) = ds.any fun y => eqF y e
  | [], _, .nil => rfl
  | d :: ds, _, .cons h1 h2 => by rw [List.any_cons, List.any_cons, eqF_rep h1 h', in_rep h' h2]
def inD (d e : Dat) : Option Dat := match items e with
  | some ds => if flatD d = true ∧ ds.all flatD = true then some (.bl (ds.any fun y => eqF y d)) else none
  | none => none
theorem de_in (ha : DE X W a f) (hb : DE X W b g) (hm : behindInMarks .In b = false := by rfl) : DE X W (.Compare a [.In] [b] pos) (f.bin g inD) := de_cmp op_in_seq (fun H H0 x y dx dy dz Q s hx hy e q => by
  unfold inD at e
  cases dy with
  | tup ds =>
    dsimp only [items] at e
    split at e
    · rename_i h
      cases e
      cases hy with
      | @tup a vs _ h1 h2 =>
        refine ⟨a, vs, rfl, .inr (sameT s h1.sq), (flat_rep hx).trans h.1, (flat_all h2).trans h.2, ?_⟩
        rw [if_neg Bool.false_ne_true]
        unfold inV
        rw [in_rep hx h2]
        exact q _ H H0 (Grow.refl s) (.bl _)
    · cases e
  | lst ds =>
    dsimp only [items] at e
    split at e
    · rename_i h
      cases e
      cases hy with
      | @lst a vs _ h1 h2 =>
        refine ⟨a, vs, rfl, .inl (.inl (sameRd s h1)), (flat_rep hx).trans h.1, (flat_all h2).trans h.2, ?_⟩
        rw [if_neg Bool.false_ne_true]
        unfold inV
        rw [in_rep hx h2]
        exact q _ H H0 (Grow.refl s) (.bl _)
    · cases e
  | _ => cases e) ha hb hm
/-! ### subscripts, built-ins -/
def itemsS : Dat → Option (List Dat)
  | .tup ds => some ds
  | .lst ds => some ds
  | .scr ds => some ds
  | _ => none
def ixD (d e : Dat) : Option Dat := match itemsS d, e with
  | some ds, .int k => atI ds k
  | _, _ => none
theorem snd_ix {K : PySem.W.Frag} : Snd2 K (rIx K) ixD := by
  intro H H0 x y dx dy dz Q s hx hy e q
  unfold ixD at e
  cases dx with
  | tup ds =>
    cases dy <;> try cases e
    dsimp only [itemsS] at e
    cases hy
    cases hx with
    | @tup a vs _ h1 h2 =>
      obtain ⟨w, e3, h4⟩ := atI_rep h2 e
      exact .inr (.inl ⟨a, vs, _, w, rfl, rfl, sameT s h1.sq, e3, q _ H H0 (Grow.refl s) h4⟩)
  | lst ds =>
    cases dy <;> try cases e
    dsimp only [itemsS] at e
    cases hy
    cases hx with
    | @lst a vs _ h1 h2 =>
      obtain ⟨w, e3, h4⟩ := atI_rep h2 e
      exact .inl ⟨a, vs, _, w, rfl, rfl, .inl (sameRd s h1), e3, q _ H H0 (Grow.refl s) h4⟩
  | scr ds =>
    cases dy <;> try cases e
    dsimp only [itemsS] at e
    cases hy
    cases hx with
    | @scr a vs _ h1 h2 =>
      obtain ⟨w, e3, h4⟩ := atI_rep h2 e
      exact .inl ⟨a, vs, _, w, rfl, rfl, sameL s h1, e3, q _ H H0 (Grow.refl s) h4⟩
  | _ => cases e
theorem de_at (ha : DE X W a f) (hb : DE X W b g) (hp : PlainIx b := by exact fun _ _ => rfl) : DE X W (.Subscript a b pos) (f.bin g ixD) := de_ix ix_seq snd_ix ha hb hp
variable {es : List Expr} {ga : M (List Dat)}
def lenD : List Dat → Option Dat
  | [.tup ds] => some (.int ds.length)
  | [.lst ds] => some (.int ds.length)
  | [.scr ds] => some (.int ds.length)
  | _ => none
theorem de_len (hg : Gl X "len") (hm : X.mg "len" = none) (ha : DA X W [e] ga) (he : starEach [e] X.env = (false, eval e X.env) :: starEach [] X.env := by rfl) : DE X W (.Call (.Name "len" p) [e] [] pos) (ga.bi lenD) :=
  de_callB call_len_seq (fun H H0 xs ds dz Q s hx e q => by
    unfold lenD at e
    split at e
    · cases e
      cases hx with
      | cons h1 h2 =>
        cases h2
        cases h1 with
        | @tup a vs ds h1 h2 =>
          refine ⟨a, vs, rfl, .inr (sameT s h1.sq), ?_⟩
          rw [h2.length]
          exact q _ H H0 (Grow.refl s) (.int _)
    · cases e
      cases hx with
      | cons h1 h2 =>
        cases h2
        cases h1 with
        | @lst a vs ds h1 h2 =>
          refine ⟨a, vs, rfl, .inl (.inl (sameRd s h1)), ?_⟩
          rw [h2.length]
          exact q _ H H0 (Grow.refl s) (.int _)
    · cases e
      cases hx with
      | cons h1 h2 =>
        cases h2
        cases h1 with
        | @scr a vs ds h1 h2 =>
          refine ⟨a, vs, rfl, .inl (sameL s h1), ?_⟩
          rw [h2.length]
          exact q _ H H0 (Grow.refl s) (.int _)
    · cases e) hg hm PySem.boot_len ha (by decide) (by decide) he
theorem call_tupF : CallR X (.type "tuple") (fun xs H Q => ∃ p ys, xs = [.ref p] ∧ ((SqL X.K H p ys ∧ ∀ (l : Addr) (o : Obj), H l = none → o.dict = none → Q (.ref l) (upd H l (.frz o (.tup ys)))) ∨ (SqT X.K H p ys ∧ Q (.ref p) H))) := by
  intro pins s σ H xs us Q I r h
  obtain ⟨p, ys, rfl, h⟩ := h
  obtain ⟨u, rfl, rx⟩ := vals1 r
  cases rx
  rcases h with ⟨hq, q⟩ | ⟨hq, q⟩
  · obtain ⟨its, r', pl, hz⟩ := I.list hq
    have hlen := r'.length
    refine call_tuple_list pl.isList (fun h' kp => ?_) (by simp only [List.size_toArray] <;> omega)
    have I1 : Inv X pins σ H { s with heap := h' } := I.kept (t' := s.toks) kp
    have I2 : Inv X pins σ (upd H h'.objs.size (.frz (tupO its) (.tup ys))) { s with heap := h'.push (tupO its) } := tupO_laid (s := { s with heap := h' }) (t' := s.toks) I1 (fun b o e => Heap.get?_push_of_some _ e) (Nat.le_refl _) (Heap.get?_push_size _ rfl) r' hz
    exact ⟨.ref h'.objs.size, _, I2, rfl, q _ _ (I1.hok.fresh (Nat.le_refl _)) rfl⟩
  · obtain ⟨its, r', pl, hz⟩ := I.tuple hq
    exact call_tuple_same pl ⟨.ref p, H, I, rfl, q⟩
def tupleD : List Dat → Option Dat
  | [.tup ds] => some (.tup ds)
  | [.lst ds] => some (.tup ds)
  | _ => none
theorem de_tuple (hg : Gl X "tuple") (hm : X.mg "tuple" = none) (ha : DA X W [e] ga) (he : starEach [e] X.env = (false, eval e X.env) :: starEach [] X.env := by rfl) : DE X W (.Call (.Name "tuple" p) [e] [] pos) (ga.bi tupleD) :=
  de_callTy call_tupF (fun H H0 xs ds dz Q s hx e q => by
    unfold tupleD at e
    split at e
    · cases e
      cases hx with
      | cons h1 h2 =>
        cases h2
        cases h1 with
        | @tup a vs ds h1 h2 => exact ⟨a, vs, rfl, .inr ⟨sameT s h1.sq, q _ H H0 (Grow.refl s) (.tup h1 h2)⟩⟩
    · cases e
      cases hx with
      | cons h1 h2 =>
        cases h2
        cases h1 with
        | @lst a vs ds h1 h2 => exact ⟨a, vs, rfl, .inl ⟨.inl (sameRd s h1), fun l o hl hd => q _ _ _ (Grow.new s hl) (Rep.newT (s.free hl) hd h2)⟩⟩
    · cases e) hg hm (by decide +kernel) ha (by decide) (by decide) he
def intD : List Dat → Option Dat
  | [.int i] => some (.int i)
  | [.bl k] => some (.int (if k then 1 else 0))
  | _ => none
theorem de_int1 (hg : Gl X "int") (hm : X.mg "int" = none) (ha : DA X W [e] ga) (he : starEach [e] X.env = (false, eval e X.env) :: starEach [] X.env := by rfl) : DE X W (.Call (.Name "int" p) [e] [] pos) (ga.bi intD) :=
  de_callTy call_int1 (fun H H0 xs ds dz Q s hx e q => by
    unfold intD at e
    split at e
    · cases e
      cases hx with
      | cons h1 h2 => cases h2; cases h1; exact .inl ⟨_, rfl, q _ H H0 (Grow.refl s) (.int _)⟩
    · cases e
      cases hx with
      | cons h1 h2 => cases h2; cases h1; exact .inr ⟨_, rfl, q _ H H0 (Grow.refl s) (.int _)⟩
    · cases e) hg hm (by decide +kernel) ha (by decide) (by decide) he
def max2D : List Dat → Option Dat
  | [.int i, .int j] => some (.int (if j > i then j else i))
  | _ => none
theorem de_max2 (hc : X.calm = true) (hg : Gl X "max") (hm : X.mg "max" = none) (ha : DA X W [a, b] ga) (he : starEach [a, b] X.env = (false, eval a X.env) :: starEach [b] X.env := by rfl) (hpl : (backTo pos (starEach [b] X.env)).any (·.1) = false := by rfl) : DE X W (.Call (.Name "max" p) [a, b] [] pos) (ga.bi max2D) :=
  de_callB (call_max2 hc) (fun H H0 xs ds dz Q s hx e q => by
    unfold max2D at e
    split at e
    · cases e
      cases hx with
      | cons h1 h2 =>
        cases h2 with
        | cons h2 h3 => cases h3; cases h1; cases h2; exact ⟨_, _, rfl, q _ H H0 (Grow.refl s) (.int _)⟩
    · cases e) hg hm (by decide +kernel) ha (by decide) (by decide) he hpl
def min2D : List Dat → Option Dat
  | [.int i, .int j] => some (.int (if j < i then j else i))
  | _ => none
theorem de_min2 (hc : X.calm = true) (hg : Gl X "min") (hm : X.mg "min" = none) (ha : DA X W [a, b] ga) (he : starEach [a, b] X.env = (false, eval a X.env) :: starEach [b] X.env := by rfl) (hpl : (backTo pos (starEach [b] X.env)).any (·.1) = false := by rfl) : DE X W (.Call (.Name "min" p) [a, b] [] pos) (ga.bi min2D) :=
  de_callB (call_min2 hc) (fun H H0 xs ds dz Q s hx e q => by
    unfold min2D at e
    split at e
    · cases e
      cases hx with
      | cons h1 h2 =>
        cases h2 with
        | cons h2 h3 => cases h3; cases h1; cases h2; exact ⟨_, _, rfl, q _ H H0 (Grow.refl s) (.int _)⟩
    · cases e) hg hm (by decide +kernel) ha (by decide) (by decide) he hpl
def bools : List Dat → Option (List Bool)
  | [] => some []
  | .bl b :: ds => (bools ds).map (b :: ·)
  | _ => none
theorem bools_rep {K : PySem.W.Frag} {H : Hp} : ∀ {ds : List Dat} {vs : List V} {bs : List Bool}, RepA K H vs ds → bools ds = some bs → vs = bs.map V.bl
  | [], _, _, .nil, e => by cases e; rfl
  | .bl b :: ds, _, bs, .cons h1 h2, e => by
    unfold bools at e
    cases q : bools ds with
    | none => rw [q] at e; cases e
    | some cs => rw [q] at e; cases e; cases h1; rw [bools_rep h2 q]; rfl
  | .non :: _, _, _, _, e => by cases e
  | .int _ :: _, _, _, _, e => by cases e
  | .str _ :: _, _, _, _, e => by cases e
  | .tup _ :: _, _, _, _, e => by cases e
  | .lst _ :: _, _, _, _, e => by cases e
  | .scr _ :: _, _, _, _, e => by cases e
  | .dct _ _ :: _, _, _, _, e => by cases e
  | .ins _ _ _ :: _, _, _, _, e => by cases e
def allD : List Dat → Option Dat
  | [.lst ds] => (bools ds).map fun bs => .bl (bs.all id)
  | _ => none
def anyD : List Dat → Option Dat
  | [.lst ds] => (bools ds).map fun bs => .bl (bs.any id)
  | _ => none
theorem de_all (hc : X.calm = true) (hg : Gl X "all") (hm : X.mg "all" = none) (ha : DA X W [e] ga) (he : starEach [e] X.env = (false, eval e X.env) :: starEach [] X.env := by rfl) : DE X W (.Call (.Name "all" p) [e] [] pos) (ga.bi allD) :=
  de_callB (cr_all hc) (fun H H0 xs ds dz Q s hx e q => by
    unfold allD at e
    split at e
    · rename_i ds
      cases eb : bools ds with
      | none => rw [eb] at e; cases e
      | some bs =>
        rw [eb] at e; cases e
        cases hx with
        | cons h1 h2 =>
          cases h2
          cases h1 with
          | @lst a vs ds h1 h2 =>
            have ev := bools_rep h2 eb
            subst ev
            exact ⟨a, bs, rfl, .inl (sameRd s h1), q _ H H0 (Grow.refl s) (.bl _)⟩
    · cases e) hg hm (by decide +kernel) ha (by decide) (by decide) he
theorem de_any (hc : X.calm = true) (hg : Gl X "any") (hm : X.mg "any" = none) (ha : DA X W [e] ga) (he : starEach [e] X.env = (false, eval e X.env) :: starEach [] X.env := by rfl) : DE X W (.Call (.Name "any" p) [e] [] pos) (ga.bi anyD) :=
  de_callB (cr_any hc) (fun H H0 xs ds dz Q s hx e q => by
    unfold anyD at e
    split at e
    · rename_i ds
      cases eb : bools ds with
      | none => rw [eb] at e; cases e
      | some bs =>
        rw [eb] at e; cases e
        cases hx with
        | cons h1 h2 =>
          cases h2
          cases h1 with
          | @lst a vs ds h1 h2 =>
            have ev := bools_rep h2 eb
            subst ev
            exact ⟨a, bs, rfl, .inl (sameRd s h1), q _ H H0 (Grow.refl s) (.bl _)⟩
    · cases e) hg hm (by decide +kernel) ha (by decide) (by decide) he
end
end Sv

set_option Elab.async false
set_option linter.all false
set_option maxRecDepth 100000
set_option maxHeartbeats 1000000
namespace L2
open PySem PySem.Spec PyProof.Rows
/-- tuple.index of flat things -/
def rIndexT (K : PySem.W.Frag) : V → List V → Hp → VK → Prop := fun x xs H Q => ∃ (a : Addr) (ys : List V) (y : V) (j : Nat) (z : V), x = V.ref a ∧ xs = [y] ∧ SqT K H a ys ∧ flatV y = true ∧ ys.all flatV = true ∧ ys[j]? = some z ∧ eqV z y = true ∧
  (∀ (m : Nat) (z' : V), m < j → ys[m]? = some z' → eqV z' y = false) ∧ Q (.int (j : Nat)) H
theorem mt_indexT {X : Cx} : MtR X "tuple.index" (rIndexT X.K) := by
  intro pins s σ H x xs v us Q I rx rxs h
  obtain ⟨a, ys, y, j, z, rfl, rfl, hs, fy, fys, hz, hzj, hno, q⟩ := h
  cases rx
  cases rxs with
  | cons ry rt =>
    rename_i uy ut
    cases rt
    obtain ⟨its, rv, ⟨⟨cls, dd, dt, sl⟩, ho, hc, n, hd⟩, hlen⟩ := I.tuple hs
    simp only at hc hd
    subst hc
    subst hd
    obtain ⟨u, hu, ru⟩ := rv.get hz
    obtain ⟨hjl, hje⟩ := List.getElem?_eq_some_iff.mp hu
    have hvl := rv.length
    have hj : j < its.toArray.size := by simpa using hjl
    refine call_meets PySem.F.slot_tuple_index ⟨_, ho, rfl⟩ PySem.F.entry_tuple_index (PySem.F.args_tuple_index_2 _ _) (TI.tuple_indexAt a its.toArray n dd sl uy (eqU y) j hj ?_ ?_)
      ⟨ho, fun u' hu' => mem_eqAt ry fy rv fys u' (by simpa using hu'), ⟨.int (j : Nat), H, I.tok _, ⟨_, rfl⟩, q⟩⟩
    · have e1 : its.toArray[j] = u := by simpa using hje
      rw [e1, eqU_of ru (flat_at fys hz)]
      exact hzj
    · intro m hm hmj
      have hml : m < its.length := by simpa using hm
      have hmy : m < ys.length := by omega
      have hy' : ys[m]? = some ys[m] := List.getElem?_eq_getElem hmy
      obtain ⟨u2, hu2, ru2⟩ := rv.get hy'
      obtain ⟨_, hme⟩ := List.getElem?_eq_some_iff.mp hu2
      have e1 : its.toArray[m] = u2 := by simpa using hme
      rw [e1, eqU_of ru2 (flat_at fys hy')]
      exact hno m _ hmj hy'
section
variable {X : Cx} {o e : Expr} {es : List Expr} {to : TE} {t : TA} {name : Str} {apos cpos : Pos} {T id : String} {r : V → List V → Hp → VK → Prop}
/-- a method of a list or a tuple, by values: the rule is chosen by what stands there -/
def tBMT (K : PySem.W.Frag) (r : V → List V → Hp → VK → Prop) (to : TE) (t : TA) : TE := fun σ H Q => to σ H fun x H1 => (∃ a vs, x = .ref a ∧ Sv.TupAt K H1 a vs) ∧ t σ H1 fun xs H2 => r x xs H2 Q
theorem pe_bmT (pa : PlainAttrs "tuple") (slot : Slot "tuple" name id) (hty : typeOf (.builtin id) = pure (.type "method_descriptor")) (hm : MtR X id r) (ho : PE X o to) (ha : PA X (e :: es) t)
    (hbase : attributeBase o name X.env (eval o X.env) = eval o X.env := by rfl)
    (hfew : ((backTo cpos (starEach (e :: es) X.env)).all (fun x => !x.1) && (backToKw cpos (keywordEach [] X.env)).all (fun x => x.1.isSome)
      && decide ((e :: es).length + ([] : List Keyword).length + (if ([] : List Keyword).isEmpty then 0 else 1) < 30)) = true := by rfl)
    (hline : (apos.endLine == cpos.line) = true := by rfl) (hs : starEach (e :: es) X.env = (false, eval e X.env) :: starEach es X.env := by rfl) (hplain : (backTo cpos (starEach es X.env)).any (·.1) = false := by rfl) :
    PE X (.Call (.Attribute o name apos) (e :: es) [] cpos) (tBMT X.K r to t) := by
  refine ⟨fun pins s σ H Q I h => ?_⟩
  refine wpAny_Call_method_late hbase hfew hline rfl (thn (ho.run pins s σ H _ I h) fun v s1 ⟨x, H1, I1, r1, ty, q1⟩ => ?_)
  have hh : s1.TypeIs v "tuple" ∧ ∀ a, v = .ref a → ∃ ob, s1.heap.get? a = some ob ∧ ob.dict = none := by
    obtain ⟨a, vs, rfl, ht⟩ := ty
    cases r1
    rcases ht with ⟨ob, he, hd⟩ | ⟨ob, its, n, h1, h2, h3, h4, h5, h6⟩
    · obtain ⟨e1, _, _, _, o2, e2, c2, _⟩ := (show ObjOk X.prog X.w H1 s1.heap a (.frz ob (.tup vs)) from I1.hok a _ he)
      rw [e1] at e2; cases e2
      exact ⟨⟨ob, e1, c2⟩, fun b e => by cases e; exact ⟨ob, e1, hd⟩⟩
    · exact ⟨⟨ob, I1.kIn _ _ h1, h2⟩, fun b e => by cases e; exact ⟨ob, I1.kIn _ _ h1, h3⟩⟩
  refine ⟨"tuple", id, pa, slot, hty, hh.1, hh.2, ?_⟩
  have hA := ha.run cpos pins s1 σ H1 _ I1 q1
  rw [hs] at hA ⊢
  refine Calls.callWith_builtin (by show (false || (backTo cpos (starEach es X.env)).any (·.1)) = false; rw [hplain] <;> rfl) (Calls.evalArgs_plain ?_)
  exact thn hA fun us s2 ⟨vs, H2, I2, r2, q2⟩ => hm pins s2 σ H2 x vs v us Q I2 r1 r2 q2
end
end L2
namespace Sv
open PySem L2 PyProof.Rows
section
variable {X : Cx} {W : WX} {e a b c : Expr} {f g h : M Dat} {pos p apos : Pos} {ga : M (List Dat)}
/-- the first place of an item that is equal -/
def indexF (y : Dat) : List Dat → Option Nat
  | [] => none
  | d :: ds => if eqF d y = true then some 0 else (indexF y ds).map (· + 1)
theorem indexF_spec {K : PySem.W.Frag} {H : Hp} {y : Dat} {u : V} (hu : Rep K H u y) : ∀ {ds : List Dat} {vs : List V} {j : Nat}, RepA K H vs ds → indexF y ds = some j →
    ∃ z, vs[j]? = some z ∧ eqV z u = true ∧ ∀ (m : Nat) (z' : V), m < j → vs[m]? = some z' → eqV z' u = false
  | [], _, _, _, e => by cases e
  | d :: ds, v :: vs, j, .cons h1 h2, e => by
    unfold indexF at e
    by_cases hq : eqF d y = true
    · rw [if_pos hq] at e; cases e
      exact ⟨v, rfl, by rw [eqF_rep h1 hu]; exact hq, fun m _ hm => by omega⟩
    · rw [if_neg hq] at e
      cases q : indexF y ds with
      | none => rw [q] at e; cases e
      | some i =>
        rw [q] at e
        have e : some (i + 1) = some j := e
        cases e
        obtain ⟨z, q1, q2, q3⟩ := indexF_spec hu h2 q
        refine ⟨z, q1, q2, fun m z' hm hz => ?_⟩
        cases m with
        | zero =>
          have hz : some v = some z' := hz
          cases hz
          rw [eqF_rep h1 hu]
          simpa using hq
        | succ m => exact q3 m z' (by omega) hz
def indexD (ds : List Dat) (y : Dat) : Option Dat := if flatD y = true ∧ ds.all flatD = true then (indexF y ds).map fun j => .int (j : Nat) else none
/-- t.index(x), xs.index(x) -/
def M.idxT (f g : M Dat) : M Dat := f.bnd fun d => match d with
  | .tup ds => g.bnd fun y => M.lift (indexD ds y)
  | _ => fun _ => .stuck
def M.idxL (f g : M Dat) : M Dat := f.bnd fun d => match d with
  | .lst ds => g.bnd fun y => M.lift (indexD ds y)
  | _ => fun _ => .stuck
theorem indexD_some {K : PySem.W.Frag} {H : Hp} {ds : List Dat} {vs : List V} {y dz : Dat} {u : V} (hu : Rep K H u y) (h2 : RepA K H vs ds) (e : indexD ds y = some dz) : ∃ j z, dz = .int (j : Nat) ∧ flatV u = true ∧ vs.all flatV = true ∧ vs[j]? = some z ∧ eqV z u = true ∧ ∀ (m : Nat) (z' : V), m < j → vs[m]? = some z' → eqV z' u = false := by
  unfold indexD at e
  by_cases hf : flatD y = true ∧ ds.all flatD = true
  · rw [if_pos hf] at e
    cases q : indexF y ds with
    | none => rw [q] at e; cases e
    | some j =>
      rw [q] at e
      have e : some (Dat.int (j : Nat)) = some dz := e
      cases e
      obtain ⟨z, z1, z2, z3⟩ := indexF_spec hu h2 q
      exact ⟨j, z, rfl, (flat_rep hu).trans hf.1, (flat_all h2).trans hf.2, z1, z2, z3⟩
  · rw [if_neg hf] at e; cases e
theorem de_indexT (ha : DE X W a f) (hb : DE X W b g) (hbase : attributeBase a "index" X.env (eval a X.env) = eval a X.env := by rfl)
    (hfew : ((backTo pos (starEach [b] X.env)).all (fun x => !x.1) && (backToKw pos (keywordEach [] X.env)).all (fun x => x.1.isSome) && decide ([b].length + ([] : List Keyword).length + (if ([] : List Keyword).isEmpty then 0 else 1) < 30)) = true := by rfl)
    (hline : (apos.endLine == pos.line) = true := by rfl) (hs : starEach [b] X.env = (false, eval b X.env) :: starEach [] X.env := by rfl) :
    DE X W (.Call (.Attribute a "index" apos) [b] [] pos) (f.idxT g) :=
  PE.imp (pe_bmT PySem.F.plainAttrs_tuple PySem.F.slot_tuple_index PySem.F.type_tuple_index mt_indexT ha (pa_cons hb pa_nil hs) hbase hfew hline hs) fun σ H Q ⟨z, H0, ρ, r, q⟩ => part r q fun d v H1 G1 ρ1 r1 s1 hv q1 => by
    cases d with
    | tup ds =>
      cases hv with
      | @tup ad vs _ h1 h2 =>
        refine ⟨⟨ad, vs, rfl, h1.mono r1.sub⟩, part r1 q1 fun y u H2 G2 ρ2 r2 s2 hu q2 => ?_⟩
        obtain ⟨dz, e, q3⟩ := Run.lift q2
        obtain ⟨j, z, rfl, f1, f2, z1, z2, z3⟩ := indexD_some hu (h2.mono s2) e
        exact ⟨ad, vs, u, j, z, rfl, rfl, (h1.mono (s2.trans r2.sub)).sq, f1, f2, z1, z2, z3, q3 H2 G2 r2 (Same.refl _) _ (.int _)⟩
    | _ => exact q1.elim
theorem de_indexL (ha : DE X W a f) (hb : DE X W b g) (hbase : attributeBase a "index" X.env (eval a X.env) = eval a X.env := by rfl)
    (hfew : ((backTo pos (starEach [b] X.env)).all (fun x => !x.1) && (backToKw pos (keywordEach [] X.env)).all (fun x => x.1.isSome) && decide ([b].length + ([] : List Keyword).length + (if ([] : List Keyword).isEmpty then 0 else 1) < 30)) = true := by rfl)
    (hline : (apos.endLine == pos.line) = true := by rfl) (hs : starEach [b] X.env = (false, eval b X.env) :: starEach [] X.env := by rfl) :
    DE X W (.Call (.Attribute a "index" apos) [b] [] pos) (f.idxL g) :=
  PE.imp (pe_bm PySem.F.plainAttrs_list PySem.F.slot_list_index PySem.F.type_list_index mt_index ha (pa_cons hb pa_nil hs) hbase hfew hline hs) fun σ H Q ⟨z, H0, ρ, r, q⟩ => part r q fun d v H1 G1 ρ1 r1 s1 hv q1 => by
    cases d with
    | lst ds =>
      cases hv with
      | @lst ad vs _ h1 h2 =>
        refine ⟨.inl ⟨rfl, vs, .inl (sameRd r1.sub h1)⟩, part r1 q1 fun y u H2 G2 ρ2 r2 s2 hu q2 => ?_⟩
        obtain ⟨dz, e, q3⟩ := Run.lift q2
        obtain ⟨j, z, rfl, f1, f2, z1, z2, z3⟩ := indexD_some hu (h2.mono s2) e
        exact ⟨ad, vs, u, j, z, rfl, rfl, .inl (sameRd (s2.trans r2.sub) h1), f1, f2, z1, z2, z3, q3 H2 G2 r2 (Same.refl _) _ (.int _)⟩
    | _ => exact q1.elim
/-! ### isinstance with a built-in class -/
def tyN : Dat → String
  | .non => "NoneType"
  | .bl _ => "bool"
  | .int _ => "int"
  | .str _ => "str"
  | .tup _ => "tuple"
  | .lst _ => "list"
  | .scr _ => "list"
  | .dct _ _ => "dict"
  | .ins _ _ _ => "object"
def isIns : Dat → Bool
  | .ins _ _ _ => true
  | _ => false
theorem tyX_rep {K : PySem.W.Frag} {H H0 : Hp} {v : V} {d : Dat} (s : Same H0 H) (hi : isIns d = false) (h : Rep K H0 v d) : TyX K H v (.type (tyN d)) := by
  cases h with
  | non => exact .base .non
  | bl b => exact .base (.bl b)
  | int i => exact .base (.int i)
  | str x => exact .base (.str x)
  | tup h1 _ =>
    rcases h1 with ⟨o, h1, _⟩ | ⟨o, its, n, h1, h2, _⟩
    · exact .fTuple (s _ _ h1)
    · exact .kTuple h1 h2
  | lst h1 _ =>
    rcases h1 with h1 | ⟨o, h1⟩
    · exact .base (.lst (s _ _ h1))
    · exact .base (.frz (s _ _ h1))
  | scr h1 _ =>
    rcases h1 with (h1 | ⟨o, h1⟩) | ⟨o, its, n, h1, h2, _⟩
    · exact .base (.lst (s _ _ h1))
    · exact .base (.frz (s _ _ h1))
    · exact .kList h1 h2
  | dct h1 _ _ =>
    rcases h1 with h1 | ⟨o, h1⟩
    · exact .base (.dK (s _ _ h1))
    · exact .fDict (s _ _ h1)
  | ins _ _ _ _ => cases hi
def tyNames : List String := ["NoneType", "bool", "int", "str", "tuple", "list", "dict", "object"]
theorem tyN_mem (d : Dat) : tyN d ∈ tyNames := by cases d <;> simp [tyN, tyNames]
/-- the question's answers by the value's type -/
def isTab (T : String) (tb : String → Bool) : Bool := tyNames.all fun s => decide (kitB s T = some (tb s))
def isiD (tb : String → Bool) (d : Dat) : Option Dat := if isIns d = true then none else some (.bl (tb (tyN d)))
theorem de_isi {T : String} {x : Str} {pn : Pos} (tb : String → Bool) (ht : isTab T tb = true) (hg : Gl X "isinstance") (hm : X.mg "isinstance" = none) (hg2 : Gl X x) (hm2 : X.mg x = none) (hv2 : bootBuiltins x = some (.type T)) (ha : DE X W a f) (hn2 : x ≠ "__name__" := by decide) (hd2 : (x == ("__debug__" : Str)) = false := by decide)
    (hs1 : starEach [a, .Name x pn] X.env = (false, eval a X.env) :: starEach [.Name x pn] X.env := by rfl) (hs2 : starEach [.Name x pn] X.env = (false, eval (.Name x pn) X.env) :: starEach [] X.env := by rfl) (hpl : (backTo pos (starEach [.Name x pn] X.env)).any (·.1) = false := by rfl) :
    DE X W (.Call (.Name "isinstance" p) [a, .Name x pn] [] pos) (f.un1 (isiD tb)) :=
  PE.imp (pe_callB call_isi hg hm (by decide +kernel) (pa_cons ha (pa_cons (pe_bltn (v := .ty T) hg2 hm2 hv2 rfl hn2 hd2) pa_nil hs2) hs1) (by decide) (by decide) hs1 hpl) fun σ H Q ⟨z, H0, ρ, r, q⟩ => part r q fun d v H1 G1 ρ1 r1 s1 hv q1 => by
    obtain ⟨dz, e, q2⟩ := Run.lift q1
    unfold isiD at e
    cases hi : isIns d with
    | true => rw [hi, if_pos rfl] at e; cases e
    | false =>
    rw [hi, if_neg Bool.false_ne_true] at e
    cases e
    have hk : kitB (tyN d) T = some (tb (tyN d)) := of_decide_eq_true (List.all_eq_true.mp ht _ (tyN_mem d))
    exact ⟨v, .ty T, _, _, _, rfl, .ty T, tyX_rep r1.sub hi hv, kit_ty hk, q2 H1 G1 r1 (Same.refl _) _ (.bl _)⟩
/-! ### a < b < c -/
def M.chain (f g h : M Dat) (o1 o2 : Dat → Dat → Option Dat) : M Dat := f.bnd fun x => g.bnd fun y => (M.isB (M.lift (o1 x y))).bnd fun k => if k = true then h.bnd fun z => M.lift (o2 y z) else M.ret (.bl false)
theorem de_chain {op op' : CmpOp} {r r' : R2} {o1 o2 : Dat → Dat → Option Dat} (ho : OpR X (compareOp op) r) (ho' : OpR X (compareOp op') r') (s1 : Snd2 X.K r o1) (s2 : Snd2 X.K r' o2) (ha : DE X W a f) (hb : DE X W b g) (hc : DE X W c h)
    (hm : lastMarks [op, op'] [b, c] = false := by with_unfolding_all rfl) : DE X W (.Compare a [op, op'] [b, c] pos) (M.chain f g h o1 o2) :=
  PE.imp (pe_chain ho ho' ha hb hc hm) fun σ H Q ⟨z, H0, ρ, rl, q⟩ => part rl q fun dx x H1 G1 ρ1 r1 t1 hx q1 => part r1 q1 fun dy y H2 G2 ρ2 r2 t2 hy q2 => by
    unfold M.isB at q2
    rw [bnd_assoc] at q2
    have q2 := Run.bnd q2
    obtain ⟨dk, e, q3⟩ := Run.lift q2
    refine s1 H2 G2 x y dx dy dk _ r2.sub (hx.mono t2) hy e fun v H' H0' g hv => ?_
    have q4 := q3 H' H0' (g.rel r2) g.s
    cases dk with
    | bl k =>
      cases hv
      refine ⟨k, rfl, ?_⟩
      cases k with
      | true =>
        rw [if_pos rfl]
        refine part (g.rel r2) q4 fun dz w H3 G3 ρ3 r3 t3 hw q5 => ?_
        obtain ⟨de, e2, q6⟩ := Run.lift q5
        exact s2 H3 G3 y w dy dz de Q r3.sub (hy.mono (g.s.trans t3)) hw e2 fun v H4 G4 g4 hv => q6 H4 G4 (g4.rel r3) g4.s v hv
      | false =>
        rw [if_neg Bool.false_ne_true]
        exact q4 H' H0' (g.rel r2) (Same.refl _) _ (.bl false)
    | _ => exact q4.elim
/-! ### a, b = e; what cannot be reached; constants of the module -/
def unpO (f : M Dat) (t : Tg) : En → O := fun ρ => (f ρ).toO fun d ρ' => match setT t d ρ' with
  | some ρ2 => .nxt ρ2
  | none => .stuck
theorem ds_unp (t : Tg) {tg : Expr} (he : DE X W e f) (hg : PG X tg (gT X.K t)) (hs : swapsWithSole [tg] e pos.line X.env = pure false := by rfl) (hw : swappedStores [tg] e X.env = pure none := by rfl) (h1 : (assignEach [tg] X.env).map (·.2) = [assign tg X.env] := by rfl) : DS X W (.Assign [tg] e pos) (unpO f t) :=
  PS.imp (ps_asg he hg hs hw h1) fun D σ H ⟨z, H0, ρ, r, q⟩ => sp (α := Dat) r q fun d v H' H1 ρ' r' s' hv q' => by
    cases q1 : setT t d ρ' with
    | none => rw [q1] at q'; exact q'.elim
    | some ρ2 => rw [q1] at q'; exact gT_run r' hv q1 fun σ' r2 _ => q' σ' H' H1 r2 (Same.refl _)
theorem ds_never {st : Stmt} : DS X W st (fun _ => .stuck) := PS.imp ps_never fun D σ H ⟨z, H0, ρ, r, q⟩ => q.elim
theorem de_never : DE X W e (fun _ => .stuck) := ⟨fun pins s σ H Q I ⟨z, H0, ρ, r, q⟩ => q.elim⟩
/-- what the written part holds at a value -/
def KRep (K : PySem.W.Frag) (v : V) (d : Dat) : Prop := ∀ H, Rep K H v d
theorem KRep.int {K : PySem.W.Frag} (i : Int) : KRep K (.int i) (.int i) := fun _ => .int i
theorem KRep.str {K : PySem.W.Frag} (i : Str) : KRep K (.str i) (.str i) := fun _ => .str i
theorem KRep.non {K : PySem.W.Frag} : KRep K .non .non := fun _ => .non
theorem KRep.tup {K : PySem.W.Frag} {ad : Addr} {o : Obj} {its : List Value} {n : Nat} {vs : List V} {ds : List Dat} (h1 : K.lookup ad = some o) (h2 : o.cls = .type "tuple") (h3 : o.dict = none) (h4 : o.data = .seq its.toArray n) (h5 : its.length ≤ 1000000) (h6 : Vals vs its)
    (h : ∀ H, RepA K H vs ds) : KRep K (.ref ad) (.tup ds) := fun H => .tup (.inr ⟨o, its.toArray, n, h1, h2, h3, h4, by rw [List.size_toArray]; exact sz h5, by simpa using h6⟩) (h H)
theorem de_glob {x : Str} {v : V} {d : Dat} {u : Value} (hg : Gl X x) (hm : X.mg x = some u) (r : RelV v u) (h : KRep X.K v d) (hd : (x == ("__debug__" : Str)) = false := by decide) : DE X W (.Name x pos) (M.ret d) :=
  PE.imp (pe_glob hg hm r hd) fun σ H Q ⟨z, H0, ρ, r, q⟩ => q H H0 r (Same.refl _) v (h H0)
end
end Sv

set_option Elab.async false
set_option linter.all false
set_option maxRecDepth 100000
set_option maxHeartbeats 1000000
namespace Sv
open PySem L2 PyProof.Rows
/-! ## calls with keywords and defaults -/
def pick {α : Type} (ix : List Nat) (l : List α) : List α := ix.filterMap (l[·]?)
theorem pick_vals {vs : List V} {us : List Value} (r : Vals vs us) : ∀ ix : List Nat, Vals (pick ix vs) (pick ix us)
  | [] => .nil
  | i :: ix => by
    have ih := pick_vals r ix
    unfold pick at ih ⊢
    rw [List.filterMap_cons, List.filterMap_cons]
    cases h : vs[i]? with
    | none => rw [r.none_of h]; exact ih
    | some v =>
      obtain ⟨u, h1, h2⟩ := r.get h
      rw [h1]
      exact .cons h2 ih
theorem pick_rep {K : PySem.W.Frag} {H : Hp} {vs : List V} {ds : List Dat} (r : RepA K H vs ds) : ∀ ix : List Nat, RepA K H (pick ix vs) (pick ix ds)
  | [] => .nil
  | i :: ix => by
    have ih := pick_rep r ix
    unfold pick at ih ⊢
    rw [List.filterMap_cons, List.filterMap_cons]
    cases h : ds[i]? with
    | none =>
      have : vs[i]? = none := by
        rw [List.getElem?_eq_none_iff] at h ⊢
        rw [r.length]; exact h
      rw [this]; exact ih
    | some d =>
      obtain ⟨v, h1, h2⟩ := r.get h
      rw [h1]
      exact .cons h2 ih
/-- how a call binds: n values by place, keywords ks, the defaults dvs; ix: where each parameter's value stands among them -/
structure KBd (K : PySem.W.Frag) (fd : FuncData) (ps : List Str) (n : Nat) (ks : List Str) (ix : List Nat) (dvs : List V) : Prop where
  ex : ∃ ds : List Value, Vals dvs ds ∧ ∀ (s : Shared) (us ws : List Value), K.In s.heap → us.length = n → ws.length = ks.length → BindsTo s fd ⟨us, ks.zip ws⟩ (ps.zip (pick ix (us ++ ws ++ ds)))
section
variable {X : Cx} {W : WX} {e a b : Expr} {f g : M Dat} {ga gk : M (List Dat)} {pos p kpos : Pos} {x : Str} {es : List Expr} {k n m : Nat} {fa : Addr} {fd : FuncData} {ps ks : List Str} {ix : List Nat} {G : List Dat → O} {dvs : List V} {dds : List Dat} {kws : List Keyword} {nm : Option Str} {sp : Sp} {E : L2.St → XK} {t tk : TA}
def DK (X : Cx) (W : WX) (kws : List Keyword) (f : M (List Dat)) : Prop := PK X kws (tDA (cc X W) f)
theorem PK.imp {t t' : TA} (h : PK X kws t) (m : ∀ σ H Q, t' σ H Q → t σ H Q) : PK X kws t' := ⟨fun pos pins s σ H Q I q => h.run pos pins s σ H Q I (m σ H Q q)⟩
theorem dk_nil : DK X W [] (M.ret []) := PK.imp pk_nil fun σ H Q ⟨z, H0, ρ, r, q⟩ => q H H0 r (Same.refl _) _ .nil
theorem dk_cons (ha : DE X W e f) (hr : DK X W kws ga) : DK X W (⟨nm, e, kpos⟩ :: kws) (f.cons ga) :=
  PK.imp (pk_cons ha hr) fun σ H Q ⟨z, H0, ρ, rl, q⟩ => part rl q fun dx x H1 G1 ρ1 r1 s1 hx q1 => partA r1 q1 fun ds xs H2 G2 ρ2 r2 s2 hxs q2 =>
    q2 H2 G2 r2 (Same.refl _) _ (.cons (hx.mono s2) hxs)
def tCallX (n m : Nat) (sp : L2.Sp) (ix : List Nat) (dvs : List V) (E : L2.St → XK) (t tk : TA) : TE := fun σ H Q => t σ H fun vs H1 => tk σ H1 fun zs H2 => vs.length = n ∧ zs.length = m ∧ sp (pick ix (vs ++ zs ++ dvs)) H2 Q (E σ)
theorem run_fnX {pins : List (Addr × Obj)} {σ : L2.St} {H : Hp} {s : Shared} {Q : VK} {us ws : List Value} {vs zs : List V} (F : FnG X.prog X.w X.K X.mg X.base (L2.CX X.prog X.w) k fa fd ps sp) (hr : RoomG k X.A) (hb : KBd X.K fd ps n ks ix dvs) (hx : PassesAt (L2.CX X.prog X.w) X σ (E σ))
    (I : Inv X pins σ H s) (r : Vals vs us) (rz : Vals zs ws) (l1 : vs.length = n) (l2 : zs.length = ks.length) (h : sp (pick ix (vs ++ zs ++ dvs)) H Q (E σ)) : wpAny (model X.prog X.w) X.A (call (.ref fa) us (ks.zip ws)) (EP X pins σ Q) X.xe s := by
  obtain ⟨ds, rd, to⟩ := hb.ex
  have r2 := pick_vals ((r.append rz).append rd) ix
  refine wpAny_call (codeAny_mono (F.run X.A X.stack s H ⟨us, ks.zip ws⟩ (pick ix (us ++ ws ++ ds)) (pick ix (vs ++ zs ++ dvs)) Q (E σ) hr I.env0 (to s us ws I.kIn (r.length.symm.trans l1) (rz.length.symm.trans l2)) r2 h) fun r s' hq => ?_)
  cases r with
  | error e => exact hx pins H s e s' I hq
  | ok fl =>
    cases fl with
    | ret u => exact I.after hq
    | next => exact False.elim hq
    | brk => exact False.elim hq
    | cont => exact False.elim hq
theorem pe_callX (F : FnG X.prog X.w X.K X.mg X.base (L2.CX X.prog X.w) k fa fd ps sp) (hr : RoomG k X.A) (hg : Gl X x) (hm : X.mg x = some (.ref fa)) (hk : PySem.W.keepIn X.K (.ref fa) = true) (hb : KBd X.K fd ps n ks ix dvs) (hx : ∀ σ, PassesAt (L2.CX X.prog X.w) X σ (E σ))
    (ha : PA X (e :: es) t) (hkw : PK X kws tk) (hall : (backToKw pos (keywordEach kws X.env)).all (·.1.isSome) = true := by rfl) (hks : (backToKw pos (keywordEach kws X.env)).filterMap (·.1) = ks := by rfl)
    (hdb : (x == ("__debug__" : Str)) = false := by decide) (he : starEach (e :: es) X.env = (false, eval e X.env) :: starEach es X.env := by rfl)
    (hpl : ((backTo pos (starEach (e :: es) X.env)).any (·.1) || (backToKw pos (keywordEach kws X.env)).any (·.1.isNone)) = false := by rfl) :
    PE X (.Call (.Name x p) (e :: es) kws pos) (tCallX n ks.length sp ix dvs E t tk) := by
  refine ⟨fun pins s σ H Q I h => ?_⟩
  refine wpAny_Call_Name_kw (ld_glob I hg hm ?_ hdb)
  refine PySem.W.callWith_KW (h₀ := X.base) I.ok.mod.kin hk hall (thn (ha.run pos pins s σ H _ I h) fun us s1 ⟨vs, H1, I1, r, q⟩ => ?_) hpl he
  refine thn (hkw.run pos pins s1 σ H1 _ I1 q) fun ws s2 ⟨zs, H2, I2, rz, l1, l2, q2⟩ => ⟨I2.kIn, ?_⟩
  rw [hks]
  exact run_fnX F hr hb (hx σ) I2 r rz l1 l2 q2
theorem pe_callX0 (F : FnG X.prog X.w X.K X.mg X.base (L2.CX X.prog X.w) k fa fd ps sp) (hr : RoomG k X.A) (hg : Gl X x) (hm : X.mg x = some (.ref fa)) (hk : PySem.W.keepIn X.K (.ref fa) = true) (hb : KBd X.K fd ps 0 ks ix dvs) (hx : ∀ σ, PassesAt (L2.CX X.prog X.w) X σ (E σ))
    (hkw : PK X kws tk) (hall : (backToKw pos (keywordEach kws X.env)).all (·.1.isSome) = true := by rfl) (hks : (backToKw pos (keywordEach kws X.env)).filterMap (·.1) = ks := by rfl)
    (hdb : (x == ("__debug__" : Str)) = false := by decide)
    (hpl : ((backTo pos (starEach [] X.env)).any (·.1) || (backToKw pos (keywordEach kws X.env)).any (·.1.isNone)) = false := by rfl) :
    PE X (.Call (.Name x p) [] kws pos) (tCallX 0 ks.length sp ix dvs E tNil tk) := by
  refine ⟨fun pins s σ H Q I h => ?_⟩
  refine wpAny_Call_Name_kw (ld_glob I hg hm ?_ hdb)
  refine PySem.W.callWith_KW0 (h₀ := X.base) I.ok.mod.kin hk hall ?_ hpl
  refine thn (hkw.run pos pins s σ H _ I h) fun ws s2 ⟨zs, H2, I2, rz, l1, l2, q2⟩ => ⟨I2.kIn, ?_⟩
  rw [hks]
  exact run_fnX (us := []) F hr hb (hx σ) I2 .nil rz l1 l2 q2
def M.callK (ga gk : M (List Dat)) (ix : List Nat) (dds : List Dat) (G : List Dat → O) : M Dat := ga.bnd fun ds => gk.bnd fun zs ρ => callR (G (pick ix (ds ++ zs ++ dds))) ρ
theorem de_callK (tk : Takes X W) (F : FnG X.prog X.w X.K X.mg X.base (L2.CX X.prog X.w) k fa fd ps (spP X.K X.mg ps.length G)) (hr : RoomG k X.A) (hg : Gl X x) (hm : X.mg x = some (.ref fa)) (hk : PySem.W.keepIn X.K (.ref fa) = true) (hb : KBd X.K fd ps n ks ix dvs) (hdd : ∀ H, RepA X.K H dvs dds)
    (hn : ∀ ρ ds ρ', ga ρ = .ok ds ρ' → ds.length = n) (hm' : ∀ ρ ds ρ', gk ρ = .ok ds ρ' → ds.length = ks.length) (hix : ix.length = ps.length) (hlt : ∀ i ∈ ix, i < n + ks.length + dds.length)
    (ha : DA X W (e :: es) ga) (hkw : DK X W kws gk) (hall : (backToKw pos (keywordEach kws X.env)).all (·.1.isSome) = true := by rfl) (hks : (backToKw pos (keywordEach kws X.env)).filterMap (·.1) = ks := by rfl)
    (hdb : (x == ("__debug__" : Str)) = false := by decide) (he : starEach (e :: es) X.env = (false, eval e X.env) :: starEach es X.env := by rfl)
    (hpl : ((backTo pos (starEach (e :: es) X.env)).any (·.1) || (backToKw pos (keywordEach kws X.env)).any (·.1.isNone)) = false := by rfl) :
    DE X W (.Call (.Name x p) (e :: es) kws pos) (M.callK ga gk ix dds G) :=
  PE.imp (pe_callX F hr hg hm hk hb (fun σ => passAt tk σ) ha hkw hall hks hdb he hpl) fun σ H Q ⟨z, H0, ρ, r, q⟩ => by
    refine ⟨z, H0, ρ, r, ?_⟩
    unfold M.callK at q
    have q := Run.bnd q
    have hn := hn ρ
    cases eg : ga ρ with
    | ok ds ρ1 =>
      rw [eg] at q
      intro H1 G1 r1 s1 vs hv
      refine ⟨z, G1, ρ1, r1, ?_⟩
      have q2 := Run.bnd (q H1 G1 r1 s1)
      have hm' := hm' ρ1
      cases ek : gk ρ1 with
      | ok zs ρ2 =>
        rw [ek] at q2
        intro H2 G2 r2 s2 ws hw
        have l1 := hn ds ρ1 eg
        have l2 := hm' zs ρ2 ek
        refine ⟨by rw [hv.length, l1], by rw [hw.length, l2], G2, pick ix (ds ++ zs ++ dds), r2.sub, pick_rep (((hv.mono s2).app hw).app (hdd G2)) ix, ?_, out_callR r2 (q2 H2 G2 r2 s2)⟩
        rw [← hix]
        have key : ∀ ix : List Nat, (∀ i ∈ ix, i < n + ks.length + dds.length) → (pick ix (ds ++ zs ++ dds)).length = ix.length := by
          intro ix
          induction ix with
          | nil => intro _; rfl
          | cons i ix ih =>
            intro h
            have hi : i < (ds ++ zs ++ dds).length := by rw [List.length_append, List.length_append, l1, l2]; exact h i List.mem_cons_self
            unfold pick
            rw [List.filterMap_cons, List.getElem?_eq_getElem hi]
            show (_ :: pick ix (ds ++ zs ++ dds)).length = _
            rw [List.length_cons, List.length_cons, ih fun j hj => h j (List.mem_cons_of_mem _ hj)]
        exact key ix hlt
      | err cn fs ρ2 => rw [ek] at q2; exact q2
      | stuck => rw [ek] at q2; exact q2
    | err cn fs ρ1 => rw [eg] at q; exact q
    | stuck => rw [eg] at q; exact q
theorem de_callK0 (tk : Takes X W) (F : FnG X.prog X.w X.K X.mg X.base (L2.CX X.prog X.w) k fa fd ps (spP X.K X.mg ps.length G)) (hr : RoomG k X.A) (hg : Gl X x) (hm : X.mg x = some (.ref fa)) (hk : PySem.W.keepIn X.K (.ref fa) = true) (hb : KBd X.K fd ps 0 ks ix dvs) (hdd : ∀ H, RepA X.K H dvs dds)
    (hm' : ∀ ρ ds ρ', gk ρ = .ok ds ρ' → ds.length = ks.length) (hix : ix.length = ps.length) (hlt : ∀ i ∈ ix, i < 0 + ks.length + dds.length)
    (hkw : DK X W kws gk) (hall : (backToKw pos (keywordEach kws X.env)).all (·.1.isSome) = true := by rfl) (hks : (backToKw pos (keywordEach kws X.env)).filterMap (·.1) = ks := by rfl)
    (hdb : (x == ("__debug__" : Str)) = false := by decide)
    (hpl : ((backTo pos (starEach [] X.env)).any (·.1) || (backToKw pos (keywordEach kws X.env)).any (·.1.isNone)) = false := by rfl) :
    DE X W (.Call (.Name x p) [] kws pos) (M.callK (M.ret []) gk ix dds G) :=
  PE.imp (pe_callX0 F hr hg hm hk hb (fun σ => passAt tk σ) hkw hall hks hdb hpl) fun σ H Q ⟨z, H0, ρ, r, q⟩ => by
    unfold M.callK at q
    have q := Run.bnd q
    refine ⟨z, H0, ρ, r, ?_⟩
    have q2 := Run.bnd (q H H0 r (Same.refl _))
    have hm' := hm' ρ
    cases ek : gk ρ with
    | ok zs ρ2 =>
      rw [ek] at q2
      intro H2 G2 r2 s2 ws hw
      have l2 := hm' zs ρ2 ek
      refine ⟨rfl, by rw [hw.length, l2], G2, pick ix ([] ++ zs ++ dds), r2.sub, pick_rep ((RepA.app (ds := []) .nil hw).app (hdd G2)) ix, ?_, out_callR r2 (q2 H2 G2 r2 s2)⟩
      rw [← hix]
      have key : ∀ ix : List Nat, (∀ i ∈ ix, i < 0 + ks.length + dds.length) → (pick ix ([] ++ zs ++ dds)).length = ix.length := by
        intro ix
        induction ix with
        | nil => intro _; rfl
        | cons i ix ih =>
          intro h
          have hi : i < ([] ++ zs ++ dds).length := by rw [List.length_append, List.length_append, l2]; exact h i List.mem_cons_self
          unfold pick
          rw [List.filterMap_cons, List.getElem?_eq_getElem hi]
          show (_ :: pick ix ([] ++ zs ++ dds)).length = _
          rw [List.length_cons, List.length_cons, ih fun j hj => h j (List.mem_cons_of_mem _ hj)]
      exact key ix hlt
    | err cn fs ρ2 => rw [ek] at q2; exact q2
    | stuck => rw [ek] at q2; exact q2
/-- the defaults fill up a call by place: f(e, ..) -/
def M.callD (ga : M (List Dat)) (dds : List Dat) (G : List Dat → O) : M Dat := ga.bnd fun ds ρ => callR (G (ds ++ dds)) ρ
theorem de_callD {dsv : List Value} (tk : Takes X W) (F : FnG X.prog X.w X.K X.mg X.base (L2.CX X.prog X.w) k fa fd ps (spP X.K X.mg m G)) (hr : RoomG k X.A) (hg : Gl X x) (hm : X.mg x = some (.ref fa)) (hk : PySem.W.keepIn X.K (.ref fa) = true) (hb : Binds X.K fd ps dsv) (hd : Vals dvs dsv) (hdd : ∀ H, RepA X.K H dvs dds)
    (hn : ∀ ρ ds ρ', ga ρ = .ok ds ρ' → ds.length = n) (hl : n + dds.length = m)
    (ha : DA X W (e :: es) ga) (hdb : (x == ("__debug__" : Str)) = false := by decide) (he : starEach (e :: es) X.env = (false, eval e X.env) :: starEach es X.env := by rfl) (hpl : (backTo pos (starEach es X.env)).any (·.1) = false := by rfl) :
    DE X W (.Call (.Name x p) (e :: es) [] pos) (ga.callD dds G) :=
  PE.imp (pe_callG F hr hg hm hk hb hd (fun σ => passAt tk σ) ha hdb he hpl) fun σ H Q ⟨z, H0, ρ, r, q⟩ => by
    refine ⟨z, H0, ρ, r, ?_⟩
    unfold M.callD at q
    have q := Run.bnd q
    have hn := hn ρ
    cases eg : ga ρ with
    | ok ds ρ1 =>
      rw [eg] at q
      exact fun H1 G1 r1 s1 vs hv => ⟨G1, ds ++ dds, r1.sub, hv.app (hdd G1), by rw [List.length_append, hn ds ρ1 eg]; exact hl, out_callR r1 (q H1 G1 r1 s1)⟩
    | err cn fs ρ1 => rw [eg] at q; exact q
    | stuck => rw [eg] at q; exact q
end
/-! ## the binding of a def without defaults, by keywords -/
theorem kbd_all {K : PySem.W.Frag} {fd : FuncData} {ps ks : List Str} {n : Nat} {ix : List Nat} (h : ∀ us ws : List Value, us.length = n → ws.length = ks.length → bindArgs fd ⟨us, ks.zip ws⟩ = pure (ps.zip (pick ix (us ++ ws ++ [])))) : KBd K fd ps n ks ix [] :=
  ⟨[], .nil, fun s us ws _ l1 l2 => .of_eq (h us ws l1 l2)⟩
theorem fun_kbd {K : PySem.W.Frag} {x qual : Str} {st : Stmt} {f : Addr} {fd : FuncData} {ps ks : List Str} {n : Nat} {ix : List Nat} (F : Fun K x qual st f fd)
    (h : ∀ (kV doc pm : Value) (an : Option Addr) (cdv ct : Value) (us ws : List Value), us.length = n → ws.length = ks.length → bindArgs (PySem.W.fnOf x qual (defArgs st) (defBody st) (defScope st) .none kV doc pm an cdv ct) ⟨us, ks.zip ws⟩ = pure (ps.zip (pick ix (us ++ ws ++ [])))) : KBd K fd ps n ks ix [] := by
  obtain ⟨oc, od, kV, doc, pm, an, cdv, ct, osl, rfl, lk, hcd⟩ := F.ex
  exact kbd_all (h kV doc pm an cdv ct)
end Sv

set_option Elab.async false
set_option linter.all false
set_option maxRecDepth 100000
set_option maxHeartbeats 1000000
namespace Sv
open PySem L2 PyProof.Rows
section
variable {X : Cx} {W : WX} {e a b c : Expr} {f g h : M Dat} {ga : M (List Dat)} {pos p : Pos} {x : Str} {es : List Expr}
theorem dt_chain {op op' : CmpOp} {r r' : R2} {o1 o2 : Dat → Dat → Option Dat} (ho : OpR X (compareOp op) r) (ho' : OpR X (compareOp op') r') (s1 : Snd2 X.K r o1) (s2 : Snd2 X.K r' o2) (ha : DE X W a f) (hb : DE X W b g) (hc : DE X W c h)
    (hm : lastMarks [op, op'] [b, c] = false := by with_unfolding_all rfl) : DT X W (.Compare a [op, op'] [b, c] pos) (M.chain f g h o1 o2).isB :=
  PT.imp (pt_chain ho ho' ha hb hc hm) fun σ H Q ⟨z, H0, ρ, rl, q⟩ => by
    have q := Run.bnd q
    unfold M.chain at q
    refine part rl q fun dx x H1 G1 ρ1 r1 t1 hx q1 => part r1 q1 fun dy y H2 G2 ρ2 r2 t2 hy q2 => ?_
    unfold M.isB at q2
    rw [bnd_assoc] at q2
    have q2 := Run.bnd q2
    obtain ⟨dk, e, q3⟩ := Run.lift q2
    refine s1 H2 G2 x y dx dy dk _ r2.sub (hx.mono t2) hy e fun v H' H0' g hv => ?_
    have q4 := q3 H' H0' (g.rel r2) g.s
    cases dk with
    | bl k =>
      cases hv
      refine ⟨k, rfl, ?_⟩
      cases k with
      | true =>
        rw [if_pos rfl]
        refine part (g.rel r2) q4 fun dz w H3 G3 ρ3 r3 t3 hw q5 => ?_
        obtain ⟨de, e2, q6⟩ := Run.lift q5
        refine s2 H3 G3 y w dy dz de _ r3.sub (hy.mono (g.s.trans t3)) hw e2 fun v H4 G4 g4 hv => ?_
        obtain ⟨bb, e3, q7⟩ := Run.lift (q6 H4 G4 (g4.rel r3) g4.s)
        cases de with
        | bl k2 =>
          cases e3
          cases hv
          exact ⟨_, rfl, q7 H4 G4 (g4.rel r3) (Same.refl _)⟩
        | _ => cases e3
      | false =>
        rw [if_neg Bool.false_ne_true]
        obtain ⟨bb, e3, q7⟩ := Run.lift (q4 H' H0' (g.rel r2) (Same.refl _))
        cases e3
        exact ⟨false, rfl, q7 H' H0' (g.rel r2) (Same.refl _)⟩
    | _ => exact q4.elim
end
/-! ## a def as callers know it -/
/-- a result without the slots -/
def O.pur : O → O
  | .nxt _ => .ret .non []
  | .ret d _ => .ret d []
  | .new ds _ => .new ds []
  | .err c fs _ => .err c fs []
  | _ => .stuck
/-- with the first slot alone -/
def O.inp : O → O
  | .nxt ρ => .ret .non (ρ.take 1)
  | .ret d ρ => .ret d (ρ.take 1)
  | .new ds ρ => .new ds (ρ.take 1)
  | .err c fs ρ => .err c fs (ρ.take 1)
  | _ => .stuck
theorem take1 {ρ : En} {y : Sl} (h : (ρ.take 1)[0]? = some y) : ρ[0]? = some y := by
  rw [List.getElem?_take] at h
  simpa using h
theorem out_pur {K : PySem.W.Frag} {mg : Str → Option Value} {H H0 : Hp} {o : O} {Q : VK} {E : XK} (h : OutP K mg H H0 o.pur Q E) : OutP K mg H H0 o Q E := by
  cases o with
  | nxt _ => exact fun H' H0' g => h .non H' H0' g .non
  | ret d _ => exact h
  | new ds _ => exact h
  | err c fs _ => exact h
  | brk _ => exact h.elim
  | ctn _ => exact h.elim
  | stuck => exact h.elim
theorem out_inp {K : PySem.W.Frag} {mg : Str → Option Value} {a : Addr} {H H0 : Hp} {o : O} {Q : VK} {E : XK} (h : OutI K mg a H H0 o.inp Q E) : OutI K mg a H H0 o Q E := by
  cases o with
  | nxt ρ =>
    obtain ⟨ys, e, h⟩ := h
    exact ⟨ys, take1 e, fun H' H0' g l => h .non H' H0' g l .non⟩
  | ret d ρ => obtain ⟨ys, e, h⟩ := h; exact ⟨ys, take1 e, h⟩
  | new ds ρ => obtain ⟨ys, e, h⟩ := h; exact ⟨ys, take1 e, h⟩
  | err c fs ρ => obtain ⟨ys, e, h⟩ := h; exact ⟨ys, take1 e, h⟩
  | brk _ => exact h.elim
  | ctn _ => exact h.elim
  | stuck => exact h.elim
/-- the def x of the text st stands behind the module's name x and keeps sp -/
structure Fd (P : Program) (w : World) (K : PySem.W.Frag) (mg : Str → Option Value) (base : Heap) (x qual : Str) (st : Stmt) (k : Nat) (ps : List Str) (sp : L2.Sp) : Prop where
  ex : ∃ (fa : Addr) (fd : FuncData), Fun K x qual st fa fd ∧ FnG P w K mg base (L2.CX P w) k fa fd ps sp ∧ mg x = some (.ref fa)
/-- where it stands -/
structure Sd (K : PySem.W.Frag) (mg : Str → Option Value) (x qual : Str) (st : Stmt) : Prop where
  ex : ∃ (fa : Addr) (fd : FuncData), Fun K x qual st fa fd ∧ mg x = some (.ref fa)
/-- how its arguments bind -/
def Bd (x qual : Str) (st : Stmt) (ps ks : List Str) (n : Nat) (ix : List Nat) : Prop :=
  ∀ (kV doc pm : Value) (an : Option Addr) (cdv ct : Value) (us ws : List Value), us.length = n → ws.length = ks.length → bindArgs (PySem.W.fnOf x qual (defArgs st) (defBody st) (defScope st) .none kV doc pm an cdv ct) ⟨us, ks.zip ws⟩ = pure (ps.zip (pick ix (us ++ ws ++ [])))
def Bn (x qual : Str) (st : Stmt) (ps : List Str) : Prop :=
  ∀ (kV doc pm : Value) (an : Option Addr) (cdv ct : Value) (us : List Value), us.length = ps.length → bindArgs (PySem.W.fnOf x qual (defArgs st) (defBody st) (defScope st) .none kV doc pm an cdv ct) ⟨us, []⟩ = pure (ps.zip us)
section
variable {P : Program} {w : World} {K : PySem.W.Frag} {mg : Str → Option Value} {base : Heap} {x qual : Str} {st : Stmt} {k : Nat} {N ps : List Str} {body : En → O}
theorem fd_pure (S : Sd K mg x qual st) (sc : FnScope N ps (defScope st)) (hb : ∀ (f : Addr) (cdv : Value) (A : Around) (outer : List Env) (s : Shared) (H : Hp) (E : XK), RoomG k (A.deeper (PyProof.Rows.envOfC qual (defScope st) s.heap.objs.size f cdv)) → DB (cxOf (L2.CX P w) P w K mg base N qual (defScope st) f cdv A outer s H E) (WE0 E) (defBody st) body) :
    Fd P w K mg base x qual st (k + 1) ps (spP K mg ps.length fun ds => (body (startE N.length (ds.map .val))).pur) := by
  obtain ⟨fa, fd, F, hm⟩ := S.ex
  refine ⟨fa, fd, F, (fn_pure F sc (hb fa)).imp fun vs H Q E h => ?_, hm⟩
  obtain ⟨H0, ds, h1, h2, h3, h4⟩ := h
  exact ⟨H0, ds, h1, h2, h3, out_pur h4⟩
theorem fd_ino (S : Sd K mg x qual st) (sc : FnScope N ps (defScope st)) (hb : ∀ (f : Addr) (cdv : Value) (A : Around) (outer : List Env) (s : Shared) (H : Hp) (E : XK), RoomG k (A.deeper (PyProof.Rows.envOfC qual (defScope st) s.heap.objs.size f cdv)) → DB (cxOf (L2.CX P w) P w K mg base N qual (defScope st) f cdv A outer s H E) (WE0 E) (defBody st) body) :
    Fd P w K mg base x qual st (k + 1) ps (spI K mg ps.length fun xs ds => (body (startE N.length (.ino xs :: ds.map .val))).inp) := by
  obtain ⟨fa, fd, F, hm⟩ := S.ex
  refine ⟨fa, fd, F, (fn_ino F sc (hb fa)).imp fun vs H Q E h => ?_, hm⟩
  obtain ⟨H0, a, xs, vs', ds, e, h1, h2, h3, h4, h5, h6⟩ := h
  exact ⟨H0, a, xs, vs', ds, e, h1, h2, h3, h4, h5, out_inp h6⟩
end
section
variable {X : Cx} {W : WX} {e a b c : Expr} {f g h : M Dat} {ga gk : M (List Dat)} {pos p : Pos} {x qual : Str} {st : Stmt} {es : List Expr} {k j n : Nat} {ps ks : List Str} {ix : List Nat} {G : List Dat → O} {GI : List Dat → List Dat → O} {kws : List Keyword} {sp : L2.Sp}
theorem c_de (D : Fd X.prog X.w X.K X.mg X.base x qual st j ps (spP X.K X.mg n G)) (bn : Bn x qual st ps) (tk : Takes X W) (hr : RoomG k X.A) (hjk : j ≤ k) (hg : Gl X x) 
    (hn : ∀ ρ ds ρ', ga ρ = .ok ds ρ' → ds.length = n)
    (ha : DA X W (e :: es) ga) (hdb : (x == ("__debug__" : Str)) = false := by decide) (he : starEach (e :: es) X.env = (false, eval e X.env) :: starEach es X.env := by rfl) (hpl : (backTo pos (starEach es X.env)).any (·.1) = false := by rfl) :
    DE X W (.Call (.Name x p) (e :: es) [] pos) (ga.call [] G) := by
  obtain ⟨fa, fd, F, ok, hm⟩ := D.ex
  exact de_call tk ok (hr.mono hjk) hg hm F.kp (F.binds bn) hn ha hdb he hpl
theorem c_dn (D : Fd X.prog X.w X.K X.mg X.base x qual st j ps (spP X.K X.mg n G)) (bn : Bn x qual st ps) (tk : Takes X W) (hr : RoomG k X.A) (hjk : j ≤ k) (hg : Gl X x) 
    (hn : ∀ ρ ds ρ', ga ρ = .ok ds ρ' → ds.length = n)
    (ha : DA X W (e :: es) ga) (hdb : (x == ("__debug__" : Str)) = false := by decide) (he : starEach (e :: es) X.env = (false, eval e X.env) :: starEach es X.env := by rfl) (hpl : (backTo pos (starEach es X.env)).any (·.1) = false := by rfl) :
    DN X W (.Call (.Name x p) (e :: es) [] pos) (ga.callN [] G) := by
  obtain ⟨fa, fd, F, ok, hm⟩ := D.ex
  exact dn_call tk ok (hr.mono hjk) hg hm F.kp (F.binds bn) hn ha hdb he hpl
theorem c_di (i : Nat) {y : Str} {p2 : Pos} (D : Fd X.prog X.w X.K X.mg X.base x qual st j ps (spI X.K X.mg n GI)) (bn : Bn x qual st ps) (tk : Takes X W) (hr : RoomG k X.A) (hjk : j ≤ k) (hg : Gl X x) 
    (hn : ∀ ρ ds ρ', ga ρ = .ok ds ρ' → ds.length + 1 = n) (ha : DA X W es ga)
    (hN : X.N[i]? = some y := by rfl) (hv : Vis X.env.scope y := by first | exact Or.inl rfl | exact Or.inr (Or.inl rfl) | exact Or.inr (Or.inr rfl)) (hd : (y == ("__debug__" : Str)) = false := by decide)
    (hcd : (y == ("__classdict__" : Str)) = false := by decide) (hdb : (x == ("__debug__" : Str)) = false := by decide) (he : starEach (.Name y p2 :: es) X.env = (false, eval (.Name y p2) X.env) :: starEach es X.env := by rfl) (hpl : (backTo pos (starEach es X.env)).any (·.1) = false := by rfl) :
    DE X W (.Call (.Name x p) (.Name y p2 :: es) [] pos) (M.callI i ga GI) := by
  obtain ⟨fa, fd, F, ok, hm⟩ := D.ex
  exact de_callI i tk ok (hr.mono hjk) hg hm F.kp (F.binds bn) hn ha hN hv hd hcd hdb he hpl
theorem c_dk (D : Fd X.prog X.w X.K X.mg X.base x qual st j ps (spP X.K X.mg ps.length G)) (bd : Bd x qual st ps ks n ix) (tk : Takes X W) (hr : RoomG k X.A) (hjk : j ≤ k) (hg : Gl X x) 
    (hn : ∀ ρ ds ρ', ga ρ = .ok ds ρ' → ds.length = n) (hm' : ∀ ρ ds ρ', gk ρ = .ok ds ρ' → ds.length = ks.length) (hix : ix.length = ps.length) (hlt : ∀ i ∈ ix, i < n + ks.length + ([] : List Dat).length)
    (ha : DA X W (e :: es) ga) (hkw : DK X W kws gk) (hall : (backToKw pos (keywordEach kws X.env)).all (·.1.isSome) = true := by rfl) (hks : (backToKw pos (keywordEach kws X.env)).filterMap (·.1) = ks := by rfl)
    (hdb : (x == ("__debug__" : Str)) = false := by decide) (he : starEach (e :: es) X.env = (false, eval e X.env) :: starEach es X.env := by rfl)
    (hpl : ((backTo pos (starEach (e :: es) X.env)).any (·.1) || (backToKw pos (keywordEach kws X.env)).any (·.1.isNone)) = false := by rfl) :
    DE X W (.Call (.Name x p) (e :: es) kws pos) (M.callK ga gk ix [] G) := by
  obtain ⟨fa, fd, F, ok, hm⟩ := D.ex
  exact de_callK tk ok (hr.mono hjk) hg hm F.kp (fun_kbd F bd) (fun _ => .nil) hn hm' hix hlt ha hkw hall hks hdb he hpl
theorem c_dk0 (D : Fd X.prog X.w X.K X.mg X.base x qual st j ps (spP X.K X.mg ps.length G)) (bd : Bd x qual st ps ks 0 ix) (tk : Takes X W) (hr : RoomG k X.A) (hjk : j ≤ k) (hg : Gl X x) 
    (hm' : ∀ ρ ds ρ', gk ρ = .ok ds ρ' → ds.length = ks.length) (hix : ix.length = ps.length) (hlt : ∀ i ∈ ix, i < 0 + ks.length + ([] : List Dat).length)
    (hkw : DK X W kws gk) (hall : (backToKw pos (keywordEach kws X.env)).all (·.1.isSome) = true := by rfl) (hks : (backToKw pos (keywordEach kws X.env)).filterMap (·.1) = ks := by rfl)
    (hdb : (x == ("__debug__" : Str)) = false := by decide)
    (hpl : ((backTo pos (starEach [] X.env)).any (·.1) || (backToKw pos (keywordEach kws X.env)).any (·.1.isNone)) = false := by rfl) :
    DE X W (.Call (.Name x p) [] kws pos) (M.callK (M.ret []) gk ix [] G) := by
  obtain ⟨fa, fd, F, ok, hm⟩ := D.ex
  exact de_callK0 tk ok (hr.mono hjk) hg hm F.kp (fun_kbd F bd) (fun _ => .nil) hm' hix hlt hkw hall hks hdb hpl
/-- how the defaults of x's def fill up -/
def BdD (K : PySem.W.Frag) (mg : Str → Option Value) (x qual : Str) (st : Stmt) (ps : List Str) (dvs : List V) : Prop := ∀ (fa : Addr) (fd : FuncData), Fun K x qual st fa fd → mg x = some (.ref fa) → ∃ dsv, Vals dvs dsv ∧ Binds K fd ps dsv
theorem c_dd {dvs : List V} {dds : List Dat} (D : Fd X.prog X.w X.K X.mg X.base x qual st j ps (spP X.K X.mg ps.length G)) (bd : BdD X.K X.mg x qual st ps dvs) (hdd : ∀ H, RepA X.K H dvs dds) (tk : Takes X W) (hr : RoomG k X.A) (hjk : j ≤ k) (hg : Gl X x) 
    (hn : ∀ ρ ds ρ', ga ρ = .ok ds ρ' → ds.length = n) (hl : n + dds.length = ps.length)
    (ha : DA X W (e :: es) ga) (hdb : (x == ("__debug__" : Str)) = false := by decide) (he : starEach (e :: es) X.env = (false, eval e X.env) :: starEach es X.env := by rfl) (hpl : (backTo pos (starEach es X.env)).any (·.1) = false := by rfl) :
    DE X W (.Call (.Name x p) (e :: es) [] pos) (ga.callD dds G) := by
  obtain ⟨fa, fd, F, ok, hm⟩ := D.ex
  obtain ⟨dsv, h1, h2⟩ := bd fa fd F hm
  exact de_callD tk ok (hr.mono hjk) hg hm F.kp h2 h1 hdd hn hl ha hdb he hpl
end
end Sv

set_option Elab.async false
set_option linter.all false
set_option maxRecDepth 100000
set_option maxHeartbeats 1000000
namespace Sv
open PySem L2 PyProof.Rows
abbrev ltD : Dat → Dat → Option Dat := bop fun i j => decide (i < j)
abbrev leD : Dat → Dat → Option Dat := bop fun i j => decide (i ≤ j)
abbrev gtD : Dat → Dat → Option Dat := bop fun i j => decide (j < i)
abbrev geD : Dat → Dat → Option Dat := bop fun i j => decide (j ≤ i)
def tb_int : String → Bool := fun s => s == "int" || s == "bool"
def tb_bool : String → Bool := fun s => s == "bool"
def tb_str : String → Bool := fun s => s == "str"
def tb_tuple : String → Bool := fun s => s == "tuple"
def tb_list : String → Bool := fun s => s == "list"
def tb_dict : String → Bool := fun s => s == "dict"
section
variable {X : Cx} {W : WX} {e a b c : Expr} {f g h : M Dat} {ga : M (List Dat)} {pos pos' p apos cpos : Pos} {x : Str} {es : List Expr}
/-- a comparison as a test -/
def CmpS (X : Cx) (o : CmpOp) (op : Dat → Dat → Option Dat) : Prop := ∃ r : R2, OpR X (compareOp o) r ∧ Snd2 X.K r op
theorem dt_cmpS {o : CmpOp} {op : Dat → Dat → Option Dat} (h : CmpS X o op) (ha : DE X W a f) (hb : DE X W b g) (hm : behindInMarks o b = false) : DT X W (.Compare a [o] [b] pos) (M.isB (f.bin g op)) := by
  obtain ⟨r, ho, hs⟩ := h
  exact PT.imp (pt_cmpR ho ha hb hm) fun σ H Q ⟨z, H0, ρ, rl, q⟩ => op_run (X := X) (F := W) (Q := fun v H' => ∃ b, v = .bl b ∧ Q b H') hs (part rl q fun d v H1 G1 ρ1 r1 s1 hx q1 => by
    obtain ⟨b, e, q2⟩ := Run.lift q1
    cases d <;> cases e
    cases hx
    exact ⟨b, rfl, q2 _ _ r1 (Same.refl _)⟩)
theorem cs_lt : CmpS X .Lt (bop fun i j => decide (i < j)) := ⟨_, op_lt, Snd2.bop⟩
theorem dt_lt (ha : DE X W a f) (hb : DE X W b g) : DT X W (.Compare a [.Lt] [b] pos) (M.isB (f.bin g (bop fun i j => decide (i < j)))) := dt_cmpS cs_lt ha hb (nomark _)
theorem cs_le : CmpS X .LtE (bop fun i j => decide (i ≤ j)) := ⟨_, op_le, Snd2.bop⟩
theorem dt_le (ha : DE X W a f) (hb : DE X W b g) : DT X W (.Compare a [.LtE] [b] pos) (M.isB (f.bin g (bop fun i j => decide (i ≤ j)))) := dt_cmpS cs_le ha hb (nomark _)
theorem cs_gt : CmpS X .Gt (bop fun i j => decide (j < i)) := ⟨_, op_gt, Snd2.bop⟩
theorem dt_gt (ha : DE X W a f) (hb : DE X W b g) : DT X W (.Compare a [.Gt] [b] pos) (M.isB (f.bin g (bop fun i j => decide (j < i)))) := dt_cmpS cs_gt ha hb (nomark _)
theorem cs_ge : CmpS X .GtE (bop fun i j => decide (j ≤ i)) := ⟨_, op_ge, Snd2.bop⟩
theorem dt_ge (ha : DE X W a f) (hb : DE X W b g) : DT X W (.Compare a [.GtE] [b] pos) (M.isB (f.bin g (bop fun i j => decide (j ≤ i)))) := dt_cmpS cs_ge ha hb (nomark _)
theorem cs_eq (hu : X.A.units + 64 < cLine) : CmpS X .Eq eqD := ⟨_, (op_eqD hu), snd_eq⟩
theorem dt_eq (hu : X.A.units + 64 < cLine) (ha : DE X W a f) (hb : DE X W b g) : DT X W (.Compare a [.Eq] [b] pos) (M.isB (f.bin g eqD)) := dt_cmpS (cs_eq hu) ha hb (nomark _)
theorem cs_ne (hu : X.A.units + 64 < cLine) : CmpS X .NotEq neD := ⟨_, (op_neD hu), snd_ne⟩
theorem dt_ne (hu : X.A.units + 64 < cLine) (ha : DE X W a f) (hb : DE X W b g) : DT X W (.Compare a [.NotEq] [b] pos) (M.isB (f.bin g neD)) := dt_cmpS (cs_ne hu) ha hb (nomark _)
theorem cs_isN : CmpS X .Is isNoneD := ⟨_, op_isN, (fun H H0 x y dx dy dz Q s hx hy e q => by
  cases dy <;> cases e
  cases hy
  exact ⟨rfl, by rw [isN_rep hx]; exact q _ H H0 (Grow.refl s) (.bl _)⟩)⟩
theorem dt_isN (ha : DE X W a f) (hb : DE X W b g) : DT X W (.Compare a [.Is] [b] pos) (M.isB (f.bin g isNoneD)) := dt_cmpS cs_isN ha hb (nomark _)
theorem cs_notN : CmpS X .IsNot notNoneD := ⟨_, op_notN, (fun H H0 x y dx dy dz Q s hx hy e q => by
  cases dy <;> cases e
  cases hy
  exact ⟨rfl, by rw [isN_rep hx]; exact q _ H H0 (Grow.refl s) (.bl _)⟩)⟩
theorem dt_notN (ha : DE X W a f) (hb : DE X W b g) : DT X W (.Compare a [.IsNot] [b] pos) (M.isB (f.bin g notNoneD)) := dt_cmpS cs_notN ha hb (nomark _)
theorem cs_in : CmpS X .In inD := ⟨_, op_in_seq, (fun H H0 x y dx dy dz Q s hx hy e q => by
  unfold inD at e
  cases dy with
  | tup ds =>
    dsimp only [items] at e
    split at e
    · rename_i h
      cases e
      cases hy with
      | @tup a vs _ h1 h2 =>
        refine ⟨a, vs, rfl, .inr (sameT s h1.sq), (flat_rep hx).trans h.1, (flat_all h2).trans h.2, ?_⟩
        rw [if_neg Bool.false_ne_true]
        unfold inV
        rw [in_rep hx h2]
        exact q _ H H0 (Grow.refl s) (.bl _)
    · cases e
  | lst ds =>
    dsimp only [items] at e
    split at e
    · rename_i h
      cases e
      cases hy with
      | @lst a vs _ h1 h2 =>
        refine ⟨a, vs, rfl, .inl (.inl (sameRd s h1)), (flat_rep hx).trans h.1, (flat_all h2).trans h.2, ?_⟩
        rw [if_neg Bool.false_ne_true]
        unfold inV
        rw [in_rep hx h2]
        exact q _ H H0 (Grow.refl s) (.bl _)
    · cases e
  | _ => cases e)⟩
theorem dt_in (ha : DE X W a f) (hb : DE X W b g) (hm : behindInMarks .In b = false := by rfl) : DT X W (.Compare a [.In] [b] pos) (M.isB (f.bin g inD)) := dt_cmpS cs_in ha hb hm
/-- xs.append(e), xs a name -/
def appL (i : Nat) (f : M Dat) : En → O := fun ρ => match mutAt ρ i with
  | some _ => (f ρ).toO fun d ρ' => (match mutAt ρ' i with
    | some ds => if ds.length < 1000000 then .nxt (putAt ρ' i (ds ++ [d])) else .stuck
    | none => .stuck)
  | none => .stuck
theorem ds_app (i : Nat) (he : DE X W e f) (hN : X.N[i]? = some x := by rfl) (hv : Vis X.env.scope x := by first | exact Or.inl rfl | exact Or.inr (Or.inl rfl) | exact Or.inr (Or.inr rfl)) (hd : (x == ("__debug__" : Str)) = false := by decide)
    (hcd : (x == ("__classdict__" : Str)) = false := by decide)
    (hbase : attributeBase (.Name x p) "append" X.env (eval (.Name x p) X.env) = eval (.Name x p) X.env := by rfl)
    (hfew : ((backTo cpos (starEach [e] X.env)).all (fun x => !x.1) && (backToKw cpos (keywordEach [] X.env)).all (fun x => x.1.isSome)
      && decide ([e].length + ([] : List Keyword).length + (if ([] : List Keyword).isEmpty then 0 else 1) < 30)) = true := by rfl)
    (hline : (apos.endLine == cpos.line) = true := by rfl) (hs : starEach [e] X.env = (false, eval e X.env) :: starEach [] X.env := by rfl) (hplain : (backTo cpos (starEach [] X.env)).any (·.1) = false := by rfl)
    (hw : swapsWith (.Call (.Attribute (.Name x p) "append" apos) [e] [] cpos) none pos.line X.env = pure false := by rfl) :
    DS X W (.Expr (.Call (.Attribute (.Name x p) "append" apos) [e] [] cpos) pos) (appL i f) :=
  PS.imp (ps_expr (pe_bm PySem.F.plainAttrs_list PySem.F.slot_list_append PySem.F.type_list_append mt_append (pe_var hN hv hd hcd) (pa_cons he pa_nil hs) hbase hfew hline hs hplain) hw) fun D σ H ⟨z, H0, ρ, r, q⟩ => by
    unfold appL at q
    split at q
    · rename_i ds0 e0
      obtain ⟨_, a, h1, h2, vs, h4, h5⟩ := mutAt_at r e0
      refine ⟨_, h1, .inl ⟨rfl, vs, SqL.of h4⟩, z, H0, ρ, r, (RunS.part (σ := σ) q).mono fun d H1 G1 ρ1 r1 s1 q1 y hy => ?_⟩
      split at q1
      · rename_i ds e
        split at q1
        · rename_i hl
          obtain ⟨_, a2, g1, g2, vs, g4, g5⟩ := mutAt_at r1 e
          rw [h1] at g1
          cases g1
          refine ⟨a, vs, y, rfl, rfl, g4, by rw [g5.length]; exact Nat.lt_of_lt_of_le hl (by decide), ?_⟩
          exact q1 σ _ G1 (r1.inout e h1 (GrowB.upd r1.sub g2) ⟨_, upd_same, g5.app (.cons hy .nil)⟩) (Same.refl _)
        · exact q1.elim
      · exact q1.elim
    · exact q.elim
variable {elt tg iter : Expr} {ifs : List Expr} {scope : Scope} {own : List (Str × Nat)} {t : Tg} {tt : M Bool}
/-- y = [.. for .. in known data], y a plain local -/
theorem ds_setLc (i : Nat) {spos : Pos} {y : Str} {py : Pos} (hc : X.calm = true) (hN : X.N.Nodup) (hy : X.N[i]? = some y) (hyl : X.env.scope.names.lookup y = some .local)
    (hsw : swapsWith (.ListComp elt [⟨tg, iter, ifs, 0⟩] scope pos) (some (.Name y py)) spos.line X.env = pure true) (hi : DE X W iter f) (ok : BlkOk X.N X.env.scope scope own) (hown : own.map (·.2) = t.slots)
    (hg : ∀ (s : Shared) (H : Hp) (C : Addr) (cl : List (Str × Addr)) (fp : List Addr), PG (X.blk s H scope (compEnvC scope cl C X.env) fp) tg (gT X.K t)) (ht : ∀ (s : Shared) (H : Hp) (C : Addr) (cl : List (Str × Addr)) (fp : List Addr), DTs (X.blk s H scope (compEnvC scope cl C X.env) fp) W0 ifs tt)
    (he : ∀ (s : Shared) (H : Hp) (C : Addr) (cl : List (Str × Addr)) (fp : List Addr), DE (X.blk s H scope (compEnvC scope cl C X.env) fp) W0 elt g) (hs : ∀ x, foldedSetIterable iter X.env x = pure x := by intro _; rfl) :
    DS X W (.Assign [.Name y py] (.ListComp elt [⟨tg, iter, ifs, 0⟩] scope pos) spos) (setNO (f.lc t tt g) i) :=
  PS.imp (ps_setLc (tt := tDT (cc X W0) tt) (te := tD (cc X W0) g) hc hN hy hyl hsw (pi_seq hi) ok hg ht he hs) fun D σ H ⟨z, H0, ρ, r, q⟩ => by
    rw [hown]
    exact lc_reading (X := X) (W := W) (Q := fun x H1 => gName i x σ H1 D.nx) ⟨z, H0, ρ, r, (RunS.part (σ := σ) q).mono fun ds H1 G1 ρ1 r1 s1 q1 p n => setN_run r1 n q1⟩
end
end Sv

set_option Elab.async false
set_option linter.all false
set_option maxRecDepth 100000
set_option maxHeartbeats 1000000
namespace ZS
open PySem PySem.Spec PyProof.Rows
open PySem.Sem (wp)
theorem typeCall_zip (us : List Value) : checkTypeCall "zip" ⟨us, []⟩ = pure () := by kernel_rfl
theorem newCall_zip : ∀ us : List Value, us.length ≤ 5 → checkBuiltinCall "zip.__new__" ⟨.type "zip" :: us, []⟩ = pure ()
  | [], _ => by kernel_rfl
  | [a], _ => by kernel_rfl
  | [a, b], _ => by kernel_rfl
  | [a, b, c], _ => by kernel_rfl
  | [a, b, c, d], _ => by kernel_rfl
  | [a, b, c, d, e], _ => by kernel_rfl
  | _ :: _ :: _ :: _ :: _ :: _ :: _, h => by simp at h
theorem args_init (obj : Value) : ∀ us : List Value, us.length ≤ 5 → argsOk "object.__init__" ⟨obj :: us, []⟩ := by
  have key : ∀ us : List Value, us.length ≤ 5 → argsOk "object.__init__" ⟨obj :: us, []⟩ := fun us h => by
    unfold argsOk; rw [signature?_of (id := "object.__init__") (n := ['_', '_', 't', 'i', 'n', 'i', '_', '_']) (o := ['t', 'c', 'e', 'j', 'b', 'o']) (by kernel_rfl) F.owner_object]
    match us, h with
    | [], _ => kernel_rfl
    | [a], _ => kernel_rfl
    | [a, b], _ => kernel_rfl
    | [a, b, c], _ => kernel_rfl
    | [a, b, c, d], _ => kernel_rfl
    | [a, b, c, d, e], _ => kernel_rfl
    | _ :: _ :: _ :: _ :: _ :: _ :: _, h => simp at h
  exact key
theorem newClass_zip (us : List Value) : Builtin.SmallTypes.newClass "zip" ⟨.type "zip" :: us, []⟩ = pure (.type "zip", us) := by
  unfold Builtin.SmallTypes.newClass
  simp only [isType, sub_zip, pure_bind, Bool.not_true, Bool.false_eq_true, if_false]
section
variable {prog : Program} {w : World} {A : Around} {E : Value → Shared → Prop} {s : Shared}
theorem wpAny_alive {a : Addr} {o : Obj} {Q : Option Obj → Shared → Prop} (ho : s.heap.get? a = some o) (h : Q (some o) s) : wpAny (model prog w) A (loadIfAlive a) Q E s :=
  fun Γ p _ => by
    unfold loadIfAlive
    rw [Sem.wp_loadIfAlive, ho]
    exact h
abbrev ZObj (f0 f1 : Value) (TI TO : Addr) : Obj := { cls := .type "zip", dict := none, data := .fields #[f0, f1, .bool false, .ref TI, .ref TO], slots := #[] }
abbrev TObj (xs : Array Value) : Obj := { cls := .type "tuple", data := .seq xs }
/-- what stands apart -/
structure Ap (z TI TO : Addr) (its rs : List Addr) : Prop where
  TIz : TI ≠ z
  TOz : TO ≠ z
  TIO : TI ≠ TO
  nd : its.Nodup
  zi : z ∉ its
  Ti : TI ∉ its
  Oi : TO ∉ its
  r : ∀ x ∈ rs, x ≠ z ∧ x ≠ TO ∧ x ∉ its
  l : its.length = rs.length
structure Zst (h : Heap) (z TI TO : Addr) (its rs : List Addr) (xss : List (Array Value)) (j : Nat) (f0 f1 : Value) (kept : Array Value) : Prop where
  z : h.get? z = some (ZObj f0 f1 TI TO)
  TI : h.get? TI = some (TObj (its.map Value.ref).toArray)
  TO : h.get? TO = some (TObj kept)
  it : ∀ (k : Nat) (i r : Addr), its[k]? = some i → rs[k]? = some r → h.IsTupleIter i r j
  row : ∀ (k : Nat) (r : Addr) (xs : Array Value), rs[k]? = some r → xss[k]? = some xs → h.IsTuple r xs
theorem upd_tup {T : Addr} {kp : Array Value} {x : Value} {k : Nat} {Q : Unit → Shared → Prop} (hT : s.heap.get? T = some (TObj kp)) (hs : kp.size ≤ 100)
    (h : ∀ h', h'.get? T = some (TObj (kp.setIfInBounds k x)) → Heap.SameBut T s.heap h' → Q () { s with heap := h' }) :
    wpAny (model prog w) A (updateSeq T (·.setIfInBounds k x)) Q E s := by
  refine wpAny_updateSeq hT rfl (h _ ?_ (Heap.SameBut.update ..)) (Nat.le_trans hs (by decide)) (Nat.le_trans (by rw [Array.size_setIfInBounds]; exact hs) (by decide))
  rw [Heap.get?_update_self _ hT rfl]
  simp [Obj.mapSeq]
structure Fill (h : Heap) (s : Shared) (z TI TO : Addr) (its rs : List Addr) (f1 : Value) (col : List Value) (j k : Nat) (h' : Heap) : Prop where
  fz : h'.get? z = some (ZObj .ellipsis f1 TI TO)
  fTO : ∃ kp, h'.get? TO = some (TObj kp) ∧ kp.size = its.length ∧ ∀ i, i < k → kp[i]? = col[i]?
  fit : ∀ (i : Nat) (it r : Addr), its[i]? = some it → rs[i]? = some r → h'.IsTupleIter it r (if i < k then j + 1 else j)
  oth : ∀ c o, c ≠ z → c ≠ TO → c ∉ its → h.get? c = some o → h'.get? c = some o
  size : h'.objs.size = h.objs.size
theorem next_A {z TI TO : Addr} {its rs : List Addr} {xss : List (Array Value)} {j : Nat} {f1 : Value} {kept : Array Value} {col : List Value} {Q : Value → Shared → Prop} (D : Ap z TI TO its rs) (hz : Zst s.heap z TI TO its rs xss j .none f1 kept) (hk : kept.size = its.length) (h5 : its.length ≤ 5) (hne : its ≠ [])
    (lx : xss.length = rs.length) (hcl : col.length = its.length) (hc : ∀ (k : Nat) (xs : Array Value), xss[k]? = some xs → xs[j]? = col[k]?)
    (hQ : ∀ h', Zst h' z TI TO its rs xss (j + 1) (rawInt s.heap.objs.size) (.bool false) col.toArray → h'.get? s.heap.objs.size = some (TObj col.toArray) → h'.objs.size = s.heap.objs.size + 1 →
      (∀ c o, c ≠ z → c ≠ TO → c ∉ its → s.heap.get? c = some o → h'.get? c = some o) → Q (.ref s.heap.objs.size) { s with heap := h' }) :
    wpAny (model prog w) A (Builtin.«zip.__next__» ⟨[.ref z], []⟩) (fun fin s' => ∃ v, fin = .done (.ret v) ∧ Q v s') E s := by
  have hz0 := hz.z
  show wpAny _ _ (field (.ref z) 2 >>= _) _ _ _
  refine wpAny_bind (wpAny_field hz0 rfl (x := .bool false) rfl ?_)
  show wpAny _ _ (field (.ref z) 3 >>= _) _ _ _
  refine wpAny_bind (wpAny_field hz0 rfl (x := .ref TI) rfl ?_)
  refine wpAny_bind (wpAny_seqItems hz.TI rfl ?_)
  try dsimp only
  rw [if_neg (by cases its <;> simp_all)]
  show wpAny _ _ (Builtin.SmallTypes.ownedTupleIsFree (.ref z) >>= _) _ _ _
  refine wpAny_bind ?_
  unfold Builtin.SmallTypes.ownedTupleIsFree
  refine wpAny_bind (wpAny_field hz0 rfl (x := .none) rfl (wpAny_pure ?_))
  simp only [if_true]
  refine wpAny_bind (wpAny_rule ?_)
  refine wpAny_bind (wpAny_field hz0 rfl (x := .ref TO) rfl ?_)
  refine wpAny_bind (wpAny_setField_rec hz0 (by simp) fun h₁ hz₁ hs₁ => ?_)
  replace hz₁ : h₁.get? z = some (ZObj .ellipsis f1 TI TO) := hz₁
  refine wpAny_bind ?_
  refine wpAny_forIn_list _ (fun rest b s' => b = (none, ()) ∧ ∃ k h', k ≤ its.length ∧ rest = ((its.map Value.ref).zipIdx).drop k ∧ s' = { s with heap := h' } ∧ Fill s.heap s z TI TO its rs f1 col j k h') _ ?turn ?fin _ _ ?start
  case start =>
    refine ⟨rfl, 0, h₁, Nat.zero_le _, rfl, rfl, hz₁, ⟨kept, hs₁.extBut _ _ D.TOz hz.TO, hk, fun i hi => absurd hi (Nat.not_lt_zero _)⟩, fun i it r e1 e2 => ?_, fun c o c1 _ _ e => hs₁.extBut _ _ c1 e, hs₁.1⟩
    rw [if_neg (Nat.not_lt_zero _)]
    exact (hz.it i it r e1 e2).extBut hs₁.extBut fun e => D.zi (e ▸ List.mem_of_getElem? e1)
  case turn =>
    rintro ⟨x, n⟩ rest b s' ⟨rfl, k, h', hkl, hr, rfl, F⟩
    have hlt : k < its.length := by
      rcases Nat.lt_or_ge k its.length with q | q
      · exact q
      · rw [List.drop_eq_nil_of_le (by simpa using q)] at hr; cases hr
    rw [List.drop_eq_getElem_cons (by simpa using hlt)] at hr
    simp only [List.getElem_zipIdx, List.getElem_map, Nat.zero_add, List.cons.injEq, Prod.mk.injEq] at hr
    obtain ⟨⟨rfl, rfl⟩, rfl⟩ := hr
    have i1 : its[n]? = some its[n] := List.getElem?_eq_getElem hlt
    have hrl : n < rs.length := by rw [← D.l]; exact hlt
    have r1 : rs[n]? = some rs[n] := List.getElem?_eq_getElem hrl
    have hxl : n < xss.length := by rw [lx]; exact hrl
    have x1 : xss[n]? = some xss[n] := List.getElem?_eq_getElem hxl
    have hcl' : n < col.length := by rw [hcl]; exact hlt
    have c1 : col[n]? = some col[n] := List.getElem?_eq_getElem hcl'
    have hx : xss[n][j]? = some col[n] := (hc n _ x1).trans c1
    obtain ⟨kp, hTO, hks, hkp⟩ := F.fTO
    have iter := F.fit n _ _ i1 r1
    rw [if_neg (Nat.lt_irrefl n)] at iter
    have ra := D.r _ (List.getElem_mem hrl)
    have row : h'.IsTuple rs[n] xss[n] := by
      obtain ⟨o, ho, q⟩ := hz.row n _ _ r1 x1
      exact ⟨o, F.oth _ _ ra.1 ra.2.1 ra.2.2 ho, q⟩
    refine wpAny_bind (wpAny_onRaise ?_)
    show wpAny _ _ (Builtin.SmallTypes.nextOf (.ref its[n]) >>= _) _ _ _
    refine wpAny_bind (RZ.nextOf_tuple_item (s := { s with heap := h' }) iter row hx fun h₂ h1₂ hs₂ => wpAny_pure ?_)
    have itz : its[n] ≠ z := fun e => D.zi (e ▸ List.getElem_mem hlt)
    have itO : its[n] ≠ TO := fun e => D.Oi (e ▸ List.getElem_mem hlt)
    have hTO₂ : h₂.get? TO = some (TObj kp) := hs₂.extBut _ _ (Ne.symm itO) hTO
    refine wpAny_bind (wpAny_seqItems (s := { s with heap := h₂ }) hTO₂ rfl ?_)
    refine wpAny_bind (upd_tup (s := { s with heap := h₂ }) hTO₂ (by rw [hks]; omega) fun h₃ hTO₃ hs₃ => ?_)
    refine wpAny_bind (wpAny_letGo (wpAny_pure ?_))
    refine ⟨rfl, n + 1, h₃, hlt, rfl, rfl, hs₃.extBut _ _ (Ne.symm D.TOz) (hs₂.extBut _ _ (Ne.symm itz) F.fz), ⟨_, hTO₃, by rw [Array.size_setIfInBounds]; exact hks, fun i hi => ?_⟩, fun i it r e1 e2 => ?_, fun c o c1 c2 c3 e => hs₃.extBut _ _ c2 (hs₂.extBut _ _ (fun e => c3 (e ▸ List.getElem_mem hlt)) (F.oth c o c1 c2 c3 e)), by rw [hs₃.1, hs₂.1]; exact F.size⟩
    · rw [Array.getElem?_setIfInBounds]
      by_cases e : n = i
      · subst e
        rw [if_pos rfl, if_pos (by rw [hks]; exact hlt), c1]
      · rw [if_neg e]
        exact hkp i (by omega)
    · by_cases e : i = n
      · subst e
        rw [i1] at e1; cases e1
        rw [r1] at e2; cases e2
        rw [if_pos (Nat.lt_succ_self _)]
        exact h1₂.extBut hs₃.extBut itO
      · have q := F.fit i it r e1 e2
        have ne : it ≠ its[n] := fun e' => e (by
          have := (List.getElem?_inj (by
            rcases List.getElem?_eq_some_iff.mp e1 with ⟨a, _⟩; exact a) D.nd).mp (e1.trans (e' ▸ i1.symm))
          exact this)
        have e3 : (if i < n + 1 then j + 1 else j) = (if i < n then j + 1 else j) := by
          by_cases q : i < n
          · rw [if_pos q, if_pos (by omega)]
          · rw [if_neg q, if_neg (by omega)]
        rw [e3]
        exact (q.extBut hs₂.extBut ne).extBut hs₃.extBut fun e => D.Oi (e ▸ List.mem_of_getElem? e1)
  case fin =>
    rintro b s' ⟨rfl, k, h', hkl, hr, rfl, F⟩
    have hk' : k = its.length := by
      have := congrArg List.length hr
      simp at this
      omega
    subst hk'
    obtain ⟨kp, hTO, hks, hkp⟩ := F.fTO
    have ekp : kp = col.toArray := by
      apply Array.ext'
      apply List.ext_getElem?
      intro i
      by_cases hi : i < its.length
      · have := hkp i hi
        simpa using this
      · rw [List.getElem?_eq_none (by simpa [hks] using hi), List.getElem?_eq_none (by simp; omega)]
    subst ekp
    show wpAny _ _ (seqItems? (.ref TO) >>= _) _ _ _
    refine wpAny_bind (wpAny_seqItems (s := { s with heap := h' }) hTO rfl ?_)
    refine wpAny_bind (wpAny_newTuple ?_ (by simp; exact Nat.le_trans (by omega : col.length ≤ 5) (by decide)))
    have ec : (col.toArray.toList.toArray : Array Value) = col.toArray := by simp
    rw [ec]
    show wpAny _ _ (Builtin.SmallTypes.ownedTupleHandOut (.ref z) (.ref h'.objs.size) >>= _) _ _ _
    refine wpAny_bind ?_
    unfold Builtin.SmallTypes.ownedTupleHandOut
    have hz₆ : (h'.push (TObj col.toArray)).get? z = some (ZObj .ellipsis f1 TI TO) := Heap.get?_push_of_some _ F.fz
    refine wpAny_bind (wpAny_setField_rec hz₆ (by simp) fun h₇ hz₇ hs₇ => ?_)
    replace hz₇ : h₇.get? z = some (ZObj (rawInt h'.objs.size) f1 TI TO) := hz₇
    refine wpAny_setField_rec hz₇ (by simp) fun h₈ hz₈ hs₈ => ?_
    replace hz₈ : h₈.get? z = some (ZObj (rawInt h'.objs.size) (.bool false) TI TO) := hz₈
    have up : ∀ c o, c ≠ z → h'.get? c = some o → h₈.get? c = some o := fun c o c1 e => hs₈.extBut _ _ c1 (hs₇.extBut _ _ c1 (Heap.get?_push_of_some _ e))
    have zlt : z < h'.objs.size := Heap.lt_size F.fz
    have hT₈ : h₈.get? h'.objs.size = some (TObj col.toArray) := hs₈.extBut _ _ (Nat.ne_of_gt zlt) (hs₇.extBut _ _ (Nat.ne_of_gt zlt) (Heap.get?_push_size _ rfl))
    have hz8 : h₈.objs.size = h'.objs.size + 1 := by rw [hs₈.1, hs₇.1, Heap.size_push]
    refine wpAny_pure ⟨_, rfl, ?_⟩
    show Q (.ref h'.objs.size) _
    rw [F.size] at hz₈ hT₈ hz8 ⊢
    refine hQ h₈ ⟨hz₈, up _ _ D.TIz (F.oth _ _ D.TIz D.TIO D.Ti hz.TI), up _ _ D.TOz hTO, fun k i r e1 e2 => ?_, fun k r xs e1 e2 => ?_⟩ hT₈ hz8 fun c o c1 c2 c3 e => up c o c1 (F.oth c o c1 c2 c3 e)
    · have q := F.fit k i r e1 e2
      rw [if_pos (List.getElem?_eq_some_iff.mp e1).1] at q
      exact q.at fun o e => up _ o (fun e' => D.zi (e' ▸ List.mem_of_getElem? e1)) e
    · obtain ⟨o, ho, q⟩ := hz.row k r xs e1 e2
      have ra := D.r _ (List.mem_of_getElem? e1)
      exact ⟨o, up _ _ ra.1 (F.oth _ _ ra.1 ra.2.1 ra.2.2 ho), q⟩
structure Coll (h : Heap) (z TI TO : Addr) (its rs : List Addr) (f0 : Value) (kept : Array Value) (col : List Value) (j k : Nat) (h' : Heap) (b : Array Value) : Prop where
  fz : h'.get? z = some (ZObj f0 (.bool true) TI TO)
  fit : ∀ (i : Nat) (it r : Addr), its[i]? = some it → rs[i]? = some r → h'.IsTupleIter it r (if i < k then j + 1 else j)
  oth : ∀ c o, c ≠ z → c ∉ its → h.get? c = some o → h'.get? c = some o
  size : h'.objs.size = h.objs.size
  acc : b.toList = col.take k
theorem free_B {z TI TO ad : Addr} {od : Obj} {fb : Bool} (hz0 : s.heap.get? z = some (ZObj (rawInt ad) (.bool fb) TI TO)) (had : s.heap.get? ad = some od) :
    wpAny (model prog w) A (Builtin.SmallTypes.ownedTupleIsFree (.ref z)) (fun b s' => b = false ∧ ∃ h₁, s' = { s with heap := h₁ } ∧ h₁.get? z = some (ZObj (rawInt ad) (.bool true) TI TO) ∧ (∀ c o, c ≠ z → s.heap.get? c = some o → h₁.get? c = some o) ∧ h₁.objs.size = s.heap.objs.size) E s := by
  unfold Builtin.SmallTypes.ownedTupleIsFree
  refine wpAny_bind (wpAny_field hz0 rfl (x := rawInt ad) rfl ?_)
  show wpAny _ _ (loadIfAlive ad >>= _) _ _ _
  refine wpAny_bind (wpAny_alive had ?_)
  try dsimp only
  rw [if_neg (by simp)]
  refine wpAny_bind (wpAny_field hz0 rfl (x := .bool fb) rfl ?_)
  cases fb with
  | true =>
    rw [if_neg (by decide)]
    exact wpAny_pure ⟨rfl, s.heap, rfl, hz0, fun _ _ _ e => e, rfl⟩
  | false =>
    rw [if_pos (by decide)]
    refine wpAny_bind (wpAny_setField_rec hz0 (by simp) fun h₁ hz₁ hs₁ => ?_)
    exact wpAny_pure ⟨rfl, h₁, rfl, hz₁, fun c o c1 e => hs₁.extBut _ _ c1 e, hs₁.1⟩
theorem next_B {z TI TO ad : Addr} {od : Obj} {its rs : List Addr} {xss : List (Array Value)} {j : Nat} {fb : Bool} {kept : Array Value} {col : List Value} {Q : Value → Shared → Prop} (D : Ap z TI TO its rs) (hz : Zst s.heap z TI TO its rs xss j (rawInt ad) (.bool fb) kept) (had : s.heap.get? ad = some od) (h5 : its.length ≤ 5) (hne : its ≠ [])
    (lx : xss.length = rs.length) (hcl : col.length = its.length) (hc : ∀ (k : Nat) (xs : Array Value), xss[k]? = some xs → xs[j]? = col[k]?)
    (hQ : ∀ h', Zst h' z TI TO its rs xss (j + 1) (rawInt ad) (.bool true) kept → h'.get? s.heap.objs.size = some (TObj col.toArray) → h'.objs.size = s.heap.objs.size + 1 →
      (∀ c o, c ≠ z → c ≠ TO → c ∉ its → s.heap.get? c = some o → h'.get? c = some o) → Q (.ref s.heap.objs.size) { s with heap := h' }) :
    wpAny (model prog w) A (Builtin.«zip.__next__» ⟨[.ref z], []⟩) (fun fin s' => ∃ v, fin = .done (.ret v) ∧ Q v s') E s := by
  have hz0 := hz.z
  show wpAny _ _ (field (.ref z) 2 >>= _) _ _ _
  refine wpAny_bind (wpAny_field hz0 rfl (x := .bool false) rfl ?_)
  show wpAny _ _ (field (.ref z) 3 >>= _) _ _ _
  refine wpAny_bind (wpAny_field hz0 rfl (x := .ref TI) rfl ?_)
  refine wpAny_bind (wpAny_seqItems hz.TI rfl ?_)
  try dsimp only
  rw [if_neg (by cases its <;> simp_all)]
  show wpAny _ _ (Builtin.SmallTypes.ownedTupleIsFree (.ref z) >>= _) _ _ _
  refine wpAny_bind (wpAny_mono (free_B hz0 had) (fun b s' ⟨hb, h₁, hs', hz₁, ho₁, hs₁⟩ => ?_) fun _ _ h => h)
  subst hb; subst hs'
  rw [if_neg Bool.false_ne_true]
  refine wpAny_bind ?_
  refine MeetsSeq2.wpAny_forIn_array _ (fun rest b s' => b.1 = none ∧ ∃ k h', k ≤ its.length ∧ rest = (its.map Value.ref).drop k ∧ s' = { s with heap := h' } ∧ Coll s.heap z TI TO its rs (rawInt ad) kept col j k h' b.2) _ ?turn ?fin _ _ ?start
  case start =>
    refine ⟨rfl, 0, h₁, Nat.zero_le _, by simp, rfl, hz₁, fun i it r e1 e2 => ?_, fun c o c1 _ e => ho₁ c o c1 e, hs₁, by simp⟩
    rw [if_neg (Nat.not_lt_zero _)]
    exact (hz.it i it r e1 e2).at fun o e => ho₁ _ o (fun e => D.zi (e ▸ List.mem_of_getElem? e1)) e
  case turn =>
    rintro x rest b s' ⟨hb, k, h', hkl, hr, rfl, F⟩
    have hlt : k < its.length := by
      rcases Nat.lt_or_ge k its.length with q | q
      · exact q
      · rw [List.drop_eq_nil_of_le (by simpa using q)] at hr; cases hr
    rw [List.drop_eq_getElem_cons (by simpa using hlt)] at hr
    simp only [List.getElem_map, List.cons.injEq] at hr
    obtain ⟨rfl, rfl⟩ := hr
    have i1 : its[k]? = some its[k] := List.getElem?_eq_getElem hlt
    have hrl : k < rs.length := by rw [← D.l]; exact hlt
    have r1 : rs[k]? = some rs[k] := List.getElem?_eq_getElem hrl
    have hxl : k < xss.length := by rw [lx]; exact hrl
    have x1 : xss[k]? = some xss[k] := List.getElem?_eq_getElem hxl
    have hcl' : k < col.length := by rw [hcl]; exact hlt
    have c1 : col[k]? = some col[k] := List.getElem?_eq_getElem hcl'
    have hx : xss[k][j]? = some col[k] := (hc k _ x1).trans c1
    have iter := F.fit k _ _ i1 r1
    rw [if_neg (Nat.lt_irrefl k)] at iter
    have ra := D.r _ (List.getElem_mem hrl)
    have row : h'.IsTuple rs[k] xss[k] := by
      obtain ⟨o, ho, q⟩ := hz.row k _ _ r1 x1
      exact ⟨o, F.oth _ _ ra.1 ra.2.2 ho, q⟩
    refine wpAny_bind (wpAny_holding ?_)
    show wpAny _ _ (Builtin.SmallTypes.nextOf (.ref its[k]) >>= _) _ _ _
    refine wpAny_bind (RZ.nextOf_tuple_item (s := { s with heap := h' }) iter row hx fun h₂ h1₂ hs₂ => wpAny_pure ?_)
    have itz : its[k] ≠ z := fun e => D.zi (e ▸ List.getElem_mem hlt)
    refine wpAny_pure ⟨rfl, k + 1, h₂, hlt, rfl, rfl, hs₂.extBut _ _ (Ne.symm itz) F.fz, fun i it r e1 e2 => ?_, fun c o c1 c3 e => hs₂.extBut _ _ (fun e => c3 (e ▸ List.getElem_mem hlt)) (F.oth c o c1 c3 e), by rw [hs₂.1]; exact F.size, ?_⟩
    · by_cases e : i = k
      · subst e
        rw [i1] at e1; cases e1
        rw [r1] at e2; cases e2
        rw [if_pos (Nat.lt_succ_self _)]
        exact h1₂
      · have q := F.fit i it r e1 e2
        have ne : it ≠ its[k] := fun e' => e (by
          have := (List.getElem?_inj (by
            rcases List.getElem?_eq_some_iff.mp e1 with ⟨a, _⟩; exact a) D.nd).mp (e1.trans (e' ▸ i1.symm))
          exact this)
        have e3 : (if i < k + 1 then j + 1 else j) = (if i < k then j + 1 else j) := by
          by_cases q : i < k
          · rw [if_pos q, if_pos (by omega)]
          · rw [if_neg q, if_neg (by omega)]
        rw [e3]
        exact q.extBut hs₂.extBut ne
    · show (b.2.push col[k]).toList = col.take (k + 1)
      rw [Array.toList_push, F.acc, List.take_succ_eq_append_getElem hcl']
  case fin =>
    rintro b s' ⟨hb, k, h', hkl, hr, rfl, F⟩
    have hk' : k = its.length := by
      have := congrArg List.length hr
      simp at this
      omega
    subst hk'
    have eb : b.2.toList = col := by rw [F.acc, ← hcl, List.take_length]
    simp only [hb]
    refine wpAny_bind (wpAny_newTuple ?_ (by rw [eb]; exact Nat.le_trans (by omega : col.length ≤ 5) (by decide)))
    rw [eb]
    refine wpAny_pure ⟨_, rfl, ?_⟩
    show Q (.ref h'.objs.size) _
    have hT₈ : (h'.push (TObj col.toArray)).get? h'.objs.size = some (TObj col.toArray) := Heap.get?_push_size _ rfl
    have hz8 : (h'.push (TObj col.toArray)).objs.size = h'.objs.size + 1 := Heap.size_push ..
    rw [F.size] at hT₈ hz8 ⊢
    refine hQ _ ⟨Heap.get?_push_of_some _ F.fz, Heap.get?_push_of_some _ (F.oth _ _ D.TIz D.Ti hz.TI), Heap.get?_push_of_some _ (F.oth _ _ D.TOz D.Oi hz.TO), fun k i r e1 e2 => ?_, fun k r xs e1 e2 => ?_⟩ hT₈ hz8 fun c o c1 c2 c3 e => Heap.get?_push_of_some _ (F.oth c o c1 c3 e)
    · have q := F.fit k i r e1 e2
      rw [if_pos (List.getElem?_eq_some_iff.mp e1).1] at q
      exact q.at fun o e => Heap.get?_push_of_some _ e
    · obtain ⟨o, ho, q⟩ := hz.row k r xs e1 e2
      have ra := D.r _ (List.mem_of_getElem? e1)
      exact ⟨o, Heap.get?_push_of_some _ (F.oth _ _ ra.1 ra.2.2 ho), q⟩
end
end ZS

set_option Elab.async false
set_option linter.all false
set_option maxRecDepth 100000
set_option maxHeartbeats 1000000
namespace ZS
open PySem PySem.Spec PyProof.Rows
section
variable {prog : Program} {w : World} {A : Around} {E : Value → Shared → Prop} {s : Shared}
theorem end_B {z TI TO ad : Addr} {od : Obj} {its rs : List Addr} {xss : List (Array Value)} {j : Nat} {fb : Bool} {kept : Array Value} {Q : Fin → Shared → Prop} (hh : A.handled = none) (D : Ap z TI TO its rs) (hz : Zst s.heap z TI TO its rs xss j (rawInt ad) (.bool fb) kept) (had : s.heap.get? ad = some od) (hne : its ≠ [])
    (lx : xss.length = rs.length) (hc : ∀ (k : Nat) (xs : Array Value), xss[k]? = some xs → xs[j]? = none)
    (hE : ∀ h' e, (∀ c o, c ≠ z → c ∉ its → s.heap.get? c = some o → h'.get? c = some o) → (∃ o, h'.get? e = some o ∧ o.cls = .type "StopIteration") → E (.ref e) { s with heap := h' }) :
    wpAny (model prog w) A (Builtin.«zip.__next__» ⟨[.ref z], []⟩) Q E s := by
  have hz0 := hz.z
  show wpAny _ _ (field (.ref z) 2 >>= _) _ _ _
  refine wpAny_bind (wpAny_field hz0 rfl (x := .bool false) rfl ?_)
  show wpAny _ _ (field (.ref z) 3 >>= _) _ _ _
  refine wpAny_bind (wpAny_field hz0 rfl (x := .ref TI) rfl ?_)
  refine wpAny_bind (wpAny_seqItems hz.TI rfl ?_)
  try dsimp only
  rw [if_neg (by cases its <;> simp_all)]
  show wpAny _ _ (Builtin.SmallTypes.ownedTupleIsFree (.ref z) >>= _) _ _ _
  refine wpAny_bind (wpAny_mono (free_B hz0 had) (fun b s' ⟨hb, h₁, hs', hz₁, ho₁, hs₁⟩ => ?_) fun _ _ h => h)
  subst hb; subst hs'
  rw [if_neg Bool.false_ne_true]
  refine wpAny_bind ?_
  have hlt : 0 < its.length := by cases its <;> simp_all
  refine MeetsSeq2.wpAny_forIn_array _ (fun rest b s' => rest = its.map Value.ref ∧ s' = { s with heap := h₁ }) _ ?turn ?fin _ _ ?start
  case start => exact ⟨by simp, rfl⟩
  case turn =>
    rintro x rest b s' ⟨hr, rfl⟩
    obtain ⟨i0, its', rfl⟩ : ∃ a l, its = a :: l := by cases its with | nil => simp at hlt | cons a l => exact ⟨a, l, rfl⟩
    rw [List.map_cons] at hr
    obtain ⟨rfl, rfl⟩ := List.cons.inj hr
    have hrl : 0 < rs.length := by rw [← D.l]; exact hlt
    have r1 : rs[0]? = some rs[0] := List.getElem?_eq_getElem hrl
    have hxl : 0 < xss.length := by rw [lx]; exact hrl
    have x1 : xss[0]? = some xss[0] := List.getElem?_eq_getElem hxl
    have hx := hc 0 _ x1
    have iter := hz.it 0 i0 _ rfl r1
    have ra := D.r _ (List.getElem_mem hrl)
    have iz : i0 ≠ z := fun e => D.zi (e ▸ List.mem_cons_self)
    have row : h₁.IsTuple rs[0] xss[0] := by
      obtain ⟨o, ho, q⟩ := hz.row 0 _ _ r1 x1
      exact ⟨o, ho₁ _ _ ra.1 ho, q⟩
    refine wpAny_bind (wpAny_holding ?_)
    show wpAny _ _ (Builtin.SmallTypes.nextOf (.ref i0) >>= _) _ _ _
    refine wpAny_bind (RZ.nextOf_tuple_end (s := { s with heap := h₁ }) hh (iter.at fun o e => ho₁ _ o iz e) row hx fun h₂ e hs₂ he => ?_)
    exact hE h₂ e (fun c o c1 c2 q => hs₂ _ _ (fun e => c2 (e ▸ List.mem_cons_self)) (ho₁ c o c1 q)) he
  case fin =>
    rintro b s' ⟨hr, rfl⟩
    have := congrArg List.length hr
    simp at this
    omega
theorem pyNext_of_item {z : Addr} {Q : Option Value → Shared → Prop} (hT : s.TypeIs (.ref z) "zip")
    (h : wpAny (model prog w) A.in1 (Builtin.«zip.__next__» ⟨[.ref z], []⟩) (fun fin s' => ∃ v, fin = .done (.ret v) ∧ Q (some v) s') (fun e s' => False) s) : wpAny (model prog w) A (pyNext (.ref z)) Q E s := by
  unfold pyNext
  exact wpAny_bind (wpAny_attempt (wpAny_callSpecial?_slot (name := Str.ofString "__next__") hT F.slot_zip_next
    (wpAny_call_entry F.slot_zip_next hT F.entry_zip_next
      (wpAny_mono h (fun fin s' ⟨v, e, q⟩ => ⟨v, e, wpAny_pure q⟩) fun _ _ z => z.elim) (F.args_zip_next_1 _))))
theorem pyNext_of_end {z : Addr} {Q : Option Value → Shared → Prop} (hT : s.TypeIs (.ref z) "zip")
    (h : wpAny (model prog w) A.in1 (Builtin.«zip.__next__» ⟨[.ref z], []⟩) (fun _ _ => False) (fun e s' => ∃ a o, e = .ref a ∧ s'.heap.get? a = some o ∧ o.cls = .type "StopIteration" ∧ Q none s') s) : wpAny (model prog w) A (pyNext (.ref z)) Q E s := by
  unfold pyNext
  refine wpAny_bind (wpAny_attempt (wpAny_callSpecial?_slot (name := Str.ofString "__next__") hT F.slot_zip_next
    (wpAny_call_entry F.slot_zip_next hT F.entry_zip_next
      (wpAny_mono h (fun fin s' z => z.elim) fun e s' ⟨a, o, ea, ho, hc, q⟩ => ?_) (F.args_zip_next_1 _))))
  subst ea
  refine wpAny_bind (wpAny_isInstance (T := "StopIteration") (b := true) ⟨o, ho, hc⟩ isSubtype_stop ?_)
  exact wpAny_pure q
end
end ZS

set_option Elab.async false
set_option linter.all false
set_option maxRecDepth 100000
set_option maxHeartbeats 1000000
namespace ZS
open PySem PySem.Spec PyProof.Rows
section
variable {prog : Program} {w : World} {A : Around} {E : Value → Shared → Prop} {s : Shared}
/-- the collected tuples -/
structure ZL (h0 : Heap) (z TI TO S : Addr) (its rs : List Addr) (xss : List (Array Value)) (cols : List (List Value)) (j : Nat) (h : Heap) (ps : List Addr) : Prop where
  st : ∃ (f0 : Value) (fb : Bool) (kept : Array Value), Zst h z TI TO its rs xss j f0 (.bool fb) kept ∧ kept.size = its.length ∧ ((j = 0 ∧ f0 = .none) ∨ ∃ ad : Addr, f0 = rawInt ad ∧ ad ∈ ps)
  len : ps.length = j
  ps : ∀ (i : Nat) (p : Addr), ps[i]? = some p → ∃ col, cols[i]? = some col ∧ h.get? p = some (TObj col.toArray) ∧ p ≠ z ∧ p ≠ TO ∧ p ∉ its ∧ p ≠ S ∧ h0.objs.size ≤ p
  old : ∀ c o, h0.get? c = some o → h.get? c = some o
structure Geo (h0 : Heap) (z TI TO S : Addr) (its rs : List Addr) (xss : List (Array Value)) (cols : List (List Value)) (n : Nat) : Prop where
  D : Ap z TI TO its rs
  h5 : its.length ≤ 5
  ne : its ≠ []
  lx : xss.length = rs.length
  n0 : 0 < n
  n1 : n ≤ 1000
  cn : cols.length = n
  cl : ∀ (j : Nat) (col : List Value), cols[j]? = some col → col.length = its.length ∧ ∀ (k : Nat) (xs : Array Value), xss[k]? = some xs → xs[j]? = col[k]?
  xn : ∀ (k : Nat) (xs : Array Value), xss[k]? = some xs → xs[n]? = none
  Sz : S ≠ z
  ST : S ≠ TI
  SO : S ≠ TO
  Si : S ∉ its
  Sr : S ∉ rs
  Sf : h0.objs.size ≤ S
  fr : ∀ c o, h0.get? c = some o → c ≠ z ∧ c ≠ TO ∧ c ∉ its ∧ c ≠ S
abbrev LObj (xs : Array Value) (c : Nat) : Obj := { cls := .type "list", dict := none, data := .seq xs c, slots := #[] }
theorem loop_zip {h0 : Heap} {z TI TO S : Addr} {its rs : List Addr} {xss : List (Array Value)} {cols : List (List Value)} {n : Nat} {res : Value} {R : Result → Shared → Prop} (hh : A.handled = none) (g : Geo h0 z TI TO S its rs xss cols n) :
    ∀ (d j : Nat) (s : Shared) (ps : List Addr) (c : Nat), n - j = d → j ≤ n → h0.objs.size ≤ s.heap.objs.size → ZL h0 z TI TO S its rs xss cols j s.heap ps → s.heap.get? S = some (LObj (ps.map Value.ref).toArray c) →
    (∀ (h' : Heap) (ps' : List Addr) (c' : Nat), h0.objs.size ≤ h'.objs.size → ps'.length = n → (∀ (i : Nat) (p : Addr), ps'[i]? = some p → ∃ col, cols[i]? = some col ∧ h'.get? p = some (TObj col.toArray) ∧ h0.objs.size ≤ p) → (∀ c o, h0.get? c = some o → h'.get? c = some o) →
      h'.get? S = some (LObj (ps'.map Value.ref).toArray c') → R (.ok (.ret res)) { s with heap := h' }) →
    codeAny (model prog w) A (.builtin "list.extend.loop" ⟨[.ref S, .ref z, res], []⟩) R s := by
  have D := g.D
  intro d
  induction d with
  | zero =>
    intro j s ps c hd hj hsz L hS hR
    have hjn : j = n := by omega
    subst hjn
    obtain ⟨f0, fb, kept, hz, hk, q⟩ := L.st
    obtain ⟨ad, rfl, had⟩ : ∃ ad : Addr, f0 = rawInt ad ∧ ad ∈ ps := by
      rcases q with ⟨q, _⟩ | q
      · have := g.n0; omega
      · exact q
    obtain ⟨i, hi⟩ := List.getElem?_of_mem had
    obtain ⟨col, _, had', _⟩ := L.ps i ad hi
    refine codeAny_builtin F.entry_extend_loop ?_
    rw [Around.under_plainId F.plain_extend_loop _]
    show wpAny _ A.in1 (pyNext (.ref z) >>= _) _ _ s
    refine wpAny_bind (pyNext_of_end ⟨_, hz.z, rfl⟩ (end_B (s := s) (A := A.in1.in1) hh D hz had' g.ne g.lx g.xn fun h' e hk he => ?_))
    obtain ⟨o, ho, hc⟩ := he
    refine ⟨e, o, rfl, ho, hc, wpAny_pure ?_⟩
    refine hR h' ps c ?_ L.len (fun i p e => ?_) (fun c o e => ?_) (hk _ _ g.Sz g.Si hS)
    · exact Nat.le_trans g.Sf (Nat.le_of_lt (Heap.lt_size (hk _ _ g.Sz g.Si hS)))
    · obtain ⟨col, e1, e2, e3, e4, e5, e6, e7⟩ := L.ps i p e
      exact ⟨col, e1, hk _ _ e3 e5 e2, e7⟩
    · obtain ⟨f1, f2, f3, f4⟩ := g.fr c o e
      exact hk _ _ f1 f3 (L.old c o e)
  | succ d ih =>
    intro j s ps c hd hj hsz L hS hR
    have hlt : j < n := by omega
    have hcl : j < cols.length := by rw [g.cn]; exact hlt
    have hcol : cols[j]? = some cols[j] := List.getElem?_eq_getElem hcl
    obtain ⟨lc, hcv⟩ := g.cl j _ hcol
    obtain ⟨f0, fb, kept, hz, hk, q⟩ := L.st
    have Sne : S ≠ s.heap.objs.size := Nat.ne_of_lt (Heap.lt_size hS)
    have item : wpAny (model prog w) A.in1 (pyNext (.ref z)) (fun r s' => ∃ (h' : Heap) (f0' : Value) (fb' : Bool) (kept' : Array Value), r = some (.ref s.heap.objs.size) ∧ s' = { s with heap := h' } ∧ Zst h' z TI TO its rs xss (j + 1) f0' (.bool fb') kept' ∧ kept'.size = its.length ∧ (∃ ad : Addr, f0' = rawInt ad ∧ ad ∈ ps ++ [s.heap.objs.size]) ∧
        h'.get? s.heap.objs.size = some (TObj cols[j].toArray) ∧ h'.objs.size = s.heap.objs.size + 1 ∧ (∀ c o, c ≠ z → c ≠ TO → c ∉ its → s.heap.get? c = some o → h'.get? c = some o)) (fun e s' => False) s := by
      rcases q with ⟨e0, rfl⟩ | ⟨ad, rfl, had⟩
      · exact pyNext_of_item ⟨_, hz.z, rfl⟩ (next_A D hz hk g.h5 g.ne g.lx lc hcv fun h' z1 z2 z3 z4 => ⟨h', _, _, _, rfl, rfl, z1, by simpa using lc, ⟨_, rfl, by simp⟩, z2, z3, z4⟩)
      · obtain ⟨i, hi⟩ := List.getElem?_of_mem had
        obtain ⟨col, _, had', _⟩ := L.ps i ad hi
        exact pyNext_of_item ⟨_, hz.z, rfl⟩ (next_B D hz had' g.h5 g.ne g.lx lc hcv fun h' z1 z2 z3 z4 => ⟨h', _, _, _, rfl, rfl, z1, hk, ⟨_, rfl, List.mem_append_left _ had⟩, z2, z3, z4⟩)
    refine codeAny_builtin F.entry_extend_loop ?_
    rw [Around.under_plainId F.plain_extend_loop _]
    show wpAny _ A.in1 (pyNext (.ref z) >>= _) _ _ s
    refine wpAny_bind (wpAny_mono item (fun r s' ⟨h', f0', fb', kept', er, es, hz', hk', had, hp, hsz', hkp⟩ => ?_) fun _ _ z => z.elim)
    subst er; subst es
    have hS' : h'.get? S = some (LObj (ps.map Value.ref).toArray c) := hkp _ _ g.Sz g.SO g.Si hS
    have pl : ps.length = j := L.len
    show wpAny _ A.in1 (updateSeq S (·.push (.ref s.heap.objs.size)) >>= _) _ _ _
    refine wpAny_bind ?_
    have zlt : z < s.heap.objs.size := Heap.lt_size hz.z
    have Olt : TO < s.heap.objs.size := Heap.lt_size hz.TO
    have ilt : s.heap.objs.size ∉ its := fun h => by
      obtain ⟨i, hi⟩ := List.getElem?_of_mem h
      have hil := (List.getElem?_eq_some_iff.mp hi).1
      have hrl : i < rs.length := by rw [← D.l]; exact hil
      obtain ⟨o, ho, _⟩ := hz.it i _ _ hi (List.getElem?_eq_getElem hrl)
      exact Nat.lt_irrefl _ (Heap.lt_size ho)
    obtain ⟨c2, eS⟩ : ∃ c2, (h'.update S (Obj.mapSeq fun x => x.push (.ref s.heap.objs.size))).get? S = some (LObj ((ps.map Value.ref).toArray.push (.ref s.heap.objs.size)) c2) := ⟨_, Heap.get?_update_self _ hS' rfl⟩
    have epush : (ps.map Value.ref).toArray.push (Value.ref s.heap.objs.size) = ((ps ++ [s.heap.objs.size]).map Value.ref).toArray := by simp
    rw [epush] at eS
    refine wpAny_updateSeq (s := { s with heap := h' }) hS' rfl (wpAny_pure ⟨plainId_quiet F.plain_extend_loop _, ih (j + 1) _ (ps ++ [s.heap.objs.size]) c2 (by omega) hlt ?_ ?_ ?_ ?_⟩) ?_ ?_
    · show h0.objs.size ≤ (h'.update S _).objs.size
      rw [Heap.size_update, hsz']
      omega
    · have up : ∀ c o, c ≠ S → h'.get? c = some o → (h'.update S (Obj.mapSeq fun x => x.push (.ref s.heap.objs.size))).get? c = some o := fun c o c1 e => (Heap.get?_update_other _ _ (Ne.symm c1)).trans e
      refine ⟨⟨f0', fb', kept', ⟨up _ _ (Ne.symm g.Sz) hz'.z, up _ _ (Ne.symm g.ST) hz'.TI, up _ _ (Ne.symm g.SO) hz'.TO, fun k i r e1 e2 => (hz'.it k i r e1 e2).at fun o e => up _ o (fun e' => g.Si (e' ▸ List.mem_of_getElem? e1)) e, fun k r xs e1 e2 => ?_⟩, hk', .inr had⟩, by simp [pl], fun i p e => ?_, fun c o e => ?_⟩
      · obtain ⟨o, ho, q⟩ := hz'.row k r xs e1 e2
        exact ⟨o, up _ _ (fun e' => g.Sr (e' ▸ List.mem_of_getElem? e1)) ho, q⟩
      · rcases Nat.lt_or_ge i ps.length with hi | hi
        · rw [List.getElem?_append_left hi] at e
          obtain ⟨col, e1, e2, e3, e4, e5, e6, e7⟩ := L.ps i p e
          exact ⟨col, e1, up _ _ e6 (hkp _ _ e3 e4 e5 e2), e3, e4, e5, e6, e7⟩
        · rw [List.getElem?_append_right hi] at e
          have hi0 : i - ps.length = 0 := by
            rcases Nat.eq_zero_or_pos (i - ps.length) with q | q
            · exact q
            · rw [List.getElem?_eq_none (by rw [List.length_singleton]; exact q)] at e; cases e
          rw [hi0] at e
          have e : some s.heap.objs.size = some p := e
          cases e
          have : i = j := by omega
          subst this
          exact ⟨_, hcol, up _ _ (Ne.symm Sne) hp, Nat.ne_of_gt zlt, Nat.ne_of_gt Olt, ilt, Ne.symm Sne, hsz⟩
      · obtain ⟨f1, f2, f3, f4⟩ := g.fr c o e
        exact up _ _ f4 (hkp _ _ f1 f2 f3 (L.old c o e))
    · exact eS
    · intro h'' ps' c' a1 a2 a3 a4 a5
      exact hR h'' ps' c' a1 a2 a3 a4 a5
    · have := g.n1
      simp [pl]
      exact Nat.le_trans (by omega : j ≤ 1000) (by decide)
    · have := g.n1
      have hz1 : (1001 : Nat) ≤ sizeLine := by decide
      simp [pl]
      omega
end
end ZS

set_option Elab.async false
set_option linter.all false
set_option maxRecDepth 100000
set_option maxHeartbeats 1000000
namespace ZS
open PySem PySem.Spec PyProof.Rows
theorem nolen_zip : typeLookup (.type "zip") "__len__" = pure none := by rw [typeLookup_type, builtinLookup_eq_fast]; kernel_rfl
theorem nohint_zip : typeLookup (.type "zip") "__length_hint__" = pure none := by rw [typeLookup_type, builtinLookup_eq_fast]; kernel_rfl
section
variable {prog : Program} {w : World} {A : Around} {E : Value → Shared → Prop} {s : Shared}
theorem iter_zip {z : Addr} {Q : Value → Shared → Prop} (hT : s.TypeIs (.ref z) "zip") (h : Q (.ref z) s) : wpAny (model prog w) A (pyIter (.ref z)) Q E s := by
  refine wpAny_pyIter_slot hT F.slot_zip_iter (wpAny_call_entry F.slot_zip_iter hT F.entry_zip_iter ?_ (F.args_zip_iter_1 _))
  exact wpAny_pure ⟨_, rfl, "zip", _, hT, F.slot_zip_next.lookup, h⟩
theorem touch {S : Addr} {c : Nat} {Q : Unit → Shared → Prop} (hS : s.heap.get? S = some (LObj #[] c))
    (h : ∀ h' c', h'.get? S = some (LObj #[] c') → (∀ b o, b ≠ S → s.heap.get? b = some o → h'.get? b = some o) → h'.objs.size = s.heap.objs.size → Q () { s with heap := h' }) : wpAny (model prog w) A (Builtin.List.listTouch (.ref S)) Q E s := by
  refine wpAny_bind (m := updateSeq S (·.push .none)) (wpAny_updateSeq hS rfl ?_)
  have h2 := Heap.get?_update_self (Obj.mapSeq (·.push Value.none)) hS rfl
  refine wpAny_updateSeq h2 rfl ?_
  exact h _ _ (Heap.get?_update_self (Obj.mapSeq (·.pop)) h2 rfl) (fun b o hb e => (Heap.get?_update_other _ _ (Ne.symm hb)).trans ((Heap.get?_update_other _ _ (Ne.symm hb)).trans e)) (by rw [Heap.size_update, Heap.size_update])
theorem collect_zip {z TI TO : Addr} {its rs : List Addr} {xss : List (Array Value)} {cols : List (List Value)} {n : Nat} {h0 : Heap} {kept : Array Value} {Q : List Value → Shared → Prop} (hh : A.handled = none)
    (hz : Zst s.heap z TI TO its rs xss 0 .none (.bool false) kept) (hk : kept.size = its.length) (hold : ∀ c o, h0.get? c = some o → s.heap.get? c = some o) (hsz : h0.objs.size ≤ s.heap.objs.size)
    (g : Geo h0 z TI TO s.heap.objs.size its rs xss cols n)
    (hQ : ∀ (h' : Heap) (ps : List Addr), h0.objs.size ≤ h'.objs.size → ps.length = n → (∀ (i : Nat) (p : Addr), ps[i]? = some p → ∃ col, cols[i]? = some col ∧ h'.get? p = some (TObj col.toArray) ∧ h0.objs.size ≤ p) → (∀ c o, h0.get? c = some o → h'.get? c = some o) → Q (ps.map Value.ref) { s with heap := h' }) :
    wpAny (model prog w) A (collect (.ref z)) Q E s := by
  unfold collect
  refine wpAny_bind (wpAny_runValue (codeAny_builtin F.entry_proto_collect ?_))
  rw [Around.under_plainId F.plain_proto_collect _]
  show wpAny _ A.in1 (newList [] >>= fun l' => again (.builtin "list.__iadd__" ⟨[l', .ref z], []⟩)) _ _ s
  refine wpAny_bind (wpAny_newObj_type ?_)
  refine wpAny_pure ⟨plainId_quiet F.plain_list_iadd _, codeAny_builtin F.entry_list_iadd ?_⟩
  rw [Around.under_plainId F.plain_list_iadd _]
  have up : ∀ c o, s.heap.get? c = some o → (s.heap.push { cls := .type "list", data := .seq ([] : List Value).toArray }).get? c = some o := fun c o e => Heap.get?_push_of_some _ e
  have hS := Heap.get?_push_size s.heap (o := { cls := .type "list", data := .seq ([] : List Value).toArray }) rfl
  have hz1 : Zst (s.heap.push { cls := .type "list", data := .seq ([] : List Value).toArray }) z TI TO its rs xss 0 .none (.bool false) kept :=
    ⟨up _ _ hz.z, up _ _ hz.TI, up _ _ hz.TO, fun k i r e1 e2 => (hz.it k i r e1 e2).at fun o e => up _ o e, fun k r xs e1 e2 => let ⟨o, ho, q⟩ := hz.row k r xs e1 e2; ⟨o, up _ _ ho, q⟩⟩
  have hT : ({ s with heap := s.heap.push { cls := .type "list", data := .seq ([] : List Value).toArray } } : Shared).TypeIs (.ref z) "zip" := ⟨_, hz1.z, rfl⟩
  have hne : Builtin.List.listSameRef (.ref s.heap.objs.size) (.ref z) = false := by simp [Builtin.List.listSameRef, g.Sz]
  show wpAny _ A.in1 (Builtin.List.listExtendWith (.ref s.heap.objs.size) (.ref z) (.ref s.heap.objs.size)) _ _ _
  unfold Builtin.List.listExtendWith
  refine wpAny_bind (wpAny_typeOf hT ?_)
  rw [if_neg (by rw [hne]; decide)]
  refine wpAny_bind (iter_zip hT ?_)
  refine wpAny_bind (wpAny_holding ?_)
  unfold Builtin.List.listLengthHint
  refine wpAny_bind (wpAny_specialOf hT nolen_zip ?_)
  show wpAny _ A.in1 (specialOf (Value.ref z) (Str.ofString "__length_hint__") >>= _) _ _ _
  refine wpAny_bind (wpAny_specialOf hT nohint_zip ?_)
  refine wpAny_pure ?_
  rw [if_pos (by rw [Bool.true_or])]
  refine wpAny_bind (wpAny_rule (wpAny_bind (touch hS fun h2 c2 hS2 ho2 hz2 => ?_)))
  have Szz : ∀ c o, s.heap.get? c = some o → c ≠ s.heap.objs.size := fun c o e => Nat.ne_of_lt (Heap.lt_size e)
  have up2 : ∀ c o, s.heap.get? c = some o → h2.get? c = some o := fun c o e => ho2 _ _ (Szz c o e) (up c o e)
  refine wpAny_pure ⟨plainId_quiet F.plain_extend_loop _, loop_zip hh g n 0 _ [] c2 rfl (Nat.zero_le _) ?_ ⟨⟨_, _, _, ⟨up2 _ _ hz.z, up2 _ _ hz.TI, up2 _ _ hz.TO, fun k i r e1 e2 => (hz.it k i r e1 e2).at fun o e => up2 _ o e, fun k r xs e1 e2 => let ⟨o, ho, q⟩ := hz.row k r xs e1 e2; ⟨o, up2 _ _ ho, q⟩⟩, hk, .inl ⟨rfl, rfl⟩⟩, rfl, fun i p e => by simp at e, fun c o e => up2 _ _ (hold c o e)⟩ hS2 fun h' ps c' a1 a2 a3 a4 a5 => ?_⟩
  · show h0.objs.size ≤ h2.objs.size
    rw [hz2]
    show h0.objs.size ≤ (s.heap.push _).objs.size
    rw [Heap.size_push]
    omega
  · show wpAny _ A (load s.heap.objs.size >>= _) _ _ _
    refine wpAny_bind (wpAny_load (s := { s with heap := h' }) a5 ?_)
    refine wpAny_pure ?_
    have e : ((ps.map Value.ref).toArray).toList = ps.map Value.ref := by simp
    show Q ((ps.map Value.ref).toArray).toList _
    rw [e]
    exact hQ h' ps a1 a2 a3 a4
/-- tuple(z) -/
theorem code_tuple {z TI TO : Addr} {its rs : List Addr} {xss : List (Array Value)} {cols : List (List Value)} {n : Nat} {h0 : Heap} {kept : Array Value} {Q₁ : Value → Shared → Prop} (hh : A.handled = none)
    (hz : Zst s.heap z TI TO its rs xss 0 .none (.bool false) kept) (hk : kept.size = its.length) (hold : ∀ c o, h0.get? c = some o → s.heap.get? c = some o) (hsz : h0.objs.size ≤ s.heap.objs.size)
    (g : Geo h0 z TI TO s.heap.objs.size its rs xss cols n)
    (hQ : ∀ (h' : Heap) (ps : List Addr), h0.objs.size ≤ h'.objs.size → ps.length = n → (∀ (i : Nat) (p : Addr), ps[i]? = some p → ∃ col, cols[i]? = some col ∧ h'.get? p = some (TObj col.toArray) ∧ h0.objs.size ≤ p) → (∀ c o, h0.get? c = some o → h'.get? c = some o) →
      Q₁ (.ref h'.objs.size) { s with heap := h'.push (TObj (ps.map Value.ref).toArray) }) :
    codeAny (model prog w) A (.call (.builtin "tuple.__new__") ⟨[.type "tuple", .ref z], []⟩) (wants Q₁ E) s := by
  refine codeAny_of_tree ?_
  show wpAny _ A.in1 (do checkBuiltinCall "tuple.__new__" ⟨[.type "tuple", .ref z], []⟩; again (.builtin "tuple.__new__" ⟨[.type "tuple", .ref z], []⟩)) _ _ s
  refine wpAny_bind (wpAny_of_eq (F.newCall_tuple_1 _) (wpAny_pure ⟨plainId_quiet F.plain_tuple_new _, codeAny_builtin F.entry_tuple_new ?_⟩))
  rw [Around.under_plainId F.plain_tuple_new _]
  have hsub := sub_tuple_self
  have hinit := init_tuple_lookup
  have hmh := madeHere_tuple
  have hTI : s.TypeIs (.ref z) "zip" := ⟨_, hz.z, rfl⟩
  wp_walk using wpAny_typeOf hTI, collect_zip (A := A.in1) hh hz hk hold hsz g
  intro h' ps a1 a2 a3 a4
  have hn : ps.length ≤ sizeLine := by
    have h1 : (1000 : Nat) ≤ sizeLine := by decide
    have := g.n1
    omega
  refine wpAny_bind (m := Builtin.Tuple.tupleExact (ps.map Value.ref).toArray) ?_
  unfold Builtin.Tuple.tupleExact
  refine wpAny_newObj_type (wpAny_pure ?_) (by show (ps.map Value.ref).toArray.size ≤ sizeLine; simp; exact hn)
  exact hQ h' ps a1 a2 a3 a4
end
end ZS

set_option Elab.async false
set_option linter.all false
set_option maxRecDepth 100000
set_option maxHeartbeats 1000000
namespace ZS
open PySem PySem.Spec PyProof.Rows
section
variable {prog : Program} {w : World} {A : Around} {E : Value → Shared → Prop} {s : Shared}
def itsOf (b m : Nat) : List Addr := (List.range m).map fun i => b + i
structure Its (h0 : Heap) (rs : List Addr) (k : Nat) (h' : Heap) : Prop where
  size : h'.objs.size = h0.objs.size + k
  it : ∀ (i : Nat) (r : Addr), i < k → rs[i]? = some r → h'.IsTupleIter (h0.objs.size + i) r 0
  old : ∀ c o, h0.get? c = some o → h'.get? c = some o
theorem iterAll_tups {rs : List Addr} {Q : List Value → Shared → Prop} (hr : ∀ r ∈ rs, ∃ xs, s.heap.IsTuple r xs)
    (hQ : ∀ h', Its s.heap rs rs.length h' → Q ((itsOf s.heap.objs.size rs.length).map Value.ref) { s with heap := h' }) : wpAny (model prog w) A (Builtin.SmallTypes.iterAll (rs.map Value.ref)) Q E s := by
  unfold Builtin.SmallTypes.iterAll
  refine wpAny_bind (wpAny_forIn_list _ (fun rest b s' => ∃ k h', k ≤ rs.length ∧ rest = (rs.map Value.ref).drop k ∧ s' = { s with heap := h' } ∧ b.toList = (itsOf s.heap.objs.size k).map Value.ref ∧ Its s.heap rs k h') _ ?turn ?fin _ _ ?start)
  case start => exact ⟨0, s.heap, Nat.zero_le _, rfl, rfl, rfl, rfl, fun i r h => absurd h (Nat.not_lt_zero _), fun _ _ e => e⟩
  case turn =>
    rintro x rest b s' ⟨k, h', hk, hr', rfl, hb, I⟩
    have hlt : k < rs.length := by
      rcases Nat.lt_or_ge k rs.length with q | q
      · exact q
      · rw [List.drop_eq_nil_of_le (by simpa using q)] at hr'; cases hr'
    rw [List.drop_eq_getElem_cons (by simpa using hlt)] at hr'
    simp only [List.getElem_map, List.cons.injEq] at hr'
    obtain ⟨rfl, rfl⟩ := hr'
    obtain ⟨xs, o, ho, q⟩ := hr _ (List.getElem_mem hlt)
    refine wpAny_bind (wpAny_holding (wpAny_pyIter_tuple (s := { s with heap := h' }) ⟨o, I.old _ _ ho, q⟩ (wpAny_pure ?_)))
    refine ⟨k + 1, _, hlt, rfl, rfl, ?_, ?_, fun i r hi e => ?_, fun c o e => Heap.get?_push_of_some _ (I.old c o e)⟩
    · show (b.push (.ref h'.objs.size)).toList = _
      rw [Array.toList_push, hb, I.size]
      unfold itsOf
      rw [List.range_succ, List.map_append, List.map_append]
      rfl
    · show (h'.push _).objs.size = _
      rw [Heap.size_push, I.size]
      omega
    · rcases Nat.lt_or_ge i k with q | q
      · exact (I.it i r q e).at fun o e => Heap.get?_push_of_some _ e
      · have : i = k := by omega
        subst this
        rw [List.getElem?_eq_getElem hlt] at e
        cases e
        rw [← I.size]
        exact ⟨_, Heap.get?_push_size _ rfl, rfl, rfl⟩
  case fin =>
    rintro b s' ⟨k, h', hk, hr', rfl, hb, I⟩
    have hk' : k = rs.length := by
      have := congrArg List.length hr'
      simp at this
      omega
    subst hk'
    show wpAny _ _ (pure b.toList) _ _ _
    rw [hb]
    exact wpAny_pure (hQ h' I)
/-- what zip(..) leaves -/
def ZNew (h0 : Heap) (rs : List Addr) (xss : List (Array Value)) (h' : Heap) : Prop :=
  Zst h' (h0.objs.size + rs.length + 2) (h0.objs.size + rs.length) (h0.objs.size + rs.length + 1) (itsOf h0.objs.size rs.length) rs xss 0 .none (.bool false) (rs.map fun _ => Value.none).toArray ∧ h'.objs.size = h0.objs.size + rs.length + 3 ∧ ∀ c o, h0.get? c = some o → h'.get? c = some o
theorem meets_zip (rs : List Addr) (xss : List (Array Value)) (lx : xss.length = rs.length) (h5 : rs.length ≤ 5) : Meets (Builtin.«zip.__new__» ⟨.type "zip" :: rs.map Value.ref, []⟩) (fun _ R s => (∀ (k : Nat) (r : Addr) (xs : Array Value), rs[k]? = some r → xss[k]? = some xs → s.heap.IsTuple r xs) ∧
      ∀ h', ZNew s.heap rs xss h' → R (.ok (.ret (.ref (s.heap.objs.size + rs.length + 2)))) { s with heap := h' }) :=
  .of_wp fun prog w A R s ⟨hrow, h⟩ => by
    unfold Builtin.«zip.__new__»
    refine wpAny_bind (wpAny_of_eq (newClass_zip _) ?_)
    try dsimp only
    rw [if_neg (by simp)]
    refine wpAny_bind (iterAll_tups (fun r hr => ?_) fun h1 I => ?_)
    · obtain ⟨k, hk⟩ := List.getElem?_of_mem hr
      have hl : k < xss.length := by rw [lx]; exact (List.getElem?_eq_some_iff.mp hk).1
      exact ⟨_, hrow k r _ hk (List.getElem?_eq_getElem hl)⟩
    have h100 : (100 : Nat) ≤ sizeLine := by decide
    refine wpAny_bind (wpAny_newTuple ?_ (by unfold itsOf; simp; omega))
    refine wpAny_bind (wpAny_newTuple ?_ (by unfold itsOf; simp; omega))
    refine wpAny_bind ?_
    unfold Builtin.SmallTypes.newRecord
    refine wpAny_newObj_type (wpAny_pure ⟨_, rfl, ?_⟩) (by show (5 : Nat) ≤ sizeLine + 2; decide)
    have en : (((itsOf s.heap.objs.size rs.length).map Value.ref).map fun _ => Value.none).toArray = (rs.map fun _ => Value.none).toArray := by
      congr 1
      apply List.ext_getElem
      · unfold itsOf; simp
      · intro i h1 h2; simp
    show R (.ok (.ret (.ref ((h1.push (TObj ((itsOf s.heap.objs.size rs.length).map Value.ref).toArray)).push (TObj (((itsOf s.heap.objs.size rs.length).map Value.ref).map fun _ => Value.none).toArray)).objs.size)))
      { s with heap := ((h1.push (TObj ((itsOf s.heap.objs.size rs.length).map Value.ref).toArray)).push (TObj (((itsOf s.heap.objs.size rs.length).map Value.ref).map fun _ => Value.none).toArray)).push (ZObj .none (.bool false) h1.objs.size (h1.push (TObj ((itsOf s.heap.objs.size rs.length).map Value.ref).toArray)).objs.size) }
    rw [en]
    have e1 := I.size
    have e2 : (h1.push (TObj ((itsOf s.heap.objs.size rs.length).map Value.ref).toArray)).objs.size = s.heap.objs.size + rs.length + 1 := by rw [Heap.size_push, e1]
    have e3 : ((h1.push (TObj ((itsOf s.heap.objs.size rs.length).map Value.ref).toArray)).push (TObj (rs.map fun _ => Value.none).toArray)).objs.size = s.heap.objs.size + rs.length + 2 := by rw [Heap.size_push, e2]
    rw [e3, e2, e1]
    have up : ∀ c o, h1.get? c = some o → (((h1.push (TObj ((itsOf s.heap.objs.size rs.length).map Value.ref).toArray)).push (TObj (rs.map fun _ => Value.none).toArray)).push (ZObj .none (.bool false) (s.heap.objs.size + rs.length) (s.heap.objs.size + rs.length + 1))).get? c = some o := fun c o e => Heap.get?_push_of_some _ (Heap.get?_push_of_some _ (Heap.get?_push_of_some _ e))
    refine h _ ⟨⟨?_, ?_, ?_, fun k i r q1 q2 => ?_, fun k r xs q1 q2 => ?_⟩, by rw [Heap.size_push, e3], fun c o e => up c o (I.old c o e)⟩
    · rw [← e3]
      exact Heap.get?_push_size _ rfl
    · refine Heap.get?_push_of_some _ (Heap.get?_push_of_some _ ?_)
      rw [← e1]
      exact Heap.get?_push_size _ rfl
    · refine Heap.get?_push_of_some _ ?_
      rw [← e2]
      exact Heap.get?_push_size _ rfl
    · have hk : k < rs.length := (List.getElem?_eq_some_iff.mp q2).1
      have : i = s.heap.objs.size + k := by
        unfold itsOf at q1
        rw [List.getElem?_map, List.getElem?_range hk] at q1
        exact (Option.some.inj q1).symm
      subst this
      exact (I.it k r hk q2).at fun o e => up _ o e
    · obtain ⟨o, ho, q⟩ := hrow k r xs q1 q2
      exact ⟨o, up _ _ (I.old _ _ ho), q⟩
theorem call_zip {rs : List Addr} {xss : List (Array Value)} {Q : Value → Shared → Prop} (lx : xss.length = rs.length) (h5 : rs.length ≤ 5) (hrow : ∀ (k : Nat) (r : Addr) (xs : Array Value), rs[k]? = some r → xss[k]? = some xs → s.heap.IsTuple r xs)
    (h : ∀ h', ZNew s.heap rs xss h' → Q (.ref (s.heap.objs.size + rs.length + 2)) { s with heap := h' }) : wpAny (model prog w) A (call (.type "zip") (rs.map Value.ref)) Q E s := by
  refine callType_new F.called_zip (by decide) (typeCall_zip _) (newCall_zip _ (by simpa using h5)) (fun obj => args_init obj _ (by simpa using h5)) F.entry_zip_new (meets_zip rs xss lx h5) ⟨hrow, fun h' zn => ?_⟩
  exact ⟨⟨_, zn.1.z, rfl⟩, h h' zn⟩
/-- tuple(z), z as zip(..) left it in the heap behind h0 -/
theorem call_tuple {rs : List Addr} {xss : List (Array Value)} {cols : List (List Value)} {n : Nat} {h0 : Heap} {Q : Value → Shared → Prop} (hh : A.handled = none) (zn : ZNew h0 rs xss s.heap) (lx : xss.length = rs.length) (h5 : rs.length ≤ 5) (hne : rs ≠ []) (hrl : ∀ r ∈ rs, ∃ o, h0.get? r = some o)
    (n0 : 0 < n) (n1 : n ≤ 1000) (cn : cols.length = n) (cl : ∀ (j : Nat) (col : List Value), cols[j]? = some col → col.length = rs.length ∧ ∀ (k : Nat) (xs : Array Value), xss[k]? = some xs → xs[j]? = col[k]?) (xn : ∀ (k : Nat) (xs : Array Value), xss[k]? = some xs → xs[n]? = none)
    (hQ : ∀ (h' : Heap) (ps : List Addr), h0.objs.size ≤ h'.objs.size → ps.length = n → (∀ (i : Nat) (p : Addr), ps[i]? = some p → ∃ col, cols[i]? = some col ∧ h'.get? p = some (TObj col.toArray) ∧ h0.objs.size ≤ p) → (∀ c o, h0.get? c = some o → h'.get? c = some o) →
      Q (.ref h'.objs.size) { s with heap := h'.push (TObj (ps.map Value.ref).toArray) }) :
    wpAny (model prog w) A (call (.type "tuple") [.ref (h0.objs.size + rs.length + 2)]) Q E s := by
  obtain ⟨hz, hs, hold⟩ := zn
  have il : (itsOf h0.objs.size rs.length).length = rs.length := by unfold itsOf; simp
  have mi : ∀ x : Nat, x ∈ (itsOf h0.objs.size rs.length : List Nat) → h0.objs.size ≤ x ∧ x < h0.objs.size + rs.length := fun x hx => by
    unfold itsOf at hx
    obtain ⟨i, hi, rfl⟩ := List.mem_map.mp hx
    have := List.mem_range.mp hi
    exact ⟨Nat.le_add_right _ _, Nat.add_lt_add_left this _⟩
  have rl : ∀ r : Nat, r ∈ (rs : List Nat) → r < h0.objs.size := fun r hr => let ⟨o, ho⟩ := hrl r hr; Heap.lt_size ho
  have D : Ap (h0.objs.size + rs.length + 2) (h0.objs.size + rs.length) (h0.objs.size + rs.length + 1) (itsOf h0.objs.size rs.length) rs := by
    refine ⟨by show @Ne Nat _ _; omega, by show @Ne Nat _ _; omega, by show @Ne Nat _ _; omega, ?_, fun h => ?_, fun h => ?_, fun h => ?_, fun x hx => ⟨?_, ?_, fun h => ?_⟩, il⟩
    · unfold itsOf
      exact List.Pairwise.map _ (fun (a b : Nat) (e : a ≠ b) => by show @Ne Nat _ _; omega) List.nodup_range
    · have := mi _ h; omega
    · have := mi _ h; omega
    · have := mi _ h; omega
    · have := rl x hx; show @Ne Nat _ _; omega
    · have := rl x hx; show @Ne Nat _ _; omega
    · have := rl x hx; have := mi _ h; omega
  have g : Geo h0 (h0.objs.size + rs.length + 2) (h0.objs.size + rs.length) (h0.objs.size + rs.length + 1) s.heap.objs.size (itsOf h0.objs.size rs.length) rs xss cols n := by
    refine ⟨D, by rw [il]; exact h5, fun h => ?_, lx, n0, n1, cn, fun j col e => ⟨by rw [il]; exact (cl j col e).1, (cl j col e).2⟩, xn, by rw [hs]; show @Ne Nat _ _; omega, by rw [hs]; show @Ne Nat _ _; omega, by rw [hs]; show @Ne Nat _ _; omega, fun h => ?_, fun h => ?_, by rw [hs]; omega, fun c o e => ?_⟩
    · have := congrArg List.length h
      rw [il] at this
      exact hne (List.length_eq_zero_iff.mp this)
    · have := mi _ h; rw [hs] at this; omega
    · have := rl _ h; rw [hs] at this; omega
    · have this : @LT.lt Nat _ c h0.objs.size := Heap.lt_size e
      refine ⟨by show @Ne Nat _ _; omega, by show @Ne Nat _ _; omega, fun h => ?_, by rw [hs]; show @Ne Nat _ _; omega⟩
      have := mi _ h; omega
  have hk : ((rs.map fun _ => Value.none).toArray).size = (itsOf h0.objs.size rs.length).length := by rw [il]; simp
  refine callType_codes (Q₁ := fun obj s₁ => s₁.TypeIs obj "tuple" ∧ Q obj s₁) F.called_tuple (F.typeCall_tuple_1 _) F.entry_object_init
    (code_tuple (A := A.in1) hh hz hk hold (by rw [hs]; omega) g fun h' ps a1 a2 a3 a4 => ⟨⟨_, Heap.get?_push_size _ rfl, rfl⟩, hQ h' ps a1 a2 a3 a4⟩) fun obj s₁ h₁ => ?_
  exact ⟨h₁.1, F.args_object_init_2 obj _, object_init_meets F.called_tuple.init.lookup F.called_tuple.made (by decide) prog w A.in1 _ s₁ ⟨h₁.1, rfl, h₁.2⟩⟩
end
end ZS

set_option Elab.async false
set_option linter.all false
set_option maxRecDepth 100000
set_option maxHeartbeats 1000000
namespace Sv
open PySem PySem.Spec PyProof.Rows L2
theorem callWith_typeS {M : Model} {A : Around} {E : Value → Shared → Prop} {s : Shared} {pos : Pos} {T : String} {e : Expr} {p : Pos} {env : Env} {Q : Value → Shared → Prop}
    (h : wpAny M A (eval e env) (fun v s₁ => PySem.W.StarOf M A E v (fun vs s₂ => wpAny M A (call (.type T) vs) Q E s₂) s₁) E s) (he : starEach [.Starred e p] env = [(true, eval e env)] := by rfl) :
    wpAny M A (callWith pos (.type T) [] (backTo pos (starEach [.Starred e p] env)) []) Q E s := by
  rw [he]
  exact PySem.W.ks_call (P := fun _ => True) rfl (fun h _ => ⟨.machine, .inr (.inl rfl), PySem.W.Looks.of_pure rfl⟩) (PySem.W.ks_lone (wpAny_mono h (fun v s1 q => wpAny_mono q (fun b s2 ⟨hb, q⟩ => ⟨hb, wpAny_mono q (fun vs s3 q => ⟨trivial, q⟩) fun _ _ z => z⟩) fun _ _ z => z) fun _ _ z => z))
def colV (rows : List (List V)) (i : Nat) : List V := rows.map fun r => r.getD i .non
def tZip (K : PySem.W.Frag) (te : TE) : TE := fun σ H Q => te σ H fun x H1 => ∃ (a : Addr) (rs : List Addr) (rows : List (List V)) (n : Nat), x = .ref a ∧ SqT K H1 a (rs.map V.ref) ∧ rows.length = rs.length ∧ (∀ (k : Nat) (r : Addr) (row : List V), rs[k]? = some r → rows[k]? = some row → SqT K H1 r row ∧ row.length = n) ∧ rs ≠ [] ∧ rs.length ≤ 5 ∧ 0 < n ∧ n ≤ 1000 ∧
  ∀ (H' : Hp) (t : Addr) (ot : Obj) (ps : List Addr), Same H1 H' → H1 t = none → H' t = some (.frz ot (.tup (ps.map V.ref))) → ot.dict = none → ps.length = n → (∀ (i : Nat) (p : Addr), ps[i]? = some p → ∃ o : Obj, o.dict = none ∧ H1 p = none ∧ H' p = some (.frz o (.tup (colV rows i)))) → Q (.ref t) H'
theorem rows_vals {X : Cx} {pins : List (Addr × Obj)} {σ : L2.St} {H : Hp} {s : Shared} (I : Inv X pins σ H s) : ∀ (rs : List Addr) (rows : List (List V)), rows.length = rs.length → (∀ (k : Nat) (r : Addr) (row : List V), rs[k]? = some r → rows[k]? = some row → SqT X.K H r row) →
    ∃ uss : List (List Value), uss.length = rs.length ∧ (∀ (k : Nat) (row : List V) (us : List Value), rows[k]? = some row → uss[k]? = some us → Vals row us) ∧ ∀ (k : Nat) (r : Addr) (us : List Value), rs[k]? = some r → uss[k]? = some us → s.heap.IsTuple r us.toArray
  | [], rows, hl, _ => ⟨[], rfl, fun k row us _ e => by simp at e, fun k r us e _ => by simp at e⟩
  | r :: rs, [], hl, _ => by simp at hl
  | r :: rs, row :: rows, hl, h => by
    obtain ⟨uss, l, a, b⟩ := rows_vals I rs rows (by simpa using hl) fun k r row e1 e2 => h (k + 1) r row (by simpa using e1) (by simpa using e2)
    obtain ⟨its, r1, t1, _⟩ := I.tuple (h 0 r row rfl rfl)
    refine ⟨its :: uss, by simp [l], fun k row' us e1 e2 => ?_, fun k r' us e1 e2 => ?_⟩
    · cases k with
      | zero => simp at e1 e2; subst e1; subst e2; exact r1
      | succ k => exact a k _ _ (by simpa using e1) (by simpa using e2)
    · cases k with
      | zero => simp at e1 e2; subst e1; subst e2; exact t1
      | succ k => exact b k _ _ (by simpa using e1) (by simpa using e2)
theorem refs_vals : ∀ {rs : List Addr} {us : List Value}, Vals (rs.map V.ref) us → us = rs.map Value.ref
  | [], _, .nil => rfl
  | r :: rs, _, .cons h t => by
    have h : _ = Value.ref r := h
    rw [List.map_cons, h, refs_vals t]
theorem vals_refs : ∀ rs : List Addr, Vals (rs.map V.ref) (rs.map Value.ref)
  | [] => .nil
  | r :: rs => .cons rfl (vals_refs rs)
theorem vals_get {vs : List V} {us : List Value} (r : Vals vs us) {i : Nat} (h : i < vs.length) : RelV (vs.getD i .non) (us.getD i .none) := by
  obtain ⟨v, hv⟩ : ∃ v, vs[i]? = some v := ⟨_, List.getElem?_eq_getElem h⟩
  obtain ⟨u, hu, h2⟩ := r.get hv
  rw [List.getD_eq_getElem?_getD, List.getD_eq_getElem?_getD, hv, hu]
  exact h2
theorem col_vals {rows : List (List V)} {uss : List (List Value)} {i : Nat} (hl : uss.length = rows.length) (hv : ∀ (k : Nat) (row : List V) (us : List Value), rows[k]? = some row → uss[k]? = some us → Vals row us) (hi : ∀ row ∈ rows, i < row.length) : Vals (colV rows i) (uss.map fun us => us.getD i .none) := by
  induction rows generalizing uss with
  | nil => cases uss with
    | nil => exact .nil
    | cons _ _ => simp at hl
  | cons row rows ih =>
    cases uss with
    | nil => simp at hl
    | cons us uss =>
      exact .cons (vals_get (hv 0 row us rfl rfl) (hi row List.mem_cons_self)) (ih (by simpa using hl) (fun k r u e1 e2 => hv (k + 1) r u (by simpa using e1) (by simpa using e2)) fun r hr => hi r (List.mem_cons_of_mem _ hr))
section
variable {X : Cx} {e : Expr} {te : TE} {p1 p2 pos1 pos2 : Pos} {j : Pos}
theorem pe_zipS (hc : X.calm = true) (h1 : Gl X "tuple") (h2 : X.mg "tuple" = none) (h3 : Gl X "zip") (h4 : X.mg "zip" = none) (he : PE X e te) (hs : starEach [.Starred e j] X.env = [(true, eval e X.env)] := by rfl)
    (hs1 : starEach [.Call (.Name "zip" p2) [.Starred e j] [] pos2] X.env = (false, eval (.Call (.Name "zip" p2) [.Starred e j] [] pos2) X.env) :: starEach [] X.env := by rfl) (hpl : (backTo pos1 (starEach [] X.env)).any (·.1) = false := by rfl) :
    PE X (.Call (.Name "tuple" p1) [.Call (.Name "zip" p2) [.Starred e j] [] pos2] [] pos1) (tZip X.K te) := by
  refine ⟨fun pins s σ H Q I h => ?_⟩
  refine wpAny_Call_Name_kw (ld_blt I h1 h2 (u := .type "tuple") (by decide +kernel) ?_)
  refine PyProof.Rows.callWith_type1 ?_ hs1 hpl
  rw [hs1]
  show wpAny _ _ (spliced ((false, eval (.Call (.Name "zip" p2) [.Starred e j] [] pos2) X.env) :: backTo pos1 (starEach [] X.env))) _ _ s
  refine Calls.spliced_cons ?_
  refine wpAny_Call_Name_kw (ld_blt I h3 h4 (u := .type "zip") (by decide +kernel) ?_)
  refine callWith_typeS (thn (he.run pins s σ H _ I h) fun v s1 ⟨x, H1, I1, r1, a, rs, rows, n, ex, hsq, hl, hrow, hne, h5, n0, n1, q⟩ => ?_) hs
  subst ex
  cases r1
  refine star_tup I1 hsq fun us s2 I2 rv => ?_
  rw [refs_vals rv]
  obtain ⟨uss, ul, uv, ut⟩ := rows_vals I2 rs rows hl fun k r row e1 e2 => (hrow k r row e1 e2).1
  refine ZS.call_zip (xss := uss.map List.toArray) (by rw [List.length_map, ul]) h5 (fun k r xs e1 e2 => ?_) fun hz zn => ?_
  · rw [List.getElem?_map] at e2
    cases hu : uss[k]? with
    | none => rw [hu] at e2; cases e2
    | some us => rw [hu] at e2; cases e2; exact ut k r us e1 hu
  refine Calls.spliced_nil ?_
  have ulen : ∀ (k : Nat) (us : List Value), uss[k]? = some us → us.length = n := fun k us e => by
    have hk : k < rows.length := by rw [hl, ← ul]; exact (List.getElem?_eq_some_iff.mp e).1
    have hk2 : k < rs.length := by rw [← hl]; exact hk
    have z1 := (hrow k _ _ (List.getElem?_eq_getElem hk2) (List.getElem?_eq_getElem hk)).2
    rw [← (uv k _ us (List.getElem?_eq_getElem hk) e).length]
    exact z1
  refine ZS.call_tuple (h0 := s2.heap) (xss := uss.map List.toArray) (cols := (List.range n).map fun i => uss.map fun us => us.getD i .none) (I2.ok.hd hc) zn (by rw [List.length_map, ul]) h5 hne (fun r hr => ?_) n0 n1 (by simp) (fun i col e => ⟨?_, fun k xs e2 => ?_⟩) (fun k xs e2 => ?_) fun hF ps a1 a2 a3 a4 => ?_
  · obtain ⟨k, hk⟩ := List.getElem?_of_mem hr
    have hk2 : k < uss.length := by rw [ul]; exact (List.getElem?_eq_some_iff.mp hk).1
    obtain ⟨o, ho, _⟩ := ut k r _ hk (List.getElem?_eq_getElem hk2)
    exact ⟨o, ho⟩
  · rw [List.getElem?_map] at e
    cases q1 : (List.range n)[i]? with
    | none => rw [q1] at e; cases e
    | some i' => rw [q1] at e; cases e; rw [List.length_map, ul]
  · have hi : i < n := by
      have := (List.getElem?_eq_some_iff.mp e).1
      simpa using this
    rw [List.getElem?_map, List.getElem?_range hi] at e
    cases e
    rw [List.getElem?_map] at e2 ⊢
    cases hu : uss[k]? with
    | none => rw [hu] at e2; cases e2
    | some us =>
      rw [hu] at e2
      cases e2
      have := ulen k us hu
      show us.toArray[i]? = some (us.getD i .none)
      rw [List.getElem?_toArray, List.getD_eq_getElem?_getD, List.getElem?_eq_getElem (by omega)]
      rfl
  · rw [List.getElem?_map] at e2
    cases hu : uss[k]? with
    | none => rw [hu] at e2; cases e2
    | some us =>
      rw [hu] at e2
      cases e2
      have := ulen k us hu
      rw [List.getElem?_toArray]
      exact List.getElem?_eq_none (by omega)
  -- the columns
  have cv : ∀ i, i < n → Vals (colV rows i) (uss.map fun us => us.getD i .none) := fun i hi => col_vals (by rw [ul, hl]) uv fun row hr => by
    obtain ⟨k, hk⟩ := List.getElem?_of_mem hr
    have hk2 : k < rs.length := by rw [← hl]; exact (List.getElem?_eq_some_iff.mp hk).1
    rw [(hrow k _ row (List.getElem?_eq_getElem hk2) hk).2]
    exact hi
  have pi : ∀ (i : Nat) (p : Addr), ps[i]? = some p → i < n ∧ hF.get? p = some (ZS.TObj (uss.map fun us => us.getD i .none).toArray) ∧ s2.heap.objs.size ≤ p ∧ p < hF.objs.size := fun i p e => by
    have hi : i < n := by rw [← a2]; exact (List.getElem?_eq_some_iff.mp e).1
    obtain ⟨col, e1, e2, e3⟩ := a3 i p e
    rw [List.getElem?_map, List.getElem?_range hi] at e1
    cases e1
    exact ⟨hi, e2, e3, Heap.lt_size e2⟩
  let H' : Hp := fun b => if b < s2.heap.objs.size then H1 b else if b = hF.objs.size then some (.frz (ZS.TObj (ps.map Value.ref).toArray) (.tup (ps.map V.ref))) else
    match (List.range n).find? (fun i => decide (ps[i]? = some b)) with
    | some i => some (.frz (ZS.TObj (uss.map fun us => us.getD i .none).toArray) (.tup (colV rows i)))
    | none => none
  have same : Same H1 H' := fun b u e => by
    show (if b < s2.heap.objs.size then H1 b else _) = _
    rw [if_pos (I2.hok b u e).lt]
    exact e
  have low : ∀ b, b < s2.heap.objs.size → H' b = H1 b := fun b hb => if_pos hb
  have at_t : H' hF.objs.size = some (.frz (ZS.TObj (ps.map Value.ref).toArray) (.tup (ps.map V.ref))) := by
    show (if hF.objs.size < s2.heap.objs.size then _ else _) = _
    rw [if_neg (Nat.not_lt.mpr a1), if_pos rfl]
  have at_p : ∀ (i : Nat) (p : Addr), ps[i]? = some p → H' p = some (.frz (ZS.TObj (uss.map fun us => us.getD i .none).toArray) (.tup (colV rows i))) := fun i p e => by
    obtain ⟨hi, e2, e3, e4⟩ := pi i p e
    show (if p < s2.heap.objs.size then _ else if p = hF.objs.size then _ else _) = _
    rw [if_neg (Nat.not_lt.mpr e3), if_neg (Nat.ne_of_lt e4)]
    cases hf : (List.range n).find? (fun i => decide (ps[i]? = some p)) with
    | none =>
      have := List.find?_eq_none.mp hf i (List.mem_range.mpr hi)
      exact absurd (decide_eq_true e) this
    | some i' =>
      have hp : ps[i']? = some p := of_decide_eq_true (List.find?_some (p := fun i => decide (ps[i]? = some p)) hf)
      obtain ⟨hi', e2', _, _⟩ := pi i' p hp
      rw [e2] at e2'
      have ec : (uss.map fun us => us.getD i .none) = (uss.map fun us => us.getD i' .none) := by
        have z := Option.some.inj e2'
        injection z with _ _ z3 _
        injection z3 with z4
        simpa using z4
      have ev : colV rows i = colV rows i' := (cv i hi).inj (ec ▸ cv i' hi')
      show some _ = some _
      rw [ec, ev]
  have big : (1000 : Nat) ≤ sizeLine := by decide
  have kp : ∀ b o, s2.heap.get? b = some o → (hF.push (ZS.TObj (ps.map Value.ref).toArray)).get? b = some o := fun b o e => Heap.get?_push_of_some _ (a4 b o e)
  have hok : HOk X.prog X.w H' (hF.push (ZS.TObj (ps.map Value.ref).toArray)) := fun b u e => by
    by_cases hb : b < s2.heap.objs.size
    · rw [low b hb] at e
      exact (I2.hok b u e).stay (fun c v _ q => kp c v q) (fun c q => same _ _ q) fun c xs q => same _ _ q
    · by_cases ht : b = hF.objs.size
      · subst ht
        rw [at_t] at e
        cases e
        have g0 : (hF.push (ZS.TObj (ps.map Value.ref).toArray)).get? hF.objs.size = some (ZS.TObj (ps.map Value.ref).toArray) := Heap.get?_push_size _ rfl
        exact ⟨g0, by rw [List.length_map, a2]; omega, _, vals_refs ps, ⟨_, g0, rfl, _, rfl⟩⟩
      · have e0 : (match (List.range n).find? (fun i => decide (ps[i]? = some b)) with
          | some i => some (HO.frz (ZS.TObj (uss.map fun us => us.getD i .none).toArray) (.tup (colV rows i)))
          | none => none) = some u := by
          have e : (if b < s2.heap.objs.size then _ else if b = hF.objs.size then _ else _) = some u := e
          rw [if_neg hb, if_neg ht] at e
          exact e
        cases hf : (List.range n).find? (fun i => decide (ps[i]? = some b)) with
        | none => rw [hf] at e0; cases e0
        | some i =>
          rw [hf] at e0
          cases e0
          obtain ⟨hi, e2, _, _⟩ := pi i b (of_decide_eq_true (List.find?_some (p := fun i => decide (ps[i]? = some b)) hf))
          have g0 : (hF.push (ZS.TObj (ps.map Value.ref).toArray)).get? b = _ := Heap.get?_push_of_some _ e2
          refine ⟨g0, ?_, _, cv i hi, ⟨_, g0, rfl, _, rfl⟩⟩
          unfold colV
          rw [List.length_map, hl]
          omega
  have un : Un X.fs [] H1 H' s2.heap (hF.push (ZS.TObj (ps.map Value.ref).toArray)) :=
    ⟨fun b o e _ _ _ => kp b o e, fun b o e _ _ _ => ⟨o.slots, kp b o e⟩, fun b o e n _ => by rw [low b (Heap.lt_size e)]; exact n, fun b o e _ => ⟨o, kp b o e⟩, fun b xs e => same _ _ e, fun b o u e => same _ _ e, fun b qs e => ⟨#[], by rw [same _ _ e]; simp⟩⟩
  exact ⟨.ref hF.objs.size, H', I2.un (t' := s2.toks) un hok, rfl, q H' _ _ ps same (I2.hok.fresh a1) at_t rfl a2 fun i p e => ⟨_, rfl, I2.hok.fresh (pi i p e).2.2.1, at_p i p e⟩⟩
end
end Sv

set_option Elab.async false
set_option linter.all false
set_option maxRecDepth 100000
namespace Sv
open PySem L2 PyProof.Rows
/-! ## tuple(zip(*rows)), rows of one length -/
def tupsD : List Dat → Option (List (List Dat))
  | [] => some []
  | .tup r :: ds => (tupsD ds).map (r :: ·)
  | _ => none
def zipCols (n : Nat) (ls : List (List Dat)) : List Dat := (List.range n).map fun j => .tup (ls.map fun r => r.getD j .non)
def zipSD (d : Dat) : Option Dat := match d with
  | .tup ds => (match tupsD ds with
    | some (l :: ls) => if (ls.all fun r => decide (r.length = l.length)) = true ∧ ls.length < 5 ∧ 0 < l.length ∧ l.length ≤ 1000 then some (.tup (zipCols l.length (l :: ls))) else none
    | _ => none)
  | _ => none
theorem tups_rep {K : PySem.W.Frag} {H : Hp} : ∀ {ds : List Dat} {vs : List V} {ls : List (List Dat)}, RepA K H vs ds → tupsD ds = some ls → ∃ (rs : List Addr) (rows : List (List V)), vs = rs.map V.ref ∧ rows.length = rs.length ∧ ls.length = rs.length ∧
    ∀ (k : Nat) (r : Addr) (row : List V) (l : List Dat), rs[k]? = some r → rows[k]? = some row → ls[k]? = some l → TupAt K H r row ∧ RepA K H row l
  | [], _, _, .nil, e => by cases e; exact ⟨[], [], rfl, rfl, rfl, fun k r row l e _ _ => by simp at e⟩
  | d :: ds, _, ls, .cons h1 h2, e => by
    cases d with
    | tup l0 =>
      unfold tupsD at e
      cases q : tupsD ds with
      | none => rw [q] at e; cases e
      | some ls' =>
        rw [q] at e
        cases e
        obtain ⟨rs, rows, rfl, a, b, c⟩ := tups_rep h2 q
        cases h1 with
        | @tup r0 row0 _ t1 t2 =>
          refine ⟨r0 :: rs, row0 :: rows, rfl, by simp [a], by simp [b], fun k r row l e1 e2 e3 => ?_⟩
          cases k with
          | zero => simp at e1 e2 e3; subst e1; subst e2; subst e3; exact ⟨t1, t2⟩
          | succ k => exact c k r row l (by simpa using e1) (by simpa using e2) (by simpa using e3)
    | _ => cases e
theorem col_rep {K : PySem.W.Frag} {H : Hp} {i : Nat} : ∀ {rows : List (List V)} {ls : List (List Dat)}, rows.length = ls.length → (∀ (k : Nat) (row : List V) (l : List Dat), rows[k]? = some row → ls[k]? = some l → RepA K H row l ∧ i < l.length) → RepA K H (colV rows i) (ls.map fun r => r.getD i .non)
  | [], [], _, _ => .nil
  | [], _ :: _, h, _ => by simp at h
  | _ :: _, [], h, _ => by simp at h
  | row :: rows, l :: ls, h, c => by
    obtain ⟨r, hi⟩ := c 0 row l rfl rfl
    refine .cons ?_ (col_rep (by simpa using h) fun k row l e1 e2 => c (k + 1) row l (by simpa using e1) (by simpa using e2))
    obtain ⟨d, hd⟩ : ∃ d, l[i]? = some d := ⟨_, List.getElem?_eq_getElem hi⟩
    obtain ⟨v, hv, hr⟩ := r.get hd
    show Rep K H (row.getD i .non) (l.getD i .non)
    rw [List.getD_eq_getElem?_getD, List.getD_eq_getElem?_getD, hv, hd]
    exact hr
section
variable {X : Cx} {W : WX} {e : Expr} {f : M Dat}
theorem de_zipS {p1 p2 pos1 pos2 : Pos} {j} (hc : X.calm = true) (h1 : Gl X "tuple") (h2 : X.mg "tuple" = none) (h3 : Gl X "zip") (h4 : X.mg "zip" = none) (h : DE X W e f) (hs : starEach [.Starred e j] X.env = [(true, eval e X.env)] := by rfl)
    (hs1 : starEach [.Call (.Name "zip" p2) [.Starred e j] [] pos2] X.env = (false, eval (.Call (.Name "zip" p2) [.Starred e j] [] pos2) X.env) :: starEach [] X.env := by rfl) (hpl : (backTo pos1 (starEach [] X.env)).any (·.1) = false := by rfl) :
    DE X W (.Call (.Name "tuple" p1) [.Call (.Name "zip" p2) [.Starred e j] [] pos2] [] pos1) (f.un1 zipSD) :=
  PE.imp (pe_zipS hc h1 h2 h3 h4 h hs hs1 hpl) fun σ H Q ⟨z, H0, ρ, rl, q⟩ => part rl q fun d v H1 G1 ρ1 r1 s1 hv q1 => by
    obtain ⟨dz, e, q2⟩ := Run.lift q1
    unfold zipSD at e
    cases d with
    | tup ds =>
      dsimp only at e
      cases ht : tupsD ds with
      | none => rw [ht] at e; cases e
      | some ls' =>
        rw [ht] at e
        cases ls' with
        | nil => cases e
        | cons l ls =>
          dsimp only at e
          split at e
          · rename_i hcond
            cases e
            obtain ⟨ca, c5, c0, c1⟩ := hcond
            have call : ∀ x ∈ l :: ls, x.length = l.length := fun x hx => by
              rcases List.mem_cons.mp hx with rfl | hx
              · rfl
              · exact of_decide_eq_true (List.all_eq_true.mp ca x hx)
            cases hv with
            | @tup a vs _ t1 t2 =>
              obtain ⟨rs, rows, rfl, l1, l2, hrow⟩ := tups_rep t2 ht
              have l2' : ls.length + 1 = rs.length := l2
              refine ⟨a, rs, rows, l.length, rfl, sameT r1.sub t1.sq, l1, fun k r row e1 e2 => ?_, fun h => by rw [h] at l2'; simp at l2', by omega, c0, c1, fun H' t ot ps same ht0 htt od pl hps => ?_⟩
              · have hk : k < (l :: ls).length := by rw [l2]; exact (List.getElem?_eq_some_iff.mp e1).1
                obtain ⟨x1, x2⟩ := hrow k r row _ e1 e2 (List.getElem?_eq_getElem hk)
                exact ⟨sameT r1.sub x1.sq, by rw [x2.length]; exact call _ (List.getElem_mem hk)⟩
              · let G' : Hp := fun b => match H1 b with
                  | none => H' b
                  | some _ => G1 b
                have gn : ∀ b, H1 b = none → G' b = H' b := fun b hb => by show (match H1 b with | none => H' b | some _ => G1 b) = _; rw [hb]
                have gs : ∀ b u, H1 b = some u → G' b = G1 b := fun b u hb => by show (match H1 b with | none => H' b | some _ => G1 b) = _; rw [hb]
                have g : Grow H1 H' G1 G' := ⟨same, fun b u e => by rw [gs b u (r1.sub _ _ e)]; exact e, fun b u e => by
                  cases hb : H1 b with
                  | none => rw [gn b hb] at e; exact e
                  | some o => rw [gs b o hb] at e; exact same _ _ (r1.sub _ _ e), fun b o hb hg => by rw [gs b o hb]; exact hg⟩
                refine q2 H' G' (g.rel r1) g.s _ (.tup (.inl ⟨ot, by rw [gn t ht0]; exact htt, od⟩) (RepA.of_get (by unfold zipCols; simp [pl]) fun i v d e1 e2 => ?_))
                rw [List.getElem?_map] at e1
                cases hp : ps[i]? with
                | none => rw [hp] at e1; cases e1
                | some p =>
                  rw [hp] at e1
                  cases e1
                  obtain ⟨o, od', hp0, hpp⟩ := hps i p hp
                  have hi : i < l.length := by rw [← pl]; exact (List.getElem?_eq_some_iff.mp hp).1
                  unfold zipCols at e2
                  rw [List.getElem?_map, List.getElem?_range hi] at e2
                  cases e2
                  refine .tup (.inl ⟨o, by rw [gn p hp0]; exact hpp, od'⟩) (RepA.mono g.s (col_rep (by rw [l1, ← l2]) fun k row x e1 e2 => ?_))
                  have hk : k < rs.length := by rw [← l1]; exact (List.getElem?_eq_some_iff.mp e1).1
                  exact ⟨(hrow k _ row x (List.getElem?_eq_getElem hk) e1 e2).2, by rw [call x (List.mem_of_getElem? e2)]; exact hi⟩
          · cases e
    | _ => cases e
end
end Sv

set_option Elab.async false
set_option linter.all false
set_option maxRecDepth 100000
set_option maxHeartbeats 1000000
namespace Sv
open PySem L2 PyProof.Rows
/-! ## constants of the written part -/
def KV (K : PySem.W.Frag) (u : Value) (v : V) (d : Dat) : Prop := RelV v u ∧ KRep K v d
structure KVs (K : PySem.W.Frag) (us : List Value) (vs : List V) (ds : List Dat) : Prop where
  v : Vals vs us
  r : ∀ H, RepA K H vs ds
section
variable {K : PySem.W.Frag} {u : Value} {v : V} {d : Dat} {us : List Value} {vs : List V} {ds : List Dat}
theorem kv_int {i : Int} {t} : KV K (.int i t) (.int i) (.int i) := ⟨⟨t, rfl⟩, fun _ => .int i⟩
theorem kv_str {x : Str} {t} : KV K (.str x t) (.str x) (.str x) := ⟨⟨t, rfl⟩, fun _ => .str x⟩
theorem kv_bl {b : Bool} : KV K (.bool b) (.bl b) (.bl b) := ⟨rfl, fun _ => .bl b⟩
theorem kv_non : KV K .none .non .non := ⟨rfl, fun _ => .non⟩
theorem kvs_nil : KVs K [] [] [] := ⟨.nil, fun _ => .nil⟩
theorem kvs_cons (h : KV K u v d) (h2 : KVs K us vs ds) : KVs K (u :: us) (v :: vs) (d :: ds) := ⟨.cons h.1 h2.v, fun H => .cons (h.2 H) (h2.r H)⟩
theorem kv_tup {ad : Addr} {n : Nat} {sl : Array (Option Value)} (h : K.lookup ad = some ⟨.type "tuple", none, .seq us.toArray n, sl⟩) (hl : us.length ≤ 1000000) (h2 : KVs K us vs ds) : KV K (.ref ad) (.ref ad) (.tup ds) :=
  ⟨rfl, KRep.tup h rfl rfl rfl hl h2.v h2.r⟩
theorem kv_glob {mg : Str → Option Value} {x : Str} (h : mg x = some u) (h2 : KV K u v d) : mg x = some u ∧ RelV v u ∧ KRep K v d := ⟨h, h2.1, h2.2⟩
theorem kvs_rep (h : KVs K us vs ds) : ∀ H, RepA K H vs ds := h.r
theorem kwn {D : Addr} : ∀ q ∈ ([] : List (Str × V)), ∃ u, PySem.W.nsIn K D q.1 = some (some u) ∧ RelV q.2 u := nofun
theorem kwc {D : Addr} {x : Str} {l : List (Str × V)} (h : PySem.W.nsIn K D x = some (some u)) (h2 : KV K u v d) (r : ∀ q ∈ l, ∃ u, PySem.W.nsIn K D q.1 = some (some u) ∧ RelV q.2 u) : ∀ q ∈ (x, v) :: l, ∃ u, PySem.W.nsIn K D q.1 = some (some u) ∧ RelV q.2 u := fun q hq => by
  rcases List.mem_cons.mp hq with e | e
  · cases e; exact ⟨u, h, h2.1⟩
  · exact r q e
theorem fun_same {x qual x2 qual2 : Str} {st st2 : Stmt} {f : Addr} {fd fd2 : FuncData} (F : Fun K x qual st f fd) (F2 : Fun K x2 qual2 st2 f fd2) : fd = fd2 := by
  obtain ⟨_, _, _, _, _, _, _, _, _, _, e, _⟩ := F.ex
  obtain ⟨_, _, _, _, _, _, _, _, _, _, e2, _⟩ := F2.ex
  rw [e] at e2
  cases e2; rfl
theorem bdD_mk {mg : Str → Option Value} {x qual : Str} {st : Stmt} {ps : List Str} {dvs : List V} {kws : List (Str × V)} {f : Addr} {fd fd2 : FuncData} (FD : FunD K x qual (defArgs st) (defBody st) (defScope st) [] kws f fd2) (F : Fun K x qual st f fd) (hm : mg x = some (.ref f))
    (hb : ∃ ds, Vals dvs ds ∧ Binds K fd2 ps ds) : BdD K mg x qual st ps dvs := fun fa fd' F' hm' => by
  rw [hm] at hm'
  cases hm'
  obtain ⟨_, _, _, _, _, _, _, _, _, _, e, e', _⟩ := FD.ex
  obtain ⟨_, _, _, _, _, _, _, _, _, e1, e2, _⟩ := F'.ex
  rw [e2] at e'
  cases e'
  exact hb
end
/-! ## the law -/
def spLaw (K : PySem.W.Frag) : L2.Sp := fun vs H Q _ => ∃ (a : Addr) (ns : List Int), vs = [.ref a] ∧ SqL K H a (ns.map V.int) ∧ ns.length ≤ 63 ∧ ∀ H', Q (.bl true) H'
theorem rep_ints {K : PySem.W.Frag} {H : Hp} : ∀ ns : List Int, RepA K H (ns.map V.int) (ns.map Dat.int)
  | [] => .nil
  | n :: ns => .cons (.int n) (rep_ints ns)
theorem law_ok {P : Program} {w : World} {K : PySem.W.Frag} {mg : Str → Option Value} {base : Heap} {x qual : Str} {st : Stmt} {k : Nat} {ps : List Str} {G : List Dat → O} {fa : Addr} {fd : FuncData} (F : Fun K x qual st fa fd) (hm : mg x = some (.ref fa)) (D : Fd P w K mg base x qual st k ps (spP K mg 1 G))
    (h : ∀ ns : List Int, ns.length ≤ 63 → G [.scr (ns.map Dat.int)] = .ret (.bl true) []) : FnG P w K mg base (L2.CX P w) k fa fd ps (spLaw K) := by
  obtain ⟨fa', fd', F', ok, hm'⟩ := D.ex
  rw [hm] at hm'
  cases hm'
  obtain ⟨_, _, _, _, _, _, _, _, _, e1, e2, _⟩ := F.ex
  obtain ⟨_, _, _, _, _, _, _, _, _, e3, e4, _⟩ := F'.ex
  rw [e2] at e4
  cases e4
  refine ok.imp fun vs H Q E ⟨a, ns, hv, hs, hl, q⟩ => ?_
  subst hv
  refine ⟨H, [.scr (ns.map Dat.int)], Same.refl _, .cons (.scr hs (rep_ints ns)) .nil, rfl, ?_⟩
  rw [h ns hl]
  intro v H' H0' g hv
  cases hv
  exact q H'
/-- the law's run, at the heap behind the top -/
theorem law_run {P : Program} {w : World} {K : PySem.W.Frag} {mg mb : Str → Option Value} {k : Nat} {fa a : Addr} {fd : FuncData} {s : Shared} {us : List Value} {ns : List Int} (X : K.In s.heap) (hM : s.heap.Ns mainGlobals mg) (hB : s.heap.Ns builtinsNs mb) (hbb : ∀ y : Str, y ≠ "__name__" → mb y = bootBuiltins y) (nl : s.heap.NoLimit) (g0 : s.gens = #[])
    (oa : s.heap.get? a = some { cls := .type "list", data := .seq us.toArray }) (ii : IntsAre us ns) (hl : ns.length ≤ 63) (hr : RoomG k callerA)
    (F : ∀ base : Heap, K.In base → base.Ns mainGlobals mg → FnG P w K mg base (L2.CX P w) k fa fd ["script"] (spLaw K)) (hb : ∀ (t : Shared) (u : Value), BindsTo t fd ⟨[u], []⟩ [("script", u)]) :
    codeAny (model P w) callerA (.call (.ref fa) ⟨[.ref a], []⟩) (fun r s' => r = .ok (.ret (.bool true)) ∧ OldK s.heap s'.heap ∧ s'.os = s.os ∧ AllBare s'.gens) s := by
  have hz : (63 : Nat) ≤ sizeLine := by decide
  have run : ∀ H : Hp, (∀ b, H b = none ∨ ∃ o xs, b = a ∧ H b = some (.frz o (.lst xs))) → SqL K H a (ns.map V.int) → HOk P w H s.heap → (H a ≠ none → K.lookup a = none) →
      codeAny (model P w) callerA (.call (.ref fa) ⟨[.ref a], []⟩) (fun r s' => r = .ok (.ret (.bool true)) ∧ OldK s.heap s'.heap ∧ s'.os = s.os ∧ AllBare s'.gens) s := fun H hO hS hok hK => by
    have keep : ∀ {b : Addr} {o : Obj}, s.heap.get? b = some o → b ≠ a → (hidT s.heap H).get? b = some o := fun {b o} e n => hidT_get e (by
      rcases hO b with z | ⟨_, _, z, _⟩
      · exact z
      · exact absurd z n)
    have nsd : ∀ {b : Addr} {m : Str → Option Value}, s.heap.Ns b m → (hidT s.heap H).Ns b m := fun {b m} ⟨o, es, ep, e, d, r⟩ => ⟨o, es, ep, keep e (fun z => by
      rw [z, oa] at e
      cases e
      cases d), d, r⟩
    have kin : K.In (hidT s.heap H) := fun b o e => by
      by_cases hba : b = a
      · subst hba
        exact hidT_get (X b o e) (Classical.byContradiction fun z => by rw [hK z] at e; cases e)
      · exact keep (X b o e) hba
    have hMod : Mod K mg (hidT s.heap H) := ⟨kin, nsd hM, ⟨mb, nsd hB, hbb⟩, let ⟨mc, h1, h2⟩ := nl; ⟨mc, nsd h1, h2⟩⟩
    have env : Env0 P w K mg (hidT s.heap H) callerA [] s H := ⟨rfl, hMod, fun b o e => of_hidT e, Nat.le_of_eq (hidT_size _ _), trivial, (fun b hb => nomatch hb), hok, .of_eq g0⟩
    refine codeAny_mono ((F _ kin (nsd hM)).run callerA [] s H ⟨[.ref a], []⟩ [.ref a] [.ref a] (fun v _ => v = .bl true) (fun _ _ _ => False) hr env (hb s _) (.cons rfl .nil) ⟨a, ns, rfl, hS, hl, fun _ => rfl⟩) fun r s' q => ?_
    match r, q with
    | .error e, q => obtain ⟨_, _, _, _, _, _, _, _, _, _, _, _, z⟩ := q; exact z.elim
    | .ok .next, q => exact False.elim q
    | .ok .brk, q => exact False.elim q
    | .ok .cont, q => exact False.elim q
    | .ok (.ret u), ⟨v, H', q1, q2, ub, hok', rv, qv⟩ =>
      have qv : v = .bl true := qv
      subst qv
      obtain rfl : u = Value.bool true := rv
      refine ⟨rfl, OldK.of_keep fun b o e => ?_, q1, q2⟩
      rcases hO b with z | ⟨ob, xs, _, z⟩
      · exact ub.keep b o e z (fun y => nomatch y) (fun y => nomatch y)
      · have z' := ub.frzs b ob _ z
        have h1 := (hok b _ z).1
        have h2 := (hok' b _ z').1
        rw [e] at h1
        cases h1
        exact h2
  have lu : us.length = ns.length := ii.length.symm ▸ rfl
  cases hk : K.lookup a with
  | some o =>
    have e := X a o hk
    rw [oa] at e
    cases e
    exact run (fun _ => none) (fun _ => .inl rfl) (.inr ⟨_, us.toArray, _, hk, rfl, rfl, rfl, by rw [List.size_toArray, lu]; exact Nat.le_trans hl hz, by simpa using vals_ints ii⟩) (fun _ _ z => nomatch z) (fun z => absurd rfl z)
  | none =>
    let H : Hp := fun b => if b = a then some (.frz { cls := .type "list", data := .seq us.toArray } (.lst (ns.map V.int))) else none
    have Ha : H a = some (.frz { cls := .type "list", data := .seq us.toArray } (.lst (ns.map V.int))) := if_pos rfl
    have Hn : ∀ b, b ≠ a → H b = none := fun b n => if_neg n
    refine run H (fun b => ?_) (.inl (.inr ⟨_, Ha⟩)) (fun b u z => ?_) fun _ => hk
    · by_cases n : b = a
      · exact .inr ⟨_, _, n, n ▸ Ha⟩
      · exact .inl (Hn b n)
    · by_cases n : b = a
      · subst n
        rw [Ha] at z
        cases z
        exact ⟨oa, by rw [List.length_map]; exact Nat.le_trans hl hz, us, _, vals_ints ii, oa⟩
      · rw [Hn b n] at z; cases z
theorem walk {l : PySem.W.OpenLaw} {k : Nat} {q : Program} {loose : List Str} {XP : (Str → Option Value) → Heap → Prop} {YP : World → Heap → Prop} {d : DefRec} {K : Params → PySem.W.Frag} (hn : l.most = some 63) (hdf : d.params.defaults = []) (hr : Room k callerA)
    (hY : ∀ (w : World) (h : Heap), YP w h → (K w.params).In h)
    (F : ∀ (w : World) (mg : Str → Option Value) (fa : Addr) (h : Heap), (K w.params).In h → h.Ns mainGlobals mg → mg d.name = some (.ref fa) →
      ∃ fd : FuncData, (∀ (s : Shared) (u : Value), BindsTo s fd ⟨[u], []⟩ [("script", u)]) ∧ ∀ base : Heap, (K w.params).In base → base.Ns mainGlobals mg → FnG l.prog w (K w.params) mg base (L2.CX l.prog w) k fa fd ["script"] (spLaw (K w.params))) :
    PySem.W.WalkO q loose XP YP l.row.toRowW d [] (fun f vs => PySem.call f vs) := by
  refine Att.attach_call hn hdf fun w s₀ s mg mb fa o pm cd doc a us ns G Y ho hd hcd hmg oa ii hlen hg => ?_
  obtain ⟨fd, hb, hF⟩ := F w mg fa _ (hY w _ Y) G.T.g hmg
  exact law_run (hY w _ Y) G.T.g G.T.b G.T.builtins G.T.nolimit hg oa ii hlen ⟨hr, rfl⟩ hF hb
end Sv

set_option Elab.async false
set_option linter.all false
set_option maxRecDepth 100000
namespace Sv
open PySem L2 PySem.Spec PyProof.Rows
/-! ## try with several clauses, some of them with a name -/
/-- a clause: the class, the slot of its name, what its suite does -/
structure Cl where
  c : Value
  sl : Option Nat
  ts : Addr → Value → Option Addr → TS
def offE (D : Ends) (i : Nat) : Ends := ⟨fun τ G => D.nx (τ.set i none) G, D.rt, fun τ G => D.bk (τ.set i none) G, fun τ G => D.ct (τ.set i none) G⟩
def wCl (K : PySem.W.Frag) (Wo : WX) (D : Ends) : List Cl → WX
  | [] => Wo
  | q :: r => fun cls d τ G => ∃ b, PySem.W.exmOne K cls q.c = some b ∧ (b = false → wCl K Wo D r cls d τ G) ∧ (b = true → ∀ a, G a = none → match q.sl with
    | none => q.ts a cls d D τ G
    | some i => q.ts a cls d (offE D i) (τ.set i (some (.ref a))) G)
inductive Hds (X : Cx) : List ExceptHandler → List Cl → Prop
  | nil : Hds X [] []
  | bare {x : Str} {c : Value} {ts : Addr → Value → Option Addr → TS} {st0 : Stmt} {sts : List Stmt} {pn pq : Pos} {hs : List ExceptHandler} {l : List Cl} (hc : Names X x c)
      (go : ∀ (a : Addr) (oe : Obj) (cls : Value) (d : Option Addr) (pins : List (Addr × Obj)), Zc cls d oe → (∃ vs, oe.data = .fields vs) → PSs (X.suite a ((a, oe) :: pins)) (st0 :: sts) (ts a cls d)) (r : Hds X hs l) :
      Hds X (.ExceptHandler (some (.Name x pn)) none (st0 :: sts) pq :: hs) (⟨c, none, ts⟩ :: l)
  | as {x n : Str} {i : Nat} {c : Value} {ts : Addr → Value → Option Addr → TS} {st0 : Stmt} {sts : List Stmt} {pn pq : Pos} {hs : List ExceptHandler} {l : List Cl} (hc : Names X x c) (hi : X.N[i]? = some n) (hln : X.env.kindOf n = some .local)
      (go : ∀ (a : Addr) (oe : Obj) (cls : Value) (d : Option Addr) (pins : List (Addr × Obj)), Zc cls d oe → (∃ vs, oe.data = .fields vs) → PSs (X.suite a ((a, oe) :: pins)) (st0 :: sts) (ts a cls d)) (r : Hds X hs l) :
      Hds X (.ExceptHandler (some (.Name x pn)) (some n) (st0 :: sts) pq :: hs) (⟨c, some i, ts⟩ :: l)
section
variable {X : Cx} {body : List Stmt} {h1 : ExceptHandler} {hs1 : List ExceptHandler} {l : List Cl} {pos : Pos} {tb : WX → TS} {Wo : WX}
theorem ps_tryG (hst : X.stack = X.env :: X.outer) (hf : X.env.frame = some X.env.locals) (hN : X.N.Nodup) (tk : Takes X Wo)
    (hb : ∀ (W : WX) (pn : List (Addr × Obj)) (xe : Value → Shared → Prop), Takes (X.tr pn xe) W → PSs (X.tr pn xe) body (tb W)) (hh : Hds X (h1 :: hs1) l) : PS X (.Try body (h1 :: hs1) [] [] pos) (fun D τ G => tb (wCl X.K Wo D l) D τ G) := by
  refine ⟨fun pins s τ G D I w0 => ?_⟩
  have ok := I.ok
  have fr : X.A.frames = some (X.env :: X.outer) := by rw [ok.frames, hst]
  let catch_ : Value → Shared → Prop := fun e s₁ => wpAny (model X.prog X.w) X.A (noteFrame e X.env) (fun _ s₂ => wpAny (model X.prog X.w) X.A (setFlight e none) (fun _ s₃ => wpAny (model X.prog X.w) X.A (handleBy e X.env (h1 :: hs1)) (SP X pins D) X.xe s₃) X.xe s₂) X.xe s₁
  have tkB : Takes (X.tr (X.pn ++ pins) catch_) (wCl X.K Wo D l) := by
    intro u s' xx
    obtain ⟨a, B, sI, pins', τ', G', cls, d, rfl, Jt, nb, up, sky, na, os, ag, w⟩ := xx
    have J : Inv X pins τ' G' sI := Jt.ofTry ok
    have sky' : Sky B (X.env :: X.outer) a (Zc cls d) X.env.locals s'.heap := by rw [← hst]; exact sky
    show wpAny (model X.prog X.w) X.A (noteFrame (.ref a) X.env) _ _ _
    refine Sky.land Zc.steady fr hf sky' fun hp fl upp => ?_
    have Jl : Inv X pins τ' G' { s' with heap := hp } := J.landed nb fl.1 (up.trans upp) os ag
    obtain ⟨oe, fv, e0, z0, d0⟩ := fl.there
    have off : a ∉ frs (X.env :: X.outer) := fun hm => by
      obtain ⟨_, o', e', hnf⟩ := fl.2.2.1.mem hm
      rw [e0] at e'
      cases e'
      exact hnf _ d0
    have nL : a ≠ X.env.locals := fun z => off (List.mem_filterMap.mpr ⟨X.env, List.mem_cons_self, by rw [hf, z]⟩)
    have nF : a ∉ X.fs := fun hm => by
      obtain ⟨e, he, q⟩ := List.mem_filterMap.mp hm
      exact off (List.mem_filterMap.mpr ⟨e, List.mem_cons_of_mem _ he, q⟩)
    have Sl := Jl.suite e0 d0 na nL nF
    have LT : PySem.W.Looks (model X.prog X.w) hp (typeOf (.ref a)) cls := fun A Q E s k q => wpAny_typeOf_ref (k _ _ e0) (by rw [z0.1]; exact q)
    have look : ∀ {x : Str} {c : Value} {np : Pos} {Q E : Value → Shared → Prop}, Names X x c → Q c { s' with heap := hp } → wpAny (model X.prog X.w) (X.A.mark (some (.ref a))) (eval (.Name x np) X.env) Q E { s' with heap := hp } := fun {x c np Q E} hc q => by
      obtain ⟨hg, hdbg, hm | ⟨hm, hv, hnn⟩⟩ := hc
      · exact ld_glob (X := X.suite a ((a, oe) :: (X.pn ++ pins))) Sl hg hm q hdbg
      · exact ld_blt (X := X.suite a ((a, oe) :: (X.pn ++ pins))) Sl hg hm hv q hnn hdbg
    -- the suite's start, and its end
    have enter : ∀ {st0 : Stmt} {sts : List Stmt} {ts : Addr → Value → Option Addr → TS} {τ2 : L2.St} {D' : Ends} {hq : Heap} {oq : Obj} {sq : Shared}, (∀ (a : Addr) (oe : Obj) (cls : Value) (d : Option Addr) (pins : List (Addr × Obj)), Zc cls d oe → (∃ vs, oe.data = .fields vs) → PSs (X.suite a ((a, oe) :: pins)) (st0 :: sts) (ts a cls d)) →
        Zc cls d oq → (∃ vs, oq.data = .fields vs) → Inv (X.suite a ((a, oq) :: (X.pn ++ pins))) [] τ2 G' sq → ts a cls d D' τ2 G' → wpAny (model X.prog X.w) (X.A.mark (some (.ref a))) (execs (st0 :: sts) X.env) (SP (X.suite a ((a, oq) :: (X.pn ++ pins))) [] D') (fun _ _ => False) sq :=
      fun {st0 sts ts τ2 D' hq oq sq} go z f S w => (go a oq cls d (X.pn ++ pins) z f).run [] sq τ2 G' D' S w
    have all : ∀ {hs' : List ExceptHandler} {l' : List Cl}, Hds X hs' l' → wCl X.K Wo D l' cls d τ' G' → wpAny (model X.prog X.w) X.A (handleBy (.ref a) X.env hs') (SP X pins D) X.xe { s' with heap := hp } := by
      intro hs' l' hk
      induction hk with
      | nil =>
        intro w
        obtain ⟨k1, k2, k3, oe', vs, T, oT, ts', he, hz, hd, hv1, hr⟩ := id fl
        refine wpAny_handleBy_nil (by
          unfold PySem.passOn
          refine wpAny_bind (wpAny_field he hd hv1 ?_)
          rw [if_neg (by simp : ¬ ((Value.ref T == Value.none) = true))]
          have out : wpAny (model X.prog X.w) X.A (setFlight (.ref a) X.env.frame) (fun _ s4 => wpAny (model X.prog X.w) X.A (throw (.ref a) : Sem Flow) (SP X pins D) X.xe s4) X.xe { s' with heap := hp } := by
            rw [hf]
            exact HandSPX.setFlight_upZ fl fun h4 hh4 up4 => wpAny_throw (tk _ _ ⟨a, B, sI, pins, τ', G', cls, d, rfl, J, nb, (up.trans upp).trans up4, .inr (.inr (by rw [hst]; exact hh4)), na, os, ag, w⟩)
          first
            | exact wpAny_bind (wpAny_pure (wpAny_bind out))
            | exact wpAny_bind out)
      | @bare x c ts st0 sts np pq hs2 l2 hc go r ih =>
        intro ⟨b, hb1, hno, hyes⟩
        refine wpAny_handleBy_cons (codeAny_handlers_test (look hc ((PySem.W.exm_one (M := model X.prog X.w) Jl.kIn LT hb1).here ?_))) (fun q => nomatch q)
        match b, hno, hyes with
        | false, hno, _ => exact ih (hno rfl)
        | true, _, hyes =>
          refine codeAny_handlers_suite (HandSPX.lands_againZ fl fun h4 fl4 up4 => ?_)
          have J4 : Inv X pins τ' G' { s' with heap := h4 } := J.landed nb fl4.1 ((up.trans upp).trans up4) os ag
          obtain ⟨oq, fq, eq, zq, dq⟩ := fl4.there
          refine wpAny_mono (enter (hq := h4) go zq ⟨_, dq⟩ (J4.suite eq dq na nL nF) (hyes rfl a na)) (fun f s6 hsp => ?_) fun _ _ z => z.elim
          match f, hsp with
          | .next, ⟨τ6, G6, S6, q6⟩ => exact ⟨_, _, S6.unsuite ok, q6⟩
          | .brk, ⟨τ6, G6, S6, q6⟩ => exact ⟨_, _, S6.unsuite ok, q6⟩
          | .cont, ⟨τ6, G6, S6, q6⟩ => exact ⟨_, _, S6.unsuite ok, q6⟩
          | .ret u, ⟨v6, τ6, G6, S6, r6, q6⟩ => exact ⟨_, _, _, S6.unsuite ok, r6, q6⟩
      | @as x n i c ts st0 sts np pq hs2 l2 hc hi hln go r ih =>
        intro ⟨b, hb1, hno, hyes⟩
        refine wpAny_handleBy_cons (codeAny_handlers_test (look hc ((PySem.W.exm_one (M := model X.prog X.w) Jl.kIn LT hb1).here ?_))) (fun q => nomatch q)
        match b, hno, hyes with
        | false, hno, _ => exact ih (hno rfl)
        | true, _, hyes =>
          refine codeAny_handlers_suite_as (HandSPX.lands_againZ fl fun h4 fl4 up4 => ?_)
          have J4 : Inv X pins τ' G' { s' with heap := h4 } := J.landed nb fl4.1 ((up.trans upp).trans up4) os ag
          obtain ⟨oq, fq, eq, zq, dq⟩ := fl4.there
          refine store_ok (X := X.suite a ((a, oq) :: (X.pn ++ pins))) (v := .ref a) (J4.suite eq dq na nL nF) hN hi (.inl hln) rfl (fun s5 S5 => ?_) (.inr hln)
          refine wpAny_mono (enter (hq := h4) go zq ⟨_, dq⟩ S5 (hyes rfl a na)) (fun f s6 hsp => ?_) fun _ _ z => z.elim
          have leave : ∀ {τ6 : L2.St} {G6 : Hp} {Q : Shared → Prop}, Inv (X.suite a ((a, oq) :: (X.pn ++ pins))) [] τ6 G6 s6 → (∀ s7, Inv X pins (τ6.set i none) G6 s7 → Q s7) → wpAny (model X.prog X.w) X.A (do bindName X.env n .none; unbindBehindTheSuite X.env n pq) (fun _ s7 => Q s7) X.xe s6 :=
            fun {τ6 G6 Q} S6 hq => gone_ok (S6.unsuite ok) hN hi hln hq
          match f, hsp with
          | .next, ⟨τ6, G6, S6, q6⟩ => exact leave S6 fun s7 J7 => ⟨_, _, J7, q6⟩
          | .brk, ⟨τ6, G6, S6, q6⟩ => exact leave S6 fun s7 J7 => ⟨_, _, J7, q6⟩
          | .cont, ⟨τ6, G6, S6, q6⟩ => exact leave S6 fun s7 J7 => ⟨_, _, J7, q6⟩
          | .ret u, ⟨v6, τ6, G6, S6, r6, q6⟩ => exact leave S6 fun s7 J7 => ⟨_, _, _, J7, r6, q6⟩
    exact all hh w
  refine wpAny_Try_except (wpAny_mono ((hb (wCl X.K Wo D l) (X.pn ++ pins) catch_ tkB).run [] s τ G D (I.toTry _) w0) (fun f s1 hsp => ?_) fun _ _ z => z)
  match f, hsp with
  | .next, ⟨τ', G', Jt, q⟩ => exact wpAny_execs_nil ⟨τ', G', Jt.ofTry ok, q⟩
  | .brk, ⟨τ', G', Jt, q⟩ => exact ⟨τ', G', Jt.ofTry ok, q⟩
  | .cont, ⟨τ', G', Jt, q⟩ => exact ⟨τ', G', Jt.ofTry ok, q⟩
  | .ret u, ⟨v, τ', G', Jt, r, q⟩ => exact ⟨v, τ', G', Jt.ofTry ok, r, q⟩
end
end Sv

set_option Elab.async false
set_option linter.all false
set_option maxRecDepth 100000
set_option maxHeartbeats 2000000
namespace PySem
namespace LowXT
open PySem.W PySem.Calls PyProof.Rows PySem.HandSPX
/-! ### the text of __init__ -/
def iA (p1 p2 : Pos) : Arguments := { posonlyargs := [], args := [{ arg := "self", annotation := none, pos := p1 }, { arg := "thing", annotation := none, pos := p2 }], vararg := none, kwonlyargs := [], kw_defaults := [], kwarg := none, defaults := [] }
def iB (q1 q2 q3 q4 : Pos) : List Stmt := [.Assign [.Attribute (.Name "self" q1) "thing" q2] (.Name "thing" q3) q4]
def iS : Scope := { kind := .function, names := [(PySem.Str.ofString "self", .local), (PySem.Str.ofString "thing", .local)], isGenerator := false, isCoroutine := false, more := [] }
/-- what the written part says of Low, at C, and of its __init__, at fI -/
structure LowTxtT (K : Frag) (mg : Str → Option Value) (cx qx : Str) (C fI : Addr) : Prop where
  gC : mg cx = some (.ref C)
  cls : ∃ nm q N bs bm sn sub ab col dd k0 k1 k2 k3 k5, K.lookup C = some (excClassObj nm q C N bs bm true sn sub ab col dd k0 k1 k2 k3 k5 "ValueError.__new__") ∧ refsVE bm = true
  sa : findIn K (.ref C) "__setattr__" = some (some (.builtin "object.__setattr__"))
  ga : findIn K (.ref C) "__getattribute__" = some (some (.builtin "BaseException.__getattribute__"))
  gg : findIn K (.ref C) "__getattr__" = some none
  noN : findIn K (.ref C) "thing" = some none
  iC : findIn K (.ref C) "__init__" = some (some (.ref fI))
  tC : typeIn K (.ref fI) = some (.type "function")
  kC : keepIn K (.ref C) = true
  exC : subIn K (.ref C) (.type "BaseException") = some true
  tyC : typeIn K (.ref C) = some (.type "type")
  hdC : hasDictIn K C = true
  te : exmOne K (.ref C) (.ref C) = some true
  fn : ∃ (oc : Value) (od : Option Addr) (doc pm : Value) (an : Option Addr) (cdv ct : Value) (osl : Array (Option Value)) (p1 p2 q1 q2 q3 q4 : Pos),
    K.lookup fI = some ⟨oc, od, .func (fnOf "__init__" qx (iA p1 p2) (iB q1 q2 q3 q4) iS .none .none doc pm an cdv ct), osl⟩ ∧ codeIn K cdv qx = true
theorem one_sizeT (v : Value) : [v].length ≤ sizeLine := by
  rw [sizeLine_eq]
  exact (by decide : 1 ≤ 16777216)
theorem kept_butT {K : Frag} {h h' : Heap} {x : Addr} (X : K.In h) (hx : K.lookup x = none) (k : ∀ b o, b ≠ x → h.get? b = some o → h'.get? b = some o) : K.In h' := fun a o e =>
  k a o (fun z => by rw [z, hx] at e; cases e) (X a o e)
theorem ldCT {M : Model} {s : Shared} {name : Str} {scope : Scope} {L a : Addr} {cd : Value} {m : Str → Option Value} {x : Str} {pos : Pos} {v : Value} {Q : Value → Shared → Prop} {A : Around} {E : Value → Shared → Prop} (hn : s.heap.Ns L m) (hv : m x = some v) (h : Q v s)
    (hk : scope.kind = .function := by rfl) (hl : (envOfC name scope L a cd).kindOf x = some .local := by rfl) (hd : (x == ("__debug__" : Str)) = false := by decide) :
    wpAny M A (eval (.Name x pos) (envOfC name scope L a cd)) Q E s := wpAny_Name (wpAny_loadName_local hk hl hn hv h) hd
/-- what __init__ leaves of a fresh exception at x -/
structure InitEndT (h h' : Heap) (x C dx t1 : Addr) (v : Value) : Prop where
  keep : ∀ b o, b ≠ x → h.get? b = some o → h'.get? b = some o
  obj : h'.get? x = some { cls := .ref C, dict := some dx, data := .fields #[.ref t1, .none, .none, .none, .bool false, .none] }
  dbig : h.objs.size ≤ dx
  dne : dx ≠ x
  ns : h'.Ns1 dx (fun y => if y = "thing" then some v else none)
/-- a made Low -/
structure OwnMadeT (h h' : Heap) (e C d : Addr) (v : Value) : Prop where
  keep : ∀ b o, h.get? b = some o → h'.get? b = some o
  new : h.objs.size ≤ e
  obj : ∃ oe vs, h'.get? e = some oe ∧ oe.cls = .ref C ∧ oe.dict = some d ∧ oe.data = .fields vs ∧ vs[1]? = some .none
  dbig : h.objs.size ≤ d
  dne : d ≠ e
  ns : h'.Ns1 d (fun y => if y = "thing" then some v else none)
section
variable {prog : Program} {w : World} {A : Around} {E : Value → Shared → Prop} {R : Result → Shared → Prop} {s : Shared} {K : Frag} {mg : Str → Option Value} {cx qx : Str} {C fI : Addr}
theorem low_initT (T : LowTxtT K mg cx qx C fI) {x t0 : Addr} {v : Value} (X : K.In s.heap) (hlim : s.heap.NoLimit) (hx : s.heap.get? x = some (excO C t0)) (hnx : K.lookup x = none) (hroom : A.depth < recursionLimit)
    (hq : ∀ h' tk dx, InitEndT s.heap h' x C dx t0 v → R (.ok (.ret .none)) { s with heap := h', toks := tk }) :
    codeAny (model prog w) A (.call (.ref fI) ⟨[.ref x, v], []⟩) R s := by
  obtain ⟨oc, od, doc, pm, an, cdv, ct, osl, p1, p2, q1, q2, q3, q4, ho, hcd⟩ := T.fn
  obtain ⟨nm, q, N, bs, bm, sn, sub, ab, col, dd, k0, k1, k2, k3, k5, hC, hbm⟩ := T.cls
  have hcl : clsIn K C = some { name := nm, bases := bs, mro := .ref C :: bm, ns := N, qualname := q, hasDict := true, slotNames := sn, subclasses := sub, abstract := ab, collection := col, hasDel := false } := by unfold clsIn; rw [hC] <;> rfl
  refine Att.call_fn (binds := [("self", .ref x), ("thing", v)]) X hlim ho hcd hroom (BindsTo.of_eq (by first | rfl | with_unfolding_all rfl)) (by first | rfl | decide | with_unfolding_all rfl) (fun s₁ IC => ?_) rfl rfl rfl
  obtain ⟨h₁, tk₁, rfl⟩ := IC.toInCall.same
  have k : ∀ b o, s.heap.get? b = some o → h₁.get? b = some o := IC.toInCall.keep
  have hn := IC.toInCall.ns
  have hxL : s.heap.objs.size ≠ x := Nat.ne_of_gt (Heap.lt_size hx)
  have X₁ : K.In h₁ := X.keeps k
  have hx₁ := k _ _ hx
  -- self.by = by
  show wpAny _ _ (execs _ _) _ _ _
  refine wpAny_execs_cons (plainObj_wpAny_Assign_Attribute ?_)
  refine ldCT (v := v) hn (by first | rfl | with_unfolding_all rfl | kernel_rfl) (ldCT (v := .ref x) hn (by first | rfl | with_unfolding_all rfl | kernel_rfl) ?_)
  refine set_plain X₁ (ox := excO C t0) (od := none) ⟨hx₁, rfl, rfl, trivial⟩ T.sa ?_
  refine exc_osa X₁ hx₁ hcl (show refsVE (.ref C :: bm) = true from hbm) rfl T.noN (fun h₃ tk₃ dx k₃ dn dne hx₃ hn₃ => ?_)
  show wpAny _ _ (execs _ _) _ _ _
  have z : s.heap.objs.size < h₁.objs.size := hn.lt
  exact wpAny_execs_nil (hq h₃ tk₃ dx ⟨fun b o hb e => k₃ b o hb (k b o e), hx₃, Nat.le_of_lt (Nat.lt_of_lt_of_le z dn), dne, hn₃⟩)
theorem low_madeT (T : LowTxtT K mg cx qx C fI) {v : Value} (X : K.In s.heap) (hlim : s.heap.NoLimit) (hroom : A.depth + 1 < recursionLimit)
    (hq : ∀ h' tk e d, OwnMadeT s.heap h' e C d v → R (.ok (.ret (.ref e))) { s with heap := h', toks := tk }) :
    codeAny (model prog w) A (.call (.ref C) ⟨[v], []⟩) R s := by
  obtain ⟨nm, q, N, bs, bm, sn, sub, ab, col, dd, k0, k1, k2, k3, k5, hC, hbm⟩ := T.cls
  obtain ⟨hp, g, dr, tk, os⟩ := s
  have k : ∀ b o, hp.get? b = some o → ((hp.push (kdv_tup [v])).push (excO C hp.objs.size)).get? b = some o := fun b o e => Heap.get?_push_of_some _ (Heap.get?_push_of_some _ e)
  have hget : ((hp.push (kdv_tup [v])).push (excO C hp.objs.size)).get? (hp.objs.size + 1) = some (excO C hp.objs.size) := by heap_get
  have hnx : K.lookup (hp.objs.size + 1) = none := by
    cases e : K.lookup (hp.objs.size + 1) with
    | none => rfl
    | some o =>
      have z : hp.get? (hp.objs.size + 1) = some o := X _ _ e
      exact absurd (Nat.lt_of_succ_lt (Heap.lt_size z)) (Nat.lt_irrefl _)
  refine call_own F.excBase_ValueError (fun X => refsVE_contains X bm hbm) (X _ _ hC) (looks_findIn X T.iC) (fun self => bind_fn X self T.tC) (one_sizeT v) ?_
  refine low_initT (s := ⟨(hp.push (kdv_tup [v])).push (excO C hp.objs.size), g, dr, tk, os⟩) T (X.keeps k) (hlim.keeps k) hget hnx ?_ fun h' tk' dx ⟨k', hx, dn, dne, hns⟩ => ?_
  · show A.depth + 1 < recursionLimit
    exact hroom
  · have old : ∀ b o, hp.get? b = some o → h'.get? b = some o := fun b o e => k' b o (Nat.ne_of_lt (Nat.lt_succ_of_lt (Heap.lt_size e))) (k b o e)
    have z : hp.objs.size + 1 + 1 ≤ dx := by
      first
        | (simpa only [Heap.size_push] using dn)
        | exact dn
        | (have q := dn; rw [Heap.size_push, Heap.size_push] at q; exact q)
    exact ⟨rfl, hq h' tk' (hp.objs.size + 1) dx ⟨old, Nat.le_succ _, ⟨_, _, hx, rfl, rfl, rfl, rfl⟩, Nat.le_trans (Nat.le_trans (Nat.le_succ _) (Nat.le_succ _)) z, dne, hns⟩⟩
end
end LowXT
end PySem
namespace L2
open PySem PySem.Spec PyProof.Rows
theorem relO_lowT {v : V} {v' : Value} (r : RelV v v') (f : Str) : RelO (List.lookup f [(("thing" : Str), v)]) (if f = "thing" then some v' else none) := by
  by_cases hw : f = "thing"
  · subst hw
    rw [if_pos rfl]
    have q : List.lookup ("thing" : Str) [(("thing" : Str), v)] = some v := by simp [List.lookup]
    rw [q]
    exact r
  · rw [if_neg hw]
    have qw : (f == ("thing" : Str)) = false := by simpa using hw
    have q2 : List.lookup f [(("thing" : Str), v)] = none := by simp [List.lookup, qw]
    rw [q2]
    trivial
section
variable {X : Cx} {cx qx : Str} {C fI : Addr}
/-- Low(e) -/
def tMkLowT (C : Addr) (ta : TA) : St → Hp → XK → Prop := fun σ H Q => ta σ H fun vs H1 => ∃ v, vs = [v] ∧ ∀ d, H1 d = none → Q (.ref C) (some d) (upd H1 d (.xd [(("thing" : Str), v)]))
theorem pmk_lowT {a : Expr} {ta : TA} {p pos : Pos} {k : Nat} (T : PySem.LowXT.LowTxtT X.K X.mg cx qx C fI) (hr : Room k X.A) (ha : PA X [a] ta) (hg : Gl X cx) (hdb : (cx == ("__debug__" : Str)) = false := by decide)
    (he : starEach (a :: []) X.env = (false, eval a X.env) :: starEach [] X.env := by rfl) (hpl : (backTo pos (starEach [] X.env)).any (·.1) = false := by rfl) :
    PMk X (.Call (.Name cx p) [a] [] pos) (tMkLowT C ta) := by
  intro pins s σ H Q I h
  refine wpAny_Call_Name_kw (ld_glob I hg T.gC ?_ hdb)
  refine PySem.W.callWith_K (h₀ := X.base) I.ok.mod.kin T.kC (thn (ha.run pos pins s σ H _ I h) fun us s1 hh => ?_) he hpl
  obtain ⟨vs, H1, I1, r1, v, ev, q1⟩ := hh
  subst ev
  refine ⟨I1.kIn, ?_⟩
  cases r1 with
  | cons rv rn =>
    rename_i v' us'
    cases rn
    show wpAny _ _ (call (.ref C) [v']) _ _ _
    have hlim := I1.nolimit
    obtain ⟨hp, g, dr, tk, os⟩ := s1
    refine wpAny_call (PySem.LowXT.low_madeT T I1.kIn hlim (by have := hr.dp; omega) fun h' tk' e d M => ?_)
    show MkP X pins σ Q (.ref e) ⟨h', g, dr, tk', os⟩
    obtain ⟨oe, fv, hoe, hc, hd, hdat, h1⟩ := M.obj
    have hns := M.ns
    obtain ⟨G', g1, g2⟩ := restrict h' fun b => decide (b ≠ e)
    have gk : ∀ b, b ≠ e → G'.get? b = h'.get? b := fun b hb => g1 b (decide_eq_true hb)
    have ge : G'.get? e = none := g2 e (by simp)
    have old : ∀ b o, hp.get? b = some o → G'.get? b = some o := fun b o q => (gk b (Nat.ne_of_lt (Nat.lt_of_lt_of_le (Heap.lt_size q) M.new))).trans (M.keep b o q)
    have ob : ObjOk X.prog X.w (upd H1 d (.xd [(("thing" : Str), v)])) G' d (.xd [(("thing" : Str), v)]) :=
      ⟨_, hns.at (fun o q => (gk d M.dne).trans q), fun f => relO_lowT rv f⟩
    have J : Inv X pins σ (upd H1 d (.xd [(("thing" : Str), v)])) ⟨G', g, dr, tk', os⟩ := I1.laid (t' := tk') old M.dbig ob
    refine ⟨e, oe, fv, ⟨G', g, dr, tk', os⟩, _, .ref C, some d, rfl, J, fun b o q => ?_, ge, hoe, ⟨hc, hd⟩, hdat, h1, ?_, rfl, I1.bare, raises_own T.exC T.tyC, q1 d (I1.hok.fresh M.dbig)⟩
    · by_cases hb : b = e
      · have q' : G'.get? b = some o := q
        rw [hb, ge] at q'; cases q'
      · exact (gk b hb).symm.trans q
    · rw [upd_ne (Ne.symm M.dne)]
      exact I1.hok.fresh M.new
/-- raise Low(e) -/
def tRaiseLowT (C : Addr) (W : WX) (ta : TA) : TS := fun _ σ H => tMkLowT C ta σ H fun cls d H' => W cls d σ H'
theorem ps_raiseLowT {a : Expr} {ta : TA} {W : WX} {p pos pos2 : Pos} {k : Nat} (hc : X.calm = true) (T : PySem.LowXT.LowTxtT X.K X.mg cx qx C fI) (hr : Room k X.A) (tk : Takes X W) (ha : PA X [a] ta) (hg : Gl X cx) (hdb : (cx == ("__debug__" : Str)) = false := by decide)
    (he : starEach (a :: []) X.env = (false, eval a X.env) :: starEach [] X.env := by rfl) (hpl : (backTo pos (starEach [] X.env)).any (·.1) = false := by rfl) :
    PS X (.Raise (some (.Call (.Name cx p) [a] [] pos)) none pos2) (tRaiseLowT C W ta) := ps_raise hc tk (pmk_lowT T hr ha hg hdb he hpl)
/-- low.by, low the exception that the suite holds (at a; its class cls, its dict d) -/
def tByLowT (C : Addr) (a : Addr) (cls : Value) (d : Option Addr) (te : TE) : TE := fun σ H Q => te σ H fun x H1 => x = .ref a ∧ cls = .ref C ∧ ∃ (dd : Addr) (v : V), d = some dd ∧ H1 dd = some (.xd [(("thing" : Str), v)]) ∧ Q v H1
theorem pe_byLowT {a : Addr} {oe : Obj} {cls : Value} {d : Option Addr} {pn : List (Addr × Obj)} {e : Expr} {te : TE} {pos : Pos} (T : PySem.LowXT.LowTxtT X.K X.mg cx qx C fI) (hz : Zc cls d oe) (hf : ∃ vs, oe.data = .fields vs) (he : PE (X.suite a ((a, oe) :: pn)) e te)
    (hb : attributeBase e "thing" X.env (eval e X.env) = eval e X.env := by rfl) :
    PE (X.suite a ((a, oe) :: pn)) (.Attribute e "thing" pos) (tByLowT C a cls d te) := by
  refine ⟨fun pins s σ H Q I h => ?_⟩
  refine attr_of hb (thn (he.run pins s σ H _ I h) fun u s1 hh => ?_)
  obtain ⟨x, H1, I1, rx, ex, ec, dd, v, ed, ea, q⟩ := hh
  subst ex
  obtain rfl : u = Value.ref a := rx
  subst ec
  subst ed
  obtain ⟨ha, _⟩ := I1.pin (a, oe) (List.mem_append_left _ List.mem_cons_self)
  obtain ⟨vs, hd⟩ := hf
  have hx : ObjOk X.prog X.w H1 s1.heap dd (.xd [(("thing" : Str), v)]) := I1.hok dd _ ea
  obtain ⟨mA, hns, hr⟩ := hx
  obtain ⟨od, ho, hl⟩ := lookIn_ns hns
  have l : List.lookup ("thing" : Str) [(("thing" : Str), v)] = some v := by simp [List.lookup]
  obtain ⟨u, hu, ru⟩ := RelO.some_of (v := v) (o := mA "thing") (by rw [← l]; exact hr "thing")
  have J : PySem.W.InstAt s1.heap a oe C (some od) := ⟨ha, hz.1, by unfold PySem.W.notCls; rw [hd] <;> rfl, by rw [hz.2]; exact ho⟩
  exact HandSPX.exc_get I1.kIn J T.ga T.gg T.exC (PySem.W.findObj_own T.hdC T.noN rfl (by rw [hl, hu])) (handed_of ru) ⟨v, H1, I1.tok _, ru, q⟩
end
end L2

set_option Elab.async false
set_option linter.all false
set_option maxRecDepth 100000
namespace Sv
open PySem L2 PyProof.Rows
/-! ## raise, try -/
/-- an own class of errors with the one field thing -/
structure ExT (K : PySem.W.Frag) (mg : Str → Option Value) (cx : Str) : Prop where
  ex : ∃ (qx : Str) (C fI : Addr), PySem.LowXT.LowTxtT K mg cx qx C fI
def raiseO (cx fl : Str) (ga : M (List Dat)) : En → O := fun ρ => (ga ρ).toO fun ds ρ' => match ds with
  | [d] => .err cx [(fl, d)] ρ'
  | _ => .stuck
section
variable {X : Cx} {W : WX} {a : Expr} {ga : M (List Dat)} {p pos pos2 : Pos} {cx : Str} {k : Nat}
theorem ds_raiseT (T : ExT X.K X.mg cx) (hc : X.calm = true) (hr : RoomG k X.A) (tk : Takes X W) (ha : DA X W [a] ga) (hg : Gl X cx) (hdb : (cx == ("__debug__" : Str)) = false := by decide)
    (he : starEach (a :: []) X.env = (false, eval a X.env) :: starEach [] X.env := by rfl) (hpl : (backTo pos (starEach [] X.env)).any (·.1) = false := by rfl) :
    DS X W (.Raise (some (.Call (.Name cx p) [a] [] pos)) none pos2) (raiseO cx "thing" ga) := by
  obtain ⟨qx, C, fI, T⟩ := T.ex
  refine PS.imp (ps_raiseLowT hc T hr.1 tk ha hg hdb he hpl) fun D σ H ⟨z, H0, ρ, r, q⟩ => ⟨z, H0, ρ, r, (RunS.part q).mono fun ds H1 G1 ρ1 r1 s1 q1 vs hv => ?_⟩
  match ds, vs, hv, q1 with
  | [d], [v], .cons h1 .nil, q1 =>
    refine ⟨v, rfl, fun dx hdx => ?_⟩
    exact q1 (.ref C) (some dx) σ _ G1 (r1.new' _ hdx) (Same.refl _) ⟨C, T.gC, rfl, [("thing", v)], upd_same, rfl, .cons h1 .nil⟩
end
/-- which class is beneath which -/
def TabOk (K : PySem.W.Frag) (mg : Str → Option Value) (tab : List (Str × Str × Bool)) : Prop := ∀ q ∈ tab, ∀ C D : Addr, mg q.1 = some (.ref C) → mg q.2.1 = some (.ref D) → PySem.W.exmOne K (.ref C) (.ref D) = some q.2.2
theorem tab_nil {K : PySem.W.Frag} {mg : Str → Option Value} : TabOk K mg [] := fun _ h => nomatch h
theorem tab_cons {K : PySem.W.Frag} {mg : Str → Option Value} {tab : List (Str × Str × Bool)} {x y : Str} {b : Bool} {C D : Addr} (h1 : mg x = some (.ref C)) (h2 : mg y = some (.ref D)) (h : PySem.W.exmOne K (.ref C) (.ref D) = some b) (r : TabOk K mg tab) : TabOk K mg ((x, y, b) :: tab) := fun q hq C' D' e1 e2 => by
  rcases List.mem_cons.mp hq with e | e
  · subst e
    rw [h1] at e1; rw [h2] at e2
    cases e1; cases e2
    exact h
  · exact r q e C' D' e1 e2
def tabAt : List (Str × Str × Bool) → Str → Str → Option Bool
  | [], _, _ => none
  | q :: r, x, y => if q.1 = x ∧ q.2.1 = y then some q.2.2 else tabAt r x y
theorem tabAt_ok {K : PySem.W.Frag} {mg : Str → Option Value} {x y : Str} {b : Bool} {C D : Addr} (h1 : mg x = some (.ref C)) (h2 : mg y = some (.ref D)) : ∀ {tab : List (Str × Str × Bool)}, TabOk K mg tab → tabAt tab x y = some b → PySem.W.exmOne K (.ref C) (.ref D) = some b
  | [], _, e => by cases e
  | q :: r, t, e => by
    unfold tabAt at e
    split at e
    · rename_i h
      cases e
      exact t q List.mem_cons_self C D (by rw [h.1]; exact h1) (by rw [h.2]; exact h2)
    · exact tabAt_ok h1 h2 (fun q hq => t q (List.mem_cons_of_mem _ hq)) e
structure Clo where
  cn : Str
  sl : Option Nat
  g : Str → List (Str × Dat) → En → O
def offO (i : Nat) (o : O) : O := match o with
  | .nxt ρ => .nxt (ρ.set i .un)
  | .brk ρ => .brk (ρ.set i .un)
  | .ctn ρ => .ctn (ρ.set i .un)
  | .ret d ρ => .ret d ρ
  | .new ds ρ => .new ds ρ
  | _ => .stuck
def noErr (o : O) : O := match o with
  | .err _ _ _ => .stuck
  | o => o
def catchO (tab : List (Str × Str × Bool)) : List Clo → Str → List (Str × Dat) → En → O
  | [], cn, fs, ρ => .err cn fs ρ
  | q :: r, cn, fs, ρ => match tabAt tab cn q.cn with
    | some true => (match q.sl with
      | none => noErr (q.g cn fs ρ)
      | some i => if isUn ρ i = true then offO i (q.g cn fs ρ) else .stuck)
    | some false => catchO tab r cn fs ρ
    | none => .stuck
def tryO (tab : List (Str × Str × Bool)) (body : En → O) (cls : List Clo) : En → O := fun ρ => match body ρ with
  | .err cn fs ρ' => catchO tab cls cn fs ρ'
  | o => o
/-- a suite's reading: the exception it handles is at a, of the class cls, its fields in the dict d -/
def tSx (c : Cc) (sl : Option Nat) (g : Str → List (Str × Dat) → En → O) (a : Addr) (cls : Value) (d : Option Addr) : TS := fun D σ H => ∃ (x : Fx) (H0 : Hp) (ρ : En) (cn : Str) (fs : List (Str × Dat)), Rel c.K x σ H H0 ρ ∧ XAt c H H0 cn fs cls d ∧
  (∀ i, sl = some i → σ[i]? = some (some (.ref a)) ∧ ρ[i]? = some .un) ∧ RunS c x H0 (g cn fs ρ) D
def DSu (X : Cx) (sl : Option Nat) (sts : List Stmt) (g : Str → List (Str × Dat) → En → O) : Prop := ∀ (a : Addr) (oe : Obj) (cls : Value) (d : Option Addr) (pins : List (Addr × Obj)), Zc cls d oe → (∃ vs, oe.data = .fields vs) → PSs (X.suite a ((a, oe) :: pins)) sts (tSx (cc X W0) sl g a cls d)
theorem su_plain {X : Cx} {sts : List Stmt} {f : En → O} {sl : Option Nat} (h : ∀ (a : Addr) (pins : List (Addr × Obj)), DB (X.suite a pins) W0 sts f) : DSu X sl sts (fun _ _ => f) := fun a oe cls d pins _ _ => PSs.imp (h a _) fun D σ H ⟨x, H0, ρ, cn, fs, r, _, _, q⟩ => ⟨x, H0, ρ, r, q⟩
/-- the clauses as they stand in the text -/
inductive DHs (X : Cx) : List ExceptHandler → List Clo → Prop
  | nil : DHs X [] []
  | bare {x : Str} {C : Addr} {g : Str → List (Str × Dat) → En → O} {st0 : Stmt} {sts : List Stmt} {pn pq : Pos} {hs : List ExceptHandler} {l : List Clo} (hg : Gl X x) (hd : (x == ("__debug__" : Str)) = false) (hm : X.mg x = some (.ref C)) (go : DSu X none (st0 :: sts) g) (r : DHs X hs l) :
      DHs X (.ExceptHandler (some (.Name x pn)) none (st0 :: sts) pq :: hs) (⟨x, none, g⟩ :: l)
  | as (i : Nat) {x n : Str} {C : Addr} {g : Str → List (Str × Dat) → En → O} {st0 : Stmt} {sts : List Stmt} {pn pq : Pos} {hs : List ExceptHandler} {l : List Clo} (hg : Gl X x) (hd : (x == ("__debug__" : Str)) = false) (hm : X.mg x = some (.ref C)) (hi : X.N[i]? = some n) (hln : X.env.kindOf n = some .local)
      (go : DSu X (some i) (st0 :: sts) g) (r : DHs X hs l) : DHs X (.ExceptHandler (some (.Name x pn)) (some n) (st0 :: sts) pq :: hs) (⟨x, some i, g⟩ :: l)
section
variable {X : Cx} {W : WX} {body : List Stmt} {h1 : ExceptHandler} {hs1 : List ExceptHandler} {l : List Clo} {pos : Pos} {fb : En → O} {tab : List (Str × Str × Bool)}
theorem dhs_cl : ∀ {hs : List ExceptHandler} {l : List Clo}, DHs X hs l → ∃ l' : List Cl, Hds X hs l' ∧ ∀ (D : Ends) (x : Fx) (H0 : Hp) (tb : TabOk X.K X.mg tab) (cn : Str) (fs : List (Str × Dat)) (ρ : En), RunS (cc X W) x H0 (catchO tab l cn fs ρ) D →
      ∀ cls d σ H H1, Rel X.K x σ H H1 ρ → Same H0 H1 → XAt (cc X W) H H1 cn fs cls d → wCl X.K W D l' cls d σ H
  | _, _, .nil => ⟨[], .nil, fun D x H0 tb cn fs ρ q cls d σ H H1 r s xa => q cls d σ H H1 r s xa⟩
  | _, _, .bare (x := y) (C := C) (g := g) hg hd hm go rest => by
    obtain ⟨l', hl, k⟩ := dhs_cl rest
    refine ⟨_, .bare (c := .ref C) ⟨hg, hd, .inl hm⟩ go hl, fun D x H0 tb cn fs ρ q cls d σ H H1 r s xa => ?_⟩
    unfold catchO at q
    dsimp only at q
    obtain ⟨C', e1, e2, e3⟩ := id xa
    subst e2
    cases ht : tabAt tab cn y with
    | none => rw [ht] at q; exact q.elim
    | some b =>
      rw [ht] at q
      refine ⟨b, tabAt_ok e1 hm tb ht, fun hb => ?_, fun hb a ha => ?_⟩
      · subst hb
        exact k D x H0 tb cn fs ρ q _ d σ H H1 r s xa
      · subst hb
        refine ⟨x, H1, ρ, cn, fs, r, xa.cast rfl rfl, (fun i z => by cases z), ?_⟩
        have q := RunS.up q s
        cases eg : g cn fs ρ <;> rw [eg] at q <;> first | exact q | exact q.elim
  | _, _, .as i (x := y) (C := C) (g := g) hg hd hm hi hln go rest => by
    obtain ⟨l', hl, k⟩ := dhs_cl rest
    refine ⟨_, .as (c := .ref C) ⟨hg, hd, .inl hm⟩ hi hln go hl, fun D x H0 tb cn fs ρ q cls d σ H H1 r s xa => ?_⟩
    unfold catchO at q
    dsimp only at q
    obtain ⟨C', e1, e2, e3⟩ := id xa
    subst e2
    cases ht : tabAt tab cn y with
    | none => rw [ht] at q; exact q.elim
    | some b =>
      rw [ht] at q
      refine ⟨b, tabAt_ok e1 hm tb ht, fun hb => ?_, fun hb a ha => ?_⟩
      · subst hb
        exact k D x H0 tb cn fs ρ q _ d σ H H1 r s xa
      · subst hb
        dsimp only at q
        by_cases hu : isUn ρ i = true
        · rw [if_pos hu] at q
          have eu := isUn_eq hu
          have hio : x.io i = none := r.noio fun ds z => by rw [eu] at z; cases z
          have r2 : Rel X.K x (σ.set i (some (.ref a))) H H1 (ρ.set i .un) := r.setu fun ds z => by rw [eu] at z; cases z
          have el : ρ.set i .un = ρ := by
            obtain ⟨hlt, e⟩ := List.getElem?_eq_some_iff.mp eu
            rw [← e]; exact List.set_getElem_self hlt
          rw [el] at r2
          have hlt : i < σ.length := by rw [← r.len]; exact (List.getElem?_eq_some_iff.mp eu).1
          refine ⟨x, H1, ρ, cn, fs, r2, xa.cast rfl rfl, (fun j z => by cases z; exact ⟨List.getElem?_set_self hlt, eu⟩), ?_⟩
          have q := RunS.up q s
          have nio : ∀ {σ' : L2.St} {H' H2 : Hp} {ρ' : En}, Rel X.K x σ' H' H2 ρ' → ∀ ds, ρ'[i]? ≠ some (.ino ds) := fun r' ds z => by
            obtain ⟨b, e, _⟩ := r'.ino i ds z
            rw [hio] at e; cases e
          cases eg : g cn fs ρ with
          | nxt ρ' => rw [eg] at q; exact fun σ' H' H2 r' s' => q _ H' H2 (r'.setu (nio r')) s'
          | brk ρ' => rw [eg] at q; exact fun σ' H' H2 r' s' => q _ H' H2 (r'.setu (nio r')) s'
          | ctn ρ' => rw [eg] at q; exact fun σ' H' H2 r' s' => q _ H' H2 (r'.setu (nio r')) s'
          | ret _ _ => rw [eg] at q; exact q
          | new _ _ => rw [eg] at q; exact q
          | err _ _ _ => rw [eg] at q; exact q.elim
          | stuck => rw [eg] at q; exact q.elim
        · rw [if_neg hu] at q; exact q.elim
theorem ds_try (hst : X.stack = X.env :: X.outer) (hf : X.env.frame = some X.env.locals) (hN : X.N.Nodup) (tk : Takes X W) (tb : TabOk X.K X.mg tab)
    (hb : ∀ (W' : WX) (pn : List (Addr × Obj)) (xe : Value → Shared → Prop), Takes (X.tr pn xe) W' → DB (X.tr pn xe) W' body fb) (hh : DHs X (h1 :: hs1) l) : DS X W (.Try body (h1 :: hs1) [] [] pos) (tryO tab fb l) := by
  obtain ⟨l', hl, k⟩ := dhs_cl (W := W) (tab := tab) hh
  refine PS.imp (ps_tryG (tb := fun W' => tS (cc X W') fb) hst hf hN tk hb hl) fun D σ H ⟨x, H0, ρ, r, q⟩ => ⟨x, H0, ρ, r, ?_⟩
  unfold tryO at q
  cases e : fb ρ with
  | err cn fs ρ' => rw [e] at q; exact fun cls d σ' H' H1 r' s' xa => k D x H0 tb cn fs ρ' q cls d σ' H' H1 r' s' (xa.cast rfl rfl)
  | nxt _ => rw [e] at q; exact q
  | brk _ => rw [e] at q; exact q
  | ctn _ => rw [e] at q; exact q
  | ret _ _ => rw [e] at q; exact q
  | new _ _ => rw [e] at q; exact q
  | stuck => rw [e] at q; exact q
end
end Sv

set_option Elab.async false
set_option linter.all false
set_option maxRecDepth 100000
namespace Sv
open PySem L2 PyProof.Rows
/-! ## str of data -/
mutual
/-- what can be shown here: no instance, no dict but {} -/
def Dat.shw : Dat → Bool
  | .non => true
  | .bl _ => true
  | .int i => decide (i.natAbs.log2 < 1920)
  | .str x => x.cps.toList.all fun c => decide (c < 4294967296)
  | .tup ds => Dat.shws ds
  | .lst ds => Dat.shws ds
  | .scr _ => false
  | .dct ks ds => ks.isEmpty && ds.isEmpty
  | .ins _ _ _ => false
def Dat.shws : List Dat → Bool
  | [] => true
  | d :: ds => Dat.shw d && Dat.shws ds
end
mutual
/-- at most so many signs -/
def Dat.wid : Dat → Nat
  | .non => 4
  | .bl _ => 5
  | .int _ => 1921
  | .str x => 10 * x.cps.size + 2
  | .tup ds => Dat.wids ds + 3
  | .lst ds => Dat.wids ds + 2
  | .scr _ => 0
  | .dct _ _ => 2
  | .ins _ _ _ => 0
def Dat.wids : List Dat → Nat
  | [] => 0
  | d :: ds => Dat.wid d + 2 + Dat.wids ds
end
mutual
def Dat.dep : Dat → Nat
  | .tup ds => Dat.deps ds + 1
  | .lst ds => Dat.deps ds + 1
  | .dct _ _ => 1
  | .non => 0
  | .bl _ => 0
  | .int _ => 0
  | .str _ => 0
  | .scr _ => 0
  | .ins _ _ _ => 0
def Dat.deps : List Dat → Nat
  | [] => 0
  | d :: ds => max (Dat.dep d) (Dat.deps ds)
end
theorem textFrom_le : ∀ (ts : List Str) (k : Nat) (acc : Str), (textFrom k acc ts).length ≤ acc.length + piled ts
  | [], k, acc => Nat.le_refl _
  | t :: r, k, acc => by
    show (textFrom (k + 1) (acc ++ (if k > 0 then ", " else "" : String) ++ t) r).length ≤ _
    refine Nat.le_trans (textFrom_le r (k + 1) _) ?_
    rw [strLen_append, strLen_append]
    have : (Str.ofString (if k > 0 then ", " else "" : String)).length ≤ 2 := by
      by_cases h : k > 0
      · rw [if_pos h]; decide
      · rw [if_neg h]; decide
    unfold piled
    simp only [List.map_cons, List.sum_cons] at *
    omega

theorem list_le (ts : List Str) : (listText ts).length ≤ piled ts + 2 := by
  show (textFrom 0 "[" ts ++ "]").length ≤ _
  rw [strLen_append]
  have h := textFrom_le ts 0 "["
  have e1 : (("[" : Str)).length = 1 := rfl
  have e2 : (("]" : Str)).length = 1 := rfl
  omega
theorem join_le (ts : List Str) : (Str.join ", " ts).length ≤ piled ts := by
  cases ts with
  | nil => decide
  | cons t r => have h := join_length_add (t :: r) (by simp); omega
theorem tup_le (ts : List Str) : (tupleText ts).length ≤ piled ts + 3 := by
  unfold tupleText
  rw [strLen_append, strLen_append]
  have h := join_le ts
  have e1 : (("(" : Str)).length = 1 := rfl
  have e2 : (Str.ofString (if ts.length == 1 then ",)" else ")" : String)).length ≤ 2 := by
    by_cases h : (ts.length == 1) = true
    · rw [if_pos h]; decide
    · rw [if_neg h]; decide
  omega
mutual
theorem shown_le : ∀ {d : Dat}, d.shw = true → d.py.shown.length ≤ d.wid
  | .non, _ => by show ("None" : Str).length ≤ 4; decide
  | .bl b, _ => by cases b <;> decide
  | .int i, h => by
    exact int_text_len_1921 (of_decide_eq_true h)
  | .str x, h => by
    show (reprText x).length ≤ 10 * x.length + 2
    refine StrLaws.reprText_len x fun c hc => ?_
    have h : (x.cps.toList.all fun c => decide (c < 4294967296)) = true := h
    exact of_decide_eq_true (List.all_eq_true.mp h c hc)
  | .tup ds, h => by
    show (tupleText (PyData.shownAll (Dat.pys ds))).length ≤ Dat.wids ds + 3
    have := tup_le (PyData.shownAll (Dat.pys ds))
    have := shownA_le h
    omega
  | .lst ds, h => by
    show (listText (PyData.shownAll (Dat.pys ds))).length ≤ Dat.wids ds + 2
    have := list_le (PyData.shownAll (Dat.pys ds))
    have := shownA_le h
    omega
  | .dct ks ds, h => by
    have h : (ks.isEmpty && ds.isEmpty) = true := h
    rw [Bool.and_eq_true, List.isEmpty_iff, List.isEmpty_iff] at h
    obtain ⟨rfl, rfl⟩ := h
    decide
  | .scr _, h => nomatch h
  | .ins _ _ _, h => nomatch h
theorem shownA_le : ∀ {ds : List Dat}, Dat.shws ds = true → piled (PyData.shownAll (Dat.pys ds)) ≤ Dat.wids ds
  | [], _ => Nat.le_refl _
  | d :: ds, h => by
    have h : (d.shw && Dat.shws ds) = true := h
    rw [Bool.and_eq_true] at h
    show piled (PyData.shown d.py :: PyData.shownAll (Dat.pys ds)) ≤ d.wid + 2 + Dat.wids ds
    rw [piled_cons]
    have := shown_le h.1
    have := shownA_le h.2
    omega
end
mutual
theorem dep_py : ∀ {d : Dat}, d.shw = true → d.py.depth = d.dep
  | .non, _ => rfl
  | .bl b, _ => rfl
  | .int i, h => rfl
  | .str x, h => rfl
  | .tup ds, h => by
    show PyData.depthAll (Dat.pys ds) + 1 = Dat.deps ds + 1
    rw [depA_py h]
  | .lst ds, h => by
    show PyData.depthAll (Dat.pys ds) + 1 = Dat.deps ds + 1
    rw [depA_py h]
  | .dct ks ds, h => by
    have h : (ks.isEmpty && ds.isEmpty) = true := h
    rw [Bool.and_eq_true, List.isEmpty_iff, List.isEmpty_iff] at h
    obtain ⟨rfl, rfl⟩ := h
    rfl
  | .scr _, h => nomatch h
  | .ins _ _ _, h => nomatch h
theorem depA_py : ∀ {ds : List Dat}, Dat.shws ds = true → PyData.depthAll (Dat.pys ds) = Dat.deps ds
  | [], _ => rfl
  | d :: ds, h => by
    have h : (d.shw && Dat.shws ds) = true := h
    rw [Bool.and_eq_true] at h
    show max d.py.depth (PyData.depthAll (Dat.pys ds)) = max d.dep (Dat.deps ds)
    rw [dep_py h.1, depA_py h.2]
end
section
variable {X : Cx} {pins : List (Addr × Obj)} {σ : L2.St} {H : Hp} {s : Shared}
/-- what stands in the state where the data stand, and how its parts are shown -/
def Shows (h : Heap) (u : Value) (d : PyData) : Prop := (∃ as, Reads h u d as) ∧ ∃ bs, ReadAtMost h d.depth bs ∧ ∀ (P : Program) (w : World), ReprK P w bs h d.depth u d.shown
def ShowsA (h : Heap) (us : List Value) (ds : List PyData) : Prop := (∃ as, ReadsAll h us ds as) ∧ ∃ bs, ReadAtMost h (PyData.depthAll ds) bs ∧ ∀ (P : Program) (w : World), ReprAllK P w bs h (PyData.depthAll ds) us (PyData.shownAll ds)
/-- a list's, a tuple's own parts, that what calls __repr__ of it asks -/
theorem list_part {h : Heap} {a : Addr} {o : Obj} {us : List Value} {n : Nat} {ds : List PyData} (ha : h.get? a = some o) (hc : o.cls = .type "list") (hd : o.data = .seq us.toArray n) (k : ShowsA h us ds) :
    ∃ bs, a ∉ bs ∧ ReadAtMost h (PyData.depthAll ds + 1) (a :: bs) ∧ (∀ (P : Program) (w : World), ReprAllK P w bs h (PyData.depthAll ds) us (PyData.shownAll ds)) ∧ ∃ as, Reads h (.ref a) (.list ds) as := by
  obtain ⟨⟨as, ra⟩, bs, hb, hk⟩ := k
  have r : Reads h (.ref a) (.list ds) (a :: as) := .list ha hc hd (by simpa using ra)
  exact ⟨bs, not_mem_of_deeper r (Nat.lt_succ_self _) hb, ReadAtMost.cons r (Nat.le_succ _) hb, hk, _, r⟩
theorem tup_part {h : Heap} {a : Addr} {o : Obj} {us : List Value} {n : Nat} {ds : List PyData} (ha : h.get? a = some o) (hc : o.cls = .type "tuple") (hd : o.data = .seq us.toArray n) (k : ShowsA h us ds) :
    ∃ bs, a ∉ bs ∧ ReadAtMost h (PyData.depthAll ds + 1) (a :: bs) ∧ (∀ (P : Program) (w : World), ReprAllK P w bs h (PyData.depthAll ds) us (PyData.shownAll ds)) ∧ ∃ as, Reads h (.ref a) (.tuple ds) as := by
  obtain ⟨⟨as, ra⟩, bs, hb, hk⟩ := k
  have r : Reads h (.ref a) (.tuple ds) as := .tuple ha hc hd (by simpa using ra)
  exact ⟨bs, not_mem_of_deeper r (Nat.lt_succ_self _) hb, ReadAtMost.cons r (Nat.le_succ _) hb, hk, _, r⟩
theorem edict_at (I : Inv X pins σ H s) {a : Addr} {kvs : List (Key × V)} (h : Rd H a (.dK kvs)) (e : kvs = []) : (a == sysModules) = false ∧ ∃ (o : Obj) (ep : Nat), s.heap.get? a = some o ∧ o.cls = .type "dict" ∧ o.data = .dict #[] ep := by
  subst e
  obtain ⟨_, hs, vs, kv, o, es, ep, h1, h2, h3, _, h4, _⟩ := dk_rd I.hok h
  cases kv
  generalize q : es.toList = l at h4
  cases h4
  have e : es = #[] := by
    obtain ⟨l⟩ := es
    have q : l = [] := q
    rw [q]
  subst e
  exact ⟨hs, o, ep, h1, h2.1, h3⟩
mutual
theorem rep_shows (I : Inv X pins σ H s) : ∀ {d : Dat} {v : V} {u : Value}, Rep X.K H v d → RelV v u → d.shw = true → d.wid ≤ 1000000 → Shows s.heap u d.py
  | .non, _, _, h, r, _, _ => by
    cases h
    cases (show _ = Value.none from r)
    exact ⟨⟨_, .none⟩, [], (fun _ z => nomatch z), fun P w => .of_is ReprIs.none _ _ _⟩
  | .bl b, _, _, h, r, _, _ => by
    cases h
    cases (show _ = Value.bool b from r)
    exact ⟨⟨_, .bool b⟩, [], (fun _ z => nomatch z), fun P w => .of_is (ReprIs.bool b) _ _ _⟩
  | .int i, _, _, h, r, sh, _ => by
    cases h
    obtain ⟨t, e⟩ := (show ∃ t, _ = Value.int i t from r)
    subst e
    exact ⟨⟨_, .int i t⟩, [], (fun _ z => nomatch z), fun P w => .of_is (ReprIs.int t (of_decide_eq_true sh)) _ _ _⟩
  | .str x, _, _, h, r, sh, hw => by
    cases h
    obtain ⟨t, e⟩ := (show ∃ t, _ = Value.str x t from r)
    subst e
    have l := shown_le (d := .str x) sh
    exact ⟨⟨_, .str x t⟩, [], (fun _ z => nomatch z), fun P w => .of_is (ReprIs.str x t (Nat.le_trans l (sz hw))) _ _ _⟩
  | .lst ds, _, _, h, r, sh, hw => by
    cases h with
    | @lst a vs _ h1 h2 =>
      cases (show _ = Value.ref a from r)
      obtain ⟨z, its, n, rv, e⟩ := h1.ok I.hok
      have hw' : Dat.wids ds + 2 ≤ 1000000 := hw
      have k := repA_shows I h2 rv sh (by omega)
      obtain ⟨bs, na, hb, hk, rd⟩ := list_part e rfl rfl k
      refine ⟨rd, a :: bs, hb, ?_⟩
      intro P w
      show ReprK P w (a :: bs) s.heap (PyData.depthAll (Dat.pys ds) + 1) (.ref a) (listText (PyData.shownAll (Dat.pys ds)))
      cases its with
      | nil =>
        cases rv
        cases h2
        rw [show PyData.shownAll (Dat.pys []) = [] from rfl, listText_nil]
        exact ReprK.listEmpty e rfl rfl
      | cons y l => exact ReprK.list e rfl rfl na (by simpa using (hk P w).length_eq) fun i y q => (hk P w).item i y (by simpa using q)
  | .tup ds, _, _, h, r, sh, hw => by
    cases h with
    | @tup a vs _ h1 h2 =>
      cases (show _ = Value.ref a from r)
      obtain ⟨its, rv, ⟨o, e1, e2, n, e3⟩, z⟩ := I.tuple h1.sq
      have hw' : Dat.wids ds + 3 ≤ 1000000 := hw
      have k := repA_shows I h2 rv sh (by omega)
      obtain ⟨bs, na, hb, hk, rd⟩ := tup_part e1 e2 e3 k
      exact ⟨rd, a :: bs, hb, fun P w => ReprK.tuple e1 e2 e3 na (by simpa using hk P w)⟩
  | .dct ks ds, _, _, h, r, sh, _ => by
    have sh : (ks.isEmpty && ds.isEmpty) = true := sh
    rw [Bool.and_eq_true, List.isEmpty_iff, List.isEmpty_iff] at sh
    obtain ⟨rfl, rfl⟩ := sh
    cases h with
    | @dct a kvs _ _ h1 h2 h3 =>
      cases (show _ = Value.ref a from r)
      obtain ⟨hs, o, ep, g1, g2, g3⟩ := edict_at I h1 (List.map_eq_nil_iff.mp h2)
      have rd : Reads s.heap (.ref a) (.dict []) (a :: [] ++ []) := .dict (kvs := []) g1 g2 g3 .nil .nil
      refine ⟨⟨_, rd⟩, [a], fun b hb => ?_, fun P w => ReprK.dict g1 g2 g3 hs (fun z => nomatch z) .nil⟩
      obtain rfl : b = a := by simpa using hb
      exact ⟨_, _, rd, Nat.le_refl _⟩
  | .scr _, _, _, _, _, sh, _ => nomatch sh
  | .ins _ _ _, _, _, _, _, sh, _ => nomatch sh
theorem repA_shows (I : Inv X pins σ H s) : ∀ {ds : List Dat} {vs : List V} {us : List Value}, RepA X.K H vs ds → Vals vs us → Dat.shws ds = true → Dat.wids ds ≤ 1000000 → ShowsA s.heap us (Dat.pys ds)
  | [], _, _, h, r, _, _ => by
    cases h
    cases r
    exact ⟨⟨_, .nil⟩, [], (fun _ z => nomatch z), fun P w => .nil⟩
  | d :: ds, _, _, h, r, sh, hw => by
    have sh : (d.shw && Dat.shws ds) = true := sh
    rw [Bool.and_eq_true] at sh
    have hw : d.wid + 2 + Dat.wids ds ≤ 1000000 := hw
    cases h with
    | cons h1 h2 =>
      cases r with
      | cons r1 r2 =>
        obtain ⟨⟨as, q1⟩, b1, k1, k2⟩ := rep_shows I h1 r1 sh.1 (by omega)
        obtain ⟨⟨cs, q2⟩, b2, k3, k4⟩ := repA_shows I h2 r2 sh.2 (by omega)
        exact ⟨⟨_, .cons q1 q2⟩, b1 ++ b2, (k1.mono (Nat.le_max_left _ _)).append (k3.mono (Nat.le_max_right _ _)),
          fun P w => .cons (((k2 P w).more fun b hb => List.mem_append_left _ hb).level_le (Nat.le_max_left _ _)) ((k4 P w).more_le (fun b hb => List.mem_append_right _ hb) (Nat.le_max_right _ _))⟩
end
end

/-- what str asks of a list -/
theorem showsBy_list {h : Heap} {a : Addr} {o : Obj} {us : List Value} {n : Nat} {ds : List PyData} (ha : h.get? a = some o) (hc : o.cls = .type "list") (hd : o.data = .seq us.toArray n) (k : ShowsA h us ds) (hz : (listText (PyData.shownAll ds)).length ≤ sizeLine) (P : Program) (w : World) :
    ShowsBy P w h a (.list ds) "list" "list.__repr__" := by
  obtain ⟨bs, na, hb, hk, rd⟩ := list_part ha hc hd k
  refine ⟨F.slot_list_repr.toG, F.slot_list_str, F.slot_list_format, fun s q => ⟨o, q _ _ ha, hc⟩, fun A E s Q hg hu q hQ => ?_⟩
  cases us with
  | nil =>
    obtain ⟨⟨_, ra⟩, _⟩ := k
    cases ra
    have hQ : ∀ h' u tk, (∀ b o, s.heap.get? b = some o → h'.get? b = some o) → Q (.str (listText []) u) { s with heap := h', toks := tk } := hQ
    rw [listText_nil] at hQ
    exact call_list_repr_empty ⟨o, q _ _ ha, hc⟩ (q _ _ ha) hd (hQ s.heap _ _ fun _ _ e => e)
  | cons x l => exact call_list_reprK ha hc hd na (by simpa using (hk P w).length_eq) (fun i y e => (hk P w).item i y (by simpa using e)) hg (fun b _ => Clear.nil b) hu q hQ hz
theorem str_by {h : Heap} {a : Addr} {d : PyData} {T idr : String} (S : ∀ (P : Program) (w : World), ShowsBy P w h a d T idr) {P : Program} {w : World} {A : Around} {E : Value → Shared → Prop} {s : Shared} {Q : Value → Shared → Prop} (hg : A.guards = some []) (hu : A.units + (d.depth + 3) < cLine) (q : ∀ b o, h.get? b = some o → s.heap.get? b = some o)
    (hQ : ∀ h' u tk, (∀ b o, s.heap.get? b = some o → h'.get? b = some o) → Q (.str d.shown u) { s with heap := h', toks := tk }) (hz : d.shown.length ≤ sizeLine) : wpAny (model P w) A (call (.type "str") [.ref a]) Q E s := by
  refine callType_new F.called_str (by decide) (F.typeCall_str_1 _) (F.newCall_str_1 _) (fun ob => F.args_object_init_2 ob _) F.entry_str_new
    (meets_str_new (S := fun A' R s' => A'.guards = some [] ∧ A'.units + (d.depth + 2) < cLine ∧ (∀ b o, h.get? b = some o → s'.heap.get? b = some o) ∧ ∀ h' u tk, (∀ b o, s'.heap.get? b = some o → h'.get? b = some o) → R (.ok (.ret (.str d.shown u))) { s' with heap := h', toks := tk })
      fun P' w' A' R s' k => ?_) ⟨hg, (by show A.units + 1 + (d.depth + 2) < cLine; omega), q, fun h' u tk k => ⟨typeIs_str _ _ _, hQ h' u tk k⟩⟩
  obtain ⟨k1, k2, k3, k4⟩ := k
  have S' := S P' w'
  exact wpAny_strOf_slot rfl (by show A'.units + 1 + _ < cLine; omega) (S'.typeIs s' k3) S'.slotStr S'.slotRepr (S'.call A'.in1.in1 _ s' _ k1 (by show A'.units + 1 + 1 + d.depth < cLine; omega) k3 fun h' u tk k => ⟨_, _, rfl, k4 h' u tk k⟩)
end Sv

set_option Elab.async false
set_option linter.all false
set_option maxRecDepth 100000
set_option maxHeartbeats 1000000
namespace Sv
open PySem L2 PyProof.Rows
section
variable {X : Cx} {W : WX} {e a b : Expr} {f g : M Dat} {ga : M (List Dat)} {pos pos' p : Pos} {k : Nat}
/-! ## str(xs) -/
def strD (as : List Dat) : Option Dat := match as with
  | [.lst ds] => if (Dat.lst ds).shw = true ∧ (Dat.lst ds).wid ≤ 1000000 ∧ (Dat.lst ds).dep ≤ 60 then some (.str (Dat.lst ds).py.shown) else none
  | [.str x] => some (.str x)
  | _ => none
theorem call_strL (hg : X.A.guards = some []) (hu : X.A.units + 64 < cLine) : CallR X (.type "str") (fun xs H Q => (∃ v ds, xs = [v] ∧ Rep X.K H v (.lst ds) ∧ (Dat.lst ds).shw = true ∧ (Dat.lst ds).wid ≤ 1000000 ∧ (Dat.lst ds).dep ≤ 60 ∧ Q (.str (Dat.lst ds).py.shown) H) ∨ ∃ x, xs = [.str x] ∧ Q (.str x) H) := by
  intro pins s σ H xs us Q I r h
  rcases h with ⟨v, ds, rfl, hr, hs, hw, hd, q⟩ | h
  · obtain ⟨u, rfl, ru⟩ := vals1 r
    cases hr with
    | @lst ad vs _ h1 h2 =>
      cases (show u = Value.ref ad from ru)
      obtain ⟨z, its, n, rv, e⟩ := h1.ok I.hok
      have hw' : Dat.wids ds + 2 ≤ 1000000 := hw
      have sh := repA_shows I h2 rv hs (by omega)
      have hl : (Dat.lst ds).py.shown.length ≤ sizeLine := Nat.le_trans (shown_le hs) (sz hw)
      have hdp : (PyData.list (Dat.pys ds)).depth = (Dat.lst ds).dep := dep_py (d := .lst ds) hs
      refine str_by (fun P w => showsBy_list e rfl rfl sh hl P w) hg (by rw [hdp]; omega) (fun _ _ q => q) (fun h' u tk hk => ?_) hl
      exact ⟨.str _, H, I.kept (t' := tk) hk, ⟨_, rfl⟩, q⟩
  · exact SkE.call_str_str pins s σ H xs us Q I r h
theorem de_strC (hr : RoomG k X.A) (hg : Gl X "str") (hm : X.mg "str" = none) (ha : DA X W [e] ga) (he : starEach [e] X.env = (false, eval e X.env) :: starEach [] X.env := by rfl) : DE X W (.Call (.Name "str" p) [e] [] pos) (ga.bi strD) :=
  de_callTy (call_strL hr.g hr.units) (fun H H0 xs ds dz Q s hx e q => by
    unfold strD at e
    split at e
    · split at e
      · rename_i h
        cases e
        cases hx with
        | cons h1 h2 =>
          cases h2
          exact .inl ⟨_, _, rfl, h1.mono s, h.1, h.2.1, h.2.2, q _ H H0 (Grow.refl s) (.str _)⟩
      · cases e
    · cases e
      cases hx with
      | cons h1 h2 =>
        cases h2
        cases h1
        exact .inr ⟨_, rfl, q _ H H0 (Grow.refl s) (.str _)⟩
    · cases e) hg hm (by decide +kernel) ha (by decide) (by decide) he
/-! ## == of two texts -/
def eqSD (d e : Dat) : Option Dat := match d, e with
  | .str a, .str b => some (.bl (decide (a = b)))
  | _, _ => none
theorem snd_eqS {K : PySem.W.Frag} : Snd2 K rEq eqSD := by
  intro H H0 x y dx dy dz Q s hx hy e q
  cases dx <;> cases dy <;> try (cases e; done)
  rename_i a b
  cases e
  cases hx; cases hy
  refine ⟨rfl, ?_⟩
  have e : (decide (V.str a = V.str b)) = decide (a = b) := by simp
  rw [e]
  exact q _ H H0 (Grow.refl s) (.bl _)
theorem de_eqS (ha : DE X W a f) (hb : DE X W b g) : DE X W (.Compare a [.Eq] [b] pos) (f.bin g eqSD) := de_cmp op_eq snd_eqS ha hb (nomark _)
/-! ## {} -/
theorem de_edct : DE X W (.Dict [] [] pos) (M.ret (.dct [] [])) := PE.imp pe_dnewK fun σ H Q ⟨z, H0, ρ, r, q⟩ => fun d hd => by
  have g := Grow.new (o := .dK []) r.sub hd
  exact q _ _ (g.rel r) g.s _ (.dct (kvs := []) (Rd.of upd_same) rfl .nil)
/-! ## xs[lo:hi] of a list -/
def cutD (d : Dat) (lo hi : Option Int) : Option Dat := match d with
  | .lst ds => some (.lst ((ds.drop (HT.sIx ds.length 0 lo)).take (HT.sIx ds.length ds.length hi - HT.sIx ds.length 0 lo)))
  | _ => none
def asI : Dat → Option Int
  | .int i => some i
  | _ => none
def M.part : Option (M Dat) → M (Option Int)
  | none => M.ret none
  | some f => f.bnd fun d => M.bnd (M.lift (asI d)) fun i => M.ret (some i)
def M.cut (f : M Dat) (lo hi : Option (M Dat)) : M Dat := f.bnd fun d => (M.part lo).bnd fun i => (M.part hi).bnd fun j => M.lift (cutD d i j)
theorem RepA.drop {K : PySem.W.Frag} {H : Hp} : ∀ {n : Nat} {ds : List Dat} {vs : List V}, RepA K H vs ds → RepA K H (vs.drop n) (ds.drop n)
  | 0, _, _, h => h
  | n + 1, [], _, .nil => .nil
  | n + 1, _ :: _, _, .cons _ h => RepA.drop (n := n) h
theorem RepA.take {K : PySem.W.Frag} {H : Hp} : ∀ {n : Nat} {ds : List Dat} {vs : List V}, RepA K H vs ds → RepA K H (vs.take n) (ds.take n)
  | 0, _, _, _ => .nil
  | n + 1, [], _, .nil => .nil
  | n + 1, _ :: _, _, .cons h1 h => .cons h1 (RepA.take (n := n) h)
/-- an end of a slice -/
def DO (X : Cx) (W : WX) (o : Option Expr) (g : M (Option Int)) : Prop := PO X o (fun σ H Q => ∃ (z : Fx) (H0 : Hp) (ρ : En), Rel X.K z σ H H0 ρ ∧ Run (cc X W) z σ H0 (g ρ) fun i H' _ _ => Q i H')
theorem PO.imp' {o : Option Expr} {t t' : TO} (h : PO X o t) (m : ∀ σ H Q, t' σ H Q → t σ H Q) : PO X o t' := ⟨fun pins s σ H Q I q => h.run pins s σ H Q I (m σ H Q q)⟩
theorem do_none : DO X W none (M.part none) := PO.imp' po_none fun σ H Q ⟨z, H0, ρ, r, q⟩ => q H H0 r (Same.refl _)
theorem do_some (h : DE X W e f) : DO X W (some e) (M.part (some f)) := PO.imp' (po_some h) fun σ H Q ⟨z, H0, ρ, r, q⟩ => part r q fun d v H1 G1 ρ1 r1 s1 hv q1 => by
  obtain ⟨i, ei, q2⟩ := Run.lift (Run.bnd q1)
  cases d <;> cases ei
  cases hv
  exact ⟨_, rfl, q2 H1 G1 r1 (Same.refl _) H1 G1 r1 (Same.refl _)⟩
theorem de_cut {lo hi : Option Expr} {gl gh : Option (M Dat)} {p2 : Pos} (he : DE X W e f) (hl : DO X W lo (M.part gl)) (hh : DO X W hi (M.part gh)) : DE X W (.Subscript e (.Slice lo hi none p2) pos) (f.cut gl gh) :=
  PE.imp (pe_slice sl_list he hl hh) fun σ H Q ⟨z, H0, ρ, r, q⟩ => part r q fun d v H1 G1 ρ1 r1 s1 hv q1 => ⟨z, G1, ρ1, r1, (Run.bnd q1).mono fun i H2 G2 ρ2 r2 s2 q2 => ⟨z, G2, ρ2, r2, (Run.bnd q2).mono fun j H3 G3 ρ3 r3 s3 q3 => by
    obtain ⟨dz, e, q4⟩ := Run.lift q3
    cases d with
    | lst ds =>
      cases e
      cases hv with
      | @lst ad vs _ h1 h2 =>
        refine ⟨ad, vs, rfl, .inl (sameRd ((s2.trans s3).trans r3.sub) h1), fun p hp => ?_⟩
        have g := Grow.new (o := .lst (cutV vs i j)) r3.sub hp
        refine q4 _ _ (g.rel r3) g.s _ (Rep.newL (r3.sub.free hp) ?_)
        unfold cutV
        rw [h2.length]
        exact ((h2.mono (s2.trans s3)).drop).take
    | _ => cases e⟩⟩
/-! ## a suite: y = [k, n.thing] -/
def fldO (cx : Str) (s : Str) (j : Nat) : Str → List (Str × Dat) → En → O := fun cn fs ρ => if cn = cx then (match fs with
  | [(fl, d)] => if fl = "thing" then setNO (M.ret [.str s, d]) j ρ else .stuck
  | _ => .stuck) else .stuck
theorem su_fld {cx s y n : Str} {i j jj : Nat} {py pn pa pl p1 : Pos} (T : ExT X.K X.mg cx) (hN : X.N.Nodup) (hj : X.N[j]? = some y) (hi : X.N[i]? = some n) (hy : X.env.scope.names.lookup y = some .local) (hn : X.env.scope.names.lookup n = some .local) (hd : (n == ("__debug__" : Str)) = false := by decide) (hcd : (n == ("__classdict__" : Str)) = false := by decide)
    (hs : ∀ Y : Cx, Y.env = X.env → swapsWith (.List [.Constant (.str s) jj p1, .Attribute (.Name n pn) "thing" pa] pl) (some (.Name y py)) pos.line Y.env = pure false := by intro Y h; rw [h]; rfl) :
    DSu X (some i) [.Assign [.Name y py] (.List [.Constant (.str s) jj p1, .Attribute (.Name n pn) "thing" pa] pl) pos] (fldO cx s j) := by
  obtain ⟨qx, C, fI, T⟩ := T.ex
  intro ad oe cls dx pins hz hf
  refine PSs.imp (pss_one (ps_set (i := j) hN hj (.inl hy) (pe_lst (pa_cons pe_str (pa_cons (pe_byLowT T hz hf (pe_var hi (.inl hn) hd hcd)) pa_nil))) (hs _ rfl) (.inr hy))) fun D σ H ⟨z, H0, ρ, cn, fs, r, xa, hio, q⟩ => ?_
  unfold fldO at q
  split at q
  · rename_i ec
    subst ec
    obtain ⟨C', c1, c2, c3⟩ := xa
    have c1 : X.mg cn = some (.ref C') := c1
    rw [T.gC] at c1
    cases c1
    split at q
    · rename_i fl d
      split at q
      · rename_i ef
        subst ef
        match dx, c3 with
        | some dd, ⟨vs, v1, v2, v3⟩ =>
          match vs, v1, v2, v3 with
          | [(f1, v)], v1, v2, .cons v3 .nil =>
            have e1 : f1 = "thing" := by simpa using v2
            subst e1
            refine ⟨_, (hio i rfl).1, rfl, c2, dd, v, rfl, v1, by show 2 ≤ sizeLine; decide, fun p hp => ?_⟩
            exact setN_run (r.new' _ hp) ⟨(r.fresh hp).1, (r.fresh hp).2, r.notat hp, r.nors hp, _, upd_same, .cons (.str s) (.cons v3 .nil)⟩ q
        | none, h => cases h
      · exact q.elim
    · exact q.elim
  · exact q.elim
end
end Sv
namespace Sv
open PySem
/-- an error of the class at C is, or is not, what «except D» names -/
theorem exm_pair {K : PySem.W.Frag} {C D : Addr} {b : Bool} (h1 : PySem.W.subIn K (.ref D) (.type "BaseException") = some true) (h2 : PySem.W.isClsIn K D = true) (h3 : PySem.W.typeIn K (.ref D) = some (.type "type")) (h4 : PySem.W.subIn K (.ref C) (.ref D) = some b) : PySem.W.exmOne K (.ref C) (.ref D) = some b := by
  have h2 : (PySem.W.clsIn K D).isSome = true := h2
  have e1 : (PySem.W.subIn K (.ref D) (.type "BaseException") == some true) = true := by rw [h1]; rfl
  have e2 : ((PySem.W.clsIn K D).isSome && PySem.W.typeIn K (.ref D) == some (.type "type")) = true := by rw [h2, h3]; rfl
  show (if (PySem.W.subIn K (.ref D) (.type "BaseException") == some true) = true then (if ((PySem.W.clsIn K D).isSome && PySem.W.typeIn K (.ref D) == some (.type "type")) = true then PySem.W.subIn K (.ref C) (.ref D) else none) else none) = some b
  rw [if_pos e1, if_pos e2, h4]
end Sv

set_option Elab.async false
set_option linter.all false
set_option maxRecDepth 100000
set_option maxHeartbeats 4000000
namespace Sv.pw_cellpictures_k02_ways_and_maps_refused
open PySem L2 PyProof.Rows Sv
def top (i : Nat) : Stmt := PySem.Challenge.pw_cellpictures_k02_ways_and_maps_refused.main.body.getD i (.Pass ⟨0, 0, 0, 0⟩)
section
variable {P : Program} {w : World} {K : PySem.W.Frag} {mg : Str → Option Value} {base : Heap}
def k_STEPS : Dat := .tup [.tup [.int (-1), .int (-1)], .tup [.int (-1), .int 0], .tup [.int (-1), .int 1], .tup [.int 0, .int 1], .tup [.int 1, .int 1], .tup [.int 1, .int 0], .tup [.int 1, .int (-1)], .tup [.int 0, .int (-1)]]
variable {v_STEPS : Value} {u_STEPS : V}
def dd_window : List Dat := [.tup [.str "open", .str "open"]]
variable {dv_window : List V}
variable {C_PictureError : Addr}
variable {C_InvalidNumber : Addr}
variable {C_InvalidWay : Addr}
variable {C_InvalidMap : Addr}
variable {C_InvalidEnds : Addr}
variable {C_InvalidCell : Addr}
def tab0 : List (Str × Str × Bool) := [("InvalidNumber", "PictureError", true), ("InvalidNumber", "InvalidNumber", true), ("InvalidNumber", "InvalidWay", false), ("InvalidNumber", "InvalidMap", false), ("InvalidNumber", "InvalidEnds", false), ("InvalidNumber", "InvalidCell", false), ("InvalidWay", "PictureError", true), ("InvalidWay", "InvalidNumber", false), ("InvalidWay", "InvalidWay", true), ("InvalidWay", "InvalidMap", false), ("InvalidWay", "InvalidEnds", false), ("InvalidWay", "InvalidCell", false), ("InvalidMap", "PictureError", true), ("InvalidMap", "InvalidNumber", false), ("InvalidMap", "InvalidWay", false), ("InvalidMap", "InvalidMap", true), ("InvalidMap", "InvalidEnds", false), ("InvalidMap", "InvalidCell", false), ("InvalidEnds", "PictureError", true), ("InvalidEnds", "InvalidNumber", false), ("InvalidEnds", "InvalidWay", false), ("InvalidEnds", "InvalidMap", false), ("InvalidEnds", "InvalidEnds", true), ("InvalidEnds", "InvalidCell", false), ("InvalidCell", "PictureError", true), ("InvalidCell", "InvalidNumber", false), ("InvalidCell", "InvalidWay", false), ("InvalidCell", "InvalidMap", false), ("InvalidCell", "InvalidEnds", false), ("InvalidCell", "InvalidCell", true)]

/-! ### is_count -/
abbrev st_is_count : Stmt := top 8
theorem sc_is_count : FnScope ["thing"] ["thing"] (defScope st_is_count) := ⟨rfl, rfl, rfl, by decide +kernel, rfl, by decide +kernel, by decide +kernel⟩
theorem bn_is_count : Bn "is_count" "is_count" st_is_count ["thing"] := fun _ _ _ _ _ _ us hl => match us, hl with | [_], _ => rfl
def B_is_count : En → O := (retO (M.andV (M.un1 (rdVar 0) (isiD tb_int)) (M.andV (M.notV (M.un1 (rdVar 0) (isiD tb_bool))) (M.bin (rdVar 0) (M.ret (.int 0)) geD))))
def G_is_count (ds : List Dat) : O := (B_is_count (startE 1 (ds.map .val))).pur
theorem d_is_count (S : Sd K mg "is_count" "is_count" st_is_count) (z_isinstance : mg "isinstance" = none) (z_int : mg "int" = none) (z_bool : mg "bool" = none) :
    Fd P w K mg base "is_count" "is_count" st_is_count 2 ["thing"] (spP K mg 1 G_is_count) :=
  fd_pure S sc_is_count (fun f cdv A outer s H E hr => by
    have tk : Takes (cxOf (L2.CX P w) P w K mg base ["thing"] "is_count" (defScope st_is_count) f cdv A outer s H E) (WE0 E) := takes_of rfl rfl rfl rfl
    exact (db_one (ds_ret (de_and (de_isi (T := "int") tb_int (by decide +kernel) rfl z_isinstance rfl z_int (by decide +kernel) (de_var 0)) (de_and (de_not (de_isi (T := "bool") tb_bool (by decide +kernel) rfl z_isinstance rfl z_bool (by decide +kernel) (de_var 0))) (de_and1 (de_ge (de_var 0) de_int)))))))

/-! ### is_count_below -/
abbrev st_is_count_below : Stmt := top 9
theorem sc_is_count_below : FnScope ["thing", "limit"] ["thing", "limit"] (defScope st_is_count_below) := ⟨rfl, rfl, rfl, by decide +kernel, rfl, by decide +kernel, by decide +kernel⟩
theorem bn_is_count_below : Bn "is_count_below" "is_count_below" st_is_count_below ["thing", "limit"] := fun _ _ _ _ _ _ us hl => match us, hl with | [_, _], _ => rfl
def B_is_count_below : En → O := (retO (M.andV (M.call (M.cons (rdVar 0) ((M.ret []))) [] G_is_count) (M.bin (rdVar 0) (rdVar 1) ltD)))
def G_is_count_below (ds : List Dat) : O := (B_is_count_below (startE 2 (ds.map .val))).pur
theorem d_is_count_below (S : Sd K mg "is_count_below" "is_count_below" st_is_count_below) (D_is_count : Fd P w K mg base "is_count" "is_count" st_is_count 2 ["thing"] (spP K mg 1 G_is_count)) :
    Fd P w K mg base "is_count_below" "is_count_below" st_is_count_below 3 ["thing", "limit"] (spP K mg 2 G_is_count_below) :=
  fd_pure S sc_is_count_below (fun f cdv A outer s H E hr => by
    have tk : Takes (cxOf (L2.CX P w) P w K mg base ["thing", "limit"] "is_count_below" (defScope st_is_count_below) f cdv A outer s H E) (WE0 E) := takes_of rfl rfl rfl rfl
    exact (db_one (ds_ret (de_and (c_de D_is_count bn_is_count tk hr (by decide) rfl (cons_len nil_len) (da_cons (de_var 0) da_nil)) (de_and1 (de_lt (de_var 0) (de_var 1)))))))

/-! ### is_way -/
abbrev st_is_way : Stmt := top 10
theorem sc_is_way : FnScope ["thing"] ["thing"] (defScope st_is_way) := ⟨rfl, rfl, rfl, by decide +kernel, rfl, by decide +kernel, by decide +kernel⟩
theorem bn_is_way : Bn "is_way" "is_way" st_is_way ["thing"] := fun _ _ _ _ _ _ us hl => match us, hl with | [_], _ => rfl
def B_is_way : En → O := (retO (M.call (M.cons (rdVar 0) ((M.cons (M.ret (.int 8)) ((M.ret []))))) [] G_is_count_below))
def G_is_way (ds : List Dat) : O := (B_is_way (startE 1 (ds.map .val))).pur
theorem d_is_way (S : Sd K mg "is_way" "is_way" st_is_way) (D_is_count_below : Fd P w K mg base "is_count_below" "is_count_below" st_is_count_below 3 ["thing", "limit"] (spP K mg 2 G_is_count_below)) :
    Fd P w K mg base "is_way" "is_way" st_is_way 4 ["thing"] (spP K mg 1 G_is_way) :=
  fd_pure S sc_is_way (fun f cdv A outer s H E hr => by
    have tk : Takes (cxOf (L2.CX P w) P w K mg base ["thing"] "is_way" (defScope st_is_way) f cdv A outer s H E) (WE0 E) := takes_of rfl rfl rfl rfl
    exact (db_one (ds_ret (c_de D_is_count_below bn_is_count_below tk hr (by decide) rfl (cons_len (cons_len nil_len)) (da_cons (de_var 0) (da_cons de_int da_nil))))))

/-! ### check_way -/
abbrev st_check_way : Stmt := top 11
theorem sc_check_way : FnScope ["way"] ["way"] (defScope st_check_way) := ⟨rfl, rfl, rfl, by decide +kernel, rfl, by decide +kernel, by decide +kernel⟩
theorem bn_check_way : Bn "check_way" "check_way" st_check_way ["way"] := fun _ _ _ _ _ _ us hl => match us, hl with | [_], _ => rfl
def B_check_way : En → O := (ifO (M.notB (M.isB (M.call (M.cons (rdVar 0) ((M.ret []))) [] G_is_way))) (raiseO "InvalidWay" "thing" ((M.cons (rdVar 0) ((M.ret []))))) O.nxt)
def G_check_way (ds : List Dat) : O := (B_check_way (startE 1 (ds.map .val))).pur
theorem d_check_way (S : Sd K mg "check_way" "check_way" st_check_way) (D_is_way : Fd P w K mg base "is_way" "is_way" st_is_way 4 ["thing"] (spP K mg 1 G_is_way)) (x_InvalidWay : ExT K mg "InvalidWay") :
    Fd P w K mg base "check_way" "check_way" st_check_way 5 ["way"] (spP K mg 1 G_check_way) :=
  fd_pure S sc_check_way (fun f cdv A outer s H E hr => by
    have tk : Takes (cxOf (L2.CX P w) P w K mg base ["way"] "check_way" (defScope st_check_way) f cdv A outer s H E) (WE0 E) := takes_of rfl rfl rfl rfl
    exact (db_one (ds_if (dt_not (dt_val (c_de D_is_way bn_is_way tk hr (by decide) rfl (cons_len nil_len) (da_cons (de_var 0) da_nil)))) (db_one (ds_raiseT x_InvalidWay rfl hr tk (da_cons (de_var 0) da_nil) rfl)) db_nil)))

/-! ### check_number -/
abbrev st_check_number : Stmt := top 12
theorem sc_check_number : FnScope ["number", "limit"] ["number", "limit"] (defScope st_check_number) := ⟨rfl, rfl, rfl, by decide +kernel, rfl, by decide +kernel, by decide +kernel⟩
theorem bn_check_number : Bn "check_number" "check_number" st_check_number ["number", "limit"] := fun _ _ _ _ _ _ us hl => match us, hl with | [_, _], _ => rfl
def B_check_number : En → O := (ifO (M.notB (M.isB (M.call (M.cons (rdVar 0) ((M.cons (rdVar 1) ((M.ret []))))) [] G_is_count_below))) (raiseO "InvalidNumber" "thing" ((M.cons (rdVar 0) ((M.ret []))))) O.nxt)
def G_check_number (ds : List Dat) : O := (B_check_number (startE 2 (ds.map .val))).pur
theorem d_check_number (S : Sd K mg "check_number" "check_number" st_check_number) (D_is_count_below : Fd P w K mg base "is_count_below" "is_count_below" st_is_count_below 3 ["thing", "limit"] (spP K mg 2 G_is_count_below)) (x_InvalidNumber : ExT K mg "InvalidNumber") :
    Fd P w K mg base "check_number" "check_number" st_check_number 4 ["number", "limit"] (spP K mg 2 G_check_number) :=
  fd_pure S sc_check_number (fun f cdv A outer s H E hr => by
    have tk : Takes (cxOf (L2.CX P w) P w K mg base ["number", "limit"] "check_number" (defScope st_check_number) f cdv A outer s H E) (WE0 E) := takes_of rfl rfl rfl rfl
    exact (db_one (ds_if (dt_not (dt_val (c_de D_is_count_below bn_is_count_below tk hr (by decide) rfl (cons_len (cons_len nil_len)) (da_cons (de_var 0) (da_cons (de_var 1) da_nil))))) (db_one (ds_raiseT x_InvalidNumber rfl hr tk (da_cons (de_var 0) da_nil) rfl)) db_nil)))

/-! ### check_cell -/
abbrev st_check_cell : Stmt := top 13
theorem sc_check_cell : FnScope ["line", "limit"] ["line", "limit"] (defScope st_check_cell) := ⟨rfl, rfl, rfl, by decide +kernel, rfl, by decide +kernel, by decide +kernel⟩
theorem bn_check_cell : Bn "check_cell" "check_cell" st_check_cell ["line", "limit"] := fun _ _ _ _ _ _ us hl => match us, hl with | [_, _], _ => rfl
def B_check_cell : En → O := (ifO (M.notB (M.isB (M.call (M.cons (rdVar 0) ((M.cons (rdVar 1) ((M.ret []))))) [] G_is_count_below))) (raiseO "InvalidCell" "thing" ((M.cons (rdVar 0) ((M.ret []))))) O.nxt)
def G_check_cell (ds : List Dat) : O := (B_check_cell (startE 2 (ds.map .val))).pur
theorem d_check_cell (S : Sd K mg "check_cell" "check_cell" st_check_cell) (D_is_count_below : Fd P w K mg base "is_count_below" "is_count_below" st_is_count_below 3 ["thing", "limit"] (spP K mg 2 G_is_count_below)) (x_InvalidCell : ExT K mg "InvalidCell") :
    Fd P w K mg base "check_cell" "check_cell" st_check_cell 4 ["line", "limit"] (spP K mg 2 G_check_cell) :=
  fd_pure S sc_check_cell (fun f cdv A outer s H E hr => by
    have tk : Takes (cxOf (L2.CX P w) P w K mg base ["line", "limit"] "check_cell" (defScope st_check_cell) f cdv A outer s H E) (WE0 E) := takes_of rfl rfl rfl rfl
    exact (db_one (ds_if (dt_not (dt_val (c_de D_is_count_below bn_is_count_below tk hr (by decide) rfl (cons_len (cons_len nil_len)) (da_cons (de_var 0) (da_cons (de_var 1) da_nil))))) (db_one (ds_raiseT x_InvalidCell rfl hr tk (da_cons (de_var 0) da_nil) rfl)) db_nil)))

/-! ### is_end -/
abbrev st_is_end : Stmt := top 14
theorem sc_is_end : FnScope ["thing"] ["thing"] (defScope st_is_end) := ⟨rfl, rfl, rfl, by decide +kernel, rfl, by decide +kernel, by decide +kernel⟩
theorem bn_is_end : Bn "is_end" "is_end" st_is_end ["thing"] := fun _ _ _ _ _ _ us hl => match us, hl with | [_], _ => rfl
def B_is_end : En → O := (retO (M.andV (M.un1 (rdVar 0) (isiD tb_str)) (M.bin (rdVar 0) (M.tup (M.cons (M.ret (.str "open")) ((M.cons (M.ret (.str "wrap")) ((M.ret [])))))) inD)))
def G_is_end (ds : List Dat) : O := (B_is_end (startE 1 (ds.map .val))).pur
theorem d_is_end (S : Sd K mg "is_end" "is_end" st_is_end) (z_isinstance : mg "isinstance" = none) (z_str : mg "str" = none) :
    Fd P w K mg base "is_end" "is_end" st_is_end 2 ["thing"] (spP K mg 1 G_is_end) :=
  fd_pure S sc_is_end (fun f cdv A outer s H E hr => by
    have tk : Takes (cxOf (L2.CX P w) P w K mg base ["thing"] "is_end" (defScope st_is_end) f cdv A outer s H E) (WE0 E) := takes_of rfl rfl rfl rfl
    exact (db_one (ds_ret (de_and (de_isi (T := "str") tb_str (by decide +kernel) rfl z_isinstance rfl z_str (by decide +kernel) (de_var 0)) (de_and1 (de_in (de_var 0) (de_tup (da_cons de_str (da_cons de_str da_nil)))))))))

/-! ### check_ends -/
abbrev st_check_ends : Stmt := top 15
theorem sc_check_ends : FnScope ["ends"] ["ends"] (defScope st_check_ends) := ⟨rfl, rfl, rfl, by decide +kernel, rfl, by decide +kernel, by decide +kernel⟩
theorem bn_check_ends : Bn "check_ends" "check_ends" st_check_ends ["ends"] := fun _ _ _ _ _ _ us hl => match us, hl with | [_], _ => rfl
def B_check_ends : En → O := (ifO (M.orB (M.notB (M.isB (M.un1 (rdVar 0) (isiD tb_tuple)))) (M.orB (M.isB (M.bin (M.bi (M.cons (rdVar 0) ((M.ret []))) lenD) (M.ret (.int 2)) neD)) (M.orB (M.notB (M.isB (M.call (M.cons (M.bin (rdVar 0) (M.ret (.int 0)) ixD) ((M.ret []))) [] G_is_end))) (M.notB (M.isB (M.call (M.cons (M.bin (rdVar 0) (M.ret (.int 1)) ixD) ((M.ret []))) [] G_is_end)))))) (raiseO "InvalidEnds" "thing" ((M.cons (rdVar 0) ((M.ret []))))) O.nxt)
def G_check_ends (ds : List Dat) : O := (B_check_ends (startE 1 (ds.map .val))).pur
theorem d_check_ends (S : Sd K mg "check_ends" "check_ends" st_check_ends) (D_is_end : Fd P w K mg base "is_end" "is_end" st_is_end 2 ["thing"] (spP K mg 1 G_is_end)) (z_isinstance : mg "isinstance" = none) (z_tuple : mg "tuple" = none) (z_len : mg "len" = none) (x_InvalidEnds : ExT K mg "InvalidEnds") :
    Fd P w K mg base "check_ends" "check_ends" st_check_ends 3 ["ends"] (spP K mg 1 G_check_ends) :=
  fd_pure S sc_check_ends (fun f cdv A outer s H E hr => by
    have tk : Takes (cxOf (L2.CX P w) P w K mg base ["ends"] "check_ends" (defScope st_check_ends) f cdv A outer s H E) (WE0 E) := takes_of rfl rfl rfl rfl
    exact (db_one (ds_if (DW.dt (dw_or (dt_not (dt_val (de_isi (T := "tuple") tb_tuple (by decide +kernel) rfl z_isinstance rfl z_tuple (by decide +kernel) (de_var 0)))) (dw_or (dt_ne hr.units (de_len rfl z_len (da_cons (de_var 0) da_nil)) de_int) (dw_or (dt_not (dt_val (c_de D_is_end bn_is_end tk hr (by decide) rfl (cons_len nil_len) (da_cons (de_at (de_var 0) de_int) da_nil)))) (dw_or1 (dt_not (dt_val (c_de D_is_end bn_is_end tk hr (by decide) rfl (cons_len nil_len) (da_cons (de_at (de_var 0) de_int) da_nil))))))))) (db_one (ds_raiseT x_InvalidEnds rfl hr tk (da_cons (de_var 0) da_nil) rfl)) db_nil)))

/-! ### is_row -/
abbrev st_is_row : Stmt := top 16
theorem sc_is_row : FnScope ["thing", "kind"] ["thing"] (defScope st_is_row) := ⟨rfl, rfl, rfl, by decide +kernel, rfl, by decide +kernel, by decide +kernel⟩
theorem bn_is_row : Bn "is_row" "is_row" st_is_row ["thing"] := fun _ _ _ _ _ _ us hl => match us, hl with | [_], _ => rfl
def E_is_row_0 : M Dat := (M.call (M.cons (rdVar 1) ((M.ret []))) [] G_is_count)
def C_is_row_1 : M (List Dat) := (M.lc (rdVar 0) (.one 1) tYesM E_is_row_0)
def B_is_row : En → O := (retO (M.andV (M.un1 (rdVar 0) (isiD tb_tuple)) (M.andV (M.bin (M.bi (M.cons (rdVar 0) ((M.ret []))) lenD) (M.ret (.int 0)) gtD) (M.bi (M.cons (M.frz C_is_row_1) ((M.ret []))) allD))))
def G_is_row (ds : List Dat) : O := (B_is_row (startE 2 (ds.map .val))).pur
theorem d_is_row (S : Sd K mg "is_row" "is_row" st_is_row) (D_is_count : Fd P w K mg base "is_count" "is_count" st_is_count 2 ["thing"] (spP K mg 1 G_is_count)) (z_isinstance : mg "isinstance" = none) (z_tuple : mg "tuple" = none) (z_len : mg "len" = none) (z_all : mg "all" = none) :
    Fd P w K mg base "is_row" "is_row" st_is_row 3 ["thing"] (spP K mg 1 G_is_row) :=
  fd_pure S sc_is_row (fun f cdv A outer s H E hr => by
    have tk : Takes (cxOf (L2.CX P w) P w K mg base ["thing", "kind"] "is_row" (defScope st_is_row) f cdv A outer s H E) (WE0 E) := takes_of rfl rfl rfl rfl
    exact (db_one (ds_ret (de_and (de_isi (T := "tuple") tb_tuple (by decide +kernel) rfl z_isinstance rfl z_tuple (by decide +kernel) (de_var 0)) (de_and (de_gt (de_len rfl z_len (da_cons (de_var 0) da_nil)) de_int) (de_and1 (de_all rfl rfl z_all (da_cons (DN.de (dn_lc rfl sc_is_row.nd (de_var 0) (own := [("kind", 1)]) (t := (.one 1)) (blkOk_by (by kernel_rfl)) rfl (fun _ _ _ _ _ => (pg_name (i := 1) sc_is_row.nd rfl (Or.inl rfl))) (fun _ _ _ _ _ => dts_nil) (fun _ _ _ _ _ => (c_de D_is_count bn_is_count takes0 hr (by decide) rfl (cons_len nil_len) (da_cons (de_var 1) da_nil))))) da_nil))))))))

/-! ### is_map -/
abbrev st_is_map : Stmt := top 17
theorem sc_is_map : FnScope ["thing", "row"] ["thing"] (defScope st_is_map) := ⟨rfl, rfl, rfl, by decide +kernel, rfl, by decide +kernel, by decide +kernel⟩
theorem bn_is_map : Bn "is_map" "is_map" st_is_map ["thing"] := fun _ _ _ _ _ _ us hl => match us, hl with | [_], _ => rfl
def L_is_map_0 : En → O := (ifO (M.orB (M.notB (M.isB (M.call (M.cons (rdVar 1) ((M.ret []))) [] G_is_row))) (M.isB (M.bin (M.bi (M.cons (rdVar 1) ((M.ret []))) lenD) (M.bi (M.cons (M.bin (rdVar 0) (M.ret (.int 0)) ixD) ((M.ret []))) lenD) neD))) (retO (M.ret (.bl false))) O.nxt)
def F_is_map_1 : En → O := (forO (rdVar 0) (.one 1) L_is_map_0)
def B_is_map : En → O := (seqO (ifO (M.orB (M.notB (M.isB (M.un1 (rdVar 0) (isiD tb_tuple)))) (M.isB (M.bin (M.bi (M.cons (rdVar 0) ((M.ret []))) lenD) (M.ret (.int 0)) eqD))) (retO (M.ret (.bl false))) O.nxt)
    (seqO F_is_map_1
    (retO (M.ret (.bl true)))))
def G_is_map (ds : List Dat) : O := (B_is_map (startE 2 (ds.map .val))).pur
theorem d_is_map (S : Sd K mg "is_map" "is_map" st_is_map) (D_is_row : Fd P w K mg base "is_row" "is_row" st_is_row 3 ["thing"] (spP K mg 1 G_is_row)) (z_isinstance : mg "isinstance" = none) (z_tuple : mg "tuple" = none) (z_len : mg "len" = none) :
    Fd P w K mg base "is_map" "is_map" st_is_map 4 ["thing"] (spP K mg 1 G_is_map) :=
  fd_pure S sc_is_map (fun f cdv A outer s H E hr => by
    have tk : Takes (cxOf (L2.CX P w) P w K mg base ["thing", "row"] "is_map" (defScope st_is_map) f cdv A outer s H E) (WE0 E) := takes_of rfl rfl rfl rfl
    exact (db_cons (ds_if (DW.dt (dw_or (dt_not (dt_val (de_isi (T := "tuple") tb_tuple (by decide +kernel) rfl z_isinstance rfl z_tuple (by decide +kernel) (de_var 0)))) (dw_or1 (dt_eq hr.units (de_len rfl z_len (da_cons (de_var 0) da_nil)) de_int)))) (db_one (ds_ret de_bl)) db_nil)
      (db_cons (ds_for (t := (.one 1)) (passes_of rfl) rfl (de_var 0) (pg_name (i := 1) sc_is_map.nd rfl (Or.inl rfl)) (db_one (ds_if (DW.dt (dw_or (dt_not (dt_val (c_de D_is_row bn_is_row tk hr (by decide) rfl (cons_len nil_len) (da_cons (de_var 1) da_nil)))) (dw_or1 (dt_ne hr.units (de_len rfl z_len (da_cons (de_var 1) da_nil)) (de_len rfl z_len (da_cons (de_at (de_var 0) de_int) da_nil)))))) (db_one (ds_ret de_bl)) db_nil)))
      (db_one (ds_ret de_bl)))))

/-! ### check_map -/
abbrev st_check_map : Stmt := top 18
theorem sc_check_map : FnScope ["rows"] ["rows"] (defScope st_check_map) := ⟨rfl, rfl, rfl, by decide +kernel, rfl, by decide +kernel, by decide +kernel⟩
theorem bn_check_map : Bn "check_map" "check_map" st_check_map ["rows"] := fun _ _ _ _ _ _ us hl => match us, hl with | [_], _ => rfl
def B_check_map : En → O := (ifO (M.notB (M.isB (M.call (M.cons (rdVar 0) ((M.ret []))) [] G_is_map))) (raiseO "InvalidMap" "thing" ((M.cons (rdVar 0) ((M.ret []))))) O.nxt)
def G_check_map (ds : List Dat) : O := (B_check_map (startE 1 (ds.map .val))).pur
theorem d_check_map (S : Sd K mg "check_map" "check_map" st_check_map) (D_is_map : Fd P w K mg base "is_map" "is_map" st_is_map 4 ["thing"] (spP K mg 1 G_is_map)) (x_InvalidMap : ExT K mg "InvalidMap") :
    Fd P w K mg base "check_map" "check_map" st_check_map 5 ["rows"] (spP K mg 1 G_check_map) :=
  fd_pure S sc_check_map (fun f cdv A outer s H E hr => by
    have tk : Takes (cxOf (L2.CX P w) P w K mg base ["rows"] "check_map" (defScope st_check_map) f cdv A outer s H E) (WE0 E) := takes_of rfl rfl rfl rfl
    exact (db_one (ds_if (dt_not (dt_val (c_de D_is_map bn_is_map tk hr (by decide) rfl (cons_len nil_len) (da_cons (de_var 0) da_nil)))) (db_one (ds_raiseT x_InvalidMap rfl hr tk (da_cons (de_var 0) da_nil) rfl)) db_nil)))

/-! ### mirrored -/
abbrev st_mirrored : Stmt := top 21
theorem sc_mirrored : FnScope ["rows", "row"] ["rows"] (defScope st_mirrored) := ⟨rfl, rfl, rfl, by decide +kernel, rfl, by decide +kernel, by decide +kernel⟩
theorem bn_mirrored : Bn "mirrored" "mirrored" st_mirrored ["rows"] := fun _ _ _ _ _ _ us hl => match us, hl with | [_], _ => rfl
def E_mirrored_0 : M Dat := (M.un1 (rdVar 1) revD)
def C_mirrored_1 : M (List Dat) := (M.lc (rdVar 0) (.one 1) tYesM E_mirrored_0)
def B_mirrored : En → O := (retO (M.bi (M.cons (M.frz C_mirrored_1) ((M.ret []))) tupleD))
def G_mirrored (ds : List Dat) : O := (B_mirrored (startE 2 (ds.map .val))).pur
theorem d_mirrored (S : Sd K mg "mirrored" "mirrored" st_mirrored) (z_tuple : mg "tuple" = none) :
    Fd P w K mg base "mirrored" "mirrored" st_mirrored 2 ["rows"] (spP K mg 1 G_mirrored) :=
  fd_pure S sc_mirrored (fun f cdv A outer s H E hr => by
    have tk : Takes (cxOf (L2.CX P w) P w K mg base ["rows", "row"] "mirrored" (defScope st_mirrored) f cdv A outer s H E) (WE0 E) := takes_of rfl rfl rfl rfl
    exact (db_one (ds_ret (de_tuple rfl z_tuple (da_cons (DN.de (dn_lc rfl sc_mirrored.nd (de_var 0) (own := [("row", 1)]) (t := (.one 1)) (blkOk_by (by kernel_rfl)) rfl (fun _ _ _ _ _ => (pg_name (i := 1) sc_mirrored.nd rfl (Or.inl rfl))) (fun _ _ _ _ _ => dts_nil) (fun _ _ _ _ _ => (de_rev (de_var 1))))) da_nil)))))

/-! ### turned_once -/
abbrev st_turned_once : Stmt := top 22
theorem sc_turned_once : FnScope ["rows", "from_below"] ["rows"] (defScope st_turned_once) := ⟨rfl, rfl, rfl, by decide +kernel, rfl, by decide +kernel, by decide +kernel⟩
theorem bn_turned_once : Bn "turned_once" "turned_once" st_turned_once ["rows"] := fun _ _ _ _ _ _ us hl => match us, hl with | [_], _ => rfl
def B_turned_once : En → O := (seqO (setO (M.un1 (rdVar 0) revD) 1)
    (retO (M.un1 (rdVar 1) zipSD)))
def G_turned_once (ds : List Dat) : O := (B_turned_once (startE 2 (ds.map .val))).pur
theorem d_turned_once (S : Sd K mg "turned_once" "turned_once" st_turned_once) (z_tuple : mg "tuple" = none) (z_zip : mg "zip" = none) :
    Fd P w K mg base "turned_once" "turned_once" st_turned_once 2 ["rows"] (spP K mg 1 G_turned_once) :=
  fd_pure S sc_turned_once (fun f cdv A outer s H E hr => by
    have tk : Takes (cxOf (L2.CX P w) P w K mg base ["rows", "from_below"] "turned_once" (defScope st_turned_once) f cdv A outer s H E) (WE0 E) := takes_of rfl rfl rfl rfl
    exact (db_cons (ds_set 1 sc_turned_once.nd rfl (Or.inl rfl) (de_rev (de_var 0)))
      (db_one (ds_ret (de_zipS rfl rfl z_tuple rfl z_zip (de_var 1))))))

/-! ### turned_map -/
abbrev st_turned_map : Stmt := top 23
theorem sc_turned_map : FnScope ["rows", "way", "turned", "_"] ["rows", "way"] (defScope st_turned_map) := ⟨rfl, rfl, rfl, by decide +kernel, rfl, by decide +kernel, by decide +kernel⟩
theorem bn_turned_map : Bn "turned_map" "turned_map" st_turned_map ["rows", "way"] := fun _ _ _ _ _ _ us hl => match us, hl with | [_, _], _ => rfl
def L_turned_map_0 : En → O := (setO (M.call (M.cons (rdVar 2) ((M.ret []))) [] G_turned_once) 2)
def F_turned_map_1 : En → O := (forRO rg1 (M.cons (M.bin (rdVar 1) (M.ret (.int 4)) modD) ((M.ret []))) (.one 3) L_turned_map_0)
def B_turned_map : En → O := (seqO (dropO (M.call (M.cons (rdVar 0) ((M.ret []))) [] G_check_map))
    (seqO (dropO (M.call (M.cons (rdVar 1) ((M.ret []))) [] G_check_way))
    (seqO (setO (M.ite (M.isB (M.bin (rdVar 1) (M.ret (.int 4)) ltD)) (rdVar 0) (M.call (M.cons (rdVar 0) ((M.ret []))) [] G_mirrored)) 2)
    (seqO F_turned_map_1
    (retO (rdVar 2))))))
def G_turned_map (ds : List Dat) : O := (B_turned_map (startE 4 (ds.map .val))).pur
theorem d_turned_map (S : Sd K mg "turned_map" "turned_map" st_turned_map) (D_check_map : Fd P w K mg base "check_map" "check_map" st_check_map 5 ["rows"] (spP K mg 1 G_check_map)) (D_check_way : Fd P w K mg base "check_way" "check_way" st_check_way 5 ["way"] (spP K mg 1 G_check_way)) (D_mirrored : Fd P w K mg base "mirrored" "mirrored" st_mirrored 2 ["rows"] (spP K mg 1 G_mirrored)) (D_turned_once : Fd P w K mg base "turned_once" "turned_once" st_turned_once 2 ["rows"] (spP K mg 1 G_turned_once)) (z_range : mg "range" = none) :
    Fd P w K mg base "turned_map" "turned_map" st_turned_map 6 ["rows", "way"] (spP K mg 2 G_turned_map) :=
  fd_pure S sc_turned_map (fun f cdv A outer s H E hr => by
    have tk : Takes (cxOf (L2.CX P w) P w K mg base ["rows", "way", "turned", "_"] "turned_map" (defScope st_turned_map) f cdv A outer s H E) (WE0 E) := takes_of rfl rfl rfl rfl
    exact (db_cons (ds_expr (c_de D_check_map bn_check_map tk hr (by decide) rfl (cons_len nil_len) (da_cons (de_var 0) da_nil)))
      (db_cons (ds_expr (c_de D_check_way bn_check_way tk hr (by decide) rfl (cons_len nil_len) (da_cons (de_var 1) da_nil)))
      (db_cons (ds_set 2 sc_turned_map.nd rfl (Or.inl rfl) (de_if (dt_lt (de_var 1) de_int) (de_var 0) (c_de D_mirrored bn_mirrored tk hr (by decide) rfl (cons_len nil_len) (da_cons (de_var 0) da_nil))))
      (db_cons (ds_forR1 (t := (.one 3)) (passes_of rfl) rfl rfl z_range (da_cons (de_mod (de_var 1) de_int) da_nil) (pg_name (i := 3) sc_turned_map.nd rfl (Or.inl rfl)) (db_one (ds_set 2 sc_turned_map.nd rfl (Or.inl rfl) (c_de D_turned_once bn_turned_once tk hr (by decide) rfl (cons_len nil_len) (da_cons (de_var 2) da_nil)))))
      (db_one (ds_ret (de_var 2))))))))

/-! ### turned_ends -/
abbrev st_turned_ends : Stmt := top 24
theorem sc_turned_ends : FnScope ["ends", "way"] ["ends", "way"] (defScope st_turned_ends) := ⟨rfl, rfl, rfl, by decide +kernel, rfl, by decide +kernel, by decide +kernel⟩
theorem bn_turned_ends : Bn "turned_ends" "turned_ends" st_turned_ends ["ends", "way"] := fun _ _ _ _ _ _ us hl => match us, hl with | [_, _], _ => rfl
def B_turned_ends : En → O := (seqO (dropO (M.call (M.cons (rdVar 0) ((M.ret []))) [] G_check_ends))
    (seqO (dropO (M.call (M.cons (rdVar 1) ((M.ret []))) [] G_check_way))
    (retO (M.ite (M.isB (M.bin (M.bin (rdVar 1) (M.ret (.int 2)) modD) (M.ret (.int 0)) eqD)) (rdVar 0) (M.un1 (rdVar 0) revD)))))
def G_turned_ends (ds : List Dat) : O := (B_turned_ends (startE 2 (ds.map .val))).pur
theorem d_turned_ends (S : Sd K mg "turned_ends" "turned_ends" st_turned_ends) (D_check_ends : Fd P w K mg base "check_ends" "check_ends" st_check_ends 3 ["ends"] (spP K mg 1 G_check_ends)) (D_check_way : Fd P w K mg base "check_way" "check_way" st_check_way 5 ["way"] (spP K mg 1 G_check_way)) :
    Fd P w K mg base "turned_ends" "turned_ends" st_turned_ends 6 ["ends", "way"] (spP K mg 2 G_turned_ends) :=
  fd_pure S sc_turned_ends (fun f cdv A outer s H E hr => by
    have tk : Takes (cxOf (L2.CX P w) P w K mg base ["ends", "way"] "turned_ends" (defScope st_turned_ends) f cdv A outer s H E) (WE0 E) := takes_of rfl rfl rfl rfl
    exact (db_cons (ds_expr (c_de D_check_ends bn_check_ends tk hr (by decide) rfl (cons_len nil_len) (da_cons (de_var 0) da_nil)))
      (db_cons (ds_expr (c_de D_check_way bn_check_way tk hr (by decide) rfl (cons_len nil_len) (da_cons (de_var 1) da_nil)))
      (db_one (ds_ret (de_if (dt_eq hr.units (de_mod (de_var 1) de_int) de_int) (de_var 0) (de_rev (de_var 0))))))))

/-! ### line_at -/
abbrev st_line_at : Stmt := top 25
theorem sc_line_at : FnScope ["line", "many", "end"] ["line", "many", "end"] (defScope st_line_at) := ⟨rfl, rfl, rfl, by decide +kernel, rfl, by decide +kernel, by decide +kernel⟩
theorem bn_line_at : Bn "line_at" "line_at" st_line_at ["line", "many", "end"] := fun _ _ _ _ _ _ us hl => match us, hl with | [_, _, _], _ => rfl
def B_line_at : En → O := (seqO (ifO (M.isB (M.bin (rdVar 2) (M.ret (.str "wrap")) eqD)) (retO (M.bin (rdVar 0) (rdVar 1) modD)) O.nxt)
    (retO (M.ite (M.chain (M.ret (.int 0)) (rdVar 0) (rdVar 1) leD ltD).isB (rdVar 0) (M.ret .non))))
def G_line_at (ds : List Dat) : O := (B_line_at (startE 3 (ds.map .val))).pur
theorem d_line_at (S : Sd K mg "line_at" "line_at" st_line_at)  :
    Fd P w K mg base "line_at" "line_at" st_line_at 2 ["line", "many", "end"] (spP K mg 3 G_line_at) :=
  fd_pure S sc_line_at (fun f cdv A outer s H E hr => by
    have tk : Takes (cxOf (L2.CX P w) P w K mg base ["line", "many", "end"] "line_at" (defScope st_line_at) f cdv A outer s H E) (WE0 E) := takes_of rfl rfl rfl rfl
    exact (db_cons (ds_if (dt_eq hr.units (de_var 2) de_str) (db_one (ds_ret (de_mod (de_var 0) (de_var 1)))) db_nil)
      (db_one (ds_ret (de_if (dt_chain op_le op_lt Snd2.bop Snd2.bop de_int (de_var 0) (de_var 1)) (de_var 0) de_non)))))

/-! ### kind_at -/
abbrev st_kind_at : Stmt := top 26
theorem sc_kind_at : FnScope ["rows", "row", "column", "ends", "across", "down", "real_row", "real_column"] ["rows", "row", "column", "ends"] (defScope st_kind_at) := ⟨rfl, rfl, rfl, by decide +kernel, rfl, by decide +kernel, by decide +kernel⟩
theorem bn_kind_at : Bn "kind_at" "kind_at" st_kind_at ["rows", "row", "column", "ends"] := fun _ _ _ _ _ _ us hl => match us, hl with | [_, _, _, _], _ => rfl
def B_kind_at : En → O := (seqO (unpO (rdVar 3) (.tup [4, 5]))
    (seqO (setO (M.call (M.cons (rdVar 1) ((M.cons (M.bi (M.cons (rdVar 0) ((M.ret []))) lenD) ((M.cons (rdVar 5) ((M.ret []))))))) [] G_line_at) 6)
    (seqO (setO (M.call (M.cons (rdVar 2) ((M.cons (M.bi (M.cons (M.bin (rdVar 0) (M.ret (.int 0)) ixD) ((M.ret []))) lenD) ((M.cons (rdVar 4) ((M.ret []))))))) [] G_line_at) 7)
    (seqO (ifO (M.orB (M.isB (M.bin (rdVar 6) (M.ret .non) isNoneD)) (M.isB (M.bin (rdVar 7) (M.ret .non) isNoneD))) (retO (M.ret .non)) O.nxt)
    (retO (M.bin (M.bin (rdVar 0) (rdVar 6) ixD) (rdVar 7) ixD))))))
def G_kind_at (ds : List Dat) : O := (B_kind_at (startE 8 (ds.map .val))).pur
theorem d_kind_at (S : Sd K mg "kind_at" "kind_at" st_kind_at) (D_line_at : Fd P w K mg base "line_at" "line_at" st_line_at 2 ["line", "many", "end"] (spP K mg 3 G_line_at)) (z_len : mg "len" = none) :
    Fd P w K mg base "kind_at" "kind_at" st_kind_at 3 ["rows", "row", "column", "ends"] (spP K mg 4 G_kind_at) :=
  fd_pure S sc_kind_at (fun f cdv A outer s H E hr => by
    have tk : Takes (cxOf (L2.CX P w) P w K mg base ["rows", "row", "column", "ends", "across", "down", "real_row", "real_column"] "kind_at" (defScope st_kind_at) f cdv A outer s H E) (WE0 E) := takes_of rfl rfl rfl rfl
    exact (db_cons (ds_unp (.tup [4, 5]) (de_var 3) (pg_tup rfl (pgs_cons (pg_name (i := 4) sc_kind_at.nd rfl (Or.inl rfl)) (pgs_cons (pg_name (i := 5) sc_kind_at.nd rfl (Or.inl rfl)) pgs_nil))))
      (db_cons (ds_set 6 sc_kind_at.nd rfl (Or.inl rfl) (c_de D_line_at bn_line_at tk hr (by decide) rfl (cons_len (cons_len (cons_len nil_len))) (da_cons (de_var 1) (da_cons (de_len rfl z_len (da_cons (de_var 0) da_nil)) (da_cons (de_var 5) da_nil)))))
      (db_cons (ds_set 7 sc_kind_at.nd rfl (Or.inl rfl) (c_de D_line_at bn_line_at tk hr (by decide) rfl (cons_len (cons_len (cons_len nil_len))) (da_cons (de_var 2) (da_cons (de_len rfl z_len (da_cons (de_at (de_var 0) de_int) da_nil)) (da_cons (de_var 4) da_nil)))))
      (db_cons (ds_if (DW.dt (dw_or (dt_isN (de_var 6) de_non) (dw_or1 (dt_isN (de_var 7) de_non)))) (db_one (ds_ret de_non)) db_nil)
      (db_one (ds_ret (de_at (de_at (de_var 0) (de_var 6)) (de_var 7)))))))))

/-! ### kinds_around -/
abbrev st_kinds_around : Stmt := top 27
theorem sc_kinds_around : FnScope ["rows", "row", "column", "ends", "below", "right"] ["rows", "row", "column", "ends"] (defScope st_kinds_around) := ⟨rfl, rfl, rfl, by decide +kernel, rfl, by decide +kernel, by decide +kernel⟩
theorem bn_kinds_around : Bn "kinds_around" "kinds_around" st_kinds_around ["rows", "row", "column", "ends"] := fun _ _ _ _ _ _ us hl => match us, hl with | [_, _, _, _], _ => rfl
def E_kinds_around_0 : M Dat := (M.call (M.cons (rdVar 0) ((M.cons (M.bin (rdVar 1) (rdVar 4) addD) ((M.cons (M.bin (rdVar 2) (rdVar 5) addD) ((M.cons (rdVar 3) ((M.ret []))))))))) [] G_kind_at)
def C_kinds_around_1 : M (List Dat) := (M.lc (M.ret k_STEPS) (.tup [4, 5]) tYesM E_kinds_around_0)
def B_kinds_around : En → O := (retO (M.bi (M.cons (M.frz C_kinds_around_1) ((M.ret []))) tupleD))
def G_kinds_around (ds : List Dat) : O := (B_kinds_around (startE 6 (ds.map .val))).pur
theorem d_kinds_around (S : Sd K mg "kinds_around" "kinds_around" st_kinds_around) (D_kind_at : Fd P w K mg base "kind_at" "kind_at" st_kind_at 3 ["rows", "row", "column", "ends"] (spP K mg 4 G_kind_at)) (z_tuple : mg "tuple" = none) (c_STEPS : mg "STEPS" = some v_STEPS ∧ RelV u_STEPS v_STEPS ∧ KRep K u_STEPS k_STEPS) :
    Fd P w K mg base "kinds_around" "kinds_around" st_kinds_around 4 ["rows", "row", "column", "ends"] (spP K mg 4 G_kinds_around) :=
  fd_pure S sc_kinds_around (fun f cdv A outer s H E hr => by
    have tk : Takes (cxOf (L2.CX P w) P w K mg base ["rows", "row", "column", "ends", "below", "right"] "kinds_around" (defScope st_kinds_around) f cdv A outer s H E) (WE0 E) := takes_of rfl rfl rfl rfl
    exact (db_one (ds_ret (de_tuple rfl z_tuple (da_cons (DN.de (dn_lc rfl sc_kinds_around.nd (de_glob rfl c_STEPS.1 c_STEPS.2.1 c_STEPS.2.2) (own := [("below", 4), ("right", 5)]) (t := (.tup [4, 5])) (blkOk_by (by kernel_rfl)) rfl (fun _ _ _ _ _ => (pg_tup rfl (pgs_cons (pg_name (i := 4) sc_kinds_around.nd rfl (Or.inl rfl)) (pgs_cons (pg_name (i := 5) sc_kinds_around.nd rfl (Or.inl rfl)) pgs_nil)))) (fun _ _ _ _ _ => dts_nil) (fun _ _ _ _ _ => (c_de D_kind_at bn_kind_at takes0 hr (by decide) rfl (cons_len (cons_len (cons_len (cons_len nil_len)))) (da_cons (de_var 0) (da_cons (de_add (de_var 1) (de_var 4)) (da_cons (de_add (de_var 2) (de_var 5)) (da_cons (de_var 3) da_nil)))))))) da_nil)))))

/-! ### window -/
abbrev st_window : Stmt := top 28
theorem sc_window : FnScope ["rows", "row", "column", "ends"] ["rows", "row", "column", "ends"] (defScope st_window) := ⟨rfl, rfl, rfl, by decide +kernel, rfl, by decide +kernel, by decide +kernel⟩
theorem bk_window_3_ends : Bd "window" "window" st_window ["rows", "row", "column", "ends"] ["ends"] 3 [0, 1, 2, 3] := fun _ _ _ _ _ _ us ws h1 h2 => match us, ws, h1, h2 with | [_, _, _], [_], _, _ => rfl
def B_window : En → O := (seqO (dropO (M.call (M.cons (rdVar 0) ((M.ret []))) [] G_check_map))
    (seqO (dropO (M.call (M.cons (rdVar 1) ((M.cons (M.bi (M.cons (rdVar 0) ((M.ret []))) lenD) ((M.ret []))))) [] G_check_cell))
    (seqO (dropO (M.call (M.cons (rdVar 2) ((M.cons (M.bi (M.cons (M.bin (rdVar 0) (M.ret (.int 0)) ixD) ((M.ret []))) lenD) ((M.ret []))))) [] G_check_cell))
    (seqO (dropO (M.call (M.cons (rdVar 3) ((M.ret []))) [] G_check_ends))
    (retO (M.tup (M.cons (M.bin (M.bin (rdVar 0) (rdVar 1) ixD) (rdVar 2) ixD) ((M.cons (M.call (M.cons (rdVar 0) ((M.cons (rdVar 1) ((M.cons (rdVar 2) ((M.cons (rdVar 3) ((M.ret []))))))))) [] G_kinds_around) ((M.ret [])))))))))))
def G_window (ds : List Dat) : O := (B_window (startE 4 (ds.map .val))).pur
theorem d_window (S : Sd K mg "window" "window" st_window) (D_check_map : Fd P w K mg base "check_map" "check_map" st_check_map 5 ["rows"] (spP K mg 1 G_check_map)) (D_check_cell : Fd P w K mg base "check_cell" "check_cell" st_check_cell 4 ["line", "limit"] (spP K mg 2 G_check_cell)) (D_check_ends : Fd P w K mg base "check_ends" "check_ends" st_check_ends 3 ["ends"] (spP K mg 1 G_check_ends)) (D_kinds_around : Fd P w K mg base "kinds_around" "kinds_around" st_kinds_around 4 ["rows", "row", "column", "ends"] (spP K mg 4 G_kinds_around)) (z_len : mg "len" = none) :
    Fd P w K mg base "window" "window" st_window 6 ["rows", "row", "column", "ends"] (spP K mg 4 G_window) :=
  fd_pure S sc_window (fun f cdv A outer s H E hr => by
    have tk : Takes (cxOf (L2.CX P w) P w K mg base ["rows", "row", "column", "ends"] "window" (defScope st_window) f cdv A outer s H E) (WE0 E) := takes_of rfl rfl rfl rfl
    exact (db_cons (ds_expr (c_de D_check_map bn_check_map tk hr (by decide) rfl (cons_len nil_len) (da_cons (de_var 0) da_nil)))
      (db_cons (ds_expr (c_de D_check_cell bn_check_cell tk hr (by decide) rfl (cons_len (cons_len nil_len)) (da_cons (de_var 1) (da_cons (de_len rfl z_len (da_cons (de_var 0) da_nil)) da_nil))))
      (db_cons (ds_expr (c_de D_check_cell bn_check_cell tk hr (by decide) rfl (cons_len (cons_len nil_len)) (da_cons (de_var 2) (da_cons (de_len rfl z_len (da_cons (de_at (de_var 0) de_int) da_nil)) da_nil))))
      (db_cons (ds_expr (c_de D_check_ends bn_check_ends tk hr (by decide) rfl (cons_len nil_len) (da_cons (de_var 3) da_nil)))
      (db_one (ds_ret (de_tup (da_cons (de_at (de_at (de_var 0) (de_var 1)) (de_var 2)) (da_cons (c_de D_kinds_around bn_kinds_around tk hr (by decide) rfl (cons_len (cons_len (cons_len (cons_len nil_len)))) (da_cons (de_var 0) (da_cons (de_var 1) (da_cons (de_var 2) (da_cons (de_var 3) da_nil))))) da_nil))))))))))

/-! ### behind -/
abbrev st_behind : Stmt := top 30
theorem sc_behind : FnScope ["way", "first_way"] ["way", "first_way"] (defScope st_behind) := ⟨rfl, rfl, rfl, by decide +kernel, rfl, by decide +kernel, by decide +kernel⟩
theorem bn_behind : Bn "behind" "behind" st_behind ["way", "first_way"] := fun _ _ _ _ _ _ us hl => match us, hl with | [_, _], _ => rfl
def B_behind : En → O := (seqO (dropO (M.call (M.cons (rdVar 0) ((M.ret []))) [] G_check_way))
    (seqO (dropO (M.call (M.cons (rdVar 1) ((M.ret []))) [] G_check_way))
    (seqO (ifO (M.isB (M.bin (rdVar 0) (M.ret (.int 4)) ltD)) (retO (M.bin (M.bin (M.bin (rdVar 1) (M.ret (.int 4)) fdivD) (M.ret (.int 4)) mulD) (M.bin (M.bin (rdVar 0) (rdVar 1) addD) (M.ret (.int 4)) modD) addD)) O.nxt)
    (retO (M.bin (M.bin (M.bin (M.ret (.int 1)) (M.bin (rdVar 1) (M.ret (.int 4)) fdivD) subD) (M.ret (.int 4)) mulD) (M.bin (M.bin (rdVar 0) (rdVar 1) subD) (M.ret (.int 4)) modD) addD)))))
def G_behind (ds : List Dat) : O := (B_behind (startE 2 (ds.map .val))).pur
theorem d_behind (S : Sd K mg "behind" "behind" st_behind) (D_check_way : Fd P w K mg base "check_way" "check_way" st_check_way 5 ["way"] (spP K mg 1 G_check_way)) :
    Fd P w K mg base "behind" "behind" st_behind 6 ["way", "first_way"] (spP K mg 2 G_behind) :=
  fd_pure S sc_behind (fun f cdv A outer s H E hr => by
    have tk : Takes (cxOf (L2.CX P w) P w K mg base ["way", "first_way"] "behind" (defScope st_behind) f cdv A outer s H E) (WE0 E) := takes_of rfl rfl rfl rfl
    exact (db_cons (ds_expr (c_de D_check_way bn_check_way tk hr (by decide) rfl (cons_len nil_len) (da_cons (de_var 0) da_nil)))
      (db_cons (ds_expr (c_de D_check_way bn_check_way tk hr (by decide) rfl (cons_len nil_len) (da_cons (de_var 1) da_nil)))
      (db_cons (ds_if (dt_lt (de_var 0) de_int) (db_one (ds_ret (de_add (de_mul (de_fdiv (de_var 1) de_int) de_int) (de_mod (de_add (de_var 0) (de_var 1)) de_int)))) db_nil)
      (db_one (ds_ret (de_add (de_mul (de_sub de_int (de_fdiv (de_var 1) de_int)) de_int) (de_mod (de_sub (de_var 0) (de_var 1)) de_int))))))))

/-! ### inverse -/
abbrev st_inverse : Stmt := top 31
theorem sc_inverse : FnScope ["way"] ["way"] (defScope st_inverse) := ⟨rfl, rfl, rfl, by decide +kernel, rfl, by decide +kernel, by decide +kernel⟩
theorem bn_inverse : Bn "inverse" "inverse" st_inverse ["way"] := fun _ _ _ _ _ _ us hl => match us, hl with | [_], _ => rfl
def B_inverse : En → O := (seqO (dropO (M.call (M.cons (rdVar 0) ((M.ret []))) [] G_check_way))
    (seqO (ifO (M.isB (M.bin (rdVar 0) (M.ret (.int 4)) ltD)) (retO (M.bin (M.bin (M.ret (.int 4)) (rdVar 0) subD) (M.ret (.int 4)) modD)) O.nxt)
    (retO (rdVar 0))))
def G_inverse (ds : List Dat) : O := (B_inverse (startE 1 (ds.map .val))).pur
theorem d_inverse (S : Sd K mg "inverse" "inverse" st_inverse) (D_check_way : Fd P w K mg base "check_way" "check_way" st_check_way 5 ["way"] (spP K mg 1 G_check_way)) :
    Fd P w K mg base "inverse" "inverse" st_inverse 6 ["way"] (spP K mg 1 G_inverse) :=
  fd_pure S sc_inverse (fun f cdv A outer s H E hr => by
    have tk : Takes (cxOf (L2.CX P w) P w K mg base ["way"] "inverse" (defScope st_inverse) f cdv A outer s H E) (WE0 E) := takes_of rfl rfl rfl rfl
    exact (db_cons (ds_expr (c_de D_check_way bn_check_way tk hr (by decide) rfl (cons_len nil_len) (da_cons (de_var 0) da_nil)))
      (db_cons (ds_if (dt_lt (de_var 0) de_int) (db_one (ds_ret (de_mod (de_sub de_int (de_var 0)) de_int))) db_nil)
      (db_one (ds_ret (de_var 0))))))

/-! ### place_to -/
abbrev st_place_to : Stmt := top 32
theorem sc_place_to : FnScope ["way", "place"] ["way", "place"] (defScope st_place_to) := ⟨rfl, rfl, rfl, by decide +kernel, rfl, by decide +kernel, by decide +kernel⟩
theorem bn_place_to : Bn "place_to" "place_to" st_place_to ["way", "place"] := fun _ _ _ _ _ _ us hl => match us, hl with | [_, _], _ => rfl
def B_place_to : En → O := (seqO (dropO (M.call (M.cons (rdVar 0) ((M.ret []))) [] G_check_way))
    (seqO (dropO (M.call (M.cons (rdVar 1) ((M.cons (M.ret (.int 8)) ((M.ret []))))) [] G_check_number))
    (seqO (ifO (M.isB (M.bin (rdVar 0) (M.ret (.int 4)) ltD)) (retO (M.bin (M.bin (rdVar 1) (M.bin (M.ret (.int 2)) (rdVar 0) mulD) addD) (M.ret (.int 8)) modD)) O.nxt)
    (retO (M.bin (M.bin (M.bin (M.ret (.int 2)) (rdVar 1) subD) (M.bin (M.ret (.int 2)) (rdVar 0) mulD) addD) (M.ret (.int 8)) modD)))))
def G_place_to (ds : List Dat) : O := (B_place_to (startE 2 (ds.map .val))).pur
theorem d_place_to (S : Sd K mg "place_to" "place_to" st_place_to) (D_check_way : Fd P w K mg base "check_way" "check_way" st_check_way 5 ["way"] (spP K mg 1 G_check_way)) (D_check_number : Fd P w K mg base "check_number" "check_number" st_check_number 4 ["number", "limit"] (spP K mg 2 G_check_number)) :
    Fd P w K mg base "place_to" "place_to" st_place_to 6 ["way", "place"] (spP K mg 2 G_place_to) :=
  fd_pure S sc_place_to (fun f cdv A outer s H E hr => by
    have tk : Takes (cxOf (L2.CX P w) P w K mg base ["way", "place"] "place_to" (defScope st_place_to) f cdv A outer s H E) (WE0 E) := takes_of rfl rfl rfl rfl
    exact (db_cons (ds_expr (c_de D_check_way bn_check_way tk hr (by decide) rfl (cons_len nil_len) (da_cons (de_var 0) da_nil)))
      (db_cons (ds_expr (c_de D_check_number bn_check_number tk hr (by decide) rfl (cons_len (cons_len nil_len)) (da_cons (de_var 1) (da_cons de_int da_nil))))
      (db_cons (ds_if (dt_lt (de_var 0) de_int) (db_one (ds_ret (de_mod (de_add (de_var 1) (de_mul de_int (de_var 0))) de_int))) db_nil)
      (db_one (ds_ret (de_mod (de_add (de_sub de_int (de_var 1)) (de_mul de_int (de_var 0))) de_int)))))))

/-! ### side_to -/
abbrev st_side_to : Stmt := top 33
theorem sc_side_to : FnScope ["way", "side"] ["way", "side"] (defScope st_side_to) := ⟨rfl, rfl, rfl, by decide +kernel, rfl, by decide +kernel, by decide +kernel⟩
theorem bn_side_to : Bn "side_to" "side_to" st_side_to ["way", "side"] := fun _ _ _ _ _ _ us hl => match us, hl with | [_, _], _ => rfl
def B_side_to : En → O := (seqO (dropO (M.call (M.cons (rdVar 0) ((M.ret []))) [] G_check_way))
    (seqO (dropO (M.call (M.cons (rdVar 1) ((M.cons (M.ret (.int 4)) ((M.ret []))))) [] G_check_number))
    (seqO (ifO (M.isB (M.bin (rdVar 0) (M.ret (.int 4)) ltD)) (retO (M.bin (M.bin (rdVar 1) (rdVar 0) addD) (M.ret (.int 4)) modD)) O.nxt)
    (retO (M.bin (M.bin (rdVar 0) (rdVar 1) subD) (M.ret (.int 4)) modD)))))
def G_side_to (ds : List Dat) : O := (B_side_to (startE 2 (ds.map .val))).pur
theorem d_side_to (S : Sd K mg "side_to" "side_to" st_side_to) (D_check_way : Fd P w K mg base "check_way" "check_way" st_check_way 5 ["way"] (spP K mg 1 G_check_way)) (D_check_number : Fd P w K mg base "check_number" "check_number" st_check_number 4 ["number", "limit"] (spP K mg 2 G_check_number)) :
    Fd P w K mg base "side_to" "side_to" st_side_to 6 ["way", "side"] (spP K mg 2 G_side_to) :=
  fd_pure S sc_side_to (fun f cdv A outer s H E hr => by
    have tk : Takes (cxOf (L2.CX P w) P w K mg base ["way", "side"] "side_to" (defScope st_side_to) f cdv A outer s H E) (WE0 E) := takes_of rfl rfl rfl rfl
    exact (db_cons (ds_expr (c_de D_check_way bn_check_way tk hr (by decide) rfl (cons_len nil_len) (da_cons (de_var 0) da_nil)))
      (db_cons (ds_expr (c_de D_check_number bn_check_number tk hr (by decide) rfl (cons_len (cons_len nil_len)) (da_cons (de_var 1) (da_cons de_int da_nil))))
      (db_cons (ds_if (dt_lt (de_var 0) de_int) (db_one (ds_ret (de_mod (de_add (de_var 1) (de_var 0)) de_int))) db_nil)
      (db_one (ds_ret (de_mod (de_sub (de_var 0) (de_var 1)) de_int)))))))

/-! ### _law_mixed -/
abbrev st_L_mixed : Stmt := top 35
theorem sc_L_mixed : FnScope ["cell", "k", "stirred"] ["cell", "k"] (defScope st_L_mixed) := ⟨rfl, rfl, rfl, by decide +kernel, rfl, by decide +kernel, by decide +kernel⟩
theorem bn_L_mixed : Bn "_law_mixed" "_law_mixed" st_L_mixed ["cell", "k"] := fun _ _ _ _ _ _ us hl => match us, hl with | [_, _], _ => rfl
def B_L_mixed : En → O := (seqO (setO (M.bin (M.bi (M.cons (M.bin (M.bin (M.bin (M.bin (rdVar 0) (M.ret (.int 2654435761)) mulD) (M.bin (M.bin (M.ret (.int 40503)) (rdVar 1) mulD) (rdVar 1) mulD) addD) (M.bin (M.ret (.int 97)) (rdVar 1) mulD) addD) (M.ret (.int 13)) addD) ((M.ret []))) intD) (M.ret (.int 2147483647)) modD) 2)
    (retO (M.bin (M.bin (M.bi (M.cons (M.bin (M.bin (M.bin (rdVar 2) (rdVar 2) mulD) (M.bin (M.ret (.int 7)) (rdVar 2) mulD) addD) (M.ret (.int 11)) addD) ((M.ret []))) intD) (M.ret (.int 2147483629)) modD) (M.ret (.int 3)) fdivD)))
def G_L_mixed (ds : List Dat) : O := (B_L_mixed (startE 3 (ds.map .val))).pur
theorem d_L_mixed (S : Sd K mg "_law_mixed" "_law_mixed" st_L_mixed) (z_int : mg "int" = none) :
    Fd P w K mg base "_law_mixed" "_law_mixed" st_L_mixed 2 ["cell", "k"] (spP K mg 2 G_L_mixed) :=
  fd_pure S sc_L_mixed (fun f cdv A outer s H E hr => by
    have tk : Takes (cxOf (L2.CX P w) P w K mg base ["cell", "k", "stirred"] "_law_mixed" (defScope st_L_mixed) f cdv A outer s H E) (WE0 E) := takes_of rfl rfl rfl rfl
    exact (db_cons (ds_set 2 sc_L_mixed.nd rfl (Or.inl rfl) (de_mod (de_int1 rfl z_int (da_cons (de_add (de_add (de_add (de_mul (de_var 0) de_int) (de_mul (de_mul de_int (de_var 1)) (de_var 1))) (de_mul de_int (de_var 1))) de_int) da_nil)) de_int))
      (db_one (ds_ret (de_fdiv (de_mod (de_int1 rfl z_int (da_cons (de_add (de_add (de_mul (de_var 2) (de_var 2)) (de_mul de_int (de_var 2))) de_int) da_nil)) de_int) de_int)))))

/-! ### _law_purse -/
abbrev st_L_purse : Stmt := top 36
theorem sc_L_purse : FnScope ["cells", "at", "cell"] ["cells", "at"] (defScope st_L_purse) := ⟨rfl, rfl, rfl, by decide +kernel, rfl, by decide +kernel, by decide +kernel⟩
theorem bn_L_purse : Bn "_law_purse" "_law_purse" st_L_purse ["cells", "at"] := fun _ _ _ _ _ _ us hl => match us, hl with | [_, _], _ => rfl
def B_L_purse : En → O := (seqO (setO (M.ret (.int 0)) 2)
    (seqO (ifO (M.isB (M.bin (rdVar 1) (M.bi (M.cons (rdVar 0) ((M.ret []))) lenD) ltD)) (setO (M.bin (rdVar 0) (rdVar 1) ixD) 2) O.nxt)
    (retL (M.cons (M.bin (M.bi (M.cons (M.bi (M.cons (M.bin (rdVar 2) (M.bin (M.ret (.int 10)) (M.ret (.int 18)) powD) subD) ((M.cons (M.ret (.int 0)) ((M.ret []))))) max2D) ((M.ret []))) intD) (M.bin (M.bin (M.ret (.int 10)) (M.ret (.int 60)) powD) (M.ret (.int 8)) powD) modD) ((M.cons (M.bin (M.bi (M.cons (rdVar 2) ((M.ret []))) intD) (M.ret (.int 2147483647)) modD) ((M.cons (M.bin (M.ret (.int 1000)) (rdVar 1) mulD) ((M.ret []))))))))))
def G_L_purse (ds : List Dat) : O := (B_L_purse (startE 3 (ds.map .val))).pur
theorem d_L_purse (S : Sd K mg "_law_purse" "_law_purse" st_L_purse) (z_len : mg "len" = none) (z_int : mg "int" = none) (z_max : mg "max" = none) :
    Fd P w K mg base "_law_purse" "_law_purse" st_L_purse 2 ["cells", "at"] (spP K mg 2 G_L_purse) :=
  fd_pure S sc_L_purse (fun f cdv A outer s H E hr => by
    have tk : Takes (cxOf (L2.CX P w) P w K mg base ["cells", "at", "cell"] "_law_purse" (defScope st_L_purse) f cdv A outer s H E) (WE0 E) := takes_of rfl rfl rfl rfl
    exact (db_cons (ds_set 2 sc_L_purse.nd rfl (Or.inl rfl) de_int)
      (db_cons (ds_if (dt_lt (de_var 1) (de_len rfl z_len (da_cons (de_var 0) da_nil))) (db_one (ds_set 2 sc_L_purse.nd rfl (Or.inl rfl) (de_at (de_var 0) (de_var 1)))) db_nil)
      (db_one (ds_retL (da_cons (de_mod (de_int1 rfl z_int (da_cons (de_max2 rfl rfl z_max (da_cons (de_sub (de_var 2) (de_pow de_int de_int)) (da_cons de_int da_nil))) da_nil)) (de_pow (de_pow de_int de_int) de_int)) (da_cons (de_mod (de_int1 rfl z_int (da_cons (de_var 2) da_nil)) de_int) (da_cons (de_mul de_int (de_var 1)) da_nil))))))))

/-! ### _law_draw -/
abbrev st_L_draw : Stmt := top 37
theorem sc_L_draw : FnScope ["purse", "out_of", "drawn"] ["purse", "out_of"] (defScope st_L_draw) := ⟨rfl, rfl, rfl, by decide +kernel, rfl, by decide +kernel, by decide +kernel⟩
theorem bn_L_draw : Bn "_law_draw" "_law_draw" st_L_draw ["purse", "out_of"] := fun _ _ _ _ _ _ us hl => match us, hl with | [_, _], _ => rfl
def B_L_draw : En → O := (seqO (ifO (M.isB (M.bin (ixVar 0 (M.ret (.int 0))) (M.ret (.int 0)) gtD)) (seqO (setO (M.bin (M.bi (M.cons (ixVar 0 (M.ret (.int 0))) ((M.ret []))) intD) (rdVar 1) modD) 2)
    (seqO (subO 0 (M.ret (.int 0)) (M.bin (ixVar 0 (M.ret (.int 0))) (rdVar 1) fdivD))
    (retO (rdVar 2)))) O.nxt)
    (seqO (subO 0 (M.ret (.int 2)) (M.bin (ixVar 0 (M.ret (.int 2))) (M.ret (.int 1)) addD))
    (retO (M.bin (M.bi (M.cons (M.call (M.cons (ixVar 0 (M.ret (.int 1))) ((M.cons (ixVar 0 (M.ret (.int 2))) ((M.ret []))))) [] G_L_mixed) ((M.ret []))) intD) (rdVar 1) modD))))
def G_L_draw (xs ds : List Dat) : O := (B_L_draw (startE 3 (.ino xs :: ds.map .val))).inp
theorem d_L_draw (S : Sd K mg "_law_draw" "_law_draw" st_L_draw) (D_L_mixed : Fd P w K mg base "_law_mixed" "_law_mixed" st_L_mixed 2 ["cell", "k"] (spP K mg 2 G_L_mixed)) (z_int : mg "int" = none) :
    Fd P w K mg base "_law_draw" "_law_draw" st_L_draw 3 ["purse", "out_of"] (spI K mg 2 G_L_draw) :=
  fd_ino S sc_L_draw (fun f cdv A outer s H E hr => by
    have tk : Takes (cxOf (L2.CX P w) P w K mg base ["purse", "out_of", "drawn"] "_law_draw" (defScope st_L_draw) f cdv A outer s H E) (WE0 E) := takes_of rfl rfl rfl rfl
    exact (db_cons (ds_if (dt_gt (de_ixVar 0 de_int) de_int) (db_cons (ds_set 2 sc_L_draw.nd rfl (Or.inl rfl) (de_mod (de_int1 rfl z_int (da_cons (de_ixVar 0 de_int) da_nil)) (de_var 1)))
      (db_cons (ds_sub 0 rfl (de_fdiv (de_ixVar 0 de_int) (de_var 1)) de_int (hg := fun t h => pg_sub (pv 0) de_int h))
      (db_one (ds_ret (de_var 2))))) db_nil)
      (db_cons (ds_sub 0 rfl (de_add (de_ixVar 0 de_int) de_int) de_int (hg := fun t h => pg_sub (pv 0) de_int h))
      (db_one (ds_ret (de_mod (de_int1 rfl z_int (da_cons (c_de D_L_mixed bn_L_mixed tk hr (by decide) rfl (cons_len (cons_len nil_len)) (da_cons (de_ixVar 0 de_int) (da_cons (de_ixVar 0 de_int) da_nil))) da_nil)) (de_var 1)))))))

/-! ### _law_great -/
abbrev st_L_great : Stmt := top 38
theorem sc_L_great : FnScope ["purse", "figures", "found", "turn"] ["purse", "figures"] (defScope st_L_great) := ⟨rfl, rfl, rfl, by decide +kernel, rfl, by decide +kernel, by decide +kernel⟩
theorem bn_L_great : Bn "_law_great" "_law_great" st_L_great ["purse", "figures"] := fun _ _ _ _ _ _ us hl => match us, hl with | [_, _], _ => rfl
def L_L_great_0 : En → O := (setO (M.bin (M.bin (M.ret (.int 10)) (rdVar 2) mulD) (M.callI 0 ((M.cons (M.ret (.int 10)) ((M.ret [])))) G_L_draw) addD) 2)
def F_L_great_1 : En → O := (forRO rg1 (M.cons (rdVar 1) ((M.ret []))) (.one 3) L_L_great_0)
def B_L_great : En → O := (seqO (setO (M.ret (.int 0)) 2)
    (seqO F_L_great_1
    (retO (rdVar 2))))
def G_L_great (xs ds : List Dat) : O := (B_L_great (startE 4 (.ino xs :: ds.map .val))).inp
theorem d_L_great (S : Sd K mg "_law_great" "_law_great" st_L_great) (D_L_draw : Fd P w K mg base "_law_draw" "_law_draw" st_L_draw 3 ["purse", "out_of"] (spI K mg 2 G_L_draw)) (z_range : mg "range" = none) :
    Fd P w K mg base "_law_great" "_law_great" st_L_great 4 ["purse", "figures"] (spI K mg 2 G_L_great) :=
  fd_ino S sc_L_great (fun f cdv A outer s H E hr => by
    have tk : Takes (cxOf (L2.CX P w) P w K mg base ["purse", "figures", "found", "turn"] "_law_great" (defScope st_L_great) f cdv A outer s H E) (WE0 E) := takes_of rfl rfl rfl rfl
    exact (db_cons (ds_set 2 sc_L_great.nd rfl (Or.inl rfl) de_int)
      (db_cons (ds_forR1 (t := (.one 3)) (passes_of rfl) rfl rfl z_range (da_cons (de_var 1) da_nil) (pg_name (i := 3) sc_L_great.nd rfl (Or.inl rfl)) (db_one (ds_set 2 sc_L_great.nd rfl (Or.inl rfl) (de_add (de_mul de_int (de_var 2)) (c_di 0 D_L_draw bn_L_draw tk hr (by decide) rfl (fun ρ ds ρ' h => congrArg (· + 1) ((cons_len nil_len) ρ ds ρ' h)) (da_cons de_int da_nil))))))
      (db_one (ds_ret (de_var 2))))))

/-! ### _law_asked -/
abbrev st_L_asked : Stmt := top 39
theorem sc_L_asked : FnScope ["kind", "some"] ["kind", "some"] (defScope st_L_asked) := ⟨rfl, rfl, rfl, by decide +kernel, rfl, by decide +kernel, by decide +kernel⟩
theorem bn_L_asked : Bn "_law_asked" "_law_asked" st_L_asked ["kind", "some"] := fun _ _ _ _ _ _ us hl => match us, hl with | [_, _], _ => rfl
def B_L_asked : En → O := (seqO (ifO (M.isB (M.bin (rdVar 0) (M.ret (.int 0)) eqD)) (retO (M.call (M.cons (M.bin (rdVar 1) (M.ret (.int 0)) ixD) ((M.cons (M.bin (rdVar 1) (M.ret (.int 1)) ixD) ((M.ret []))))) [] G_behind)) O.nxt)
    (seqO (ifO (M.isB (M.bin (rdVar 0) (M.ret (.int 1)) eqD)) (retO (M.call (M.cons (M.bin (rdVar 1) (M.ret (.int 0)) ixD) ((M.ret []))) [] G_inverse)) O.nxt)
    (seqO (ifO (M.isB (M.bin (rdVar 0) (M.ret (.int 2)) eqD)) (retO (M.call (M.cons (M.bin (rdVar 1) (M.ret (.int 0)) ixD) ((M.cons (M.bin (rdVar 1) (M.ret (.int 1)) ixD) ((M.ret []))))) [] G_place_to)) O.nxt)
    (seqO (ifO (M.isB (M.bin (rdVar 0) (M.ret (.int 3)) eqD)) (retO (M.call (M.cons (M.bin (rdVar 1) (M.ret (.int 0)) ixD) ((M.cons (M.bin (rdVar 1) (M.ret (.int 1)) ixD) ((M.ret []))))) [] G_side_to)) O.nxt)
    (seqO (ifO (M.isB (M.bin (rdVar 0) (M.ret (.int 4)) eqD)) (retO (M.call (M.cons (M.bin (rdVar 1) (M.ret (.int 0)) ixD) ((M.cons (M.bin (rdVar 1) (M.ret (.int 1)) ixD) ((M.ret []))))) [] G_turned_map)) O.nxt)
    (seqO (ifO (M.isB (M.bin (rdVar 0) (M.ret (.int 5)) eqD)) (retO (M.call (M.cons (M.bin (rdVar 1) (M.ret (.int 0)) ixD) ((M.cons (M.bin (rdVar 1) (M.ret (.int 1)) ixD) ((M.ret []))))) [] G_turned_ends)) O.nxt)
    (retO (M.callK (M.cons (M.bin (rdVar 1) (M.ret (.int 0)) ixD) ((M.cons (M.bin (rdVar 1) (M.ret (.int 1)) ixD) ((M.cons (M.bin (rdVar 1) (M.ret (.int 2)) ixD) ((M.ret []))))))) ((M.cons (M.bin (rdVar 1) (M.ret (.int 3)) ixD) ((M.ret [])))) [0, 1, 2, 3] [] G_window))))))))
def G_L_asked (ds : List Dat) : O := (B_L_asked (startE 2 (ds.map .val))).pur
theorem d_L_asked (S : Sd K mg "_law_asked" "_law_asked" st_L_asked) (D_behind : Fd P w K mg base "behind" "behind" st_behind 6 ["way", "first_way"] (spP K mg 2 G_behind)) (D_inverse : Fd P w K mg base "inverse" "inverse" st_inverse 6 ["way"] (spP K mg 1 G_inverse)) (D_place_to : Fd P w K mg base "place_to" "place_to" st_place_to 6 ["way", "place"] (spP K mg 2 G_place_to)) (D_side_to : Fd P w K mg base "side_to" "side_to" st_side_to 6 ["way", "side"] (spP K mg 2 G_side_to)) (D_turned_map : Fd P w K mg base "turned_map" "turned_map" st_turned_map 6 ["rows", "way"] (spP K mg 2 G_turned_map)) (D_turned_ends : Fd P w K mg base "turned_ends" "turned_ends" st_turned_ends 6 ["ends", "way"] (spP K mg 2 G_turned_ends)) (D_window : Fd P w K mg base "window" "window" st_window 6 ["rows", "row", "column", "ends"] (spP K mg 4 G_window)) :
    Fd P w K mg base "_law_asked" "_law_asked" st_L_asked 7 ["kind", "some"] (spP K mg 2 G_L_asked) :=
  fd_pure S sc_L_asked (fun f cdv A outer s H E hr => by
    have tk : Takes (cxOf (L2.CX P w) P w K mg base ["kind", "some"] "_law_asked" (defScope st_L_asked) f cdv A outer s H E) (WE0 E) := takes_of rfl rfl rfl rfl
    exact (db_cons (ds_if (dt_eq hr.units (de_var 0) de_int) (db_one (ds_ret (c_de D_behind bn_behind tk hr (by decide) rfl (cons_len (cons_len nil_len)) (da_cons (de_at (de_var 1) de_int) (da_cons (de_at (de_var 1) de_int) da_nil))))) db_nil)
      (db_cons (ds_if (dt_eq hr.units (de_var 0) de_int) (db_one (ds_ret (c_de D_inverse bn_inverse tk hr (by decide) rfl (cons_len nil_len) (da_cons (de_at (de_var 1) de_int) da_nil)))) db_nil)
      (db_cons (ds_if (dt_eq hr.units (de_var 0) de_int) (db_one (ds_ret (c_de D_place_to bn_place_to tk hr (by decide) rfl (cons_len (cons_len nil_len)) (da_cons (de_at (de_var 1) de_int) (da_cons (de_at (de_var 1) de_int) da_nil))))) db_nil)
      (db_cons (ds_if (dt_eq hr.units (de_var 0) de_int) (db_one (ds_ret (c_de D_side_to bn_side_to tk hr (by decide) rfl (cons_len (cons_len nil_len)) (da_cons (de_at (de_var 1) de_int) (da_cons (de_at (de_var 1) de_int) da_nil))))) db_nil)
      (db_cons (ds_if (dt_eq hr.units (de_var 0) de_int) (db_one (ds_ret (c_de D_turned_map bn_turned_map tk hr (by decide) rfl (cons_len (cons_len nil_len)) (da_cons (de_at (de_var 1) de_int) (da_cons (de_at (de_var 1) de_int) da_nil))))) db_nil)
      (db_cons (ds_if (dt_eq hr.units (de_var 0) de_int) (db_one (ds_ret (c_de D_turned_ends bn_turned_ends tk hr (by decide) rfl (cons_len (cons_len nil_len)) (da_cons (de_at (de_var 1) de_int) (da_cons (de_at (de_var 1) de_int) da_nil))))) db_nil)
      (db_one (ds_ret (c_dk D_window bk_window_3_ends tk hr (by decide) rfl (cons_len (cons_len (cons_len nil_len))) (cons_len nil_len) rfl (by decide) (da_cons (de_at (de_var 1) de_int) (da_cons (de_at (de_var 1) de_int) (da_cons (de_at (de_var 1) de_int) da_nil))) (dk_cons (de_at (de_var 1) de_int) dk_nil)))))))))))

/-! ### _law_caught -/
abbrev st_L_caught : Stmt := top 40
theorem sc_L_caught : FnScope ["kind", "some", "caught", "error"] ["kind", "some"] (defScope st_L_caught) := ⟨rfl, rfl, rfl, by decide +kernel, rfl, by decide +kernel, by decide +kernel⟩
theorem bn_L_caught : Bn "_law_caught" "_law_caught" st_L_caught ["kind", "some"] := fun _ _ _ _ _ _ us hl => match us, hl with | [_, _], _ => rfl
def T_L_caught_0 : En → O := (dropO (M.call (M.cons (rdVar 0) ((M.cons (rdVar 1) ((M.ret []))))) [] G_L_asked))
def B_L_caught : En → O := (seqO (setO (M.ret .non) 2)
    (seqO (tryO tab0 T_L_caught_0 [⟨"InvalidWay", some 3, fldO "InvalidWay" "way" 2⟩, ⟨"InvalidNumber", some 3, fldO "InvalidNumber" "number" 2⟩, ⟨"InvalidMap", some 3, fldO "InvalidMap" "map" 2⟩, ⟨"InvalidEnds", some 3, fldO "InvalidEnds" "ends" 2⟩, ⟨"InvalidCell", some 3, fldO "InvalidCell" "cell" 2⟩, ⟨"PictureError", none, fun _ _ => (setO (M.frz ((M.cons (M.ret (.str "other")) ((M.ret []))).bnd capL)) 2)⟩])
    (retO (rdVar 2))))
def G_L_caught (ds : List Dat) : O := (B_L_caught (startE 4 (ds.map .val))).pur
theorem d_L_caught (S : Sd K mg "_law_caught" "_law_caught" st_L_caught) (D_L_asked : Fd P w K mg base "_law_asked" "_law_asked" st_L_asked 7 ["kind", "some"] (spP K mg 2 G_L_asked)) (x_InvalidCell : ExT K mg "InvalidCell") (x_InvalidEnds : ExT K mg "InvalidEnds") (x_InvalidMap : ExT K mg "InvalidMap") (x_InvalidNumber : ExT K mg "InvalidNumber") (x_InvalidWay : ExT K mg "InvalidWay") (m_PictureError : mg "PictureError" = some (.ref C_PictureError)) (m_InvalidCell : mg "InvalidCell" = some (.ref C_InvalidCell)) (m_InvalidEnds : mg "InvalidEnds" = some (.ref C_InvalidEnds)) (m_InvalidMap : mg "InvalidMap" = some (.ref C_InvalidMap)) (m_InvalidNumber : mg "InvalidNumber" = some (.ref C_InvalidNumber)) (m_InvalidWay : mg "InvalidWay" = some (.ref C_InvalidWay)) (tb : TabOk K mg tab0) :
    Fd P w K mg base "_law_caught" "_law_caught" st_L_caught 8 ["kind", "some"] (spP K mg 2 G_L_caught) :=
  fd_pure S sc_L_caught (fun f cdv A outer s H E hr => by
    have tk : Takes (cxOf (L2.CX P w) P w K mg base ["kind", "some", "caught", "error"] "_law_caught" (defScope st_L_caught) f cdv A outer s H E) (WE0 E) := takes_of rfl rfl rfl rfl
    exact (db_cons (ds_set 2 sc_L_caught.nd rfl (Or.inl rfl) de_non)
      (db_cons (ds_try (tab := tab0) rfl rfl sc_L_caught.nd tk tb (fun W' pn xe tk1 => (db_one (ds_expr (c_de D_L_asked bn_L_asked tk1 hr (by decide) rfl (cons_len (cons_len nil_len)) (da_cons (de_var 0) (da_cons (de_var 1) da_nil)))))) (DHs.as 3 rfl (by decide) m_InvalidWay rfl rfl (su_fld (i := 3) (j := 2) (s := "way") x_InvalidWay sc_L_caught.nd rfl rfl rfl rfl) (DHs.as 3 rfl (by decide) m_InvalidNumber rfl rfl (su_fld (i := 3) (j := 2) (s := "number") x_InvalidNumber sc_L_caught.nd rfl rfl rfl rfl) (DHs.as 3 rfl (by decide) m_InvalidMap rfl rfl (su_fld (i := 3) (j := 2) (s := "map") x_InvalidMap sc_L_caught.nd rfl rfl rfl rfl) (DHs.as 3 rfl (by decide) m_InvalidEnds rfl rfl (su_fld (i := 3) (j := 2) (s := "ends") x_InvalidEnds sc_L_caught.nd rfl rfl rfl rfl) (DHs.as 3 rfl (by decide) m_InvalidCell rfl rfl (su_fld (i := 3) (j := 2) (s := "cell") x_InvalidCell sc_L_caught.nd rfl rfl rfl rfl) (DHs.bare rfl (by decide) m_PictureError (su_plain (fun a pins => (db_one (ds_set 2 sc_L_caught.nd rfl (Or.inl rfl) (DN.de (dn_lst (da_cons de_str da_nil))))))) DHs.nil)))))))
      (db_one (ds_ret (de_var 2))))))

/-! ### _law_right -/
abbrev st_L_right : Stmt := top 41
theorem sc_L_right : FnScope ["purse", "odd", "bad", "side", "grids", "grid", "rims", "cell", "fine", "asked", "due", "kind", "some"] ["purse"] (defScope st_L_right) := ⟨rfl, rfl, rfl, by decide +kernel, rfl, by decide +kernel, by decide +kernel⟩
theorem bn_L_right : Bn "_law_right" "_law_right" st_L_right ["purse"] := fun _ _ _ _ _ _ us hl => match us, hl with | [_], _ => rfl
def E_L_right_0 : M Dat := (M.call (M.cons (rdVar 11) ((M.cons (rdVar 12) ((M.ret []))))) [] G_L_caught)
def C_L_right_1 : M (List Dat) := (M.lc (rdVar 9) (.tup [11, 12]) tYesM E_L_right_0)
def B_L_right : En → O := (seqO (setO (M.bin (M.frz ((M.cons (M.ret .non) ((M.cons (M.un1 (M.ret (.int 1)) negD) ((M.cons (M.ret (.int 8)) ((M.cons (M.ret (.bl true)) ((M.cons (M.ret (.str "3")) ((M.cons (M.tup (M.cons (M.ret (.int 1)) ((M.ret [])))) ((M.cons (M.frz ((M.ret []).bnd capL)) ((M.ret []))))))))))))))).bnd capL)) (M.callI 0 ((M.cons (M.ret (.int 7)) ((M.ret [])))) G_L_draw) ixD) 1)
    (seqO (setO (M.bin (M.frz ((M.cons (M.ret .non) ((M.cons (M.un1 (M.ret (.int 1)) negD) ((M.cons (M.ret (.int 8)) ((M.cons (M.ret (.bl true)) ((M.cons (M.ret (.str "3")) ((M.cons (M.tup (M.cons (M.ret (.int 1)) ((M.ret [])))) ((M.cons (M.ret (.dct [] [])) ((M.ret []))))))))))))))).bnd capL)) (M.callI 0 ((M.cons (M.ret (.int 7)) ((M.ret [])))) G_L_draw) ixD) 2)
    (seqO (setO (M.bin (M.frz ((M.cons (M.ret .non) ((M.cons (M.un1 (M.ret (.int 1)) negD) ((M.cons (M.ret (.int 4)) ((M.cons (M.ret (.bl false)) ((M.cons (M.ret (.str "3")) ((M.cons (M.tup (M.cons (M.ret (.int 1)) ((M.ret [])))) ((M.cons (M.ret (.dct [] [])) ((M.ret []))))))))))))))).bnd capL)) (M.callI 0 ((M.cons (M.ret (.int 7)) ((M.ret [])))) G_L_draw) ixD) 3)
    (seqO (setO (M.frz ((M.cons (M.ret .non) ((M.cons (M.tup (M.ret [])) ((M.cons (M.tup (M.cons (M.tup (M.ret [])) ((M.ret [])))) ((M.cons (M.frz ((M.cons (M.tup (M.cons (M.ret (.int 0)) ((M.ret [])))) ((M.ret []))).bnd capL)) ((M.cons (M.tup (M.cons (M.tup (M.cons (M.ret (.int 0)) ((M.ret [])))) ((M.cons (M.tup (M.cons (M.ret (.int 0)) ((M.cons (M.ret (.int 1)) ((M.ret [])))))) ((M.ret [])))))) ((M.cons (M.tup (M.cons (M.frz ((M.cons (M.ret (.int 0)) ((M.ret []))).bnd capL)) ((M.ret [])))) ((M.cons (M.tup (M.cons (M.tup (M.cons (M.ret (.bl true)) ((M.ret [])))) ((M.ret [])))) ((M.cons (M.tup (M.cons (M.tup (M.cons (M.un1 (M.ret (.int 1)) negD) ((M.ret [])))) ((M.ret [])))) ((M.cons (M.tup (M.cons (M.tup (M.cons (M.ret (.str "0")) ((M.ret [])))) ((M.ret [])))) ((M.cons (M.tup (M.cons (M.tup (M.cons (M.ret (.int 0)) ((M.cons (M.ret .non) ((M.ret [])))))) ((M.ret [])))) ((M.ret []))))))))))))))))))))).bnd capL)) 4)
    (seqO (setO (M.bin (rdVar 4) (M.frz ((M.cons (M.ret (.int 5)) ((M.cons (M.tup (M.cons (M.tup (M.cons (M.ret (.int 0)) ((M.ret [])))) ((M.cons (M.tup (M.ret [])) ((M.ret [])))))) ((M.cons (M.tup (M.cons (M.ret (.int 0)) ((M.cons (M.ret (.int 1)) ((M.ret [])))))) ((M.cons (M.tup (M.cons (M.ret .non) ((M.ret [])))) ((M.cons (M.tup (M.cons (M.ret (.str "01")) ((M.ret [])))) ((M.cons (M.tup (M.cons (M.tup (M.cons (M.ret (.int 0)) ((M.ret [])))) ((M.cons (M.tup (M.cons (M.ret (.bl true)) ((M.ret [])))) ((M.ret [])))))) ((M.cons (M.tup (M.cons (M.tup (M.cons (M.ret (.int 0)) ((M.ret [])))) ((M.cons (M.tup (M.cons (M.un1 (M.ret (.int 1)) negD) ((M.ret [])))) ((M.ret [])))))) ((M.cons (M.tup (M.cons (M.tup (M.cons (M.ret (.int 0)) ((M.cons (M.ret (.int 1)) ((M.ret [])))))) ((M.cons (M.tup (M.cons (M.ret (.int 2)) ((M.cons (M.ret (.str "3")) ((M.ret [])))))) ((M.ret [])))))) ((M.cons (M.ret (.dct [] [])) ((M.ret []))))))))))))))))))).bnd capL)) addD) 4)
    (seqO (setO (M.bin (rdVar 4) (M.callI 0 ((M.cons (M.ret (.int 19)) ((M.ret [])))) G_L_draw) ixD) 5)
    (seqO (setO (M.frz ((M.cons (M.ret .non) ((M.cons (M.tup (M.cons (M.ret (.str "open")) ((M.ret [])))) ((M.cons (M.frz ((M.cons (M.ret (.str "open")) ((M.cons (M.ret (.str "open")) ((M.ret []))))).bnd capL)) ((M.cons (M.tup (M.cons (M.ret (.str "open")) ((M.cons (M.ret (.str "shut")) ((M.ret [])))))) ((M.cons (M.tup (M.cons (M.ret (.str "wrap")) ((M.cons (M.ret (.str "wrap")) ((M.cons (M.ret (.str "wrap")) ((M.ret [])))))))) ((M.cons (M.ret (.str "wrap")) ((M.cons (M.tup (M.cons (M.ret (.bl true)) ((M.cons (M.ret (.str "open")) ((M.ret [])))))) ((M.cons (M.tup (M.ret [])) ((M.ret []))))))))))))))))).bnd capL)) 6)
    (seqO (setO (M.bin (rdVar 6) (M.frz ((M.cons (M.tup (M.cons (M.ret (.str "shut")) ((M.cons (M.ret (.str "open")) ((M.ret [])))))) ((M.cons (M.tup (M.cons (M.ret (.str "open")) ((M.cons (M.ret .non) ((M.ret [])))))) ((M.cons (M.tup (M.cons (M.ret (.str "Open")) ((M.cons (M.ret (.str "open")) ((M.ret [])))))) ((M.ret []))))))).bnd capL)) addD) 6)
    (seqO (setO (M.bin (rdVar 6) (M.callI 0 ((M.cons (M.ret (.int 11)) ((M.ret [])))) G_L_draw) ixD) 6)
    (seqO (setO (M.bin (M.frz ((M.cons (M.ret .non) ((M.cons (M.un1 (M.ret (.int 1)) negD) ((M.cons (M.ret (.int 2)) ((M.cons (M.ret (.bl true)) ((M.cons (M.ret (.str "0")) ((M.cons (M.tup (M.cons (M.ret (.int 0)) ((M.ret [])))) ((M.ret []))))))))))))).bnd capL)) (M.callI 0 ((M.cons (M.ret (.int 6)) ((M.ret [])))) G_L_draw) ixD) 7)
    (seqO (setO (M.tup (M.cons (M.tup (M.cons (M.ret (.int 0)) ((M.cons (M.ret (.int 1)) ((M.cons (M.ret (.int 5)) ((M.ret [])))))))) ((M.cons (M.tup (M.cons (M.ret (.int 2)) ((M.cons (M.ret (.int 0)) ((M.cons (M.bin (M.ret (.int 10)) (M.ret (.int 20)) powD) ((M.ret [])))))))) ((M.ret [])))))) 8)
    (seqO (setO (M.frz ((M.cons (M.tup (M.cons (M.ret (.int 0)) ((M.cons (M.frz ((M.cons (rdVar 1) ((M.cons (rdVar 2) ((M.ret []))))).bnd capL)) ((M.ret [])))))) ((M.cons (M.tup (M.cons (M.ret (.int 0)) ((M.cons (M.frz ((M.cons (M.ret (.int 3)) ((M.cons (rdVar 2) ((M.ret []))))).bnd capL)) ((M.ret [])))))) ((M.cons (M.tup (M.cons (M.ret (.int 1)) ((M.cons (M.frz ((M.cons (rdVar 1) ((M.ret []))).bnd capL)) ((M.ret [])))))) ((M.cons (M.tup (M.cons (M.ret (.int 2)) ((M.cons (M.frz ((M.cons (rdVar 1) ((M.cons (rdVar 2) ((M.ret []))))).bnd capL)) ((M.ret [])))))) ((M.cons (M.tup (M.cons (M.ret (.int 2)) ((M.cons (M.frz ((M.cons (M.ret (.int 3)) ((M.cons (rdVar 2) ((M.ret []))))).bnd capL)) ((M.ret [])))))) ((M.ret []))))))))))).bnd capL)) 9)
    (seqO (setO (M.bin (rdVar 9) (M.frz ((M.cons (M.tup (M.cons (M.ret (.int 3)) ((M.cons (M.frz ((M.cons (rdVar 1) ((M.cons (rdVar 3) ((M.ret []))))).bnd capL)) ((M.ret [])))))) ((M.cons (M.tup (M.cons (M.ret (.int 3)) ((M.cons (M.frz ((M.cons (M.ret (.int 7)) ((M.cons (rdVar 3) ((M.ret []))))).bnd capL)) ((M.ret [])))))) ((M.ret []))))).bnd capL)) addD) 9)
    (seqO (setO (M.frz ((M.cons (M.frz ((M.cons (M.ret (.str "way")) ((M.cons (rdVar 1) ((M.ret []))))).bnd capL)) ((M.cons (M.frz ((M.cons (M.ret (.str "way")) ((M.cons (rdVar 2) ((M.ret []))))).bnd capL)) ((M.cons (M.frz ((M.cons (M.ret (.str "way")) ((M.cons (rdVar 1) ((M.ret []))))).bnd capL)) ((M.cons (M.frz ((M.cons (M.ret (.str "way")) ((M.cons (rdVar 1) ((M.ret []))))).bnd capL)) ((M.cons (M.frz ((M.cons (M.ret (.str "number")) ((M.cons (rdVar 2) ((M.ret []))))).bnd capL)) ((M.cons (M.frz ((M.cons (M.ret (.str "way")) ((M.cons (rdVar 1) ((M.ret []))))).bnd capL)) ((M.cons (M.frz ((M.cons (M.ret (.str "number")) ((M.cons (rdVar 3) ((M.ret []))))).bnd capL)) ((M.ret []))))))))))))))).bnd capL)) 10)
    (seqO (setO (M.bin (rdVar 9) (M.frz ((M.cons (M.tup (M.cons (M.ret (.int 4)) ((M.cons (M.frz ((M.cons (rdVar 5) ((M.cons (rdVar 1) ((M.ret []))))).bnd capL)) ((M.ret [])))))) ((M.cons (M.tup (M.cons (M.ret (.int 4)) ((M.cons (M.frz ((M.cons (rdVar 8) ((M.cons (rdVar 1) ((M.ret []))))).bnd capL)) ((M.ret [])))))) ((M.cons (M.tup (M.cons (M.ret (.int 5)) ((M.cons (M.frz ((M.cons (rdVar 6) ((M.cons (rdVar 1) ((M.ret []))))).bnd capL)) ((M.ret [])))))) ((M.cons (M.tup (M.cons (M.ret (.int 5)) ((M.cons (M.frz ((M.cons (M.tup (M.cons (M.ret (.str "open")) ((M.cons (M.ret (.str "wrap")) ((M.ret [])))))) ((M.cons (rdVar 1) ((M.ret []))))).bnd capL)) ((M.ret [])))))) ((M.ret []))))))))).bnd capL)) addD) 9)
    (seqO (setO (M.bin (rdVar 10) (M.frz ((M.cons (M.frz ((M.cons (M.ret (.str "map")) ((M.cons (rdVar 5) ((M.ret []))))).bnd capL)) ((M.cons (M.frz ((M.cons (M.ret (.str "way")) ((M.cons (rdVar 1) ((M.ret []))))).bnd capL)) ((M.cons (M.frz ((M.cons (M.ret (.str "ends")) ((M.cons (rdVar 6) ((M.ret []))))).bnd capL)) ((M.cons (M.frz ((M.cons (M.ret (.str "way")) ((M.cons (rdVar 1) ((M.ret []))))).bnd capL)) ((M.ret []))))))))).bnd capL)) addD) 10)
    (seqO (setO (M.bin (rdVar 9) (M.frz ((M.cons (M.tup (M.cons (M.ret (.int 6)) ((M.cons (M.frz ((M.cons (rdVar 5) ((M.cons (rdVar 7) ((M.cons (rdVar 7) ((M.cons (rdVar 6) ((M.ret []))))))))).bnd capL)) ((M.ret [])))))) ((M.cons (M.tup (M.cons (M.ret (.int 6)) ((M.cons (M.frz ((M.cons (rdVar 8) ((M.cons (rdVar 7) ((M.cons (M.ret .non) ((M.cons (rdVar 6) ((M.ret []))))))))).bnd capL)) ((M.ret [])))))) ((M.cons (M.tup (M.cons (M.ret (.int 6)) ((M.cons (M.frz ((M.cons (rdVar 8) ((M.cons (M.ret (.int 1)) ((M.cons (rdVar 7) ((M.cons (rdVar 6) ((M.ret []))))))))).bnd capL)) ((M.ret [])))))) ((M.ret []))))))).bnd capL)) addD) 9)
    (seqO (ifO (M.isB (M.bin (rdVar 7) (M.ret (.int 2)) eqD)) (setO (M.bin (M.cut (rdVar 9) none (some (M.un1 (M.ret (.int 1)) negD))) (M.frz ((M.cons (M.tup (M.cons (M.ret (.int 6)) ((M.cons (M.frz ((M.cons (rdVar 8) ((M.cons (M.ret (.int 1)) ((M.cons (M.ret (.int 3)) ((M.cons (rdVar 6) ((M.ret []))))))))).bnd capL)) ((M.ret [])))))) ((M.ret []))).bnd capL)) addD) 9) O.nxt)
    (seqO (setO (M.bin (rdVar 10) (M.frz ((M.cons (M.frz ((M.cons (M.ret (.str "map")) ((M.cons (rdVar 5) ((M.ret []))))).bnd capL)) ((M.cons (M.frz ((M.cons (M.ret (.str "cell")) ((M.cons (rdVar 7) ((M.ret []))))).bnd capL)) ((M.cons (M.frz ((M.cons (M.ret (.str "cell")) ((M.cons (M.bin (M.frz ((M.cons (rdVar 7) ((M.cons (M.ret (.int 3)) ((M.ret []))))).bnd capL)) (M.bi (M.cons (M.bin (rdVar 7) (M.ret (.int 2)) eqD) ((M.ret []))) intD) ixD) ((M.ret []))))).bnd capL)) ((M.ret []))))))).bnd capL)) addD) 10)
    (seqO (setO (M.bin (rdVar 9) (M.frz ((M.cons (M.tup (M.cons (M.ret (.int 6)) ((M.cons (M.frz ((M.cons (rdVar 8) ((M.cons (M.ret (.int 1)) ((M.cons (M.ret (.int 2)) ((M.cons (rdVar 6) ((M.ret []))))))))).bnd capL)) ((M.ret [])))))) ((M.cons (M.tup (M.cons (M.ret (.int 6)) ((M.cons (M.frz ((M.cons (rdVar 8) ((M.cons (M.ret (.int 1)) ((M.cons (M.ret (.int 2)) ((M.cons (M.tup (M.cons (M.ret (.str "wrap")) ((M.cons (M.ret (.str "open")) ((M.ret [])))))) ((M.ret []))))))))).bnd capL)) ((M.ret [])))))) ((M.ret []))))).bnd capL)) addD) 9)
    (seqO (setO (M.bin (rdVar 9) (M.frz ((M.cons (M.tup (M.cons (M.ret (.int 4)) ((M.cons (M.frz ((M.cons (rdVar 8) ((M.cons (M.ret (.int 0)) ((M.ret []))))).bnd capL)) ((M.ret [])))))) ((M.cons (M.tup (M.cons (M.ret (.int 5)) ((M.cons (M.frz ((M.cons (M.tup (M.cons (M.ret (.str "open")) ((M.cons (M.ret (.str "open")) ((M.ret [])))))) ((M.cons (M.ret (.int 7)) ((M.ret []))))).bnd capL)) ((M.ret [])))))) ((M.ret []))))).bnd capL)) addD) 9)
    (seqO (setO (M.bin (rdVar 10) (M.frz ((M.cons (M.frz ((M.cons (M.ret (.str "ends")) ((M.cons (rdVar 6) ((M.ret []))))).bnd capL)) ((M.cons (M.ret .non) ((M.cons (M.ret .non) ((M.cons (M.ret .non) ((M.ret []))))))))).bnd capL)) addD) 10)
    (retO (M.bin (M.bi (M.cons (M.frz C_L_right_1) ((M.ret []))) strD) (M.bi (M.cons (rdVar 10) ((M.ret []))) strD) eqSD))))))))))))))))))))))))
def G_L_right (xs ds : List Dat) : O := (B_L_right (startE 13 (.ino xs :: ds.map .val))).inp
theorem d_L_right (S : Sd K mg "_law_right" "_law_right" st_L_right) (D_L_draw : Fd P w K mg base "_law_draw" "_law_draw" st_L_draw 3 ["purse", "out_of"] (spI K mg 2 G_L_draw)) (D_L_caught : Fd P w K mg base "_law_caught" "_law_caught" st_L_caught 8 ["kind", "some"] (spP K mg 2 G_L_caught)) (z_int : mg "int" = none) (z_str : mg "str" = none) :
    Fd P w K mg base "_law_right" "_law_right" st_L_right 9 ["purse"] (spI K mg 1 G_L_right) :=
  fd_ino S sc_L_right (fun f cdv A outer s H E hr => by
    have tk : Takes (cxOf (L2.CX P w) P w K mg base ["purse", "odd", "bad", "side", "grids", "grid", "rims", "cell", "fine", "asked", "due", "kind", "some"] "_law_right" (defScope st_L_right) f cdv A outer s H E) (WE0 E) := takes_of rfl rfl rfl rfl
    exact (db_cons (ds_set 1 sc_L_right.nd rfl (Or.inl rfl) (de_at (DN.de (dn_lst (da_cons de_non (da_cons (de_neg de_int) (da_cons de_int (da_cons de_bl (da_cons de_str (da_cons (de_tup (da_cons de_int da_nil)) (da_cons (DN.de (dn_lst da_nil)) da_nil))))))))) (c_di 0 D_L_draw bn_L_draw tk hr (by decide) rfl (fun ρ ds ρ' h => congrArg (· + 1) ((cons_len nil_len) ρ ds ρ' h)) (da_cons de_int da_nil))))
      (db_cons (ds_set 2 sc_L_right.nd rfl (Or.inl rfl) (de_at (DN.de (dn_lst (da_cons de_non (da_cons (de_neg de_int) (da_cons de_int (da_cons de_bl (da_cons de_str (da_cons (de_tup (da_cons de_int da_nil)) (da_cons de_edct da_nil))))))))) (c_di 0 D_L_draw bn_L_draw tk hr (by decide) rfl (fun ρ ds ρ' h => congrArg (· + 1) ((cons_len nil_len) ρ ds ρ' h)) (da_cons de_int da_nil))))
      (db_cons (ds_set 3 sc_L_right.nd rfl (Or.inl rfl) (de_at (DN.de (dn_lst (da_cons de_non (da_cons (de_neg de_int) (da_cons de_int (da_cons de_bl (da_cons de_str (da_cons (de_tup (da_cons de_int da_nil)) (da_cons de_edct da_nil))))))))) (c_di 0 D_L_draw bn_L_draw tk hr (by decide) rfl (fun ρ ds ρ' h => congrArg (· + 1) ((cons_len nil_len) ρ ds ρ' h)) (da_cons de_int da_nil))))
      (db_cons (ds_set 4 sc_L_right.nd rfl (Or.inl rfl) (DN.de (dn_lst (da_cons de_non (da_cons (de_tup da_nil) (da_cons (de_tup (da_cons (de_tup da_nil) da_nil)) (da_cons (DN.de (dn_lst (da_cons (de_tup (da_cons de_int da_nil)) da_nil))) (da_cons (de_tup (da_cons (de_tup (da_cons de_int da_nil)) (da_cons (de_tup (da_cons de_int (da_cons de_int da_nil))) da_nil))) (da_cons (de_tup (da_cons (DN.de (dn_lst (da_cons de_int da_nil))) da_nil)) (da_cons (de_tup (da_cons (de_tup (da_cons de_bl da_nil)) da_nil)) (da_cons (de_tup (da_cons (de_tup (da_cons (de_neg de_int) da_nil)) da_nil)) (da_cons (de_tup (da_cons (de_tup (da_cons de_str da_nil)) da_nil)) (da_cons (de_tup (da_cons (de_tup (da_cons de_int (da_cons de_non da_nil))) da_nil)) da_nil)))))))))))))
      (db_cons (ds_set 4 sc_L_right.nd rfl (Or.inl rfl) (de_add (de_var 4) (DN.de (dn_lst (da_cons de_int (da_cons (de_tup (da_cons (de_tup (da_cons de_int da_nil)) (da_cons (de_tup da_nil) da_nil))) (da_cons (de_tup (da_cons de_int (da_cons de_int da_nil))) (da_cons (de_tup (da_cons de_non da_nil)) (da_cons (de_tup (da_cons de_str da_nil)) (da_cons (de_tup (da_cons (de_tup (da_cons de_int da_nil)) (da_cons (de_tup (da_cons de_bl da_nil)) da_nil))) (da_cons (de_tup (da_cons (de_tup (da_cons de_int da_nil)) (da_cons (de_tup (da_cons (de_neg de_int) da_nil)) da_nil))) (da_cons (de_tup (da_cons (de_tup (da_cons de_int (da_cons de_int da_nil))) (da_cons (de_tup (da_cons de_int (da_cons de_str da_nil))) da_nil))) (da_cons de_edct da_nil)))))))))))))
      (db_cons (ds_set 5 sc_L_right.nd rfl (Or.inl rfl) (de_at (de_var 4) (c_di 0 D_L_draw bn_L_draw tk hr (by decide) rfl (fun ρ ds ρ' h => congrArg (· + 1) ((cons_len nil_len) ρ ds ρ' h)) (da_cons de_int da_nil))))
      (db_cons (ds_set 6 sc_L_right.nd rfl (Or.inl rfl) (DN.de (dn_lst (da_cons de_non (da_cons (de_tup (da_cons de_str da_nil)) (da_cons (DN.de (dn_lst (da_cons de_str (da_cons de_str da_nil)))) (da_cons (de_tup (da_cons de_str (da_cons de_str da_nil))) (da_cons (de_tup (da_cons de_str (da_cons de_str (da_cons de_str da_nil)))) (da_cons de_str (da_cons (de_tup (da_cons de_bl (da_cons de_str da_nil))) (da_cons (de_tup da_nil) da_nil)))))))))))
      (db_cons (ds_set 6 sc_L_right.nd rfl (Or.inl rfl) (de_add (de_var 6) (DN.de (dn_lst (da_cons (de_tup (da_cons de_str (da_cons de_str da_nil))) (da_cons (de_tup (da_cons de_str (da_cons de_non da_nil))) (da_cons (de_tup (da_cons de_str (da_cons de_str da_nil))) da_nil)))))))
      (db_cons (ds_set 6 sc_L_right.nd rfl (Or.inl rfl) (de_at (de_var 6) (c_di 0 D_L_draw bn_L_draw tk hr (by decide) rfl (fun ρ ds ρ' h => congrArg (· + 1) ((cons_len nil_len) ρ ds ρ' h)) (da_cons de_int da_nil))))
      (db_cons (ds_set 7 sc_L_right.nd rfl (Or.inl rfl) (de_at (DN.de (dn_lst (da_cons de_non (da_cons (de_neg de_int) (da_cons de_int (da_cons de_bl (da_cons de_str (da_cons (de_tup (da_cons de_int da_nil)) da_nil)))))))) (c_di 0 D_L_draw bn_L_draw tk hr (by decide) rfl (fun ρ ds ρ' h => congrArg (· + 1) ((cons_len nil_len) ρ ds ρ' h)) (da_cons de_int da_nil))))
      (db_cons (ds_set 8 sc_L_right.nd rfl (Or.inl rfl) (de_tup (da_cons (de_tup (da_cons de_int (da_cons de_int (da_cons de_int da_nil)))) (da_cons (de_tup (da_cons de_int (da_cons de_int (da_cons (de_pow de_int de_int) da_nil)))) da_nil))))
      (db_cons (ds_set 9 sc_L_right.nd rfl (Or.inl rfl) (DN.de (dn_lst (da_cons (de_tup (da_cons de_int (da_cons (DN.de (dn_lst (da_cons (de_var 1) (da_cons (de_var 2) da_nil)))) da_nil))) (da_cons (de_tup (da_cons de_int (da_cons (DN.de (dn_lst (da_cons de_int (da_cons (de_var 2) da_nil)))) da_nil))) (da_cons (de_tup (da_cons de_int (da_cons (DN.de (dn_lst (da_cons (de_var 1) da_nil))) da_nil))) (da_cons (de_tup (da_cons de_int (da_cons (DN.de (dn_lst (da_cons (de_var 1) (da_cons (de_var 2) da_nil)))) da_nil))) (da_cons (de_tup (da_cons de_int (da_cons (DN.de (dn_lst (da_cons de_int (da_cons (de_var 2) da_nil)))) da_nil))) da_nil))))))))
      (db_cons (ds_set 9 sc_L_right.nd rfl (Or.inl rfl) (de_add (de_var 9) (DN.de (dn_lst (da_cons (de_tup (da_cons de_int (da_cons (DN.de (dn_lst (da_cons (de_var 1) (da_cons (de_var 3) da_nil)))) da_nil))) (da_cons (de_tup (da_cons de_int (da_cons (DN.de (dn_lst (da_cons de_int (da_cons (de_var 3) da_nil)))) da_nil))) da_nil))))))
      (db_cons (ds_set 10 sc_L_right.nd rfl (Or.inl rfl) (DN.de (dn_lst (da_cons (DN.de (dn_lst (da_cons de_str (da_cons (de_var 1) da_nil)))) (da_cons (DN.de (dn_lst (da_cons de_str (da_cons (de_var 2) da_nil)))) (da_cons (DN.de (dn_lst (da_cons de_str (da_cons (de_var 1) da_nil)))) (da_cons (DN.de (dn_lst (da_cons de_str (da_cons (de_var 1) da_nil)))) (da_cons (DN.de (dn_lst (da_cons de_str (da_cons (de_var 2) da_nil)))) (da_cons (DN.de (dn_lst (da_cons de_str (da_cons (de_var 1) da_nil)))) (da_cons (DN.de (dn_lst (da_cons de_str (da_cons (de_var 3) da_nil)))) da_nil))))))))))
      (db_cons (ds_set 9 sc_L_right.nd rfl (Or.inl rfl) (de_add (de_var 9) (DN.de (dn_lst (da_cons (de_tup (da_cons de_int (da_cons (DN.de (dn_lst (da_cons (de_var 5) (da_cons (de_var 1) da_nil)))) da_nil))) (da_cons (de_tup (da_cons de_int (da_cons (DN.de (dn_lst (da_cons (de_var 8) (da_cons (de_var 1) da_nil)))) da_nil))) (da_cons (de_tup (da_cons de_int (da_cons (DN.de (dn_lst (da_cons (de_var 6) (da_cons (de_var 1) da_nil)))) da_nil))) (da_cons (de_tup (da_cons de_int (da_cons (DN.de (dn_lst (da_cons (de_tup (da_cons de_str (da_cons de_str da_nil))) (da_cons (de_var 1) da_nil)))) da_nil))) da_nil))))))))
      (db_cons (ds_set 10 sc_L_right.nd rfl (Or.inl rfl) (de_add (de_var 10) (DN.de (dn_lst (da_cons (DN.de (dn_lst (da_cons de_str (da_cons (de_var 5) da_nil)))) (da_cons (DN.de (dn_lst (da_cons de_str (da_cons (de_var 1) da_nil)))) (da_cons (DN.de (dn_lst (da_cons de_str (da_cons (de_var 6) da_nil)))) (da_cons (DN.de (dn_lst (da_cons de_str (da_cons (de_var 1) da_nil)))) da_nil))))))))
      (db_cons (ds_set 9 sc_L_right.nd rfl (Or.inl rfl) (de_add (de_var 9) (DN.de (dn_lst (da_cons (de_tup (da_cons de_int (da_cons (DN.de (dn_lst (da_cons (de_var 5) (da_cons (de_var 7) (da_cons (de_var 7) (da_cons (de_var 6) da_nil)))))) da_nil))) (da_cons (de_tup (da_cons de_int (da_cons (DN.de (dn_lst (da_cons (de_var 8) (da_cons (de_var 7) (da_cons de_non (da_cons (de_var 6) da_nil)))))) da_nil))) (da_cons (de_tup (da_cons de_int (da_cons (DN.de (dn_lst (da_cons (de_var 8) (da_cons de_int (da_cons (de_var 7) (da_cons (de_var 6) da_nil)))))) da_nil))) da_nil)))))))
      (db_cons (ds_if (dt_eq hr.units (de_var 7) de_int) (db_one (ds_set 9 sc_L_right.nd rfl (Or.inl rfl) (de_add (de_cut (de_var 9) do_none (do_some (de_neg de_int))) (DN.de (dn_lst (da_cons (de_tup (da_cons de_int (da_cons (DN.de (dn_lst (da_cons (de_var 8) (da_cons de_int (da_cons de_int (da_cons (de_var 6) da_nil)))))) da_nil))) da_nil)))))) db_nil)
      (db_cons (ds_set 10 sc_L_right.nd rfl (Or.inl rfl) (de_add (de_var 10) (DN.de (dn_lst (da_cons (DN.de (dn_lst (da_cons de_str (da_cons (de_var 5) da_nil)))) (da_cons (DN.de (dn_lst (da_cons de_str (da_cons (de_var 7) da_nil)))) (da_cons (DN.de (dn_lst (da_cons de_str (da_cons (de_at (DN.de (dn_lst (da_cons (de_var 7) (da_cons de_int da_nil)))) (de_int1 rfl z_int (da_cons (de_eq hr.units (de_var 7) de_int) da_nil))) da_nil)))) da_nil)))))))
      (db_cons (ds_set 9 sc_L_right.nd rfl (Or.inl rfl) (de_add (de_var 9) (DN.de (dn_lst (da_cons (de_tup (da_cons de_int (da_cons (DN.de (dn_lst (da_cons (de_var 8) (da_cons de_int (da_cons de_int (da_cons (de_var 6) da_nil)))))) da_nil))) (da_cons (de_tup (da_cons de_int (da_cons (DN.de (dn_lst (da_cons (de_var 8) (da_cons de_int (da_cons de_int (da_cons (de_tup (da_cons de_str (da_cons de_str da_nil))) da_nil)))))) da_nil))) da_nil))))))
      (db_cons (ds_set 9 sc_L_right.nd rfl (Or.inl rfl) (de_add (de_var 9) (DN.de (dn_lst (da_cons (de_tup (da_cons de_int (da_cons (DN.de (dn_lst (da_cons (de_var 8) (da_cons de_int da_nil)))) da_nil))) (da_cons (de_tup (da_cons de_int (da_cons (DN.de (dn_lst (da_cons (de_tup (da_cons de_str (da_cons de_str da_nil))) (da_cons de_int da_nil)))) da_nil))) da_nil))))))
      (db_cons (ds_set 10 sc_L_right.nd rfl (Or.inl rfl) (de_add (de_var 10) (DN.de (dn_lst (da_cons (DN.de (dn_lst (da_cons de_str (da_cons (de_var 6) da_nil)))) (da_cons de_non (da_cons de_non (da_cons de_non da_nil))))))))
      (db_one (ds_ret (de_eqS (de_strC hr rfl z_str (da_cons (DN.de (dn_lc rfl sc_L_right.nd (de_var 9) (own := [("kind", 11), ("some", 12)]) (t := (.tup [11, 12])) (blkOk_by (by kernel_rfl)) rfl (fun _ _ _ _ _ => (pg_tup rfl (pgs_cons (pg_name (i := 11) sc_L_right.nd rfl (Or.inl rfl)) (pgs_cons (pg_name (i := 12) sc_L_right.nd rfl (Or.inl rfl)) pgs_nil)))) (fun _ _ _ _ _ => dts_nil) (fun _ _ _ _ _ => (c_de D_L_caught bn_L_caught takes0 hr (by decide) rfl (cons_len (cons_len nil_len)) (da_cons (de_var 11) (da_cons (de_var 12) da_nil)))))) da_nil)) (de_strC hr rfl z_str (da_cons (de_var 10) da_nil))))))))))))))))))))))))))))

/-! ### law -/
abbrev st_law : Stmt := top 42
theorem sc_law : FnScope ["script", "at", "purse", "turn"] ["script"] (defScope st_law) := ⟨rfl, rfl, rfl, by decide +kernel, rfl, by decide +kernel, by decide +kernel⟩
theorem bn_law : Bn "law" "law" st_law ["script"] := fun _ _ _ _ _ _ us hl => match us, hl with | [_], _ => rfl
def L_law_0 : En → O := (ifO (M.notB (M.isB (M.callI 2 ((M.ret [])) G_L_right))) (retO (M.ret (.bl false))) O.nxt)
def F_law_1 : En → O := (forRO rg1 (M.cons (M.ret (.int 3)) ((M.ret []))) (.one 3) L_law_0)
def L_law_2 : En → O := (seqO (setNO (M.callN (M.cons (rdVar 0) ((M.cons (rdVar 1) ((M.ret []))))) [] G_L_purse) 2)
    F_law_1)
def F_law_3 : En → O := (forRO rg1 (M.cons (M.bin (M.ret (.int 1)) (M.bi (M.cons (M.ret (.int 8)) ((M.cons (M.bi (M.cons (rdVar 0) ((M.ret []))) lenD) ((M.ret []))))) min2D) addD) ((M.ret []))) (.one 1) L_law_2)
def B_law : En → O := (seqO F_law_3
    (retO (M.bin (M.call (M.cons (M.ret (.int 6)) ((M.cons (M.frz ((M.cons (M.tup (M.cons (M.tup (M.cons (M.ret (.int 0)) ((M.ret [])))) ((M.ret [])))) ((M.cons (M.ret (.int 0)) ((M.cons (M.ret (.int 0)) ((M.cons (M.tup (M.cons (M.ret (.str "open")) ((M.cons (M.ret (.str "open")) ((M.ret [])))))) ((M.ret []))))))))).bnd capL)) ((M.ret []))))) [] G_L_caught) (M.ret .non) isNoneD)))
def G_law (ds : List Dat) : O := (B_law (startE 4 (ds.map .val))).pur
theorem d_law (S : Sd K mg "law" "law" st_law) (D_L_purse : Fd P w K mg base "_law_purse" "_law_purse" st_L_purse 2 ["cells", "at"] (spP K mg 2 G_L_purse)) (D_L_right : Fd P w K mg base "_law_right" "_law_right" st_L_right 9 ["purse"] (spI K mg 1 G_L_right)) (D_L_caught : Fd P w K mg base "_law_caught" "_law_caught" st_L_caught 8 ["kind", "some"] (spP K mg 2 G_L_caught)) (z_range : mg "range" = none) (z_min : mg "min" = none) (z_len : mg "len" = none) :
    Fd P w K mg base "law" "law" st_law 10 ["script"] (spP K mg 1 G_law) :=
  fd_pure S sc_law (fun f cdv A outer s H E hr => by
    have tk : Takes (cxOf (L2.CX P w) P w K mg base ["script", "at", "purse", "turn"] "law" (defScope st_law) f cdv A outer s H E) (WE0 E) := takes_of rfl rfl rfl rfl
    exact (db_cons (ds_forR1 (t := (.one 1)) (passes_of rfl) rfl rfl z_range (da_cons (de_add de_int (de_min2 rfl rfl z_min (da_cons de_int (da_cons (de_len rfl z_len (da_cons (de_var 0) da_nil)) da_nil)))) da_nil) (pg_name (i := 1) sc_law.nd rfl (Or.inl rfl)) (db_cons (ds_setN 2 sc_law.nd rfl (Or.inl rfl) (c_dn D_L_purse bn_L_purse tk hr (by decide) rfl (cons_len (cons_len nil_len)) (da_cons (de_var 0) (da_cons (de_var 1) da_nil))))
      (db_one (ds_forR1 (t := (.one 3)) (passes_of rfl) rfl rfl z_range (da_cons de_int da_nil) (pg_name (i := 3) sc_law.nd rfl (Or.inl rfl)) (db_one (ds_if (dt_not (dt_val (c_di 2 D_L_right bn_L_right tk hr (by decide) rfl (fun ρ ds ρ' h => congrArg (· + 1) (nil_len ρ ds ρ' h)) da_nil))) (db_one (ds_ret de_bl)) db_nil))))))
      (db_one (ds_ret (de_isN (c_de D_L_caught bn_L_caught tk hr (by decide) rfl (cons_len (cons_len nil_len)) (da_cons de_int (da_cons (DN.de (dn_lst (da_cons (de_tup (da_cons (de_tup (da_cons de_int da_nil)) da_nil)) (da_cons de_int (da_cons de_int (da_cons (de_tup (da_cons de_str (da_cons de_str da_nil))) da_nil)))))) da_nil))) de_non)))))

/-! ### all -/
theorem all_fd (S_L_purse : Sd K mg "_law_purse" "_law_purse" st_L_purse)
    (S_L_mixed : Sd K mg "_law_mixed" "_law_mixed" st_L_mixed)
    (S_L_draw : Sd K mg "_law_draw" "_law_draw" st_L_draw)
    (S_is_count : Sd K mg "is_count" "is_count" st_is_count)
    (S_is_count_below : Sd K mg "is_count_below" "is_count_below" st_is_count_below)
    (S_is_way : Sd K mg "is_way" "is_way" st_is_way)
    (S_check_way : Sd K mg "check_way" "check_way" st_check_way)
    (S_behind : Sd K mg "behind" "behind" st_behind)
    (S_inverse : Sd K mg "inverse" "inverse" st_inverse)
    (S_check_number : Sd K mg "check_number" "check_number" st_check_number)
    (S_place_to : Sd K mg "place_to" "place_to" st_place_to)
    (S_side_to : Sd K mg "side_to" "side_to" st_side_to)
    (S_is_row : Sd K mg "is_row" "is_row" st_is_row)
    (S_is_map : Sd K mg "is_map" "is_map" st_is_map)
    (S_check_map : Sd K mg "check_map" "check_map" st_check_map)
    (S_mirrored : Sd K mg "mirrored" "mirrored" st_mirrored)
    (S_turned_once : Sd K mg "turned_once" "turned_once" st_turned_once)
    (S_turned_map : Sd K mg "turned_map" "turned_map" st_turned_map)
    (S_is_end : Sd K mg "is_end" "is_end" st_is_end)
    (S_check_ends : Sd K mg "check_ends" "check_ends" st_check_ends)
    (S_turned_ends : Sd K mg "turned_ends" "turned_ends" st_turned_ends)
    (S_check_cell : Sd K mg "check_cell" "check_cell" st_check_cell)
    (S_line_at : Sd K mg "line_at" "line_at" st_line_at)
    (S_kind_at : Sd K mg "kind_at" "kind_at" st_kind_at)
    (S_kinds_around : Sd K mg "kinds_around" "kinds_around" st_kinds_around)
    (S_window : Sd K mg "window" "window" st_window)
    (S_L_asked : Sd K mg "_law_asked" "_law_asked" st_L_asked)
    (S_L_caught : Sd K mg "_law_caught" "_law_caught" st_L_caught)
    (S_L_right : Sd K mg "_law_right" "_law_right" st_L_right)
    (S_law : Sd K mg "law" "law" st_law)
    (z_all : mg "all" = none)
    (z_bool : mg "bool" = none)
    (z_int : mg "int" = none)
    (z_isinstance : mg "isinstance" = none)
    (z_len : mg "len" = none)
    (z_max : mg "max" = none)
    (z_min : mg "min" = none)
    (z_range : mg "range" = none)
    (z_str : mg "str" = none)
    (z_tuple : mg "tuple" = none)
    (z_zip : mg "zip" = none)
    (c_STEPS : mg "STEPS" = some v_STEPS ∧ RelV u_STEPS v_STEPS ∧ KRep K u_STEPS k_STEPS)
    (x_InvalidNumber : ExT K mg "InvalidNumber")
    (x_InvalidWay : ExT K mg "InvalidWay")
    (x_InvalidMap : ExT K mg "InvalidMap")
    (x_InvalidEnds : ExT K mg "InvalidEnds")
    (x_InvalidCell : ExT K mg "InvalidCell")
    (m_PictureError : mg "PictureError" = some (.ref C_PictureError))
    (m_InvalidNumber : mg "InvalidNumber" = some (.ref C_InvalidNumber))
    (m_InvalidWay : mg "InvalidWay" = some (.ref C_InvalidWay))
    (m_InvalidMap : mg "InvalidMap" = some (.ref C_InvalidMap))
    (m_InvalidEnds : mg "InvalidEnds" = some (.ref C_InvalidEnds))
    (m_InvalidCell : mg "InvalidCell" = some (.ref C_InvalidCell))
    (tb : TabOk K mg tab0) :
    Fd P w K mg base "law" "law" st_law 10 ["script"] (spP K mg 1 G_law) := by
  have D_L_purse : Fd P w K mg base "_law_purse" "_law_purse" st_L_purse 2 ["cells", "at"] (spP K mg 2 G_L_purse) := d_L_purse S_L_purse z_len z_int z_max
  have D_L_mixed : Fd P w K mg base "_law_mixed" "_law_mixed" st_L_mixed 2 ["cell", "k"] (spP K mg 2 G_L_mixed) := d_L_mixed S_L_mixed z_int
  have D_L_draw : Fd P w K mg base "_law_draw" "_law_draw" st_L_draw 3 ["purse", "out_of"] (spI K mg 2 G_L_draw) := d_L_draw S_L_draw D_L_mixed z_int
  have D_is_count : Fd P w K mg base "is_count" "is_count" st_is_count 2 ["thing"] (spP K mg 1 G_is_count) := d_is_count S_is_count z_isinstance z_int z_bool
  have D_is_count_below : Fd P w K mg base "is_count_below" "is_count_below" st_is_count_below 3 ["thing", "limit"] (spP K mg 2 G_is_count_below) := d_is_count_below S_is_count_below D_is_count
  have D_is_way : Fd P w K mg base "is_way" "is_way" st_is_way 4 ["thing"] (spP K mg 1 G_is_way) := d_is_way S_is_way D_is_count_below
  have D_check_way : Fd P w K mg base "check_way" "check_way" st_check_way 5 ["way"] (spP K mg 1 G_check_way) := d_check_way S_check_way D_is_way x_InvalidWay
  have D_behind : Fd P w K mg base "behind" "behind" st_behind 6 ["way", "first_way"] (spP K mg 2 G_behind) := d_behind S_behind D_check_way
  have D_inverse : Fd P w K mg base "inverse" "inverse" st_inverse 6 ["way"] (spP K mg 1 G_inverse) := d_inverse S_inverse D_check_way
  have D_check_number : Fd P w K mg base "check_number" "check_number" st_check_number 4 ["number", "limit"] (spP K mg 2 G_check_number) := d_check_number S_check_number D_is_count_below x_InvalidNumber
  have D_place_to : Fd P w K mg base "place_to" "place_to" st_place_to 6 ["way", "place"] (spP K mg 2 G_place_to) := d_place_to S_place_to D_check_way D_check_number
  have D_side_to : Fd P w K mg base "side_to" "side_to" st_side_to 6 ["way", "side"] (spP K mg 2 G_side_to) := d_side_to S_side_to D_check_way D_check_number
  have D_is_row : Fd P w K mg base "is_row" "is_row" st_is_row 3 ["thing"] (spP K mg 1 G_is_row) := d_is_row S_is_row D_is_count z_isinstance z_tuple z_len z_all
  have D_is_map : Fd P w K mg base "is_map" "is_map" st_is_map 4 ["thing"] (spP K mg 1 G_is_map) := d_is_map S_is_map D_is_row z_isinstance z_tuple z_len
  have D_check_map : Fd P w K mg base "check_map" "check_map" st_check_map 5 ["rows"] (spP K mg 1 G_check_map) := d_check_map S_check_map D_is_map x_InvalidMap
  have D_mirrored : Fd P w K mg base "mirrored" "mirrored" st_mirrored 2 ["rows"] (spP K mg 1 G_mirrored) := d_mirrored S_mirrored z_tuple
  have D_turned_once : Fd P w K mg base "turned_once" "turned_once" st_turned_once 2 ["rows"] (spP K mg 1 G_turned_once) := d_turned_once S_turned_once z_tuple z_zip
  have D_turned_map : Fd P w K mg base "turned_map" "turned_map" st_turned_map 6 ["rows", "way"] (spP K mg 2 G_turned_map) := d_turned_map S_turned_map D_check_map D_check_way D_mirrored D_turned_once z_range
  have D_is_end : Fd P w K mg base "is_end" "is_end" st_is_end 2 ["thing"] (spP K mg 1 G_is_end) := d_is_end S_is_end z_isinstance z_str
  have D_check_ends : Fd P w K mg base "check_ends" "check_ends" st_check_ends 3 ["ends"] (spP K mg 1 G_check_ends) := d_check_ends S_check_ends D_is_end z_isinstance z_tuple z_len x_InvalidEnds
  have D_turned_ends : Fd P w K mg base "turned_ends" "turned_ends" st_turned_ends 6 ["ends", "way"] (spP K mg 2 G_turned_ends) := d_turned_ends S_turned_ends D_check_ends D_check_way
  have D_check_cell : Fd P w K mg base "check_cell" "check_cell" st_check_cell 4 ["line", "limit"] (spP K mg 2 G_check_cell) := d_check_cell S_check_cell D_is_count_below x_InvalidCell
  have D_line_at : Fd P w K mg base "line_at" "line_at" st_line_at 2 ["line", "many", "end"] (spP K mg 3 G_line_at) := d_line_at S_line_at 
  have D_kind_at : Fd P w K mg base "kind_at" "kind_at" st_kind_at 3 ["rows", "row", "column", "ends"] (spP K mg 4 G_kind_at) := d_kind_at S_kind_at D_line_at z_len
  have D_kinds_around : Fd P w K mg base "kinds_around" "kinds_around" st_kinds_around 4 ["rows", "row", "column", "ends"] (spP K mg 4 G_kinds_around) := d_kinds_around S_kinds_around D_kind_at z_tuple c_STEPS
  have D_window : Fd P w K mg base "window" "window" st_window 6 ["rows", "row", "column", "ends"] (spP K mg 4 G_window) := d_window S_window D_check_map D_check_cell D_check_ends D_kinds_around z_len
  have D_L_asked : Fd P w K mg base "_law_asked" "_law_asked" st_L_asked 7 ["kind", "some"] (spP K mg 2 G_L_asked) := d_L_asked S_L_asked D_behind D_inverse D_place_to D_side_to D_turned_map D_turned_ends D_window
  have D_L_caught : Fd P w K mg base "_law_caught" "_law_caught" st_L_caught 8 ["kind", "some"] (spP K mg 2 G_L_caught) := d_L_caught S_L_caught D_L_asked x_InvalidCell x_InvalidEnds x_InvalidMap x_InvalidNumber x_InvalidWay m_PictureError m_InvalidCell m_InvalidEnds m_InvalidMap m_InvalidNumber m_InvalidWay tb
  have D_L_right : Fd P w K mg base "_law_right" "_law_right" st_L_right 9 ["purse"] (spI K mg 1 G_L_right) := d_L_right S_L_right D_L_draw D_L_caught z_int z_str
  have D_law : Fd P w K mg base "law" "law" st_law 10 ["script"] (spP K mg 1 G_law) := d_law S_law D_L_purse D_L_right D_L_caught z_range z_min z_len
  exact D_law
end
end Sv.pw_cellpictures_k02_ways_and_maps_refused

set_option Elab.async false
set_option linter.all false
set_option maxRecDepth 100000
set_option maxHeartbeats 1000000
namespace Sv
open PySem L2 PyProof.Rows
/-! ## evaluation, step by step -/
theorem gt0 {α : Type} {x0 : α} {l : List α} : (x0 :: l)[0]? = some x0 := rfl
theorem st0 {α : Type} {x0 y : α} {l : List α} : (x0 :: l).set 0 y = y :: l := rfl
theorem gt1 {α : Type} {x0 x1 : α} {l : List α} : (x0 :: x1 :: l)[1]? = some x1 := rfl
theorem st1 {α : Type} {x0 x1 y : α} {l : List α} : (x0 :: x1 :: l).set 1 y = x0 :: y :: l := rfl
theorem gt2 {α : Type} {x0 x1 x2 : α} {l : List α} : (x0 :: x1 :: x2 :: l)[2]? = some x2 := rfl
theorem st2 {α : Type} {x0 x1 x2 y : α} {l : List α} : (x0 :: x1 :: x2 :: l).set 2 y = x0 :: x1 :: y :: l := rfl
theorem gt3 {α : Type} {x0 x1 x2 x3 : α} {l : List α} : (x0 :: x1 :: x2 :: x3 :: l)[3]? = some x3 := rfl
theorem st3 {α : Type} {x0 x1 x2 x3 y : α} {l : List α} : (x0 :: x1 :: x2 :: x3 :: l).set 3 y = x0 :: x1 :: x2 :: y :: l := rfl
theorem gt4 {α : Type} {x0 x1 x2 x3 x4 : α} {l : List α} : (x0 :: x1 :: x2 :: x3 :: x4 :: l)[4]? = some x4 := rfl
theorem st4 {α : Type} {x0 x1 x2 x3 x4 y : α} {l : List α} : (x0 :: x1 :: x2 :: x3 :: x4 :: l).set 4 y = x0 :: x1 :: x2 :: x3 :: y :: l := rfl
theorem gt5 {α : Type} {x0 x1 x2 x3 x4 x5 : α} {l : List α} : (x0 :: x1 :: x2 :: x3 :: x4 :: x5 :: l)[5]? = some x5 := rfl
theorem st5 {α : Type} {x0 x1 x2 x3 x4 x5 y : α} {l : List α} : (x0 :: x1 :: x2 :: x3 :: x4 :: x5 :: l).set 5 y = x0 :: x1 :: x2 :: x3 :: x4 :: y :: l := rfl
theorem gt6 {α : Type} {x0 x1 x2 x3 x4 x5 x6 : α} {l : List α} : (x0 :: x1 :: x2 :: x3 :: x4 :: x5 :: x6 :: l)[6]? = some x6 := rfl
theorem st6 {α : Type} {x0 x1 x2 x3 x4 x5 x6 y : α} {l : List α} : (x0 :: x1 :: x2 :: x3 :: x4 :: x5 :: x6 :: l).set 6 y = x0 :: x1 :: x2 :: x3 :: x4 :: x5 :: y :: l := rfl
theorem gt7 {α : Type} {x0 x1 x2 x3 x4 x5 x6 x7 : α} {l : List α} : (x0 :: x1 :: x2 :: x3 :: x4 :: x5 :: x6 :: x7 :: l)[7]? = some x7 := rfl
theorem st7 {α : Type} {x0 x1 x2 x3 x4 x5 x6 x7 y : α} {l : List α} : (x0 :: x1 :: x2 :: x3 :: x4 :: x5 :: x6 :: x7 :: l).set 7 y = x0 :: x1 :: x2 :: x3 :: x4 :: x5 :: x6 :: y :: l := rfl
theorem gt8 {α : Type} {x0 x1 x2 x3 x4 x5 x6 x7 x8 : α} {l : List α} : (x0 :: x1 :: x2 :: x3 :: x4 :: x5 :: x6 :: x7 :: x8 :: l)[8]? = some x8 := rfl
theorem st8 {α : Type} {x0 x1 x2 x3 x4 x5 x6 x7 x8 y : α} {l : List α} : (x0 :: x1 :: x2 :: x3 :: x4 :: x5 :: x6 :: x7 :: x8 :: l).set 8 y = x0 :: x1 :: x2 :: x3 :: x4 :: x5 :: x6 :: x7 :: y :: l := rfl
theorem gt9 {α : Type} {x0 x1 x2 x3 x4 x5 x6 x7 x8 x9 : α} {l : List α} : (x0 :: x1 :: x2 :: x3 :: x4 :: x5 :: x6 :: x7 :: x8 :: x9 :: l)[9]? = some x9 := rfl
theorem st9 {α : Type} {x0 x1 x2 x3 x4 x5 x6 x7 x8 x9 y : α} {l : List α} : (x0 :: x1 :: x2 :: x3 :: x4 :: x5 :: x6 :: x7 :: x8 :: x9 :: l).set 9 y = x0 :: x1 :: x2 :: x3 :: x4 :: x5 :: x6 :: x7 :: x8 :: y :: l := rfl
theorem gt10 {α : Type} {x0 x1 x2 x3 x4 x5 x6 x7 x8 x9 x10 : α} {l : List α} : (x0 :: x1 :: x2 :: x3 :: x4 :: x5 :: x6 :: x7 :: x8 :: x9 :: x10 :: l)[10]? = some x10 := rfl
theorem st10 {α : Type} {x0 x1 x2 x3 x4 x5 x6 x7 x8 x9 x10 y : α} {l : List α} : (x0 :: x1 :: x2 :: x3 :: x4 :: x5 :: x6 :: x7 :: x8 :: x9 :: x10 :: l).set 10 y = x0 :: x1 :: x2 :: x3 :: x4 :: x5 :: x6 :: x7 :: x8 :: x9 :: y :: l := rfl
theorem gt11 {α : Type} {x0 x1 x2 x3 x4 x5 x6 x7 x8 x9 x10 x11 : α} {l : List α} : (x0 :: x1 :: x2 :: x3 :: x4 :: x5 :: x6 :: x7 :: x8 :: x9 :: x10 :: x11 :: l)[11]? = some x11 := rfl
theorem st11 {α : Type} {x0 x1 x2 x3 x4 x5 x6 x7 x8 x9 x10 x11 y : α} {l : List α} : (x0 :: x1 :: x2 :: x3 :: x4 :: x5 :: x6 :: x7 :: x8 :: x9 :: x10 :: x11 :: l).set 11 y = x0 :: x1 :: x2 :: x3 :: x4 :: x5 :: x6 :: x7 :: x8 :: x9 :: x10 :: y :: l := rfl
theorem gt12 {α : Type} {x0 x1 x2 x3 x4 x5 x6 x7 x8 x9 x10 x11 x12 : α} {l : List α} : (x0 :: x1 :: x2 :: x3 :: x4 :: x5 :: x6 :: x7 :: x8 :: x9 :: x10 :: x11 :: x12 :: l)[12]? = some x12 := rfl
theorem st12 {α : Type} {x0 x1 x2 x3 x4 x5 x6 x7 x8 x9 x10 x11 x12 y : α} {l : List α} : (x0 :: x1 :: x2 :: x3 :: x4 :: x5 :: x6 :: x7 :: x8 :: x9 :: x10 :: x11 :: x12 :: l).set 12 y = x0 :: x1 :: x2 :: x3 :: x4 :: x5 :: x6 :: x7 :: x8 :: x9 :: x10 :: x11 :: y :: l := rfl
theorem gt13 {α : Type} {x0 x1 x2 x3 x4 x5 x6 x7 x8 x9 x10 x11 x12 x13 : α} {l : List α} : (x0 :: x1 :: x2 :: x3 :: x4 :: x5 :: x6 :: x7 :: x8 :: x9 :: x10 :: x11 :: x12 :: x13 :: l)[13]? = some x13 := rfl
theorem st13 {α : Type} {x0 x1 x2 x3 x4 x5 x6 x7 x8 x9 x10 x11 x12 x13 y : α} {l : List α} : (x0 :: x1 :: x2 :: x3 :: x4 :: x5 :: x6 :: x7 :: x8 :: x9 :: x10 :: x11 :: x12 :: x13 :: l).set 13 y = x0 :: x1 :: x2 :: x3 :: x4 :: x5 :: x6 :: x7 :: x8 :: x9 :: x10 :: x11 :: x12 :: y :: l := rfl
theorem gt14 {α : Type} {x0 x1 x2 x3 x4 x5 x6 x7 x8 x9 x10 x11 x12 x13 x14 : α} {l : List α} : (x0 :: x1 :: x2 :: x3 :: x4 :: x5 :: x6 :: x7 :: x8 :: x9 :: x10 :: x11 :: x12 :: x13 :: x14 :: l)[14]? = some x14 := rfl
theorem st14 {α : Type} {x0 x1 x2 x3 x4 x5 x6 x7 x8 x9 x10 x11 x12 x13 x14 y : α} {l : List α} : (x0 :: x1 :: x2 :: x3 :: x4 :: x5 :: x6 :: x7 :: x8 :: x9 :: x10 :: x11 :: x12 :: x13 :: x14 :: l).set 14 y = x0 :: x1 :: x2 :: x3 :: x4 :: x5 :: x6 :: x7 :: x8 :: x9 :: x10 :: x11 :: x12 :: x13 :: y :: l := rfl
theorem gt15 {α : Type} {x0 x1 x2 x3 x4 x5 x6 x7 x8 x9 x10 x11 x12 x13 x14 x15 : α} {l : List α} : (x0 :: x1 :: x2 :: x3 :: x4 :: x5 :: x6 :: x7 :: x8 :: x9 :: x10 :: x11 :: x12 :: x13 :: x14 :: x15 :: l)[15]? = some x15 := rfl
theorem st15 {α : Type} {x0 x1 x2 x3 x4 x5 x6 x7 x8 x9 x10 x11 x12 x13 x14 x15 y : α} {l : List α} : (x0 :: x1 :: x2 :: x3 :: x4 :: x5 :: x6 :: x7 :: x8 :: x9 :: x10 :: x11 :: x12 :: x13 :: x14 :: x15 :: l).set 15 y = x0 :: x1 :: x2 :: x3 :: x4 :: x5 :: x6 :: x7 :: x8 :: x9 :: x10 :: x11 :: x12 :: x13 :: x14 :: y :: l := rfl
theorem mul_ok {i j : Int} (h : (-18446744073709551616 < i ∧ i < 18446744073709551616) ∨ (-18446744073709551616 < j ∧ j < 18446744073709551616)) : mulD (.int i) (.int j) = some (.int (i * j)) := by
  unfold mulD iop; simp only []; rw [if_pos (decide_eq_true h)]
theorem mod_ok {i j : Int} (h : 0 < j) : modD (.int i) (.int j) = some (.int (i % j)) := by
  unfold modD iop; simp only []; rw [if_pos (decide_eq_true h)]
theorem fdiv_ok {i j : Int} (h : 0 < j ∧ j < 1073741824) : fdivD (.int i) (.int j) = some (.int (i / j)) := by
  unfold fdivD iop; simp only []; rw [if_pos (decide_eq_true h)]
theorem lcL_cons {t : Tg} {g : M Dat} {d y : Dat} {ds acc : List Dat} {ρ ρ1 ρ3 : En} (e1 : setT t d ρ = some ρ1) (e2 : g ρ1 = .ok y ρ3) (hl : acc.length < 1000000) : lcL t tYesM g (d :: ds) acc ρ = lcL t tYesM g ds (acc ++ [y]) (unS t.slots ρ3) := by
  have e : tYesM ρ1 = .ok true ρ1 := rfl
  rw [lcL]
  simp only [e1, e, e2]
  rw [if_pos hl]
theorem lcL_map {t : Tg} {g : M Dat} {F : Dat → Dat} {ρ : En} : ∀ {ds acc : List Dat}, (∀ d ∈ ds, ∃ ρ1 ρ3, setT t d ρ = some ρ1 ∧ g ρ1 = .ok (F d) ρ3 ∧ unS t.slots ρ3 = ρ) → acc.length + ds.length ≤ 1000000 → lcL t tYesM g ds acc ρ = .ok (acc ++ ds.map F) ρ
  | [], acc, _, _ => by simp [lcL]
  | d :: ds, acc, h, hl => by
    obtain ⟨ρ1, ρ3, e1, e2, e3⟩ := h d List.mem_cons_self
    have hl' : acc.length + (ds.length + 1) ≤ 1000000 := hl
    rw [lcL_cons e1 e2 (by omega), e3, lcL_map (F := F) (fun d hd => h d (List.mem_cons_of_mem _ hd)) (by simp; omega)]
    simp
theorem lcL_inv {t : Tg} {g : M Dat} {R : Dat → Prop} {P : Nat → En → Prop} {ds0 : List Dat} (N : Nat) (step : ∀ d ∈ ds0, ∀ k ρ, k < N → P k ρ → ∃ ρ1 y ρ3, setT t d ρ = some ρ1 ∧ g ρ1 = .ok y ρ3 ∧ R y ∧ P (k + 1) (unS t.slots ρ3)) :
    ∀ {ds acc : List Dat} {k : Nat} {ρ : En}, (∀ d ∈ ds, d ∈ ds0) → P k ρ → k + ds.length ≤ N → acc.length + ds.length ≤ 1000000 → ∃ ys ρ', lcL t tYesM g ds acc ρ = .ok (acc ++ ys) ρ' ∧ P (k + ds.length) ρ' ∧ ys.length = ds.length ∧ ∀ y ∈ ys, R y
  | [], acc, k, ρ, _, hp, _, _ => ⟨[], ρ, by simp [lcL], hp, rfl, by simp⟩
  | d :: ds, acc, k, ρ, hm, hp, hN, hl => by
    have hN' : k + (ds.length + 1) ≤ N := hN
    obtain ⟨ρ1, y, ρ3, e1, e2, hr, hp'⟩ := step d (hm d List.mem_cons_self) k ρ (by omega) hp
    have hl' : acc.length + (ds.length + 1) ≤ 1000000 := hl
    obtain ⟨ys, ρ', e, p', l', r'⟩ := lcL_inv N step (ds := ds) (acc := acc ++ [y]) (fun d hd => hm d (List.mem_cons_of_mem _ hd)) hp' (by omega) (by simp; omega)
    refine ⟨y :: ys, ρ', ?_, ?_, ?_, ?_⟩
    · rw [lcL_cons e1 e2 (by omega), e]
      simp
    · have : k + (d :: ds).length = k + 1 + ds.length := by simp; omega
      rw [this]; exact p'
    · simp [l']
    · intro z hz
      rcases List.mem_cons.mp hz with rfl | hz
      · exact hr
      · exact r' z hz
theorem forL_inv {t : Tg} {b : En → O} {P : Nat → En → Prop} {ds0 : List Dat} (N : Nat) (step : ∀ d ∈ ds0, ∀ k ρ, k < N → P k ρ → ∃ ρ1 ρ2, setT t d ρ = some ρ1 ∧ b ρ1 = .nxt ρ2 ∧ P (k + 1) ρ2) :
    ∀ {ds : List Dat} {k : Nat} {ρ : En}, (∀ d ∈ ds, d ∈ ds0) → P k ρ → k + ds.length ≤ N → ∃ ρ', forL t b ds ρ = .nxt ρ' ∧ P (k + ds.length) ρ'
  | [], k, ρ, _, hp, _ => ⟨ρ, rfl, hp⟩
  | d :: ds, k, ρ, hm, hp, hN => by
    have hN' : k + (ds.length + 1) ≤ N := hN
    obtain ⟨ρ1, ρ2, e1, e2, hp'⟩ := step d (hm d List.mem_cons_self) k ρ (by omega) hp
    obtain ⟨ρ', e, p'⟩ := forL_inv N step (ds := ds) (fun d hd => hm d (List.mem_cons_of_mem _ hd)) hp' (by omega)
    refine ⟨ρ', ?_, ?_⟩
    · unfold forL
      simp only [e1, e2]
      exact e
    · have : k + (d :: ds).length = k + 1 + ds.length := by simp; omega
      rw [this]; exact p'
theorem lc_ev {f : M Dat} {t : Tg} {tt : M Bool} {g : M Dat} {ρ ρ1 : En} {d : Dat} {ds : List Dat} {r : R (List Dat)} (h1 : f ρ = .ok d ρ1) (h2 : items d = some ds) (h3 : t.slots.all (isUn ρ1) = true) (h : lcL t tt g ds [] (unS t.slots ρ1) = r) : M.lc f t tt g ρ = r := by
  unfold M.lc M.bnd
  rw [h1]
  simp only [h2]
  unfold lcI
  rw [if_pos h3, h]
theorem lcR_ev {rg : List Dat → Option (List Dat)} {ga : M (List Dat)} {t : Tg} {tt : M Bool} {g : M Dat} {ρ ρ1 : En} {as ds : List Dat} {r : R (List Dat)} (h1 : ga ρ = .ok as ρ1) (h2 : rg as = some ds) (h3 : t.slots.all (isUn ρ1) = true) (h : lcL t tt g ds [] (unS t.slots ρ1) = r) : M.lcR rg ga t tt g ρ = r := by
  unfold M.lcR M.bnd
  rw [h1]
  simp only [h2]
  unfold lcI
  rw [if_pos h3, h]
theorem forR_ev {rg : List Dat → Option (List Dat)} {ga : M (List Dat)} {t : Tg} {b : En → O} {ρ ρ1 : En} {as ds : List Dat} {r : O} (h1 : ga ρ = .ok as ρ1) (h2 : rg as = some ds) (h : forL t b ds ρ1 = r) : forRO rg ga t b ρ = r := by
  unfold forRO
  rw [h1]
  simp only [R.toO, h2, h]
theorem for_ev {f : M Dat} {t : Tg} {b : En → O} {ρ ρ1 : En} {d : Dat} {ds : List Dat} {r : O} (h1 : f ρ = .ok d ρ1) (h2 : items d = some ds) (h : forL t b ds ρ1 = r) : forO f t b ρ = r := by
  unfold forO
  rw [h1]
  simp only [R.toO, h2, h]
theorem ci {ga : M (List Dat)} {G : List Dat → List Dat → O} {xs xs1 ys : List Dat} {tl tl1 : En} {ds : List Dat} {d : Dat} (h : ga (.ino xs :: tl) = .ok ds (.ino xs1 :: tl1)) (hG : G xs1 ds = .ret d [.ino ys]) : M.callI 0 ga G (.ino xs :: tl) = .ok d (.ino ys :: tl1) := by
  have e : hasS (.ino xs :: tl) 0 = true := rfl
  unfold M.callI M.bnd
  rw [if_pos e, h]
  simp only [mutAt, gt0, hG, Sv.callI, putAt, st0]
theorem ci2 {ga : M (List Dat)} {G : List Dat → List Dat → O} {a b : Sl} {xs ys : List Dat} {tl : En} {ds : List Dat} {d : Dat} (h : ga (a :: b :: .own xs :: tl) = .ok ds (a :: b :: .own xs :: tl)) (hG : G xs ds = .ret d [.ino ys]) : M.callI 2 ga G (a :: b :: .own xs :: tl) = .ok d (a :: b :: .own ys :: tl) := by
  have e : hasS (a :: b :: .own xs :: tl) 2 = true := rfl
  unfold M.callI M.bnd
  rw [if_pos e, h]
  simp only [mutAt, gt2, hG, Sv.callI, putAt, st2, gt0]
theorem a0 {ρ : En} : (M.ret [] : M (List Dat)) ρ = .ok [] ρ := rfl
theorem a1 {f : M Dat} {ρ ρ1 : En} {d : Dat} (h : f ρ = .ok d ρ1) : (M.cons f (M.ret [])) ρ = .ok [d] ρ1 := by
  unfold M.cons M.bnd; rw [h]; rfl
theorem acons {f : M Dat} {g : M (List Dat)} {ρ ρ1 ρ2 : En} {d : Dat} {ds : List Dat} (h : f ρ = .ok d ρ1) (h2 : g ρ1 = .ok ds ρ2) : (M.cons f g) ρ = .ok (d :: ds) ρ2 := by
  unfold M.cons M.bnd; rw [h]; simp only [h2]; rfl
theorem tup_ev {g : M (List Dat)} {ρ ρ1 : En} {ds : List Dat} (h : g ρ = .ok ds ρ1) (hl : ds.length ≤ 1000000) : M.tup g ρ = .ok (.tup ds) ρ1 := by
  unfold M.tup M.bnd mkTup; rw [h]; simp only [if_pos hl, M.lift]
theorem bin_ev {f g : M Dat} {op : Dat → Dat → Option Dat} {ρ ρ1 ρ2 : En} {x y z : Dat} (h : f ρ = .ok x ρ1) (h2 : g ρ1 = .ok y ρ2) (h3 : op x y = some z) : M.bin f g op ρ = .ok z ρ2 := by
  unfold M.bin M.bnd; rw [h]; simp only [h2, h3, M.lift]
theorem lit {ρ : En} {d : Dat} : (M.ret d : M Dat) ρ = .ok d ρ := rfl
theorem ev1 {ρ ρ1 : En} {ga : M (List Dat)} {op : List Dat → Option Dat} {ds : List Dat} {z : Dat} (h : ga ρ = .ok ds ρ1) (h2 : op ds = some z) : M.bi ga op ρ = .ok z ρ1 := by
  unfold M.bi M.bnd; rw [h]; simp only [h2, M.lift]
theorem p18 : powD (.int 10) (.int 18) = some (.int 1000000000000000000) := by kernel_rfl
theorem p60 : powD (.int 10) (.int 60) = some (.int 1000000000000000000000000000000000000000000000000000000000000) := by kernel_rfl
theorem p480 : powD (.int 1000000000000000000000000000000000000000000000000000000000000) (.int 8) = some (.int 1000000000000000000000000000000000000000000000000000000000000000000000000000000000000000000000000000000000000000000000000000000000000000000000000000000000000000000000000000000000000000000000000000000000000000000000000000000000000000000000000000000000000000000000000000000000000000000000000000000000000000000000000000000000000000000000000000000000000000000000000000000000000000000000000000000000000000000000000000000000000000000000000000000000000000000000000000000000000000000000000) := by kernel_rfl
theorem seq_step {f g : En → O} {ρ ρ1 : En} {r : O} (h : f ρ = .nxt ρ1) (h2 : g ρ1 = r) : seqO f g ρ = r := by
  unfold seqO; rw [h]; exact h2
theorem par_ev {f g : M Dat} {i j : Nat} {ρ ρ1 ρ2 ρ3 : En} {x y : Dat} (h : f ρ = .ok x ρ1) (h2 : g ρ1 = .ok y ρ2) (h3 : (putS i x ρ2).then (putS j y) = .nxt ρ3) : parO f g i j ρ = .nxt ρ3 := by
  unfold parO M.bnd; rw [h]; simp only [h2, M.ret, R.toO, h3]
theorem if_no {c : M Bool} {f : En → O} {ρ ρ1 : En} (h : c ρ = .ok false ρ1) : ifO c f O.nxt ρ = .nxt ρ1 := by
  unfold ifO; rw [h]; rfl
theorem or_no {f g : M Bool} {ρ ρ1 : En} {r : R Bool} (h : f ρ = .ok false ρ1) (h2 : g ρ1 = r) : M.orB f g ρ = r := by
  unfold M.orB M.bnd; rw [h]; exact h2
theorem not_ev {f : M Bool} {ρ ρ1 : En} {b : Bool} (h : f ρ = .ok b ρ1) : M.notB f ρ = .ok (!b) ρ1 := by
  unfold M.notB M.bnd; rw [h]; rfl
theorem isB_ev {f : M Dat} {ρ ρ1 : En} {b : Bool} (h : f ρ = .ok (.bl b) ρ1) : M.isB f ρ = .ok b ρ1 := by
  unfold M.isB M.bnd; rw [h]; rfl
theorem call_ev {ga : M (List Dat)} {G : List Dat → O} {ρ ρ1 : En} {ds : List Dat} {d : Dat} (h : ga ρ = .ok ds ρ1) (h2 : G ds = .ret d []) : M.call ga [] G ρ = .ok d ρ1 := by
  unfold M.call M.bnd; rw [h]; simp only [List.append_nil, h2, callR]
theorem callK_ev {ga gk : M (List Dat)} {ix : List Nat} {G : List Dat → O} {ρ ρ1 ρ2 : En} {ds zs as : List Dat} {d : Dat} (h : ga ρ = .ok ds ρ1) (h2 : gk ρ1 = .ok zs ρ2) (hp : pick ix (ds ++ zs ++ []) = as) (h3 : G as = .ret d []) : M.callK ga gk ix [] G ρ = .ok d ρ2 := by
  unfold M.callK M.bnd; rw [h]; simp only [h2, hp, h3, callR]
theorem callD_ev {ga : M (List Dat)} {dd : List Dat} {G : List Dat → O} {ρ ρ1 : En} {ds : List Dat} {d : Dat} (h : ga ρ = .ok ds ρ1) (h2 : G (ds ++ dd) = .ret d []) : M.callD ga dd G ρ = .ok d ρ1 := by
  unfold M.callD M.bnd; rw [h]; simp only [h2, callR]
theorem set_ev {f : M Dat} {i : Nat} {ρ ρ1 ρ2 : En} {d : Dat} (h : f ρ = .ok d ρ1) (h2 : putS i d ρ1 = .nxt ρ2) : setO f i ρ = .nxt ρ2 := by
  unfold setO; rw [h]; exact h2
theorem ret_ev {f : M Dat} {ρ ρ1 : En} {d : Dat} (h : f ρ = .ok d ρ1) : retO f ρ = .ret d ρ1 := by
  unfold retO; rw [h]; rfl
theorem un_ev {f : M Dat} {op : Dat → Option Dat} {ρ ρ1 : En} {x z : Dat} (h : f ρ = .ok x ρ1) (h3 : op x = some z) : M.un1 f op ρ = .ok z ρ1 := by
  unfold M.un1 M.bnd; rw [h]; simp only [h3, M.lift]
theorem lst2_ev {g : M (List Dat)} {ρ ρ1 : En} {x y : Dat} (h : g ρ = .ok [x, y] ρ1) : M.frz (g.bnd capL) ρ = .ok (.lst [x, y]) ρ1 := by
  unfold M.frz M.bnd; rw [h]; rfl
theorem rgL_eq (n : Nat) : rgL 0 n = (List.range n).map fun i => Dat.int (i : Nat) := by unfold rgL; simp
theorem rg1_nat {n : Nat} (h : n < 1000000) : rg1 [.int n] = some ((List.range n).map fun i => Dat.int (i : Nat)) := by
  unfold rg1
  simp only []
  rw [if_pos (inR_of ⟨by omega, by omega⟩), Int.toNat_natCast, rgL_eq]
theorem rg1_int {n : Int} (h : 0 ≤ n) (h2 : n < 1000000) : rg1 [.int n] = some (rgL 0 n.toNat) := by
  unfold rg1
  simp only []
  rw [if_pos (inR_of ⟨by omega, by omega⟩)]
theorem neD_int {i j : Int} : neD (.int i) (.int j) = some (.bl (!(i == j))) := rfl
theorem eqD_int {i j : Int} : eqD (.int i) (.int j) = some (.bl (i == j)) := rfl
def UV (s : Sl) : Prop := s = .un ∨ ∃ d, s = .val d
end Sv

set_option Elab.async false
set_option linter.all false
set_option maxRecDepth 100000
set_option maxHeartbeats 1000000
namespace Sv.pw_cellpictures_k02_ways_and_maps_refused
open PySem L2 PyProof.Rows Sv
/-! ## draws -/
def mixS (c k : Int) : Int := (c * 2654435761 + 40503 * k * k + 97 * k + 13) % 2147483647
def mixF (c k : Int) : Int := (mixS c k * mixS c k + 7 * mixS c k + 11) % 2147483629 / 3
theorem mixF_pos (c k : Int) : 0 ≤ mixF c k := by unfold mixF; omega
theorem g_mixed {c k : Int} (h1 : 0 ≤ c) (h2 : c < 2147483647) (h3 : 0 ≤ k) (h4 : k < 1000000000000) : G_L_mixed [.int c, .int k] = .ret (.int (mixF c k)) [] := by
  simp (disch := omega) [G_L_mixed, B_L_mixed, mixF, mixS, mul_ok, mod_ok, fdiv_ok, gt0, st0, gt1, st1, gt2, st2, gt3, st3, gt4, st4, gt5, st5, gt6, st6, gt7, st7, gt8, st8, gt9, st9, gt10, st10, gt11, st11, gt12, st12, gt13, st13, gt14, st14, gt15, st15, seqO, O.then, setO, putS, parO, dropO, retO, retL, ifO, setNO, retNO, appL, subO, unpO, R.toO, M.ret, M.bnd, M.lift, M.bin, M.un1, M.cons, M.bi, M.isB, M.notB, M.andB, M.orB, M.andV, M.orV, M.notV, M.ite, M.tup, M.frz, capL, M.call, M.callN, M.callI, M.callK, M.callD, callR, Sv.callN, Sv.callI, M.chain, M.idxT, M.idxL, rdVar, ixVar, lenVar, listAt, mutAt, putAt, hasS, startE, Tg.slots, setT, setVs, unS, isUn, mkTup, mkLst, iop, bop, addD, subD, negD, isiD, tyN, tb_int, tb_bool, tb_str, tb_tuple, tb_list, lenD, ixD, itemsS, items, tupleD, intD, max2D, min2D, isNoneD, notNoneD, isN, O.pur, O.inp, pick, rg1, rg2, atI, ixN, forO, forRO, M.lc, M.lcR, lcI, tYesM]
theorem g_draw {a b c n : Int} (ha : 0 ≤ a) (hb : 0 ≤ b) (hb2 : b < 2147483647) (hc : 0 ≤ c) (hc2 : c < 900000000000) (hn : 0 < n) (hn2 : n < 1073741824) :
    ∃ d a' c', 0 ≤ d ∧ d < n ∧ 0 ≤ a' ∧ 0 ≤ c' ∧ c' ≤ c + 1 ∧ G_L_draw [.int a, .int b, .int c] [.int n] = .ret (.int d) [.ino [.int a', .int b, .int c']] := by
  by_cases h : 0 < a
  · refine ⟨a % n, a / n, c, Int.emod_nonneg _ (by omega), Int.emod_lt_of_pos _ hn, Int.ediv_nonneg ha (by omega), hc, by omega, ?_⟩
    simp (disch := omega) [G_L_draw, B_L_draw, h, mul_ok, mod_ok, fdiv_ok, gt0, st0, gt1, st1, gt2, st2, gt3, st3, gt4, st4, gt5, st5, gt6, st6, gt7, st7, gt8, st8, gt9, st9, gt10, st10, gt11, st11, gt12, st12, gt13, st13, gt14, st14, gt15, st15, seqO, O.then, setO, putS, parO, dropO, retO, retL, ifO, setNO, retNO, appL, subO, unpO, R.toO, M.ret, M.bnd, M.lift, M.bin, M.un1, M.cons, M.bi, M.isB, M.notB, M.andB, M.orB, M.andV, M.orV, M.notV, M.ite, M.tup, M.frz, capL, M.call, M.callN, M.callI, M.callK, M.callD, callR, Sv.callN, Sv.callI, M.chain, M.idxT, M.idxL, rdVar, ixVar, lenVar, listAt, mutAt, putAt, hasS, startE, Tg.slots, setT, setVs, unS, isUn, mkTup, mkLst, iop, bop, addD, subD, negD, isiD, tyN, tb_int, tb_bool, tb_str, tb_tuple, tb_list, lenD, ixD, itemsS, items, tupleD, intD, max2D, min2D, isNoneD, notNoneD, isN, O.pur, O.inp, pick, rg1, rg2, atI, ixN, forO, forRO, M.lc, M.lcR, lcI, tYesM]
  · refine ⟨mixF b (c + 1) % n, a, c + 1, Int.emod_nonneg _ (by omega), Int.emod_lt_of_pos _ hn, ha, by omega, by omega, ?_⟩
    simp (disch := omega) [G_L_draw, B_L_draw, h, g_mixed, mul_ok, mod_ok, fdiv_ok, gt0, st0, gt1, st1, gt2, st2, gt3, st3, gt4, st4, gt5, st5, gt6, st6, gt7, st7, gt8, st8, gt9, st9, gt10, st10, gt11, st11, gt12, st12, gt13, st13, gt14, st14, gt15, st15, seqO, O.then, setO, putS, parO, dropO, retO, retL, ifO, setNO, retNO, appL, subO, unpO, R.toO, M.ret, M.bnd, M.lift, M.bin, M.un1, M.cons, M.bi, M.isB, M.notB, M.andB, M.orB, M.andV, M.orV, M.notV, M.ite, M.tup, M.frz, capL, M.call, M.callN, M.callI, M.callK, M.callD, callR, Sv.callN, Sv.callI, M.chain, M.idxT, M.idxL, rdVar, ixVar, lenVar, listAt, mutAt, putAt, hasS, startE, Tg.slots, setT, setVs, unS, isUn, mkTup, mkLst, iop, bop, addD, subD, negD, isiD, tyN, tb_int, tb_bool, tb_str, tb_tuple, tb_list, lenD, ixD, itemsS, items, tupleD, intD, max2D, min2D, isNoneD, notNoneD, isN, O.pur, O.inp, pick, rg1, rg2, atI, ixN, forO, forRO, M.lc, M.lcR, lcI, tYesM]

def Pu (m : Int) (xs : List Dat) : Prop := ∃ a b c : Int, xs = [.int a, .int b, .int c] ∧ 0 ≤ a ∧ 0 ≤ b ∧ b < 2147483647 ∧ 0 ≤ c ∧ c ≤ m
theorem Pu.up {m m' : Int} {xs : List Dat} (h : Pu m xs) (k : m ≤ m') : Pu m' xs := by
  obtain ⟨a, b, c, e, h1, h2, h3, h4, h5⟩ := h
  exact ⟨a, b, c, e, h1, h2, h3, h4, by omega⟩
theorem dr {m n : Int} {xs : List Dat} (h : Pu m xs) (hm : m < 900000000) (hn : 0 < n) (hn2 : n < 1000000) : ∃ d ys, 0 ≤ d ∧ d < n ∧ Pu (m + 1) ys ∧ G_L_draw xs [.int n] = .ret (.int d) [.ino ys] := by
  obtain ⟨a, b, c, rfl, h1, h2, h3, h4, h5⟩ := h
  obtain ⟨d, a', c', q1, q2, q3, q4, q5, e⟩ := g_draw h1 h2 h3 h4 (show c < 900000000000 by omega) hn (show n < 1073741824 by omega)
  exact ⟨d, _, q1, q2, ⟨a', b, c', rfl, q3, h2, h3, q4, by omega⟩, e⟩
theorem g_purse {ns : List Int} {at' : Int} (h0 : 0 ≤ at') (h8 : at' < 100) : ∃ xs, Pu 100000 xs ∧ G_L_purse [.scr (ns.map Dat.int), .int at'] = .new xs [] := by
  have fin : ∀ v : Int, ∃ xs, Pu 100000 xs ∧ (retL (M.cons (M.bin (M.bi (M.cons (M.bi (M.cons (M.bin (rdVar 2) (M.bin (M.ret (.int 10)) (M.ret (.int 18)) powD) subD) ((M.cons (M.ret (.int 0)) ((M.ret []))))) max2D) ((M.ret []))) intD) (M.bin (M.bin (M.ret (.int 10)) (M.ret (.int 60)) powD) (M.ret (.int 8)) powD) modD) ((M.cons (M.bin (M.bi (M.cons (rdVar 2) ((M.ret []))) intD) (M.ret (.int 2147483647)) modD) ((M.cons (M.bin (M.ret (.int 1000)) (rdVar 1) mulD) ((M.ret []))))))) [.val (.scr (ns.map Dat.int)), .val (.int at'), .val (.int v)]) = .new xs [.val (.scr (ns.map Dat.int)), .val (.int at'), .val (.int v)] := fun v => by
    let mx : Int := if 0 > v - 1000000000000000000 then 0 else v - 1000000000000000000
    refine ⟨[.int (mx % 1000000000000000000000000000000000000000000000000000000000000000000000000000000000000000000000000000000000000000000000000000000000000000000000000000000000000000000000000000000000000000000000000000000000000000000000000000000000000000000000000000000000000000000000000000000000000000000000000000000000000000000000000000000000000000000000000000000000000000000000000000000000000000000000000000000000000000000000000000000000000000000000000000000000000000000000000000000000000000000000000), .int (v % 2147483647), .int (1000 * at')], ⟨_, _, _, rfl, Int.emod_nonneg _ (by decide), Int.emod_nonneg _ (by decide), Int.emod_lt_of_pos _ (by decide), by omega, by omega⟩, ?_⟩
    have e : (M.cons (M.bin (M.bi (M.cons (M.bi (M.cons (M.bin (rdVar 2) (M.bin (M.ret (.int 10)) (M.ret (.int 18)) powD) subD) ((M.cons (M.ret (.int 0)) ((M.ret []))))) max2D) ((M.ret []))) intD) (M.bin (M.bin (M.ret (.int 10)) (M.ret (.int 60)) powD) (M.ret (.int 8)) powD) modD) ((M.cons (M.bin (M.bi (M.cons (rdVar 2) ((M.ret []))) intD) (M.ret (.int 2147483647)) modD) ((M.cons (M.bin (M.ret (.int 1000)) (rdVar 1) mulD) ((M.ret []))))))) [.val (.scr (ns.map Dat.int)), .val (.int at'), .val (.int v)] = .ok [.int (mx % 1000000000000000000000000000000000000000000000000000000000000000000000000000000000000000000000000000000000000000000000000000000000000000000000000000000000000000000000000000000000000000000000000000000000000000000000000000000000000000000000000000000000000000000000000000000000000000000000000000000000000000000000000000000000000000000000000000000000000000000000000000000000000000000000000000000000000000000000000000000000000000000000000000000000000000000000000000000000000000000000000), .int (v % 2147483647), .int (1000 * at')] [.val (.scr (ns.map Dat.int)), .val (.int at'), .val (.int v)] :=
      acons (bin_ev (ev1 (a1 (ev1 (acons (bin_ev rfl (bin_ev lit lit p18) rfl) (a1 lit)) rfl)) rfl) (bin_ev (bin_ev lit lit p60) lit p480) (mod_ok (by decide)))
        (acons (bin_ev (ev1 (a1 rfl) rfl) lit (mod_ok (by decide))) (a1 (bin_ev lit rfl (mul_ok (.inl (by decide))))))
    unfold retL
    rw [e]
    rfl
  show ∃ xs, Pu 100000 xs ∧ (B_L_purse [.val (.scr (ns.map Dat.int)), .val (.int at'), .un]).pur = .new xs []
  have ln : lenD [.scr (ns.map Dat.int)] = some (.int ns.length) := by unfold lenD; simp
  by_cases h : at' < ns.length
  · obtain ⟨n, rfl⟩ := Int.eq_ofNat_of_zero_le h0
    have hn : n < ns.length := by omega
    have ix : ixD (.scr (ns.map Dat.int)) (.int (n : Nat)) = some (.int ns[n]) := by
      unfold ixD itemsS atI ixN
      simp only []
      rw [if_pos (Int.natCast_nonneg n), List.length_map, if_pos h]
      simp [hn]
    obtain ⟨xs, hp, e⟩ := fin ns[n]
    refine ⟨xs, hp, ?_⟩
    simp only [B_L_purse, seqO, O.then, setO, putS, ifO, M.isB, M.bin, M.bi, M.cons, M.bnd, M.ret, M.lift, R.toO, rdVar, gt0, gt1, gt2, st2, ln, bop, h, decide_true, if_true, ix] at e ⊢
    rw [e]
    rfl
  · obtain ⟨xs, hp, e⟩ := fin 0
    refine ⟨xs, hp, ?_⟩
    simp only [B_L_purse, seqO, O.then, setO, putS, ifO, M.isB, M.bin, M.bi, M.cons, M.bnd, M.ret, M.lift, R.toO, rdVar, gt0, gt1, gt2, st2, ln, bop, h, decide_false, Bool.false_eq_true, if_false] at e ⊢
    rw [e]
    rfl

end Sv.pw_cellpictures_k02_ways_and_maps_refused

set_option Elab.async false
set_option linter.all false
set_option maxRecDepth 100000
set_option maxHeartbeats 4000000
namespace Sv.pw_cellpictures_k02_ways_and_maps_refused
open PySem L2 PyProof.Rows Sv
def odds : List Dat := [.non, .int (-1), .int 8, .bl true, .str "3", .tup [.int 1], .lst []]
def bads : List Dat := [.non, .int (-1), .int 8, .bl true, .str "3", .tup [.int 1], .dct [] []]
def sides : List Dat := [.non, .int (-1), .int 4, .bl false, .str "3", .tup [.int 1], .dct [] []]
def grids0 : List Dat := [.non, .tup [], .tup [.tup []], .lst [.tup [.int 0]], .tup [.tup [.int 0], .tup [.int 0, .int 1]], .tup [.lst [.int 0]], .tup [.tup [.bl true]], .tup [.tup [.int (-1)]], .tup [.tup [.str "0"]], .tup [.tup [.int 0, .non]]]
def grids1 : List Dat := [.int 5, .tup [.tup [.int 0], .tup []], .tup [.int 0, .int 1], .tup [.non], .tup [.str "01"], .tup [.tup [.int 0], .tup [.bl true]], .tup [.tup [.int 0], .tup [.int (-1)]], .tup [.tup [.int 0, .int 1], .tup [.int 2, .str "3"]], .dct [] []]
def grids : List Dat := grids0 ++ grids1
def rims0 : List Dat := [.non, .tup [.str "open"], .lst [.str "open", .str "open"], .tup [.str "open", .str "shut"], .tup [.str "wrap", .str "wrap", .str "wrap"], .str "wrap", .tup [.bl true, .str "open"], .tup []]
def rims1 : List Dat := [.tup [.str "shut", .str "open"], .tup [.str "open", .non], .tup [.str "Open", .str "open"]]
def rims : List Dat := rims0 ++ rims1
def cells : List Dat := [.non, .int (-1), .int 2, .bl true, .str "0", .tup [.int 0]]
def fineD : Dat := .tup [.tup [.int 0, .int 1, .int 5], .tup [.int 2, .int 0, .int 100000000000000000000]]
abbrev C (k : Int) (as : List Dat) (r : Dat) : Prop := G_L_caught [.int k, .lst as] = .ret r []
theorem c1 {o b : Dat} (h : o ∈ odds) : C 0 [o, b] (.lst [.str "way", o]) := by
  simp only [odds, List.mem_cons, List.not_mem_nil, or_false] at h
  rcases h with rfl | rfl | rfl | rfl | rfl | rfl | rfl <;> kernel_rfl
theorem c2 {o : Dat} (h : o ∈ bads) : C 0 [.int 3, o] (.lst [.str "way", o]) := by
  simp only [bads, List.mem_cons, List.not_mem_nil, or_false, List.cons_append, List.nil_append] at h
  rcases h with rfl | rfl | rfl | rfl | rfl | rfl | rfl <;> kernel_rfl
theorem c3 {o : Dat} (h : o ∈ odds) : C 1 [o] (.lst [.str "way", o]) := by
  simp only [odds, List.mem_cons, List.not_mem_nil, or_false, List.cons_append, List.nil_append] at h
  rcases h with rfl | rfl | rfl | rfl | rfl | rfl | rfl <;> kernel_rfl
theorem c4 {o b : Dat} (h : o ∈ odds) : C 2 [o, b] (.lst [.str "way", o]) := by
  simp only [odds, List.mem_cons, List.not_mem_nil, or_false, List.cons_append, List.nil_append] at h
  rcases h with rfl | rfl | rfl | rfl | rfl | rfl | rfl <;> kernel_rfl
theorem c5 {o : Dat} (h : o ∈ bads) : C 2 [.int 3, o] (.lst [.str "number", o]) := by
  simp only [bads, List.mem_cons, List.not_mem_nil, or_false, List.cons_append, List.nil_append] at h
  rcases h with rfl | rfl | rfl | rfl | rfl | rfl | rfl <;> kernel_rfl
theorem c6 {o b : Dat} (h : o ∈ odds) : C 3 [o, b] (.lst [.str "way", o]) := by
  simp only [odds, List.mem_cons, List.not_mem_nil, or_false, List.cons_append, List.nil_append] at h
  rcases h with rfl | rfl | rfl | rfl | rfl | rfl | rfl <;> kernel_rfl
theorem c7 {o : Dat} (h : o ∈ sides) : C 3 [.int 7, o] (.lst [.str "number", o]) := by
  simp only [sides, List.mem_cons, List.not_mem_nil, or_false, List.cons_append, List.nil_append] at h
  rcases h with rfl | rfl | rfl | rfl | rfl | rfl | rfl <;> kernel_rfl
theorem c8 {o b : Dat} (h : o ∈ grids) : C 4 [o, b] (.lst [.str "map", o]) := by
  simp only [grids, grids0, grids1, List.mem_cons, List.not_mem_nil, or_false, List.cons_append, List.nil_append] at h
  rcases h with rfl | rfl | rfl | rfl | rfl | rfl | rfl | rfl | rfl | rfl | rfl | rfl | rfl | rfl | rfl | rfl | rfl | rfl | rfl <;> kernel_rfl
theorem c9 {o : Dat} (h : o ∈ odds) : C 4 [fineD, o] (.lst [.str "way", o]) := by
  simp only [odds, List.mem_cons, List.not_mem_nil, or_false, List.cons_append, List.nil_append] at h
  rcases h with rfl | rfl | rfl | rfl | rfl | rfl | rfl <;> kernel_rfl
theorem c10 {o b : Dat} (h : o ∈ rims) : C 5 [o, b] (.lst [.str "ends", o]) := by
  simp only [rims, rims0, rims1, List.mem_cons, List.not_mem_nil, or_false, List.cons_append, List.nil_append] at h
  rcases h with rfl | rfl | rfl | rfl | rfl | rfl | rfl | rfl | rfl | rfl | rfl <;> kernel_rfl
theorem c11 {o : Dat} (h : o ∈ odds) : C 5 [.tup [.str "open", .str "wrap"], o] (.lst [.str "way", o]) := by
  simp only [odds, List.mem_cons, List.not_mem_nil, or_false, List.cons_append, List.nil_append] at h
  rcases h with rfl | rfl | rfl | rfl | rfl | rfl | rfl <;> kernel_rfl
theorem c12 {o b c d : Dat} (h : o ∈ grids) : C 6 [o, b, c, d] (.lst [.str "map", o]) := by
  simp only [grids, grids0, grids1, List.mem_cons, List.not_mem_nil, or_false, List.cons_append, List.nil_append] at h
  rcases h with rfl | rfl | rfl | rfl | rfl | rfl | rfl | rfl | rfl | rfl | rfl | rfl | rfl | rfl | rfl | rfl | rfl | rfl | rfl <;> kernel_rfl
theorem c13 {o b c : Dat} (h : o ∈ cells) : C 6 [fineD, o, b, c] (.lst [.str "cell", o]) := by
  simp only [cells, List.mem_cons, List.not_mem_nil, or_false, List.cons_append, List.nil_append] at h
  rcases h with rfl | rfl | rfl | rfl | rfl | rfl <;> kernel_rfl
def cellX : Dat → Dat
  | .int 2 => .int 3
  | d => d
theorem c14 {o b : Dat} (h : o ∈ cells) : C 6 [fineD, .int 1, cellX o, b] (.lst [.str "cell", cellX o]) := by
  simp only [cells, List.mem_cons, List.not_mem_nil, or_false, List.cons_append, List.nil_append] at h
  rcases h with rfl | rfl | rfl | rfl | rfl | rfl <;> kernel_rfl
theorem c15 {o : Dat} (h : o ∈ rims) : C 6 [fineD, .int 1, .int 2, o] (.lst [.str "ends", o]) := by
  simp only [rims, rims0, rims1, List.mem_cons, List.not_mem_nil, or_false, List.cons_append, List.nil_append] at h
  rcases h with rfl | rfl | rfl | rfl | rfl | rfl | rfl | rfl | rfl | rfl | rfl <;> kernel_rfl
theorem c16 : C 6 [fineD, .int 1, .int 2, .tup [.str "wrap", .str "open"]] .non := by kernel_rfl
theorem c17 : C 4 [fineD, .int 0] .non := by kernel_rfl
theorem c18 : C 5 [.tup [.str "open", .str "open"], .int 7] .non := by kernel_rfl
theorem c19 : C 6 [.tup [.tup [.int 0]], .int 0, .int 0, .tup [.str "open", .str "open"]] .non := by kernel_rfl
end Sv.pw_cellpictures_k02_ways_and_maps_refused

set_option Elab.async false
set_option linter.all false
set_option maxRecDepth 100000
set_option maxHeartbeats 16100000
namespace Sv.pw_cellpictures_k02_ways_and_maps_refused
open PySem L2 PyProof.Rows Sv
/-- what each question is answered -/
inductive Ans : List Dat → List Dat → Prop
  | nil : Ans [] []
  | cons {k : Int} {as : List Dat} {r : Dat} {qs rs : List Dat} : C k as r → Ans qs rs → Ans (.tup [.int k, .lst as] :: qs) (r :: rs)
theorem Ans.len : ∀ {qs rs : List Dat}, Ans qs rs → qs.length = rs.length
  | _, _, .nil => rfl
  | _, _, .cons _ r => by rw [List.length_cons, List.length_cons, r.len]
theorem lc_ans {s0 s1 s2 s3 s4 s5 s6 s7 s8 s9 s10 : Sl} : ∀ {qs rs acc : List Dat}, Ans qs rs → acc.length + qs.length < 1000000 →
    lcL (.tup [11, 12]) tYesM E_L_right_0 qs acc [s0, s1, s2, s3, s4, s5, s6, s7, s8, s9, s10, .un, .un] = .ok (acc ++ rs) [s0, s1, s2, s3, s4, s5, s6, s7, s8, s9, s10, .un, .un]
  | _, _, acc, .nil, _ => by rw [List.append_nil]; rfl
  | _, _, acc, .cons (k := k) (as := as) (r := r) (qs := qs) (rs := rs) h t, hl => by
    have e : E_L_right_0 [s0, s1, s2, s3, s4, s5, s6, s7, s8, s9, s10, .val (.int k), .val (.lst as)] = .ok r [s0, s1, s2, s3, s4, s5, s6, s7, s8, s9, s10, .val (.int k), .val (.lst as)] :=
      call_ev (acons rfl (a1 rfl)) h
    have l1 : acc.length < 1000000 := by rw [List.length_cons] at hl; omega
    have ih := lc_ans (s0 := s0) (s1 := s1) (s2 := s2) (s3 := s3) (s4 := s4) (s5 := s5) (s6 := s6) (s7 := s7) (s8 := s8) (s9 := s9) (s10 := s10) (acc := acc ++ [r]) t (by rw [List.length_append, List.length_cons, List.length_nil]; rw [List.length_cons] at hl; omega)
    rw [List.append_assoc] at ih
    refine Eq.trans (lcL_cons (ρ1 := [s0, s1, s2, s3, s4, s5, s6, s7, s8, s9, s10, .val (.int k), .val (.lst as)]) rfl e l1) ?_
    exact ih
/-! ## what is shown fits -/
def Fits (d : Dat) : Prop := d.shw = true ∧ d.wid ≤ 16100 ∧ d.dep ≤ 8
theorem fits_of {l : List Dat} (h : (l.all fun d => d.shw && Nat.ble d.wid 8000 && Nat.ble d.dep 5) = true) {d : Dat} (hd : d ∈ l) : d.shw = true ∧ d.wid ≤ 8000 ∧ d.dep ≤ 5 := by
  have h := List.all_eq_true.mp h d hd
  rw [Bool.and_eq_true, Bool.and_eq_true] at h
  exact ⟨h.1.1, Nat.le_of_ble_eq_true h.1.2, Nat.le_of_ble_eq_true h.2⟩
theorem fits2 {s d : Dat} (hs : s.shw = true ∧ s.wid ≤ 8000 ∧ s.dep ≤ 5) (h : d.shw = true ∧ d.wid ≤ 8000 ∧ d.dep ≤ 5) : Fits (.lst [s, d]) := by
  refine ⟨?_, ?_, ?_⟩
  · show (s.shw && (d.shw && true)) = true
    rw [hs.1, h.1]; rfl
  · show (s.wid + 2 + (d.wid + 2 + 0)) + 2 ≤ 16100
    omega
  · show max s.dep (max d.dep 0) + 1 ≤ 8
    omega
theorem fits_all : ∀ {ds : List Dat}, (∀ d ∈ ds, Fits d) → Dat.shws ds = true ∧ Dat.wids ds ≤ 16102 * ds.length ∧ Dat.deps ds ≤ 8
  | [], _ => ⟨rfl, Nat.le_refl _, Nat.zero_le _⟩
  | d :: ds, h => by
    obtain ⟨a, b, c⟩ := fits_all fun x hx => h x (List.mem_cons_of_mem _ hx)
    obtain ⟨a', b', c'⟩ := h d List.mem_cons_self
    refine ⟨?_, ?_, ?_⟩
    · show (d.shw && Dat.shws ds) = true
      rw [a, a']; rfl
    · show d.wid + 2 + Dat.wids ds ≤ _
      rw [List.length_cons]; omega
    · show max d.dep (Dat.deps ds) ≤ 8
      omega
theorem str_ok {ds : List Dat} (h : ∀ d ∈ ds, Fits d) (hl : ds.length ≤ 60) : strD [.lst ds] = some (.str (Dat.lst ds).py.shown) := by
  obtain ⟨a, b, c⟩ := fits_all h
  unfold strD
  simp only []
  rw [if_pos ⟨a, by show Dat.wids ds + 2 ≤ _; omega, by show Dat.deps ds + 1 ≤ 60; omega⟩]
theorem eq_str (x : Str) : eqSD (.str x) (.str x) = some (.bl true) := by
  unfold eqSD
  simp
theorem ix_l {l : List Dat} {d : Int} (h0 : 0 ≤ d) (h : d < l.length) : ∃ x, x ∈ l ∧ ixD (.lst l) (.int d) = some x := by
  obtain ⟨n, rfl⟩ := Int.eq_ofNat_of_zero_le h0
  have hn : n < l.length := by omega
  refine ⟨l[n], List.getElem_mem hn, ?_⟩
  unfold ixD itemsS atI ixN
  simp only []
  rw [if_pos (Int.natCast_nonneg n), if_pos h]
  simp [hn]
def askedL (o b s g r c : Dat) : List Dat := [.tup [.int 0, .lst [o, b]], .tup [.int 0, .lst [.int 3, b]], .tup [.int 1, .lst [o]], .tup [.int 2, .lst [o, b]], .tup [.int 2, .lst [.int 3, b]],
  .tup [.int 3, .lst [o, s]], .tup [.int 3, .lst [.int 7, s]],
  .tup [.int 4, .lst [g, o]], .tup [.int 4, .lst [fineD, o]], .tup [.int 5, .lst [r, o]], .tup [.int 5, .lst [.tup [.str "open", .str "wrap"], o]],
  .tup [.int 6, .lst [g, c, c, r]], .tup [.int 6, .lst [fineD, c, .non, r]], .tup [.int 6, .lst [fineD, .int 1, cellX c, r]],
  .tup [.int 6, .lst [fineD, .int 1, .int 2, r]], .tup [.int 6, .lst [fineD, .int 1, .int 2, .tup [.str "wrap", .str "open"]]],
  .tup [.int 4, .lst [fineD, .int 0]], .tup [.int 5, .lst [.tup [.str "open", .str "open"], .int 7]]]
def dueL (o b s g r c : Dat) : List Dat := [.lst [.str "way", o], .lst [.str "way", b], .lst [.str "way", o], .lst [.str "way", o], .lst [.str "number", b], .lst [.str "way", o], .lst [.str "number", s],
  .lst [.str "map", g], .lst [.str "way", o], .lst [.str "ends", r], .lst [.str "way", o], .lst [.str "map", g], .lst [.str "cell", c], .lst [.str "cell", cellX c], .lst [.str "ends", r], .non, .non, .non]
theorem ans {o b s g r c : Dat} (ho : o ∈ odds) (hb : b ∈ bads) (hs : s ∈ sides) (hg : g ∈ grids) (hr : r ∈ rims) (hc : c ∈ cells) : Ans (askedL o b s g r c) (dueL o b s g r c) :=
  .cons (c1 ho) (.cons (c2 hb) (.cons (c3 ho) (.cons (c4 ho) (.cons (c5 hb) (.cons (c6 ho) (.cons (c7 hs) (.cons (c8 hg) (.cons (c9 ho) (.cons (c10 hr) (.cons (c11 ho) (.cons (c12 hg) (.cons (c13 hc) (.cons (c14 hc) (.cons (c15 hr) (.cons c16 (.cons c17 (.cons c18 .nil)))))))))))))))))
theorem due_fits {o b s g r c : Dat} (ho : o ∈ odds) (hb : b ∈ bads) (hs : s ∈ sides) (hg : g ∈ grids) (hr : r ∈ rims) (hc : c ∈ cells) : ∀ d ∈ dueL o b s g r c, Fits d := by
  have fo := fits_of (by decide +kernel) ho
  have fb := fits_of (by decide +kernel) hb
  have fs := fits_of (by decide +kernel) hs
  have fg := fits_of (by decide +kernel) hg
  have fr := fits_of (by decide +kernel) hr
  have fc := fits_of (by decide +kernel) hc
  have fx : (cellX c).shw = true ∧ (cellX c).wid ≤ 8000 ∧ (cellX c).dep ≤ 5 := by
    simp only [cells, List.mem_cons, List.not_mem_nil, or_false] at hc
    rcases hc with rfl | rfl | rfl | rfl | rfl | rfl <;> exact fits_of (l := [_]) (by decide +kernel) List.mem_cons_self
  have k : ∀ x ∈ ([.str "way", .str "number", .str "map", .str "ends", .str "cell"] : List Dat), x.shw = true ∧ x.wid ≤ 8000 ∧ x.dep ≤ 5 := fun x hx => fits_of (by decide +kernel) hx
  have kw := k (.str "way") (by simp)
  have kn := k (.str "number") (by simp)
  have km := k (.str "map") (by simp)
  have ke := k (.str "ends") (by simp)
  have kc := k (.str "cell") (by simp)
  have nn : Fits .non := ⟨rfl, by show 4 ≤ 16100; decide, by show 0 ≤ 8; decide⟩
  intro d hd
  simp only [dueL, List.mem_cons, List.not_mem_nil, or_false] at hd
  rcases hd with rfl | rfl | rfl | rfl | rfl | rfl | rfl | rfl | rfl | rfl | rfl | rfl | rfl | rfl | rfl | rfl | rfl | rfl <;> first | exact nn | exact fits2 (by assumption) (by assumption)
end Sv.pw_cellpictures_k02_ways_and_maps_refused

set_option Elab.async false
set_option linter.all false
set_option maxRecDepth 100000
set_option maxHeartbeats 4000000
namespace Sv.pw_cellpictures_k02_ways_and_maps_refused
open PySem L2 PyProof.Rows Sv
/-- t = xs[draw], xs a display -/
theorem st_pick {f : M Dat} {n : Int} {i : Nat} {l : List Dat} {xs ys : List Dat} {tl : En} {d : Int} {x : Dat} {ρ' : En} (hf : f (.ino xs :: tl) = .ok (.lst l) (.ino xs :: tl)) (e : G_L_draw xs [.int n] = .ret (.int d) [.ino ys]) (hx : ixD (.lst l) (.int d) = some x) (hp : putS i x (.ino ys :: tl) = .nxt ρ') :
    setO (M.bin f (M.callI 0 ((M.cons (M.ret (.int n)) ((M.ret [])))) G_L_draw) ixD) i (.ino xs :: tl) = .nxt ρ' :=
  set_ev (bin_ev hf (ci (a1 lit) e) hx) hp
theorem g_right {m : Int} {xs : List Dat} (h : Pu m xs) (hm : m < 600000000) : ∃ ys, Pu (m + 50) ys ∧ G_L_right xs [] = .ret (.bl true) [.ino ys] := by
  obtain ⟨d1, x1, p1, q1, h1, e1⟩ := dr (n := 7) h (by omega) (by decide) (by decide)
  obtain ⟨d2, x2, p2, q2, h2, e2⟩ := dr (n := 7) h1 (by omega) (by decide) (by decide)
  obtain ⟨d3, x3, p3, q3, h3, e3⟩ := dr (n := 7) h2 (by omega) (by decide) (by decide)
  obtain ⟨d4, x4, p4, q4, h4, e4⟩ := dr (n := 19) h3 (by omega) (by decide) (by decide)
  obtain ⟨d5, x5, p5, q5, h5, e5⟩ := dr (n := 11) h4 (by omega) (by decide) (by decide)
  obtain ⟨d6, x6, p6, q6, h6, e6⟩ := dr (n := 6) h5 (by omega) (by decide) (by decide)
  obtain ⟨o, ho, io⟩ := ix_l (l := odds) p1 q1
  obtain ⟨b, hb, ib⟩ := ix_l (l := bads) p2 q2
  obtain ⟨s, hs, is⟩ := ix_l (l := sides) p3 q3
  obtain ⟨g, hg, ig⟩ := ix_l (l := grids) p4 q4
  obtain ⟨r, hr, ir⟩ := ix_l (l := rims) p5 q5
  obtain ⟨c, hc, ic⟩ := ix_l (l := cells) p6 q6
  refine ⟨x6, h6.up (by omega), ?_⟩
  have an := ans ho hb hs hg hr hc
  have fi := due_fits ho hb hs hg hr hc
  have key : B_L_right [.ino xs, .un, .un, .un, .un, .un, .un, .un, .un, .un, .un, .un, .un] = .ret (.bl true) [.ino x6, .val o, .val b, .val s, .val (.lst grids), .val g, .val r, .val c, .val fineD, .val (.lst (askedL o b s g r c)), .val (.lst (dueL o b s g r c)), .un, .un] := by
    refine seq_step (st_pick (by kernel_rfl) e1 io rfl) ?_
    refine seq_step (st_pick (by kernel_rfl) e2 ib rfl) ?_
    refine seq_step (st_pick (by kernel_rfl) e3 is rfl) ?_
    refine seq_step (ρ1 := [.ino x3, .val o, .val b, .val s, .val (.lst grids0), .un, .un, .un, .un, .un, .un, .un, .un]) (by kernel_rfl) ?_
    refine seq_step (ρ1 := [.ino x3, .val o, .val b, .val s, .val (.lst grids), .un, .un, .un, .un, .un, .un, .un, .un]) (by kernel_rfl) ?_
    refine seq_step (st_pick rfl e4 ig rfl) ?_
    refine seq_step (ρ1 := [.ino x4, .val o, .val b, .val s, .val (.lst grids), .val g, .val (.lst rims0), .un, .un, .un, .un, .un, .un]) (by kernel_rfl) ?_
    refine seq_step (ρ1 := [.ino x4, .val o, .val b, .val s, .val (.lst grids), .val g, .val (.lst rims), .un, .un, .un, .un, .un, .un]) (by kernel_rfl) ?_
    refine seq_step (st_pick rfl e5 ir rfl) ?_
    refine seq_step (st_pick (by kernel_rfl) e6 ic rfl) ?_
    refine Eq.trans (b := retO (M.bin (M.bi (M.cons (M.frz C_L_right_1) ((M.ret []))) strD) (M.bi (M.cons (rdVar 10) ((M.ret []))) strD) eqSD) [.ino x6, .val o, .val b, .val s, .val (.lst grids), .val g, .val r, .val c, .val fineD, .val (.lst (askedL o b s g r c)), .val (.lst (dueL o b s g r c)), .un, .un]) ?_ ?_
    · simp only [cells, List.mem_cons, List.not_mem_nil, or_false] at hc
      rcases hc with rfl | rfl | rfl | rfl | rfl | rfl <;> kernel_rfl
    · have l18 : (askedL o b s g r c).length = 18 := rfl
      have ev : C_L_right_1 [.ino x6, .val o, .val b, .val s, .val (.lst grids), .val g, .val r, .val c, .val fineD, .val (.lst (askedL o b s g r c)), .val (.lst (dueL o b s g r c)), .un, .un] = .ok (dueL o b s g r c) [.ino x6, .val o, .val b, .val s, .val (.lst grids), .val g, .val r, .val c, .val fineD, .val (.lst (askedL o b s g r c)), .val (.lst (dueL o b s g r c)), .un, .un] :=
        lc_ev (d := .lst (askedL o b s g r c)) rfl rfl rfl (lc_ans (acc := []) an (by rw [l18]; decide))
      have fz : M.frz C_L_right_1 [.ino x6, .val o, .val b, .val s, .val (.lst grids), .val g, .val r, .val c, .val fineD, .val (.lst (askedL o b s g r c)), .val (.lst (dueL o b s g r c)), .un, .un] = .ok (.lst (dueL o b s g r c)) [.ino x6, .val o, .val b, .val s, .val (.lst grids), .val g, .val r, .val c, .val fineD, .val (.lst (askedL o b s g r c)), .val (.lst (dueL o b s g r c)), .un, .un] := by
        unfold M.frz M.bnd; rw [ev]; rfl
      have so := str_ok fi (by show 18 ≤ 60; decide)
      exact ret_ev (bin_ev (ev1 (a1 fz) so) (ev1 (a1 rfl) so) (eq_str _))
  show (B_L_right [.ino xs, .un, .un, .un, .un, .un, .un, .un, .un, .un, .un, .un, .un]).inp = _
  rw [key]
  rfl
end Sv.pw_cellpictures_k02_ways_and_maps_refused

set_option Elab.async false
set_option linter.all false
set_option maxRecDepth 100000
set_option maxHeartbeats 1000000
namespace Sv.pw_cellpictures_k02_ways_and_maps_refused
open PySem L2 PyProof.Rows Sv
theorem k_law1 {a b s : Sl} {xs : List Dat} (h : Pu 100000 xs) (hs : UV s) : ∃ ys s', UV s' ∧ F_law_1 [a, b, .own xs, s] = .nxt [a, b, .own ys, s'] := by
  obtain ⟨ρ', e, ys, s', _, rfl, hs'⟩ := forL_inv (t := .one 3) (b := L_law_0) (P := fun k ρ => ∃ ys s', Pu (100000 + 50 * k) ys ∧ ρ = [a, b, .own ys, s'] ∧ UV s') (ds0 := rgL 0 3) 3 (fun d hd k ρ hk ⟨ys, s', p, e, hs⟩ => by
    subst e
    obtain ⟨zs, p2, e2⟩ := g_right p (by omega)
    have s1 : setT (.one 3) d [a, b, .own ys, s'] = some [a, b, .own ys, .val d] := by rcases hs with rfl | ⟨d', rfl⟩ <;> rfl
    exact ⟨_, _, s1, if_no (not_ev (isB_ev (ci2 a0 e2))), zs, .val d, p2.up (by omega), rfl, .inr ⟨d, rfl⟩⟩) (ds := rgL 0 3) (k := 0) (ρ := [a, b, .own xs, s]) (fun _ h => h) ⟨xs, s, by simpa using h, rfl, hs⟩ (by decide)
  exact ⟨ys, s', hs', forR_ev (as := [.int 3]) (ρ1 := [a, b, .own xs, s]) rfl rfl e⟩
theorem k_law3 {ns : List Int} : ∃ s1 s2 s3, F_law_3 [.val (.scr (ns.map Dat.int)), .un, .un, .un] = .nxt [.val (.scr (ns.map Dat.int)), s1, s2, s3] := by
  let n : Int := 1 + (if (ns.length : Int) < 8 then (ns.length : Int) else 8)
  have n0 : 0 ≤ n := by show 0 ≤ 1 + (if (ns.length : Int) < 8 then (ns.length : Int) else 8); split <;> omega
  have n9 : n ≤ 9 := by show 1 + (if (ns.length : Int) < 8 then (ns.length : Int) else 8) ≤ 9; split <;> omega
  obtain ⟨ρ', e, s1, s2, s3, rfl, _, _, h3⟩ := forL_inv (t := .one 1) (b := L_law_2) (P := fun k ρ => ∃ s1 s2 s3, ρ = [.val (.scr (ns.map Dat.int)), s1, s2, s3] ∧ UV s1 ∧ (s2 = .un ∨ ∃ ys, s2 = .own ys) ∧ UV s3) (ds0 := rgL 0 n.toNat) n.toNat (fun d hd k ρ hk ⟨s1, s2, s3, e, q1, q2, q3⟩ => by
    subst e
    obtain ⟨i, hi, rfl⟩ := List.mem_map.mp hd
    have hi := List.mem_range.mp hi
    obtain ⟨xs, p, e2⟩ := g_purse (ns := ns) (at' := (0 : Int) + (i : Nat)) (by omega) (by omega)
    obtain ⟨ys, s', hs', e3⟩ := k_law1 (a := .val (.scr (ns.map Dat.int))) (b := .val (.int ((0 : Int) + (i : Nat)))) p q3
    have t1 : setT (.one 1) (.int ((0 : Int) + (i : Nat))) [.val (.scr (ns.map Dat.int)), s1, s2, s3] = some [.val (.scr (ns.map Dat.int)), .val (.int ((0 : Int) + (i : Nat))), s2, s3] := by rcases q1 with rfl | ⟨d', rfl⟩ <;> rfl
    have t2 : setNO (M.callN (M.cons (rdVar 0) ((M.cons (rdVar 1) ((M.ret []))))) [] G_L_purse) 2 [.val (.scr (ns.map Dat.int)), .val (.int ((0 : Int) + (i : Nat))), s2, s3] = .nxt [.val (.scr (ns.map Dat.int)), .val (.int ((0 : Int) + (i : Nat))), .own xs, s3] := by
      rcases q2 with rfl | ⟨ys, rfl⟩ <;> simp only [setNO, M.callN, M.cons, M.bnd, M.ret, rdVar, gt0, gt1, gt2, List.append_nil, e2, Sv.callN, R.toO, st2]
    exact ⟨_, _, t1, seq_step t2 e3, _, _, _, rfl, .inr ⟨_, rfl⟩, .inr ⟨_, rfl⟩, hs'⟩) (ds := rgL 0 n.toNat) (k := 0) (ρ := [.val (.scr (ns.map Dat.int)), .un, .un, .un]) (fun _ h => h) ⟨_, _, _, rfl, .inl rfl, .inl rfl, .inl rfl⟩ (by rw [rgL_len]; omega)
  have ln : lenD [.scr (ns.map Dat.int)] = some (.int ns.length) := by unfold lenD; simp
  refine ⟨s1, s2, s3, forR_ev (as := [.int n]) (ρ1 := [.val (.scr (ns.map Dat.int)), .un, .un, .un]) ?_ (rg1_int n0 (by omega)) e⟩
  exact a1 (bin_ev lit (ev1 (acons lit (a1 (ev1 (a1 rfl) ln))) rfl) rfl)
theorem law_true (ns : List Int) (h : ns.length ≤ 63) : G_law [.scr (ns.map Dat.int)] = .ret (.bl true) [] := by
  obtain ⟨s1, s2, s3, e3⟩ := k_law3 (ns := ns)
  show (B_law [.val (.scr (ns.map Dat.int)), .un, .un, .un]).pur = _
  generalize Sl.val (.scr (ns.map Dat.int)) = s0 at e3 ⊢
  have key : B_law [s0, .un, .un, .un] = .ret (.bl true) [s0, s1, s2, s3] := by
    refine seq_step e3 ?_
    refine ret_ev (bin_ev (call_ev (ρ1 := [s0, s1, s2, s3]) (ds := [.int 6, .lst [.tup [.tup [.int 0]], .int 0, .int 0, .tup [.str "open", .str "open"]]]) rfl c19) lit rfl)
  rw [key]
  rfl
end Sv.pw_cellpictures_k02_ways_and_maps_refused

set_option Elab.async false
set_option linter.all false
set_option maxRecDepth 100000
set_option maxHeartbeats 4000000
namespace Sv.pw_cellpictures_k02_ways_and_maps_refused
open PySem L2 PyProof.Rows Sv
theorem all_mk {l : PySem.W.OpenLaw} {w : World} {K : PySem.W.Frag} {h : Heap} {mg : Str → Option Value} {fa : Addr} (X : K.In h) (G : h.Ns mainGlobals mg) (hfa : mg "law" = some (.ref fa))
    {C_PictureError : Addr} {C_InvalidNumber : Addr} {C_InvalidWay : Addr} {C_InvalidMap : Addr} {C_InvalidEnds : Addr} {C_InvalidCell : Addr} {fi_InvalidNumber ns_InvalidNumber : Addr} {nm_InvalidNumber qn_InvalidNumber : Str} {bs_InvalidNumber : List Value} {sn_InvalidNumber : List Str} {sb_InvalidNumber : List Value} {ab_InvalidNumber : Bool} {co_InvalidNumber : Option Bool} {dd_InvalidNumber od_InvalidNumber an_InvalidNumber : Option Addr} {k0_InvalidNumber k1_InvalidNumber k2_InvalidNumber k3_InvalidNumber k5_InvalidNumber : Option Value} {oc_InvalidNumber dc_InvalidNumber pm_InvalidNumber cd_InvalidNumber cw_InvalidNumber : Value} {os_InvalidNumber : Array (Option Value)} {fi_InvalidWay ns_InvalidWay : Addr} {nm_InvalidWay qn_InvalidWay : Str} {bs_InvalidWay : List Value} {sn_InvalidWay : List Str} {sb_InvalidWay : List Value} {ab_InvalidWay : Bool} {co_InvalidWay : Option Bool} {dd_InvalidWay od_InvalidWay an_InvalidWay : Option Addr} {k0_InvalidWay k1_InvalidWay k2_InvalidWay k3_InvalidWay k5_InvalidWay : Option Value} {oc_InvalidWay dc_InvalidWay pm_InvalidWay cd_InvalidWay cw_InvalidWay : Value} {os_InvalidWay : Array (Option Value)} {fi_InvalidMap ns_InvalidMap : Addr} {nm_InvalidMap qn_InvalidMap : Str} {bs_InvalidMap : List Value} {sn_InvalidMap : List Str} {sb_InvalidMap : List Value} {ab_InvalidMap : Bool} {co_InvalidMap : Option Bool} {dd_InvalidMap od_InvalidMap an_InvalidMap : Option Addr} {k0_InvalidMap k1_InvalidMap k2_InvalidMap k3_InvalidMap k5_InvalidMap : Option Value} {oc_InvalidMap dc_InvalidMap pm_InvalidMap cd_InvalidMap cw_InvalidMap : Value} {os_InvalidMap : Array (Option Value)} {fi_InvalidEnds ns_InvalidEnds : Addr} {nm_InvalidEnds qn_InvalidEnds : Str} {bs_InvalidEnds : List Value} {sn_InvalidEnds : List Str} {sb_InvalidEnds : List Value} {ab_InvalidEnds : Bool} {co_InvalidEnds : Option Bool} {dd_InvalidEnds od_InvalidEnds an_InvalidEnds : Option Addr} {k0_InvalidEnds k1_InvalidEnds k2_InvalidEnds k3_InvalidEnds k5_InvalidEnds : Option Value} {oc_InvalidEnds dc_InvalidEnds pm_InvalidEnds cd_InvalidEnds cw_InvalidEnds : Value} {os_InvalidEnds : Array (Option Value)} {fi_InvalidCell ns_InvalidCell : Addr} {nm_InvalidCell qn_InvalidCell : Str} {bs_InvalidCell : List Value} {sn_InvalidCell : List Str} {sb_InvalidCell : List Value} {ab_InvalidCell : Bool} {co_InvalidCell : Option Bool} {dd_InvalidCell od_InvalidCell an_InvalidCell : Option Addr} {k0_InvalidCell k1_InvalidCell k2_InvalidCell k3_InvalidCell k5_InvalidCell : Option Value} {oc_InvalidCell dc_InvalidCell pm_InvalidCell cd_InvalidCell cw_InvalidCell : Value} {os_InvalidCell : Array (Option Value)} {tk11} {tk12} {ad13 : Addr} {n13} {sl13} {tk14} {tk15} {ad16 : Addr} {n16} {sl16} {tk17} {tk18} {ad19 : Addr} {n19} {sl19} {tk20} {tk21} {ad22 : Addr} {n22} {sl22} {tk23} {tk24} {ad25 : Addr} {n25} {sl25} {tk26} {tk27} {ad28 : Addr} {n28} {sl28} {tk29} {tk30} {ad31 : Addr} {n31} {sl31} {tk32} {tk33} {ad34 : Addr} {n34} {sl34} {ad35 : Addr} {n35} {sl35} {kV_L_purse : Value} {f_L_purse : Addr} {od_L_purse an_L_purse : Option Addr} {os_L_purse : Array (Option Value)} {oc_L_purse dc_L_purse pm_L_purse cd_L_purse ct_L_purse : Value} {kV_L_mixed : Value} {f_L_mixed : Addr} {od_L_mixed an_L_mixed : Option Addr} {os_L_mixed : Array (Option Value)} {oc_L_mixed dc_L_mixed pm_L_mixed cd_L_mixed ct_L_mixed : Value} {kV_L_draw : Value} {f_L_draw : Addr} {od_L_draw an_L_draw : Option Addr} {os_L_draw : Array (Option Value)} {oc_L_draw dc_L_draw pm_L_draw cd_L_draw ct_L_draw : Value} {kV_is_count : Value} {f_is_count : Addr} {od_is_count an_is_count : Option Addr} {os_is_count : Array (Option Value)} {oc_is_count dc_is_count pm_is_count cd_is_count ct_is_count : Value} {kV_is_count_below : Value} {f_is_count_below : Addr} {od_is_count_below an_is_count_below : Option Addr} {os_is_count_below : Array (Option Value)} {oc_is_count_below dc_is_count_below pm_is_count_below cd_is_count_below ct_is_count_below : Value} {kV_is_way : Value} {f_is_way : Addr} {od_is_way an_is_way : Option Addr} {os_is_way : Array (Option Value)} {oc_is_way dc_is_way pm_is_way cd_is_way ct_is_way : Value} {kV_check_way : Value} {f_check_way : Addr} {od_check_way an_check_way : Option Addr} {os_check_way : Array (Option Value)} {oc_check_way dc_check_way pm_check_way cd_check_way ct_check_way : Value} {kV_behind : Value} {f_behind : Addr} {od_behind an_behind : Option Addr} {os_behind : Array (Option Value)} {oc_behind dc_behind pm_behind cd_behind ct_behind : Value} {kV_inverse : Value} {f_inverse : Addr} {od_inverse an_inverse : Option Addr} {os_inverse : Array (Option Value)} {oc_inverse dc_inverse pm_inverse cd_inverse ct_inverse : Value} {kV_check_number : Value} {f_check_number : Addr} {od_check_number an_check_number : Option Addr} {os_check_number : Array (Option Value)} {oc_check_number dc_check_number pm_check_number cd_check_number ct_check_number : Value} {kV_place_to : Value} {f_place_to : Addr} {od_place_to an_place_to : Option Addr} {os_place_to : Array (Option Value)} {oc_place_to dc_place_to pm_place_to cd_place_to ct_place_to : Value} {kV_side_to : Value} {f_side_to : Addr} {od_side_to an_side_to : Option Addr} {os_side_to : Array (Option Value)} {oc_side_to dc_side_to pm_side_to cd_side_to ct_side_to : Value} {kV_is_row : Value} {f_is_row : Addr} {od_is_row an_is_row : Option Addr} {os_is_row : Array (Option Value)} {oc_is_row dc_is_row pm_is_row cd_is_row ct_is_row : Value} {kV_is_map : Value} {f_is_map : Addr} {od_is_map an_is_map : Option Addr} {os_is_map : Array (Option Value)} {oc_is_map dc_is_map pm_is_map cd_is_map ct_is_map : Value} {kV_check_map : Value} {f_check_map : Addr} {od_check_map an_check_map : Option Addr} {os_check_map : Array (Option Value)} {oc_check_map dc_check_map pm_check_map cd_check_map ct_check_map : Value} {kV_mirrored : Value} {f_mirrored : Addr} {od_mirrored an_mirrored : Option Addr} {os_mirrored : Array (Option Value)} {oc_mirrored dc_mirrored pm_mirrored cd_mirrored ct_mirrored : Value} {kV_turned_once : Value} {f_turned_once : Addr} {od_turned_once an_turned_once : Option Addr} {os_turned_once : Array (Option Value)} {oc_turned_once dc_turned_once pm_turned_once cd_turned_once ct_turned_once : Value} {kV_turned_map : Value} {f_turned_map : Addr} {od_turned_map an_turned_map : Option Addr} {os_turned_map : Array (Option Value)} {oc_turned_map dc_turned_map pm_turned_map cd_turned_map ct_turned_map : Value} {kV_is_end : Value} {f_is_end : Addr} {od_is_end an_is_end : Option Addr} {os_is_end : Array (Option Value)} {oc_is_end dc_is_end pm_is_end cd_is_end ct_is_end : Value} {kV_check_ends : Value} {f_check_ends : Addr} {od_check_ends an_check_ends : Option Addr} {os_check_ends : Array (Option Value)} {oc_check_ends dc_check_ends pm_check_ends cd_check_ends ct_check_ends : Value} {kV_turned_ends : Value} {f_turned_ends : Addr} {od_turned_ends an_turned_ends : Option Addr} {os_turned_ends : Array (Option Value)} {oc_turned_ends dc_turned_ends pm_turned_ends cd_turned_ends ct_turned_ends : Value} {kV_check_cell : Value} {f_check_cell : Addr} {od_check_cell an_check_cell : Option Addr} {os_check_cell : Array (Option Value)} {oc_check_cell dc_check_cell pm_check_cell cd_check_cell ct_check_cell : Value} {kV_line_at : Value} {f_line_at : Addr} {od_line_at an_line_at : Option Addr} {os_line_at : Array (Option Value)} {oc_line_at dc_line_at pm_line_at cd_line_at ct_line_at : Value} {kV_kind_at : Value} {f_kind_at : Addr} {od_kind_at an_kind_at : Option Addr} {os_kind_at : Array (Option Value)} {oc_kind_at dc_kind_at pm_kind_at cd_kind_at ct_kind_at : Value} {kV_kinds_around : Value} {f_kinds_around : Addr} {od_kinds_around an_kinds_around : Option Addr} {os_kinds_around : Array (Option Value)} {oc_kinds_around dc_kinds_around pm_kinds_around cd_kinds_around ct_kinds_around : Value} {kV_window : Value} {f_window : Addr} {od_window an_window : Option Addr} {os_window : Array (Option Value)} {oc_window dc_window pm_window cd_window ct_window : Value} {kV_L_asked : Value} {f_L_asked : Addr} {od_L_asked an_L_asked : Option Addr} {os_L_asked : Array (Option Value)} {oc_L_asked dc_L_asked pm_L_asked cd_L_asked ct_L_asked : Value} {kV_L_caught : Value} {f_L_caught : Addr} {od_L_caught an_L_caught : Option Addr} {os_L_caught : Array (Option Value)} {oc_L_caught dc_L_caught pm_L_caught cd_L_caught ct_L_caught : Value} {kV_L_right : Value} {f_L_right : Addr} {od_L_right an_L_right : Option Addr} {os_L_right : Array (Option Value)} {oc_L_right dc_L_right pm_L_right cd_L_right ct_L_right : Value} {kV_law : Value} {f_law : Addr} {od_law an_law : Option Addr} {os_law : Array (Option Value)} {oc_law dc_law pm_law cd_law ct_law : Value}
    (ca_PictureError : PySem.W.nsIn K mainGlobals "PictureError" = some (some (.ref C_PictureError)))
    (ca_InvalidNumber : PySem.W.nsIn K mainGlobals "InvalidNumber" = some (some (.ref C_InvalidNumber)))
    (ca_InvalidWay : PySem.W.nsIn K mainGlobals "InvalidWay" = some (some (.ref C_InvalidWay)))
    (ca_InvalidMap : PySem.W.nsIn K mainGlobals "InvalidMap" = some (some (.ref C_InvalidMap)))
    (ca_InvalidEnds : PySem.W.nsIn K mainGlobals "InvalidEnds" = some (some (.ref C_InvalidEnds)))
    (ca_InvalidCell : PySem.W.nsIn K mainGlobals "InvalidCell" = some (some (.ref C_InvalidCell)))
    (ce_PictureError : PySem.W.subIn K (.ref C_PictureError) (.type "BaseException") = some true)
    (ct_PictureError : PySem.W.typeIn K (.ref C_PictureError) = some (.type "type"))
    (ci_PictureError : PySem.W.isClsIn K C_PictureError = true)
    (ce_InvalidNumber : PySem.W.subIn K (.ref C_InvalidNumber) (.type "BaseException") = some true)
    (ct_InvalidNumber : PySem.W.typeIn K (.ref C_InvalidNumber) = some (.type "type"))
    (ci_InvalidNumber : PySem.W.isClsIn K C_InvalidNumber = true)
    (ce_InvalidWay : PySem.W.subIn K (.ref C_InvalidWay) (.type "BaseException") = some true)
    (ct_InvalidWay : PySem.W.typeIn K (.ref C_InvalidWay) = some (.type "type"))
    (ci_InvalidWay : PySem.W.isClsIn K C_InvalidWay = true)
    (ce_InvalidMap : PySem.W.subIn K (.ref C_InvalidMap) (.type "BaseException") = some true)
    (ct_InvalidMap : PySem.W.typeIn K (.ref C_InvalidMap) = some (.type "type"))
    (ci_InvalidMap : PySem.W.isClsIn K C_InvalidMap = true)
    (ce_InvalidEnds : PySem.W.subIn K (.ref C_InvalidEnds) (.type "BaseException") = some true)
    (ct_InvalidEnds : PySem.W.typeIn K (.ref C_InvalidEnds) = some (.type "type"))
    (ci_InvalidEnds : PySem.W.isClsIn K C_InvalidEnds = true)
    (ce_InvalidCell : PySem.W.subIn K (.ref C_InvalidCell) (.type "BaseException") = some true)
    (ct_InvalidCell : PySem.W.typeIn K (.ref C_InvalidCell) = some (.type "type"))
    (ci_InvalidCell : PySem.W.isClsIn K C_InvalidCell = true)
    (cp_InvalidNumber_PictureError : PySem.W.subIn K (.ref C_InvalidNumber) (.ref C_PictureError) = some true)
    (cp_InvalidNumber_InvalidNumber : PySem.W.subIn K (.ref C_InvalidNumber) (.ref C_InvalidNumber) = some true)
    (cp_InvalidNumber_InvalidWay : PySem.W.subIn K (.ref C_InvalidNumber) (.ref C_InvalidWay) = some false)
    (cp_InvalidNumber_InvalidMap : PySem.W.subIn K (.ref C_InvalidNumber) (.ref C_InvalidMap) = some false)
    (cp_InvalidNumber_InvalidEnds : PySem.W.subIn K (.ref C_InvalidNumber) (.ref C_InvalidEnds) = some false)
    (cp_InvalidNumber_InvalidCell : PySem.W.subIn K (.ref C_InvalidNumber) (.ref C_InvalidCell) = some false)
    (cp_InvalidWay_PictureError : PySem.W.subIn K (.ref C_InvalidWay) (.ref C_PictureError) = some true)
    (cp_InvalidWay_InvalidNumber : PySem.W.subIn K (.ref C_InvalidWay) (.ref C_InvalidNumber) = some false)
    (cp_InvalidWay_InvalidWay : PySem.W.subIn K (.ref C_InvalidWay) (.ref C_InvalidWay) = some true)
    (cp_InvalidWay_InvalidMap : PySem.W.subIn K (.ref C_InvalidWay) (.ref C_InvalidMap) = some false)
    (cp_InvalidWay_InvalidEnds : PySem.W.subIn K (.ref C_InvalidWay) (.ref C_InvalidEnds) = some false)
    (cp_InvalidWay_InvalidCell : PySem.W.subIn K (.ref C_InvalidWay) (.ref C_InvalidCell) = some false)
    (cp_InvalidMap_PictureError : PySem.W.subIn K (.ref C_InvalidMap) (.ref C_PictureError) = some true)
    (cp_InvalidMap_InvalidNumber : PySem.W.subIn K (.ref C_InvalidMap) (.ref C_InvalidNumber) = some false)
    (cp_InvalidMap_InvalidWay : PySem.W.subIn K (.ref C_InvalidMap) (.ref C_InvalidWay) = some false)
    (cp_InvalidMap_InvalidMap : PySem.W.subIn K (.ref C_InvalidMap) (.ref C_InvalidMap) = some true)
    (cp_InvalidMap_InvalidEnds : PySem.W.subIn K (.ref C_InvalidMap) (.ref C_InvalidEnds) = some false)
    (cp_InvalidMap_InvalidCell : PySem.W.subIn K (.ref C_InvalidMap) (.ref C_InvalidCell) = some false)
    (cp_InvalidEnds_PictureError : PySem.W.subIn K (.ref C_InvalidEnds) (.ref C_PictureError) = some true)
    (cp_InvalidEnds_InvalidNumber : PySem.W.subIn K (.ref C_InvalidEnds) (.ref C_InvalidNumber) = some false)
    (cp_InvalidEnds_InvalidWay : PySem.W.subIn K (.ref C_InvalidEnds) (.ref C_InvalidWay) = some false)
    (cp_InvalidEnds_InvalidMap : PySem.W.subIn K (.ref C_InvalidEnds) (.ref C_InvalidMap) = some false)
    (cp_InvalidEnds_InvalidEnds : PySem.W.subIn K (.ref C_InvalidEnds) (.ref C_InvalidEnds) = some true)
    (cp_InvalidEnds_InvalidCell : PySem.W.subIn K (.ref C_InvalidEnds) (.ref C_InvalidCell) = some false)
    (cp_InvalidCell_PictureError : PySem.W.subIn K (.ref C_InvalidCell) (.ref C_PictureError) = some true)
    (cp_InvalidCell_InvalidNumber : PySem.W.subIn K (.ref C_InvalidCell) (.ref C_InvalidNumber) = some false)
    (cp_InvalidCell_InvalidWay : PySem.W.subIn K (.ref C_InvalidCell) (.ref C_InvalidWay) = some false)
    (cp_InvalidCell_InvalidMap : PySem.W.subIn K (.ref C_InvalidCell) (.ref C_InvalidMap) = some false)
    (cp_InvalidCell_InvalidEnds : PySem.W.subIn K (.ref C_InvalidCell) (.ref C_InvalidEnds) = some false)
    (cp_InvalidCell_InvalidCell : PySem.W.subIn K (.ref C_InvalidCell) (.ref C_InvalidCell) = some true)
    (cl_InvalidNumber : K.lookup C_InvalidNumber = some (excClassObj nm_InvalidNumber qn_InvalidNumber C_InvalidNumber ns_InvalidNumber bs_InvalidNumber [.ref C_PictureError, .type "ValueError", .type "Exception", .type "BaseException", .type "object"] true sn_InvalidNumber sb_InvalidNumber ab_InvalidNumber co_InvalidNumber dd_InvalidNumber k0_InvalidNumber k1_InvalidNumber k2_InvalidNumber k3_InvalidNumber k5_InvalidNumber "ValueError.__new__"))
    (csa_InvalidNumber : PySem.W.findIn K (.ref C_InvalidNumber) "__setattr__" = some (some (.builtin "object.__setattr__")))
    (cga_InvalidNumber : PySem.W.findIn K (.ref C_InvalidNumber) "__getattribute__" = some (some (.builtin "BaseException.__getattribute__")))
    (cgg_InvalidNumber : PySem.W.findIn K (.ref C_InvalidNumber) "__getattr__" = some none)
    (cno_InvalidNumber : PySem.W.findIn K (.ref C_InvalidNumber) "thing" = some none)
    (cin_InvalidNumber : PySem.W.findIn K (.ref C_InvalidNumber) "__init__" = some (some (.ref fi_InvalidNumber)))
    (cf_InvalidNumber : PySem.W.typeIn K (.ref fi_InvalidNumber) = some (.type "function"))
    (ck_InvalidNumber : PySem.W.keepIn K (.ref C_InvalidNumber) = true)
    (ch_InvalidNumber : PySem.W.hasDictIn K C_InvalidNumber = true)
    (cs_InvalidNumber : PySem.W.subIn K (.ref C_InvalidNumber) (.ref C_InvalidNumber) = some true)
    (cn_InvalidNumber : K.lookup fi_InvalidNumber = some ⟨oc_InvalidNumber, od_InvalidNumber, .func (PySem.W.fnOf "__init__" "InvalidNumber.__init__" (PySem.LowXT.iA ⟨6, 17, 6, 21⟩ ⟨6, 23, 6, 28⟩) (PySem.LowXT.iB ⟨7, 8, 7, 12⟩ ⟨7, 8, 7, 18⟩ ⟨7, 21, 7, 26⟩ ⟨7, 8, 7, 26⟩) PySem.LowXT.iS .none .none dc_InvalidNumber pm_InvalidNumber an_InvalidNumber cd_InvalidNumber cw_InvalidNumber), os_InvalidNumber⟩)
    (cc_InvalidNumber : PySem.W.codeIn K cd_InvalidNumber "InvalidNumber.__init__" = true)
    (cl_InvalidWay : K.lookup C_InvalidWay = some (excClassObj nm_InvalidWay qn_InvalidWay C_InvalidWay ns_InvalidWay bs_InvalidWay [.ref C_PictureError, .type "ValueError", .type "Exception", .type "BaseException", .type "object"] true sn_InvalidWay sb_InvalidWay ab_InvalidWay co_InvalidWay dd_InvalidWay k0_InvalidWay k1_InvalidWay k2_InvalidWay k3_InvalidWay k5_InvalidWay "ValueError.__new__"))
    (csa_InvalidWay : PySem.W.findIn K (.ref C_InvalidWay) "__setattr__" = some (some (.builtin "object.__setattr__")))
    (cga_InvalidWay : PySem.W.findIn K (.ref C_InvalidWay) "__getattribute__" = some (some (.builtin "BaseException.__getattribute__")))
    (cgg_InvalidWay : PySem.W.findIn K (.ref C_InvalidWay) "__getattr__" = some none)
    (cno_InvalidWay : PySem.W.findIn K (.ref C_InvalidWay) "thing" = some none)
    (cin_InvalidWay : PySem.W.findIn K (.ref C_InvalidWay) "__init__" = some (some (.ref fi_InvalidWay)))
    (cf_InvalidWay : PySem.W.typeIn K (.ref fi_InvalidWay) = some (.type "function"))
    (ck_InvalidWay : PySem.W.keepIn K (.ref C_InvalidWay) = true)
    (ch_InvalidWay : PySem.W.hasDictIn K C_InvalidWay = true)
    (cs_InvalidWay : PySem.W.subIn K (.ref C_InvalidWay) (.ref C_InvalidWay) = some true)
    (cn_InvalidWay : K.lookup fi_InvalidWay = some ⟨oc_InvalidWay, od_InvalidWay, .func (PySem.W.fnOf "__init__" "InvalidWay.__init__" (PySem.LowXT.iA ⟨10, 17, 10, 21⟩ ⟨10, 23, 10, 28⟩) (PySem.LowXT.iB ⟨11, 8, 11, 12⟩ ⟨11, 8, 11, 18⟩ ⟨11, 21, 11, 26⟩ ⟨11, 8, 11, 26⟩) PySem.LowXT.iS .none .none dc_InvalidWay pm_InvalidWay an_InvalidWay cd_InvalidWay cw_InvalidWay), os_InvalidWay⟩)
    (cc_InvalidWay : PySem.W.codeIn K cd_InvalidWay "InvalidWay.__init__" = true)
    (cl_InvalidMap : K.lookup C_InvalidMap = some (excClassObj nm_InvalidMap qn_InvalidMap C_InvalidMap ns_InvalidMap bs_InvalidMap [.ref C_PictureError, .type "ValueError", .type "Exception", .type "BaseException", .type "object"] true sn_InvalidMap sb_InvalidMap ab_InvalidMap co_InvalidMap dd_InvalidMap k0_InvalidMap k1_InvalidMap k2_InvalidMap k3_InvalidMap k5_InvalidMap "ValueError.__new__"))
    (csa_InvalidMap : PySem.W.findIn K (.ref C_InvalidMap) "__setattr__" = some (some (.builtin "object.__setattr__")))
    (cga_InvalidMap : PySem.W.findIn K (.ref C_InvalidMap) "__getattribute__" = some (some (.builtin "BaseException.__getattribute__")))
    (cgg_InvalidMap : PySem.W.findIn K (.ref C_InvalidMap) "__getattr__" = some none)
    (cno_InvalidMap : PySem.W.findIn K (.ref C_InvalidMap) "thing" = some none)
    (cin_InvalidMap : PySem.W.findIn K (.ref C_InvalidMap) "__init__" = some (some (.ref fi_InvalidMap)))
    (cf_InvalidMap : PySem.W.typeIn K (.ref fi_InvalidMap) = some (.type "function"))
    (ck_InvalidMap : PySem.W.keepIn K (.ref C_InvalidMap) = true)
    (ch_InvalidMap : PySem.W.hasDictIn K C_InvalidMap = true)
    (cs_InvalidMap : PySem.W.subIn K (.ref C_InvalidMap) (.ref C_InvalidMap) = some true)
    (cn_InvalidMap : K.lookup fi_InvalidMap = some ⟨oc_InvalidMap, od_InvalidMap, .func (PySem.W.fnOf "__init__" "InvalidMap.__init__" (PySem.LowXT.iA ⟨14, 17, 14, 21⟩ ⟨14, 23, 14, 28⟩) (PySem.LowXT.iB ⟨15, 8, 15, 12⟩ ⟨15, 8, 15, 18⟩ ⟨15, 21, 15, 26⟩ ⟨15, 8, 15, 26⟩) PySem.LowXT.iS .none .none dc_InvalidMap pm_InvalidMap an_InvalidMap cd_InvalidMap cw_InvalidMap), os_InvalidMap⟩)
    (cc_InvalidMap : PySem.W.codeIn K cd_InvalidMap "InvalidMap.__init__" = true)
    (cl_InvalidEnds : K.lookup C_InvalidEnds = some (excClassObj nm_InvalidEnds qn_InvalidEnds C_InvalidEnds ns_InvalidEnds bs_InvalidEnds [.ref C_PictureError, .type "ValueError", .type "Exception", .type "BaseException", .type "object"] true sn_InvalidEnds sb_InvalidEnds ab_InvalidEnds co_InvalidEnds dd_InvalidEnds k0_InvalidEnds k1_InvalidEnds k2_InvalidEnds k3_InvalidEnds k5_InvalidEnds "ValueError.__new__"))
    (csa_InvalidEnds : PySem.W.findIn K (.ref C_InvalidEnds) "__setattr__" = some (some (.builtin "object.__setattr__")))
    (cga_InvalidEnds : PySem.W.findIn K (.ref C_InvalidEnds) "__getattribute__" = some (some (.builtin "BaseException.__getattribute__")))
    (cgg_InvalidEnds : PySem.W.findIn K (.ref C_InvalidEnds) "__getattr__" = some none)
    (cno_InvalidEnds : PySem.W.findIn K (.ref C_InvalidEnds) "thing" = some none)
    (cin_InvalidEnds : PySem.W.findIn K (.ref C_InvalidEnds) "__init__" = some (some (.ref fi_InvalidEnds)))
    (cf_InvalidEnds : PySem.W.typeIn K (.ref fi_InvalidEnds) = some (.type "function"))
    (ck_InvalidEnds : PySem.W.keepIn K (.ref C_InvalidEnds) = true)
    (ch_InvalidEnds : PySem.W.hasDictIn K C_InvalidEnds = true)
    (cs_InvalidEnds : PySem.W.subIn K (.ref C_InvalidEnds) (.ref C_InvalidEnds) = some true)
    (cn_InvalidEnds : K.lookup fi_InvalidEnds = some ⟨oc_InvalidEnds, od_InvalidEnds, .func (PySem.W.fnOf "__init__" "InvalidEnds.__init__" (PySem.LowXT.iA ⟨18, 17, 18, 21⟩ ⟨18, 23, 18, 28⟩) (PySem.LowXT.iB ⟨19, 8, 19, 12⟩ ⟨19, 8, 19, 18⟩ ⟨19, 21, 19, 26⟩ ⟨19, 8, 19, 26⟩) PySem.LowXT.iS .none .none dc_InvalidEnds pm_InvalidEnds an_InvalidEnds cd_InvalidEnds cw_InvalidEnds), os_InvalidEnds⟩)
    (cc_InvalidEnds : PySem.W.codeIn K cd_InvalidEnds "InvalidEnds.__init__" = true)
    (cl_InvalidCell : K.lookup C_InvalidCell = some (excClassObj nm_InvalidCell qn_InvalidCell C_InvalidCell ns_InvalidCell bs_InvalidCell [.ref C_PictureError, .type "ValueError", .type "Exception", .type "BaseException", .type "object"] true sn_InvalidCell sb_InvalidCell ab_InvalidCell co_InvalidCell dd_InvalidCell k0_InvalidCell k1_InvalidCell k2_InvalidCell k3_InvalidCell k5_InvalidCell "ValueError.__new__"))
    (csa_InvalidCell : PySem.W.findIn K (.ref C_InvalidCell) "__setattr__" = some (some (.builtin "object.__setattr__")))
    (cga_InvalidCell : PySem.W.findIn K (.ref C_InvalidCell) "__getattribute__" = some (some (.builtin "BaseException.__getattribute__")))
    (cgg_InvalidCell : PySem.W.findIn K (.ref C_InvalidCell) "__getattr__" = some none)
    (cno_InvalidCell : PySem.W.findIn K (.ref C_InvalidCell) "thing" = some none)
    (cin_InvalidCell : PySem.W.findIn K (.ref C_InvalidCell) "__init__" = some (some (.ref fi_InvalidCell)))
    (cf_InvalidCell : PySem.W.typeIn K (.ref fi_InvalidCell) = some (.type "function"))
    (ck_InvalidCell : PySem.W.keepIn K (.ref C_InvalidCell) = true)
    (ch_InvalidCell : PySem.W.hasDictIn K C_InvalidCell = true)
    (cs_InvalidCell : PySem.W.subIn K (.ref C_InvalidCell) (.ref C_InvalidCell) = some true)
    (cn_InvalidCell : K.lookup fi_InvalidCell = some ⟨oc_InvalidCell, od_InvalidCell, .func (PySem.W.fnOf "__init__" "InvalidCell.__init__" (PySem.LowXT.iA ⟨22, 17, 22, 21⟩ ⟨22, 23, 22, 28⟩) (PySem.LowXT.iB ⟨23, 8, 23, 12⟩ ⟨23, 8, 23, 18⟩ ⟨23, 21, 23, 26⟩ ⟨23, 8, 23, 26⟩) PySem.LowXT.iS .none .none dc_InvalidCell pm_InvalidCell an_InvalidCell cd_InvalidCell cw_InvalidCell), os_InvalidCell⟩)
    (cc_InvalidCell : PySem.W.codeIn K cd_InvalidCell "InvalidCell.__init__" = true)
    (nc_STEPS : PySem.W.nsIn K mainGlobals "STEPS" = some (some (.ref ad35)))
    (t35 : K.lookup ad35 = some ⟨.type "tuple", none, .seq #[.ref ad13, .ref ad16, .ref ad19, .ref ad22, .ref ad25, .ref ad28, .ref ad31, .ref ad34] n35, sl35⟩)
    (t34 : K.lookup ad34 = some ⟨.type "tuple", none, .seq #[.int 0 tk32, .int (-1) tk33] n34, sl34⟩)
    (t31 : K.lookup ad31 = some ⟨.type "tuple", none, .seq #[.int 1 tk29, .int (-1) tk30] n31, sl31⟩)
    (t28 : K.lookup ad28 = some ⟨.type "tuple", none, .seq #[.int 1 tk26, .int 0 tk27] n28, sl28⟩)
    (t25 : K.lookup ad25 = some ⟨.type "tuple", none, .seq #[.int 1 tk23, .int 1 tk24] n25, sl25⟩)
    (t22 : K.lookup ad22 = some ⟨.type "tuple", none, .seq #[.int 0 tk20, .int 1 tk21] n22, sl22⟩)
    (t19 : K.lookup ad19 = some ⟨.type "tuple", none, .seq #[.int (-1) tk17, .int 1 tk18] n19, sl19⟩)
    (t16 : K.lookup ad16 = some ⟨.type "tuple", none, .seq #[.int (-1) tk14, .int 0 tk15] n16, sl16⟩)
    (t13 : K.lookup ad13 = some ⟨.type "tuple", none, .seq #[.int (-1) tk11, .int (-1) tk12] n13, sl13⟩)
    (a_L_purse : PySem.W.nsIn K mainGlobals "_law_purse" = some (some (.ref f_L_purse)))
    (l_L_purse : K.lookup f_L_purse = some ⟨oc_L_purse, od_L_purse, .func (PySem.W.fnOf "_law_purse" "_law_purse" (defArgs st_L_purse) (defBody st_L_purse) (defScope st_L_purse) .none kV_L_purse dc_L_purse pm_L_purse an_L_purse cd_L_purse ct_L_purse), os_L_purse⟩)
    (c_L_purse : PySem.W.codeIn K cd_L_purse "_law_purse" = true)
    (k_L_purse : PySem.W.keepIn K (.ref f_L_purse) = true)
    (a_L_mixed : PySem.W.nsIn K mainGlobals "_law_mixed" = some (some (.ref f_L_mixed)))
    (l_L_mixed : K.lookup f_L_mixed = some ⟨oc_L_mixed, od_L_mixed, .func (PySem.W.fnOf "_law_mixed" "_law_mixed" (defArgs st_L_mixed) (defBody st_L_mixed) (defScope st_L_mixed) .none kV_L_mixed dc_L_mixed pm_L_mixed an_L_mixed cd_L_mixed ct_L_mixed), os_L_mixed⟩)
    (c_L_mixed : PySem.W.codeIn K cd_L_mixed "_law_mixed" = true)
    (k_L_mixed : PySem.W.keepIn K (.ref f_L_mixed) = true)
    (a_L_draw : PySem.W.nsIn K mainGlobals "_law_draw" = some (some (.ref f_L_draw)))
    (l_L_draw : K.lookup f_L_draw = some ⟨oc_L_draw, od_L_draw, .func (PySem.W.fnOf "_law_draw" "_law_draw" (defArgs st_L_draw) (defBody st_L_draw) (defScope st_L_draw) .none kV_L_draw dc_L_draw pm_L_draw an_L_draw cd_L_draw ct_L_draw), os_L_draw⟩)
    (c_L_draw : PySem.W.codeIn K cd_L_draw "_law_draw" = true)
    (k_L_draw : PySem.W.keepIn K (.ref f_L_draw) = true)
    (a_is_count : PySem.W.nsIn K mainGlobals "is_count" = some (some (.ref f_is_count)))
    (l_is_count : K.lookup f_is_count = some ⟨oc_is_count, od_is_count, .func (PySem.W.fnOf "is_count" "is_count" (defArgs st_is_count) (defBody st_is_count) (defScope st_is_count) .none kV_is_count dc_is_count pm_is_count an_is_count cd_is_count ct_is_count), os_is_count⟩)
    (c_is_count : PySem.W.codeIn K cd_is_count "is_count" = true)
    (k_is_count : PySem.W.keepIn K (.ref f_is_count) = true)
    (a_is_count_below : PySem.W.nsIn K mainGlobals "is_count_below" = some (some (.ref f_is_count_below)))
    (l_is_count_below : K.lookup f_is_count_below = some ⟨oc_is_count_below, od_is_count_below, .func (PySem.W.fnOf "is_count_below" "is_count_below" (defArgs st_is_count_below) (defBody st_is_count_below) (defScope st_is_count_below) .none kV_is_count_below dc_is_count_below pm_is_count_below an_is_count_below cd_is_count_below ct_is_count_below), os_is_count_below⟩)
    (c_is_count_below : PySem.W.codeIn K cd_is_count_below "is_count_below" = true)
    (k_is_count_below : PySem.W.keepIn K (.ref f_is_count_below) = true)
    (a_is_way : PySem.W.nsIn K mainGlobals "is_way" = some (some (.ref f_is_way)))
    (l_is_way : K.lookup f_is_way = some ⟨oc_is_way, od_is_way, .func (PySem.W.fnOf "is_way" "is_way" (defArgs st_is_way) (defBody st_is_way) (defScope st_is_way) .none kV_is_way dc_is_way pm_is_way an_is_way cd_is_way ct_is_way), os_is_way⟩)
    (c_is_way : PySem.W.codeIn K cd_is_way "is_way" = true)
    (k_is_way : PySem.W.keepIn K (.ref f_is_way) = true)
    (a_check_way : PySem.W.nsIn K mainGlobals "check_way" = some (some (.ref f_check_way)))
    (l_check_way : K.lookup f_check_way = some ⟨oc_check_way, od_check_way, .func (PySem.W.fnOf "check_way" "check_way" (defArgs st_check_way) (defBody st_check_way) (defScope st_check_way) .none kV_check_way dc_check_way pm_check_way an_check_way cd_check_way ct_check_way), os_check_way⟩)
    (c_check_way : PySem.W.codeIn K cd_check_way "check_way" = true)
    (k_check_way : PySem.W.keepIn K (.ref f_check_way) = true)
    (a_behind : PySem.W.nsIn K mainGlobals "behind" = some (some (.ref f_behind)))
    (l_behind : K.lookup f_behind = some ⟨oc_behind, od_behind, .func (PySem.W.fnOf "behind" "behind" (defArgs st_behind) (defBody st_behind) (defScope st_behind) .none kV_behind dc_behind pm_behind an_behind cd_behind ct_behind), os_behind⟩)
    (c_behind : PySem.W.codeIn K cd_behind "behind" = true)
    (k_behind : PySem.W.keepIn K (.ref f_behind) = true)
    (a_inverse : PySem.W.nsIn K mainGlobals "inverse" = some (some (.ref f_inverse)))
    (l_inverse : K.lookup f_inverse = some ⟨oc_inverse, od_inverse, .func (PySem.W.fnOf "inverse" "inverse" (defArgs st_inverse) (defBody st_inverse) (defScope st_inverse) .none kV_inverse dc_inverse pm_inverse an_inverse cd_inverse ct_inverse), os_inverse⟩)
    (c_inverse : PySem.W.codeIn K cd_inverse "inverse" = true)
    (k_inverse : PySem.W.keepIn K (.ref f_inverse) = true)
    (a_check_number : PySem.W.nsIn K mainGlobals "check_number" = some (some (.ref f_check_number)))
    (l_check_number : K.lookup f_check_number = some ⟨oc_check_number, od_check_number, .func (PySem.W.fnOf "check_number" "check_number" (defArgs st_check_number) (defBody st_check_number) (defScope st_check_number) .none kV_check_number dc_check_number pm_check_number an_check_number cd_check_number ct_check_number), os_check_number⟩)
    (c_check_number : PySem.W.codeIn K cd_check_number "check_number" = true)
    (k_check_number : PySem.W.keepIn K (.ref f_check_number) = true)
    (a_place_to : PySem.W.nsIn K mainGlobals "place_to" = some (some (.ref f_place_to)))
    (l_place_to : K.lookup f_place_to = some ⟨oc_place_to, od_place_to, .func (PySem.W.fnOf "place_to" "place_to" (defArgs st_place_to) (defBody st_place_to) (defScope st_place_to) .none kV_place_to dc_place_to pm_place_to an_place_to cd_place_to ct_place_to), os_place_to⟩)
    (c_place_to : PySem.W.codeIn K cd_place_to "place_to" = true)
    (k_place_to : PySem.W.keepIn K (.ref f_place_to) = true)
    (a_side_to : PySem.W.nsIn K mainGlobals "side_to" = some (some (.ref f_side_to)))
    (l_side_to : K.lookup f_side_to = some ⟨oc_side_to, od_side_to, .func (PySem.W.fnOf "side_to" "side_to" (defArgs st_side_to) (defBody st_side_to) (defScope st_side_to) .none kV_side_to dc_side_to pm_side_to an_side_to cd_side_to ct_side_to), os_side_to⟩)
    (c_side_to : PySem.W.codeIn K cd_side_to "side_to" = true)
    (k_side_to : PySem.W.keepIn K (.ref f_side_to) = true)
    (a_is_row : PySem.W.nsIn K mainGlobals "is_row" = some (some (.ref f_is_row)))
    (l_is_row : K.lookup f_is_row = some ⟨oc_is_row, od_is_row, .func (PySem.W.fnOf "is_row" "is_row" (defArgs st_is_row) (defBody st_is_row) (defScope st_is_row) .none kV_is_row dc_is_row pm_is_row an_is_row cd_is_row ct_is_row), os_is_row⟩)
    (c_is_row : PySem.W.codeIn K cd_is_row "is_row" = true)
    (k_is_row : PySem.W.keepIn K (.ref f_is_row) = true)
    (a_is_map : PySem.W.nsIn K mainGlobals "is_map" = some (some (.ref f_is_map)))
    (l_is_map : K.lookup f_is_map = some ⟨oc_is_map, od_is_map, .func (PySem.W.fnOf "is_map" "is_map" (defArgs st_is_map) (defBody st_is_map) (defScope st_is_map) .none kV_is_map dc_is_map pm_is_map an_is_map cd_is_map ct_is_map), os_is_map⟩)
    (c_is_map : PySem.W.codeIn K cd_is_map "is_map" = true)
    (k_is_map : PySem.W.keepIn K (.ref f_is_map) = true)
    (a_check_map : PySem.W.nsIn K mainGlobals "check_map" = some (some (.ref f_check_map)))
    (l_check_map : K.lookup f_check_map = some ⟨oc_check_map, od_check_map, .func (PySem.W.fnOf "check_map" "check_map" (defArgs st_check_map) (defBody st_check_map) (defScope st_check_map) .none kV_check_map dc_check_map pm_check_map an_check_map cd_check_map ct_check_map), os_check_map⟩)
    (c_check_map : PySem.W.codeIn K cd_check_map "check_map" = true)
    (k_check_map : PySem.W.keepIn K (.ref f_check_map) = true)
    (a_mirrored : PySem.W.nsIn K mainGlobals "mirrored" = some (some (.ref f_mirrored)))
    (l_mirrored : K.lookup f_mirrored = some ⟨oc_mirrored, od_mirrored, .func (PySem.W.fnOf "mirrored" "mirrored" (defArgs st_mirrored) (defBody st_mirrored) (defScope st_mirrored) .none kV_mirrored dc_mirrored pm_mirrored an_mirrored cd_mirrored ct_mirrored), os_mirrored⟩)
    (c_mirrored : PySem.W.codeIn K cd_mirrored "mirrored" = true)
    (k_mirrored : PySem.W.keepIn K (.ref f_mirrored) = true)
    (a_turned_once : PySem.W.nsIn K mainGlobals "turned_once" = some (some (.ref f_turned_once)))
    (l_turned_once : K.lookup f_turned_once = some ⟨oc_turned_once, od_turned_once, .func (PySem.W.fnOf "turned_once" "turned_once" (defArgs st_turned_once) (defBody st_turned_once) (defScope st_turned_once) .none kV_turned_once dc_turned_once pm_turned_once an_turned_once cd_turned_once ct_turned_once), os_turned_once⟩)
    (c_turned_once : PySem.W.codeIn K cd_turned_once "turned_once" = true)
    (k_turned_once : PySem.W.keepIn K (.ref f_turned_once) = true)
    (a_turned_map : PySem.W.nsIn K mainGlobals "turned_map" = some (some (.ref f_turned_map)))
    (l_turned_map : K.lookup f_turned_map = some ⟨oc_turned_map, od_turned_map, .func (PySem.W.fnOf "turned_map" "turned_map" (defArgs st_turned_map) (defBody st_turned_map) (defScope st_turned_map) .none kV_turned_map dc_turned_map pm_turned_map an_turned_map cd_turned_map ct_turned_map), os_turned_map⟩)
    (c_turned_map : PySem.W.codeIn K cd_turned_map "turned_map" = true)
    (k_turned_map : PySem.W.keepIn K (.ref f_turned_map) = true)
    (a_is_end : PySem.W.nsIn K mainGlobals "is_end" = some (some (.ref f_is_end)))
    (l_is_end : K.lookup f_is_end = some ⟨oc_is_end, od_is_end, .func (PySem.W.fnOf "is_end" "is_end" (defArgs st_is_end) (defBody st_is_end) (defScope st_is_end) .none kV_is_end dc_is_end pm_is_end an_is_end cd_is_end ct_is_end), os_is_end⟩)
    (c_is_end : PySem.W.codeIn K cd_is_end "is_end" = true)
    (k_is_end : PySem.W.keepIn K (.ref f_is_end) = true)
    (a_check_ends : PySem.W.nsIn K mainGlobals "check_ends" = some (some (.ref f_check_ends)))
    (l_check_ends : K.lookup f_check_ends = some ⟨oc_check_ends, od_check_ends, .func (PySem.W.fnOf "check_ends" "check_ends" (defArgs st_check_ends) (defBody st_check_ends) (defScope st_check_ends) .none kV_check_ends dc_check_ends pm_check_ends an_check_ends cd_check_ends ct_check_ends), os_check_ends⟩)
    (c_check_ends : PySem.W.codeIn K cd_check_ends "check_ends" = true)
    (k_check_ends : PySem.W.keepIn K (.ref f_check_ends) = true)
    (a_turned_ends : PySem.W.nsIn K mainGlobals "turned_ends" = some (some (.ref f_turned_ends)))
    (l_turned_ends : K.lookup f_turned_ends = some ⟨oc_turned_ends, od_turned_ends, .func (PySem.W.fnOf "turned_ends" "turned_ends" (defArgs st_turned_ends) (defBody st_turned_ends) (defScope st_turned_ends) .none kV_turned_ends dc_turned_ends pm_turned_ends an_turned_ends cd_turned_ends ct_turned_ends), os_turned_ends⟩)
    (c_turned_ends : PySem.W.codeIn K cd_turned_ends "turned_ends" = true)
    (k_turned_ends : PySem.W.keepIn K (.ref f_turned_ends) = true)
    (a_check_cell : PySem.W.nsIn K mainGlobals "check_cell" = some (some (.ref f_check_cell)))
    (l_check_cell : K.lookup f_check_cell = some ⟨oc_check_cell, od_check_cell, .func (PySem.W.fnOf "check_cell" "check_cell" (defArgs st_check_cell) (defBody st_check_cell) (defScope st_check_cell) .none kV_check_cell dc_check_cell pm_check_cell an_check_cell cd_check_cell ct_check_cell), os_check_cell⟩)
    (c_check_cell : PySem.W.codeIn K cd_check_cell "check_cell" = true)
    (k_check_cell : PySem.W.keepIn K (.ref f_check_cell) = true)
    (a_line_at : PySem.W.nsIn K mainGlobals "line_at" = some (some (.ref f_line_at)))
    (l_line_at : K.lookup f_line_at = some ⟨oc_line_at, od_line_at, .func (PySem.W.fnOf "line_at" "line_at" (defArgs st_line_at) (defBody st_line_at) (defScope st_line_at) .none kV_line_at dc_line_at pm_line_at an_line_at cd_line_at ct_line_at), os_line_at⟩)
    (c_line_at : PySem.W.codeIn K cd_line_at "line_at" = true)
    (k_line_at : PySem.W.keepIn K (.ref f_line_at) = true)
    (a_kind_at : PySem.W.nsIn K mainGlobals "kind_at" = some (some (.ref f_kind_at)))
    (l_kind_at : K.lookup f_kind_at = some ⟨oc_kind_at, od_kind_at, .func (PySem.W.fnOf "kind_at" "kind_at" (defArgs st_kind_at) (defBody st_kind_at) (defScope st_kind_at) .none kV_kind_at dc_kind_at pm_kind_at an_kind_at cd_kind_at ct_kind_at), os_kind_at⟩)
    (c_kind_at : PySem.W.codeIn K cd_kind_at "kind_at" = true)
    (k_kind_at : PySem.W.keepIn K (.ref f_kind_at) = true)
    (a_kinds_around : PySem.W.nsIn K mainGlobals "kinds_around" = some (some (.ref f_kinds_around)))
    (l_kinds_around : K.lookup f_kinds_around = some ⟨oc_kinds_around, od_kinds_around, .func (PySem.W.fnOf "kinds_around" "kinds_around" (defArgs st_kinds_around) (defBody st_kinds_around) (defScope st_kinds_around) .none kV_kinds_around dc_kinds_around pm_kinds_around an_kinds_around cd_kinds_around ct_kinds_around), os_kinds_around⟩)
    (c_kinds_around : PySem.W.codeIn K cd_kinds_around "kinds_around" = true)
    (k_kinds_around : PySem.W.keepIn K (.ref f_kinds_around) = true)
    (a_window : PySem.W.nsIn K mainGlobals "window" = some (some (.ref f_window)))
    (l_window : K.lookup f_window = some ⟨oc_window, od_window, .func (PySem.W.fnOf "window" "window" (defArgs st_window) (defBody st_window) (defScope st_window) .none kV_window dc_window pm_window an_window cd_window ct_window), os_window⟩)
    (c_window : PySem.W.codeIn K cd_window "window" = true)
    (k_window : PySem.W.keepIn K (.ref f_window) = true)
    (a_L_asked : PySem.W.nsIn K mainGlobals "_law_asked" = some (some (.ref f_L_asked)))
    (l_L_asked : K.lookup f_L_asked = some ⟨oc_L_asked, od_L_asked, .func (PySem.W.fnOf "_law_asked" "_law_asked" (defArgs st_L_asked) (defBody st_L_asked) (defScope st_L_asked) .none kV_L_asked dc_L_asked pm_L_asked an_L_asked cd_L_asked ct_L_asked), os_L_asked⟩)
    (c_L_asked : PySem.W.codeIn K cd_L_asked "_law_asked" = true)
    (k_L_asked : PySem.W.keepIn K (.ref f_L_asked) = true)
    (a_L_caught : PySem.W.nsIn K mainGlobals "_law_caught" = some (some (.ref f_L_caught)))
    (l_L_caught : K.lookup f_L_caught = some ⟨oc_L_caught, od_L_caught, .func (PySem.W.fnOf "_law_caught" "_law_caught" (defArgs st_L_caught) (defBody st_L_caught) (defScope st_L_caught) .none kV_L_caught dc_L_caught pm_L_caught an_L_caught cd_L_caught ct_L_caught), os_L_caught⟩)
    (c_L_caught : PySem.W.codeIn K cd_L_caught "_law_caught" = true)
    (k_L_caught : PySem.W.keepIn K (.ref f_L_caught) = true)
    (a_L_right : PySem.W.nsIn K mainGlobals "_law_right" = some (some (.ref f_L_right)))
    (l_L_right : K.lookup f_L_right = some ⟨oc_L_right, od_L_right, .func (PySem.W.fnOf "_law_right" "_law_right" (defArgs st_L_right) (defBody st_L_right) (defScope st_L_right) .none kV_L_right dc_L_right pm_L_right an_L_right cd_L_right ct_L_right), os_L_right⟩)
    (c_L_right : PySem.W.codeIn K cd_L_right "_law_right" = true)
    (k_L_right : PySem.W.keepIn K (.ref f_L_right) = true)
    (a_law : PySem.W.nsIn K mainGlobals "law" = some (some (.ref f_law)))
    (l_law : K.lookup f_law = some ⟨oc_law, od_law, .func (PySem.W.fnOf "law" "law" (defArgs st_law) (defBody st_law) (defScope st_law) .none kV_law dc_law pm_law an_law cd_law ct_law), os_law⟩)
    (c_law : PySem.W.codeIn K cd_law "law" = true)
    (k_law : PySem.W.keepIn K (.ref f_law) = true)
    (zz_all : PySem.W.nsIn K mainGlobals "all" = some none)
    (zz_bool : PySem.W.nsIn K mainGlobals "bool" = some none)
    (zz_int : PySem.W.nsIn K mainGlobals "int" = some none)
    (zz_isinstance : PySem.W.nsIn K mainGlobals "isinstance" = some none)
    (zz_len : PySem.W.nsIn K mainGlobals "len" = some none)
    (zz_max : PySem.W.nsIn K mainGlobals "max" = some none)
    (zz_min : PySem.W.nsIn K mainGlobals "min" = some none)
    (zz_range : PySem.W.nsIn K mainGlobals "range" = some none)
    (zz_str : PySem.W.nsIn K mainGlobals "str" = some none)
    (zz_tuple : PySem.W.nsIn K mainGlobals "tuple" = some none)
    (zz_zip : PySem.W.nsIn K mainGlobals "zip" = some none) :
    ∃ fd : FuncData, (∀ (s : Shared) (v : Value), BindsTo s fd ⟨[v], []⟩ [("script", v)]) ∧ ∀ base : Heap, K.In base → base.Ns mainGlobals mg → FnG l.prog w K mg base (L2.CX l.prog w) 10 fa fd ["script"] (spLaw K) := by
  have e := hfa.symm.trans (PySem.W.mg_of X G a_law)
  cases e
  have F_L_purse : Fun K "_law_purse" "_law_purse" st_L_purse _ _ := fun_mk l_L_purse c_L_purse k_L_purse
  have m_L_purse := PySem.W.mg_of X G a_L_purse
  have F_L_mixed : Fun K "_law_mixed" "_law_mixed" st_L_mixed _ _ := fun_mk l_L_mixed c_L_mixed k_L_mixed
  have m_L_mixed := PySem.W.mg_of X G a_L_mixed
  have F_L_draw : Fun K "_law_draw" "_law_draw" st_L_draw _ _ := fun_mk l_L_draw c_L_draw k_L_draw
  have m_L_draw := PySem.W.mg_of X G a_L_draw
  have F_is_count : Fun K "is_count" "is_count" st_is_count _ _ := fun_mk l_is_count c_is_count k_is_count
  have m_is_count := PySem.W.mg_of X G a_is_count
  have F_is_count_below : Fun K "is_count_below" "is_count_below" st_is_count_below _ _ := fun_mk l_is_count_below c_is_count_below k_is_count_below
  have m_is_count_below := PySem.W.mg_of X G a_is_count_below
  have F_is_way : Fun K "is_way" "is_way" st_is_way _ _ := fun_mk l_is_way c_is_way k_is_way
  have m_is_way := PySem.W.mg_of X G a_is_way
  have F_check_way : Fun K "check_way" "check_way" st_check_way _ _ := fun_mk l_check_way c_check_way k_check_way
  have m_check_way := PySem.W.mg_of X G a_check_way
  have F_behind : Fun K "behind" "behind" st_behind _ _ := fun_mk l_behind c_behind k_behind
  have m_behind := PySem.W.mg_of X G a_behind
  have F_inverse : Fun K "inverse" "inverse" st_inverse _ _ := fun_mk l_inverse c_inverse k_inverse
  have m_inverse := PySem.W.mg_of X G a_inverse
  have F_check_number : Fun K "check_number" "check_number" st_check_number _ _ := fun_mk l_check_number c_check_number k_check_number
  have m_check_number := PySem.W.mg_of X G a_check_number
  have F_place_to : Fun K "place_to" "place_to" st_place_to _ _ := fun_mk l_place_to c_place_to k_place_to
  have m_place_to := PySem.W.mg_of X G a_place_to
  have F_side_to : Fun K "side_to" "side_to" st_side_to _ _ := fun_mk l_side_to c_side_to k_side_to
  have m_side_to := PySem.W.mg_of X G a_side_to
  have F_is_row : Fun K "is_row" "is_row" st_is_row _ _ := fun_mk l_is_row c_is_row k_is_row
  have m_is_row := PySem.W.mg_of X G a_is_row
  have F_is_map : Fun K "is_map" "is_map" st_is_map _ _ := fun_mk l_is_map c_is_map k_is_map
  have m_is_map := PySem.W.mg_of X G a_is_map
  have F_check_map : Fun K "check_map" "check_map" st_check_map _ _ := fun_mk l_check_map c_check_map k_check_map
  have m_check_map := PySem.W.mg_of X G a_check_map
  have F_mirrored : Fun K "mirrored" "mirrored" st_mirrored _ _ := fun_mk l_mirrored c_mirrored k_mirrored
  have m_mirrored := PySem.W.mg_of X G a_mirrored
  have F_turned_once : Fun K "turned_once" "turned_once" st_turned_once _ _ := fun_mk l_turned_once c_turned_once k_turned_once
  have m_turned_once := PySem.W.mg_of X G a_turned_once
  have F_turned_map : Fun K "turned_map" "turned_map" st_turned_map _ _ := fun_mk l_turned_map c_turned_map k_turned_map
  have m_turned_map := PySem.W.mg_of X G a_turned_map
  have F_is_end : Fun K "is_end" "is_end" st_is_end _ _ := fun_mk l_is_end c_is_end k_is_end
  have m_is_end := PySem.W.mg_of X G a_is_end
  have F_check_ends : Fun K "check_ends" "check_ends" st_check_ends _ _ := fun_mk l_check_ends c_check_ends k_check_ends
  have m_check_ends := PySem.W.mg_of X G a_check_ends
  have F_turned_ends : Fun K "turned_ends" "turned_ends" st_turned_ends _ _ := fun_mk l_turned_ends c_turned_ends k_turned_ends
  have m_turned_ends := PySem.W.mg_of X G a_turned_ends
  have F_check_cell : Fun K "check_cell" "check_cell" st_check_cell _ _ := fun_mk l_check_cell c_check_cell k_check_cell
  have m_check_cell := PySem.W.mg_of X G a_check_cell
  have F_line_at : Fun K "line_at" "line_at" st_line_at _ _ := fun_mk l_line_at c_line_at k_line_at
  have m_line_at := PySem.W.mg_of X G a_line_at
  have F_kind_at : Fun K "kind_at" "kind_at" st_kind_at _ _ := fun_mk l_kind_at c_kind_at k_kind_at
  have m_kind_at := PySem.W.mg_of X G a_kind_at
  have F_kinds_around : Fun K "kinds_around" "kinds_around" st_kinds_around _ _ := fun_mk l_kinds_around c_kinds_around k_kinds_around
  have m_kinds_around := PySem.W.mg_of X G a_kinds_around
  have F_window : Fun K "window" "window" st_window _ _ := fun_mk l_window c_window k_window
  have m_window := PySem.W.mg_of X G a_window
  have F_L_asked : Fun K "_law_asked" "_law_asked" st_L_asked _ _ := fun_mk l_L_asked c_L_asked k_L_asked
  have m_L_asked := PySem.W.mg_of X G a_L_asked
  have F_L_caught : Fun K "_law_caught" "_law_caught" st_L_caught _ _ := fun_mk l_L_caught c_L_caught k_L_caught
  have m_L_caught := PySem.W.mg_of X G a_L_caught
  have F_L_right : Fun K "_law_right" "_law_right" st_L_right _ _ := fun_mk l_L_right c_L_right k_L_right
  have m_L_right := PySem.W.mg_of X G a_L_right
  have F_law : Fun K "law" "law" st_law _ _ := fun_mk l_law c_law k_law
  have m_law := PySem.W.mg_of X G a_law
  have m_PictureError := PySem.W.mg_of X G ca_PictureError
  have m_InvalidNumber := PySem.W.mg_of X G ca_InvalidNumber
  have m_InvalidWay := PySem.W.mg_of X G ca_InvalidWay
  have m_InvalidMap := PySem.W.mg_of X G ca_InvalidMap
  have m_InvalidEnds := PySem.W.mg_of X G ca_InvalidEnds
  have m_InvalidCell := PySem.W.mg_of X G ca_InvalidCell
  have x_InvalidNumber : ExT K mg "InvalidNumber" := ⟨_, _, _, { gC := m_InvalidNumber, cls := ⟨_, _, _, _, _, _, _, _, _, _, _, _, _, _, _, cl_InvalidNumber, by rfl⟩, sa := csa_InvalidNumber, ga := cga_InvalidNumber, gg := cgg_InvalidNumber, noN := cno_InvalidNumber, iC := cin_InvalidNumber, tC := cf_InvalidNumber, kC := ck_InvalidNumber, exC := ce_InvalidNumber, tyC := ct_InvalidNumber, hdC := ch_InvalidNumber, te := exm_pair ce_InvalidNumber ci_InvalidNumber ct_InvalidNumber cs_InvalidNumber, fn := ⟨_, _, _, _, _, _, _, _, _, _, _, _, _, _, cn_InvalidNumber, cc_InvalidNumber⟩ }⟩
  have x_InvalidWay : ExT K mg "InvalidWay" := ⟨_, _, _, { gC := m_InvalidWay, cls := ⟨_, _, _, _, _, _, _, _, _, _, _, _, _, _, _, cl_InvalidWay, by rfl⟩, sa := csa_InvalidWay, ga := cga_InvalidWay, gg := cgg_InvalidWay, noN := cno_InvalidWay, iC := cin_InvalidWay, tC := cf_InvalidWay, kC := ck_InvalidWay, exC := ce_InvalidWay, tyC := ct_InvalidWay, hdC := ch_InvalidWay, te := exm_pair ce_InvalidWay ci_InvalidWay ct_InvalidWay cs_InvalidWay, fn := ⟨_, _, _, _, _, _, _, _, _, _, _, _, _, _, cn_InvalidWay, cc_InvalidWay⟩ }⟩
  have x_InvalidMap : ExT K mg "InvalidMap" := ⟨_, _, _, { gC := m_InvalidMap, cls := ⟨_, _, _, _, _, _, _, _, _, _, _, _, _, _, _, cl_InvalidMap, by rfl⟩, sa := csa_InvalidMap, ga := cga_InvalidMap, gg := cgg_InvalidMap, noN := cno_InvalidMap, iC := cin_InvalidMap, tC := cf_InvalidMap, kC := ck_InvalidMap, exC := ce_InvalidMap, tyC := ct_InvalidMap, hdC := ch_InvalidMap, te := exm_pair ce_InvalidMap ci_InvalidMap ct_InvalidMap cs_InvalidMap, fn := ⟨_, _, _, _, _, _, _, _, _, _, _, _, _, _, cn_InvalidMap, cc_InvalidMap⟩ }⟩
  have x_InvalidEnds : ExT K mg "InvalidEnds" := ⟨_, _, _, { gC := m_InvalidEnds, cls := ⟨_, _, _, _, _, _, _, _, _, _, _, _, _, _, _, cl_InvalidEnds, by rfl⟩, sa := csa_InvalidEnds, ga := cga_InvalidEnds, gg := cgg_InvalidEnds, noN := cno_InvalidEnds, iC := cin_InvalidEnds, tC := cf_InvalidEnds, kC := ck_InvalidEnds, exC := ce_InvalidEnds, tyC := ct_InvalidEnds, hdC := ch_InvalidEnds, te := exm_pair ce_InvalidEnds ci_InvalidEnds ct_InvalidEnds cs_InvalidEnds, fn := ⟨_, _, _, _, _, _, _, _, _, _, _, _, _, _, cn_InvalidEnds, cc_InvalidEnds⟩ }⟩
  have x_InvalidCell : ExT K mg "InvalidCell" := ⟨_, _, _, { gC := m_InvalidCell, cls := ⟨_, _, _, _, _, _, _, _, _, _, _, _, _, _, _, cl_InvalidCell, by rfl⟩, sa := csa_InvalidCell, ga := cga_InvalidCell, gg := cgg_InvalidCell, noN := cno_InvalidCell, iC := cin_InvalidCell, tC := cf_InvalidCell, kC := ck_InvalidCell, exC := ce_InvalidCell, tyC := ct_InvalidCell, hdC := ch_InvalidCell, te := exm_pair ce_InvalidCell ci_InvalidCell ct_InvalidCell cs_InvalidCell, fn := ⟨_, _, _, _, _, _, _, _, _, _, _, _, _, _, cn_InvalidCell, cc_InvalidCell⟩ }⟩
  have tb : TabOk K mg tab0 := (tab_cons m_InvalidNumber m_PictureError (exm_pair ce_PictureError ci_PictureError ct_PictureError cp_InvalidNumber_PictureError) (tab_cons m_InvalidNumber m_InvalidNumber (exm_pair ce_InvalidNumber ci_InvalidNumber ct_InvalidNumber cp_InvalidNumber_InvalidNumber) (tab_cons m_InvalidNumber m_InvalidWay (exm_pair ce_InvalidWay ci_InvalidWay ct_InvalidWay cp_InvalidNumber_InvalidWay) (tab_cons m_InvalidNumber m_InvalidMap (exm_pair ce_InvalidMap ci_InvalidMap ct_InvalidMap cp_InvalidNumber_InvalidMap) (tab_cons m_InvalidNumber m_InvalidEnds (exm_pair ce_InvalidEnds ci_InvalidEnds ct_InvalidEnds cp_InvalidNumber_InvalidEnds) (tab_cons m_InvalidNumber m_InvalidCell (exm_pair ce_InvalidCell ci_InvalidCell ct_InvalidCell cp_InvalidNumber_InvalidCell) (tab_cons m_InvalidWay m_PictureError (exm_pair ce_PictureError ci_PictureError ct_PictureError cp_InvalidWay_PictureError) (tab_cons m_InvalidWay m_InvalidNumber (exm_pair ce_InvalidNumber ci_InvalidNumber ct_InvalidNumber cp_InvalidWay_InvalidNumber) (tab_cons m_InvalidWay m_InvalidWay (exm_pair ce_InvalidWay ci_InvalidWay ct_InvalidWay cp_InvalidWay_InvalidWay) (tab_cons m_InvalidWay m_InvalidMap (exm_pair ce_InvalidMap ci_InvalidMap ct_InvalidMap cp_InvalidWay_InvalidMap) (tab_cons m_InvalidWay m_InvalidEnds (exm_pair ce_InvalidEnds ci_InvalidEnds ct_InvalidEnds cp_InvalidWay_InvalidEnds) (tab_cons m_InvalidWay m_InvalidCell (exm_pair ce_InvalidCell ci_InvalidCell ct_InvalidCell cp_InvalidWay_InvalidCell) (tab_cons m_InvalidMap m_PictureError (exm_pair ce_PictureError ci_PictureError ct_PictureError cp_InvalidMap_PictureError) (tab_cons m_InvalidMap m_InvalidNumber (exm_pair ce_InvalidNumber ci_InvalidNumber ct_InvalidNumber cp_InvalidMap_InvalidNumber) (tab_cons m_InvalidMap m_InvalidWay (exm_pair ce_InvalidWay ci_InvalidWay ct_InvalidWay cp_InvalidMap_InvalidWay) (tab_cons m_InvalidMap m_InvalidMap (exm_pair ce_InvalidMap ci_InvalidMap ct_InvalidMap cp_InvalidMap_InvalidMap) (tab_cons m_InvalidMap m_InvalidEnds (exm_pair ce_InvalidEnds ci_InvalidEnds ct_InvalidEnds cp_InvalidMap_InvalidEnds) (tab_cons m_InvalidMap m_InvalidCell (exm_pair ce_InvalidCell ci_InvalidCell ct_InvalidCell cp_InvalidMap_InvalidCell) (tab_cons m_InvalidEnds m_PictureError (exm_pair ce_PictureError ci_PictureError ct_PictureError cp_InvalidEnds_PictureError) (tab_cons m_InvalidEnds m_InvalidNumber (exm_pair ce_InvalidNumber ci_InvalidNumber ct_InvalidNumber cp_InvalidEnds_InvalidNumber) (tab_cons m_InvalidEnds m_InvalidWay (exm_pair ce_InvalidWay ci_InvalidWay ct_InvalidWay cp_InvalidEnds_InvalidWay) (tab_cons m_InvalidEnds m_InvalidMap (exm_pair ce_InvalidMap ci_InvalidMap ct_InvalidMap cp_InvalidEnds_InvalidMap) (tab_cons m_InvalidEnds m_InvalidEnds (exm_pair ce_InvalidEnds ci_InvalidEnds ct_InvalidEnds cp_InvalidEnds_InvalidEnds) (tab_cons m_InvalidEnds m_InvalidCell (exm_pair ce_InvalidCell ci_InvalidCell ct_InvalidCell cp_InvalidEnds_InvalidCell) (tab_cons m_InvalidCell m_PictureError (exm_pair ce_PictureError ci_PictureError ct_PictureError cp_InvalidCell_PictureError) (tab_cons m_InvalidCell m_InvalidNumber (exm_pair ce_InvalidNumber ci_InvalidNumber ct_InvalidNumber cp_InvalidCell_InvalidNumber) (tab_cons m_InvalidCell m_InvalidWay (exm_pair ce_InvalidWay ci_InvalidWay ct_InvalidWay cp_InvalidCell_InvalidWay) (tab_cons m_InvalidCell m_InvalidMap (exm_pair ce_InvalidMap ci_InvalidMap ct_InvalidMap cp_InvalidCell_InvalidMap) (tab_cons m_InvalidCell m_InvalidEnds (exm_pair ce_InvalidEnds ci_InvalidEnds ct_InvalidEnds cp_InvalidCell_InvalidEnds) (tab_cons m_InvalidCell m_InvalidCell (exm_pair ce_InvalidCell ci_InvalidCell ct_InvalidCell cp_InvalidCell_InvalidCell) tab_nil))))))))))))))))))))))))))))))
  have C_STEPS := kv_glob (PySem.W.mg_of X G nc_STEPS) (kv_tup t35 (Nat.le_of_ble_eq_true rfl) (kvs_cons (kv_tup t13 (Nat.le_of_ble_eq_true rfl) (kvs_cons kv_int (kvs_cons kv_int kvs_nil))) (kvs_cons (kv_tup t16 (Nat.le_of_ble_eq_true rfl) (kvs_cons kv_int (kvs_cons kv_int kvs_nil))) (kvs_cons (kv_tup t19 (Nat.le_of_ble_eq_true rfl) (kvs_cons kv_int (kvs_cons kv_int kvs_nil))) (kvs_cons (kv_tup t22 (Nat.le_of_ble_eq_true rfl) (kvs_cons kv_int (kvs_cons kv_int kvs_nil))) (kvs_cons (kv_tup t25 (Nat.le_of_ble_eq_true rfl) (kvs_cons kv_int (kvs_cons kv_int kvs_nil))) (kvs_cons (kv_tup t28 (Nat.le_of_ble_eq_true rfl) (kvs_cons kv_int (kvs_cons kv_int kvs_nil))) (kvs_cons (kv_tup t31 (Nat.le_of_ble_eq_true rfl) (kvs_cons kv_int (kvs_cons kv_int kvs_nil))) (kvs_cons (kv_tup t34 (Nat.le_of_ble_eq_true rfl) (kvs_cons kv_int (kvs_cons kv_int kvs_nil))) kvs_nil)))))))))
  refine ⟨_, fun s v => .of_eq rfl, fun base _ _ => law_ok (F := F_law) (hm := m_law) (D := all_fd ⟨⟨_, _, F_L_purse, m_L_purse⟩⟩ ⟨⟨_, _, F_L_mixed, m_L_mixed⟩⟩ ⟨⟨_, _, F_L_draw, m_L_draw⟩⟩ ⟨⟨_, _, F_is_count, m_is_count⟩⟩ ⟨⟨_, _, F_is_count_below, m_is_count_below⟩⟩ ⟨⟨_, _, F_is_way, m_is_way⟩⟩ ⟨⟨_, _, F_check_way, m_check_way⟩⟩ ⟨⟨_, _, F_behind, m_behind⟩⟩ ⟨⟨_, _, F_inverse, m_inverse⟩⟩ ⟨⟨_, _, F_check_number, m_check_number⟩⟩ ⟨⟨_, _, F_place_to, m_place_to⟩⟩ ⟨⟨_, _, F_side_to, m_side_to⟩⟩ ⟨⟨_, _, F_is_row, m_is_row⟩⟩ ⟨⟨_, _, F_is_map, m_is_map⟩⟩ ⟨⟨_, _, F_check_map, m_check_map⟩⟩ ⟨⟨_, _, F_mirrored, m_mirrored⟩⟩ ⟨⟨_, _, F_turned_once, m_turned_once⟩⟩ ⟨⟨_, _, F_turned_map, m_turned_map⟩⟩ ⟨⟨_, _, F_is_end, m_is_end⟩⟩ ⟨⟨_, _, F_check_ends, m_check_ends⟩⟩ ⟨⟨_, _, F_turned_ends, m_turned_ends⟩⟩ ⟨⟨_, _, F_check_cell, m_check_cell⟩⟩ ⟨⟨_, _, F_line_at, m_line_at⟩⟩ ⟨⟨_, _, F_kind_at, m_kind_at⟩⟩ ⟨⟨_, _, F_kinds_around, m_kinds_around⟩⟩ ⟨⟨_, _, F_window, m_window⟩⟩ ⟨⟨_, _, F_L_asked, m_L_asked⟩⟩ ⟨⟨_, _, F_L_caught, m_L_caught⟩⟩ ⟨⟨_, _, F_L_right, m_L_right⟩⟩ ⟨⟨_, _, F_law, m_law⟩⟩ (PySem.W.mg_none_of X G zz_all) (PySem.W.mg_none_of X G zz_bool) (PySem.W.mg_none_of X G zz_int) (PySem.W.mg_none_of X G zz_isinstance) (PySem.W.mg_none_of X G zz_len) (PySem.W.mg_none_of X G zz_max) (PySem.W.mg_none_of X G zz_min) (PySem.W.mg_none_of X G zz_range) (PySem.W.mg_none_of X G zz_str) (PySem.W.mg_none_of X G zz_tuple) (PySem.W.mg_none_of X G zz_zip) C_STEPS x_InvalidNumber x_InvalidWay x_InvalidMap x_InvalidEnds x_InvalidCell m_PictureError m_InvalidNumber m_InvalidWay m_InvalidMap m_InvalidEnds m_InvalidCell tb) fun ns h => law_true ns h⟩
end Sv.pw_cellpictures_k02_ways_and_maps_refused
open PySem PySem.W PyProof.Rows in
set_option maxRecDepth 100000 in
set_option maxHeartbeats 0 in
theorem PySem.Challenge.cw_cellpictures_k02_ways_and_maps_refused_holds : PySem.Challenge.rw_cellpictures_k02_ways_and_maps_refused.Holds := by
  w_on; o_law; k_head; (case hw => w_witness2)
  k_fill
  refine Sv.walk (l := PySem.Challenge.rw_cellpictures_k02_ways_and_maps_refused) (k := 10) rfl rfl ⟨rfl, by decide, by decide⟩ (fun w h Y => PySem.W.kIn_of Y) ?F
  case F =>
    intro w mg fa h KX G hmg
    refine' Sv.pw_cellpictures_k02_ways_and_maps_refused.all_mk KX G hmg ?ca_PictureError ?ca_InvalidNumber ?ca_InvalidWay ?ca_InvalidMap ?ca_InvalidEnds ?ca_InvalidCell ?ce_PictureError ?ct_PictureError ?ci_PictureError ?ce_InvalidNumber ?ct_InvalidNumber ?ci_InvalidNumber ?ce_InvalidWay ?ct_InvalidWay ?ci_InvalidWay ?ce_InvalidMap ?ct_InvalidMap ?ci_InvalidMap ?ce_InvalidEnds ?ct_InvalidEnds ?ci_InvalidEnds ?ce_InvalidCell ?ct_InvalidCell ?ci_InvalidCell ?cp_InvalidNumber_PictureError ?cp_InvalidNumber_InvalidNumber ?cp_InvalidNumber_InvalidWay ?cp_InvalidNumber_InvalidMap ?cp_InvalidNumber_InvalidEnds ?cp_InvalidNumber_InvalidCell ?cp_InvalidWay_PictureError ?cp_InvalidWay_InvalidNumber ?cp_InvalidWay_InvalidWay ?cp_InvalidWay_InvalidMap ?cp_InvalidWay_InvalidEnds ?cp_InvalidWay_InvalidCell ?cp_InvalidMap_PictureError ?cp_InvalidMap_InvalidNumber ?cp_InvalidMap_InvalidWay ?cp_InvalidMap_InvalidMap ?cp_InvalidMap_InvalidEnds ?cp_InvalidMap_InvalidCell ?cp_InvalidEnds_PictureError ?cp_InvalidEnds_InvalidNumber ?cp_InvalidEnds_InvalidWay ?cp_InvalidEnds_InvalidMap ?cp_InvalidEnds_InvalidEnds ?cp_InvalidEnds_InvalidCell ?cp_InvalidCell_PictureError ?cp_InvalidCell_InvalidNumber ?cp_InvalidCell_InvalidWay ?cp_InvalidCell_InvalidMap ?cp_InvalidCell_InvalidEnds ?cp_InvalidCell_InvalidCell ?cl_InvalidNumber ?csa_InvalidNumber ?cga_InvalidNumber ?cgg_InvalidNumber ?cno_InvalidNumber ?cin_InvalidNumber ?cf_InvalidNumber ?ck_InvalidNumber ?ch_InvalidNumber ?cs_InvalidNumber ?cn_InvalidNumber ?cc_InvalidNumber ?cl_InvalidWay ?csa_InvalidWay ?cga_InvalidWay ?cgg_InvalidWay ?cno_InvalidWay ?cin_InvalidWay ?cf_InvalidWay ?ck_InvalidWay ?ch_InvalidWay ?cs_InvalidWay ?cn_InvalidWay ?cc_InvalidWay ?cl_InvalidMap ?csa_InvalidMap ?cga_InvalidMap ?cgg_InvalidMap ?cno_InvalidMap ?cin_InvalidMap ?cf_InvalidMap ?ck_InvalidMap ?ch_InvalidMap ?cs_InvalidMap ?cn_InvalidMap ?cc_InvalidMap ?cl_InvalidEnds ?csa_InvalidEnds ?cga_InvalidEnds ?cgg_InvalidEnds ?cno_InvalidEnds ?cin_InvalidEnds ?cf_InvalidEnds ?ck_InvalidEnds ?ch_InvalidEnds ?cs_InvalidEnds ?cn_InvalidEnds ?cc_InvalidEnds ?cl_InvalidCell ?csa_InvalidCell ?cga_InvalidCell ?cgg_InvalidCell ?cno_InvalidCell ?cin_InvalidCell ?cf_InvalidCell ?ck_InvalidCell ?ch_InvalidCell ?cs_InvalidCell ?cn_InvalidCell ?cc_InvalidCell ?nc_STEPS ?t35 ?t34 ?t31 ?t28 ?t25 ?t22 ?t19 ?t16 ?t13 ?a_L_purse ?l_L_purse ?c_L_purse ?k_L_purse ?a_L_mixed ?l_L_mixed ?c_L_mixed ?k_L_mixed ?a_L_draw ?l_L_draw ?c_L_draw ?k_L_draw ?a_is_count ?l_is_count ?c_is_count ?k_is_count ?a_is_count_below ?l_is_count_below ?c_is_count_below ?k_is_count_below ?a_is_way ?l_is_way ?c_is_way ?k_is_way ?a_check_way ?l_check_way ?c_check_way ?k_check_way ?a_behind ?l_behind ?c_behind ?k_behind ?a_inverse ?l_inverse ?c_inverse ?k_inverse ?a_check_number ?l_check_number ?c_check_number ?k_check_number ?a_place_to ?l_place_to ?c_place_to ?k_place_to ?a_side_to ?l_side_to ?c_side_to ?k_side_to ?a_is_row ?l_is_row ?c_is_row ?k_is_row ?a_is_map ?l_is_map ?c_is_map ?k_is_map ?a_check_map ?l_check_map ?c_check_map ?k_check_map ?a_mirrored ?l_mirrored ?c_mirrored ?k_mirrored ?a_turned_once ?l_turned_once ?c_turned_once ?k_turned_once ?a_turned_map ?l_turned_map ?c_turned_map ?k_turned_map ?a_is_end ?l_is_end ?c_is_end ?k_is_end ?a_check_ends ?l_check_ends ?c_check_ends ?k_check_ends ?a_turned_ends ?l_turned_ends ?c_turned_ends ?k_turned_ends ?a_check_cell ?l_check_cell ?c_check_cell ?k_check_cell ?a_line_at ?l_line_at ?c_line_at ?k_line_at ?a_kind_at ?l_kind_at ?c_kind_at ?k_kind_at ?a_kinds_around ?l_kinds_around ?c_kinds_around ?k_kinds_around ?a_window ?l_window ?c_window ?k_window ?a_L_asked ?l_L_asked ?c_L_asked ?k_L_asked ?a_L_caught ?l_L_caught ?c_L_caught ?k_L_caught ?a_L_right ?l_L_right ?c_L_right ?k_L_right ?a_law ?l_law ?c_law ?k_law ?zz_all ?zz_bool ?zz_int ?zz_isinstance ?zz_len ?zz_max ?zz_min ?zz_range ?zz_str ?zz_tuple ?zz_zip
    (case ca_PictureError => k_is)
    (case ca_InvalidNumber => k_is)
    (case ca_InvalidWay => k_is)
    (case ca_InvalidMap => k_is)
    (case ca_InvalidEnds => k_is)
    (case ca_InvalidCell => k_is)
    (case ce_PictureError => k_is)
    (case ct_PictureError => k_is)
    (case ci_PictureError => k_is)
    (case ce_InvalidNumber => k_is)
    (case ct_InvalidNumber => k_is)
    (case ci_InvalidNumber => k_is)
    (case ce_InvalidWay => k_is)
    (case ct_InvalidWay => k_is)
    (case ci_InvalidWay => k_is)
    (case ce_InvalidMap => k_is)
    (case ct_InvalidMap => k_is)
    (case ci_InvalidMap => k_is)
    (case ce_InvalidEnds => k_is)
    (case ct_InvalidEnds => k_is)
    (case ci_InvalidEnds => k_is)
    (case ce_InvalidCell => k_is)
    (case ct_InvalidCell => k_is)
    (case ci_InvalidCell => k_is)
    (case cp_InvalidNumber_PictureError => k_is)
    (case cp_InvalidNumber_InvalidNumber => k_is)
    (case cp_InvalidNumber_InvalidWay => k_is)
    (case cp_InvalidNumber_InvalidMap => k_is)
    (case cp_InvalidNumber_InvalidEnds => k_is)
    (case cp_InvalidNumber_InvalidCell => k_is)
    (case cp_InvalidWay_PictureError => k_is)
    (case cp_InvalidWay_InvalidNumber => k_is)
    (case cp_InvalidWay_InvalidWay => k_is)
    (case cp_InvalidWay_InvalidMap => k_is)
    (case cp_InvalidWay_InvalidEnds => k_is)
    (case cp_InvalidWay_InvalidCell => k_is)
    (case cp_InvalidMap_PictureError => k_is)
    (case cp_InvalidMap_InvalidNumber => k_is)
    (case cp_InvalidMap_InvalidWay => k_is)
    (case cp_InvalidMap_InvalidMap => k_is)
    (case cp_InvalidMap_InvalidEnds => k_is)
    (case cp_InvalidMap_InvalidCell => k_is)
    (case cp_InvalidEnds_PictureError => k_is)
    (case cp_InvalidEnds_InvalidNumber => k_is)
    (case cp_InvalidEnds_InvalidWay => k_is)
    (case cp_InvalidEnds_InvalidMap => k_is)
    (case cp_InvalidEnds_InvalidEnds => k_is)
    (case cp_InvalidEnds_InvalidCell => k_is)
    (case cp_InvalidCell_PictureError => k_is)
    (case cp_InvalidCell_InvalidNumber => k_is)
    (case cp_InvalidCell_InvalidWay => k_is)
    (case cp_InvalidCell_InvalidMap => k_is)
    (case cp_InvalidCell_InvalidEnds => k_is)
    (case cp_InvalidCell_InvalidCell => k_is)
    (case cl_InvalidNumber => k_is)
    (case csa_InvalidNumber => k_is)
    (case cga_InvalidNumber => k_is)
    (case cgg_InvalidNumber => k_is)
    (case cno_InvalidNumber => k_is)
    (case cin_InvalidNumber => k_is)
    (case cf_InvalidNumber => k_is)
    (case ck_InvalidNumber => k_is)
    (case ch_InvalidNumber => k_is)
    (case cs_InvalidNumber => k_is)
    (case cn_InvalidNumber => k_is)
    (case cc_InvalidNumber => k_is)
    (case cl_InvalidWay => k_is)
    (case csa_InvalidWay => k_is)
    (case cga_InvalidWay => k_is)
    (case cgg_InvalidWay => k_is)
    (case cno_InvalidWay => k_is)
    (case cin_InvalidWay => k_is)
    (case cf_InvalidWay => k_is)
    (case ck_InvalidWay => k_is)
    (case ch_InvalidWay => k_is)
    (case cs_InvalidWay => k_is)
    (case cn_InvalidWay => k_is)
    (case cc_InvalidWay => k_is)
    (case cl_InvalidMap => k_is)
    (case csa_InvalidMap => k_is)
    (case cga_InvalidMap => k_is)
    (case cgg_InvalidMap => k_is)
    (case cno_InvalidMap => k_is)
    (case cin_InvalidMap => k_is)
    (case cf_InvalidMap => k_is)
    (case ck_InvalidMap => k_is)
    (case ch_InvalidMap => k_is)
    (case cs_InvalidMap => k_is)
    (case cn_InvalidMap => k_is)
    (case cc_InvalidMap => k_is)
    (case cl_InvalidEnds => k_is)
    (case csa_InvalidEnds => k_is)
    (case cga_InvalidEnds => k_is)
    (case cgg_InvalidEnds => k_is)
    (case cno_InvalidEnds => k_is)
    (case cin_InvalidEnds => k_is)
    (case cf_InvalidEnds => k_is)
    (case ck_InvalidEnds => k_is)
    (case ch_InvalidEnds => k_is)
    (case cs_InvalidEnds => k_is)
    (case cn_InvalidEnds => k_is)
    (case cc_InvalidEnds => k_is)
    (case cl_InvalidCell => k_is)
    (case csa_InvalidCell => k_is)
    (case cga_InvalidCell => k_is)
    (case cgg_InvalidCell => k_is)
    (case cno_InvalidCell => k_is)
    (case cin_InvalidCell => k_is)
    (case cf_InvalidCell => k_is)
    (case ck_InvalidCell => k_is)
    (case ch_InvalidCell => k_is)
    (case cs_InvalidCell => k_is)
    (case cn_InvalidCell => k_is)
    (case cc_InvalidCell => k_is)
    (case nc_STEPS => k_is)
    (case t35 => k_is)
    (case t34 => k_is)
    (case t31 => k_is)
    (case t28 => k_is)
    (case t25 => k_is)
    (case t22 => k_is)
    (case t19 => k_is)
    (case t16 => k_is)
    (case t13 => k_is)
    (case a_L_purse => k_is)
    (case l_L_purse => k_is)
    (case c_L_purse => k_is)
    (case k_L_purse => k_is)
    (case a_L_mixed => k_is)
    (case l_L_mixed => k_is)
    (case c_L_mixed => k_is)
    (case k_L_mixed => k_is)
    (case a_L_draw => k_is)
    (case l_L_draw => k_is)
    (case c_L_draw => k_is)
    (case k_L_draw => k_is)
    (case a_is_count => k_is)
    (case l_is_count => k_is)
    (case c_is_count => k_is)
    (case k_is_count => k_is)
    (case a_is_count_below => k_is)
    (case l_is_count_below => k_is)
    (case c_is_count_below => k_is)
    (case k_is_count_below => k_is)
    (case a_is_way => k_is)
    (case l_is_way => k_is)
    (case c_is_way => k_is)
    (case k_is_way => k_is)
    (case a_check_way => k_is)
    (case l_check_way => k_is)
    (case c_check_way => k_is)
    (case k_check_way => k_is)
    (case a_behind => k_is)
    (case l_behind => k_is)
    (case c_behind => k_is)
    (case k_behind => k_is)
    (case a_inverse => k_is)
    (case l_inverse => k_is)
    (case c_inverse => k_is)
    (case k_inverse => k_is)
    (case a_check_number => k_is)
    (case l_check_number => k_is)
    (case c_check_number => k_is)
    (case k_check_number => k_is)
    (case a_place_to => k_is)
    (case l_place_to => k_is)
    (case c_place_to => k_is)
    (case k_place_to => k_is)
    (case a_side_to => k_is)
    (case l_side_to => k_is)
    (case c_side_to => k_is)
    (case k_side_to => k_is)
    (case a_is_row => k_is)
    (case l_is_row => k_is)
    (case c_is_row => k_is)
    (case k_is_row => k_is)
    (case a_is_map => k_is)
    (case l_is_map => k_is)
    (case c_is_map => k_is)
    (case k_is_map => k_is)
    (case a_check_map => k_is)
    (case l_check_map => k_is)
    (case c_check_map => k_is)
    (case k_check_map => k_is)
    (case a_mirrored => k_is)
    (case l_mirrored => k_is)
    (case c_mirrored => k_is)
    (case k_mirrored => k_is)
    (case a_turned_once => k_is)
    (case l_turned_once => k_is)
    (case c_turned_once => k_is)
    (case k_turned_once => k_is)
    (case a_turned_map => k_is)
    (case l_turned_map => k_is)
    (case c_turned_map => k_is)
    (case k_turned_map => k_is)
    (case a_is_end => k_is)
    (case l_is_end => k_is)
    (case c_is_end => k_is)
    (case k_is_end => k_is)
    (case a_check_ends => k_is)
    (case l_check_ends => k_is)
    (case c_check_ends => k_is)
    (case k_check_ends => k_is)
    (case a_turned_ends => k_is)
    (case l_turned_ends => k_is)
    (case c_turned_ends => k_is)
    (case k_turned_ends => k_is)
    (case a_check_cell => k_is)
    (case l_check_cell => k_is)
    (case c_check_cell => k_is)
    (case k_check_cell => k_is)
    (case a_line_at => k_is)
    (case l_line_at => k_is)
    (case c_line_at => k_is)
    (case k_line_at => k_is)
    (case a_kind_at => k_is)
    (case l_kind_at => k_is)
    (case c_kind_at => k_is)
    (case k_kind_at => k_is)
    (case a_kinds_around => k_is)
    (case l_kinds_around => k_is)
    (case c_kinds_around => k_is)
    (case k_kinds_around => k_is)
    (case a_window => k_is)
    (case l_window => k_is)
    (case c_window => k_is)
    (case k_window => k_is)
    (case a_L_asked => k_is)
    (case l_L_asked => k_is)
    (case c_L_asked => k_is)
    (case k_L_asked => k_is)
    (case a_L_caught => k_is)
    (case l_L_caught => k_is)
    (case c_L_caught => k_is)
    (case k_L_caught => k_is)
    (case a_L_right => k_is)
    (case l_L_right => k_is)
    (case c_L_right => k_is)
    (case k_L_right => k_is)
    (case a_law => k_is)
    (case l_law => k_is)
    (case c_law => k_is)
    (case k_law => k_is)
    (case zz_all => k_is)
    (case zz_bool => k_is)
    (case zz_int => k_is)
    (case zz_isinstance => k_is)
    (case zz_len => k_is)
    (case zz_max => k_is)
    (case zz_min => k_is)
    (case zz_range => k_is)
    (case zz_str => k_is)
    (case zz_tuple => k_is)
    (case zz_zip => k_is)

