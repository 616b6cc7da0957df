import PyProof.Rows.All
import Wide.All
import OpenK.AllK
import Wide.FinOn
import PyProof.EqAt
import PyProof.EqKinds
import PyProof.TupleCall
import PyProof.ReprRoads
import HandS.ForMost
import HandS.Deep
import HandS.IsInst
import HandS.TupAny
import HandS.TupMul
import HandS.Style
import HandS.Zip
import HandS.Walk
import HandS.Defaults
import HandS.StrMore
import HandS.RaiseMore
import HandS.Sort
import PyProof.P3In
import PyProof.Rows.IntBool
import PyProof.ReprLen
import PyProof.Rows.ReprOcc
import HandS.Ends
import PySem.Challenge.RW_handsmade_k32_bunches_told
set_option Elab.async false
set_option linter.all false
set_option maxRecDepth 100000
set_option maxHeartbeats 4000000
/-! data layer: what an expression evaluates to, told by data alone -/
namespace DL
open PySem L2
abbrev D := PyData
/-! a value is this data: its lists and tuples stand as objects -/
mutual
inductive Dp (K : PySem.W.Frag) (H : Hp) : V → PyData → Prop
  | non : Dp K H .non .none
  | bl (b : Bool) : Dp K H (.bl b) (.bool b)
  | int (i : Int) : Dp K H (.int i) (.int i)
  | str (x : Str) : Dp K H (.str x) (.str x)
  | lst {a : Addr} {xs : List V} {ds : List PyData} : H a = some (.lst xs) → DpAll K H xs ds → Dp K H (.ref a) (.list ds)
  | tup {a : Addr} {xs : List V} {ds : List PyData} : H a = some (.tup xs) → DpAll K H xs ds → Dp K H (.ref a) (.tuple ds)
inductive DpAll (K : PySem.W.Frag) (H : Hp) : List V → List PyData → Prop
  | nil : DpAll K H [] []
  | cons {v : V} {vs : List V} {d : PyData} {ds : List PyData} : Dp K H v d → DpAll K H vs ds → DpAll K H (v :: vs) (d :: ds)
end
mutual
theorem Dp.old {K : PySem.W.Frag} {H : Hp} : ∀ {v : V} {d : PyData}, Dp K H v d → L2.Dp K H v d
  | _, _, .non => .non
  | _, _, .bl b => .bl b
  | _, _, .int i => .int i
  | _, _, .str x => .str x
  | _, _, .lst h a => .lst (SqL.of h) (DpAll.old a)
  | _, _, .tup h a => .tup (SqT.of h) (DpAll.old a)
theorem DpAll.old {K : PySem.W.Frag} {H : Hp} : ∀ {vs : List V} {ds : List PyData}, DpAll K H vs ds → L2.DpAll K H vs ds
  | _, _, .nil => .nil
  | _, _, .cons h t => .cons (Dp.old h) (DpAll.old t)
end
/-- a slot: not known; frozen data; a list of the def's own; a value as it is -/
inductive Sl where
  | un | dat (d : D) | ls (ds : List D) | rf (v : V)
abbrev Rho := List Sl
/-- what may change behind our back (Z), what holds of it -/
structure Wd where
  Z : Addr → Prop
  I : Hp → Prop
  stab : ∀ H H', I H → (∀ b o, Z b → H b = some o → H' b = some o) → I H'
structure Ok (W : Wd) (F H : Hp) : Prop where
  sub : Same F H
  z : ∀ b, W.Z b → F b = none ∧ H b ≠ none
  inv : W.I H
structure Step (W : Wd) (F H F' H' : Hp) : Prop where
  fz : Same F F'
  kp : ∀ b o, ¬ W.Z b → H b = some o → H' b = some o
  nw : ∀ b, F b = none → H b ≠ none → F' b = none

section
variable {W : Wd} {F F1 F2 F' H H0 H1 H2 H' : Hp} {K : PySem.W.Frag}
theorem some_of {a : Option HO} (h : a ≠ none) : ∃ o, a = some o := by
  cases a with
  | none => exact absurd rfl h
  | some o => exact ⟨o, rfl⟩
theorem Step.refl (o : Ok W F H) : Step W F H F H := ⟨Same.refl _, fun _ _ _ h => h, fun _ h _ => h⟩
theorem Step.there (s : Step W F H F' H') (o : Ok W F' H') {b : Addr} (h : H b ≠ none) : H' b ≠ none := by
  by_cases hz : W.Z b
  · exact (o.z b hz).2
  · obtain ⟨u, hu⟩ := some_of h
    rw [s.kp b u hz hu]
    exact fun z => nomatch z
theorem Step.trans (a : Step W F H F1 H1) (o : Ok W F1 H1) (b : Step W F1 H1 F2 H2) : Step W F H F2 H2 :=
  ⟨a.fz.trans b.fz, fun c u hz h => b.kp c u hz (a.kp c u hz h), fun c hf hh => b.nw c (a.nw c hf hh) (a.there o hh)⟩
theorem sm_new {p : Addr} {o : HO} (h : H p = none) : Same H (upd H p o) := fun a u e => by
  rw [upd_ne (ne_of_none e h)]
  exact e
theorem Ok.free (o : Ok W F H) {p : Addr} (h : H p = none) : F p = none := o.sub.free h
theorem Ok.nz (o : Ok W F H) {p : Addr} (h : H p = none) : ¬ W.Z p := fun z => (o.z p z).2 h
/-- a new object, frozen -/
theorem Ok.new (o : Ok W F H) {p : Addr} {u : HO} (h : H p = none) : Ok W (upd F p u) (upd H p u) ∧ Step W F H (upd F p u) (upd H p u) := by
  refine ⟨⟨fun a v e => ?_, fun b hz => ?_, W.stab _ _ o.inv fun b v _ e => sm_new h b v e⟩, sm_new (o.free h), fun b v _ e => sm_new h b v e, fun b hf hh => ?_⟩
  · by_cases q : a = p
    · rw [q, upd_same] at e
      rw [q, upd_same]
      exact e
    · rw [upd_ne q] at e
      rw [upd_ne q]
      exact o.sub a v e
  · have q : b ≠ p := fun q => o.nz h (q ▸ hz)
    rw [upd_ne q, upd_ne q]
    exact o.z b hz
  · have q : b ≠ p := fun q => hh (q ▸ h)
    rw [upd_ne q]
    exact hf
/-- a new object, not frozen -/
theorem Ok.own (o : Ok W F H) {p : Addr} {u : HO} (h : H p = none) : Ok W F (upd H p u) ∧ Step W F H F (upd H p u) := by
  refine ⟨⟨fun a v e => ?_, fun b hz => ?_, W.stab _ _ o.inv fun b v _ e => sm_new h b v e⟩, Same.refl _, fun b v _ e => sm_new h b v e, fun b hf _ => hf⟩
  · exact sm_new h a v (o.sub a v e)
  · have q : b ≠ p := fun q => o.nz h (q ▸ hz)
    rw [upd_ne q]
    exact o.z b hz
/-- a list of one's own is frozen -/
theorem Ok.freeze (o : Ok W F H) {p : Addr} {u : HO} (h : H p = some u) (hz : ¬ W.Z p) (hf : F p = none) : Ok W (upd F p u) H := by
  refine ⟨fun a v e => ?_, fun b z => ?_, o.inv⟩
  · by_cases q : a = p
    · rw [q, upd_same] at e
      rw [q, h]
      exact e
    · rw [upd_ne q] at e
      exact o.sub a v e
  · have q : b ≠ p := fun q => hz (q ▸ z)
    rw [upd_ne q]
    exact o.z b z
/-- an own list is changed -/
theorem Ok.mut (o : Ok W F H) {p : Addr} {u u' : HO} (h : H p = some u) (hz : ¬ W.Z p) (hf : F p = none) : Ok W F (upd H p u') := by
  refine ⟨fun a v e => ?_, fun b z => ?_, W.stab _ _ o.inv fun b v z e => by
    have q : b ≠ p := fun q => hz (q ▸ z)
    rw [upd_ne q]
    exact e⟩
  · have q : a ≠ p := fun q => by rw [q, hf] at e; cases e
    rw [upd_ne q]
    exact o.sub a v e
  · have q : b ≠ p := fun q => hz (q ▸ z)
    rw [upd_ne q]
    exact o.z b z

theorem rd_mono {a : Addr} {u : HO} (e : Same H H') (h : Rd H a u) : Rd H' a u := by
  rcases h with h | ⟨o, h⟩
  · exact Or.inl (e a _ h)
  · exact Or.inr ⟨o, e a _ h⟩
theorem sql_mono {a : Addr} {xs : List V} (e : Same H H') (h : SqL K H a xs) : SqL K H' a xs := e.seq h
theorem sqt_mono {a : Addr} {xs : List V} (e : Same H H') (h : SqT K H a xs) : SqT K H' a xs := by
  rcases h with h | h
  · exact Or.inl (rd_mono e h)
  · exact Or.inr h
mutual
theorem dp_mono (e : Same H H') : ∀ {v : V} {d : D}, Dp K H v d → Dp K H' v d
  | _, _, .non => .non
  | _, _, .bl b => .bl b
  | _, _, .int i => .int i
  | _, _, .str x => .str x
  | _, _, .lst h a => .lst (e _ _ h) (dpa_mono e a)
  | _, _, .tup h a => .tup (e _ _ h) (dpa_mono e a)
theorem dpa_mono (e : Same H H') : ∀ {vs : List V} {ds : List D}, DpAll K H vs ds → DpAll K H' vs ds
  | _, _, .nil => .nil
  | _, _, .cons h t => .cons (dp_mono e h) (dpa_mono e t)
end
theorem dpa_len : ∀ {vs : List V} {ds : List D}, DpAll K H vs ds → vs.length = ds.length
  | _, _, .nil => rfl
  | _, _, .cons h t => by rw [List.length_cons, List.length_cons, dpa_len t]
theorem dpa_get : ∀ {vs : List V} {ds : List D} {i : Nat} {v : V}, DpAll K H vs ds → vs[i]? = some v → ∃ d, ds[i]? = some d ∧ Dp K H v d
  | _, _, i, v, .nil, h => by simp at h
  | _, _, 0, v, .cons h t, e => by
    simp at e
    subst e
    exact ⟨_, rfl, h⟩
  | _, _, i + 1, v, .cons h t, e => by
    obtain ⟨d, h1, h2⟩ := dpa_get (i := i) (v := v) t (by simpa using e)
    exact ⟨d, by simpa using h1, h2⟩
theorem dpa_get' : ∀ {vs : List V} {ds : List D} {i : Nat} {d : D}, DpAll K H vs ds → ds[i]? = some d → ∃ v, vs[i]? = some v ∧ Dp K H v d
  | _, _, i, v, .nil, h => by simp at h
  | _, _, 0, v, .cons h t, e => by
    simp at e
    subst e
    exact ⟨_, rfl, h⟩
  | _, _, i + 1, v, .cons h t, e => by
    obtain ⟨d, h1, h2⟩ := dpa_get' (i := i) (d := v) t (by simpa using e)
    exact ⟨d, by simpa using h1, h2⟩
theorem dpa_app : ∀ {vs ws : List V} {ds es : List D}, DpAll K H vs ds → DpAll K H ws es → DpAll K H (vs ++ ws) (ds ++ es)
  | _, _, _, _, .nil, h => h
  | _, _, _, _, .cons h t, k => .cons h (dpa_app t k)
theorem dpa_take : ∀ {vs : List V} {ds : List D} (n : Nat), DpAll K H vs ds → DpAll K H (vs.take n) (ds.take n)
  | _, _, 0, _ => by rw [List.take_zero, List.take_zero]; exact .nil
  | _, _, n + 1, .nil => .nil
  | _, _, n + 1, .cons h t => .cons h (dpa_take n t)
theorem dpa_drop : ∀ {vs : List V} {ds : List D} (n : Nat), DpAll K H vs ds → DpAll K H (vs.drop n) (ds.drop n)
  | _, _, 0, h => h
  | _, _, n + 1, .nil => .nil
  | _, _, n + 1, .cons _ t => dpa_drop n t
theorem dpa_erase : ∀ {vs : List V} {ds : List D} (n : Nat), DpAll K H vs ds → DpAll K H (vs.eraseIdx n) (ds.eraseIdx n)
  | _, _, n, .nil => .nil
  | _, _, 0, .cons _ t => t
  | _, _, n + 1, .cons h t => .cons h (dpa_erase n t)
theorem dpa_rev {vs : List V} {ds : List D} (h : DpAll K H vs ds) : DpAll K H vs.reverse ds.reverse := by
  induction vs generalizing ds with
  | nil => cases h; exact .nil
  | cons v vs ih =>
    cases h with
    | cons a t =>
      rw [List.reverse_cons, List.reverse_cons]
      exact dpa_app (ih t) (.cons a .nil)

/-! ### what holds of values, of slots -/
def VOk (K : PySem.W.Frag) (W : Wd) (F H : Hp) (v : V) : Sl → Prop
  | .un => False
  | .dat d => Dp K F v d
  | .ls ds => ∃ p vs, v = .ref p ∧ H p = some (.lst vs) ∧ F p = none ∧ ¬ W.Z p ∧ DpAll K F vs ds
  | .rf u => v = u
def SlOk (K : PySem.W.Frag) (W : Wd) (H0 : Hp) (σ : St) (F H : Hp) (i : Nat) : Sl → Prop
  | .un => True
  | .dat d => ∃ v, σ[i]? = some (some v) ∧ Dp K F v d
  | .ls ds => ∃ p vs, σ[i]? = some (some (.ref p)) ∧ H p = some (.lst vs) ∧ F p = none ∧ ¬ W.Z p ∧ H0 p = none ∧ DpAll K F vs ds
  | .rf u => σ[i]? = some (some u)
structure Holds (K : PySem.W.Frag) (W : Wd) (H0 : Hp) (σ : St) (F H : Hp) (ρ : Rho) : Prop where
  len : σ.length = ρ.length
  at_ : ∀ (i : Nat) (s : Sl), ρ[i]? = some s → SlOk K W H0 σ F H i s
  dis : ∀ (i j : Nat) (ds es : List D) (p : Addr), i ≠ j → ρ[i]? = some (.ls ds) → ρ[j]? = some (.ls es) → σ[i]? = some (some (.ref p)) → σ[j]? ≠ some (some (.ref p))
theorem SlOk.step {σ : St} {i : Nat} {s : Sl} (h : SlOk K W H0 σ F H i s) (st : Step W F H F' H') : SlOk K W H0 σ F' H' i s := by
  cases s with
  | un => trivial
  | dat d =>
    obtain ⟨v, h1, h2⟩ := h
    exact ⟨v, h1, dp_mono st.fz h2⟩
  | ls ds =>
    obtain ⟨p, vs, h1, h2, h3, h4, h5, h6⟩ := h
    exact ⟨p, vs, h1, st.kp _ _ h4 h2, st.nw p h3 (by rw [h2]; exact fun z => nomatch z), h4, h5, dpa_mono st.fz h6⟩
  | rf u => exact h
theorem Holds.step {σ : St} {ρ : Rho} (h : Holds K W H0 σ F H ρ) (st : Step W F H F' H') : Holds K W H0 σ F' H' ρ :=
  ⟨h.len, fun i s e => (h.at_ i s e).step st, h.dis⟩
theorem VOk.step {v : V} {s : Sl} (h : VOk K W F H v s) (st : Step W F H F' H') : VOk K W F' H' v s := by
  cases s with
  | un => exact h
  | dat d => exact dp_mono st.fz h
  | ls ds =>
    obtain ⟨p, vs, h1, h2, h3, h4, h6⟩ := h
    exact ⟨p, vs, h1, st.kp _ _ h4 h2, st.nw p h3 (by rw [h2]; exact fun z => nomatch z), h4, dpa_mono st.fz h6⟩
  | rf u => exact h
/-- no list of one's own is set -/
def NoLs : Sl → Prop
  | .ls _ => False
  | _ => True
theorem Holds.set {σ : St} {ρ : Rho} {i : Nat} {v : V} {s : Sl} (h : Holds K W H0 σ F H ρ) (hv : VOk K W F H v s) (hn : NoLs s) : Holds K W H0 (σ.set i (some v)) F H (ρ.set i s) := by
  have nls : ∀ (j : Nat) (ds : List D), (ρ.set i s)[j]? = some (.ls ds) → j ≠ i ∧ ρ[j]? = some (.ls ds) := fun j ds e => by
    by_cases q : j = i
    · subst q
      rw [List.getElem?_set_self' ] at e
      cases e1 : ρ[j]? with
      | none => rw [e1] at e; cases e
      | some u =>
        rw [e1] at e
        have e2 : s = .ls ds := by simpa using e
        rw [e2] at hn
        exact hn.elim
    · rw [List.getElem?_set_ne (Ne.symm q)] at e
      exact ⟨q, e⟩
  refine ⟨by rw [List.length_set, List.length_set, h.len], fun j u e => ?_, fun j k ds es p hjk e1 e2 e3 => ?_⟩
  · by_cases q : j = i
    · subst q
      have hj : j < ρ.length := by
        have := (List.getElem?_eq_some_iff.mp e).1
        rwa [List.length_set] at this
      rw [List.getElem?_set_self hj] at e
      have e' : s = u := by simpa using e
      subst e'
      have hs : (σ.set j (some v))[j]? = some (some v) := List.getElem?_set_self (by rw [h.len]; exact hj)
      cases s with
      | un => trivial
      | dat d => exact ⟨v, hs, hv⟩
      | ls ds => exact hn.elim
      | rf u => exact (show v = u from hv) ▸ hs
    · rw [List.getElem?_set_ne (Ne.symm q)] at e
      have g := h.at_ j u e
      have hs : (σ.set i (some v))[j]? = σ[j]? := List.getElem?_set_ne (Ne.symm q)
      cases u with
      | un => trivial
      | dat d => obtain ⟨w, g1, g2⟩ := g; exact ⟨w, hs.trans g1, g2⟩
      | ls ds => obtain ⟨p, vs, g1, g2⟩ := g; exact ⟨p, vs, hs.trans g1, g2⟩
      | rf u => exact hs.trans g
  · obtain ⟨a1, a2⟩ := nls j ds e1
    obtain ⟨b1, b2⟩ := nls k es e2
    rw [List.getElem?_set_ne (Ne.symm a1)] at e3
    rw [List.getElem?_set_ne (Ne.symm b1)]
    exact h.dis j k ds es p hjk a2 b2 e3
/-- a new list of one's own -/
theorem Holds.setOwn {σ : St} {ρ : Rho} {i : Nat} {p : Addr} {vs : List V} {ds : List D} (h : Holds K W H0 σ F H ρ) (hp : H p = some (.lst vs)) (hf : F p = none) (hz : ¬ W.Z p) (h0 : H0 p = none) (hd : DpAll K F vs ds)
    (hnew : ∀ (j : Nat) (es : List D), ρ[j]? = some (.ls es) → σ[j]? ≠ some (some (.ref p))) : Holds K W H0 (σ.set i (some (.ref p))) F H (ρ.set i (.ls ds)) := by
  have lsat : ∀ (j : Nat) (es : List D), (ρ.set i (.ls ds))[j]? = some (.ls es) → j ≠ i → ρ[j]? = some (.ls es) := fun j es e q => by
    rw [List.getElem?_set_ne (Ne.symm q)] at e
    exact e
  refine ⟨by rw [List.length_set, List.length_set, h.len], fun j u e => ?_, fun j k es gs q hjk e1 e2 e3 => ?_⟩
  · by_cases q : j = i
    · subst q
      have hj : j < ρ.length := by
        have := (List.getElem?_eq_some_iff.mp e).1
        rwa [List.length_set] at this
      rw [List.getElem?_set_self hj] at e
      have e' : Sl.ls ds = u := by simpa using e
      subst e'
      exact ⟨p, vs, List.getElem?_set_self (by rw [h.len]; exact hj), hp, hf, hz, h0, hd⟩
    · rw [List.getElem?_set_ne (Ne.symm q)] at e
      have g := h.at_ j u e
      have hs : (σ.set i (some (.ref p)))[j]? = σ[j]? := List.getElem?_set_ne (Ne.symm q)
      cases u with
      | un => trivial
      | dat d => obtain ⟨w, g1, g2⟩ := g; exact ⟨w, hs.trans g1, g2⟩
      | ls ds => obtain ⟨p, vs, g1, g2⟩ := g; exact ⟨p, vs, hs.trans g1, g2⟩
      | rf u => exact hs.trans g
  · have hi : ∀ (l : Nat) (ls : List D), (ρ.set i (.ls ds))[l]? = some (.ls ls) → l = i → l < σ.length := fun l ls e q => by
      have := (List.getElem?_eq_some_iff.mp e).1
      rw [List.length_set] at this
      rw [h.len]
      exact this
    by_cases qj : j = i
    · by_cases qk : k = i
      · exact absurd (qj.trans qk.symm) hjk
      · rw [List.getElem?_set_ne (Ne.symm qk)]
        rw [qj, List.getElem?_set_self (by rw [← qj]; exact hi j es e1 qj)] at e3
        have e4 : q = p := by simpa using e3.symm
        rw [e4]
        exact hnew k gs (lsat k gs e2 qk)
    · rw [List.getElem?_set_ne (Ne.symm qj)] at e3
      by_cases qk : k = i
      · rw [qk, List.getElem?_set_self (by rw [← qk]; exact hi k gs e2 qk)]
        intro z
        have e4 : p = q := by simpa using z
        exact hnew j es (lsat j es e1 qj) (e4 ▸ e3)
      · rw [List.getElem?_set_ne (Ne.symm qk)]
        exact h.dis j k es gs q hjk (lsat j es e1 qj) (lsat k gs e2 qk) e3
/-- the own list at slot i is changed -/
theorem Holds.mut {σ : St} {ρ : Rho} {i : Nat} {p : Addr} {vs : List V} {ds es : List D} (h : Holds K W H0 σ F H ρ) (hi : ρ[i]? = some (.ls ds)) (hs : σ[i]? = some (some (.ref p))) (hd : DpAll K F vs es) :
    Holds K W H0 σ F (upd H p (.lst vs)) (ρ.set i (.ls es)) := by
  have hlt : i < ρ.length := (List.getElem?_eq_some_iff.mp hi).1
  obtain ⟨p', ws, g1, g2, g3, g4, g5, g6⟩ := h.at_ i _ hi
  rw [hs] at g1
  have ep : p = p' := by simpa using g1
  subst ep
  have lsat : ∀ (j : Nat) (gs : List D), (ρ.set i (.ls es))[j]? = some (.ls gs) → ∃ gs' : List D, ρ[j]? = some (.ls gs') := fun j gs e => by
    by_cases q : j = i
    · exact ⟨ds, q ▸ hi⟩
    · rw [List.getElem?_set_ne (Ne.symm q)] at e
      exact ⟨gs, e⟩
  refine ⟨by rw [List.length_set, h.len], fun j u e => ?_, fun j k as bs q hjk e1 e2 e3 => ?_⟩
  · by_cases q : j = i
    · subst q
      rw [List.getElem?_set_self hlt] at e
      have e' : Sl.ls es = u := by simpa using e
      subst e'
      exact ⟨p, vs, hs, upd_same, g3, g4, g5, hd⟩
    · rw [List.getElem?_set_ne (Ne.symm q)] at e
      have g := h.at_ j u e
      cases u with
      | un => trivial
      | dat d => exact g
      | ls cs =>
        obtain ⟨r, xs, k1, k2, k3⟩ := g
        have hne : r ≠ p := fun z => h.dis i j _ _ p (Ne.symm q) hi e hs (z ▸ k1)
        exact ⟨r, xs, k1, (upd_ne hne).trans k2, k3⟩
      | rf u => exact g
  · obtain ⟨as', a⟩ := lsat j as e1
    obtain ⟨bs', b⟩ := lsat k bs e2
    exact h.dis j k as' bs' q hjk a b e3
end

/-! ### the judgements -/
section
variable (K : PySem.W.Frag) (W : Wd) (H0 : Hp)
def Ev (te : TE) (ρ : Rho) (P : Sl → Prop) : Prop := ∀ σ F H, Ok W F H → Holds K W H0 σ F H ρ → ∀ Q : VK,
  (∀ v F' H' s, Ok W F' H' → Step W F H F' H' → VOk K W F' H' v s → P s → Q v H') → te σ H Q
/-- a new list -/
def EvN (te : TE) (ρ : Rho) (P : List D → Prop) : Prop := ∀ σ F H, Ok W F H → Holds K W H0 σ F H ρ → ∀ Q : VK,
  (∀ p vs F' H' ds, Ok W F' H' → Step W F H F' H' → H p = none → H' p = some (.lst vs) → F' p = none → ¬ W.Z p → DpAll K F' vs ds → P ds → Q (.ref p) H') → te σ H Q
def EvT (tt : TT) (ρ : Rho) (P : Bool → Prop) : Prop := ∀ σ F H, Ok W F H → Holds K W H0 σ F H ρ → ∀ Q : Bool → Hp → Prop,
  (∀ b F' H', Ok W F' H' → Step W F H F' H' → P b → Q b H') → tt σ H Q
/-- arguments -/
def EvA (ta : TA) (ρ : Rho) (P : List Sl → Prop) : Prop := ∀ σ F H, Ok W F H → Holds K W H0 σ F H ρ → ∀ Q : List V → Hp → Prop,
  (∀ vs F' H' ss, Ok W F' H' → Step W F H F' H' → Paired (VOk K W F' H') vs ss → P ss → Q vs H') → ta σ H Q
/-- a slice's part -/
def EvO (to : TO) (ρ : Rho) (P : Option Int → Prop) : Prop := ∀ σ F H, Ok W F H → Holds K W H0 σ F H ρ → ∀ Q : Option Int → Hp → Prop,
  (∀ o F' H', Ok W F' H' → Step W F H F' H' → P o → Q o H') → to σ H Q
/-- a statement; F0, H0: the def's entry -/
structure Ends2 where
  nx : Rho → Prop
  rt : Sl → Prop
  bk : Rho → Prop := fun _ => False
  ct : Rho → Prop := fun _ => False
structure At (F0 : Hp) (σ : St) (F H : Hp) (ρ : Rho) : Prop where
  ok : Ok W F H
  st : Step W F0 H0 F H
  ho : Holds K W H0 σ F H ρ
def Sx (F0 : Hp) (ts : TS) (ρ : Rho) (N : Ends2) : Prop := ∀ σ F H, At K W H0 F0 σ F H ρ → ∀ D : Ends,
  (∀ σ' F' H' ρ', At K W H0 F0 σ' F' H' ρ' → Same F F' → N.nx ρ' → D.nx σ' H') → (∀ v F' H' s, Ok W F' H' → Step W F0 H0 F' H' → VOk K W F' H' v s → N.rt s → D.rt v H') →
  (∀ σ' F' H' ρ', At K W H0 F0 σ' F' H' ρ' → Same F F' → N.bk ρ' → D.bk σ' H') → (∀ σ' F' H' ρ', At K W H0 F0 σ' F' H' ρ' → Same F F' → N.ct ρ' → D.ct σ' H') → ts D σ H
end

section
variable {K : PySem.W.Frag} {W : Wd} {H0 : Hp} {ρ : Rho} {te ta tb tc : TE} {tt tu : TT} {P P' : Sl → Prop} {r : R2}
theorem Ev.mono (h : Ev K W H0 te ρ P) (k : ∀ s, P s → P' s) : Ev K W H0 te ρ P' := fun σ F H o ho Q q => h σ F H o ho Q fun v F' H' s o' st hv p => q v F' H' s o' st hv (k s p)
theorem ev_var {i : Nat} {d : D} (h : ρ[i]? = some (.dat d)) (p : P (.dat d)) : Ev K W H0 (tVar i) ρ P := fun σ F H o ho Q q => by
  obtain ⟨v, h1, h2⟩ := ho.at_ i _ h
  exact ⟨v, h1, q v F H (.dat d) o (Step.refl o) h2 p⟩
theorem ev_own {i : Nat} {ds : List D} (h : ρ[i]? = some (.ls ds)) (p : P (.ls ds)) : Ev K W H0 (tVar i) ρ P := fun σ F H o ho Q q => by
  obtain ⟨a, vs, h1, h2, h3, h4, h5, h6⟩ := ho.at_ i _ h
  exact ⟨.ref a, h1, q (.ref a) F H (.ls ds) o (Step.refl o) ⟨a, vs, rfl, h2, h3, h4, h6⟩ p⟩
theorem ev_ref {i : Nat} {v : V} (h : ρ[i]? = some (.rf v)) (p : P (.rf v)) : Ev K W H0 (tVar i) ρ P := fun σ F H o ho Q q =>
  ⟨v, ho.at_ i _ h, q v F H (.rf v) o (Step.refl o) rfl p⟩
theorem ev_non (p : P (.dat .none)) : Ev K W H0 (tC .non) ρ P := fun σ F H o ho Q q => q .non F H (.dat .none) o (Step.refl o) .non p
theorem ev_bl {b : Bool} (p : P (.dat (.bool b))) : Ev K W H0 (tC (.bl b)) ρ P := fun σ F H o ho Q q => q (.bl b) F H (.dat (.bool b)) o (Step.refl o) (.bl b) p
theorem ev_int {i : Int} (p : P (.dat (.int i))) : Ev K W H0 (tC (.int i)) ρ P := fun σ F H o ho Q q => q (.int i) F H (.dat (.int i)) o (Step.refl o) (.int i) p
theorem ev_str {x : Str} (p : P (.dat (.str x))) : Ev K W H0 (tC (.str x)) ρ P := fun σ F H o ho Q q => q (.str x) F H (.dat (.str x)) o (Step.refl o) (.str x) p
theorem ev_c {v : V} (p : P (.rf v)) : Ev K W H0 (tC v) ρ P := fun σ F H o ho Q q => q v F H (.rf v) o (Step.refl o) rfl p

/-- what an operation does, by data: from values that are so to a value that is so -/
def OpS (K : PySem.W.Frag) (W : Wd) (r : R2) (s t : Sl) (P : Sl → Prop) : Prop := ∀ F H x y, Ok W F H → VOk K W F H x s → VOk K W F H y t → ∀ Q : VK,
  (∀ v F' H' u, Ok W F' H' → Step W F H F' H' → VOk K W F' H' v u → P u → Q v H') → r x y H Q
theorem ev_op (h : Ev K W H0 ta ρ fun s => Ev K W H0 tb ρ fun t => OpS K W r s t P) : Ev K W H0 (tOp r ta tb) ρ P := fun σ F H o ho Q q => by
  refine h σ F H o ho _ fun v F1 H1 s o1 st1 hv h1 => ?_
  refine h1 σ F1 H1 o1 (ho.step st1) _ fun u F2 H2 t o2 st2 hu h2 => ?_
  exact h2 F2 H2 v u o2 (hv.step st2) hu Q fun w F3 H3 z o3 st3 hw p => q w F3 H3 z o3 ((st1.trans o1 st2).trans o2 st3) hw p
def UnS (K : PySem.W.Frag) (W : Wd) (r : V → Hp → VK → Prop) (s : Sl) (P : Sl → Prop) : Prop := ∀ F H x, Ok W F H → VOk K W F H x s → ∀ Q : VK,
  (∀ v F' H' u, Ok W F' H' → Step W F H F' H' → VOk K W F' H' v u → P u → Q v H') → r x H Q
theorem ev_un {r : V → Hp → VK → Prop} (h : Ev K W H0 ta ρ fun s => UnS K W r s P) : Ev K W H0 (tUn r ta) ρ P := fun σ F H o ho Q q => by
  refine h σ F H o ho _ fun v F1 H1 s o1 st1 hv h1 => ?_
  exact h1 F1 H1 v o1 hv Q fun w F3 H3 z o3 st3 hw p => q w F3 H3 z o3 (st1.trans o1 st3) hw p
/-- a call of a built-in -/
def CaS (K : PySem.W.Frag) (W : Wd) (r : List V → Hp → VK → Prop) (ss : List Sl) (P : Sl → Prop) : Prop := ∀ F H xs, Ok W F H → Paired (VOk K W F H) xs ss → ∀ Q : VK,
  (∀ v F' H' u, Ok W F' H' → Step W F H F' H' → VOk K W F' H' v u → P u → Q v H') → r xs H Q
theorem ea_nil {P : List Sl → Prop} (p : P []) : EvA K W H0 tNil ρ P := fun σ F H o ho Q q => q [] F H [] o (Step.refl o) .nil p
theorem pvok_step {F H F' H' : Hp} (st : Step W F H F' H') : ∀ {vs : List V} {ss : List Sl}, Paired (VOk K W F H) vs ss → Paired (VOk K W F' H') vs ss
  | _, _, .nil => .nil
  | _, _, .cons h t => .cons (h.step st) (pvok_step st t)
theorem ea_cons {t : TA} {P : List Sl → Prop} (h : Ev K W H0 ta ρ fun s => EvA K W H0 t ρ fun ss => P (s :: ss)) : EvA K W H0 (tCons ta t) ρ P := fun σ F H o ho Q q => by
  refine h σ F H o ho _ fun v F1 H1 s o1 st1 hv h1 => ?_
  exact h1 σ F1 H1 o1 (ho.step st1) _ fun vs F2 H2 ss o2 st2 hvs p => q (v :: vs) F2 H2 (s :: ss) o2 (st1.trans o1 st2) (.cons (hv.step st2) hvs) p
theorem ev_cb {r : List V → Hp → VK → Prop} {t : TA} (h : EvA K W H0 t ρ fun ss => CaS K W r ss P) : Ev K W H0 (tCB r t) ρ P := fun σ F H o ho Q q => by
  refine h σ F H o ho _ fun vs F1 H1 ss o1 st1 hv h1 => ?_
  exact h1 F1 H1 vs o1 hv Q fun w F3 H3 z o3 st3 hw p => q w F3 H3 z o3 (st1.trans o1 st3) hw p
/-- a method of a built-in type -/
def MtS (K : PySem.W.Frag) (W : Wd) (r : V → List V → Hp → VK → Prop) (s : Sl) (ss : List Sl) (P : Sl → Prop) : Prop := ∀ F H x xs, Ok W F H → VOk K W F H x s → Paired (VOk K W F H) xs ss → ∀ Q : VK,
  (∀ v F' H' u, Ok W F' H' → Step W F H F' H' → VOk K W F' H' v u → P u → Q v H') → r x xs H Q
def TyS (K : PySem.W.Frag) (W : Wd) (T : String) (s : Sl) : Prop := ∀ F H x, Ok W F H → VOk K W F H x s → tyV K T x H
theorem ev_bm0 {T : String} {r : V → List V → Hp → VK → Prop} (h : Ev K W H0 ta ρ fun s => TyS K W T s ∧ MtS K W r s [] P) : Ev K W H0 (tBM0 K T r ta) ρ P := fun σ F H o ho Q q => by
  refine h σ F H o ho _ fun v F1 H1 s o1 st1 hv h1 => ?_
  exact ⟨h1.1 F1 H1 v o1 hv, h1.2 F1 H1 v [] o1 hv .nil Q fun w F3 H3 z o3 st3 hw p => q w F3 H3 z o3 (st1.trans o1 st3) hw p⟩
theorem ev_bm {T : String} {r : V → List V → Hp → VK → Prop} {t : TA} (h : Ev K W H0 ta ρ fun s => TyS K W T s ∧ EvA K W H0 t ρ fun ss => MtS K W r s ss P) : Ev K W H0 (tBM K T r ta t) ρ P := fun σ F H o ho Q q => by
  refine h σ F H o ho _ fun v F1 H1 s o1 st1 hv h1 => ?_
  refine ⟨h1.1 F1 H1 v o1 hv, h1.2 σ F1 H1 o1 (ho.step st1) _ fun vs F2 H2 ss o2 st2 hvs h2 => ?_⟩
  exact h2 F2 H2 v vs o2 (hv.step st2) hvs Q fun w F3 H3 z o3 st3 hw p => q w F3 H3 z o3 ((st1.trans o1 st2).trans o2 st3) hw p
/-- a new list, frozen at once -/
theorem ev_frz (h : EvN K W H0 te ρ fun ds => P (.dat (.list ds))) : Ev K W H0 te ρ P := fun σ F H o ho Q q => by
  refine h σ F H o ho _ fun p vs F1 H1 ds o1 st1 hn hp hf hz hd hP => ?_
  have o2 := o1.freeze hp hz hf
  have s2 : Same F1 (upd F1 p (.lst vs)) := sm_new hf
  refine q (.ref p) (upd F1 p (.lst vs)) H1 (.dat (.list ds)) o2 ⟨st1.fz.trans s2, st1.kp, fun b hb hh => ?_⟩ (.lst upd_same (dpa_mono s2 hd)) hP
  have hne : b ≠ p := fun z => hh (z ▸ hn)
  rw [upd_ne hne]
  exact st1.nw b hb hh
/-- ... as a list that may be read, not frozen -/
theorem ev_lsN (h : EvN K W H0 te ρ fun ds => P (.ls ds)) : Ev K W H0 te ρ P := fun σ F H o ho Q q => by
  refine h σ F H o ho _ fun p vs F1 H1 ds o1 st1 hn hp hf hz hd hP => ?_
  exact q (.ref p) F1 H1 (.ls ds) o1 st1 ⟨p, vs, rfl, hp, hf, hz, hd⟩ hP

end
end DL

namespace DL
open PySem L2 RZ
section
variable {K : PySem.W.Frag} {W : Wd} {H0 F0 : Hp} {ρ : Rho} {te ta tb tc : TE} {tt tu : TT} {P P' : Sl → Prop} {PB : Bool → Prop} {r r' : R2}
theorem dp_bool {F : Hp} {v : V} {b : Bool} (h : Dp K F v (.bool b)) : v = .bl b := by cases h; rfl
theorem dp_int {F : Hp} {v : V} {i : Int} (h : Dp K F v (.int i)) : v = .int i := by cases h; rfl
theorem dp_str {F : Hp} {v : V} {x : Str} (h : Dp K F v (.str x)) : v = .str x := by cases h; rfl
theorem dp_non {F : Hp} {v : V} (h : Dp K F v .none) : v = .non := by cases h; rfl
theorem dp_tup {F : Hp} {v : V} {ds : List D} (h : Dp K F v (.tuple ds)) : ∃ a xs, v = .ref a ∧ F a = some (.tup xs) ∧ DpAll K F xs ds := by
  cases h with
  | tup h1 h2 => exact ⟨_, _, rfl, h1, h2⟩
theorem dp_lst {F : Hp} {v : V} {ds : List D} (h : Dp K F v (.list ds)) : ∃ a xs, v = .ref a ∧ F a = some (.lst xs) ∧ DpAll K F xs ds := by
  cases h with
  | lst h1 h2 => exact ⟨_, _, rfl, h1, h2⟩
theorem vok_bool {F H : Hp} {v : V} {b : Bool} (h : VOk K W F H v (.dat (.bool b))) : v = .bl b := dp_bool h
theorem vok_int {F H : Hp} {v : V} {i : Int} (h : VOk K W F H v (.dat (.int i))) : v = .int i := dp_int h
theorem vok_str {F H : Hp} {v : V} {x : Str} (h : VOk K W F H v (.dat (.str x))) : v = .str x := dp_str h
theorem EvT.mono {P' : Bool → Prop} (h : EvT K W H0 tt ρ PB) (k : ∀ b, PB b → P' b) : EvT K W H0 tt ρ P' := fun σ F H o ho Q q => h σ F H o ho Q fun b F' H' o' st p => q b F' H' o' st (k b p)
/-! ### tests -/
theorem et_B (h : Ev K W H0 te ρ fun s => ∃ b, s = .dat (.bool b) ∧ PB b) : EvT K W H0 (tB te) ρ PB := fun σ F H o ho Q q =>
  h σ F H o ho _ fun v F' H' s o' st hv ⟨b, e, p⟩ => by
    subst e
    exact ⟨b, vok_bool hv, q b F' H' o' st p⟩
theorem et_test (h : Ev K W H0 te ρ fun s => ∃ b, s = .dat (.bool b) ∧ PB b) : EvT K W H0 (tTest te) ρ PB := fun σ F H o ho Q q =>
  h σ F H o ho _ fun v F' H' s o' st hv ⟨b, e, p⟩ => by
    subst e
    exact ⟨b, vok_bool hv, q b F' H' o' st p⟩
theorem et_and (h : EvT K W H0 tt ρ fun c => if c = true then EvT K W H0 tu ρ PB else PB false) : EvT K W H0 (tAnd tt tu) ρ PB := fun σ F H o ho Q q =>
  h σ F H o ho _ fun c F1 H1 o1 st1 p => by
    cases c with
    | true => exact p σ F1 H1 o1 (ho.step st1) Q fun b F2 H2 o2 st2 p2 => q b F2 H2 o2 (st1.trans o1 st2) p2
    | false => exact q false F1 H1 o1 st1 p
theorem et_or (h : EvT K W H0 tt ρ fun c => if c = true then PB true else EvT K W H0 tu ρ PB) : EvT K W H0 (tOr tt tu) ρ PB := fun σ F H o ho Q q =>
  h σ F H o ho _ fun c F1 H1 o1 st1 p => by
    cases c with
    | false => exact p σ F1 H1 o1 (ho.step st1) Q fun b F2 H2 o2 st2 p2 => q b F2 H2 o2 (st1.trans o1 st2) p2
    | true => exact q true F1 H1 o1 st1 p
theorem et_not (h : EvT K W H0 tt ρ fun c => PB (!c)) : EvT K W H0 (tNot tt) ρ PB := fun σ F H o ho Q q =>
  h σ F H o ho _ fun c F1 H1 o1 st1 p => q (!c) F1 H1 o1 st1 p
theorem et_yes (p : PB true) : EvT K W H0 tYes ρ PB := fun σ F H o ho Q q => q true F H o (Step.refl o) p
theorem ev_and (h : Ev K W H0 ta ρ fun s => ∃ c, s = .dat (.bool c) ∧ if c = true then Ev K W H0 tb ρ P else P (.dat (.bool false))) : Ev K W H0 (tAndV ta tb) ρ P := fun σ F H o ho Q q =>
  h σ F H o ho _ fun v F1 H1 s o1 st1 hv ⟨c, e, p⟩ => by
    subst e
    refine ⟨c, vok_bool hv, ?_⟩
    cases c with
    | true => exact p σ F1 H1 o1 (ho.step st1) Q fun w F2 H2 s o2 st2 hw p2 => q w F2 H2 s o2 (st1.trans o1 st2) hw p2
    | false => exact q (.bl false) F1 H1 (.dat (.bool false)) o1 st1 (.bl false) p
theorem ev_or (h : Ev K W H0 ta ρ fun s => ∃ c, s = .dat (.bool c) ∧ if c = true then P (.dat (.bool true)) else Ev K W H0 tb ρ P) : Ev K W H0 (tOrV ta tb) ρ P := fun σ F H o ho Q q =>
  h σ F H o ho _ fun v F1 H1 s o1 st1 hv ⟨c, e, p⟩ => by
    subst e
    refine ⟨c, vok_bool hv, ?_⟩
    cases c with
    | false => exact p σ F1 H1 o1 (ho.step st1) Q fun w F2 H2 s o2 st2 hw p2 => q w F2 H2 s o2 (st1.trans o1 st2) hw p2
    | true => exact q (.bl true) F1 H1 (.dat (.bool true)) o1 st1 (.bl true) p
theorem ev_not (h : Ev K W H0 ta ρ fun s => ∃ c, s = .dat (.bool c) ∧ P (.dat (.bool (!c)))) : Ev K W H0 (tNotV ta) ρ P := fun σ F H o ho Q q =>
  h σ F H o ho _ fun v F1 H1 s o1 st1 hv ⟨c, e, p⟩ => by
    subst e
    exact ⟨c, vok_bool hv, q (.bl (!c)) F1 H1 (.dat (.bool (!c))) o1 st1 (.bl _) p⟩
theorem ev_if (h : EvT K W H0 tt ρ fun c => if c = true then Ev K W H0 ta ρ P else Ev K W H0 tb ρ P) : Ev K W H0 (tIf tt ta tb) ρ P := fun σ F H o ho Q q =>
  h σ F H o ho _ fun c F1 H1 o1 st1 p => by
    cases c with
    | true => exact p σ F1 H1 o1 (ho.step st1) Q fun w F2 H2 s o2 st2 hw p2 => q w F2 H2 s o2 (st1.trans o1 st2) hw p2
    | false => exact p σ F1 H1 o1 (ho.step st1) Q fun w F2 H2 s o2 st2 hw p2 => q w F2 H2 s o2 (st1.trans o1 st2) hw p2
theorem OpS.mono {s t : Sl} (h : OpS K W r s t P) (k : ∀ s, P s → P' s) : OpS K W r s t P' := fun F H x y o hx hy Q q => h F H x y o hx hy Q fun v F' H' u o' st hv p => q v F' H' u o' st hv (k u p)
/-- a < b < c -/
theorem ev_chain (h : Ev K W H0 ta ρ fun s => Ev K W H0 tb ρ fun t => OpS K W r s t fun u => ∃ c, u = .dat (.bool c) ∧ if c = true then Ev K W H0 tc ρ (fun w => OpS K W r' t w P) else P (.dat (.bool false))) : Ev K W H0 (tChain r r' ta tb tc) ρ P := fun σ F H o ho Q q => by
  refine h σ F H o ho _ fun v F1 H1 s o1 st1 hv h1 => ?_
  refine h1 σ F1 H1 o1 (ho.step st1) _ fun u F2 H2 t o2 st2 hu h2 => ?_
  refine h2 F2 H2 v u o2 (hv.step st2) hu _ fun w F3 H3 z o3 st3 hw ⟨c, e, p⟩ => ?_
  subst e
  refine ⟨c, vok_bool hw, ?_⟩
  have st13 := (st1.trans o1 st2).trans o2 st3
  cases c with
  | true =>
    refine p σ F3 H3 o3 (ho.step st13) _ fun y F4 H4 s4 o4 st4 hy h4 => ?_
    exact h4 F4 H4 u y o4 ((hu.step st3).step st4) hy Q fun w5 F5 H5 s5 o5 st5 h5 p5 => q w5 F5 H5 s5 o5 ((st13.trans o3 st4).trans o4 st5) h5 p5
  | false => exact q (.bl false) F3 H3 (.dat (.bool false)) o3 st13 (.bl false) p
/-- displays -/
def allDat : List Sl → Option (List D)
  | [] => some []
  | .dat d :: ss => (allDat ss).map (d :: ·)
  | _ :: _ => none
theorem dpa_of {F H : Hp} : ∀ {vs : List V} {ss : List Sl} {ds : List D}, Paired (VOk K W F H) vs ss → allDat ss = some ds → DpAll K F vs ds
  | _, _, ds, .nil, e => by cases e; exact .nil
  | _, _, ds, .cons (b := s) h t, e => by
    cases s with
    | dat d =>
      unfold allDat at e
      rename_i vs v ss
      cases e2 : allDat ss with
      | none => rw [e2] at e; cases e
      | some es =>
        rw [e2] at e
        cases e
        exact .cons h (dpa_of t e2)
    | un => cases e
    | ls _ => cases e
    | rf _ => cases e
theorem allDat_len : ∀ {ss : List Sl} {ds : List D}, allDat ss = some ds → ss.length = ds.length
  | [], ds, e => by cases e; rfl
  | s :: ss, ds, e => by
    cases s with
    | dat d =>
      unfold allDat at e
      cases e2 : allDat ss with
      | none => rw [e2] at e; cases e
      | some es =>
        rw [e2] at e
        cases e
        rw [List.length_cons, List.length_cons, allDat_len e2]
    | un => cases e
    | ls _ => cases e
    | rf _ => cases e
theorem ev_tup {t : TA} (h : EvA K W H0 t ρ fun ss => ∃ ds, allDat ss = some ds ∧ ds.length ≤ sizeLine ∧ P (.dat (.tuple ds))) : Ev K W H0 (tTup t) ρ P := fun σ F H o ho Q q =>
  h σ F H o ho _ fun vs F1 H1 ss o1 st1 hv ⟨ds, e, hl, p⟩ => by
    have hd := dpa_of hv e
    refine ⟨by rw [dpa_len hd]; exact hl, fun a ha => ?_⟩
    obtain ⟨o2, st2⟩ := o1.new (u := .tup vs) ha
    exact q (.ref a) _ _ (.dat (.tuple ds)) o2 (st1.trans o1 st2) (.tup upd_same (dpa_mono st2.fz hd)) p
theorem evn_lst {t : TA} {PN : List D → Prop} (h : EvA K W H0 t ρ fun ss => ∃ ds, allDat ss = some ds ∧ ds.length ≤ sizeLine ∧ PN ds) : EvN K W H0 (tLst t) ρ PN := fun σ F H o ho Q q =>
  h σ F H o ho _ fun vs F1 H1 ss o1 st1 hv ⟨ds, e, hl, p⟩ => by
    have hd := dpa_of hv e
    refine ⟨by rw [dpa_len hd]; exact hl, fun a ha => ?_⟩
    obtain ⟨o2, st2⟩ := o1.own (u := .lst vs) ha
    have hH : H a = none := by
      cases z : H a with
      | none => rfl
      | some u => exact absurd ha (st1.there o1 (by rw [z]; exact fun y => nomatch y))
    exact q a vs _ _ ds o2 (st1.trans o1 st2) hH upd_same (o1.free ha) (o1.nz ha) hd p

/-! ### statements -/
variable {N : Ends2} {t u : TS}
theorem Step.back {F H F' H' : Hp} (st : Step W F H F' H') (o : Ok W F' H') {a : Addr} (h : H' a = none) : H a = none := by
  cases z : H a with
  | none => rfl
  | some u => exact absurd h (st.there o (by rw [z]; exact fun y => nomatch y))
theorem At.step {σ : St} {F H F' H' : Hp} (a : At K W H0 F0 σ F H ρ) (o : Ok W F' H') (st : Step W F H F' H') : At K W H0 F0 σ F' H' ρ := ⟨o, a.st.trans a.ok st, a.ho.step st⟩
theorem sx_seq (h : Sx K W H0 F0 t ρ { N with nx := fun ρ' => Sx K W H0 F0 u ρ' N }) : Sx K W H0 F0 (tSeq t u) ρ N := fun σ F H a D n r b c =>
  h σ F H a { D with nx := u D } (fun σ' F' H' ρ' a' sm k => k σ' F' H' a' D (fun σ2 F2 H2 ρ2 a2 sm2 => n σ2 F2 H2 ρ2 a2 (sm.trans sm2)) r (fun σ2 F2 H2 ρ2 a2 sm2 => b σ2 F2 H2 ρ2 a2 (sm.trans sm2)) (fun σ2 F2 H2 ρ2 a2 sm2 => c σ2 F2 H2 ρ2 a2 (sm.trans sm2))) r b c
theorem sx_next (h : N.nx ρ) : Sx K W H0 F0 tNext ρ N := fun σ F H a D n r b c => n σ F H ρ a (Same.refl _) h
theorem sx_ret (h : Ev K W H0 te ρ N.rt) : Sx K W H0 F0 (tRet te) ρ N := fun σ F H a D n r b c =>
  h σ F H a.ok a.ho _ fun v F' H' s o' st hv p => r v F' H' s o' (a.st.trans a.ok st) hv p
theorem sx_retN (h : N.rt (.dat .none)) : Sx K W H0 F0 tRetN ρ N := fun σ F H a D n r b c => r .non F H (.dat .none) a.ok a.st .non h
theorem sx_if (h : EvT K W H0 tt ρ fun c => if c = true then Sx K W H0 F0 t ρ N else Sx K W H0 F0 u ρ N) : Sx K W H0 F0 (tIfS tt t u) ρ N := fun σ F H a D n r b c =>
  h σ F H a.ok a.ho _ fun k F' H' o' st p => by
    cases k with
    | true => exact p σ F' H' (a.step o' st) D (fun σ2 F2 H2 ρ2 a2 sm2 => n σ2 F2 H2 ρ2 a2 (st.fz.trans sm2)) r (fun σ2 F2 H2 ρ2 a2 sm2 => b σ2 F2 H2 ρ2 a2 (st.fz.trans sm2)) (fun σ2 F2 H2 ρ2 a2 sm2 => c σ2 F2 H2 ρ2 a2 (st.fz.trans sm2))
    | false => exact p σ F' H' (a.step o' st) D (fun σ2 F2 H2 ρ2 a2 sm2 => n σ2 F2 H2 ρ2 a2 (st.fz.trans sm2)) r (fun σ2 F2 H2 ρ2 a2 sm2 => b σ2 F2 H2 ρ2 a2 (st.fz.trans sm2)) (fun σ2 F2 H2 ρ2 a2 sm2 => c σ2 F2 H2 ρ2 a2 (st.fz.trans sm2))
theorem sx_drop (h : Ev K W H0 te ρ fun _ => N.nx ρ) : Sx K W H0 F0 (tDrop te) ρ N := fun σ F H a D n r b c =>
  h σ F H a.ok a.ho _ fun v F' H' s o' st hv p => n σ F' H' ρ (a.step o' st) st.fz p
theorem sx_brk (h : N.bk ρ) : Sx K W H0 F0 tBreak ρ N := fun σ F H a D n r b c => b σ F H ρ a (Same.refl _) h
theorem sx_cont (h : N.ct ρ) : Sx K W H0 F0 tCont ρ N := fun σ F H a D n r b c => c σ F H ρ a (Same.refl _) h
/-- targets -/
def GS (K : PySem.W.Frag) (W : Wd) (H0 F0 : Hp) (g : TG) (s : Sl) (ρ : Rho) (k : Rho → Prop) : Prop := ∀ v σ F H, At K W H0 F0 σ F H ρ → VOk K W F H v s → ∀ Q : St → Hp → Prop,
  (∀ σ' ρ', At K W H0 F0 σ' F H ρ' → k ρ' → Q σ' H) → g v σ H Q
def GSs (K : PySem.W.Frag) (W : Wd) (H0 F0 : Hp) (g : TGs) (ss : List D) (ρ : Rho) (k : Rho → Prop) : Prop := ∀ vs σ F H, At K W H0 F0 σ F H ρ → DpAll K F vs ss → ∀ Q : St → Hp → Prop,
  (∀ σ' ρ', At K W H0 F0 σ' F H ρ' → k ρ' → Q σ' H) → g vs σ H Q
theorem gs_name {i : Nat} {s : Sl} {k : Rho → Prop} (hn : NoLs s) (h : k (ρ.set i s)) : GS K W H0 F0 (gName i) s ρ k := fun v σ F H a hv Q q =>
  q (σ.set i (some v)) (ρ.set i s) ⟨a.ok, a.st, a.ho.set hv hn⟩ h
theorem gss_nil {k : Rho → Prop} (h : k ρ) : GSs K W H0 F0 gNil [] ρ k := fun vs σ F H a hv Q q => by
  cases hv
  exact ⟨rfl, q σ ρ a h⟩
theorem gss_cons {g : TG} {gs : TGs} {d : D} {ds : List D} {k : Rho → Prop} (h : GS K W H0 F0 g (.dat d) ρ fun ρ' => GSs K W H0 F0 gs ds ρ' k) : GSs K W H0 F0 (gCons g gs) (d :: ds) ρ k := fun vs σ F H a hv Q q => by
  cases hv with
  | cons h1 h2 => exact ⟨_, _, rfl, h _ σ F H a h1 _ fun σ' ρ' a' p => p _ σ' F H a' h2 Q q⟩
theorem gs_tup {n : Nat} {gs : TGs} {ds : List D} {k : Rho → Prop} (hl : ds.length = n) (h : GSs K W H0 F0 gs ds ρ k) : GS K W H0 F0 (gTup K n gs) (.dat (.tuple ds)) ρ k := fun v σ F H a hv Q q => by
  obtain ⟨p, xs, rfl, h1, h2⟩ := dp_tup hv
  exact ⟨p, xs, rfl, SqT.of (a.ok.sub _ _ h1), by rw [dpa_len h2]; exact hl, h xs σ F H a h2 Q q⟩
theorem sx_asgG {g : TG} (h : Ev K W H0 te ρ fun s => GS K W H0 F0 g s ρ N.nx) : Sx K W H0 F0 (tAsg te g) ρ N := fun σ F H a D n r b c =>
  h σ F H a.ok a.ho _ fun v F' H' s o' st hv p => p v σ F' H' (a.step o' st) hv _ fun σ' ρ' a' k => n σ' F' H' ρ' a' st.fz k
theorem sx_asg {i : Nat} (h : Ev K W H0 te ρ fun s => NoLs s ∧ N.nx (ρ.set i s)) : Sx K W H0 F0 (tAsg te (gName i)) ρ N := sx_asgG (h.mono fun s ⟨a, b⟩ => gs_name a b)
/-- x = a new list, to be changed -/
theorem sx_asgN {i : Nat} (h : EvN K W H0 te ρ fun ds => N.nx (ρ.set i (.ls ds))) : Sx K W H0 F0 (tAsg te (gName i)) ρ N := fun σ F H a D n r b c =>
  h σ F H a.ok a.ho _ fun p vs F' H' ds o' st hn hp hf hz hd k => by
    have a' := a.step o' st
    have h0 : H0 p = none := a.st.back a.ok hn
    refine n _ F' H' _ ⟨o', a'.st, a'.ho.setOwn hp hf hz h0 hd fun j es e z => ?_⟩ st.fz k
    obtain ⟨p', ws, g1, g2, _⟩ := a.ho.at_ j _ e
    rw [z] at g1
    have ep : p = p' := by simpa using g1
    rw [ep, g2] at hn
    cases hn
/-- xs.append(e), xs one's own -/
theorem sx_app {i : Nat} {ds : List D} (hi : ρ[i]? = some (.ls ds)) (hz : ds.length < sizeLine) (h : Ev K W H0 te ρ fun s => ∃ d, s = .dat d ∧ N.nx (ρ.set i (.ls (ds ++ [d])))) :
    Sx K W H0 F0 (tDrop (tBM K "list" rAppend (tVar i) (tCons te tNil))) ρ N := fun σ F H a D n r b c => by
  obtain ⟨p, vs, g1, g2, g3, g4, g5, g6⟩ := a.ho.at_ i _ hi
  refine ⟨.ref p, g1, .inl ⟨rfl, _, SqL.of g2⟩, ?_⟩
  refine h σ F H a.ok a.ho _ fun v F' H' s o' st hv ⟨d, e, k⟩ => ?_
  subst e
  have g2' := st.kp p _ g4 g2
  have g3' := st.nw p g3 (by rw [g2]; exact fun z => nomatch z)
  refine ⟨p, vs, v, rfl, rfl, g2', by rw [dpa_len g6]; exact hz, ?_⟩
  have a' := a.step o' st
  have o2 : Ok W F' (upd H' p (.lst (vs ++ [v]))) := o'.mut g2' g4 g3'
  refine n σ F' _ _ ⟨o2, ⟨a'.st.fz, fun b' u hz' e' => ?_, fun b' hf hh => ?_⟩, a'.ho.mut hi g1 (dpa_app (dpa_mono st.fz g6) (.cons hv .nil))⟩ st.fz k
  · have q : b' ≠ p := fun z => by rw [z, g5] at e'; cases e'
    rw [upd_ne q]
    exact a'.st.kp b' u hz' e'
  · exact a'.st.nw b' hf hh
/-- an own list is changed no more -/
theorem sx_frz {i : Nat} {ds : List D} (hi : ρ[i]? = some (.ls ds)) (h : Sx K W H0 F0 t (ρ.set i (.dat (.list ds))) N) : Sx K W H0 F0 t ρ N := fun σ F H a D n r b c => by
  obtain ⟨p, vs, g1, g2, g3, g4, g5, g6⟩ := a.ho.at_ i _ hi
  have o2 := a.ok.freeze g2 g4 g3
  have s2 : Same F (upd F p (.lst vs)) := sm_new g3
  have st2 : Step W F0 H0 (upd F p (.lst vs)) H := ⟨a.st.fz.trans s2, a.st.kp, fun b' hf hh => by
    have q : b' ≠ p := fun z => hh (z ▸ g5)
    rw [upd_ne q]
    exact a.st.nw b' hf hh⟩
  refine h σ _ H ⟨o2, st2, ?_⟩ D (fun σ2 F2 H2 ρ2 a2 sm2 => n σ2 F2 H2 ρ2 a2 (s2.trans sm2)) r (fun σ2 F2 H2 ρ2 a2 sm2 => b σ2 F2 H2 ρ2 a2 (s2.trans sm2)) (fun σ2 F2 H2 ρ2 a2 sm2 => c σ2 F2 H2 ρ2 a2 (s2.trans sm2))
  have hlt : i < ρ.length := (List.getElem?_eq_some_iff.mp hi).1
  refine ⟨by rw [List.length_set, a.ho.len], fun j s e => ?_, fun j k es gs q hjk e1 e2 e3 => ?_⟩
  · by_cases q : j = i
    · subst q
      rw [List.getElem?_set_self hlt] at e
      have e' : Sl.dat (.list ds) = s := by simpa using e
      subst e'
      exact ⟨.ref p, g1, .lst upd_same (dpa_mono s2 g6)⟩
    · rw [List.getElem?_set_ne (Ne.symm q)] at e
      have g := a.ho.at_ j s e
      cases s with
      | un => trivial
      | dat d =>
        obtain ⟨v, k1, k2⟩ := g
        exact ⟨v, k1, dp_mono s2 k2⟩
      | ls cs =>
        obtain ⟨r', xs, k1, k2, k3, k4, k5, k6⟩ := g
        have hne : r' ≠ p := fun z => a.ho.dis i j _ _ p (Ne.symm q) hi e g1 (z ▸ k1)
        exact ⟨r', xs, k1, k2, by rw [upd_ne hne]; exact k3, k4, k5, dpa_mono s2 k6⟩
      | rf v => exact g
  · have qj : j ≠ i := fun z => by
      rw [z, List.getElem?_set_self hlt] at e1
      cases e1
    have qk : k ≠ i := fun z => by
      rw [z, List.getElem?_set_self hlt] at e2
      cases e2
    rw [List.getElem?_set_ne (Ne.symm qj)] at e1
    rw [List.getElem?_set_ne (Ne.symm qk)] at e2
    exact a.ho.dis j k es gs q hjk e1 e2 e3
theorem Sx.mono {N' : Ends2} (h : Sx K W H0 F0 t ρ N) (hn : ∀ ρ', N.nx ρ' → N'.nx ρ') (hr : ∀ s, N.rt s → N'.rt s) (hb : ∀ ρ', N.bk ρ' → N'.bk ρ') (hc : ∀ ρ', N.ct ρ' → N'.ct ρ') : Sx K W H0 F0 t ρ N' := fun σ F H a D n r b c =>
  h σ F H a D (fun σ' F' H' ρ' a' sm k => n σ' F' H' ρ' a' sm (hn _ k)) (fun v F' H' s o st hv k => r v F' H' s o st hv (hr _ k)) (fun σ' F' H' ρ' a' sm k => b σ' F' H' ρ' a' sm (hb _ k)) (fun σ' F' H' ρ' a' sm k => c σ' F' H' ρ' a' sm (hc _ k))

/-! ### what is walked -/
/-- the items of a walk, by data -/
structure Items (K : PySem.W.Frag) (W : Wd) (J : It) (F H : Hp) (ds : List D) : Prop where
  w : ∃ (G : Hp → Prop) (Y : Nat → Hp → V → Hp → Prop), Walk J ds.length G Y ∧ (∀ F' H', Ok W F' H' → Same F F' → G H') ∧
    (∀ i x F' H' H'', i < ds.length → Ok W F' H' → Same F F' → Y i H' x H'' → ∃ F'' d, Ok W F'' H'' ∧ Step W F' H' F'' H'' ∧ ds[i]? = some d ∧ Dp K F'' x d)
def EvI (K : PySem.W.Frag) (W : Wd) (H0 : Hp) (wi : TI) (ρ : Rho) (P : List D → Prop) : Prop := ∀ σ F H, Ok W F H → Holds K W H0 σ F H ρ → ∀ R : It → Hp → Prop,
  (∀ J F' H' ds, Ok W F' H' → Step W F H F' H' → Items K W J F' H' ds → P ds → R J H') → wi σ H R
theorem get_len {α : Type} {l : List α} {i : Nat} (h : i < l.length) : l[i]? = some l[i] := List.getElem?_eq_getElem h
theorem evi_list {tl : TE} {PN : List D → Prop} (h : Ev K W H0 tl ρ fun s => ∃ ds, s = .dat (.list ds) ∧ PN ds) : EvI K W H0 (iList K tl) ρ PN := fun σ F H o ho R q =>
  h σ F H o ho _ fun v F' H' s o' st hv ⟨ds, e, p⟩ => by
    subst e
    obtain ⟨a, xs, rfl, h1, h2⟩ := dp_lst hv
    refine ⟨a, rfl, ⟨xs, SqL.of (o'.sub _ _ h1)⟩, q _ F' H' ds o' st ⟨_, _, (dpa_len h2) ▸ walk_list (K := K) (a := a) (xs := xs), fun F2 H2 o2 st2 => SqL.of ((st2.trans o2.sub) _ _ h1), fun i x F2 H2 H3 hi o2 st2 y => ?_⟩ p⟩
    obtain ⟨rfl, hx⟩ := y
    obtain ⟨d, e1, e2⟩ := dpa_get h2 hx
    exact ⟨F2, d, o2, Step.refl o2, e1, dp_mono st2 e2⟩
theorem evi_tup {tl : TE} {PN : List D → Prop} (h : Ev K W H0 tl ρ fun s => ∃ ds, s = .dat (.tuple ds) ∧ PN ds) : EvI K W H0 (iTup K tl) ρ PN := fun σ F H o ho R q =>
  h σ F H o ho _ fun v F' H' s o' st hv ⟨ds, e, p⟩ => by
    subst e
    obtain ⟨a, xs, rfl, h1, h2⟩ := dp_tup hv
    refine ⟨a, rfl, ⟨xs, SqT.of (o'.sub _ _ h1)⟩, q _ F' H' ds o' st ⟨_, _, (dpa_len h2) ▸ walk_tup (K := K) (a := a) (xs := xs), fun F2 H2 o2 st2 => SqT.of ((st2.trans o2.sub) _ _ h1), fun i x F2 H2 H3 hi o2 st2 y => ?_⟩ p⟩
    obtain ⟨rfl, hx⟩ := y
    obtain ⟨d, e1, e2⟩ := dpa_get h2 hx
    exact ⟨F2, d, o2, Step.refl o2, e1, dp_mono st2 e2⟩
def rngD (lo : Int) (n : Nat) : List D := (List.range n).map fun i => .int (lo + (i : Nat))
theorem rngD_len (lo : Int) (n : Nat) : (rngD lo n).length = n := by simp [rngD]
theorem rngD_get {lo : Int} {n i : Nat} (h : i < n) : (rngD lo n)[i]? = some (.int (lo + (i : Nat))) := by simp [rngD, h]
def strD (z : Str) : List D := z.cps.toList.map fun c => .str ⟨#[c]⟩
theorem evi_str {te : TE} {PN : List D → Prop} (h : Ev K W H0 te ρ fun s => ∃ z, s = .dat (.str z) ∧ PN (strD z)) : EvI K W H0 (iStr te) ρ PN := fun σ F H o ho R q =>
  h σ F H o ho _ fun v F' H' s o' st hv ⟨z, e, p⟩ => by
    subst e
    have hl : (strD z).length = z.cps.size := by simp [strD]
    refine ⟨z, vok_str hv, q _ F' H' (strD z) o' st ⟨_, _, hl.symm ▸ walk_str (z := z), fun _ _ _ _ => trivial, fun i x F2 H2 H3 hi o2 st2 y => ?_⟩ p⟩
    obtain ⟨rfl, c, hc, rfl⟩ := y
    refine ⟨F2, .str ⟨#[c]⟩, o2, Step.refl o2, ?_, .str _⟩
    rw [hl] at hi
    simp [strD]
    rw [Array.getElem?_eq_getElem hi] at hc
    simpa [hi] using hc
theorem evi_rng1 {ta : TA} {PN : List D → Prop} (h : EvA K W H0 ta ρ fun ss => ∃ n : Int, ss = [.dat (.int n)] ∧ -(2 ^ 62) ≤ n ∧ n < 2 ^ 62 ∧ PN (rngD 0 n.toNat)) : EvI K W H0 (iRng1 ta) ρ PN := fun σ F H o ho R q =>
  h σ F H o ho _ fun vs F' H' ss o' st hv ⟨n, e, b1, b2, p⟩ => by
    subst e
    cases hv with
    | cons h1 h2 =>
      cases h2
      rw [vok_int h1]
      refine ⟨n, rfl, b1, b2, q _ F' H' (rngD 0 n.toNat) o' st ⟨_, _, (by rw [rngD_len]; exact walk_range (lo := 0)), fun _ _ _ _ => trivial, fun i x F2 H2 H3 hi o2 st2 y => ?_⟩ p⟩
      rw [rngD_len] at hi
      obtain ⟨rfl, rfl⟩ := y
      exact ⟨F2, _, o2, Step.refl o2, rngD_get hi, .int _⟩
theorem evi_rng2 {ta : TA} {PN : List D → Prop} (h : EvA K W H0 ta ρ fun ss => ∃ m n : Int, ss = [.dat (.int m), .dat (.int n)] ∧ (-(2 ^ 62) ≤ m ∧ m < 2 ^ 62 ∧ -(2 ^ 62) ≤ n ∧ n < 2 ^ 62) ∧ PN (rngD m (n - m).toNat)) : EvI K W H0 (iRng2 ta) ρ PN := fun σ F H o ho R q =>
  h σ F H o ho _ fun vs F' H' ss o' st hv ⟨m, n, e, b, p⟩ => by
    subst e
    cases hv with
    | cons h1 h2 =>
      cases h2 with
      | cons h3 h4 =>
        cases h4
        rw [vok_int h1, vok_int h3]
        refine ⟨m, n, rfl, b, q _ F' H' (rngD m (n - m).toNat) o' st ⟨_, _, (by rw [rngD_len]; exact walk_range (lo := m)), fun _ _ _ _ => trivial, fun i x F2 H2 H3 hi o2 st2 y => ?_⟩ p⟩
        rw [rngD_len] at hi
        obtain ⟨rfl, rfl⟩ := y
        exact ⟨F2, _, o2, Step.refl o2, rngD_get hi, .int _⟩
def zipD (xs ys : List D) : List D := (xs.zip ys).map fun p => .tuple [p.1, p.2]
theorem zipD_len (xs ys : List D) : (zipD xs ys).length = min xs.length ys.length := by simp [zipD]
theorem zipD_get {xs ys : List D} {i : Nat} {x y : D} (hx : xs[i]? = some x) (hy : ys[i]? = some y) : (zipD xs ys)[i]? = some (.tuple [x, y]) := by
  unfold zipD
  have q : (xs.zip ys)[i]? = some (x, y) := List.getElem?_zip_eq_some.mpr ⟨hx, hy⟩
  rw [List.getElem?_map, q]
  rfl
theorem walk_zipT {a b : Addr} {xs ys : List V} {n : Nat} (hn : n = min xs.length ys.length) : Walk (ItzT K a b) n (fun H => SqT K H a xs ∧ SqT K H b ys) (YPair (fun i => xs[i]?) (fun i => ys[i]?)) := by
  subst hn
  refine ⟨fun i _ hi q => ?_, fun _ q => ⟨xs, ys, q.1, q.2, by omega⟩, fun i H v H' _ q y => ?_⟩
  · have h1 : i < xs.length := by omega
    have h2 : i < ys.length := by omega
    exact ⟨xs, ys, xs[i], ys[i], q.1, q.2, by simp [h1], by simp [h2]⟩
  · obtain ⟨T, x, z, h1, h2, h3, h4, h5⟩ := y
    exact ⟨T, x, z, h1, h2, h3, h4 xs q.1, h5 ys q.2⟩
theorem pair_yield {xs ys : List V} {ds es : List D} {F2 F H2 H3 : Hp} {x : V} {i : Nat} (hx : DpAll K F xs ds) (hy : DpAll K F ys es) (s : Same F F2) (o2 : Ok W F2 H2) (y : YPair (fun i => xs[i]?) (fun i => ys[i]?) i H2 x H3) :
    ∃ F'' d, Ok W F'' H3 ∧ Step W F2 H2 F'' H3 ∧ (zipD ds es)[i]? = some d ∧ Dp K F'' x d := by
  obtain ⟨T, u, w, rfl, hT, rfl, hu, hw⟩ := y
  obtain ⟨d, e1, e2⟩ := dpa_get hx hu
  obtain ⟨e, e3, e4⟩ := dpa_get hy hw
  obtain ⟨o3, st3⟩ := o2.new (u := .tup [u, w]) hT
  exact ⟨_, .tuple [d, e], o3, st3, zipD_get e1 e3, .tup upd_same (.cons (dp_mono (s.trans st3.fz) e2) (.cons (dp_mono (s.trans st3.fz) e4) .nil))⟩
theorem evi_zip {ta : TA} {PN : List D → Prop} (h : EvA K W H0 ta ρ fun ss => ∃ ds es, (ss = [.dat (.list ds), .dat (.list es)] ∨ ss = [.dat (.tuple ds), .dat (.tuple es)]) ∧ PN (zipD ds es)) : EvI K W H0 (iZipA K ta) ρ PN := fun σ F H o ho R q =>
  h σ F H o ho _ fun vs F' H' ss o' st hv ⟨ds, es, e, p⟩ => by
    rcases e with e | e
    · subst e
      cases hv with
      | cons h1 h2 =>
        cases h2 with
        | cons h3 h4 =>
          cases h4
          obtain ⟨a, xs, rfl, a1, a2⟩ := dp_lst h1
          obtain ⟨b, ys, rfl, b1, b2⟩ := dp_lst h3
          refine ⟨a, b, xs, ys, rfl, .inl ⟨SqL.of (o'.sub _ _ a1), SqL.of (o'.sub _ _ b1), q _ F' H' _ o' st ⟨_, _, walk_zip (K := K) (a := a) (b := b) (xs := xs) (ys := ys) (by rw [zipD_len, dpa_len a2, dpa_len b2]), fun F2 H2 o2 st2 => ⟨SqL.of ((st2.trans o2.sub) _ _ a1), SqL.of ((st2.trans o2.sub) _ _ b1)⟩, fun i x F2 H2 H3 hi o2 st2 y => pair_yield a2 b2 st2 o2 y⟩ p⟩⟩
    · subst e
      cases hv with
      | cons h1 h2 =>
        cases h2 with
        | cons h3 h4 =>
          cases h4
          obtain ⟨a, xs, rfl, a1, a2⟩ := dp_tup h1
          obtain ⟨b, ys, rfl, b1, b2⟩ := dp_tup h3
          refine ⟨a, b, xs, ys, rfl, .inr ⟨SqT.of (o'.sub _ _ a1), SqT.of (o'.sub _ _ b1), q _ F' H' _ o' st ⟨_, _, walk_zipT (K := K) (a := a) (b := b) (xs := xs) (ys := ys) (by rw [zipD_len, dpa_len a2, dpa_len b2]), fun F2 H2 o2 st2 => ⟨SqT.of ((st2.trans o2.sub) _ _ a1), SqT.of ((st2.trans o2.sub) _ _ b1)⟩, fun i x F2 H2 H3 hi o2 st2 y => pair_yield a2 b2 st2 o2 y⟩ p⟩⟩

/-! ### for -/
theorem sx_for {wi : TI} {g : TG} {tb : TS} (J : List D → Nat → Rho → Prop)
    (h : EvI K W H0 wi ρ fun ds => J ds 0 ρ ∧ (∀ i d ρ', ds[i]? = some d → J ds i ρ' → GS K W H0 F0 g (.dat d) ρ' fun ρ2 => Sx K W H0 F0 tb ρ2 { nx := J ds (i + 1), ct := J ds (i + 1), bk := N.nx, rt := N.rt }) ∧ ∀ ρ', J ds ds.length ρ' → N.nx ρ') :
    Sx K W H0 F0 (tFor wi g tb) ρ N := fun σ F H a D n r b c =>
  h σ F H a.ok a.ho _ fun Jt F' H' ds o' st it ⟨j0, js, jd⟩ => by
    obtain ⟨G, Y, w, hG, hY⟩ := it.w
    have a' := a.step o' st
    refine for_it w (fun i σ2 H2 => ∃ F2 ρ2, At K W H0 F0 σ2 F2 H2 ρ2 ∧ Same F' F2 ∧ J ds i ρ2) ⟨F', ρ, a', Same.refl _, j0⟩ (fun i σ2 H2 _ ⟨F2, ρ2, a2, sm, _⟩ => hG F2 H2 a2.ok sm) ?_ (fun σ2 H2 ⟨F2, ρ2, a2, sm, j⟩ => n σ2 F2 H2 ρ2 a2 (st.fz.trans sm) (jd ρ2 j))
    rintro i x σ2 H2 H3 hi ⟨F2, ρ2, a2, sm, j⟩ y
    obtain ⟨F3, d, o3, st3, e1, e2⟩ := hY i x F2 H2 H3 hi a2.ok sm y
    have a3 := a2.step o3 st3
    refine js i d ρ2 e1 j x σ2 F3 H3 a3 e2 _ fun σ3 ρ3 a4 k => ?_
    have sm3 : Same F' F3 := sm.trans st3.fz
    exact k σ3 F3 H3 a4 _ (fun σ4 F4 H4 ρ4 a5 s5 j5 => ⟨F4, ρ4, a5, sm3.trans s5, j5⟩) r (fun σ4 F4 H4 ρ4 a5 s5 j5 => n σ4 F4 H4 ρ4 a5 (st.fz.trans (sm3.trans s5)) j5) (fun σ4 F4 H4 ρ4 a5 s5 j5 => ⟨F4, ρ4, a5, sm3.trans s5, j5⟩)
end
end DL

namespace DL
open PySem L2 RZ
section
variable {K : PySem.W.Frag} {W : Wd} {H0 F0 : Hp} {ρ : Rho} {te ta tb tc : TE} {tt tu : TT} {P P' : Sl → Prop} {PN : List D → Prop}
/-! ### comprehensions -/
def wipeR (ρ : Rho) : List Nat → Rho
  | [] => ρ
  | v :: vs => (wipeR ρ vs).set v .un
theorem Holds.un {σ : St} {F H : Hp} {i : Nat} (h : Holds K W H0 σ F H ρ) : Holds K W H0 (σ.set i none) F H (ρ.set i .un) := by
  have nls : ∀ (j : Nat) (ds : List D), (ρ.set i .un)[j]? = some (.ls ds) → j ≠ i ∧ ρ[j]? = some (.ls ds) := fun j ds e => by
    by_cases q : j = i
    · subst q
      have hj : j < ρ.length := by
        have := (List.getElem?_eq_some_iff.mp e).1
        rwa [List.length_set] at this
      rw [List.getElem?_set_self hj] at e
      cases e
    · rw [List.getElem?_set_ne (Ne.symm q)] at e
      exact ⟨q, e⟩
  refine ⟨by rw [List.length_set, List.length_set, h.len], fun j u e => ?_, fun j k ds es p hjk e1 e2 e3 => ?_⟩
  · by_cases q : j = i
    · subst q
      have hj : j < ρ.length := by
        have := (List.getElem?_eq_some_iff.mp e).1
        rwa [List.length_set] at this
      rw [List.getElem?_set_self hj] at e
      cases e
      trivial
    · rw [List.getElem?_set_ne (Ne.symm q)] at e
      have g := h.at_ j u e
      have hs : (σ.set i none)[j]? = σ[j]? := List.getElem?_set_ne (Ne.symm q)
      cases u with
      | un => trivial
      | dat d => obtain ⟨w, g1, g2⟩ := g; exact ⟨w, hs.trans g1, g2⟩
      | ls ds => obtain ⟨p, vs, g1, g2⟩ := g; exact ⟨p, vs, hs.trans g1, g2⟩
      | rf u => exact hs.trans g
  · obtain ⟨a1, a2⟩ := nls j ds e1
    obtain ⟨b1, b2⟩ := nls k es e2
    rw [List.getElem?_set_ne (Ne.symm a1)] at e3
    rw [List.getElem?_set_ne (Ne.symm b1)]
    exact h.dis j k ds es p hjk a2 b2 e3
theorem Holds.wipe {σ : St} {F H : Hp} (h : Holds K W H0 σ F H ρ) : ∀ vs : List Nat, Holds K W H0 (wipe σ vs) F H (wipeR ρ vs)
  | [] => h
  | _ :: vs => (Holds.wipe h vs).un
theorem wipe_set {σ : St} {i : Nat} {x : Option V} : ∀ {vs : List Nat}, i ∈ vs → wipe (σ.set i x) vs = wipe σ vs
  | v :: vs, h => by
    by_cases q : i = v
    · subst q
      by_cases m : i ∈ vs
      · show (wipe (σ.set i x) vs).set i none = (wipe σ vs).set i none
        rw [wipe_set m]
      · have go : ∀ (us : List Nat), i ∉ us → wipe (σ.set i x) us = (wipe σ us).set i x := by
          intro us
          induction us with
          | nil => intro _; rfl
          | cons u us ih =>
            intro hm
            have h1 : i ≠ u := fun z => hm (z ▸ List.mem_cons_self)
            have h2 : i ∉ us := fun z => hm (List.mem_cons_of_mem _ z)
            show (wipe (σ.set i x) us).set u none = ((wipe σ us).set u none).set i x
            rw [ih h2, List.set_comm _ _ h1]
        show (wipe (σ.set i x) vs).set i none = (wipe σ vs).set i none
        rw [go vs m, List.set_set]
    · have m : i ∈ vs := by
        rcases List.mem_cons.mp h with e | e
        · exact absurd e q
        · exact e
      show (wipe (σ.set i x) vs).set v none = (wipe σ vs).set v none
      rw [wipe_set m]
theorem wipe_idem {σ : St} : ∀ {vs us : List Nat}, (∀ i ∈ us, i ∈ vs) → wipe (wipe σ us) vs = wipe σ vs
  | vs, [], _ => rfl
  | vs, u :: us, h => by
    show wipe ((wipe σ us).set u none) vs = wipe σ vs
    rw [wipe_set (h u List.mem_cons_self)]
    exact wipe_idem fun i hi => h i (List.mem_cons_of_mem _ hi)
/-- a comprehension's target -/
def GC (K : PySem.W.Frag) (W : Wd) (H0 : Hp) (vs : List Nat) (g : TG) (s : Sl) (ρ : Rho) (k : Rho → Prop) : Prop := ∀ v σ F H, Ok W F H → Holds K W H0 σ F H ρ → VOk K W F H v s → ∀ Q : St → Hp → Prop,
  (∀ σ' ρ', Holds K W H0 σ' F H ρ' → wipe σ' vs = wipe σ vs → k ρ' → Q σ' H) → g v σ H Q
def GCs (K : PySem.W.Frag) (W : Wd) (H0 : Hp) (vs : List Nat) (g : TGs) (ss : List D) (ρ : Rho) (k : Rho → Prop) : Prop := ∀ ws σ F H, Ok W F H → Holds K W H0 σ F H ρ → DpAll K F ws ss → ∀ Q : St → Hp → Prop,
  (∀ σ' ρ', Holds K W H0 σ' F H ρ' → wipe σ' vs = wipe σ vs → k ρ' → Q σ' H) → g ws σ H Q
theorem gc_name {vs : List Nat} {i : Nat} {s : Sl} {k : Rho → Prop} (hi : i ∈ vs) (hn : NoLs s) (h : k (ρ.set i s)) : GC K W H0 vs (gName i) s ρ k := fun v σ F H o ho hv Q q =>
  q (σ.set i (some v)) (ρ.set i s) (ho.set hv hn) (wipe_set hi) h
theorem gcs_nil {vs : List Nat} {k : Rho → Prop} (h : k ρ) : GCs K W H0 vs gNil [] ρ k := fun ws σ F H o ho hv Q q => by
  cases hv
  exact ⟨rfl, q σ ρ ho rfl h⟩
theorem gcs_cons {vs : List Nat} {g : TG} {gs : TGs} {d : D} {ds : List D} {k : Rho → Prop} (h : GC K W H0 vs g (.dat d) ρ fun ρ' => GCs K W H0 vs gs ds ρ' k) : GCs K W H0 vs (gCons g gs) (d :: ds) ρ k := fun ws σ F H o ho hv Q q => by
  cases hv with
  | cons h1 h2 => exact ⟨_, _, rfl, h _ σ F H o ho h1 _ fun σ' ρ' ho' e p => p _ σ' F H o ho' h2 Q fun σ2 ρ2 ho2 e2 p2 => q σ2 ρ2 ho2 (e2.trans e) p2⟩
theorem gc_tup {vs : List Nat} {n : Nat} {gs : TGs} {ds : List D} {k : Rho → Prop} (hl : ds.length = n) (h : GCs K W H0 vs gs ds ρ k) : GC K W H0 vs (gTup K n gs) (.dat (.tuple ds)) ρ k := fun v σ F H o ho hv Q q => by
  obtain ⟨p, xs, rfl, h1, h2⟩ := dp_tup hv
  exact ⟨p, xs, rfl, SqT.of (o.sub _ _ h1), by rw [dpa_len h2]; exact hl, h xs σ F H o ho h2 Q q⟩
theorem evn_lc {wi : TI} {g : TG} {vs : List Nat} (J : List D → Nat → List D → Prop)
    (h : EvI K W H0 wi ρ fun ds => ds.length < sizeLine ∧ J ds 0 [] ∧ (∀ i d acc, ds[i]? = some d → J ds i acc → GC K W H0 vs g (.dat d) (wipeR ρ vs) fun ρ2 => EvT K W H0 tt ρ2 fun b =>
      if b = true then Ev K W H0 te ρ2 fun s => ∃ e, s = .dat e ∧ J ds (i + 1) (acc ++ [e]) else J ds (i + 1) acc) ∧ ∀ acc, J ds ds.length acc → PN acc) :
    EvN K W H0 (tLc wi g tt te vs) ρ PN := fun σ F H o ho Q q =>
  h σ F H o ho _ fun Jt F' H' ds o' st it ⟨hl, j0, js, jd⟩ => by
    obtain ⟨G, Y, w, hG, hY⟩ := it.w
    intro Da hD
    obtain ⟨oD, stD⟩ := o'.own (u := .lst []) hD
    have nz : ¬ W.Z Da := o'.nz hD
    have hw := (ho.step st).wipe vs
    have chg : ∀ {F2 H2 : Hp} {vs2 ws : List V}, Ok W F2 H2 → Step W F' H' F2 H2 → H2 Da = some (.lst vs2) → F2 Da = none → Ok W F2 (upd H2 Da (.lst ws)) ∧ Step W F' H' F2 (upd H2 Da (.lst ws)) := fun {F2 H2 vs2 ws} o2 st2 hA hF =>
      ⟨o2.mut hA nz hF, st2.fz, fun b u hz e => by
        have q : b ≠ Da := fun z => by rw [z, hD] at e; cases e
        rw [upd_ne q]
        exact st2.kp b u hz e, st2.nw⟩
    refine lc_it w (fun i H2 => ∃ F2 vs2 acc, Ok W F2 H2 ∧ Step W F' H' F2 H2 ∧ H2 Da = some (.lst vs2) ∧ F2 Da = none ∧ DpAll K F2 vs2 acc ∧ acc.length ≤ i ∧ J ds i acc) ?_ ?_ ?_ ?_
    · exact ⟨F', [], [], oD, stD, upd_same, o'.free hD, .nil, Nat.le_refl _, j0⟩
    · rintro i H2 _ ⟨F2, vs2, acc, o2, st2, _⟩
      exact hG F2 H2 o2 st2.fz
    · rintro i x H2 H3 hi ⟨F2, vs2, acc, o2, st2, hA, hF, hd, ha, j⟩ y
      obtain ⟨F3, d, o3, st3, e1, e2⟩ := hY i x F2 H2 H3 hi o2 st2.fz y
      have st3' := st2.trans o2 st3
      have hs := js i d acc e1 j
      refine hs x (wipe σ vs) F3 H3 o3 (hw.step st3') e2 _ fun σ4 ρ4 h4 ew k => ?_
      refine ⟨ew.trans (wipe_idem fun _ z => z), ?_⟩
      refine k σ4 F3 H3 o3 h4 _ fun b F5 H5 o5 st5 kb => ?_
      have hA5 := st5.kp _ _ nz (st3.kp _ _ nz hA)
      have hF5 := st5.nw Da (st3.nw Da hF (by rw [hA]; exact fun z => nomatch z)) (by rw [st3.kp _ _ nz hA]; exact fun z => nomatch z)
      have st5' := st3'.trans o3 st5
      have hd5 := dpa_mono st5.fz (dpa_mono st3.fz hd)
      cases b with
      | false => exact ⟨F5, vs2, acc, o5, st5', hA5, hF5, hd5, Nat.le_succ_of_le ha, kb⟩
      | true =>
        refine kb σ4 F5 H5 o5 (h4.step st5) _ fun v F6 H6 s o6 st6 hv ⟨e, es, je⟩ => ?_
        subst es
        have hA6 := st6.kp _ _ nz hA5
        have hF6 := st6.nw Da hF5 (by rw [hA5]; exact fun z => nomatch z)
        obtain ⟨o7, st7⟩ := chg (ws := vs2 ++ [v]) o6 (st5'.trans o5 st6) hA6 hF6
        refine ⟨vs2, hA6, by rw [dpa_len hd5]; omega, F6, vs2 ++ [v], acc ++ [e], o7, st7, upd_same, hF6, dpa_app (dpa_mono st6.fz hd5) (.cons hv .nil), by rw [List.length_append, List.length_singleton]; omega, je⟩
    · rintro H2 ⟨F2, vs2, acc, o2, st2, hA, hF, hd, ha, j⟩
      exact q Da vs2 F2 H2 acc o2 (st.trans o' st2) (st.back o' hD) hA hF nz hd (jd acc j)
/-- .. by a function of the item -/
theorem evn_map {wi : TI} {g : TG} {vs : List Nat} (f : D → Bool) (v : D → D)
    (h : EvI K W H0 wi ρ fun ds => ds.length < sizeLine ∧ (∀ d, d ∈ ds → GC K W H0 vs g (.dat d) (wipeR ρ vs) fun ρ2 => EvT K W H0 tt ρ2 fun b => b = f d ∧ (b = true → Ev K W H0 te ρ2 fun s => s = .dat (v d))) ∧ PN ((ds.filter f).map v)) :
    EvN K W H0 (tLc wi g tt te vs) ρ PN := by
  refine evn_lc (fun ds i acc => acc = ((ds.take i).filter f).map v) (fun σ F H o ho R q => h σ F H o ho R fun J F' H' ds o' st it ⟨hl, hs, p⟩ => q J F' H' ds o' st it ⟨hl, by simp, fun i d acc e ha => ?_, fun acc ha => by rw [ha, List.take_length]; exact p⟩)
  have hm : d ∈ ds := List.mem_of_getElem? e
  have et : ds.take (i + 1) = ds.take i ++ [d] := by rw [List.take_add_one, e]; rfl
  refine fun x σ F H o ho hv Q q => hs d hm x σ F H o ho hv Q fun σ' ρ' ho' ew k => q σ' ρ' ho' ew (k.mono fun b ⟨eb, hb⟩ => ?_)
  cases b with
  | true => exact (hb rfl).mono fun s es => ⟨v d, es, by rw [ha, et, List.filter_append, List.map_append, List.filter_cons, ← eb]; rfl⟩
  | false =>
    show acc = _
    rw [ha, et, List.filter_append, List.map_append, List.filter_cons, ← eb]
    simp
theorem filt_true {α : Type} (l : List α) : l.filter (fun _ => true) = l := by
  induction l with
  | nil => rfl
  | cons a l ih => rw [List.filter_cons, if_pos rfl, ih]
/-- .. without a test -/
theorem evn_mapT {wi : TI} {g : TG} {vs : List Nat} (v : D → D)
    (h : EvI K W H0 wi ρ fun ds => ds.length < sizeLine ∧ (∀ d, d ∈ ds → GC K W H0 vs g (.dat d) (wipeR ρ vs) fun ρ2 => Ev K W H0 te ρ2 fun s => s = .dat (v d)) ∧ PN (ds.map v)) :
    EvN K W H0 (tLc wi g tYes te vs) ρ PN := by
  refine evn_map (fun _ => true) v (fun σ F H o ho R q => h σ F H o ho R fun J F' H' ds o' st it ⟨hl, hs, p⟩ => q J F' H' ds o' st it ⟨hl, fun d hd => ?_, by rw [filt_true]; exact p⟩)
  exact fun x σ F H o ho hv Q q => hs d hd x σ F H o ho hv Q fun σ' ρ' ho' ew k => q σ' ρ' ho' ew (et_yes ⟨rfl, fun _ => k⟩)
end
end DL

namespace DL
open PySem L2 RZ
/-! ### operations, by data -/
/-- data that may be compared and shown -/
structure Nice (d : D) : Prop where
  lay : d.canLay0 = true
  dep : d.depth ≤ 40
  shw : d.showable = true
theorem Nice.shaped {d : D} (h : Nice d) : SeqAt.shaped d = true := by
  show (d.canLay0 && decide (d.depth ≤ 64)) = true
  rw [h.lay, decide_eq_true (Nat.le_trans h.dep (by decide))]
  rfl
section
variable {K : PySem.W.Frag} {W : Wd} {H0 F0 : Hp} {ρ : Rho} {te ta tb tc : TE} {tt tu : TT} {P P' : Sl → Prop} {PN : List D → Prop} {X : Cx}
theorem dpa_atI {F : Hp} {vs : List V} {ds : List D} {i : Int} {d : D} (h : DpAll K F vs ds) (e : atI ds i = some d) : ∃ v, atI vs i = some v ∧ Dp K F v d := by
  unfold atI at e ⊢
  rw [dpa_len h]
  cases q : ixN ds.length i with
  | none => rw [q] at e; cases e
  | some j =>
    rw [q] at e
    exact dpa_get' h e
theorem dpa_cut {F : Hp} {vs : List V} {ds : List D} (lo hi : Option Int) (h : DpAll K F vs ds) : DpAll K F (cutV vs lo hi) ((ds.drop (HT.sIx ds.length 0 lo)).take (HT.sIx ds.length ds.length hi - HT.sIx ds.length 0 lo)) := by
  unfold cutV
  rw [dpa_len h]
  exact dpa_take _ (dpa_drop _ h)
/-- the items of xs[lo:hi] -/
def cutD (ds : List D) (lo hi : Option Int) : List D := (ds.drop (HT.sIx ds.length 0 lo)).take (HT.sIx ds.length ds.length hi - HT.sIx ds.length 0 lo)
theorem cutD_whole {ds : List D} {lo hi : Option Int} (h : HT.sIx ds.length 0 lo = 0 ∧ HT.sIx ds.length ds.length hi = ds.length) : cutD ds lo hi = ds := by
  unfold cutD
  rw [h.1, h.2, List.drop_zero, Nat.sub_zero, List.take_length]

/-! + -/
def rAddS : R2 := fun x y H Q => ∃ i j, x = .str i ∧ y = .str j ∧ i.length + j.length ≤ sizeLine ∧ Q (.str (i ++ j)) H
/-- truths among ints -/
def rBI (g : Int → Int → Int) : R2 := fun x y H Q => ∃ b i, x = .bl b ∧ y = .int i ∧ Q (.int (g (if b = true then 1 else 0) i)) H
def rIB (g : Int → Int → Int) : R2 := fun x y H Q => ∃ i b, x = .int i ∧ y = .bl b ∧ Q (.int (g i (if b = true then 1 else 0))) H
theorem op_addBI : OpR X (binaryOp .Add) (rBI fun i j => i + j) := by
  intro pins s σ H x y v u Q I rx ry h
  obtain ⟨b, i, rfl, rfl, q⟩ := h
  cases rx
  obtain ⟨t, rfl⟩ := ry
  exact PySem.IntBool.add_bool_int ⟨.int _, H, I.tok _, ⟨_, rfl⟩, q⟩
theorem op_subBI : OpR X (binaryOp .Sub) (rBI fun i j => i - j) := by
  intro pins s σ H x y v u Q I rx ry h
  obtain ⟨b, i, rfl, rfl, q⟩ := h
  cases rx
  obtain ⟨t, rfl⟩ := ry
  exact PySem.IntBool.sub_bool_int ⟨.int _, H, I.tok _, ⟨_, rfl⟩, q⟩
theorem op_subIB : OpR X (binaryOp .Sub) (rIB fun i j => i - j) := by
  intro pins s σ H x y v u Q I rx ry h
  obtain ⟨i, b, rfl, rfl, q⟩ := h
  cases ry
  obtain ⟨t, rfl⟩ := rx
  exact PySem.IntBool.sub_int_bool ⟨.int _, H, I.tok _, ⟨_, rfl⟩, q⟩
def rAdd4 (K : PySem.W.Frag) : R2 := fun x y H Q => (((rI0 (fun i j => .int (i + j)) x y H Q ∨ rAddS x y H Q) ∨ rCatA K x y H Q) ∨ rCat x y H Q) ∨ rBI (fun i j => i + j) x y H Q
theorem opAdd : OpR X (binaryOp .Add) (rAdd4 X.K) := (((op_add.or op_add_str).or op_catA).or op_cat).or op_addBI
def rSub3 : R2 := fun x y H Q => (rI0 (fun i j => .int (i - j)) x y H Q ∨ rBI (fun i j => i - j) x y H Q) ∨ rIB (fun i j => i - j) x y H Q
theorem opSub : OpR X (binaryOp .Sub) rSub3 := (op_sub.or op_subBI).or op_subIB
theorem ops_I0 {g : Int → Int → V} {f : Int → Int → D} {i j : Int} (hg : ∀ F, Dp K F (g i j) (f i j)) (p : P (.dat (f i j))) : OpS K W (rI0 g) (.dat (.int i)) (.dat (.int j)) P := fun F H x y o hx hy Q q => by
  rw [vok_int hx, vok_int hy]
  exact ⟨i, j, rfl, rfl, q _ F H (.dat (f i j)) o (Step.refl o) (hg F) p⟩
theorem ops_I {C : Int → Int → Prop} {g : Int → Int → V} {f : Int → Int → D} {i j : Int} (hg : ∀ F, Dp K F (g i j) (f i j)) (hc : C i j) (p : P (.dat (f i j))) : OpS K W (rI C g) (.dat (.int i)) (.dat (.int j)) P := fun F H x y o hx hy Q q => by
  rw [vok_int hx, vok_int hy]
  exact ⟨i, j, rfl, rfl, hc, q _ F H (.dat (f i j)) o (Step.refl o) (hg F) p⟩
theorem OpS.inl {r r' : R2} {s t : Sl} (h : OpS K W r s t P) : OpS K W (fun x y H Q => r x y H Q ∨ r' x y H Q) s t P := fun F H x y o hx hy Q q => .inl (h F H x y o hx hy Q q)
theorem OpS.inr {r r' : R2} {s t : Sl} (h : OpS K W r' s t P) : OpS K W (fun x y H Q => r x y H Q ∨ r' x y H Q) s t P := fun F H x y o hx hy Q q => .inr (h F H x y o hx hy Q q)
theorem ops_add_int {i j : Int} (p : P (.dat (.int (i + j)))) : OpS K W (rAdd4 K) (.dat (.int i)) (.dat (.int j)) P := OpS.inl <| OpS.inl (OpS.inl (OpS.inl (ops_I0 (f := fun i j => .int (i + j)) (fun _ => .int _) p)))
theorem ops_add_str {i j : Str} (hl : i.length + j.length ≤ sizeLine) (p : P (.dat (.str (i ++ j)))) : OpS K W (rAdd4 K) (.dat (.str i)) (.dat (.str j)) P := OpS.inl <| OpS.inl (OpS.inl (OpS.inr fun F H x y o hx hy Q q => by
  rw [vok_str hx, vok_str hy]
  exact ⟨i, j, rfl, rfl, hl, q _ F H (.dat (.str (i ++ j))) o (Step.refl o) (.str _) p⟩))
theorem ops_add_tup {ds es : List D} (hl : ds.length + es.length ≤ sizeLine) (p : P (.dat (.tuple (ds ++ es)))) : OpS K W (rAdd4 K) (.dat (.tuple ds)) (.dat (.tuple es)) P := OpS.inl <| OpS.inl (OpS.inr fun F H x y o hx hy Q q => by
  obtain ⟨a, xs, rfl, a1, a2⟩ := dp_tup hx
  obtain ⟨b, ys, rfl, b1, b2⟩ := dp_tup hy
  refine ⟨a, b, xs, ys, rfl, rfl, SqT.of (o.sub _ _ a1), SqT.of (o.sub _ _ b1), by rw [dpa_len a2, dpa_len b2]; exact hl, fun e => ?_, fun _ e => ?_, fun _ _ p' hp => ?_⟩
  · have e2 : ds = [] := List.length_eq_zero_iff.mp (by rw [← dpa_len a2, e]; rfl)
    rw [e2] at p
    exact q _ F H _ o (Step.refl o) hy p
  · have e2 : es = [] := List.length_eq_zero_iff.mp (by rw [← dpa_len b2, e]; rfl)
    rw [e2, List.append_nil] at p
    exact q _ F H _ o (Step.refl o) hx p
  · obtain ⟨o2, st2⟩ := o.new (u := .tup (xs ++ ys)) hp
    exact q _ _ _ (.dat (.tuple (ds ++ es))) o2 st2 (.tup upd_same (dpa_mono st2.fz (dpa_app a2 b2))) p)
/-- a list that may be read -/
def LsOf (s : Sl) (ds : List D) : Prop := s = .dat (.list ds) ∨ s = .ls ds
theorem LsOf.get {F H : Hp} {v : V} {s : Sl} {ds : List D} (h : LsOf s ds) (o : Ok W F H) (hv : VOk K W F H v s) : ∃ p vs, v = .ref p ∧ H p = some (.lst vs) ∧ DpAll K F vs ds := by
  rcases h with e | e
  · subst e
    obtain ⟨a, xs, e, a1, a2⟩ := dp_lst hv
    exact ⟨a, xs, e, o.sub _ _ a1, a2⟩
  · subst e
    obtain ⟨p, vs, e, h1, _, _, h2⟩ := hv
    exact ⟨p, vs, e, h1, h2⟩
theorem evn_cat (h : Ev K W H0 ta ρ fun s => Ev K W H0 tb ρ fun t => ∃ ds es, LsOf s ds ∧ LsOf t es ∧ ds.length + es.length ≤ sizeLine ∧ PN (ds ++ es)) : EvN K W H0 (tOp (rAdd4 K) ta tb) ρ PN := fun σ F H o ho Q q => by
  refine h σ F H o ho _ fun v F1 H1 s o1 st1 hv h1 => ?_
  refine h1 σ F1 H1 o1 (ho.step st1) _ fun u F2 H2 t o2 st2 hu ⟨ds, es, hs, ht, hl, p⟩ => ?_
  obtain ⟨a, xs, rfl, a1, a2⟩ := hs.get o2 (hv.step st2)
  obtain ⟨b, ys, rfl, b1, b2⟩ := ht.get o2 hu
  refine .inl (.inr ⟨a, b, xs, ys, rfl, rfl, a1, b1, by rw [dpa_len a2, dpa_len b2]; exact hl, fun p' hp => ?_⟩)
  obtain ⟨o3, st3⟩ := o2.own (u := .lst (xs ++ ys)) hp
  have st := st1.trans o1 st2
  exact q p' (xs ++ ys) _ _ (ds ++ es) o3 (st.trans o2 st3) (st.back o2 hp) upd_same (o2.free hp) (o2.nz hp) (dpa_app a2 b2) p

/-! - * % // ** -/
theorem ops_sub {i j : Int} (p : P (.dat (.int (i - j)))) : OpS K W rSub3 (.dat (.int i)) (.dat (.int j)) P := OpS.inl <| OpS.inl <| ops_I0 (f := fun i j => .int (i - j)) (fun _ => .int _) p
theorem ops_subBI {b : Bool} {j : Int} (p : P (.dat (.int ((if b = true then 1 else 0) - j)))) : OpS K W rSub3 (.dat (.bool b)) (.dat (.int j)) P := OpS.inl <| OpS.inr fun F H x y o hx hy Q q => by
  rw [vok_bool hx, vok_int hy]
  exact ⟨b, j, rfl, rfl, q _ F H (.dat (.int _)) o (Step.refl o) (.int _) p⟩
theorem ops_subIB {b : Bool} {i : Int} (p : P (.dat (.int (i - (if b = true then 1 else 0))))) : OpS K W rSub3 (.dat (.int i)) (.dat (.bool b)) P := OpS.inr fun F H x y o hx hy Q q => by
  rw [vok_int hx, vok_bool hy]
  exact ⟨i, b, rfl, rfl, q _ F H (.dat (.int _)) o (Step.refl o) (.int _) p⟩
theorem ops_addBI {b : Bool} {j : Int} (p : P (.dat (.int ((if b = true then 1 else 0) + j)))) : OpS K W (rAdd4 K) (.dat (.bool b)) (.dat (.int j)) P := OpS.inr fun F H x y o hx hy Q q => by
  rw [vok_bool hx, vok_int hy]
  exact ⟨b, j, rfl, rfl, q _ F H (.dat (.int _)) o (Step.refl o) (.int _) p⟩
/-- * of ints, of a tuple -/
def rMul2 (K : PySem.W.Frag) : R2 := fun x y H Q => rI CMul (fun i j => .int (i * j)) x y H Q ∨ rRepT K x y H Q
theorem opMul : OpR X (binaryOp .Mult) (rMul2 X.K) := op_mul.or op_repT
theorem dpa_flat {F : Hp} {vs : List V} {ds : List D} (h : DpAll K F vs ds) : ∀ n : Nat, DpAll K F (List.replicate n vs).flatten (List.replicate n ds).flatten
  | 0 => .nil
  | n + 1 => by
    rw [List.replicate_succ, List.replicate_succ, List.flatten_cons, List.flatten_cons]
    exact dpa_app h (dpa_flat h n)
theorem ops_rep {ds : List D} {k : Int} (h0 : ds ≠ []) (h1 : 2 ≤ k) (h2 : k ≤ 1000) (h3 : ds.length ≤ 1000) (p : P (.dat (.tuple (List.replicate k.toNat ds).flatten))) : OpS K W (rMul2 K) (.dat (.tuple ds)) (.dat (.int k)) P := OpS.inr fun F H x y o hx hy Q q => by
  obtain ⟨a, xs, rfl, a1, a2⟩ := dp_tup hx
  rw [vok_int hy]
  refine ⟨a, k, xs, rfl, rfl, SqT.of (o.sub _ _ a1), fun e => h0 (List.length_eq_zero_iff.mp (by rw [← dpa_len a2, e]; rfl)), h1, h2, by rw [dpa_len a2]; exact h3, fun p' hp => ?_⟩
  obtain ⟨o2, st2⟩ := o.new (u := .tup (List.replicate k.toNat xs).flatten) hp
  exact q _ _ _ (.dat (.tuple (List.replicate k.toNat ds).flatten)) o2 st2 (.tup upd_same (dpa_mono st2.fz (dpa_flat a2 _))) p
theorem ops_mul {i j : Int} (hc : CMul i j) (p : P (.dat (.int (i * j)))) : OpS K W (rMul2 K) (.dat (.int i)) (.dat (.int j)) P := OpS.inl <| ops_I (f := fun i j => .int (i * j)) (fun _ => .int _) hc p
theorem ops_fdiv {i j : Int} (hc : CDivN i j) (p : P (.dat (.int (i.fdiv j)))) : OpS K W (rI CDivN fun i j => .int (i.fdiv j)) (.dat (.int i)) (.dat (.int j)) P := ops_I (f := fun i j => .int (i.fdiv j)) (fun _ => .int _) hc p
theorem ops_mod {i j : Int} (hc : j ≠ 0) (p : P (.dat (.int (i.fmod j)))) : OpS K W (rI (fun _ j => j ≠ 0) fun i j => .int (i.fmod j)) (.dat (.int i)) (.dat (.int j)) P := ops_I (f := fun i j => .int (i.fmod j)) (fun _ => .int _) hc p
theorem ops_pow {i j : Int} (hc : CPow i j) (p : P (.dat (.int (i ^ j.toNat)))) : OpS K W (rI CPow fun i j => .int (i ^ j.toNat)) (.dat (.int i)) (.dat (.int j)) P := ops_I (f := fun i j => .int (i ^ j.toNat)) (fun _ => .int _) hc p
theorem uns_neg {i : Int} (p : P (.dat (.int (-i)))) : UnS K W (rU fun i => .int (-i)) (.dat (.int i)) P := fun F H x o hx Q q => by
  rw [vok_int hx]
  exact ⟨i, rfl, q _ F H (.dat (.int (-i))) o (Step.refl o) (.int _) p⟩

/-! comparisons -/
def rEq2 (K : PySem.W.Frag) : R2 := fun x y H Q => rEqD K x y H Q ∨ rEq x y H Q
def rNe2 (K : PySem.W.Frag) : R2 := fun x y H Q => rNeD K x y H Q ∨ rNe x y H Q
theorem opEq (hu : X.A.units + 64 < cLine) : OpR X (compareOp .Eq) (rEq2 X.K) := (op_eqD hu).or op_eq
theorem opNe (hu : X.A.units + 64 < cLine) : OpR X (compareOp .NotEq) (rNe2 X.K) := (op_neD hu).or op_ne
theorem ops_eqS {x y : Str} (p : P (.dat (.bool (decide (x = y))))) : OpS K W (rEq2 K) (.dat (.str x)) (.dat (.str y)) P := OpS.inr fun F H v u o hx hy Q q => by
  rw [vok_str hx, vok_str hy]
  refine ⟨rfl, ?_⟩
  have e : decide (V.str x = V.str y) = decide (x = y) := by
    by_cases h : x = y
    · rw [h, decide_eq_true rfl, decide_eq_true rfl]
    · rw [decide_eq_false h, decide_eq_false (fun z => h (by injection z))]
  rw [e]
  exact q _ F H (.dat (.bool _)) o (Step.refl o) (.bl _) p
theorem ops_neS {x y : Str} (p : P (.dat (.bool (!decide (x = y))))) : OpS K W (rNe2 K) (.dat (.str x)) (.dat (.str y)) P := OpS.inr fun F H v u o hx hy Q q => by
  rw [vok_str hx, vok_str hy]
  refine ⟨rfl, ?_⟩
  have e : decide (V.str x = V.str y) = decide (x = y) := by
    by_cases h : x = y
    · rw [h, decide_eq_true rfl, decide_eq_true rfl]
    · rw [decide_eq_false h, decide_eq_false (fun z => h (by injection z))]
  rw [e]
  exact q _ F H (.dat (.bool _)) o (Step.refl o) (.bl _) p
theorem ops_eq {d e : D} (hd : SeqAt.shaped d = true) (he : SeqAt.shaped e = true) (p : P (.dat (.bool (PyData.eqv d e)))) : OpS K W (rEq2 K) (.dat d) (.dat e) P := OpS.inl fun F H x y o hx hy Q q =>
  ⟨d, e, (dp_mono o.sub hx).old, (dp_mono o.sub hy).old, hd, he, q _ F H (.dat (.bool _)) o (Step.refl o) (.bl _) p⟩
theorem ops_ne {d e : D} (hd : SeqAt.shaped d = true) (he : SeqAt.shaped e = true) (p : P (.dat (.bool (!PyData.eqv d e)))) : OpS K W (rNe2 K) (.dat d) (.dat e) P := OpS.inl fun F H x y o hx hy Q q =>
  ⟨d, e, (dp_mono o.sub hx).old, (dp_mono o.sub hy).old, hd, he, q _ F H (.dat (.bool _)) o (Step.refl o) (.bl _) p⟩
def rLtS : R2 := fun x y H Q => ∃ i j, x = .str i ∧ y = .str j ∧ Q (.bl (decide (i.cps.toList < j.cps.toList))) H
def rLeS : R2 := fun x y H Q => ∃ i j, x = .str i ∧ y = .str j ∧ Q (.bl (!decide (j.cps.toList < i.cps.toList))) H
def rGtS : R2 := fun x y H Q => ∃ i j, x = .str i ∧ y = .str j ∧ Q (.bl (decide (j.cps.toList < i.cps.toList))) H
def rGeS : R2 := fun x y H Q => ∃ i j, x = .str i ∧ y = .str j ∧ Q (.bl (!decide (i.cps.toList < j.cps.toList))) H
def rLt2 : R2 := fun x y H Q => rI0 (fun i j => .bl (decide (i < j))) x y H Q ∨ rLtS x y H Q
def rLe2 : R2 := fun x y H Q => rI0 (fun i j => .bl (decide (i ≤ j))) x y H Q ∨ rLeS x y H Q
def rGt2 : R2 := fun x y H Q => rI0 (fun i j => .bl (decide (j < i))) x y H Q ∨ rGtS x y H Q
def rGe2 : R2 := fun x y H Q => rI0 (fun i j => .bl (decide (j ≤ i))) x y H Q ∨ rGeS x y H Q
theorem opLt : OpR X (compareOp .Lt) rLt2 := op_lt.or op_lt_str
theorem opLe : OpR X (compareOp .LtE) rLe2 := op_le.or op_le_str
theorem opGt : OpR X (compareOp .Gt) rGt2 := op_gt.or op_gt_str
theorem opGe : OpR X (compareOp .GtE) rGe2 := op_ge.or op_ge_str
theorem ops_lt {i j : Int} (p : P (.dat (.bool (decide (i < j))))) : OpS K W rLt2 (.dat (.int i)) (.dat (.int j)) P := OpS.inl (ops_I0 (f := fun i j => .bool (decide (i < j))) (fun _ => .bl _) p)
theorem ops_le {i j : Int} (p : P (.dat (.bool (decide (i ≤ j))))) : OpS K W rLe2 (.dat (.int i)) (.dat (.int j)) P := OpS.inl (ops_I0 (f := fun i j => .bool (decide (i ≤ j))) (fun _ => .bl _) p)
theorem ops_gt {i j : Int} (p : P (.dat (.bool (decide (j < i))))) : OpS K W rGt2 (.dat (.int i)) (.dat (.int j)) P := OpS.inl (ops_I0 (f := fun i j => .bool (decide (j < i))) (fun _ => .bl _) p)
theorem ops_ge {i j : Int} (p : P (.dat (.bool (decide (j ≤ i))))) : OpS K W rGe2 (.dat (.int i)) (.dat (.int j)) P := OpS.inl (ops_I0 (f := fun i j => .bool (decide (j ≤ i))) (fun _ => .bl _) p)
theorem ops_ltS {i j : Str} (p : P (.dat (.bool (decide (i.cps.toList < j.cps.toList))))) : OpS K W rLt2 (.dat (.str i)) (.dat (.str j)) P := OpS.inr fun F H x y o hx hy Q q => by
  rw [vok_str hx, vok_str hy]
  exact ⟨i, j, rfl, rfl, q _ F H (.dat (.bool _)) o (Step.refl o) (.bl _) p⟩
theorem ops_leS {i j : Str} (p : P (.dat (.bool (!decide (j.cps.toList < i.cps.toList))))) : OpS K W rLe2 (.dat (.str i)) (.dat (.str j)) P := OpS.inr fun F H x y o hx hy Q q => by
  rw [vok_str hx, vok_str hy]
  exact ⟨i, j, rfl, rfl, q _ F H (.dat (.bool _)) o (Step.refl o) (.bl _) p⟩
def rIsNo : R2 := fun x y H Q => y = .non ∧ Q (.bl (decide (x = .non))) H
def rIsNot : R2 := fun x y H Q => y = .non ∧ Q (.bl (!decide (x = .non))) H
theorem opIsN : OpR X (compareOp .Is) rIsNo := op_isN
theorem opIsNot : OpR X (compareOp .IsNot) rIsNot := op_notN
def isNone : D → Bool
  | .none => true
  | _ => false
theorem dp_isN {F : Hp} {v : V} {d : D} (h : Dp K F v d) : decide (v = V.non) = isNone d := by cases h <;> rfl
theorem ops_isN {d : D} (p : P (.dat (.bool (isNone d)))) : OpS K W rIsNo (.dat d) (.dat .none) P := fun F H x y o hx hy Q q =>
  ⟨dp_non hy, q _ F H (.dat (.bool (isNone d))) o (Step.refl o) (by rw [dp_isN hx]; exact .bl _) p⟩
theorem ops_isNot {d : D} (p : P (.dat (.bool (!isNone d)))) : OpS K W rIsNot (.dat d) (.dat .none) P := fun F H x y o hx hy Q q =>
  ⟨dp_non hy, q _ F H (.dat (.bool (!isNone d))) o (Step.refl o) (by rw [dp_isN hx]; exact .bl _) p⟩
/-- x in a list | tuple -/
def rInT (K : PySem.W.Frag) : R2 := fun x y H Q => ∃ d ds, L2.Dp K H x d ∧ L2.Dp K H y (.tuple ds) ∧ SeqAt.shaped d = true ∧ SeqAt.shaped (.tuple ds) = true ∧ Q (.bl (ds.any fun z => PyData.eqv z d)) H
def rNotInT (K : PySem.W.Frag) : R2 := fun x y H Q => ∃ d ds, L2.Dp K H x d ∧ L2.Dp K H y (.tuple ds) ∧ SeqAt.shaped d = true ∧ SeqAt.shaped (.tuple ds) = true ∧ Q (.bl (!ds.any fun z => PyData.eqv z d)) H
theorem lay_tup {ds : List D} (h : SeqAt.shaped (.tuple ds) = true) : PyData.canLayAll0 ds = true := SeqAt.canLay_of_shaped h
theorem op_inT (hu : X.A.units + 65 < cLine) : OpR X (compareOp .In) (rInT X.K) := by
  intro pins s σ H x y v u Q I rx ry h
  obtain ⟨d, ds, hd, he, sd, se, q⟩ := h
  obtain ⟨as, r1⟩ := Dp.reads I d x v hd rx
  obtain ⟨bs, r2⟩ := Dp.reads I (.tuple ds) y u he ry
  refine SeqAt.in_tuple_reads r2 r1 (lay_tup se) (SeqAt.canLay_of_shaped sd) ?_ ⟨.bl _, H, I, rfl, q⟩
  have := SeqAt.depth_of_shaped sd
  omega
theorem op_notInT (hu : X.A.units + 65 < cLine) : OpR X (compareOp .NotIn) (rNotInT X.K) := by
  intro pins s σ H x y v u Q I rx ry h
  obtain ⟨d, ds, hd, he, sd, se, q⟩ := h
  obtain ⟨as, r1⟩ := Dp.reads I d x v hd rx
  obtain ⟨bs, r2⟩ := Dp.reads I (.tuple ds) y u he ry
  refine SeqAt.notIn_tuple_reads r2 r1 (lay_tup se) (SeqAt.canLay_of_shaped sd) ?_ ⟨.bl _, H, I, rfl, q⟩
  have := SeqAt.depth_of_shaped sd
  omega
def rIn2 (K : PySem.W.Frag) : R2 := fun x y H Q => (rInD K x y H Q ∨ rInT K x y H Q) ∨ rIn K false x y H Q
def rNotIn2 (K : PySem.W.Frag) : R2 := fun x y H Q => (rNotInD K x y H Q ∨ rNotInT K x y H Q) ∨ rIn K true x y H Q
theorem opIn (hu : X.A.units + 65 < cLine) : OpR X (compareOp .In) (rIn2 X.K) := ((op_inD hu).or (op_inT hu)).or op_in_seq
theorem opNotIn (hu : X.A.units + 65 < cLine) : OpR X (compareOp .NotIn) (rNotIn2 X.K) := ((op_notInD hu).or (op_notInT hu)).or op_notIn_seq
theorem ops_in_tup {d : D} {ds : List D} (hd : SeqAt.shaped d = true) (he : SeqAt.shaped (.tuple ds) = true) (p : P (.dat (.bool (ds.any fun z => PyData.eqv z d)))) : OpS K W (rIn2 K) (.dat d) (.dat (.tuple ds)) P := OpS.inl <| OpS.inr fun F H x y o hx hy Q q =>
  ⟨d, ds, (dp_mono o.sub hx).old, (dp_mono o.sub hy).old, hd, he, q _ F H (.dat (.bool _)) o (Step.refl o) (.bl _) p⟩
theorem ops_notin_tup {d : D} {ds : List D} (hd : SeqAt.shaped d = true) (he : SeqAt.shaped (.tuple ds) = true) (p : P (.dat (.bool (!ds.any fun z => PyData.eqv z d)))) : OpS K W (rNotIn2 K) (.dat d) (.dat (.tuple ds)) P := OpS.inl <| OpS.inr fun F H x y o hx hy Q q =>
  ⟨d, ds, (dp_mono o.sub hx).old, (dp_mono o.sub hy).old, hd, he, q _ F H (.dat (.bool _)) o (Step.refl o) (.bl _) p⟩
theorem dpa_strs {F : Hp} : ∀ {vs : List V} {ys : List Str}, DpAll K F vs (ys.map .str) → vs = ys.map V.str
  | [], [], _ => rfl
  | v :: vs, [], h => by cases h
  | [], b :: bs, h => by cases h
  | v :: vs, b :: bs, h => by
    cases h with
    | cons h1 h2 =>
      rw [dp_str h1, dpa_strs h2]
      rfl
theorem inV_strs {x : Str} : ∀ {ys : List Str}, inV (.str x) (ys.map V.str) = ys.any fun y => decide (y = x)
  | [] => rfl
  | y :: ys => by
    show (inV (.str x) (V.str y :: ys.map V.str)) = _
    unfold inV
    rw [List.any_cons, List.any_cons]
    have ih := inV_strs (x := x) (ys := ys)
    unfold inV at ih
    rw [ih]
    have e : eqV (V.str y) (V.str x) = decide (y = x) := by
      show (y == x) = _
      by_cases h : y = x
      · rw [h, decide_eq_true rfl, beq_self_eq_true]
      · rw [decide_eq_false h]
        exact beq_eq_false_iff_ne.mpr h
    rw [e]
theorem flat_strs (ys : List Str) : (ys.map V.str).all flatV = true := by
  rw [List.all_map]
  exact List.all_eq_true.mpr fun _ _ => rfl
theorem ops_in_strs {x : Str} {ys : List Str} (p : P (.dat (.bool (ys.any fun y => decide (y = x))))) : OpS K W (rIn2 K) (.dat (.str x)) (.dat (.tuple (ys.map .str))) P := OpS.inr fun F H v u o hx hy Q q => by
  obtain ⟨a, xs, rfl, a1, a2⟩ := dp_tup hy
  rw [dpa_strs a2] at a1
  rw [vok_str hx]
  refine ⟨a, _, rfl, .inr (SqT.of (o.sub _ _ a1)), rfl, flat_strs ys, ?_⟩
  rw [inV_strs]
  exact q _ F H (.dat (.bool _)) o (Step.refl o) (.bl _) p
theorem ops_notin_strs {x : Str} {ys : List Str} (p : P (.dat (.bool (!ys.any fun y => decide (y = x))))) : OpS K W (rNotIn2 K) (.dat (.str x)) (.dat (.tuple (ys.map .str))) P := OpS.inr fun F H v u o hx hy Q q => by
  obtain ⟨a, xs, rfl, a1, a2⟩ := dp_tup hy
  rw [dpa_strs a2] at a1
  rw [vok_str hx]
  refine ⟨a, _, rfl, .inr (SqT.of (o.sub _ _ a1)), rfl, flat_strs ys, ?_⟩
  rw [inV_strs]
  exact q _ F H (.dat (.bool _)) o (Step.refl o) (.bl _) p
theorem LsOf.dp {F H : Hp} {v : V} {s : Sl} {ds : List D} (h : LsOf s ds) (o : Ok W F H) (hv : VOk K W F H v s) : L2.Dp K H v (.list ds) := by
  obtain ⟨p, vs, rfl, h1, h2⟩ := h.get o hv
  exact .lst (SqL.of h1) (dpa_mono o.sub h2).old
theorem ops_in_lst {d : D} {ds : List D} {s : Sl} (hd : SeqAt.shaped d = true) (he : SeqAt.shaped (.list ds) = true) (hs : LsOf s ds) (p : P (.dat (.bool (ds.any fun z => PyData.eqv z d)))) : OpS K W (rIn2 K) (.dat d) s P := OpS.inl <| OpS.inl fun F H x y o hx hy Q q =>
  ⟨d, ds, (dp_mono o.sub hx).old, hs.dp o hy, hd, he, q _ F H (.dat (.bool _)) o (Step.refl o) (.bl _) p⟩
theorem ops_notin_lst {d : D} {ds : List D} {s : Sl} (hd : SeqAt.shaped d = true) (he : SeqAt.shaped (.list ds) = true) (hs : LsOf s ds) (p : P (.dat (.bool (!ds.any fun z => PyData.eqv z d)))) : OpS K W (rNotIn2 K) (.dat d) s P := OpS.inl <| OpS.inl fun F H x y o hx hy Q q =>
  ⟨d, ds, (dp_mono o.sub hx).old, hs.dp o hy, hd, he, q _ F H (.dat (.bool _)) o (Step.refl o) (.bl _) p⟩
/-! subscripts -/
theorem ops_ix_tup {ds : List D} {i : Int} {d : D} (e : atI ds i = some d) (p : P (.dat d)) : OpS K W (rIx K) (.dat (.tuple ds)) (.dat (.int i)) P := fun F H x y o hx hy Q q => by
  obtain ⟨a, xs, rfl, a1, a2⟩ := dp_tup hx
  obtain ⟨v, e1, e2⟩ := dpa_atI a2 e
  rw [vok_int hy]
  exact .inr (.inl ⟨a, xs, i, v, rfl, rfl, SqT.of (o.sub _ _ a1), e1, q _ F H (.dat d) o (Step.refl o) e2 p⟩)
theorem ops_ix_tupx {ds : List D} {i : Int} (h : ∃ d, atI ds i = some d ∧ P (.dat d)) : OpS K W (rIx K) (.dat (.tuple ds)) (.dat (.int i)) P := let ⟨_, a, b⟩ := h; ops_ix_tup a b
theorem ops_ix_lst {ds : List D} {s : Sl} {i : Int} {d : D} (hs : LsOf s ds) (e : atI ds i = some d) (p : P (.dat d)) : OpS K W (rIx K) s (.dat (.int i)) P := fun F H x y o hx hy Q q => by
  obtain ⟨a, xs, rfl, a1, a2⟩ := hs.get o hx
  obtain ⟨v, e1, e2⟩ := dpa_atI a2 e
  rw [vok_int hy]
  exact .inl ⟨a, xs, i, v, rfl, rfl, SqL.of a1, e1, q _ F H (.dat d) o (Step.refl o) e2 p⟩
theorem ops_ix_str {z : Str} {i : Int} {c : Nat} (hl : z.length ≤ sizeLine) (e : atI z.cps.toList i = some c) (p : P (.dat (.str ⟨#[c]⟩))) : OpS K W (rIx K) (.dat (.str z)) (.dat (.int i)) P := fun F H x y o hx hy Q q => by
  rw [vok_int hy, vok_str hx]
  exact .inr (.inr ⟨z, i, c, rfl, rfl, hl, e, q _ F H (.dat (.str _)) o (Step.refl o) (.str _) p⟩)
/-! slices -/
def SlS (K : PySem.W.Frag) (W : Wd) (r : V → Option Int → Option Int → Hp → VK → Prop) (s : Sl) (lo hi : Option Int) (P : Sl → Prop) : Prop := ∀ F H x, Ok W F H → VOk K W F H x s → ∀ Q : VK,
  (∀ v F' H' u, Ok W F' H' → Step W F H F' H' → VOk K W F' H' v u → P u → Q v H') → r x lo hi H Q
theorem ev_sl {r : V → Option Int → Option Int → Hp → VK → Prop} {tl th : TO} (h : Ev K W H0 te ρ fun s => EvO K W H0 tl ρ fun lo => EvO K W H0 th ρ fun hi => SlS K W r s lo hi P) : Ev K W H0 (tSl r te tl th) ρ P := fun σ F H o ho Q q => by
  refine h σ F H o ho _ fun v F1 H1 s o1 st1 hv h1 => ?_
  refine h1 σ F1 H1 o1 (ho.step st1) _ fun lo F2 H2 o2 st2 h2 => ?_
  refine h2 σ F2 H2 o2 ((ho.step st1).step st2) _ fun hi F3 H3 o3 st3 h3 => ?_
  exact h3 F3 H3 v o3 ((hv.step st2).step st3) Q fun w F4 H4 z o4 st4 hw p => q w F4 H4 z o4 (((st1.trans o1 st2).trans o2 st3).trans o3 st4) hw p
theorem eo_none {PO : Option Int → Prop} (p : PO none) : EvO K W H0 tNoPart ρ PO := fun σ F H o ho Q q => q none F H o (Step.refl o) p
theorem eo_some {PO : Option Int → Prop} (h : Ev K W H0 te ρ fun s => ∃ i, s = .dat (.int i) ∧ PO (some i)) : EvO K W H0 (tPart te) ρ PO := fun σ F H o ho Q q =>
  h σ F H o ho _ fun v F1 H1 s o1 st1 hv ⟨i, e, p⟩ => by
    subst e
    exact ⟨i, vok_int hv, q (some i) F1 H1 o1 st1 p⟩
def rSl3 (K : PySem.W.Frag) : V → Option Int → Option Int → Hp → VK → Prop := fun x lo hi H Q => (rSlL K x lo hi H Q ∨ rSlA K x lo hi H Q) ∨ rSlS x lo hi H Q
theorem slAny : SlR X (rSl3 X.K) := (sl_list.or sl_tupA).or sl_str
theorem sls_tup {ds : List D} {lo hi : Option Int} (p : P (.dat (.tuple (cutD ds lo hi)))) : SlS K W (rSl3 K) (.dat (.tuple ds)) lo hi P := fun F H x o hx Q q => by
  obtain ⟨a, xs, rfl, a1, a2⟩ := dp_tup hx
  refine .inl (.inr ⟨a, xs, rfl, SqT.of (o.sub _ _ a1), fun hw => ?_, fun hw p' hp => ?_⟩)
  · rw [dpa_len a2] at hw
    rw [cutD_whole hw] at p
    exact q _ F H _ o (Step.refl o) hx p
  · obtain ⟨o2, st2⟩ := o.new (u := .tup (cutV xs lo hi)) hp
    exact q _ _ _ (.dat (.tuple (cutD ds lo hi))) o2 st2 (.tup upd_same (dpa_mono st2.fz (dpa_cut lo hi a2))) p
theorem sls_lst {ds : List D} {s : Sl} {lo hi : Option Int} (hs : LsOf s ds) (p : P (.dat (.list (cutD ds lo hi)))) : SlS K W (rSl3 K) s lo hi P := fun F H x o hx Q q => by
  obtain ⟨a, xs, rfl, a1, a2⟩ := hs.get o hx
  refine .inl (.inl ⟨a, xs, rfl, SqL.of a1, fun p' hp => ?_⟩)
  obtain ⟨o2, st2⟩ := o.new (u := .lst (cutV xs lo hi)) hp
  exact q _ _ _ (.dat (.list (cutD ds lo hi))) o2 st2 (.lst upd_same (dpa_mono st2.fz (dpa_cut lo hi a2))) p
theorem sls_str {z : Str} {lo hi : Option Int} (hl : z.length ≤ sizeLine) (p : P (.dat (.str (cutS z lo hi)))) : SlS K W (rSl3 K) (.dat (.str z)) lo hi P := fun F H x o hx Q q => by
  rw [vok_str hx]
  exact .inr ⟨z, rfl, hl, q _ F H (.dat (.str _)) o (Step.refl o) (.str _) p⟩

theorem shaped_int (i : Int) : SeqAt.shaped (.int i) = true := by simp [SeqAt.shaped, PyData.canLay0, PyData.depth]
theorem shaped_bool (i : Bool) : SeqAt.shaped (.bool i) = true := by simp [SeqAt.shaped, PyData.canLay0, PyData.depth]
theorem shaped_none : SeqAt.shaped .none = true := by simp [SeqAt.shaped, PyData.canLay0, PyData.depth]
theorem ops_eq_int {i j : Int} (p : P (.dat (.bool (decide (i = j))))) : OpS K W (rEq2 K) (.dat (.int i)) (.dat (.int j)) P := ops_eq (shaped_int i) (shaped_int j) (by
  have e : PyData.eqv (.int i) (.int j) = decide (i = j) := by
    simp only [PyData.eqv]
    by_cases h : i = j
    · subst h
      simp
    · rw [decide_eq_false h]
      exact beq_eq_false_iff_ne.mpr h
  rw [e]
  exact p)
/-! ### calls of built-ins -/
def tyN : D → String
  | .none => "NoneType" | .bool _ => "bool" | .int _ => "int" | .str _ => "str" | .list _ => "list" | .tuple _ => "tuple" | .dict _ => "dict"
theorem ty_of {F H : Hp} (o : Ok W F H) {v : V} {d : D} (h : Dp K F v d) : TyX K H v (.type (tyN d)) := by
  cases h with
  | non => exact .base .non
  | bl b => exact .base (.bl b)
  | int i => exact .base (.int i)
  | str x => exact .base (.str x)
  | lst h _ => exact .base (.lst (o.sub _ _ h))
  | tup h _ => exact .base (.tup (o.sub _ _ h))
theorem kit_all : ∀ a ∈ ["NoneType", "bool", "int", "str", "list", "tuple", "dict"], ∀ T ∈ ["int", "bool", "str", "tuple", "list"], kitB a T = some (a == T || (a == "bool" && T == "int")) := by decide +kernel
theorem ty_mem (d : D) : tyN d ∈ ["NoneType", "bool", "int", "str", "list", "tuple", "dict"] := by cases d <;> simp [tyN]
def isInt : D → Bool
  | .int _ | .bool _ => true
  | _ => false
def isBl : D → Bool
  | .bool _ => true
  | _ => false
def isStr : D → Bool
  | .str _ => true
  | _ => false
def isTup : D → Bool
  | .tuple _ => true
  | _ => false
def isLst : D → Bool
  | .list _ => true
  | _ => false
theorem cas_isi {d : D} {T : String} {b : Bool} (hT : T ∈ ["int", "bool", "str", "tuple", "list"]) (hb : (tyN d == T || (tyN d == "bool" && T == "int")) = b) (p : P (.dat (.bool b))) : CaS K W (rIsi K) [.dat d, .rf (.ty T)] P := fun F H xs o hx Q q => by
  cases hx with
  | cons h1 h2 =>
    cases h2 with
    | cons h3 h4 =>
      cases h4
      exact ⟨_, _, _, _, b, rfl, (show _ = V.ty T from h3) ▸ .ty T, ty_of o h1, hb ▸ kit_ty (kit_all _ (ty_mem d) T hT), q _ F H (.dat (.bool _)) o (Step.refl o) (.bl _) p⟩
theorem cas_isi_int {d : D} (p : P (.dat (.bool (isInt d)))) : CaS K W (rIsi K) [.dat d, .rf (.ty "int")] P := cas_isi (by decide +kernel) (by cases d <;> rfl) p
theorem cas_isi_bool {d : D} (p : P (.dat (.bool (isBl d)))) : CaS K W (rIsi K) [.dat d, .rf (.ty "bool")] P := cas_isi (by decide +kernel) (by cases d <;> rfl) p
theorem cas_isi_str {d : D} (p : P (.dat (.bool (isStr d)))) : CaS K W (rIsi K) [.dat d, .rf (.ty "str")] P := cas_isi (by decide +kernel) (by cases d <;> rfl) p
theorem cas_isi_tup {d : D} (p : P (.dat (.bool (isTup d)))) : CaS K W (rIsi K) [.dat d, .rf (.ty "tuple")] P := cas_isi (by decide +kernel) (by cases d <;> rfl) p
theorem cas_isi_lst {d : D} (p : P (.dat (.bool (isLst d)))) : CaS K W (rIsi K) [.dat d, .rf (.ty "list")] P := cas_isi (by decide +kernel) (by cases d <;> rfl) p
theorem ops_ix_lstx {ds : List D} {i : Int} (h : ∃ d, atI ds i = some d ∧ P (.dat d)) : OpS K W (rIx K) (.dat (.list ds)) (.dat (.int i)) P := let ⟨_, a, b⟩ := h; ops_ix_lst (.inl rfl) a b
theorem le_line {n : Nat} (h : Nat.ble n 250000 = true) : n ≤ sizeLine := Nat.le_trans (Nat.le_of_ble_eq_true h) (by decide)
theorem sz_and {n : Nat} {A : Prop} (h : Nat.ble n 250000 = true) (k : A) : n ≤ sizeLine ∧ A := ⟨le_line h, k⟩
theorem and_nols {d : D} {A : Prop} (h : A) : NoLs (.dat d) ∧ A := ⟨trivial, h⟩
theorem rt_bool {a b : Bool} (h : a = b) : Sl.dat (.bool a) = Sl.dat (.bool b) := by rw [h]
theorem ifT {c : Bool} {A B : Prop} (hc : c = true) (h : A) : if c = true then A else B := by
  rw [if_pos hc]
  exact h
theorem ifF {c : Bool} {A B : Prop} (hc : c = false) (h : B) : if c = true then A else B := by
  rw [if_neg (by rw [hc]; exact Bool.false_ne_true)]
  exact h
theorem if2 {c : Bool} {A B : Prop} (h : c = true → A) (h' : c = false → B) : if c = true then A else B := by
  cases c with
  | true => exact h rfl
  | false => exact h' rfl
abbrev rLenA (K : PySem.W.Frag) : List V → Hp → VK → Prop := fun xs H Q => ∃ x n, xs = [x] ∧ LenV K x H n ∧ Q (.int n) H
theorem cas_len_tup {ds : List D} (p : P (.dat (.int ds.length))) : CaS K W (rLenA K) [.dat (.tuple ds)] P := fun F H xs o hx Q q => by
  cases hx with
  | cons h1 h2 =>
    cases h2
    obtain ⟨a, xs, rfl, a1, a2⟩ := dp_tup h1
    exact ⟨_, ds.length, rfl, .inr ⟨xs, SqT.of (o.sub _ _ a1), (dpa_len a2).symm⟩, q _ F H (.dat (.int _)) o (Step.refl o) (.int _) p⟩
theorem cas_len_lst {ds : List D} {s : Sl} (hs : LsOf s ds) (p : P (.dat (.int ds.length))) : CaS K W (rLenA K) [s] P := fun F H xs o hx Q q => by
  cases hx with
  | cons h1 h2 =>
    cases h2
    obtain ⟨a, xs, rfl, a1, a2⟩ := hs.get o h1
    exact ⟨_, ds.length, rfl, .inl ⟨xs, SqL.of a1, (dpa_len a2).symm⟩, q _ F H (.dat (.int _)) o (Step.refl o) (.int _) p⟩
theorem cas_len_str {z : Str} (hl : z.length ≤ sizeLine) (p : P (.dat (.int z.length))) : CaS K W (rLenA K) [.dat (.str z)] P := fun F H xs o hx Q q => by
  cases hx with
  | cons h1 h2 =>
    cases h2
    rw [vok_str h1]
    exact ⟨_, z.length, rfl, ⟨hl, rfl⟩, q _ F H (.dat (.int _)) o (Step.refl o) (.int _) p⟩
theorem dpa_bools {F : Hp} : ∀ {vs : List V} {bs : List Bool}, DpAll K F vs (bs.map .bool) → vs = bs.map V.bl
  | [], [], _ => rfl
  | v :: vs, [], h => by cases h
  | [], b :: bs, h => by cases h
  | v :: vs, b :: bs, h => by
    cases h with
    | cons h1 h2 =>
      rw [dp_bool h1, dpa_bools h2]
      rfl
theorem cas_all {s : Sl} {bs : List Bool} (hs : LsOf s (bs.map .bool)) (p : P (.dat (.bool (bs.all id)))) : CaS K W (rAll K) [s] P := fun F H xs o hx Q q => by
  cases hx with
  | cons h1 h2 =>
    cases h2
    obtain ⟨a, xs, rfl, a1, a2⟩ := hs.get o h1
    rw [dpa_bools a2] at a1
    exact ⟨a, bs, rfl, SqL.of a1, q _ F H (.dat (.bool _)) o (Step.refl o) (.bl _) p⟩
theorem cas_any {s : Sl} {bs : List Bool} (hs : LsOf s (bs.map .bool)) (p : P (.dat (.bool (bs.any id)))) : CaS K W (rAny K) [s] P := fun F H xs o hx Q q => by
  cases hx with
  | cons h1 h2 =>
    cases h2
    obtain ⟨a, xs, rfl, a1, a2⟩ := hs.get o h1
    rw [dpa_bools a2] at a1
    exact ⟨a, bs, rfl, SqL.of a1, q _ F H (.dat (.bool _)) o (Step.refl o) (.bl _) p⟩
/-- list(x), tuple(x) -/
abbrev rListOf (K : PySem.W.Frag) : List V → Hp → VK → Prop := fun xs H Q => ∃ p ys, xs = [.ref p] ∧ (SqL K H p ys ∨ SqT K H p ys) ∧ ∀ l, H l = none → Q (.ref l) (upd H l (.lst ys))
abbrev rTupleOf (K : PySem.W.Frag) : List V → Hp → VK → Prop := fun xs H Q => ∃ p ys, xs = [.ref p] ∧ ((SqL K H p ys ∧ ∀ l, H l = none → Q (.ref l) (upd H l (.tup ys))) ∨ (SqT K H p ys ∧ Q (.ref p) H))
def SqOf (s : Sl) (ds : List D) : Prop := s = .dat (.tuple ds) ∨ LsOf s ds
theorem SqOf.get {F H : Hp} {v : V} {s : Sl} {ds : List D} (h : SqOf s ds) (o : Ok W F H) (hv : VOk K W F H v s) : ∃ p vs, v = .ref p ∧ (SqL K H p vs ∨ SqT K H p vs) ∧ DpAll K F vs ds := by
  rcases h with e | e
  · subst e
    obtain ⟨a, xs, e, a1, a2⟩ := dp_tup hv
    exact ⟨a, xs, e, .inr (SqT.of (o.sub _ _ a1)), a2⟩
  · obtain ⟨p, vs, e, h1, h2⟩ := e.get o hv
    exact ⟨p, vs, e, .inl (SqL.of h1), h2⟩
theorem evn_list {t : TA} (h : EvA K W H0 t ρ fun ss => ∃ s ds, ss = [s] ∧ SqOf s ds ∧ PN ds) : EvN K W H0 (tCB (rListOf K) t) ρ PN := fun σ F H o ho Q q => by
  refine h σ F H o ho _ fun vs F1 H1 ss o1 st1 hv ⟨s, ds, e, hs, p⟩ => ?_
  subst e
  cases hv with
  | cons h1 h2 =>
    cases h2
    obtain ⟨a, xs, rfl, a1, a2⟩ := hs.get o1 h1
    refine ⟨a, xs, rfl, a1, fun l hl => ?_⟩
    obtain ⟨o2, st2⟩ := o1.own (u := .lst xs) hl
    exact q l xs _ _ ds o2 (st1.trans o1 st2) (st1.back o1 hl) upd_same (o1.free hl) (o1.nz hl) a2 p
theorem cas_tuple {s : Sl} {ds : List D} (hs : SqOf s ds) (p : P (.dat (.tuple ds))) : CaS K W (rTupleOf K) [s] P := fun F H xs o hx Q q => by
  cases hx with
  | cons h1 h2 =>
    cases h2
    rcases hs with e | e
    · subst e
      obtain ⟨a, xs, rfl, a1, a2⟩ := dp_tup h1
      exact ⟨a, xs, rfl, .inr ⟨SqT.of (o.sub _ _ a1), q _ F H _ o (Step.refl o) h1 p⟩⟩
    · obtain ⟨a, xs, rfl, a1, a2⟩ := e.get o h1
      refine ⟨a, xs, rfl, .inl ⟨SqL.of a1, fun l hl => ?_⟩⟩
      obtain ⟨o2, st2⟩ := o.new (u := .tup xs) hl
      exact q _ _ _ (.dat (.tuple ds)) o2 st2 (.tup upd_same (dpa_mono st2.fz a2)) p
/-- repr -/
def rReprD (K : PySem.W.Frag) : List V → Hp → VK → Prop := fun xs H Q => ∃ v d, xs = [v] ∧ L2.Dp K H v d ∧ d.depth ≤ 64 ∧ d.showable = true ∧ d.shown.length ≤ sizeLine ∧ Q (.str d.shown) H
end
end DL

namespace DL
open PySem L2 RZ PySem.Spec PyProof.Rows
/-! ### defs that may show data: no object is being shown when they are called -/
structure FnG (Pg : Program) (w : World) (K : PySem.W.Frag) (mg : Str → Option Value) (base : Heap) (k : Nat) (f : Addr) (fd : FuncData) (ps : List Str) (sp : Sp) : Prop where
  len : ∀ vs H Q E, sp vs H Q E → vs.length = ps.length
  run : ∀ (A : Around) (outer : List Env) (s : Shared) (H : Hp) (args : Args) (us : List Value) (vs : List V) (Q : VK), A.guards = some [] → Room k A → Env0 Pg w K mg base A outer s H →
    BindsTo s fd args (ps.zip us) → Vals vs us → sp vs H Q E0 → codeAny (model Pg w) A (.call (.ref f) args) (CR CX0 outer Pg w H s Q E0) s
section
variable {Pg : Program} {w : World} {K : PySem.W.Frag} {mg : Str → Option Value} {base : Heap}
theorem FnG.mono {j k : Nat} {f : Addr} {fd : FuncData} {ps : List Str} {sp : Sp} (F : FnG Pg w K mg base j f fd ps sp) (h : j ≤ k) : FnG Pg w K mg base k f fd ps sp :=
  ⟨F.len, fun A ou s H ar us vs Q g r => F.run A ou s H ar us vs Q g (r.mono h)⟩
theorem fnG_of {x qual : Str} {st : Stmt} {f : Addr} {fd : FuncData} {N ps : List Str} {k : Nat} {sp : Sp} (F : Fun K x qual st f fd) (S : FnScope N ps (defScope st)) (len : ∀ vs H Q E, sp vs H Q E → vs.length = ps.length)
    (hb : ∀ (cdv : Value) (A : Around) (ou : List Env) (s : Shared) (H : Hp) (vs : List V) (Q : VK), A.guards = some [] → Room k (A.deeper (envOfC qual (defScope st) s.heap.objs.size f cdv)) → sp vs H Q E0 →
      ∃ t, PSs (cxOf CX0 Pg w K mg base N qual (defScope st) f cdv A ou s H E0).nox (defBody st) t ∧ t { nx := fun _ H' => Q .non H', rt := Q } (L2.start N vs) H) : FnG Pg w K mg base (k + 1) f fd ps sp := by
  obtain ⟨oc, od, kV, doc, pm, an, cdv, ct, osl, efd, lk, hcd⟩ := F.ex
  subst efd
  refine ⟨len, fun A ou s H ar us vs Q hgd hr en hbd hv hsp => ?_⟩
  have hl := len vs H Q _ hsp
  have KX : K.In s.heap := en.mod.kin.keeps (fun b o e => (en.bs b o e).1)
  have lim : s.heap.NoLimit := en.mod.nolimit.keeps (fun b o e => (en.bs b o e).1)
  have hkd : ∀ y ∈ ps.zip us, (defScope st).names.lookup y.1 = some .local ∨ ((defScope st).names.lookup y.1 = some .cell ∧ ((cellsFrom (s.heap.objs.size + 1) (defScope st).names []).lookup y.1).isSome = true) := by
    rintro ⟨n, v⟩ hy
    rcases S.par n (List.of_mem_zip hy).1 with q | q
    · exact Or.inl q
    · exact Or.inr ⟨q, PySem.W.cellsFrom_some _ _ _ (Or.inl q)⟩
  refine codeAny_call_function hr.depth (KX _ _ lk) rfl S.co S.gen rfl (PySem.W.codeRec_of KX hcd) (hbd _ _ _ _ ?_)
  refine wpAny_newFunctionEnv_cells S.kind hkd fun env he s1 x => ?_
  subst he
  refine ⟨lim.keeps x.toInCall.keep, codeAny_func ?_⟩
  obtain ⟨t, ht, hq⟩ := hb cdv A ou s H vs Q hgd (hr.deeper _) hsp
  have I := inv_start (CX := CX0) (E := E0) S hr.hd en hl hv x
  refine wpAny_mono (ht.nox.run [] s1 (L2.start N vs) H _ I hq) ?_ (fun e s' hs => hs)
  intro fl s' hs
  cases fl with
  | ret u =>
    obtain ⟨v, σ', H', J, rv, q⟩ := hs
    exact ⟨v, H', J.os, J.bare, J.base, J.hok, rv, q⟩
  | next =>
    obtain ⟨σ', H', J, q⟩ := hs
    exact ⟨V.non, H', J.os, J.bare, J.base, J.hok, rfl, q⟩
  | brk => exact False.elim hs.choose_spec.choose_spec.2
  | cont => exact False.elim hs.choose_spec.choose_spec.2
end
section
variable {X : Cx} {k n : Nat} {f : Addr} {fd : FuncData} {ps ks : List Str} {sp : Sp} {x : Str} {p pos : Pos} {e : Expr} {es : List Expr} {kws : List Keyword} {t tk : TA}
/-- a def by its name: its promise, its place, how plain arguments bind -/
structure Fn (Pg : Program) (w : World) (K : PySem.W.Frag) (mg : Str → Option Value) (base : Heap) (x : Str) (k : Nat) (ps : List Str) (sp : Sp) : Prop where
  ex : ∃ f fd, FnG Pg w K mg base k f fd ps sp ∧ mg x = some (.ref f) ∧ PySem.W.keepIn K (.ref f) = true ∧ Binds K fd ps []
/-- what a call is, by which way its arguments bind: positional n, keywords ks, put in order by g -/
structure FnK (Pg : Program) (w : World) (K : PySem.W.Frag) (mg : Str → Option Value) (base : Heap) (x : Str) (k : Nat) (ps : List Str) (sp : Sp) (n : Nat) (ks : List Str) (gV : List V → List V → List V) : Prop where
  ex : ∃ f fd g, FnG Pg w K mg base k f fd ps sp ∧ mg x = some (.ref f) ∧ PySem.W.keepIn K (.ref f) = true ∧ KBn K fd ps n ks g gV
theorem run_G {pins : List (Addr × Obj)} {σ : L2.St} {H : Hp} {s : Shared} {Q : VK} {args : Args} {us : List Value} {vs : List V} (F : FnG X.prog X.w X.K X.mg X.base k f fd ps sp) (hgd : X.A.guards = some []) (hr : Room k X.A)
    (I : Inv X pins σ H s) (hb : BindsTo s fd args (ps.zip us)) (r : Vals vs us) (h : sp vs H Q E0) : wpAny (model X.prog X.w) X.A (call (.ref f) args.pos args.kw) (EP X pins σ Q) X.xe s := by
  refine wpAny_call (codeAny_mono (F.run X.A X.stack s H args us vs Q hgd hr I.env0 hb r h) ?_)
  intro res s' hq
  cases res with
  | error e => exact False.elim hq
  | ok fl =>
    cases fl with
    | ret u => exact I.after hq
    | next => exact False.elim hq
    | brk => exact False.elim hq
    | cont => exact False.elim hq
def tFn (sp : Sp) (t : TA) : TE := fun σ H Q => t σ H fun vs H1 => sp vs H1 Q E0
theorem pe_fn (C : Fn X.prog X.w X.K X.mg X.base x k ps sp) (hgd : X.A.guards = some []) (hr : Room k X.A) (hg : Gl X x) (ha : PA X (e :: es) t) (hdb : (x == ("__debug__" : Str)) = false := by decide)
    (he : starEach (e :: es) X.env = (false, eval e X.env) :: starEach es X.env := by rfl) (hpl : (backTo pos (starEach es X.env)).any (·.1) = false := by rfl) : PE X (.Call (.Name x p) (e :: es) [] pos) (tFn sp t) := by
  obtain ⟨f, fd, F, hm, hk, hb⟩ := C.ex
  refine ⟨fun pins s σ H Q I h => wpAny_Call_Name_kw (ld_glob I hg hm ?_ hdb)⟩
  refine PySem.W.callWith_K (h₀ := X.base) I.ok.mod.kin hk (thn (ha.run pos pins s σ H _ I h) ?_) he hpl
  rintro us s1 ⟨vs, H1, I1, r, q⟩
  have hl : (us ++ []).length = ps.length := by rw [List.append_nil, ← r.length]; exact F.len _ _ _ _ q
  have hb' := hb s1 us I1.kIn hl
  rw [List.append_nil] at hb'
  exact ⟨I1.kIn, run_G (args := ⟨us, []⟩) F hgd hr I1 hb' r q⟩
theorem pe_fn0 (C : Fn X.prog X.w X.K X.mg X.base x k ps sp) (hgd : X.A.guards = some []) (hr : Room k X.A) (hg : Gl X x) (hdb : (x == ("__debug__" : Str)) = false := by decide) : PE X (.Call (.Name x p) [] [] pos) (tFn sp tNil) := by
  obtain ⟨f, fd, F, hm, hk, hb⟩ := C.ex
  refine ⟨fun pins s σ H Q I h => wpAny_Call_Name_kw (ld_glob I hg hm ?_ hdb)⟩
  have hl : ([] ++ [] : List Value).length = ps.length := F.len [] H Q E0 h
  exact PySem.W.callWith_K0 I.kIn hk (run_G (args := ⟨[], []⟩) F hgd hr I (hb s [] I.kIn hl) .nil h)
def tFnK (n m : Nat) (sp : Sp) (gV : List V → List V → List V) (t tk : TA) : TE := fun σ H Q => t σ H fun vs H1 => tk σ H1 fun zs H2 => vs.length = n ∧ zs.length = m ∧ sp (gV vs zs) H2 Q E0
theorem pe_fnK {gV : List V → List V → List V} (C : FnK X.prog X.w X.K X.mg X.base x k ps sp n ks gV) (hgd : X.A.guards = some []) (hr : Room k X.A) (hg : Gl X x) (ha : PA X (e :: es) t) (hkw : PK X kws tk)
    (hall : (backToKw pos (keywordEach kws X.env)).all (·.1.isSome) = true := by rfl) (hks : (backToKw pos (keywordEach kws X.env)).filterMap (·.1) = ks := by rfl) (hdb : (x == ("__debug__" : Str)) = false := by decide)
    (he : starEach (e :: es) X.env = (false, eval e X.env) :: starEach es X.env := by rfl) (hpl : ((backTo pos (starEach (e :: es) X.env)).any (·.1) || (backToKw pos (keywordEach kws X.env)).any (·.1.isNone)) = false := by rfl) :
    PE X (.Call (.Name x p) (e :: es) kws pos) (tFnK n ks.length sp gV t tk) := by
  obtain ⟨f, fd, g, F, hm, hk, hb⟩ := C.ex
  refine ⟨fun pins s σ H Q I h => wpAny_Call_Name_kw (ld_glob I hg hm ?_ hdb)⟩
  refine PySem.W.callWith_KW (h₀ := X.base) I.ok.mod.kin hk hall (thn (ha.run pos pins s σ H _ I h) ?_) hpl he
  rintro us s1 ⟨vs, H1, I1, r, q⟩
  refine thn (hkw.run pos pins s1 σ H1 _ I1 q) ?_
  rintro ws s2 ⟨zs, H2, I2, rz, l1, l2, q2⟩
  refine ⟨I2.kIn, ?_⟩
  rw [hks]
  exact run_G (args := ⟨us, ks.zip ws⟩) F hgd hr I2 (hb.to s2 us ws I2.kIn (r.length.symm.trans l1) (rz.length.symm.trans l2)) (hb.rel r rz) q2
/-- keywords alone -/
theorem pe_fnK0 {gV : List V → List V → List V} (C : FnK X.prog X.w X.K X.mg X.base x k ps sp 0 ks gV) (hgd : X.A.guards = some []) (hr : Room k X.A) (hg : Gl X x) (hkw : PK X kws tk)
    (hall : (backToKw pos (keywordEach kws X.env)).all (·.1.isSome) = true := by rfl) (hks : (backToKw pos (keywordEach kws X.env)).filterMap (·.1) = ks := by rfl) (hdb : (x == ("__debug__" : Str)) = false := by decide)
    (hpl : ((backTo pos (starEach [] X.env)).any (·.1) || (backToKw pos (keywordEach kws X.env)).any (·.1.isNone)) = false := by rfl) :
    PE X (.Call (.Name x p) [] kws pos) (tFnK 0 ks.length sp gV tNil tk) := by
  obtain ⟨f, fd, g, F, hm, hk, hb⟩ := C.ex
  refine ⟨fun pins s σ H Q I h => wpAny_Call_Name_kw (ld_glob I hg hm ?_ hdb)⟩
  refine PySem.W.callWith_KW0 (h₀ := X.base) I.ok.mod.kin hk hall (thn (hkw.run pos pins s σ H _ I h) ?_) hpl
  rintro ws s2 ⟨zs, H2, I2, rz, l1, l2, q2⟩
  refine ⟨I2.kIn, ?_⟩
  rw [hks]
  exact run_G (args := ⟨[], ks.zip ws⟩) F hgd hr I2 (hb.to s2 [] ws I2.kIn rfl (rz.length.symm.trans l2)) (hb.rel .nil rz) q2
end

/-! ### promises by data -/
/-- arguments ss such that Pre; then some s such that Post -/
def Pm (K : PySem.W.Frag) (n : Nat) (Pre : Wd → Rho → Prop) (Post : Wd → Rho → Sl → Prop) : Sp := fun vs H Q _ => ∃ W F ss, Ok W F H ∧ Paired (VOk K W F H) vs ss ∧ (∀ s ∈ ss, NoLs s) ∧ ss.length = n ∧ Pre W ss ∧
  ∀ v F' H' s, Ok W F' H' → Step W F H F' H' → VOk K W F' H' v s → Post W ss s → Q v H'
section
variable {K : PySem.W.Frag} {W : Wd} {H0 F0 : Hp} {ρ : Rho} {P : Sl → Prop} {t tk : TA} {n : Nat} {Pre : Wd → Rho → Prop} {Post : Wd → Rho → Sl → Prop}
theorem pm_len (vs : List V) (H : Hp) (Q : VK) (E : XK) (h : Pm K n Pre Post vs H Q E) : vs.length = n := by
  obtain ⟨W, F, ss, _, h1, _, h2, _⟩ := h
  exact (Paired.length h1).trans h2
/-- a call -/
theorem ev_fn (h : EvA K W H0 t ρ fun ss => (∀ s ∈ ss, NoLs s) ∧ ss.length = n ∧ Pre W ss ∧ ∀ s, Post W ss s → P s) : Ev K W H0 (tFn (Pm K n Pre Post) t) ρ P := fun σ F H o ho Q q =>
  h σ F H o ho _ fun vs F1 H1 ss o1 st1 hv ⟨h1, h2, h3, h4⟩ => ⟨W, F1, ss, o1, hv, h1, h2, h3, fun v F2 H2 s o2 st2 hv2 p => q v F2 H2 s o2 (st1.trans o1 st2) hv2 (h4 s p)⟩
theorem ev_fnK {m l : Nat} {gV : List V → List V → List V} (gS : Rho → Rho → Rho) (hg : ∀ {F H : Hp} {vs zs : List V} {ss rs : Rho}, Paired (VOk K W F H) vs ss → Paired (VOk K W F H) zs rs → vs.length = m → zs.length = l → Paired (VOk K W F H) (gV vs zs) (gS ss rs))
    (h : EvA K W H0 t ρ fun ss => EvA K W H0 tk ρ fun rs => ss.length = m ∧ rs.length = l ∧ (∀ s ∈ gS ss rs, NoLs s) ∧ (gS ss rs).length = n ∧ Pre W (gS ss rs) ∧ ∀ s, Post W (gS ss rs) s → P s) : Ev K W H0 (tFnK m l (Pm K n Pre Post) gV t tk) ρ P := fun σ F H o ho Q q =>
  h σ F H o ho _ fun vs F1 H1 ss o1 st1 hv k => k σ F1 H1 o1 (ho.step st1) _ fun zs F2 H2 rs o2 st2 hz ⟨l1, l2, h1, h2, h3, h4⟩ => by
    have a1 := (Paired.length hv).trans l1
    have a2 := (Paired.length hz).trans l2
    exact ⟨a1, a2, W, F2, gS ss rs, o2, hg (pvok_step st2 hv) hz a1 a2, h1, h2, h3, fun v F3 H3 s o3 st3 hv3 p => q v F3 H3 s o3 ((st1.trans o1 st2).trans o2 st3) hv3 (h4 s p)⟩
/-- a body -/
theorem get_pair {α β : Type} {R : α → β → Prop} : ∀ {xs : List α} {ys : List β} {i : Nat} {y : β}, Paired R xs ys → ys[i]? = some y → ∃ x, xs[i]? = some x ∧ R x y
  | _, _, i, y, .nil, h => by simp at h
  | _, _, 0, y, .cons h t, e => by
    simp at e
    subst e
    exact ⟨_, rfl, h⟩
  | _, _, i + 1, y, .cons h t, e => by
    obtain ⟨x, h1, h2⟩ := get_pair (i := i) (y := y) t (by simpa using e)
    exact ⟨x, by simpa using h1, h2⟩
theorem holds_start {F H : Hp} {N : List Str} {vs : List V} {ss : Rho} (h : Paired (VOk K W F H) vs ss) (hn : ∀ s ∈ ss, NoLs s) (hl : ss.length ≤ N.length) : Holds K W H (L2.start N vs) F H (ss ++ List.replicate (N.length - ss.length) .un) := by
  have hlen := Paired.length h
  have nls : ∀ (i : Nat) (ds : List D), (ss ++ List.replicate (N.length - ss.length) Sl.un)[i]? ≠ some (.ls ds) := fun i ds e => by
    rcases List.mem_append.mp (List.mem_of_getElem? e) with m | m
    · exact hn _ m
    · have := List.eq_of_mem_replicate m
      cases this
  refine ⟨?_, fun i s e => ?_, fun i j ds es p _ e => absurd e (nls i ds)⟩
  · unfold L2.start
    rw [List.length_append, List.length_append, List.length_map, List.length_replicate, List.length_replicate, hlen]
  · by_cases hi : i < ss.length
    · rw [List.getElem?_append_left hi] at e
      obtain ⟨v, e1, e2⟩ := get_pair h e
      have es : (L2.start N vs)[i]? = some (some v) := by
        unfold L2.start
        rw [List.getElem?_append_left (by rw [List.length_map, hlen]; exact hi), List.getElem?_map, e1]
        rfl
      cases s with
      | un => trivial
      | dat d => exact ⟨v, es, e2⟩
      | ls ds => exact (hn _ (List.mem_of_getElem? e)).elim
      | rf u => rw [show v = u from e2] at es; exact es
    · rw [List.getElem?_append_right (by omega)] at e
      have := List.eq_of_mem_replicate (List.mem_of_getElem? e)
      subst this
      trivial
theorem pm_body {N : List Str} {ts : TS} {vs : List V} {H : Hp} {Q : VK} {E : XK} (hN : n ≤ N.length) (h : Pm K n Pre Post vs H Q E)
    (b : ∀ (W : Wd) (F : Hp) (ss : Rho), ss.length = n → Pre W ss → Sx K W H F ts (ss ++ List.replicate (N.length - ss.length) .un) { nx := fun _ => Post W ss (.dat .none), rt := Post W ss }) :
    ts { nx := fun _ H' => Q .non H', rt := Q } (L2.start N vs) H := by
  obtain ⟨W, F, ss, o, h1, h2, h3, h4, k⟩ := h
  refine b W F ss h3 h4 (L2.start N vs) F H ⟨o, Step.refl o, holds_start h1 h2 (by rw [h3]; exact hN)⟩ _ (fun σ' F' H' ρ' a _ p => k .non F' H' (.dat .none) a.ok a.st .non p) (fun v F' H' s o' st hv p => k v F' H' s o' st hv p) (fun _ _ _ _ _ _ f => f.elim) fun _ _ _ _ _ _ f => f.elim
end
end DL

namespace DL
open PySem L2 RZ PySem.Spec PyProof.Rows
section
variable {K : PySem.W.Frag} {W : Wd} {H0 F0 : Hp} {ρ : Rho} {P : Sl → Prop} {t tk : TA} {te : TE}
theorem ev_varx {i : Nat} (h : ∃ d, ρ[i]? = some (.dat d) ∧ P (.dat d)) : Ev K W H0 (tVar i) ρ P := let ⟨_, a, b⟩ := h; ev_var a b
theorem ev_ownx {i : Nat} (h : ∃ ds, ρ[i]? = some (.ls ds) ∧ P (.ls ds)) : Ev K W H0 (tVar i) ρ P := let ⟨_, a, b⟩ := h; ev_own a b
theorem ev_refx {i : Nat} (h : ∃ v, ρ[i]? = some (.rf v) ∧ P (.rf v)) : Ev K W H0 (tVar i) ρ P := let ⟨_, a, b⟩ := h; ev_ref a b
/-! ### plain functions of data -/
abbrev Pm1 (K : PySem.W.Frag) (p : D → Prop) (f : D → D) : Sp := Pm K 1 (fun _ ss => ∃ d, ss = [.dat d] ∧ p d) (fun _ ss s => ∀ d, ss = [.dat d] → s = .dat (f d))
abbrev Pm2 (K : PySem.W.Frag) (p : D → D → Prop) (f : D → D → D) : Sp := Pm K 2 (fun _ ss => ∃ d e, ss = [.dat d, .dat e] ∧ p d e) (fun _ ss s => ∀ d e, ss = [.dat d, .dat e] → s = .dat (f d e))
theorem ev_fn1 {p : D → Prop} {f : D → D} (h : EvA K W H0 t ρ fun ss => ∃ d, ss = [.dat d] ∧ p d ∧ P (.dat (f d))) : Ev K W H0 (tFn (Pm1 K p f) t) ρ P :=
  ev_fn fun σ F H o ho Q q => h σ F H o ho Q fun vs F' H' ss o' st hv ⟨d, e, hp, k⟩ => q vs F' H' ss o' st hv (by
    subst e
    refine ⟨fun s m => ?_, rfl, ⟨d, rfl, hp⟩, fun s hs => ?_⟩
    · rw [List.mem_singleton.mp m]
      trivial
    · rw [hs d rfl]
      exact k)
theorem ev_fn2 {p : D → D → Prop} {f : D → D → D} (h : EvA K W H0 t ρ fun ss => ∃ d e, ss = [.dat d, .dat e] ∧ p d e ∧ P (.dat (f d e))) : Ev K W H0 (tFn (Pm2 K p f) t) ρ P :=
  ev_fn fun σ F H o ho Q q => h σ F H o ho Q fun vs F' H' ss o' st hv ⟨d, d2, e, hp, k⟩ => q vs F' H' ss o' st hv (by
    subst e
    refine ⟨fun s m => ?_, rfl, ⟨d, d2, rfl, hp⟩, fun s hs => ?_⟩
    · rcases List.mem_cons.mp m with e | m
      · rw [e]
        trivial
      · rw [List.mem_singleton.mp m]
        trivial
    · rw [hs d d2 rfl]
      exact k)
theorem body1 {N : List Str} {ts : TS} {vs : List V} {H : Hp} {Q : VK} {E : XK} {p : D → Prop} {f : D → D} (hN : 1 ≤ N.length) (h : Pm1 K p f vs H Q E)
    (b : ∀ (W : Wd) (F : Hp) (d : D), p d → Sx K W H F ts (.dat d :: List.replicate (N.length - 1) .un) { nx := fun _ => f d = .none, rt := fun s => s = .dat (f d) }) : ts { nx := fun _ H' => Q .non H', rt := Q } (L2.start N vs) H :=
  pm_body hN h fun W F ss _ ⟨d, e, hp⟩ => by
    subst e
    exact (b W F d hp).mono (fun _ e d' e' => by cases e'; rw [e]) (fun s e d' e' => by cases e'; exact e) (fun _ f => f) fun _ f => f
theorem body2 {N : List Str} {ts : TS} {vs : List V} {H : Hp} {Q : VK} {E : XK} {p : D → D → Prop} {f : D → D → D} (hN : 2 ≤ N.length) (h : Pm2 K p f vs H Q E)
    (b : ∀ (W : Wd) (F : Hp) (d e : D), p d e → Sx K W H F ts (.dat d :: .dat e :: List.replicate (N.length - 2) .un) { nx := fun _ => f d e = .none, rt := fun s => s = .dat (f d e) }) : ts { nx := fun _ H' => Q .non H', rt := Q } (L2.start N vs) H :=
  pm_body hN h fun W F ss _ ⟨d, d2, e, hp⟩ => by
    subst e
    exact (b W F d d2 hp).mono (fun _ e d' d2' e' => by cases e'; rw [e]) (fun s e d' d2' e' => by cases e'; exact e) (fun _ f => f) fun _ f => f
end
/-! ### repr -/
mutual
theorem no_dict {K : PySem.W.Frag} {H : Hp} : ∀ {v : V} {d : D}, L2.Dp K H v d → d.hasDict = false
  | _, _, .non => by simp [PyData.hasDict]
  | _, _, .bl _ => by simp [PyData.hasDict]
  | _, _, .int _ => by simp [PyData.hasDict]
  | _, _, .str _ => by simp [PyData.hasDict]
  | _, _, .lst _ a => by simp only [PyData.hasDict]; exact no_dicts a
  | _, _, .tup _ a => by simp only [PyData.hasDict]; exact no_dicts a
theorem no_dicts {K : PySem.W.Frag} {H : Hp} : ∀ {vs : List V} {ds : List D}, L2.DpAll K H vs ds → PyData.hasDictAll ds = false
  | _, _, .nil => by simp [PyData.hasDictAll]
  | _, _, .cons h t => by simp only [PyData.hasDictAll, no_dict h, no_dicts t, Bool.or_false]
end
section
variable {X : Cx} {K : PySem.W.Frag} {W : Wd} {P : Sl → Prop} {k : Nat}
theorem call_reprD (hgd : X.A.guards = some []) (hr : Room k X.A) : CallR X (.builtin "repr") (rReprD X.K) := by
  intro pins s σ H xs us Q I r h
  obtain ⟨v, d, rfl, hd, hdep, hsh, hl, q⟩ := h
  obtain ⟨u, rfl, ru⟩ := vals1 r
  obtain ⟨as, rd⟩ := Dp.reads I d v u hd ru
  have hnd := no_dict hd
  cases hd with
  | non =>
    cases ru
    exact PySem.P.repr_of_none ⟨.str _, H, I.tok _, ⟨_, rfl⟩, by simpa only [PyData.shown] using q⟩
  | bl b =>
    cases ru
    refine PySem.P.repr_of_bool ⟨.str _, H, I.tok _, ⟨_, rfl⟩, ?_⟩
    simpa only [PyData.shown] using q
  | int i =>
    obtain ⟨t, rfl⟩ := ru
    have hi : i.natAbs.log2 < 1920 := of_decide_eq_true (by simpa only [PyData.showable] using hsh)
    exact PySem.P.repr_of_int hi ⟨.str _, H, I.tok _, ⟨_, rfl⟩, by simpa only [PyData.shown] using q⟩
  | str x =>
    obtain ⟨t, rfl⟩ := ru
    refine PySem.P.repr_of_str ⟨.str _, H, I.tok _, ⟨_, rfl⟩, ?_⟩ (hsz := ?_)
    · simpa only [PyData.shown] using q
    · simpa only [PyData.shown] using hl
  | lst hs ha =>
    cases ru
    have := hr.un
    refine repr_of_reads' rd hsh (fun z => by rw [hnd] at z; cases z) hgd (by omega) (fun _ _ e => e) ?_ hl
    intro h' u tk hk
    exact ⟨.str _, H, I.kept (t' := tk) hk, ⟨_, rfl⟩, q⟩
  | tup hs ha =>
    cases ru
    have := hr.un
    refine repr_of_reads' rd hsh (fun z => by rw [hnd] at z; cases z) hgd (by omega) (fun _ _ e => e) ?_ hl
    intro h' u tk hk
    exact ⟨.str _, H, I.kept (t' := tk) hk, ⟨_, rfl⟩, q⟩
/-- data that may be shown, so long -/
structure Shows (n : Nat) (d : D) : Prop where
  nice : Nice d
  len : d.shown.length ≤ n
theorem cas_repr {d : D} (h : Nice d) (hl : d.shown.length ≤ sizeLine) (p : P (.dat (.str d.shown))) : CaS K W (rReprD K) [.dat d] P := fun F H xs o hx Q q => by
  cases hx with
  | cons h1 h2 =>
    cases h2
    exact ⟨_, d, rfl, (dp_mono o.sub h1).old, Nat.le_trans h.dep (by decide), h.shw, hl, q _ F H (.dat (.str _)) o (Step.refl o) (.str _) p⟩
theorem cas_reprL {s : Sl} {ds : List D} (hs : LsOf s ds) (h : Nice (.list ds)) (hl : (PyData.shown (.list ds)).length ≤ sizeLine) (p : P (.dat (.str (PyData.shown (.list ds))))) : CaS K W (rReprD K) [s] P := fun F H xs o hx Q q => by
  cases hx with
  | cons h1 h2 =>
    cases h2
    exact ⟨_, .list ds, rfl, hs.dp o h1, Nat.le_trans h.dep (by decide), h.shw, hl, q _ F H (.dat (.str _)) o (Step.refl o) (.str _) p⟩
end
end DL

namespace DL
open PySem L2
/-! ### data of bounded size -/
mutual
/-- ints no greater than k, plain signs, no dicts -/
def okD (k : Nat) : D → Bool
  | .none | .bool _ => true
  | .int i => decide (i.natAbs ≤ k)
  | .str x => x.cps.toList.all fun c => decide (c < 128)
  | .list xs | .tuple xs => okDs k xs
  | .dict _ => false
def okDs (k : Nat) : List D → Bool
  | [] => true
  | x :: xs => okD k x && okDs k xs
end
theorem okDs_iff {k : Nat} : ∀ {xs : List D}, okDs k xs = true ↔ ∀ x ∈ xs, okD k x = true
  | [] => by simp [okDs]
  | x :: xs => by simp [okDs, okDs_iff (xs := xs)]
mutual
theorem okD_mono {k l : Nat} (h : k ≤ l) : ∀ {d : D}, okD k d = true → okD l d = true
  | .none, _ => rfl
  | .bool _, _ => rfl
  | .int i, e => by
    simp only [okD, decide_eq_true_eq] at e ⊢
    omega
  | .str x, e => by simpa only [okD] using e
  | .list xs, e => by
    simp only [okD] at e ⊢
    exact okDs_mono h e
  | .tuple xs, e => by
    simp only [okD] at e ⊢
    exact okDs_mono h e
  | .dict _, e => by simp [okD] at e
theorem okDs_mono {k l : Nat} (h : k ≤ l) : ∀ {xs : List D}, okDs k xs = true → okDs l xs = true
  | [], _ => rfl
  | x :: xs, e => by
    simp only [okDs, Bool.and_eq_true] at e ⊢
    exact ⟨okD_mono h e.1, okDs_mono h e.2⟩
end
mutual
theorem okD_lay {k : Nat} : ∀ {d : D}, okD k d = true → d.canLay0 = true
  | .none, _ => rfl
  | .bool _, _ => rfl
  | .int i, e => rfl
  | .str x, e => by
    simp only [okD, List.all_eq_true, decide_eq_true_eq] at e
    show (x.cps.all fun c => decide (c < 0x110000)) = true
    rw [← Array.all_toList, List.all_eq_true]
    intro c hc
    exact decide_eq_true (Nat.lt_of_lt_of_le (e c hc) (by decide))
  | .list xs, e => by
    simp only [okD] at e
    simp only [PyData.canLay0]
    exact okDs_lay e
  | .tuple xs, e => by
    simp only [okD] at e
    simp only [PyData.canLay0]
    exact okDs_lay e
  | .dict _, e => by simp [okD] at e
theorem okDs_lay {k : Nat} : ∀ {xs : List D}, okDs k xs = true → PyData.canLayAll0 xs = true
  | [], _ => rfl
  | x :: xs, e => by
    simp only [okDs, Bool.and_eq_true] at e
    simp only [PyData.canLayAll0, Bool.and_eq_true]
    exact ⟨okD_lay e.1, okDs_lay e.2⟩
end
def big : Nat := 2 * 10 ^ 59
theorem big_log {i : Int} (h : i.natAbs ≤ big) : i.natAbs.log2 < 1920 := by
  by_cases z : i.natAbs = 0
  · rw [z]
    decide
  · rw [Nat.log2_lt z]
    exact Nat.lt_of_le_of_lt h (by decide +kernel)
theorem big_len {i : Int} (h : i.natAbs ≤ big) : (PyData.shown (.int i)).length ≤ 62 := by
  have q : i.natAbs < 10 ^ 61 := Nat.lt_of_le_of_lt h (by decide +kernel)
  have e := int_text_length_le10 (a := i) (k := 61) (by decide) q
  simp only [PyData.shown]
  rw [ofString_length]
  exact e
mutual
theorem okD_shw : ∀ {d : D}, okD big d = true → d.showable = true ∧ d.leavesShort 62 = true
  | .none, _ => ⟨rfl, rfl⟩
  | .bool _, _ => ⟨rfl, rfl⟩
  | .int i, e => by
    simp only [okD, decide_eq_true_eq] at e
    exact ⟨by simp only [PyData.showable]; exact decide_eq_true (big_log e), by simp only [PyData.leavesShort]; exact decide_eq_true (big_len e)⟩
  | .str x, e => by
    simp only [okD, List.all_eq_true, decide_eq_true_eq] at e
    refine ⟨rfl, ?_⟩
    simp only [PyData.leavesShort, List.all_eq_true]
    intro c hc
    exact decide_eq_true (Nat.lt_of_lt_of_le (e c hc) (by decide))
  | .list xs, e => by
    simp only [okD] at e
    simp only [PyData.showable, PyData.leavesShort]
    exact okDs_shw e
  | .tuple xs, e => by
    simp only [okD] at e
    simp only [PyData.showable, PyData.leavesShort]
    exact okDs_shw e
  | .dict _, e => by simp [okD] at e
theorem okDs_shw : ∀ {xs : List D}, okDs big xs = true → PyData.showableAll xs = true ∧ PyData.leavesShortAll 62 xs = true
  | [], _ => ⟨rfl, rfl⟩
  | x :: xs, e => by
    simp only [okDs, Bool.and_eq_true] at e
    have h1 := okD_shw e.1
    have h2 := okDs_shw e.2
    simp only [PyData.showableAll, PyData.leavesShortAll, Bool.and_eq_true]
    exact ⟨⟨h1.1, h2.1⟩, h1.2, h2.2⟩
end
/-- data that may be handed to anything here -/
structure Fine (d : D) : Prop where
  ok : okD big d = true
  wt : d.weight ≤ 250000
  dep : d.depth ≤ 40
theorem Fine.nice {d : D} (h : Fine d) : Nice d := ⟨okD_lay h.ok, h.dep, (okD_shw h.ok).1⟩
theorem Fine.shaped {d : D} (h : Fine d) : SeqAt.shaped d = true := h.nice.shaped
theorem Fine.shown {d : D} (h : Fine d) : d.shown.length ≤ sizeLine := by
  have e := PyData.shown_le 62 (by decide) d (okD_shw h.ok).2
  have := h.wt
  rw [sizeLine_eq]
  omega
theorem wt_mem : ∀ {xs : List D} {x : D}, x ∈ xs → x.weight + 1 ≤ PyData.weightAll xs
  | y :: ys, x, h => by
    simp only [PyData.weightAll]
    rcases List.mem_cons.mp h with e | e
    · subst e
      omega
    · have := wt_mem e
      omega
theorem dep_mem : ∀ {xs : List D} {x : D}, x ∈ xs → x.depth ≤ PyData.depthAll xs
  | y :: ys, x, h => by
    simp only [PyData.depthAll]
    rcases List.mem_cons.mp h with e | e
    · subst e
      exact Nat.le_max_left _ _
    · exact Nat.le_trans (dep_mem e) (Nat.le_max_right _ _)
theorem wt_len : ∀ (xs : List D), xs.length ≤ PyData.weightAll xs
  | [] => Nat.zero_le _
  | x :: xs => by
    have := wt_len xs
    simp only [PyData.weightAll, List.length_cons]
    omega
theorem Fine.tup {ds : List D} (h : Fine (.tuple ds)) {d : D} (m : d ∈ ds) : Fine d := by
  obtain ⟨h1, h2, h3⟩ := h
  simp only [okD] at h1
  simp only [PyData.weight] at h2
  simp only [PyData.depth] at h3
  have a := wt_mem m
  have b := dep_mem m
  exact ⟨okDs_iff.mp h1 d m, by omega, by omega⟩
theorem Fine.lst {ds : List D} (h : Fine (.list ds)) {d : D} (m : d ∈ ds) : Fine d := by
  obtain ⟨h1, h2, h3⟩ := h
  simp only [okD] at h1
  simp only [PyData.weight] at h2
  simp only [PyData.depth] at h3
  have a := wt_mem m
  have b := dep_mem m
  exact ⟨okDs_iff.mp h1 d m, by omega, by omega⟩
theorem Fine.tlen {ds : List D} (h : Fine (.tuple ds)) : ds.length ≤ 250000 := by
  have h2 := h.wt
  simp only [PyData.weight] at h2
  exact Nat.le_trans (wt_len ds) h2
theorem Fine.slen {z : Str} (h : Fine (.str z)) : z.length ≤ 250000 := by
  have h2 := h.wt
  simp only [PyData.weight] at h2
  exact h2
theorem big_line {n : Nat} (h : n ≤ 250000) : n ≤ sizeLine := Nat.le_trans h (by decide)
theorem Fine.sline {z : Str} (h : Fine (.str z)) : z.length ≤ sizeLine := big_line h.slen
end DL

namespace DL
open PySem L2
/-! ### the source of drawn numbers: a dict of a list and three ints -/
structure Nm where
  c : Str
  a : Str
  l : Str
  n : Str
  ca : ¬ c = a
  cl : ¬ c = l
  cn : ¬ c = n
  al : ¬ a = l
  an : ¬ a = n
  ln : ¬ l = n
def fdict (m : Nm) (p : Addr) (t lf k : Int) : List (Key × V) := [(.inr m.c, .ref p), (.inr m.a, .int t), (.inr m.l, .int lf), (.inr m.n, .int k)]
section
variable {m : Nm} {p : Addr} {t lf k v : Int}
theorem inr_ne {a b : Str} (h : ¬ a = b) : ¬ ((Sum.inr a : Key) = Sum.inr b) := fun z => h (Sum.inr.inj z)
theorem fd_c : valV (fdict m p t lf k) (.inr m.c) = some (.ref p) := valV_pos rfl
theorem fd_a : valV (fdict m p t lf k) (.inr m.a) = some (.int t) := by
  unfold fdict
  rw [valV_neg (inr_ne m.ca), valV_pos rfl]
theorem fd_l : valV (fdict m p t lf k) (.inr m.l) = some (.int lf) := by
  unfold fdict
  rw [valV_neg (inr_ne m.cl), valV_neg (inr_ne m.al), valV_pos rfl]
theorem fd_n : valV (fdict m p t lf k) (.inr m.n) = some (.int k) := by
  unfold fdict
  rw [valV_neg (inr_ne m.cn), valV_neg (inr_ne m.an), valV_neg (inr_ne m.ln), valV_pos rfl]
theorem put_any {kvs : List (Key × V)} {q : Key} {w : V} (h : (kvs.any fun kv => decide (kv.1 = q)) = true) : putK kvs q w = kvs.map fun kv => if kv.1 = q then (kv.1, w) else kv := by
  unfold putK
  rw [if_pos h]
theorem fp_a : putK (fdict m p t lf k) (.inr m.a) (.int v) = fdict m p v lf k := by
  have h1 : ¬ m.l = m.a := fun z => m.al z.symm
  have h2 : ¬ m.n = m.a := fun z => m.an z.symm
  rw [put_any (by simp [fdict])]
  simp [fdict, m.ca, h1, h2]
theorem fp_l : putK (fdict m p t lf k) (.inr m.l) (.int v) = fdict m p t v k := by
  have h : ¬ m.n = m.l := fun z => m.ln z.symm
  rw [put_any (by simp [fdict])]
  simp [fdict, m.cl, m.al, h]
theorem fp_n : putK (fdict m p t lf k) (.inr m.n) (.int v) = fdict m p t lf v := by
  rw [put_any (by simp [fdict])]
  simp [fdict, m.cn, m.an, m.ln]
end
/-- the world with such a source at a, its list at l -/
def feedW (m : Nm) (a l : Addr) (cs : List Int) : Wd where
  Z := fun b => b = a ∨ b = l
  I := fun H => ∃ t lf k : Int, H a = some (.dK (fdict m l t lf k)) ∧ H l = some (.lst (cs.map V.int)) ∧ 0 ≤ t ∧ 0 ≤ lf ∧ 0 ≤ k
  stab := fun H H' ⟨t, lf, k, h1, h2, h3⟩ hk => ⟨t, lf, k, hk a _ (.inl rfl) h1, hk l _ (.inr rfl) h2, h3⟩
section
variable {K : PySem.W.Frag} {H0 F0 : Hp} {ρ : Rho} {P : Sl → Prop} {te : TE} {m : Nm} {a l : Addr} {cs : List Int}
/-- the state of the source is changed -/
theorem feed_put {F H : Hp} {t lf k : Int} (o : Ok (feedW m a l cs) F H) (h0 : 0 ≤ t ∧ 0 ≤ lf ∧ 0 ≤ k) :
    Ok (feedW m a l cs) F (upd H a (.dK (fdict m l t lf k))) ∧ Step (feedW m a l cs) F H F (upd H a (.dK (fdict m l t lf k))) := by
  obtain ⟨t', lf', k', h1, h2, _⟩ := o.inv
  have hal : l ≠ a := fun z => by
    rw [z, h1] at h2
    cases h2
  refine ⟨⟨fun b u e => ?_, fun b hz => ⟨(o.z b hz).1, ?_⟩, ⟨t, lf, k, upd_same, by rw [upd_ne hal]; exact h2, h0⟩⟩, Same.refl _, fun b u hz e => ?_, fun b hf _ => hf⟩
  · have q : b ≠ a := fun z => by
      rw [z, (o.z a (.inl rfl)).1] at e
      cases e
    rw [upd_ne q]
    exact o.sub b u e
  · by_cases q : b = a
    · rw [q, upd_same]
      exact fun z => nomatch z
    · rw [upd_ne q]
      exact (o.z b hz).2
  · have q : b ≠ a := fun z => hz (.inl z)
    rw [upd_ne q]
    exact e
/-- reading an int of the source: any that isn't negative -/
theorem ev_fgetI {i : Nat} {x : Str} (hi : ρ[i]? = some (.rf (.ref a))) (hx : x = m.a ∨ x = m.l ∨ x = m.n) (p : ∀ v : Int, 0 ≤ v → P (.dat (.int v))) : Ev K (feedW m a l cs) H0 (tDGet (tVar i) (tC (.str x))) ρ P := fun σ F H o ho Q q => by
  obtain ⟨t, lf, k, h1, h2, h3, h4, h5⟩ := o.inv
  refine ⟨.ref a, ho.at_ i _ hi, ?_⟩
  rcases hx with e | e | e
  · subst e
    exact ⟨a, .int t, rfl, by have := DGet.k (k := .inr m.a) h1; rw [fd_a] at this; exact this, q _ F H (.dat (.int t)) o (Step.refl o) (.int _) (p t h3)⟩
  · subst e
    exact ⟨a, .int lf, rfl, by have := DGet.k (k := .inr m.l) h1; rw [fd_l] at this; exact this, q _ F H (.dat (.int lf)) o (Step.refl o) (.int _) (p lf h4)⟩
  · subst e
    exact ⟨a, .int k, rfl, by have := DGet.k (k := .inr m.n) h1; rw [fd_n] at this; exact this, q _ F H (.dat (.int k)) o (Step.refl o) (.int _) (p k h5)⟩
theorem ev_fgetC {i : Nat} (hi : ρ[i]? = some (.rf (.ref a))) (p : P (.rf (.ref l))) : Ev K (feedW m a l cs) H0 (tDGet (tVar i) (tC (.str m.c))) ρ P := fun σ F H o ho Q q => by
  obtain ⟨t, lf, k, h1, h2, h3, h4, h5⟩ := o.inv
  exact ⟨.ref a, ho.at_ i _ hi, a, .ref l, rfl, by have := DGet.k (k := .inr m.c) h1; rw [fd_c] at this; exact this, q _ F H (.rf (.ref l)) o (Step.refl o) rfl p⟩
/-- storing an int -/
theorem sx_fput {i : Nat} {x : Str} {N : Ends2} (hi : ρ[i]? = some (.rf (.ref a))) (hx : x = m.a ∨ x = m.l ∨ x = m.n) (h : Ev K (feedW m a l cs) H0 te ρ fun s => ∃ v : Int, s = .dat (.int v) ∧ 0 ≤ v ∧ N.nx ρ) : Sx K (feedW m a l cs) H0 F0 (sDPut (tVar i) (tC (.str x)) te) ρ N := fun σ F H at_ D n r b c => by
  refine h σ F H at_.ok at_.ho _ fun w F1 H1 s o1 st1 hw ⟨v, e, hv, k1⟩ => ?_
  subst e
  rw [vok_int hw]
  have a1 := at_.step o1 st1
  obtain ⟨t, lf, k, h1, h2, h3, h4, h5⟩ := o1.inv
  refine ⟨.ref a, a1.ho.at_ i _ hi, ?_⟩
  have hl : ∀ t lf k : Int, (fdict m l t lf k).length < sizeLine := fun _ _ _ => by
    show 4 < sizeLine
    decide
  rcases hx with e | e | e
  · subst e
    obtain ⟨o2, st2⟩ := feed_put (t := v) (lf := lf) (k := k) o1 ⟨hv, h4, h5⟩
    refine ⟨a, _, rfl, ?_, n σ F1 _ ρ (a1.step o2 st2) (st1.fz.trans st2.fz) k1⟩
    have := DPut.k (k := .inr m.a) (v := .int v) h1 (hl _ _ _)
    rw [fp_a] at this
    exact this
  · subst e
    obtain ⟨o2, st2⟩ := feed_put (t := t) (lf := v) (k := k) o1 ⟨h3, hv, h5⟩
    refine ⟨a, _, rfl, ?_, n σ F1 _ ρ (a1.step o2 st2) (st1.fz.trans st2.fz) k1⟩
    have := DPut.k (k := .inr m.l) (v := .int v) h1 (hl _ _ _)
    rw [fp_l] at this
    exact this
  · subst e
    obtain ⟨o2, st2⟩ := feed_put (t := t) (lf := lf) (k := v) o1 ⟨h3, h4, hv⟩
    refine ⟨a, _, rfl, ?_, n σ F1 _ ρ (a1.step o2 st2) (st1.fz.trans st2.fz) k1⟩
    have := DPut.k (k := .inr m.n) (v := .int v) h1 (hl _ _ _)
    rw [fp_n] at this
    exact this
/-- the source's list -/
theorem cas_flen (p : P (.dat (.int cs.length))) : CaS K (feedW m a l cs) (rLenA K) [.rf (.ref l)] P := fun F H xs o hx Q q => by
  obtain ⟨t, lf, k, h1, h2, _⟩ := o.inv
  cases hx with
  | cons e1 e2 =>
    cases e2
    rw [show _ = V.ref l from e1]
    refine ⟨_, cs.length, rfl, .inl ⟨_, SqL.of h2, by rw [List.length_map]⟩, q _ F H (.dat (.int _)) o (Step.refl o) (.int _) p⟩
theorem ops_fix {i : Int} (h0 : 0 ≤ i) (h1 : i < cs.length) (p : ∀ v : Int, P (.dat (.int v))) : OpS K (feedW m a l cs) (rIx K) (.rf (.ref l)) (.dat (.int i)) P := fun F H x y o hx hy Q q => by
  obtain ⟨t, lf, k, g1, g2, _⟩ := o.inv
  rw [show x = V.ref l from hx, vok_int hy]
  have hi : i.toNat < (cs.map V.int).length := by rw [List.length_map]; omega
  have e : (cs.map V.int)[i.toNat]? = some (.int (cs[i.toNat]'(by simpa using hi))) := by simp [show i.toNat < cs.length by simpa using hi]
  have e2 := atI_nat e
  rw [show ((i.toNat : Nat) : Int) = i by omega] at e2
  exact .inl ⟨l, _, i, _, rfl, rfl, SqL.of g2, e2, q _ F H (.dat (.int _)) o (Step.refl o) (.int _) (p _)⟩
theorem ints_dp {F : Hp} : ∀ ns : List Int, DpAll K F (ns.map V.int) (ns.map .int)
  | [] => .nil
  | n :: ns => .cons (.int n) (ints_dp ns)
theorem ints_lay : ∀ ns : List Int, PyData.canLayAll0 (ns.map .int) = true
  | [] => rfl
  | n :: ns => by
    show (PyData.canLay0 (.int n) && PyData.canLayAll0 (ns.map .int)) = true
    rw [ints_lay ns]
    rfl
theorem ints_dep : ∀ ns : List Int, PyData.depthAll (ns.map .int) = 0
  | [] => rfl
  | n :: ns => by
    show max (PyData.depth (.int n)) (PyData.depthAll (ns.map .int)) = 0
    rw [ints_dep ns]
    rfl
theorem ops_fne (p : P (.dat (.bool (!cs.isEmpty)))) : OpS K (feedW m a l cs) (rNe2 K) (.rf (.ref l)) (.dat (.list [])) P := OpS.inl fun F H x y o hx hy Q q => by
  obtain ⟨t, lf, k, g1, g2, _⟩ := o.inv
  rw [show x = V.ref l from hx]
  refine ⟨.list (cs.map .int), .list [], .lst (SqL.of g2) (ints_dp (K := K) (F := H) cs).old, (dp_mono o.sub hy).old, ?_, by decide +kernel, ?_⟩
  · show ((PyData.list (cs.map .int)).canLay0 && decide ((PyData.list (cs.map .int)).depth ≤ 64)) = true
    simp only [PyData.canLay0, PyData.depth, ints_lay, ints_dep]
    rfl
  · have e : PyData.eqv (.list (cs.map .int)) (.list []) = cs.isEmpty := by cases cs <;> simp [PyData.eqv, PyData.eqvAll]
    rw [e]
    exact q _ F H (.dat (.bool _)) o (Step.refl o) (.bl _) p
/-! ### functions that draw -/
theorem dat_inj : ∀ {ds es : List D}, ds.map Sl.dat = es.map Sl.dat → ds = es
  | [], [], _ => rfl
  | [], _ :: _, h => by cases h
  | _ :: _, [], h => by cases h
  | d :: ds, e :: es, h => by
    rw [List.map_cons, List.map_cons] at h
    injection h with h1 h2
    injection h1 with h1
    rw [h1, dat_inj h2]
abbrev PmF (nm : Nm) (K : PySem.W.Frag) (n : Nat) (pre : List D → Prop) (post : List D → D → Prop) : Sp := Pm K (n + 1)
  (fun W ss => ∃ a l cs ds, W = feedW nm a l cs ∧ ss = .rf (.ref a) :: ds.map .dat ∧ ds.length = n ∧ pre ds) (fun _ ss s => ∀ v ds, ss = v :: ds.map .dat → ∃ d, s = .dat d ∧ post ds d)
theorem nols_dat (ds : List D) : ∀ s ∈ ds.map Sl.dat, NoLs s := fun s h => by
  obtain ⟨d, _, rfl⟩ := List.mem_map.mp h
  trivial
theorem ev_fnF {n : Nat} {pre : List D → Prop} {post : List D → D → Prop} {t : TA} (h : EvA K (feedW m a l cs) H0 t ρ fun ss => ∃ ds, ss = .rf (.ref a) :: ds.map .dat ∧ ds.length = n ∧ pre ds ∧ ∀ d, post ds d → P (.dat d)) :
    Ev K (feedW m a l cs) H0 (tFn (PmF m K n pre post) t) ρ P :=
  ev_fn fun σ F H o ho Q q => h σ F H o ho Q fun vs F' H' ss o' st hv ⟨ds, e, hl, hp, k⟩ => q vs F' H' ss o' st hv (by
    subst e
    refine ⟨fun s hs => ?_, by simp [hl], ⟨a, l, cs, ds, rfl, rfl, hl, hp⟩, fun s hs => ?_⟩
    · rcases List.mem_cons.mp hs with e | e
      · rw [e]
        trivial
      · exact nols_dat ds s e
    · obtain ⟨d, e, hd⟩ := hs _ ds rfl
      rw [e]
      exact k d hd)
theorem bodyF {N : List Str} {ts : TS} {vs : List V} {H : Hp} {Q : VK} {E : XK} {nm : Nm} {n : Nat} {pre : List D → Prop} {post : List D → D → Prop} (hN : n + 1 ≤ N.length) (h : PmF nm K n pre post vs H Q E)
    (b : ∀ (a l : Addr) (cs : List Int) (F : Hp) (ds : List D), ds.length = n → pre ds → Sx K (feedW nm a l cs) H F ts (.rf (.ref a) :: (ds.map .dat ++ List.replicate (N.length - (n + 1)) .un)) { nx := fun _ => post ds .none, rt := fun s => ∃ d, s = .dat d ∧ post ds d }) :
    ts { nx := fun _ H' => Q .non H', rt := Q } (L2.start N vs) H :=
  pm_body hN h fun W F ss hss ⟨a, l, cs, ds, eW, e, hl, hp⟩ => by
    subst e eW
    have e2 : (Sl.rf (V.ref a) :: ds.map Sl.dat).length = n + 1 := by simp [hl]
    have := b a l cs F ds hl hp
    rw [e2]
    refine this.mono (fun _ p v es he => ?_) (fun s p v es he => ?_) (fun _ f => f) fun _ f => f
    · injection he with _ he
      rw [← dat_inj he]
      exact ⟨_, rfl, p⟩
    · injection he with _ he
      rw [← dat_inj he]
      exact p
end
end DL

namespace DL
open PySem L2
/-! ### bounds of what is drawn and bent -/
theorem atI_in {α : Type} {ds : List α} {i : Int} (h0 : 0 ≤ i) (h1 : i < ds.length) : ∃ d, atI ds i = some d ∧ d ∈ ds := by
  have hi : i.toNat < ds.length := by omega
  have e := atI_nat (List.getElem?_eq_getElem hi)
  rw [show ((i.toNat : Nat) : Int) = i by omega] at e
  exact ⟨_, e, List.getElem_mem hi⟩
/-- ints to k, so heavy, so deep at the most -/
structure Bd (k w n : Nat) (d : D) : Prop where
  ok : okD k d = true
  wt : d.weight ≤ w
  dep : d.depth ≤ n
structure Bds (k w n : Nat) (ds : List D) : Prop where
  ok : okDs k ds = true
  wt : PyData.weightAll ds ≤ w
  dep : PyData.depthAll ds ≤ n
section
variable {k w n k' w' n' : Nat} {d : D} {ds es : List D}
theorem Bd.mono (h : Bd k w n d) (a : k ≤ k') (b : w ≤ w') (c : n ≤ n') : Bd k' w' n' d := ⟨okD_mono a h.ok, Nat.le_trans h.wt b, Nat.le_trans h.dep c⟩
theorem Bds.mono (h : Bds k w n ds) (a : k ≤ k') (b : w ≤ w') (c : n ≤ n') : Bds k' w' n' ds := ⟨okDs_mono a h.ok, Nat.le_trans h.wt b, Nat.le_trans h.dep c⟩
theorem Bd.fine (h : Bd k w n d) (a : k ≤ big) (b : w ≤ 250000) (c : n ≤ 40) : Fine d := ⟨okD_mono a h.ok, Nat.le_trans h.wt b, Nat.le_trans h.dep c⟩
theorem bd_tup : Bd k w (n + 1) (.tuple ds) ↔ Bds k w n ds := by
  constructor
  · rintro ⟨a, b, c⟩
    simp only [okD] at a
    simp only [PyData.weight] at b
    simp only [PyData.depth] at c
    exact ⟨a, b, by omega⟩
  · rintro ⟨a, b, c⟩
    refine ⟨by simpa only [okD] using a, by simpa only [PyData.weight] using b, ?_⟩
    simp only [PyData.depth]
    omega
theorem bd_lst : Bd k w (n + 1) (.list ds) ↔ Bds k w n ds := by
  constructor
  · rintro ⟨a, b, c⟩
    simp only [okD] at a
    simp only [PyData.weight] at b
    simp only [PyData.depth] at c
    exact ⟨a, b, by omega⟩
  · rintro ⟨a, b, c⟩
    refine ⟨by simpa only [okD] using a, by simpa only [PyData.weight] using b, ?_⟩
    simp only [PyData.depth]
    omega
theorem bds_nil : Bds k w n [] := ⟨rfl, Nat.zero_le _, Nat.zero_le _⟩
theorem bds_cons {a b : Nat} (h : Bd k a n d) (h' : Bds k b n ds) : Bds k (a + 1 + b) n (d :: ds) := by
  refine ⟨by simp only [okDs, h.ok, h'.ok, Bool.and_self], ?_, ?_⟩
  · have := h.wt
    have := h'.wt
    simp only [PyData.weightAll]
    omega
  · have := h.dep
    have := h'.dep
    simp only [PyData.depthAll]
    omega
theorem wt_app : ∀ (xs ys : List D), PyData.weightAll (xs ++ ys) = PyData.weightAll xs + PyData.weightAll ys
  | [], ys => by simp [PyData.weightAll]
  | x :: xs, ys => by
    have := wt_app xs ys
    simp only [List.cons_append, PyData.weightAll]
    omega
theorem dep_app : ∀ (xs ys : List D), PyData.depthAll (xs ++ ys) = max (PyData.depthAll xs) (PyData.depthAll ys)
  | [], ys => by simp [PyData.depthAll]
  | x :: xs, ys => by
    have := dep_app xs ys
    simp only [List.cons_append, PyData.depthAll]
    omega
theorem ok_app {xs ys : List D} : okDs k (xs ++ ys) = (okDs k xs && okDs k ys) := by
  induction xs with
  | nil => simp [okDs]
  | cons x xs ih =>
    simp only [List.cons_append, okDs, ih, Bool.and_assoc]
theorem bds_app {a b : Nat} (h : Bds k a n ds) (h' : Bds k b n es) : Bds k (a + b) n (ds ++ es) := by
  refine ⟨by rw [ok_app, h.ok, h'.ok]; rfl, ?_, ?_⟩
  · have := h.wt
    have := h'.wt
    rw [wt_app]
    omega
  · have := h.dep
    have := h'.dep
    rw [dep_app]
    omega
theorem bds_sub (h : Bds k w n ds) : ∀ {es : List D}, es.Sublist ds → Bds k w n es := fun {es} s => by
  obtain ⟨a, b, c⟩ := h
  induction s generalizing w with
  | slnil => exact bds_nil
  | cons x s ih =>
    simp only [okDs, Bool.and_eq_true] at a
    simp only [PyData.weightAll] at b
    simp only [PyData.depthAll] at c
    exact (ih (w := w) a.2 (by omega) (by omega))
  | cons_cons x s ih =>
    simp only [okDs, Bool.and_eq_true] at a
    simp only [PyData.weightAll] at b
    simp only [PyData.depthAll] at c
    have := ih (w := w - x.weight - 1) a.2 (by omega) (by omega)
    exact (bds_cons (a := x.weight) ⟨a.1, Nat.le_refl _, by omega⟩ this).mono (Nat.le_refl _) (by omega) (Nat.le_refl _)
theorem bds_perm {xs ys : List D} (p : xs.Perm ys) (h : Bds k w n xs) : Bds k w n ys := by
  refine ⟨?_, ?_, ?_⟩
  · rw [okDs_iff]
    intro y hy
    exact okDs_iff.mp h.ok y (p.mem_iff.mpr hy)
  · have : PyData.weightAll xs = PyData.weightAll ys := by
      induction p with
      | nil => rfl
      | cons x _ ih =>
        simp only [PyData.weightAll]
        rw [ih ⟨(by have := h.ok; simp only [okDs, Bool.and_eq_true] at this; exact this.2), (by have := h.wt; simp only [PyData.weightAll] at this; omega), (by have := h.dep; simp only [PyData.depthAll] at this; omega)⟩]
      | swap x y l =>
        simp only [PyData.weightAll]
        omega
      | trans p1 _ ih1 ih2 =>
        rw [ih1 h]
        refine ih2 ⟨?_, ?_, ?_⟩
        · rw [okDs_iff]
          intro y hy
          exact okDs_iff.mp h.ok y (p1.mem_iff.mpr hy)
        · rw [← ih1 h]
          exact h.wt
        · refine Nat.le_trans (dep_sub fun y hy => p1.mem_iff.mpr hy) h.dep
    rw [← this]
    exact h.wt
  · exact Nat.le_trans (dep_sub fun y hy => p.mem_iff.mpr hy) h.dep
where
  dep_sub {xs ys : List D} (h : ∀ y ∈ ys, y ∈ xs) : PyData.depthAll ys ≤ PyData.depthAll xs := by
    induction ys with
    | nil => exact Nat.zero_le _
    | cons y ys ih =>
      simp only [PyData.depthAll]
      exact Nat.max_le.mpr ⟨dep_mem (h y (by simp)), ih fun z hz => h z (List.mem_cons_of_mem _ hz)⟩
theorem bds_rev (h : Bds k w n ds) : Bds k w n ds.reverse := bds_perm (List.reverse_perm ds).symm h
theorem bds_mem (h : Bds k w n ds) (m : d ∈ ds) : Bd k w n d := by
  have a := wt_mem m
  have b := dep_mem m
  have := h.wt
  have := h.dep
  exact ⟨okDs_iff.mp h.ok d m, by omega, by omega⟩
theorem bds_cut (h : Bds k w n ds) (lo hi : Option Int) : Bds k w n (cutD ds lo hi) := bds_sub h ((List.take_sublist _ _).trans (List.drop_sublist _ _))
end
section
variable {K : PySem.W.Frag} {W : Wd} {P : Sl → Prop} {ds es : List D} {s t : Sl}
/-- what is put together is kept as it is -/
theorem ops_catF (hs : LsOf s ds) (ht : LsOf t es) (hl : ds.length + es.length ≤ sizeLine) (p : P (.dat (.list (ds ++ es)))) : OpS K W (rAdd4 K) s t P := fun F H x y o hx hy Q q => by
  obtain ⟨a, xs, rfl, a1, a2⟩ := hs.get o hx
  obtain ⟨b, ys, rfl, b1, b2⟩ := ht.get o hy
  refine .inl (.inr ⟨a, b, xs, ys, rfl, rfl, a1, b1, by rw [dpa_len a2, dpa_len b2]; exact hl, fun p' hp => ?_⟩)
  obtain ⟨o2, st2⟩ := o.new (u := .lst (xs ++ ys)) hp
  exact q _ _ _ (.dat (.list (ds ++ es))) o2 st2 (.lst upd_same (dpa_mono st2.fz (dpa_app a2 b2))) p
theorem cas_listF (hs : SqOf s ds) (p : P (.dat (.list ds))) : CaS K W (rListOf K) [s] P := fun F H xs o hx Q q => by
  cases hx with
  | cons e1 e2 =>
    cases e2
    obtain ⟨a, vs, rfl, a1, a2⟩ := hs.get o e1
    refine ⟨a, vs, rfl, a1, fun l hl => ?_⟩
    obtain ⟨o2, st2⟩ := o.new (u := .lst vs) hl
    exact q _ _ _ (.dat (.list ds)) o2 st2 (.lst upd_same (dpa_mono st2.fz a2)) p
end
end DL

/-! ### xs[::-1] of a tuple or a list -/
namespace DL
open PySem PySem.Spec PyProof.Rows HT L2
section
variable {prog : Program} {w : World} {A : Around} {E : Value → Shared → Prop} {s : Shared}
theorem pick_same {α β : Type} {f g : α → Option β} : ∀ {l : List α}, (∀ x ∈ l, f x = g x) → l.filterMap f = l.filterMap g
  | [], _ => rfl
  | x :: l, h => by
    rw [List.filterMap_cons, List.filterMap_cons, h x (by simp), pick_same fun y hy => h y (List.mem_cons_of_mem _ hy)]
theorem back_run (zs : Array Value) : ((List.range zs.size).filterMap fun (k : Nat) => zs[((zs.size : Int) - 1 + (k : Int) * -1).toNat]?).toArray = zs.toList.reverse.toArray := by
  have h1 := pick_gen zs.toList.reverse.toArray 0 zs.size
  rw [List.drop_zero, List.take_of_length_le (by simp)] at h1
  rw [show zs.toList.reverse.toArray.toList.toArray = zs.toList.reverse.toArray by simp] at h1
  rw [← h1]
  refine congrArg List.toArray (pick_same fun k hk => ?_)
  have hk := List.mem_range.mp hk
  rw [show ((zs.size : Int) - 1 + (k : Int) * -1).toNat = zs.size - 1 - k by omega, show (((0 : Nat) : Int) + (k : Int) * 1).toNat = k by omega]
  simp [List.getElem?_reverse, hk]
theorem back_cut {sl : Addr} {v1 v2 v3 : Value} {n : Nat} {Q : Int × Int × Nat → Shared → Prop} (hs : s.heap.IsSliceOf sl v1 v2 v3) (p1 : IsPart v1 none) (p2 : IsPart v2 none) (p3 : IsPart v3 (some (-1)))
    (h : Q ((n : Int) - 1, -1, n) s) : wpAny (model prog w) A (Builtin.Slice.sliceApplied (.ref sl) (pure (n : Int))) Q E s := by
  obtain ⟨ob, e1, e2, e3⟩ := id hs
  unfold Builtin.Slice.sliceApplied Builtin.Slice.sliceFields
  refine wpAny_bind (wpAny_bind (wpAny_field e1 e3 (x := v1) rfl (wpAny_bind (wpAny_field e1 e3 (x := v2) rfl (wpAny_bind (wpAny_field e1 e3 (x := v3) rfl (wpAny_pure ?_)))))))
  refine wpAny_bind (slicePart_ p3 ?_)
  show wpAny _ _ (if ((-1 : Int) == 0) = true then _ else _) _ _ s
  rw [if_neg (by decide)]
  refine wpAny_bind (slicePart_ p1 (wpAny_bind (slicePart_ p2 (wpAny_bind (wpAny_pure ?_)))))
  have e : Builtin.Slice.slicePlaces ((n : Int) - 1) (-1) (-1) = n := by
    unfold Builtin.Slice.slicePlaces
    by_cases z : (n : Int) - 1 > -1
    · simp [z]
    · have : n = 0 := by omega
      subst this
      simp
  show wpAny _ _ (pure ((n : Int) - 1, (-1 : Int), Builtin.Slice.slicePlaces ((n : Int) - 1) (-1) (-1))) _ _ s
  rw [e]
  exact wpAny_pure h
theorem back_tup {t sl : Addr} {zs : Array Value} {v1 v2 v3 : Value} {Q : Value → Shared → Prop} (h1 : IsTup s.heap t zs) (hs : s.heap.IsSliceOf sl v1 v2 v3) (p1 : IsPart v1 none) (p2 : IsPart v2 none) (p3 : IsPart v3 (some (-1)))
    (h : Q (.ref s.heap.objs.size) { s with heap := s.heap.push { cls := .type "tuple", data := .seq zs.toList.reverse.toArray } }) (hz : zs.size ≤ sizeLine) : wpAny (model prog w) A (getItem (.ref t) (.ref sl)) Q E s := by
  have hfit : sizeOk (.seq zs.toList.reverse.toArray) := by
    show zs.toList.reverse.toArray.size ≤ sizeLine
    rw [List.size_toArray, List.length_reverse, Array.length_toList]
    exact hz
  obtain ⟨ob, e1, e2, e3⟩ := id hs
  have hT : s.TypeIs (.ref sl) "slice" := ⟨ob, e1, e2⟩
  unfold getItem
  try with_reducible refine wpAny_holding ?_
  first | refine wpAny_bind (wpAny_pure ?_) | skip
  refine wpAny_bind (wpAny_sequenceKey h1.typeIs (by decide) ?_)
  refine wpAny_bind (wpAny_callSpecial?_slot (name := Str.ofString "__getitem__") h1.typeIs PyProof.Rows.slot_tuple_getitem (wpAny_call_entry PyProof.Rows.slot_tuple_getitem h1.typeIs entry_tuple_getitem ?_ (args_tuple_getitem _ _)))
  show wpAny _ _ (Builtin.Tuple.tupleItemsOf (.ref t) >>= _) _ _ s
  refine wpAny_bind (tupleItemsOf_ h1 ?_)
  refine wpAny_bind (wpAny_typeOf hT ?_)
  rw [if_pos (by decide)]
  refine wpAny_bind (back_cut hs p1 p2 p3 ?_)
  have hno : ¬ ((((zs.size : Int) - 1) == 0 && (-1 : Int) == 1 && zs.size == zs.size) = true) := by simp
  show wpAny _ _ (if (((zs.size : Int) - 1) == 0 && (-1 : Int) == 1 && zs.size == zs.size) = true then _ else _) _ _ s
  rw [if_neg hno, back_run]
  first
    | exact wpAny_bind (m := Builtin.Tuple.tupleExact _) (wpAny_newObj_type (wpAny_pure ⟨_, rfl, wpAny_pure h⟩) hfit)
    | exact wpAny_bind (m := Builtin.Tuple.tupleExact _) (wpAny_newObj_type (wpAny_bind (wpAny_pure (wpAny_pure ⟨_, rfl, wpAny_pure h⟩))) hfit)
    | exact wpAny_bind (wpAny_bind (m := Builtin.Tuple.tupleExact _) (wpAny_newObj_type (wpAny_pure (wpAny_pure ⟨_, rfl, wpAny_pure h⟩)) hfit))
    | exact wpAny_bind (wpAny_bind (m := Builtin.Tuple.tupleExact _) (wpAny_newObj_type (wpAny_pure ⟨_, rfl, wpAny_pure h⟩) hfit))
end
section
variable {X : Cx}
/-- xs[::-1]: a new one of the same kind -/
def tRevA (K : PySem.W.Frag) (te : TE) : TE := fun σ H Q => te σ H fun x H1 => ∃ a xs, x = .ref a ∧
  ((SqL K H1 a xs ∧ ∀ p, H1 p = none → Q (.ref p) (upd H1 p (.lst xs.reverse))) ∨ (SqT K H1 a xs ∧ ∀ p, H1 p = none → Q (.ref p) (upd H1 p (.tup xs.reverse))))
theorem pe_revA {e : Expr} {te : TE} {k : Nat} {q1 q2 q3 pos : Pos} (he : PE X e te) : PE X (.Subscript e (.Slice none none (some (.UnaryOp .USub (.Constant (.int 1) k q1) q2)) q3) pos) (tRevA X.K te) := by
  refine ⟨fun pins s σ H Q I h => Subscript_ (thn (he.run pins s σ H _ I h) fun v sa ⟨x, Ha, Ia, ra, a, xs, ex, q⟩ => ?_)⟩
  subst ex
  cases ra
  refine wpAny_Slice (thn (po_none.run pins sa σ Ha (fun o H2 => o = none ∧ H2 = Ha) Ia ⟨rfl, rfl⟩) fun vl sb ⟨l, Hb, Ib, pl, el, eb⟩ => ?_)
  subst el eb
  refine thn (po_none.run pins sb σ Hb (fun o H3 => o = none ∧ H3 = Hb) Ib ⟨rfl, rfl⟩) fun vu sc ⟨u, Hc, Ic, pu, eu, ec⟩ => ?_
  subst eu ec
  refine thn ((po_some (X := X) (pe_un un_neg (pe_int (X := X)))).run pins sc σ Hc (fun o H4 => o = some (-1) ∧ H4 = Hc) Ic ⟨1, rfl, -1, rfl, rfl, rfl⟩) fun vs sd ⟨o, Hd, Id, ps, eo, ed⟩ => ?_
  subst eo ed
  have J : Inv X pins σ Hd { sd with heap := sd.heap.push { cls := .type "slice", data := .fields #[vl, vu, vs] } } := Id.kept (t' := sd.toks) fun b ob q => Heap.get?_push_of_some _ q
  show wpAny (model X.prog X.w) X.A (subscriptTail e _ (.ref a) (.ref sd.heap.objs.size)) (EP X pins σ Q) X.xe _
  rcases q with ⟨hx, q⟩ | ⟨hx, q⟩
  · obtain ⟨its, r, ht, hz⟩ := J.list hx
    have hn := r.length
    refine tail_any (ops := [.ref a, .ref sd.heap.objs.size]) ht.isList.typeIs (PySem.slot_list_getitem.lookup) ?_ (by with_unfolding_all rfl)
    refine wpAny_getItem_list_slice ht.isList (Heap.IsSliceOf.new _ vl vu vs) pl pu ps (by decide) ?_ (by rw [List.size_toArray]; omega)
    rw [PySem.W.krv_pick]
    refine ⟨.ref _, _, J.laid (t' := sd.toks) (o := .lst xs.reverse) (fun b ob q => Heap.get?_push_of_some _ q) (Nat.le_refl _) ?_, rfl, q _ (J.hok.fresh (Nat.le_refl _))⟩
    exact ⟨by rw [List.length_reverse]; exact hz, _, 0, r.reverse, Heap.get?_push_size _ rfl⟩
  · obtain ⟨its, r, ht, hz⟩ := J.tuple hx
    have hn := r.length
    refine tail_any (ops := [.ref a, .ref sd.heap.objs.size]) ht.typeIs (PyProof.Rows.slot_tuple_getitem.lookup) ?_ (by with_unfolding_all rfl)
    refine back_tup ht (Heap.IsSliceOf.new _ vl vu vs) pl pu ps ?_ (by rw [List.size_toArray]; omega)
    refine ⟨.ref _, _, J.laid (t' := sd.toks) (o := .tup xs.reverse) (fun b ob q => Heap.get?_push_of_some _ q) (Nat.le_refl _) ?_, rfl, q _ (J.hok.fresh (Nat.le_refl _))⟩
    exact ⟨by rw [List.length_reverse]; exact hz, _, r.reverse, IsTup.new _ _⟩
end
section
variable {K : PySem.W.Frag} {W : Wd} {H0 : Hp} {ρ : Rho} {P : Sl → Prop} {te : TE} {ds : List D}
theorem ev_rev (h : Ev K W H0 te ρ fun s => ∃ ds, (s = .dat (.tuple ds) ∧ P (.dat (.tuple ds.reverse))) ∨ (LsOf s ds ∧ P (.dat (.list ds.reverse)))) : Ev K W H0 (tRevA K te) ρ P := fun σ F H o ho Q q => by
  refine h σ F H o ho _ fun v F1 H1 s o1 st1 hv ⟨ds, h1⟩ => ?_
  rcases h1 with ⟨e, p⟩ | ⟨e, p⟩
  · subst e
    obtain ⟨a, xs, rfl, a1, a2⟩ := dp_tup hv
    refine ⟨a, xs, rfl, .inr ⟨SqT.of (o1.sub _ _ a1), fun l hl => ?_⟩⟩
    obtain ⟨o2, st2⟩ := o1.new (u := .tup xs.reverse) hl
    exact q _ _ _ (.dat (.tuple ds.reverse)) o2 (st1.trans o1 st2) (.tup upd_same (dpa_rev (dpa_mono st2.fz a2))) p
  · obtain ⟨a, xs, rfl, a1, a2⟩ := e.get o1 hv
    refine ⟨a, xs, rfl, .inl ⟨SqL.of a1, fun l hl => ?_⟩⟩
    obtain ⟨o2, st2⟩ := o1.new (u := .lst xs.reverse) hl
    exact q _ _ _ (.dat (.list ds.reverse)) o2 (st1.trans o1 st2) (.lst upd_same (dpa_rev (dpa_mono st2.fz a2))) p
theorem ev_revT (h : Ev K W H0 te ρ fun s => ∃ ds, s = .dat (.tuple ds) ∧ P (.dat (.tuple ds.reverse))) : Ev K W H0 (tRevA K te) ρ P := ev_rev (h.mono fun s ⟨ds, e, p⟩ => ⟨ds, .inl ⟨e, p⟩⟩)
end
end DL

namespace DL
open PySem L2
/-! ### texts: bounds, upper, str(n) -/
section
variable {k w n m : Nat} {x y : Str}
/-- plain signs, so long at the most -/
structure Bt (w : Nat) (x : Str) : Prop where
  ok : ∀ c ∈ x.cps.toList, c < 128
  len : x.length ≤ w
theorem bd_str : Bd k w n (.str x) ↔ Bt w x := by
  constructor
  · rintro ⟨a, b, _⟩
    simp only [okD, List.all_eq_true, decide_eq_true_eq] at a
    simp only [PyData.weight] at b
    exact ⟨a, b⟩
  · rintro ⟨a, b⟩
    refine ⟨?_, by simp only [PyData.weight]; exact b, by simp [PyData.depth]⟩
    simp only [okD, List.all_eq_true, decide_eq_true_eq]
    exact a
theorem Bt.mono {v : Nat} (h : Bt w x) (l : w ≤ v) : Bt v x := ⟨h.ok, Nat.le_trans h.len l⟩
theorem bt_lit (x : Str) (h : (x.cps.toList.all fun c => decide (c < 128)) = true := by decide +kernel) : Bt x.length x := ⟨fun c hc => of_decide_eq_true (List.all_eq_true.mp h c hc), Nat.le_refl _⟩
theorem bt_app {v : Nat} (h : Bt w x) (h' : Bt v y) : Bt (w + v) (x ++ y) := by
  obtain ⟨a, b⟩ := h
  obtain ⟨c, d⟩ := h'
  have e : (x ++ y).cps.toList = x.cps.toList ++ y.cps.toList := by
    show (x.cps ++ y.cps).toList = _
    rw [Array.toList_append]
  refine ⟨fun z hz => ?_, ?_⟩
  · rw [e] at hz
    rcases List.mem_append.mp hz with q | q
    · exact a z q
    · exact c z q
  · show (x.cps ++ y.cps).size ≤ _
    rw [Array.size_append]
    exact Nat.add_le_add b d
theorem bt_cut (h : Bt w x) (lo hi : Option Int) : Bt w (cutS x lo hi) := by
  obtain ⟨a, b⟩ := h
  have e : (cutS x lo hi).cps.toList = ((x.cps.toList.drop (HT.sIx x.length 0 lo)).take (HT.sIx x.length x.length hi - HT.sIx x.length 0 lo)) := rfl
  refine ⟨fun z hz => ?_, ?_⟩
  · rw [e] at hz
    exact a z (List.mem_of_mem_drop (List.mem_of_mem_take hz))
  · refine Nat.le_trans ?_ b
    show ((cutS x lo hi).cps).size ≤ x.cps.size
    rw [← Array.length_toList, e, List.length_take, List.length_drop, Array.length_toList]
    omega
theorem up_plain : ∀ c : Fin 128, (Unicode.upperOf c.val).length = 1 ∧ ∀ d ∈ Unicode.upperOf c.val, d < 128 := by decide +kernel
theorem bt_up (h : Bt w x) : Bt w (Txt.upper x) := by
  obtain ⟨a, b⟩ := h
  have up : ∀ c : Nat, c < 128 → (Unicode.upperOf c).length = 1 ∧ ∀ d ∈ Unicode.upperOf c, d < 128 := fun c hc => up_plain ⟨c, hc⟩
  have e : (Txt.upper x).cps.toList = (x.cps.toList.map Unicode.upperOf).flatten := by
    show ((x.cps.mapIdx fun i c => (Unicode.upperOf c).toArray).flatten).toList = _
    simp [Array.toList_flatten, Array.toList_mapIdx, List.mapIdx_eq_zipIdx_map, Function.comp_def, ← List.map_map]
    have q := List.zipIdx_map_fst 0 x.cps.toList
    refine congrArg List.flatten ?_
    refine Eq.trans ?_ (congrArg (List.map Unicode.upperOf) q)
    rw [List.map_map, List.map_map]
    rfl
  refine ⟨fun z hz => ?_, ?_⟩
  · rw [e] at hz
    obtain ⟨l, hl, hz⟩ := List.mem_flatten.mp hz
    obtain ⟨c, hc, rfl⟩ := List.mem_map.mp hl
    exact (up c (a c hc)).2 z hz
  · refine Nat.le_trans ?_ b
    show (Txt.upper x).cps.size ≤ x.cps.size
    rw [← Array.length_toList, e, ← Array.length_toList]
    have : ∀ l : List Nat, (∀ c ∈ l, c < 128) → (l.map Unicode.upperOf).flatten.length = l.length := fun l => by
      induction l with
      | nil => intro _; rfl
      | cons c l ih =>
        intro hl
        rw [List.map_cons, List.flatten_cons, List.length_append, ih fun d hd => hl d (List.mem_cons_of_mem _ hd), (up c (hl c (by simp))).1, List.length_cons]
        omega
    exact Nat.le_of_eq (this _ a)
theorem bt_int {i : Int} (h : i.natAbs ≤ big) : Bt 62 (Str.ofString (toString i)) := by
  refine ⟨fun c hc => ?_, ?_⟩
  · by_cases z : c < 128
    · exact z
    · exact absurd hc (PyProof.Rows.int_text_free' c ⟨by omega, .inr (by omega)⟩ i)
  · have := big_len h
    simpa only [PyData.shown] using this
end
section
variable {X : Cx}
/-- str(n), of a truth, too -/
def rStrA : List V → Hp → VK → Prop := fun xs H Q => (∃ i, xs = [.int i] ∧ i.natAbs.log2 < 1920 ∧ Q (.str (toString i)) H) ∨ (∃ b : Bool, xs = [.bl b] ∧ Q (.str (if b then "True" else "False")) H)
theorem call_strA : CallR X (.type "str") rStrA := by
  intro pins s σ H xs us Q I r h
  rcases h with ⟨i, rfl, hz, q⟩ | ⟨b, rfl, q⟩
  · exact call_str_int pins s σ H _ us Q I r ⟨i, rfl, hz, q⟩
  · obtain ⟨u, rfl, e⟩ := vals1 r
    cases e
    exact PySem.P.str_of_bool ⟨.str _, H, I.tok _, ⟨_, rfl⟩, q⟩
end
section
variable {K : PySem.W.Frag} {W : Wd} {P : Sl → Prop}
theorem tys_str {z : Str} : TyS K W "str" (.dat (.str z)) := fun F H x o hx => by
  rw [vok_str hx]
  rfl
theorem mts_upper {z : Str} (hl : z.length ≤ 250000) (p : P (.dat (.str (Txt.upper z)))) : MtS K W (fun x xs H Q => ∃ a, x = .str a ∧ xs = [] ∧ a.length ≤ 5592405 ∧ Q (.str (Txt.upper a)) H) (.dat (.str z)) [] P := fun F H x xs o hx hxs Q q => by
  cases hxs
  rw [vok_str hx]
  exact ⟨z, rfl, rfl, Nat.le_trans hl (by decide), q _ F H (.dat (.str _)) o (Step.refl o) (.str _) p⟩
theorem cas_strI {i : Int} (h : i.natAbs ≤ big) (p : P (.dat (.str (Str.ofString (toString i))))) : CaS K W rStrA [.dat (.int i)] P := fun F H xs o hx Q q => by
  cases hx with
  | cons e1 e2 =>
    cases e2
    rw [vok_int e1]
    exact .inl ⟨i, rfl, big_log h, q _ F H (.dat (.str _)) o (Step.refl o) (.str _) p⟩
theorem cas_strB {b : Bool} (p : P (.dat (.str (if b then "True" else "False")))) : CaS K W rStrA [.dat (.bool b)] P := fun F H xs o hx Q q => by
  cases hx with
  | cons e1 e2 =>
    cases e2
    rw [vok_bool e1]
    exact .inr ⟨b, rfl, q _ F H (.dat (.str _)) o (Step.refl o) (.str _) p⟩
end
end DL
namespace DL
open PySem L2
section
variable {k w n : Nat} {d : D} {ds : List D}
theorem bd_int {i : Int} (h : i.natAbs ≤ k) (hk : k ≤ big) : Bd k 198 n (.int i) := by
  refine ⟨by simp only [okD]; exact decide_eq_true h, ?_, by simp [PyData.depth]⟩
  have q : i.natAbs ≤ big := Nat.le_trans h hk
  simp only [PyData.weight]
  split
  · exact Nat.zero_le _
  · next z =>
    have z : i.natAbs ≠ 0 := fun e => z (by rw [Int.natAbs_eq_zero.mp e]; rfl)
    have : i.natAbs.log2 < 198 := by
      rw [Nat.log2_lt z]
      exact Nat.lt_of_le_of_lt q (by decide +kernel)
    omega
theorem bd_bool {b : Bool} : Bd k w n (.bool b) := ⟨rfl, by simp [PyData.weight], by simp [PyData.depth]⟩
theorem bd_none : Bd k w n .none := ⟨rfl, by simp [PyData.weight], by simp [PyData.depth]⟩
theorem bds_one (h : Bd k w n d) : Bds k (w + 1) n [d] := (bds_cons h bds_nil (b := 0)).mono (Nat.le_refl _) (by omega) (Nat.le_refl _)
theorem okD_int {i : Int} (h : okD k (.int i) = true) : i.natAbs ≤ k := by simpa only [okD, decide_eq_true_eq] using h
theorem bd_self (h : okD k d = true) : Bd k d.weight d.depth d := ⟨h, Nat.le_refl _, Nat.le_refl _⟩
end
end DL

namespace DL
open PySem L2
/-! ### expressions that change an own list: xs.pop(i) in a comprehension -/
section
variable {K : PySem.W.Frag} {W : Wd} {H0 F0 : Hp} {ρ : Rho} {te : TE} {N : Ends2}
/-- all but the own lists of ρ stands -/
structure But (W : Wd) (σ : St) (ρ : Rho) (F H F' H' : Hp) : Prop where
  fz : Same F F'
  kp : ∀ b u, ¬ W.Z b → (∀ (i : Nat) (es : List D), ρ[i]? = some (.ls es) → σ[i]? ≠ some (some (.ref b))) → H b = some u → H' b = some u
  nw : ∀ b, F b = none → H b ≠ none → F' b = none
def Ev2 (K : PySem.W.Frag) (W : Wd) (H0 F0 : Hp) (te : TE) (ρ : Rho) (P : Sl → Rho → Prop) : Prop := ∀ σ F H, At K W H0 F0 σ F H ρ → ∀ Q : VK,
  (∀ v F' H' s ρ', At K W H0 F0 σ F' H' ρ' → But W σ ρ F H F' H' → VOk K W F' H' v s → P s ρ' → Q v H') → te σ H Q
theorem ev2_of {P : Sl → Rho → Prop} (h : Ev K W H0 te ρ fun s => P s ρ) : Ev2 K W H0 F0 te ρ P := fun σ F H a Q q => h σ F H a.ok a.ho Q fun v F' H' s o st hv p => q v F' H' s ρ (a.step o st) ⟨st.fz, fun b u hz _ e => st.kp b u hz e, st.nw⟩ hv p
theorem ev2_pop {i : Nat} {ds : List D} {P : Sl → Rho → Prop} (hi : ρ[i]? = some (.ls ds)) (h : Ev K W H0 te ρ fun s => ∃ n : Nat, s = .dat (.int n) ∧ n < 2 ^ 62 ∧ ∃ d, ds[n]? = some d ∧ P (.dat d) (ρ.set i (.ls (ds.eraseIdx n)))) :
    Ev2 K W H0 F0 (tBM K "list" rPopAt (tVar i) (tCons te tNil)) ρ P := fun σ F H a Q q => by
  obtain ⟨p, vs, g1, g2, g3, g4, g5, g6⟩ := a.ho.at_ i _ hi
  refine ⟨.ref p, g1, .inl ⟨rfl, _, SqL.of g2⟩, ?_⟩
  refine h σ F H a.ok a.ho _ fun v F' H' s o st hv ⟨n, e, hn, d, hd, k⟩ => ?_
  subst e
  rw [vok_int hv]
  have g2' := st.kp p _ g4 g2
  have g3' := st.nw p g3 (by rw [g2]; exact fun z => nomatch z)
  have g6' := dpa_mono st.fz g6
  obtain ⟨y, hy, hyd⟩ := dpa_get' g6' hd
  have hlt : n < vs.length := (List.getElem?_eq_some_iff.mp hy).1
  refine ⟨p, vs, n, n, y, rfl, rfl, g2', by omega, by omega, ?_, hy, ?_⟩
  · rw [seqIndex_of (by omega) (by omega)]
    simp
  have a' := a.step o st
  have o2 : Ok W F' (upd H' p (.lst (vs.eraseIdx n))) := o.mut g2' g4 g3'
  refine q y F' _ (.dat d) (ρ.set i (.ls (ds.eraseIdx n))) ⟨o2, ⟨a'.st.fz, fun b' u hz' e' => ?_, fun b' hf hh => a'.st.nw b' hf hh⟩, a'.ho.mut hi g1 (dpa_erase n g6')⟩ ⟨st.fz, fun b' u hz' hno e' => ?_, st.nw⟩ hyd k
  · have q : b' ≠ p := fun z => by rw [z, g5] at e'; cases e'
    rw [upd_ne q]
    exact a'.st.kp b' u hz' e'
  · have q : b' ≠ p := fun z => hno i ds hi (z ▸ g1)
    rw [upd_ne q]
    exact st.kp b' u hz' e'
theorem wipe_off {σ : St} {i : Nat} : ∀ {vs : List Nat}, i ∉ vs → (wipe σ vs)[i]? = σ[i]?
  | [], _ => rfl
  | u :: us, h => by
    show ((wipe σ us).set u none)[i]? = _
    have hu : u ≠ i := fun z => h (by rw [z]; exact List.mem_cons_self)
    rw [List.getElem?_set_ne hu, wipe_off fun z => h (List.mem_cons_of_mem _ z)]
theorem wipeR_off {ρ : Rho} {i : Nat} : ∀ {vs : List Nat}, i ∉ vs → (wipeR ρ vs)[i]? = ρ[i]?
  | [], _ => rfl
  | u :: us, h => by
    show ((wipeR ρ us).set u .un)[i]? = _
    have hu : u ≠ i := fun z => h (by rw [z]; exact List.mem_cons_self)
    rw [List.getElem?_set_ne hu, wipeR_off fun z => h (List.mem_cons_of_mem _ z)]
theorem wipe_back {σ : St} {i : Nat} {v : V} : ∀ {vs : List Nat}, (wipe σ vs)[i]? = some (some v) → σ[i]? = some (some v)
  | [], h => h
  | u :: us, h => by
    have h : ((wipe σ us).set u none)[i]? = some (some v) := h
    by_cases q : u = i
    · subst q
      rw [List.getElem?_set] at h
      simp at h
    · rw [List.getElem?_set_ne q] at h
      exact wipe_back h
theorem wipe_len {σ : St} : ∀ {vs : List Nat}, (wipe σ vs).length = σ.length
  | [] => rfl
  | u :: us => by
    show ((wipe σ us).set u none).length = _
    rw [List.length_set, wipe_len]
theorem Holds.unwipe {σ : St} {F H : Hp} {vs : List Nat} (h : Holds K W H0 (L2.wipe σ vs) F H ρ) : Holds K W H0 σ F H ρ := by
  refine ⟨by rw [← h.len, wipe_len], fun i s e => ?_, fun i j ds es p hij e1 e2 e3 e4 => ?_⟩
  · have g := h.at_ i s e
    cases s with
    | un => trivial
    | dat d => obtain ⟨w, g1, g2⟩ := g; exact ⟨w, wipe_back g1, g2⟩
    | ls ds => obtain ⟨p, ws, g1, g2⟩ := g; exact ⟨p, ws, wipe_back g1, g2⟩
    | rf u => exact wipe_back g
  · obtain ⟨p1, _, g1, _⟩ := h.at_ i _ e1
    obtain ⟨p2, _, g2, _⟩ := h.at_ j _ e2
    have k1 := wipe_back g1
    have k2 := wipe_back g2
    rw [e3] at k1
    rw [e4] at k2
    have q1 : p = p1 := by simpa using k1
    have q2 : p = p2 := by simpa using k2
    exact h.dis i j ds es p hij e1 e2 (q1 ▸ g1) (q2 ▸ g2)
theorem yes_then {σ : St} {H : Hp} {A B : Hp → Prop} (h : A H) : tYes σ H fun b H3 => if b = true then A H3 else B H3 := by
  show (if true = true then A H else B H)
  rw [if_pos rfl]
  exact h
/-- xs = [e for ..], e changes the own list at slot j -/
theorem sx_lc2 {wi : TI} {g : TG} {vs : List Nat} {j k : Nat} {p0 : List D} (hj : (wipeR ρ vs)[j]? = some (.ls p0)) (J : List D → Nat → List D → List D → Prop)
    (h : EvI K W H0 wi ρ fun ds => ds.length < sizeLine ∧ J ds 0 [] p0 ∧ (∀ i d acc p, ds[i]? = some d → J ds i acc p → GC K W H0 vs g (.dat d) ((wipeR ρ vs).set j (.ls p)) fun ρ2 => (∀ i ∈ vs, ∀ es, ρ2[i]? ≠ some (.ls es)) ∧ wipeR ρ2 vs = (wipeR ρ vs).set j (.ls p) ∧
      Ev2 K W H0 F0 te ρ2 fun s ρ3 => ∃ e p', s = .dat e ∧ wipeR ρ3 vs = (wipeR ρ vs).set j (.ls p') ∧ J ds (i + 1) (acc ++ [e]) p') ∧
      ∀ acc p, J ds ds.length acc p → N.nx (((wipeR ρ vs).set j (.ls p)).set k (.ls acc))) :
    Sx K W H0 F0 (tAsg (tLc wi g tYes te vs) (gName k)) ρ N := fun σ F H a D n r b c =>
  h σ F H a.ok a.ho _ fun Jt F' H' ds o' st it ⟨hl, j0, js, jd⟩ => by
    have a' := a.step o' st
    obtain ⟨G, Y, w, hG, hY⟩ := it.w
    intro Da hD
    obtain ⟨oD, stD⟩ := o'.own (u := .lst []) hD
    have nz : ¬ W.Z Da := o'.nz hD
    have h0 : H0 Da = none := a'.st.back o' hD
    have hw := a'.ho.wipe vs
    have own : ∀ (i : Nat) (es : List DL.D), (wipeR ρ vs)[i]? = some (.ls es) → (wipe σ vs)[i]? ≠ some (some (.ref Da)) := fun i es e z => by
      obtain ⟨q, ws, g1, g2, _⟩ := hw.at_ i _ e
      rw [z] at g1
      have : Da = q := by simpa using g1
      rw [← this, hD] at g2
      cases g2
    have j0' : (wipeR ρ vs).set j (.ls p0) = wipeR ρ vs := by
      have hlt := (List.getElem?_eq_some_iff.mp hj).1
      refine List.ext_getElem? fun m => ?_
      by_cases q : j = m
      · subst q
        rw [List.getElem?_set_self hlt, hj]
      · rw [List.getElem?_set_ne q]
    have own2 : ∀ (p : List DL.D) (i : Nat) (es : List DL.D), ((wipeR ρ vs).set j (.ls p))[i]? = some (.ls es) → (wipe σ vs)[i]? ≠ some (some (.ref Da)) := fun p i es e => by
      by_cases q : j = i
      · subst q
        exact own j p0 hj
      · rw [List.getElem?_set_ne q] at e
        exact own i es e
    have ofD : ∀ {F2 H2 : Hp} {ws : List V} {ρ' : Rho}, (∀ (i : Nat) (es : List DL.D), ρ'[i]? = some (.ls es) → (wipe σ vs)[i]? ≠ some (some (.ref Da))) → Holds K W H0 (wipe σ vs) F2 H2 ρ' → Holds K W H0 (wipe σ vs) F2 (upd H2 Da (.lst ws)) ρ' := fun {F2 H2 ws ρ'} own h => by
      refine ⟨h.len, fun i s e => ?_, h.dis⟩
      have g := h.at_ i s e
      cases s with
      | un => trivial
      | dat d => exact g
      | ls es =>
        obtain ⟨q, xs, g1, g2, g3⟩ := g
        have z : q ≠ Da := fun z => own i es e (z ▸ g1)
        exact ⟨q, xs, g1, by rw [upd_ne z]; exact g2, g3⟩
      | rf u => exact g
    refine lc_it w (fun i H2 => ∃ F2 vs2 acc p, Ok W F2 H2 ∧ Same F' F2 ∧ Step W F0 H0 F2 H2 ∧ H2 Da = some (.lst vs2) ∧ F2 Da = none ∧ DpAll K F2 vs2 acc ∧ acc.length ≤ i ∧ Holds K W H0 (wipe σ vs) F2 H2 ((wipeR ρ vs).set j (.ls p)) ∧ J ds i acc p) ?_ ?_ ?_ ?_
    · exact ⟨F', [], [], p0, oD, Same.refl _, a'.st.trans o' stD, upd_same, o'.free hD, .nil, Nat.le_refl _, by rw [j0']; exact hw.step stD, j0⟩
    · rintro i H2 _ ⟨F2, vs2, acc, p, o2, sm2, _⟩
      exact hG F2 H2 o2 sm2
    · rintro i x H2 H3 hi ⟨F2, vs2, acc, p, o2, sm2, st2, hA, hF, hd, ha, hh, jj⟩ y
      obtain ⟨F3, d, o3, st3, e1, e2⟩ := hY i x F2 H2 H3 hi o2 sm2 y
      have hs := js i d acc p e1 jj
      have hA3 := st3.kp _ _ nz hA
      have hF3 := st3.nw Da hF (by rw [hA]; exact fun z => nomatch z)
      refine hs x (wipe σ vs) F3 H3 o3 (hh.step st3) e2 _ fun σ4 ρ4 h4 ew ⟨oA, oB, ev⟩ => ?_
      have ew := ew.trans (wipe_idem fun _ z => z)
      refine ⟨ew, ?_⟩
      have notD : ∀ (i : Nat) (es : List DL.D), ρ4[i]? = some (.ls es) → σ4[i]? ≠ some (some (.ref Da)) := fun i es e z => by
        have m : i ∉ vs := fun m => oA i m es e
        refine own2 p i es ?_ ?_
        · rw [← oB, wipeR_off m]
          exact e
        · rw [← ew, wipe_off m]
          exact z
      refine yes_then ?_
      have sm3 : Same F' F3 := sm2.trans st3.fz
      refine ev σ4 F3 H3 ⟨o3, st2.trans o2 st3, h4⟩ _ fun v F5 H5 s ρ5 a5 bt hv ⟨e, p', es, eR, jn⟩ => ?_
      subst es
      have hA5 := bt.kp Da _ nz notD hA3
      have hF5 := bt.nw Da hF3 (by rw [hA3]; exact fun z => nomatch z)
      have hd5 := dpa_mono bt.fz (dpa_mono st3.fz hd)
      have h5 := a5.ho.wipe vs
      rw [ew, eR] at h5
      refine ⟨vs2, hA5, by rw [dpa_len hd5]; omega, F5, vs2 ++ [v], acc ++ [e], p', a5.ok.mut hA5 nz hF5, sm3.trans bt.fz, ⟨a5.st.fz, fun b u hz e => ?_, a5.st.nw⟩, upd_same, hF5, dpa_app hd5 (.cons hv .nil), by rw [List.length_append, List.length_singleton]; omega, ofD (own2 p') h5, jn⟩
      have q : b ≠ Da := fun z => by rw [z, h0] at e; cases e
      rw [upd_ne q]
      exact a5.st.kp b u hz e
    · rintro H2 ⟨F2, vs2, acc, p, o2, sm2, st2, hA, hF, hd, ha, hh, jj⟩
      refine n _ F2 H2 _ ⟨o2, st2, hh.unwipe.setOwn hA hF nz h0 hd fun i es e z => ?_⟩ (st.fz.trans sm2) (jd acc p jj)
      obtain ⟨q, ws, g1, _⟩ := hh.at_ i _ e
      have := wipe_back g1
      rw [z] at this
      have q1 : Da = q := by simpa using this
      exact own2 p i es e (q1 ▸ g1)
end
section
variable {X : Cx}
/-- a method in a block, whose kit is known -/
theorem pe_bmK {K : PySem.W.Frag} {T : String} {id : String} {name : Str} {r : V → List V → Hp → VK → Prop} {o e : Expr} {es : List Expr} {to : TE} {t : TA} {apos cpos : Pos} (hK : X.K = K) (pa : PlainAttrs T) (slot : Slot T name id) (hty : typeOf (.builtin id) = pure (.type "method_descriptor")) (hm : MtR X id r) (ho : PE X o to) (ha : PA X (e :: es) t)
    (hbase : attributeBase o name X.env (eval o X.env) = eval o X.env := by rfl)
    (hfew : ((backTo cpos (starEach (e :: es) X.env)).all (fun x => !x.1) && (backToKw cpos (keywordEach [] X.env)).all (fun x => x.1.isSome) && decide ((e :: es).length + ([] : List Keyword).length + (if ([] : List Keyword).isEmpty then 0 else 1) < 30)) = true := by rfl)
    (hline : (apos.endLine == cpos.line) = true := by rfl) (hs : starEach (e :: es) X.env = (false, eval e X.env) :: starEach es X.env := by rfl) (hplain : (backTo cpos (starEach es X.env)).any (·.1) = false := by rfl) :
    PE X (.Call (.Attribute o name apos) (e :: es) [] cpos) (tBM K T r to t) := by
  subst hK
  exact pe_bm pa slot hty hm ho ha hbase hfew hline hs hplain
/-- sorted: of ints, of texts -/
def rSortedA (K : PySem.W.Frag) : List V → Hp → VK → Prop := fun xs H Q => rSorted K xs H Q ∨ rSortedS K xs H Q
theorem cr_sortedA : CallR X (.builtin "sorted") (rSortedA X.K) := cr_sorted.or cr_sortedS
end
section
variable {K : PySem.W.Frag} {W : Wd} {P : Sl → Prop} {s : Sl}
theorem dpa_ints' {F : Hp} : ∀ {vs : List V} {ns : List Int}, DpAll K F vs (ns.map .int) → vs = ns.map V.int
  | _, [], .nil => rfl
  | _, n :: ns, .cons h1 h2 => by
    rw [dp_int h1, dpa_ints' h2]
    rfl
theorem dpa_ofstrs {F : Hp} : ∀ xs : List Str, DpAll K F (xs.map V.str) (xs.map .str)
  | [] => .nil
  | x :: xs => .cons (.str x) (dpa_ofstrs xs)
theorem cas_sortI {ns : List Int} (hs : LsOf s (ns.map .int)) (hl : ns.length < 64) (p : ∀ ms : List Int, ms.Perm ns → ms.Pairwise (· ≤ ·) → P (.dat (.list (ms.map .int)))) : CaS K W (rSortedA K) [s] P := fun F H xs o hx Q q => by
  cases hx with
  | cons e1 e2 =>
    cases e2
    obtain ⟨a, vs, rfl, a1, a2⟩ := hs.get o e1
    rw [dpa_ints' a2] at a1
    refine .inl ⟨a, ns, rfl, SqL.of a1, hl, fun ms l h1 h2 hn => ?_⟩
    obtain ⟨o2, st2⟩ := o.new (u := .lst (ms.map V.int)) hn
    exact q _ _ _ (.dat (.list (ms.map .int))) o2 st2 (.lst upd_same (ints_dp ms)) (p ms h1 h2)
theorem cas_sortS {ns : List Str} (hs : LsOf s (ns.map .str)) (hl : ns.length < 64) (p : ∀ ms : List Str, ms.Perm ns → PyProof.Rows.sortedS ms = true → P (.dat (.list (ms.map .str)))) : CaS K W (rSortedA K) [s] P := fun F H xs o hx Q q => by
  cases hx with
  | cons e1 e2 =>
    cases e2
    obtain ⟨a, vs, rfl, a1, a2⟩ := hs.get o e1
    rw [dpa_strs a2] at a1
    refine .inr ⟨a, ns, rfl, SqL.of a1, hl, fun ms l h1 h2 hn => ?_⟩
    obtain ⟨o2, st2⟩ := o.new (u := .lst (ms.map V.str)) hn
    exact q _ _ _ (.dat (.list (ms.map .str))) o2 st2 (.lst upd_same (dpa_ofstrs ms)) (p ms h1 h2)
end
end DL

namespace DL
open PySem L2
section
variable {K : PySem.W.Frag} {W : Wd} {H0 F0 : Hp} {ρ : Rho} {te te2 : TE} {N : Ends2}
/-- xs.extend(ys), xs one's own -/
theorem sx_ext {i : Nat} {ds : List D} (hi : ρ[i]? = some (.ls ds)) (h : Ev K W H0 te ρ fun s => ∃ es, s = .dat (.list es) ∧ ds.length + es.length ≤ sizeLine ∧ N.nx (ρ.set i (.ls (ds ++ es)))) :
    Sx K W H0 F0 (tDrop (tBM K "list" rExtend (tVar i) (tCons te tNil))) ρ N := fun σ F H a D n r b c => by
  obtain ⟨p, vs, g1, g2, g3, g4, g5, g6⟩ := a.ho.at_ i _ hi
  refine ⟨.ref p, g1, .inl ⟨rfl, _, SqL.of g2⟩, ?_⟩
  refine h σ F H a.ok a.ho _ fun v F' H' s o' st hv ⟨es, e, hz, k⟩ => ?_
  subst e
  obtain ⟨q, ws, rfl, q1, q2⟩ := dp_lst hv
  have g2' := st.kp p _ g4 g2
  have g3' := st.nw p g3 (by rw [g2]; exact fun z => nomatch z)
  have g6' := dpa_mono st.fz g6
  refine ⟨p, q, vs, ws, rfl, rfl, g2', o'.sub _ _ q1, by rw [dpa_len g6, dpa_len q2]; exact hz, ?_⟩
  have a' := a.step o' st
  have o2 : Ok W F' (upd H' p (.lst (vs ++ ws))) := o'.mut g2' g4 g3'
  refine n σ F' _ _ ⟨o2, ⟨a'.st.fz, fun b' u hz' e' => ?_, fun b' hf hh => ?_⟩, a'.ho.mut hi g1 (dpa_app g6' q2)⟩ st.fz k
  · have q : b' ≠ p := fun z => by rw [z, g5] at e'; cases e'
    rw [upd_ne q]
    exact a'.st.kp b' u hz' e'
  · exact a'.st.nw b' hf hh
/-- x, y = e, a new list -/
theorem sx_parN {i j : Nat} (h : Ev K W H0 te ρ fun s => NoLs s ∧ EvN K W H0 te2 ρ fun ds => N.nx ((ρ.set i s).set j (.ls ds))) : Sx K W H0 F0 (tPar i j (tCons te (tCons te2 tNil))) ρ N := fun σ F H a D n r b c => by
  refine h σ F H a.ok a.ho _ fun v F1 H1 s o1 st1 hv ⟨hn, h2⟩ => ?_
  have a1 := a.step o1 st1
  refine h2 σ F1 H1 o1 a1.ho _ fun p vs F2 H2 ds o2 st2 hp hl hf hz hd k => ?_
  have a2 := a1.step o2 st2
  have hs1 := a1.ho.set (i := i) hv hn
  refine ⟨v, .ref p, rfl, n _ F2 H2 _ ⟨o2, a2.st, ((hs1.step st2)).setOwn hl hf hz (a1.st.back o1 hp) hd fun m es e z => ?_⟩ (st1.fz.trans st2.fz) k⟩
  obtain ⟨q, ws, g1, g2, _⟩ := hs1.at_ m _ e
  rw [z] at g1
  have : p = q := by simpa using g1
  rw [← this, hp] at g2
  cases g2
/-- the rest of a body, its base heap chosen anew -/
theorem sx_anew {ts : TS} {σ : St} {F H : Hp} {D : Ends} (o : Ok W F H) (ho : Holds K W H0 σ F H ρ) (st : Step W F H0 F H) (h : Sx K W H0 F ts ρ N)
    (n : ∀ σ' F' H' ρ', Ok W F' H' → N.nx ρ' → D.nx σ' H') (r : ∀ v F' H' s, Ok W F' H' → VOk K W F' H' v s → N.rt s → D.rt v H') (b : ∀ ρ', ¬ N.bk ρ') (c : ∀ ρ', ¬ N.ct ρ') : ts D σ H :=
  h σ F H ⟨o, st, ho⟩ D (fun σ' F' H' ρ' a' _ k => n σ' F' H' ρ' a'.ok k) (fun v F' H' s o' _ hv k => r v F' H' s o' hv k) (fun σ' F' H' ρ' a' _ k => absurd k (b ρ')) fun σ' F' H' ρ' a' _ k => absurd k (c ρ')
end
end DL
namespace DL
open PySem L2 RZ PySem.Spec PyProof.Rows
section
variable {X : Cx} {k n : Nat} {f : Addr} {fd : FuncData} {ps ks : List Str} {sp : Sp} {x : Str} {p pos : Pos} {e : Expr} {es : List Expr} {t : TA} {dvs : List V}
/-- a def by its name, where dvs fill up -/
structure FnD (Pg : Program) (w : World) (K : PySem.W.Frag) (mg : Str → Option Value) (base : Heap) (x : Str) (k : Nat) (ps : List Str) (sp : Sp) (dvs : List V) : Prop where
  ex : ∃ f fd ds, FnG Pg w K mg base k f fd ps sp ∧ mg x = some (.ref f) ∧ PySem.W.keepIn K (.ref f) = true ∧ Binds K fd ps ds ∧ Vals dvs ds
def tFnD (sp : Sp) (dvs : List V) (t : TA) : TE := fun σ H Q => t σ H fun vs H1 => sp (vs ++ dvs) H1 Q E0
theorem pe_fnD (C : FnD X.prog X.w X.K X.mg X.base x k ps sp dvs) (hgd : X.A.guards = some []) (hr : Room k X.A) (hg : Gl X x) (ha : PA X (e :: es) t) (hdb : (x == ("__debug__" : Str)) = false := by decide)
    (he : starEach (e :: es) X.env = (false, eval e X.env) :: starEach es X.env := by rfl) (hpl : (backTo pos (starEach es X.env)).any (·.1) = false := by rfl) : PE X (.Call (.Name x p) (e :: es) [] pos) (tFnD sp dvs t) := by
  obtain ⟨f, fd, ds, F, hm, hk, hb, hd⟩ := C.ex
  refine ⟨fun pins s σ H Q I h => wpAny_Call_Name_kw (ld_glob I hg hm ?_ hdb)⟩
  refine PySem.W.callWith_K (h₀ := X.base) I.ok.mod.kin hk (thn (ha.run pos pins s σ H _ I h) ?_) he hpl
  rintro us s1 ⟨vs, H1, I1, r, q⟩
  have r2 : Vals (vs ++ dvs) (us ++ ds) := r.append hd
  have hl : (us ++ ds).length = ps.length := by rw [← r2.length]; exact F.len _ _ _ _ q
  exact ⟨I1.kIn, run_G (args := ⟨us, []⟩) F hgd hr I1 (hb s1 us I1.kIn hl) r2 q⟩
end
section
variable {K : PySem.W.Frag} {W : Wd} {H0 : Hp} {ρ : Rho} {P : Sl → Prop} {t tk : TA}
/-- .. the second of two is None -/
theorem ev_fnD {p : D → D → Prop} {f : D → D → D} (h : EvA K W H0 t ρ fun ss => ∃ d, ss = [.dat d] ∧ p d .none ∧ P (.dat (f d .none))) : Ev K W H0 (tFnD (Pm2 K p f) [.non] t) ρ P := fun σ F H o ho Q q =>
  h σ F H o ho _ fun vs F1 H1 ss o1 st1 hv ⟨d, e, hp, k⟩ => by
    subst e
    cases hv with
    | cons h1 h2 =>
      cases h2
      exact ⟨W, F1, [.dat d, .dat .none], o1, .cons h1 (.cons .non .nil), by simp [NoLs], rfl, ⟨d, .none, rfl, hp⟩, fun v F2 H2 s o2 st2 hv2 p2 => q v F2 H2 s o2 (st1.trans o1 st2) hv2 (by rw [p2 d .none rfl]; exact k)⟩
/-- one by place, one by name -/
theorem ev_fnK11 {p : D → D → Prop} {f : D → D → D} (h : EvA K W H0 t ρ fun ss => EvA K W H0 tk ρ fun rs => ∃ d e, ss = [.dat d] ∧ rs = [.dat e] ∧ p d e ∧ P (.dat (f d e))) : Ev K W H0 (tFnK 1 1 (Pm2 K p f) (fun vs zs => vs ++ zs) t tk) ρ P := fun σ F H o ho Q q =>
  h σ F H o ho _ fun vs F1 H1 ss o1 st1 hv h2 => h2 σ F1 H1 o1 (ho.step st1) _ fun zs F2 H2 rs o2 st2 hz ⟨d, e, e1, e2, hp, k⟩ => by
    subst e1 e2
    cases hv with
    | cons h1 hn =>
      cases hn
      cases hz with
      | cons g1 gn =>
        cases gn
        exact ⟨rfl, rfl, W, F2, [.dat d, .dat e], o2, .cons (h1.step st2) (.cons g1 .nil), by simp [NoLs], rfl, ⟨d, e, rfl, hp⟩, fun v F3 H3 s o3 st3 hv2 p2 => q v F3 H3 s o3 ((st1.trans o1 st2).trans o2 st3) hv2 (by rw [p2 d e rfl]; exact k)⟩
/-- one by name -/
theorem ev_fnK01 {p : D → Prop} {f : D → D} (h : EvA K W H0 tk ρ fun rs => ∃ d, rs = [.dat d] ∧ p d ∧ P (.dat (f d))) : Ev K W H0 (tFnK 0 1 (Pm1 K p f) (fun vs zs => zs) tNil tk) ρ P := fun σ F H o ho Q q =>
  h σ F H o ho _ fun zs F1 H1 rs o1 st1 hz ⟨d, e, hp, k⟩ => by
    subst e
    cases hz with
    | cons h1 hn =>
      cases hn
      exact ⟨rfl, rfl, W, F1, [.dat d], o1, .cons h1 .nil, by simp [NoLs], rfl, ⟨d, rfl, hp⟩, fun v F3 H3 s o3 st3 hv2 p2 => q v F3 H3 s o3 (st1.trans o1 st3) hv2 (by rw [p2 d rfl]; exact k)⟩
def swapV (vs zs : List V) : List V := match zs with
  | [a, b] => [b, a]
  | _ => zs
/-- two by name, the second first -/
theorem ev_fnK02 {p : D → D → Prop} {f : D → D → D} (h : EvA K W H0 tk ρ fun rs => ∃ d e, rs = [.dat e, .dat d] ∧ p d e ∧ P (.dat (f d e))) : Ev K W H0 (tFnK 0 2 (Pm2 K p f) swapV tNil tk) ρ P := fun σ F H o ho Q q =>
  h σ F H o ho _ fun zs F1 H1 rs o1 st1 hz ⟨d, e, e1, hp, k⟩ => by
    subst e1
    cases hz with
    | cons h1 hn =>
      cases hn with
      | cons h2 hn =>
        cases hn
        exact ⟨rfl, rfl, W, F1, [.dat d, .dat e], o1, .cons h2 (.cons h1 .nil), by simp [NoLs], rfl, ⟨d, e, rfl, hp⟩, fun v F3 H3 s o3 st3 hv2 p2 => q v F3 H3 s o3 (st1.trans o1 st3) hv2 (by rw [p2 d e rfl]; exact k)⟩
end
end DL

namespace DL
open PySem L2 RZ PySem.Spec PyProof.Rows
/-! ### the law's call, where no object is being shown -/
section
variable {Pg : Program} {w : World} {K : PySem.W.Frag} {mg mb : Str → Option Value} {k : Nat} {fl p : Addr} {fd : FuncData} {x : Str} {sp : Sp} {st : Shared} {us : List Value} {zs : List Int}
/-- what the whole call has to come to -/
abbrev Told (s0 : Shared) : Result → Shared → Prop := fun r s2 => r = .ok (.ret (.bool true)) ∧ OldK s0.heap s2.heap ∧ s2.os = s0.os ∧ AllBare s2.gens
/-- from a heap that tracks the script alone, if anything -/
theorem told_from (KX : K.In st.heap) (hm : st.heap.Ns mainGlobals mg) (hb : st.heap.Ns builtinsNs mb) (hbb : ∀ y : Str, y ≠ "__name__" → mb y = bootBuiltins y) (hl : st.heap.NoLimit) (hg : st.gens = #[])
    (hp : st.heap.get? p = some { cls := .type "list", data := .seq us.toArray }) (hr : Room k callerA) (F : ∀ base : Heap, K.In base → base.Ns mainGlobals mg → FnG Pg w K mg base k fl fd [x] sp)
    (bd : ∀ (s : Shared) (u : Value), BindsTo s fd ⟨[u], []⟩ [(x, u)]) (H : Hp) (only : Only H) (ok : HOk Pg w H st.heap) (one : ∀ b, H b ≠ none → b = p) (out : H p ≠ none → K.lookup p = none)
    (hs : sp [.ref p] H (fun v _ => v = .bl true) E0) : codeAny (model Pg w) callerA (.call (.ref fl) ⟨[.ref p], []⟩) (Told st) st := by
  have hid : ∀ {b : Addr} {ob : Obj}, st.heap.get? b = some ob → H b = none → (hidT st.heap H).get? b = some ob := fun a b => hidT_get a b
  have dicts : ∀ {b : Addr} {ob : Obj} {es : Array DictEntry} {n : Nat}, st.heap.get? b = some ob → ob.data = .dict es n → H b = none := fun {b ob es n} g d => by
    cases hb : H b with
    | none => rfl
    | some u =>
      obtain rfl : b = p := one b (by rw [hb]; exact fun z => nomatch z)
      rw [hp] at g
      cases g
      have d : Data.seq us.toArray _ = Data.dict es n := d
      cases d
  have names : ∀ {b : Addr} {m : Str → Option Value}, st.heap.Ns b m → (hidT st.heap H).Ns b m := fun {b m} h => by
    obtain ⟨ob, es, n, g, d, r⟩ := h
    exact ⟨ob, es, n, hid g (dicts g d), d, r⟩
  have kin : K.In (hidT st.heap H) := fun b ob g => hid (KX b ob g) (by
    cases hb : H b with
    | none => rfl
    | some u =>
      obtain rfl : b = p := one b (by rw [hb]; exact fun z => nomatch z)
      rw [out (by rw [hb]; exact fun z => nomatch z)] at g
      cases g)
  have md : Mod K mg (hidT st.heap H) := by
    obtain ⟨mc, n1, n2⟩ := hl
    exact ⟨kin, names hm, ⟨mb, names hb, hbb⟩, ⟨mc, names n1, n2⟩⟩
  have env : Env0 Pg w K mg (hidT st.heap H) callerA [] st H := ⟨rfl, md, fun b ob g => of_hidT g, Nat.le_of_eq (hidT_size _ _), trivial, fun b z => absurd (show b ∈ ([] : List Addr) from z) (by simp), ok, .of_eq hg⟩
  have run := (F _ kin (names hm)).run callerA [] st H ⟨[.ref p], []⟩ [.ref p] [.ref p] _ rfl hr env (bd st (.ref p)) (.cons rfl .nil) hs
  refine codeAny_mono run fun r s2 h => ?_
  match r, h with
  | .error e, h => exact False.elim h
  | .ok .next, h => exact False.elim h
  | .ok .brk, h => exact False.elim h
  | .ok .cont, h => exact False.elim h
  | .ok (.ret u), h =>
    obtain ⟨v, H2, os, bare, un, ok2, rel, e⟩ := h
    have e : v = .bl true := e
    subst e
    obtain rfl : u = Value.bool true := rel
    refine ⟨rfl, OldK.of_keep fun b ob g => ?_, os, bare⟩
    rcases hb : H b with _ | u2
    · exact un.keep b ob g hb (by intro z; exact absurd (show b ∈ ([] : List Addr) from z) (by simp)) (by simp)
    · rcases only b with z | ⟨o3, xs, z⟩
      · rw [hb] at z
        cases z
      · obtain ⟨g1, _⟩ := ok b _ z
        obtain ⟨g2, _⟩ := ok2 b _ (un.frzs b o3 _ z)
        rw [g] at g1
        cases g1
        exact g2
theorem told_call (KX : K.In st.heap) (hm : st.heap.Ns mainGlobals mg) (hb : st.heap.Ns builtinsNs mb) (hbb : ∀ y : Str, y ≠ "__name__" → mb y = bootBuiltins y) (hl : st.heap.NoLimit) (hg : st.gens = #[])
    (hp : st.heap.get? p = some { cls := .type "list", data := .seq us.toArray }) (hi : IntsAre us zs) (hz : zs.length ≤ sizeLine) (hr : Room k callerA) (F : ∀ base : Heap, K.In base → base.Ns mainGlobals mg → FnG Pg w K mg base k fl fd [x] sp)
    (bd : ∀ (s : Shared) (u : Value), BindsTo s fd ⟨[u], []⟩ [(x, u)]) (hs : ∀ H : Hp, SqL K H p (zs.map V.int) → sp [.ref p] H (fun v _ => v = .bl true) E0) :
    codeAny (model Pg w) callerA (.call (.ref fl) ⟨[.ref p], []⟩) (Told st) st := by
  have rel := vals_ints hi
  have len := hi.length
  rcases lk : K.lookup p with _ | o
  · let H : Hp := fun b => if b = p then some (.frz { cls := .type "list", data := .seq us.toArray } (.lst (zs.map V.int))) else none
    have at_ : H p = some (.frz { cls := .type "list", data := .seq us.toArray } (.lst (zs.map V.int))) := if_pos rfl
    have off : ∀ b, b ≠ p → H b = none := fun b n => if_neg n
    refine told_from KX hm hb hbb hl hg hp hr F bd H (fun b => ?_) (fun b u g => ?_) (fun b z => ?_) (fun _ => lk) (hs H (.inl (.inr ⟨_, at_⟩)))
    · by_cases n : b = p
      · rw [n, at_]
        exact .inr ⟨_, _, rfl⟩
      · exact .inl (off b n)
    · by_cases n : b = p
      · subst n
        rw [at_] at g
        cases g
        have hz2 : (zs.map V.int).length ≤ sizeLine := by
          rw [List.length_map]
          exact hz
        exact ⟨hp, hz2, us, _, rel, hp⟩
      · rw [off b n] at g
        cases g
    · by_cases n : b = p
      · exact n
      · exact absurd (off b n) z
  · have g := KX p o lk
    rw [hp] at g
    cases g
    refine told_from KX hm hb hbb hl hg hp hr F bd (fun _ => none) (fun _ => .inl rfl) (fun b u z => ?_) (fun b z => absurd rfl z) (fun z => absurd rfl z) (hs _ (.inr ⟨_, us.toArray, _, lk, rfl, rfl, rfl, ?_, ?_⟩))
    · have z : (none : Option HO) = some u := z
      cases z
    · rw [List.size_toArray, len]
      exact hz
    · simpa using rel
end
/-- the goal behind the head -/
theorem told_walk {l : PySem.W.OpenLaw} {n k : Nat} {q : Program} {loose : List Str} {XP : (Str → Option Value) → Heap → Prop} {YP : World → Heap → Prop} {d : DefRec} {K : Params → PySem.W.Frag} {sp : PySem.W.Frag → Sp} {x : Str}
    (hn : l.most = some n) (hz : n ≤ sizeLine) (hdf : d.params.defaults = []) (hr : Room k callerA) (hY : ∀ (w : World) (h : Heap), YP w h → (K w.params).In h)
    (F : ∀ (w : World) (mg : Str → Option Value) (fl : Addr) (h : Heap), (K w.params).In h → h.Ns mainGlobals mg → mg d.name = some (.ref fl) → ∃ fd : FuncData, (∀ (s : Shared) (u : Value), BindsTo s fd ⟨[u], []⟩ [(x, u)]) ∧
      ∀ base : Heap, (K w.params).In base → base.Ns mainGlobals mg → FnG l.prog w (K w.params) mg base k fl fd [x] (sp (K w.params)))
    (hs : ∀ (K : PySem.W.Frag) (H : Hp) (p : Addr) (zs : List Int), zs.length ≤ n → SqL K H p (zs.map V.int) → sp K [.ref p] H (fun v _ => v = .bl true) E0) : PySem.W.WalkO q loose XP YP l.row.toRowW d [] (fun f vs => PySem.call f vs) :=
  Att.attach_call hn hdf fun w _ st mg mb fl _ _ _ _ p us zs G Y _ _ _ hmg hp hi hlen hg => by
    have KX := hY w _ Y
    obtain ⟨fd, bd, hF⟩ := F w mg fl _ KX G.T.g hmg
    exact told_call KX G.T.g G.T.b G.T.builtins G.T.nolimit hg hp hi (Nat.le_trans hlen hz) hr hF bd fun H h => hs _ H p zs hlen h
end DL

namespace DL
open PySem L2
section
variable {K : PySem.W.Frag} {W : Wd} {H0 F0 : Hp} {ρ : Rho} {te te2 : TE} {N : Ends2}
theorem sx_extx {i : Nat} (h : ∃ ds, ρ[i]? = some (.ls ds) ∧ Ev K W H0 te ρ fun s => ∃ es, s = .dat (.list es) ∧ ds.length + es.length ≤ sizeLine ∧ N.nx (ρ.set i (.ls (ds ++ es)))) : Sx K W H0 F0 (tDrop (tBM K "list" rExtend (tVar i) (tCons te tNil))) ρ N :=
  let ⟨_, a, b⟩ := h; sx_ext a b
theorem cas_listT {P : Sl → Prop} {ds : List D} (p : P (.dat (.list ds))) : CaS K W (rListOf K) [.dat (.tuple ds)] P := cas_listF (.inl rfl) p
/-- x, y = e, e' -/
theorem sx_par {i j : Nat} (h : Ev K W H0 te ρ fun s => NoLs s ∧ Ev K W H0 te2 ρ fun t => NoLs t ∧ N.nx ((ρ.set i s).set j t)) : Sx K W H0 F0 (tPar i j (tCons te (tCons te2 tNil))) ρ N := fun σ F H a D n r b c => by
  refine h σ F H a.ok a.ho _ fun v F1 H1 s o1 st1 hv ⟨hn, h2⟩ => ?_
  have a1 := a.step o1 st1
  refine h2 σ F1 H1 o1 a1.ho _ fun u F2 H2 t o2 st2 hu ⟨hn2, k⟩ => ?_
  have a2 := a1.step o2 st2
  exact ⟨v, u, rfl, n _ F2 H2 _ ⟨o2, a2.st, (a2.ho.set (hv.step st2) hn).set hu hn2⟩ (st1.fz.trans st2.fz) k⟩
end
/-! ### functions that give a new list back, to be changed -/
def PmN (K : PySem.W.Frag) (n : Nat) (Pre : Wd → Rho → Prop) (PN : List D → Prop) : Sp := fun vs H Q _ => ∃ W F ss, Ok W F H ∧ Paired (VOk K W F H) vs ss ∧ (∀ s ∈ ss, NoLs s) ∧ ss.length = n ∧ Pre W ss ∧
  ∀ p us F' H' ds, Ok W F' H' → Step W F H F' H' → H p = none → H' p = some (.lst us) → F' p = none → ¬ W.Z p → DpAll K F' us ds → PN ds → Q (.ref p) H'
section
variable {K : PySem.W.Frag} {W : Wd} {H0 F0 : Hp} {ρ : Rho} {te : TE} {t : TA} {PN : List D → Prop} {n : Nat} {Pre : Wd → Rho → Prop}
theorem pmN_len (vs : List V) (H : Hp) (Q : VK) (E : XK) (h : PmN K n Pre PN vs H Q E) : vs.length = n := by
  obtain ⟨W, F, ss, _, h1, _, h2, _⟩ := h
  exact (Paired.length h1).trans h2
theorem evn_fn {PN' : List D → Prop} (h : EvA K W H0 t ρ fun ss => (∀ s ∈ ss, NoLs s) ∧ ss.length = n ∧ Pre W ss ∧ ∀ ds, PN ds → PN' ds) : EvN K W H0 (tFn (PmN K n Pre PN) t) ρ PN' := fun σ F H o ho Q q =>
  h σ F H o ho _ fun vs F1 H1 ss o1 st1 hv ⟨h1, h2, h3, h4⟩ => ⟨W, F1, ss, o1, hv, h1, h2, h3, fun p us F2 H2 ds o2 st2 hp hl hf hz hd k => q p us F2 H2 ds o2 (st1.trans o1 st2) (st1.back o1 hp) hl hf hz hd (h4 ds k)⟩
/-- statements that end in such a list -/
def SxN (K : PySem.W.Frag) (W : Wd) (H0 F0 : Hp) (ts : TS) (ρ : Rho) (PN : List D → Prop) : Prop := ∀ σ F H, At K W H0 F0 σ F H ρ → ∀ D : Ends,
  (∀ p us F' H' ds, Ok W F' H' → Step W F0 H0 F' H' → H0 p = none → H' p = some (.lst us) → F' p = none → ¬ W.Z p → DpAll K F' us ds → PN ds → D.rt (.ref p) H') → ts D σ H
theorem sxn_seq {u v : TS} (h : Sx K W H0 F0 u ρ { nx := fun ρ' => SxN K W H0 F0 v ρ' PN, rt := fun _ => False }) : SxN K W H0 F0 (tSeq u v) ρ PN := fun σ F H a D r =>
  h σ F H a _ (fun σ' F' H' ρ' a' _ k => k σ' F' H' a' D r) (fun _ _ _ _ _ _ _ f => f.elim) (fun _ _ _ _ _ _ f => f.elim) fun _ _ _ _ _ _ f => f.elim
theorem sxn_ret {i : Nat} {ds : List D} (hi : ρ[i]? = some (.ls ds)) (k : PN ds) : SxN K W H0 F0 (tRet (tVar i)) ρ PN := fun σ F H a D r => by
  obtain ⟨p, vs, g1, g2, g3, g4, g5, g6⟩ := a.ho.at_ i _ hi
  exact ⟨.ref p, g1, r p vs F H ds a.ok a.st g5 g2 g3 g4 g6 k⟩
theorem sxn_retE (h : EvN K W H0 te ρ PN) : SxN K W H0 F0 (tRet te) ρ PN := fun σ F H a D r =>
  h σ F H a.ok a.ho _ fun p us F' H' ds o' st hp hl hf hz hd k => r p us F' H' ds o' (a.st.trans a.ok st) (a.st.back a.ok hp) hl hf hz hd k
theorem pmN_body {N : List Str} {ts : TS} {vs : List V} {H : Hp} {Q : VK} {E : XK} (hN : n ≤ N.length) (h : PmN K n Pre PN vs H Q E)
    (b : ∀ (W : Wd) (F : Hp) (ss : Rho), ss.length = n → Pre W ss → SxN K W H F ts (ss ++ List.replicate (N.length - ss.length) .un) PN) : ts { nx := fun _ H' => Q .non H', rt := Q } (L2.start N vs) H := by
  obtain ⟨W, F, ss, o, h1, h2, h3, h4, k⟩ := h
  exact b W F ss h3 h4 (L2.start N vs) F H ⟨o, Step.refl o, holds_start h1 h2 (by rw [h3]; exact hN)⟩ _ fun p us F' H' ds o' st hp hl hf hz hd e => k p us F' H' ds o' st hp hl hf hz hd e
end
end DL

namespace DL
open PySem L2 RZ
/-! ### xs * k of a list -/
def rMul3 (K : PySem.W.Frag) : R2 := fun x y H Q => rMul2 K x y H Q ∨ rRep x y H Q
theorem opMul3 {X : Cx} : OpR X (binaryOp .Mult) (rMul3 X.K) := opMul.or op_rep
section
variable {K : PySem.W.Frag} {W : Wd} {H0 F0 : Hp} {ρ : Rho} {ta tb : TE} {t tk : TA} {P : Sl → Prop} {PN : List D → Prop} {N : Ends2}
theorem ops_mul3 {s u : Sl} (h : OpS K W (rMul2 K) s u P) : OpS K W (rMul3 K) s u P := OpS.inl h
theorem evn_rep (h : Ev K W H0 ta ρ fun s => Ev K W H0 tb ρ fun u => ∃ (ds : List D) (k : Int), LsOf s ds ∧ u = .dat (.int k) ∧ -(2 ^ 63) ≤ k ∧ k < 2 ^ 63 ∧ ds.length * k.toNat ≤ sizeLine ∧ PN (List.replicate k.toNat ds).flatten) : EvN K W H0 (tOp (rMul3 K) ta tb) ρ PN := fun σ F H o ho Q q => by
  refine h σ F H o ho _ fun v F1 H1 s o1 st1 hv h1 => ?_
  refine h1 σ F1 H1 o1 (ho.step st1) _ fun u F2 H2 t o2 st2 hu ⟨ds, k, hs, ht, k1, k2, hl, p⟩ => ?_
  obtain ⟨a, xs, rfl, a1, a2⟩ := hs.get o2 (hv.step st2)
  subst ht
  rw [vok_int hu]
  refine .inr ⟨a, k, xs, rfl, rfl, a1, k1, k2, by rw [dpa_len a2]; exact hl, fun p' hp => ?_⟩
  obtain ⟨o3, st3⟩ := o2.own (u := .lst (List.replicate k.toNat xs).flatten) hp
  have st := st1.trans o1 st2
  exact q p' _ _ _ _ o3 (st.trans o2 st3) (st.back o2 hp) upd_same (o2.free hp) (o2.nz hp) (dpa_flat a2 _) p
theorem ops_repF {s : Sl} {ds : List D} {k : Int} (hs : LsOf s ds) (k1 : -(2 ^ 63) ≤ k) (k2 : k < 2 ^ 63) (hl : ds.length * k.toNat ≤ sizeLine) (p : P (.dat (.list (List.replicate k.toNat ds).flatten))) : OpS K W (rMul3 K) s (.dat (.int k)) P := OpS.inr fun F H x y o hx hy Q q => by
  obtain ⟨a, xs, rfl, a1, a2⟩ := hs.get o hx
  rw [vok_int hy]
  refine ⟨a, k, xs, rfl, rfl, a1, k1, k2, by rw [dpa_len a2]; exact hl, fun p' hp => ?_⟩
  obtain ⟨o2, st2⟩ := o.new (u := .lst (List.replicate k.toNat xs).flatten) hp
  exact q _ _ _ (.dat (.list (List.replicate k.toNat ds).flatten)) o2 st2 (.lst upd_same (dpa_mono st2.fz (dpa_flat a2 _))) p
/-- the second of two is a number by default -/
theorem ev_fnDi {p : D → D → Prop} {f : D → D → D} {i : Int} (h : EvA K W H0 t ρ fun ss => ∃ d, ss = [.dat d] ∧ p d (.int i) ∧ P (.dat (f d (.int i)))) : Ev K W H0 (tFnD (Pm2 K p f) [.int i] t) ρ P := fun σ F H o ho Q q =>
  h σ F H o ho _ fun vs F1 H1 ss o1 st1 hv ⟨d, e, hp, k⟩ => by
    subst e
    cases hv with
    | cons h1 h2 =>
      cases h2
      exact ⟨W, F1, [.dat d, .dat (.int i)], o1, .cons h1 (.cons (.int i) .nil), by simp [NoLs], rfl, ⟨d, .int i, rfl, hp⟩, fun v F2 H2 s o2 st2 hv2 p2 => q v F2 H2 s o2 (st1.trans o1 st2) hv2 (by rw [p2 d (.int i) rfl]; exact k)⟩
/-- one by name, the other by default -/
theorem ev_fnK01d {p : D → D → Prop} {f : D → D → D} {i : Int} (h : EvA K W H0 tk ρ fun rs => ∃ d, rs = [.dat d] ∧ p d (.int i) ∧ P (.dat (f d (.int i)))) : Ev K W H0 (tFnK 0 1 (Pm2 K p f) (fun _ zs => zs ++ [.int i]) tNil tk) ρ P := fun σ F H o ho Q q =>
  h σ F H o ho _ fun zs F1 H1 rs o1 st1 hz ⟨d, e, hp, k⟩ => by
    subst e
    cases hz with
    | cons h1 hn =>
      cases hn
      exact ⟨rfl, rfl, W, F1, [.dat d, .dat (.int i)], o1, .cons h1 (.cons (.int i) .nil), by simp [NoLs], rfl, ⟨d, .int i, rfl, hp⟩, fun v F3 H3 s o3 st3 hv2 p2 => q v F3 H3 s o3 (st1.trans o1 st3) hv2 (by rw [p2 d (.int i) rfl]; exact k)⟩
end
end DL

namespace DL
open PySem L2 RZ PySem.Spec PyProof.Rows
/-! ### sorted of a tuple of ints -/
section
variable {prog : Program} {w : World} {A : Around} {E : Value → Shared → Prop} {s : Shared}
theorem collect_tup {l : Addr} {vs : List Value} {Q : List Value → Shared → Prop} (hl : IsTup s.heap l vs.toArray)
    (h : Q vs { s with heap := (s.heap.push (seqObj "list" #[] 0)).update s.heap.objs.size (Obj.mapSeq (· ++ vs.toArray)) }) (hsz : vs.length ≤ sizeLine) :
    wpAny (model prog w) A (collect (.ref l)) Q E s := by
  obtain ⟨o, ho, hc, n, hd⟩ := id hl
  unfold collect
  refine wpAny_bind (wpAny_runValue (codeAny_builtin entry_proto_collect' ?_))
  show wpAny _ _ (do again (.builtin "list.__iadd__" ⟨[← newList [], .ref l], []⟩)) _ _ s
  refine wpAny_bind (wpAny_newList (wpAny_pure ⟨Code.quiet_builtin _ (by decide +kernel), codeAny_builtin entry_list_iadd' ?_⟩))
  show wpAny _ _ (Builtin.List.listExtendWith (.ref s.heap.objs.size) (.ref l) (.ref s.heap.objs.size)) _ _ { s with heap := s.heap.push (seqObj "list" #[] 0) }
  unfold Builtin.List.listExtendWith
  have ho' : (s.heap.push (seqObj "list" #[] 0)).get? l = some o := Heap.get?_push_of_some _ ho
  refine wpAny_bind (wpAny_typeOf (T := "tuple") ⟨o, ho', hc⟩ ?_)
  have ht : (Value.type "tuple" == Value.type "tuple") = true := by rfl
  rw [if_pos (by rw [ht]; simp)]
  refine wpAny_bind (listItems_at ho' hd ?_)
  refine wpAny_bind (listItems_at (xs := #[]) (n := 0) (Heap.get?_push_size _ rfl) rfl ?_)
  rw [if_neg (by simp)]
  refine wpAny_bind (listUpdate_at (xs := #[]) (n := 0) (Heap.get?_push_size _ rfl) rfl ?_ (Nat.zero_le _) (by show (#[] ++ vs.toArray).size ≤ sizeLine + 1; simp only [Array.size_append, List.size_toArray, List.length_nil]; omega))
  refine wpAny_pure ?_
  show wpAny (model prog w) A (do
      let o ← load s.heap.objs.size
      match o.data with
      | .seq xs _ => pure xs.toList
      | _ => unsupported "internal:collect") Q E { s with heap := (s.heap.push (seqObj "list" #[] 0)).update s.heap.objs.size (Obj.mapSeq (· ++ vs.toArray)) }
  refine wpAny_bind (wpAny_load (get?_update_seq (Heap.get?_push_size _ rfl) _) ?_)
  show wpAny _ _ (pure ((#[] : Array Value) ++ vs.toArray).toList) Q E _
  rw [show ((#[] : Array Value) ++ vs.toArray).toList = vs by simp]
  exact wpAny_pure h
theorem sorted_intsT {l : Addr} {vs : List Value} {ns : List Int} {Q : Value → Shared → Prop} (hl : IsTup s.heap l vs.toArray) (hI : IntsAre vs ns) (h64 : vs.length < 64)
    (h : ∀ (out : Array Value) (ns' : List Int), IntsAre out.toList ns' → ns'.Perm ns → ns'.Pairwise (· ≤ ·) → Q (.ref (s.heap.objs.size + 1)) { s with heap := sortedAll s.heap vs out }) :
    wpAny (model prog w) A (call (.builtin "sorted") [.ref l]) Q E s := by
  refine Calls.call_function_entry kind_sorted plain_sorted entry_sorted (args_sorted1 _) ?_
  unfold Builtin.«sorted»
  refine wpAny_bind (m := checkCount "sorted" 1 1 _) (wpAny_pure ?_)
  refine wpAny_bind (collect_tup hl ?_ (by rw [sizeLine_eq]; omega))
  refine wpAny_bind (wpAny_newList ?_)
  have hsz : ((s.heap.push (seqObj "list" #[] 0)).update s.heap.objs.size (Obj.mapSeq (· ++ vs.toArray))).objs.size = s.heap.objs.size + 1 := by
    rw [Heap.size_update, size_push']
  have hoL : (((s.heap.push (seqObj "list" #[] 0)).update s.heap.objs.size (Obj.mapSeq (· ++ vs.toArray))).push (seqObj "list" vs.toArray 0)).get? (s.heap.objs.size + 1) = some (seqObj "list" vs.toArray 0) := by
    rw [← hsz]; exact Heap.get?_push_size _ rfl
  show wpAny _ _ _ _ _ { s with heap := ((s.heap.push (seqObj "list" #[] 0)).update s.heap.objs.size (Obj.mapSeq (· ++ vs.toArray))).push (seqObj "list" vs.toArray 0) }
  rw [hsz]
  refine wpAny_bind (wpAny_holding (wpAny_call_entry slot_list_sort ⟨_, hoL, rfl⟩ entry_list_sort (list_sort_tree hoL hI h64 fun out ns' a1 a2 a3 => ⟨_, rfl, ?_⟩) (args_list_sort _)))
  exact wpAny_pure ⟨_, rfl, h out ns' a1 a2 a3⟩
end
def rSortedT (K : PySem.W.Frag) : List V → Hp → VK → Prop := fun vs H Q => ∃ (a : Addr) (ns : List Int), vs = [V.ref a] ∧ SqT K H a (ns.map V.int) ∧ ns.length < 64 ∧
  ∀ (ns' : List Int) (p : Addr), ns'.Perm ns → ns'.Pairwise (· ≤ ·) → H p = none → Q (.ref p) (upd H p (.lst (ns'.map V.int)))
section
variable {X : Cx}
theorem cr_sortedT : CallR X (.builtin "sorted") (rSortedT X.K) := by
  intro pins s σ H vs us Q I r h
  obtain ⟨a, ns, rfl, hs, h64, q⟩ := h
  obtain ⟨its, rv, hl, _⟩ := I.tuple hs
  rw [Vals.ref1 r]
  have hi := rv.ints
  refine sorted_intsT hl hi (by rw [hi.length]; exact h64) fun out ns' h1 h2 h3 => ?_
  obtain ⟨ep, he'⟩ := PyProof.Rows.sortedAll_at s.heap its out
  have hlen : (ns'.map V.int).length ≤ sizeLine := by rw [List.length_map, h2.length_eq]; exact small64 h64
  exact ⟨.ref _, upd H (s.heap.objs.size + 1) (.lst (ns'.map V.int)), I.laid (t' := s.toks) (fun _ _ => PyProof.Rows.sortedAll_old) (Nat.le_succ _) ⟨hlen, out.toList, ep, vals_of_ints h1, he'⟩, rfl, q ns' _ h2 h3 (I.hok.fresh (Nat.le_succ _))⟩
/-- sorted: of ints (a list, a tuple), of texts -/
def rSortedB (K : PySem.W.Frag) : List V → Hp → VK → Prop := fun xs H Q => rSortedA K xs H Q ∨ rSortedT K xs H Q
theorem cr_sortedB : CallR X (.builtin "sorted") (rSortedB X.K) := cr_sortedA.or cr_sortedT
end
section
variable {K : PySem.W.Frag} {W : Wd} {P : Sl → Prop} {s : Sl}
theorem cas_sortBL {ns : List Int} (hs : LsOf s (ns.map .int)) (hl : ns.length < 64) (p : ∀ ms : List Int, ms.Perm ns → ms.Pairwise (· ≤ ·) → P (.dat (.list (ms.map .int)))) : CaS K W (rSortedB K) [s] P := fun F H xs o hx Q q =>
  .inl (cas_sortI hs hl p F H xs o hx Q q)
theorem cas_sortBT {ns : List Int} (hl : ns.length < 64) (p : ∀ ms : List Int, ms.Perm ns → ms.Pairwise (· ≤ ·) → P (.dat (.list (ms.map .int)))) : CaS K W (rSortedB K) [.dat (.tuple (ns.map .int))] P := fun F H xs o hx Q q => by
  cases hx with
  | cons e1 e2 =>
    cases e2
    obtain ⟨a, vs, rfl, a1, a2⟩ := dp_tup e1
    rw [dpa_ints' a2] at a1
    refine .inr ⟨a, ns, rfl, SqT.of (o.sub _ _ a1), hl, fun ms l h1 h2 hn => ?_⟩
    obtain ⟨o2, st2⟩ := o.new (u := .lst (ms.map V.int)) hn
    exact q _ _ _ (.dat (.list (ms.map .int))) o2 st2 (.lst upd_same (ints_dp ms)) (p ms h1 h2)
/-- sum of ints -/
theorem cas_sum {ns : List Int} (hs : LsOf s (ns.map .int)) (p : P (.dat (.int ns.sum))) : CaS K W (rSum K) [s] P := fun F H xs o hx Q q => by
  cases hx with
  | cons e1 e2 =>
    cases e2
    obtain ⟨a, vs, rfl, a1, a2⟩ := hs.get o e1
    rw [dpa_ints' a2] at a1
    exact ⟨a, ns, rfl, SqL.of a1, q _ F H (.dat (.int _)) o (Step.refl o) (.int _) p⟩
theorem ops_shl {i j : Int} (hc : CPow i j) (p : P (.dat (.int (i * 2 ^ j.toNat)))) : OpS K W (rI CPow fun i j => .int (i * 2 ^ j.toNat)) (.dat (.int i)) (.dat (.int j)) P := ops_I (f := fun i j => .int (i * 2 ^ j.toNat)) (fun _ => .int _) hc p
end
end DL

namespace K32
open PySem L2 RZ DL
def top (i : Nat) : Stmt := PySem.Challenge.pw_handsmade_k32_bunches_told.main.body.getD i (.Pass ⟨0, 0, 0, 0⟩)
abbrev s_is_number : Stmt := top 1
theorem sc_is_number : FnScope ["thing"] ["thing"] (defScope s_is_number) := ⟨rfl, rfl, rfl, by decide +kernel, rfl, by decide +kernel, by decide +kernel⟩
abbrev s_is_lights : Stmt := top 2
theorem sc_is_lights : FnScope ["thing", "light", "one", "other"] ["thing"] (defScope s_is_lights) := ⟨rfl, rfl, rfl, by decide +kernel, rfl, by decide +kernel, by decide +kernel⟩
abbrev s_is_bunch : Stmt := top 4
theorem sc_is_bunch : FnScope ["thing"] ["thing"] (defScope s_is_bunch) := ⟨rfl, rfl, rfl, by decide +kernel, rfl, by decide +kernel, by decide +kernel⟩
abbrev s_glow_of : Stmt := top 5
theorem sc_glow_of : FnScope ["lights", "light"] ["lights"] (defScope s_glow_of) := ⟨rfl, rfl, rfl, by decide +kernel, rfl, by decide +kernel, by decide +kernel⟩
abbrev s_bunch_covers : Stmt := top 6
theorem sc_bunch_covers : FnScope ["one", "other", "light", "less"] ["one", "other"] (defScope s_bunch_covers) := ⟨rfl, rfl, rfl, by decide +kernel, rfl, by decide +kernel, by decide +kernel⟩
abbrev s__law_feed : Stmt := top 8
theorem sc__law_feed : FnScope ["_law_script"] ["_law_script"] (defScope s__law_feed) := ⟨rfl, rfl, rfl, by decide +kernel, rfl, by decide +kernel, by decide +kernel⟩
abbrev s__law_draw : Stmt := top 9
theorem sc__law_draw : FnScope ["_law_feed_here", "_law_many", "_law_figure", "_law_at", "_law_cell", "_law_mixed"] ["_law_feed_here", "_law_many"] (defScope s__law_draw) := ⟨rfl, rfl, rfl, by decide +kernel, rfl, by decide +kernel, by decide +kernel⟩
abbrev s__law_falling : Stmt := top 10
theorem sc__law_falling : FnScope ["_law_lamps"] ["_law_lamps"] (defScope s__law_falling) := ⟨rfl, rfl, rfl, by decide +kernel, rfl, by decide +kernel, by decide +kernel⟩
abbrev s__law_covers : Stmt := top 11
theorem sc__law_covers : FnScope ["_law_up", "_law_low", "_law_k"] ["_law_up", "_law_low"] (defScope s__law_covers) := ⟨rfl, rfl, rfl, by decide +kernel, rfl, by decide +kernel, by decide +kernel⟩
abbrev s__law_power : Stmt := top 12
theorem sc__law_power : FnScope ["_law_light"] ["_law_light"] (defScope s__law_power) := ⟨rfl, rfl, rfl, by decide +kernel, rfl, by decide +kernel, by decide +kernel⟩
abbrev s__law_lights : Stmt := top 13
theorem sc__law_lights : FnScope ["_law_feed_here", "_law_bright", "_law_most", "_law_k"] ["_law_feed_here", "_law_bright", "_law_most"] (defScope s__law_lights) := ⟨rfl, rfl, rfl, by decide +kernel, rfl, by decide +kernel, by decide +kernel⟩
abbrev s__law_odd : Stmt := top 14
theorem sc__law_odd : FnScope ["_law_feed_here", "_law_stuff", "_law_some", "_law_menu"] ["_law_feed_here", "_law_stuff", "_law_some"] (defScope s__law_odd) := ⟨rfl, rfl, rfl, by decide +kernel, rfl, by decide +kernel, by decide +kernel⟩
abbrev s__law_bent : Stmt := top 15
theorem sc__law_bent : FnScope ["_law_feed_here", "_law_stuff", "_law_some", "_law_at"] ["_law_feed_here", "_law_stuff", "_law_some"] (defScope s__law_bent) := ⟨rfl, rfl, rfl, by decide +kernel, rfl, by decide +kernel, by decide +kernel⟩
abbrev s_law : Stmt := top 16
theorem sc_law : FnScope ["_law_script", "_law_feed_here", "_law_some", "_law_bunches", "_law_lap", "_law_stuff", "_law_kept", "_law_due", "_law_light", "_law_up", "_law_low"] ["_law_script"] (defScope s_law) := ⟨rfl, rfl, rfl, by decide +kernel, rfl, by decide +kernel, by decide +kernel⟩
structure Txt (mg : Str → Option Value) : Prop where
  b_all : mg "all" = none
  b_bool : mg "bool" = none
  b_int : mg "int" = none
  b_isinstance : mg "isinstance" = none
  b_len : mg "len" = none
  b_list : mg "list" = none
  b_range : mg "range" = none
  b_repr : mg "repr" = none
  b_sorted : mg "sorted" = none
  b_str : mg "str" = none
  b_sum : mg "sum" = none
  b_tuple : mg "tuple" = none
  b_zip : mg "zip" = none

/-! the walk by data -/
local macro_rules | `(tactic| walk_at "dl") => `(tactic| first
  | with_reducible first
    | refine sx_seq ?_ | refine sx_if ?_ | refine sx_ret ?_ | refine sx_next ?_ | refine sx_asg ?_
    | refine et_not ?_ | refine et_B ?_ | refine et_test ?_ | refine et_and ?_ | refine et_or ?_ | refine et_yes ?_
    | refine ev_and ?_ | refine ev_or ?_ | refine ev_not ?_ | refine ev_if ?_ | refine ev_chain ?_
    | refine ev_int ?_ | refine ev_bl ?_ | refine ev_str ?_ | refine ev_non ?_ | refine ev_c ?_
    | refine ev_op ?_ | refine ev_un ?_ | refine ev_cb ?_ | refine ev_fn1 ?_ | refine ev_fn2 ?_ | refine ev_sl ?_ | refine eo_none ?_ | refine eo_some ?_ | refine ev_tup ?_
    | refine ea_cons ?_ | refine ea_nil ?_
    | refine ops_ge ?_ | refine ops_le ?_ | refine ops_gt ?_ | refine ops_lt ?_ | refine ops_leS ?_ | refine ops_ltS ?_ | refine ops_add_int ?_ | refine ops_sub ?_ | refine ops_isN ?_ | refine ops_isNot ?_ | refine ops_eq_int ?_ | refine ops_eqS ?_ | refine ops_neS ?_
    | refine cas_len_tup ?_ | refine cas_isi_int ?_ | refine cas_isi_bool ?_ | refine cas_isi_str ?_ | refine cas_isi_tup ?_ | refine cas_isi_lst ?_
    | refine iteT ?_ | refine iteF ?_ | refine and_nols ?_
  | ((with_reducible refine ev_varx ?_); refine ⟨_, rfl, ?_⟩)
  | ((with_reducible refine ops_ix_tupx ?_); first | refine ⟨_, rfl, ?_⟩ | refine ⟨_, atI_nat (j := 0) rfl, ?_⟩ | refine ⟨_, atI_nat (j := 1) rfl, ?_⟩ | refine ⟨_, atI_nat (j := 2) rfl, ?_⟩ | refine ⟨_, atI_nat (j := 3) rfl, ?_⟩ | refine ⟨_, atI_nat (j := 4) rfl, ?_⟩ | refine ⟨_, atI_nat (j := 5) rfl, ?_⟩ | refine ⟨_, atI_nat (j := 6) rfl, ?_⟩)
  | ((with_reducible refine sz_and ?_ ?_); exact rfl)
  | ((with_reducible refine ev_ownx ?_); refine ⟨_, rfl, ?_⟩)
  | ((with_reducible refine ev_refx ?_); refine ⟨_, rfl, ?_⟩)
  | (with_reducible refine sxn_seq ?_) | (with_reducible refine uns_neg ?_) | (with_reducible refine ev_frz (evn_lst ?_)) | (with_reducible refine sls_tup ?_) | (refine ev_revT ?_)
  | ((refine sx_extx ?_); refine ⟨_, rfl, ?_⟩) | ((with_reducible refine ops_add_tup ?_ ?_); exact le_line rfl) | (with_reducible refine cas_listT ?_)
  | ((with_reducible refine ifT ?_ ?_); exact rfl) | ((with_reducible refine ifF ?_ ?_); exact rfl))
local macro_rules | `(tactic| walk_at "go") => `(tactic| repeat (first | walk_at "dl" | with_reducible refine ⟨_, rfl, ?_⟩ | with_reducible refine ⟨_, _, rfl, ?_⟩))
def isNum : D → Bool
  | .int i => decide (0 ≤ i)
  | _ => false
def geD : D → D → Bool
  | .int i, .int j => decide (j ≤ i)
  | _, _ => false
def fall (ds : List D) : Bool := (ds.zip (ds.drop 1)).all fun p => geD p.1 p.2
def isLights : D → Bool
  | .tuple ds => ds.all isNum && fall ds
  | _ => false
abbrev num (n : Nat) : D := .int (n : Int)
/-- some lights as the law draws them -/
def isBun (d : D) : Prop := ∃ ns : List Nat, d = .tuple (ns.map num) ∧ ns.length ≤ 10 ∧ ∀ n ∈ ns, n ≤ 3
def powI : D → Int
  | .int i => 2 ^ i.toNat
  | _ => 0
def glowD : D → Int
  | .tuple ds => (ds.map powI).sum
  | _ => 0
def covD : D → D → Bool
  | .tuple xs, .tuple ys => !decide ((xs.length : Int) < (ys.length : Int)) && (xs.zip ys).all fun p => geD p.1 p.2
  | _, _ => false
section
variable {Pg : Program} {w : World} {K : PySem.W.Frag} {mg : Str → Option Value} {base : Heap} {f : Addr} {fd : FuncData}
theorem ok_is_number (F : Fun K "is_number" "is_number" s_is_number f fd) (T : Txt mg) : FnG Pg w K mg base 1 f fd ["thing"] (Pm1 K (fun _ => True) fun d => .bool (isNum d)) := by
  have nd := sc_is_number.nd
  refine fnG_of F sc_is_number pm_len (fun cdv A ou s H vs Q hgd hr h => ?_)
  refine ⟨_, (pss_one (ps_ret (pe_and (pe_callB (r := rIsi K) call_isi (by rfl) T.b_isinstance (by decide +kernel) (pa_cons (pv 0) (pa_cons (pe_bltn (v := .ty "int") rfl T.b_int (by decide +kernel) rfl) pa_nil))) (pe_and (pe_not (pe_callB (r := rIsi K) call_isi (by rfl) T.b_isinstance (by decide +kernel) (pa_cons (pv 0) (pa_cons (pe_bltn (v := .ty "bool") rfl T.b_bool (by decide +kernel) rfl) pa_nil)))) (pe_one (pe_cmpR opGe (pv 0) pe_int (nomark _))))))), body1 (by decide) h fun W F0 d _ => ?_⟩
  change Sx K W H F0 _ [.dat d] _
  walk_at "go"
  cases d with
  | int i =>
    walk_at "go"
    exact rfl
  | bool b =>
    walk_at "go"
    exact rfl
  | _ => exact rfl
def gePair : D → D
  | .tuple [a, b] => .bool (geD a b)
  | _ => .none
theorem cut1 (ds : List D) : cutD ds (some 1) none = ds.drop 1 := by
  unfold cutD
  have e1 : HT.sIx ds.length 0 (some 1) = min 1 ds.length := HT.sIx_nat _ _ 1
  rw [e1, HT.sIx_none]
  cases ds with
  | nil => rfl
  | cons a t =>
    have e : min 1 (a :: t).length = 1 := by simp
    rw [e]
    exact List.take_of_length_le (by simp)
theorem fall_map (ds : List D) : (zipD ds (cutD ds (some 1) none)).map gePair = ((ds.zip (ds.drop 1)).map fun p => geD p.1 p.2).map .bool := by
  rw [cut1]
  unfold zipD
  rw [List.map_map, List.map_map]
  rfl
theorem mem_zipD {xs ys : List D} {d : D} (h : d ∈ zipD xs ys) : ∃ a b, d = .tuple [a, b] ∧ a ∈ xs ∧ b ∈ ys := by
  obtain ⟨⟨a, b⟩, h1, h2⟩ := List.mem_map.mp h
  exact ⟨a, b, h2.symm, (List.of_mem_zip h1).1, (List.of_mem_zip h1).2⟩
theorem isNum_int {d : D} (h : isNum d = true) : ∃ i, d = .int i := by
  cases d with
  | int i => exact ⟨i, rfl⟩
  | _ => cases h
theorem ok_is_lights (F : Fun K "is_lights" "is_lights" s_is_lights f fd) (T : Txt mg) (C_is_number : Fn Pg w K mg base "is_number" 1 ["thing"] (Pm1 K (fun _ => True) fun d => .bool (isNum d))) :
    FnG Pg w K mg base 2 f fd ["thing"] (Pm1 K Fine fun d => .bool (isLights d)) := by
  have nd := sc_is_lights.nd
  refine fnG_of F sc_is_lights pm_len (fun cdv A ou s H vs Q hgd hr h => ?_)
  have hu := hr.units
  refine ⟨_, (pss_cons (ps_if (PW.pt (pw_or (pt_not (pt_val (pe_callB (r := rIsi K) call_isi (by rfl) T.b_isinstance (by decide +kernel) (pa_cons (pv 0) (pa_cons (pe_bltn (v := .ty "tuple") rfl T.b_tuple (by decide +kernel) rfl) pa_nil))))) (pw_or1 (pt_not (pt_val (pe_callB (r := rAll K) (cr_all rfl) (by rfl) T.b_all (by decide +kernel) (pa_cons (pe_lc (own := [("light", 1)]) (g := gName 1) rfl nd (pi_tup (pv 0)) (blkOk_by (N := ["thing", "light", "one", "other"]) (sc := (defScope s_is_lights)) (by decide +kernel)) (fun _ _ _ _ _ => (pg_name (i := 1) nd rfl (Or.inl rfl) (Or.inr rfl))) (fun _ _ _ _ _ => pts_nil) (fun _ _ _ _ _ => (pe_fn C_is_number hgd (hr.mono (by first | decide | omega)) rfl (pa_cons (pv 1) pa_nil)))) pa_nil))))))) (pss_one (ps_ret pe_bl)) pss_nil) (pss_one (ps_ret (pe_callB (r := rAll K) (cr_all rfl) (by rfl) T.b_all (by decide +kernel) (pa_cons (pe_lc (own := [("one", 2), ("other", 3)]) (g := (gTup K 2 (gCons (gName 2) (gCons (gName 3) gNil)))) rfl nd (pi_zipA rfl T.b_zip (pa_cons (pv 0) (pa_cons (pe_slice (r := rSl3 K) slAny (pv 0) (po_some pe_int) po_none) pa_nil))) (blkOk_by (N := ["thing", "light", "one", "other"]) (sc := (defScope s_is_lights)) (by decide +kernel)) (fun _ _ _ _ _ => (pg_tup (n := 2) rfl (pgs_cons (pg_name (i := 2) nd rfl (Or.inl rfl) (Or.inr rfl)) (pgs_cons (pg_name (i := 3) nd rfl (Or.inl rfl) (Or.inr rfl)) pgs_nil)))) (fun _ _ _ _ _ => pts_nil) (fun _ _ _ _ _ => (pe_cmpR opGe (pv 2) (pv 3) (nomark _)))) pa_nil))))), body1 (by decide) h fun W F0 d hd' => ?_⟩
  change Sx K W H F0 _ [.dat d, .un, .un, .un] _
  walk_at "go"
  cases d with
  | tuple ds =>
    walk_at "go"
    refine ev_frz (evn_mapT (fun d => .bool (isNum d)) (evi_tup (ev_varx ⟨_, rfl, ds, rfl, ?_, fun d hd => ?_, ?_⟩)))
    · exact Nat.lt_of_le_of_lt hd'.tlen (by decide)
    · refine gc_name (by decide) trivial ?_
      walk_at "go"
      exact ⟨trivial, rfl⟩
    · walk_at "go"
      refine cas_all (bs := ds.map isNum) (.inl (by simp)) ?_
      refine ⟨_, rfl, ?_⟩
      refine if2 (fun h2 => ?_) (fun h2 => ?_)
      · walk_at "go"
        exact rt_bool (by simp only [isLights]; rw [Bool.not_eq_true'] at h2; rw [List.all_map] at h2; rw [show ds.all isNum = false from h2, Bool.false_and])
      · walk_at "go"
        refine ev_frz (evn_mapT gePair (evi_zip ?_))
        walk_at "go"
        refine ⟨ds, _, .inr rfl, ?_, fun d hd => ?_, ?_⟩
        · rw [zipD_len]
          have := hd'.tlen
          have h3 : sizeLine = 16777216 := sizeLine_eq
          omega
        · obtain ⟨a, b, rfl, ha, hb⟩ := mem_zipD hd
          rw [cut1] at hb
          rw [Bool.not_eq_false', List.all_map, List.all_eq_true] at h2
          obtain ⟨i, rfl⟩ := isNum_int (h2 a ha)
          obtain ⟨j, rfl⟩ := isNum_int (h2 b (List.mem_of_mem_drop hb))
          refine gc_tup rfl (gcs_cons (gc_name (by decide) trivial (gcs_cons (gc_name (by decide) trivial (gcs_nil ?_)))))
          walk_at "go"
          exact rfl
        · walk_at "go"
          rw [fall_map]
          refine cas_all (.inl rfl) ?_
          refine rt_bool ?_
          simp only [isLights]
          rw [Bool.not_eq_false', List.all_map] at h2
          rw [show ds.all isNum = true from h2, Bool.true_and, List.all_map]
          rfl
  | _ =>
    walk_at "go"
    exact rfl
abbrev CNum (Pg : Program) (w : World) (K : PySem.W.Frag) (mg : Str → Option Value) (base : Heap) := Fn Pg w K mg base "is_number" 1 ["thing"] (Pm1 K (fun _ => True) fun d => .bool (isNum d))
abbrev CLights (Pg : Program) (w : World) (K : PySem.W.Frag) (mg : Str → Option Value) (base : Heap) := Fn Pg w K mg base "is_lights" 2 ["thing"] (Pm1 K Fine fun d => .bool (isLights d))
abbrev CBunch (Pg : Program) (w : World) (K : PySem.W.Frag) (mg : Str → Option Value) (base : Heap) := Fn Pg w K mg base "is_bunch" 3 ["thing"] (Pm1 K Fine fun d => .bool (isLights d))
abbrev CGlow (Pg : Program) (w : World) (K : PySem.W.Frag) (mg : Str → Option Value) (base : Heap) := Fn Pg w K mg base "glow_of" 1 ["lights"] (Pm1 K isBun fun d => .int (glowD d))
abbrev CCovers (Pg : Program) (w : World) (K : PySem.W.Frag) (mg : Str → Option Value) (base : Heap) := Fn Pg w K mg base "bunch_covers" 1 ["one", "other"] (Pm2 K (fun d e => isBun d ∧ isBun e) fun d e => .bool (covD d e))
theorem ok_is_bunch (F : Fun K "is_bunch" "is_bunch" s_is_bunch f fd) (T : Txt mg) (C_is_lights : CLights Pg w K mg base) : FnG Pg w K mg base 3 f fd ["thing"] (Pm1 K Fine fun d => .bool (isLights d)) := by
  have nd := sc_is_bunch.nd
  refine fnG_of F sc_is_bunch pm_len (fun cdv A ou s H vs Q hgd hr h => ?_)
  refine ⟨_, (pss_one (ps_ret (pe_fn C_is_lights hgd (hr.mono (by first | decide | omega)) rfl (pa_cons (pv 0) pa_nil)))), body1 (by decide) h fun W F0 d hd => ?_⟩
  change Sx K W H F0 _ [.dat d] _
  walk_at "go"
  exact ⟨hd, rfl⟩
theorem bun_int {ns : List Nat} {d : D} (h : d ∈ ns.map num) (hb : ∀ n ∈ ns, n ≤ 3) : ∃ n : Nat, d = .int (n : Int) ∧ n ≤ 3 := by
  obtain ⟨n, hn, rfl⟩ := List.mem_map.mp h
  exact ⟨n, rfl, hb n hn⟩
theorem ok_glow_of (F : Fun K "glow_of" "glow_of" s_glow_of f fd) (T : Txt mg) : FnG Pg w K mg base 1 f fd ["lights"] (Pm1 K isBun fun d => .int (glowD d)) := by
  have nd := sc_glow_of.nd
  refine fnG_of F sc_glow_of pm_len (fun cdv A ou s H vs Q hgd hr h => ?_)
  refine ⟨_, (pss_one (ps_ret (pe_callB (cr_sum rfl) (by rfl) T.b_sum (by decide +kernel) (pa_cons (pe_lc (own := [("light", 1)]) (g := gName 1) rfl nd (pi_tup (pv 0)) (blkOk_by (N := ["lights", "light"]) (sc := (defScope s_glow_of)) (by decide +kernel)) (fun _ _ _ _ _ => (pg_name (i := 1) nd rfl (Or.inl rfl) (Or.inr rfl))) (fun _ _ _ _ _ => pts_nil) (fun _ _ _ _ _ => (pe_op op_shl pe_int (pv 1)))) pa_nil)))), body1 (by decide) h fun W F0 d ⟨ns, hd, hl, hb⟩ => ?_⟩
  subst hd
  change Sx K W H F0 _ [.dat (.tuple (ns.map num)), .un] _
  refine sx_ret (ev_cb (ea_cons (ev_frz (evn_mapT (fun d => .int (powI d)) (evi_tup (ev_varx ⟨_, rfl, _, rfl, ?_, fun d hd => ?_, ?_⟩))))))
  · rw [List.length_map, sizeLine_eq]
    omega
  · obtain ⟨n, rfl, hn⟩ := bun_int hd hb
    refine gc_name (by decide) trivial ?_
    walk_at "go"
    refine ops_shl ⟨by omega, by omega, by decide⟩ ?_
    show Sl.dat (PyData.int (1 * 2 ^ (n : Int).toNat)) = Sl.dat (.int (2 ^ (n : Int).toNat))
    rw [Int.one_mul]
  · refine ea_nil (cas_sum (ns := (ns.map num).map powI) (.inl ?_) ?_)
    · simp only [List.map_map, Function.comp_def]
    · rfl
theorem cov_map (xs ys : List D) : (zipD xs ys).map gePair = ((xs.zip ys).map fun p => geD p.1 p.2).map .bool := by
  unfold zipD
  rw [List.map_map, List.map_map]
  rfl
theorem ok_bunch_covers (F : Fun K "bunch_covers" "bunch_covers" s_bunch_covers f fd) (T : Txt mg) : FnG Pg w K mg base 1 f fd ["one", "other"] (Pm2 K (fun d e => isBun d ∧ isBun e) fun d e => .bool (covD d e)) := by
  have nd := sc_bunch_covers.nd
  refine fnG_of F sc_bunch_covers pm_len (fun cdv A ou s H vs Q hgd hr h => ?_)
  refine ⟨_, (pss_cons (ps_if (pt_cmpR opLt (pe_callB (r := rLenA K) call_len (by rfl) T.b_len (by decide +kernel) (pa_cons (pv 0) pa_nil)) (pe_callB (r := rLenA K) call_len (by rfl) T.b_len (by decide +kernel) (pa_cons (pv 1) pa_nil)) (nomark _)) (pss_one (ps_ret pe_bl)) pss_nil) (pss_one (ps_ret (pe_callB (r := rAll K) (cr_all rfl) (by rfl) T.b_all (by decide +kernel) (pa_cons (pe_lc (own := [("light", 2), ("less", 3)]) (g := (gTup K 2 (gCons (gName 2) (gCons (gName 3) gNil)))) rfl nd (pi_zipA rfl T.b_zip (pa_cons (pv 0) (pa_cons (pv 1) pa_nil))) (blkOk_by (N := ["one", "other", "light", "less"]) (sc := (defScope s_bunch_covers)) (by decide +kernel)) (fun _ _ _ _ _ => (pg_tup (n := 2) rfl (pgs_cons (pg_name (i := 2) nd rfl (Or.inl rfl) (Or.inr rfl)) (pgs_cons (pg_name (i := 3) nd rfl (Or.inl rfl) (Or.inr rfl)) pgs_nil)))) (fun _ _ _ _ _ => pts_nil) (fun _ _ _ _ _ => (pe_cmpR opGe (pv 2) (pv 3) (nomark _)))) pa_nil))))), body2 (by decide) h fun W F0 d e ⟨⟨ns, hd, hl, hb⟩, ⟨ms, he, hl2, hb2⟩⟩ => ?_⟩
  subst hd he
  change Sx K W H F0 _ [.dat (.tuple (ns.map num)), .dat (.tuple (ms.map num)), .un, .un] _
  walk_at "go"
  refine if2 (fun h1 => ?_) (fun h1 => ?_)
  · walk_at "go"
    exact rt_bool (by simp only [covD]; rw [h1]; rfl)
  · walk_at "go"
    refine ev_frz (evn_mapT gePair (evi_zip ?_))
    walk_at "go"
    refine ⟨_, _, .inr rfl, ?_, fun d hd => ?_, ?_⟩
    · rw [zipD_len, List.length_map, List.length_map, sizeLine_eq]
      omega
    · obtain ⟨a, b, rfl, ha, hb'⟩ := mem_zipD hd
      obtain ⟨i, rfl, _⟩ := bun_int ha hb
      obtain ⟨j, rfl, _⟩ := bun_int hb' hb2
      refine gc_tup rfl (gcs_cons (gc_name (by decide) trivial (gcs_cons (gc_name (by decide) trivial (gcs_nil ?_)))))
      walk_at "go"
      exact rfl
    · walk_at "go"
      rw [cov_map]
      refine cas_all (.inl rfl) ?_
      refine rt_bool ?_
      simp only [covD]
      rw [h1, List.all_map]
      rfl
end
end K32

namespace K32
open PySem L2 RZ DL
local macro_rules | `(tactic| walk_at "dl") => `(tactic| first
  | with_reducible first
    | refine sx_seq ?_ | refine sx_if ?_ | refine sx_ret ?_ | refine sx_next ?_ | refine sx_asg ?_
    | refine et_not ?_ | refine et_B ?_ | refine et_test ?_ | refine et_and ?_ | refine et_or ?_ | refine et_yes ?_
    | refine ev_and ?_ | refine ev_or ?_ | refine ev_not ?_ | refine ev_if ?_ | refine ev_chain ?_
    | refine ev_int ?_ | refine ev_bl ?_ | refine ev_str ?_ | refine ev_non ?_ | refine ev_c ?_
    | refine ev_op ?_ | refine ev_un ?_ | refine ev_cb ?_ | refine ev_fn1 ?_ | refine ev_fn2 ?_ | refine ev_sl ?_ | refine eo_none ?_ | refine eo_some ?_ | refine ev_tup ?_
    | refine ea_cons ?_ | refine ea_nil ?_
    | refine ops_ge ?_ | refine ops_le ?_ | refine ops_gt ?_ | refine ops_lt ?_ | refine ops_leS ?_ | refine ops_ltS ?_ | refine ops_add_int ?_ | refine ops_sub ?_ | refine ops_isN ?_ | refine ops_isNot ?_ | refine ops_eq_int ?_ | refine ops_eqS ?_ | refine ops_neS ?_
    | refine cas_len_tup ?_ | refine cas_isi_int ?_ | refine cas_isi_bool ?_ | refine cas_isi_str ?_ | refine cas_isi_tup ?_ | refine cas_isi_lst ?_
    | refine iteT ?_ | refine iteF ?_ | refine and_nols ?_
  | ((with_reducible refine ev_varx ?_); refine ⟨_, rfl, ?_⟩)
  | ((with_reducible refine ops_ix_tupx ?_); first | refine ⟨_, rfl, ?_⟩ | refine ⟨_, atI_nat (j := 0) rfl, ?_⟩ | refine ⟨_, atI_nat (j := 1) rfl, ?_⟩ | refine ⟨_, atI_nat (j := 2) rfl, ?_⟩)
  | ((with_reducible refine sz_and ?_ ?_); exact rfl)
  | ((with_reducible refine ev_ownx ?_); refine ⟨_, rfl, ?_⟩)
  | ((with_reducible refine ev_refx ?_); refine ⟨_, rfl, ?_⟩)
  | ((with_reducible refine ifT ?_ ?_); exact rfl) | ((with_reducible refine ifF ?_ ?_); exact rfl))
local macro_rules | `(tactic| walk_at "go") => `(tactic| repeat (first | walk_at "dl" | with_reducible refine ⟨_, rfl, ?_⟩ | with_reducible refine ⟨_, _, rfl, ?_⟩))
/-! ### drawing -/
def nm : Nm := ⟨"cells", "at", "left", "count", by decide +kernel, by decide +kernel, by decide +kernel, by decide +kernel, by decide +kernel, by decide +kernel⟩
def preDraw (ds : List D) : Prop := ∃ m : Int, ds = [.int m] ∧ 1 ≤ m ∧ m < 2 ^ 30
def postDraw (ds : List D) (d : D) : Prop := ∀ m : Int, ds = [.int m] → ∃ r : Int, d = .int r ∧ 0 ≤ r ∧ r < m
section
variable {Pg : Program} {w : World} {K : PySem.W.Frag} {mg : Str → Option Value} {base : Heap} {f : Addr} {fd : FuncData}
theorem fmod_in {i m : Int} (h : 1 ≤ m) : 0 ≤ i.fmod m ∧ i.fmod m < m := by
  rw [Int.fmod_eq_emod_of_nonneg i (by omega)]
  exact ⟨Int.emod_nonneg _ (by omega), Int.emod_lt_of_pos _ (by omega)⟩
theorem fdiv_nn {i m : Int} (h : 1 ≤ m) (hi : 0 ≤ i) : 0 ≤ i.fdiv m := by
  rw [Int.fdiv_eq_ediv_of_nonneg i (by omega)]
  exact Int.ediv_nonneg hi (by omega)
theorem ok_draw (F : Fun K "_law_draw" "_law_draw" s__law_draw f fd) (T : Txt mg) : FnG Pg w K mg base 1 f fd ["_law_feed_here", "_law_many"] (PmF nm K 1 preDraw postDraw) := by
  have nd := sc__law_draw.nd
  refine fnG_of F sc__law_draw pm_len (fun cdv A ou s H vs Q hgd hr h => ?_)
  have hu := hr.units
  have hu1 : (A.deeper (PyProof.Rows.envOfC "_law_draw" (defScope s__law_draw) s.heap.objs.size f cdv)).units + 1 < cLine := by omega
  refine ⟨_, (pss_cons (ps_dput hu1 (pv 0) pe_str (pe_op (r := rAdd4 K) opAdd (pe_dget hu1 (pv 0) pe_str (fun _ _ => rfl)) pe_int) rfl) (pss_cons (ps_if (pt_cmpR opGt (pe_dget hu1 (pv 0) pe_str (fun _ _ => rfl)) pe_int (nomark _)) (pss_cons (ps_set (i := 2) nd rfl (Or.inl rfl) (pe_op op_modN (pe_dget hu1 (pv 0) pe_str (fun _ _ => rfl)) (pv 1)) (hf := Or.inl rfl)) (pss_cons (ps_dput hu1 (pv 0) pe_str (pe_op op_fdivN (pe_dget hu1 (pv 0) pe_str (fun _ _ => rfl)) (pv 1)) rfl) (pss_one (ps_ret (pv 2))))) pss_nil) (pss_cons (ps_set (i := 3) nd rfl (Or.inl rfl) (pe_dget hu1 (pv 0) pe_str (fun _ _ => rfl)) (hf := Or.inl rfl)) (pss_cons (ps_dput hu1 (pv 0) pe_str (pe_op (r := rAdd4 K) opAdd (pv 3) pe_int) rfl) (pss_cons (ps_set (i := 4) nd rfl (Or.inl rfl) (pe_ifExp (pt_cmpR (r := rNe2 K) (opNe hu) (pe_dget hu1 (pv 0) pe_str (fun _ _ => rfl)) (pe_lst pa_nil) (nomark _)) (pe_ix (r := rIx K) ix_seq (pe_dget hu1 (pv 0) pe_str (fun _ _ => rfl)) (pe_op op_modN (pv 3) (pe_callB (r := rLenA K) call_len (by rfl) T.b_len (by decide +kernel) (pa_cons (pe_dget hu1 (pv 0) pe_str (fun _ _ => rfl)) pa_nil))) (fun _ _ => rfl)) pe_int) (hf := Or.inl rfl)) (pss_cons (ps_if (PW.pt (pw_and (pt_cmpR opGe (pv 4) (pe_op op_pow pe_int pe_int) (nomark _)) (pw_and1 (pt_cmpR opLt (pv 3) (pe_callB (r := rLenA K) call_len (by rfl) T.b_len (by decide +kernel) (pa_cons (pe_dget hu1 (pv 0) pe_str (fun _ _ => rfl)) pa_nil)) (nomark _))))) (pss_cons (ps_dput hu1 (pv 0) pe_str (pe_op op_fdivN (pv 4) (pv 1)) rfl) (pss_one (ps_ret (pe_op op_modN (pv 4) (pv 1))))) pss_nil) (pss_cons (ps_set (i := 5) nd rfl (Or.inl rfl) (pe_op op_modN (pe_op (r := rAdd4 K) opAdd (pe_op (r := rAdd4 K) opAdd (pe_op op_modN (pv 4) pe_int) (pe_op (r := rMul2 K) opMul pe_int (pe_dget hu1 (pv 0) pe_str (fun _ _ => rfl)))) pe_int) pe_int) (hf := Or.inl rfl)) (pss_cons (ps_set (i := 5) nd rfl (Or.inl rfl) (pe_op op_modN (pe_op (r := rAdd4 K) opAdd (pe_op (r := rAdd4 K) opAdd (pe_op (r := rMul2 K) opMul (pv 5) (pv 5)) (pe_op (r := rMul2 K) opMul pe_int (pe_dget hu1 (pv 0) pe_str (fun _ _ => rfl)))) pe_int) pe_int) (hf := Or.inl rfl)) (pss_one (ps_ret (pe_op op_modN (pe_op op_fdivN (pe_op op_modN (pe_op (r := rAdd4 K) opAdd (pe_op (r := rMul2 K) opMul (pv 5) (pv 5)) (pe_op (r := rMul2 K) opMul pe_int (pv 5))) pe_int) pe_int) (pv 1)))))))))))), bodyF (by decide) h fun a l cs F0 ds hl ⟨m, hm, hm1, hm2⟩ => ?_⟩
  subst hm
  change Sx K (feedW nm a l cs) H F0 _ [.rf (.ref a), .dat (.int m), .un, .un, .un, .un] _
  have hm0 : m ≠ 0 := by omega
  have hdv : CDivN 0 m := ⟨hm0, by omega⟩
  walk_at "go"
  refine sx_fput (m := nm) rfl (.inr (.inr rfl)) ?_
  walk_at "go"
  refine ev_fgetI (m := nm) rfl (.inr (.inr rfl)) fun c0 hc0 => ?_
  walk_at "go"
  refine ⟨by omega, ?_⟩
  walk_at "go"
  refine ev_fgetI (m := nm) rfl (.inr (.inl rfl)) fun l0 hl0 => ?_
  walk_at "go"
  refine if2 (fun h1 => ?_) (fun h1 => ?_)
  · walk_at "go"
    refine ev_fgetI (m := nm) rfl (.inr (.inl rfl)) fun l1 hl1 => ?_
    walk_at "go"
    refine ops_mod hm0 ?_
    walk_at "go"
    refine sx_fput (m := nm) rfl (.inr (.inl rfl)) ?_
    walk_at "go"
    refine ev_fgetI (m := nm) rfl (.inr (.inl rfl)) fun l2 hl2 => ?_
    walk_at "go"
    refine ops_fdiv hdv ?_
    walk_at "go"
    refine ⟨fdiv_nn hm1 hl2, ?_⟩
    walk_at "go"
    exact fun m' e => by cases e; exact ⟨_, rfl, fmod_in hm1⟩
  walk_at "go"
  refine ev_fgetI (m := nm) rfl (.inl rfl) fun t0 ht0 => ?_
  walk_at "go"
  refine sx_fput (m := nm) rfl (.inl rfl) ?_
  walk_at "go"
  refine ⟨by omega, ?_⟩
  -- the cell, whatever it is; then the rest
  refine sx_seq (sx_asg (Ev.mono (P := fun s => ∃ v : Int, s = .dat (.int v)) ?_ ?_))
  · walk_at "go"
    refine ev_fgetC (m := nm) rfl ?_
    refine ev_frz (evn_lst ?_)
    walk_at "go"
    refine ops_fne ?_
    refine ⟨_, rfl, if2 (fun h2 => ?_) (fun h2 => ?_)⟩
    · walk_at "go"
      refine ev_fgetC (m := nm) rfl ?_
      walk_at "go"
      refine ev_fgetC (m := nm) rfl ?_
      walk_at "go"
      refine cas_flen ?_
      have hl1 : 1 ≤ (cs.length : Int) := by
        cases cs with
        | nil => cases h2
        | cons c r =>
          rw [List.length_cons]
          omega
      refine ops_mod (by omega) ?_
      have q := fmod_in (i := t0) hl1
      exact ops_fix q.1 q.2 fun v => ⟨v, rfl⟩
    · walk_at "go"
      exact ⟨_, rfl⟩
  rintro s ⟨v, rfl⟩
  refine ⟨trivial, ?_⟩
  walk_at "go"
  refine ops_pow ⟨by decide, by decide, by decide⟩ ?_
  walk_at "go"
  refine if2 (fun h2 => ?_) (fun h2 => ?_)
  · walk_at "go"
    refine ev_fgetC (m := nm) rfl ?_
    walk_at "go"
    refine cas_flen ?_
    walk_at "go"
    refine if2 (fun h3 => ?_) (fun h3 => ?_)
    · walk_at "go"
      refine sx_fput (m := nm) rfl (.inr (.inl rfl)) ?_
      walk_at "go"
      refine ops_fdiv hdv ?_
      walk_at "go"
      have hv : (10 : Int) ^ (18 : Int).toNat ≤ v := of_decide_eq_true h2
      have hv2 : 0 ≤ v := Int.le_trans (by decide) hv
      refine ⟨fdiv_nn hm1 hv2, ?_⟩
      walk_at "go"
      refine ops_mod hm0 ?_
      walk_at "go"
      exact fun m' e => by cases e; exact ⟨_, rfl, fmod_in hm1⟩
    · walk_at "go"
      refine ops_mod (by decide) ?_
      walk_at "go"
      refine ev_fgetI (m := nm) rfl (.inr (.inr rfl)) fun ck hck => ?_
      walk_at "go"
      refine ops_mul (.inl ⟨by decide, by decide⟩) ?_
      walk_at "go"
      refine ops_mod (by decide) ?_
      have b1 := fmod_in (i := (v.fmod 1000003621 + 63029 * ck + 63)) (m := 2147483579) (by decide)
      generalize (v.fmod 1000003621 + 63029 * ck + 63).fmod 2147483579 = z1 at b1 ⊢
      walk_at "go"
      refine ops_mul (.inl ⟨by omega, by omega⟩) ?_
      walk_at "go"
      refine ev_fgetI (m := nm) rfl (.inr (.inr rfl)) fun cl hcl => ?_
      walk_at "go"
      refine ops_mul (.inl ⟨by decide, by decide⟩) ?_
      walk_at "go"
      refine ops_mod (by decide) ?_
      have b2 := fmod_in (i := (z1 * z1 + 7068787 * cl + 33)) (m := 2147483549) (by decide)
      generalize (z1 * z1 + 7068787 * cl + 33).fmod 2147483549 = z2 at b2 ⊢
      walk_at "go"
      refine ops_mul (.inl ⟨by omega, by omega⟩) ?_
      walk_at "go"
      refine ops_mul (.inl ⟨by decide, by decide⟩) ?_
      walk_at "go"
      refine ops_mod (by decide) ?_
      walk_at "go"
      refine ops_fdiv ⟨by decide, by decide⟩ ?_
      walk_at "go"
      refine ops_mod hm0 ?_
      walk_at "go"
      exact fun m' e => by cases e; exact ⟨_, rfl, fmod_in hm1⟩
  · walk_at "go"
    refine ops_mod (by decide) ?_
    walk_at "go"
    refine ev_fgetI (m := nm) rfl (.inr (.inr rfl)) fun ck hck => ?_
    walk_at "go"
    refine ops_mul (.inl ⟨by decide, by decide⟩) ?_
    walk_at "go"
    refine ops_mod (by decide) ?_
    have b1 := fmod_in (i := (v.fmod 1000003621 + 63029 * ck + 63)) (m := 2147483579) (by decide)
    generalize (v.fmod 1000003621 + 63029 * ck + 63).fmod 2147483579 = z1 at b1 ⊢
    walk_at "go"
    refine ops_mul (.inl ⟨by omega, by omega⟩) ?_
    walk_at "go"
    refine ev_fgetI (m := nm) rfl (.inr (.inr rfl)) fun cl hcl => ?_
    walk_at "go"
    refine ops_mul (.inl ⟨by decide, by decide⟩) ?_
    walk_at "go"
    refine ops_mod (by decide) ?_
    have b2 := fmod_in (i := (z1 * z1 + 7068787 * cl + 33)) (m := 2147483549) (by decide)
    generalize (z1 * z1 + 7068787 * cl + 33).fmod 2147483549 = z2 at b2 ⊢
    walk_at "go"
    refine ops_mul (.inl ⟨by omega, by omega⟩) ?_
    walk_at "go"
    refine ops_mul (.inl ⟨by decide, by decide⟩) ?_
    walk_at "go"
    refine ops_mod (by decide) ?_
    walk_at "go"
    refine ops_fdiv ⟨by decide, by decide⟩ ?_
    walk_at "go"
    refine ops_mod hm0 ?_
    walk_at "go"
    exact fun m' e => by cases e; exact ⟨_, rfl, fmod_in hm1⟩
end
abbrev LDraw (Pg : Program) (w : World) (K : PySem.W.Frag) (mg : Str → Option Value) (base : Heap) := Fn Pg w K mg base "_law_draw" 1 ["_law_feed_here", "_law_many"] (PmF nm K 1 preDraw postDraw)
/-- drawing a number below m -/
theorem ev_draw {K : PySem.W.Frag} {H0 : Hp} {ρ : Rho} {P : Sl → Prop} {a l : Addr} {cs : List Int} {t : TA} (h : EvA K (feedW nm a l cs) H0 t ρ fun ss => ∃ m : Int, ss = [.rf (.ref a), .dat (.int m)] ∧ (1 ≤ m ∧ m < 2 ^ 30) ∧ ∀ r : Int, 0 ≤ r → r < m → P (.dat (.int r))) :
    Ev K (feedW nm a l cs) H0 (tFn (PmF nm K 1 preDraw postDraw) t) ρ P := ev_fnF fun σ F H o ho Q q => h σ F H o ho Q fun vs F' H' ss o' st hv ⟨m, e, hm, k⟩ => q vs F' H' ss o' st hv ⟨[.int m], e, rfl, ⟨m, rfl, hm⟩, fun d hd => by
    obtain ⟨r, e, h1, h2⟩ := hd m rfl
    rw [e]
    exact k r h1 h2⟩
def spFeed (K : PySem.W.Frag) : Sp := fun vs H Q _ => ∃ p ns, vs = [.ref p] ∧ SqL K H p (List.map V.int ns) ∧ ∀ (a l : Addr) (H' : Hp) (cs : List Int), (∀ b u, H b = some u → H' b = some u) → H a = none → H l = none → a ≠ l →
  H' a = some (.dK (fdict nm l 0 0 0)) → H' l = some (.lst (cs.map V.int)) → Q (.ref a) H'
section
variable {Pg : Program} {w : World} {K : PySem.W.Frag} {mg : Str → Option Value} {base : Heap} {f : Addr} {fd : FuncData}
theorem ok_feed (F : Fun K "_law_feed" "_law_feed" s__law_feed f fd) (T : Txt mg) : FnG Pg w K mg base 1 f fd ["_law_script"] (spFeed K) := by
  have nd := sc__law_feed.nd
  refine fnG_of F sc__law_feed (fun vs H Q E h => ?_) (fun cdv A ou s H vs Q hgd hr h => ?_)
  · obtain ⟨p, ns, rfl, _⟩ := h
    rfl
  obtain ⟨p, ns, rfl, hS, k⟩ := h
  refine ⟨_, (pss_one (ps_ret (pe_disp (pps_cons pe_str (pe_callTy (r := rListOf K) call_list_of (by rfl) T.b_list (by decide +kernel) (pa_cons (pe_slice (r := rSl3 K) slAny (pv 0) po_none (po_some pe_int)) pa_nil)) (pps_cons pe_str pe_int (pps_cons pe_str pe_int (pps_cons pe_str pe_int pps_nil)))) (by rfl) (by rfl) (fun z => by cases z) (by decide)))), ?_⟩
  intro a ha
  have s0 : Same H (upd H a (.dK [])) := sm_new ha
  refine ⟨.ref p, rfl, 63, rfl, ?_⟩
  refine .inl (.inl ⟨p, _, rfl, sql_mono s0 hS, fun t ht => ?_⟩)
  refine ⟨t, _, rfl, .inl (SqL.of upd_same), fun l hl => ?_⟩
  have na : t ≠ a := fun z => by rw [z, upd_same] at ht; cases ht
  have nt : l ≠ t := fun z => by rw [z, upd_same] at hl; cases hl
  have nl : l ≠ a := fun z => by rw [z, upd_ne na.symm, upd_same] at hl; cases hl
  have hl0 : H l = none := by rw [upd_ne nt, upd_ne nl] at hl; exact hl
  have ht0 : H t = none := by rw [upd_ne na] at ht; exact ht
  have e : cutV (List.map V.int ns) none (some 63) = List.map V.int (cutV (List.map V.int ns) none (some 63) |>.map fun v => match v with | .int i => i | _ => 0) := by
    unfold cutV
    simp [List.map_take, List.map_drop, Function.comp_def]
  refine ⟨by rw [upd_ne nl.symm, upd_ne na.symm, upd_same], fdict nm l 0 0 0, rfl, by show 4 ≤ 15; decide, ?_⟩
  refine k a l _ _ (fun b u eb => ?_) ha hl0 nl.symm upd_same (by rw [upd_ne nl, upd_same]; exact congrArg (fun z => some (HO.lst z)) e)
  have n1 : b ≠ a := fun z => by rw [z, ha] at eb; cases eb
  have n2 : b ≠ l := fun z => by rw [z, hl0] at eb; cases eb
  have n3 : b ≠ t := fun z => by rw [z, ht0] at eb; cases eb
  rw [upd_ne n1, upd_ne n2, upd_ne n3, upd_ne n1]
  exact eb
end
end K32

namespace K32
open PySem L2 RZ DL
/-! the walk by data -/
local macro_rules | `(tactic| walk_at "dl") => `(tactic| first
  | with_reducible first
    | refine sx_seq ?_ | refine sx_if ?_ | refine sx_ret ?_ | refine sx_next ?_ | refine sx_asg ?_
    | refine et_not ?_ | refine et_B ?_ | refine et_test ?_ | refine et_and ?_ | refine et_or ?_ | refine et_yes ?_
    | refine ev_and ?_ | refine ev_or ?_ | refine ev_not ?_ | refine ev_if ?_ | refine ev_chain ?_
    | refine ev_int ?_ | refine ev_bl ?_ | refine ev_str ?_ | refine ev_non ?_ | refine ev_c ?_
    | refine ev_op ?_ | refine ev_un ?_ | refine ev_cb ?_ | refine ev_fn1 ?_ | refine ev_fn2 ?_ | refine ev_sl ?_ | refine eo_none ?_ | refine eo_some ?_ | refine ev_tup ?_
    | refine ea_cons ?_ | refine ea_nil ?_
    | refine ops_ge ?_ | refine ops_le ?_ | refine ops_gt ?_ | refine ops_lt ?_ | refine ops_leS ?_ | refine ops_ltS ?_ | refine ops_add_int ?_ | refine ops_sub ?_ | refine ops_isN ?_ | refine ops_isNot ?_ | refine ops_eq_int ?_ | refine ops_eqS ?_ | refine ops_neS ?_
    | refine cas_len_tup ?_ | refine cas_isi_int ?_ | refine cas_isi_bool ?_ | refine cas_isi_str ?_ | refine cas_isi_tup ?_ | refine cas_isi_lst ?_
    | refine iteT ?_ | refine iteF ?_ | refine and_nols ?_
  | ((with_reducible refine ev_varx ?_); refine ⟨_, rfl, ?_⟩)
  | ((with_reducible refine ops_ix_tupx ?_); first | refine ⟨_, rfl, ?_⟩ | refine ⟨_, atI_nat (j := 0) rfl, ?_⟩ | refine ⟨_, atI_nat (j := 1) rfl, ?_⟩ | refine ⟨_, atI_nat (j := 2) rfl, ?_⟩ | refine ⟨_, atI_nat (j := 3) rfl, ?_⟩ | refine ⟨_, atI_nat (j := 4) rfl, ?_⟩ | refine ⟨_, atI_nat (j := 5) rfl, ?_⟩ | refine ⟨_, atI_nat (j := 6) rfl, ?_⟩)
  | ((with_reducible refine sz_and ?_ ?_); exact rfl)
  | ((with_reducible refine ev_ownx ?_); refine ⟨_, rfl, ?_⟩)
  | ((with_reducible refine ev_refx ?_); refine ⟨_, rfl, ?_⟩)
  | (with_reducible refine sxn_seq ?_) | (with_reducible refine uns_neg ?_) | (with_reducible refine ev_frz (evn_lst ?_)) | (with_reducible refine sls_tup ?_) | (refine ev_revT ?_)
  | ((refine sx_extx ?_); refine ⟨_, rfl, ?_⟩) | ((with_reducible refine ops_add_tup ?_ ?_); exact le_line rfl) | (with_reducible refine cas_listT ?_)
  | ((with_reducible refine ifT ?_ ?_); exact rfl) | ((with_reducible refine ifF ?_ ?_); exact rfl))
local macro_rules | `(tactic| walk_at "go") => `(tactic| repeat (first | walk_at "dl" | with_reducible refine ⟨_, rfl, ?_⟩ | with_reducible refine ⟨_, _, rfl, ?_⟩))
/-! ### how the law looks -/
/-- falling of some ints -/
def preFall (ss : Rho) (ns : List Int) : Prop := ss = [.dat (.list (ns.map .int))] ∨ ss = [.dat (.tuple (ns.map .int))]
abbrev spFall (K : PySem.W.Frag) : Sp := Pm K 1 (fun _ ss => ∃ ns : List Int, preFall ss ns ∧ ns.length < 64) fun _ ss s => ∀ ns : List Int, preFall ss ns → ∃ ms : List Int, s = .dat (.tuple (ms.map .int)) ∧ ms.Perm ns ∧ ms.Pairwise (· ≥ ·)
abbrev LFalling (Pg : Program) (w : World) (K : PySem.W.Frag) (mg : Str → Option Value) (base : Heap) := Fn Pg w K mg base "_law_falling" 1 ["_law_lamps"] (spFall K)
abbrev LCovers (Pg : Program) (w : World) (K : PySem.W.Frag) (mg : Str → Option Value) (base : Heap) := Fn Pg w K mg base "_law_covers" 1 ["_law_up", "_law_low"] (Pm2 K (fun d e => isBun d ∧ isBun e) fun d e => .bool (covD d e))
abbrev LPower (Pg : Program) (w : World) (K : PySem.W.Frag) (mg : Str → Option Value) (base : Heap) := Fn Pg w K mg base "_law_power" 1 ["_law_light"] (Pm1 K (fun d => ∃ n : Nat, d = num n ∧ n ≤ 3) fun d => .int (powI d))
theorem map_int_inj : ∀ {ns ms : List Int}, ns.map PyData.int = ms.map PyData.int → ns = ms
  | [], [], _ => rfl
  | [], _ :: _, h => by cases h
  | _ :: _, [], h => by cases h
  | n :: ns, m :: ms, h => by
    rw [List.map_cons, List.map_cons] at h
    injection h with h1 h2
    injection h1 with h1
    rw [h1, map_int_inj h2]
theorem preFall_inj {ss : Rho} {ns ms : List Int} (h : preFall ss ns) (h' : preFall ss ms) : ns = ms := by
  rcases h with rfl | rfl <;> rcases h' with e | e <;> first
    | (injection e with e _; injection e with e; injection e with e; exact map_int_inj e)
    | (injection e with e _; injection e with e; cases e)
section
variable {Pg : Program} {w : World} {K : PySem.W.Frag} {mg : Str → Option Value} {base : Heap} {f : Addr} {fd : FuncData}
theorem ok_falling (F : Fun K "_law_falling" "_law_falling" s__law_falling f fd) (T : Txt mg) : FnG Pg w K mg base 1 f fd ["_law_lamps"] (spFall K) := by
  have nd := sc__law_falling.nd
  refine fnG_of F sc__law_falling pm_len (fun cdv A ou s H vs Q hgd hr h => ?_)
  refine ⟨_, (pss_one (ps_ret (pe_callTy (r := rTupleOf K) call_tuple_of (by rfl) T.b_tuple (by decide +kernel) (pa_cons (pe_revA (pe_callB (r := rSortedB K) cr_sortedB (by rfl) T.b_sorted (by decide +kernel) (pa_cons (pv 0) pa_nil))) pa_nil)))), pm_body (by decide) h fun W F0 ss hl ⟨ns, hp, h64⟩ => ?_⟩
  have fin : ∀ ms : List Int, ms.Perm ns → ms.Pairwise (· ≤ ·) → ∀ ns' : List Int, preFall ss ns' → ∃ ms' : List Int, Sl.dat (PyData.tuple (ms.map PyData.int).reverse) = .dat (.tuple (ms'.map .int)) ∧ ms'.Perm ns' ∧ ms'.Pairwise (· ≥ ·) := fun ms h1 h2 ns' hp' => by
    obtain rfl := preFall_inj hp hp'
    exact ⟨ms.reverse, by rw [List.map_reverse], (List.reverse_perm ms).trans h1, List.pairwise_reverse.mpr h2⟩
  rcases hp with rfl | rfl
  · change Sx K W H F0 _ [.dat (.list (ns.map .int))] _
    refine sx_ret (ev_cb (ea_cons (ev_rev (ev_cb (ea_cons (ev_varx ⟨_, rfl, ea_nil (cas_sortBL (.inl rfl) h64 fun ms h1 h2 => ⟨_, .inr ⟨.inl rfl, ea_nil (cas_tuple (.inr (.inl rfl)) (fin ms h1 h2))⟩⟩)⟩))))))
  · change Sx K W H F0 _ [.dat (.tuple (ns.map .int))] _
    refine sx_ret (ev_cb (ea_cons (ev_rev (ev_cb (ea_cons (ev_varx ⟨_, rfl, ea_nil (cas_sortBT h64 fun ms h1 h2 => ⟨_, .inr ⟨.inl rfl, ea_nil (cas_tuple (.inr (.inl rfl)) (fin ms h1 h2))⟩⟩)⟩))))))
theorem ok_power (F : Fun K "_law_power" "_law_power" s__law_power f fd) (T : Txt mg) : FnG Pg w K mg base 1 f fd ["_law_light"] (Pm1 K (fun d => ∃ n : Nat, d = num n ∧ n ≤ 3) fun d => .int (powI d)) := by
  have nd := sc__law_power.nd
  refine fnG_of F sc__law_power pm_len (fun cdv A ou s H vs Q hgd hr h => ?_)
  refine ⟨_, (pss_one (ps_ret (pe_ix (r := rIx K) ix_seq (pe_lst (pa_cons pe_int (pa_cons pe_int (pa_cons pe_int (pa_cons pe_int pa_nil))))) (pv 0) (fun _ _ => rfl)))), body1 (by decide) h fun W F0 d ⟨n, hd, hn⟩ => ?_⟩
  subst hd
  change Sx K W H F0 _ [.dat (num n)] _
  walk_at "go"
  match n, hn with
  | 0, _ => exact ops_ix_lstx ⟨_, rfl, rfl⟩
  | 1, _ => exact ops_ix_lstx ⟨_, rfl, rfl⟩
  | 2, _ => exact ops_ix_lstx ⟨_, rfl, rfl⟩
  | 3, _ => exact ops_ix_lstx ⟨_, rfl, rfl⟩
/-- one is less at place k -/
def ltAt (ns ms : List Nat) : D → Bool
  | .int k => decide ((ns.getD k.toNat 0 : Int) < (ms.getD k.toNat 0 : Int))
  | _ => false
theorem cov_zip : ∀ {ns ms : List Nat}, ms.length ≤ ns.length → ((List.range ms.length).filter fun k : Nat => ltAt ns ms (.int (0 + (k : Int)))).isEmpty = ((ns.map num).zip (ms.map num)).all fun p => geD p.1 p.2
  | ns, [], _ => by simp
  | [], m :: ms, h => by simp at h
  | n :: ns, m :: ms, h => by
    have ih := cov_zip (ns := ns) (ms := ms) (by simpa using h)
    have e : ∀ k : Nat, ltAt (n :: ns) (m :: ms) (.int (0 + ((k + 1 : Nat) : Int))) = ltAt ns ms (.int (0 + (k : Int))) := fun k => by
      have e1 : (0 + ((k + 1 : Nat) : Int)).toNat = k + 1 := by omega
      have e2 : (0 + (k : Int)).toNat = k := by omega
      simp only [ltAt, e1, e2, List.getD_cons_succ]
    rw [List.length_cons, List.range_succ_eq_map, List.filter_cons, List.filter_map]
    simp only [Function.comp_def, e, Nat.succ_eq_add_one]
    rw [List.map_cons, List.map_cons, List.zip_cons_cons, List.all_cons, ← ih]
    have e0 : ltAt (n :: ns) (m :: ms) (.int (0 + ((0 : Nat) : Int))) = !geD (num n) (num m) := by
      simp only [ltAt, geD, num]
      have z : (0 + ((0 : Nat) : Int)).toNat = 0 := rfl
      rw [z, List.getD_cons_zero, List.getD_cons_zero]
      by_cases q : (n : Int) < m
      · rw [decide_eq_true q, decide_eq_false (by omega)]
        rfl
      · rw [decide_eq_false q, decide_eq_true (by omega)]
        rfl
    rw [e0]
    cases geD (num n) (num m) <;> simp
theorem ints_shaped (ns : List Int) : SeqAt.shaped (.list (ns.map .int)) = true := by
  show ((PyData.list (ns.map .int)).canLay0 && decide ((PyData.list (ns.map .int)).depth ≤ 64)) = true
  simp only [PyData.canLay0, PyData.depth, ints_lay, ints_dep]
  rfl
theorem ok_covers (F : Fun K "_law_covers" "_law_covers" s__law_covers f fd) (T : Txt mg) : FnG Pg w K mg base 1 f fd ["_law_up", "_law_low"] (Pm2 K (fun d e => isBun d ∧ isBun e) fun d e => .bool (covD d e)) := by
  have nd := sc__law_covers.nd
  refine fnG_of F sc__law_covers pm_len (fun cdv A ou s H vs Q hgd hr h => ?_)
  have hu : (A.deeper (PyProof.Rows.envOfC "_law_covers" (defScope s__law_covers) s.heap.objs.size f cdv)).units + 64 < cLine := by have := hr.un; omega
  refine ⟨_, (pss_one (ps_ret (pe_and (pe_cmpR opGe (pe_callB (r := rLenA K) call_len (by rfl) T.b_len (by decide +kernel) (pa_cons (pv 0) pa_nil)) (pe_callB (r := rLenA K) call_len (by rfl) T.b_len (by decide +kernel) (pa_cons (pv 1) pa_nil)) (nomark _)) (pe_one (pe_cmpR (r := rEq2 K) (opEq hu) (pe_lc (own := [("_law_k", 2)]) (g := gName 2) rfl nd (pi_range1 rfl T.b_range (pa_cons (pe_callB (r := rLenA K) call_len (by rfl) T.b_len (by decide +kernel) (pa_cons (pv 1) pa_nil)) pa_nil)) (blkOk_by (N := ["_law_up", "_law_low", "_law_k"]) (sc := (defScope s__law_covers)) (by decide +kernel)) (fun _ _ _ _ _ => (pg_name (i := 2) nd rfl (Or.inl rfl) (Or.inr rfl))) (fun _ _ _ _ _ => (pts_one (pt_cmpR opLt (pe_ix (r := rIx K) ix_seq (pv 0) (pv 2) (fun _ _ => rfl)) (pe_ix (r := rIx K) ix_seq (pv 1) (pv 2) (fun _ _ => rfl)) (nomark _)))) (fun _ _ _ _ _ => (pv 2))) (pe_lst pa_nil) (nomark _)))))), body2 (by decide) h fun W F0 d e ⟨⟨ns, hd, hl, hb⟩, ⟨ms, he, hl2, hb2⟩⟩ => ?_⟩
  subst hd he
  change Sx K W H F0 _ [.dat (.tuple (ns.map num)), .dat (.tuple (ms.map num)), .un] _
  walk_at "go"
  refine if2 (fun h1 => ?_) (fun h1 => ?_)
  · have h1' : ms.length ≤ ns.length := by
      have := of_decide_eq_true h1
      simp only [List.length_map] at this
      omega
    walk_at "go"
    refine ev_frz (evn_map (ltAt ns ms) (fun d => d) (evi_rng1 ?_))
    walk_at "go"
    refine ⟨by rw [List.length_map]; omega, by rw [List.length_map]; omega, by rw [rngD_len, List.length_map, sizeLine_eq]; omega, fun d hd => ?_, ?_⟩
    · obtain ⟨k, hk, rfl⟩ := List.mem_map.mp hd
      have hk : k < ms.length := by simpa using hk
      have hk' : k < ns.length := by omega
      refine gc_name (by decide) trivial ?_
      have g1 : (ns.map num)[k]? = some (num (ns.getD k 0)) := by simp [hk', num]
      have g2 : (ms.map num)[k]? = some (num (ms.getD k 0)) := by simp [hk, num]
      have z : (0 : Int) + (k : Int) = (k : Int) := by omega
      rw [z]
      refine et_B ?_
      walk_at "go"
      refine ops_ix_tup (atI_nat g1) ?_
      walk_at "go"
      refine ops_ix_tup (atI_nat g2) ?_
      walk_at "go"
      refine ⟨?_, fun _ => ?_⟩
      · simp [ltAt]
      · walk_at "go"
        exact rfl
    · have e : (List.filter (ltAt ns ms) (rngD 0 ((ms.map num).length : Int).toNat)).map (fun d => d) = (((List.range ms.length).filter fun k : Nat => ltAt ns ms (.int (0 + (k : Int)))).map fun k : Nat => 0 + (k : Int)).map PyData.int := by
        rw [List.map_id']
        unfold rngD
        rw [List.length_map, Int.toNat_natCast, List.filter_map, List.map_map]
        rfl
      rw [e]
      refine ev_frz (evn_lst ?_)
      walk_at "go"
      refine ops_eq (ints_shaped _) rfl ?_
      refine rt_bool ?_
      have h1'' : (!decide (((ns.map num).length : Int) < ((ms.map num).length : Int))) = true := by
        rw [List.length_map, List.length_map, decide_eq_false (by omega)]
        rfl
      simp only [covD]
      rw [h1'', Bool.true_and, ← cov_zip h1']
      cases (List.range ms.length).filter fun k : Nat => ltAt ns ms (.int (0 + (k : Int))) with
      | nil => rfl
      | cons a t => simp [PyData.eqv, PyData.eqvAll]
  · refine rt_bool ?_
    have h1'' : (!decide (((ns.map num).length : Int) < ((ms.map num).length : Int))) = false := by
      have := of_decide_eq_false h1
      rw [decide_eq_true (by omega)]
      rfl
    simp only [covD]
    rw [h1'', Bool.false_and]
end
end K32

namespace K32
open PySem L2 RZ DL
/-! the walk by data -/
local macro_rules | `(tactic| walk_at "dl") => `(tactic| first
  | with_reducible first
    | refine sx_seq ?_ | refine sx_if ?_ | refine sx_next ?_
    | refine et_not ?_ | refine et_B ?_ | refine et_test ?_ | refine et_and ?_ | refine et_or ?_ | refine et_yes ?_
    | refine ev_and ?_ | refine ev_or ?_ | refine ev_not ?_ | refine ev_if ?_ | refine ev_chain ?_
    | refine ev_int ?_ | refine ev_bl ?_ | refine ev_str ?_ | refine ev_non ?_ | refine ev_c ?_
    | refine ev_op ?_ | refine ev_un ?_ | refine ev_cb ?_ | refine ev_fn1 ?_ | refine ev_fn2 ?_ | refine ev_sl ?_ | refine eo_none ?_ | refine eo_some ?_ | refine ev_tup ?_
    | refine ea_cons ?_ | refine ea_nil ?_
    | refine ops_ge ?_ | refine ops_le ?_ | refine ops_gt ?_ | refine ops_lt ?_ | refine ops_leS ?_ | refine ops_ltS ?_ | refine ops_add_int ?_ | refine ops_sub ?_ | refine ops_isN ?_ | refine ops_isNot ?_ | refine ops_eq_int ?_ | refine ops_eqS ?_ | refine ops_neS ?_
    | refine cas_len_tup ?_ | refine cas_isi_int ?_ | refine cas_isi_bool ?_ | refine cas_isi_str ?_ | refine cas_isi_tup ?_ | refine cas_isi_lst ?_
    | refine iteT ?_ | refine iteF ?_ | refine and_nols ?_
  | ((with_reducible refine ev_varx ?_); refine ⟨_, rfl, ?_⟩)
  | ((with_reducible refine ops_ix_tupx ?_); first | refine ⟨_, rfl, ?_⟩ | refine ⟨_, atI_nat (j := 0) rfl, ?_⟩ | refine ⟨_, atI_nat (j := 1) rfl, ?_⟩ | refine ⟨_, atI_nat (j := 2) rfl, ?_⟩ | refine ⟨_, atI_nat (j := 3) rfl, ?_⟩ | refine ⟨_, atI_nat (j := 4) rfl, ?_⟩ | refine ⟨_, atI_nat (j := 5) rfl, ?_⟩ | refine ⟨_, atI_nat (j := 6) rfl, ?_⟩)
  | ((with_reducible refine sz_and ?_ ?_); exact rfl)
  | ((with_reducible refine ev_ownx ?_); refine ⟨_, rfl, ?_⟩)
  | ((with_reducible refine ev_refx ?_); refine ⟨_, rfl, ?_⟩)
  | (with_reducible refine sxn_seq ?_) | (with_reducible refine uns_neg ?_) | (with_reducible refine ev_frz (evn_lst ?_)) | (with_reducible refine sls_tup ?_) | (refine ev_revT ?_)
  | ((refine sx_extx ?_); refine ⟨_, rfl, ?_⟩) | ((with_reducible refine ops_add_tup ?_ ?_); exact le_line rfl) | (with_reducible refine cas_listT ?_)
  | ((with_reducible refine ifT ?_ ?_); exact rfl) | ((with_reducible refine ifF ?_ ?_); exact rfl))
local macro_rules | `(tactic| walk_at "go") => `(tactic| repeat (first | walk_at "dl" | with_reducible refine ⟨_, rfl, ?_⟩ | with_reducible refine ⟨_, _, rfl, ?_⟩))
/-! ### things drawn -/
def lenB : D → Bool
  | .tuple ds => decide (ds.length ≤ 30)
  | _ => true
structure Mild (j : Nat) (d : D) : Prop where
  bd : Bd (10 ^ 59) (4500 + 5000 * j) (3 + j) d
  len : lenB d = true
theorem mild_dec {d : D} (h : (okD (10 ^ 59) d && decide (d.weight ≤ 4500) && decide (d.depth ≤ 3) && lenB d) = true) : Mild 0 d := by
  simp only [Bool.and_eq_true, decide_eq_true_eq] at h
  exact ⟨⟨h.1.1.1, h.1.1.2, h.1.2⟩, h.2⟩
theorem Mild.mono {i j : Nat} {d : D} (h : Mild i d) (hj : i ≤ j) : Mild j d := ⟨h.bd.mono (Nat.le_refl _) (by omega) (by omega), h.len⟩
theorem Mild.tup {d : D} {ds : List D} {j : Nat} (h : Mild j d) (e : d = .tuple ds) : ds.length ≤ 30 := by
  have := h.len
  rw [e] at this
  exact of_decide_eq_true this
theorem num_bd {n : Nat} (h : n ≤ 3) : Bd 3 198 0 (num n) := bd_int (by omega) (by decide +kernel)
theorem bun_bds : ∀ {ns : List Nat}, (∀ n ∈ ns, n ≤ 3) → Bds 3 (199 * ns.length) 0 (ns.map num)
  | [], _ => bds_nil
  | n :: ns, h => (bds_cons (num_bd (h n (by simp))) (bun_bds fun m hm => h m (by simp [hm]))).mono (Nat.le_refl _) (by rw [List.length_cons]; omega) (Nat.le_refl _)
def someD : D := .list [.int 2, .int (-2)]
/-- what is bent: a light, or lights -/
def isStuff (j : Nat) (s : D) : Prop := (∃ n : Nat, s = num n ∧ n ≤ 3) ∨ (1 ≤ j ∧ isBun s)
def preOdd (j : Nat) (ds : List D) : Prop := ∃ s, ds = [s, someD] ∧ isStuff j s
abbrev LOdd (Pg : Program) (w : World) (K : PySem.W.Frag) (mg : Str → Option Value) (base : Heap) := Fn Pg w K mg base "_law_odd" 2 ["_law_feed_here", "_law_stuff", "_law_some"] (PmF nm K 2 (preOdd 1) fun _ d => Mild 0 d)
theorem mild_all {xs ys : List D} (h : ∀ d ∈ xs, Mild 0 d) (h' : ∀ d ∈ ys, Mild 0 d) : ∀ d ∈ xs ++ ys, Mild 0 d := fun d m => by
  rcases List.mem_append.mp m with m | m
  · exact h d m
  · exact h' d m
theorem mild_cons {x : D} {xs : List D} (h : Mild 0 x) (h' : ∀ d ∈ xs, Mild 0 d) : ∀ d ∈ x :: xs, Mild 0 d := fun d m => by
  rcases List.mem_cons.mp m with rfl | m
  · exact h
  · exact h' d m
theorem mild_nil : ∀ d ∈ ([] : List D), Mild 0 d := fun d m => (nomatch m)
theorem mild_of {d : D} (h : Bd (10 ^ 59) 4500 3 d) (hl : lenB d = true) : Mild 0 d := ⟨h, hl⟩
/-- the menu ahead of what the stuff gives -/
def menu0 (s : D) : List D := [.none, .bool true, .bool false, .str "", .str "a", .tuple [], .list [], .list [s], .tuple [s], .int 0, .int 1, .int (-1), .int (10 ^ 59)] ++ [.int 2, .int (-2)]
theorem menu0_ok {s : D} (h : Bd (10 ^ 59) 4000 2 s) : ∀ d ∈ menu0 s, Mild 0 d := by
  have q1 : Bds (10 ^ 59) 4001 2 [s] := bds_one h
  exact mild_all (mild_cons (mild_dec (by decide +kernel)) <| mild_cons (mild_dec (by decide +kernel)) <| mild_cons (mild_dec (by decide +kernel)) <| mild_cons (mild_dec (by decide +kernel)) <| mild_cons (mild_dec (by decide +kernel)) <|
    mild_cons (mild_dec (by decide +kernel)) <| mild_cons (mild_dec (by decide +kernel)) <| mild_cons (mild_of ((bd_lst.mpr q1).mono (Nat.le_refl _) (by decide) (by decide)) rfl) <| mild_cons (mild_of ((bd_tup.mpr q1).mono (Nat.le_refl _) (by decide) (by decide)) rfl) <|
    mild_cons (mild_dec (by decide +kernel)) <| mild_cons (mild_dec (by decide +kernel)) <| mild_cons (mild_dec (by decide +kernel)) <| mild_cons (mild_dec (by decide +kernel)) mild_nil) (mild_cons (mild_dec (by decide +kernel)) <| mild_cons (mild_dec (by decide +kernel)) mild_nil)
theorem mild_twice {xs : List D} (h : ∀ d ∈ xs, Mild 0 d) : ∀ d ∈ (List.replicate (2 : Int).toNat xs).flatten, Mild 0 d := fun d m => by
  obtain ⟨l, hl, hd⟩ := List.mem_flatten.mp m
  rw [List.eq_of_mem_replicate hl] at hd
  exact h d hd
theorem len_cut (ds : List D) (lo hi : Option Int) : (cutD ds lo hi).length ≤ ds.length := by
  unfold cutD
  rw [List.length_take, List.length_drop]
  omega
/-- what a light gives -/
def menuN (n : Nat) : List D := [.bool (decide ((n : Int) = 1)), .bool (!PyData.eqv (num n) (.int 0)), .int (n + 1), .int (n - 1), .int (0 - n), .int (2 * n), .str (Str.ofString (toString (n : Int)))]
theorem mild_int {i : Int} (h : i.natAbs ≤ 100) : Mild 0 (.int i) := mild_of ((bd_int (k := 10 ^ 59) (n := 0) (Nat.le_trans h (by decide +kernel)) (by decide +kernel)).mono (Nat.le_refl _) (by decide) (by decide)) rfl
theorem menuN_ok {n : Nat} (h : n ≤ 3) : ∀ d ∈ menuN n, Mild 0 d :=
  mild_cons (mild_of bd_bool rfl) <| mild_cons (mild_of bd_bool rfl) <| mild_cons (mild_int (by omega)) <| mild_cons (mild_int (by omega)) <| mild_cons (mild_int (by omega)) <| mild_cons (mild_int (by omega)) <|
    mild_cons (mild_of (bd_str.mpr ((bt_int (i := (n : Int)) (Nat.le_trans (m := 3) (by omega) (by decide +kernel))).mono (by decide))) rfl) mild_nil
/-- what lights give -/
def menuT (ds : List D) : List D := [.list ds, .tuple (cutD ds (some 1) none), .tuple (cutD ds none (some (-1))), .tuple ds.reverse, .tuple (ds ++ cutD ds none (some 1))]
theorem menuT_ok {ns : List Nat} (h : Bds 3 (199 * ns.length) 0 (ns.map num)) (hl : ns.length ≤ 10) : ∀ d ∈ menuT (ns.map num), Mild 0 d := by
  have g : Bds (10 ^ 59) 2000 2 (ns.map num) := h.mono (by decide +kernel) (by omega) (by decide)
  have up : ∀ {es : List D}, Bds (10 ^ 59) 4000 2 es → es.length ≤ 20 → Mild 0 (.tuple es) := fun q hq => mild_of ((bd_tup.mpr q).mono (Nat.le_refl _) (by decide) (by decide)) (decide_eq_true (by omega))
  have c1 := len_cut (ns.map num) (some 1) none
  have c2 := len_cut (ns.map num) none (some (-1))
  have c3 := len_cut (ns.map num) none (some 1)
  rw [List.length_map] at c1 c2 c3
  refine mild_cons (mild_of ((bd_lst.mpr g).mono (Nat.le_refl _) (by decide) (by decide)) rfl) <| mild_cons (up ((bds_cut g _ _).mono (Nat.le_refl _) (by decide) (Nat.le_refl _)) (by omega)) <| mild_cons (up ((bds_cut g _ _).mono (Nat.le_refl _) (by decide) (Nat.le_refl _)) (by omega)) <|
    mild_cons (up ((bds_rev g).mono (Nat.le_refl _) (by decide) (Nat.le_refl _)) (by rw [List.length_reverse, List.length_map]; omega)) <| mild_cons (up ((bds_app g (bds_cut g _ _)).mono (Nat.le_refl _) (by decide) (Nat.le_refl _)) (by rw [List.length_append, List.length_map]; omega)) mild_nil
section
variable {Pg : Program} {w : World} {K : PySem.W.Frag} {mg : Str → Option Value} {base : Heap} {f : Addr} {fd : FuncData}
theorem ok_odd (F : Fun K "_law_odd" "_law_odd" s__law_odd f fd) (T : Txt mg) (C__law_draw : LDraw Pg w K mg base) : FnG Pg w K mg base 2 f fd ["_law_feed_here", "_law_stuff", "_law_some"] (PmF nm K 2 (preOdd 1) fun _ d => Mild 0 d) := by
  have nd := sc__law_odd.nd
  refine fnG_of F sc__law_odd pm_len (fun cdv A ou s H vs Q hgd hr h => ?_)
  have hu : (A.deeper (PyProof.Rows.envOfC "_law_odd" (defScope s__law_odd) s.heap.objs.size f cdv)).units + 64 < cLine := by have := hr.un; omega
  refine ⟨_, (pss_cons (ps_set (i := 3) nd rfl (Or.inl rfl) (pe_op (r := rAdd4 K) opAdd (pe_lst (pa_cons pe_non (pa_cons pe_bl (pa_cons pe_bl (pa_cons pe_str (pa_cons pe_str (pa_cons (pe_tup pa_nil) (pa_cons (pe_lst pa_nil) (pa_cons (pe_lst (pa_cons (pv 1) pa_nil)) (pa_cons (pe_tup (pa_cons (pv 1) pa_nil)) (pa_cons pe_int (pa_cons pe_int (pa_cons (pe_un un_neg pe_int) (pa_cons (pe_op op_pow pe_int pe_int) pa_nil)))))))))))))) (pv 2)) (hf := Or.inl rfl)) (pss_cons (ps_if (pt_val (pe_callB (r := rIsi K) call_isi (by rfl) T.b_isinstance (by decide +kernel) (pa_cons (pv 1) (pa_cons (pe_bltn (v := .ty "tuple") rfl T.b_tuple (by decide +kernel) rfl) pa_nil)))) (pss_one (ps_set (i := 3) nd rfl (Or.inl rfl) (pe_op (r := rAdd4 K) opAdd (pv 3) (pe_op (r := rMul3 K) opMul3 (pe_lst (pa_cons (pe_callTy (r := rListOf K) call_list_of (by rfl) T.b_list (by decide +kernel) (pa_cons (pv 1) pa_nil)) (pa_cons (pe_slice (r := rSl3 K) slAny (pv 1) (po_some pe_int) po_none) (pa_cons (pe_slice (r := rSl3 K) slAny (pv 1) po_none (po_some (pe_un un_neg pe_int))) (pa_cons (pe_revA (pv 1)) (pa_cons (pe_op (r := rAdd4 K) opAdd (pv 1) (pe_slice (r := rSl3 K) slAny (pv 1) po_none (po_some pe_int))) pa_nil)))))) pe_int)) (hf := Or.inl rfl))) pss_nil) (pss_cons (ps_if (pt_val (pe_callB (r := rIsi K) call_isi (by rfl) T.b_isinstance (by decide +kernel) (pa_cons (pv 1) (pa_cons (pe_bltn (v := .ty "int") rfl T.b_int (by decide +kernel) rfl) pa_nil)))) (pss_one (ps_set (i := 3) nd rfl (Or.inl rfl) (pe_op (r := rAdd4 K) opAdd (pv 3) (pe_op (r := rMul3 K) opMul3 (pe_lst (pa_cons (pe_cmpR (r := rEq2 K) (opEq hu) (pv 1) pe_int (nomark _)) (pa_cons (pe_cmpR (r := rNe2 K) (opNe hu) (pv 1) pe_int (nomark _)) (pa_cons (pe_op (r := rAdd4 K) opAdd (pv 1) pe_int) (pa_cons (pe_op opSub (pv 1) pe_int) (pa_cons (pe_op opSub pe_int (pv 1)) (pa_cons (pe_op (r := rMul2 K) opMul pe_int (pv 1)) (pa_cons (pe_callTy call_strA (by rfl) T.b_str (by decide +kernel) (pa_cons (pv 1) pa_nil)) pa_nil)))))))) pe_int)) (hf := Or.inl rfl))) pss_nil) (pss_cons (ps_if (pt_val (pe_callB (r := rIsi K) call_isi (by rfl) T.b_isinstance (by decide +kernel) (pa_cons (pv 1) (pa_cons (pe_bltn (v := .ty "str") rfl T.b_str (by decide +kernel) rfl) pa_nil)))) (pss_one (ps_set (i := 3) nd rfl (Or.inl rfl) (pe_op (r := rAdd4 K) opAdd (pv 3) (pe_lst (pa_cons (pe_op (r := rAdd4 K) opAdd (pv 1) pe_str) (pa_cons (pe_slice (r := rSl3 K) slAny (pv 1) (po_some pe_int) po_none) (pa_cons pe_str (pa_cons pe_str (pa_cons pe_int pa_nil))))))) (hf := Or.inl rfl))) pss_nil) (pss_one (ps_ret (pe_ix (r := rIx K) ix_seq (pv 3) (pe_fn C__law_draw hgd (hr.mono (by first | decide | omega)) rfl (pa_cons (pv 0) (pa_cons (pe_callB (r := rLenA K) call_len (by rfl) T.b_len (by decide +kernel) (pa_cons (pv 3) pa_nil)) pa_nil))) (fun _ _ => rfl)))))))), bodyF (by decide) h fun a l cs F0 ds hl ⟨d, hd, hs⟩ => ?_⟩
  subst hd
  have last : ∀ {ρ : Rho} {menu : List D}, ρ[0]? = some (.rf (.ref a)) → ρ[3]? = some (.ls menu) → menu ≠ [] → menu.length ≤ 100 → (∀ d ∈ menu, Mild 0 d) →
      Sx K (feedW nm a l cs) H F0 (tRet (tOp (rIx K) (tVar 3) (tFn (PmF nm K 1 preDraw postDraw) (tCons (tVar 0) (tCons (tCB (rLenA K) (tCons (tVar 3) tNil)) tNil))))) ρ { nx := fun _ => Mild 0 .none, rt := fun s => ∃ d, s = .dat d ∧ Mild 0 d } := by
    intro ρ menu h0 h3 hne hln hm
    refine sx_ret (ev_op (ev_own h3 (ev_draw (ea_cons (ev_ref h0 (ea_cons (ev_cb (ea_cons (ev_own h3 (ea_nil (cas_len_lst (.inr rfl) (ea_nil ⟨_, rfl, ⟨?_, ?_⟩, fun r r0 r1 => ?_⟩))))))))))))
    · have : 1 ≤ menu.length := List.length_pos_iff.mpr hne
      omega
    · omega
    · obtain ⟨y, e, hy⟩ := atI_in r0 r1
      exact ops_ix_lst (.inr rfl) e ⟨y, rfl, hm y hy⟩
  change Sx K (feedW nm a l cs) H F0 _ [.rf (.ref a), .dat d, .dat someD, .un] _
  refine sx_seq (sx_asgN (evn_cat (ev_frz (evn_lst ?_))))
  walk_at "go"
  refine ops_pow ⟨by decide, by decide, by decide⟩ ?_
  walk_at "go"
  refine ⟨_, [.int 2, .int (-2)], .inl rfl, .inl rfl, le_line rfl, ?_⟩
  change Sx K (feedW nm a l cs) H F0 _ [.rf (.ref a), .dat d, .dat someD, .ls (menu0 d)] _
  rcases hs with ⟨n, rfl, hn⟩ | ⟨_, ns, rfl, hn, hb⟩
  · have m0 := menu0_ok (s := num n) ((num_bd hn).mono (by decide +kernel) (by decide) (by decide))
    walk_at "go"
    refine sx_asgN (evn_cat (ev_ownx ⟨_, rfl, ev_frz (evn_rep (ev_frz (evn_lst ?_)))⟩))
    walk_at "go"
    refine ops_ne rfl rfl ?_
    walk_at "go"
    refine ops_mul (.inl ⟨by decide, by omega⟩) ?_
    walk_at "go"
    refine cas_strI (i := (n : Int)) (Nat.le_trans (m := 3) (by omega) (by decide +kernel)) ?_
    walk_at "go"
    refine ⟨_, _, .inl rfl, rfl, by decide, by decide, le_line rfl, _, _, .inr rfl, .inl rfl, le_line rfl, ?_⟩
    change Sx K (feedW nm a l cs) H F0 _ [.rf (.ref a), .dat (num n), .dat someD, .ls (menu0 (num n) ++ (List.replicate (2 : Int).toNat (menuN n)).flatten)] _
    walk_at "go"
    exact last rfl rfl (by simp [menu0]) (Nat.le_of_ble_eq_true rfl) (mild_all m0 (mild_twice (menuN_ok hn)))
  · have hbd := bun_bds hb
    have m0 := menu0_ok (s := .tuple (ns.map num)) ((bd_tup.mpr hbd).mono (by decide +kernel) (by omega) (by decide))
    walk_at "go"
    refine sx_asgN (evn_cat (ev_ownx ⟨_, rfl, ev_frz (evn_rep (ev_frz (evn_lst ?_)))⟩))
    walk_at "go"
    refine ops_add_tup (big_line ?_) ?_
    · have := len_cut (ns.map num) none (some 1)
      rw [List.length_map] at this ⊢
      omega
    refine ea_nil ⟨_, rfl, le_line rfl, ev_int ⟨_, _, .inl rfl, rfl, by decide, by decide, le_line rfl, _, _, .inr rfl, .inl rfl, le_line rfl, ?_⟩⟩
    change Sx K (feedW nm a l cs) H F0 _ [.rf (.ref a), .dat (.tuple (ns.map num)), .dat someD, .ls (menu0 (.tuple (ns.map num)) ++ (List.replicate (2 : Int).toNat (menuT (ns.map num))).flatten)] _
    walk_at "go"
    exact last rfl rfl (by simp [menu0]) (Nat.le_of_ble_eq_true rfl) (mild_all m0 (mild_twice (menuT_ok hbd hn)))
end
end K32

namespace K32
open PySem L2 RZ DL
/-! the walk by data -/
local macro_rules | `(tactic| walk_at "dl") => `(tactic| first
  | with_reducible first
    | refine sx_seq ?_ | refine sx_if ?_ | refine sx_next ?_
    | refine et_not ?_ | refine et_B ?_ | refine et_test ?_ | refine et_and ?_ | refine et_or ?_ | refine et_yes ?_
    | refine ev_and ?_ | refine ev_or ?_ | refine ev_not ?_ | refine ev_if ?_ | refine ev_chain ?_
    | refine ev_int ?_ | refine ev_bl ?_ | refine ev_str ?_ | refine ev_non ?_ | refine ev_c ?_
    | refine ev_op ?_ | refine ev_un ?_ | refine ev_cb ?_ | refine ev_fn1 ?_ | refine ev_fn2 ?_ | refine ev_sl ?_ | refine eo_none ?_ | refine eo_some ?_ | refine ev_tup ?_
    | refine ea_cons ?_ | refine ea_nil ?_
    | refine ops_ge ?_ | refine ops_le ?_ | refine ops_gt ?_ | refine ops_lt ?_ | refine ops_leS ?_ | refine ops_ltS ?_ | refine ops_add_int ?_ | refine ops_sub ?_ | refine ops_isN ?_ | refine ops_isNot ?_ | refine ops_eq_int ?_ | refine ops_eqS ?_ | refine ops_neS ?_
    | refine cas_len_tup ?_ | refine cas_isi_int ?_ | refine cas_isi_bool ?_ | refine cas_isi_str ?_ | refine cas_isi_tup ?_ | refine cas_isi_lst ?_
    | refine iteT ?_ | refine iteF ?_ | refine and_nols ?_
  | ((with_reducible refine ev_varx ?_); refine ⟨_, rfl, ?_⟩)
  | ((with_reducible refine ops_ix_tupx ?_); first | refine ⟨_, rfl, ?_⟩ | refine ⟨_, atI_nat (j := 0) rfl, ?_⟩ | refine ⟨_, atI_nat (j := 1) rfl, ?_⟩ | refine ⟨_, atI_nat (j := 2) rfl, ?_⟩ | refine ⟨_, atI_nat (j := 3) rfl, ?_⟩ | refine ⟨_, atI_nat (j := 4) rfl, ?_⟩ | refine ⟨_, atI_nat (j := 5) rfl, ?_⟩ | refine ⟨_, atI_nat (j := 6) rfl, ?_⟩)
  | ((with_reducible refine sz_and ?_ ?_); exact rfl)
  | ((with_reducible refine ev_ownx ?_); refine ⟨_, rfl, ?_⟩)
  | ((with_reducible refine ev_refx ?_); refine ⟨_, rfl, ?_⟩)
  | (with_reducible refine sxn_seq ?_) | (with_reducible refine uns_neg ?_) | (with_reducible refine ev_frz (evn_lst ?_)) | (with_reducible refine sls_tup ?_) | (refine ev_revT ?_)
  | ((refine sx_extx ?_); refine ⟨_, rfl, ?_⟩) | ((with_reducible refine ops_add_tup ?_ ?_); exact le_line rfl) | (with_reducible refine cas_listT ?_)
  | ((with_reducible refine ifT ?_ ?_); exact rfl) | ((with_reducible refine ifF ?_ ?_); exact rfl))
local macro_rules | `(tactic| walk_at "go") => `(tactic| repeat (first | walk_at "dl" | with_reducible refine ⟨_, rfl, ?_⟩ | with_reducible refine ⟨_, _, rfl, ?_⟩))
/-! ### bending -/
def postB (j : Nat) (ds : List D) (r : D) : Prop := Mild j r
abbrev LBent (j : Nat) (Pg : Program) (w : World) (K : PySem.W.Frag) (mg : Str → Option Value) (base : Heap) (k : Nat) := Fn Pg w K mg base "_law_bent" k ["_law_feed_here", "_law_stuff", "_law_some"] (PmF nm K 2 (preOdd j) (postB j))
section
variable {Pg : Program} {w : World} {K : PySem.W.Frag} {mg : Str → Option Value} {base : Heap} {f : Addr} {fd : FuncData}
theorem cut_to {ds : List D} {i : Nat} (h : i ≤ ds.length) : cutD ds none (some (i : Int)) = ds.take i := by
  have e : HT.sIx ds.length ds.length (some (i : Int)) = i := by
    have z : ¬ (i : Int) < 0 := by omega
    simp [HT.sIx, z, h]
  unfold cutD
  rw [e]
  simp [HT.sIx]
theorem cut_from {ds : List D} {i : Nat} (h : i ≤ ds.length) : cutD ds (some (i : Int)) none = ds.drop i := by
  have e : HT.sIx ds.length 0 (some (i : Int)) = i := by
    have z : ¬ (i : Int) < 0 := by omega
    simp [HT.sIx, z, h]
  unfold cutD
  rw [e]
  exact List.take_of_length_le (by simp [HT.sIx])
theorem stuff_up {j : Nat} {s : D} (h : isStuff j s) : isStuff 1 s := h.imp id fun q => ⟨Nat.le_refl _, q.2⟩
theorem bent_step (k0 : Nat) (j : Nat) (hj : j ≤ 1) (F : Fun K "_law_bent" "_law_bent" s__law_bent f fd) (T : Txt mg) (C__law_draw : LDraw Pg w K mg base) (C__law_odd : LOdd Pg w K mg base)
    (pre' : List D → Prop) (post' : List D → D → Prop) (hk0 : 2 ≤ k0) (C__law_bent : Fn Pg w K mg base "_law_bent" k0 ["_law_feed_here", "_law_stuff", "_law_some"] (PmF nm K 2 pre' post'))
    (hp' : ∀ n : Nat, n ≤ 3 → 1 ≤ j → pre' [num n, someD] ∧ ∀ y, post' [num n, someD] y → Mild 0 y) :
    FnG Pg w K mg base (k0 + 1) f fd ["_law_feed_here", "_law_stuff", "_law_some"] (PmF nm K 2 (preOdd j) (postB j)) := by
  have nd := sc__law_bent.nd
  refine fnG_of F sc__law_bent pm_len (fun cdv A ou s H vs Q hgd hr h => ?_)
  have hu : (A.deeper (PyProof.Rows.envOfC "_law_bent" (defScope s__law_bent) s.heap.objs.size f cdv)).units + 64 < cLine := by have := hr.un; omega
  refine ⟨_, (pss_cons (ps_if (PW.pt (pw_and (pt_val (pe_callB (r := rIsi K) call_isi (by rfl) T.b_isinstance (by decide +kernel) (pa_cons (pv 1) (pa_cons (pe_bltn (v := .ty "tuple") rfl T.b_tuple (by decide +kernel) rfl) pa_nil)))) (pw_and (pt_cmpR opGt (pe_callB (r := rLenA K) call_len (by rfl) T.b_len (by decide +kernel) (pa_cons (pv 1) pa_nil)) pe_int (nomark _)) (pw_and1 (pt_cmpR opGt (pe_fn C__law_draw hgd (hr.mono (by first | decide | omega)) rfl (pa_cons (pv 0) (pa_cons pe_int pa_nil))) pe_int (nomark _)))))) (pss_cons (ps_set (i := 3) nd rfl (Or.inl rfl) (pe_fn C__law_draw hgd (hr.mono (by first | decide | omega)) rfl (pa_cons (pv 0) (pa_cons (pe_callB (r := rLenA K) call_len (by rfl) T.b_len (by decide +kernel) (pa_cons (pv 1) pa_nil)) pa_nil))) (hf := Or.inl rfl)) (pss_one (ps_ret (pe_op (r := rAdd4 K) opAdd (pe_op (r := rAdd4 K) opAdd (pe_slice (r := rSl3 K) slAny (pv 1) po_none (po_some (pv 3))) (pe_tup (pa_cons (pe_fn C__law_bent hgd (hr.mono (by first | decide | omega)) rfl (pa_cons (pv 0) (pa_cons (pe_ix (r := rIx K) ix_seq (pv 1) (pv 3) (fun _ _ => rfl)) (pa_cons (pv 2) pa_nil)))) pa_nil))) (pe_slice (r := rSl3 K) slAny (pv 1) (po_some (pe_op (r := rAdd4 K) opAdd (pv 3) pe_int)) po_none))))) pss_nil) (pss_one (ps_ret (pe_fn C__law_odd hgd (hr.mono (by first | decide | omega)) rfl (pa_cons (pv 0) (pa_cons (pv 1) (pa_cons (pv 2) pa_nil))))))), bodyF (by decide) h fun a l cs F0 ds hl ⟨d, hd, hs⟩ => ?_⟩
  subst hd
  have last : ∀ {ρ : Rho}, ρ[0]? = some (.rf (.ref a)) → ρ[1]? = some (.dat d) → ρ[2]? = some (.dat someD) →
      Sx K (feedW nm a l cs) H F0 (tRet (tFn (PmF nm K 2 (preOdd 1) fun _ d => Mild 0 d) (tCons (tVar 0) (tCons (tVar 1) (tCons (tVar 2) tNil))))) ρ { nx := fun _ => postB j [d, someD] .none, rt := fun s => ∃ r, s = .dat r ∧ postB j [d, someD] r } := fun h0 h1 h2 =>
    sx_ret (ev_fnF (ea_cons (ev_ref h0 (ea_cons (ev_var h1 (ea_cons (ev_var h2 (ea_nil ⟨[d, someD], rfl, rfl, ⟨d, rfl, stuff_up hs⟩, fun y hy => ⟨y, rfl, hy.mono (Nat.zero_le _)⟩⟩))))))))
  change Sx K (feedW nm a l cs) H F0 _ [.rf (.ref a), .dat d, .dat someD, .un] _
  rcases hs with ⟨n, rfl, hn⟩ | ⟨h1, ns, rfl, hn, hb⟩
  · walk_at "go"
    exact last rfl rfl rfl
  · have hbd := bun_bds hb
    have hl5 : (ns.map num).length = ns.length := List.length_map ..
    walk_at "go"
    refine if2 (fun h2 => ?_) (fun h2 => ?_)
    · walk_at "go"
      refine ev_draw ?_
      walk_at "go"
      refine ⟨⟨by decide, by decide⟩, fun r0 _ _ => ?_⟩
      walk_at "go"
      refine if2 (fun h3 => ?_) (fun h3 => ?_)
      · have h1' : 1 ≤ ns.length := by
          have := of_decide_eq_true h2
          rw [hl5] at this
          omega
        walk_at "go"
        refine sx_asg (ev_draw ?_)
        walk_at "go"
        rw [hl5]
        refine ⟨⟨by omega, by omega⟩, fun r r0 r1 => ⟨trivial, ?_⟩⟩
        obtain ⟨i, rfl⟩ := Int.eq_ofNat_of_zero_le r0
        have hi : i < ns.length := by omega
        have hgi : (ns.map num)[i]? = some (num ns[i]) := by simp [hi]
        obtain ⟨hp1, hp2⟩ := hp' ns[i] (hb _ (List.getElem_mem hi)) h1
        refine sx_ret ?_
        walk_at "go"
        refine ev_fnF ?_
        walk_at "go"
        refine ops_ix_tup (atI_nat hgi) ?_
        walk_at "go"
        refine ⟨[_, _], rfl, rfl, hp1, fun y hy => ?_⟩
        have hy := (hp2 y hy).bd
        walk_at "go"
        refine ops_add_tup (big_line ?_) ?_
        · rw [cut_to (by omega), List.length_take, List.length_singleton]
          omega
        walk_at "go"
        refine ops_add_tup (big_line ?_) ?_
        · rw [cut_to (by omega), show ((i : Int) + 1) = ((i + 1 : Nat) : Int) by omega, cut_from (by omega), List.length_append, List.length_take, List.length_singleton, List.length_drop]
          omega
        refine ⟨_, rfl, ?_⟩
        rw [cut_to (by omega), show ((i : Int) + 1) = ((i + 1 : Nat) : Int) by omega, cut_from (by omega)]
        have g : Bds (10 ^ 59) 1990 3 (ns.map num) := hbd.mono (by decide +kernel) (by omega) (by decide)
        obtain rfl : j = 1 := by omega
        refine ⟨(bd_tup.mpr (bds_app (bds_app (bds_sub g (List.take_sublist _ _)) (bds_one hy)) (bds_sub g (List.drop_sublist _ _)))).mono (Nat.le_refl _) (by decide) (by decide), decide_eq_true ?_⟩
        rw [List.length_append, List.length_append, List.length_take, List.length_drop, List.length_singleton, hl5]
        omega
      · walk_at "go"
        exact last rfl rfl rfl
    · walk_at "go"
      exact last rfl rfl rfl
theorem bent_all (F : Fun K "_law_bent" "_law_bent" s__law_bent f fd) (T : Txt mg) (C__law_draw : LDraw Pg w K mg base) (C__law_odd : LOdd Pg w K mg base)
    (hB : mg "_law_bent" = some (.ref f) ∧ PySem.W.keepIn K (.ref f) = true ∧ Binds K fd ["_law_feed_here", "_law_stuff", "_law_some"] []) :
    FnG Pg w K mg base 4 f fd ["_law_feed_here", "_law_stuff", "_law_some"] (PmF nm K 2 (preOdd 1) (postB 1)) := by
  have B0 := bent_step 2 0 (by decide) F T C__law_draw C__law_odd (fun _ => False) (fun _ _ => True) (Nat.le_refl _) ⟨f, fd, ⟨pm_len, fun A ou s H ar us vs Q hg hr he hb hv hs => by
      obtain ⟨W, F0, ss, _, _, _, _, ⟨_, _, _, _, _, _, _, z⟩, _⟩ := hs
      exact False.elim z⟩, hB⟩ fun n h1 h2 => by omega
  exact bent_step 3 1 (by decide) F T C__law_draw C__law_odd (preOdd 0) (postB 0) (by decide) ⟨f, fd, B0, hB⟩ fun n hn _ => ⟨⟨_, rfl, .inl ⟨n, rfl, hn⟩⟩, fun y hy => hy⟩
end
end K32

namespace K32
open PySem L2 RZ DL
/-! the walk by data -/
local macro_rules | `(tactic| walk_at "dl") => `(tactic| first
  | with_reducible first
    | refine sx_seq ?_ | refine sx_if ?_ | refine sx_next ?_
    | refine et_not ?_ | refine et_B ?_ | refine et_test ?_ | refine et_and ?_ | refine et_or ?_ | refine et_yes ?_
    | refine ev_and ?_ | refine ev_or ?_ | refine ev_not ?_ | refine ev_if ?_ | refine ev_chain ?_
    | refine ev_int ?_ | refine ev_bl ?_ | refine ev_str ?_ | refine ev_non ?_ | refine ev_c ?_
    | refine ev_op ?_ | refine ev_un ?_ | refine ev_cb ?_ | refine ev_fn1 ?_ | refine ev_fn2 ?_ | refine ev_sl ?_ | refine eo_none ?_ | refine eo_some ?_ | refine ev_tup ?_
    | refine ea_cons ?_ | refine ea_nil ?_
    | refine ops_ge ?_ | refine ops_le ?_ | refine ops_gt ?_ | refine ops_lt ?_ | refine ops_leS ?_ | refine ops_ltS ?_ | refine ops_add_int ?_ | refine ops_sub ?_ | refine ops_isN ?_ | refine ops_isNot ?_ | refine ops_eq_int ?_ | refine ops_eqS ?_ | refine ops_neS ?_
    | refine cas_len_tup ?_ | refine cas_isi_int ?_ | refine cas_isi_bool ?_ | refine cas_isi_str ?_ | refine cas_isi_tup ?_ | refine cas_isi_lst ?_
    | refine iteT ?_ | refine iteF ?_ | refine and_nols ?_
  | ((with_reducible refine ev_varx ?_); refine ⟨_, rfl, ?_⟩)
  | ((with_reducible refine ops_ix_tupx ?_); first | refine ⟨_, rfl, ?_⟩ | refine ⟨_, atI_nat (j := 0) rfl, ?_⟩ | refine ⟨_, atI_nat (j := 1) rfl, ?_⟩ | refine ⟨_, atI_nat (j := 2) rfl, ?_⟩ | refine ⟨_, atI_nat (j := 3) rfl, ?_⟩ | refine ⟨_, atI_nat (j := 4) rfl, ?_⟩ | refine ⟨_, atI_nat (j := 5) rfl, ?_⟩ | refine ⟨_, atI_nat (j := 6) rfl, ?_⟩)
  | ((with_reducible refine sz_and ?_ ?_); exact rfl)
  | ((with_reducible refine ev_ownx ?_); refine ⟨_, rfl, ?_⟩)
  | ((with_reducible refine ev_refx ?_); refine ⟨_, rfl, ?_⟩)
  | (with_reducible refine sxn_seq ?_) | (with_reducible refine uns_neg ?_) | (with_reducible refine ev_frz (evn_lst ?_)) | (with_reducible refine sls_tup ?_) | (refine ev_revT ?_)
  | ((refine sx_extx ?_); refine ⟨_, rfl, ?_⟩) | ((with_reducible refine ops_add_tup ?_ ?_); exact le_line rfl) | (with_reducible refine cas_listT ?_)
  | ((with_reducible refine ifT ?_ ?_); exact rfl) | ((with_reducible refine ifF ?_ ?_); exact rfl))
local macro_rules | `(tactic| walk_at "go") => `(tactic| repeat (first | walk_at "dl" | with_reducible refine ⟨_, rfl, ?_⟩ | with_reducible refine ⟨_, _, rfl, ?_⟩))
/-! ### lights drawn -/
abbrev LLights (Pg : Program) (w : World) (K : PySem.W.Frag) (mg : Str → Option Value) (base : Heap) := Fn Pg w K mg base "_law_lights" 2 ["_law_feed_here", "_law_bright", "_law_most"] (PmF nm K 2 (fun ds => ds = [.int 3, .int 5]) fun _ d => isBun d)
theorem cast_num (ms : List Nat) : (ms.map fun n : Nat => (n : Int)).map PyData.int = ms.map num := by
  rw [List.map_map]
  rfl
theorem back_num : ∀ {xs : List Int}, (∀ x ∈ xs, ∃ n : Nat, x = n ∧ n ≤ 3) → xs.map PyData.int = (xs.map Int.toNat).map num
  | [], _ => rfl
  | x :: xs, h => by
    obtain ⟨n, rfl, _⟩ := h x (by simp)
    rw [List.map_cons, List.map_cons, List.map_cons, ← back_num fun y m => h y (by simp [m])]
    rfl
section
variable {Pg : Program} {w : World} {K : PySem.W.Frag} {mg : Str → Option Value} {base : Heap} {f : Addr} {fd : FuncData}
theorem ok_lights (F : Fun K "_law_lights" "_law_lights" s__law_lights f fd) (T : Txt mg) (C__law_draw : LDraw Pg w K mg base) (C__law_falling : LFalling Pg w K mg base) :
    FnG Pg w K mg base 2 f fd ["_law_feed_here", "_law_bright", "_law_most"] (PmF nm K 2 (fun ds => ds = [.int 3, .int 5]) fun _ d => isBun d) := by
  have nd := sc__law_lights.nd
  refine fnG_of F sc__law_lights pm_len (fun cdv A ou s H vs Q hgd hr h => ?_)
  refine ⟨_, (pss_one (ps_ret (pe_fn C__law_falling hgd (hr.mono (by first | decide | omega)) rfl (pa_cons (pe_lc (own := [("_law_k", 3)]) (g := gName 3) rfl nd (pi_range1 rfl T.b_range (pa_cons (pe_fn C__law_draw hgd (hr.mono (by first | decide | omega)) rfl (pa_cons (pv 0) (pa_cons (pe_op (r := rAdd4 K) opAdd (pv 2) pe_int) pa_nil))) pa_nil)) (blkOk_by (N := ["_law_feed_here", "_law_bright", "_law_most", "_law_k"]) (sc := (defScope s__law_lights)) (by decide +kernel)) (fun _ _ _ _ _ => (pg_name (i := 3) nd rfl (Or.inl rfl) (Or.inr rfl))) (fun _ _ _ _ _ => pts_nil) (fun _ _ _ _ _ => (pe_fn C__law_draw hgd (hr.mono (by first | decide | omega)) rfl (pa_cons (pv 0) (pa_cons (pe_op (r := rAdd4 K) opAdd (pv 1) pe_int) pa_nil))))) pa_nil)))), bodyF (by decide) h fun a l cs F0 ds hl hd => ?_⟩
  subst hd
  change Sx K (feedW nm a l cs) H F0 _ [.rf (.ref a), .dat (.int 3), .dat (.int 5), .un] _
  refine sx_ret (ev_fn (ea_cons (ev_frz (evn_lc (fun ds i acc => ds.length ≤ 5 ∧ ∃ ms : List Nat, acc = ms.map num ∧ ms.length = i ∧ ∀ m ∈ ms, m ≤ 3) (evi_rng1 ?_)))))
  walk_at "go"
  refine ev_draw ?_
  walk_at "go"
  refine ⟨⟨by decide, by decide⟩, fun r r0 r1 => ?_⟩
  refine ea_nil ⟨r, rfl, by omega, by omega, ?_, ⟨?_, [], rfl, rfl, fun m h => (nomatch h)⟩, ?_, ?_⟩
  · rw [rngD_len, sizeLine_eq]
    omega
  · rw [rngD_len]
    omega
  · rintro i d acc hd ⟨h5, ms, rfl, hi, hb⟩
    refine gc_name (by decide) trivial (et_yes ?_)
    rw [if_pos rfl]
    refine ev_draw ?_
    walk_at "go"
    refine ⟨⟨by decide, by decide⟩, fun x x0 x1 => ?_⟩
    obtain ⟨n, rfl⟩ := Int.eq_ofNat_of_zero_le x0
    refine ⟨_, rfl, h5, ms ++ [n], by rw [List.map_append]; rfl, by rw [List.length_append, hi]; rfl, fun m hm => ?_⟩
    rcases List.mem_append.mp hm with hm | hm
    · exact hb m hm
    · have := List.mem_singleton.mp hm
      omega
  · rintro acc ⟨h5, ms, rfl, hi, hb⟩
    refine ea_nil ⟨fun s m => ?_, rfl, ⟨ms.map fun n : Nat => (n : Int), .inl (by rw [cast_num]), by rw [List.length_map]; omega⟩, fun s q => ?_⟩
    · rw [List.mem_singleton.mp m]
      trivial
    · obtain ⟨ks, rfl, hp, _⟩ := q (ms.map fun n : Nat => (n : Int)) (.inl (by rw [cast_num]))
      have hk : ∀ x ∈ ks, ∃ n : Nat, x = n ∧ n ≤ 3 := fun x m => by
        obtain ⟨n, hn, rfl⟩ := List.mem_map.mp (hp.mem_iff.mp m)
        exact ⟨n, rfl, hb n hn⟩
      refine ⟨_, rfl, ks.map Int.toNat, by rw [back_num hk], ?_, fun n hn => ?_⟩
      · rw [List.length_map, hp.length_eq, List.length_map]
        omega
      · obtain ⟨x, hx, rfl⟩ := List.mem_map.mp hn
        obtain ⟨k, rfl, hk3⟩ := hk x hx
        omega
end
/-! ### lights fall just where they are their own sorted row -/
theorem eqv_ints : ∀ {ns ms : List Int}, PyData.eqvAll (ns.map .int) (ms.map .int) = decide (ns = ms)
  | [], [] => rfl
  | [], _ :: _ => rfl
  | _ :: _, [] => rfl
  | n :: ns, m :: ms => by
    rw [List.map_cons, List.map_cons]
    simp only [PyData.eqvAll, PyData.eqv, eqv_ints, List.cons.injEq]
    by_cases h : n = m <;> simp [h]
theorem fall_cons {x y : D} {t : List D} : fall (x :: y :: t) = (geD x y && fall (y :: t)) := rfl
theorem fall_pw : ∀ {ns : List Int}, fall (ns.map .int) = true → ns.Pairwise (· ≥ ·)
  | [], _ => .nil
  | [n], _ => .cons (fun m h => (nomatch h)) .nil
  | n :: m :: ns, h => by
    rw [List.map_cons, List.map_cons, fall_cons, Bool.and_eq_true] at h
    have ih := fall_pw (ns := m :: ns) h.2
    have h1 : m ≤ n := of_decide_eq_true h.1
    refine .cons (fun k hk => ?_) ih
    rcases List.mem_cons.mp hk with rfl | hk
    · exact h1
    · have := (List.pairwise_cons.mp ih).1 k hk
      omega
theorem pw_fall : ∀ {ns : List Int}, ns.Pairwise (· ≥ ·) → fall (ns.map .int) = true
  | [], _ => rfl
  | [n], _ => rfl
  | n :: m :: ns, h => by
    have h' := List.pairwise_cons.mp h
    rw [List.map_cons, List.map_cons, fall_cons, ← List.map_cons, pw_fall h'.2, Bool.and_true]
    exact decide_eq_true (h'.1 m (by simp))
theorem sorted_own {ns ms : List Int} (hp : ms.Perm ns) (hs : ms.Pairwise (· ≥ ·)) : PyData.eqv (.tuple (ns.map .int)) (.tuple (ms.map .int)) = fall (ns.map .int) := by
  have e : PyData.eqv (.tuple (ns.map .int)) (.tuple (ms.map .int)) = decide (ns = ms) := by
    simp only [PyData.eqv, eqv_ints]
  rw [e]
  by_cases h : ns = ms
  · subst h
    rw [decide_eq_true rfl, pw_fall hs]
  · rw [decide_eq_false h]
    cases q : fall (ns.map .int) with
    | false => rfl
    | true => exact absurd (List.Perm.eq_of_pairwise (fun a b _ _ h1 h2 => Int.le_antisymm h2 h1) (fall_pw q) hs hp.symm) h
end K32

namespace K32
open PySem L2 RZ DL
/-! the walk by data -/
local macro_rules | `(tactic| walk_at "dl") => `(tactic| first
  | with_reducible first
    | refine sx_seq ?_ | refine sx_if ?_ | refine sx_next ?_
    | refine et_not ?_ | refine et_B ?_ | refine et_test ?_ | refine et_and ?_ | refine et_or ?_ | refine et_yes ?_
    | refine ev_and ?_ | refine ev_or ?_ | refine ev_not ?_ | refine ev_if ?_ | refine ev_chain ?_
    | refine ev_int ?_ | refine ev_bl ?_ | refine ev_str ?_ | refine ev_non ?_ | refine ev_c ?_
    | refine ev_op ?_ | refine ev_un ?_ | refine ev_cb ?_ | refine ev_fn1 ?_ | refine ev_fn2 ?_ | refine ev_sl ?_ | refine eo_none ?_ | refine eo_some ?_ | refine ev_tup ?_
    | refine ea_cons ?_ | refine ea_nil ?_
    | refine ops_ge ?_ | refine ops_le ?_ | refine ops_gt ?_ | refine ops_lt ?_ | refine ops_leS ?_ | refine ops_ltS ?_ | refine ops_add_int ?_ | refine ops_sub ?_ | refine ops_isN ?_ | refine ops_isNot ?_ | refine ops_eq_int ?_ | refine ops_eqS ?_ | refine ops_neS ?_
    | refine cas_len_tup ?_ | refine cas_isi_int ?_ | refine cas_isi_bool ?_ | refine cas_isi_str ?_ | refine cas_isi_tup ?_ | refine cas_isi_lst ?_
    | refine iteT ?_ | refine iteF ?_ | refine and_nols ?_
  | ((with_reducible refine ev_varx ?_); refine ⟨_, rfl, ?_⟩)
  | ((with_reducible refine ops_ix_tupx ?_); first | refine ⟨_, rfl, ?_⟩ | refine ⟨_, atI_nat (j := 0) rfl, ?_⟩ | refine ⟨_, atI_nat (j := 1) rfl, ?_⟩ | refine ⟨_, atI_nat (j := 2) rfl, ?_⟩ | refine ⟨_, atI_nat (j := 3) rfl, ?_⟩ | refine ⟨_, atI_nat (j := 4) rfl, ?_⟩ | refine ⟨_, atI_nat (j := 5) rfl, ?_⟩ | refine ⟨_, atI_nat (j := 6) rfl, ?_⟩)
  | ((with_reducible refine sz_and ?_ ?_); exact rfl)
  | ((with_reducible refine ev_ownx ?_); refine ⟨_, rfl, ?_⟩)
  | ((with_reducible refine ev_refx ?_); refine ⟨_, rfl, ?_⟩)
  | (with_reducible refine sxn_seq ?_) | (with_reducible refine uns_neg ?_) | (with_reducible refine ev_frz (evn_lst ?_)) | (with_reducible refine sls_tup ?_) | (refine ev_revT ?_)
  | ((refine sx_extx ?_); refine ⟨_, rfl, ?_⟩) | ((with_reducible refine ops_add_tup ?_ ?_); exact le_line rfl) | (with_reducible refine cas_listT ?_)
  | ((with_reducible refine ifT ?_ ?_); exact rfl) | ((with_reducible refine ifF ?_ ?_); exact rfl))
local macro_rules | `(tactic| walk_at "go") => `(tactic| repeat (first | walk_at "dl" | with_reducible refine ⟨_, rfl, ?_⟩ | with_reducible refine ⟨_, _, rfl, ?_⟩))
/-! ### the law -/
structure Calls (Pg : Program) (w : World) (K : PySem.W.Frag) (mg : Str → Option Value) (base : Heap) : Prop where
  c1 : Fn Pg w K mg base "_law_feed" 1 ["_law_script"] (spFeed K)
  c2 : LLights Pg w K mg base
  c3 : LBent 1 Pg w K mg base 4
  c4 : LFalling Pg w K mg base
  c5 : LPower Pg w K mg base
  c6 : LCovers Pg w K mg base
  p1 : CBunch Pg w K mg base
  p2 : CGlow Pg w K mg base
  p3 : CCovers Pg w K mg base
  k1 : FnK Pg w K mg base "is_bunch" 3 ["thing"] (Pm1 K Fine fun d => .bool (isLights d)) 0 ["thing"] (fun _ zs => zs)
  k2 : FnK Pg w K mg base "glow_of" 1 ["lights"] (Pm1 K isBun fun d => .int (glowD d)) 0 ["lights"] (fun _ zs => zs)
  k3 : FnK Pg w K mg base "bunch_covers" 1 ["one", "other"] (Pm2 K (fun d e => isBun d ∧ isBun e) fun d e => .bool (covD d e)) 0 ["other", "one"] swapV
def spLaw (K : PySem.W.Frag) : Sp := fun vs H Q _ => ∃ p ns, vs = [.ref p] ∧ SqL K H p (List.map V.int ns) ∧ ∀ H', Q (.bl true) H'
theorem ne_no {x y : Str} (h : x = y) : (!decide (x = y)) = false := by
  rw [decide_eq_true h]
  rfl
theorem gname_go {i : Nat} {v : V} {σ : L2.St} {H : Hp} {Q : L2.St → Hp → Prop} (h : Q (σ.set i (some v)) H) : gName i v σ H Q := h
theorem mild1_dec {d : D} (h : (okD (10 ^ 59) d && decide (d.weight ≤ 4500) && decide (d.depth ≤ 3) && lenB d) = true) : Mild 1 d := (mild_dec h).mono (by decide)
theorem milds_dec {ds : List D} (h : (ds.all fun d => okD (10 ^ 59) d && decide (d.weight ≤ 4500) && decide (d.depth ≤ 3) && lenB d) = true) : ∀ d ∈ ds, Mild 1 d := fun d m => mild1_dec (List.all_eq_true.mp h d m)
theorem Mild.fine {d : D} (h : Mild 1 d) : Fine d := h.bd.fine (by decide +kernel) (by decide) (by decide)
theorem bun_mild {d : D} (h : isBun d) : Mild 1 d := by
  obtain ⟨ns, rfl, hl, hb⟩ := h
  refine ⟨(bd_tup.mpr (bun_bds hb)).mono (by decide +kernel) (by omega) (by decide), decide_eq_true ?_⟩
  rw [List.length_map]
  omega
theorem bun_tup {d : D} (h : isBun d) : ∃ ds, d = .tuple ds ∧ Mild 1 (.tuple ds.reverse) := by
  obtain ⟨ns, rfl, hl, hb⟩ := h
  refine ⟨_, rfl, ⟨(bd_tup.mpr (bds_rev (bun_bds hb))).mono (by decide +kernel) (by omega) (by decide), decide_eq_true ?_⟩⟩
  rw [List.length_reverse, List.length_map]
  omega
theorem mild1_app {xs ys : List D} (h : ∀ d ∈ xs, Mild 1 d) (h' : ∀ d ∈ ys, Mild 1 d) : ∀ d ∈ xs ++ ys, Mild 1 d := fun d m => by
  rcases List.mem_append.mp m with m | m
  · exact h d m
  · exact h' d m
theorem at_last (ds : List D) (d : D) : atI (ds ++ [d]) (-1) = some d := by
  have e : ixN (ds ++ [d]).length (-1) = some ds.length := by
    unfold ixN
    rw [List.length_append, List.length_singleton]
    have h1 : ¬ (0 : Int) ≤ -1 := by decide
    have h2 : -((ds.length + 1 : Nat) : Int) ≤ -1 := by omega
    rw [if_neg h1, if_pos h2]
    exact congrArg some (by omega)
  unfold atI
  rw [e]
  simp
def some1 : List D := [.tuple [], .tuple [.int 0], .tuple [.int 3, .int 3, .int 1, .int 0], .tuple [.int 0, .int 0], .tuple [.int 1, .int 2], .tuple [.int 2, .int 2, .int 2], .tuple [.int 40, .int 1], .tuple [.int 60, .int 0], .list [.int 1], .list [], .none, .bool true, .tuple [.bool true]]
def some2 : List D := some1 ++ [.tuple [.int 2, .bool true]]
def some3 : List D := some2 ++ [.tuple [.int 1, .int (-1)], .tuple [.int (-1)], .tuple [.int 1, .none], .tuple [.int 2, .str "1"], .tuple [.tuple [.int 1]], .str "10", .str "", .int 0, .tuple [.int (10 ^ 59)], .tuple [.int 2, .int 1, .list [.int 0]], .tuple [.bool false]]
theorem some3_ok : ∀ d ∈ some3, Mild 1 d := milds_dec (by decide +kernel)
def items : D → List D
  | .tuple ds => ds
  | _ => []
/-- whether it is a tuple that begins with so many numbers -/
def numsTo (d : D) (i : Nat) : Bool := match d with
  | .tuple ds => (ds.take i).all isNum
  | _ => false
theorem nums_ints : ∀ {ds : List D}, ds.all isNum = true → ∃ ns : List Int, ds = ns.map .int
  | [], _ => ⟨[], rfl⟩
  | d :: ds, h => by
    rw [List.all_cons, Bool.and_eq_true] at h
    obtain ⟨i, rfl⟩ := isNum_int h.1
    obtain ⟨ns, rfl⟩ := nums_ints h.2
    exact ⟨i :: ns, rfl⟩
theorem ints_shapedT (ns : List Int) : SeqAt.shaped (.tuple (ns.map .int)) = true := by
  show ((PyData.tuple (ns.map .int)).canLay0 && decide ((PyData.tuple (ns.map .int)).depth ≤ 64)) = true
  simp only [PyData.canLay0, PyData.depth, ints_lay, ints_dep]
  rfl
theorem two_fine (b : Bool) : Fine (.tuple [.bool b, .bool b]) := (bd_tup.mpr (bds_cons (k := 0) (a := 0) (n := 0) bd_bool (bds_cons (a := 0) (b := 0) bd_bool bds_nil))).fine (by decide) (by decide) (by decide)
theorem int_no {i j : Int} (h : i = j) : (!PyData.eqv (.int i) (.int j)) = false := by
  subst h
  simp [PyData.eqv]
section
variable {Pg : Program} {w : World} {K : PySem.W.Frag} {mg : Str → Option Value} {base : Heap} {f : Addr} {fd : FuncData}
theorem ok_law (F : Fun K "law" "law" s_law f fd) (T : Txt mg) (C : Calls Pg w K mg base) : FnG Pg w K mg base 5 f fd ["_law_script"] (spLaw K) := by
  obtain ⟨C__law_feed, C__law_lights, C__law_bent, C__law_falling, C__law_power, C__law_covers, C_is_bunch, C_glow_of, C_bunch_covers, C_is_bunch_0_thing, C_glow_of_0_lights, C_bunch_covers_0_other_one⟩ := C
  have nd := sc_law.nd
  refine fnG_of F sc_law (fun vs H Q E h => ?_) (fun cdv A ou s H vs Q hgd hr h => ?_)
  · obtain ⟨p, ns, rfl, _⟩ := h
    rfl
  obtain ⟨p, ns, rfl, hS, k⟩ := h
  have hu : (A.deeper (PyProof.Rows.envOfC "law" (defScope s_law) s.heap.objs.size f cdv)).units + 64 < cLine := by have := hr.un; omega
  refine ⟨_, (pss_cons (ps_set (i := 1) nd rfl (Or.inl rfl) (pe_fn C__law_feed hgd (hr.mono (by first | decide | omega)) rfl (pa_cons (pv 0) pa_nil)) (hf := Or.inl rfl)) (pss_cons (ps_set (i := 2) nd rfl (Or.inl rfl) (pe_lst (pa_cons (pe_tup pa_nil) (pa_cons (pe_tup (pa_cons pe_int pa_nil)) (pa_cons (pe_tup (pa_cons pe_int (pa_cons pe_int (pa_cons pe_int (pa_cons pe_int pa_nil))))) (pa_cons (pe_tup (pa_cons pe_int (pa_cons pe_int pa_nil))) (pa_cons (pe_tup (pa_cons pe_int (pa_cons pe_int pa_nil))) (pa_cons (pe_tup (pa_cons pe_int (pa_cons pe_int (pa_cons pe_int pa_nil)))) (pa_cons (pe_tup (pa_cons pe_int (pa_cons pe_int pa_nil))) (pa_cons (pe_tup (pa_cons pe_int (pa_cons pe_int pa_nil))) (pa_cons (pe_lst (pa_cons pe_int pa_nil)) (pa_cons (pe_lst pa_nil) (pa_cons pe_non (pa_cons pe_bl (pa_cons (pe_tup (pa_cons pe_bl pa_nil)) pa_nil)))))))))))))) (hf := Or.inl rfl)) (pss_cons (ps_expr (pe_bm PySem.F.plainAttrs_list PySem.F.slot_list_append PySem.F.type_list_append mt_append (pv 2) (pa_cons (pe_tup (pa_cons pe_int (pa_cons pe_bl pa_nil))) pa_nil))) (pss_cons (ps_set (i := 2) nd rfl (Or.inl rfl) (pe_op (r := rAdd4 K) opAdd (pv 2) (pe_lst (pa_cons (pe_tup (pa_cons pe_int (pa_cons (pe_un un_neg pe_int) pa_nil))) (pa_cons (pe_tup (pa_cons (pe_un un_neg pe_int) pa_nil)) (pa_cons (pe_tup (pa_cons pe_int (pa_cons pe_non pa_nil))) (pa_cons (pe_tup (pa_cons pe_int (pa_cons pe_str pa_nil))) (pa_cons (pe_tup (pa_cons (pe_tup (pa_cons pe_int pa_nil)) pa_nil)) (pa_cons pe_str (pa_cons pe_str (pa_cons pe_int (pa_cons (pe_tup (pa_cons (pe_op op_pow pe_int pe_int) pa_nil)) (pa_cons (pe_tup (pa_cons pe_int (pa_cons pe_int (pa_cons (pe_lst (pa_cons pe_int pa_nil)) pa_nil)))) (pa_cons (pe_tup (pa_cons pe_bl pa_nil)) pa_nil))))))))))))) (hf := Or.inl rfl)) (pss_cons (ps_set (i := 3) nd rfl (Or.inl rfl) (pe_lst pa_nil) (hf := Or.inl rfl)) (pss_cons (ps_for PassesOwn.never rfl (pi_range1 rfl T.b_range (pa_cons pe_int pa_nil)) (pg_name (i := 4) nd rfl (Or.inl rfl) (Or.inl rfl)) (pss_cons (ps_expr (pe_bm PySem.F.plainAttrs_list PySem.F.slot_list_append PySem.F.type_list_append mt_append (pv 3) (pa_cons (pe_fn C__law_lights hgd (hr.mono (by first | decide | omega)) rfl (pa_cons (pv 1) (pa_cons pe_int (pa_cons pe_int pa_nil)))) pa_nil))) (pss_one (ps_set (i := 2) nd rfl (Or.inl rfl) (pe_op (r := rAdd4 K) opAdd (pv 2) (pe_lst (pa_cons (pe_ix (r := rIx K) ix_seq (pv 3) (pe_un un_neg pe_int) (fun _ _ => rfl)) (pa_cons (pe_revA (pe_ix (r := rIx K) ix_seq (pv 3) (pe_un un_neg pe_int) (fun _ _ => rfl))) (pa_cons (pe_fn C__law_bent hgd (hr.mono (by first | decide | omega)) rfl (pa_cons (pv 1) (pa_cons (pe_ix (r := rIx K) ix_seq (pv 3) (pe_un un_neg pe_int) (fun _ _ => rfl)) (pa_cons (pe_lst (pa_cons pe_int (pa_cons (pe_un un_neg pe_int) pa_nil))) pa_nil)))) pa_nil))))) (hf := Or.inl rfl))))) (pss_cons (ps_for PassesOwn.never rfl (pi_list (pv 2)) (pg_name (i := 5) nd rfl (Or.inl rfl) (Or.inl rfl)) (pss_cons (ps_par (i := 6) (j := 7) rfl nd rfl rfl (by decide) rfl rfl (pa_cons (pe_callB (r := rReprD K) (call_reprD hgd hr) (by rfl) T.b_repr (by decide +kernel) (pa_cons (pv 5) pa_nil)) (pa_cons (pe_callB (r := rIsi K) call_isi (by rfl) T.b_isinstance (by decide +kernel) (pa_cons (pv 5) (pa_cons (pe_bltn (v := .ty "tuple") rfl T.b_tuple (by decide +kernel) rfl) pa_nil))) pa_nil)) (by rfl)) (pss_cons (ps_for PassesOwn.never rfl (pi_tup (pe_ifExp (pt_val (pv 7)) (pv 5) (pe_tup pa_nil))) (pg_name (i := 8) nd rfl (Or.inl rfl) (Or.inl rfl)) (pss_one (ps_set (i := 7) nd rfl (Or.inl rfl) (pe_and (pv 7) (pe_and (pe_callB (r := rIsi K) call_isi (by rfl) T.b_isinstance (by decide +kernel) (pa_cons (pv 8) (pa_cons (pe_bltn (v := .ty "int") rfl T.b_int (by decide +kernel) rfl) pa_nil))) (pe_and (pe_not (pe_callB (r := rIsi K) call_isi (by rfl) T.b_isinstance (by decide +kernel) (pa_cons (pv 8) (pa_cons (pe_bltn (v := .ty "bool") rfl T.b_bool (by decide +kernel) rfl) pa_nil)))) (pe_one (pe_cmpR opGe (pv 8) pe_int (nomark _)))))) (hf := Or.inl rfl)))) (pss_cons (ps_set (i := 7) nd rfl (Or.inl rfl) (pe_and (pv 7) (pe_one (pe_cmpR (r := rEq2 K) (opEq hu) (pv 5) (pe_fn C__law_falling hgd (hr.mono (by first | decide | omega)) rfl (pa_cons (pv 5) pa_nil)) (nomark _)))) (hf := Or.inl rfl)) (pss_one (ps_if (PW.pt (pw_or (pt_cmpR (r := rNe2 K) (opNe hu) (pe_callB (r := rReprD K) (call_reprD hgd hr) (by rfl) T.b_repr (by decide +kernel) (pa_cons (pe_tup (pa_cons (pe_fn C_is_bunch hgd (hr.mono (by first | decide | omega)) rfl (pa_cons (pv 5) pa_nil)) (pa_cons (pe_fnK0 C_is_bunch_0_thing hgd (hr.mono (by first | decide | omega)) rfl (pk_cons (pv 5) pk_nil)) pa_nil))) pa_nil)) (pe_callB (r := rReprD K) (call_reprD hgd hr) (by rfl) T.b_repr (by decide +kernel) (pa_cons (pe_tup (pa_cons (pv 7) (pa_cons (pv 7) pa_nil))) pa_nil)) (nomark _)) (pw_or1 (pt_cmpR (r := rNe2 K) (opNe hu) (pe_callB (r := rReprD K) (call_reprD hgd hr) (by rfl) T.b_repr (by decide +kernel) (pa_cons (pv 5) pa_nil)) (pv 6) (nomark _))))) (pss_one (ps_ret pe_bl)) pss_nil)))))) (pss_cons (ps_for PassesOwn.never rfl (pi_list (pv 3)) (pg_name (i := 9) nd rfl (Or.inl rfl) (Or.inl rfl)) (pss_cons (ps_set (i := 7) nd rfl (Or.inl rfl) (pe_callB (cr_sum rfl) (by rfl) T.b_sum (by decide +kernel) (pa_cons (pe_lc (own := [("_law_light", 8)]) (g := gName 8) rfl nd (pi_tup (pv 9)) (blkOk_by (N := ["_law_script", "_law_feed_here", "_law_some", "_law_bunches", "_law_lap", "_law_stuff", "_law_kept", "_law_due", "_law_light", "_law_up", "_law_low"]) (sc := (defScope s_law)) (by decide +kernel)) (fun _ _ _ _ _ => (pg_name (i := 8) nd rfl (Or.inl rfl) (Or.inr rfl))) (fun _ _ _ _ _ => pts_nil) (fun _ _ _ _ _ => (pe_fn C__law_power hgd (hr.mono (by first | decide | omega)) rfl (pa_cons (pv 8) pa_nil)))) pa_nil)) (hf := Or.inl rfl)) (pss_cons (ps_if (PW.pt (pw_or (pt_cmpR (r := rNe2 K) (opNe hu) (pe_fn C_glow_of hgd (hr.mono (by first | decide | omega)) rfl (pa_cons (pv 9) pa_nil)) (pv 7) (nomark _)) (pw_or1 (pt_cmpR (r := rNe2 K) (opNe hu) (pe_fnK0 C_glow_of_0_lights hgd (hr.mono (by first | decide | omega)) rfl (pk_cons (pv 9) pk_nil)) (pv 7) (nomark _))))) (pss_one (ps_ret pe_bl)) pss_nil) (pss_one (ps_for PassesOwn.never rfl (pi_list (pv 3)) (pg_name (i := 10) nd rfl (Or.inl rfl) (Or.inl rfl)) (pss_cons (ps_set (i := 7) nd rfl (Or.inl rfl) (pe_fn C__law_covers hgd (hr.mono (by first | decide | omega)) rfl (pa_cons (pv 9) (pa_cons (pv 10) pa_nil))) (hf := Or.inl rfl)) (pss_one (ps_if (pt_cmpR (r := rNe2 K) (opNe hu) (pe_callB (r := rReprD K) (call_reprD hgd hr) (by rfl) T.b_repr (by decide +kernel) (pa_cons (pe_tup (pa_cons (pe_fn C_bunch_covers hgd (hr.mono (by first | decide | omega)) rfl (pa_cons (pv 9) (pa_cons (pv 10) pa_nil))) (pa_cons (pe_fnK0 C_bunch_covers_0_other_one hgd (hr.mono (by first | decide | omega)) rfl (pk_cons (pv 10) (pk_cons (pv 9) pk_nil))) pa_nil))) pa_nil)) (pe_callB (r := rReprD K) (call_reprD hgd hr) (by rfl) T.b_repr (by decide +kernel) (pa_cons (pe_tup (pa_cons (pv 7) (pa_cons (pv 7) pa_nil))) pa_nil)) (nomark _)) (pss_one (ps_ret pe_bl)) pss_nil)))))))) (pss_one (ps_ret (pe_cmpR (r := rEq2 K) (opEq hu) (pe_fn C_glow_of hgd (hr.mono (by first | decide | omega)) rfl (pa_cons (pe_tup (pa_cons pe_int (pa_cons pe_int pa_nil))) pa_nil)) pe_int (nomark _)))))))))))), ?_⟩
  refine ⟨.ref p, rfl, p, ns, rfl, hS, fun a l Ha cs keep ha hl hal ea el => ?_⟩
  have o0 : Ok (feedW nm a l cs) (fun _ => none) Ha := by
    refine ⟨fun b u e => (by cases e), fun b hz => ⟨rfl, ?_⟩, ⟨0, 0, 0, ea, el, by decide, by decide, by decide⟩⟩
    rcases hz with rfl | rfl
    · rw [ea]
      exact fun z => nomatch z
    · rw [el]
      exact fun z => nomatch z
  have b0 : Holds K (feedW nm a l cs) Ha (L2.start ["_law_script", "_law_feed_here", "_law_some", "_law_bunches", "_law_lap", "_law_stuff", "_law_kept", "_law_due", "_law_light", "_law_up", "_law_low"] [.ref p]) (fun _ => none) Ha ([.rf (.ref p)] ++ List.replicate 10 .un) :=
    holds_start (F := fun _ => none) (H := Ha) (ss := [.rf (.ref p)]) (.cons rfl .nil) (by simp [NoLs]) (Nat.le_of_ble_eq_true rfl)
  have b1 := b0.set (i := 1) (v := .ref a) (s := .rf (.ref a)) rfl trivial
  refine gname_go ?_
  dsimp only
  refine sx_anew (W := feedW nm a l cs) (K := K) (N := { nx := fun _ => False, rt := fun s => s = .dat (.bool true) }) o0 b1 (Step.refl o0) ?_ (fun _ _ _ _ _ z => z.elim) (fun v F' H' s o hv e => ?_) (fun _ z => z) (fun _ z => z)
  · change Sx K (feedW nm a l cs) Ha (fun _ => none) _ [.rf (.ref p), .rf (.ref a), .un, .un, .un, .un, .un, .un, .un, .un, .un] _
    generalize Ha = H0
    refine sx_seq (sx_asgN (evn_lst ?_))
    walk_at "go"
    change Sx K (feedW nm a l cs) H0 (fun _ => none) _ [.rf (.ref p), .rf (.ref a), .ls some1, .un, .un, .un, .un, .un, .un, .un, .un] _
    refine sx_seq (sx_app rfl (le_line rfl) ?_)
    walk_at "go"
    change Sx K (feedW nm a l cs) H0 (fun _ => none) _ [.rf (.ref p), .rf (.ref a), .ls some2, .un, .un, .un, .un, .un, .un, .un, .un] _
    refine sx_next ?_
    refine sx_seq (sx_asgN (evn_cat (ev_ownx ⟨_, rfl, ev_frz (evn_lst ?_)⟩)))
    walk_at "go"
    refine ops_pow ⟨by decide, by decide, by decide⟩ ?_
    walk_at "go"
    refine ⟨some2, _, .inr rfl, .inl rfl, le_line rfl, ?_⟩
    change Sx K (feedW nm a l cs) H0 (fun _ => none) _ [.rf (.ref p), .rf (.ref a), .ls some3, .un, .un, .un, .un, .un, .un, .un, .un] _
    refine sx_seq (sx_asgN (evn_lst (ea_nil ⟨[], rfl, le_line rfl, ?_⟩)))
    change Sx K (feedW nm a l cs) H0 (fun _ => none) _ [.rf (.ref p), .rf (.ref a), .ls some3, .ls [], .un, .un, .un, .un, .un, .un, .un] _
    refine sx_seq (sx_for (fun ds i ρ' => ds = rngD 0 12 ∧ ∃ acc bs s4, ρ' = [.rf (.ref p), .rf (.ref a), .ls acc, .ls bs, s4, .un, .un, .un, .un, .un, .un] ∧ acc.length ≤ 30 + 3 * i ∧ (∀ d ∈ acc, Mild 1 d) ∧ bs.length ≤ i ∧ ∀ d ∈ bs, isBun d) (evi_rng1 ?_))
    walk_at "go"
    refine ⟨by decide, by decide, ⟨rfl, some3, [], _, rfl, by decide, some3_ok, Nat.le_refl _, fun d m => (nomatch m)⟩, ?_, ?_⟩
    · rintro i d ρ' hd ⟨_, acc, bs, s4, rfl, hl, hm, hbl, hb⟩
      have hi : i < 12 := by
        have := (List.getElem?_eq_some_iff.mp hd).1
        rwa [rngD_len] at this
      refine gs_name trivial ?_
      change Sx K (feedW nm a l cs) H0 (fun _ => none) _ [.rf (.ref p), .rf (.ref a), .ls acc, .ls bs, .dat d, .un, .un, .un, .un, .un, .un] _
      refine sx_seq (sx_app (i := 3) rfl (Nat.lt_of_le_of_lt (m := 12) (by omega) (by rw [sizeLine_eq]; decide)) (ev_fnF ?_))
      walk_at "go"
      refine ⟨[_, _], rfl, rfl, rfl, fun y hy => ⟨y, rfl, ?_⟩⟩
      change Sx K (feedW nm a l cs) H0 (fun _ => none) _ [.rf (.ref p), .rf (.ref a), .ls acc, .ls (bs ++ [y]), .dat d, .un, .un, .un, .un, .un, .un] _
      obtain ⟨es, rfl, hrev⟩ := bun_tup hy
      refine sx_asgN (evn_cat (ev_ownx ⟨_, rfl, ev_frz (evn_lst ?_)⟩))
      walk_at "go"
      refine ops_ix_lst (.inr rfl) (at_last _ _) ?_
      walk_at "go"
      refine ops_ix_lst (.inr rfl) (at_last _ _) ?_
      walk_at "go"
      refine ev_fnF ?_
      walk_at "go"
      refine ops_ix_lst (.inr rfl) (at_last _ _) ?_
      walk_at "go"
      refine ⟨[_, _], rfl, rfl, ⟨_, rfl, .inr ⟨Nat.le_refl _, hy⟩⟩, fun z hz => ?_⟩
      walk_at "go"
      refine ⟨acc, _, .inr rfl, .inl rfl, big_line ?_, rfl, acc ++ [.tuple es, .tuple es.reverse, z], bs ++ [.tuple es], _, rfl, ?_, ?_, ?_, ?_⟩
      · show acc.length + 3 ≤ _
        omega
      · rw [List.length_append]
        show acc.length + 3 ≤ _
        omega
      · refine mild1_app hm fun d m => ?_
        simp only [List.mem_cons, List.not_mem_nil, or_false] at m
        rcases m with rfl | rfl | rfl
        · exact bun_mild hy
        · exact hrev
        · exact hz
      · rw [List.length_append, List.length_singleton]
        omega
      · intro d m
        rcases List.mem_append.mp m with m | m
        · exact hb d m
        · rw [List.mem_singleton.mp m]
          exact hy
    rintro ρ' ⟨_, acc, bs, s4, rfl, hl, hm, hbl, hb⟩
    refine sx_frz (i := 2) rfl ?_
    refine sx_frz (i := 3) rfl ?_
    change Sx K (feedW nm a l cs) H0 (fun _ => none) _ [.rf (.ref p), .rf (.ref a), .dat (.list acc), .dat (.list bs), s4, .un, .un, .un, .un, .un, .un] _
    refine sx_seq (sx_for (fun ds i ρ' => ds = acc ∧ ∃ s5 s6 s7 s8, ρ' = [.rf (.ref p), .rf (.ref a), .dat (.list acc), .dat (.list bs), s4, s5, s6, s7, s8, .un, .un]) (evi_list (ev_varx ⟨_, rfl, acc, rfl, ⟨rfl, _, _, _, _, rfl⟩, ?_, ?_⟩)))
    · rintro i stuff ρ' hd ⟨_, s5, s6, s7, s8, rfl⟩
      have hs : Mild 1 stuff := hm stuff (List.mem_of_getElem? hd)
      have fine := hs.fine
      refine gs_name trivial ?_
      change Sx K (feedW nm a l cs) H0 (fun _ => none) _ [.rf (.ref p), .rf (.ref a), .dat (.list acc), .dat (.list bs), s4, .dat stuff, s6, s7, s8, .un, .un] _
      refine sx_seq (sx_par (ev_cb (ea_cons (ev_varx ⟨_, rfl, ea_nil (cas_repr fine.nice fine.shown ⟨trivial, ?_⟩)⟩))))
      walk_at "go"
      change Sx K (feedW nm a l cs) H0 (fun _ => none) _ [.rf (.ref p), .rf (.ref a), .dat (.list acc), .dat (.list bs), s4, .dat stuff, .dat (.str stuff.shown), .dat (.bool (isTup stuff)), s8, .un, .un] _
      refine sx_seq (sx_for (fun es i ρ' => es = items stuff ∧ ∃ s8, ρ' = [.rf (.ref p), .rf (.ref a), .dat (.list acc), .dat (.list bs), s4, .dat stuff, .dat (.str stuff.shown), .dat (.bool (numsTo stuff i)), s8, .un, .un]) (evi_tup (Ev.mono (P := fun s => s = .dat (.tuple (items stuff))) ?_ ?_)))
      · refine ev_if ?_
        cases stuff with
        | tuple ds =>
          walk_at "go"
          exact rfl
        | _ =>
          walk_at "go"
          exact rfl
      · rintro _ rfl
        refine ⟨items stuff, rfl, ⟨rfl, s8, ?_⟩, ?_, ?_⟩
        · cases stuff <;> rfl
        · rintro j d ρ' hj ⟨_, s8, rfl⟩
          have hn : numsTo stuff (j + 1) = (numsTo stuff j && isNum d) := by
            cases stuff with
            | tuple ds =>
              have hj : ds[j]? = some d := hj
              show (ds.take (j + 1)).all isNum = ((ds.take j).all isNum && isNum d)
              rw [List.take_add_one, hj, List.all_append]
              simp
            | _ => cases hj
          refine gs_name trivial ?_
          refine sx_asg (Ev.mono (P := fun s => s = .dat (.bool (numsTo stuff j && isNum d))) ?_ ?_)
          · walk_at "go"
            refine if2 (fun h => ?_) (fun h => ?_)
            · rw [h, Bool.true_and]
              walk_at "go"
              cases d with
              | int x =>
                walk_at "go"
                exact rfl
              | bool x =>
                walk_at "go"
                exact rfl
              | _ => exact rfl
            · rw [h]
              rfl
          · rintro _ rfl
            rw [← hn]
            exact ⟨trivial, rfl, .dat d, rfl⟩
        · rintro ρ' ⟨_, s8, rfl⟩
          refine sx_next ?_
          refine sx_seq (sx_asg (Ev.mono (P := fun s => s = .dat (.bool (isLights stuff))) ?_ ?_))
          · refine ev_and (ev_varx ⟨_, rfl, _, rfl, if2 (fun h => ?_) (fun h => ?_)⟩)
            · cases stuff with
              | tuple ds =>
                have hall : ds.all isNum = true := by
                  have h : (ds.take ds.length).all isNum = true := h
                  rwa [List.take_length] at h
                obtain ⟨ns, rfl⟩ := nums_ints hall
                have hl30 := hs.tup rfl
                rw [List.length_map] at hl30
                refine ev_op (ev_varx ⟨_, rfl, ev_fn (ea_cons (ev_varx ⟨_, rfl, ea_nil ⟨fun s m => ?_, rfl, ⟨ns, .inr rfl, by omega⟩, fun s q => ?_⟩⟩))⟩)
                · rw [List.mem_singleton.mp m]
                  trivial
                obtain ⟨ms, rfl, hp, hpw⟩ := q ns (.inr rfl)
                refine ops_eq fine.shaped (ints_shapedT _) (rt_bool ?_)
                rw [sorted_own hp hpw]
                show _ = (List.all _ _ && _)
                rw [hall, Bool.true_and]
              | _ => cases h
            · refine rt_bool ?_
              cases stuff with
              | tuple ds =>
                have h : (ds.take ds.length).all isNum = false := h
                rw [List.take_length] at h
                show _ = (List.all _ _ && _)
                rw [h, Bool.false_and]
              | _ => rfl
          · rintro _ rfl
            refine ⟨trivial, ?_⟩
            change Sx K (feedW nm a l cs) H0 (fun _ => none) _ [.rf (.ref p), .rf (.ref a), .dat (.list acc), .dat (.list bs), s4, .dat stuff, .dat (.str stuff.shown), .dat (.bool (isLights stuff)), s8, .un, .un] _
            walk_at "go"
            refine ⟨fine, ?_⟩
            refine ea_cons (ev_fnK01 (ea_cons (ev_varx ⟨_, rfl, ea_nil ⟨_, rfl, fine, ?_⟩⟩)))
            refine ea_nil ⟨[.bool (isLights stuff), .bool (isLights stuff)], rfl, le_line rfl, ?_⟩
            refine ea_nil (cas_repr (two_fine _).nice (two_fine _).shown ?_)
            walk_at "go"
            refine cas_repr (two_fine (isLights stuff)).nice (two_fine _).shown ?_
            refine ops_neS ⟨_, rfl, ifF (ne_no rfl) ?_⟩
            walk_at "go"
            refine cas_repr fine.nice fine.shown ?_
            walk_at "go"
            refine ifF (ne_no rfl) ?_
            walk_at "go"
            exact ⟨rfl, _, _, _, _, rfl⟩
    · rintro ρ' ⟨_, s5, s6, s7, s8, rfl⟩
      refine sx_seq (sx_for (fun ds i ρ' => ds = bs ∧ ∃ s7 s8 s9 s10, ρ' = [.rf (.ref p), .rf (.ref a), .dat (.list acc), .dat (.list bs), s4, s5, s6, s7, s8, s9, s10]) (evi_list (ev_varx ⟨_, rfl, bs, rfl, ⟨rfl, _, _, _, _, rfl⟩, ?_, ?_⟩)))
      · rintro i up ρ' hd ⟨_, s7, s8, s9, s10, rfl⟩
        have hup := hb up (List.mem_of_getElem? hd)
        obtain ⟨ns, rfl, hnl, hnb⟩ := hb up (List.mem_of_getElem? hd)
        refine gs_name trivial ?_
        change Sx K (feedW nm a l cs) H0 (fun _ => none) _ [.rf (.ref p), .rf (.ref a), .dat (.list acc), .dat (.list bs), s4, s5, s6, s7, s8, .dat (.tuple (ns.map num)), s10] _
        refine sx_seq (sx_asg (ev_cb (ea_cons (ev_frz (evn_mapT (fun d => .int (powI d)) (evi_tup (ev_varx ⟨_, rfl, _, rfl, ?_, fun d hd => ?_, ?_⟩)))))))
        · rw [List.length_map, sizeLine_eq]
          omega
        · obtain ⟨n, rfl, hn⟩ := bun_int hd hnb
          refine gc_name (by decide) trivial ?_
          walk_at "go"
          exact ⟨⟨n, rfl, hn⟩, rfl⟩
        · refine ea_nil (cas_sum (ns := (ns.map num).map powI) (.inl ?_) ⟨trivial, ?_⟩)
          · simp only [List.map_map, Function.comp_def]
          change Sx K (feedW nm a l cs) H0 (fun _ => none) _ [.rf (.ref p), .rf (.ref a), .dat (.list acc), .dat (.list bs), s4, s5, s6, .dat (.int (glowD (.tuple (ns.map num)))), s8, .dat (.tuple (ns.map num)), s10] _
          refine sx_seq ?_
          walk_at "go"
          refine ⟨hup, ?_⟩
          walk_at "go"
          refine ops_ne (shaped_int _) (shaped_int _) ⟨_, rfl, ifF (int_no rfl) ?_⟩
          walk_at "go"
          refine ev_fnK01 (ea_cons (ev_varx ⟨_, rfl, ea_nil ⟨_, rfl, hup, ?_⟩⟩))
          walk_at "go"
          refine ops_ne (shaped_int _) (shaped_int _) ⟨_, rfl, ifF (int_no rfl) ?_⟩
          walk_at "go"
          refine sx_for (fun ds i ρ' => ds = bs ∧ ∃ s7 s10, ρ' = [.rf (.ref p), .rf (.ref a), .dat (.list acc), .dat (.list bs), s4, s5, s6, s7, s8, .dat (.tuple (ns.map num)), s10]) (evi_list (ev_varx ⟨_, rfl, bs, rfl, ⟨rfl, _, _, rfl⟩, ?_, ?_⟩))
          · rintro j low ρ' hd ⟨_, s7, s10, rfl⟩
            have hlow := hb low (List.mem_of_getElem? hd)
            refine gs_name trivial ?_
            change Sx K (feedW nm a l cs) H0 (fun _ => none) _ [.rf (.ref p), .rf (.ref a), .dat (.list acc), .dat (.list bs), s4, s5, s6, s7, s8, .dat (.tuple (ns.map num)), .dat low] _
            refine sx_seq (sx_asg (ev_fn2 (ea_cons (ev_varx ⟨_, rfl, ea_cons (ev_varx ⟨_, rfl, ea_nil ⟨_, _, rfl, ⟨hup, hlow⟩, ⟨trivial, ?_⟩⟩⟩)⟩))))
            change Sx K (feedW nm a l cs) H0 (fun _ => none) _ [.rf (.ref p), .rf (.ref a), .dat (.list acc), .dat (.list bs), s4, s5, s6, .dat (.bool (covD (.tuple (ns.map num)) low)), s8, .dat (.tuple (ns.map num)), .dat low] _
            walk_at "go"
            refine ⟨⟨hup, hlow⟩, ?_⟩
            refine ea_cons (ev_fnK02 (ea_cons (ev_varx ⟨_, rfl, ea_cons (ev_varx ⟨_, rfl, ea_nil ⟨_, _, rfl, ⟨hup, hlow⟩, ?_⟩⟩)⟩)))
            refine ea_nil ⟨[.bool (covD (.tuple (ns.map num)) low), .bool (covD (.tuple (ns.map num)) low)], rfl, le_line rfl, ?_⟩
            refine ea_nil (cas_repr (two_fine _).nice (two_fine _).shown ?_)
            walk_at "go"
            refine cas_repr (two_fine (covD (.tuple (ns.map num)) low)).nice (two_fine _).shown ?_
            refine ops_neS ⟨_, rfl, ifF (ne_no rfl) ?_⟩
            walk_at "go"
            exact ⟨rfl, _, _, rfl⟩
          · rintro ρ' ⟨_, s7, s10, rfl⟩
            exact ⟨rfl, _, _, _, _, rfl⟩
      · rintro ρ' ⟨_, s7, s8, s9, s10, rfl⟩
        refine sx_ret ?_
        walk_at "go"
        refine ⟨⟨[3, 0], rfl, by decide, by decide⟩, ?_⟩
        walk_at "go"
        exact rt_bool (decide_eq_true (by decide +kernel))
  · subst e
    rw [vok_bool hv]
    exact k _
end
end K32

namespace K32
open PySem L2 RZ DL PySem.Spec PyProof.Rows
/-! ### what the top has written, the head -/
section
variable {K : PySem.W.Frag} {f : Addr} {fd : FuncData}
def swapU (us ws : List Value) : List Value := match ws with
  | [a, b] => [b, a]
  | _ => ws
theorem swap_rel {vs zs : List V} {us ws : List Value} (r : Vals zs ws) : Vals (swapV vs zs) (swapU us ws) := by
  cases r with
  | nil => exact .nil
  | cons r1 r =>
    cases r with
    | nil => exact .cons r1 .nil
    | cons r2 r =>
      cases r with
      | nil => exact .cons r2 (.cons r1 .nil)
      | cons r3 r => exact .cons r1 (.cons r2 (.cons r3 r))
theorem k_bunch_covers (F : Fun K "bunch_covers" "bunch_covers" s_bunch_covers f fd) : KBn K fd ["one", "other"] 0 ["other", "one"] swapU swapV := by
  obtain ⟨oc, od, kV, doc, pm, an, cdv, ct, osl, rfl, lk, hcd⟩ := F.ex
  exact ⟨fun s us ws _ h1 h2 => match us, ws, h1, h2 with
    | [], [u, v], _, _ => .of_eq rfl, fun _ r2 => swap_rel r2⟩
theorem k_is_bunch (F : Fun K "is_bunch" "is_bunch" s_is_bunch f fd) : KBn K fd ["thing"] 0 ["thing"] (fun _ ws => ws) (fun _ zs => zs) := by
  obtain ⟨oc, od, kV, doc, pm, an, cdv, ct, osl, rfl, lk, hcd⟩ := F.ex
  exact ⟨fun s us ws _ h1 h2 => match us, ws, h1, h2 with
    | [], [u], _, _ => .of_eq rfl, fun _ r2 => r2⟩
theorem k_glow_of (F : Fun K "glow_of" "glow_of" s_glow_of f fd) : KBn K fd ["lights"] 0 ["lights"] (fun _ ws => ws) (fun _ zs => zs) := by
  obtain ⟨oc, od, kV, doc, pm, an, cdv, ct, osl, rfl, lk, hcd⟩ := F.ex
  exact ⟨fun s us ws _ h1 h2 => match us, ws, h1, h2 with
    | [], [u], _, _ => .of_eq rfl, fun _ r2 => r2⟩
end
theorem all_mk {l : PySem.W.OpenLaw} {w : World} {K : PySem.W.Frag} {h : Heap} {mg : Str → Option Value} {fa : Addr} (X : K.In h) (G : h.Ns mainGlobals mg) (hfa : mg "law" = some (.ref fa))
    {f1 f2 f3 f4 f5 f6 f7 f8 f9 f10 f11 f12 f13 f14 : Addr}
    {od1 an1 od2 an2 od3 an3 od4 an4 od5 an5 od6 an6 od7 an7 od8 an8 od9 an9 od10 an10 od11 an11 od12 an12 od13 an13 od14 an14 : Option Addr} {sl1 sl2 sl3 sl4 sl5 sl6 sl7 sl8 sl9 sl10 sl11 sl12 sl13 sl14 : Array (Option Value)}
    {oc1 kV1 dc1 pm1 cd1 ct1 oc2 kV2 dc2 pm2 cd2 ct2 oc3 kV3 dc3 pm3 cd3 ct3 oc4 kV4 dc4 pm4 cd4 ct4 oc5 kV5 dc5 pm5 cd5 ct5 oc6 kV6 dc6 pm6 cd6 ct6 oc7 kV7 dc7 pm7 cd7 ct7 oc8 kV8 dc8 pm8 cd8 ct8 oc9 kV9 dc9 pm9 cd9 ct9 oc10 kV10 dc10 pm10 cd10 ct10 oc11 kV11 dc11 pm11 cd11 ct11 oc12 kV12 dc12 pm12 cd12 ct12 oc13 kV13 dc13 pm13 cd13 ct13 oc14 kV14 dc14 pm14 cd14 ct14 : Value}
    (a1 : PySem.W.nsIn K mainGlobals "is_number" = some (some (.ref f1))) (l1 : K.lookup f1 = some ⟨oc1, od1, .func (PySem.W.fnOf "is_number" "is_number" (defArgs s_is_number) (defBody s_is_number) (defScope s_is_number) .none kV1 dc1 pm1 an1 cd1 ct1), sl1⟩) (c1 : PySem.W.codeIn K cd1 "is_number" = true) (k1 : PySem.W.keepIn K (.ref f1) = true)
    (a2 : PySem.W.nsIn K mainGlobals "is_lights" = some (some (.ref f2))) (l2 : K.lookup f2 = some ⟨oc2, od2, .func (PySem.W.fnOf "is_lights" "is_lights" (defArgs s_is_lights) (defBody s_is_lights) (defScope s_is_lights) .none kV2 dc2 pm2 an2 cd2 ct2), sl2⟩) (c2 : PySem.W.codeIn K cd2 "is_lights" = true) (k2 : PySem.W.keepIn K (.ref f2) = true)
    (a3 : PySem.W.nsIn K mainGlobals "is_bunch" = some (some (.ref f3))) (l3 : K.lookup f3 = some ⟨oc3, od3, .func (PySem.W.fnOf "is_bunch" "is_bunch" (defArgs s_is_bunch) (defBody s_is_bunch) (defScope s_is_bunch) .none kV3 dc3 pm3 an3 cd3 ct3), sl3⟩) (c3 : PySem.W.codeIn K cd3 "is_bunch" = true) (k3 : PySem.W.keepIn K (.ref f3) = true)
    (a4 : PySem.W.nsIn K mainGlobals "glow_of" = some (some (.ref f4))) (l4 : K.lookup f4 = some ⟨oc4, od4, .func (PySem.W.fnOf "glow_of" "glow_of" (defArgs s_glow_of) (defBody s_glow_of) (defScope s_glow_of) .none kV4 dc4 pm4 an4 cd4 ct4), sl4⟩) (c4 : PySem.W.codeIn K cd4 "glow_of" = true) (k4 : PySem.W.keepIn K (.ref f4) = true)
    (a5 : PySem.W.nsIn K mainGlobals "bunch_covers" = some (some (.ref f5))) (l5 : K.lookup f5 = some ⟨oc5, od5, .func (PySem.W.fnOf "bunch_covers" "bunch_covers" (defArgs s_bunch_covers) (defBody s_bunch_covers) (defScope s_bunch_covers) .none kV5 dc5 pm5 an5 cd5 ct5), sl5⟩) (c5 : PySem.W.codeIn K cd5 "bunch_covers" = true) (k5 : PySem.W.keepIn K (.ref f5) = true)
    (a6 : PySem.W.nsIn K mainGlobals "_law_feed" = some (some (.ref f6))) (l6 : K.lookup f6 = some ⟨oc6, od6, .func (PySem.W.fnOf "_law_feed" "_law_feed" (defArgs s__law_feed) (defBody s__law_feed) (defScope s__law_feed) .none kV6 dc6 pm6 an6 cd6 ct6), sl6⟩) (c6 : PySem.W.codeIn K cd6 "_law_feed" = true) (k6 : PySem.W.keepIn K (.ref f6) = true)
    (a7 : PySem.W.nsIn K mainGlobals "_law_draw" = some (some (.ref f7))) (l7 : K.lookup f7 = some ⟨oc7, od7, .func (PySem.W.fnOf "_law_draw" "_law_draw" (defArgs s__law_draw) (defBody s__law_draw) (defScope s__law_draw) .none kV7 dc7 pm7 an7 cd7 ct7), sl7⟩) (c7 : PySem.W.codeIn K cd7 "_law_draw" = true) (k7 : PySem.W.keepIn K (.ref f7) = true)
    (a8 : PySem.W.nsIn K mainGlobals "_law_falling" = some (some (.ref f8))) (l8 : K.lookup f8 = some ⟨oc8, od8, .func (PySem.W.fnOf "_law_falling" "_law_falling" (defArgs s__law_falling) (defBody s__law_falling) (defScope s__law_falling) .none kV8 dc8 pm8 an8 cd8 ct8), sl8⟩) (c8 : PySem.W.codeIn K cd8 "_law_falling" = true) (k8 : PySem.W.keepIn K (.ref f8) = true)
    (a9 : PySem.W.nsIn K mainGlobals "_law_covers" = some (some (.ref f9))) (l9 : K.lookup f9 = some ⟨oc9, od9, .func (PySem.W.fnOf "_law_covers" "_law_covers" (defArgs s__law_covers) (defBody s__law_covers) (defScope s__law_covers) .none kV9 dc9 pm9 an9 cd9 ct9), sl9⟩) (c9 : PySem.W.codeIn K cd9 "_law_covers" = true) (k9 : PySem.W.keepIn K (.ref f9) = true)
    (a10 : PySem.W.nsIn K mainGlobals "_law_power" = some (some (.ref f10))) (l10 : K.lookup f10 = some ⟨oc10, od10, .func (PySem.W.fnOf "_law_power" "_law_power" (defArgs s__law_power) (defBody s__law_power) (defScope s__law_power) .none kV10 dc10 pm10 an10 cd10 ct10), sl10⟩) (c10 : PySem.W.codeIn K cd10 "_law_power" = true) (k10 : PySem.W.keepIn K (.ref f10) = true)
    (a11 : PySem.W.nsIn K mainGlobals "_law_lights" = some (some (.ref f11))) (l11 : K.lookup f11 = some ⟨oc11, od11, .func (PySem.W.fnOf "_law_lights" "_law_lights" (defArgs s__law_lights) (defBody s__law_lights) (defScope s__law_lights) .none kV11 dc11 pm11 an11 cd11 ct11), sl11⟩) (c11 : PySem.W.codeIn K cd11 "_law_lights" = true) (k11 : PySem.W.keepIn K (.ref f11) = true)
    (a12 : PySem.W.nsIn K mainGlobals "_law_odd" = some (some (.ref f12))) (l12 : K.lookup f12 = some ⟨oc12, od12, .func (PySem.W.fnOf "_law_odd" "_law_odd" (defArgs s__law_odd) (defBody s__law_odd) (defScope s__law_odd) .none kV12 dc12 pm12 an12 cd12 ct12), sl12⟩) (c12 : PySem.W.codeIn K cd12 "_law_odd" = true) (k12 : PySem.W.keepIn K (.ref f12) = true)
    (a13 : PySem.W.nsIn K mainGlobals "_law_bent" = some (some (.ref f13))) (l13 : K.lookup f13 = some ⟨oc13, od13, .func (PySem.W.fnOf "_law_bent" "_law_bent" (defArgs s__law_bent) (defBody s__law_bent) (defScope s__law_bent) .none kV13 dc13 pm13 an13 cd13 ct13), sl13⟩) (c13 : PySem.W.codeIn K cd13 "_law_bent" = true) (k13 : PySem.W.keepIn K (.ref f13) = true)
    (a14 : PySem.W.nsIn K mainGlobals "law" = some (some (.ref f14))) (l14 : K.lookup f14 = some ⟨oc14, od14, .func (PySem.W.fnOf "law" "law" (defArgs s_law) (defBody s_law) (defScope s_law) .none kV14 dc14 pm14 an14 cd14 ct14), sl14⟩) (c14 : PySem.W.codeIn K cd14 "law" = true) (k14 : PySem.W.keepIn K (.ref f14) = true)
    (z_all : PySem.W.nsIn K mainGlobals "all" = some none) (z_bool : PySem.W.nsIn K mainGlobals "bool" = some none) (z_int : PySem.W.nsIn K mainGlobals "int" = some none) (z_isinstance : PySem.W.nsIn K mainGlobals "isinstance" = some none) (z_len : PySem.W.nsIn K mainGlobals "len" = some none) (z_list : PySem.W.nsIn K mainGlobals "list" = some none) (z_range : PySem.W.nsIn K mainGlobals "range" = some none) (z_repr : PySem.W.nsIn K mainGlobals "repr" = some none) (z_sorted : PySem.W.nsIn K mainGlobals "sorted" = some none) (z_str : PySem.W.nsIn K mainGlobals "str" = some none) (z_sum : PySem.W.nsIn K mainGlobals "sum" = some none) (z_tuple : PySem.W.nsIn K mainGlobals "tuple" = some none) (z_zip : PySem.W.nsIn K mainGlobals "zip" = some none) :
    ∃ fd : FuncData, (∀ (s : Shared) (v : Value), BindsTo s fd ⟨[v], []⟩ [("_law_script", v)]) ∧ ∀ base : Heap, K.In base → base.Ns mainGlobals mg → FnG l.prog w K mg base 5 fa fd ["_law_script"] (spLaw K) := by
  have e := hfa.symm.trans (PySem.W.mg_of X G a14)
  cases e
  have T : Txt mg := ⟨PySem.W.mg_none_of X G z_all, PySem.W.mg_none_of X G z_bool, PySem.W.mg_none_of X G z_int, PySem.W.mg_none_of X G z_isinstance, PySem.W.mg_none_of X G z_len, PySem.W.mg_none_of X G z_list, PySem.W.mg_none_of X G z_range, PySem.W.mg_none_of X G z_repr, PySem.W.mg_none_of X G z_sorted, PySem.W.mg_none_of X G z_str, PySem.W.mg_none_of X G z_sum, PySem.W.mg_none_of X G z_tuple, PySem.W.mg_none_of X G z_zip⟩
  have F1 := fun_mk (st := s_is_number) l1 c1 k1
  have b1 := F1.binds (ps := ["thing"]) fun _ _ _ _ _ _ us hl => match us, hl with | [_], _ => rfl
  have m1 := PySem.W.mg_of X G a1
  have F2 := fun_mk (st := s_is_lights) l2 c2 k2
  have b2 := F2.binds (ps := ["thing"]) fun _ _ _ _ _ _ us hl => match us, hl with | [_], _ => rfl
  have m2 := PySem.W.mg_of X G a2
  have F3 := fun_mk (st := s_is_bunch) l3 c3 k3
  have b3 := F3.binds (ps := ["thing"]) fun _ _ _ _ _ _ us hl => match us, hl with | [_], _ => rfl
  have m3 := PySem.W.mg_of X G a3
  have F4 := fun_mk (st := s_glow_of) l4 c4 k4
  have b4 := F4.binds (ps := ["lights"]) fun _ _ _ _ _ _ us hl => match us, hl with | [_], _ => rfl
  have m4 := PySem.W.mg_of X G a4
  have F5 := fun_mk (st := s_bunch_covers) l5 c5 k5
  have b5 := F5.binds (ps := ["one", "other"]) fun _ _ _ _ _ _ us hl => match us, hl with | [_, _], _ => rfl
  have m5 := PySem.W.mg_of X G a5
  have F6 := fun_mk (st := s__law_feed) l6 c6 k6
  have b6 := F6.binds (ps := ["_law_script"]) fun _ _ _ _ _ _ us hl => match us, hl with | [_], _ => rfl
  have m6 := PySem.W.mg_of X G a6
  have F7 := fun_mk (st := s__law_draw) l7 c7 k7
  have b7 := F7.binds (ps := ["_law_feed_here", "_law_many"]) fun _ _ _ _ _ _ us hl => match us, hl with | [_, _], _ => rfl
  have m7 := PySem.W.mg_of X G a7
  have F8 := fun_mk (st := s__law_falling) l8 c8 k8
  have b8 := F8.binds (ps := ["_law_lamps"]) fun _ _ _ _ _ _ us hl => match us, hl with | [_], _ => rfl
  have m8 := PySem.W.mg_of X G a8
  have F9 := fun_mk (st := s__law_covers) l9 c9 k9
  have b9 := F9.binds (ps := ["_law_up", "_law_low"]) fun _ _ _ _ _ _ us hl => match us, hl with | [_, _], _ => rfl
  have m9 := PySem.W.mg_of X G a9
  have F10 := fun_mk (st := s__law_power) l10 c10 k10
  have b10 := F10.binds (ps := ["_law_light"]) fun _ _ _ _ _ _ us hl => match us, hl with | [_], _ => rfl
  have m10 := PySem.W.mg_of X G a10
  have F11 := fun_mk (st := s__law_lights) l11 c11 k11
  have b11 := F11.binds (ps := ["_law_feed_here", "_law_bright", "_law_most"]) fun _ _ _ _ _ _ us hl => match us, hl with | [_, _, _], _ => rfl
  have m11 := PySem.W.mg_of X G a11
  have F12 := fun_mk (st := s__law_odd) l12 c12 k12
  have b12 := F12.binds (ps := ["_law_feed_here", "_law_stuff", "_law_some"]) fun _ _ _ _ _ _ us hl => match us, hl with | [_, _, _], _ => rfl
  have m12 := PySem.W.mg_of X G a12
  have F13 := fun_mk (st := s__law_bent) l13 c13 k13
  have b13 := F13.binds (ps := ["_law_feed_here", "_law_stuff", "_law_some"]) fun _ _ _ _ _ _ us hl => match us, hl with | [_, _, _], _ => rfl
  have m13 := PySem.W.mg_of X G a13
  have F14 := fun_mk (st := s_law) l14 c14 k14
  have b14 := F14.binds (ps := ["_law_script"]) fun _ _ _ _ _ _ us hl => match us, hl with | [_], _ => rfl
  have m14 := PySem.W.mg_of X G a14
  refine ⟨PySem.W.fnOf "law" "law" (defArgs s_law) (defBody s_law) (defScope s_law) .none kV14 dc14 pm14 an14 cd14 ct14, fun s v => .of_eq rfl, fun base _ _ => ?_⟩
  have G1 := ok_is_number (Pg := l.prog) (w := w) (mg := mg) (base := base) F1 T
  have C1 : Fn l.prog w K mg base "is_number" 1 ["thing"] _ := ⟨_, _, G1, m1, k1, b1⟩
  have G2 := ok_is_lights (Pg := l.prog) (w := w) (mg := mg) (base := base) F2 T C1
  have C2 : Fn l.prog w K mg base "is_lights" 2 ["thing"] _ := ⟨_, _, G2, m2, k2, b2⟩
  have G3 := ok_is_bunch (Pg := l.prog) (w := w) (mg := mg) (base := base) F3 T C2
  have C3 : Fn l.prog w K mg base "is_bunch" 3 ["thing"] _ := ⟨_, _, G3, m3, k3, b3⟩
  have G4 := ok_glow_of (Pg := l.prog) (w := w) (mg := mg) (base := base) F4 T
  have C4 : Fn l.prog w K mg base "glow_of" 1 ["lights"] _ := ⟨_, _, G4, m4, k4, b4⟩
  have G5 := ok_bunch_covers (Pg := l.prog) (w := w) (mg := mg) (base := base) F5 T
  have C5 : Fn l.prog w K mg base "bunch_covers" 1 ["one", "other"] _ := ⟨_, _, G5, m5, k5, b5⟩
  have G6 := ok_feed (Pg := l.prog) (w := w) (mg := mg) (base := base) F6 T
  have C6 : Fn l.prog w K mg base "_law_feed" 1 ["_law_script"] _ := ⟨_, _, G6, m6, k6, b6⟩
  have G7 := ok_draw (Pg := l.prog) (w := w) (mg := mg) (base := base) F7 T
  have C7 : Fn l.prog w K mg base "_law_draw" 1 ["_law_feed_here", "_law_many"] _ := ⟨_, _, G7, m7, k7, b7⟩
  have G8 := ok_falling (Pg := l.prog) (w := w) (mg := mg) (base := base) F8 T
  have C8 : Fn l.prog w K mg base "_law_falling" 1 ["_law_lamps"] _ := ⟨_, _, G8, m8, k8, b8⟩
  have G9 := ok_covers (Pg := l.prog) (w := w) (mg := mg) (base := base) F9 T
  have C9 : Fn l.prog w K mg base "_law_covers" 1 ["_law_up", "_law_low"] _ := ⟨_, _, G9, m9, k9, b9⟩
  have G10 := ok_power (Pg := l.prog) (w := w) (mg := mg) (base := base) F10 T
  have C10 : Fn l.prog w K mg base "_law_power" 1 ["_law_light"] _ := ⟨_, _, G10, m10, k10, b10⟩
  have G11 := ok_lights (Pg := l.prog) (w := w) (mg := mg) (base := base) F11 T C7 C8
  have C11 : Fn l.prog w K mg base "_law_lights" 2 ["_law_feed_here", "_law_bright", "_law_most"] _ := ⟨_, _, G11, m11, k11, b11⟩
  have G12 := ok_odd (Pg := l.prog) (w := w) (mg := mg) (base := base) F12 T C7
  have C12 : Fn l.prog w K mg base "_law_odd" 2 ["_law_feed_here", "_law_stuff", "_law_some"] _ := ⟨_, _, G12, m12, k12, b12⟩
  have G13 := bent_all (Pg := l.prog) (w := w) (base := base) F13 T C7 C12 ⟨m13, k13, b13⟩
  have C13 : Fn l.prog w K mg base "_law_bent" 4 ["_law_feed_here", "_law_stuff", "_law_some"] _ := ⟨_, _, G13, m13, k13, b13⟩
  exact ok_law F14 T ⟨C6, C11, C13, C8, C10, C9, C3, C4, C5, ⟨_, _, _, G3, m3, k3, k_is_bunch F3⟩, ⟨_, _, _, G4, m4, k4, k_glow_of F4⟩, ⟨_, _, _, G5, m5, k5, k_bunch_covers F5⟩⟩
theorem walk {l : PySem.W.OpenLaw} {q : Program} {loose : List Str} {XP : (Str → Option Value) → Heap → Prop} {YP : World → Heap → Prop} {d : DefRec} {K : Params → PySem.W.Frag} (hn : l.most = some 63) (hdf : d.params.defaults = []) (hY : ∀ (w : World) (h : Heap), YP w h → (K w.params).In h)
    (F : ∀ (w : World) (mg : Str → Option Value) (fa : Addr) (h : Heap), (K w.params).In h → h.Ns mainGlobals mg → mg d.name = some (.ref fa) → ∃ fd : FuncData, (∀ (s : Shared) (u : Value), BindsTo s fd ⟨[u], []⟩ [("_law_script", u)]) ∧
      ∀ base : Heap, (K w.params).In base → base.Ns mainGlobals mg → FnG l.prog w (K w.params) mg base 5 fa fd ["_law_script"] (spLaw (K w.params))) :
    PySem.W.WalkO q loose XP YP l.row.toRowW d [] (fun f vs => PySem.call f vs) :=
  told_walk (n := 63) (k := 5) (x := "_law_script") (sp := spLaw) hn (by decide) hdf ⟨rfl, by decide, by decide⟩ hY F fun K H p zs _ h => ⟨p, zs, rfl, h, fun _ => rfl⟩
end K32

open PySem PySem.W PyProof.Rows in
set_option maxRecDepth 100000 in
set_option maxHeartbeats 0 in
theorem PySem.Challenge.cw_handsmade_k32_bunches_told_holds : PySem.Challenge.rw_handsmade_k32_bunches_told.Holds := by
  w_on; o_law; k_head; (case hw => w_witness2)
  k_fill
  refine K32.walk (l := PySem.Challenge.rw_handsmade_k32_bunches_told) rfl rfl (fun w h Y => PySem.W.kIn_of Y) ?F
  case F =>
    intro w mg fa h KX G hmg
    refine' K32.all_mk KX G hmg ?a1 ?l1 ?c1 ?k1 ?a2 ?l2 ?c2 ?k2 ?a3 ?l3 ?c3 ?k3 ?a4 ?l4 ?c4 ?k4 ?a5 ?l5 ?c5 ?k5 ?a6 ?l6 ?c6 ?k6 ?a7 ?l7 ?c7 ?k7 ?a8 ?l8 ?c8 ?k8 ?a9 ?l9 ?c9 ?k9 ?a10 ?l10 ?c10 ?k10 ?a11 ?l11 ?c11 ?k11 ?a12 ?l12 ?c12 ?k12 ?a13 ?l13 ?c13 ?k13 ?a14 ?l14 ?c14 ?k14 ?z_all ?z_bool ?z_int ?z_isinstance ?z_len ?z_list ?z_range ?z_repr ?z_sorted ?z_str ?z_sum ?z_tuple ?z_zip
    (case a1 => k_is)
    (case l1 => k_is)
    (case c1 => k_is)
    (case k1 => k_is)
    (case a2 => k_is)
    (case l2 => k_is)
    (case c2 => k_is)
    (case k2 => k_is)
    (case a3 => k_is)
    (case l3 => k_is)
    (case c3 => k_is)
    (case k3 => k_is)
    (case a4 => k_is)
    (case l4 => k_is)
    (case c4 => k_is)
    (case k4 => k_is)
    (case a5 => k_is)
    (case l5 => k_is)
    (case c5 => k_is)
    (case k5 => k_is)
    (case a6 => k_is)
    (case l6 => k_is)
    (case c6 => k_is)
    (case k6 => k_is)
    (case a7 => k_is)
    (case l7 => k_is)
    (case c7 => k_is)
    (case k7 => k_is)
    (case a8 => k_is)
    (case l8 => k_is)
    (case c8 => k_is)
    (case k8 => k_is)
    (case a9 => k_is)
    (case l9 => k_is)
    (case c9 => k_is)
    (case k9 => k_is)
    (case a10 => k_is)
    (case l10 => k_is)
    (case c10 => k_is)
    (case k10 => k_is)
    (case a11 => k_is)
    (case l11 => k_is)
    (case c11 => k_is)
    (case k11 => k_is)
    (case a12 => k_is)
    (case l12 => k_is)
    (case c12 => k_is)
    (case k12 => k_is)
    (case a13 => k_is)
    (case l13 => k_is)
    (case c13 => k_is)
    (case k13 => k_is)
    (case a14 => k_is)
    (case l14 => k_is)
    (case c14 => k_is)
    (case k14 => k_is)
    (case z_all => k_is)
    (case z_bool => k_is)
    (case z_int => k_is)
    (case z_isinstance => k_is)
    (case z_len => k_is)
    (case z_list => k_is)
    (case z_range => k_is)
    (case z_repr => k_is)
    (case z_sorted => k_is)
    (case z_str => k_is)
    (case z_sum => k_is)
    (case z_tuple => k_is)
    (case z_zip => k_is)
