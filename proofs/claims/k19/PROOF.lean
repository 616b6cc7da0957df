import PyProof.Rows.All
import Wide.All
import OpenK.AllK
import Wide.FinOn
import PyProof.EqAt
import PyProof.EqKinds
import PyProof.TupleCall
import PyProof.ReprRoads
import HandS.ForMost
import HandS.Deep
import HandS.IsInst
import HandS.TupAny
import HandS.TupMul
import HandS.Style
import HandS.Zip
import HandS.Walk
import HandS.Defaults
import HandS.StrMore
import HandS.RaiseMore
import HandS.Sort
import HandS.Lambda
import PyProof.P3In
import PyProof.Rows.IntBool
import PyProof.ReprLen
import PyProof.Rows.ReprOcc
import HandS.Ends
import KE.GoesEnum
import HandS.Iter
import HandS.RevRange
import HandS.Conv
import KE.SortData
import HandS.SortKw
import KE.KExcIs
import KE.KIsAll
import HandS.ExcIs
import HandS.ExcField
import HandS.ExcInit
import HandS.TryOnly
import KE.KNestM
import HandS.SetFor
import KE.DataCmp
import HandS.Strs
import KE.DataMinMax
import HandS.MakeKwOnly
import PySem.Challenge.RW_handsmade_k19_whole_no_less_an_order
set_option Elab.async false
set_option linter.all false
set_option maxRecDepth 100000
set_option maxHeartbeats 4000000
/-! data layer: what an expression evaluates to, told by data alone -/
namespace DL
open PySem L2
abbrev D := PyData
/-! a value is this data: its lists and tuples stand as objects -/
mutual
inductive Dp (K : PySem.W.Frag) (H : Hp) : V → PyData → Prop
  | non : Dp K H .non .none
  | bl (b : Bool) : Dp K H (.bl b) (.bool b)
  | int (i : Int) : Dp K H (.int i) (.int i)
  | str (x : Str) : Dp K H (.str x) (.str x)
  | lst {a : Addr} {xs : List V} {ds : List PyData} : H a = some (.lst xs) → DpAll K H xs ds → Dp K H (.ref a) (.list ds)
  | tup {a : Addr} {xs : List V} {ds : List PyData} : H a = some (.tup xs) → DpAll K H xs ds → Dp K H (.ref a) (.tuple ds)
inductive DpAll (K : PySem.W.Frag) (H : Hp) : List V → List PyData → Prop
  | nil : DpAll K H [] []
  | cons {v : V} {vs : List V} {d : PyData} {ds : List PyData} : Dp K H v d → DpAll K H vs ds → DpAll K H (v :: vs) (d :: ds)
end
mutual
theorem Dp.old {K : PySem.W.Frag} {H : Hp} : ∀ {v : V} {d : PyData}, Dp K H v d → L2.Dp K H v d
  | _, _, .non => .non
  | _, _, .bl b => .bl b
  | _, _, .int i => .int i
  | _, _, .str x => .str x
  | _, _, .lst h a => .lst (SqL.of h) (DpAll.old a)
  | _, _, .tup h a => .tup (SqT.of h) (DpAll.old a)
theorem DpAll.old {K : PySem.W.Frag} {H : Hp} : ∀ {vs : List V} {ds : List PyData}, DpAll K H vs ds → L2.DpAll K H vs ds
  | _, _, .nil => .nil
  | _, _, .cons h t => .cons (Dp.old h) (DpAll.old t)
end
/-- a slot: not known; frozen data; a list of the def's own; a value as it is -/
inductive Sl where
  | un | dat (d : D) | ls (ds : List D) | rf (v : V)
abbrev Rho := List Sl
/-- what may change behind our back (Z), what holds of it -/
structure Wd where
  Z : Addr → Prop
  I : Hp → Hp → Prop
  stab : ∀ F H F' H', I F H → Same F F' → (∀ b o, Z b → H b = some o → H' b = some o) → (∀ b c q, H b = some (LamX.CodeO c q) → H' b = some (LamX.CodeO c q)) → I F' H'
  back : ∀ F F' H0 H, I F H0 → I F' H → I F H
structure Ok (W : Wd) (F H : Hp) : Prop where
  sub : Same F H
  z : ∀ b, W.Z b → F b = none ∧ H b ≠ none
  inv : W.I F H
structure Step (W : Wd) (F H F' H' : Hp) : Prop where
  fz : Same F F'
  kp : ∀ b o, ¬ W.Z b → H b = some o → H' b = some o
  nw : ∀ b, F b = none → H b ≠ none → F' b = none

section
variable {W : Wd} {F F1 F2 F' H H0 H1 H2 H' : Hp} {K : PySem.W.Frag}
theorem some_of {a : Option HO} (h : a ≠ none) : ∃ o, a = some o := by
  cases a with
  | none => exact absurd rfl h
  | some o => exact ⟨o, rfl⟩
theorem Step.refl (o : Ok W F H) : Step W F H F H := ⟨Same.refl _, fun _ _ _ h => h, fun _ h _ => h⟩
theorem Step.there (s : Step W F H F' H') (o : Ok W F' H') {b : Addr} (h : H b ≠ none) : H' b ≠ none := by
  by_cases hz : W.Z b
  · exact (o.z b hz).2
  · obtain ⟨u, hu⟩ := some_of h
    rw [s.kp b u hz hu]
    exact fun z => nomatch z
theorem Step.trans (a : Step W F H F1 H1) (o : Ok W F1 H1) (b : Step W F1 H1 F2 H2) : Step W F H F2 H2 :=
  ⟨a.fz.trans b.fz, fun c u hz h => b.kp c u hz (a.kp c u hz h), fun c hf hh => b.nw c (a.nw c hf hh) (a.there o hh)⟩
theorem sm_new {p : Addr} {o : HO} (h : H p = none) : Same H (upd H p o) := fun a u e => by
  rw [upd_ne (ne_of_none e h)]
  exact e
theorem Ok.free (o : Ok W F H) {p : Addr} (h : H p = none) : F p = none := o.sub.free h
theorem Ok.nz (o : Ok W F H) {p : Addr} (h : H p = none) : ¬ W.Z p := fun z => (o.z p z).2 h
/-- a new object, frozen -/
theorem Ok.new (o : Ok W F H) {p : Addr} {u : HO} (h : H p = none) : Ok W (upd F p u) (upd H p u) ∧ Step W F H (upd F p u) (upd H p u) := by
  refine ⟨⟨fun a v e => ?_, fun b hz => ?_, W.stab _ _ _ _ o.inv (sm_new (o.free h)) (fun b v _ e => sm_new h b v e) fun b c q e => sm_new h b _ e⟩, sm_new (o.free h), fun b v _ e => sm_new h b v e, fun b hf hh => ?_⟩
  · by_cases q : a = p
    · rw [q, upd_same] at e
      rw [q, upd_same]
      exact e
    · rw [upd_ne q] at e
      rw [upd_ne q]
      exact o.sub a v e
  · have q : b ≠ p := fun q => o.nz h (q ▸ hz)
    rw [upd_ne q, upd_ne q]
    exact o.z b hz
  · have q : b ≠ p := fun q => hh (q ▸ h)
    rw [upd_ne q]
    exact hf
/-- a new object, not frozen -/
theorem Ok.own (o : Ok W F H) {p : Addr} {u : HO} (h : H p = none) : Ok W F (upd H p u) ∧ Step W F H F (upd H p u) := by
  refine ⟨⟨fun a v e => ?_, fun b hz => ?_, W.stab _ _ _ _ o.inv (Same.refl _) (fun b v _ e => sm_new h b v e) fun b c q e => sm_new h b _ e⟩, Same.refl _, fun b v _ e => sm_new h b v e, fun b hf _ => hf⟩
  · exact sm_new h a v (o.sub a v e)
  · have q : b ≠ p := fun q => o.nz h (q ▸ hz)
    rw [upd_ne q]
    exact o.z b hz
/-- a list of one's own is frozen -/
theorem Ok.freeze (o : Ok W F H) {p : Addr} {u : HO} (h : H p = some u) (hz : ¬ W.Z p) (hf : F p = none) : Ok W (upd F p u) H := by
  refine ⟨fun a v e => ?_, fun b z => ?_, W.stab _ _ _ _ o.inv (sm_new hf) (fun b v _ e => e) fun b c q e => e⟩
  · by_cases q : a = p
    · rw [q, upd_same] at e
      rw [q, h]
      exact e
    · rw [upd_ne q] at e
      exact o.sub a v e
  · have q : b ≠ p := fun q => hz (q ▸ z)
    rw [upd_ne q]
    exact o.z b z
/-- an own list is changed -/
theorem code_lst {c : Addr} {q : Str} {xs : List V} : some (HO.lst xs) ≠ some (LamX.CodeO c q) := fun z => by
  have z := Option.some.inj z
  unfold LamX.CodeO at z
  cases z
theorem Ok.mut (o : Ok W F H) {p : Addr} {u' : HO} {xs : List V} (h : H p = some (.lst xs)) (hz : ¬ W.Z p) (hf : F p = none) : Ok W F (upd H p u') := by
  refine ⟨fun a v e => ?_, fun b z => ?_, W.stab _ _ _ _ o.inv (Same.refl _) (fun b v z e => by
    have q : b ≠ p := fun q => hz (q ▸ z)
    rw [upd_ne q]
    exact e) fun b c q e => by
    have n : b ≠ p := fun z => by
      rw [z, h] at e
      exact code_lst e
    rw [upd_ne n]
    exact e⟩
  · have q : a ≠ p := fun q => by rw [q, hf] at e; cases e
    rw [upd_ne q]
    exact o.sub a v e
  · have q : b ≠ p := fun q => hz (q ▸ z)
    rw [upd_ne q]
    exact o.z b z

theorem rd_mono {a : Addr} {u : HO} (e : Same H H') (h : Rd H a u) : Rd H' a u := by
  rcases h with h | ⟨o, h⟩
  · exact Or.inl (e a _ h)
  · exact Or.inr ⟨o, e a _ h⟩
theorem sql_mono {a : Addr} {xs : List V} (e : Same H H') (h : SqL K H a xs) : SqL K H' a xs := e.seq h
theorem sqt_mono {a : Addr} {xs : List V} (e : Same H H') (h : SqT K H a xs) : SqT K H' a xs := by
  rcases h with h | h
  · exact Or.inl (rd_mono e h)
  · exact Or.inr h
mutual
theorem dp_mono (e : Same H H') : ∀ {v : V} {d : D}, Dp K H v d → Dp K H' v d
  | _, _, .non => .non
  | _, _, .bl b => .bl b
  | _, _, .int i => .int i
  | _, _, .str x => .str x
  | _, _, .lst h a => .lst (e _ _ h) (dpa_mono e a)
  | _, _, .tup h a => .tup (e _ _ h) (dpa_mono e a)
theorem dpa_mono (e : Same H H') : ∀ {vs : List V} {ds : List D}, DpAll K H vs ds → DpAll K H' vs ds
  | _, _, .nil => .nil
  | _, _, .cons h t => .cons (dp_mono e h) (dpa_mono e t)
end
theorem dpa_len : ∀ {vs : List V} {ds : List D}, DpAll K H vs ds → vs.length = ds.length
  | _, _, .nil => rfl
  | _, _, .cons h t => by rw [List.length_cons, List.length_cons, dpa_len t]
theorem dpa_get : ∀ {vs : List V} {ds : List D} {i : Nat} {v : V}, DpAll K H vs ds → vs[i]? = some v → ∃ d, ds[i]? = some d ∧ Dp K H v d
  | _, _, i, v, .nil, h => by simp at h
  | _, _, 0, v, .cons h t, e => by
    simp at e
    subst e
    exact ⟨_, rfl, h⟩
  | _, _, i + 1, v, .cons h t, e => by
    obtain ⟨d, h1, h2⟩ := dpa_get (i := i) (v := v) t (by simpa using e)
    exact ⟨d, by simpa using h1, h2⟩
theorem dpa_get' : ∀ {vs : List V} {ds : List D} {i : Nat} {d : D}, DpAll K H vs ds → ds[i]? = some d → ∃ v, vs[i]? = some v ∧ Dp K H v d
  | _, _, i, v, .nil, h => by simp at h
  | _, _, 0, v, .cons h t, e => by
    simp at e
    subst e
    exact ⟨_, rfl, h⟩
  | _, _, i + 1, v, .cons h t, e => by
    obtain ⟨d, h1, h2⟩ := dpa_get' (i := i) (d := v) t (by simpa using e)
    exact ⟨d, by simpa using h1, h2⟩
theorem dpa_app : ∀ {vs ws : List V} {ds es : List D}, DpAll K H vs ds → DpAll K H ws es → DpAll K H (vs ++ ws) (ds ++ es)
  | _, _, _, _, .nil, h => h
  | _, _, _, _, .cons h t, k => .cons h (dpa_app t k)
theorem dpa_take : ∀ {vs : List V} {ds : List D} (n : Nat), DpAll K H vs ds → DpAll K H (vs.take n) (ds.take n)
  | _, _, 0, _ => by rw [List.take_zero, List.take_zero]; exact .nil
  | _, _, n + 1, .nil => .nil
  | _, _, n + 1, .cons h t => .cons h (dpa_take n t)
theorem dpa_drop : ∀ {vs : List V} {ds : List D} (n : Nat), DpAll K H vs ds → DpAll K H (vs.drop n) (ds.drop n)
  | _, _, 0, h => h
  | _, _, n + 1, .nil => .nil
  | _, _, n + 1, .cons _ t => dpa_drop n t
theorem dpa_erase : ∀ {vs : List V} {ds : List D} (n : Nat), DpAll K H vs ds → DpAll K H (vs.eraseIdx n) (ds.eraseIdx n)
  | _, _, n, .nil => .nil
  | _, _, 0, .cons _ t => t
  | _, _, n + 1, .cons h t => .cons h (dpa_erase n t)
theorem dpa_rev {vs : List V} {ds : List D} (h : DpAll K H vs ds) : DpAll K H vs.reverse ds.reverse := by
  induction vs generalizing ds with
  | nil => cases h; exact .nil
  | cons v vs ih =>
    cases h with
    | cons a t =>
      rw [List.reverse_cons, List.reverse_cons]
      exact dpa_app (ih t) (.cons a .nil)

/-! ### what holds of values, of slots -/
def VOk (K : PySem.W.Frag) (W : Wd) (F H : Hp) (v : V) : Sl → Prop
  | .un => False
  | .dat d => Dp K F v d
  | .ls ds => ∃ p vs, v = .ref p ∧ H p = some (.lst vs) ∧ F p = none ∧ ¬ W.Z p ∧ DpAll K F vs ds
  | .rf u => v = u
def SlOk (K : PySem.W.Frag) (W : Wd) (H0 : Hp) (σ : St) (F H : Hp) (i : Nat) : Sl → Prop
  | .un => True
  | .dat d => ∃ v, σ[i]? = some (some v) ∧ Dp K F v d
  | .ls ds => ∃ p vs, σ[i]? = some (some (.ref p)) ∧ H p = some (.lst vs) ∧ F p = none ∧ ¬ W.Z p ∧ H0 p = none ∧ DpAll K F vs ds
  | .rf u => σ[i]? = some (some u)
structure Holds (K : PySem.W.Frag) (W : Wd) (H0 : Hp) (σ : St) (F H : Hp) (ρ : Rho) : Prop where
  len : σ.length = ρ.length
  at_ : ∀ (i : Nat) (s : Sl), ρ[i]? = some s → SlOk K W H0 σ F H i s
  dis : ∀ (i j : Nat) (ds es : List D) (p : Addr), i ≠ j → ρ[i]? = some (.ls ds) → ρ[j]? = some (.ls es) → σ[i]? = some (some (.ref p)) → σ[j]? ≠ some (some (.ref p))
theorem SlOk.step {σ : St} {i : Nat} {s : Sl} (h : SlOk K W H0 σ F H i s) (st : Step W F H F' H') : SlOk K W H0 σ F' H' i s := by
  cases s with
  | un => trivial
  | dat d =>
    obtain ⟨v, h1, h2⟩ := h
    exact ⟨v, h1, dp_mono st.fz h2⟩
  | ls ds =>
    obtain ⟨p, vs, h1, h2, h3, h4, h5, h6⟩ := h
    exact ⟨p, vs, h1, st.kp _ _ h4 h2, st.nw p h3 (by rw [h2]; exact fun z => nomatch z), h4, h5, dpa_mono st.fz h6⟩
  | rf u => exact h
theorem Holds.step {σ : St} {ρ : Rho} (h : Holds K W H0 σ F H ρ) (st : Step W F H F' H') : Holds K W H0 σ F' H' ρ :=
  ⟨h.len, fun i s e => (h.at_ i s e).step st, h.dis⟩
theorem VOk.step {v : V} {s : Sl} (h : VOk K W F H v s) (st : Step W F H F' H') : VOk K W F' H' v s := by
  cases s with
  | un => exact h
  | dat d => exact dp_mono st.fz h
  | ls ds =>
    obtain ⟨p, vs, h1, h2, h3, h4, h6⟩ := h
    exact ⟨p, vs, h1, st.kp _ _ h4 h2, st.nw p h3 (by rw [h2]; exact fun z => nomatch z), h4, dpa_mono st.fz h6⟩
  | rf u => exact h
/-- no list of one's own is set -/
def NoLs : Sl → Prop
  | .ls _ => False
  | _ => True
theorem Holds.set {σ : St} {ρ : Rho} {i : Nat} {v : V} {s : Sl} (h : Holds K W H0 σ F H ρ) (hv : VOk K W F H v s) (hn : NoLs s) : Holds K W H0 (σ.set i (some v)) F H (ρ.set i s) := by
  have nls : ∀ (j : Nat) (ds : List D), (ρ.set i s)[j]? = some (.ls ds) → j ≠ i ∧ ρ[j]? = some (.ls ds) := fun j ds e => by
    by_cases q : j = i
    · subst q
      rw [List.getElem?_set_self' ] at e
      cases e1 : ρ[j]? with
      | none => rw [e1] at e; cases e
      | some u =>
        rw [e1] at e
        have e2 : s = .ls ds := by simpa using e
        rw [e2] at hn
        exact hn.elim
    · rw [List.getElem?_set_ne (Ne.symm q)] at e
      exact ⟨q, e⟩
  refine ⟨by rw [List.length_set, List.length_set, h.len], fun j u e => ?_, fun j k ds es p hjk e1 e2 e3 => ?_⟩
  · by_cases q : j = i
    · subst q
      have hj : j < ρ.length := by
        have := (List.getElem?_eq_some_iff.mp e).1
        rwa [List.length_set] at this
      rw [List.getElem?_set_self hj] at e
      have e' : s = u := by simpa using e
      subst e'
      have hs : (σ.set j (some v))[j]? = some (some v) := List.getElem?_set_self (by rw [h.len]; exact hj)
      cases s with
      | un => trivial
      | dat d => exact ⟨v, hs, hv⟩
      | ls ds => exact hn.elim
      | rf u => exact (show v = u from hv) ▸ hs
    · rw [List.getElem?_set_ne (Ne.symm q)] at e
      have g := h.at_ j u e
      have hs : (σ.set i (some v))[j]? = σ[j]? := List.getElem?_set_ne (Ne.symm q)
      cases u with
      | un => trivial
      | dat d => obtain ⟨w, g1, g2⟩ := g; exact ⟨w, hs.trans g1, g2⟩
      | ls ds => obtain ⟨p, vs, g1, g2⟩ := g; exact ⟨p, vs, hs.trans g1, g2⟩
      | rf u => exact hs.trans g
  · obtain ⟨a1, a2⟩ := nls j ds e1
    obtain ⟨b1, b2⟩ := nls k es e2
    rw [List.getElem?_set_ne (Ne.symm a1)] at e3
    rw [List.getElem?_set_ne (Ne.symm b1)]
    exact h.dis j k ds es p hjk a2 b2 e3
/-- a new list of one's own -/
theorem Holds.setOwn {σ : St} {ρ : Rho} {i : Nat} {p : Addr} {vs : List V} {ds : List D} (h : Holds K W H0 σ F H ρ) (hp : H p = some (.lst vs)) (hf : F p = none) (hz : ¬ W.Z p) (h0 : H0 p = none) (hd : DpAll K F vs ds)
    (hnew : ∀ (j : Nat) (es : List D), ρ[j]? = some (.ls es) → σ[j]? ≠ some (some (.ref p))) : Holds K W H0 (σ.set i (some (.ref p))) F H (ρ.set i (.ls ds)) := by
  have lsat : ∀ (j : Nat) (es : List D), (ρ.set i (.ls ds))[j]? = some (.ls es) → j ≠ i → ρ[j]? = some (.ls es) := fun j es e q => by
    rw [List.getElem?_set_ne (Ne.symm q)] at e
    exact e
  refine ⟨by rw [List.length_set, List.length_set, h.len], fun j u e => ?_, fun j k es gs q hjk e1 e2 e3 => ?_⟩
  · by_cases q : j = i
    · subst q
      have hj : j < ρ.length := by
        have := (List.getElem?_eq_some_iff.mp e).1
        rwa [List.length_set] at this
      rw [List.getElem?_set_self hj] at e
      have e' : Sl.ls ds = u := by simpa using e
      subst e'
      exact ⟨p, vs, List.getElem?_set_self (by rw [h.len]; exact hj), hp, hf, hz, h0, hd⟩
    · rw [List.getElem?_set_ne (Ne.symm q)] at e
      have g := h.at_ j u e
      have hs : (σ.set i (some (.ref p)))[j]? = σ[j]? := List.getElem?_set_ne (Ne.symm q)
      cases u with
      | un => trivial
      | dat d => obtain ⟨w, g1, g2⟩ := g; exact ⟨w, hs.trans g1, g2⟩
      | ls ds => obtain ⟨p, vs, g1, g2⟩ := g; exact ⟨p, vs, hs.trans g1, g2⟩
      | rf u => exact hs.trans g
  · have hi : ∀ (l : Nat) (ls : List D), (ρ.set i (.ls ds))[l]? = some (.ls ls) → l = i → l < σ.length := fun l ls e q => by
      have := (List.getElem?_eq_some_iff.mp e).1
      rw [List.length_set] at this
      rw [h.len]
      exact this
    by_cases qj : j = i
    · by_cases qk : k = i
      · exact absurd (qj.trans qk.symm) hjk
      · rw [List.getElem?_set_ne (Ne.symm qk)]
        rw [qj, List.getElem?_set_self (by rw [← qj]; exact hi j es e1 qj)] at e3
        have e4 : q = p := by simpa using e3.symm
        rw [e4]
        exact hnew k gs (lsat k gs e2 qk)
    · rw [List.getElem?_set_ne (Ne.symm qj)] at e3
      by_cases qk : k = i
      · rw [qk, List.getElem?_set_self (by rw [← qk]; exact hi k gs e2 qk)]
        intro z
        have e4 : p = q := by simpa using z
        exact hnew j es (lsat j es e1 qj) (e4 ▸ e3)
      · rw [List.getElem?_set_ne (Ne.symm qk)]
        exact h.dis j k es gs q hjk (lsat j es e1 qj) (lsat k gs e2 qk) e3
/-- the own list at slot i is changed -/
theorem Holds.mut {σ : St} {ρ : Rho} {i : Nat} {p : Addr} {vs : List V} {ds es : List D} (h : Holds K W H0 σ F H ρ) (hi : ρ[i]? = some (.ls ds)) (hs : σ[i]? = some (some (.ref p))) (hd : DpAll K F vs es) :
    Holds K W H0 σ F (upd H p (.lst vs)) (ρ.set i (.ls es)) := by
  have hlt : i < ρ.length := (List.getElem?_eq_some_iff.mp hi).1
  obtain ⟨p', ws, g1, g2, g3, g4, g5, g6⟩ := h.at_ i _ hi
  rw [hs] at g1
  have ep : p = p' := by simpa using g1
  subst ep
  have lsat : ∀ (j : Nat) (gs : List D), (ρ.set i (.ls es))[j]? = some (.ls gs) → ∃ gs' : List D, ρ[j]? = some (.ls gs') := fun j gs e => by
    by_cases q : j = i
    · exact ⟨ds, q ▸ hi⟩
    · rw [List.getElem?_set_ne (Ne.symm q)] at e
      exact ⟨gs, e⟩
  refine ⟨by rw [List.length_set, h.len], fun j u e => ?_, fun j k as bs q hjk e1 e2 e3 => ?_⟩
  · by_cases q : j = i
    · subst q
      rw [List.getElem?_set_self hlt] at e
      have e' : Sl.ls es = u := by simpa using e
      subst e'
      exact ⟨p, vs, hs, upd_same, g3, g4, g5, hd⟩
    · rw [List.getElem?_set_ne (Ne.symm q)] at e
      have g := h.at_ j u e
      cases u with
      | un => trivial
      | dat d => exact g
      | ls cs =>
        obtain ⟨r, xs, k1, k2, k3⟩ := g
        have hne : r ≠ p := fun z => h.dis i j _ _ p (Ne.symm q) hi e hs (z ▸ k1)
        exact ⟨r, xs, k1, (upd_ne hne).trans k2, k3⟩
      | rf u => exact g
  · obtain ⟨as', a⟩ := lsat j as e1
    obtain ⟨bs', b⟩ := lsat k bs e2
    exact h.dis j k as' bs' q hjk a b e3
end

/-! ### the judgements -/
section
variable (K : PySem.W.Frag) (W : Wd) (H0 : Hp)
def Ev (te : TE) (ρ : Rho) (P : Sl → Prop) : Prop := ∀ σ F H, Ok W F H → Holds K W H0 σ F H ρ → ∀ Q : VK,
  (∀ v F' H' s, Ok W F' H' → Step W F H F' H' → VOk K W F' H' v s → P s → Q v H') → te σ H Q
/-- a new list -/
def EvN (te : TE) (ρ : Rho) (P : List D → Prop) : Prop := ∀ σ F H, Ok W F H → Holds K W H0 σ F H ρ → ∀ Q : VK,
  (∀ p vs F' H' ds, Ok W F' H' → Step W F H F' H' → H p = none → H' p = some (.lst vs) → F' p = none → ¬ W.Z p → DpAll K F' vs ds → P ds → Q (.ref p) H') → te σ H Q
def EvT (tt : TT) (ρ : Rho) (P : Bool → Prop) : Prop := ∀ σ F H, Ok W F H → Holds K W H0 σ F H ρ → ∀ Q : Bool → Hp → Prop,
  (∀ b F' H', Ok W F' H' → Step W F H F' H' → P b → Q b H') → tt σ H Q
/-- arguments -/
def EvA (ta : TA) (ρ : Rho) (P : List Sl → Prop) : Prop := ∀ σ F H, Ok W F H → Holds K W H0 σ F H ρ → ∀ Q : List V → Hp → Prop,
  (∀ vs F' H' ss, Ok W F' H' → Step W F H F' H' → Paired (VOk K W F' H') vs ss → P ss → Q vs H') → ta σ H Q
/-- a slice's part -/
def EvO (to : TO) (ρ : Rho) (P : Option Int → Prop) : Prop := ∀ σ F H, Ok W F H → Holds K W H0 σ F H ρ → ∀ Q : Option Int → Hp → Prop,
  (∀ o F' H', Ok W F' H' → Step W F H F' H' → P o → Q o H') → to σ H Q
/-- a statement; F0, H0: the def's entry -/
structure Ends2 where
  nx : Rho → Prop
  rt : Sl → Prop
  bk : Rho → Prop := fun _ => False
  ct : Rho → Prop := fun _ => False
structure At (F0 : Hp) (σ : St) (F H : Hp) (ρ : Rho) : Prop where
  ok : Ok W F H
  st : Step W F0 H0 F H
  ho : Holds K W H0 σ F H ρ
def Sx (F0 : Hp) (ts : TS) (ρ : Rho) (N : Ends2) : Prop := ∀ σ F H, At K W H0 F0 σ F H ρ → ∀ D : Ends,
  (∀ σ' F' H' ρ', At K W H0 F0 σ' F' H' ρ' → Same F F' → N.nx ρ' → D.nx σ' H') → (∀ v F' H' s, Ok W F' H' → Step W F0 H0 F' H' → VOk K W F' H' v s → N.rt s → D.rt v H') →
  (∀ σ' F' H' ρ', At K W H0 F0 σ' F' H' ρ' → Same F F' → N.bk ρ' → D.bk σ' H') → (∀ σ' F' H' ρ', At K W H0 F0 σ' F' H' ρ' → Same F F' → N.ct ρ' → D.ct σ' H') → ts D σ H
end

section
variable {K : PySem.W.Frag} {W : Wd} {H0 : Hp} {ρ : Rho} {te ta tb tc : TE} {tt tu : TT} {P P' : Sl → Prop} {r : R2}
theorem Ev.mono (h : Ev K W H0 te ρ P) (k : ∀ s, P s → P' s) : Ev K W H0 te ρ P' := fun σ F H o ho Q q => h σ F H o ho Q fun v F' H' s o' st hv p => q v F' H' s o' st hv (k s p)
theorem ev_var {i : Nat} {d : D} (h : ρ[i]? = some (.dat d)) (p : P (.dat d)) : Ev K W H0 (tVar i) ρ P := fun σ F H o ho Q q => by
  obtain ⟨v, h1, h2⟩ := ho.at_ i _ h
  exact ⟨v, h1, q v F H (.dat d) o (Step.refl o) h2 p⟩
theorem ev_own {i : Nat} {ds : List D} (h : ρ[i]? = some (.ls ds)) (p : P (.ls ds)) : Ev K W H0 (tVar i) ρ P := fun σ F H o ho Q q => by
  obtain ⟨a, vs, h1, h2, h3, h4, h5, h6⟩ := ho.at_ i _ h
  exact ⟨.ref a, h1, q (.ref a) F H (.ls ds) o (Step.refl o) ⟨a, vs, rfl, h2, h3, h4, h6⟩ p⟩
theorem ev_ref {i : Nat} {v : V} (h : ρ[i]? = some (.rf v)) (p : P (.rf v)) : Ev K W H0 (tVar i) ρ P := fun σ F H o ho Q q =>
  ⟨v, ho.at_ i _ h, q v F H (.rf v) o (Step.refl o) rfl p⟩
theorem ev_non (p : P (.dat .none)) : Ev K W H0 (tC .non) ρ P := fun σ F H o ho Q q => q .non F H (.dat .none) o (Step.refl o) .non p
theorem ev_bl {b : Bool} (p : P (.dat (.bool b))) : Ev K W H0 (tC (.bl b)) ρ P := fun σ F H o ho Q q => q (.bl b) F H (.dat (.bool b)) o (Step.refl o) (.bl b) p
theorem ev_int {i : Int} (p : P (.dat (.int i))) : Ev K W H0 (tC (.int i)) ρ P := fun σ F H o ho Q q => q (.int i) F H (.dat (.int i)) o (Step.refl o) (.int i) p
theorem ev_str {x : Str} (p : P (.dat (.str x))) : Ev K W H0 (tC (.str x)) ρ P := fun σ F H o ho Q q => q (.str x) F H (.dat (.str x)) o (Step.refl o) (.str x) p
theorem ev_c {v : V} (p : P (.rf v)) : Ev K W H0 (tC v) ρ P := fun σ F H o ho Q q => q v F H (.rf v) o (Step.refl o) rfl p

/-- what an operation does, by data: from values that are so to a value that is so -/
def OpS (K : PySem.W.Frag) (W : Wd) (r : R2) (s t : Sl) (P : Sl → Prop) : Prop := ∀ F H x y, Ok W F H → VOk K W F H x s → VOk K W F H y t → ∀ Q : VK,
  (∀ v F' H' u, Ok W F' H' → Step W F H F' H' → VOk K W F' H' v u → P u → Q v H') → r x y H Q
theorem ev_op (h : Ev K W H0 ta ρ fun s => Ev K W H0 tb ρ fun t => OpS K W r s t P) : Ev K W H0 (tOp r ta tb) ρ P := fun σ F H o ho Q q => by
  refine h σ F H o ho _ fun v F1 H1 s o1 st1 hv h1 => ?_
  refine h1 σ F1 H1 o1 (ho.step st1) _ fun u F2 H2 t o2 st2 hu h2 => ?_
  exact h2 F2 H2 v u o2 (hv.step st2) hu Q fun w F3 H3 z o3 st3 hw p => q w F3 H3 z o3 ((st1.trans o1 st2).trans o2 st3) hw p
def UnS (K : PySem.W.Frag) (W : Wd) (r : V → Hp → VK → Prop) (s : Sl) (P : Sl → Prop) : Prop := ∀ F H x, Ok W F H → VOk K W F H x s → ∀ Q : VK,
  (∀ v F' H' u, Ok W F' H' → Step W F H F' H' → VOk K W F' H' v u → P u → Q v H') → r x H Q
theorem ev_un {r : V → Hp → VK → Prop} (h : Ev K W H0 ta ρ fun s => UnS K W r s P) : Ev K W H0 (tUn r ta) ρ P := fun σ F H o ho Q q => by
  refine h σ F H o ho _ fun v F1 H1 s o1 st1 hv h1 => ?_
  exact h1 F1 H1 v o1 hv Q fun w F3 H3 z o3 st3 hw p => q w F3 H3 z o3 (st1.trans o1 st3) hw p
/-- a call of a built-in -/
def CaS (K : PySem.W.Frag) (W : Wd) (r : List V → Hp → VK → Prop) (ss : List Sl) (P : Sl → Prop) : Prop := ∀ F H xs, Ok W F H → Paired (VOk K W F H) xs ss → ∀ Q : VK,
  (∀ v F' H' u, Ok W F' H' → Step W F H F' H' → VOk K W F' H' v u → P u → Q v H') → r xs H Q
theorem ea_nil {P : List Sl → Prop} (p : P []) : EvA K W H0 tNil ρ P := fun σ F H o ho Q q => q [] F H [] o (Step.refl o) .nil p
theorem pvok_step {F H F' H' : Hp} (st : Step W F H F' H') : ∀ {vs : List V} {ss : List Sl}, Paired (VOk K W F H) vs ss → Paired (VOk K W F' H') vs ss
  | _, _, .nil => .nil
  | _, _, .cons h t => .cons (h.step st) (pvok_step st t)
theorem ea_cons {t : TA} {P : List Sl → Prop} (h : Ev K W H0 ta ρ fun s => EvA K W H0 t ρ fun ss => P (s :: ss)) : EvA K W H0 (tCons ta t) ρ P := fun σ F H o ho Q q => by
  refine h σ F H o ho _ fun v F1 H1 s o1 st1 hv h1 => ?_
  exact h1 σ F1 H1 o1 (ho.step st1) _ fun vs F2 H2 ss o2 st2 hvs p => q (v :: vs) F2 H2 (s :: ss) o2 (st1.trans o1 st2) (.cons (hv.step st2) hvs) p
theorem ev_cb {r : List V → Hp → VK → Prop} {t : TA} (h : EvA K W H0 t ρ fun ss => CaS K W r ss P) : Ev K W H0 (tCB r t) ρ P := fun σ F H o ho Q q => by
  refine h σ F H o ho _ fun vs F1 H1 ss o1 st1 hv h1 => ?_
  exact h1 F1 H1 vs o1 hv Q fun w F3 H3 z o3 st3 hw p => q w F3 H3 z o3 (st1.trans o1 st3) hw p
/-- a method of a built-in type -/
def MtS (K : PySem.W.Frag) (W : Wd) (r : V → List V → Hp → VK → Prop) (s : Sl) (ss : List Sl) (P : Sl → Prop) : Prop := ∀ F H x xs, Ok W F H → VOk K W F H x s → Paired (VOk K W F H) xs ss → ∀ Q : VK,
  (∀ v F' H' u, Ok W F' H' → Step W F H F' H' → VOk K W F' H' v u → P u → Q v H') → r x xs H Q
def TyS (K : PySem.W.Frag) (W : Wd) (T : String) (s : Sl) : Prop := ∀ F H x, Ok W F H → VOk K W F H x s → tyV K T x H
theorem ev_bm0 {T : String} {r : V → List V → Hp → VK → Prop} (h : Ev K W H0 ta ρ fun s => TyS K W T s ∧ MtS K W r s [] P) : Ev K W H0 (tBM0 K T r ta) ρ P := fun σ F H o ho Q q => by
  refine h σ F H o ho _ fun v F1 H1 s o1 st1 hv h1 => ?_
  exact ⟨h1.1 F1 H1 v o1 hv, h1.2 F1 H1 v [] o1 hv .nil Q fun w F3 H3 z o3 st3 hw p => q w F3 H3 z o3 (st1.trans o1 st3) hw p⟩
theorem ev_bm {T : String} {r : V → List V → Hp → VK → Prop} {t : TA} (h : Ev K W H0 ta ρ fun s => TyS K W T s ∧ EvA K W H0 t ρ fun ss => MtS K W r s ss P) : Ev K W H0 (tBM K T r ta t) ρ P := fun σ F H o ho Q q => by
  refine h σ F H o ho _ fun v F1 H1 s o1 st1 hv h1 => ?_
  refine ⟨h1.1 F1 H1 v o1 hv, h1.2 σ F1 H1 o1 (ho.step st1) _ fun vs F2 H2 ss o2 st2 hvs h2 => ?_⟩
  exact h2 F2 H2 v vs o2 (hv.step st2) hvs Q fun w F3 H3 z o3 st3 hw p => q w F3 H3 z o3 ((st1.trans o1 st2).trans o2 st3) hw p
/-- a new list, frozen at once -/
theorem ev_frz (h : EvN K W H0 te ρ fun ds => P (.dat (.list ds))) : Ev K W H0 te ρ P := fun σ F H o ho Q q => by
  refine h σ F H o ho _ fun p vs F1 H1 ds o1 st1 hn hp hf hz hd hP => ?_
  have o2 := o1.freeze hp hz hf
  have s2 : Same F1 (upd F1 p (.lst vs)) := sm_new hf
  refine q (.ref p) (upd F1 p (.lst vs)) H1 (.dat (.list ds)) o2 ⟨st1.fz.trans s2, st1.kp, fun b hb hh => ?_⟩ (.lst upd_same (dpa_mono s2 hd)) hP
  have hne : b ≠ p := fun z => hh (z ▸ hn)
  rw [upd_ne hne]
  exact st1.nw b hb hh
/-- ... as a list that may be read, not frozen -/
theorem ev_lsN (h : EvN K W H0 te ρ fun ds => P (.ls ds)) : Ev K W H0 te ρ P := fun σ F H o ho Q q => by
  refine h σ F H o ho _ fun p vs F1 H1 ds o1 st1 hn hp hf hz hd hP => ?_
  exact q (.ref p) F1 H1 (.ls ds) o1 st1 ⟨p, vs, rfl, hp, hf, hz, hd⟩ hP

end
end DL

namespace DL
open PySem L2 RZ
section
variable {K : PySem.W.Frag} {W : Wd} {H0 F0 : Hp} {ρ : Rho} {te ta tb tc : TE} {tt tu : TT} {P P' : Sl → Prop} {PB : Bool → Prop} {r r' : R2}
theorem dp_bool {F : Hp} {v : V} {b : Bool} (h : Dp K F v (.bool b)) : v = .bl b := by cases h; rfl
theorem dp_int {F : Hp} {v : V} {i : Int} (h : Dp K F v (.int i)) : v = .int i := by cases h; rfl
theorem dp_str {F : Hp} {v : V} {x : Str} (h : Dp K F v (.str x)) : v = .str x := by cases h; rfl
theorem dp_non {F : Hp} {v : V} (h : Dp K F v .none) : v = .non := by cases h; rfl
theorem dp_tup {F : Hp} {v : V} {ds : List D} (h : Dp K F v (.tuple ds)) : ∃ a xs, v = .ref a ∧ F a = some (.tup xs) ∧ DpAll K F xs ds := by
  cases h with
  | tup h1 h2 => exact ⟨_, _, rfl, h1, h2⟩
theorem dp_lst {F : Hp} {v : V} {ds : List D} (h : Dp K F v (.list ds)) : ∃ a xs, v = .ref a ∧ F a = some (.lst xs) ∧ DpAll K F xs ds := by
  cases h with
  | lst h1 h2 => exact ⟨_, _, rfl, h1, h2⟩
theorem vok_bool {F H : Hp} {v : V} {b : Bool} (h : VOk K W F H v (.dat (.bool b))) : v = .bl b := dp_bool h
theorem vok_int {F H : Hp} {v : V} {i : Int} (h : VOk K W F H v (.dat (.int i))) : v = .int i := dp_int h
theorem vok_str {F H : Hp} {v : V} {x : Str} (h : VOk K W F H v (.dat (.str x))) : v = .str x := dp_str h
theorem EvT.mono {P' : Bool → Prop} (h : EvT K W H0 tt ρ PB) (k : ∀ b, PB b → P' b) : EvT K W H0 tt ρ P' := fun σ F H o ho Q q => h σ F H o ho Q fun b F' H' o' st p => q b F' H' o' st (k b p)
/-! ### tests -/
theorem et_B (h : Ev K W H0 te ρ fun s => ∃ b, s = .dat (.bool b) ∧ PB b) : EvT K W H0 (tB te) ρ PB := fun σ F H o ho Q q =>
  h σ F H o ho _ fun v F' H' s o' st hv ⟨b, e, p⟩ => by
    subst e
    exact ⟨b, vok_bool hv, q b F' H' o' st p⟩
theorem et_test (h : Ev K W H0 te ρ fun s => ∃ b, s = .dat (.bool b) ∧ PB b) : EvT K W H0 (tTest te) ρ PB := fun σ F H o ho Q q =>
  h σ F H o ho _ fun v F' H' s o' st hv ⟨b, e, p⟩ => by
    subst e
    exact ⟨b, vok_bool hv, q b F' H' o' st p⟩
theorem et_and (h : EvT K W H0 tt ρ fun c => if c = true then EvT K W H0 tu ρ PB else PB false) : EvT K W H0 (tAnd tt tu) ρ PB := fun σ F H o ho Q q =>
  h σ F H o ho _ fun c F1 H1 o1 st1 p => by
    cases c with
    | true => exact p σ F1 H1 o1 (ho.step st1) Q fun b F2 H2 o2 st2 p2 => q b F2 H2 o2 (st1.trans o1 st2) p2
    | false => exact q false F1 H1 o1 st1 p
theorem et_or (h : EvT K W H0 tt ρ fun c => if c = true then PB true else EvT K W H0 tu ρ PB) : EvT K W H0 (tOr tt tu) ρ PB := fun σ F H o ho Q q =>
  h σ F H o ho _ fun c F1 H1 o1 st1 p => by
    cases c with
    | false => exact p σ F1 H1 o1 (ho.step st1) Q fun b F2 H2 o2 st2 p2 => q b F2 H2 o2 (st1.trans o1 st2) p2
    | true => exact q true F1 H1 o1 st1 p
theorem et_not (h : EvT K W H0 tt ρ fun c => PB (!c)) : EvT K W H0 (tNot tt) ρ PB := fun σ F H o ho Q q =>
  h σ F H o ho _ fun c F1 H1 o1 st1 p => q (!c) F1 H1 o1 st1 p
theorem et_yes (p : PB true) : EvT K W H0 tYes ρ PB := fun σ F H o ho Q q => q true F H o (Step.refl o) p
theorem ev_and (h : Ev K W H0 ta ρ fun s => ∃ c, s = .dat (.bool c) ∧ if c = true then Ev K W H0 tb ρ P else P (.dat (.bool false))) : Ev K W H0 (tAndV ta tb) ρ P := fun σ F H o ho Q q =>
  h σ F H o ho _ fun v F1 H1 s o1 st1 hv ⟨c, e, p⟩ => by
    subst e
    refine ⟨c, vok_bool hv, ?_⟩
    cases c with
    | true => exact p σ F1 H1 o1 (ho.step st1) Q fun w F2 H2 s o2 st2 hw p2 => q w F2 H2 s o2 (st1.trans o1 st2) hw p2
    | false => exact q (.bl false) F1 H1 (.dat (.bool false)) o1 st1 (.bl false) p
theorem ev_or (h : Ev K W H0 ta ρ fun s => ∃ c, s = .dat (.bool c) ∧ if c = true then P (.dat (.bool true)) else Ev K W H0 tb ρ P) : Ev K W H0 (tOrV ta tb) ρ P := fun σ F H o ho Q q =>
  h σ F H o ho _ fun v F1 H1 s o1 st1 hv ⟨c, e, p⟩ => by
    subst e
    refine ⟨c, vok_bool hv, ?_⟩
    cases c with
    | false => exact p σ F1 H1 o1 (ho.step st1) Q fun w F2 H2 s o2 st2 hw p2 => q w F2 H2 s o2 (st1.trans o1 st2) hw p2
    | true => exact q (.bl true) F1 H1 (.dat (.bool true)) o1 st1 (.bl true) p
theorem ev_not (h : Ev K W H0 ta ρ fun s => ∃ c, s = .dat (.bool c) ∧ P (.dat (.bool (!c)))) : Ev K W H0 (tNotV ta) ρ P := fun σ F H o ho Q q =>
  h σ F H o ho _ fun v F1 H1 s o1 st1 hv ⟨c, e, p⟩ => by
    subst e
    exact ⟨c, vok_bool hv, q (.bl (!c)) F1 H1 (.dat (.bool (!c))) o1 st1 (.bl _) p⟩
theorem ev_if (h : EvT K W H0 tt ρ fun c => if c = true then Ev K W H0 ta ρ P else Ev K W H0 tb ρ P) : Ev K W H0 (tIf tt ta tb) ρ P := fun σ F H o ho Q q =>
  h σ F H o ho _ fun c F1 H1 o1 st1 p => by
    cases c with
    | true => exact p σ F1 H1 o1 (ho.step st1) Q fun w F2 H2 s o2 st2 hw p2 => q w F2 H2 s o2 (st1.trans o1 st2) hw p2
    | false => exact p σ F1 H1 o1 (ho.step st1) Q fun w F2 H2 s o2 st2 hw p2 => q w F2 H2 s o2 (st1.trans o1 st2) hw p2
theorem OpS.mono {s t : Sl} (h : OpS K W r s t P) (k : ∀ s, P s → P' s) : OpS K W r s t P' := fun F H x y o hx hy Q q => h F H x y o hx hy Q fun v F' H' u o' st hv p => q v F' H' u o' st hv (k u p)
/-- a < b < c -/
theorem ev_chain (h : Ev K W H0 ta ρ fun s => Ev K W H0 tb ρ fun t => OpS K W r s t fun u => ∃ c, u = .dat (.bool c) ∧ if c = true then Ev K W H0 tc ρ (fun w => OpS K W r' t w P) else P (.dat (.bool false))) : Ev K W H0 (tChain r r' ta tb tc) ρ P := fun σ F H o ho Q q => by
  refine h σ F H o ho _ fun v F1 H1 s o1 st1 hv h1 => ?_
  refine h1 σ F1 H1 o1 (ho.step st1) _ fun u F2 H2 t o2 st2 hu h2 => ?_
  refine h2 F2 H2 v u o2 (hv.step st2) hu _ fun w F3 H3 z o3 st3 hw ⟨c, e, p⟩ => ?_
  subst e
  refine ⟨c, vok_bool hw, ?_⟩
  have st13 := (st1.trans o1 st2).trans o2 st3
  cases c with
  | true =>
    refine p σ F3 H3 o3 (ho.step st13) _ fun y F4 H4 s4 o4 st4 hy h4 => ?_
    exact h4 F4 H4 u y o4 ((hu.step st3).step st4) hy Q fun w5 F5 H5 s5 o5 st5 h5 p5 => q w5 F5 H5 s5 o5 ((st13.trans o3 st4).trans o4 st5) h5 p5
  | false => exact q (.bl false) F3 H3 (.dat (.bool false)) o3 st13 (.bl false) p
/-- displays -/
def allDat : List Sl → Option (List D)
  | [] => some []
  | .dat d :: ss => (allDat ss).map (d :: ·)
  | _ :: _ => none
theorem dpa_of {F H : Hp} : ∀ {vs : List V} {ss : List Sl} {ds : List D}, Paired (VOk K W F H) vs ss → allDat ss = some ds → DpAll K F vs ds
  | _, _, ds, .nil, e => by cases e; exact .nil
  | _, _, ds, .cons (b := s) h t, e => by
    cases s with
    | dat d =>
      unfold allDat at e
      rename_i vs v ss
      cases e2 : allDat ss with
      | none => rw [e2] at e; cases e
      | some es =>
        rw [e2] at e
        cases e
        exact .cons h (dpa_of t e2)
    | un => cases e
    | ls _ => cases e
    | rf _ => cases e
theorem allDat_len : ∀ {ss : List Sl} {ds : List D}, allDat ss = some ds → ss.length = ds.length
  | [], ds, e => by cases e; rfl
  | s :: ss, ds, e => by
    cases s with
    | dat d =>
      unfold allDat at e
      cases e2 : allDat ss with
      | none => rw [e2] at e; cases e
      | some es =>
        rw [e2] at e
        cases e
        rw [List.length_cons, List.length_cons, allDat_len e2]
    | un => cases e
    | ls _ => cases e
    | rf _ => cases e
theorem ev_tup {t : TA} (h : EvA K W H0 t ρ fun ss => ∃ ds, allDat ss = some ds ∧ ds.length ≤ sizeLine ∧ P (.dat (.tuple ds))) : Ev K W H0 (tTup t) ρ P := fun σ F H o ho Q q =>
  h σ F H o ho _ fun vs F1 H1 ss o1 st1 hv ⟨ds, e, hl, p⟩ => by
    have hd := dpa_of hv e
    refine ⟨by rw [dpa_len hd]; exact hl, fun a ha => ?_⟩
    obtain ⟨o2, st2⟩ := o1.new (u := .tup vs) ha
    exact q (.ref a) _ _ (.dat (.tuple ds)) o2 (st1.trans o1 st2) (.tup upd_same (dpa_mono st2.fz hd)) p
theorem evn_lst {t : TA} {PN : List D → Prop} (h : EvA K W H0 t ρ fun ss => ∃ ds, allDat ss = some ds ∧ ds.length ≤ sizeLine ∧ PN ds) : EvN K W H0 (tLst t) ρ PN := fun σ F H o ho Q q =>
  h σ F H o ho _ fun vs F1 H1 ss o1 st1 hv ⟨ds, e, hl, p⟩ => by
    have hd := dpa_of hv e
    refine ⟨by rw [dpa_len hd]; exact hl, fun a ha => ?_⟩
    obtain ⟨o2, st2⟩ := o1.own (u := .lst vs) ha
    have hH : H a = none := by
      cases z : H a with
      | none => rfl
      | some u => exact absurd ha (st1.there o1 (by rw [z]; exact fun y => nomatch y))
    exact q a vs _ _ ds o2 (st1.trans o1 st2) hH upd_same (o1.free ha) (o1.nz ha) hd p

/-! ### statements -/
variable {N : Ends2} {t u : TS}
theorem Step.back {F H F' H' : Hp} (st : Step W F H F' H') (o : Ok W F' H') {a : Addr} (h : H' a = none) : H a = none := by
  cases z : H a with
  | none => rfl
  | some u => exact absurd h (st.there o (by rw [z]; exact fun y => nomatch y))
theorem At.step {σ : St} {F H F' H' : Hp} (a : At K W H0 F0 σ F H ρ) (o : Ok W F' H') (st : Step W F H F' H') : At K W H0 F0 σ F' H' ρ := ⟨o, a.st.trans a.ok st, a.ho.step st⟩
theorem sx_seq (h : Sx K W H0 F0 t ρ { N with nx := fun ρ' => Sx K W H0 F0 u ρ' N }) : Sx K W H0 F0 (tSeq t u) ρ N := fun σ F H a D n r b c =>
  h σ F H a { D with nx := u D } (fun σ' F' H' ρ' a' sm k => k σ' F' H' a' D (fun σ2 F2 H2 ρ2 a2 sm2 => n σ2 F2 H2 ρ2 a2 (sm.trans sm2)) r (fun σ2 F2 H2 ρ2 a2 sm2 => b σ2 F2 H2 ρ2 a2 (sm.trans sm2)) (fun σ2 F2 H2 ρ2 a2 sm2 => c σ2 F2 H2 ρ2 a2 (sm.trans sm2))) r b c
theorem sx_next (h : N.nx ρ) : Sx K W H0 F0 tNext ρ N := fun σ F H a D n r b c => n σ F H ρ a (Same.refl _) h
theorem sx_ret (h : Ev K W H0 te ρ N.rt) : Sx K W H0 F0 (tRet te) ρ N := fun σ F H a D n r b c =>
  h σ F H a.ok a.ho _ fun v F' H' s o' st hv p => r v F' H' s o' (a.st.trans a.ok st) hv p
theorem sx_retN (h : N.rt (.dat .none)) : Sx K W H0 F0 tRetN ρ N := fun σ F H a D n r b c => r .non F H (.dat .none) a.ok a.st .non h
theorem sx_if (h : EvT K W H0 tt ρ fun c => if c = true then Sx K W H0 F0 t ρ N else Sx K W H0 F0 u ρ N) : Sx K W H0 F0 (tIfS tt t u) ρ N := fun σ F H a D n r b c =>
  h σ F H a.ok a.ho _ fun k F' H' o' st p => by
    cases k with
    | true => exact p σ F' H' (a.step o' st) D (fun σ2 F2 H2 ρ2 a2 sm2 => n σ2 F2 H2 ρ2 a2 (st.fz.trans sm2)) r (fun σ2 F2 H2 ρ2 a2 sm2 => b σ2 F2 H2 ρ2 a2 (st.fz.trans sm2)) (fun σ2 F2 H2 ρ2 a2 sm2 => c σ2 F2 H2 ρ2 a2 (st.fz.trans sm2))
    | false => exact p σ F' H' (a.step o' st) D (fun σ2 F2 H2 ρ2 a2 sm2 => n σ2 F2 H2 ρ2 a2 (st.fz.trans sm2)) r (fun σ2 F2 H2 ρ2 a2 sm2 => b σ2 F2 H2 ρ2 a2 (st.fz.trans sm2)) (fun σ2 F2 H2 ρ2 a2 sm2 => c σ2 F2 H2 ρ2 a2 (st.fz.trans sm2))
theorem sx_drop (h : Ev K W H0 te ρ fun _ => N.nx ρ) : Sx K W H0 F0 (tDrop te) ρ N := fun σ F H a D n r b c =>
  h σ F H a.ok a.ho _ fun v F' H' s o' st hv p => n σ F' H' ρ (a.step o' st) st.fz p
theorem sx_brk (h : N.bk ρ) : Sx K W H0 F0 tBreak ρ N := fun σ F H a D n r b c => b σ F H ρ a (Same.refl _) h
theorem sx_cont (h : N.ct ρ) : Sx K W H0 F0 tCont ρ N := fun σ F H a D n r b c => c σ F H ρ a (Same.refl _) h
/-- targets -/
def GS (K : PySem.W.Frag) (W : Wd) (H0 F0 : Hp) (g : TG) (s : Sl) (ρ : Rho) (k : Rho → Prop) : Prop := ∀ v σ F H, At K W H0 F0 σ F H ρ → VOk K W F H v s → ∀ Q : St → Hp → Prop,
  (∀ σ' ρ', At K W H0 F0 σ' F H ρ' → k ρ' → Q σ' H) → g v σ H Q
def GSs (K : PySem.W.Frag) (W : Wd) (H0 F0 : Hp) (g : TGs) (ss : List D) (ρ : Rho) (k : Rho → Prop) : Prop := ∀ vs σ F H, At K W H0 F0 σ F H ρ → DpAll K F vs ss → ∀ Q : St → Hp → Prop,
  (∀ σ' ρ', At K W H0 F0 σ' F H ρ' → k ρ' → Q σ' H) → g vs σ H Q
theorem gs_name {i : Nat} {s : Sl} {k : Rho → Prop} (hn : NoLs s) (h : k (ρ.set i s)) : GS K W H0 F0 (gName i) s ρ k := fun v σ F H a hv Q q =>
  q (σ.set i (some v)) (ρ.set i s) ⟨a.ok, a.st, a.ho.set hv hn⟩ h
theorem gss_nil {k : Rho → Prop} (h : k ρ) : GSs K W H0 F0 gNil [] ρ k := fun vs σ F H a hv Q q => by
  cases hv
  exact ⟨rfl, q σ ρ a h⟩
theorem gss_cons {g : TG} {gs : TGs} {d : D} {ds : List D} {k : Rho → Prop} (h : GS K W H0 F0 g (.dat d) ρ fun ρ' => GSs K W H0 F0 gs ds ρ' k) : GSs K W H0 F0 (gCons g gs) (d :: ds) ρ k := fun vs σ F H a hv Q q => by
  cases hv with
  | cons h1 h2 => exact ⟨_, _, rfl, h _ σ F H a h1 _ fun σ' ρ' a' p => p _ σ' F H a' h2 Q q⟩
theorem gs_tup {n : Nat} {gs : TGs} {ds : List D} {k : Rho → Prop} (hl : ds.length = n) (h : GSs K W H0 F0 gs ds ρ k) : GS K W H0 F0 (gTup K n gs) (.dat (.tuple ds)) ρ k := fun v σ F H a hv Q q => by
  obtain ⟨p, xs, rfl, h1, h2⟩ := dp_tup hv
  exact ⟨p, xs, rfl, SqT.of (a.ok.sub _ _ h1), by rw [dpa_len h2]; exact hl, h xs σ F H a h2 Q q⟩
theorem sx_asgG {g : TG} (h : Ev K W H0 te ρ fun s => GS K W H0 F0 g s ρ N.nx) : Sx K W H0 F0 (tAsg te g) ρ N := fun σ F H a D n r b c =>
  h σ F H a.ok a.ho _ fun v F' H' s o' st hv p => p v σ F' H' (a.step o' st) hv _ fun σ' ρ' a' k => n σ' F' H' ρ' a' st.fz k
theorem sx_asg {i : Nat} (h : Ev K W H0 te ρ fun s => NoLs s ∧ N.nx (ρ.set i s)) : Sx K W H0 F0 (tAsg te (gName i)) ρ N := sx_asgG (h.mono fun s ⟨a, b⟩ => gs_name a b)
/-- x = a new list, to be changed -/
theorem sx_asgN {i : Nat} (h : EvN K W H0 te ρ fun ds => N.nx (ρ.set i (.ls ds))) : Sx K W H0 F0 (tAsg te (gName i)) ρ N := fun σ F H a D n r b c =>
  h σ F H a.ok a.ho _ fun p vs F' H' ds o' st hn hp hf hz hd k => by
    have a' := a.step o' st
    have h0 : H0 p = none := a.st.back a.ok hn
    refine n _ F' H' _ ⟨o', a'.st, a'.ho.setOwn hp hf hz h0 hd fun j es e z => ?_⟩ st.fz k
    obtain ⟨p', ws, g1, g2, _⟩ := a.ho.at_ j _ e
    rw [z] at g1
    have ep : p = p' := by simpa using g1
    rw [ep, g2] at hn
    cases hn
/-- xs.append(e), xs one's own -/
theorem sx_app {i : Nat} {ds : List D} (hi : ρ[i]? = some (.ls ds)) (hz : ds.length < sizeLine) (h : Ev K W H0 te ρ fun s => ∃ d, s = .dat d ∧ N.nx (ρ.set i (.ls (ds ++ [d])))) :
    Sx K W H0 F0 (tDrop (tBM K "list" rAppend (tVar i) (tCons te tNil))) ρ N := fun σ F H a D n r b c => by
  obtain ⟨p, vs, g1, g2, g3, g4, g5, g6⟩ := a.ho.at_ i _ hi
  refine ⟨.ref p, g1, .inl ⟨rfl, _, SqL.of g2⟩, ?_⟩
  refine h σ F H a.ok a.ho _ fun v F' H' s o' st hv ⟨d, e, k⟩ => ?_
  subst e
  have g2' := st.kp p _ g4 g2
  have g3' := st.nw p g3 (by rw [g2]; exact fun z => nomatch z)
  refine ⟨p, vs, v, rfl, rfl, g2', by rw [dpa_len g6]; exact hz, ?_⟩
  have a' := a.step o' st
  have o2 : Ok W F' (upd H' p (.lst (vs ++ [v]))) := o'.mut g2' g4 g3'
  refine n σ F' _ _ ⟨o2, ⟨a'.st.fz, fun b' u hz' e' => ?_, fun b' hf hh => ?_⟩, a'.ho.mut hi g1 (dpa_app (dpa_mono st.fz g6) (.cons hv .nil))⟩ st.fz k
  · have q : b' ≠ p := fun z => by rw [z, g5] at e'; cases e'
    rw [upd_ne q]
    exact a'.st.kp b' u hz' e'
  · exact a'.st.nw b' hf hh
/-- an own list is changed no more -/
theorem sx_frz {i : Nat} {ds : List D} (hi : ρ[i]? = some (.ls ds)) (h : Sx K W H0 F0 t (ρ.set i (.dat (.list ds))) N) : Sx K W H0 F0 t ρ N := fun σ F H a D n r b c => by
  obtain ⟨p, vs, g1, g2, g3, g4, g5, g6⟩ := a.ho.at_ i _ hi
  have o2 := a.ok.freeze g2 g4 g3
  have s2 : Same F (upd F p (.lst vs)) := sm_new g3
  have st2 : Step W F0 H0 (upd F p (.lst vs)) H := ⟨a.st.fz.trans s2, a.st.kp, fun b' hf hh => by
    have q : b' ≠ p := fun z => hh (z ▸ g5)
    rw [upd_ne q]
    exact a.st.nw b' hf hh⟩
  refine h σ _ H ⟨o2, st2, ?_⟩ D (fun σ2 F2 H2 ρ2 a2 sm2 => n σ2 F2 H2 ρ2 a2 (s2.trans sm2)) r (fun σ2 F2 H2 ρ2 a2 sm2 => b σ2 F2 H2 ρ2 a2 (s2.trans sm2)) (fun σ2 F2 H2 ρ2 a2 sm2 => c σ2 F2 H2 ρ2 a2 (s2.trans sm2))
  have hlt : i < ρ.length := (List.getElem?_eq_some_iff.mp hi).1
  refine ⟨by rw [List.length_set, a.ho.len], fun j s e => ?_, fun j k es gs q hjk e1 e2 e3 => ?_⟩
  · by_cases q : j = i
    · subst q
      rw [List.getElem?_set_self hlt] at e
      have e' : Sl.dat (.list ds) = s := by simpa using e
      subst e'
      exact ⟨.ref p, g1, .lst upd_same (dpa_mono s2 g6)⟩
    · rw [List.getElem?_set_ne (Ne.symm q)] at e
      have g := a.ho.at_ j s e
      cases s with
      | un => trivial
      | dat d =>
        obtain ⟨v, k1, k2⟩ := g
        exact ⟨v, k1, dp_mono s2 k2⟩
      | ls cs =>
        obtain ⟨r', xs, k1, k2, k3, k4, k5, k6⟩ := g
        have hne : r' ≠ p := fun z => a.ho.dis i j _ _ p (Ne.symm q) hi e g1 (z ▸ k1)
        exact ⟨r', xs, k1, k2, by rw [upd_ne hne]; exact k3, k4, k5, dpa_mono s2 k6⟩
      | rf v => exact g
  · have qj : j ≠ i := fun z => by
      rw [z, List.getElem?_set_self hlt] at e1
      cases e1
    have qk : k ≠ i := fun z => by
      rw [z, List.getElem?_set_self hlt] at e2
      cases e2
    rw [List.getElem?_set_ne (Ne.symm qj)] at e1
    rw [List.getElem?_set_ne (Ne.symm qk)] at e2
    exact a.ho.dis j k es gs q hjk e1 e2 e3
theorem Sx.mono {N' : Ends2} (h : Sx K W H0 F0 t ρ N) (hn : ∀ ρ', N.nx ρ' → N'.nx ρ') (hr : ∀ s, N.rt s → N'.rt s) (hb : ∀ ρ', N.bk ρ' → N'.bk ρ') (hc : ∀ ρ', N.ct ρ' → N'.ct ρ') : Sx K W H0 F0 t ρ N' := fun σ F H a D n r b c =>
  h σ F H a D (fun σ' F' H' ρ' a' sm k => n σ' F' H' ρ' a' sm (hn _ k)) (fun v F' H' s o st hv k => r v F' H' s o st hv (hr _ k)) (fun σ' F' H' ρ' a' sm k => b σ' F' H' ρ' a' sm (hb _ k)) (fun σ' F' H' ρ' a' sm k => c σ' F' H' ρ' a' sm (hc _ k))

/-! ### what is walked -/
/-- the items of a walk, by data -/
structure Items (K : PySem.W.Frag) (W : Wd) (J : It) (F H : Hp) (ds : List D) : Prop where
  w : ∃ (G : Hp → Prop) (Y : Nat → Hp → V → Hp → Prop), Walk J ds.length G Y ∧ (∀ F' H', Ok W F' H' → Same F F' → G H') ∧
    (∀ i x F' H' H'', i < ds.length → Ok W F' H' → Same F F' → Y i H' x H'' → ∃ F'' d, Ok W F'' H'' ∧ Step W F' H' F'' H'' ∧ ds[i]? = some d ∧ Dp K F'' x d)
def EvI (K : PySem.W.Frag) (W : Wd) (H0 : Hp) (wi : TI) (ρ : Rho) (P : List D → Prop) : Prop := ∀ σ F H, Ok W F H → Holds K W H0 σ F H ρ → ∀ R : It → Hp → Prop,
  (∀ J F' H' ds, Ok W F' H' → Step W F H F' H' → Items K W J F' H' ds → P ds → R J H') → wi σ H R
theorem get_len {α : Type} {l : List α} {i : Nat} (h : i < l.length) : l[i]? = some l[i] := List.getElem?_eq_getElem h
theorem evi_list {tl : TE} {PN : List D → Prop} (h : Ev K W H0 tl ρ fun s => ∃ ds, s = .dat (.list ds) ∧ PN ds) : EvI K W H0 (iList K tl) ρ PN := fun σ F H o ho R q =>
  h σ F H o ho _ fun v F' H' s o' st hv ⟨ds, e, p⟩ => by
    subst e
    obtain ⟨a, xs, rfl, h1, h2⟩ := dp_lst hv
    refine ⟨a, rfl, ⟨xs, SqL.of (o'.sub _ _ h1)⟩, q _ F' H' ds o' st ⟨_, _, (dpa_len h2) ▸ walk_list (K := K) (a := a) (xs := xs), fun F2 H2 o2 st2 => SqL.of ((st2.trans o2.sub) _ _ h1), fun i x F2 H2 H3 hi o2 st2 y => ?_⟩ p⟩
    obtain ⟨rfl, hx⟩ := y
    obtain ⟨d, e1, e2⟩ := dpa_get h2 hx
    exact ⟨F2, d, o2, Step.refl o2, e1, dp_mono st2 e2⟩
theorem evi_tup {tl : TE} {PN : List D → Prop} (h : Ev K W H0 tl ρ fun s => ∃ ds, s = .dat (.tuple ds) ∧ PN ds) : EvI K W H0 (iTup K tl) ρ PN := fun σ F H o ho R q =>
  h σ F H o ho _ fun v F' H' s o' st hv ⟨ds, e, p⟩ => by
    subst e
    obtain ⟨a, xs, rfl, h1, h2⟩ := dp_tup hv
    refine ⟨a, rfl, ⟨xs, SqT.of (o'.sub _ _ h1)⟩, q _ F' H' ds o' st ⟨_, _, (dpa_len h2) ▸ walk_tup (K := K) (a := a) (xs := xs), fun F2 H2 o2 st2 => SqT.of ((st2.trans o2.sub) _ _ h1), fun i x F2 H2 H3 hi o2 st2 y => ?_⟩ p⟩
    obtain ⟨rfl, hx⟩ := y
    obtain ⟨d, e1, e2⟩ := dpa_get h2 hx
    exact ⟨F2, d, o2, Step.refl o2, e1, dp_mono st2 e2⟩
def rngD (lo : Int) (n : Nat) : List D := (List.range n).map fun i => .int (lo + (i : Nat))
theorem rngD_len (lo : Int) (n : Nat) : (rngD lo n).length = n := by simp [rngD]
theorem rngD_get {lo : Int} {n i : Nat} (h : i < n) : (rngD lo n)[i]? = some (.int (lo + (i : Nat))) := by simp [rngD, h]
def strD (z : Str) : List D := z.cps.toList.map fun c => .str ⟨#[c]⟩
theorem evi_str {te : TE} {PN : List D → Prop} (h : Ev K W H0 te ρ fun s => ∃ z, s = .dat (.str z) ∧ PN (strD z)) : EvI K W H0 (iStr te) ρ PN := fun σ F H o ho R q =>
  h σ F H o ho _ fun v F' H' s o' st hv ⟨z, e, p⟩ => by
    subst e
    have hl : (strD z).length = z.cps.size := by simp [strD]
    refine ⟨z, vok_str hv, q _ F' H' (strD z) o' st ⟨_, _, hl.symm ▸ walk_str (z := z), fun _ _ _ _ => trivial, fun i x F2 H2 H3 hi o2 st2 y => ?_⟩ p⟩
    obtain ⟨rfl, c, hc, rfl⟩ := y
    refine ⟨F2, .str ⟨#[c]⟩, o2, Step.refl o2, ?_, .str _⟩
    rw [hl] at hi
    simp [strD]
    rw [Array.getElem?_eq_getElem hi] at hc
    simpa [hi] using hc
theorem evi_rng1 {ta : TA} {PN : List D → Prop} (h : EvA K W H0 ta ρ fun ss => ∃ n : Int, ss = [.dat (.int n)] ∧ -(2 ^ 62) ≤ n ∧ n < 2 ^ 62 ∧ PN (rngD 0 n.toNat)) : EvI K W H0 (iRng1 ta) ρ PN := fun σ F H o ho R q =>
  h σ F H o ho _ fun vs F' H' ss o' st hv ⟨n, e, b1, b2, p⟩ => by
    subst e
    cases hv with
    | cons h1 h2 =>
      cases h2
      rw [vok_int h1]
      refine ⟨n, rfl, b1, b2, q _ F' H' (rngD 0 n.toNat) o' st ⟨_, _, (by rw [rngD_len]; exact walk_range (lo := 0)), fun _ _ _ _ => trivial, fun i x F2 H2 H3 hi o2 st2 y => ?_⟩ p⟩
      rw [rngD_len] at hi
      obtain ⟨rfl, rfl⟩ := y
      exact ⟨F2, _, o2, Step.refl o2, rngD_get hi, .int _⟩
theorem evi_rng2 {ta : TA} {PN : List D → Prop} (h : EvA K W H0 ta ρ fun ss => ∃ m n : Int, ss = [.dat (.int m), .dat (.int n)] ∧ (-(2 ^ 62) ≤ m ∧ m < 2 ^ 62 ∧ -(2 ^ 62) ≤ n ∧ n < 2 ^ 62) ∧ PN (rngD m (n - m).toNat)) : EvI K W H0 (iRng2 ta) ρ PN := fun σ F H o ho R q =>
  h σ F H o ho _ fun vs F' H' ss o' st hv ⟨m, n, e, b, p⟩ => by
    subst e
    cases hv with
    | cons h1 h2 =>
      cases h2 with
      | cons h3 h4 =>
        cases h4
        rw [vok_int h1, vok_int h3]
        refine ⟨m, n, rfl, b, q _ F' H' (rngD m (n - m).toNat) o' st ⟨_, _, (by rw [rngD_len]; exact walk_range (lo := m)), fun _ _ _ _ => trivial, fun i x F2 H2 H3 hi o2 st2 y => ?_⟩ p⟩
        rw [rngD_len] at hi
        obtain ⟨rfl, rfl⟩ := y
        exact ⟨F2, _, o2, Step.refl o2, rngD_get hi, .int _⟩
def zipD (xs ys : List D) : List D := (xs.zip ys).map fun p => .tuple [p.1, p.2]
theorem zipD_len (xs ys : List D) : (zipD xs ys).length = min xs.length ys.length := by simp [zipD]
theorem zipD_get {xs ys : List D} {i : Nat} {x y : D} (hx : xs[i]? = some x) (hy : ys[i]? = some y) : (zipD xs ys)[i]? = some (.tuple [x, y]) := by
  unfold zipD
  have q : (xs.zip ys)[i]? = some (x, y) := List.getElem?_zip_eq_some.mpr ⟨hx, hy⟩
  rw [List.getElem?_map, q]
  rfl
theorem walk_zipT {a b : Addr} {xs ys : List V} {n : Nat} (hn : n = min xs.length ys.length) : Walk (ItzT K a b) n (fun H => SqT K H a xs ∧ SqT K H b ys) (YPair (fun i => xs[i]?) (fun i => ys[i]?)) := by
  subst hn
  refine ⟨fun i _ hi q => ?_, fun _ q => ⟨xs, ys, q.1, q.2, by omega⟩, fun i H v H' _ q y => ?_⟩
  · have h1 : i < xs.length := by omega
    have h2 : i < ys.length := by omega
    exact ⟨xs, ys, xs[i], ys[i], q.1, q.2, by simp [h1], by simp [h2]⟩
  · obtain ⟨T, x, z, h1, h2, h3, h4, h5⟩ := y
    exact ⟨T, x, z, h1, h2, h3, h4 xs q.1, h5 ys q.2⟩
theorem pair_yield {xs ys : List V} {ds es : List D} {F2 F H2 H3 : Hp} {x : V} {i : Nat} (hx : DpAll K F xs ds) (hy : DpAll K F ys es) (s : Same F F2) (o2 : Ok W F2 H2) (y : YPair (fun i => xs[i]?) (fun i => ys[i]?) i H2 x H3) :
    ∃ F'' d, Ok W F'' H3 ∧ Step W F2 H2 F'' H3 ∧ (zipD ds es)[i]? = some d ∧ Dp K F'' x d := by
  obtain ⟨T, u, w, rfl, hT, rfl, hu, hw⟩ := y
  obtain ⟨d, e1, e2⟩ := dpa_get hx hu
  obtain ⟨e, e3, e4⟩ := dpa_get hy hw
  obtain ⟨o3, st3⟩ := o2.new (u := .tup [u, w]) hT
  exact ⟨_, .tuple [d, e], o3, st3, zipD_get e1 e3, .tup upd_same (.cons (dp_mono (s.trans st3.fz) e2) (.cons (dp_mono (s.trans st3.fz) e4) .nil))⟩
theorem evi_zip {ta : TA} {PN : List D → Prop} (h : EvA K W H0 ta ρ fun ss => ∃ ds es, (ss = [.dat (.list ds), .dat (.list es)] ∨ ss = [.dat (.tuple ds), .dat (.tuple es)]) ∧ PN (zipD ds es)) : EvI K W H0 (iZipA K ta) ρ PN := fun σ F H o ho R q =>
  h σ F H o ho _ fun vs F' H' ss o' st hv ⟨ds, es, e, p⟩ => by
    rcases e with e | e
    · subst e
      cases hv with
      | cons h1 h2 =>
        cases h2 with
        | cons h3 h4 =>
          cases h4
          obtain ⟨a, xs, rfl, a1, a2⟩ := dp_lst h1
          obtain ⟨b, ys, rfl, b1, b2⟩ := dp_lst h3
          refine ⟨a, b, xs, ys, rfl, .inl ⟨SqL.of (o'.sub _ _ a1), SqL.of (o'.sub _ _ b1), q _ F' H' _ o' st ⟨_, _, walk_zip (K := K) (a := a) (b := b) (xs := xs) (ys := ys) (by rw [zipD_len, dpa_len a2, dpa_len b2]), fun F2 H2 o2 st2 => ⟨SqL.of ((st2.trans o2.sub) _ _ a1), SqL.of ((st2.trans o2.sub) _ _ b1)⟩, fun i x F2 H2 H3 hi o2 st2 y => pair_yield a2 b2 st2 o2 y⟩ p⟩⟩
    · subst e
      cases hv with
      | cons h1 h2 =>
        cases h2 with
        | cons h3 h4 =>
          cases h4
          obtain ⟨a, xs, rfl, a1, a2⟩ := dp_tup h1
          obtain ⟨b, ys, rfl, b1, b2⟩ := dp_tup h3
          refine ⟨a, b, xs, ys, rfl, .inr ⟨SqT.of (o'.sub _ _ a1), SqT.of (o'.sub _ _ b1), q _ F' H' _ o' st ⟨_, _, walk_zipT (K := K) (a := a) (b := b) (xs := xs) (ys := ys) (by rw [zipD_len, dpa_len a2, dpa_len b2]), fun F2 H2 o2 st2 => ⟨SqT.of ((st2.trans o2.sub) _ _ a1), SqT.of ((st2.trans o2.sub) _ _ b1)⟩, fun i x F2 H2 H3 hi o2 st2 y => pair_yield a2 b2 st2 o2 y⟩ p⟩⟩

/-! ### for -/
theorem sx_for {wi : TI} {g : TG} {tb : TS} (J : List D → Nat → Rho → Prop)
    (h : EvI K W H0 wi ρ fun ds => J ds 0 ρ ∧ (∀ i d ρ', ds[i]? = some d → J ds i ρ' → GS K W H0 F0 g (.dat d) ρ' fun ρ2 => Sx K W H0 F0 tb ρ2 { nx := J ds (i + 1), ct := J ds (i + 1), bk := N.nx, rt := N.rt }) ∧ ∀ ρ', J ds ds.length ρ' → N.nx ρ') :
    Sx K W H0 F0 (tFor wi g tb) ρ N := fun σ F H a D n r b c =>
  h σ F H a.ok a.ho _ fun Jt F' H' ds o' st it ⟨j0, js, jd⟩ => by
    obtain ⟨G, Y, w, hG, hY⟩ := it.w
    have a' := a.step o' st
    refine for_it w (fun i σ2 H2 => ∃ F2 ρ2, At K W H0 F0 σ2 F2 H2 ρ2 ∧ Same F' F2 ∧ J ds i ρ2) ⟨F', ρ, a', Same.refl _, j0⟩ (fun i σ2 H2 _ ⟨F2, ρ2, a2, sm, _⟩ => hG F2 H2 a2.ok sm) ?_ (fun σ2 H2 ⟨F2, ρ2, a2, sm, j⟩ => n σ2 F2 H2 ρ2 a2 (st.fz.trans sm) (jd ρ2 j))
    rintro i x σ2 H2 H3 hi ⟨F2, ρ2, a2, sm, j⟩ y
    obtain ⟨F3, d, o3, st3, e1, e2⟩ := hY i x F2 H2 H3 hi a2.ok sm y
    have a3 := a2.step o3 st3
    refine js i d ρ2 e1 j x σ2 F3 H3 a3 e2 _ fun σ3 ρ3 a4 k => ?_
    have sm3 : Same F' F3 := sm.trans st3.fz
    exact k σ3 F3 H3 a4 _ (fun σ4 F4 H4 ρ4 a5 s5 j5 => ⟨F4, ρ4, a5, sm3.trans s5, j5⟩) r (fun σ4 F4 H4 ρ4 a5 s5 j5 => n σ4 F4 H4 ρ4 a5 (st.fz.trans (sm3.trans s5)) j5) (fun σ4 F4 H4 ρ4 a5 s5 j5 => ⟨F4, ρ4, a5, sm3.trans s5, j5⟩)
end
end DL

namespace DL
open PySem L2 RZ
section
variable {K : PySem.W.Frag} {W : Wd} {H0 F0 : Hp} {ρ : Rho} {te ta tb tc : TE} {tt tu : TT} {P P' : Sl → Prop} {PN : List D → Prop}
/-! ### comprehensions -/
def wipeR (ρ : Rho) : List Nat → Rho
  | [] => ρ
  | v :: vs => (wipeR ρ vs).set v .un
theorem Holds.un {σ : St} {F H : Hp} {i : Nat} (h : Holds K W H0 σ F H ρ) : Holds K W H0 (σ.set i none) F H (ρ.set i .un) := by
  have nls : ∀ (j : Nat) (ds : List D), (ρ.set i .un)[j]? = some (.ls ds) → j ≠ i ∧ ρ[j]? = some (.ls ds) := fun j ds e => by
    by_cases q : j = i
    · subst q
      have hj : j < ρ.length := by
        have := (List.getElem?_eq_some_iff.mp e).1
        rwa [List.length_set] at this
      rw [List.getElem?_set_self hj] at e
      cases e
    · rw [List.getElem?_set_ne (Ne.symm q)] at e
      exact ⟨q, e⟩
  refine ⟨by rw [List.length_set, List.length_set, h.len], fun j u e => ?_, fun j k ds es p hjk e1 e2 e3 => ?_⟩
  · by_cases q : j = i
    · subst q
      have hj : j < ρ.length := by
        have := (List.getElem?_eq_some_iff.mp e).1
        rwa [List.length_set] at this
      rw [List.getElem?_set_self hj] at e
      cases e
      trivial
    · rw [List.getElem?_set_ne (Ne.symm q)] at e
      have g := h.at_ j u e
      have hs : (σ.set i none)[j]? = σ[j]? := List.getElem?_set_ne (Ne.symm q)
      cases u with
      | un => trivial
      | dat d => obtain ⟨w, g1, g2⟩ := g; exact ⟨w, hs.trans g1, g2⟩
      | ls ds => obtain ⟨p, vs, g1, g2⟩ := g; exact ⟨p, vs, hs.trans g1, g2⟩
      | rf u => exact hs.trans g
  · obtain ⟨a1, a2⟩ := nls j ds e1
    obtain ⟨b1, b2⟩ := nls k es e2
    rw [List.getElem?_set_ne (Ne.symm a1)] at e3
    rw [List.getElem?_set_ne (Ne.symm b1)]
    exact h.dis j k ds es p hjk a2 b2 e3
theorem Holds.wipe {σ : St} {F H : Hp} (h : Holds K W H0 σ F H ρ) : ∀ vs : List Nat, Holds K W H0 (wipe σ vs) F H (wipeR ρ vs)
  | [] => h
  | _ :: vs => (Holds.wipe h vs).un
theorem wipe_set {σ : St} {i : Nat} {x : Option V} : ∀ {vs : List Nat}, i ∈ vs → wipe (σ.set i x) vs = wipe σ vs
  | v :: vs, h => by
    by_cases q : i = v
    · subst q
      by_cases m : i ∈ vs
      · show (wipe (σ.set i x) vs).set i none = (wipe σ vs).set i none
        rw [wipe_set m]
      · have go : ∀ (us : List Nat), i ∉ us → wipe (σ.set i x) us = (wipe σ us).set i x := by
          intro us
          induction us with
          | nil => intro _; rfl
          | cons u us ih =>
            intro hm
            have h1 : i ≠ u := fun z => hm (z ▸ List.mem_cons_self)
            have h2 : i ∉ us := fun z => hm (List.mem_cons_of_mem _ z)
            show (wipe (σ.set i x) us).set u none = ((wipe σ us).set u none).set i x
            rw [ih h2, List.set_comm _ _ h1]
        show (wipe (σ.set i x) vs).set i none = (wipe σ vs).set i none
        rw [go vs m, List.set_set]
    · have m : i ∈ vs := by
        rcases List.mem_cons.mp h with e | e
        · exact absurd e q
        · exact e
      show (wipe (σ.set i x) vs).set v none = (wipe σ vs).set v none
      rw [wipe_set m]
theorem wipe_idem {σ : St} : ∀ {vs us : List Nat}, (∀ i ∈ us, i ∈ vs) → wipe (wipe σ us) vs = wipe σ vs
  | vs, [], _ => rfl
  | vs, u :: us, h => by
    show wipe ((wipe σ us).set u none) vs = wipe σ vs
    rw [wipe_set (h u List.mem_cons_self)]
    exact wipe_idem fun i hi => h i (List.mem_cons_of_mem _ hi)
/-- a comprehension's target -/
def GC (K : PySem.W.Frag) (W : Wd) (H0 : Hp) (vs : List Nat) (g : TG) (s : Sl) (ρ : Rho) (k : Rho → Prop) : Prop := ∀ v σ F H, Ok W F H → Holds K W H0 σ F H ρ → VOk K W F H v s → ∀ Q : St → Hp → Prop,
  (∀ σ' ρ', Holds K W H0 σ' F H ρ' → wipe σ' vs = wipe σ vs → k ρ' → Q σ' H) → g v σ H Q
def GCs (K : PySem.W.Frag) (W : Wd) (H0 : Hp) (vs : List Nat) (g : TGs) (ss : List D) (ρ : Rho) (k : Rho → Prop) : Prop := ∀ ws σ F H, Ok W F H → Holds K W H0 σ F H ρ → DpAll K F ws ss → ∀ Q : St → Hp → Prop,
  (∀ σ' ρ', Holds K W H0 σ' F H ρ' → wipe σ' vs = wipe σ vs → k ρ' → Q σ' H) → g ws σ H Q
theorem gc_name {vs : List Nat} {i : Nat} {s : Sl} {k : Rho → Prop} (hi : i ∈ vs) (hn : NoLs s) (h : k (ρ.set i s)) : GC K W H0 vs (gName i) s ρ k := fun v σ F H o ho hv Q q =>
  q (σ.set i (some v)) (ρ.set i s) (ho.set hv hn) (wipe_set hi) h
theorem gcs_nil {vs : List Nat} {k : Rho → Prop} (h : k ρ) : GCs K W H0 vs gNil [] ρ k := fun ws σ F H o ho hv Q q => by
  cases hv
  exact ⟨rfl, q σ ρ ho rfl h⟩
theorem gcs_cons {vs : List Nat} {g : TG} {gs : TGs} {d : D} {ds : List D} {k : Rho → Prop} (h : GC K W H0 vs g (.dat d) ρ fun ρ' => GCs K W H0 vs gs ds ρ' k) : GCs K W H0 vs (gCons g gs) (d :: ds) ρ k := fun ws σ F H o ho hv Q q => by
  cases hv with
  | cons h1 h2 => exact ⟨_, _, rfl, h _ σ F H o ho h1 _ fun σ' ρ' ho' e p => p _ σ' F H o ho' h2 Q fun σ2 ρ2 ho2 e2 p2 => q σ2 ρ2 ho2 (e2.trans e) p2⟩
theorem gc_tup {vs : List Nat} {n : Nat} {gs : TGs} {ds : List D} {k : Rho → Prop} (hl : ds.length = n) (h : GCs K W H0 vs gs ds ρ k) : GC K W H0 vs (gTup K n gs) (.dat (.tuple ds)) ρ k := fun v σ F H o ho hv Q q => by
  obtain ⟨p, xs, rfl, h1, h2⟩ := dp_tup hv
  exact ⟨p, xs, rfl, SqT.of (o.sub _ _ h1), by rw [dpa_len h2]; exact hl, h xs σ F H o ho h2 Q q⟩
theorem evn_lc {wi : TI} {g : TG} {vs : List Nat} (J : List D → Nat → List D → Prop)
    (h : EvI K W H0 wi ρ fun ds => ds.length < sizeLine ∧ J ds 0 [] ∧ (∀ i d acc, ds[i]? = some d → J ds i acc → GC K W H0 vs g (.dat d) (wipeR ρ vs) fun ρ2 => EvT K W H0 tt ρ2 fun b =>
      if b = true then Ev K W H0 te ρ2 fun s => ∃ e, s = .dat e ∧ J ds (i + 1) (acc ++ [e]) else J ds (i + 1) acc) ∧ ∀ acc, J ds ds.length acc → PN acc) :
    EvN K W H0 (tLc wi g tt te vs) ρ PN := fun σ F H o ho Q q =>
  h σ F H o ho _ fun Jt F' H' ds o' st it ⟨hl, j0, js, jd⟩ => by
    obtain ⟨G, Y, w, hG, hY⟩ := it.w
    intro Da hD
    obtain ⟨oD, stD⟩ := o'.own (u := .lst []) hD
    have nz : ¬ W.Z Da := o'.nz hD
    have hw := (ho.step st).wipe vs
    have chg : ∀ {F2 H2 : Hp} {vs2 ws : List V}, Ok W F2 H2 → Step W F' H' F2 H2 → H2 Da = some (.lst vs2) → F2 Da = none → Ok W F2 (upd H2 Da (.lst ws)) ∧ Step W F' H' F2 (upd H2 Da (.lst ws)) := fun {F2 H2 vs2 ws} o2 st2 hA hF =>
      ⟨o2.mut hA nz hF, st2.fz, fun b u hz e => by
        have q : b ≠ Da := fun z => by rw [z, hD] at e; cases e
        rw [upd_ne q]
        exact st2.kp b u hz e, st2.nw⟩
    refine lc_it w (fun i H2 => ∃ F2 vs2 acc, Ok W F2 H2 ∧ Step W F' H' F2 H2 ∧ H2 Da = some (.lst vs2) ∧ F2 Da = none ∧ DpAll K F2 vs2 acc ∧ acc.length ≤ i ∧ J ds i acc) ?_ ?_ ?_ ?_
    · exact ⟨F', [], [], oD, stD, upd_same, o'.free hD, .nil, Nat.le_refl _, j0⟩
    · rintro i H2 _ ⟨F2, vs2, acc, o2, st2, _⟩
      exact hG F2 H2 o2 st2.fz
    · rintro i x H2 H3 hi ⟨F2, vs2, acc, o2, st2, hA, hF, hd, ha, j⟩ y
      obtain ⟨F3, d, o3, st3, e1, e2⟩ := hY i x F2 H2 H3 hi o2 st2.fz y
      have st3' := st2.trans o2 st3
      have hs := js i d acc e1 j
      refine hs x (wipe σ vs) F3 H3 o3 (hw.step st3') e2 _ fun σ4 ρ4 h4 ew k => ?_
      refine ⟨ew.trans (wipe_idem fun _ z => z), ?_⟩
      refine k σ4 F3 H3 o3 h4 _ fun b F5 H5 o5 st5 kb => ?_
      have hA5 := st5.kp _ _ nz (st3.kp _ _ nz hA)
      have hF5 := st5.nw Da (st3.nw Da hF (by rw [hA]; exact fun z => nomatch z)) (by rw [st3.kp _ _ nz hA]; exact fun z => nomatch z)
      have st5' := st3'.trans o3 st5
      have hd5 := dpa_mono st5.fz (dpa_mono st3.fz hd)
      cases b with
      | false => exact ⟨F5, vs2, acc, o5, st5', hA5, hF5, hd5, Nat.le_succ_of_le ha, kb⟩
      | true =>
        refine kb σ4 F5 H5 o5 (h4.step st5) _ fun v F6 H6 s o6 st6 hv ⟨e, es, je⟩ => ?_
        subst es
        have hA6 := st6.kp _ _ nz hA5
        have hF6 := st6.nw Da hF5 (by rw [hA5]; exact fun z => nomatch z)
        obtain ⟨o7, st7⟩ := chg (ws := vs2 ++ [v]) o6 (st5'.trans o5 st6) hA6 hF6
        refine ⟨vs2, hA6, by rw [dpa_len hd5]; omega, F6, vs2 ++ [v], acc ++ [e], o7, st7, upd_same, hF6, dpa_app (dpa_mono st6.fz hd5) (.cons hv .nil), by rw [List.length_append, List.length_singleton]; omega, je⟩
    · rintro H2 ⟨F2, vs2, acc, o2, st2, hA, hF, hd, ha, j⟩
      exact q Da vs2 F2 H2 acc o2 (st.trans o' st2) (st.back o' hD) hA hF nz hd (jd acc j)
/-- .. by a function of the item -/
theorem evn_map {wi : TI} {g : TG} {vs : List Nat} (f : D → Bool) (v : D → D)
    (h : EvI K W H0 wi ρ fun ds => ds.length < sizeLine ∧ (∀ d, d ∈ ds → GC K W H0 vs g (.dat d) (wipeR ρ vs) fun ρ2 => EvT K W H0 tt ρ2 fun b => b = f d ∧ (b = true → Ev K W H0 te ρ2 fun s => s = .dat (v d))) ∧ PN ((ds.filter f).map v)) :
    EvN K W H0 (tLc wi g tt te vs) ρ PN := by
  refine evn_lc (fun ds i acc => acc = ((ds.take i).filter f).map v) (fun σ F H o ho R q => h σ F H o ho R fun J F' H' ds o' st it ⟨hl, hs, p⟩ => q J F' H' ds o' st it ⟨hl, by simp, fun i d acc e ha => ?_, fun acc ha => by rw [ha, List.take_length]; exact p⟩)
  have hm : d ∈ ds := List.mem_of_getElem? e
  have et : ds.take (i + 1) = ds.take i ++ [d] := by rw [List.take_add_one, e]; rfl
  refine fun x σ F H o ho hv Q q => hs d hm x σ F H o ho hv Q fun σ' ρ' ho' ew k => q σ' ρ' ho' ew (k.mono fun b ⟨eb, hb⟩ => ?_)
  cases b with
  | true => exact (hb rfl).mono fun s es => ⟨v d, es, by rw [ha, et, List.filter_append, List.map_append, List.filter_cons, ← eb]; rfl⟩
  | false =>
    show acc = _
    rw [ha, et, List.filter_append, List.map_append, List.filter_cons, ← eb]
    simp
theorem filt_true {α : Type} (l : List α) : l.filter (fun _ => true) = l := by
  induction l with
  | nil => rfl
  | cons a l ih => rw [List.filter_cons, if_pos rfl, ih]
/-- .. without a test -/
theorem evn_mapT {wi : TI} {g : TG} {vs : List Nat} (v : D → D)
    (h : EvI K W H0 wi ρ fun ds => ds.length < sizeLine ∧ (∀ d, d ∈ ds → GC K W H0 vs g (.dat d) (wipeR ρ vs) fun ρ2 => Ev K W H0 te ρ2 fun s => s = .dat (v d)) ∧ PN (ds.map v)) :
    EvN K W H0 (tLc wi g tYes te vs) ρ PN := by
  refine evn_map (fun _ => true) v (fun σ F H o ho R q => h σ F H o ho R fun J F' H' ds o' st it ⟨hl, hs, p⟩ => q J F' H' ds o' st it ⟨hl, fun d hd => ?_, by rw [filt_true]; exact p⟩)
  exact fun x σ F H o ho hv Q q => hs d hd x σ F H o ho hv Q fun σ' ρ' ho' ew k => q σ' ρ' ho' ew (et_yes ⟨rfl, fun _ => k⟩)
end
end DL

namespace DL
open PySem L2 RZ
/-! ### operations, by data -/
/-- data that may be compared and shown -/
structure Nice (d : D) : Prop where
  lay : d.canLay0 = true
  dep : d.depth ≤ 40
  shw : d.showable = true
theorem Nice.shaped {d : D} (h : Nice d) : SeqAt.shaped d = true := by
  show (d.canLay0 && decide (d.depth ≤ 64)) = true
  rw [h.lay, decide_eq_true (Nat.le_trans h.dep (by decide))]
  rfl
section
variable {K : PySem.W.Frag} {W : Wd} {H0 F0 : Hp} {ρ : Rho} {te ta tb tc : TE} {tt tu : TT} {P P' : Sl → Prop} {PN : List D → Prop} {X : Cx}
theorem dpa_atI {F : Hp} {vs : List V} {ds : List D} {i : Int} {d : D} (h : DpAll K F vs ds) (e : atI ds i = some d) : ∃ v, atI vs i = some v ∧ Dp K F v d := by
  unfold atI at e ⊢
  rw [dpa_len h]
  cases q : ixN ds.length i with
  | none => rw [q] at e; cases e
  | some j =>
    rw [q] at e
    exact dpa_get' h e
theorem dpa_cut {F : Hp} {vs : List V} {ds : List D} (lo hi : Option Int) (h : DpAll K F vs ds) : DpAll K F (cutV vs lo hi) ((ds.drop (HT.sIx ds.length 0 lo)).take (HT.sIx ds.length ds.length hi - HT.sIx ds.length 0 lo)) := by
  unfold cutV
  rw [dpa_len h]
  exact dpa_take _ (dpa_drop _ h)
/-- the items of xs[lo:hi] -/
def cutD (ds : List D) (lo hi : Option Int) : List D := (ds.drop (HT.sIx ds.length 0 lo)).take (HT.sIx ds.length ds.length hi - HT.sIx ds.length 0 lo)
theorem cutD_whole {ds : List D} {lo hi : Option Int} (h : HT.sIx ds.length 0 lo = 0 ∧ HT.sIx ds.length ds.length hi = ds.length) : cutD ds lo hi = ds := by
  unfold cutD
  rw [h.1, h.2, List.drop_zero, Nat.sub_zero, List.take_length]

/-! + -/
def rAddS : R2 := fun x y H Q => ∃ i j, x = .str i ∧ y = .str j ∧ i.length + j.length ≤ sizeLine ∧ Q (.str (i ++ j)) H
/-- truths among ints -/
def rBI (g : Int → Int → Int) : R2 := fun x y H Q => ∃ b i, x = .bl b ∧ y = .int i ∧ Q (.int (g (if b = true then 1 else 0) i)) H
def rIB (g : Int → Int → Int) : R2 := fun x y H Q => ∃ i b, x = .int i ∧ y = .bl b ∧ Q (.int (g i (if b = true then 1 else 0))) H
theorem op_addBI : OpR X (binaryOp .Add) (rBI fun i j => i + j) := by
  intro pins s σ H x y v u Q I rx ry h
  obtain ⟨b, i, rfl, rfl, q⟩ := h
  cases rx
  obtain ⟨t, rfl⟩ := ry
  exact PySem.IntBool.add_bool_int ⟨.int _, H, I.tok _, ⟨_, rfl⟩, q⟩
theorem op_subBI : OpR X (binaryOp .Sub) (rBI fun i j => i - j) := by
  intro pins s σ H x y v u Q I rx ry h
  obtain ⟨b, i, rfl, rfl, q⟩ := h
  cases rx
  obtain ⟨t, rfl⟩ := ry
  exact PySem.IntBool.sub_bool_int ⟨.int _, H, I.tok _, ⟨_, rfl⟩, q⟩
theorem op_subIB : OpR X (binaryOp .Sub) (rIB fun i j => i - j) := by
  intro pins s σ H x y v u Q I rx ry h
  obtain ⟨i, b, rfl, rfl, q⟩ := h
  cases ry
  obtain ⟨t, rfl⟩ := rx
  exact PySem.IntBool.sub_int_bool ⟨.int _, H, I.tok _, ⟨_, rfl⟩, q⟩
def rAdd4 (K : PySem.W.Frag) : R2 := fun x y H Q => (((rI0 (fun i j => .int (i + j)) x y H Q ∨ rAddS x y H Q) ∨ rCatA K x y H Q) ∨ rCat x y H Q) ∨ rBI (fun i j => i + j) x y H Q
theorem opAdd : OpR X (binaryOp .Add) (rAdd4 X.K) := (((op_add.or op_add_str).or op_catA).or op_cat).or op_addBI
def rSub3 : R2 := fun x y H Q => (rI0 (fun i j => .int (i - j)) x y H Q ∨ rBI (fun i j => i - j) x y H Q) ∨ rIB (fun i j => i - j) x y H Q
theorem opSub : OpR X (binaryOp .Sub) rSub3 := (op_sub.or op_subBI).or op_subIB
theorem ops_I0 {g : Int → Int → V} {f : Int → Int → D} {i j : Int} (hg : ∀ F, Dp K F (g i j) (f i j)) (p : P (.dat (f i j))) : OpS K W (rI0 g) (.dat (.int i)) (.dat (.int j)) P := fun F H x y o hx hy Q q => by
  rw [vok_int hx, vok_int hy]
  exact ⟨i, j, rfl, rfl, q _ F H (.dat (f i j)) o (Step.refl o) (hg F) p⟩
theorem ops_I {C : Int → Int → Prop} {g : Int → Int → V} {f : Int → Int → D} {i j : Int} (hg : ∀ F, Dp K F (g i j) (f i j)) (hc : C i j) (p : P (.dat (f i j))) : OpS K W (rI C g) (.dat (.int i)) (.dat (.int j)) P := fun F H x y o hx hy Q q => by
  rw [vok_int hx, vok_int hy]
  exact ⟨i, j, rfl, rfl, hc, q _ F H (.dat (f i j)) o (Step.refl o) (hg F) p⟩
theorem OpS.inl {r r' : R2} {s t : Sl} (h : OpS K W r s t P) : OpS K W (fun x y H Q => r x y H Q ∨ r' x y H Q) s t P := fun F H x y o hx hy Q q => .inl (h F H x y o hx hy Q q)
theorem OpS.inr {r r' : R2} {s t : Sl} (h : OpS K W r' s t P) : OpS K W (fun x y H Q => r x y H Q ∨ r' x y H Q) s t P := fun F H x y o hx hy Q q => .inr (h F H x y o hx hy Q q)
theorem ops_add_int {i j : Int} (p : P (.dat (.int (i + j)))) : OpS K W (rAdd4 K) (.dat (.int i)) (.dat (.int j)) P := OpS.inl <| OpS.inl (OpS.inl (OpS.inl (ops_I0 (f := fun i j => .int (i + j)) (fun _ => .int _) p)))
theorem ops_add_str {i j : Str} (hl : i.length + j.length ≤ sizeLine) (p : P (.dat (.str (i ++ j)))) : OpS K W (rAdd4 K) (.dat (.str i)) (.dat (.str j)) P := OpS.inl <| OpS.inl (OpS.inl (OpS.inr fun F H x y o hx hy Q q => by
  rw [vok_str hx, vok_str hy]
  exact ⟨i, j, rfl, rfl, hl, q _ F H (.dat (.str (i ++ j))) o (Step.refl o) (.str _) p⟩))
theorem ops_add_tup {ds es : List D} (hl : ds.length + es.length ≤ sizeLine) (p : P (.dat (.tuple (ds ++ es)))) : OpS K W (rAdd4 K) (.dat (.tuple ds)) (.dat (.tuple es)) P := OpS.inl <| OpS.inl (OpS.inr fun F H x y o hx hy Q q => by
  obtain ⟨a, xs, rfl, a1, a2⟩ := dp_tup hx
  obtain ⟨b, ys, rfl, b1, b2⟩ := dp_tup hy
  refine ⟨a, b, xs, ys, rfl, rfl, SqT.of (o.sub _ _ a1), SqT.of (o.sub _ _ b1), by rw [dpa_len a2, dpa_len b2]; exact hl, fun e => ?_, fun _ e => ?_, fun _ _ p' hp => ?_⟩
  · have e2 : ds = [] := List.length_eq_zero_iff.mp (by rw [← dpa_len a2, e]; rfl)
    rw [e2] at p
    exact q _ F H _ o (Step.refl o) hy p
  · have e2 : es = [] := List.length_eq_zero_iff.mp (by rw [← dpa_len b2, e]; rfl)
    rw [e2, List.append_nil] at p
    exact q _ F H _ o (Step.refl o) hx p
  · obtain ⟨o2, st2⟩ := o.new (u := .tup (xs ++ ys)) hp
    exact q _ _ _ (.dat (.tuple (ds ++ es))) o2 st2 (.tup upd_same (dpa_mono st2.fz (dpa_app a2 b2))) p)
/-- a list that may be read -/
def LsOf (s : Sl) (ds : List D) : Prop := s = .dat (.list ds) ∨ s = .ls ds
theorem LsOf.get {F H : Hp} {v : V} {s : Sl} {ds : List D} (h : LsOf s ds) (o : Ok W F H) (hv : VOk K W F H v s) : ∃ p vs, v = .ref p ∧ H p = some (.lst vs) ∧ DpAll K F vs ds := by
  rcases h with e | e
  · subst e
    obtain ⟨a, xs, e, a1, a2⟩ := dp_lst hv
    exact ⟨a, xs, e, o.sub _ _ a1, a2⟩
  · subst e
    obtain ⟨p, vs, e, h1, _, _, h2⟩ := hv
    exact ⟨p, vs, e, h1, h2⟩
theorem evn_cat (h : Ev K W H0 ta ρ fun s => Ev K W H0 tb ρ fun t => ∃ ds es, LsOf s ds ∧ LsOf t es ∧ ds.length + es.length ≤ sizeLine ∧ PN (ds ++ es)) : EvN K W H0 (tOp (rAdd4 K) ta tb) ρ PN := fun σ F H o ho Q q => by
  refine h σ F H o ho _ fun v F1 H1 s o1 st1 hv h1 => ?_
  refine h1 σ F1 H1 o1 (ho.step st1) _ fun u F2 H2 t o2 st2 hu ⟨ds, es, hs, ht, hl, p⟩ => ?_
  obtain ⟨a, xs, rfl, a1, a2⟩ := hs.get o2 (hv.step st2)
  obtain ⟨b, ys, rfl, b1, b2⟩ := ht.get o2 hu
  refine .inl (.inr ⟨a, b, xs, ys, rfl, rfl, a1, b1, by rw [dpa_len a2, dpa_len b2]; exact hl, fun p' hp => ?_⟩)
  obtain ⟨o3, st3⟩ := o2.own (u := .lst (xs ++ ys)) hp
  have st := st1.trans o1 st2
  exact q p' (xs ++ ys) _ _ (ds ++ es) o3 (st.trans o2 st3) (st.back o2 hp) upd_same (o2.free hp) (o2.nz hp) (dpa_app a2 b2) p

/-! - * % // ** -/
theorem ops_sub {i j : Int} (p : P (.dat (.int (i - j)))) : OpS K W rSub3 (.dat (.int i)) (.dat (.int j)) P := OpS.inl <| OpS.inl <| ops_I0 (f := fun i j => .int (i - j)) (fun _ => .int _) p
theorem ops_subBI {b : Bool} {j : Int} (p : P (.dat (.int ((if b = true then 1 else 0) - j)))) : OpS K W rSub3 (.dat (.bool b)) (.dat (.int j)) P := OpS.inl <| OpS.inr fun F H x y o hx hy Q q => by
  rw [vok_bool hx, vok_int hy]
  exact ⟨b, j, rfl, rfl, q _ F H (.dat (.int _)) o (Step.refl o) (.int _) p⟩
theorem ops_subIB {b : Bool} {i : Int} (p : P (.dat (.int (i - (if b = true then 1 else 0))))) : OpS K W rSub3 (.dat (.int i)) (.dat (.bool b)) P := OpS.inr fun F H x y o hx hy Q q => by
  rw [vok_int hx, vok_bool hy]
  exact ⟨i, b, rfl, rfl, q _ F H (.dat (.int _)) o (Step.refl o) (.int _) p⟩
theorem ops_addBI {b : Bool} {j : Int} (p : P (.dat (.int ((if b = true then 1 else 0) + j)))) : OpS K W (rAdd4 K) (.dat (.bool b)) (.dat (.int j)) P := OpS.inr fun F H x y o hx hy Q q => by
  rw [vok_bool hx, vok_int hy]
  exact ⟨b, j, rfl, rfl, q _ F H (.dat (.int _)) o (Step.refl o) (.int _) p⟩
/-- * of ints, of a tuple -/
def rMul2 (K : PySem.W.Frag) : R2 := fun x y H Q => rI CMul (fun i j => .int (i * j)) x y H Q ∨ rRepT K x y H Q
theorem opMul : OpR X (binaryOp .Mult) (rMul2 X.K) := op_mul.or op_repT
theorem dpa_flat {F : Hp} {vs : List V} {ds : List D} (h : DpAll K F vs ds) : ∀ n : Nat, DpAll K F (List.replicate n vs).flatten (List.replicate n ds).flatten
  | 0 => .nil
  | n + 1 => by
    rw [List.replicate_succ, List.replicate_succ, List.flatten_cons, List.flatten_cons]
    exact dpa_app h (dpa_flat h n)
theorem ops_rep {ds : List D} {k : Int} (h0 : ds ≠ []) (h1 : 2 ≤ k) (h2 : k ≤ 1000) (h3 : ds.length ≤ 1000) (p : P (.dat (.tuple (List.replicate k.toNat ds).flatten))) : OpS K W (rMul2 K) (.dat (.tuple ds)) (.dat (.int k)) P := OpS.inr fun F H x y o hx hy Q q => by
  obtain ⟨a, xs, rfl, a1, a2⟩ := dp_tup hx
  rw [vok_int hy]
  refine ⟨a, k, xs, rfl, rfl, SqT.of (o.sub _ _ a1), fun e => h0 (List.length_eq_zero_iff.mp (by rw [← dpa_len a2, e]; rfl)), h1, h2, by rw [dpa_len a2]; exact h3, fun p' hp => ?_⟩
  obtain ⟨o2, st2⟩ := o.new (u := .tup (List.replicate k.toNat xs).flatten) hp
  exact q _ _ _ (.dat (.tuple (List.replicate k.toNat ds).flatten)) o2 st2 (.tup upd_same (dpa_mono st2.fz (dpa_flat a2 _))) p
theorem ops_mul {i j : Int} (hc : CMul i j) (p : P (.dat (.int (i * j)))) : OpS K W (rMul2 K) (.dat (.int i)) (.dat (.int j)) P := OpS.inl <| ops_I (f := fun i j => .int (i * j)) (fun _ => .int _) hc p
theorem ops_fdiv {i j : Int} (hc : CDivN i j) (p : P (.dat (.int (i.fdiv j)))) : OpS K W (rI CDivN fun i j => .int (i.fdiv j)) (.dat (.int i)) (.dat (.int j)) P := ops_I (f := fun i j => .int (i.fdiv j)) (fun _ => .int _) hc p
theorem ops_mod {i j : Int} (hc : j ≠ 0) (p : P (.dat (.int (i.fmod j)))) : OpS K W (rI (fun _ j => j ≠ 0) fun i j => .int (i.fmod j)) (.dat (.int i)) (.dat (.int j)) P := ops_I (f := fun i j => .int (i.fmod j)) (fun _ => .int _) hc p
theorem ops_pow {i j : Int} (hc : CPow i j) (p : P (.dat (.int (i ^ j.toNat)))) : OpS K W (rI CPow fun i j => .int (i ^ j.toNat)) (.dat (.int i)) (.dat (.int j)) P := ops_I (f := fun i j => .int (i ^ j.toNat)) (fun _ => .int _) hc p
theorem uns_neg {i : Int} (p : P (.dat (.int (-i)))) : UnS K W (rU fun i => .int (-i)) (.dat (.int i)) P := fun F H x o hx Q q => by
  rw [vok_int hx]
  exact ⟨i, rfl, q _ F H (.dat (.int (-i))) o (Step.refl o) (.int _) p⟩

/-! comparisons -/
def rEq2 (K : PySem.W.Frag) : R2 := fun x y H Q => rEqD K x y H Q ∨ rEq x y H Q
def rNe2 (K : PySem.W.Frag) : R2 := fun x y H Q => rNeD K x y H Q ∨ rNe x y H Q
theorem opEq (hu : X.A.units + 64 < cLine) : OpR X (compareOp .Eq) (rEq2 X.K) := (op_eqD hu).or op_eq
theorem opNe (hu : X.A.units + 64 < cLine) : OpR X (compareOp .NotEq) (rNe2 X.K) := (op_neD hu).or op_ne
theorem ops_eqS {x y : Str} (p : P (.dat (.bool (decide (x = y))))) : OpS K W (rEq2 K) (.dat (.str x)) (.dat (.str y)) P := OpS.inr fun F H v u o hx hy Q q => by
  rw [vok_str hx, vok_str hy]
  refine ⟨rfl, ?_⟩
  have e : decide (V.str x = V.str y) = decide (x = y) := by
    by_cases h : x = y
    · rw [h, decide_eq_true rfl, decide_eq_true rfl]
    · rw [decide_eq_false h, decide_eq_false (fun z => h (by injection z))]
  rw [e]
  exact q _ F H (.dat (.bool _)) o (Step.refl o) (.bl _) p
theorem ops_neS {x y : Str} (p : P (.dat (.bool (!decide (x = y))))) : OpS K W (rNe2 K) (.dat (.str x)) (.dat (.str y)) P := OpS.inr fun F H v u o hx hy Q q => by
  rw [vok_str hx, vok_str hy]
  refine ⟨rfl, ?_⟩
  have e : decide (V.str x = V.str y) = decide (x = y) := by
    by_cases h : x = y
    · rw [h, decide_eq_true rfl, decide_eq_true rfl]
    · rw [decide_eq_false h, decide_eq_false (fun z => h (by injection z))]
  rw [e]
  exact q _ F H (.dat (.bool _)) o (Step.refl o) (.bl _) p
theorem ops_eq {d e : D} (hd : SeqAt.shaped d = true) (he : SeqAt.shaped e = true) (p : P (.dat (.bool (PyData.eqv d e)))) : OpS K W (rEq2 K) (.dat d) (.dat e) P := OpS.inl fun F H x y o hx hy Q q =>
  ⟨d, e, (dp_mono o.sub hx).old, (dp_mono o.sub hy).old, hd, he, q _ F H (.dat (.bool _)) o (Step.refl o) (.bl _) p⟩
theorem ops_ne {d e : D} (hd : SeqAt.shaped d = true) (he : SeqAt.shaped e = true) (p : P (.dat (.bool (!PyData.eqv d e)))) : OpS K W (rNe2 K) (.dat d) (.dat e) P := OpS.inl fun F H x y o hx hy Q q =>
  ⟨d, e, (dp_mono o.sub hx).old, (dp_mono o.sub hy).old, hd, he, q _ F H (.dat (.bool _)) o (Step.refl o) (.bl _) p⟩
def rLtS : R2 := fun x y H Q => ∃ i j, x = .str i ∧ y = .str j ∧ Q (.bl (decide (i.cps.toList < j.cps.toList))) H
def rLeS : R2 := fun x y H Q => ∃ i j, x = .str i ∧ y = .str j ∧ Q (.bl (!decide (j.cps.toList < i.cps.toList))) H
def rGtS : R2 := fun x y H Q => ∃ i j, x = .str i ∧ y = .str j ∧ Q (.bl (decide (j.cps.toList < i.cps.toList))) H
def rGeS : R2 := fun x y H Q => ∃ i j, x = .str i ∧ y = .str j ∧ Q (.bl (!decide (i.cps.toList < j.cps.toList))) H
def rLt2 : R2 := fun x y H Q => rI0 (fun i j => .bl (decide (i < j))) x y H Q ∨ rLtS x y H Q
def rLe2 : R2 := fun x y H Q => rI0 (fun i j => .bl (decide (i ≤ j))) x y H Q ∨ rLeS x y H Q
def rGt2 : R2 := fun x y H Q => rI0 (fun i j => .bl (decide (j < i))) x y H Q ∨ rGtS x y H Q
def rGe2 : R2 := fun x y H Q => rI0 (fun i j => .bl (decide (j ≤ i))) x y H Q ∨ rGeS x y H Q
theorem opLt : OpR X (compareOp .Lt) rLt2 := op_lt.or op_lt_str
theorem opLe : OpR X (compareOp .LtE) rLe2 := op_le.or op_le_str
theorem opGt : OpR X (compareOp .Gt) rGt2 := op_gt.or op_gt_str
theorem opGe : OpR X (compareOp .GtE) rGe2 := op_ge.or op_ge_str
theorem ops_lt {i j : Int} (p : P (.dat (.bool (decide (i < j))))) : OpS K W rLt2 (.dat (.int i)) (.dat (.int j)) P := OpS.inl (ops_I0 (f := fun i j => .bool (decide (i < j))) (fun _ => .bl _) p)
theorem ops_le {i j : Int} (p : P (.dat (.bool (decide (i ≤ j))))) : OpS K W rLe2 (.dat (.int i)) (.dat (.int j)) P := OpS.inl (ops_I0 (f := fun i j => .bool (decide (i ≤ j))) (fun _ => .bl _) p)
theorem ops_gt {i j : Int} (p : P (.dat (.bool (decide (j < i))))) : OpS K W rGt2 (.dat (.int i)) (.dat (.int j)) P := OpS.inl (ops_I0 (f := fun i j => .bool (decide (j < i))) (fun _ => .bl _) p)
theorem ops_ge {i j : Int} (p : P (.dat (.bool (decide (j ≤ i))))) : OpS K W rGe2 (.dat (.int i)) (.dat (.int j)) P := OpS.inl (ops_I0 (f := fun i j => .bool (decide (j ≤ i))) (fun _ => .bl _) p)
theorem ops_ltS {i j : Str} (p : P (.dat (.bool (decide (i.cps.toList < j.cps.toList))))) : OpS K W rLt2 (.dat (.str i)) (.dat (.str j)) P := OpS.inr fun F H x y o hx hy Q q => by
  rw [vok_str hx, vok_str hy]
  exact ⟨i, j, rfl, rfl, q _ F H (.dat (.bool _)) o (Step.refl o) (.bl _) p⟩
theorem ops_leS {i j : Str} (p : P (.dat (.bool (!decide (j.cps.toList < i.cps.toList))))) : OpS K W rLe2 (.dat (.str i)) (.dat (.str j)) P := OpS.inr fun F H x y o hx hy Q q => by
  rw [vok_str hx, vok_str hy]
  exact ⟨i, j, rfl, rfl, q _ F H (.dat (.bool _)) o (Step.refl o) (.bl _) p⟩
def rIsNo : R2 := fun x y H Q => y = .non ∧ Q (.bl (decide (x = .non))) H
def rIsNot : R2 := fun x y H Q => y = .non ∧ Q (.bl (!decide (x = .non))) H
theorem opIsN : OpR X (compareOp .Is) rIsNo := op_isN
theorem opIsNot : OpR X (compareOp .IsNot) rIsNot := op_notN
def isNone : D → Bool
  | .none => true
  | _ => false
theorem dp_isN {F : Hp} {v : V} {d : D} (h : Dp K F v d) : decide (v = V.non) = isNone d := by cases h <;> rfl
theorem ops_isN {d : D} (p : P (.dat (.bool (isNone d)))) : OpS K W rIsNo (.dat d) (.dat .none) P := fun F H x y o hx hy Q q =>
  ⟨dp_non hy, q _ F H (.dat (.bool (isNone d))) o (Step.refl o) (by rw [dp_isN hx]; exact .bl _) p⟩
theorem ops_isNot {d : D} (p : P (.dat (.bool (!isNone d)))) : OpS K W rIsNot (.dat d) (.dat .none) P := fun F H x y o hx hy Q q =>
  ⟨dp_non hy, q _ F H (.dat (.bool (!isNone d))) o (Step.refl o) (by rw [dp_isN hx]; exact .bl _) p⟩
/-- x in a list | tuple -/
def rInT (K : PySem.W.Frag) : R2 := fun x y H Q => ∃ d ds, L2.Dp K H x d ∧ L2.Dp K H y (.tuple ds) ∧ SeqAt.shaped d = true ∧ SeqAt.shaped (.tuple ds) = true ∧ Q (.bl (ds.any fun z => PyData.eqv z d)) H
def rNotInT (K : PySem.W.Frag) : R2 := fun x y H Q => ∃ d ds, L2.Dp K H x d ∧ L2.Dp K H y (.tuple ds) ∧ SeqAt.shaped d = true ∧ SeqAt.shaped (.tuple ds) = true ∧ Q (.bl (!ds.any fun z => PyData.eqv z d)) H
theorem lay_tup {ds : List D} (h : SeqAt.shaped (.tuple ds) = true) : PyData.canLayAll0 ds = true := SeqAt.canLay_of_shaped h
theorem op_inT (hu : X.A.units + 65 < cLine) : OpR X (compareOp .In) (rInT X.K) := by
  intro pins s σ H x y v u Q I rx ry h
  obtain ⟨d, ds, hd, he, sd, se, q⟩ := h
  obtain ⟨as, r1⟩ := Dp.reads I d x v hd rx
  obtain ⟨bs, r2⟩ := Dp.reads I (.tuple ds) y u he ry
  refine SeqAt.in_tuple_reads r2 r1 (lay_tup se) (SeqAt.canLay_of_shaped sd) ?_ ⟨.bl _, H, I, rfl, q⟩
  have := SeqAt.depth_of_shaped sd
  omega
theorem op_notInT (hu : X.A.units + 65 < cLine) : OpR X (compareOp .NotIn) (rNotInT X.K) := by
  intro pins s σ H x y v u Q I rx ry h
  obtain ⟨d, ds, hd, he, sd, se, q⟩ := h
  obtain ⟨as, r1⟩ := Dp.reads I d x v hd rx
  obtain ⟨bs, r2⟩ := Dp.reads I (.tuple ds) y u he ry
  refine SeqAt.notIn_tuple_reads r2 r1 (lay_tup se) (SeqAt.canLay_of_shaped sd) ?_ ⟨.bl _, H, I, rfl, q⟩
  have := SeqAt.depth_of_shaped sd
  omega
def rIn2 (K : PySem.W.Frag) : R2 := fun x y H Q => (rInD K x y H Q ∨ rInT K x y H Q) ∨ rIn K false x y H Q
def rNotIn2 (K : PySem.W.Frag) : R2 := fun x y H Q => (rNotInD K x y H Q ∨ rNotInT K x y H Q) ∨ rIn K true x y H Q
theorem opIn (hu : X.A.units + 65 < cLine) : OpR X (compareOp .In) (rIn2 X.K) := ((op_inD hu).or (op_inT hu)).or op_in_seq
theorem opNotIn (hu : X.A.units + 65 < cLine) : OpR X (compareOp .NotIn) (rNotIn2 X.K) := ((op_notInD hu).or (op_notInT hu)).or op_notIn_seq
theorem ops_in_tup {d : D} {ds : List D} (hd : SeqAt.shaped d = true) (he : SeqAt.shaped (.tuple ds) = true) (p : P (.dat (.bool (ds.any fun z => PyData.eqv z d)))) : OpS K W (rIn2 K) (.dat d) (.dat (.tuple ds)) P := OpS.inl <| OpS.inr fun F H x y o hx hy Q q =>
  ⟨d, ds, (dp_mono o.sub hx).old, (dp_mono o.sub hy).old, hd, he, q _ F H (.dat (.bool _)) o (Step.refl o) (.bl _) p⟩
theorem ops_notin_tup {d : D} {ds : List D} (hd : SeqAt.shaped d = true) (he : SeqAt.shaped (.tuple ds) = true) (p : P (.dat (.bool (!ds.any fun z => PyData.eqv z d)))) : OpS K W (rNotIn2 K) (.dat d) (.dat (.tuple ds)) P := OpS.inl <| OpS.inr fun F H x y o hx hy Q q =>
  ⟨d, ds, (dp_mono o.sub hx).old, (dp_mono o.sub hy).old, hd, he, q _ F H (.dat (.bool _)) o (Step.refl o) (.bl _) p⟩
theorem dpa_strs {F : Hp} : ∀ {vs : List V} {ys : List Str}, DpAll K F vs (ys.map .str) → vs = ys.map V.str
  | [], [], _ => rfl
  | v :: vs, [], h => by cases h
  | [], b :: bs, h => by cases h
  | v :: vs, b :: bs, h => by
    cases h with
    | cons h1 h2 =>
      rw [dp_str h1, dpa_strs h2]
      rfl
theorem inV_strs {x : Str} : ∀ {ys : List Str}, inV (.str x) (ys.map V.str) = ys.any fun y => decide (y = x)
  | [] => rfl
  | y :: ys => by
    show (inV (.str x) (V.str y :: ys.map V.str)) = _
    unfold inV
    rw [List.any_cons, List.any_cons]
    have ih := inV_strs (x := x) (ys := ys)
    unfold inV at ih
    rw [ih]
    have e : eqV (V.str y) (V.str x) = decide (y = x) := by
      show (y == x) = _
      by_cases h : y = x
      · rw [h, decide_eq_true rfl, beq_self_eq_true]
      · rw [decide_eq_false h]
        exact beq_eq_false_iff_ne.mpr h
    rw [e]
theorem flat_strs (ys : List Str) : (ys.map V.str).all flatV = true := by
  rw [List.all_map]
  exact List.all_eq_true.mpr fun _ _ => rfl
theorem ops_in_strs {x : Str} {ys : List Str} (p : P (.dat (.bool (ys.any fun y => decide (y = x))))) : OpS K W (rIn2 K) (.dat (.str x)) (.dat (.tuple (ys.map .str))) P := OpS.inr fun F H v u o hx hy Q q => by
  obtain ⟨a, xs, rfl, a1, a2⟩ := dp_tup hy
  rw [dpa_strs a2] at a1
  rw [vok_str hx]
  refine ⟨a, _, rfl, .inr (SqT.of (o.sub _ _ a1)), rfl, flat_strs ys, ?_⟩
  rw [inV_strs]
  exact q _ F H (.dat (.bool _)) o (Step.refl o) (.bl _) p
theorem ops_notin_strs {x : Str} {ys : List Str} (p : P (.dat (.bool (!ys.any fun y => decide (y = x))))) : OpS K W (rNotIn2 K) (.dat (.str x)) (.dat (.tuple (ys.map .str))) P := OpS.inr fun F H v u o hx hy Q q => by
  obtain ⟨a, xs, rfl, a1, a2⟩ := dp_tup hy
  rw [dpa_strs a2] at a1
  rw [vok_str hx]
  refine ⟨a, _, rfl, .inr (SqT.of (o.sub _ _ a1)), rfl, flat_strs ys, ?_⟩
  rw [inV_strs]
  exact q _ F H (.dat (.bool _)) o (Step.refl o) (.bl _) p
theorem LsOf.dp {F H : Hp} {v : V} {s : Sl} {ds : List D} (h : LsOf s ds) (o : Ok W F H) (hv : VOk K W F H v s) : L2.Dp K H v (.list ds) := by
  obtain ⟨p, vs, rfl, h1, h2⟩ := h.get o hv
  exact .lst (SqL.of h1) (dpa_mono o.sub h2).old
theorem ops_in_lst {d : D} {ds : List D} {s : Sl} (hd : SeqAt.shaped d = true) (he : SeqAt.shaped (.list ds) = true) (hs : LsOf s ds) (p : P (.dat (.bool (ds.any fun z => PyData.eqv z d)))) : OpS K W (rIn2 K) (.dat d) s P := OpS.inl <| OpS.inl fun F H x y o hx hy Q q =>
  ⟨d, ds, (dp_mono o.sub hx).old, hs.dp o hy, hd, he, q _ F H (.dat (.bool _)) o (Step.refl o) (.bl _) p⟩
theorem ops_notin_lst {d : D} {ds : List D} {s : Sl} (hd : SeqAt.shaped d = true) (he : SeqAt.shaped (.list ds) = true) (hs : LsOf s ds) (p : P (.dat (.bool (!ds.any fun z => PyData.eqv z d)))) : OpS K W (rNotIn2 K) (.dat d) s P := OpS.inl <| OpS.inl fun F H x y o hx hy Q q =>
  ⟨d, ds, (dp_mono o.sub hx).old, hs.dp o hy, hd, he, q _ F H (.dat (.bool _)) o (Step.refl o) (.bl _) p⟩
/-! subscripts -/
theorem ops_ix_tup {ds : List D} {i : Int} {d : D} (e : atI ds i = some d) (p : P (.dat d)) : OpS K W (rIx K) (.dat (.tuple ds)) (.dat (.int i)) P := fun F H x y o hx hy Q q => by
  obtain ⟨a, xs, rfl, a1, a2⟩ := dp_tup hx
  obtain ⟨v, e1, e2⟩ := dpa_atI a2 e
  rw [vok_int hy]
  exact .inr (.inl ⟨a, xs, i, v, rfl, rfl, SqT.of (o.sub _ _ a1), e1, q _ F H (.dat d) o (Step.refl o) e2 p⟩)
theorem ops_ix_tupx {ds : List D} {i : Int} (h : ∃ d, atI ds i = some d ∧ P (.dat d)) : OpS K W (rIx K) (.dat (.tuple ds)) (.dat (.int i)) P := let ⟨_, a, b⟩ := h; ops_ix_tup a b
theorem ops_ix_lst {ds : List D} {s : Sl} {i : Int} {d : D} (hs : LsOf s ds) (e : atI ds i = some d) (p : P (.dat d)) : OpS K W (rIx K) s (.dat (.int i)) P := fun F H x y o hx hy Q q => by
  obtain ⟨a, xs, rfl, a1, a2⟩ := hs.get o hx
  obtain ⟨v, e1, e2⟩ := dpa_atI a2 e
  rw [vok_int hy]
  exact .inl ⟨a, xs, i, v, rfl, rfl, SqL.of a1, e1, q _ F H (.dat d) o (Step.refl o) e2 p⟩
theorem ops_ix_str {z : Str} {i : Int} {c : Nat} (hl : z.length ≤ sizeLine) (e : atI z.cps.toList i = some c) (p : P (.dat (.str ⟨#[c]⟩))) : OpS K W (rIx K) (.dat (.str z)) (.dat (.int i)) P := fun F H x y o hx hy Q q => by
  rw [vok_int hy, vok_str hx]
  exact .inr (.inr ⟨z, i, c, rfl, rfl, hl, e, q _ F H (.dat (.str _)) o (Step.refl o) (.str _) p⟩)
/-! slices -/
def SlS (K : PySem.W.Frag) (W : Wd) (r : V → Option Int → Option Int → Hp → VK → Prop) (s : Sl) (lo hi : Option Int) (P : Sl → Prop) : Prop := ∀ F H x, Ok W F H → VOk K W F H x s → ∀ Q : VK,
  (∀ v F' H' u, Ok W F' H' → Step W F H F' H' → VOk K W F' H' v u → P u → Q v H') → r x lo hi H Q
theorem ev_sl {r : V → Option Int → Option Int → Hp → VK → Prop} {tl th : TO} (h : Ev K W H0 te ρ fun s => EvO K W H0 tl ρ fun lo => EvO K W H0 th ρ fun hi => SlS K W r s lo hi P) : Ev K W H0 (tSl r te tl th) ρ P := fun σ F H o ho Q q => by
  refine h σ F H o ho _ fun v F1 H1 s o1 st1 hv h1 => ?_
  refine h1 σ F1 H1 o1 (ho.step st1) _ fun lo F2 H2 o2 st2 h2 => ?_
  refine h2 σ F2 H2 o2 ((ho.step st1).step st2) _ fun hi F3 H3 o3 st3 h3 => ?_
  exact h3 F3 H3 v o3 ((hv.step st2).step st3) Q fun w F4 H4 z o4 st4 hw p => q w F4 H4 z o4 (((st1.trans o1 st2).trans o2 st3).trans o3 st4) hw p
theorem eo_none {PO : Option Int → Prop} (p : PO none) : EvO K W H0 tNoPart ρ PO := fun σ F H o ho Q q => q none F H o (Step.refl o) p
theorem eo_some {PO : Option Int → Prop} (h : Ev K W H0 te ρ fun s => ∃ i, s = .dat (.int i) ∧ PO (some i)) : EvO K W H0 (tPart te) ρ PO := fun σ F H o ho Q q =>
  h σ F H o ho _ fun v F1 H1 s o1 st1 hv ⟨i, e, p⟩ => by
    subst e
    exact ⟨i, vok_int hv, q (some i) F1 H1 o1 st1 p⟩
def rSl3 (K : PySem.W.Frag) : V → Option Int → Option Int → Hp → VK → Prop := fun x lo hi H Q => (rSlL K x lo hi H Q ∨ rSlA K x lo hi H Q) ∨ rSlS x lo hi H Q
theorem slAny : SlR X (rSl3 X.K) := (sl_list.or sl_tupA).or sl_str
theorem sls_tup {ds : List D} {lo hi : Option Int} (p : P (.dat (.tuple (cutD ds lo hi)))) : SlS K W (rSl3 K) (.dat (.tuple ds)) lo hi P := fun F H x o hx Q q => by
  obtain ⟨a, xs, rfl, a1, a2⟩ := dp_tup hx
  refine .inl (.inr ⟨a, xs, rfl, SqT.of (o.sub _ _ a1), fun hw => ?_, fun hw p' hp => ?_⟩)
  · rw [dpa_len a2] at hw
    rw [cutD_whole hw] at p
    exact q _ F H _ o (Step.refl o) hx p
  · obtain ⟨o2, st2⟩ := o.new (u := .tup (cutV xs lo hi)) hp
    exact q _ _ _ (.dat (.tuple (cutD ds lo hi))) o2 st2 (.tup upd_same (dpa_mono st2.fz (dpa_cut lo hi a2))) p
theorem sls_lst {ds : List D} {s : Sl} {lo hi : Option Int} (hs : LsOf s ds) (p : P (.dat (.list (cutD ds lo hi)))) : SlS K W (rSl3 K) s lo hi P := fun F H x o hx Q q => by
  obtain ⟨a, xs, rfl, a1, a2⟩ := hs.get o hx
  refine .inl (.inl ⟨a, xs, rfl, SqL.of a1, fun p' hp => ?_⟩)
  obtain ⟨o2, st2⟩ := o.new (u := .lst (cutV xs lo hi)) hp
  exact q _ _ _ (.dat (.list (cutD ds lo hi))) o2 st2 (.lst upd_same (dpa_mono st2.fz (dpa_cut lo hi a2))) p
theorem sls_str {z : Str} {lo hi : Option Int} (hl : z.length ≤ sizeLine) (p : P (.dat (.str (cutS z lo hi)))) : SlS K W (rSl3 K) (.dat (.str z)) lo hi P := fun F H x o hx Q q => by
  rw [vok_str hx]
  exact .inr ⟨z, rfl, hl, q _ F H (.dat (.str _)) o (Step.refl o) (.str _) p⟩

theorem shaped_int (i : Int) : SeqAt.shaped (.int i) = true := by simp [SeqAt.shaped, PyData.canLay0, PyData.depth]
theorem shaped_bool (i : Bool) : SeqAt.shaped (.bool i) = true := by simp [SeqAt.shaped, PyData.canLay0, PyData.depth]
theorem shaped_none : SeqAt.shaped .none = true := by simp [SeqAt.shaped, PyData.canLay0, PyData.depth]
theorem ops_eq_int {i j : Int} (p : P (.dat (.bool (decide (i = j))))) : OpS K W (rEq2 K) (.dat (.int i)) (.dat (.int j)) P := ops_eq (shaped_int i) (shaped_int j) (by
  have e : PyData.eqv (.int i) (.int j) = decide (i = j) := by
    simp only [PyData.eqv]
    by_cases h : i = j
    · subst h
      simp
    · rw [decide_eq_false h]
      exact beq_eq_false_iff_ne.mpr h
  rw [e]
  exact p)
/-! ### calls of built-ins -/
def tyN : D → String
  | .none => "NoneType" | .bool _ => "bool" | .int _ => "int" | .str _ => "str" | .list _ => "list" | .tuple _ => "tuple" | .dict _ => "dict"
theorem ty_of {F H : Hp} (o : Ok W F H) {v : V} {d : D} (h : Dp K F v d) : TyX K H v (.type (tyN d)) := by
  cases h with
  | non => exact .base .non
  | bl b => exact .base (.bl b)
  | int i => exact .base (.int i)
  | str x => exact .base (.str x)
  | lst h _ => exact .base (.lst (o.sub _ _ h))
  | tup h _ => exact .base (.tup (o.sub _ _ h))
theorem kit_all : ∀ a ∈ ["NoneType", "bool", "int", "str", "list", "tuple", "dict"], ∀ T ∈ ["int", "bool", "str", "tuple", "list"], kitB a T = some (a == T || (a == "bool" && T == "int")) := by decide +kernel
theorem ty_mem (d : D) : tyN d ∈ ["NoneType", "bool", "int", "str", "list", "tuple", "dict"] := by cases d <;> simp [tyN]
def isInt : D → Bool
  | .int _ | .bool _ => true
  | _ => false
def isBl : D → Bool
  | .bool _ => true
  | _ => false
def isStr : D → Bool
  | .str _ => true
  | _ => false
def isTup : D → Bool
  | .tuple _ => true
  | _ => false
def isLst : D → Bool
  | .list _ => true
  | _ => false
theorem cas_isi {d : D} {T : String} {b : Bool} (hT : T ∈ ["int", "bool", "str", "tuple", "list"]) (hb : (tyN d == T || (tyN d == "bool" && T == "int")) = b) (p : P (.dat (.bool b))) : CaS K W (rIsi K) [.dat d, .rf (.ty T)] P := fun F H xs o hx Q q => by
  cases hx with
  | cons h1 h2 =>
    cases h2 with
    | cons h3 h4 =>
      cases h4
      exact ⟨_, _, _, _, b, rfl, (show _ = V.ty T from h3) ▸ .ty T, ty_of o h1, hb ▸ kit_ty (kit_all _ (ty_mem d) T hT), q _ F H (.dat (.bool _)) o (Step.refl o) (.bl _) p⟩
theorem cas_isi_int {d : D} (p : P (.dat (.bool (isInt d)))) : CaS K W (rIsi K) [.dat d, .rf (.ty "int")] P := cas_isi (by decide +kernel) (by cases d <;> rfl) p
theorem cas_isi_bool {d : D} (p : P (.dat (.bool (isBl d)))) : CaS K W (rIsi K) [.dat d, .rf (.ty "bool")] P := cas_isi (by decide +kernel) (by cases d <;> rfl) p
theorem cas_isi_str {d : D} (p : P (.dat (.bool (isStr d)))) : CaS K W (rIsi K) [.dat d, .rf (.ty "str")] P := cas_isi (by decide +kernel) (by cases d <;> rfl) p
theorem cas_isi_tup {d : D} (p : P (.dat (.bool (isTup d)))) : CaS K W (rIsi K) [.dat d, .rf (.ty "tuple")] P := cas_isi (by decide +kernel) (by cases d <;> rfl) p
theorem cas_isi_lst {d : D} (p : P (.dat (.bool (isLst d)))) : CaS K W (rIsi K) [.dat d, .rf (.ty "list")] P := cas_isi (by decide +kernel) (by cases d <;> rfl) p
theorem ops_ix_lstx {ds : List D} {i : Int} (h : ∃ d, atI ds i = some d ∧ P (.dat d)) : OpS K W (rIx K) (.dat (.list ds)) (.dat (.int i)) P := let ⟨_, a, b⟩ := h; ops_ix_lst (.inl rfl) a b
theorem le_line {n : Nat} (h : Nat.ble n 250000 = true) : n ≤ sizeLine := Nat.le_trans (Nat.le_of_ble_eq_true h) (by decide)
theorem sz_and {n : Nat} {A : Prop} (h : Nat.ble n 250000 = true) (k : A) : n ≤ sizeLine ∧ A := ⟨le_line h, k⟩
theorem and_nols {d : D} {A : Prop} (h : A) : NoLs (.dat d) ∧ A := ⟨trivial, h⟩
theorem rt_bool {a b : Bool} (h : a = b) : Sl.dat (.bool a) = Sl.dat (.bool b) := by rw [h]
theorem ifT {c : Bool} {A B : Prop} (hc : c = true) (h : A) : if c = true then A else B := by
  rw [if_pos hc]
  exact h
theorem ifF {c : Bool} {A B : Prop} (hc : c = false) (h : B) : if c = true then A else B := by
  rw [if_neg (by rw [hc]; exact Bool.false_ne_true)]
  exact h
theorem if2 {c : Bool} {A B : Prop} (h : c = true → A) (h' : c = false → B) : if c = true then A else B := by
  cases c with
  | true => exact h rfl
  | false => exact h' rfl
abbrev rLenA (K : PySem.W.Frag) : List V → Hp → VK → Prop := fun xs H Q => ∃ x n, xs = [x] ∧ LenV K x H n ∧ Q (.int n) H
theorem cas_len_tup {ds : List D} (p : P (.dat (.int ds.length))) : CaS K W (rLenA K) [.dat (.tuple ds)] P := fun F H xs o hx Q q => by
  cases hx with
  | cons h1 h2 =>
    cases h2
    obtain ⟨a, xs, rfl, a1, a2⟩ := dp_tup h1
    exact ⟨_, ds.length, rfl, .inr ⟨xs, SqT.of (o.sub _ _ a1), (dpa_len a2).symm⟩, q _ F H (.dat (.int _)) o (Step.refl o) (.int _) p⟩
theorem cas_len_lst {ds : List D} {s : Sl} (hs : LsOf s ds) (p : P (.dat (.int ds.length))) : CaS K W (rLenA K) [s] P := fun F H xs o hx Q q => by
  cases hx with
  | cons h1 h2 =>
    cases h2
    obtain ⟨a, xs, rfl, a1, a2⟩ := hs.get o h1
    exact ⟨_, ds.length, rfl, .inl ⟨xs, SqL.of a1, (dpa_len a2).symm⟩, q _ F H (.dat (.int _)) o (Step.refl o) (.int _) p⟩
theorem cas_len_str {z : Str} (hl : z.length ≤ sizeLine) (p : P (.dat (.int z.length))) : CaS K W (rLenA K) [.dat (.str z)] P := fun F H xs o hx Q q => by
  cases hx with
  | cons h1 h2 =>
    cases h2
    rw [vok_str h1]
    exact ⟨_, z.length, rfl, ⟨hl, rfl⟩, q _ F H (.dat (.int _)) o (Step.refl o) (.int _) p⟩
theorem dpa_bools {F : Hp} : ∀ {vs : List V} {bs : List Bool}, DpAll K F vs (bs.map .bool) → vs = bs.map V.bl
  | [], [], _ => rfl
  | v :: vs, [], h => by cases h
  | [], b :: bs, h => by cases h
  | v :: vs, b :: bs, h => by
    cases h with
    | cons h1 h2 =>
      rw [dp_bool h1, dpa_bools h2]
      rfl
theorem cas_all {s : Sl} {bs : List Bool} (hs : LsOf s (bs.map .bool)) (p : P (.dat (.bool (bs.all id)))) : CaS K W (rAll K) [s] P := fun F H xs o hx Q q => by
  cases hx with
  | cons h1 h2 =>
    cases h2
    obtain ⟨a, xs, rfl, a1, a2⟩ := hs.get o h1
    rw [dpa_bools a2] at a1
    exact ⟨a, bs, rfl, SqL.of a1, q _ F H (.dat (.bool _)) o (Step.refl o) (.bl _) p⟩
theorem cas_any {s : Sl} {bs : List Bool} (hs : LsOf s (bs.map .bool)) (p : P (.dat (.bool (bs.any id)))) : CaS K W (rAny K) [s] P := fun F H xs o hx Q q => by
  cases hx with
  | cons h1 h2 =>
    cases h2
    obtain ⟨a, xs, rfl, a1, a2⟩ := hs.get o h1
    rw [dpa_bools a2] at a1
    exact ⟨a, bs, rfl, SqL.of a1, q _ F H (.dat (.bool _)) o (Step.refl o) (.bl _) p⟩
/-- list(x), tuple(x) -/
abbrev rListOf (K : PySem.W.Frag) : List V → Hp → VK → Prop := fun xs H Q => ∃ p ys, xs = [.ref p] ∧ (SqL K H p ys ∨ SqT K H p ys) ∧ ∀ l, H l = none → Q (.ref l) (upd H l (.lst ys))
abbrev rTupleOf (K : PySem.W.Frag) : List V → Hp → VK → Prop := fun xs H Q => ∃ p ys, xs = [.ref p] ∧ ((SqL K H p ys ∧ ∀ l, H l = none → Q (.ref l) (upd H l (.tup ys))) ∨ (SqT K H p ys ∧ Q (.ref p) H))
def SqOf (s : Sl) (ds : List D) : Prop := s = .dat (.tuple ds) ∨ LsOf s ds
theorem SqOf.get {F H : Hp} {v : V} {s : Sl} {ds : List D} (h : SqOf s ds) (o : Ok W F H) (hv : VOk K W F H v s) : ∃ p vs, v = .ref p ∧ (SqL K H p vs ∨ SqT K H p vs) ∧ DpAll K F vs ds := by
  rcases h with e | e
  · subst e
    obtain ⟨a, xs, e, a1, a2⟩ := dp_tup hv
    exact ⟨a, xs, e, .inr (SqT.of (o.sub _ _ a1)), a2⟩
  · obtain ⟨p, vs, e, h1, h2⟩ := e.get o hv
    exact ⟨p, vs, e, .inl (SqL.of h1), h2⟩
theorem evn_list {t : TA} (h : EvA K W H0 t ρ fun ss => ∃ s ds, ss = [s] ∧ SqOf s ds ∧ PN ds) : EvN K W H0 (tCB (rListOf K) t) ρ PN := fun σ F H o ho Q q => by
  refine h σ F H o ho _ fun vs F1 H1 ss o1 st1 hv ⟨s, ds, e, hs, p⟩ => ?_
  subst e
  cases hv with
  | cons h1 h2 =>
    cases h2
    obtain ⟨a, xs, rfl, a1, a2⟩ := hs.get o1 h1
    refine ⟨a, xs, rfl, a1, fun l hl => ?_⟩
    obtain ⟨o2, st2⟩ := o1.own (u := .lst xs) hl
    exact q l xs _ _ ds o2 (st1.trans o1 st2) (st1.back o1 hl) upd_same (o1.free hl) (o1.nz hl) a2 p
theorem cas_tuple {s : Sl} {ds : List D} (hs : SqOf s ds) (p : P (.dat (.tuple ds))) : CaS K W (rTupleOf K) [s] P := fun F H xs o hx Q q => by
  cases hx with
  | cons h1 h2 =>
    cases h2
    rcases hs with e | e
    · subst e
      obtain ⟨a, xs, rfl, a1, a2⟩ := dp_tup h1
      exact ⟨a, xs, rfl, .inr ⟨SqT.of (o.sub _ _ a1), q _ F H _ o (Step.refl o) h1 p⟩⟩
    · obtain ⟨a, xs, rfl, a1, a2⟩ := e.get o h1
      refine ⟨a, xs, rfl, .inl ⟨SqL.of a1, fun l hl => ?_⟩⟩
      obtain ⟨o2, st2⟩ := o.new (u := .tup xs) hl
      exact q _ _ _ (.dat (.tuple ds)) o2 st2 (.tup upd_same (dpa_mono st2.fz a2)) p
/-- repr -/
def rReprD (K : PySem.W.Frag) : List V → Hp → VK → Prop := fun xs H Q => ∃ v d, xs = [v] ∧ L2.Dp K H v d ∧ d.depth ≤ 64 ∧ d.showable = true ∧ d.shown.length ≤ sizeLine ∧ Q (.str d.shown) H
end
end DL

namespace DL
open PySem L2 RZ PySem.Spec PyProof.Rows
/-! ### defs that may show data: no object is being shown when they are called -/
structure FnG (Pg : Program) (w : World) (K : PySem.W.Frag) (mg : Str → Option Value) (base : Heap) (k : Nat) (f : Addr) (fd : FuncData) (ps : List Str) (sp : Sp) : Prop where
  len : ∀ vs H Q E, sp vs H Q E → vs.length = ps.length
  run : ∀ (A : Around) (outer : List Env) (s : Shared) (H : Hp) (args : Args) (us : List Value) (vs : List V) (Q : VK), A.guards = some [] → Room k A → Env0 Pg w K mg base A outer s H →
    BindsTo s fd args (ps.zip us) → Vals vs us → sp vs H Q E0 → codeAny (model Pg w) A (.call (.ref f) args) (CR CX0 outer Pg w H s Q E0) s
section
variable {Pg : Program} {w : World} {K : PySem.W.Frag} {mg : Str → Option Value} {base : Heap}
theorem FnG.mono {j k : Nat} {f : Addr} {fd : FuncData} {ps : List Str} {sp : Sp} (F : FnG Pg w K mg base j f fd ps sp) (h : j ≤ k) : FnG Pg w K mg base k f fd ps sp :=
  ⟨F.len, fun A ou s H ar us vs Q g r => F.run A ou s H ar us vs Q g (r.mono h)⟩
theorem fnG_of {x qual : Str} {st : Stmt} {f : Addr} {fd : FuncData} {N ps : List Str} {k : Nat} {sp : Sp} (F : Fun K x qual st f fd) (S : FnScope N ps (defScope st)) (len : ∀ vs H Q E, sp vs H Q E → vs.length = ps.length)
    (hb : ∀ (cdv : Value) (A : Around) (ou : List Env) (s : Shared) (H : Hp) (vs : List V) (Q : VK), A.guards = some [] → Room k (A.deeper (envOfC qual (defScope st) s.heap.objs.size f cdv)) → sp vs H Q E0 →
      ∃ t, PSs (cxOf CX0 Pg w K mg base N qual (defScope st) f cdv A ou s H E0).nox (defBody st) t ∧ t { nx := fun _ H' => Q .non H', rt := Q } (L2.start N vs) H) : FnG Pg w K mg base (k + 1) f fd ps sp := by
  obtain ⟨oc, od, kV, doc, pm, an, cdv, ct, osl, efd, lk, hcd⟩ := F.ex
  subst efd
  refine ⟨len, fun A ou s H ar us vs Q hgd hr en hbd hv hsp => ?_⟩
  have hl := len vs H Q _ hsp
  have KX : K.In s.heap := en.mod.kin.keeps (fun b o e => (en.bs b o e).1)
  have lim : s.heap.NoLimit := en.mod.nolimit.keeps (fun b o e => (en.bs b o e).1)
  have hkd : ∀ y ∈ ps.zip us, (defScope st).names.lookup y.1 = some .local ∨ ((defScope st).names.lookup y.1 = some .cell ∧ ((cellsFrom (s.heap.objs.size + 1) (defScope st).names []).lookup y.1).isSome = true) := by
    rintro ⟨n, v⟩ hy
    rcases S.par n (List.of_mem_zip hy).1 with q | q
    · exact Or.inl q
    · exact Or.inr ⟨q, PySem.W.cellsFrom_some _ _ _ (Or.inl q)⟩
  refine codeAny_call_function hr.depth (KX _ _ lk) rfl S.co S.gen rfl (PySem.W.codeRec_of KX hcd) (hbd _ _ _ _ ?_)
  refine wpAny_newFunctionEnv_cells S.kind hkd fun env he s1 x => ?_
  subst he
  refine ⟨lim.keeps x.toInCall.keep, codeAny_func ?_⟩
  obtain ⟨t, ht, hq⟩ := hb cdv A ou s H vs Q hgd (hr.deeper _) hsp
  have I := inv_start (CX := CX0) (E := E0) S hr.hd en hl hv x
  refine wpAny_mono (ht.nox.run [] s1 (L2.start N vs) H _ I hq) ?_ (fun e s' hs => hs)
  intro fl s' hs
  cases fl with
  | ret u =>
    obtain ⟨v, σ', H', J, rv, q⟩ := hs
    exact ⟨v, H', J.os, J.bare, J.base, J.hok, rv, q⟩
  | next =>
    obtain ⟨σ', H', J, q⟩ := hs
    exact ⟨V.non, H', J.os, J.bare, J.base, J.hok, rfl, q⟩
  | brk => exact False.elim hs.choose_spec.choose_spec.2
  | cont => exact False.elim hs.choose_spec.choose_spec.2
end
section
variable {X : Cx} {k n : Nat} {f : Addr} {fd : FuncData} {ps ks : List Str} {sp : Sp} {x : Str} {p pos : Pos} {e : Expr} {es : List Expr} {kws : List Keyword} {t tk : TA}
/-- a def by its name: its promise, its place, how plain arguments bind -/
structure Fn (Pg : Program) (w : World) (K : PySem.W.Frag) (mg : Str → Option Value) (base : Heap) (x : Str) (k : Nat) (ps : List Str) (sp : Sp) : Prop where
  ex : ∃ f fd, FnG Pg w K mg base k f fd ps sp ∧ mg x = some (.ref f) ∧ PySem.W.keepIn K (.ref f) = true ∧ Binds K fd ps []
/-- what a call is, by which way its arguments bind: positional n, keywords ks, put in order by g -/
structure FnK (Pg : Program) (w : World) (K : PySem.W.Frag) (mg : Str → Option Value) (base : Heap) (x : Str) (k : Nat) (ps : List Str) (sp : Sp) (n : Nat) (ks : List Str) (gV : List V → List V → List V) : Prop where
  ex : ∃ f fd g, FnG Pg w K mg base k f fd ps sp ∧ mg x = some (.ref f) ∧ PySem.W.keepIn K (.ref f) = true ∧ KBn K fd ps n ks g gV
theorem run_G {pins : List (Addr × Obj)} {σ : L2.St} {H : Hp} {s : Shared} {Q : VK} {args : Args} {us : List Value} {vs : List V} (F : FnG X.prog X.w X.K X.mg X.base k f fd ps sp) (hgd : X.A.guards = some []) (hr : Room k X.A)
    (I : Inv X pins σ H s) (hb : BindsTo s fd args (ps.zip us)) (r : Vals vs us) (h : sp vs H Q E0) : wpAny (model X.prog X.w) X.A (call (.ref f) args.pos args.kw) (EP X pins σ Q) X.xe s := by
  refine wpAny_call (codeAny_mono (F.run X.A X.stack s H args us vs Q hgd hr I.env0 hb r h) ?_)
  intro res s' hq
  cases res with
  | error e => exact False.elim hq
  | ok fl =>
    cases fl with
    | ret u => exact I.after hq
    | next => exact False.elim hq
    | brk => exact False.elim hq
    | cont => exact False.elim hq
def tFn (sp : Sp) (t : TA) : TE := fun σ H Q => t σ H fun vs H1 => sp vs H1 Q E0
theorem pe_fn (C : Fn X.prog X.w X.K X.mg X.base x k ps sp) (hgd : X.A.guards = some []) (hr : Room k X.A) (hg : Gl X x) (ha : PA X (e :: es) t) (hdb : (x == ("__debug__" : Str)) = false := by decide)
    (he : starEach (e :: es) X.env = (false, eval e X.env) :: starEach es X.env := by rfl) (hpl : (backTo pos (starEach es X.env)).any (·.1) = false := by rfl) : PE X (.Call (.Name x p) (e :: es) [] pos) (tFn sp t) := by
  obtain ⟨f, fd, F, hm, hk, hb⟩ := C.ex
  refine ⟨fun pins s σ H Q I h => wpAny_Call_Name_kw (ld_glob I hg hm ?_ hdb)⟩
  refine PySem.W.callWith_K (h₀ := X.base) I.ok.mod.kin hk (thn (ha.run pos pins s σ H _ I h) ?_) he hpl
  rintro us s1 ⟨vs, H1, I1, r, q⟩
  have hl : (us ++ []).length = ps.length := by rw [List.append_nil, ← r.length]; exact F.len _ _ _ _ q
  have hb' := hb s1 us I1.kIn hl
  rw [List.append_nil] at hb'
  exact ⟨I1.kIn, run_G (args := ⟨us, []⟩) F hgd hr I1 hb' r q⟩
theorem pe_fn0 (C : Fn X.prog X.w X.K X.mg X.base x k ps sp) (hgd : X.A.guards = some []) (hr : Room k X.A) (hg : Gl X x) (hdb : (x == ("__debug__" : Str)) = false := by decide) : PE X (.Call (.Name x p) [] [] pos) (tFn sp tNil) := by
  obtain ⟨f, fd, F, hm, hk, hb⟩ := C.ex
  refine ⟨fun pins s σ H Q I h => wpAny_Call_Name_kw (ld_glob I hg hm ?_ hdb)⟩
  have hl : ([] ++ [] : List Value).length = ps.length := F.len [] H Q E0 h
  exact PySem.W.callWith_K0 I.kIn hk (run_G (args := ⟨[], []⟩) F hgd hr I (hb s [] I.kIn hl) .nil h)
def tFnK (n m : Nat) (sp : Sp) (gV : List V → List V → List V) (t tk : TA) : TE := fun σ H Q => t σ H fun vs H1 => tk σ H1 fun zs H2 => vs.length = n ∧ zs.length = m ∧ sp (gV vs zs) H2 Q E0
theorem pe_fnK {gV : List V → List V → List V} (C : FnK X.prog X.w X.K X.mg X.base x k ps sp n ks gV) (hgd : X.A.guards = some []) (hr : Room k X.A) (hg : Gl X x) (ha : PA X (e :: es) t) (hkw : PK X kws tk)
    (hall : (backToKw pos (keywordEach kws X.env)).all (·.1.isSome) = true := by rfl) (hks : (backToKw pos (keywordEach kws X.env)).filterMap (·.1) = ks := by rfl) (hdb : (x == ("__debug__" : Str)) = false := by decide)
    (he : starEach (e :: es) X.env = (false, eval e X.env) :: starEach es X.env := by rfl) (hpl : ((backTo pos (starEach (e :: es) X.env)).any (·.1) || (backToKw pos (keywordEach kws X.env)).any (·.1.isNone)) = false := by rfl) :
    PE X (.Call (.Name x p) (e :: es) kws pos) (tFnK n ks.length sp gV t tk) := by
  obtain ⟨f, fd, g, F, hm, hk, hb⟩ := C.ex
  refine ⟨fun pins s σ H Q I h => wpAny_Call_Name_kw (ld_glob I hg hm ?_ hdb)⟩
  refine PySem.W.callWith_KW (h₀ := X.base) I.ok.mod.kin hk hall (thn (ha.run pos pins s σ H _ I h) ?_) hpl he
  rintro us s1 ⟨vs, H1, I1, r, q⟩
  refine thn (hkw.run pos pins s1 σ H1 _ I1 q) ?_
  rintro ws s2 ⟨zs, H2, I2, rz, l1, l2, q2⟩
  refine ⟨I2.kIn, ?_⟩
  rw [hks]
  exact run_G (args := ⟨us, ks.zip ws⟩) F hgd hr I2 (hb.to s2 us ws I2.kIn (r.length.symm.trans l1) (rz.length.symm.trans l2)) (hb.rel r rz) q2
/-- keywords alone -/
theorem pe_fnK0 {gV : List V → List V → List V} (C : FnK X.prog X.w X.K X.mg X.base x k ps sp 0 ks gV) (hgd : X.A.guards = some []) (hr : Room k X.A) (hg : Gl X x) (hkw : PK X kws tk)
    (hall : (backToKw pos (keywordEach kws X.env)).all (·.1.isSome) = true := by rfl) (hks : (backToKw pos (keywordEach kws X.env)).filterMap (·.1) = ks := by rfl) (hdb : (x == ("__debug__" : Str)) = false := by decide)
    (hpl : ((backTo pos (starEach [] X.env)).any (·.1) || (backToKw pos (keywordEach kws X.env)).any (·.1.isNone)) = false := by rfl) :
    PE X (.Call (.Name x p) [] kws pos) (tFnK 0 ks.length sp gV tNil tk) := by
  obtain ⟨f, fd, g, F, hm, hk, hb⟩ := C.ex
  refine ⟨fun pins s σ H Q I h => wpAny_Call_Name_kw (ld_glob I hg hm ?_ hdb)⟩
  refine PySem.W.callWith_KW0 (h₀ := X.base) I.ok.mod.kin hk hall (thn (hkw.run pos pins s σ H _ I h) ?_) hpl
  rintro ws s2 ⟨zs, H2, I2, rz, l1, l2, q2⟩
  refine ⟨I2.kIn, ?_⟩
  rw [hks]
  exact run_G (args := ⟨[], ks.zip ws⟩) F hgd hr I2 (hb.to s2 [] ws I2.kIn rfl (rz.length.symm.trans l2)) (hb.rel .nil rz) q2
end

/-! ### promises by data -/
/-- arguments ss such that Pre; then some s such that Post -/
def Pm (K : PySem.W.Frag) (n : Nat) (Pre : Wd → Rho → Prop) (Post : Wd → Rho → Sl → Prop) : Sp := fun vs H Q _ => ∃ W F ss, Ok W F H ∧ Paired (VOk K W F H) vs ss ∧ (∀ s ∈ ss, NoLs s) ∧ ss.length = n ∧ Pre W ss ∧
  ∀ v F' H' s, Ok W F' H' → Step W F H F' H' → VOk K W F' H' v s → Post W ss s → Q v H'
section
variable {K : PySem.W.Frag} {W : Wd} {H0 F0 : Hp} {ρ : Rho} {P : Sl → Prop} {t tk : TA} {n : Nat} {Pre : Wd → Rho → Prop} {Post : Wd → Rho → Sl → Prop}
theorem pm_len (vs : List V) (H : Hp) (Q : VK) (E : XK) (h : Pm K n Pre Post vs H Q E) : vs.length = n := by
  obtain ⟨W, F, ss, _, h1, _, h2, _⟩ := h
  exact (Paired.length h1).trans h2
/-- a call -/
theorem ev_fn (h : EvA K W H0 t ρ fun ss => (∀ s ∈ ss, NoLs s) ∧ ss.length = n ∧ Pre W ss ∧ ∀ s, Post W ss s → P s) : Ev K W H0 (tFn (Pm K n Pre Post) t) ρ P := fun σ F H o ho Q q =>
  h σ F H o ho _ fun vs F1 H1 ss o1 st1 hv ⟨h1, h2, h3, h4⟩ => ⟨W, F1, ss, o1, hv, h1, h2, h3, fun v F2 H2 s o2 st2 hv2 p => q v F2 H2 s o2 (st1.trans o1 st2) hv2 (h4 s p)⟩
theorem ev_fnK {m l : Nat} {gV : List V → List V → List V} (gS : Rho → Rho → Rho) (hg : ∀ {F H : Hp} {vs zs : List V} {ss rs : Rho}, Paired (VOk K W F H) vs ss → Paired (VOk K W F H) zs rs → vs.length = m → zs.length = l → Paired (VOk K W F H) (gV vs zs) (gS ss rs))
    (h : EvA K W H0 t ρ fun ss => EvA K W H0 tk ρ fun rs => ss.length = m ∧ rs.length = l ∧ (∀ s ∈ gS ss rs, NoLs s) ∧ (gS ss rs).length = n ∧ Pre W (gS ss rs) ∧ ∀ s, Post W (gS ss rs) s → P s) : Ev K W H0 (tFnK m l (Pm K n Pre Post) gV t tk) ρ P := fun σ F H o ho Q q =>
  h σ F H o ho _ fun vs F1 H1 ss o1 st1 hv k => k σ F1 H1 o1 (ho.step st1) _ fun zs F2 H2 rs o2 st2 hz ⟨l1, l2, h1, h2, h3, h4⟩ => by
    have a1 := (Paired.length hv).trans l1
    have a2 := (Paired.length hz).trans l2
    exact ⟨a1, a2, W, F2, gS ss rs, o2, hg (pvok_step st2 hv) hz a1 a2, h1, h2, h3, fun v F3 H3 s o3 st3 hv3 p => q v F3 H3 s o3 ((st1.trans o1 st2).trans o2 st3) hv3 (h4 s p)⟩
/-- a body -/
theorem get_pair {α β : Type} {R : α → β → Prop} : ∀ {xs : List α} {ys : List β} {i : Nat} {y : β}, Paired R xs ys → ys[i]? = some y → ∃ x, xs[i]? = some x ∧ R x y
  | _, _, i, y, .nil, h => by simp at h
  | _, _, 0, y, .cons h t, e => by
    simp at e
    subst e
    exact ⟨_, rfl, h⟩
  | _, _, i + 1, y, .cons h t, e => by
    obtain ⟨x, h1, h2⟩ := get_pair (i := i) (y := y) t (by simpa using e)
    exact ⟨x, by simpa using h1, h2⟩
theorem holds_start {F H : Hp} {N : List Str} {vs : List V} {ss : Rho} (h : Paired (VOk K W F H) vs ss) (hn : ∀ s ∈ ss, NoLs s) (hl : ss.length ≤ N.length) : Holds K W H (L2.start N vs) F H (ss ++ List.replicate (N.length - ss.length) .un) := by
  have hlen := Paired.length h
  have nls : ∀ (i : Nat) (ds : List D), (ss ++ List.replicate (N.length - ss.length) Sl.un)[i]? ≠ some (.ls ds) := fun i ds e => by
    rcases List.mem_append.mp (List.mem_of_getElem? e) with m | m
    · exact hn _ m
    · have := List.eq_of_mem_replicate m
      cases this
  refine ⟨?_, fun i s e => ?_, fun i j ds es p _ e => absurd e (nls i ds)⟩
  · unfold L2.start
    rw [List.length_append, List.length_append, List.length_map, List.length_replicate, List.length_replicate, hlen]
  · by_cases hi : i < ss.length
    · rw [List.getElem?_append_left hi] at e
      obtain ⟨v, e1, e2⟩ := get_pair h e
      have es : (L2.start N vs)[i]? = some (some v) := by
        unfold L2.start
        rw [List.getElem?_append_left (by rw [List.length_map, hlen]; exact hi), List.getElem?_map, e1]
        rfl
      cases s with
      | un => trivial
      | dat d => exact ⟨v, es, e2⟩
      | ls ds => exact (hn _ (List.mem_of_getElem? e)).elim
      | rf u => rw [show v = u from e2] at es; exact es
    · rw [List.getElem?_append_right (by omega)] at e
      have := List.eq_of_mem_replicate (List.mem_of_getElem? e)
      subst this
      trivial
theorem pm_body {N : List Str} {ts : TS} {vs : List V} {H : Hp} {Q : VK} {E : XK} (hN : n ≤ N.length) (h : Pm K n Pre Post vs H Q E)
    (b : ∀ (W : Wd) (F : Hp) (ss : Rho), ss.length = n → Pre W ss → Sx K W H F ts (ss ++ List.replicate (N.length - ss.length) .un) { nx := fun _ => Post W ss (.dat .none), rt := Post W ss }) :
    ts { nx := fun _ H' => Q .non H', rt := Q } (L2.start N vs) H := by
  obtain ⟨W, F, ss, o, h1, h2, h3, h4, k⟩ := h
  refine b W F ss h3 h4 (L2.start N vs) F H ⟨o, Step.refl o, holds_start h1 h2 (by rw [h3]; exact hN)⟩ _ (fun σ' F' H' ρ' a _ p => k .non F' H' (.dat .none) a.ok a.st .non p) (fun v F' H' s o' st hv p => k v F' H' s o' st hv p) (fun _ _ _ _ _ _ f => f.elim) fun _ _ _ _ _ _ f => f.elim
end
end DL

namespace DL
open PySem L2 RZ PySem.Spec PyProof.Rows
section
variable {K : PySem.W.Frag} {W : Wd} {H0 F0 : Hp} {ρ : Rho} {P : Sl → Prop} {t tk : TA} {te : TE}
theorem ev_varx {i : Nat} (h : ∃ d, ρ[i]? = some (.dat d) ∧ P (.dat d)) : Ev K W H0 (tVar i) ρ P := let ⟨_, a, b⟩ := h; ev_var a b
theorem ev_ownx {i : Nat} (h : ∃ ds, ρ[i]? = some (.ls ds) ∧ P (.ls ds)) : Ev K W H0 (tVar i) ρ P := let ⟨_, a, b⟩ := h; ev_own a b
theorem ev_refx {i : Nat} (h : ∃ v, ρ[i]? = some (.rf v) ∧ P (.rf v)) : Ev K W H0 (tVar i) ρ P := let ⟨_, a, b⟩ := h; ev_ref a b
/-! ### plain functions of data -/
abbrev Pm1 (K : PySem.W.Frag) (p : D → Prop) (f : D → D) : Sp := Pm K 1 (fun _ ss => ∃ d, ss = [.dat d] ∧ p d) (fun _ ss s => ∀ d, ss = [.dat d] → s = .dat (f d))
abbrev Pm2 (K : PySem.W.Frag) (p : D → D → Prop) (f : D → D → D) : Sp := Pm K 2 (fun _ ss => ∃ d e, ss = [.dat d, .dat e] ∧ p d e) (fun _ ss s => ∀ d e, ss = [.dat d, .dat e] → s = .dat (f d e))
theorem ev_fn1 {p : D → Prop} {f : D → D} (h : EvA K W H0 t ρ fun ss => ∃ d, ss = [.dat d] ∧ p d ∧ P (.dat (f d))) : Ev K W H0 (tFn (Pm1 K p f) t) ρ P :=
  ev_fn fun σ F H o ho Q q => h σ F H o ho Q fun vs F' H' ss o' st hv ⟨d, e, hp, k⟩ => q vs F' H' ss o' st hv (by
    subst e
    refine ⟨fun s m => ?_, rfl, ⟨d, rfl, hp⟩, fun s hs => ?_⟩
    · rw [List.mem_singleton.mp m]
      trivial
    · rw [hs d rfl]
      exact k)
theorem ev_fn2 {p : D → D → Prop} {f : D → D → D} (h : EvA K W H0 t ρ fun ss => ∃ d e, ss = [.dat d, .dat e] ∧ p d e ∧ P (.dat (f d e))) : Ev K W H0 (tFn (Pm2 K p f) t) ρ P :=
  ev_fn fun σ F H o ho Q q => h σ F H o ho Q fun vs F' H' ss o' st hv ⟨d, d2, e, hp, k⟩ => q vs F' H' ss o' st hv (by
    subst e
    refine ⟨fun s m => ?_, rfl, ⟨d, d2, rfl, hp⟩, fun s hs => ?_⟩
    · rcases List.mem_cons.mp m with e | m
      · rw [e]
        trivial
      · rw [List.mem_singleton.mp m]
        trivial
    · rw [hs d d2 rfl]
      exact k)
theorem body1 {N : List Str} {ts : TS} {vs : List V} {H : Hp} {Q : VK} {E : XK} {p : D → Prop} {f : D → D} (hN : 1 ≤ N.length) (h : Pm1 K p f vs H Q E)
    (b : ∀ (W : Wd) (F : Hp) (d : D), p d → Sx K W H F ts (.dat d :: List.replicate (N.length - 1) .un) { nx := fun _ => f d = .none, rt := fun s => s = .dat (f d) }) : ts { nx := fun _ H' => Q .non H', rt := Q } (L2.start N vs) H :=
  pm_body hN h fun W F ss _ ⟨d, e, hp⟩ => by
    subst e
    exact (b W F d hp).mono (fun _ e d' e' => by cases e'; rw [e]) (fun s e d' e' => by cases e'; exact e) (fun _ f => f) fun _ f => f
theorem body2 {N : List Str} {ts : TS} {vs : List V} {H : Hp} {Q : VK} {E : XK} {p : D → D → Prop} {f : D → D → D} (hN : 2 ≤ N.length) (h : Pm2 K p f vs H Q E)
    (b : ∀ (W : Wd) (F : Hp) (d e : D), p d e → Sx K W H F ts (.dat d :: .dat e :: List.replicate (N.length - 2) .un) { nx := fun _ => f d e = .none, rt := fun s => s = .dat (f d e) }) : ts { nx := fun _ H' => Q .non H', rt := Q } (L2.start N vs) H :=
  pm_body hN h fun W F ss _ ⟨d, d2, e, hp⟩ => by
    subst e
    exact (b W F d d2 hp).mono (fun _ e d' d2' e' => by cases e'; rw [e]) (fun s e d' d2' e' => by cases e'; exact e) (fun _ f => f) fun _ f => f
end
/-! ### repr -/
mutual
theorem no_dict {K : PySem.W.Frag} {H : Hp} : ∀ {v : V} {d : D}, L2.Dp K H v d → d.hasDict = false
  | _, _, .non => by simp [PyData.hasDict]
  | _, _, .bl _ => by simp [PyData.hasDict]
  | _, _, .int _ => by simp [PyData.hasDict]
  | _, _, .str _ => by simp [PyData.hasDict]
  | _, _, .lst _ a => by simp only [PyData.hasDict]; exact no_dicts a
  | _, _, .tup _ a => by simp only [PyData.hasDict]; exact no_dicts a
theorem no_dicts {K : PySem.W.Frag} {H : Hp} : ∀ {vs : List V} {ds : List D}, L2.DpAll K H vs ds → PyData.hasDictAll ds = false
  | _, _, .nil => by simp [PyData.hasDictAll]
  | _, _, .cons h t => by simp only [PyData.hasDictAll, no_dict h, no_dicts t, Bool.or_false]
end
section
variable {X : Cx} {K : PySem.W.Frag} {W : Wd} {P : Sl → Prop} {k : Nat}
theorem call_reprD (hgd : X.A.guards = some []) (hr : Room k X.A) : CallR X (.builtin "repr") (rReprD X.K) := by
  intro pins s σ H xs us Q I r h
  obtain ⟨v, d, rfl, hd, hdep, hsh, hl, q⟩ := h
  obtain ⟨u, rfl, ru⟩ := vals1 r
  obtain ⟨as, rd⟩ := Dp.reads I d v u hd ru
  have hnd := no_dict hd
  cases hd with
  | non =>
    cases ru
    exact PySem.P.repr_of_none ⟨.str _, H, I.tok _, ⟨_, rfl⟩, by simpa only [PyData.shown] using q⟩
  | bl b =>
    cases ru
    refine PySem.P.repr_of_bool ⟨.str _, H, I.tok _, ⟨_, rfl⟩, ?_⟩
    simpa only [PyData.shown] using q
  | int i =>
    obtain ⟨t, rfl⟩ := ru
    have hi : i.natAbs.log2 < 1920 := of_decide_eq_true (by simpa only [PyData.showable] using hsh)
    exact PySem.P.repr_of_int hi ⟨.str _, H, I.tok _, ⟨_, rfl⟩, by simpa only [PyData.shown] using q⟩
  | str x =>
    obtain ⟨t, rfl⟩ := ru
    refine PySem.P.repr_of_str ⟨.str _, H, I.tok _, ⟨_, rfl⟩, ?_⟩ (hsz := ?_)
    · simpa only [PyData.shown] using q
    · simpa only [PyData.shown] using hl
  | lst hs ha =>
    cases ru
    have := hr.un
    refine repr_of_reads' rd hsh (fun z => by rw [hnd] at z; cases z) hgd (by omega) (fun _ _ e => e) ?_ hl
    intro h' u tk hk
    exact ⟨.str _, H, I.kept (t' := tk) hk, ⟨_, rfl⟩, q⟩
  | tup hs ha =>
    cases ru
    have := hr.un
    refine repr_of_reads' rd hsh (fun z => by rw [hnd] at z; cases z) hgd (by omega) (fun _ _ e => e) ?_ hl
    intro h' u tk hk
    exact ⟨.str _, H, I.kept (t' := tk) hk, ⟨_, rfl⟩, q⟩
/-- data that may be shown, so long -/
structure Shows (n : Nat) (d : D) : Prop where
  nice : Nice d
  len : d.shown.length ≤ n
theorem cas_repr {d : D} (h : Nice d) (hl : d.shown.length ≤ sizeLine) (p : P (.dat (.str d.shown))) : CaS K W (rReprD K) [.dat d] P := fun F H xs o hx Q q => by
  cases hx with
  | cons h1 h2 =>
    cases h2
    exact ⟨_, d, rfl, (dp_mono o.sub h1).old, Nat.le_trans h.dep (by decide), h.shw, hl, q _ F H (.dat (.str _)) o (Step.refl o) (.str _) p⟩
theorem cas_reprL {s : Sl} {ds : List D} (hs : LsOf s ds) (h : Nice (.list ds)) (hl : (PyData.shown (.list ds)).length ≤ sizeLine) (p : P (.dat (.str (PyData.shown (.list ds))))) : CaS K W (rReprD K) [s] P := fun F H xs o hx Q q => by
  cases hx with
  | cons h1 h2 =>
    cases h2
    exact ⟨_, .list ds, rfl, hs.dp o h1, Nat.le_trans h.dep (by decide), h.shw, hl, q _ F H (.dat (.str _)) o (Step.refl o) (.str _) p⟩
end
end DL

namespace DL
open PySem L2
/-! ### data of bounded size -/
mutual
/-- ints no greater than k, plain signs, no dicts -/
def okD (k : Nat) : D → Bool
  | .none | .bool _ => true
  | .int i => decide (i.natAbs ≤ k)
  | .str x => x.cps.toList.all fun c => decide (c < 128)
  | .list xs | .tuple xs => okDs k xs
  | .dict _ => false
def okDs (k : Nat) : List D → Bool
  | [] => true
  | x :: xs => okD k x && okDs k xs
end
theorem okDs_iff {k : Nat} : ∀ {xs : List D}, okDs k xs = true ↔ ∀ x ∈ xs, okD k x = true
  | [] => by simp [okDs]
  | x :: xs => by simp [okDs, okDs_iff (xs := xs)]
mutual
theorem okD_mono {k l : Nat} (h : k ≤ l) : ∀ {d : D}, okD k d = true → okD l d = true
  | .none, _ => rfl
  | .bool _, _ => rfl
  | .int i, e => by
    simp only [okD, decide_eq_true_eq] at e ⊢
    omega
  | .str x, e => by simpa only [okD] using e
  | .list xs, e => by
    simp only [okD] at e ⊢
    exact okDs_mono h e
  | .tuple xs, e => by
    simp only [okD] at e ⊢
    exact okDs_mono h e
  | .dict _, e => by simp [okD] at e
theorem okDs_mono {k l : Nat} (h : k ≤ l) : ∀ {xs : List D}, okDs k xs = true → okDs l xs = true
  | [], _ => rfl
  | x :: xs, e => by
    simp only [okDs, Bool.and_eq_true] at e ⊢
    exact ⟨okD_mono h e.1, okDs_mono h e.2⟩
end
mutual
theorem okD_lay {k : Nat} : ∀ {d : D}, okD k d = true → d.canLay0 = true
  | .none, _ => rfl
  | .bool _, _ => rfl
  | .int i, e => rfl
  | .str x, e => by
    simp only [okD, List.all_eq_true, decide_eq_true_eq] at e
    show (x.cps.all fun c => decide (c < 0x110000)) = true
    rw [← Array.all_toList, List.all_eq_true]
    intro c hc
    exact decide_eq_true (Nat.lt_of_lt_of_le (e c hc) (by decide))
  | .list xs, e => by
    simp only [okD] at e
    simp only [PyData.canLay0]
    exact okDs_lay e
  | .tuple xs, e => by
    simp only [okD] at e
    simp only [PyData.canLay0]
    exact okDs_lay e
  | .dict _, e => by simp [okD] at e
theorem okDs_lay {k : Nat} : ∀ {xs : List D}, okDs k xs = true → PyData.canLayAll0 xs = true
  | [], _ => rfl
  | x :: xs, e => by
    simp only [okDs, Bool.and_eq_true] at e
    simp only [PyData.canLayAll0, Bool.and_eq_true]
    exact ⟨okD_lay e.1, okDs_lay e.2⟩
end
def big : Nat := 2 * 10 ^ 59
theorem big_log {i : Int} (h : i.natAbs ≤ big) : i.natAbs.log2 < 1920 := by
  by_cases z : i.natAbs = 0
  · rw [z]
    decide
  · rw [Nat.log2_lt z]
    exact Nat.lt_of_le_of_lt h (by decide +kernel)
theorem big_len {i : Int} (h : i.natAbs ≤ big) : (PyData.shown (.int i)).length ≤ 62 := by
  have q : i.natAbs < 10 ^ 61 := Nat.lt_of_le_of_lt h (by decide +kernel)
  have e := int_text_length_le10 (a := i) (k := 61) (by decide) q
  simp only [PyData.shown]
  rw [ofString_length]
  exact e
mutual
theorem okD_shw : ∀ {d : D}, okD big d = true → d.showable = true ∧ d.leavesShort 62 = true
  | .none, _ => ⟨rfl, rfl⟩
  | .bool _, _ => ⟨rfl, rfl⟩
  | .int i, e => by
    simp only [okD, decide_eq_true_eq] at e
    exact ⟨by simp only [PyData.showable]; exact decide_eq_true (big_log e), by simp only [PyData.leavesShort]; exact decide_eq_true (big_len e)⟩
  | .str x, e => by
    simp only [okD, List.all_eq_true, decide_eq_true_eq] at e
    refine ⟨rfl, ?_⟩
    simp only [PyData.leavesShort, List.all_eq_true]
    intro c hc
    exact decide_eq_true (Nat.lt_of_lt_of_le (e c hc) (by decide))
  | .list xs, e => by
    simp only [okD] at e
    simp only [PyData.showable, PyData.leavesShort]
    exact okDs_shw e
  | .tuple xs, e => by
    simp only [okD] at e
    simp only [PyData.showable, PyData.leavesShort]
    exact okDs_shw e
  | .dict _, e => by simp [okD] at e
theorem okDs_shw : ∀ {xs : List D}, okDs big xs = true → PyData.showableAll xs = true ∧ PyData.leavesShortAll 62 xs = true
  | [], _ => ⟨rfl, rfl⟩
  | x :: xs, e => by
    simp only [okDs, Bool.and_eq_true] at e
    have h1 := okD_shw e.1
    have h2 := okDs_shw e.2
    simp only [PyData.showableAll, PyData.leavesShortAll, Bool.and_eq_true]
    exact ⟨⟨h1.1, h2.1⟩, h1.2, h2.2⟩
end
/-- data that may be handed to anything here -/
structure Fine (d : D) : Prop where
  ok : okD big d = true
  wt : d.weight ≤ 250000
  dep : d.depth ≤ 40
theorem Fine.nice {d : D} (h : Fine d) : Nice d := ⟨okD_lay h.ok, h.dep, (okD_shw h.ok).1⟩
theorem Fine.shaped {d : D} (h : Fine d) : SeqAt.shaped d = true := h.nice.shaped
theorem Fine.shown {d : D} (h : Fine d) : d.shown.length ≤ sizeLine := by
  have e := PyData.shown_le 62 (by decide) d (okD_shw h.ok).2
  have := h.wt
  rw [sizeLine_eq]
  omega
theorem wt_mem : ∀ {xs : List D} {x : D}, x ∈ xs → x.weight + 1 ≤ PyData.weightAll xs
  | y :: ys, x, h => by
    simp only [PyData.weightAll]
    rcases List.mem_cons.mp h with e | e
    · subst e
      omega
    · have := wt_mem e
      omega
theorem dep_mem : ∀ {xs : List D} {x : D}, x ∈ xs → x.depth ≤ PyData.depthAll xs
  | y :: ys, x, h => by
    simp only [PyData.depthAll]
    rcases List.mem_cons.mp h with e | e
    · subst e
      exact Nat.le_max_left _ _
    · exact Nat.le_trans (dep_mem e) (Nat.le_max_right _ _)
theorem wt_len : ∀ (xs : List D), xs.length ≤ PyData.weightAll xs
  | [] => Nat.zero_le _
  | x :: xs => by
    have := wt_len xs
    simp only [PyData.weightAll, List.length_cons]
    omega
theorem Fine.tup {ds : List D} (h : Fine (.tuple ds)) {d : D} (m : d ∈ ds) : Fine d := by
  obtain ⟨h1, h2, h3⟩ := h
  simp only [okD] at h1
  simp only [PyData.weight] at h2
  simp only [PyData.depth] at h3
  have a := wt_mem m
  have b := dep_mem m
  exact ⟨okDs_iff.mp h1 d m, by omega, by omega⟩
theorem Fine.lst {ds : List D} (h : Fine (.list ds)) {d : D} (m : d ∈ ds) : Fine d := by
  obtain ⟨h1, h2, h3⟩ := h
  simp only [okD] at h1
  simp only [PyData.weight] at h2
  simp only [PyData.depth] at h3
  have a := wt_mem m
  have b := dep_mem m
  exact ⟨okDs_iff.mp h1 d m, by omega, by omega⟩
theorem Fine.tlen {ds : List D} (h : Fine (.tuple ds)) : ds.length ≤ 250000 := by
  have h2 := h.wt
  simp only [PyData.weight] at h2
  exact Nat.le_trans (wt_len ds) h2
theorem Fine.slen {z : Str} (h : Fine (.str z)) : z.length ≤ 250000 := by
  have h2 := h.wt
  simp only [PyData.weight] at h2
  exact h2
theorem big_line {n : Nat} (h : n ≤ 250000) : n ≤ sizeLine := Nat.le_trans h (by decide)
theorem Fine.sline {z : Str} (h : Fine (.str z)) : z.length ≤ sizeLine := big_line h.slen
end DL

namespace DL
open PySem L2
/-! ### the source of drawn numbers: a dict of a list and three ints -/
structure Nm where
  c : Str
  a : Str
  l : Str
  n : Str
  ca : ¬ c = a
  cl : ¬ c = l
  cn : ¬ c = n
  al : ¬ a = l
  an : ¬ a = n
  ln : ¬ l = n
def fdict (m : Nm) (p : Addr) (t lf k : Int) : List (Key × V) := [(.inr m.c, .ref p), (.inr m.a, .int t), (.inr m.l, .int lf), (.inr m.n, .int k)]
section
variable {m : Nm} {p : Addr} {t lf k v : Int}
theorem inr_ne {a b : Str} (h : ¬ a = b) : ¬ ((Sum.inr a : Key) = Sum.inr b) := fun z => h (Sum.inr.inj z)
theorem fd_c : valV (fdict m p t lf k) (.inr m.c) = some (.ref p) := valV_pos rfl
theorem fd_a : valV (fdict m p t lf k) (.inr m.a) = some (.int t) := by
  unfold fdict
  rw [valV_neg (inr_ne m.ca), valV_pos rfl]
theorem fd_l : valV (fdict m p t lf k) (.inr m.l) = some (.int lf) := by
  unfold fdict
  rw [valV_neg (inr_ne m.cl), valV_neg (inr_ne m.al), valV_pos rfl]
theorem fd_n : valV (fdict m p t lf k) (.inr m.n) = some (.int k) := by
  unfold fdict
  rw [valV_neg (inr_ne m.cn), valV_neg (inr_ne m.an), valV_neg (inr_ne m.ln), valV_pos rfl]
theorem put_any {kvs : List (Key × V)} {q : Key} {w : V} (h : (kvs.any fun kv => decide (kv.1 = q)) = true) : putK kvs q w = kvs.map fun kv => if kv.1 = q then (kv.1, w) else kv := by
  unfold putK
  rw [if_pos h]
theorem fp_a : putK (fdict m p t lf k) (.inr m.a) (.int v) = fdict m p v lf k := by
  have h1 : ¬ m.l = m.a := fun z => m.al z.symm
  have h2 : ¬ m.n = m.a := fun z => m.an z.symm
  rw [put_any (by simp [fdict])]
  simp [fdict, m.ca, h1, h2]
theorem fp_l : putK (fdict m p t lf k) (.inr m.l) (.int v) = fdict m p t v k := by
  have h : ¬ m.n = m.l := fun z => m.ln z.symm
  rw [put_any (by simp [fdict])]
  simp [fdict, m.cl, m.al, h]
theorem fp_n : putK (fdict m p t lf k) (.inr m.n) (.int v) = fdict m p t lf v := by
  rw [put_any (by simp [fdict])]
  simp [fdict, m.cn, m.an, m.ln]
end
/-- the world with such a source at a, its list at l -/
def feedW (m : Nm) (a l : Addr) (cs : List Int) : Wd where
  Z := fun b => b = a ∨ b = l
  I := fun _ H => ∃ t lf k : Int, H a = some (.dK (fdict m l t lf k)) ∧ H l = some (.lst (cs.map V.int)) ∧ 0 ≤ t ∧ 0 ≤ lf ∧ 0 ≤ k
  stab := fun _ H _ H' ⟨t, lf, k, h1, h2, h3⟩ _ hk _ => ⟨t, lf, k, hk a _ (.inl rfl) h1, hk l _ (.inr rfl) h2, h3⟩
  back := fun _ _ _ _ _ h => h
section
variable {K : PySem.W.Frag} {H0 F0 : Hp} {ρ : Rho} {P : Sl → Prop} {te : TE} {m : Nm} {a l : Addr} {cs : List Int}
/-- the state of the source is changed -/
theorem feed_put {F H : Hp} {t lf k : Int} (o : Ok (feedW m a l cs) F H) (h0 : 0 ≤ t ∧ 0 ≤ lf ∧ 0 ≤ k) :
    Ok (feedW m a l cs) F (upd H a (.dK (fdict m l t lf k))) ∧ Step (feedW m a l cs) F H F (upd H a (.dK (fdict m l t lf k))) := by
  obtain ⟨t', lf', k', h1, h2, _⟩ := o.inv
  have hal : l ≠ a := fun z => by
    rw [z, h1] at h2
    cases h2
  refine ⟨⟨fun b u e => ?_, fun b hz => ⟨(o.z b hz).1, ?_⟩, ⟨t, lf, k, upd_same, by rw [upd_ne hal]; exact h2, h0⟩⟩, Same.refl _, fun b u hz e => ?_, fun b hf _ => hf⟩
  · have q : b ≠ a := fun z => by
      rw [z, (o.z a (.inl rfl)).1] at e
      cases e
    rw [upd_ne q]
    exact o.sub b u e
  · by_cases q : b = a
    · rw [q, upd_same]
      exact fun z => nomatch z
    · rw [upd_ne q]
      exact (o.z b hz).2
  · have q : b ≠ a := fun z => hz (.inl z)
    rw [upd_ne q]
    exact e
/-- reading an int of the source: any that isn't negative -/
theorem ev_fgetI {i : Nat} {x : Str} (hi : ρ[i]? = some (.rf (.ref a))) (hx : x = m.a ∨ x = m.l ∨ x = m.n) (p : ∀ v : Int, 0 ≤ v → P (.dat (.int v))) : Ev K (feedW m a l cs) H0 (tDGet (tVar i) (tC (.str x))) ρ P := fun σ F H o ho Q q => by
  obtain ⟨t, lf, k, h1, h2, h3, h4, h5⟩ := o.inv
  refine ⟨.ref a, ho.at_ i _ hi, ?_⟩
  rcases hx with e | e | e
  · subst e
    exact ⟨a, .int t, rfl, by have := DGet.k (k := .inr m.a) h1; rw [fd_a] at this; exact this, q _ F H (.dat (.int t)) o (Step.refl o) (.int _) (p t h3)⟩
  · subst e
    exact ⟨a, .int lf, rfl, by have := DGet.k (k := .inr m.l) h1; rw [fd_l] at this; exact this, q _ F H (.dat (.int lf)) o (Step.refl o) (.int _) (p lf h4)⟩
  · subst e
    exact ⟨a, .int k, rfl, by have := DGet.k (k := .inr m.n) h1; rw [fd_n] at this; exact this, q _ F H (.dat (.int k)) o (Step.refl o) (.int _) (p k h5)⟩
theorem ev_fgetC {i : Nat} (hi : ρ[i]? = some (.rf (.ref a))) (p : P (.rf (.ref l))) : Ev K (feedW m a l cs) H0 (tDGet (tVar i) (tC (.str m.c))) ρ P := fun σ F H o ho Q q => by
  obtain ⟨t, lf, k, h1, h2, h3, h4, h5⟩ := o.inv
  exact ⟨.ref a, ho.at_ i _ hi, a, .ref l, rfl, by have := DGet.k (k := .inr m.c) h1; rw [fd_c] at this; exact this, q _ F H (.rf (.ref l)) o (Step.refl o) rfl p⟩
/-- storing an int -/
theorem sx_fput {i : Nat} {x : Str} {N : Ends2} (hi : ρ[i]? = some (.rf (.ref a))) (hx : x = m.a ∨ x = m.l ∨ x = m.n) (h : Ev K (feedW m a l cs) H0 te ρ fun s => ∃ v : Int, s = .dat (.int v) ∧ 0 ≤ v ∧ N.nx ρ) : Sx K (feedW m a l cs) H0 F0 (sDPut (tVar i) (tC (.str x)) te) ρ N := fun σ F H at_ D n r b c => by
  refine h σ F H at_.ok at_.ho _ fun w F1 H1 s o1 st1 hw ⟨v, e, hv, k1⟩ => ?_
  subst e
  rw [vok_int hw]
  have a1 := at_.step o1 st1
  obtain ⟨t, lf, k, h1, h2, h3, h4, h5⟩ := o1.inv
  refine ⟨.ref a, a1.ho.at_ i _ hi, ?_⟩
  have hl : ∀ t lf k : Int, (fdict m l t lf k).length < sizeLine := fun _ _ _ => by
    show 4 < sizeLine
    decide
  rcases hx with e | e | e
  · subst e
    obtain ⟨o2, st2⟩ := feed_put (t := v) (lf := lf) (k := k) o1 ⟨hv, h4, h5⟩
    refine ⟨a, _, rfl, ?_, n σ F1 _ ρ (a1.step o2 st2) (st1.fz.trans st2.fz) k1⟩
    have := DPut.k (k := .inr m.a) (v := .int v) h1 (hl _ _ _)
    rw [fp_a] at this
    exact this
  · subst e
    obtain ⟨o2, st2⟩ := feed_put (t := t) (lf := v) (k := k) o1 ⟨h3, hv, h5⟩
    refine ⟨a, _, rfl, ?_, n σ F1 _ ρ (a1.step o2 st2) (st1.fz.trans st2.fz) k1⟩
    have := DPut.k (k := .inr m.l) (v := .int v) h1 (hl _ _ _)
    rw [fp_l] at this
    exact this
  · subst e
    obtain ⟨o2, st2⟩ := feed_put (t := t) (lf := lf) (k := v) o1 ⟨h3, h4, hv⟩
    refine ⟨a, _, rfl, ?_, n σ F1 _ ρ (a1.step o2 st2) (st1.fz.trans st2.fz) k1⟩
    have := DPut.k (k := .inr m.n) (v := .int v) h1 (hl _ _ _)
    rw [fp_n] at this
    exact this
/-- the source's list -/
theorem cas_flen (p : P (.dat (.int cs.length))) : CaS K (feedW m a l cs) (rLenA K) [.rf (.ref l)] P := fun F H xs o hx Q q => by
  obtain ⟨t, lf, k, h1, h2, _⟩ := o.inv
  cases hx with
  | cons e1 e2 =>
    cases e2
    rw [show _ = V.ref l from e1]
    refine ⟨_, cs.length, rfl, .inl ⟨_, SqL.of h2, by rw [List.length_map]⟩, q _ F H (.dat (.int _)) o (Step.refl o) (.int _) p⟩
theorem ops_fix {i : Int} (h0 : 0 ≤ i) (h1 : i < cs.length) (p : ∀ v : Int, P (.dat (.int v))) : OpS K (feedW m a l cs) (rIx K) (.rf (.ref l)) (.dat (.int i)) P := fun F H x y o hx hy Q q => by
  obtain ⟨t, lf, k, g1, g2, _⟩ := o.inv
  rw [show x = V.ref l from hx, vok_int hy]
  have hi : i.toNat < (cs.map V.int).length := by rw [List.length_map]; omega
  have e : (cs.map V.int)[i.toNat]? = some (.int (cs[i.toNat]'(by simpa using hi))) := by simp [show i.toNat < cs.length by simpa using hi]
  have e2 := atI_nat e
  rw [show ((i.toNat : Nat) : Int) = i by omega] at e2
  exact .inl ⟨l, _, i, _, rfl, rfl, SqL.of g2, e2, q _ F H (.dat (.int _)) o (Step.refl o) (.int _) (p _)⟩
theorem ints_dp {F : Hp} : ∀ ns : List Int, DpAll K F (ns.map V.int) (ns.map .int)
  | [] => .nil
  | n :: ns => .cons (.int n) (ints_dp ns)
theorem ints_lay : ∀ ns : List Int, PyData.canLayAll0 (ns.map .int) = true
  | [] => rfl
  | n :: ns => by
    show (PyData.canLay0 (.int n) && PyData.canLayAll0 (ns.map .int)) = true
    rw [ints_lay ns]
    rfl
theorem ints_dep : ∀ ns : List Int, PyData.depthAll (ns.map .int) = 0
  | [] => rfl
  | n :: ns => by
    show max (PyData.depth (.int n)) (PyData.depthAll (ns.map .int)) = 0
    rw [ints_dep ns]
    rfl
theorem ops_fne (p : P (.dat (.bool (!cs.isEmpty)))) : OpS K (feedW m a l cs) (rNe2 K) (.rf (.ref l)) (.dat (.list [])) P := OpS.inl fun F H x y o hx hy Q q => by
  obtain ⟨t, lf, k, g1, g2, _⟩ := o.inv
  rw [show x = V.ref l from hx]
  refine ⟨.list (cs.map .int), .list [], .lst (SqL.of g2) (ints_dp (K := K) (F := H) cs).old, (dp_mono o.sub hy).old, ?_, by decide +kernel, ?_⟩
  · show ((PyData.list (cs.map .int)).canLay0 && decide ((PyData.list (cs.map .int)).depth ≤ 64)) = true
    simp only [PyData.canLay0, PyData.depth, ints_lay, ints_dep]
    rfl
  · have e : PyData.eqv (.list (cs.map .int)) (.list []) = cs.isEmpty := by cases cs <;> simp [PyData.eqv, PyData.eqvAll]
    rw [e]
    exact q _ F H (.dat (.bool _)) o (Step.refl o) (.bl _) p
/-! ### functions that draw -/
theorem dat_inj : ∀ {ds es : List D}, ds.map Sl.dat = es.map Sl.dat → ds = es
  | [], [], _ => rfl
  | [], _ :: _, h => by cases h
  | _ :: _, [], h => by cases h
  | d :: ds, e :: es, h => by
    rw [List.map_cons, List.map_cons] at h
    injection h with h1 h2
    injection h1 with h1
    rw [h1, dat_inj h2]
abbrev PmF (nm : Nm) (K : PySem.W.Frag) (n : Nat) (pre : List D → Prop) (post : List D → D → Prop) : Sp := Pm K (n + 1)
  (fun W ss => ∃ a l cs ds, W = feedW nm a l cs ∧ ss = .rf (.ref a) :: ds.map .dat ∧ ds.length = n ∧ pre ds) (fun _ ss s => ∀ v ds, ss = v :: ds.map .dat → ∃ d, s = .dat d ∧ post ds d)
theorem nols_dat (ds : List D) : ∀ s ∈ ds.map Sl.dat, NoLs s := fun s h => by
  obtain ⟨d, _, rfl⟩ := List.mem_map.mp h
  trivial
theorem ev_fnF {n : Nat} {pre : List D → Prop} {post : List D → D → Prop} {t : TA} (h : EvA K (feedW m a l cs) H0 t ρ fun ss => ∃ ds, ss = .rf (.ref a) :: ds.map .dat ∧ ds.length = n ∧ pre ds ∧ ∀ d, post ds d → P (.dat d)) :
    Ev K (feedW m a l cs) H0 (tFn (PmF m K n pre post) t) ρ P :=
  ev_fn fun σ F H o ho Q q => h σ F H o ho Q fun vs F' H' ss o' st hv ⟨ds, e, hl, hp, k⟩ => q vs F' H' ss o' st hv (by
    subst e
    refine ⟨fun s hs => ?_, by simp [hl], ⟨a, l, cs, ds, rfl, rfl, hl, hp⟩, fun s hs => ?_⟩
    · rcases List.mem_cons.mp hs with e | e
      · rw [e]
        trivial
      · exact nols_dat ds s e
    · obtain ⟨d, e, hd⟩ := hs _ ds rfl
      rw [e]
      exact k d hd)
theorem bodyF {N : List Str} {ts : TS} {vs : List V} {H : Hp} {Q : VK} {E : XK} {nm : Nm} {n : Nat} {pre : List D → Prop} {post : List D → D → Prop} (hN : n + 1 ≤ N.length) (h : PmF nm K n pre post vs H Q E)
    (b : ∀ (a l : Addr) (cs : List Int) (F : Hp) (ds : List D), ds.length = n → pre ds → Sx K (feedW nm a l cs) H F ts (.rf (.ref a) :: (ds.map .dat ++ List.replicate (N.length - (n + 1)) .un)) { nx := fun _ => post ds .none, rt := fun s => ∃ d, s = .dat d ∧ post ds d }) :
    ts { nx := fun _ H' => Q .non H', rt := Q } (L2.start N vs) H :=
  pm_body hN h fun W F ss hss ⟨a, l, cs, ds, eW, e, hl, hp⟩ => by
    subst e eW
    have e2 : (Sl.rf (V.ref a) :: ds.map Sl.dat).length = n + 1 := by simp [hl]
    have := b a l cs F ds hl hp
    rw [e2]
    refine this.mono (fun _ p v es he => ?_) (fun s p v es he => ?_) (fun _ f => f) fun _ f => f
    · injection he with _ he
      rw [← dat_inj he]
      exact ⟨_, rfl, p⟩
    · injection he with _ he
      rw [← dat_inj he]
      exact p
end
end DL

namespace DL
open PySem L2
/-! ### bounds of what is drawn and bent -/
theorem atI_in {α : Type} {ds : List α} {i : Int} (h0 : 0 ≤ i) (h1 : i < ds.length) : ∃ d, atI ds i = some d ∧ d ∈ ds := by
  have hi : i.toNat < ds.length := by omega
  have e := atI_nat (List.getElem?_eq_getElem hi)
  rw [show ((i.toNat : Nat) : Int) = i by omega] at e
  exact ⟨_, e, List.getElem_mem hi⟩
/-- ints to k, so heavy, so deep at the most -/
structure Bd (k w n : Nat) (d : D) : Prop where
  ok : okD k d = true
  wt : d.weight ≤ w
  dep : d.depth ≤ n
structure Bds (k w n : Nat) (ds : List D) : Prop where
  ok : okDs k ds = true
  wt : PyData.weightAll ds ≤ w
  dep : PyData.depthAll ds ≤ n
section
variable {k w n k' w' n' : Nat} {d : D} {ds es : List D}
theorem Bd.mono (h : Bd k w n d) (a : k ≤ k') (b : w ≤ w') (c : n ≤ n') : Bd k' w' n' d := ⟨okD_mono a h.ok, Nat.le_trans h.wt b, Nat.le_trans h.dep c⟩
theorem Bds.mono (h : Bds k w n ds) (a : k ≤ k') (b : w ≤ w') (c : n ≤ n') : Bds k' w' n' ds := ⟨okDs_mono a h.ok, Nat.le_trans h.wt b, Nat.le_trans h.dep c⟩
theorem Bd.fine (h : Bd k w n d) (a : k ≤ big) (b : w ≤ 250000) (c : n ≤ 40) : Fine d := ⟨okD_mono a h.ok, Nat.le_trans h.wt b, Nat.le_trans h.dep c⟩
theorem bd_tup : Bd k w (n + 1) (.tuple ds) ↔ Bds k w n ds := by
  constructor
  · rintro ⟨a, b, c⟩
    simp only [okD] at a
    simp only [PyData.weight] at b
    simp only [PyData.depth] at c
    exact ⟨a, b, by omega⟩
  · rintro ⟨a, b, c⟩
    refine ⟨by simpa only [okD] using a, by simpa only [PyData.weight] using b, ?_⟩
    simp only [PyData.depth]
    omega
theorem bd_lst : Bd k w (n + 1) (.list ds) ↔ Bds k w n ds := by
  constructor
  · rintro ⟨a, b, c⟩
    simp only [okD] at a
    simp only [PyData.weight] at b
    simp only [PyData.depth] at c
    exact ⟨a, b, by omega⟩
  · rintro ⟨a, b, c⟩
    refine ⟨by simpa only [okD] using a, by simpa only [PyData.weight] using b, ?_⟩
    simp only [PyData.depth]
    omega
theorem bds_nil : Bds k w n [] := ⟨rfl, Nat.zero_le _, Nat.zero_le _⟩
theorem bds_cons {a b : Nat} (h : Bd k a n d) (h' : Bds k b n ds) : Bds k (a + 1 + b) n (d :: ds) := by
  refine ⟨by simp only [okDs, h.ok, h'.ok, Bool.and_self], ?_, ?_⟩
  · have := h.wt
    have := h'.wt
    simp only [PyData.weightAll]
    omega
  · have := h.dep
    have := h'.dep
    simp only [PyData.depthAll]
    omega
theorem wt_app : ∀ (xs ys : List D), PyData.weightAll (xs ++ ys) = PyData.weightAll xs + PyData.weightAll ys
  | [], ys => by simp [PyData.weightAll]
  | x :: xs, ys => by
    have := wt_app xs ys
    simp only [List.cons_append, PyData.weightAll]
    omega
theorem dep_app : ∀ (xs ys : List D), PyData.depthAll (xs ++ ys) = max (PyData.depthAll xs) (PyData.depthAll ys)
  | [], ys => by simp [PyData.depthAll]
  | x :: xs, ys => by
    have := dep_app xs ys
    simp only [List.cons_append, PyData.depthAll]
    omega
theorem ok_app {xs ys : List D} : okDs k (xs ++ ys) = (okDs k xs && okDs k ys) := by
  induction xs with
  | nil => simp [okDs]
  | cons x xs ih =>
    simp only [List.cons_append, okDs, ih, Bool.and_assoc]
theorem bds_app {a b : Nat} (h : Bds k a n ds) (h' : Bds k b n es) : Bds k (a + b) n (ds ++ es) := by
  refine ⟨by rw [ok_app, h.ok, h'.ok]; rfl, ?_, ?_⟩
  · have := h.wt
    have := h'.wt
    rw [wt_app]
    omega
  · have := h.dep
    have := h'.dep
    rw [dep_app]
    omega
theorem bds_sub (h : Bds k w n ds) : ∀ {es : List D}, es.Sublist ds → Bds k w n es := fun {es} s => by
  obtain ⟨a, b, c⟩ := h
  induction s generalizing w with
  | slnil => exact bds_nil
  | cons x s ih =>
    simp only [okDs, Bool.and_eq_true] at a
    simp only [PyData.weightAll] at b
    simp only [PyData.depthAll] at c
    exact (ih (w := w) a.2 (by omega) (by omega))
  | cons_cons x s ih =>
    simp only [okDs, Bool.and_eq_true] at a
    simp only [PyData.weightAll] at b
    simp only [PyData.depthAll] at c
    have := ih (w := w - x.weight - 1) a.2 (by omega) (by omega)
    exact (bds_cons (a := x.weight) ⟨a.1, Nat.le_refl _, by omega⟩ this).mono (Nat.le_refl _) (by omega) (Nat.le_refl _)
theorem bds_perm {xs ys : List D} (p : xs.Perm ys) (h : Bds k w n xs) : Bds k w n ys := by
  refine ⟨?_, ?_, ?_⟩
  · rw [okDs_iff]
    intro y hy
    exact okDs_iff.mp h.ok y (p.mem_iff.mpr hy)
  · have : PyData.weightAll xs = PyData.weightAll ys := by
      induction p with
      | nil => rfl
      | cons x _ ih =>
        simp only [PyData.weightAll]
        rw [ih ⟨(by have := h.ok; simp only [okDs, Bool.and_eq_true] at this; exact this.2), (by have := h.wt; simp only [PyData.weightAll] at this; omega), (by have := h.dep; simp only [PyData.depthAll] at this; omega)⟩]
      | swap x y l =>
        simp only [PyData.weightAll]
        omega
      | trans p1 _ ih1 ih2 =>
        rw [ih1 h]
        refine ih2 ⟨?_, ?_, ?_⟩
        · rw [okDs_iff]
          intro y hy
          exact okDs_iff.mp h.ok y (p1.mem_iff.mpr hy)
        · rw [← ih1 h]
          exact h.wt
        · refine Nat.le_trans (dep_sub fun y hy => p1.mem_iff.mpr hy) h.dep
    rw [← this]
    exact h.wt
  · exact Nat.le_trans (dep_sub fun y hy => p.mem_iff.mpr hy) h.dep
where
  dep_sub {xs ys : List D} (h : ∀ y ∈ ys, y ∈ xs) : PyData.depthAll ys ≤ PyData.depthAll xs := by
    induction ys with
    | nil => exact Nat.zero_le _
    | cons y ys ih =>
      simp only [PyData.depthAll]
      exact Nat.max_le.mpr ⟨dep_mem (h y (by simp)), ih fun z hz => h z (List.mem_cons_of_mem _ hz)⟩
theorem bds_rev (h : Bds k w n ds) : Bds k w n ds.reverse := bds_perm (List.reverse_perm ds).symm h
theorem bds_mem (h : Bds k w n ds) (m : d ∈ ds) : Bd k w n d := by
  have a := wt_mem m
  have b := dep_mem m
  have := h.wt
  have := h.dep
  exact ⟨okDs_iff.mp h.ok d m, by omega, by omega⟩
theorem bds_cut (h : Bds k w n ds) (lo hi : Option Int) : Bds k w n (cutD ds lo hi) := bds_sub h ((List.take_sublist _ _).trans (List.drop_sublist _ _))
end
section
variable {K : PySem.W.Frag} {W : Wd} {P : Sl → Prop} {ds es : List D} {s t : Sl}
/-- what is put together is kept as it is -/
theorem ops_catF (hs : LsOf s ds) (ht : LsOf t es) (hl : ds.length + es.length ≤ sizeLine) (p : P (.dat (.list (ds ++ es)))) : OpS K W (rAdd4 K) s t P := fun F H x y o hx hy Q q => by
  obtain ⟨a, xs, rfl, a1, a2⟩ := hs.get o hx
  obtain ⟨b, ys, rfl, b1, b2⟩ := ht.get o hy
  refine .inl (.inr ⟨a, b, xs, ys, rfl, rfl, a1, b1, by rw [dpa_len a2, dpa_len b2]; exact hl, fun p' hp => ?_⟩)
  obtain ⟨o2, st2⟩ := o.new (u := .lst (xs ++ ys)) hp
  exact q _ _ _ (.dat (.list (ds ++ es))) o2 st2 (.lst upd_same (dpa_mono st2.fz (dpa_app a2 b2))) p
theorem cas_listF (hs : SqOf s ds) (p : P (.dat (.list ds))) : CaS K W (rListOf K) [s] P := fun F H xs o hx Q q => by
  cases hx with
  | cons e1 e2 =>
    cases e2
    obtain ⟨a, vs, rfl, a1, a2⟩ := hs.get o e1
    refine ⟨a, vs, rfl, a1, fun l hl => ?_⟩
    obtain ⟨o2, st2⟩ := o.new (u := .lst vs) hl
    exact q _ _ _ (.dat (.list ds)) o2 st2 (.lst upd_same (dpa_mono st2.fz a2)) p
end
end DL

/-! ### xs[::-1] of a tuple or a list -/
namespace DL
open PySem PySem.Spec PyProof.Rows HT L2
section
variable {prog : Program} {w : World} {A : Around} {E : Value → Shared → Prop} {s : Shared}
theorem pick_same {α β : Type} {f g : α → Option β} : ∀ {l : List α}, (∀ x ∈ l, f x = g x) → l.filterMap f = l.filterMap g
  | [], _ => rfl
  | x :: l, h => by
    rw [List.filterMap_cons, List.filterMap_cons, h x (by simp), pick_same fun y hy => h y (List.mem_cons_of_mem _ hy)]
theorem back_run (zs : Array Value) : ((List.range zs.size).filterMap fun (k : Nat) => zs[((zs.size : Int) - 1 + (k : Int) * -1).toNat]?).toArray = zs.toList.reverse.toArray := by
  have h1 := pick_gen zs.toList.reverse.toArray 0 zs.size
  rw [List.drop_zero, List.take_of_length_le (by simp)] at h1
  rw [show zs.toList.reverse.toArray.toList.toArray = zs.toList.reverse.toArray by simp] at h1
  rw [← h1]
  refine congrArg List.toArray (pick_same fun k hk => ?_)
  have hk := List.mem_range.mp hk
  rw [show ((zs.size : Int) - 1 + (k : Int) * -1).toNat = zs.size - 1 - k by omega, show (((0 : Nat) : Int) + (k : Int) * 1).toNat = k by omega]
  simp [List.getElem?_reverse, hk]
theorem back_cut {sl : Addr} {v1 v2 v3 : Value} {n : Nat} {Q : Int × Int × Nat → Shared → Prop} (hs : s.heap.IsSliceOf sl v1 v2 v3) (p1 : IsPart v1 none) (p2 : IsPart v2 none) (p3 : IsPart v3 (some (-1)))
    (h : Q ((n : Int) - 1, -1, n) s) : wpAny (model prog w) A (Builtin.Slice.sliceApplied (.ref sl) (pure (n : Int))) Q E s := by
  obtain ⟨ob, e1, e2, e3⟩ := id hs
  unfold Builtin.Slice.sliceApplied Builtin.Slice.sliceFields
  refine wpAny_bind (wpAny_bind (wpAny_field e1 e3 (x := v1) rfl (wpAny_bind (wpAny_field e1 e3 (x := v2) rfl (wpAny_bind (wpAny_field e1 e3 (x := v3) rfl (wpAny_pure ?_)))))))
  refine wpAny_bind (slicePart_ p3 ?_)
  show wpAny _ _ (if ((-1 : Int) == 0) = true then _ else _) _ _ s
  rw [if_neg (by decide)]
  refine wpAny_bind (slicePart_ p1 (wpAny_bind (slicePart_ p2 (wpAny_bind (wpAny_pure ?_)))))
  have e : Builtin.Slice.slicePlaces ((n : Int) - 1) (-1) (-1) = n := by
    unfold Builtin.Slice.slicePlaces
    by_cases z : (n : Int) - 1 > -1
    · simp [z]
    · have : n = 0 := by omega
      subst this
      simp
  show wpAny _ _ (pure ((n : Int) - 1, (-1 : Int), Builtin.Slice.slicePlaces ((n : Int) - 1) (-1) (-1))) _ _ s
  rw [e]
  exact wpAny_pure h
theorem back_tup {t sl : Addr} {zs : Array Value} {v1 v2 v3 : Value} {Q : Value → Shared → Prop} (h1 : IsTup s.heap t zs) (hs : s.heap.IsSliceOf sl v1 v2 v3) (p1 : IsPart v1 none) (p2 : IsPart v2 none) (p3 : IsPart v3 (some (-1)))
    (h : Q (.ref s.heap.objs.size) { s with heap := s.heap.push { cls := .type "tuple", data := .seq zs.toList.reverse.toArray } }) (hz : zs.size ≤ sizeLine) : wpAny (model prog w) A (getItem (.ref t) (.ref sl)) Q E s := by
  have hfit : sizeOk (.seq zs.toList.reverse.toArray) := by
    show zs.toList.reverse.toArray.size ≤ sizeLine
    rw [List.size_toArray, List.length_reverse, Array.length_toList]
    exact hz
  obtain ⟨ob, e1, e2, e3⟩ := id hs
  have hT : s.TypeIs (.ref sl) "slice" := ⟨ob, e1, e2⟩
  unfold getItem
  try with_reducible refine wpAny_holding ?_
  first | refine wpAny_bind (wpAny_pure ?_) | skip
  refine wpAny_bind (wpAny_sequenceKey h1.typeIs (by decide) ?_)
  refine wpAny_bind (wpAny_callSpecial?_slot (name := Str.ofString "__getitem__") h1.typeIs PyProof.Rows.slot_tuple_getitem (wpAny_call_entry PyProof.Rows.slot_tuple_getitem h1.typeIs entry_tuple_getitem ?_ (args_tuple_getitem _ _)))
  show wpAny _ _ (Builtin.Tuple.tupleItemsOf (.ref t) >>= _) _ _ s
  refine wpAny_bind (tupleItemsOf_ h1 ?_)
  refine wpAny_bind (wpAny_typeOf hT ?_)
  rw [if_pos (by decide)]
  refine wpAny_bind (back_cut hs p1 p2 p3 ?_)
  have hno : ¬ ((((zs.size : Int) - 1) == 0 && (-1 : Int) == 1 && zs.size == zs.size) = true) := by simp
  show wpAny _ _ (if (((zs.size : Int) - 1) == 0 && (-1 : Int) == 1 && zs.size == zs.size) = true then _ else _) _ _ s
  rw [if_neg hno, back_run]
  first
    | exact wpAny_bind (m := Builtin.Tuple.tupleExact _) (wpAny_newObj_type (wpAny_pure ⟨_, rfl, wpAny_pure h⟩) hfit)
    | exact wpAny_bind (m := Builtin.Tuple.tupleExact _) (wpAny_newObj_type (wpAny_bind (wpAny_pure (wpAny_pure ⟨_, rfl, wpAny_pure h⟩))) hfit)
    | exact wpAny_bind (wpAny_bind (m := Builtin.Tuple.tupleExact _) (wpAny_newObj_type (wpAny_pure (wpAny_pure ⟨_, rfl, wpAny_pure h⟩)) hfit))
    | exact wpAny_bind (wpAny_bind (m := Builtin.Tuple.tupleExact _) (wpAny_newObj_type (wpAny_pure ⟨_, rfl, wpAny_pure h⟩) hfit))
end
section
variable {X : Cx}
/-- xs[::-1]: a new one of the same kind -/
def tRevA (K : PySem.W.Frag) (te : TE) : TE := fun σ H Q => te σ H fun x H1 => ∃ a xs, x = .ref a ∧
  ((SqL K H1 a xs ∧ ∀ p, H1 p = none → Q (.ref p) (upd H1 p (.lst xs.reverse))) ∨ (SqT K H1 a xs ∧ ∀ p, H1 p = none → Q (.ref p) (upd H1 p (.tup xs.reverse))))
theorem pe_revA {e : Expr} {te : TE} {k : Nat} {q1 q2 q3 pos : Pos} (he : PE X e te) : PE X (.Subscript e (.Slice none none (some (.UnaryOp .USub (.Constant (.int 1) k q1) q2)) q3) pos) (tRevA X.K te) := by
  refine ⟨fun pins s σ H Q I h => Subscript_ (thn (he.run pins s σ H _ I h) fun v sa ⟨x, Ha, Ia, ra, a, xs, ex, q⟩ => ?_)⟩
  subst ex
  cases ra
  refine wpAny_Slice (thn (po_none.run pins sa σ Ha (fun o H2 => o = none ∧ H2 = Ha) Ia ⟨rfl, rfl⟩) fun vl sb ⟨l, Hb, Ib, pl, el, eb⟩ => ?_)
  subst el eb
  refine thn (po_none.run pins sb σ Hb (fun o H3 => o = none ∧ H3 = Hb) Ib ⟨rfl, rfl⟩) fun vu sc ⟨u, Hc, Ic, pu, eu, ec⟩ => ?_
  subst eu ec
  refine thn ((po_some (X := X) (pe_un un_neg (pe_int (X := X)))).run pins sc σ Hc (fun o H4 => o = some (-1) ∧ H4 = Hc) Ic ⟨1, rfl, -1, rfl, rfl, rfl⟩) fun vs sd ⟨o, Hd, Id, ps, eo, ed⟩ => ?_
  subst eo ed
  have J : Inv X pins σ Hd { sd with heap := sd.heap.push { cls := .type "slice", data := .fields #[vl, vu, vs] } } := Id.kept (t' := sd.toks) fun b ob q => Heap.get?_push_of_some _ q
  show wpAny (model X.prog X.w) X.A (subscriptTail e _ (.ref a) (.ref sd.heap.objs.size)) (EP X pins σ Q) X.xe _
  rcases q with ⟨hx, q⟩ | ⟨hx, q⟩
  · obtain ⟨its, r, ht, hz⟩ := J.list hx
    have hn := r.length
    refine tail_any (ops := [.ref a, .ref sd.heap.objs.size]) ht.isList.typeIs (PySem.slot_list_getitem.lookup) ?_ (by with_unfolding_all rfl)
    refine wpAny_getItem_list_slice ht.isList (Heap.IsSliceOf.new _ vl vu vs) pl pu ps (by decide) ?_ (by rw [List.size_toArray]; omega)
    rw [PySem.W.krv_pick]
    refine ⟨.ref _, _, J.laid (t' := sd.toks) (o := .lst xs.reverse) (fun b ob q => Heap.get?_push_of_some _ q) (Nat.le_refl _) ?_, rfl, q _ (J.hok.fresh (Nat.le_refl _))⟩
    exact ⟨by rw [List.length_reverse]; exact hz, _, 0, r.reverse, Heap.get?_push_size _ rfl⟩
  · obtain ⟨its, r, ht, hz⟩ := J.tuple hx
    have hn := r.length
    refine tail_any (ops := [.ref a, .ref sd.heap.objs.size]) ht.typeIs (PyProof.Rows.slot_tuple_getitem.lookup) ?_ (by with_unfolding_all rfl)
    refine back_tup ht (Heap.IsSliceOf.new _ vl vu vs) pl pu ps ?_ (by rw [List.size_toArray]; omega)
    refine ⟨.ref _, _, J.laid (t' := sd.toks) (o := .tup xs.reverse) (fun b ob q => Heap.get?_push_of_some _ q) (Nat.le_refl _) ?_, rfl, q _ (J.hok.fresh (Nat.le_refl _))⟩
    exact ⟨by rw [List.length_reverse]; exact hz, _, r.reverse, IsTup.new _ _⟩
end
section
variable {K : PySem.W.Frag} {W : Wd} {H0 : Hp} {ρ : Rho} {P : Sl → Prop} {te : TE} {ds : List D}
theorem ev_rev (h : Ev K W H0 te ρ fun s => ∃ ds, (s = .dat (.tuple ds) ∧ P (.dat (.tuple ds.reverse))) ∨ (LsOf s ds ∧ P (.dat (.list ds.reverse)))) : Ev K W H0 (tRevA K te) ρ P := fun σ F H o ho Q q => by
  refine h σ F H o ho _ fun v F1 H1 s o1 st1 hv ⟨ds, h1⟩ => ?_
  rcases h1 with ⟨e, p⟩ | ⟨e, p⟩
  · subst e
    obtain ⟨a, xs, rfl, a1, a2⟩ := dp_tup hv
    refine ⟨a, xs, rfl, .inr ⟨SqT.of (o1.sub _ _ a1), fun l hl => ?_⟩⟩
    obtain ⟨o2, st2⟩ := o1.new (u := .tup xs.reverse) hl
    exact q _ _ _ (.dat (.tuple ds.reverse)) o2 (st1.trans o1 st2) (.tup upd_same (dpa_rev (dpa_mono st2.fz a2))) p
  · obtain ⟨a, xs, rfl, a1, a2⟩ := e.get o1 hv
    refine ⟨a, xs, rfl, .inl ⟨SqL.of a1, fun l hl => ?_⟩⟩
    obtain ⟨o2, st2⟩ := o1.new (u := .lst xs.reverse) hl
    exact q _ _ _ (.dat (.list ds.reverse)) o2 (st1.trans o1 st2) (.lst upd_same (dpa_rev (dpa_mono st2.fz a2))) p
theorem ev_revT (h : Ev K W H0 te ρ fun s => ∃ ds, s = .dat (.tuple ds) ∧ P (.dat (.tuple ds.reverse))) : Ev K W H0 (tRevA K te) ρ P := ev_rev (h.mono fun s ⟨ds, e, p⟩ => ⟨ds, .inl ⟨e, p⟩⟩)
end
end DL

namespace DL
open PySem L2
/-! ### texts: bounds, upper, str(n) -/
section
variable {k w n m : Nat} {x y : Str}
/-- plain signs, so long at the most -/
structure Bt (w : Nat) (x : Str) : Prop where
  ok : ∀ c ∈ x.cps.toList, c < 128
  len : x.length ≤ w
theorem bd_str : Bd k w n (.str x) ↔ Bt w x := by
  constructor
  · rintro ⟨a, b, _⟩
    simp only [okD, List.all_eq_true, decide_eq_true_eq] at a
    simp only [PyData.weight] at b
    exact ⟨a, b⟩
  · rintro ⟨a, b⟩
    refine ⟨?_, by simp only [PyData.weight]; exact b, by simp [PyData.depth]⟩
    simp only [okD, List.all_eq_true, decide_eq_true_eq]
    exact a
theorem Bt.mono {v : Nat} (h : Bt w x) (l : w ≤ v) : Bt v x := ⟨h.ok, Nat.le_trans h.len l⟩
theorem bt_lit (x : Str) (h : (x.cps.toList.all fun c => decide (c < 128)) = true := by decide +kernel) : Bt x.length x := ⟨fun c hc => of_decide_eq_true (List.all_eq_true.mp h c hc), Nat.le_refl _⟩
theorem bt_app {v : Nat} (h : Bt w x) (h' : Bt v y) : Bt (w + v) (x ++ y) := by
  obtain ⟨a, b⟩ := h
  obtain ⟨c, d⟩ := h'
  have e : (x ++ y).cps.toList = x.cps.toList ++ y.cps.toList := by
    show (x.cps ++ y.cps).toList = _
    rw [Array.toList_append]
  refine ⟨fun z hz => ?_, ?_⟩
  · rw [e] at hz
    rcases List.mem_append.mp hz with q | q
    · exact a z q
    · exact c z q
  · show (x.cps ++ y.cps).size ≤ _
    rw [Array.size_append]
    exact Nat.add_le_add b d
theorem bt_cut (h : Bt w x) (lo hi : Option Int) : Bt w (cutS x lo hi) := by
  obtain ⟨a, b⟩ := h
  have e : (cutS x lo hi).cps.toList = ((x.cps.toList.drop (HT.sIx x.length 0 lo)).take (HT.sIx x.length x.length hi - HT.sIx x.length 0 lo)) := rfl
  refine ⟨fun z hz => ?_, ?_⟩
  · rw [e] at hz
    exact a z (List.mem_of_mem_drop (List.mem_of_mem_take hz))
  · refine Nat.le_trans ?_ b
    show ((cutS x lo hi).cps).size ≤ x.cps.size
    rw [← Array.length_toList, e, List.length_take, List.length_drop, Array.length_toList]
    omega
theorem up_plain : ∀ c : Fin 128, (Unicode.upperOf c.val).length = 1 ∧ ∀ d ∈ Unicode.upperOf c.val, d < 128 := by decide +kernel
theorem bt_up (h : Bt w x) : Bt w (Txt.upper x) := by
  obtain ⟨a, b⟩ := h
  have up : ∀ c : Nat, c < 128 → (Unicode.upperOf c).length = 1 ∧ ∀ d ∈ Unicode.upperOf c, d < 128 := fun c hc => up_plain ⟨c, hc⟩
  have e : (Txt.upper x).cps.toList = (x.cps.toList.map Unicode.upperOf).flatten := by
    show ((x.cps.mapIdx fun i c => (Unicode.upperOf c).toArray).flatten).toList = _
    simp [Array.toList_flatten, Array.toList_mapIdx, List.mapIdx_eq_zipIdx_map, Function.comp_def, ← List.map_map]
    have q := List.zipIdx_map_fst 0 x.cps.toList
    refine congrArg List.flatten ?_
    refine Eq.trans ?_ (congrArg (List.map Unicode.upperOf) q)
    rw [List.map_map, List.map_map]
    rfl
  refine ⟨fun z hz => ?_, ?_⟩
  · rw [e] at hz
    obtain ⟨l, hl, hz⟩ := List.mem_flatten.mp hz
    obtain ⟨c, hc, rfl⟩ := List.mem_map.mp hl
    exact (up c (a c hc)).2 z hz
  · refine Nat.le_trans ?_ b
    show (Txt.upper x).cps.size ≤ x.cps.size
    rw [← Array.length_toList, e, ← Array.length_toList]
    have : ∀ l : List Nat, (∀ c ∈ l, c < 128) → (l.map Unicode.upperOf).flatten.length = l.length := fun l => by
      induction l with
      | nil => intro _; rfl
      | cons c l ih =>
        intro hl
        rw [List.map_cons, List.flatten_cons, List.length_append, ih fun d hd => hl d (List.mem_cons_of_mem _ hd), (up c (hl c (by simp))).1, List.length_cons]
        omega
    exact Nat.le_of_eq (this _ a)
theorem bt_int {i : Int} (h : i.natAbs ≤ big) : Bt 62 (Str.ofString (toString i)) := by
  refine ⟨fun c hc => ?_, ?_⟩
  · by_cases z : c < 128
    · exact z
    · exact absurd hc (PyProof.Rows.int_text_free' c ⟨by omega, .inr (by omega)⟩ i)
  · have := big_len h
    simpa only [PyData.shown] using this
end
section
variable {X : Cx}
/-- str(n), of a truth, too -/
def rStrA : List V → Hp → VK → Prop := fun xs H Q => (∃ i, xs = [.int i] ∧ i.natAbs.log2 < 1920 ∧ Q (.str (toString i)) H) ∨ (∃ b : Bool, xs = [.bl b] ∧ Q (.str (if b then "True" else "False")) H)
theorem call_strA : CallR X (.type "str") rStrA := by
  intro pins s σ H xs us Q I r h
  rcases h with ⟨i, rfl, hz, q⟩ | ⟨b, rfl, q⟩
  · exact call_str_int pins s σ H _ us Q I r ⟨i, rfl, hz, q⟩
  · obtain ⟨u, rfl, e⟩ := vals1 r
    cases e
    exact PySem.P.str_of_bool ⟨.str _, H, I.tok _, ⟨_, rfl⟩, q⟩
end
section
variable {K : PySem.W.Frag} {W : Wd} {P : Sl → Prop}
theorem tys_str {z : Str} : TyS K W "str" (.dat (.str z)) := fun F H x o hx => by
  rw [vok_str hx]
  rfl
theorem mts_upper {z : Str} (hl : z.length ≤ 250000) (p : P (.dat (.str (Txt.upper z)))) : MtS K W (fun x xs H Q => ∃ a, x = .str a ∧ xs = [] ∧ a.length ≤ 5592405 ∧ Q (.str (Txt.upper a)) H) (.dat (.str z)) [] P := fun F H x xs o hx hxs Q q => by
  cases hxs
  rw [vok_str hx]
  exact ⟨z, rfl, rfl, Nat.le_trans hl (by decide), q _ F H (.dat (.str _)) o (Step.refl o) (.str _) p⟩
theorem cas_strI {i : Int} (h : i.natAbs ≤ big) (p : P (.dat (.str (Str.ofString (toString i))))) : CaS K W rStrA [.dat (.int i)] P := fun F H xs o hx Q q => by
  cases hx with
  | cons e1 e2 =>
    cases e2
    rw [vok_int e1]
    exact .inl ⟨i, rfl, big_log h, q _ F H (.dat (.str _)) o (Step.refl o) (.str _) p⟩
theorem cas_strB {b : Bool} (p : P (.dat (.str (if b then "True" else "False")))) : CaS K W rStrA [.dat (.bool b)] P := fun F H xs o hx Q q => by
  cases hx with
  | cons e1 e2 =>
    cases e2
    rw [vok_bool e1]
    exact .inr ⟨b, rfl, q _ F H (.dat (.str _)) o (Step.refl o) (.str _) p⟩
end
end DL
namespace DL
open PySem L2
section
variable {k w n : Nat} {d : D} {ds : List D}
theorem bd_int {i : Int} (h : i.natAbs ≤ k) (hk : k ≤ big) : Bd k 198 n (.int i) := by
  refine ⟨by simp only [okD]; exact decide_eq_true h, ?_, by simp [PyData.depth]⟩
  have q : i.natAbs ≤ big := Nat.le_trans h hk
  simp only [PyData.weight]
  split
  · exact Nat.zero_le _
  · next z =>
    have z : i.natAbs ≠ 0 := fun e => z (by rw [Int.natAbs_eq_zero.mp e]; rfl)
    have : i.natAbs.log2 < 198 := by
      rw [Nat.log2_lt z]
      exact Nat.lt_of_le_of_lt q (by decide +kernel)
    omega
theorem bd_bool {b : Bool} : Bd k w n (.bool b) := ⟨rfl, by simp [PyData.weight], by simp [PyData.depth]⟩
theorem bd_none : Bd k w n .none := ⟨rfl, by simp [PyData.weight], by simp [PyData.depth]⟩
theorem bds_one (h : Bd k w n d) : Bds k (w + 1) n [d] := (bds_cons h bds_nil (b := 0)).mono (Nat.le_refl _) (by omega) (Nat.le_refl _)
theorem okD_int {i : Int} (h : okD k (.int i) = true) : i.natAbs ≤ k := by simpa only [okD, decide_eq_true_eq] using h
theorem bd_self (h : okD k d = true) : Bd k d.weight d.depth d := ⟨h, Nat.le_refl _, Nat.le_refl _⟩
end
end DL

namespace DL
open PySem L2
/-! ### expressions that change an own list: xs.pop(i) in a comprehension -/
section
variable {K : PySem.W.Frag} {W : Wd} {H0 F0 : Hp} {ρ : Rho} {te : TE} {N : Ends2}
/-- all but the own lists of ρ stands -/
structure But (W : Wd) (σ : St) (ρ : Rho) (F H F' H' : Hp) : Prop where
  fz : Same F F'
  kp : ∀ b u, ¬ W.Z b → (∀ (i : Nat) (es : List D), ρ[i]? = some (.ls es) → σ[i]? ≠ some (some (.ref b))) → H b = some u → H' b = some u
  nw : ∀ b, F b = none → H b ≠ none → F' b = none
def Ev2 (K : PySem.W.Frag) (W : Wd) (H0 F0 : Hp) (te : TE) (ρ : Rho) (P : Sl → Rho → Prop) : Prop := ∀ σ F H, At K W H0 F0 σ F H ρ → ∀ Q : VK,
  (∀ v F' H' s ρ', At K W H0 F0 σ F' H' ρ' → But W σ ρ F H F' H' → VOk K W F' H' v s → P s ρ' → Q v H') → te σ H Q
theorem ev2_of {P : Sl → Rho → Prop} (h : Ev K W H0 te ρ fun s => P s ρ) : Ev2 K W H0 F0 te ρ P := fun σ F H a Q q => h σ F H a.ok a.ho Q fun v F' H' s o st hv p => q v F' H' s ρ (a.step o st) ⟨st.fz, fun b u hz _ e => st.kp b u hz e, st.nw⟩ hv p
theorem ev2_pop {i : Nat} {ds : List D} {P : Sl → Rho → Prop} (hi : ρ[i]? = some (.ls ds)) (h : Ev K W H0 te ρ fun s => ∃ n : Nat, s = .dat (.int n) ∧ n < 2 ^ 62 ∧ ∃ d, ds[n]? = some d ∧ P (.dat d) (ρ.set i (.ls (ds.eraseIdx n)))) :
    Ev2 K W H0 F0 (tBM K "list" rPopAt (tVar i) (tCons te tNil)) ρ P := fun σ F H a Q q => by
  obtain ⟨p, vs, g1, g2, g3, g4, g5, g6⟩ := a.ho.at_ i _ hi
  refine ⟨.ref p, g1, .inl ⟨rfl, _, SqL.of g2⟩, ?_⟩
  refine h σ F H a.ok a.ho _ fun v F' H' s o st hv ⟨n, e, hn, d, hd, k⟩ => ?_
  subst e
  rw [vok_int hv]
  have g2' := st.kp p _ g4 g2
  have g3' := st.nw p g3 (by rw [g2]; exact fun z => nomatch z)
  have g6' := dpa_mono st.fz g6
  obtain ⟨y, hy, hyd⟩ := dpa_get' g6' hd
  have hlt : n < vs.length := (List.getElem?_eq_some_iff.mp hy).1
  refine ⟨p, vs, n, n, y, rfl, rfl, g2', by omega, by omega, ?_, hy, ?_⟩
  · rw [seqIndex_of (by omega) (by omega)]
    simp
  have a' := a.step o st
  have o2 : Ok W F' (upd H' p (.lst (vs.eraseIdx n))) := o.mut g2' g4 g3'
  refine q y F' _ (.dat d) (ρ.set i (.ls (ds.eraseIdx n))) ⟨o2, ⟨a'.st.fz, fun b' u hz' e' => ?_, fun b' hf hh => a'.st.nw b' hf hh⟩, a'.ho.mut hi g1 (dpa_erase n g6')⟩ ⟨st.fz, fun b' u hz' hno e' => ?_, st.nw⟩ hyd k
  · have q : b' ≠ p := fun z => by rw [z, g5] at e'; cases e'
    rw [upd_ne q]
    exact a'.st.kp b' u hz' e'
  · have q : b' ≠ p := fun z => hno i ds hi (z ▸ g1)
    rw [upd_ne q]
    exact st.kp b' u hz' e'
theorem wipe_off {σ : St} {i : Nat} : ∀ {vs : List Nat}, i ∉ vs → (wipe σ vs)[i]? = σ[i]?
  | [], _ => rfl
  | u :: us, h => by
    show ((wipe σ us).set u none)[i]? = _
    have hu : u ≠ i := fun z => h (by rw [z]; exact List.mem_cons_self)
    rw [List.getElem?_set_ne hu, wipe_off fun z => h (List.mem_cons_of_mem _ z)]
theorem wipeR_off {ρ : Rho} {i : Nat} : ∀ {vs : List Nat}, i ∉ vs → (wipeR ρ vs)[i]? = ρ[i]?
  | [], _ => rfl
  | u :: us, h => by
    show ((wipeR ρ us).set u .un)[i]? = _
    have hu : u ≠ i := fun z => h (by rw [z]; exact List.mem_cons_self)
    rw [List.getElem?_set_ne hu, wipeR_off fun z => h (List.mem_cons_of_mem _ z)]
theorem wipe_back {σ : St} {i : Nat} {v : V} : ∀ {vs : List Nat}, (wipe σ vs)[i]? = some (some v) → σ[i]? = some (some v)
  | [], h => h
  | u :: us, h => by
    have h : ((wipe σ us).set u none)[i]? = some (some v) := h
    by_cases q : u = i
    · subst q
      rw [List.getElem?_set] at h
      simp at h
    · rw [List.getElem?_set_ne q] at h
      exact wipe_back h
theorem wipe_len {σ : St} : ∀ {vs : List Nat}, (wipe σ vs).length = σ.length
  | [] => rfl
  | u :: us => by
    show ((wipe σ us).set u none).length = _
    rw [List.length_set, wipe_len]
theorem Holds.unwipe {σ : St} {F H : Hp} {vs : List Nat} (h : Holds K W H0 (L2.wipe σ vs) F H ρ) : Holds K W H0 σ F H ρ := by
  refine ⟨by rw [← h.len, wipe_len], fun i s e => ?_, fun i j ds es p hij e1 e2 e3 e4 => ?_⟩
  · have g := h.at_ i s e
    cases s with
    | un => trivial
    | dat d => obtain ⟨w, g1, g2⟩ := g; exact ⟨w, wipe_back g1, g2⟩
    | ls ds => obtain ⟨p, ws, g1, g2⟩ := g; exact ⟨p, ws, wipe_back g1, g2⟩
    | rf u => exact wipe_back g
  · obtain ⟨p1, _, g1, _⟩ := h.at_ i _ e1
    obtain ⟨p2, _, g2, _⟩ := h.at_ j _ e2
    have k1 := wipe_back g1
    have k2 := wipe_back g2
    rw [e3] at k1
    rw [e4] at k2
    have q1 : p = p1 := by simpa using k1
    have q2 : p = p2 := by simpa using k2
    exact h.dis i j ds es p hij e1 e2 (q1 ▸ g1) (q2 ▸ g2)
theorem yes_then {σ : St} {H : Hp} {A B : Hp → Prop} (h : A H) : tYes σ H fun b H3 => if b = true then A H3 else B H3 := by
  show (if true = true then A H else B H)
  rw [if_pos rfl]
  exact h
/-- xs = [e for ..], e changes the own list at slot j -/
theorem sx_lc2 {wi : TI} {g : TG} {vs : List Nat} {j k : Nat} {p0 : List D} (hj : (wipeR ρ vs)[j]? = some (.ls p0)) (J : List D → Nat → List D → List D → Prop)
    (h : EvI K W H0 wi ρ fun ds => ds.length < sizeLine ∧ J ds 0 [] p0 ∧ (∀ i d acc p, ds[i]? = some d → J ds i acc p → GC K W H0 vs g (.dat d) ((wipeR ρ vs).set j (.ls p)) fun ρ2 => (∀ i ∈ vs, ∀ es, ρ2[i]? ≠ some (.ls es)) ∧ wipeR ρ2 vs = (wipeR ρ vs).set j (.ls p) ∧
      Ev2 K W H0 F0 te ρ2 fun s ρ3 => ∃ e p', s = .dat e ∧ wipeR ρ3 vs = (wipeR ρ vs).set j (.ls p') ∧ J ds (i + 1) (acc ++ [e]) p') ∧
      ∀ acc p, J ds ds.length acc p → N.nx (((wipeR ρ vs).set j (.ls p)).set k (.ls acc))) :
    Sx K W H0 F0 (tAsg (tLc wi g tYes te vs) (gName k)) ρ N := fun σ F H a D n r b c =>
  h σ F H a.ok a.ho _ fun Jt F' H' ds o' st it ⟨hl, j0, js, jd⟩ => by
    have a' := a.step o' st
    obtain ⟨G, Y, w, hG, hY⟩ := it.w
    intro Da hD
    obtain ⟨oD, stD⟩ := o'.own (u := .lst []) hD
    have nz : ¬ W.Z Da := o'.nz hD
    have h0 : H0 Da = none := a'.st.back o' hD
    have hw := a'.ho.wipe vs
    have own : ∀ (i : Nat) (es : List DL.D), (wipeR ρ vs)[i]? = some (.ls es) → (wipe σ vs)[i]? ≠ some (some (.ref Da)) := fun i es e z => by
      obtain ⟨q, ws, g1, g2, _⟩ := hw.at_ i _ e
      rw [z] at g1
      have : Da = q := by simpa using g1
      rw [← this, hD] at g2
      cases g2
    have j0' : (wipeR ρ vs).set j (.ls p0) = wipeR ρ vs := by
      have hlt := (List.getElem?_eq_some_iff.mp hj).1
      refine List.ext_getElem? fun m => ?_
      by_cases q : j = m
      · subst q
        rw [List.getElem?_set_self hlt, hj]
      · rw [List.getElem?_set_ne q]
    have own2 : ∀ (p : List DL.D) (i : Nat) (es : List DL.D), ((wipeR ρ vs).set j (.ls p))[i]? = some (.ls es) → (wipe σ vs)[i]? ≠ some (some (.ref Da)) := fun p i es e => by
      by_cases q : j = i
      · subst q
        exact own j p0 hj
      · rw [List.getElem?_set_ne q] at e
        exact own i es e
    have ofD : ∀ {F2 H2 : Hp} {ws : List V} {ρ' : Rho}, (∀ (i : Nat) (es : List DL.D), ρ'[i]? = some (.ls es) → (wipe σ vs)[i]? ≠ some (some (.ref Da))) → Holds K W H0 (wipe σ vs) F2 H2 ρ' → Holds K W H0 (wipe σ vs) F2 (upd H2 Da (.lst ws)) ρ' := fun {F2 H2 ws ρ'} own h => by
      refine ⟨h.len, fun i s e => ?_, h.dis⟩
      have g := h.at_ i s e
      cases s with
      | un => trivial
      | dat d => exact g
      | ls es =>
        obtain ⟨q, xs, g1, g2, g3⟩ := g
        have z : q ≠ Da := fun z => own i es e (z ▸ g1)
        exact ⟨q, xs, g1, by rw [upd_ne z]; exact g2, g3⟩
      | rf u => exact g
    refine lc_it w (fun i H2 => ∃ F2 vs2 acc p, Ok W F2 H2 ∧ Same F' F2 ∧ Step W F0 H0 F2 H2 ∧ H2 Da = some (.lst vs2) ∧ F2 Da = none ∧ DpAll K F2 vs2 acc ∧ acc.length ≤ i ∧ Holds K W H0 (wipe σ vs) F2 H2 ((wipeR ρ vs).set j (.ls p)) ∧ J ds i acc p) ?_ ?_ ?_ ?_
    · exact ⟨F', [], [], p0, oD, Same.refl _, a'.st.trans o' stD, upd_same, o'.free hD, .nil, Nat.le_refl _, by rw [j0']; exact hw.step stD, j0⟩
    · rintro i H2 _ ⟨F2, vs2, acc, p, o2, sm2, _⟩
      exact hG F2 H2 o2 sm2
    · rintro i x H2 H3 hi ⟨F2, vs2, acc, p, o2, sm2, st2, hA, hF, hd, ha, hh, jj⟩ y
      obtain ⟨F3, d, o3, st3, e1, e2⟩ := hY i x F2 H2 H3 hi o2 sm2 y
      have hs := js i d acc p e1 jj
      have hA3 := st3.kp _ _ nz hA
      have hF3 := st3.nw Da hF (by rw [hA]; exact fun z => nomatch z)
      refine hs x (wipe σ vs) F3 H3 o3 (hh.step st3) e2 _ fun σ4 ρ4 h4 ew ⟨oA, oB, ev⟩ => ?_
      have ew := ew.trans (wipe_idem fun _ z => z)
      refine ⟨ew, ?_⟩
      have notD : ∀ (i : Nat) (es : List DL.D), ρ4[i]? = some (.ls es) → σ4[i]? ≠ some (some (.ref Da)) := fun i es e z => by
        have m : i ∉ vs := fun m => oA i m es e
        refine own2 p i es ?_ ?_
        · rw [← oB, wipeR_off m]
          exact e
        · rw [← ew, wipe_off m]
          exact z
      refine yes_then ?_
      have sm3 : Same F' F3 := sm2.trans st3.fz
      refine ev σ4 F3 H3 ⟨o3, st2.trans o2 st3, h4⟩ _ fun v F5 H5 s ρ5 a5 bt hv ⟨e, p', es, eR, jn⟩ => ?_
      subst es
      have hA5 := bt.kp Da _ nz notD hA3
      have hF5 := bt.nw Da hF3 (by rw [hA3]; exact fun z => nomatch z)
      have hd5 := dpa_mono bt.fz (dpa_mono st3.fz hd)
      have h5 := a5.ho.wipe vs
      rw [ew, eR] at h5
      refine ⟨vs2, hA5, by rw [dpa_len hd5]; omega, F5, vs2 ++ [v], acc ++ [e], p', a5.ok.mut hA5 nz hF5, sm3.trans bt.fz, ⟨a5.st.fz, fun b u hz e => ?_, a5.st.nw⟩, upd_same, hF5, dpa_app hd5 (.cons hv .nil), by rw [List.length_append, List.length_singleton]; omega, ofD (own2 p') h5, jn⟩
      have q : b ≠ Da := fun z => by rw [z, h0] at e; cases e
      rw [upd_ne q]
      exact a5.st.kp b u hz e
    · rintro H2 ⟨F2, vs2, acc, p, o2, sm2, st2, hA, hF, hd, ha, hh, jj⟩
      refine n _ F2 H2 _ ⟨o2, st2, hh.unwipe.setOwn hA hF nz h0 hd fun i es e z => ?_⟩ (st.fz.trans sm2) (jd acc p jj)
      obtain ⟨q, ws, g1, _⟩ := hh.at_ i _ e
      have := wipe_back g1
      rw [z] at this
      have q1 : Da = q := by simpa using this
      exact own2 p i es e (q1 ▸ g1)
end
section
variable {X : Cx}
/-- a method in a block, whose kit is known -/
theorem pe_bmK {K : PySem.W.Frag} {T : String} {id : String} {name : Str} {r : V → List V → Hp → VK → Prop} {o e : Expr} {es : List Expr} {to : TE} {t : TA} {apos cpos : Pos} (hK : X.K = K) (pa : PlainAttrs T) (slot : Slot T name id) (hty : typeOf (.builtin id) = pure (.type "method_descriptor")) (hm : MtR X id r) (ho : PE X o to) (ha : PA X (e :: es) t)
    (hbase : attributeBase o name X.env (eval o X.env) = eval o X.env := by rfl)
    (hfew : ((backTo cpos (starEach (e :: es) X.env)).all (fun x => !x.1) && (backToKw cpos (keywordEach [] X.env)).all (fun x => x.1.isSome) && decide ((e :: es).length + ([] : List Keyword).length + (if ([] : List Keyword).isEmpty then 0 else 1) < 30)) = true := by rfl)
    (hline : (apos.endLine == cpos.line) = true := by rfl) (hs : starEach (e :: es) X.env = (false, eval e X.env) :: starEach es X.env := by rfl) (hplain : (backTo cpos (starEach es X.env)).any (·.1) = false := by rfl) :
    PE X (.Call (.Attribute o name apos) (e :: es) [] cpos) (tBM K T r to t) := by
  subst hK
  exact pe_bm pa slot hty hm ho ha hbase hfew hline hs hplain
/-- sorted: of ints, of texts -/
def rSortedA (K : PySem.W.Frag) : List V → Hp → VK → Prop := fun xs H Q => rSorted K xs H Q ∨ rSortedS K xs H Q
theorem cr_sortedA : CallR X (.builtin "sorted") (rSortedA X.K) := cr_sorted.or cr_sortedS
end
section
variable {K : PySem.W.Frag} {W : Wd} {P : Sl → Prop} {s : Sl}
theorem dpa_ints' {F : Hp} : ∀ {vs : List V} {ns : List Int}, DpAll K F vs (ns.map .int) → vs = ns.map V.int
  | _, [], .nil => rfl
  | _, n :: ns, .cons h1 h2 => by
    rw [dp_int h1, dpa_ints' h2]
    rfl
theorem dpa_ofstrs {F : Hp} : ∀ xs : List Str, DpAll K F (xs.map V.str) (xs.map .str)
  | [] => .nil
  | x :: xs => .cons (.str x) (dpa_ofstrs xs)
theorem cas_sortI {ns : List Int} (hs : LsOf s (ns.map .int)) (hl : ns.length < 64) (p : ∀ ms : List Int, ms.Perm ns → ms.Pairwise (· ≤ ·) → P (.dat (.list (ms.map .int)))) : CaS K W (rSortedA K) [s] P := fun F H xs o hx Q q => by
  cases hx with
  | cons e1 e2 =>
    cases e2
    obtain ⟨a, vs, rfl, a1, a2⟩ := hs.get o e1
    rw [dpa_ints' a2] at a1
    refine .inl ⟨a, ns, rfl, SqL.of a1, hl, fun ms l h1 h2 hn => ?_⟩
    obtain ⟨o2, st2⟩ := o.new (u := .lst (ms.map V.int)) hn
    exact q _ _ _ (.dat (.list (ms.map .int))) o2 st2 (.lst upd_same (ints_dp ms)) (p ms h1 h2)
theorem cas_sortS {ns : List Str} (hs : LsOf s (ns.map .str)) (hl : ns.length < 64) (p : ∀ ms : List Str, ms.Perm ns → PyProof.Rows.sortedS ms = true → P (.dat (.list (ms.map .str)))) : CaS K W (rSortedA K) [s] P := fun F H xs o hx Q q => by
  cases hx with
  | cons e1 e2 =>
    cases e2
    obtain ⟨a, vs, rfl, a1, a2⟩ := hs.get o e1
    rw [dpa_strs a2] at a1
    refine .inr ⟨a, ns, rfl, SqL.of a1, hl, fun ms l h1 h2 hn => ?_⟩
    obtain ⟨o2, st2⟩ := o.new (u := .lst (ms.map V.str)) hn
    exact q _ _ _ (.dat (.list (ms.map .str))) o2 st2 (.lst upd_same (dpa_ofstrs ms)) (p ms h1 h2)
end
end DL

namespace DL
open PySem L2
section
variable {K : PySem.W.Frag} {W : Wd} {H0 F0 : Hp} {ρ : Rho} {te te2 : TE} {N : Ends2}
/-- xs.extend(ys), xs one's own -/
theorem sx_ext {i : Nat} {ds : List D} (hi : ρ[i]? = some (.ls ds)) (h : Ev K W H0 te ρ fun s => ∃ es, s = .dat (.list es) ∧ ds.length + es.length ≤ sizeLine ∧ N.nx (ρ.set i (.ls (ds ++ es)))) :
    Sx K W H0 F0 (tDrop (tBM K "list" rExtend (tVar i) (tCons te tNil))) ρ N := fun σ F H a D n r b c => by
  obtain ⟨p, vs, g1, g2, g3, g4, g5, g6⟩ := a.ho.at_ i _ hi
  refine ⟨.ref p, g1, .inl ⟨rfl, _, SqL.of g2⟩, ?_⟩
  refine h σ F H a.ok a.ho _ fun v F' H' s o' st hv ⟨es, e, hz, k⟩ => ?_
  subst e
  obtain ⟨q, ws, rfl, q1, q2⟩ := dp_lst hv
  have g2' := st.kp p _ g4 g2
  have g3' := st.nw p g3 (by rw [g2]; exact fun z => nomatch z)
  have g6' := dpa_mono st.fz g6
  refine ⟨p, q, vs, ws, rfl, rfl, g2', o'.sub _ _ q1, by rw [dpa_len g6, dpa_len q2]; exact hz, ?_⟩
  have a' := a.step o' st
  have o2 : Ok W F' (upd H' p (.lst (vs ++ ws))) := o'.mut g2' g4 g3'
  refine n σ F' _ _ ⟨o2, ⟨a'.st.fz, fun b' u hz' e' => ?_, fun b' hf hh => ?_⟩, a'.ho.mut hi g1 (dpa_app g6' q2)⟩ st.fz k
  · have q : b' ≠ p := fun z => by rw [z, g5] at e'; cases e'
    rw [upd_ne q]
    exact a'.st.kp b' u hz' e'
  · exact a'.st.nw b' hf hh
/-- x, y = e, a new list -/
theorem sx_parN {i j : Nat} (h : Ev K W H0 te ρ fun s => NoLs s ∧ EvN K W H0 te2 ρ fun ds => N.nx ((ρ.set i s).set j (.ls ds))) : Sx K W H0 F0 (tPar i j (tCons te (tCons te2 tNil))) ρ N := fun σ F H a D n r b c => by
  refine h σ F H a.ok a.ho _ fun v F1 H1 s o1 st1 hv ⟨hn, h2⟩ => ?_
  have a1 := a.step o1 st1
  refine h2 σ F1 H1 o1 a1.ho _ fun p vs F2 H2 ds o2 st2 hp hl hf hz hd k => ?_
  have a2 := a1.step o2 st2
  have hs1 := a1.ho.set (i := i) hv hn
  refine ⟨v, .ref p, rfl, n _ F2 H2 _ ⟨o2, a2.st, ((hs1.step st2)).setOwn hl hf hz (a1.st.back o1 hp) hd fun m es e z => ?_⟩ (st1.fz.trans st2.fz) k⟩
  obtain ⟨q, ws, g1, g2, _⟩ := hs1.at_ m _ e
  rw [z] at g1
  have : p = q := by simpa using g1
  rw [← this, hp] at g2
  cases g2
/-- the rest of a body, its base heap chosen anew -/
theorem sx_anew {ts : TS} {σ : St} {F H : Hp} {D : Ends} (o : Ok W F H) (ho : Holds K W H0 σ F H ρ) (st : Step W F H0 F H) (h : Sx K W H0 F ts ρ N)
    (n : ∀ σ' F' H' ρ', Ok W F' H' → N.nx ρ' → D.nx σ' H') (r : ∀ v F' H' s, Ok W F' H' → VOk K W F' H' v s → N.rt s → D.rt v H') (b : ∀ ρ', ¬ N.bk ρ') (c : ∀ ρ', ¬ N.ct ρ') : ts D σ H :=
  h σ F H ⟨o, st, ho⟩ D (fun σ' F' H' ρ' a' _ k => n σ' F' H' ρ' a'.ok k) (fun v F' H' s o' _ hv k => r v F' H' s o' hv k) (fun σ' F' H' ρ' a' _ k => absurd k (b ρ')) fun σ' F' H' ρ' a' _ k => absurd k (c ρ')
end
end DL
namespace DL
open PySem L2 RZ PySem.Spec PyProof.Rows
section
variable {X : Cx} {k n : Nat} {f : Addr} {fd : FuncData} {ps ks : List Str} {sp : Sp} {x : Str} {p pos : Pos} {e : Expr} {es : List Expr} {t : TA} {dvs : List V}
/-- a def by its name, where dvs fill up -/
structure FnD (Pg : Program) (w : World) (K : PySem.W.Frag) (mg : Str → Option Value) (base : Heap) (x : Str) (k : Nat) (ps : List Str) (sp : Sp) (dvs : List V) : Prop where
  ex : ∃ f fd ds, FnG Pg w K mg base k f fd ps sp ∧ mg x = some (.ref f) ∧ PySem.W.keepIn K (.ref f) = true ∧ Binds K fd ps ds ∧ Vals dvs ds
def tFnD (sp : Sp) (dvs : List V) (t : TA) : TE := fun σ H Q => t σ H fun vs H1 => sp (vs ++ dvs) H1 Q E0
theorem pe_fnD (C : FnD X.prog X.w X.K X.mg X.base x k ps sp dvs) (hgd : X.A.guards = some []) (hr : Room k X.A) (hg : Gl X x) (ha : PA X (e :: es) t) (hdb : (x == ("__debug__" : Str)) = false := by decide)
    (he : starEach (e :: es) X.env = (false, eval e X.env) :: starEach es X.env := by rfl) (hpl : (backTo pos (starEach es X.env)).any (·.1) = false := by rfl) : PE X (.Call (.Name x p) (e :: es) [] pos) (tFnD sp dvs t) := by
  obtain ⟨f, fd, ds, F, hm, hk, hb, hd⟩ := C.ex
  refine ⟨fun pins s σ H Q I h => wpAny_Call_Name_kw (ld_glob I hg hm ?_ hdb)⟩
  refine PySem.W.callWith_K (h₀ := X.base) I.ok.mod.kin hk (thn (ha.run pos pins s σ H _ I h) ?_) he hpl
  rintro us s1 ⟨vs, H1, I1, r, q⟩
  have r2 : Vals (vs ++ dvs) (us ++ ds) := r.append hd
  have hl : (us ++ ds).length = ps.length := by rw [← r2.length]; exact F.len _ _ _ _ q
  exact ⟨I1.kIn, run_G (args := ⟨us, []⟩) F hgd hr I1 (hb s1 us I1.kIn hl) r2 q⟩
end
section
variable {K : PySem.W.Frag} {W : Wd} {H0 : Hp} {ρ : Rho} {P : Sl → Prop} {t tk : TA}
/-- .. the second of two is None -/
theorem ev_fnD {p : D → D → Prop} {f : D → D → D} (h : EvA K W H0 t ρ fun ss => ∃ d, ss = [.dat d] ∧ p d .none ∧ P (.dat (f d .none))) : Ev K W H0 (tFnD (Pm2 K p f) [.non] t) ρ P := fun σ F H o ho Q q =>
  h σ F H o ho _ fun vs F1 H1 ss o1 st1 hv ⟨d, e, hp, k⟩ => by
    subst e
    cases hv with
    | cons h1 h2 =>
      cases h2
      exact ⟨W, F1, [.dat d, .dat .none], o1, .cons h1 (.cons .non .nil), by simp [NoLs], rfl, ⟨d, .none, rfl, hp⟩, fun v F2 H2 s o2 st2 hv2 p2 => q v F2 H2 s o2 (st1.trans o1 st2) hv2 (by rw [p2 d .none rfl]; exact k)⟩
/-- one by place, one by name -/
theorem ev_fnK11 {p : D → D → Prop} {f : D → D → D} (h : EvA K W H0 t ρ fun ss => EvA K W H0 tk ρ fun rs => ∃ d e, ss = [.dat d] ∧ rs = [.dat e] ∧ p d e ∧ P (.dat (f d e))) : Ev K W H0 (tFnK 1 1 (Pm2 K p f) (fun vs zs => vs ++ zs) t tk) ρ P := fun σ F H o ho Q q =>
  h σ F H o ho _ fun vs F1 H1 ss o1 st1 hv h2 => h2 σ F1 H1 o1 (ho.step st1) _ fun zs F2 H2 rs o2 st2 hz ⟨d, e, e1, e2, hp, k⟩ => by
    subst e1 e2
    cases hv with
    | cons h1 hn =>
      cases hn
      cases hz with
      | cons g1 gn =>
        cases gn
        exact ⟨rfl, rfl, W, F2, [.dat d, .dat e], o2, .cons (h1.step st2) (.cons g1 .nil), by simp [NoLs], rfl, ⟨d, e, rfl, hp⟩, fun v F3 H3 s o3 st3 hv2 p2 => q v F3 H3 s o3 ((st1.trans o1 st2).trans o2 st3) hv2 (by rw [p2 d e rfl]; exact k)⟩
/-- one by name -/
theorem ev_fnK01 {p : D → Prop} {f : D → D} (h : EvA K W H0 tk ρ fun rs => ∃ d, rs = [.dat d] ∧ p d ∧ P (.dat (f d))) : Ev K W H0 (tFnK 0 1 (Pm1 K p f) (fun vs zs => zs) tNil tk) ρ P := fun σ F H o ho Q q =>
  h σ F H o ho _ fun zs F1 H1 rs o1 st1 hz ⟨d, e, hp, k⟩ => by
    subst e
    cases hz with
    | cons h1 hn =>
      cases hn
      exact ⟨rfl, rfl, W, F1, [.dat d], o1, .cons h1 .nil, by simp [NoLs], rfl, ⟨d, rfl, hp⟩, fun v F3 H3 s o3 st3 hv2 p2 => q v F3 H3 s o3 (st1.trans o1 st3) hv2 (by rw [p2 d rfl]; exact k)⟩
def swapV (vs zs : List V) : List V := match zs with
  | [a, b] => [b, a]
  | _ => zs
/-- two by name, the second first -/
theorem ev_fnK02 {p : D → D → Prop} {f : D → D → D} (h : EvA K W H0 tk ρ fun rs => ∃ d e, rs = [.dat e, .dat d] ∧ p d e ∧ P (.dat (f d e))) : Ev K W H0 (tFnK 0 2 (Pm2 K p f) swapV tNil tk) ρ P := fun σ F H o ho Q q =>
  h σ F H o ho _ fun zs F1 H1 rs o1 st1 hz ⟨d, e, e1, hp, k⟩ => by
    subst e1
    cases hz with
    | cons h1 hn =>
      cases hn with
      | cons h2 hn =>
        cases hn
        exact ⟨rfl, rfl, W, F1, [.dat d, .dat e], o1, .cons h2 (.cons h1 .nil), by simp [NoLs], rfl, ⟨d, e, rfl, hp⟩, fun v F3 H3 s o3 st3 hv2 p2 => q v F3 H3 s o3 (st1.trans o1 st3) hv2 (by rw [p2 d e rfl]; exact k)⟩
end
end DL

namespace DL
open PySem L2 RZ PySem.Spec PyProof.Rows
/-! ### the law's call, where no object is being shown -/
section
variable {Pg : Program} {w : World} {K : PySem.W.Frag} {mg mb : Str → Option Value} {k : Nat} {fl p : Addr} {fd : FuncData} {x : Str} {sp : Sp} {st : Shared} {us : List Value} {zs : List Int}
/-- what the whole call has to come to -/
abbrev Told (s0 : Shared) : Result → Shared → Prop := fun r s2 => r = .ok (.ret (.bool true)) ∧ OldK s0.heap s2.heap ∧ s2.os = s0.os ∧ AllBare s2.gens
/-- from a heap that tracks the script alone, if anything -/
theorem told_from (KX : K.In st.heap) (hm : st.heap.Ns mainGlobals mg) (hb : st.heap.Ns builtinsNs mb) (hbb : ∀ y : Str, y ≠ "__name__" → mb y = bootBuiltins y) (hl : st.heap.NoLimit) (hg : st.gens = #[])
    (hp : st.heap.get? p = some { cls := .type "list", data := .seq us.toArray }) (hr : Room k callerA) (F : ∀ base : Heap, K.In base → base.Ns mainGlobals mg → FnG Pg w K mg base k fl fd [x] sp)
    (bd : ∀ (s : Shared) (u : Value), BindsTo s fd ⟨[u], []⟩ [(x, u)]) (H : Hp) (only : Only H) (ok : HOk Pg w H st.heap) (one : ∀ b, H b ≠ none → b = p) (out : H p ≠ none → K.lookup p = none)
    (hs : sp [.ref p] H (fun v _ => v = .bl true) E0) : codeAny (model Pg w) callerA (.call (.ref fl) ⟨[.ref p], []⟩) (Told st) st := by
  have hid : ∀ {b : Addr} {ob : Obj}, st.heap.get? b = some ob → H b = none → (hidT st.heap H).get? b = some ob := fun a b => hidT_get a b
  have dicts : ∀ {b : Addr} {ob : Obj} {es : Array DictEntry} {n : Nat}, st.heap.get? b = some ob → ob.data = .dict es n → H b = none := fun {b ob es n} g d => by
    cases hb : H b with
    | none => rfl
    | some u =>
      obtain rfl : b = p := one b (by rw [hb]; exact fun z => nomatch z)
      rw [hp] at g
      cases g
      have d : Data.seq us.toArray _ = Data.dict es n := d
      cases d
  have names : ∀ {b : Addr} {m : Str → Option Value}, st.heap.Ns b m → (hidT st.heap H).Ns b m := fun {b m} h => by
    obtain ⟨ob, es, n, g, d, r⟩ := h
    exact ⟨ob, es, n, hid g (dicts g d), d, r⟩
  have kin : K.In (hidT st.heap H) := fun b ob g => hid (KX b ob g) (by
    cases hb : H b with
    | none => rfl
    | some u =>
      obtain rfl : b = p := one b (by rw [hb]; exact fun z => nomatch z)
      rw [out (by rw [hb]; exact fun z => nomatch z)] at g
      cases g)
  have md : Mod K mg (hidT st.heap H) := by
    obtain ⟨mc, n1, n2⟩ := hl
    exact ⟨kin, names hm, ⟨mb, names hb, hbb⟩, ⟨mc, names n1, n2⟩⟩
  have env : Env0 Pg w K mg (hidT st.heap H) callerA [] st H := ⟨rfl, md, fun b ob g => of_hidT g, Nat.le_of_eq (hidT_size _ _), trivial, fun b z => absurd (show b ∈ ([] : List Addr) from z) (by simp), ok, .of_eq hg⟩
  have run := (F _ kin (names hm)).run callerA [] st H ⟨[.ref p], []⟩ [.ref p] [.ref p] _ rfl hr env (bd st (.ref p)) (.cons rfl .nil) hs
  refine codeAny_mono run fun r s2 h => ?_
  match r, h with
  | .error e, h => exact False.elim h
  | .ok .next, h => exact False.elim h
  | .ok .brk, h => exact False.elim h
  | .ok .cont, h => exact False.elim h
  | .ok (.ret u), h =>
    obtain ⟨v, H2, os, bare, un, ok2, rel, e⟩ := h
    have e : v = .bl true := e
    subst e
    obtain rfl : u = Value.bool true := rel
    refine ⟨rfl, OldK.of_keep fun b ob g => ?_, os, bare⟩
    rcases hb : H b with _ | u2
    · exact un.keep b ob g hb (by intro z; exact absurd (show b ∈ ([] : List Addr) from z) (by simp)) (by simp)
    · rcases only b with z | ⟨o3, xs, z⟩
      · rw [hb] at z
        cases z
      · obtain ⟨g1, _⟩ := ok b _ z
        obtain ⟨g2, _⟩ := ok2 b _ (un.frzs b o3 _ z)
        rw [g] at g1
        cases g1
        exact g2
theorem told_call (KX : K.In st.heap) (hm : st.heap.Ns mainGlobals mg) (hb : st.heap.Ns builtinsNs mb) (hbb : ∀ y : Str, y ≠ "__name__" → mb y = bootBuiltins y) (hl : st.heap.NoLimit) (hg : st.gens = #[])
    (hp : st.heap.get? p = some { cls := .type "list", data := .seq us.toArray }) (hi : IntsAre us zs) (hz : zs.length ≤ sizeLine) (hr : Room k callerA) (F : ∀ base : Heap, K.In base → base.Ns mainGlobals mg → FnG Pg w K mg base k fl fd [x] sp)
    (bd : ∀ (s : Shared) (u : Value), BindsTo s fd ⟨[u], []⟩ [(x, u)]) (hs : ∀ H : Hp, SqL K H p (zs.map V.int) → sp [.ref p] H (fun v _ => v = .bl true) E0) :
    codeAny (model Pg w) callerA (.call (.ref fl) ⟨[.ref p], []⟩) (Told st) st := by
  have rel := vals_ints hi
  have len := hi.length
  rcases lk : K.lookup p with _ | o
  · let H : Hp := fun b => if b = p then some (.frz { cls := .type "list", data := .seq us.toArray } (.lst (zs.map V.int))) else none
    have at_ : H p = some (.frz { cls := .type "list", data := .seq us.toArray } (.lst (zs.map V.int))) := if_pos rfl
    have off : ∀ b, b ≠ p → H b = none := fun b n => if_neg n
    refine told_from KX hm hb hbb hl hg hp hr F bd H (fun b => ?_) (fun b u g => ?_) (fun b z => ?_) (fun _ => lk) (hs H (.inl (.inr ⟨_, at_⟩)))
    · by_cases n : b = p
      · rw [n, at_]
        exact .inr ⟨_, _, rfl⟩
      · exact .inl (off b n)
    · by_cases n : b = p
      · subst n
        rw [at_] at g
        cases g
        have hz2 : (zs.map V.int).length ≤ sizeLine := by
          rw [List.length_map]
          exact hz
        exact ⟨hp, hz2, us, _, rel, hp⟩
      · rw [off b n] at g
        cases g
    · by_cases n : b = p
      · exact n
      · exact absurd (off b n) z
  · have g := KX p o lk
    rw [hp] at g
    cases g
    refine told_from KX hm hb hbb hl hg hp hr F bd (fun _ => none) (fun _ => .inl rfl) (fun b u z => ?_) (fun b z => absurd rfl z) (fun z => absurd rfl z) (hs _ (.inr ⟨_, us.toArray, _, lk, rfl, rfl, rfl, ?_, ?_⟩))
    · have z : (none : Option HO) = some u := z
      cases z
    · rw [List.size_toArray, len]
      exact hz
    · simpa using rel
end
/-- the goal behind the head -/
theorem told_walk {l : PySem.W.OpenLaw} {n k : Nat} {q : Program} {loose : List Str} {XP : (Str → Option Value) → Heap → Prop} {YP : World → Heap → Prop} {d : DefRec} {K : Params → PySem.W.Frag} {sp : PySem.W.Frag → Sp} {x : Str}
    (hn : l.most = some n) (hz : n ≤ sizeLine) (hdf : d.params.defaults = []) (hr : Room k callerA) (hY : ∀ (w : World) (h : Heap), YP w h → (K w.params).In h)
    (F : ∀ (w : World) (mg : Str → Option Value) (fl : Addr) (h : Heap), (K w.params).In h → h.Ns mainGlobals mg → mg d.name = some (.ref fl) → ∃ fd : FuncData, (∀ (s : Shared) (u : Value), BindsTo s fd ⟨[u], []⟩ [(x, u)]) ∧
      ∀ base : Heap, (K w.params).In base → base.Ns mainGlobals mg → FnG l.prog w (K w.params) mg base k fl fd [x] (sp (K w.params)))
    (hs : ∀ (K : PySem.W.Frag) (H : Hp) (p : Addr) (zs : List Int), zs.length ≤ n → SqL K H p (zs.map V.int) → sp K [.ref p] H (fun v _ => v = .bl true) E0) : PySem.W.WalkO q loose XP YP l.row.toRowW d [] (fun f vs => PySem.call f vs) :=
  Att.attach_call hn hdf fun w _ st mg mb fl _ _ _ _ p us zs G Y _ _ _ hmg hp hi hlen hg => by
    have KX := hY w _ Y
    obtain ⟨fd, bd, hF⟩ := F w mg fl _ KX G.T.g hmg
    exact told_call KX G.T.g G.T.b G.T.builtins G.T.nolimit hg hp hi (Nat.le_trans hlen hz) hr hF bd fun H h => hs _ H p zs hlen h
end DL

namespace DL
open PySem L2
section
variable {K : PySem.W.Frag} {W : Wd} {H0 F0 : Hp} {ρ : Rho} {te te2 : TE} {N : Ends2}
theorem sx_extx {i : Nat} (h : ∃ ds, ρ[i]? = some (.ls ds) ∧ Ev K W H0 te ρ fun s => ∃ es, s = .dat (.list es) ∧ ds.length + es.length ≤ sizeLine ∧ N.nx (ρ.set i (.ls (ds ++ es)))) : Sx K W H0 F0 (tDrop (tBM K "list" rExtend (tVar i) (tCons te tNil))) ρ N :=
  let ⟨_, a, b⟩ := h; sx_ext a b
theorem cas_listT {P : Sl → Prop} {ds : List D} (p : P (.dat (.list ds))) : CaS K W (rListOf K) [.dat (.tuple ds)] P := cas_listF (.inl rfl) p
/-- x, y = e, e' -/
theorem sx_par {i j : Nat} (h : Ev K W H0 te ρ fun s => NoLs s ∧ Ev K W H0 te2 ρ fun t => NoLs t ∧ N.nx ((ρ.set i s).set j t)) : Sx K W H0 F0 (tPar i j (tCons te (tCons te2 tNil))) ρ N := fun σ F H a D n r b c => by
  refine h σ F H a.ok a.ho _ fun v F1 H1 s o1 st1 hv ⟨hn, h2⟩ => ?_
  have a1 := a.step o1 st1
  refine h2 σ F1 H1 o1 a1.ho _ fun u F2 H2 t o2 st2 hu ⟨hn2, k⟩ => ?_
  have a2 := a1.step o2 st2
  exact ⟨v, u, rfl, n _ F2 H2 _ ⟨o2, a2.st, (a2.ho.set (hv.step st2) hn).set hu hn2⟩ (st1.fz.trans st2.fz) k⟩
end
/-! ### functions that give a new list back, to be changed -/
def PmN (K : PySem.W.Frag) (n : Nat) (Pre : Wd → Rho → Prop) (PN : List D → Prop) : Sp := fun vs H Q _ => ∃ W F ss, Ok W F H ∧ Paired (VOk K W F H) vs ss ∧ (∀ s ∈ ss, NoLs s) ∧ ss.length = n ∧ Pre W ss ∧
  ∀ p us F' H' ds, Ok W F' H' → Step W F H F' H' → H p = none → H' p = some (.lst us) → F' p = none → ¬ W.Z p → DpAll K F' us ds → PN ds → Q (.ref p) H'
section
variable {K : PySem.W.Frag} {W : Wd} {H0 F0 : Hp} {ρ : Rho} {te : TE} {t : TA} {PN : List D → Prop} {n : Nat} {Pre : Wd → Rho → Prop}
theorem pmN_len (vs : List V) (H : Hp) (Q : VK) (E : XK) (h : PmN K n Pre PN vs H Q E) : vs.length = n := by
  obtain ⟨W, F, ss, _, h1, _, h2, _⟩ := h
  exact (Paired.length h1).trans h2
theorem evn_fn {PN' : List D → Prop} (h : EvA K W H0 t ρ fun ss => (∀ s ∈ ss, NoLs s) ∧ ss.length = n ∧ Pre W ss ∧ ∀ ds, PN ds → PN' ds) : EvN K W H0 (tFn (PmN K n Pre PN) t) ρ PN' := fun σ F H o ho Q q =>
  h σ F H o ho _ fun vs F1 H1 ss o1 st1 hv ⟨h1, h2, h3, h4⟩ => ⟨W, F1, ss, o1, hv, h1, h2, h3, fun p us F2 H2 ds o2 st2 hp hl hf hz hd k => q p us F2 H2 ds o2 (st1.trans o1 st2) (st1.back o1 hp) hl hf hz hd (h4 ds k)⟩
/-- statements that end in such a list -/
def SxN (K : PySem.W.Frag) (W : Wd) (H0 F0 : Hp) (ts : TS) (ρ : Rho) (PN : List D → Prop) : Prop := ∀ σ F H, At K W H0 F0 σ F H ρ → ∀ D : Ends,
  (∀ p us F' H' ds, Ok W F' H' → Step W F0 H0 F' H' → H0 p = none → H' p = some (.lst us) → F' p = none → ¬ W.Z p → DpAll K F' us ds → PN ds → D.rt (.ref p) H') → ts D σ H
theorem sxn_seq {u v : TS} (h : Sx K W H0 F0 u ρ { nx := fun ρ' => SxN K W H0 F0 v ρ' PN, rt := fun _ => False }) : SxN K W H0 F0 (tSeq u v) ρ PN := fun σ F H a D r =>
  h σ F H a _ (fun σ' F' H' ρ' a' _ k => k σ' F' H' a' D r) (fun _ _ _ _ _ _ _ f => f.elim) (fun _ _ _ _ _ _ f => f.elim) fun _ _ _ _ _ _ f => f.elim
theorem sxn_ret {i : Nat} {ds : List D} (hi : ρ[i]? = some (.ls ds)) (k : PN ds) : SxN K W H0 F0 (tRet (tVar i)) ρ PN := fun σ F H a D r => by
  obtain ⟨p, vs, g1, g2, g3, g4, g5, g6⟩ := a.ho.at_ i _ hi
  exact ⟨.ref p, g1, r p vs F H ds a.ok a.st g5 g2 g3 g4 g6 k⟩
theorem sxn_retE (h : EvN K W H0 te ρ PN) : SxN K W H0 F0 (tRet te) ρ PN := fun σ F H a D r =>
  h σ F H a.ok a.ho _ fun p us F' H' ds o' st hp hl hf hz hd k => r p us F' H' ds o' (a.st.trans a.ok st) (a.st.back a.ok hp) hl hf hz hd k
theorem pmN_body {N : List Str} {ts : TS} {vs : List V} {H : Hp} {Q : VK} {E : XK} (hN : n ≤ N.length) (h : PmN K n Pre PN vs H Q E)
    (b : ∀ (W : Wd) (F : Hp) (ss : Rho), ss.length = n → Pre W ss → SxN K W H F ts (ss ++ List.replicate (N.length - ss.length) .un) PN) : ts { nx := fun _ H' => Q .non H', rt := Q } (L2.start N vs) H := by
  obtain ⟨W, F, ss, o, h1, h2, h3, h4, k⟩ := h
  exact b W F ss h3 h4 (L2.start N vs) F H ⟨o, Step.refl o, holds_start h1 h2 (by rw [h3]; exact hN)⟩ _ fun p us F' H' ds o' st hp hl hf hz hd e => k p us F' H' ds o' st hp hl hf hz hd e
end
end DL

namespace DL
open PySem L2 RZ
/-! ### xs * k of a list -/
def rMul3 (K : PySem.W.Frag) : R2 := fun x y H Q => rMul2 K x y H Q ∨ rRep x y H Q
theorem opMul3 {X : Cx} : OpR X (binaryOp .Mult) (rMul3 X.K) := opMul.or op_rep
section
variable {K : PySem.W.Frag} {W : Wd} {H0 F0 : Hp} {ρ : Rho} {ta tb : TE} {t tk : TA} {P : Sl → Prop} {PN : List D → Prop} {N : Ends2}
theorem ops_mul3 {s u : Sl} (h : OpS K W (rMul2 K) s u P) : OpS K W (rMul3 K) s u P := OpS.inl h
theorem evn_rep (h : Ev K W H0 ta ρ fun s => Ev K W H0 tb ρ fun u => ∃ (ds : List D) (k : Int), LsOf s ds ∧ u = .dat (.int k) ∧ -(2 ^ 63) ≤ k ∧ k < 2 ^ 63 ∧ ds.length * k.toNat ≤ sizeLine ∧ PN (List.replicate k.toNat ds).flatten) : EvN K W H0 (tOp (rMul3 K) ta tb) ρ PN := fun σ F H o ho Q q => by
  refine h σ F H o ho _ fun v F1 H1 s o1 st1 hv h1 => ?_
  refine h1 σ F1 H1 o1 (ho.step st1) _ fun u F2 H2 t o2 st2 hu ⟨ds, k, hs, ht, k1, k2, hl, p⟩ => ?_
  obtain ⟨a, xs, rfl, a1, a2⟩ := hs.get o2 (hv.step st2)
  subst ht
  rw [vok_int hu]
  refine .inr ⟨a, k, xs, rfl, rfl, a1, k1, k2, by rw [dpa_len a2]; exact hl, fun p' hp => ?_⟩
  obtain ⟨o3, st3⟩ := o2.own (u := .lst (List.replicate k.toNat xs).flatten) hp
  have st := st1.trans o1 st2
  exact q p' _ _ _ _ o3 (st.trans o2 st3) (st.back o2 hp) upd_same (o2.free hp) (o2.nz hp) (dpa_flat a2 _) p
theorem ops_repF {s : Sl} {ds : List D} {k : Int} (hs : LsOf s ds) (k1 : -(2 ^ 63) ≤ k) (k2 : k < 2 ^ 63) (hl : ds.length * k.toNat ≤ sizeLine) (p : P (.dat (.list (List.replicate k.toNat ds).flatten))) : OpS K W (rMul3 K) s (.dat (.int k)) P := OpS.inr fun F H x y o hx hy Q q => by
  obtain ⟨a, xs, rfl, a1, a2⟩ := hs.get o hx
  rw [vok_int hy]
  refine ⟨a, k, xs, rfl, rfl, a1, k1, k2, by rw [dpa_len a2]; exact hl, fun p' hp => ?_⟩
  obtain ⟨o2, st2⟩ := o.new (u := .lst (List.replicate k.toNat xs).flatten) hp
  exact q _ _ _ (.dat (.list (List.replicate k.toNat ds).flatten)) o2 st2 (.lst upd_same (dpa_mono st2.fz (dpa_flat a2 _))) p
/-- the second of two is a number by default -/
theorem ev_fnDi {p : D → D → Prop} {f : D → D → D} {i : Int} (h : EvA K W H0 t ρ fun ss => ∃ d, ss = [.dat d] ∧ p d (.int i) ∧ P (.dat (f d (.int i)))) : Ev K W H0 (tFnD (Pm2 K p f) [.int i] t) ρ P := fun σ F H o ho Q q =>
  h σ F H o ho _ fun vs F1 H1 ss o1 st1 hv ⟨d, e, hp, k⟩ => by
    subst e
    cases hv with
    | cons h1 h2 =>
      cases h2
      exact ⟨W, F1, [.dat d, .dat (.int i)], o1, .cons h1 (.cons (.int i) .nil), by simp [NoLs], rfl, ⟨d, .int i, rfl, hp⟩, fun v F2 H2 s o2 st2 hv2 p2 => q v F2 H2 s o2 (st1.trans o1 st2) hv2 (by rw [p2 d (.int i) rfl]; exact k)⟩
/-- one by name, the other by default -/
theorem ev_fnK01d {p : D → D → Prop} {f : D → D → D} {i : Int} (h : EvA K W H0 tk ρ fun rs => ∃ d, rs = [.dat d] ∧ p d (.int i) ∧ P (.dat (f d (.int i)))) : Ev K W H0 (tFnK 0 1 (Pm2 K p f) (fun _ zs => zs ++ [.int i]) tNil tk) ρ P := fun σ F H o ho Q q =>
  h σ F H o ho _ fun zs F1 H1 rs o1 st1 hz ⟨d, e, hp, k⟩ => by
    subst e
    cases hz with
    | cons h1 hn =>
      cases hn
      exact ⟨rfl, rfl, W, F1, [.dat d, .dat (.int i)], o1, .cons h1 (.cons (.int i) .nil), by simp [NoLs], rfl, ⟨d, .int i, rfl, hp⟩, fun v F3 H3 s o3 st3 hv2 p2 => q v F3 H3 s o3 (st1.trans o1 st3) hv2 (by rw [p2 d (.int i) rfl]; exact k)⟩
end
end DL

namespace DL
open PySem L2 RZ PySem.Spec PyProof.Rows
/-! ### sorted of a tuple of ints -/
section
variable {prog : Program} {w : World} {A : Around} {E : Value → Shared → Prop} {s : Shared}
theorem collect_tup {l : Addr} {vs : List Value} {Q : List Value → Shared → Prop} (hl : IsTup s.heap l vs.toArray)
    (h : Q vs { s with heap := (s.heap.push (seqObj "list" #[] 0)).update s.heap.objs.size (Obj.mapSeq (· ++ vs.toArray)) }) (hsz : vs.length ≤ sizeLine) :
    wpAny (model prog w) A (collect (.ref l)) Q E s := by
  obtain ⟨o, ho, hc, n, hd⟩ := id hl
  unfold collect
  refine wpAny_bind (wpAny_runValue (codeAny_builtin entry_proto_collect' ?_))
  show wpAny _ _ (do again (.builtin "list.__iadd__" ⟨[← newList [], .ref l], []⟩)) _ _ s
  refine wpAny_bind (wpAny_newList (wpAny_pure ⟨Code.quiet_builtin _ (by decide +kernel), codeAny_builtin entry_list_iadd' ?_⟩))
  show wpAny _ _ (Builtin.List.listExtendWith (.ref s.heap.objs.size) (.ref l) (.ref s.heap.objs.size)) _ _ { s with heap := s.heap.push (seqObj "list" #[] 0) }
  unfold Builtin.List.listExtendWith
  have ho' : (s.heap.push (seqObj "list" #[] 0)).get? l = some o := Heap.get?_push_of_some _ ho
  refine wpAny_bind (wpAny_typeOf (T := "tuple") ⟨o, ho', hc⟩ ?_)
  have ht : (Value.type "tuple" == Value.type "tuple") = true := by rfl
  rw [if_pos (by rw [ht]; simp)]
  refine wpAny_bind (listItems_at ho' hd ?_)
  refine wpAny_bind (listItems_at (xs := #[]) (n := 0) (Heap.get?_push_size _ rfl) rfl ?_)
  rw [if_neg (by simp)]
  refine wpAny_bind (listUpdate_at (xs := #[]) (n := 0) (Heap.get?_push_size _ rfl) rfl ?_ (Nat.zero_le _) (by show (#[] ++ vs.toArray).size ≤ sizeLine + 1; simp only [Array.size_append, List.size_toArray, List.length_nil]; omega))
  refine wpAny_pure ?_
  show wpAny (model prog w) A (do
      let o ← load s.heap.objs.size
      match o.data with
      | .seq xs _ => pure xs.toList
      | _ => unsupported "internal:collect") Q E { s with heap := (s.heap.push (seqObj "list" #[] 0)).update s.heap.objs.size (Obj.mapSeq (· ++ vs.toArray)) }
  refine wpAny_bind (wpAny_load (get?_update_seq (Heap.get?_push_size _ rfl) _) ?_)
  show wpAny _ _ (pure ((#[] : Array Value) ++ vs.toArray).toList) Q E _
  rw [show ((#[] : Array Value) ++ vs.toArray).toList = vs by simp]
  exact wpAny_pure h
theorem sorted_intsT {l : Addr} {vs : List Value} {ns : List Int} {Q : Value → Shared → Prop} (hl : IsTup s.heap l vs.toArray) (hI : IntsAre vs ns) (h64 : vs.length < 64)
    (h : ∀ (out : Array Value) (ns' : List Int), IntsAre out.toList ns' → ns'.Perm ns → ns'.Pairwise (· ≤ ·) → Q (.ref (s.heap.objs.size + 1)) { s with heap := sortedAll s.heap vs out }) :
    wpAny (model prog w) A (call (.builtin "sorted") [.ref l]) Q E s := by
  refine Calls.call_function_entry kind_sorted plain_sorted entry_sorted (args_sorted1 _) ?_
  unfold Builtin.«sorted»
  refine wpAny_bind (m := checkCount "sorted" 1 1 _) (wpAny_pure ?_)
  refine wpAny_bind (collect_tup hl ?_ (by rw [sizeLine_eq]; omega))
  refine wpAny_bind (wpAny_newList ?_)
  have hsz : ((s.heap.push (seqObj "list" #[] 0)).update s.heap.objs.size (Obj.mapSeq (· ++ vs.toArray))).objs.size = s.heap.objs.size + 1 := by
    rw [Heap.size_update, size_push']
  have hoL : (((s.heap.push (seqObj "list" #[] 0)).update s.heap.objs.size (Obj.mapSeq (· ++ vs.toArray))).push (seqObj "list" vs.toArray 0)).get? (s.heap.objs.size + 1) = some (seqObj "list" vs.toArray 0) := by
    rw [← hsz]; exact Heap.get?_push_size _ rfl
  show wpAny _ _ _ _ _ { s with heap := ((s.heap.push (seqObj "list" #[] 0)).update s.heap.objs.size (Obj.mapSeq (· ++ vs.toArray))).push (seqObj "list" vs.toArray 0) }
  rw [hsz]
  refine wpAny_bind (wpAny_holding (wpAny_call_entry slot_list_sort ⟨_, hoL, rfl⟩ entry_list_sort (list_sort_tree hoL hI h64 fun out ns' a1 a2 a3 => ⟨_, rfl, ?_⟩) (args_list_sort _)))
  exact wpAny_pure ⟨_, rfl, h out ns' a1 a2 a3⟩
end
def rSortedT (K : PySem.W.Frag) : List V → Hp → VK → Prop := fun vs H Q => ∃ (a : Addr) (ns : List Int), vs = [V.ref a] ∧ SqT K H a (ns.map V.int) ∧ ns.length < 64 ∧
  ∀ (ns' : List Int) (p : Addr), ns'.Perm ns → ns'.Pairwise (· ≤ ·) → H p = none → Q (.ref p) (upd H p (.lst (ns'.map V.int)))
section
variable {X : Cx}
theorem cr_sortedT : CallR X (.builtin "sorted") (rSortedT X.K) := by
  intro pins s σ H vs us Q I r h
  obtain ⟨a, ns, rfl, hs, h64, q⟩ := h
  obtain ⟨its, rv, hl, _⟩ := I.tuple hs
  rw [Vals.ref1 r]
  have hi := rv.ints
  refine sorted_intsT hl hi (by rw [hi.length]; exact h64) fun out ns' h1 h2 h3 => ?_
  obtain ⟨ep, he'⟩ := PyProof.Rows.sortedAll_at s.heap its out
  have hlen : (ns'.map V.int).length ≤ sizeLine := by rw [List.length_map, h2.length_eq]; exact small64 h64
  exact ⟨.ref _, upd H (s.heap.objs.size + 1) (.lst (ns'.map V.int)), I.laid (t' := s.toks) (fun _ _ => PyProof.Rows.sortedAll_old) (Nat.le_succ _) ⟨hlen, out.toList, ep, vals_of_ints h1, he'⟩, rfl, q ns' _ h2 h3 (I.hok.fresh (Nat.le_succ _))⟩
/-- sorted: of ints (a list, a tuple), of texts -/
def rSortedB (K : PySem.W.Frag) : List V → Hp → VK → Prop := fun xs H Q => rSortedA K xs H Q ∨ rSortedT K xs H Q
theorem cr_sortedB : CallR X (.builtin "sorted") (rSortedB X.K) := cr_sortedA.or cr_sortedT
end
section
variable {K : PySem.W.Frag} {W : Wd} {P : Sl → Prop} {s : Sl}
theorem cas_sortBL {ns : List Int} (hs : LsOf s (ns.map .int)) (hl : ns.length < 64) (p : ∀ ms : List Int, ms.Perm ns → ms.Pairwise (· ≤ ·) → P (.dat (.list (ms.map .int)))) : CaS K W (rSortedB K) [s] P := fun F H xs o hx Q q =>
  .inl (cas_sortI hs hl p F H xs o hx Q q)
theorem cas_sortBT {ns : List Int} (hl : ns.length < 64) (p : ∀ ms : List Int, ms.Perm ns → ms.Pairwise (· ≤ ·) → P (.dat (.list (ms.map .int)))) : CaS K W (rSortedB K) [.dat (.tuple (ns.map .int))] P := fun F H xs o hx Q q => by
  cases hx with
  | cons e1 e2 =>
    cases e2
    obtain ⟨a, vs, rfl, a1, a2⟩ := dp_tup e1
    rw [dpa_ints' a2] at a1
    refine .inr ⟨a, ns, rfl, SqT.of (o.sub _ _ a1), hl, fun ms l h1 h2 hn => ?_⟩
    obtain ⟨o2, st2⟩ := o.new (u := .lst (ms.map V.int)) hn
    exact q _ _ _ (.dat (.list (ms.map .int))) o2 st2 (.lst upd_same (ints_dp ms)) (p ms h1 h2)
/-- sum of ints -/
theorem cas_sum {ns : List Int} (hs : LsOf s (ns.map .int)) (p : P (.dat (.int ns.sum))) : CaS K W (rSum K) [s] P := fun F H xs o hx Q q => by
  cases hx with
  | cons e1 e2 =>
    cases e2
    obtain ⟨a, vs, rfl, a1, a2⟩ := hs.get o e1
    rw [dpa_ints' a2] at a1
    exact ⟨a, ns, rfl, SqL.of a1, q _ F H (.dat (.int _)) o (Step.refl o) (.int _) p⟩
theorem ops_shl {i j : Int} (hc : CPow i j) (p : P (.dat (.int (i * 2 ^ j.toNat)))) : OpS K W (rI CPow fun i j => .int (i * 2 ^ j.toNat)) (.dat (.int i)) (.dat (.int j)) P := ops_I (f := fun i j => .int (i * 2 ^ j.toNat)) (fun _ => .int _) hc p
end
end DL

namespace DL
open PySem L2 RZ PySem.Spec PyProof.Rows
/-! ### enumerate of a tuple -/
theorem meets_enumerate_newT {v : Value} {o : Obj} {H : Heap → Prop} (B : Begins v o H) :
    Meets (Builtin.«enumerate.__new__» ⟨[.type "enumerate", v], []⟩) (fun _ R s => H s.heap ∧
      R (.ok (.ret (.ref (s.heap.push o).objs.size))) { s with heap := (s.heap.push o).push { cls := .type "enumerate", data := .fields #[.none, .bool false, .ref s.heap.objs.size, rawInt 0, .none, .none] } }) :=
  .of_wp fun prog w A R s h => by
    obtain ⟨hp, g, d, tk, os⟩ := s; obtain ⟨h1, h⟩ := h
    have hsub := sub_enumerate
    have q1 : ∀ {A' : Around} {E : Value → Shared → Prop} {Q : Value → Shared → Prop}, Q (.ref hp.objs.size) ⟨hp.push o, g, d, tk, os⟩ → wpAny (model prog w) A' (pyIter v) Q E ⟨hp, g, d, tk, os⟩ :=
      fun q => B.iter prog w _ _ ⟨hp, g, d, tk, os⟩ _ h1 q
    wp_walk using q1
    refine wpAny_stack_any fun st => wpAny_pure ?_
    split
    · rename_i c _ _ _ _ _
      cases (c == Value.type "enumerate")
      · wp_walk using q1
        exact ⟨_, rfl, h⟩
      · wp_walk using q1
        exact ⟨_, rfl, h⟩
    · wp_walk using q1
      exact ⟨_, rfl, h⟩
section
variable {prog : Program} {w : World} {A : Around} {E : Value → Shared → Prop} {s : Shared}
theorem call_enumerate_tuple {l : Addr} {items : Array Value} {Q : Value → Shared → Prop} (hL : s.heap.IsTuple l items)
    (h : ∀ h', IsEnum h' (s.heap.objs.size + 1) s.heap.objs.size 0 .none → h'.IsTupleIter s.heap.objs.size l 0 → h'.objs.size = s.heap.objs.size + 2 →
      (∀ b o, s.heap.get? b = some o → h'.get? b = some o) → Q (.ref (s.heap.objs.size + 1)) { s with heap := h' }) :
    wpAny (model prog w) A (call (.type "enumerate") [.ref l]) Q E s := by
  refine callType_new F.called_enumerate (by decide) (F.typeCall_enumerate_1 _) (F.newCall_enumerate_1 _) (fun obj => F.args_object_init_2 obj _) F.entry_enumerate_new
    (meets_enumerate_newT (begins_tuple l items)) ⟨hL, ?_⟩
  have hz : (s.heap.push { cls := .type "tuple_iterator", data := .fields #[.ref l, .int 0 0] }).objs.size = s.heap.objs.size + 1 := Heap.size_push ..
  show _ ∧ _
  rw [hz]
  have he : IsEnum ((s.heap.push { cls := .type "tuple_iterator", data := .fields #[.ref l, .int 0 0] }).push
      { cls := .type "enumerate", data := .fields #[.none, .bool false, .ref s.heap.objs.size, rawInt 0, .none, .none] }) (s.heap.objs.size + 1) s.heap.objs.size 0 .none := by
    have := Heap.get?_push_size (s.heap.push { cls := .type "tuple_iterator", data := .fields #[.ref l, .int 0 0] })
      (o := { cls := .type "enumerate", data := .fields #[.none, .bool false, .ref s.heap.objs.size, rawInt 0, .none, .none] }) rfl
    rw [hz] at this
    exact this
  refine ⟨⟨_, he, rfl⟩, h _ he ⟨_, Heap.get?_push_of_some _ (Heap.get?_push_size _ rfl), rfl, rfl⟩ (by rw [Heap.size_push, hz]) fun b o x => Heap.get?_push_of_some _ (Heap.get?_push_of_some _ x)⟩
end
/-- the tuple at a, each item in a new pair -/
def IteT (K : PySem.W.Frag) (a : Addr) : It :=
  ⟨fun i H => ∃ (xs : List V) (x : V), SqT K H a xs ∧ xs[i]? = some x, fun i H v H' => ∃ T x, v = .ref T ∧ H T = none ∧ H' = upd H T (.tup [.int (i : Nat), x]) ∧ ∀ xs, SqT K H a xs → xs[i]? = some x, fun i H => ∃ xs : List V, SqT K H a xs ∧ xs.length = i⟩
theorem turn_enumT {P : Program} {w : World} {K : PySem.W.Frag} {elts : List Expr} {kk : Nat} {tpos : Pos} (a e it : Addr) :
    Turn P w K (.Tuple elts kk tpos) (IteT K a) [e, it] e (fun i h => (∃ old, IsEnum h e it ((i : Nat) : Int) old) ∧ h.IsTupleIter it a i ∧ e ≠ it) where
  mem := by simp
  obj := fun i h st b hb => by
    obtain ⟨⟨old, he⟩, ⟨o, ho, hc, hd⟩, _⟩ := st
    have e' : b = e ∨ b = it := by simpa using hb
    rcases e' with z | z
    · rw [z]; exact ⟨_, he, fun v q => nomatch q⟩
    · rw [z]; exact ⟨o, ho, fun v q => by rw [hd] at q; cases q⟩
  keep := fun i h h' st k => let ⟨⟨old, he⟩, hi, hne⟩ := st; ⟨⟨old, k e (by simp) _ he⟩, hi.at fun o q => k it (by simp) o q, hne⟩
  item := by
    intro X hP hw hK hc i pins s σ H E I hf st hg
    subst hP hw hK
    obtain ⟨⟨old, he⟩, hit, hne⟩ := st
    obtain ⟨xs, x, hq, hx⟩ := hg
    obtain ⟨its, rv, p, hz⟩ := I.tuple hq
    obtain ⟨u, hu, ru⟩ := rv.get hx
    have hel : e < s.heap.objs.size := Heap.lt_size he
    have hil : it < s.heap.objs.size := by obtain ⟨_, q, _⟩ := hit; exact Heap.lt_size q
    have hae : e ≠ a := fun z => by
      obtain ⟨o, ho, hcl, _⟩ := p
      rw [← z, he] at ho
      injection ho with ho
      rw [← ho] at hcl
      exact absurd (Value.type.inj hcl) (by decide)
    have hai : a ≠ it := fun z => by
      obtain ⟨o, ho, hcl, _⟩ := p
      obtain ⟨o2, ho2, hc2, _⟩ := hit
      rw [z, ho2] at ho
      injection ho with ho
      rw [← ho, hc2] at hcl
      exact absurd (Value.type.inj hcl) (by decide)
    have hlt : i < its.toArray.size := by
      have : i < its.length := (List.getElem?_eq_some_iff.mp hu).1
      simpa using this
    refine wpAny_pyNext_enum_itemD (Draws.tuple (A := X.A.in1) (show X.A.in1.handled = none from I.ok.hd hc) it a hai its.toArray) he ⟨hit, p⟩ hlt hne (by simp [hne, hae]) fun x' h' tk hx' ho hst' hT hsz hk => ?_
    obtain ⟨hit', _⟩ := hst'
    have ex : x' = u := by
      have q : its.toArray[i]? = some u := by simpa using hu
      rw [hx'] at q
      exact Option.some.inj q
    subst ex
    refine ⟨_, rfl, wpAny_letOwnedTupleGo_enum (s := { s with heap := h', toks := tk + 1 }) ho fun h'' he' sb => ?_⟩
    have hT2 : h''.get? s.heap.objs.size = some { cls := .type "tuple", data := .seq #[.int i tk, x'] } := (sb.2 _ (Nat.ne_of_gt hel)).trans hT
    have new : ObjOk X.prog X.w (upd H s.heap.objs.size (.tup [.int (i : Nat), x])) h'' s.heap.objs.size (.tup [.int (i : Nat), x]) :=
      ⟨by show 2 ≤ sizeLine; decide, [.int i tk, x'], .cons ⟨_, rfl⟩ (.cons ru .nil), ⟨_, hT2, rfl, _, rfl⟩⟩
    have I1 : Inv X pins σ (upd H s.heap.objs.size (.tup [.int (i : Nat), x])) { s with heap := h'', toks := tk + 1 } :=
      I.turnedNew (ch := [e, it]) (fun b ob hb q => (sb.2 b (fun z => hb (by simp [z]))).trans (hk b ob (fun z => hb (by simp [z])) (fun z => hb (by simp [z])) q)) hf (Nat.le_refl _) new
    refine ⟨.ref s.heap.objs.size, _, I1, rfl, ⟨_, x, rfl, I.hok.fresh (Nat.le_refl _), rfl, fun ys hy => by rw [I.tuple_inj hy hq]; exact hx⟩, ⟨⟨x', ?_⟩, hit'.at fun o q => (sb.2 it (Ne.symm hne)).trans q, hne⟩, fun b hb => ?_⟩
    · have e1 : ((i + 1 : Nat) : Int) = (i : Int) + 1 := by omega
      rw [e1]; exact he'
    · have hb' : b < s.heap.objs.size := by
        have e' : b = e ∨ b = it := by simpa using hb
        rcases e' with z | z
        · rw [z]; exact hel
        · rw [z]; exact hil
      rw [upd_ne (Nat.ne_of_lt hb')]
      exact (hf b hb).1
  done := by
    intro X hP hw hK hc i pins s σ H E I hf st hg
    subst hP hw hK
    obtain ⟨⟨old, he⟩, hit, hne⟩ := st
    obtain ⟨xs, hq, hx⟩ := hg
    obtain ⟨its, rv, p, hz⟩ := I.tuple hq
    obtain ⟨f0, f1, f2, f3, f4, f5⟩ := hf it (by simp)
    have hl := rv.length
    have hai : a ≠ it := fun z => by
      obtain ⟨o, ho, hcl, _⟩ := p
      obtain ⟨o2, ho2, hc2, _⟩ := hit
      rw [z, ho2] at ho
      injection ho with ho
      rw [← ho, hc2] at hcl
      exact absurd (Value.type.inj hcl) (by decide)
    have hi : i = its.toArray.size := by
      rw [← hx, hl]
      simp
    subst hi
    exact wpAny_pyNext_enum_endD (Draws.tuple (A := X.A.in1) (show X.A.in1.handled = none from I.ok.hd hc) it a hai its.toArray) he ⟨hit, p⟩ fun h' eb => ⟨rfl, I.turned (t' := s.toks) (fun b o hb q => eb b o hb q) f0 f1 f3 f4 f5⟩
  self := fun A i s Q E st h => let ⟨⟨_, he⟩, _⟩ := st; wpAny_pyIter_enum he h
def iEnumA (K : PySem.W.Frag) (ta : TA) : TI := fun σ H R => ta σ H fun vs H1 => ∃ a xs, vs = [.ref a] ∧ SqT K H1 a xs ∧ R (IteT K a) H1
theorem pi_enumT {X : Cx} {e : Expr} {ta : TA} {p pos tpos : Pos} {elts : List Expr} {kk : Nat} (hg : Gl X "enumerate") (hm : X.mg "enumerate" = none) (ha : PA X [e] ta) (hs : starEach [e] X.env = [(false, eval e X.env)] := by rfl) :
    PI X (.Tuple elts kk tpos) (.Call (.Name "enumerate" p) [e] [] pos) (iEnumA X.K ta) := by
  refine ⟨fun pins s σ H R I h => ?_⟩
  refine Call_ (ld_blt I hg hm boot_enumerate (PyProof.Rows.callWith_type1 (thn (ha.run pos pins s σ H _ I h) fun us s1 ⟨vs, H1, I1, r1, q1⟩ => ?_) hs rfl))
  obtain ⟨a, xs, ex, hq, q⟩ := q1
  subst ex
  cases r1 with
  | cons r rr =>
    cases rr
    cases r
    obtain ⟨its, rv, p', hz⟩ := I1.tuple hq
    refine call_enumerate_tuple p' fun h' he hit hsz hk => wpAny_pyIter_enum he ?_
    have I2 : Inv X pins σ H1 { s1 with heap := h' } := I1.kept (t' := s1.toks) hk
    refine ⟨s1.heap.objs.size + 1, [s1.heap.objs.size + 1, s1.heap.objs.size], _, _, H1, rfl, I2, turn_enumT a (s1.heap.objs.size + 1) s1.heap.objs.size, ⟨⟨.none, he⟩, hit, Nat.succ_ne_self _⟩, fun b hb => ?_, q⟩
    have e' : b = s1.heap.objs.size + 1 ∨ b = s1.heap.objs.size := by simpa using hb
    have hle : s1.heap.objs.size ≤ b := by
      rcases e' with z | z
      · rw [z]; exact Nat.le_add_right _ _
      · rw [z]; exact Nat.le_refl _
    exact I1.fpOk hle (I1.hok.fresh hle)
/-- (0, x), (1, y) .. -/
def enumD (ds : List D) : List D := (rngD 0 ds.length).zipWith (fun i d => .tuple [i, d]) ds
theorem enumD_len (ds : List D) : (enumD ds).length = ds.length := by simp [enumD, rngD_len]
theorem enumD_get {ds : List D} {i : Nat} {d : D} (h : ds[i]? = some d) : (enumD ds)[i]? = some (.tuple [.int (i : Nat), d]) := by
  have hl := (List.getElem?_eq_some_iff.mp h).1
  unfold enumD
  rw [List.getElem?_zipWith, rngD_get hl, h]
  simp
theorem walk_enumT {K : PySem.W.Frag} {a : Addr} {xs : List V} {n : Nat} (hn : n = xs.length) : Walk (IteT K a) n (fun H => SqT K H a xs) (YPair (fun i => some (.int (i : Nat))) (fun i => xs[i]?)) := by
  subst hn
  exact ⟨fun i _ hi q => ⟨xs, xs[i], q, by simp [hi]⟩, fun _ q => ⟨xs, q, rfl⟩, fun i H v H' _ q y => by
    obtain ⟨T, x, h1, h2, h3, h4⟩ := y
    exact ⟨T, .int (i : Nat), x, h1, h2, h3, rfl, h4 xs q⟩⟩
section
variable {K : PySem.W.Frag} {W : Wd} {H0 F0 : Hp} {ρ : Rho}
theorem evi_enum {ta : TA} {PN : List D → Prop} (h : EvA K W H0 ta ρ fun ss => ∃ ds, ss = [.dat (.tuple ds)] ∧ PN (enumD ds)) : EvI K W H0 (iEnumA K ta) ρ PN := fun σ F H o ho R q =>
  h σ F H o ho _ fun vs F' H' ss o' st hv ⟨ds, e, p⟩ => by
    subst e
    cases hv with
    | cons e1 e2 =>
      cases e2
      obtain ⟨a, xs, rfl, h1, h2⟩ := dp_tup e1
      refine ⟨a, xs, rfl, SqT.of (o'.sub _ _ h1), q _ F' H' (enumD ds) o' st ⟨_, _, walk_enumT (K := K) (a := a) (xs := xs) (by rw [enumD_len, dpa_len h2]), fun F2 H2 o2 st2 => SqT.of ((st2.trans o2.sub) _ _ h1), fun i x F2 H2 H3 hi o2 st2 y => ?_⟩ p⟩
      obtain ⟨T, u, w, rfl, hT, rfl, hu, hw⟩ := y
      obtain rfl := Option.some.inj hu
      obtain ⟨d, d1, d2⟩ := dpa_get h2 hw
      obtain ⟨o3, st3⟩ := o2.new (u := .tup [.int (i : Nat), w]) hT
      exact ⟨_, .tuple [.int (i : Nat), d], o3, st3, enumD_get d1, .tup upd_same (.cons (.int _) (.cons (dp_mono (st2.trans st3.fz) d2) .nil))⟩
/-- reversed(range(n)) -/
theorem evi_revr {te : TE} {PN : List D → Prop} (h : Ev K W H0 te ρ fun s => ∃ n : Nat, s = .dat (.int (n : Int)) ∧ n < 2 ^ 60 ∧ PN ((rngD 0 n).reverse)) : EvI K W H0 (iRevR (tRg1 te)) ρ PN := fun σ F H o ho R q =>
  h σ F H o ho _ fun v F' H' s o' st hv ⟨n, e, hn, p⟩ => by
    subst e
    refine ⟨n, vok_int hv, by decide, by decide, by omega, by omega, ?_⟩
    have e0 : ((n : Int) - 0).toNat = n := by omega
    rw [e0]
    refine q _ F' H' ((rngD 0 n).reverse) o' st ⟨_, _, by rw [List.length_reverse, rngD_len]; exact walk_rangeC, fun _ _ _ _ => trivial, fun i x F2 H2 H3 hi o2 st2 y => ?_⟩ p
    rw [List.length_reverse, rngD_len] at hi
    obtain ⟨rfl, rfl⟩ := y
    refine ⟨F2, _, o2, Step.refl o2, ?_, .int _⟩
    rw [List.getElem?_reverse (by rw [rngD_len]; omega), rngD_len, rngD_get (by omega)]
    congr 2
    omega
end
/-! ### max, min of two, int of a truth -/
def rMax2 : List V → Hp → VK → Prop := fun xs H Q => ∃ i j, xs = [.int i, .int j] ∧ Q (.int (if j > i then j else i)) H
def rMin2 : List V → Hp → VK → Prop := fun xs H Q => ∃ i j, xs = [.int i, .int j] ∧ Q (.int (if j < i then j else i)) H
section
variable {K : PySem.W.Frag} {W : Wd} {P : Sl → Prop}
theorem cas_max2 {i j : Int} (p : P (.dat (.int (if j > i then j else i)))) : CaS K W rMax2 [.dat (.int i), .dat (.int j)] P := fun F H xs o hx Q q => by
  cases hx with
  | cons e1 e2 =>
    cases e2 with
    | cons e3 e4 =>
      cases e4
      exact ⟨i, j, by rw [vok_int e1, vok_int e3], q _ F H (.dat (.int _)) o (Step.refl o) (.int _) p⟩
theorem cas_min2 {i j : Int} (p : P (.dat (.int (if j < i then j else i)))) : CaS K W rMin2 [.dat (.int i), .dat (.int j)] P := fun F H xs o hx Q q => by
  cases hx with
  | cons e1 e2 =>
    cases e2 with
    | cons e3 e4 =>
      cases e4
      exact ⟨i, j, by rw [vok_int e1, vok_int e3], q _ F H (.dat (.int _)) o (Step.refl o) (.int _) p⟩
end
end DL

namespace DL
open PySem L2 RZ PySem.Spec PyProof.Rows PySem.W PySem.Calls
/-! ### sorted of data that are alike: of a list, of a tuple, either way about -/
section
variable {prog : Program} {w : World} {A : Around} {E : Value → Shared → Prop} {s : Shared}
theorem sorted_of_sortT {l : Addr} {vs : List Value} {kw : List (Str × Value)} {Q : Value → Shared → Prop} (hl : IsTup s.heap l vs.toArray) (hL : vs.length ≤ sizeLine) (ha1 : argsOk "sorted" ⟨[.ref l], kw⟩) (ha2 : ∀ x, argsOk "list.sort" ⟨[.ref x], kw⟩)
    (body : ∀ E' : Value → Shared → Prop, wpAny (model prog w) A.in1.in1 (Builtin.«list.sort» ⟨[.ref (s.heap.objs.size + 1)], kw⟩) (fun f s' => f = .done (.ret .none) ∧ Q (.ref (s.heap.objs.size + 1)) s') E' { s with heap := copyHeap s.heap vs }) :
    wpAny (model prog w) A (call (.builtin "sorted") [.ref l] kw) Q E s := by
  refine call_function_entry_kw kind_sorted plain_sorted entry_sorted ha1 ?_
  unfold Builtin.«sorted»
  refine wpAny_bind (m := checkCount "sorted" 1 1 _) (wpAny_pure ?_)
  refine wpAny_bind (collect_tup hl ?_ hL)
  refine wpAny_bind (wpAny_newList ?_ hL)
  have hsz : ((s.heap.push (seqObj "list" #[] 0)).update s.heap.objs.size (Obj.mapSeq (· ++ vs.toArray))).objs.size = s.heap.objs.size + 1 := by
    rw [Heap.size_update, size_push']
  show wpAny _ _ _ _ _ { s with heap := copyHeap s.heap vs }
  rw [hsz]
  refine wpAny_bind (wpAny_holding (wpAny_call_entry_kw slot_list_sort ⟨_, copyHeap_at s.heap vs, rfl⟩ entry_list_sort ?body (ha2 _)))
  case body =>
    show wpAny (model prog w) A.in1.in1 (Builtin.«list.sort» ⟨[.ref (s.heap.objs.size + 1)], kw⟩) _ _ _
    refine wpAny_mono (body _) (fun f s' hf => ?_) fun _ _ e => e
    obtain ⟨rfl, hq⟩ := hf
    exact ⟨_, rfl, wpAny_pure ⟨_, rfl, hq⟩⟩
variable {β : Type} {vs : List Value} {bs : List β} {enc : β → PyData} {R : Value → β → Prop}
theorem sorted_rev_dataT {l : Addr} {b : Bool} {Q : Value → Shared → Prop} (hl : IsTup s.heap l vs.toArray) (e : EachIs R vs bs) (er : EachIs (fun v b => ∃ as, Reads s.heap v (enc b) as) vs bs) (hal : AllAlike (bs.map enc)) (hk : PySem.W.Sortable (bs.map enc)) (hL : bs.length ≤ sizeLine)
    (hu : ∀ b, b ∈ bs → A.units + 2 + (enc b).depth < cLine) (h : ∀ out, out.length = bs.length → EachIs R out (bs.mergeSort (dataLe b enc)) → Q (.ref (s.heap.objs.size + 1)) { s with heap := sortedAll s.heap vs (List.toArray out) }) :
    wpAny (model prog w) A (call (.builtin "sorted") [.ref l] [(Str.ofString "reverse", .bool b)]) Q E s := by
  have er' : EachIs (fun v b => ∃ as, Reads (sortingHeap (copyHeap s.heap vs) (s.heap.objs.size + 1) vs) v (enc b) as) vs bs := er.mono fun _ _ ⟨as, r⟩ => ⟨as, PyProof.Rows.Reads.keeps (fun _ _ => sorting_copy_old) r⟩
  have hL' : vs.length ≤ sizeLine := by rw [e.length]; exact hL
  exact sorted_of_sortT hl hL' (args_sorted_rev _ _) (fun _ => args_list_sort_rev _ _) fun _ => list_sort_rev_vals (s := { s with heap := copyHeap s.heap vs }) (copyHeap_at s.heap vs)
    (SortsAt.data (s := { s with heap := sortingHeap (copyHeap s.heap vs) (s.heap.objs.size + 1) vs }) (each_map (R := fun v d => ∃ as, Reads (sortingHeap (copyHeap s.heap vs) (s.heap.objs.size + 1) vs) v d as) enc er') hal hk (bound_map hu)) hL'
    ⟨rfl, h _ (by rw [sortVals_length b rfl]; exact e.length) (sortVals_data b e er' hal)⟩
theorem sorted_dataT {l : Addr} {Q : Value → Shared → Prop} (hl : IsTup s.heap l vs.toArray) (e : EachIs R vs bs) (er : EachIs (fun v b => ∃ as, Reads s.heap v (enc b) as) vs bs) (hal : AllAlike (bs.map enc)) (hk : PySem.W.Sortable (bs.map enc)) (hL : bs.length ≤ sizeLine)
    (hu : ∀ b, b ∈ bs → A.units + 2 + (enc b).depth < cLine) (h : ∀ out, out.length = bs.length → EachIs R out (bs.mergeSort (dataLe false enc)) → Q (.ref (s.heap.objs.size + 1)) { s with heap := sortedAll s.heap vs (List.toArray out) }) :
    wpAny (model prog w) A (call (.builtin "sorted") [.ref l]) Q E s := by
  have er' : EachIs (fun v b => ∃ as, Reads (sortingHeap (copyHeap s.heap vs) (s.heap.objs.size + 1) vs) v (enc b) as) vs bs := er.mono fun _ _ ⟨as, r⟩ => ⟨as, PyProof.Rows.Reads.keeps (fun _ _ => sorting_copy_old) r⟩
  have hL' : vs.length ≤ sizeLine := by rw [e.length]; exact hL
  exact sorted_of_sortT hl hL' (args_sorted1 _) (fun _ => args_list_sort _) fun _ => list_sort_vals (s := { s with heap := copyHeap s.heap vs }) (copyHeap_at s.heap vs)
    (SortsAt.data (s := { s with heap := sortingHeap (copyHeap s.heap vs) (s.heap.objs.size + 1) vs }) (each_map (R := fun v d => ∃ as, Reads (sortingHeap (copyHeap s.heap vs) (s.heap.objs.size + 1) vs) v d as) enc er') hal hk (bound_map hu)) hL'
    ⟨rfl, h _ (by rw [sortVals_length false rfl]; exact e.length) (sortVals_data false e er' hal)⟩
end
/-- what sorted gives -/
def srtD (b : Bool) (ds : List D) : List D := ds.mergeSort (dataLe b fun d => d)
def pairLe (b : Bool) : V × D → V × D → Bool := dataLe b Prod.snd
def rSrtD (K : PySem.W.Frag) (b : Bool) : List V → Hp → VK → Prop := fun xs H Q => ∃ (a : Addr) (vs : List V) (ds : List D), xs = [V.ref a] ∧ (SqL K H a vs ∨ SqT K H a vs) ∧ L2.DpAll K H vs ds ∧ AllAlike ds ∧ PySem.W.Sortable ds ∧ (∀ d ∈ ds, d.depth ≤ 40) ∧
  ∀ p, H p = none → Q (.ref p) (upd H p (.lst (((vs.zip ds).mergeSort (pairLe b)).map Prod.fst)))
section
variable {X : Cx}
theorem each_rel {vs : List V} {us : List Value} (r : Vals vs us) : ∀ {ds : List D}, vs.length = ds.length → EachIs (fun u (b : V × D) => RelV b.1 u) us (vs.zip ds) := by
  induction r with
  | nil => exact fun _ => .nil
  | cons h t ih =>
    intro ds hl
    cases ds with
    | nil => cases hl
    | cons d ds => exact .cons h (ih (by simpa using hl))
theorem each_reads {pins : List (Addr × Obj)} {σ : L2.St} {H : Hp} {s : Shared} (I : Inv X pins σ H s) : ∀ {vs : List V} {us : List Value} {ds : List D}, Vals vs us → L2.DpAll X.K H vs ds → EachIs (fun u (b : V × D) => ∃ as, Reads s.heap u b.2 as) us (vs.zip ds)
  | _, _, _, .nil, .nil => .nil
  | _, _, _, .cons h t, .cons d e => .cons (L2.Dp.reads I _ _ _ d h) (each_reads I t e)
theorem snd_zip : ∀ {vs : List V} {ds : List D}, vs.length = ds.length → (vs.zip ds).map Prod.snd = ds
  | [], [], _ => rfl
  | _ :: vs, _ :: ds, h => by rw [List.zip_cons_cons, List.map_cons, snd_zip (by simpa using h)]
theorem each_vals {zs : List (V × D)} {us : List Value} (e : EachIs (fun u (b : V × D) => RelV b.1 u) us zs) : Vals (zs.map Prod.fst) us := by
  induction e with
  | nil => exact .nil
  | cons h t ih => exact .cons h ih
theorem dpa_len2 {K : PySem.W.Frag} {H : Hp} : ∀ {vs : List V} {ds : List D}, L2.DpAll K H vs ds → vs.length = ds.length
  | _, _, .nil => rfl
  | _, _, .cons _ t => congrArg Nat.succ (dpa_len2 t)
theorem srt_fin {b : Bool} {pins : List (Addr × Obj)} {σ : L2.St} {H : Hp} {s : Shared} {vs : List V} {ds : List D} {its : List Value} {Q : VK} (I : Inv X pins σ H s) (rv : Vals vs its) (hz : vs.length ≤ sizeLine)
    (q : ∀ p, H p = none → Q (.ref p) (upd H p (.lst (((vs.zip ds).mergeSort (pairLe b)).map Prod.fst)))) (hl : vs.length = ds.length) (out : List Value) (h1 : out.length = (vs.zip ds).length) (h2 : EachIs (fun u (b : V × D) => RelV b.1 u) out ((vs.zip ds).mergeSort (pairLe b))) :
    EP X pins σ Q (.ref (s.heap.objs.size + 1)) { s with heap := sortedAll s.heap its out.toArray } := by
  obtain ⟨ep, he'⟩ := PyProof.Rows.sortedAll_at s.heap its out.toArray
  have hlen : (((vs.zip ds).mergeSort (pairLe b)).map Prod.fst).length ≤ sizeLine := by
    rw [List.length_map, List.length_mergeSort, List.length_zip, ← hl, Nat.min_self]
    exact hz
  exact ⟨.ref _, upd H (s.heap.objs.size + 1) (.lst (((vs.zip ds).mergeSort (pairLe b)).map Prod.fst)), I.laid (t' := s.toks) (fun _ _ => PyProof.Rows.sortedAll_old) (Nat.le_succ _) ⟨hlen, out, ep, each_vals h2, he'⟩, rfl, q _ (I.hok.fresh (Nat.le_succ _))⟩
theorem cr_srtD (hu : X.A.units + 64 < cLine) : CallR X (.builtin "sorted") (rSrtD X.K false) := by
  intro pins s σ H xs us Q I r h
  obtain ⟨a, vs, ds, rfl, hs, hd, hal, hk, hdp, q⟩ := h
  rw [Vals.ref1 r]
  have hl := dpa_len2 hd
  have hal' : AllAlike ((vs.zip ds).map Prod.snd) := by rw [snd_zip hl]; exact hal
  have hk' : PySem.W.Sortable ((vs.zip ds).map Prod.snd) := by rw [snd_zip hl]; exact hk
  have hu' : ∀ b, b ∈ vs.zip ds → X.A.units + 2 + (Prod.snd b).depth < cLine := fun b hb => by
    have := hdp b.2 (List.of_mem_zip hb).2
    omega
  rcases hs with hs | hs
  · obtain ⟨its, rv, hL, hz⟩ := I.list hs
    exact sorted_data (bs := vs.zip ds) (enc := Prod.snd) hL.isList (each_rel rv hl) (each_reads I rv hd) hal' hk' (by rw [List.length_zip]; omega) hu' fun out h1 h2 => srt_fin (b := false) I rv hz q hl out h1 h2
  · obtain ⟨its, rv, hL, hz⟩ := I.tuple hs
    exact sorted_dataT (bs := vs.zip ds) (enc := Prod.snd) hL (each_rel rv hl) (each_reads I rv hd) hal' hk' (by rw [List.length_zip]; omega) hu' fun out h1 h2 => srt_fin (b := false) I rv hz q hl out h1 h2
def rSrtK (K : PySem.W.Frag) : List V → List V → Hp → VK → Prop := fun vs zs H Q => ∃ b, zs = [.bl b] ∧ rSrtD K b vs H Q
theorem crk_srtD (hu : X.A.units + 64 < cLine) : CallRK X (.builtin "sorted") [Str.ofString "reverse"] (rSrtK X.K) := by
  intro pins s σ H xs zs us ws Q I r rz h
  obtain ⟨b, rfl, a, vs, ds, rfl, hs, hd, hal, hk, hdp, q⟩ := h
  obtain rfl := Vals.ref1 r
  obtain ⟨w1, rfl, e1⟩ := vals1 rz
  obtain rfl : w1 = Value.bool b := e1
  have hl := dpa_len2 hd
  have hal' : AllAlike ((vs.zip ds).map Prod.snd) := by rw [snd_zip hl]; exact hal
  have hk' : PySem.W.Sortable ((vs.zip ds).map Prod.snd) := by rw [snd_zip hl]; exact hk
  have hu' : ∀ b, b ∈ vs.zip ds → X.A.units + 2 + (Prod.snd b).depth < cLine := fun b hb => by
    have := hdp b.2 (List.of_mem_zip hb).2
    omega
  rcases hs with hs | hs
  · obtain ⟨its, rv, hL, hz⟩ := I.list hs
    exact sorted_rev_data (bs := vs.zip ds) (enc := Prod.snd) hL.isList (each_rel rv hl) (each_reads I rv hd) hal' hk' (by rw [List.length_zip]; omega) hu' fun out h1 h2 => srt_fin (b := b) I rv hz q hl out h1 h2
  · obtain ⟨its, rv, hL, hz⟩ := I.tuple hs
    exact sorted_rev_dataT (bs := vs.zip ds) (enc := Prod.snd) hL (each_rel rv hl) (each_reads I rv hd) hal' hk' (by rw [List.length_zip]; omega) hu' fun out h1 h2 => srt_fin (b := b) I rv hz q hl out h1 h2
end
section
variable {K : PySem.W.Frag} {W : Wd} {H0 : Hp} {ρ : Rho} {P : Sl → Prop} {s : Sl} {t tk : TA}
theorem dpa_of_zip {F : Hp} : ∀ {zs : List (V × D)}, (∀ p ∈ zs, Dp K F p.1 p.2) → DpAll K F (zs.map Prod.fst) (zs.map Prod.snd)
  | [], _ => .nil
  | z :: zs, h => .cons (h z (by simp)) (dpa_of_zip fun p m => h p (by simp [m]))
theorem dpa_zip_mem {F : Hp} : ∀ {vs : List V} {ds : List D}, DpAll K F vs ds → ∀ p ∈ vs.zip ds, Dp K F p.1 p.2
  | _, _, .nil, _, m => nomatch m
  | _, _, .cons h t, p, m => by
    rw [List.zip_cons_cons] at m
    rcases List.mem_cons.mp m with rfl | m
    · exact h
    · exact dpa_zip_mem t p m
theorem srt_run {b : Bool} {ds : List D} (hs : SqOf s ds) (hal : AllAlike ds) (hk : PySem.W.Sortable ds) (hd : ∀ d ∈ ds, d.depth ≤ 40) (p : P (.dat (.list (srtD b ds)))) : CaS K W (rSrtD K b) [s] P := fun F H xs o hx Q q => by
  cases hx with
  | cons e1 e2 =>
    cases e2
    obtain ⟨a, vs, rfl, a1, a2⟩ := hs.get o e1
    refine ⟨a, vs, ds, rfl, a1, (dpa_mono o.sub a2).old, hal, hk, hd, fun p' hp => ?_⟩
    obtain ⟨o2, st2⟩ := o.new (u := .lst (((vs.zip ds).mergeSort (pairLe b)).map Prod.fst)) hp
    have e : ((vs.zip ds).mergeSort (pairLe b)).map Prod.snd = srtD b ds := by
      unfold srtD
      rw [sort_maps (r := pairLe b) (s := dataLe b fun d => d) Prod.snd (fun _ _ _ _ => rfl), snd_zip (dpa_len a2)]
    refine q _ _ _ (.dat (.list (srtD b ds))) o2 st2 (.lst upd_same ?_) p
    rw [← e]
    exact dpa_of_zip fun z hz => dp_mono st2.fz (dpa_zip_mem a2 z (List.mem_mergeSort.mp hz))
theorem ev_srtK {b : Bool} (h : EvA K W H0 t ρ fun ss => EvA K W H0 tk ρ fun rs => ∃ s ds, ss = [s] ∧ rs = [.dat (.bool b)] ∧ NoLs s ∧ SqOf s ds ∧ AllAlike ds ∧ PySem.W.Sortable ds ∧ (∀ d ∈ ds, d.depth ≤ 40) ∧ P (.dat (.list (srtD b ds)))) : Ev K W H0 (tCKw (rSrtK K) t tk) ρ P := fun σ F H o ho Q q =>
  h σ F H o ho _ fun vs F1 H1 ss o1 st1 hv k => k σ F1 H1 o1 (ho.step st1) _ fun zs F2 H2 rs o2 st2 hz ⟨s, ds, e1, e2, hn, hs, hal, hk, hd, p⟩ => by
    subst e1 e2
    cases hv with
    | cons h1 h0 =>
      cases h0
      cases hz with
      | cons g1 g0 =>
        cases g0
        exact ⟨b, by rw [vok_bool g1], srt_run (P := P) hs hal hk hd p F2 H2 [_] o2 (.cons (h1.step st2) .nil) Q fun v F3 H3 s' o3 st3 hv3 p3 => q v F3 H3 s' o3 ((st1.trans o1 st2).trans o2 st3) hv3 p3⟩
end
end DL

namespace DL
open PySem L2
open PySem.W (AllAlike)
section
variable {K : PySem.W.Frag} {W : Wd} {H0 F0 : Hp} {ρ : Rho} {N : Ends2}
/-- a new list's address stands in no slot that held ahead of it -/
theorem fresh_slot {σ : St} {F H H' : Hp} {p : Addr} (ho : Holds K W H0 σ F H ρ) (hp : H p = none) (j : Nat) (es : List D) (e : ρ[j]? = some (.ls es)) : σ[j]? ≠ some (some (.ref p)) := fun z => by
  obtain ⟨q, ws, g1, g2, _⟩ := ho.at_ j _ e
  rw [z] at g1
  have : p = q := by simpa using g1
  rw [← this, hp] at g2
  cases g2
theorem slot_set {σ : St} {i j : Nat} {p q : Addr} {s : Sl} {es : List D} (hpq : p ≠ q) (h : ∀ es, ρ[j]? = some (.ls es) → σ[j]? ≠ some (some (.ref p))) (hl : σ.length = ρ.length) (e : (ρ.set i s)[j]? = some (.ls es)) : (σ.set i (some (.ref q)))[j]? ≠ some (some (.ref p)) := fun z => by
  by_cases w : j = i
  · subst w
    have hj : j < ρ.length := by
      have := (List.getElem?_eq_some_iff.mp e).1
      rwa [List.length_set] at this
    rw [List.getElem?_set_self (by omega)] at z
    exact hpq (by simpa using z.symm)
  · rw [List.getElem?_set_ne (Ne.symm w)] at e z
    exact h es e z
theorem sx_three {i j k : Nat} (h : N.nx (((ρ.set i (.ls [])).set j (.ls [])).set k (.ls []))) :
    Sx K W H0 F0 (tPar3 i j k (tCons (tLst tNil) (tCons (tLst tNil) (tCons (tLst tNil) tNil)))) ρ N := fun σ F H a D n r b c => by
  refine ⟨Nat.zero_le _, fun p1 q1 => ?_⟩
  obtain ⟨o1, s1⟩ := a.ok.own (u := .lst []) q1
  refine ⟨Nat.zero_le _, fun p2 q2 => ?_⟩
  obtain ⟨o2, s2⟩ := o1.own (u := .lst []) q2
  refine ⟨Nat.zero_le _, fun p3 q3 => ?_⟩
  obtain ⟨o3, s3⟩ := o2.own (u := .lst []) q3
  refine ⟨_, _, _, rfl, ?_⟩
  have n21 : p2 ≠ p1 := fun z => by rw [z, upd_same] at q2; cases q2
  have n32 : p3 ≠ p2 := fun z => by rw [z, upd_same] at q3; cases q3
  have n31 : p3 ≠ p1 := fun z => by rw [z, upd_ne n21.symm, upd_same] at q3; cases q3
  have r2 : H p2 = none := by rw [upd_ne n21] at q2; exact q2
  have r3 : H p3 = none := by rw [upd_ne n32, upd_ne n31] at q3; exact q3
  have st : Step W F H F _ := (s1.trans o1 s2).trans o2 s3
  have a4 := a.step o3 st
  have h1 := fresh_slot (H' := H) a.ho q1
  have h2 := fresh_slot (H' := H) a.ho r2
  have h3 := fresh_slot (H' := H) a.ho r3
  have b1 := a4.ho.setOwn (i := i) (p := p1) (vs := []) (ds := []) (by rw [upd_ne n31.symm, upd_ne n21.symm, upd_same]) (a.ok.free q1) (a.ok.nz q1) (a.st.back a.ok q1) .nil h1
  have b2 := b1.setOwn (i := j) (p := p2) (vs := []) (ds := []) (by rw [upd_ne n32.symm, upd_same]) (a.ok.free r2) (a.ok.nz r2) (a.st.back a.ok r2) .nil fun m es e => slot_set n21 (fun es e => h2 m es e) a.ho.len e
  have b3 := b2.setOwn (i := k) (p := p3) (vs := []) (ds := []) (by rw [upd_same]) (a.ok.free r3) (a.ok.nz r3) (a.st.back a.ok r3) .nil fun m es e => slot_set (ρ := ρ.set i (.ls [])) n32 (fun es e => slot_set n31 (fun es e => h3 m es e) a.ho.len e) (by rw [List.length_set, List.length_set]; exact a.ho.len) e
  exact n _ F _ _ ⟨o3, a4.st, b3⟩ (Same.refl _) h
/-- x, y, z = .. -/
theorem sx_par3 {i j k : Nat} {te te2 te3 : TE} (h : Ev K W H0 te ρ fun s => NoLs s ∧ Ev K W H0 te2 ρ fun t => NoLs t ∧ Ev K W H0 te3 ρ fun u => NoLs u ∧ N.nx (((ρ.set i s).set j t).set k u)) : Sx K W H0 F0 (tPar3 i j k (tCons te (tCons te2 (tCons te3 tNil)))) ρ N := fun σ F H a D n r b c => by
  refine h σ F H a.ok a.ho _ fun v F1 H1 s o1 st1 hv ⟨hn, h2⟩ => ?_
  have a1 := a.step o1 st1
  refine h2 σ F1 H1 o1 a1.ho _ fun u F2 H2 t o2 st2 hu ⟨hn2, h3⟩ => ?_
  have a2 := a1.step o2 st2
  refine h3 σ F2 H2 o2 a2.ho _ fun x F3 H3 z o3 st3 hx ⟨hn3, k3⟩ => ?_
  have a3 := a2.step o3 st3
  have b1 := ((a1.ho.set (i := i) hv hn).step st2).step st3
  have b2 := (((a1.ho.set (i := i) hv hn).step st2).set (i := j) hu hn2).step st3
  exact ⟨v, u, x, rfl, n _ F3 H3 _ ⟨o3, a3.st, b2.set (i := k) hx hn3⟩ ((st1.fz.trans st2.fz).trans st3.fz) k3⟩
/-- x = xs.pop(..), xs one's own -/
theorem sx_asg2 {i : Nat} {te : TE} (h : Ev2 K W H0 F0 te ρ fun s ρ' => NoLs s ∧ N.nx (ρ'.set i s)) : Sx K W H0 F0 (tAsg te (gName i)) ρ N := fun σ F H a D n r b c =>
  h σ F H a _ fun v F' H' s ρ' a' bt hv ⟨hn, k⟩ => n _ F' H' _ ⟨a'.ok, a'.st, a'.ho.set hv hn⟩ bt.fz k
/-- int(truth) -/
theorem cas_int1b {P : Sl → Prop} {b : Bool} (p : P (.dat (.int (if b = true then 1 else 0)))) : CaS K W (fun xs H Q => (∃ i, xs = [V.int i] ∧ Q (V.int i) H) ∨ ∃ k, xs = [V.bl k] ∧ Q (V.int (if k = true then 1 else 0)) H) [.dat (.bool b)] P := fun F H xs o hx Q q => by
  cases hx with
  | cons e1 e2 =>
    cases e2
    rw [vok_bool e1]
    exact .inr ⟨b, rfl, q _ F H (.dat (.int _)) o (Step.refl o) (.int _) p⟩
section
variable {P : Sl → Prop} {s : Sl} {t tk : TA}
open PySem.W
theorem ev_srtL {b : Bool} (h : EvA K W H0 t ρ fun ss => EvA K W H0 tk ρ fun rs => ∃ s ds, ss = [s] ∧ rs = [.dat (.bool b)] ∧ SqOf s ds ∧ AllAlike ds ∧ PySem.W.Sortable ds ∧ (∀ d ∈ ds, d.depth ≤ 40) ∧ P (.dat (.list (srtD b ds)))) : Ev K W H0 (tCKw (rSrtK K) t tk) ρ P := fun σ F H o ho Q q =>
  h σ F H o ho _ fun vs F1 H1 ss o1 st1 hv k => k σ F1 H1 o1 (ho.step st1) _ fun zs F2 H2 rs o2 st2 hz ⟨s, ds, e1, e2, hs, hal, hk, hd, p⟩ => by
    subst e1 e2
    cases hv with
    | cons h1 h0 =>
      cases h0
      cases hz with
      | cons g1 g0 =>
        cases g0
        exact ⟨b, by rw [vok_bool g1], srt_run (P := P) hs hal hk hd p F2 H2 [_] o2 (.cons (h1.step st2) .nil) Q fun v F3 H3 s' o3 st3 hv3 p3 => q v F3 H3 s' o3 ((st1.trans o1 st2).trans o2 st3) hv3 p3⟩
end
/-- xs != ys, xs one's own -/
theorem ops_ne_ls {P : Sl → Prop} {ds : List D} {e : D} (hd : SeqAt.shaped (.list ds) = true) (he : SeqAt.shaped e = true) (p : P (.dat (.bool (!PyData.eqv (.list ds) e)))) : OpS K W (rNe2 K) (.ls ds) (.dat e) P := OpS.inl fun F H x y o hx hy Q q => by
  obtain ⟨a, vs, rfl, g2, g3, g4, g6⟩ := hx
  exact ⟨.list ds, e, .lst (SqL.of g2) (dpa_mono o.sub g6).old, (dp_mono o.sub hy).old, hd, he, q _ F H (.dat (.bool _)) o (Step.refl o) (.bl _) p⟩
theorem ev_put {x y : Nat} {ds : List D} {i : Nat} {te : TE} {P : Sl → Prop} (hx : ρ[x]? = some (.dat (.tuple ds))) (hy : ρ[y]? = some (.dat (.int (i : Int)))) (hl : ds.length ≤ 1000) (h : Ev K W H0 te ρ fun s => ∃ d, s = .dat d ∧ P (.dat (.tuple (cutD ds none (some (i : Int)) ++ [d] ++ cutD ds (some ((i : Int) + 1)) none)))) :
    Ev K W H0 (tOp (rAdd4 K) (tOp (rAdd4 K) (tSl (rSl3 K) (tVar x) tNoPart (tPart (tVar y))) (tTup (tCons te tNil))) (tSl (rSl3 K) (tVar x) (tPart (tOp (rAdd4 K) (tVar y) (tC (.int 1)))) tNoPart)) ρ P := by
  have c1 : ∀ lo hi, (cutD ds lo hi).length ≤ ds.length := fun lo hi => by
    unfold cutD
    rw [List.length_take, List.length_drop]
    omega
  have b1 := c1 none (some (i : Int))
  have b2 := c1 (some ((i : Int) + 1)) none
  refine ev_op (ev_op (ev_sl (ev_var hx (eo_none (eo_some (ev_var hy ⟨_, rfl, sls_tup (ev_tup (ea_cons (h.mono fun s k => ?_)))⟩))))))
  obtain ⟨d, rfl, p⟩ := k
  refine ea_nil ⟨[d], rfl, le_line (n := 1) rfl, ops_add_tup (big_line (by rw [List.length_singleton]; omega)) ?_⟩
  refine ev_sl (ev_var hx (eo_some (ev_op (ev_var hy (ev_int (ops_add_int ⟨_, rfl, eo_none (sls_tup (ops_add_tup (big_line (by rw [List.length_append, List.length_singleton]; omega)) p))⟩))))))
theorem ev_putE {y : Nat} {ds : List D} {i : Nat} {te tb : TE} {P : Sl → Prop} (hb : ∀ {P : Sl → Prop}, P (.dat (.tuple ds)) → Ev K W H0 tb ρ P) (hy : ρ[y]? = some (.dat (.int (i : Int)))) (hl : ds.length ≤ 1000) (h : Ev K W H0 te ρ fun s => ∃ d, s = .dat d ∧ P (.dat (.tuple (cutD ds none (some (i : Int)) ++ [d] ++ cutD ds (some ((i : Int) + 1)) none)))) :
    Ev K W H0 (tOp (rAdd4 K) (tOp (rAdd4 K) (tSl (rSl3 K) tb tNoPart (tPart (tVar y))) (tTup (tCons te tNil))) (tSl (rSl3 K) tb (tPart (tOp (rAdd4 K) (tVar y) (tC (.int 1)))) tNoPart)) ρ P := by
  have c1 : ∀ lo hi, (cutD ds lo hi).length ≤ ds.length := fun lo hi => by
    unfold cutD
    rw [List.length_take, List.length_drop]
    omega
  have b1 := c1 none (some (i : Int))
  have b2 := c1 (some ((i : Int) + 1)) none
  refine ev_op (ev_op (ev_sl (hb (eo_none (eo_some (ev_var hy ⟨_, rfl, sls_tup (ev_tup (ea_cons (h.mono fun s k => ?_)))⟩))))))
  obtain ⟨d, rfl, p⟩ := k
  refine ea_nil ⟨[d], rfl, le_line (n := 1) rfl, ops_add_tup (big_line (by rw [List.length_singleton]; omega)) ?_⟩
  refine ev_sl (hb (eo_some (ev_op (ev_var hy (ev_int (ops_add_int ⟨_, rfl, eo_none (sls_tup (ops_add_tup (big_line (by rw [List.length_append, List.length_singleton]; omega)) p))⟩))))))
/-- xs[:i] + xs[i + 1:], i written out -/
theorem ev_cut {x : Nat} {ds : List D} {i : Nat} {te te2 : TE} {P : Sl → Prop} (hx : ρ[x]? = some (.dat (.tuple ds))) (hl : ds.length ≤ 1000) (h1 : ∀ {P : Sl → Prop}, P (.dat (.int (i : Int))) → Ev K W H0 te ρ P) (h2 : ∀ {P : Sl → Prop}, P (.dat (.int ((i : Int) + 1))) → Ev K W H0 te2 ρ P) (p : P (.dat (.tuple (cutD ds none (some (i : Int)) ++ cutD ds (some ((i : Int) + 1)) none)))) :
    Ev K W H0 (tOp (rAdd4 K) (tSl (rSl3 K) (tVar x) tNoPart (tPart te)) (tSl (rSl3 K) (tVar x) (tPart te2) tNoPart)) ρ P := by
  have c1 : ∀ lo hi, (cutD ds lo hi).length ≤ ds.length := fun lo hi => by
    unfold cutD
    rw [List.length_take, List.length_drop]
    omega
  have b1 := c1 none (some (i : Int))
  have b2 := c1 (some ((i : Int) + 1)) none
  exact ev_op (ev_sl (ev_var hx (eo_none (eo_some (h1 ⟨_, rfl, sls_tup (ev_sl (ev_var hx (eo_some (h2 ⟨_, rfl, eo_none (sls_tup (ops_add_tup (big_line (by omega)) p))⟩))))⟩)))))
end
end DL

namespace DL
open PySem L2
section
variable {K : PySem.W.Frag} {W : Wd} {H0 F0 : Hp} {ρ : Rho} {N : Ends2} {tt : TT} {tb : TS}
/-- while: J m holds ahead of each turn, m falls -/
theorem sx_while (J : Nat → Rho → Prop) (m : Nat) (h0 : J m ρ)
    (h : ∀ m ρ', J m ρ' → EvT K W H0 tt ρ' fun b => if b = true then Sx K W H0 F0 tb ρ' { nx := fun ρ2 => ∃ m', m' < m ∧ J m' ρ2, ct := fun ρ2 => ∃ m', m' < m ∧ J m' ρ2, bk := N.nx, rt := N.rt } else N.nx ρ') :
    Sx K W H0 F0 (tWhile tt tb) ρ N := fun σ F H a D n r b c =>
  ⟨fun m σ2 H2 => ∃ F2 ρ2, At K W H0 F0 σ2 F2 H2 ρ2 ∧ Same F F2 ∧ J m ρ2, ⟨m, F, ρ, a, Same.refl _, h0⟩, fun m σ2 H2 ⟨F2, ρ2, a2, sm, j⟩ => h m ρ2 j σ2 F2 H2 a2.ok a2.ho _ fun k F3 H3 o3 st3 p => by
    have a3 := a2.step o3 st3
    cases k with
    | true =>
      rw [if_pos rfl] at p
      rw [if_pos rfl]
      refine ⟨fun σ4 H4 => ∃ m', m' < m ∧ ∃ F4 ρ4, At K W H0 F0 σ4 F4 H4 ρ4 ∧ Same F F4 ∧ J m' ρ4, fun σ4 H4 q => q, ?_⟩
      exact p σ2 F3 H3 a3 _ (fun σ4 F4 H4 ρ4 a4 s4 ⟨m', hm, j4⟩ => ⟨m', hm, F4, ρ4, a4, (sm.trans st3.fz).trans s4, j4⟩) r (fun σ4 F4 H4 ρ4 a4 s4 q => n σ4 F4 H4 ρ4 a4 ((sm.trans st3.fz).trans s4) q) (fun σ4 F4 H4 ρ4 a4 s4 ⟨m', hm, j4⟩ => ⟨m', hm, F4, ρ4, a4, (sm.trans st3.fz).trans s4, j4⟩)
    | false => exact n σ2 F3 H3 ρ2 a3 (sm.trans st3.fz) p⟩
end
section
variable {K : PySem.W.Frag} {W : Wd} {H0 F0 : Hp} {ρ : Rho} {te : TE} {tt tt1 : TT} {PN : List D → Prop}
theorem walk_it {J : It} {n : Nat} {G : Hp → Prop} {Y : Nat → Hp → V → Hp → Prop} (w : Walk J n G Y) (Pv : Nat → Hp → Prop) {H1 : Hp} (h0 : Pv 0 H1) (hG : ∀ i H, i ≤ n → Pv i H → G H) {Qd : Hp → Prop} (hQ : ∀ H, Pv n H → Qd H) {B : (Hp → Prop) → V → Hp → Prop}
    (hB : ∀ i x H H', i < n → Pv i H → Y i H x H' → B (Pv (i + 1)) x H') :
    ∃ W : Nat → Nat → Hp → Prop, (∃ m, W 0 m H1) ∧ ∀ i m H, W i m H → (J.stop i H ∧ Qd H) ∨ (J.go i H ∧ ∃ Nx : Hp → Prop, (∀ H', Nx H' → ∃ m', m' < m ∧ W (i + 1) m' H') ∧ ∀ x H', J.yld i H x H' → B Nx x H') := by
  refine ⟨fun i m H => i ≤ n ∧ m = n - i ∧ Pv i H, ⟨n, Nat.zero_le _, rfl, h0⟩, fun i m H ⟨hi, hm, p⟩ => ?_⟩
  by_cases q : i = n
  · subst q
    exact .inl ⟨w.stops H (hG i H hi p), hQ H p⟩
  · have hi' : i < n := by omega
    have g := hG i H hi p
    exact .inr ⟨w.goes i H hi' g, Pv (i + 1), fun H' p' => ⟨n - (i + 1), by omega, by omega, rfl, p'⟩, fun x H' y => hB i x H H' hi' p (w.yields i H x H' hi' g y)⟩
/-- no slot has a list of one's own -/
def noOwn (ρ : Rho) : Bool := ρ.all fun s => match s with | .ls _ => false | _ => true
theorem noOwn_at {ρ : Rho} (h : noOwn ρ = true) {j : Nat} {es : List D} : ρ[j]? ≠ some (.ls es) := fun e => by
  have := List.all_eq_true.mp h _ (List.mem_of_getElem? e)
  cases this
theorem noOwn_wipe {ρ : Rho} (h : noOwn ρ = true) : ∀ vs : List Nat, noOwn (wipeR ρ vs) = true
  | [] => h
  | v :: vs => by
    have ih := noOwn_wipe h vs
    refine List.all_eq_true.mpr fun s m => ?_
    rcases List.mem_or_eq_of_mem_set m with m | rfl
    · exact List.all_eq_true.mp ih s m
    · rfl
theorem holds_other {σ : St} {F H : Hp} {p : Addr} {u : HO} (h : Holds K W H0 σ F H ρ) (hn : noOwn ρ = true) : Holds K W H0 σ F (upd H p u) ρ := by
  refine ⟨h.len, fun j s e => ?_, fun j k ds es q hjk e1 e2 e3 => absurd e1 (noOwn_at hn)⟩
  have g := h.at_ j s e
  cases s with
  | un => trivial
  | dat d => exact g
  | ls ds => exact absurd e (noOwn_at hn)
  | rf v => exact g
/-- [e for x in .. if .. for y in .. if ..] -/
theorem evn_lc2 {wi wi1 : TI} {g g1 : TG} {vs vs1 : List Nat} (J : List D → Nat → List D → Prop)
    (h : EvI K W H0 wi ρ fun ds => J ds 0 [] ∧ (∀ i d acc, ds[i]? = some d → J ds i acc → GC K W H0 vs g (.dat d) (wipeR ρ vs) fun ρ2 => EvT K W H0 tt ρ2 fun b =>
      if b = true then noOwn ρ2 = true ∧ EvI K W H0 wi1 ρ2 fun es => ∃ J1 : Nat → List D → Prop, J1 0 acc ∧ (∀ j e acc, es[j]? = some e → J1 j acc → GC K W H0 vs1 g1 (.dat e) (wipeR ρ2 vs1) fun ρ3 => EvT K W H0 tt1 ρ3 fun b =>
        if b = true then Ev K W H0 te ρ3 fun s => ∃ x, s = .dat x ∧ acc.length < sizeLine ∧ J1 (j + 1) (acc ++ [x]) else J1 (j + 1) acc) ∧ ∀ acc, J1 es.length acc → J ds (i + 1) acc
      else J ds (i + 1) acc) ∧ ∀ acc, J ds ds.length acc → PN acc) :
    EvN K W H0 (tLc2 wi g tt wi1 g1 tt1 te vs vs1) ρ PN := fun σ F H o ho Q q =>
  h σ F H o ho _ fun Jt F' H' ds o' st it ⟨j0, js, jd⟩ => by
    obtain ⟨G, Y, w, hG, hY⟩ := it.w
    intro Da hD
    obtain ⟨oD, stD⟩ := o'.own (u := .lst []) hD
    have nz : ¬ W.Z Da := o'.nz hD
    have hw := (ho.step st).wipe vs
    have chg : ∀ {F2 H2 : Hp} {vs2 ws : List V}, Ok W F2 H2 → Step W F' H' F2 H2 → H2 Da = some (.lst vs2) → F2 Da = none → Ok W F2 (upd H2 Da (.lst ws)) ∧ Step W F' H' F2 (upd H2 Da (.lst ws)) := fun {F2 H2 vs2 ws} o2 st2 hA hF =>
      ⟨o2.mut hA nz hF, st2.fz, fun b u hz e => by
        have q : b ≠ Da := fun z => by rw [z, hD] at e; cases e
        rw [upd_ne q]
        exact st2.kp b u hz e, st2.nw⟩
    refine walk_it w (fun i H2 => ∃ F2 vs2 acc, Ok W F2 H2 ∧ Step W F' H' F2 H2 ∧ H2 Da = some (.lst vs2) ∧ F2 Da = none ∧ DpAll K F2 vs2 acc ∧ J ds i acc) ?_ ?_ ?_ ?_
    · exact ⟨F', [], [], oD, stD, upd_same, o'.free hD, .nil, j0⟩
    · rintro i H2 _ ⟨F2, vs2, acc, o2, st2, _⟩
      exact hG F2 H2 o2 st2.fz
    · rintro H2 ⟨F2, vs2, acc, o2, st2, hA, hF, hd, j⟩
      exact q Da vs2 F2 H2 acc o2 (st.trans o' st2) (st.back o' hD) hA hF nz hd (jd acc j)
    · rintro i x H2 H3 hi ⟨F2, vs2, acc, o2, st2, hA, hF, hd, j⟩ y
      obtain ⟨F3, d, o3, st3, e1, e2⟩ := hY i x F2 H2 H3 hi o2 st2.fz y
      have st3' := st2.trans o2 st3
      have hs := js i d acc e1 j
      refine hs x (wipe σ vs) F3 H3 o3 (hw.step st3') e2 _ fun σ4 ρ4 h4 ew k => ?_
      refine ⟨ew.trans (wipe_idem fun _ z => z), ?_⟩
      refine k σ4 F3 H3 o3 h4 _ fun b F5 H5 o5 st5 kb => ?_
      have hA5 := st5.kp _ _ nz (st3.kp _ _ nz hA)
      have hF5 := st5.nw Da (st3.nw Da hF (by rw [hA]; exact fun z => nomatch z)) (by rw [st3.kp _ _ nz hA]; exact fun z => nomatch z)
      have st5' := st3'.trans o3 st5
      have hd5 := dpa_mono st5.fz (dpa_mono st3.fz hd)
      have h5 := h4.step st5
      cases b with
      | false => exact ⟨F5, vs2, acc, o5, st5', hA5, hF5, hd5, kb⟩
      | true =>
        rw [if_pos rfl] at kb
        rw [if_pos rfl]
        refine kb.2 σ4 F5 H5 o5 h5 _ fun Jt1 F6 H6 es o6 st6 it1 ⟨J1, a0, as_, ad⟩ => ?_
        obtain ⟨G1, Y1, w1, hG1, hY1⟩ := it1.w
        have hA6 := st6.kp _ _ nz hA5
        have hF6 := st6.nw Da hF5 (by rw [hA5]; exact fun z => nomatch z)
        have st6' := st5'.trans o5 st6
        have h6 := (h5.step st6).wipe vs1
        have chg1 : ∀ {F2 H2 : Hp} {vs2 ws : List V}, Ok W F2 H2 → Step W F' H' F2 H2 → Same F6 F2 → H2 Da = some (.lst vs2) → F2 Da = none → Ok W F2 (upd H2 Da (.lst ws)) ∧ Step W F' H' F2 (upd H2 Da (.lst ws)) := fun o2 st2 _ hA hF => chg o2 st2 hA hF
        refine walk_it w1 (fun j H2 => ∃ F2 vs2 acc, Ok W F2 H2 ∧ Step W F' H' F2 H2 ∧ Same F6 F2 ∧ H2 Da = some (.lst vs2) ∧ F2 Da = none ∧ DpAll K F2 vs2 acc ∧ J1 j acc ∧ Holds K W H0 (wipe σ4 vs1) F2 H2 (wipeR ρ4 vs1)) ?_ ?_ ?_ ?_
        · exact ⟨F6, vs2, acc, o6, st6', Same.refl _, hA6, hF6, dpa_mono st6.fz hd5, a0, h6⟩
        · rintro j H2 _ ⟨F7, vs7, acc7, o7, st7, sm7, _⟩
          exact hG1 F7 H2 o7 sm7
        · rintro H2 ⟨F7, vs7, acc7, o7, st7, sm7, hA7, hF7, hd7, j7, _⟩
          exact ⟨F7, vs7, acc7, o7, st7, hA7, hF7, hd7, ad acc7 j7⟩
        · rintro j x H7 H8 hj ⟨F7, vs7, acc7, o7, st7, sm7, hA7, hF7, hd7, j7, h7⟩ y
          obtain ⟨F8, e, o8, st8, e1', e2'⟩ := hY1 j x F7 H7 H8 hj o7 sm7 y
          have st8' := st7.trans o7 st8
          refine as_ j e acc7 e1' j7 x (wipe σ4 vs1) F8 H8 o8 (h7.step st8) e2' _ fun σ9 ρ9 h9 ew9 k9 => ?_
          refine ⟨ew9.trans (wipe_idem fun _ z => z), ?_⟩
          refine k9 σ9 F8 H8 o8 h9 _ fun b F10 H10 o10 st10 kb10 => ?_
          have hA8 := st8.kp _ _ nz hA7
          have hF8 := st8.nw Da hF7 (by rw [hA7]; exact fun z => nomatch z)
          have hA10 := st10.kp _ _ nz hA8
          have hF10 := st10.nw Da hF8 (by rw [hA8]; exact fun z => nomatch z)
          have st10' := st8'.trans o8 st10
          have hd10 := dpa_mono st10.fz (dpa_mono st8.fz hd7)
          have h10 := (h7.step st8).step st10
          have sm10 := (sm7.trans st8.fz).trans st10.fz
          cases b with
          | false => exact ⟨F10, vs7, acc7, o10, st10', sm10, hA10, hF10, hd10, kb10, h10⟩
          | true =>
            rw [if_pos rfl] at kb10
            rw [if_pos rfl]
            refine kb10 σ9 F10 H10 o10 (h9.step st10) _ fun v F11 H11 s o11 st11 hv ⟨z, es', hz, jz⟩ => ?_
            subst es'
            have hA11 := st11.kp _ _ nz hA10
            have hF11 := st11.nw Da hF10 (by rw [hA10]; exact fun z => nomatch z)
            obtain ⟨o12, st12⟩ := chg (ws := vs7 ++ [v]) o11 (st10'.trans o10 st11) hA11 hF11
            refine ⟨vs7, hA11, by rw [dpa_len hd10]; exact hz, F11, vs7 ++ [v], acc7 ++ [z], o12, st12, sm10.trans st11.fz, upd_same, hF11, dpa_app (dpa_mono st11.fz hd10) (.cons hv .nil), jz, ?_⟩
            exact holds_other (h10.step st11) (noOwn_wipe kb.1 vs1)
end
section
variable {K : PySem.W.Frag} {W : Wd} {H0 F0 : Hp} {ρ : Rho} {te : TE} {N : Ends2}
/-- x += e, of ints -/
theorem sx_augI {i : Nat} {a : Int} {f : Int → Int → Int} (hi : ρ[i]? = some (.dat (.int a))) (h : Ev K W H0 te ρ fun s => ∃ b : Int, s = .dat (.int b) ∧ N.nx (ρ.set i (.dat (.int (f a b))))) : Sx K W H0 F0 (tAug i te (ipI f)) ρ N := fun σ F H at_ D n r b c => by
  obtain ⟨v, g1, g2⟩ := at_.ho.at_ i _ hi
  have ev := vok_int (K := K) (W := W) (H := H) (F := F) g2
  subst ev
  refine ⟨_, g1, h σ F H at_.ok at_.ho _ fun y F1 H1 s o1 st1 hy ⟨e, es, k⟩ => ?_⟩
  subst es
  rw [vok_int hy]
  have a1 := at_.step o1 st1
  exact ⟨a, e, rfl, rfl, n _ F1 H1 _ ⟨o1, a1.st, a1.ho.set (s := .dat (.int (f a e))) (.int _) trivial⟩ st1.fz k⟩
end
end DL

namespace DL
open PySem L2
/-! ### isinstance of a caught error with fields -/
/-- facts of an error's class D, for isinstance -/
structure IsC (K : PySem.W.Frag) (D : Addr) : Prop where
  cl : (PySem.W.clsIn K D).isSome = true
  ga : PySem.W.findIn K (.ref D) "__getattribute__" = some (some (.builtin "BaseException.__getattribute__"))
  gg : PySem.W.findIn K (.ref D) "__getattr__" = some none
  ex : PySem.W.subIn K (.ref D) (.type "BaseException") = some true
  cc : PySem.W.findIn K (.ref D) "__class__" = some (some (.builtin "object.__class__"))
  cg : PySem.W.specialIn K (.builtin "object.__class__") "__get__" = some (some (.builtin "getset_descriptor.__get__"))
  ct : PySem.W.takesIn K (.builtin "object.__class__") = some true
  cm : PySem.W.mroIn K D (.type "object") = some true
def rIsEX (K : PySem.W.Frag) (D a dd : Addr) : List V → Hp → VK → Prop := fun xs H Q => ∃ (c : V) (b : Bool) (fs : List (Str × V)), xs = [.ref a, c] ∧ H dd = some (.xd fs) ∧
  ((∃ cv, (∀ u, RelV c u → u = cv) ∧ PySem.W.kitOne K (.ref D) cv = some b) ∨ (∃ (p : Addr) (cs : List V), c = .ref p ∧ SqT K H p cs ∧ ∀ us, Vals cs us → PySem.W.kitAny K (.ref D) us = some b)) ∧ Q (.bl b) H
theorem call_isEX {X : Cx} {a D dd : Addr} {oe : Obj} {pn : List (Addr × Obj)} (T : IsC X.K D) (hz : Zc (.ref D) (some dd) oe) (hf : ∃ vs, oe.data = .fields vs) : CallR (X.suite a ((a, oe) :: pn)) (.builtin "isinstance") (rIsEX X.K D a dd) := by
  intro pins s σ H xs us Q I r h
  obtain ⟨c, b, fs, rfl, hx, hc, q⟩ := h
  have g := (I.pin (a, oe) (by simp)).1
  have hk := I.hok dd _ hx
  obtain ⟨hz1, hz2⟩ := hz
  have ho : ∃ o, s.heap.get? dd = some o := by
    obtain ⟨mA, hn, _⟩ := hk
    obtain ⟨o, es, ep, h1, _⟩ := hn
    exact ⟨o, h1⟩
  obtain ⟨o, ho⟩ := ho
  have no : PySem.W.notCls oe = true := by
    obtain ⟨vs, e⟩ := hf
    simp [PySem.W.notCls, e]
  have hi : PySem.W.InstAt s.heap a oe D (some o) := ⟨g, hz1, no, by rw [hz2]; exact ho⟩
  have kx := PySem.W.kitx_exc (K := X.K) (x := a) (C := D) (ox := oe) (od := some o) T.cl T.ga T.gg T.ex T.cc T.cg T.ct T.cm
  have fin : ∀ tk : Nat, EP (X.suite a ((a, oe) :: pn)) pins σ Q (.bool b) { s with toks := tk } := fun tk => ⟨.bl b, H, I.tok tk, rfl, q⟩
  cases r with
  | cons r1 r2 =>
    cases r2 with
    | cons r3 r4 =>
      cases r4
      obtain rfl := r1
      rcases hc with ⟨cv, h1, h2⟩ | ⟨p, cs, rfl, h1, h2⟩
      · obtain rfl := h1 _ r3
        exact PySem.W.kia_one kx I.kIn hi h2 (fun z => nomatch z) fin
      · obtain rfl := r3
        obtain ⟨its, rv, hL, hzz⟩ := I.tuple h1
        obtain ⟨⟨cl, di, da, sl⟩, g1, g2, n, g3⟩ := hL
        simp only at g2 g3
        subst g2 g3
        exact PySem.W.kia_tup kx I.kIn hi g1 (h2 its rv) (fun z => nomatch z) fin
end DL

namespace DL
open PySem L2 RZ PySem.Spec PyProof.Rows
/-! ### defs that may raise, where no object is being shown -/
structure FnGX (Pg : Program) (w : World) (K : PySem.W.Frag) (mg : Str → Option Value) (base : Heap) (k : Nat) (f : Addr) (fd : FuncData) (ps : List Str) (sp : Sp) : Prop where
  len : ∀ vs H Q E, sp vs H Q E → vs.length = ps.length
  run : ∀ (A : Around) (outer : List Env) (s : Shared) (H : Hp) (args : Args) (us : List Value) (vs : List V) (Q : VK) (E : XK), A.guards = some [] → Room k A → Env0 Pg w K mg base A outer s H →
    BindsTo s fd args (ps.zip us) → Vals vs us → sp vs H Q E → codeAny (model Pg w) A (.call (.ref f) args) (CR (CX Pg w) outer Pg w H s Q E) s
section
variable {Pg : Program} {w : World} {K : PySem.W.Frag} {mg : Str → Option Value} {base : Heap}
theorem fnGX_of {x qual : Str} {st : Stmt} {f : Addr} {fd : FuncData} {N ps : List Str} {k : Nat} {sp : Sp} (F : Fun K x qual st f fd) (S : FnScope N ps (defScope st)) (len : ∀ vs H Q E, sp vs H Q E → vs.length = ps.length)
    (hb : ∀ (cdv : Value) (A : Around) (ou : List Env) (s : Shared) (H : Hp) (vs : List V) (Q : VK) (E : XK), A.guards = some [] → Room k (A.deeper (envOfC qual (defScope st) s.heap.objs.size f cdv)) → sp vs H Q E →
      ∃ t, PSs (cxOf (CX Pg w) Pg w K mg base N qual (defScope st) f cdv A ou s H E) (defBody st) t ∧ t { nx := fun _ H' => Q .non H', rt := Q } (L2.start N vs) H) : FnGX Pg w K mg base (k + 1) f fd ps sp := by
  obtain ⟨oc, od, kV, doc, pm, an, cdv, ct, osl, efd, lk, hcd⟩ := F.ex
  subst efd
  refine ⟨len, fun A ou s H ar us vs Q E hgd hr en hbd hv hsp => ?_⟩
  have hl := len vs H Q _ hsp
  have KX : K.In s.heap := en.mod.kin.keeps (fun b o e => (en.bs b o e).1)
  have lim : s.heap.NoLimit := en.mod.nolimit.keeps (fun b o e => (en.bs b o e).1)
  have hkd : ∀ y ∈ ps.zip us, (defScope st).names.lookup y.1 = some .local ∨ ((defScope st).names.lookup y.1 = some .cell ∧ ((cellsFrom (s.heap.objs.size + 1) (defScope st).names []).lookup y.1).isSome = true) := by
    rintro ⟨n, v⟩ hy
    rcases S.par n (List.of_mem_zip hy).1 with q | q
    · exact Or.inl q
    · exact Or.inr ⟨q, PySem.W.cellsFrom_some _ _ _ (Or.inl q)⟩
  refine codeAny_call_function hr.depth (KX _ _ lk) rfl S.co S.gen rfl (PySem.W.codeRec_of KX hcd) (hbd _ _ _ _ ?_)
  refine wpAny_newFunctionEnv_cells S.kind hkd fun env he s1 x => ?_
  subst he
  refine ⟨lim.keeps x.toInCall.keep, codeAny_func ?_⟩
  obtain ⟨t, ht, hq⟩ := hb cdv A ou s H vs Q E hgd (hr.deeper _) hsp
  have I := inv_start (CX := CX Pg w) (E := E) S hr.hd en hl hv x
  refine wpAny_mono (ht.run [] s1 (L2.start N vs) H _ I hq) ?_ (fun e s' hs => hs)
  intro fl s' hs
  cases fl with
  | ret u =>
    obtain ⟨v, σ', H', J, rv, q⟩ := hs
    exact ⟨v, H', J.os, J.bare, J.base, J.hok, rv, q⟩
  | next =>
    obtain ⟨σ', H', J, q⟩ := hs
    exact ⟨V.non, H', J.os, J.bare, J.base, J.hok, rfl, q⟩
  | brk => exact False.elim hs.choose_spec.choose_spec.2
  | cont => exact False.elim hs.choose_spec.choose_spec.2
end
section
variable {X : Cx} {k n : Nat} {f : Addr} {fd : FuncData} {ps ks : List Str} {sp : Sp} {x : Str} {p pos : Pos} {e : Expr} {es : List Expr} {kws : List Keyword} {t tk : TA} {W : WX}
structure FnX (Pg : Program) (w : World) (K : PySem.W.Frag) (mg : Str → Option Value) (base : Heap) (x : Str) (k : Nat) (ps : List Str) (sp : Sp) : Prop where
  ex : ∃ f fd, FnGX Pg w K mg base k f fd ps sp ∧ mg x = some (.ref f) ∧ PySem.W.keepIn K (.ref f) = true ∧ Binds K fd ps []
theorem run_GX {pins : List (Addr × Obj)} {σ : L2.St} {H : Hp} {s : Shared} {Q : VK} {E : XK} {args : Args} {us : List Value} {vs : List V} (F : FnGX X.prog X.w X.K X.mg X.base k f fd ps sp) (hgd : X.A.guards = some []) (hr : Room k X.A)
    (I : Inv X pins σ H s) (hb : BindsTo s fd args (ps.zip us)) (r : Vals vs us) (h : sp vs H Q E) (hx : PassesAt (CX X.prog X.w) X σ E) : wpAny (model X.prog X.w) X.A (call (.ref f) args.pos args.kw) (EP X pins σ Q) X.xe s := by
  refine wpAny_call (codeAny_mono (F.run X.A X.stack s H args us vs Q E hgd hr I.env0 hb r h) ?_)
  intro res s' hq
  cases res with
  | error e => exact hx _ _ _ _ _ I hq
  | ok fl =>
    cases fl with
    | ret u => exact I.after hq
    | next => exact False.elim hq
    | brk => exact False.elim hq
    | cont => exact False.elim hq
/-- f(e, ..) that may raise, W the wish of what is raised -/
theorem pe_fnX (C : FnX X.prog X.w X.K X.mg X.base x k ps sp) (tk : Takes X W) (hgd : X.A.guards = some []) (hr : Room k X.A) (hg : Gl X x) (ha : PA X (e :: es) t) (hdb : (x == ("__debug__" : Str)) = false := by decide)
    (he : starEach (e :: es) X.env = (false, eval e X.env) :: starEach es X.env := by rfl) (hpl : (backTo pos (starEach es X.env)).any (·.1) = false := by rfl) : PE X (.Call (.Name x p) (e :: es) [] pos) (tCallS sp (WE W) t) := by
  obtain ⟨f, fd, F, hm, hk, hb⟩ := C.ex
  refine ⟨fun pins s σ H Q I h => wpAny_Call_Name_kw (ld_glob I hg hm ?_ hdb)⟩
  refine PySem.W.callWith_K (h₀ := X.base) I.ok.mod.kin hk (thn (ha.run pos pins s σ H _ I h) ?_) he hpl
  rintro us s1 ⟨vs, H1, I1, r, q⟩
  have hl : (us ++ []).length = ps.length := by rw [List.append_nil, ← r.length]; exact F.len _ _ _ _ q
  have hb' := hb s1 us I1.kIn hl
  rw [List.append_nil] at hb'
  exact ⟨I1.kIn, run_GX (args := ⟨us, []⟩) F hgd hr I1 hb' r q (passAt tk σ)⟩
end
/-! ### raised errors, by data -/
/-- an error's own dict at d: fields of data -/
def Er (K : PySem.W.Frag) (W : Wd) (F H : Hp) (d : Addr) (fs : List (Str × D)) : Prop := ∃ vs : List V, H d = some (.xd ((fs.map Prod.fst).zip vs)) ∧ F d = none ∧ ¬ W.Z d ∧ DpAll K F vs (fs.map Prod.snd)
/-- a promise by data of a def that may raise: PE says of which class, with which fields -/
def PmX (K : PySem.W.Frag) (n : Nat) (Pre : Wd → Rho → Prop) (Post : Wd → Rho → Sl → Prop) (PE : Wd → Rho → Addr → List (Str × D) → Prop) : Sp := fun vs H Q E => ∃ W F ss, Ok W F H ∧ Paired (VOk K W F H) vs ss ∧ (∀ s ∈ ss, NoLs s) ∧ ss.length = n ∧ Pre W ss ∧
  (∀ v F' H' s, Ok W F' H' → Step W F H F' H' → VOk K W F' H' v s → Post W ss s → Q v H') ∧
  (∀ C d fs F' H', Ok W F' H' → Step W F H F' H' → Er K W F' H' d fs → PE W ss C fs → E (.ref C) (some d) H')
section
variable {K : PySem.W.Frag} {W : Wd} {H0 F0 : Hp} {ρ : Rho} {te : TE} {t : TA} {N : Ends2} {n : Nat} {Pre : Wd → Rho → Prop} {Post : Wd → Rho → Sl → Prop} {PE : Wd → Rho → Addr → List (Str × D) → Prop}
theorem pmX_len (vs : List V) (H : Hp) (Q : VK) (E : XK) (h : PmX K n Pre Post PE vs H Q E) : vs.length = n := by
  obtain ⟨W, F, ss, _, hp, _, hl, _⟩ := h
  rw [← hl]
  exact hp.length
/-- an expression that may raise: R says of which class, with which fields -/
def EvX (K : PySem.W.Frag) (W : Wd) (H0 : Hp) (te : WX → TE) (ρ : Rho) (P : Sl → Prop) (R : Addr → List (Str × D) → Prop) : Prop := ∀ σ F H, Ok W F H → Holds K W H0 σ F H ρ → ∀ (Q : VK) (Wx : WX),
  (∀ v F' H' s, Ok W F' H' → Step W F H F' H' → VOk K W F' H' v s → P s → Q v H') → (∀ C d fs F' H', Ok W F' H' → Step W F H F' H' → Er K W F' H' d fs → R C fs → Wx (.ref C) (some d) σ H') → te Wx σ H Q
theorem evx_fn {P : Sl → Prop} {R : Addr → List (Str × D) → Prop} (h : EvA K W H0 t ρ fun ss => (∀ s ∈ ss, NoLs s) ∧ ss.length = n ∧ Pre W ss ∧ (∀ s, Post W ss s → P s) ∧ ∀ C fs, PE W ss C fs → R C fs) :
    EvX K W H0 (fun Wx => tCallS (PmX K n Pre Post PE) (WE Wx) t) ρ P R := fun σ F H o ho Q Wx q x =>
  h σ F H o ho _ fun vs F1 H1 ss o1 st1 hv ⟨hn, hl, hp, k1, k2⟩ => ⟨W, F1, ss, o1, hv, hn, hl, hp, fun v F2 H2 s o2 st2 hs p => q v F2 H2 s o2 (st1.trans o1 st2) hs (k1 s p), fun C d fs F2 H2 o2 st2 he p => x C d fs F2 H2 o2 (st1.trans o1 st2) he (k2 C fs p)⟩
/-- (e, f(..)), f may raise -/
theorem evx_pair {tx : WX → TE} {P : Sl → Prop} {R : Addr → List (Str × D) → Prop} (h : Ev K W H0 te ρ fun s => ∃ d, s = .dat d ∧ EvX K W H0 tx ρ (fun u => ∃ e, u = .dat e ∧ P (.dat (.tuple [d, e]))) R) :
    EvX K W H0 (fun Wx => tTup (tCons te (tCons (tx Wx) tNil))) ρ P R := fun σ F H o ho Q Wx q x =>
  h σ F H o ho _ fun v F1 H1 s o1 st1 hv ⟨d, e, k⟩ => by
    subst e
    refine k σ F1 H1 o1 (ho.step st1) _ Wx (fun u F2 H2 s2 o2 st2 hu ⟨e, es, p⟩ => ?_) fun C d fs F2 H2 o2 st2 he r => x C d fs F2 H2 o2 (st1.trans o1 st2) he r
    subst es
    refine ⟨le_line (n := 2) rfl, fun a ha => ?_⟩
    obtain ⟨o3, st3⟩ := o2.new (u := .tup [v, u]) ha
    exact q (.ref a) _ _ (.dat (.tuple [d, e])) o3 ((st1.trans o1 st2).trans o2 st3) (.tup upd_same (dpa_mono st3.fz (.cons (dp_mono st2.fz hv) (.cons hu .nil)))) p
/-- try: return e / except X: suite, X the class c -/
theorem sx_try_ret {tx : WX → TE} {ts : Addr → Value → Option Addr → TS} {c : Value} {Wout : WX} (R : Addr → List (Str × D) → Prop)
    (hb : EvX K W H0 tx ρ N.rt R) (hc : ∀ C fs, R C fs → PySem.W.exmOne K (.ref C) c = some true) (hs : ∀ C fs, R C fs → ∀ a d, Sx K W H0 F0 (ts a (.ref C) (some d)) ρ N) :
    Sx K W H0 F0 (fun D σ H => tRet (tx (wOnly K c ts Wout D)) D σ H) ρ N := fun σ F H at_ D nn r b cc =>
  hb σ F H at_.ok at_.ho _ _ (fun v F1 H1 s o1 st1 hv p => r v F1 H1 s o1 (at_.st.trans at_.ok st1) hv p) fun C d fs F1 H1 o1 st1 he hr =>
    ⟨true, hc C fs hr, fun _ a ha => hs C fs hr a d σ F1 H1 (at_.step o1 st1) D (fun σ2 F2 H2 ρ2 a2 sm k => nn σ2 F2 H2 ρ2 a2 (st1.fz.trans sm) k) r (fun σ2 F2 H2 ρ2 a2 sm k => b σ2 F2 H2 ρ2 a2 (st1.fz.trans sm) k) (fun σ2 F2 H2 ρ2 a2 sm k => cc σ2 F2 H2 ρ2 a2 (st1.fz.trans sm) k), fun z => nomatch z⟩
end
end DL

namespace DL
open PySem L2
/-! ### a caught error, its fields -/
/-- the world in which the error's own dict stands at d -/
def errW (K : PySem.W.Frag) (W : Wd) (d : Addr) (fs : List (Str × D)) (vs : List V) : Wd where
  Z := fun b => W.Z b ∨ b = d
  I := fun F H => W.I F H ∧ H d = some (.xd ((fs.map Prod.fst).zip vs)) ∧ DpAll K F vs (fs.map Prod.snd)
  stab := fun F H F' H' ⟨h1, h2, h3⟩ hs hk hc => ⟨W.stab F H F' H' h1 hs (fun b o z e => hk b o (.inl z) e) hc, hk d _ (.inr rfl) h2, dpa_mono hs h3⟩
  back := fun F F' H0 H h h' => ⟨W.back F F' H0 H h.1 h'.1, h'.2.1, h.2.2⟩
section
variable {K : PySem.W.Frag} {W : Wd} {H0 F0 : Hp} {ρ : Rho} {t : TS} {N : Ends2} {d : Addr} {fs : List (Str × D)} {vs : List V}
structure ErV (K : PySem.W.Frag) (W : Wd) (F H : Hp) (d : Addr) (fs : List (Str × D)) (vs : List V) : Prop where
  at_ : H d = some (.xd ((fs.map Prod.fst).zip vs))
  fr : F d = none
  nz : ¬ W.Z d
  dp : DpAll K F vs (fs.map Prod.snd)
theorem Er.v {F H : Hp} (h : Er K W F H d fs) : ∃ vs, ErV K W F H d fs vs := by
  obtain ⟨vs, h1, h2, h3, h4⟩ := h
  exact ⟨vs, h1, h2, h3, h4⟩
theorem err_ok {F H : Hp} (o : Ok W F H) (h : ErV K W F H d fs vs) : Ok (errW K W d fs vs) F H := by
  refine ⟨o.sub, fun b z => ?_, o.inv, h.at_, h.dp⟩
  rcases z with z | rfl
  · exact o.z b z
  · exact ⟨h.fr, by rw [h.at_]; exact fun z => nomatch z⟩
theorem ok_err {F H : Hp} (o : Ok (errW K W d fs vs) F H) : Ok W F H := ⟨o.sub, fun b z => o.z b (.inl z), o.inv.1⟩
theorem step_err {F H F' H' : Hp} (st : Step W F H F' H') : Step (errW K W d fs vs) F H F' H' := ⟨st.fz, fun b u hz e => st.kp b u (fun z => hz (.inl z)) e, st.nw⟩
theorem back_err {F1 H1 F2 H2 : Hp} (st1 : Step W F0 H0 F1 H1) (h : ErV K W F1 H1 d fs vs) (st : Step (errW K W d fs vs) F0 H0 F2 H2) (o : Ok (errW K W d fs vs) F2 H2) : Step W F0 H0 F2 H2 :=
  ⟨st.fz, fun b u hzb e => by
    by_cases q : b = d
    · subst q
      have e1 := st1.kp b u hzb e
      rw [h.at_] at e1
      rw [o.inv.2.1]
      exact e1
    · exact st.kp b u (fun z => z.elim hzb q) e, st.nw⟩
theorem holds_err {σ : St} {F H : Hp} (ho : Holds K W H0 σ F H ρ) (h : ErV K W F H d fs vs) : Holds K (errW K W d fs vs) H0 σ F H ρ := by
  refine ⟨ho.len, fun i s e => ?_, ho.dis⟩
  have g := ho.at_ i s e
  cases s with
  | un => trivial
  | dat x => exact g
  | rf u => exact g
  | ls ds =>
    obtain ⟨p, ws, g1, g2, g3, g4, g5, g6⟩ := g
    refine ⟨p, ws, g1, g2, g3, fun z => ?_, g5, g6⟩
    rcases z with z | rfl
    · exact g4 z
    · rw [h.at_] at g2
      cases g2
theorem holds_back {σ : St} {F H : Hp} (ho : Holds K (errW K W d fs vs) H0 σ F H ρ) : Holds K W H0 σ F H ρ := by
  refine ⟨ho.len, fun i s e => ?_, ho.dis⟩
  have g := ho.at_ i s e
  cases s with
  | un => trivial
  | dat x => exact g
  | rf u => exact g
  | ls ds =>
    obtain ⟨p, ws, g1, g2, g3, g4, g5, g6⟩ := g
    exact ⟨p, ws, g1, g2, g3, fun z => g4 (.inl z), g5, g6⟩
theorem vok_back {F H : Hp} {v : V} {s : Sl} (h : VOk K (errW K W d fs vs) F H v s) : VOk K W F H v s := by
  cases s with
  | un => exact h
  | dat x => exact h
  | rf u => exact h
  | ls ds =>
    obtain ⟨p, ws, g1, g2, g3, g4, g5⟩ := h
    exact ⟨p, ws, g1, g2, g3, fun z => g4 (.inl z), g5⟩
/-- a suite is run in the error's world -/
theorem sx_err {σ : St} {F H : Hp} (a : At K W H0 F0 σ F H ρ) (e : ErV K W F H d fs vs) (h : Sx K (errW K W d fs vs) H0 F0 t ρ N) (D : Ends)
    (n : ∀ σ' F' H' ρ', At K W H0 F0 σ' F' H' ρ' → Same F F' → N.nx ρ' → D.nx σ' H') (r : ∀ v F' H' s, Ok W F' H' → Step W F0 H0 F' H' → VOk K W F' H' v s → N.rt s → D.rt v H')
    (b : ∀ σ' F' H' ρ', At K W H0 F0 σ' F' H' ρ' → Same F F' → N.bk ρ' → D.bk σ' H') (c : ∀ σ' F' H' ρ', At K W H0 F0 σ' F' H' ρ' → Same F F' → N.ct ρ' → D.ct σ' H') : t D σ H := by
  have bk : ∀ {σ' F' H' ρ'}, At K (errW K W d fs vs) H0 F0 σ' F' H' ρ' → At K W H0 F0 σ' F' H' ρ' := fun a' => ⟨ok_err a'.ok, back_err a.st e a'.st a'.ok, holds_back a'.ho⟩
  exact h σ F H ⟨err_ok a.ok e, step_err a.st, holds_err a.ho e⟩ D (fun σ' F' H' ρ' a' sm k => n σ' F' H' ρ' (bk a') sm k) (fun v F' H' s o' st' hv k => r v F' H' s (ok_err o') (back_err a.st e st' o') (vok_back hv) k) (fun σ' F' H' ρ' a' sm k => b σ' F' H' ρ' (bk a') sm k) (fun σ' F' H' ρ' a' sm k => c σ' F' H' ρ' (bk a') sm k)
/-- e.f of the caught error -/
theorem ev_xf {a C : Addr} {f : Str} {te : TE} {P : Sl → Prop} {x : D} {k : Nat} (h : Ev K (errW K W d fs vs) H0 te ρ fun s => s = .rf (.ref a)) (hk : fs[k]? = some (f, x)) (hn : ∀ j < k, ∀ q, fs[j]? = some q → q.1 ≠ f) (p : P (.dat x)) :
    Ev K (errW K W d fs vs) H0 (tXf a (.ref C) (some d) C f te) ρ P := fun σ F H o ho Q q =>
  h σ F H o ho _ fun v F1 H1 s o1 st1 hv e => by
    subst e
    obtain ⟨_, h2, h3⟩ := o1.inv
    have hv' : v = .ref a := hv
    obtain ⟨y, hy, hyd⟩ := dpa_get' (d := x) (i := k) h3 (by rw [List.getElem?_map, hk]; rfl)
    refine ⟨hv', rfl, d, _, y, rfl, h2, ?_, q y F1 H1 (.dat x) o1 st1 hyd p⟩
    have hz : ∀ (ns : List Str) (ws : List V) (k : Nat), ns[k]? = some f → (∀ j < k, ns[j]? ≠ some f) → ws[k]? = some y → (ns.zip ws).lookup f = some y := by
      intro ns
      induction ns with
      | nil => intro ws k e _ _; cases e
      | cons n ns ih =>
        intro ws k e hne ew
        cases ws with
        | nil => cases ew
        | cons w ws =>
          cases k with
          | zero =>
            have e : n = f := by simpa using e
            have ew : w = y := by simpa using ew
            subst e ew
            simp [List.zip_cons_cons, List.lookup_cons]
          | succ k =>
            have h0 : n ≠ f := fun z => hne 0 (Nat.succ_pos _) (by simp [z])
            rw [List.zip_cons_cons, List.lookup_cons]
            have : (f == n) = false := by simpa using fun z => h0 z.symm
            rw [this]
            exact ih ws k (by simpa using e) (fun j hj z => hne (j + 1) (Nat.succ_lt_succ hj) (by simpa using z)) (by simpa using ew)
    refine hz _ _ k (by rw [List.getElem?_map, hk]; rfl) (fun j hj z => ?_) hy
    rw [List.getElem?_map] at z
    cases e : fs[j]? with
    | none => rw [e] at z; cases z
    | some qq =>
      rw [e] at z
      exact hn j hj qq e (by simpa using z)
end
end DL

namespace DL
open PySem L2
section
variable {K : PySem.W.Frag} {W : Wd} {H0 F0 : Hp} {ρ : Rho} {N : Ends2} {ta : TA}
/-- try: return e / except X as n: suite, n in slot i -/
theorem sx_try_as_ret {tx : WX → TE} {ts : Addr → Value → Option Addr → TS} {c : Value} {Wout : WX} {i : Nat} (R : Addr → List (Str × D) → Prop)
    (hb : EvX K W H0 tx ρ N.rt R) (hc : ∀ C fs, R C fs → PySem.W.exmOne K (.ref C) c = some true)
    (hs : ∀ C fs, R C fs → ∀ a d vs, Sx K (errW K W d fs vs) H0 F0 (ts a (.ref C) (some d)) (ρ.set i (.rf (.ref a))) { nx := fun ρ' => N.nx (ρ'.set i .un), rt := N.rt, bk := fun ρ' => N.bk (ρ'.set i .un), ct := fun ρ' => N.ct (ρ'.set i .un) }) :
    Sx K W H0 F0 (fun D σ H => tRet (tx (wAs K c i ts Wout D)) D σ H) ρ N := fun σ F H at_ D nn r b cc =>
  hb σ F H at_.ok at_.ho _ _ (fun v F1 H1 s o1 st1 hv p => r v F1 H1 s o1 (at_.st.trans at_.ok st1) hv p) fun C d fs F1 H1 o1 st1 he hr =>
    ⟨true, hc C fs hr, fun _ a ha => by
      obtain ⟨vs, ev⟩ := he.v
      have a1 := at_.step o1 st1
      have a2 : At K W H0 F0 (σ.set i (some (.ref a))) F1 H1 (ρ.set i (.rf (.ref a))) := ⟨a1.ok, a1.st, a1.ho.set (s := .rf (.ref a)) rfl trivial⟩
      have off : ∀ {σ2 F2 H2 ρ2}, At K W H0 F0 σ2 F2 H2 ρ2 → At K W H0 F0 (σ2.set i none) F2 H2 (ρ2.set i .un) := fun x => ⟨x.ok, x.st, x.ho.un⟩
      exact sx_err a2 ev (hs C fs hr a d vs) _ (fun σ2 F2 H2 ρ2 x sm k => nn _ F2 H2 _ (off x) (st1.fz.trans sm) k) r (fun σ2 F2 H2 ρ2 x sm k => b _ F2 H2 _ (off x) (st1.fz.trans sm) k) (fun σ2 F2 H2 ρ2 x sm k => cc _ F2 H2 _ (off x) (st1.fz.trans sm) k), fun z => nomatch z⟩
/-- what __init__ of an error with two fields does -/
def initSp (K : PySem.W.Frag) (f1 f2 : Str) : Sp := fun vs H Q _ => ∃ (a C : Addr) (x y : V), vs = [.ref a, x, y] ∧ OexC K C ∧ PySem.W.findIn K (.ref C) f1 = some none ∧ PySem.W.findIn K (.ref C) f2 = some none ∧ H a = some (exo a C none) ∧
  ∀ d, H d = none → d ≠ a → Q .non (upd (upd (upd H d (exd d [(f1, x)])) a (exo a C (some d))) d (exd d [(f2, y), (f1, x)]))
/-- raise X(e1, e2) -/
theorem sx_raise2 {C : Addr} {E : XK} {f1 f2 : Str} (hC : OexC K C) (h1 : PySem.W.findIn K (.ref C) f1 = some none) (h2 : PySem.W.findIn K (.ref C) f2 = some none)
    (h : EvA K W H0 ta ρ fun ss => ∃ x y, ss = [.dat x, .dat y] ∧ ∀ dd F' H', Ok W F' H' → Step W F0 H0 F' H' → Er K W F' H' dd [(f2, y), (f1, x)] → E (.ref C) (some dd) H') :
    Sx K W H0 F0 (fun _ σ H => tMkO C (initSp K f1 f2) [] ta σ H fun cls d H' => E cls d H') ρ N := fun σ F H at_ D nn r b cc =>
  h σ F H at_.ok at_.ho _ fun vs F1 H1 ss o1 st1 hv ⟨x, y, es, k⟩ => by
    subst es
    cases hv with
    | cons e1 hv =>
      cases hv with
      | cons e2 hv =>
        cases hv
        rename_i v1 v2
        refine ⟨Nat.le_of_ble_eq_true rfl, fun a ha => ⟨a, C, v1, v2, rfl, hC, h1, h2, upd_same, fun d hd hda => ⟨rfl, d, _, ?_, upd_same, ?_, ?_⟩⟩⟩
        · rw [upd_ne hda.symm, upd_same]
        · rw [upd_ne hda] at hd
          exact hd
        · have hd1 : H1 d = none := by rw [upd_ne hda] at hd; exact hd
          have e : upd (del (upd (upd (upd (upd H1 a (exo a C none)) d (exd d [(f1, v1)])) a (exo a C (some d))) d (exd d [(f2, v2), (f1, v1)])) a) d (.xd [(f2, v2), (f1, v1)]) = upd H1 d (.xd [(f2, v2), (f1, v1)]) := by
            funext b
            by_cases q : b = d
            · rw [q, upd_same, upd_same]
            · rw [upd_ne q, upd_ne q]
              by_cases q2 : b = a
              · subst q2
                simp [del, ha]
              · simp [del, q2, upd_ne, q]
          rw [e]
          obtain ⟨o2, st2⟩ := o1.own (u := .xd [(f2, v2), (f1, v1)]) hd1
          have a2 := (at_.step o1 st1).step o2 st2
          exact k d F1 _ o2 a2.st ⟨[v2, v1], upd_same, o1.free hd1, o1.nz hd1, .cons e2 (.cons e1 .nil)⟩
end
end DL

namespace DL
open PySem L2
section
variable {K : PySem.W.Frag} {W : Wd} {H0 : Hp} {ρ : Rho} {P : Sl → Prop} {d a C : Addr} {fs : List (Str × D)} {vs : List V}
/-- some classes, written one behind the other -/
def tRefs : List Addr → TA
  | [] => tNil
  | c :: cs => tCons (tC (.ref c)) (tRefs cs)
theorem trefs_run : ∀ (cs : List Addr) {σ : St} {H : Hp} {R : List V → Hp → Prop}, R (cs.map V.ref) H → tRefs cs σ H R
  | [], _, _, _, h => h
  | c :: cs, σ, H, R, h => by
    show tRefs cs σ H fun vs H1 => R (.ref c :: vs) H1
    exact trefs_run cs h
theorem vals_refs : ∀ {cs : List Addr} {us : List Value}, Vals (cs.map V.ref) us → us = cs.map Value.ref
  | [], _, r => by cases r; rfl
  | c :: cs, _, r => by
    rw [List.map_cons] at r
    cases r with
    | cons h t =>
      have h : _ = Value.ref c := h
      rw [h, vals_refs t]
      rfl
/-- isinstance(e, X) of the caught error -/
theorem ev_isE1 {i : Nat} {c : Addr} {b : Bool} (hi : ρ[i]? = some (.rf (.ref a))) (hb : PySem.W.kitOne K (.ref C) (.ref c) = some b) (p : P (.dat (.bool b))) :
    Ev K (errW K W d fs vs) H0 (tCB (rIsEX K C a d) (tCons (tVar i) (tCons (tC (.ref c)) tNil))) ρ P := fun σ F H o ho Q q =>
  ⟨.ref a, ho.at_ i _ hi, .ref c, b, _, rfl, o.inv.2.1, .inl ⟨.ref c, fun u h => h, hb⟩, q _ F H (.dat (.bool b)) o (Step.refl o) (.bl b) p⟩
/-- isinstance(e, (X, ..)) of the caught error -/
theorem ev_isE2 {i : Nat} {cs : List Addr} {b : Bool} (hi : ρ[i]? = some (.rf (.ref a))) (hl : cs.length ≤ sizeLine) (hb : PySem.W.kitAny K (.ref C) (cs.map Value.ref) = some b) (p : P (.dat (.bool b))) :
    Ev K (errW K W d fs vs) H0 (tCB (rIsEX K C a d) (tCons (tVar i) (tCons (tTup (tRefs cs)) tNil))) ρ P := fun σ F H o ho Q q => by
  refine ⟨.ref a, ho.at_ i _ hi, trefs_run cs ⟨by rw [List.length_map]; exact hl, fun p' hp => ?_⟩⟩
  obtain ⟨o2, st2⟩ := o.own (u := .tup (cs.map V.ref)) hp
  exact ⟨.ref p', b, _, rfl, o2.inv.2.1, .inr ⟨p', _, rfl, SqT.of upd_same, fun us r => by rw [vals_refs r]; exact hb⟩, q _ F _ (.dat (.bool b)) o2 st2 (.bl b) p⟩
end
end DL

namespace DL
open PySem L2 RZ
/-! ### range(n) kept in a name -/
def rRangeV : List V → Hp → VK → Prop := fun vs H Q => ∃ j : Int, vs = [.int j] ∧ ∀ p, H p = none → Q (.ref p) (upd H p (.rng 0 j))
section
open PySem.Spec PyProof.Rows
variable {X : Cx}
theorem cr_rangeV : CallR X (.type "range") rRangeV := fun pins s σ H vs us Q I r h => by
  obtain ⟨j, e, q⟩ := h
  subst e
  cases r with
  | cons r1 r2 =>
    cases r2
    obtain ⟨t, et⟩ := r1
    subst et
    have nw := I.hok.fresh (Nat.le_refl _)
    exact call_range_1 ⟨.ref s.heap.objs.size, _, I.laid (o := .rng 0 j) (t' := s.toks + 2) (fun b o e => Heap.get?_push_of_some _ e) (Nat.le_refl _) ⟨_, _, _, Heap.get?_push_size _ rfl⟩, rfl, q _ nw⟩
/-- a kept range is walked -/
def iRngV (te : TE) : TI := fun σ H R => te σ H fun x H1 => ∃ (p : Addr) (lo hi : Int), x = .ref p ∧ H1 p = some (.rng lo hi) ∧ (-(2 ^ 62) ≤ lo ∧ lo < 2 ^ 62 ∧ -(2 ^ 62) ≤ hi ∧ hi < 2 ^ 62) ∧ R (Itr lo (hi - lo).toNat) H1
theorem pi_rngV {tg l : Expr} {te : TE} (hl : PE X l te) : PI X tg l (iRngV te) := by
  constructor
  intro pins s σ H R I h
  refine thn (hl.run pins s σ H _ I h) fun v s1 ⟨x, H1, J, rx, k⟩ => ?_
  obtain ⟨p, lo, hi, ex, hp, ⟨b1, b2, b3, b4⟩, q⟩ := k
  subst ex
  cases rx
  obtain ⟨t, u, w, ho⟩ := J.hok p _ hp
  refine wpAny_pyIter_range (show IsRange s1.heap p lo hi 1 t u w from ho) (small_one b1 b2 b3 b4) ?_
  refine ⟨s1.heap.objs.size, [s1.heap.objs.size], _, _, H1, rfl, J.kept (t' := s1.toks) fun b o e => Heap.get?_push_of_some _ e, turn_range _ lo (hi - lo).toNat, ?_, ?_, q⟩
  · have e0 : lo = lo + ((0 : Nat) : Int) * 1 := by simp
    have en : Builtin.Range.rangeSize lo hi 1 = (((hi - lo).toNat : Nat) : Int) - ((0 : Nat) : Int) := by
      rw [rangeSize_one]
      split <;> omega
    show IsRangeIter _ _ (lo + ((0 : Nat) : Int) * 1) ((((hi - lo).toNat : Nat) : Int) - ((0 : Nat) : Int)) 1
    rw [← e0, ← en]
    exact Heap.get?_push_size _ rfl
  · intro b hb
    rw [List.mem_singleton.mp hb]
    exact J.fpOk (Nat.le_refl _) (J.hok.fresh (Nat.le_refl _))
end
/-- the world in which the object o stands at p -/
def objW (W : Wd) (p : Addr) (o : HO) : Wd where
  Z := fun b => W.Z b ∨ b = p
  I := fun F H => W.I F H ∧ H p = some o
  stab := fun F H F' H' ⟨h1, h2⟩ hs hk hc => ⟨W.stab F H F' H' h1 hs (fun b u z e => hk b u (.inl z) e) hc, hk p _ (.inr rfl) h2⟩
  back := fun F F' H0 H h h' => ⟨W.back F F' H0 H h.1 h'.1, h'.2⟩
section
variable {K : PySem.W.Frag} {W : Wd} {H0 F0 : Hp} {ρ : Rho} {t : TS} {N : Ends2} {p : Addr} {o : HO}
theorem obj_ok {F H : Hp} (k : Ok W F H) (hH : H p = some o) (hF : F p = none) : Ok (objW W p o) F H := by
  refine ⟨k.sub, fun b z => ?_, k.inv, hH⟩
  rcases z with z | rfl
  · exact k.z b z
  · exact ⟨hF, by rw [hH]; exact fun z => nomatch z⟩
theorem ok_obj {F H : Hp} (k : Ok (objW W p o) F H) : Ok W F H := ⟨k.sub, fun b z => k.z b (.inl z), k.inv.1⟩
theorem step_obj {F H F' H' : Hp} (st : Step W F H F' H') : Step (objW W p o) F H F' H' := ⟨st.fz, fun b u hz e => st.kp b u (fun z => hz (.inl z)) e, st.nw⟩
theorem back_obj {F2 H2 : Hp} (h0 : H0 p = none) (st : Step (objW W p o) F0 H0 F2 H2) : Step W F0 H0 F2 H2 :=
  ⟨st.fz, fun b u hzb e => st.kp b u (fun z => by
    rcases z with z | rfl
    · exact hzb z
    · rw [h0] at e
      cases e) e, st.nw⟩
theorem holds_obj {σ : St} {F H : Hp} (ho : Holds K W H0 σ F H ρ) (hH : H p = some o) (hl : ∀ xs, o ≠ .lst xs) : Holds K (objW W p o) H0 σ F H ρ := by
  refine ⟨ho.len, fun i s e => ?_, ho.dis⟩
  have g := ho.at_ i s e
  cases s with
  | un => trivial
  | dat x => exact g
  | rf u => exact g
  | ls ds =>
    obtain ⟨r, ws, g1, g2, g3, g4, g5, g6⟩ := g
    refine ⟨r, ws, g1, g2, g3, fun z => ?_, g5, g6⟩
    rcases z with z | rfl
    · exact g4 z
    · rw [hH] at g2
      exact hl ws (Option.some.inj g2)
theorem obj_holds {σ : St} {F H : Hp} (ho : Holds K (objW W p o) H0 σ F H ρ) : Holds K W H0 σ F H ρ := by
  refine ⟨ho.len, fun i s e => ?_, ho.dis⟩
  have g := ho.at_ i s e
  cases s with
  | un => trivial
  | dat x => exact g
  | rf u => exact g
  | ls ds =>
    obtain ⟨r, ws, g1, g2, g3, g4, g5, g6⟩ := g
    exact ⟨r, ws, g1, g2, g3, fun z => g4 (.inl z), g5, g6⟩
theorem vok_obj {F H : Hp} {v : V} {s : Sl} (h : VOk K (objW W p o) F H v s) : VOk K W F H v s := by
  cases s with
  | un => exact h
  | dat x => exact h
  | rf u => exact h
  | ls ds =>
    obtain ⟨r, ws, g1, g2, g3, g4, g5⟩ := h
    exact ⟨r, ws, g1, g2, g3, fun z => g4 (.inl z), g5⟩
theorem er_obj {F H : Hp} {d : Addr} {fs : List (Str × D)} (h : Er K (objW W p o) F H d fs) : Er K W F H d fs := by
  obtain ⟨vs, h1, h2, h3, h4⟩ := h
  exact ⟨vs, h1, h2, fun z => h3 (.inl z), h4⟩
theorem sx_obj {σ : St} {F H : Hp} (a : At K W H0 F0 σ F H ρ) (hH : H p = some o) (hF : F p = none) (h0 : H0 p = none) (hl : ∀ xs, o ≠ .lst xs) (h : Sx K (objW W p o) H0 F0 t ρ N) (D : Ends)
    (n : ∀ σ' F' H' ρ', At K W H0 F0 σ' F' H' ρ' → Same F F' → N.nx ρ' → D.nx σ' H') (r : ∀ v F' H' s, Ok W F' H' → Step W F0 H0 F' H' → VOk K W F' H' v s → N.rt s → D.rt v H')
    (b : ∀ σ' F' H' ρ', At K W H0 F0 σ' F' H' ρ' → Same F F' → N.bk ρ' → D.bk σ' H') (c : ∀ σ' F' H' ρ', At K W H0 F0 σ' F' H' ρ' → Same F F' → N.ct ρ' → D.ct σ' H') : t D σ H := by
  have bk : ∀ {σ' F' H' ρ'}, At K (objW W p o) H0 F0 σ' F' H' ρ' → At K W H0 F0 σ' F' H' ρ' := fun a' => ⟨ok_obj a'.ok, back_obj h0 a'.st, obj_holds a'.ho⟩
  exact h σ F H ⟨obj_ok a.ok hH hF, step_obj a.st, holds_obj a.ho hH hl⟩ D (fun σ' F' H' ρ' a' sm k => n σ' F' H' ρ' (bk a') sm k) (fun v F' H' s o' st' hv k => r v F' H' s (ok_obj o') (back_obj h0 st') (vok_obj hv) k) (fun σ' F' H' ρ' a' sm k => b σ' F' H' ρ' (bk a') sm k) (fun σ' F' H' ρ' a' sm k => c σ' F' H' ρ' (bk a') sm k)
/-- x = range(e); the rest -/
theorem sx_rngV {i : Nat} {ta : TA} {u : TS} (h : EvA K W H0 ta ρ fun ss => ∃ j : Int, ss = [.dat (.int j)] ∧ ∀ p, H0 p = none → Sx K (objW W p (.rng 0 j)) H0 F0 u (ρ.set i (.rf (.ref p))) N) :
    Sx K W H0 F0 (tSeq (tAsg (tCB rRangeV ta) (gName i)) u) ρ N := fun σ F H a D n r b c =>
  h σ F H a.ok a.ho _ fun vs F' H' ss o' st hv ⟨j, e, k⟩ => by
    subst e
    cases hv with
    | cons h1 hv =>
      cases hv
      have e1 := vok_int h1
      subst e1
      refine ⟨j, rfl, fun p hp => ?_⟩
      have a' := a.step o' st
      have h0 : H0 p = none := a'.st.back a'.ok hp
      obtain ⟨o2, st2⟩ := o'.own (u := .rng 0 j) hp
      have a2 := a'.step o2 st2
      have a3 : At K W H0 F0 (σ.set i (some (.ref p))) F' (upd H' p (.rng 0 j)) (ρ.set i (.rf (.ref p))) := ⟨a2.ok, a2.st, a2.ho.set (s := .rf (.ref p)) rfl trivial⟩
      exact sx_obj a3 upd_same (o'.free hp) h0 (fun xs z => by cases z) (k p h0) D (fun σ2 F2 H2 ρ2 x sm q => n σ2 F2 H2 ρ2 x (st.fz.trans sm) q) r (fun σ2 F2 H2 ρ2 x sm q => b σ2 F2 H2 ρ2 x (st.fz.trans sm) q) (fun σ2 F2 H2 ρ2 x sm q => c σ2 F2 H2 ρ2 x (st.fz.trans sm) q)
theorem evi_rngV {i : Nat} {hi : Int} {PN : List D → Prop} (hs : ρ[i]? = some (.rf (.ref p))) (h1 : -(2 ^ 62) ≤ hi) (h2 : hi < 2 ^ 62) (q : PN (rngD 0 hi.toNat)) : EvI K (objW W p (.rng 0 hi)) H0 (iRngV (tVar i)) ρ PN := fun σ F H k ho R f => by
  refine ⟨.ref p, ho.at_ i _ hs, p, 0, hi, rfl, k.inv.2, ⟨by decide, by decide, h1, h2⟩, ?_⟩
  rw [Int.sub_zero]
  refine f _ F H (rngD 0 hi.toNat) k (Step.refl k) ⟨_, _, (by rw [rngD_len]; exact walk_range (lo := 0)), fun _ _ _ _ => trivial, fun j x F2 H2 H3 hj o2 st2 y => ?_⟩ q
  rw [rngD_len] at hj
  obtain ⟨rfl, rfl⟩ := y
  exact ⟨F2, _, o2, Step.refl o2, rngD_get hj, .int _⟩
/-! ### list(range(n)) -/
theorem rgV_dp {F : Hp} (n : Int) : DpAll K F (rgV 0 n) (rngD 0 n.toNat) := by
  unfold rgV rngD
  rw [Int.sub_zero]
  have go : ∀ l : List Nat, DpAll K F (l.map fun i => V.int (0 + (i : Nat))) (l.map fun i => PyData.int (0 + (i : Nat))) := fun l => by
    induction l with
    | nil => exact .nil
    | cons x l ih => exact .cons (.int _) ih
  exact go _
theorem evn_listRg {te : TE} {PN : List D → Prop} (h : Ev K W H0 te ρ fun s => ∃ n : Int, s = .dat (.int n) ∧ n ≤ 1000000 ∧ -1000000 ≤ n ∧ PN (rngD 0 n.toNat)) : EvN K W H0 (tLstRg (tRg1 te)) ρ PN := fun σ F H o ho Q q =>
  h σ F H o ho _ fun v F' H' s o' st hv ⟨n, e, h1, h2, p⟩ => by
    subst e
    refine ⟨n, vok_int hv, ⟨by decide, by decide, by omega, by omega, by omega⟩, fun a ha => ?_⟩
    obtain ⟨o2, st2⟩ := o'.own (u := .lst (rgV 0 n)) ha
    have hH : H a = none := st.back o' ha
    exact q a _ _ _ (rngD 0 n.toNat) o2 (st.trans o' st2) hH upd_same (o'.free ha) (o'.nz ha) (rgV_dp n) p
/-! ### min, max, index -/
theorem cas_minL {P : Sl → Prop} {s : Sl} {ns : List Int} (hs : LsOf s (ns.map .int)) (hn : 0 < ns.length) (p : ∀ m, m ∈ ns → (∀ y, y ∈ ns → m ≤ y) → P (.dat (.int m))) : CaS K W (rMin K) [s] P := fun F H xs k hx Q q => by
  cases hx with
  | cons h1 h2 =>
    cases h2
    obtain ⟨a, vs, rfl, g1, g2⟩ := hs.get k h1
    rw [dpa_ints' g2] at g1
    exact ⟨a, ns, rfl, SqL.of g1, hn, fun m m1 m2 => q (.int m) F H (.dat (.int m)) k (Step.refl k) (.int m) (p m m1 m2)⟩
theorem cas_maxL {P : Sl → Prop} {s : Sl} {ns : List Int} (hs : LsOf s (ns.map .int)) (hn : 0 < ns.length) (p : ∀ m, m ∈ ns → (∀ y, y ∈ ns → y ≤ m) → P (.dat (.int m))) : CaS K W (rMax K) [s] P := fun F H xs k hx Q q => by
  cases hx with
  | cons h1 h2 =>
    cases h2
    obtain ⟨a, vs, rfl, g1, g2⟩ := hs.get k h1
    rw [dpa_ints' g2] at g1
    exact ⟨a, ns, rfl, SqL.of g1, hn, fun m m1 m2 => q (.int m) F H (.dat (.int m)) k (Step.refl k) (.int m) (p m m1 m2)⟩
end
/-! ### raise X(e1, e2) -/
structure Exc2 (Pg : Program) (w : World) (K : PySem.W.Frag) (mg : Str → Option Value) (base : Heap) (x : Str) (C : Addr) (f1 f2 : Str) : Prop where
  ox : OexC K C
  ini : ∃ fI fd, PySem.W.findIn K (.ref C) "__init__" = some (some (.ref fI)) ∧ PySem.W.typeIn K (.ref fI) = some (.type "function") ∧ FnOk Pg w K mg base CX0 1 fI fd ["self", f1, f2] (initSp K f1 f2) ∧ Binds K fd ["self", f1, f2] []
  g : mg x = some (.ref C)
  n1 : PySem.W.findIn K (.ref C) f1 = some none
  n2 : PySem.W.findIn K (.ref C) f2 = some none
  me : PySem.W.exmOne K (.ref C) (.ref C) = some true
section
variable {X : Cx} {x f1 f2 : Str} {C : Addr} {e1 e2 : Expr} {ta : TA} {p pos pos2 : Pos} {W : WX}
theorem ps_raise2 (E : Exc2 X.prog X.w X.K X.mg X.base x C f1 f2) (hr : Room 2 X.A) (hg : Gl X x) (tk : Takes X W) (ha : PA X [e1, e2] ta) (hc : X.calm = true := by rfl) (hdb : (x == ("__debug__" : Str)) = false := by decide)
    (he : starEach (e1 :: [e2]) X.env = (false, eval e1 X.env) :: starEach [e2] X.env := by rfl) (hpl : (backTo pos (starEach [e2] X.env)).any (·.1) = false := by rfl) :
    PS X (.Raise (some (.Call (.Name x p) [e1, e2] [] pos)) none pos2) (fun _ σ H => tMkO C (initSp X.K f1 f2) [] ta σ H fun cls d H' => W cls d σ H') := by
  obtain ⟨fI, fd, i1, i2, i3, i4⟩ := E.ini
  exact ps_raise hc tk (pmk_oex E.ox i1 i2 i3 hr i4 .nil pass0 hg E.g ha hdb he hpl)
end
/-! ### try: f(..) / except X: suite, no name -/
section
variable {K : PySem.W.Frag} {W : Wd} {H0 F0 : Hp} {ρ : Rho} {N : Ends2} {ta : TA}
theorem sx_try_drop {tx : WX → TE} {ts : Addr → Value → Option Addr → TS} {c : Value} {Wout : WX} (R : Addr → List (Str × D) → Prop)
    (hb : EvX K W H0 tx ρ (fun _ => N.nx ρ) R) (hc : ∀ C fs, R C fs → PySem.W.exmOne K (.ref C) c = some true) (hs : ∀ C fs, R C fs → ∀ a d, Sx K W H0 F0 (ts a (.ref C) (some d)) ρ N) :
    Sx K W H0 F0 (fun D σ H => tDrop (tx (wOnly K c ts Wout D)) D σ H) ρ N := fun σ F H at_ D nn r b cc =>
  hb σ F H at_.ok at_.ho _ _ (fun v F1 H1 s o1 st1 hv k => nn σ F1 H1 ρ (at_.step o1 st1) st1.fz k) fun C d fs F1 H1 o1 st1 he hr =>
    ⟨true, hc C fs hr, fun _ a ha => hs C fs hr a d σ F1 H1 (at_.step o1 st1) D (fun σ2 F2 H2 ρ2 a2 sm k => nn σ2 F2 H2 ρ2 a2 (st1.fz.trans sm) k) r (fun σ2 F2 H2 ρ2 a2 sm k => b σ2 F2 H2 ρ2 a2 (st1.fz.trans sm) k) (fun σ2 F2 H2 ρ2 a2 sm k => cc σ2 F2 H2 ρ2 a2 (st1.fz.trans sm) k), fun z => nomatch z⟩
/-- a body of a def that may raise -/
theorem pmX_body {n : Nat} {Pre : Wd → Rho → Prop} {Post : Wd → Rho → Sl → Prop} {PE : Wd → Rho → Addr → List (Str × D) → Prop} {Nm : List Str} {ts : TS} {vs : List V} {H : Hp} {Q : VK} {E : XK} (hN : n ≤ Nm.length) (h : PmX K n Pre Post PE vs H Q E)
    (b : ∀ (W : Wd) (F : Hp) (ss : Rho), ss.length = n → Pre W ss → (∀ C d fs F' H', Ok W F' H' → Step W F H F' H' → Er K W F' H' d fs → PE W ss C fs → E (.ref C) (some d) H') →
      Sx K W H F ts (ss ++ List.replicate (Nm.length - ss.length) .un) { nx := fun _ => Post W ss (.dat .none), rt := Post W ss }) :
    ts { nx := fun _ H' => Q .non H', rt := Q } (L2.start Nm vs) H := by
  obtain ⟨W, F, ss, k0, h1, h2, h3, h4, k, ke⟩ := h
  exact b W F ss h3 h4 ke (L2.start Nm vs) F H ⟨k0, Step.refl k0, holds_start h1 h2 (by rw [h3]; exact hN)⟩ _ (fun σ' F' H' ρ' a _ q => k .non F' H' (.dat .none) a.ok a.st .non q) (fun v F' H' s o' st hv q => k v F' H' s o' st hv q) (fun _ _ _ _ _ _ f => f.elim) fun _ _ _ _ _ _ f => f.elim
/-- raise X(e1, e2) in the world of an object of one's own -/
theorem sx_raiseO {C p : Addr} {o : HO} {E : XK} {f1 f2 : Str} (hC : OexC K C) (h1 : PySem.W.findIn K (.ref C) f1 = some none) (h2 : PySem.W.findIn K (.ref C) f2 = some none) (h0 : H0 p = none)
    (h : EvA K (objW W p o) H0 ta ρ fun ss => ∃ x y, ss = [.dat x, .dat y] ∧ ∀ dd F' H', Ok W F' H' → Step W F0 H0 F' H' → Er K W F' H' dd [(f2, y), (f1, x)] → E (.ref C) (some dd) H') :
    Sx K (objW W p o) H0 F0 (fun _ σ H => tMkO C (initSp K f1 f2) [] ta σ H fun cls d H' => E cls d H') ρ N := by
  refine sx_raise2 hC h1 h2 fun σ F H k ho R q => h σ F H k ho R fun vs F' H' ss o' st hv ⟨x, y, e, f⟩ => q vs F' H' ss o' st hv ⟨x, y, e, fun dd F2 H2 o2 st2 er => f dd F2 H2 (ok_obj o2) (back_obj h0 st2) (er_obj er)⟩
end
/-! ### what is walked within a comprehension -/
section
variable {X : Cx} {K : PySem.W.Frag} {tg l : Expr} {tl : TE}
theorem pi_listK (hK : X.K = K) (hl : PE X l tl) : PI X tg l (iList K tl) := hK ▸ pi_list hl
theorem pi_tupK (hK : X.K = K) (hl : PE X l tl) : PI X tg l (iTup K tl) := hK ▸ pi_tup hl
theorem takesN : Takes X (fun _ _ _ _ => False) := fun _ _ x => by
  obtain ⟨_, _, _, _, _, _, _, _, _, _, _, _, _, _, _, _, q⟩ := x
  cases q
end
/-! ### xs.index(d) -/
section
variable {K : PySem.W.Frag} {W : Wd} {P : Sl → Prop}
theorem tys_lst {s : Sl} {ds : List D} (hs : LsOf s ds) : TyS K W "list" s := fun F H x k hx => by
  obtain ⟨p, vs, rfl, h1, h2⟩ := hs.get k hx
  exact .inl ⟨rfl, _, SqL.of h1⟩
theorem mts_index {s : Sl} {ds : List D} {d z : D} {j : Nat} (hs : LsOf s ds) (sl : SeqAt.shaped (.list ds) = true) (sd : SeqAt.shaped d = true) (hz : ds[j]? = some z) (he : PyData.eqv z d = true)
    (hn : ∀ (m : Nat) (z' : D), m < j → ds[m]? = some z' → PyData.eqv z' d = false) (p : P (.dat (.int (j : Nat)))) : MtS K W (rIndexD K) s [.dat d] P := fun F H x xs k hx hxs Q q => by
  cases hxs with
  | cons h1 h2 =>
    cases h2
    have hd := hs.dp k hx
    obtain ⟨a, vs, rfl, g1, g2⟩ := hs.get k hx
    exact ⟨a, _, d, ds, j, z, rfl, rfl, hd, (dp_mono k.sub h1).old, sl, sd, hz, he, hn, q _ F H (.dat (.int (j : Nat))) k (Step.refl k) (.int _) p⟩
end
/-! ### two generators, without tests -/
section
variable {K : PySem.W.Frag} {W : Wd} {H0 : Hp} {ρ : Rho} {te : TE}
theorem flat_take {α β : Type} {l : List α} {i : Nat} {d : α} (f : α → List β) (h : l[i]? = some d) : (l.take (i + 1)).flatMap f = (l.take i).flatMap f ++ f d := by
  rw [List.take_add_one, h]
  simp
theorem evn_flat {wi wi1 : TI} {g g1 : TG} {vs vs1 : List Nat} {PN : List D → Prop} (G : D → List D) (f : D → D → D)
    (h : EvI K W H0 wi ρ fun ds => (∀ d, d ∈ ds → GC K W H0 vs g (.dat d) (wipeR ρ vs) fun ρ2 => noOwn ρ2 = true ∧ EvI K W H0 wi1 ρ2 fun es => es = G d ∧ ∀ e, e ∈ es → GC K W H0 vs1 g1 (.dat e) (wipeR ρ2 vs1) fun ρ3 => Ev K W H0 te ρ3 fun s => s = .dat (f d e)) ∧
      (ds.flatMap fun d => (G d).map (f d)).length < sizeLine ∧ PN (ds.flatMap fun d => (G d).map (f d))) :
    EvN K W H0 (tLc2 wi g tYes wi1 g1 tYes te vs vs1) ρ PN := by
  refine evn_lc2 (fun ds i acc => acc = (ds.take i).flatMap fun d => (G d).map (f d)) (fun σ F H o ho R q => h σ F H o ho R fun J F' H' ds o' st it ⟨hs, hl, p⟩ => q J F' H' ds o' st it ⟨by simp, fun i d acc e ha => ?_, fun acc ha => by rw [ha, List.take_length]; exact p⟩)
  have hm : d ∈ ds := List.mem_of_getElem? e
  have et := flat_take (fun d => (G d).map (f d)) e
  have hsub : ((ds.take i).flatMap fun d => (G d).map (f d)).length + ((G d).map (f d)).length ≤ (ds.flatMap fun d => (G d).map (f d)).length := by
    have := congrArg List.length (congrArg (List.flatMap fun d => (G d).map (f d)) (List.take_append_drop (i + 1) ds))
    rw [List.flatMap_append, et, List.length_append, List.length_append] at this
    omega
  refine fun x σ F H o ho hv Q q => hs d hm x σ F H o ho hv Q fun σ' ρ' ho' ew k => q σ' ρ' ho' ew (et_yes ?_)
  rw [if_pos rfl]
  refine ⟨k.1, fun σ F H o ho R q => k.2 σ F H o ho R fun J F' H' es o' st it ⟨hes, hk⟩ => q J F' H' es o' st it ⟨fun j acc => acc = ((ds.take i).flatMap fun d => (G d).map (f d)) ++ ((G d).take j).map (f d), ?_, ?_, ?_⟩⟩
  · rw [ha]
    simp
  · intro j e2 acc2 he2 ha2
    have hme : e2 ∈ es := List.mem_of_getElem? he2
    have hj : j < (G d).length := by rw [← hes]; exact (List.getElem?_eq_some_iff.mp he2).1
    refine fun x σ F H o ho hv Q q => hk e2 hme x σ F H o ho hv Q fun σ' ρ' ho' ew kk => q σ' ρ' ho' ew (et_yes ?_)
    rw [if_pos rfl]
    refine kk.mono fun s es' => ⟨_, es', ?_, ?_⟩
    · rw [ha2, List.length_append, List.length_map, List.length_take]
      rw [List.length_map] at hsub
      omega
    · rw [ha2]
      show _ = _ ++ List.map (f d) (List.take (j + 1) (G d))
      rw [List.take_add_one, ← hes, he2, List.map_append, ← List.append_assoc]
      rfl
  · intro acc2 ha2
    rw [ha2, hes, List.take_length, et]
end
end DL

namespace DL
open PySem L2 RZ
/-! ### a lambda is made: what becomes of the heap, exactly -/
section
open PySem.Spec PyProof.Rows LamX
variable {X : Cx} {pins : List (Addr × Obj)} {σ : L2.St} {H : Hp} {s : Shared}
/-- of the heap H: it is as it was, or the table at P is longer and c' is a new code object -/
def Made (P : Addr) (ps : Array Value) (q : Str) (H H1 : Hp) (c' : Addr) : Prop :=
  H1 = H ∨ ∃ more : Array Value, H c' = none ∧ c' ≠ P ∧ H1 = upd (upd H P (.tbl (ps ++ more))) c' (CodeO c' q)
/-- what is known of the codes that a table tells -/
def Coded (ps : Array Value) (q : Str) (H : Hp) : Prop := TriplesOk ps.toList ∧ ∀ (at_ : Pos) (v : Value), codeAmong at_ ps.toList = some v → ∃ c, v = .ref c ∧ H c = some (CodeO c q)
theorem lam_exact {c P : Addr} {prm : Arguments} {bd : Expr} {sco : Scope} {ps : Array Value} {lp : Pos} {E Q : Value → Shared → Prop} (I : Inv X pins σ H s) (TB : TabB X.base X.mg c P) (hc : X.env.code = .ref c) (hP : H P = some (.tbl ps))
    (hk : Coded ps (X.env.qual ++ "<lambda>") H) (hd : defaultsOf prm X.env = ([], [])) (hfr : ∀ y ∈ sco.names, y.2 = .free → ∃ b, X.env.cells.lookup y.1 = some b)
    (go : ∀ (f c' : Addr) (pm tv : Value) (H1 : Hp) (s1 : Shared), Inv X pins σ H1 s1 → Made P ps (X.env.qual ++ "<lambda>") H H1 c' → TabS H1 P (X.env.qual ++ "<lambda>") → s1.heap.get? f = some (PySem.W.kla_obj "<lambda>" (X.env.qual ++ "<lambda>") prm bd sco (cloFrom X.env.cells sco.names []) pm c' tv) →
      H1 f = none → f ∉ frs X.stack → H1 c' = some (CodeO c' (X.env.qual ++ "<lambda>")) → Q (.ref f) s1) : wpAny (model X.prog X.w) X.A (eval (.Lambda prm bd sco lp) X.env) Q E s := by
  obtain ⟨k1, k2⟩ := hk
  have bat := TB.bm.keeps I.bk
  have cod := TB.code.keeps I.bk
  have got : s.heap.get? P = some { cls := .none, data := .fields ps } := I.hok P _ hP
  have glb := I.mod.glob.keeps I.bk
  have off : ∀ b, s.heap.objs.size ≤ b → b ∉ frs X.stack := fun b hb m => by
    rcases List.mem_cons.mp (I.stkSub _ m) with rfl | m
    · exact absurd I.lt (Nat.not_lt.mpr hb)
    · exact I.nofs hb m
  refine PySem.W.kla_eval hd ?_
  rcases hf : codeAmong lp ps.toList with _ | v
  · refine PySem.W.kla_makeFunction (c := c) (P := P) (mg := X.mg) (ps := ps) (closure_ok hfr) I.ok.glob glb hc cod got k1 hf TB.gP bat ?_
    intro c' tv hp tk ext ge lt rec_ tab
    obtain ⟨c2, ob, fs, tt, q2, g1, g2, g3⟩ := rec_
    cases q2
    have le : s.heap.objs.size ≤ hp.objs.size := Nat.le_trans ge (Nat.le_of_lt lt)
    have fresh := I.hok.fresh ge
    have ncP : c' ≠ P := fun z => by
      rw [z, hP] at fresh
      cases fresh
    let nw : Array Value := #[rawInt lp.line, rawInt lp.col, .ref c']
    have big : (ps ++ nw).toList = ps.toList ++ [rawInt lp.line, rawInt lp.col, .ref c'] := by simp [nw]
    have J := inv_table (t' := tk) (more := nw) (h' := hp.push (PySem.W.kla_obj "<lambda>" (X.env.qual ++ "<lambda>") prm bd sco (cloFrom X.env.cells sco.names []) ((X.mg "__name__").getD .none) c' tv)) I hP (fun b o n e => Heap.get?_push_of_some _ (ext b o n e))
      (Heap.get?_push_of_some _ tab) ge ⟨ob, fs, tt, Heap.get?_push_of_some _ g1, g2, g3⟩
    have tabS : TabS (upd (upd H P (.tbl (ps ++ nw))) c' (CodeO c' (X.env.qual ++ "<lambda>"))) P (X.env.qual ++ "<lambda>") := by
      refine ⟨ps ++ nw, by rw [upd_ne (Ne.symm ncP), upd_same], ?_, fun at_ w hw => ?_⟩
      · rw [big]
        exact PySem.TriplesOk_snoc _ _ _ _ k1
      · rw [big] at hw
        rcases among_app _ k1 hw with z | z
        · obtain ⟨c0, a1, a2⟩ := k2 at_ w z
          have n1 : c0 ≠ c' := fun z => by
            rw [z, fresh] at a2
            cases a2
          have n2 : c0 ≠ P := fun z => by
            rw [z, hP] at a2
            exact codeO_ne ps (Option.some.inj a2).symm
          exact ⟨c0, a1, by rw [upd_ne n1, upd_ne n2]; exact a2⟩
        · exact ⟨c', z, upd_same⟩
    have nfc : hp.objs.size ≠ c' := fun z => absurd lt (by omega)
    have nfP : hp.objs.size ≠ P := fun z => Nat.lt_irrefl P (Nat.lt_of_lt_of_le (Heap.lt_size got) (z ▸ le))
    exact go hp.objs.size c' _ tv _ _ J (.inr ⟨nw, fresh, ncP, rfl⟩) tabS (Heap.get?_push_size _ rfl) (by rw [upd_ne nfc, upd_ne nfP]; exact I.hok.fresh le) (off _ le) upd_same
  · obtain ⟨c0, a1, a2⟩ := k2 lp v hf
    subst a1
    refine PySem.W.kla_makeFunctionHit (c := c) (P := P) (mg := X.mg) (ps := ps) (closure_ok hfr) I.ok.glob glb hc cod got k1 hf bat ?_
    intro tv hp tk ext le
    exact go hp.objs.size c0 _ tv H _ (I.kept fun b o e => Heap.get?_push_of_some _ (ext b o e)) (.inl rfl) ⟨ps, hP, k1, k2⟩ (Heap.get?_push_size _ rfl) (I.hok.fresh le) (off _ le) a2
/-- a(), in the def that got the lambda; what is raised is wished for at that def's own slots -/
theorem pe_actS {CXg : CXT} {Eg : XK} {Ng : List Str} {qg : Str} {sg : Scope} {g f c' : Addr} {cdg pm tv : Value} {prm : Arguments} {bd : Expr} {sco : Scope} {k i : Nat} {a : Str} {pn : List (Addr × Obj)} {xe : Value → Shared → Prop} {W : WX} {t : XK → TE} {p1 p2 : Pos}
    (I : Inv X pins σ H s) (L : LamS X.env.scope sco) (hf : s.heap.get? f = some (PySem.W.kla_obj "<lambda>" (X.env.qual ++ "<lambda>") prm bd sco (cloFrom X.env.cells sco.names []) pm c' tv)) (hn : H f = none) (hs : f ∉ frs X.stack)
    (hbi : bindArgs (PySem.W.kla_fn "<lambda>" (X.env.qual ++ "<lambda>") prm bd sco (cloFrom X.env.cells sco.names []) pm (.ref c') tv) ⟨[], []⟩ = pure [])
    (tk : Takes ((cxOf CXg X.prog X.w X.K X.mg X.base Ng qg sg g cdg X.A X.stack s H Eg).tr pn xe) W) (hr : Room (k + 1) (X.A.deeper (envOfC qg sg s.heap.objs.size g cdg)))
    (hbo : ∀ (A : Around) (ou : List Env) (s : Shared) (H : Hp) (E : XK), A.guards = X.A.guards → Room k (A.deeper (lamEnv X sco s.heap.objs.size f c')) → PE (lamCx X A ou s H E sco f c') bd (t E))
    (hN : Ng[i]? = some a) (hv : Vis sg a) (hda : (a == ("__debug__" : Str)) = false := by decide) (hca : (a == ("__classdict__" : Str)) = false := by decide) :
    PE ((cxOf CXg X.prog X.w X.K X.mg X.base Ng qg sg g cdg X.A X.stack s H Eg).tr pn xe) (.Call (.Name a p1) [] [] p2)
      (fun σ2 H2 Q => σ2[i]? = some (some (.ref f)) ∧ H2 c' = some (CodeO c' (X.env.qual ++ "<lambda>")) ∧ t (WE W σ2) σ H2 Q) := by
  constructor
  intro pins2 s2 σ2 H2 Q I2 ⟨h1, h2, h3⟩
  have rv := (pe_var (X := (cxOf CXg X.prog X.w X.K X.mg X.base Ng qg sg g cdg X.A X.stack s H Eg).tr pn xe) (pos := p1) (i := i) hN hv hda hca).run pins2 s2 σ2 H2 (fun v H3 => v = .ref f ∧ H3 = H2) I2 ⟨.ref f, h1, rfl, rfl⟩
  refine wpAny_Call_Name_kw (thn rv ?_)
  rintro u s3 ⟨v, H3, I3, r3, q3, e3⟩
  subst q3
  rw [e3] at I3
  obtain rfl : u = Value.ref f := r3
  have lam := I3.base.keep f _ hf hn hs (fun z => nomatch (show f ∈ ([] : List Addr) from z))
  refine PySem.W.callWith_F0 ⟨_, _, _, _, lam⟩ ?_
  have un : Un (frs X.stack) [] H H2 s.heap s3.heap := I3.base
  obtain ⟨⟨ob, fs, tt, g1, g2, g3⟩, _⟩ := I3.hok c' _ h2
  have own : ∀ y ∈ sco.names, y.2 ≠ .cell := fun y m => (L.own y m).2
  have run : codeAny (model X.prog X.w) (X.A.deeper (envOfC qg sg s.heap.objs.size g cdg)) (.call (.ref f) ⟨[], []⟩) (CR (L2.CX X.prog X.w) (envOfC qg sg s.heap.objs.size g cdg :: X.stack) X.prog X.w H2 s3 Q (WE W σ2)) s3 := by
    refine PySem.W.kla_callFunE hr.depth lam rfl L.co L.gen rfl ⟨c', ob, fs, tt, rfl, g1, g2, g3⟩ ?_
    rw [hbi]
    refine wpAny_pure (wpAny_newFunctionEnv own (fun y m => absurd m (by simp)) (fun h4 ns4 sb4 => ⟨I3.nolimit.fresh _ sb4, ?_⟩) L.kind)
    show codeAny _ _ (.expr bd (lamEnv X sco s3.heap.objs.size f c')) _ _
    have kept := fun (b : Addr) (o : Obj) (e : s3.heap.get? b = some o) => sb4.extBut b o (Nat.ne_of_lt (Heap.lt_size e)) (Heap.get?_push_of_some _ e)
    have st : Inv (lamCx X (X.A.deeper (envOfC qg sg s.heap.objs.size g cdg)) (envOfC qg sg s.heap.objs.size g cdg :: X.stack) s3 H2 (WE W σ2) sco f c') [] σ H2 { s3 with heap := h4, toks := s3.toks + ([] : List (Str × Value)).length } := lam_start2 I L I3.env0 hr.hd un ns4 kept
    have body := (hbo (X.A.deeper (envOfC qg sg s.heap.objs.size g cdg)) _ s3 H2 (WE W σ2) rfl (hr.deeper _)).run [] _ _ H2 Q st h3
    refine PySem.W.kla_codeExpr (wpAny_mono body ?_ fun e s5 q => q)
    rintro w s5 ⟨w', H5, I5, r5, q5⟩
    exact ⟨w', H5, I5.os, I5.bare, I5.base, I5.hok, r5, q5⟩
  refine wpAny_call (codeAny_mono run fun r s5 q => ?_)
  match r, q with
  | .error e, q => exact passAt tk σ2 pins2 H2 s3 e s5 I3 q
  | .ok (.ret _), q => exact I3.after q
  | .ok .next, q => exact False.elim q
  | .ok .brk, q => exact False.elim q
  | .ok .cont, q => exact False.elim q
/-- the def that calls what it got, its wish told of its own slots -/
def GivesS (X : Cx) (Ng : List Str) (x : Str) (sg : Scope) (g : Addr) (cdg : Value) (bg : List Stmt) (a : Str) (q : Str) (TT : (XK → Hp → VK → Prop) → Hp → VK → Prop) : Prop :=
  ∀ (f c' : Addr) (s : Shared) (H : Hp) (Q : VK) (tl : XK → Hp → VK → Prop), Room 1 (X.A.deeper (PyProof.Rows.envOfC x sg s.heap.objs.size g cdg)) →
    (∀ (W : WX) (pn : List (Addr × Obj)) (xe : Value → Shared → Prop) (p1 p2 : Pos), Takes ((cxOf C8.CX0 X.prog X.w X.K X.mg X.base Ng x sg g cdg X.A X.stack s H C8.E0).tr pn xe) W →
      PE ((cxOf C8.CX0 X.prog X.w X.K X.mg X.base Ng x sg g cdg X.A X.stack s H C8.E0).tr pn xe) (.Call (.Name a p1) [] [] p2) (fun σ2 H2 Q => σ2[0]? = some (some (.ref f)) ∧ H2 c' = some (CodeO c' q) ∧ tl (WE W σ2) H2 Q)) →
    H c' = some (CodeO c' q) → TT tl H Q →
    ∃ t, PSs (cxOf C8.CX0 X.prog X.w X.K X.mg X.base Ng x sg g cdg X.A X.stack s H C8.E0).nox bg t ∧ t { nx := fun _ H' => Q .non H', rt := Q } (L2.start Ng [.ref f]) H
/-- f(lambda: body), by what is made of the heap exactly -/
def tLamE (P : Addr) (q : Str) (TT : (XK → Hp → VK → Prop) → Hp → VK → Prop) (t : XK → TE) : TE := fun σ H Q => ∃ ps, H P = some (.tbl ps) ∧ Coded ps q H ∧
  ∀ H1 c', Made P ps q H H1 c' → TabS H1 P q → H1 c' = some (CodeO c' q) → TT (fun E H' Q' => t E σ H' Q') H1 Q
theorem pe_lamE {TT : (XK → Hp → VK → Prop) → Hp → VK → Prop} {x a : Str} {g c P : Addr} {k : Nat} {pg : Arguments} {bg : List Stmt} {sg : Scope} {dV kV doc pm cdv ct oc : Value} {an od : Option Addr} {osl : Array (Option Value)} {Ng : List Str}
    {prm : Arguments} {bd : Expr} {sco : Scope} {t : XK → TE} {p lp pos : Pos} (hg : Gl X x) (hm : X.mg x = some (.ref g)) (hk : PySem.W.keepIn X.K (.ref g) = true)
    (lk : X.K.lookup g = some ⟨oc, od, .func (PySem.W.fnOf x x pg bg sg dV kV doc pm an cdv ct), osl⟩) (hcg : PySem.W.codeIn X.K cdv x = true) (hb : L2.Binds X.K (PySem.W.fnOf x x pg bg sg dV kV doc pm an cdv ct) [a] []) (Sg : FnScope Ng [a] sg) (hN : Ng[0]? = some a) (hv : Vis sg a)
    (hG : GivesS X Ng x sg g cdv bg a (X.env.qual ++ "<lambda>") TT) (TB : TabB X.base X.mg c P) (hc : X.env.code = .ref c) (hr : Room (k + 2) X.A) (L : LamS X.env.scope sco) (hdf : defaultsOf prm X.env = ([], []))
    (hbi : ∀ (q : Str) (cl : List (Str × Addr)) (pm cv ctv : Value), bindArgs (PySem.W.kla_fn "<lambda>" q prm bd sco cl pm cv ctv) ⟨[], []⟩ = pure [])
    (hbo : ∀ (A : Around) (outer : List Env) (s : Shared) (H : Hp) (E : XK) (f c' : Addr), A.guards = X.A.guards → Room k (A.deeper (lamEnv X sco s.heap.objs.size f c')) → PE (lamCx X A outer s H E sco f c') bd (t E))
    (hdb : (x == ("__debug__" : Str)) = false := by decide) (hda : (a == ("__debug__" : Str)) = false := by decide) (hca : (a == ("__classdict__" : Str)) = false := by decide) :
    PE X (.Call (.Name x p) [.Lambda prm bd sco lp] [] pos) (tLamE P (X.env.qual ++ "<lambda>") TT t) := by
  constructor
  intro pins s σ H Q I ⟨ps, hP, hk2, hgo⟩
  refine wpAny_Call_Name_kw (ld_glob I hg hm ?_ hdb)
  refine PySem.W.callWith_K (h₀ := X.base) I.ok.mod.kin hk ?_ (by rfl) (by rfl)
  show wpAny _ _ (spliced ((false, eval (.Lambda prm bd sco lp) X.env) :: backTo pos (starEach [] X.env))) _ _ s
  refine Calls.spliced_cons (lam_exact I TB hc hP hk2 hdf (L.has I.ok) ?_)
  intro f c' pm' tv H1 s1 J md tb hf hn hs hco
  refine Calls.spliced_nil ⟨J.kIn, ?_⟩
  have run : codeAny (model X.prog X.w) X.A (.call (.ref g) ⟨[.ref f], []⟩) (CR C8.CX0 X.stack X.prog X.w H1 s1 Q C8.E0) s1 := by
    refine run_ofS (ps := [a]) (N := Ng) (vs := [.ref f]) (us := [.ref f]) lk hcg Sg hr J.env0 (hb s1 [.ref f] J.kIn rfl) (.cons rfl .nil) rfl ?_
    intro hr2
    obtain ⟨t', h1, h2⟩ := hG f c' s1 H1 Q (fun E H' Q' => t E σ H' Q') (hr2.mono (by omega))
      (fun _ _ _ _ _ tk => pe_actS (i := 0) J L hf hn hs (hbi _ _ _ _ _) tk hr2 (fun A ou st h E hgd hr3 => hbo A ou st h E f c' hgd hr3) hN hv hda hca)
      hco (hgo H1 c' md tb hco)
    exact ⟨t', h1.nox, h2⟩
  refine wpAny_call (codeAny_mono run fun r s2 h => ?_)
  match r, h with
  | .error _, h => exact False.elim h
  | .ok (.ret _), h => exact J.after h
  | .ok .next, h => exact False.elim h
  | .ok .brk, h => exact False.elim h
  | .ok .cont, h => exact False.elim h
end
end DL

namespace DL
open PySem L2 RZ LamX
/-! ### worlds with tables of code objects -/
def tabW (W : Wd) (T : List (Addr × Str)) : Wd where
  Z := fun b => W.Z b ∨ ∃ p ∈ T, b = p.1
  I := fun F H => W.I F H ∧ ∀ p ∈ T, ∃ ps, H p.1 = some (.tbl ps) ∧ Coded ps p.2 H
  stab := fun F H F' H' ⟨h1, h2⟩ hs hk hc => ⟨W.stab F H F' H' h1 hs (fun b u z e => hk b u (.inl z) e) hc, fun p hp => by
    obtain ⟨ps, a1, a2, a3⟩ := h2 p hp
    exact ⟨ps, hk _ _ (.inr ⟨p, hp, rfl⟩) a1, a2, fun at_ v e => by
      obtain ⟨c, b1, b2⟩ := a3 at_ v e
      exact ⟨c, b1, hc _ _ _ b2⟩⟩⟩
  back := fun F F' H0 H h h' => ⟨W.back F F' H0 H h.1 h'.1, h'.2⟩
/-- its own objects are neither tables nor code objects -/
def Plain (W : Wd) : Prop := ∀ F H b, Ok W F H → W.Z b → ∃ o, H b = some o ∧ (∀ ps, o ≠ .tbl ps) ∧ ∀ c q, o ≠ CodeO c q
/-- each table is told once -/
def Once (T : List (Addr × Str)) : Prop := ∀ p ∈ T, ∀ p' ∈ T, p.1 = p'.1 → p.2 = p'.2
section
variable {K : PySem.W.Frag} {W : Wd} {H0 F0 : Hp} {ρ : Rho} {T : List (Addr × Str)} {P : Sl → Prop}
theorem lst_code {xs : List V} {c : Addr} {q : Str} : HO.lst xs ≠ CodeO c q := fun z => by
  unfold CodeO at z
  cases z
theorem dK_code {xs : List (Key × V)} {c : Addr} {q : Str} : HO.dK xs ≠ CodeO c q := fun z => by
  unfold CodeO at z
  cases z
theorem feed_plain {m : Nm} {a l : Addr} {cs : List Int} : Plain (feedW m a l cs) := fun F H b o z => by
  obtain ⟨t, lf, k, h1, h2, _⟩ := o.inv
  rcases z with rfl | rfl
  · exact ⟨_, h1, fun ps z => (by cases z), fun c q => dK_code⟩
  · exact ⟨_, h2, fun ps z => (by cases z), fun c q => lst_code⟩
theorem tab_ok {F H : Hp} (k : Ok (tabW W T) F H) : Ok W F H := ⟨k.sub, fun b z => k.z b (.inl z), k.inv.1⟩
theorem tab_off {F H : Hp} (pl : Plain W) (k : Ok (tabW W T) F H) {p : Addr × Str} (hp : p ∈ T) : ¬ W.Z p.1 := fun z => by
  obtain ⟨o, h1, h2, _⟩ := pl F H _ (tab_ok k) z
  obtain ⟨ps, a1, _⟩ := k.inv.2 p hp
  rw [a1] at h1
  exact h2 ps (Option.some.inj h1).symm
theorem code_kept {F H F' H' : Hp} (pl : Plain W) (k : Ok W F H) (st : Step W F H F' H') {b c : Addr} {q : Str} (e : H b = some (CodeO c q)) : H' b = some (CodeO c q) :=
  st.kp b _ (fun z => by
    obtain ⟨o, h1, _, h3⟩ := pl F H b k z
    rw [e] at h1
    exact h3 c q (Option.some.inj h1).symm) e
theorem tab_up {F H F' H' : Hp} (pl : Plain W) (k : Ok (tabW W T) F H) (k' : Ok W F' H') (st : Step W F H F' H') : Ok (tabW W T) F' H' ∧ Step (tabW W T) F H F' H' := by
  refine ⟨⟨k'.sub, fun b z => ?_, k'.inv, fun p hp => ?_⟩, ⟨st.fz, fun b u hz e => st.kp b u (fun z => hz (.inl z)) e, st.nw⟩⟩
  · rcases z with z | ⟨p, hp, rfl⟩
    · exact k'.z b z
    · obtain ⟨ps, a1, _⟩ := k.inv.2 p hp
      have e := st.kp _ _ (tab_off pl k hp) a1
      refine ⟨st.nw _ (k.z _ (.inr ⟨p, hp, rfl⟩)).1 (k.z _ (.inr ⟨p, hp, rfl⟩)).2, ?_⟩
      rw [e]
      exact fun z => nomatch z
  · obtain ⟨ps, a1, a2, a3⟩ := k.inv.2 p hp
    exact ⟨ps, st.kp _ _ (tab_off pl k hp) a1, a2, fun at_ v e => by
      obtain ⟨c, b1, b2⟩ := a3 at_ v e
      exact ⟨c, b1, code_kept pl (tab_ok k) st b2⟩⟩
theorem vok_down {F H : Hp} {v : V} {s : Sl} (h : VOk K (tabW W T) F H v s) : VOk K W F H v s := by
  cases s with
  | un => exact h
  | dat x => exact h
  | rf u => exact h
  | ls ds =>
    obtain ⟨r, ws, g1, g2, g3, g4, g5⟩ := h
    exact ⟨r, ws, g1, g2, g3, fun z => g4 (.inl z), g5⟩
theorem vok_up {F H : Hp} {v : V} {s : Sl} (hn : NoLs s) (h : VOk K W F H v s) : VOk K (tabW W T) F H v s := by
  cases s with
  | un => exact h
  | dat x => exact h
  | rf u => exact h
  | ls ds => exact hn.elim
theorem pvok_down {F H : Hp} : ∀ {vs : List V} {ss : List Sl}, Paired (VOk K (tabW W T) F H) vs ss → Paired (VOk K W F H) vs ss
  | _, _, .nil => .nil
  | _, _, .cons h t => .cons (vok_down h) (pvok_down t)
/-- a def whose promise is told in the world without tables -/
theorem ev_fnT {t : TA} {n : Nat} {Pre : Wd → Rho → Prop} {Post : Wd → Rho → Sl → Prop} (pl : Plain W) (h : EvA K (tabW W T) H0 t ρ fun ss => (∀ s ∈ ss, NoLs s) ∧ ss.length = n ∧ Pre W ss ∧ ∀ s, Post W ss s → NoLs s ∧ P s) :
    Ev K (tabW W T) H0 (tFn (Pm K n Pre Post) t) ρ P := fun σ F H o ho Q q =>
  h σ F H o ho _ fun vs F1 H1 ss o1 st1 hv ⟨h1, h2, h3, h4⟩ => ⟨W, F1, ss, tab_ok o1, pvok_down hv, h1, h2, h3, fun v F2 H2 s o2 st2 hv2 p => by
    obtain ⟨o3, st3⟩ := tab_up pl o1 o2 st2
    obtain ⟨hn, hp⟩ := h4 s p
    exact q v F2 H2 s o3 (st1.trans o1 st3) (vok_up hn hv2) hp⟩
theorem ev_fnFT {nm : Nm} {a l : Addr} {cs : List Int} {n : Nat} {pre : List D → Prop} {post : List D → D → Prop} {t : TA} (h : EvA K (tabW (feedW nm a l cs) T) H0 t ρ fun ss => ∃ ds, ss = .rf (.ref a) :: ds.map .dat ∧ ds.length = n ∧ pre ds ∧ ∀ d, post ds d → P (.dat d)) :
    Ev K (tabW (feedW nm a l cs) T) H0 (tFn (PmF nm K n pre post) t) ρ P := ev_fnT feed_plain fun σ F H o ho Q q => h σ F H o ho Q fun vs F' H' ss o' st hv ⟨ds, e, hl, hp, k⟩ => q vs F' H' ss o' st hv (by
    subst e
    refine ⟨fun s m => ?_, by rw [List.length_cons, List.length_map, hl], ⟨a, l, cs, ds, rfl, rfl, hl, hp⟩, fun s hs => ?_⟩
    · rcases List.mem_cons.mp m with rfl | m
      · trivial
      · exact nols_dat ds s m
    · obtain ⟨d, rfl, hd⟩ := hs _ ds rfl
      exact ⟨trivial, k d hd⟩)
/-- the making of a lambda, in such a world -/
theorem tab_made {F H H1 : Hp} {p : Addr × Str} {ps : Array Value} {c' : Addr} (pl : Plain W) (on : Once T) (hp : p ∈ T) (k : Ok (tabW W T) F H) (hP : H p.1 = some (.tbl ps)) (md : Made p.1 ps p.2 H H1 c') (tb : TabS H1 p.1 p.2) :
    Ok (tabW W T) F H1 ∧ Step (tabW W T) F H F H1 := by
  rcases md with rfl | ⟨more, hc, hne, rfl⟩
  · exact ⟨k, Step.refl k⟩
  have at_ : ∀ b o, b ≠ p.1 → H b = some o → upd (upd H p.1 (.tbl (ps ++ more))) c' (CodeO c' p.2) b = some o := fun b o h1 e => by
    rw [upd_ne (ne_of_none e hc), upd_ne h1]
    exact e
  have cod : ∀ b c q, H b = some (CodeO c q) → upd (upd H p.1 (.tbl (ps ++ more))) c' (CodeO c' p.2) b = some (CodeO c q) := fun b c q e => at_ b _ (fun z => by
    rw [z, hP] at e
    exact codeO_ne ps (Option.some.inj e).symm) e
  have st : Step (tabW W T) F H F (upd (upd H p.1 (.tbl (ps ++ more))) c' (CodeO c' p.2)) := ⟨Same.refl _, fun b u hz e => at_ b u (fun z => hz (.inr ⟨p, hp, z⟩)) e, fun b h _ => h⟩
  refine ⟨⟨fun b u e => at_ b u (fun z => ?_) (k.sub b u e), fun b z => ⟨(k.z b z).1, ?_⟩, ?_, fun p' hp' => ?_⟩, st⟩
  · rw [z, (k.z p.1 (.inr ⟨p, hp, rfl⟩)).1] at e
    cases e
  · by_cases n : b = p.1
    · rw [n, upd_ne hne.symm, upd_same]
      exact fun z => nomatch z
    · obtain ⟨o, e⟩ := some_of (k.z b z).2
      rw [at_ b o n e]
      exact fun z => nomatch z
  · exact W.stab F H F _ k.inv.1 (Same.refl _) (fun b u z e => at_ b u (fun n => tab_off pl k hp (n ▸ z)) e) cod
  · by_cases n : p'.1 = p.1
    · obtain ⟨ps', a1, a2, a3⟩ := tb
      exact ⟨ps', n ▸ a1, a2, fun at2 v e => by
        obtain ⟨c, b1, b2⟩ := a3 at2 v e
        exact ⟨c, b1, by rw [on p' hp' p hp n]; exact b2⟩⟩
    · obtain ⟨ps', a1, a2, a3⟩ := k.inv.2 p' hp'
      exact ⟨ps', at_ _ _ n a1, a2, fun at2 v e => by
        obtain ⟨c, b1, b2⟩ := a3 at2 v e
        exact ⟨c, b1, cod _ _ _ b2⟩⟩
/-- f(lambda: ..), f's promise TT told of data -/
theorem ev_lamE {p : Addr × Str} {TT : (XK → Hp → VK → Prop) → Hp → VK → Prop} {t : XK → TE} (pl : Plain W) (on : Once T) (hp : p ∈ T)
    (h : ∀ σ F H, Ok (tabW W T) F H → Holds K (tabW W T) H0 σ F H ρ → ∀ Q : VK, (∀ v F' H' s, Ok (tabW W T) F' H' → Step (tabW W T) F H F' H' → VOk K (tabW W T) F' H' v s → P s → Q v H') → TT (fun E H' Q' => t E σ H' Q') H Q) :
    Ev K (tabW W T) H0 (tLamE p.1 p.2 TT t) ρ P := fun σ F H k ho Q q => by
  obtain ⟨ps, hP, hc⟩ := k.inv.2 p hp
  refine ⟨ps, hP, hc, fun H1 c' md tb hco => ?_⟩
  obtain ⟨k1, st1⟩ := tab_made pl on hp k hP md tb
  exact h σ F H1 k1 (ho.step st1) Q fun v F' H' s k' st' hv pp => q v F' H' s k' (st1.trans k1 st') hv pp
/-- no code object is its own -/
theorem tab_code {F H : Hp} (pl : Plain W) (k : Ok (tabW W T) F H) {b c : Addr} {q : Str} (e : H b = some (CodeO c q)) : ¬ (tabW W T).Z b := fun z => by
  rcases z with z | ⟨p, hp, rfl⟩
  · obtain ⟨o, h1, _, h3⟩ := pl F H b (tab_ok k) z
    rw [e] at h1
    exact h3 c q (Option.some.inj h1).symm
  · obtain ⟨ps, a1, _⟩ := k.inv.2 p hp
    rw [e] at a1
    exact codeO_ne ps (Option.some.inj a1)
end
end DL

namespace DL
open PySem L2 RZ LamX PySem.Spec PyProof.Rows
/-! ### a def that takes a lambda -/
structure GvC (Pg : Program) (w : World) (K : PySem.W.Frag) (mg : Str → Option Value) (base : Heap) (x a : Str) (TT : (XK → Hp → VK → Prop) → Hp → VK → Prop) : Prop where
  ex : ∃ (g : Addr) (pg : Arguments) (bg : List Stmt) (sg : Scope) (Ng : List Str) (oc dV kV doc pm cdv ct : Value) (od an : Option Addr) (osl : Array (Option Value)),
    mg x = some (.ref g) ∧ PySem.W.keepIn K (.ref g) = true ∧ K.lookup g = some ⟨oc, od, .func (PySem.W.fnOf x x pg bg sg dV kV doc pm an cdv ct), osl⟩ ∧ PySem.W.codeIn K cdv x = true ∧ L2.Binds K (PySem.W.fnOf x x pg bg sg dV kV doc pm an cdv ct) [a] [] ∧
    FnScope Ng [a] sg ∧ Ng[0]? = some a ∧ Vis sg a ∧ ∀ X : Cx, X.prog = Pg → X.w = w → X.K = K → X.mg = mg → X.base = base → X.A.guards = some [] → ∀ q, GivesS X Ng x sg g cdv bg a q TT
section
variable {X : Cx} {TT : (XK → Hp → VK → Prop) → Hp → VK → Prop} {x a : Str} {c P : Addr} {k : Nat} {prm : Arguments} {bd : Expr} {sco : Scope} {t : XK → TE} {p lp pos : Pos}
theorem pe_gv (C : GvC X.prog X.w X.K X.mg X.base x a TT) (TB : TabB X.base X.mg c P) (hgd : X.A.guards = some []) (hr : Room (k + 2) X.A) (hg : Gl X x) (hc : X.env.code = .ref c) (L : LamS X.env.scope sco) (hdf : defaultsOf prm X.env = ([], []))
    (hbi : ∀ (q : Str) (cl : List (Str × Addr)) (pm cv ctv : Value), bindArgs (PySem.W.kla_fn "<lambda>" q prm bd sco cl pm cv ctv) ⟨[], []⟩ = pure [])
    (hbo : ∀ (A : Around) (outer : List Env) (s : Shared) (H : Hp) (E : XK) (f c' : Addr), A.guards = some [] → Room k (A.deeper (lamEnv X sco s.heap.objs.size f c')) → PE (lamCx X A outer s H E sco f c') bd (t E))
    (hdb : (x == ("__debug__" : Str)) = false := by decide) (hda : (a == ("__debug__" : Str)) = false := by decide) (hca : (a == ("__classdict__" : Str)) = false := by decide) :
    PE X (.Call (.Name x p) [.Lambda prm bd sco lp] [] pos) (tLamE P (X.env.qual ++ "<lambda>") TT t) := by
  obtain ⟨g, pg, bg, sg, Ng, oc, dV, kV, doc, pm, cdv, ct, od, an, osl, h1, h2, h3, h4, h5, h6, h7, h8, h9⟩ := C.ex
  exact pe_lamE hg h1 h2 h3 h4 h5 h6 h7 h8 (h9 X rfl rfl rfl rfl rfl hgd _) TB hc hr L hdf hbi (fun A ou s H E f c' hg2 hr2 => hbo A ou s H E f c' (hg2.trans hgd) hr2) hdb hda hca
end
/-! ### a def's code object is known -/
section
variable {Pg : Program} {w : World} {K : PySem.W.Frag} {mg : Str → Option Value} {base : Heap}
theorem fnGc_of {x qual : Str} {st : Stmt} {f c : Addr} {fd : FuncData} {N ps : List Str} {k : Nat} {sp : Sp} (F : Fun K x qual st f fd) (hcd : fd.code = .ref c) (S : FnScope N ps (defScope st)) (len : ∀ vs H Q E, sp vs H Q E → vs.length = ps.length)
    (hb : ∀ (A : Around) (ou : List Env) (s : Shared) (H : Hp) (vs : List V) (Q : VK), A.guards = some [] → Room k (A.deeper (envOfC qual (defScope st) s.heap.objs.size f (.ref c))) → sp vs H Q E0 →
      ∃ t, PSs (cxOf CX0 Pg w K mg base N qual (defScope st) f (.ref c) A ou s H E0).nox (defBody st) t ∧ t { nx := fun _ H' => Q .non H', rt := Q } (L2.start N vs) H) : FnG Pg w K mg base (k + 1) f fd ps sp := by
  obtain ⟨oc, od, kV, doc, pm, an, cdv, ct, osl, efd, lk, hci⟩ := F.ex
  subst efd
  obtain rfl : cdv = .ref c := hcd
  refine ⟨len, fun A ou s H ar us vs Q hgd hr en hbd hv hsp => ?_⟩
  refine codeAny_call_function hr.depth (en.mod.kin.keeps (fun b o e => (en.bs b o e).1) _ _ lk) rfl S.co S.gen rfl (PySem.W.codeRec_of (en.mod.kin.keeps (fun b o e => (en.bs b o e).1)) hci) (hbd _ _ _ _ ?_)
  refine wpAny_newFunctionEnv_cells S.kind (fun y hy => ?_) fun env he s1 x => ?_
  · obtain ⟨n, v⟩ := y
    rcases S.par n (List.of_mem_zip hy).1 with q | q
    · exact .inl q
    · exact .inr ⟨q, PySem.W.cellsFrom_some _ _ _ (.inl q)⟩
  subst he
  refine ⟨(en.mod.nolimit.keeps (fun b o e => (en.bs b o e).1)).keeps x.toInCall.keep, codeAny_func ?_⟩
  obtain ⟨t, ht, hq⟩ := hb A ou s H vs Q hgd (hr.deeper _) hsp
  refine wpAny_mono (ht.nox.run [] s1 (L2.start N vs) H _ (inv_start (CX := CX0) (E := E0) S hr.hd en (len vs H Q _ hsp) hv x) hq) (fun fl s2 hs => ?_) (fun e s2 hs => hs)
  match fl, hs with
  | .ret u, ⟨v, σ2, H2, J, rv, q⟩ => exact ⟨v, H2, J.os, J.bare, J.base, J.hok, rv, q⟩
  | .next, ⟨σ2, H2, J, q⟩ => exact ⟨V.non, H2, J.os, J.bare, J.base, J.hok, rfl, q⟩
  | .brk, hs => exact hs.choose_spec.choose_spec.2.elim
  | .cont, hs => exact hs.choose_spec.choose_spec.2.elim
end
/-! ### the law's call, with tables of code objects -/
section
variable {Pg : Program} {w : World} {K : PySem.W.Frag} {mg mb : Str → Option Value} {k : Nat} {fl p : Addr} {fd : FuncData} {x : Str} {sp : Sp} {st : Shared} {us : List Value} {zs : List Int} {cs : List (Addr × Addr)}
theorem told_fromT (KX : K.In st.heap) (hm : st.heap.Ns mainGlobals mg) (hb : st.heap.Ns builtinsNs mb) (hbb : ∀ y : Str, y ≠ "__name__" → mb y = bootBuiltins y) (hl : st.heap.NoLimit) (hg : st.gens = #[])
    (hT : ∀ q ∈ cs, st.heap.get? q.2 = some { cls := .none, data := .fields #[] }) (nT : ∀ q ∈ cs, K.lookup q.2 = none) (cd : ∀ q ∈ cs, PySem.W.CodeHd st.heap q.1 q.2)
    (hbm : ∃ (bm : Addr) (ob : Obj), mg "__builtins__" = some (.ref bm) ∧ bm ≠ builtinsNs ∧ st.heap.get? bm = some ob ∧ ob.cls = .type "module" ∧ ob.dict = some builtinsNs ∧ ob.data = .plain)
    (hp : st.heap.get? p = some { cls := .type "list", data := .seq us.toArray }) (hr : Room k callerA) (F : ∀ base : Heap, K.In base → base.Ns mainGlobals mg → (∀ q ∈ cs, TabB base mg q.1 q.2) → FnG Pg w K mg base k fl fd [x] sp)
    (bd : ∀ (s : Shared) (u : Value), BindsTo s fd ⟨[u], []⟩ [(x, u)]) (H : Hp) (hH : ∀ q ∈ cs, H q.2 = some (.tbl #[])) (ok : HOk Pg w H st.heap)
    (one : ∀ b u, H b = some u → (b = p ∧ K.lookup p = none ∧ ∃ o xs, u = .frz o (.lst xs)) ∨ ∃ q ∈ cs, b = q.2)
    (hs : sp [.ref p] H (fun v _ => v = .bl true) E0) : codeAny (model Pg w) callerA (.call (.ref fl) ⟨[.ref p], []⟩) (Told st) st := by
  -- what is neither the script nor a table isn't shown
  have off : ∀ {b : Addr} {ob : Obj}, st.heap.get? b = some ob → (∀ vs n, ob.data ≠ .seq vs n) → ob.data ≠ .fields #[] → H b = none := fun {b ob} g h1 h2 => by
    rcases e : H b with _ | u
    · rfl
    · rcases one b u e with ⟨rfl, _⟩ | ⟨q, hq, rfl⟩
      · rw [hp] at g
        exact absurd rfl (Option.some.inj g ▸ h1 _ _)
      · rw [hT q hq] at g
        exact absurd rfl (Option.some.inj g ▸ h2)
  have dic : ∀ {b : Addr} {ob : Obj} {es : Array DictEntry} {n : Nat}, st.heap.get? b = some ob → ob.data = .dict es n → H b = none := fun {b ob es n} g d =>
    off g (fun _ _ z => (by rw [d] at z; cases z)) fun z => (by rw [d] at z; cases z)
  have names : ∀ {b : Addr} {m : Str → Option Value}, st.heap.Ns b m → (hidT st.heap H).Ns b m := fun {b m} h => by
    obtain ⟨ob, es, n, g, d, r⟩ := h
    exact ⟨ob, es, n, hidT_get g (dic g d), d, r⟩
  have kin : K.In (hidT st.heap H) := fun b ob g => hidT_get (KX b ob g) (by
    rcases e : H b with _ | u
    · rfl
    · rcases one b u e with ⟨rfl, z, _⟩ | ⟨q, hq, rfl⟩
      · rw [z] at g
        cases g
      · rw [nT q hq] at g
        cases g)
  have md : L2.Mod K mg (hidT st.heap H) := by
    obtain ⟨mc, n1, n2⟩ := hl
    exact ⟨kin, names hm, ⟨mb, names hb, hbb⟩, ⟨mc, names n1, n2⟩⟩
  have mne : ∀ {b : Addr} {ob : Obj}, st.heap.get? b = some ob → (∀ es n, ob.data ≠ .dict es n) → b ≠ mainGlobals := fun {b ob} g h z => by
    obtain ⟨o2, es, n, g2, d, _⟩ := hm
    rw [z, g2] at g
    exact h es n (Option.some.inj g ▸ d)
  have tb : ∀ q ∈ cs, TabB (hidT st.heap H) mg q.1 q.2 := fun q hq => by
    refine ⟨?_, ?_, fun z => mne (hT q hq) (fun _ _ z => nomatch z) z.symm⟩
    · obtain ⟨o, fs, r1, r2, r3, r4, r5, r6, r7, g, g2, g3, g4, r⟩ := cd q hq
      refine ⟨o, fs, r1, r2, r3, r4, r5, r6, r7, hidT_get g (off g (fun _ _ z => ?_) fun z => ?_), g2, g3, g4, r⟩
      · rw [g3] at z
        cases z
      · rw [g3] at z
        obtain rfl : fs = #[] := Data.fields.inj z
        simp at g4
    · obtain ⟨bm, ob, z1, z2, z3, z4, z5, z6⟩ := hbm
      refine ⟨bm, ob, z1, z2, mne z3 (fun _ _ z => ?_), fun z => ?_, hidT_get z3 (off z3 (fun _ _ z => ?_) fun z => ?_), z4, z5, z6⟩
      · rw [z6] at z
        cases z
      · rw [z, hT q hq] at z3
        rw [← Option.some.inj z3] at z6
        cases z6
      · rw [z6] at z
        cases z
      · rw [z6] at z
        cases z
  have env : Env0 Pg w K mg (hidT st.heap H) callerA [] st H := ⟨rfl, md, fun b ob g => of_hidT g, Nat.le_of_eq (hidT_size _ _), trivial, fun b z => absurd (show b ∈ ([] : List Addr) from z) (by simp), ok, .of_eq hg⟩
  refine codeAny_mono ((F _ kin (names hm) tb).run callerA [] st H ⟨[.ref p], []⟩ [.ref p] [.ref p] _ rfl hr env (bd st (.ref p)) (.cons rfl .nil) hs) fun r s2 h => ?_
  match r, h with
  | .error _, h => exact h.elim
  | .ok .next, h => exact h.elim
  | .ok .brk, h => exact h.elim
  | .ok .cont, h => exact h.elim
  | .ok (.ret u), ⟨v, H2, os, bare, un, ok2, rel, e⟩ =>
    obtain rfl : v = .bl true := e
    obtain rfl : u = Value.bool true := rel
    have key : ∀ b ob, st.heap.get? b = some ob → s2.heap.get? b = some ob ∨ ∃ q ∈ cs, b = q.2 ∧ ∃ more : Array Value, s2.heap.get? b = some { cls := .none, data := .fields more } := fun b ob g => by
      rcases e : H b with _ | u2
      · exact .inl (un.keep b ob g e (fun z => absurd (show b ∈ ([] : List Addr) from z) (by simp)) (by simp))
      · rcases one b u2 e with ⟨_, _, o3, xs, rfl⟩ | ⟨q, hq, rfl⟩
        · obtain ⟨g1, _⟩ := ok b _ e
          obtain ⟨g2, _⟩ := ok2 b _ (un.frzs b o3 _ e)
          rw [g1] at g
          exact .inl (g2.trans g)
        · obtain ⟨more, z⟩ := un.tbls q.2 #[] (hH q hq)
          exact .inr ⟨q, hq, rfl, _, ok2 q.2 _ z⟩
    refine ⟨rfl, ⟨fun b ob g => ?_, fun b ob g => ?_⟩, os, bare⟩
    · rcases key b ob g with z | ⟨q, hq, rfl, more, z⟩
      · exact .inl z
      · rw [hT q hq] at g
        obtain rfl := Option.some.inj g
        exact .inr (.inl ⟨((cd q hq).tab (hT q hq)).isCodeTable, rfl, #[], more, rfl, by simpa using z⟩)
    · rcases key b ob g with z | ⟨q, hq, rfl, more, z⟩
      · exact ⟨_, z⟩
      · exact ⟨_, z⟩
theorem told_callT (KX : K.In st.heap) (hm : st.heap.Ns mainGlobals mg) (hb : st.heap.Ns builtinsNs mb) (hbb : ∀ y : Str, y ≠ "__name__" → mb y = bootBuiltins y) (hl : st.heap.NoLimit) (hg : st.gens = #[])
    (hT : ∀ q ∈ cs, st.heap.get? q.2 = some { cls := .none, data := .fields #[] }) (nT : ∀ q ∈ cs, K.lookup q.2 = none) (cd : ∀ q ∈ cs, PySem.W.CodeHd st.heap q.1 q.2)
    (hbm : ∃ (bm : Addr) (ob : Obj), mg "__builtins__" = some (.ref bm) ∧ bm ≠ builtinsNs ∧ st.heap.get? bm = some ob ∧ ob.cls = .type "module" ∧ ob.dict = some builtinsNs ∧ ob.data = .plain)
    (hp : st.heap.get? p = some { cls := .type "list", data := .seq us.toArray }) (hi : IntsAre us zs) (hz : zs.length ≤ sizeLine) (hr : Room k callerA)
    (F : ∀ base : Heap, K.In base → base.Ns mainGlobals mg → (∀ q ∈ cs, TabB base mg q.1 q.2) → FnG Pg w K mg base k fl fd [x] sp) (bd : ∀ (s : Shared) (u : Value), BindsTo s fd ⟨[u], []⟩ [(x, u)])
    (hs : ∀ H : Hp, (∀ q ∈ cs, H q.2 = some (.tbl #[])) → SqL K H p (zs.map V.int) → sp [.ref p] H (fun v _ => v = .bl true) E0) : codeAny (model Pg w) callerA (.call (.ref fl) ⟨[.ref p], []⟩) (Told st) st := by
  have rel := vals_ints hi
  have len := hi.length
  have pne : ∀ q ∈ cs, q.2 ≠ p := fun q hq z => by
    have e := hT q hq
    rw [z, hp] at e
    have e : Data.seq us.toArray _ = Data.fields #[] := congrArg Obj.data (Option.some.inj e)
    cases e
  let T : Hp := fun b => if b ∈ cs.map Prod.snd then some (.tbl #[]) else none
  have Tin : ∀ q ∈ cs, T q.2 = some (.tbl #[]) := fun q hq => if_pos (List.mem_map.mpr ⟨q, hq, rfl⟩)
  have Tof : ∀ b u, T b = some u → u = .tbl #[] ∧ ∃ q ∈ cs, b = q.2 := fun b u e => by
    by_cases m : b ∈ cs.map Prod.snd
    · obtain ⟨q, hq, rfl⟩ := List.mem_map.mp m
      rw [Tin q hq] at e
      exact ⟨(Option.some.inj e).symm, q, hq, rfl⟩
    · have z : T b = none := if_neg m
      rw [z] at e
      cases e
  have Tok : ∀ b u, T b = some u → ObjOk Pg w T st.heap b u := fun b u e => by
    obtain ⟨rfl, q, hq, rfl⟩ := Tof b u e
    exact hT q hq
  rcases lk : K.lookup p with _ | o
  · have at_ : upd T p (.frz { cls := .type "list", data := .seq us.toArray } (.lst (zs.map V.int))) p = _ := upd_same
    have Uin : ∀ q ∈ cs, upd T p (.frz { cls := .type "list", data := .seq us.toArray } (.lst (zs.map V.int))) q.2 = some (.tbl #[]) := fun q hq => by rw [upd_ne (pne q hq), Tin q hq]
    refine told_fromT KX hm hb hbb hl hg hT nT cd hbm hp hr F bd _ Uin (fun b u e => ?_) (fun b u e => ?_) (hs _ Uin (.inl (.inr ⟨_, at_⟩)))
    · by_cases n : b = p
      · subst n
        rw [at_] at e
        obtain rfl := Option.some.inj e
        exact ⟨hp, by rw [List.length_map]; exact hz, us, _, rel, hp⟩
      · rw [upd_ne n] at e
        obtain ⟨rfl, q, hq, rfl⟩ := Tof b u e
        exact hT q hq
    · by_cases n : b = p
      · subst n
        rw [at_] at e
        exact .inl ⟨rfl, lk, _, _, (Option.some.inj e).symm⟩
      · rw [upd_ne n] at e
        exact .inr (Tof b u e).2
  · have g := KX p o lk
    rw [hp] at g
    obtain rfl := Option.some.inj g
    exact told_fromT KX hm hb hbb hl hg hT nT cd hbm hp hr F bd T Tin (fun b u e => by obtain ⟨rfl, q, hq, rfl⟩ := Tof b u e; exact hT q hq) (fun b u e => .inr (Tof b u e).2)
      (hs T Tin (.inr ⟨_, us.toArray, _, lk, rfl, rfl, rfl, by rw [List.size_toArray, len]; exact hz, by simpa using rel⟩))
end
theorem told_walkT {l : PySem.W.OpenLaw} {n k : Nat} {q : Program} {loose : List Str} {XP : (Str → Option Value) → Heap → Prop} {YP : World → Heap → Prop} {d : DefRec} {K : Params → PySem.W.Frag} {ts : List Addr} {sp : PySem.W.Frag → List (Addr × Addr) → Sp} {x : Str}
    (hn : l.most = some n) (hz : n ≤ sizeLine) (hdf : d.params.defaults = []) (hr : Room k callerA) (hY : ∀ (w : World) (h : Heap), YP w h → (K w.params).In h ∧ ∀ P ∈ ts, h.get? P = some (PySem.W.tabObj #[]))
    (F : ∀ (w : World) (mg : Str → Option Value) (fl : Addr) (h : Heap), (K w.params).In h → h.Ns mainGlobals mg → mg d.name = some (.ref fl) → ∃ (fd : FuncData) (cs : List (Addr × Addr)), (∀ p ∈ cs, p.2 ∈ ts ∧ (K w.params).lookup p.2 = none ∧ PySem.W.codeHdIn (K w.params) p.1 p.2 = true) ∧
      (∀ (s : Shared) (u : Value), BindsTo s fd ⟨[u], []⟩ [(x, u)]) ∧ ∀ base : Heap, (K w.params).In base → base.Ns mainGlobals mg → (∀ p ∈ cs, TabB base mg p.1 p.2) → FnG l.prog w (K w.params) mg base k fl fd [x] (sp (K w.params) cs))
    (hs : ∀ (K : PySem.W.Frag) (cs : List (Addr × Addr)) (H : Hp) (p : Addr) (zs : List Int), zs.length ≤ n → (∀ q ∈ cs, H q.2 = some (.tbl #[])) → SqL K H p (zs.map V.int) → sp K cs [.ref p] H (fun v _ => v = .bl true) E0) :
    PySem.W.WalkO q loose XP YP l.row.toRowW d [] (fun f vs => PySem.call f vs) :=
  Att.attach_call hn hdf fun w _ st mg mb fl _ _ _ _ p us zs G Y _ _ _ hmg hp hi hlen hg => by
    obtain ⟨KX, tb⟩ := hY w _ Y
    obtain ⟨fd, cs, h1, bd, hF⟩ := F w mg fl _ KX G.T.g hmg
    exact told_callT KX G.T.g G.T.b G.T.builtins G.T.nolimit hg (fun q hq => tb _ (h1 q hq).1) (fun q hq => (h1 q hq).2.1) (fun q hq => PySem.W.codeHd_of_K KX (h1 q hq).2.2) G.T.bmain hp hi (Nat.le_trans hlen hz) hr hF bd fun H a b => hs _ cs H p zs hlen a b
end DL

namespace DL
open PySem L2 RZ LamX
/-! ### what a def makes of the lambda handed in -/
/-- code objects are nobody's own -/
def NoCode (W : Wd) : Prop := ∀ F H b c q, Ok W F H → H b = some (CodeO c q) → ¬ W.Z b
/-- ("told", what the lambda gives), or what RC has of the error's class and fields -/
def TTs (K : PySem.W.Frag) (RC : Addr → List (Str × D) → D → Prop) : (XK → Hp → VK → Prop) → Hp → VK → Prop := fun tl H Q =>
  ∃ (W : Wd) (F : Hp) (P : D → Prop) (R : Addr → List (Str × D) → Prop), NoCode W ∧ Ok W F H ∧
    (∀ F1 H1, Ok W F1 H1 → Step W F H F1 H1 → ∀ (E : XK) (Q' : VK), (∀ v F' H' d, Ok W F' H' → Step W F1 H1 F' H' → VOk K W F' H' v (.dat d) → P d → Q' v H') →
      (∀ C d fs F' H', Ok W F' H' → Step W F1 H1 F' H' → Er K W F' H' d fs → R C fs → E (.ref C) (some d) H') → tl E H1 Q') ∧
    (∀ C fs, R C fs → ∃ r, RC C fs r) ∧
    ∀ v F' H' d, Ok W F' H' → Step W F H F' H' → VOk K W F' H' v (.dat d) → ((∃ x, P x ∧ d = .tuple [.str "told", x]) ∨ ∃ C fs, R C fs ∧ RC C fs d) → Q v H'
section
variable {K : PySem.W.Frag} {W : Wd} {H0 F0 : Hp} {ρ : Rho} {T : List (Addr × Str)} {P : Sl → Prop} {N : Ends2} {RC : Addr → List (Str × D) → D → Prop}
theorem ev_said {p : Addr × Str} {te : WX → TE} (pl : Plain W) (on : Once T) (hp : p ∈ T)
    (h : EvX K (tabW W T) H0 te ρ (fun s => ∃ d, s = .dat d ∧ P (.dat (.tuple [.str "told", d]))) fun C fs => (∃ r, RC C fs r) ∧ ∀ r, RC C fs r → P (.dat r)) :
    Ev K (tabW W T) H0 (tLamE p.1 p.2 (TTs K RC) fun E => te fun cls d _ H => E cls d H) ρ P :=
  ev_lamE pl on hp fun σ F H o ho Q q => ⟨tabW W T, F, fun d => P (.dat (.tuple [.str "told", d])), fun C fs => (∃ r, RC C fs r) ∧ ∀ r, RC C fs r → P (.dat r), fun F H b c q o e => tab_code pl o e, o,
    fun F1 H1 o1 st1 E Q' a b => h σ F1 H1 o1 (ho.step st1) Q' (fun cls d _ H => E cls d H) (fun v F' H' s o' st' hv ⟨d, e, k⟩ => by subst e; exact a v F' H' d o' st' hv k) (fun C d fs F' H' o' st' er r => b C d fs F' H' o' st' er r),
    fun C fs r => r.1, fun v F' H' d o' st' hv k => q v F' H' (.dat d) o' st' hv (by
      rcases k with ⟨x, hx, rfl⟩ | ⟨C, fs, r, rc⟩
      · exact hx
      · exact r.2 d rc)⟩
/-- try: x = e / except X as n: suite, n in slot i, x in slot j -/
theorem sx_try_as_set {tx : WX → TE} {ts : Addr → Value → Option Addr → TS} {c : Value} {Wout : WX} {i j : Nat} (P : D → Prop) (R : Addr → List (Str × D) → Prop)
    (hb : ∀ σ F H, At K W H0 F0 σ F H ρ → ∀ (Q : VK) (Wx : WX), (∀ v F' H' d, Ok W F' H' → Step W F H F' H' → VOk K W F' H' v (.dat d) → P d → Q v H') →
      (∀ C d fs F' H', Ok W F' H' → Step W F H F' H' → Er K W F' H' d fs → R C fs → Wx (.ref C) (some d) σ H') → tx Wx σ H Q)
    (hn : ∀ d, P d → N.nx (ρ.set j (.dat d))) (hc : ∀ C fs, R C fs → PySem.W.exmOne K (.ref C) c = some true)
    (hs : ∀ C fs, R C fs → ∀ a d vs, Sx K (errW K W d fs vs) H0 F0 (ts a (.ref C) (some d)) (ρ.set i (.rf (.ref a))) { nx := fun ρ' => N.nx (ρ'.set i .un), rt := N.rt, bk := fun ρ' => N.bk (ρ'.set i .un), ct := fun ρ' => N.ct (ρ'.set i .un) }) :
    Sx K W H0 F0 (fun D σ H => tAsg (tx (wAs K c i ts Wout D)) (gName j) D σ H) ρ N := fun σ F H at_ D nn r b cc =>
  hb σ F H at_ _ _ (fun v F1 H1 d o1 st1 hv p => nn _ F1 H1 _ ⟨o1, (at_.step o1 st1).st, (at_.step o1 st1).ho.set hv trivial⟩ st1.fz (hn d p)) fun C d fs F1 H1 o1 st1 he hr =>
    ⟨true, hc C fs hr, fun _ a ha => by
      obtain ⟨vs, ev⟩ := he.v
      have a1 := at_.step o1 st1
      have a2 : At K W H0 F0 (σ.set i (some (.ref a))) F1 H1 (ρ.set i (.rf (.ref a))) := ⟨a1.ok, a1.st, a1.ho.set (s := .rf (.ref a)) rfl trivial⟩
      have off : ∀ {σ2 F2 H2 ρ2}, At K W H0 F0 σ2 F2 H2 ρ2 → At K W H0 F0 (σ2.set i none) F2 H2 (ρ2.set i .un) := fun x => ⟨x.ok, x.st, x.ho.un⟩
      exact sx_err a2 ev (hs C fs hr a d vs) _ (fun σ2 F2 H2 ρ2 x sm k => nn _ F2 H2 _ (off x) (st1.fz.trans sm) k) r (fun σ2 F2 H2 ρ2 x sm k => b _ F2 H2 _ (off x) (st1.fz.trans sm) k) (fun σ2 F2 H2 ρ2 x sm k => cc _ F2 H2 _ (off x) (st1.fz.trans sm) k), fun z => nomatch z⟩
/-- isinstance(e, X), X a builtin type -/
theorem ev_isEt {d a C : Addr} {fs : List (Str × D)} {vs : List V} {i : Nat} {n : String} {b : Bool} (hi : ρ[i]? = some (.rf (.ref a))) (hb : PySem.W.kitOne K (.ref C) (.type n) = some b) (p : P (.dat (.bool b))) :
    Ev K (errW K W d fs vs) H0 (tCB (rIsEX K C a d) (tCons (tVar i) (tCons (tC (.ty n)) tNil))) ρ P := fun σ F H o ho Q q =>
  ⟨.ref a, ho.at_ i _ hi, .ty n, b, _, rfl, o.inv.2.1, .inl ⟨.type n, fun u h => h, hb⟩, q _ F H (.dat (.bool b)) o (Step.refl o) (.bl b) p⟩
end
/-- facts of an error's class, its fields among fl -/
structure ErrK (K : PySem.W.Frag) (fl : List Str) (C : Addr) : Prop where
  is : IsC K C
  xf : XfC K C
  nf : ∀ f ∈ fl, PySem.W.findIn K (.ref C) f = some none
/-- a suite's reading, where the class is one of these -/
def tEx (OKc : Addr → Prop) (cls : Value) (d : Option Addr) (tree : Addr → Addr → TS) : TS := fun D σ H => ∃ C dd, cls = .ref C ∧ d = some dd ∧ OKc C ∧ tree C dd D σ H
theorem pss_ex {Y : Cx} {b : List Stmt} {OKc : Addr → Prop} {cls : Value} {d : Option Addr} {tree : Addr → Addr → TS} (h : ∀ C dd, cls = .ref C → d = some dd → OKc C → PSs Y b (tree C dd)) : PSs Y b (tEx OKc cls d tree) :=
  ⟨fun pins s σ H D I ⟨C, dd, e1, e2, k, q⟩ => (h C dd e1 e2 k).run pins s σ H D I q⟩
theorem zc_of {cls : Value} {d : Option Addr} {C dd : Addr} {oe : Obj} (e1 : cls = .ref C) (e2 : d = some dd) (h : Zc cls d oe) : Zc (.ref C) (some dd) oe := by rw [← e1, ← e2]; exact h
theorem sx_ex {K : PySem.W.Frag} {W : Wd} {H0 F0 : Hp} {ρ : Rho} {N : Ends2} {OKc : Addr → Prop} {C dd : Addr} {tree : Addr → Addr → TS} (k : OKc C) (h : Sx K W H0 F0 (tree C dd) ρ N) : Sx K W H0 F0 (tEx OKc (.ref C) (some dd) tree) ρ N :=
  fun σ F H a D n r b c => ⟨C, dd, rfl, rfl, k, h σ F H a D n r b c⟩
/-- the call of the lambda, within ("told", a()) -/
theorem tx_act {K : PySem.W.Frag} {W : Wd} {H0 F0 : Hp} {ρ : Rho} {H : Hp} {F : Hp} {σ : St} {f c' : Addr} {q : Str} {tl : XK → Hp → VK → Prop} {P : D → Prop} {R : Addr → List (Str × D) → Prop} (nc : NoCode W) (h0 : Ok W F0 H0) (hco : H0 c' = some (CodeO c' q))
    (htl : ∀ F1 H1, Ok W F1 H1 → Step W F0 H0 F1 H1 → ∀ (E : XK) (Q' : VK), (∀ v F' H' d, Ok W F' H' → Step W F1 H1 F' H' → VOk K W F' H' v (.dat d) → P d → Q' v H') →
      (∀ C d fs F' H', Ok W F' H' → Step W F1 H1 F' H' → Er K W F' H' d fs → R C fs → E (.ref C) (some d) H') → tl E H1 Q')
    (at_ : At K W H0 F0 σ F H ρ) (hf : ρ[0]? = some (.rf (.ref f))) (Q : VK) (Wx : WX) (k1 : ∀ v F' H' d, Ok W F' H' → Step W F H F' H' → VOk K W F' H' v (.dat d) → (∃ x, P x ∧ d = .tuple [.str "told", x]) → Q v H')
    (k2 : ∀ C d fs F' H', Ok W F' H' → Step W F H F' H' → Er K W F' H' d fs → R C fs → Wx (.ref C) (some d) σ H') :
    tTup (tCons (tC (.str "told")) (tCons (fun σ2 H2 Q => σ2[0]? = some (some (.ref f)) ∧ H2 c' = some (CodeO c' q) ∧ tl (WE Wx σ2) H2 Q) tNil)) σ H Q := by
  refine ⟨at_.ho.at_ 0 _ hf, at_.st.kp _ _ (nc F0 H0 _ _ _ h0 hco) hco, ?_⟩
  refine htl F H at_.ok at_.st _ _ (fun v F1 H1 d o1 st1 hv p => ?_) fun C d fs F1 H1 o1 st1 he r => k2 C d fs F1 H1 o1 st1 he r
  refine ⟨le_line (n := 2) rfl, fun b hb => ?_⟩
  obtain ⟨o2, st2⟩ := o1.new (u := .tup [.str "told", v]) hb
  exact k1 (.ref b) _ _ (.tuple [.str "told", d]) o2 (st1.trans o1 st2) (.tup upd_same (.cons (.str _) (.cons (dp_mono st2.fz hv) .nil))) ⟨d, p, rfl⟩
end DL

namespace DL
open PySem L2 RZ LamX PySem.Spec PyProof.Rows
section
variable {X : Cx} {TT : (XK → Hp → VK → Prop) → Hp → VK → Prop} {x a q : Str} {c P : Addr} {k : Nat} {prm : Arguments} {bd : Expr} {sco : Scope} {t : XK → TE} {p lp pos : Pos}
/-- the code objects' name told apart -/
theorem pe_gvQ (C : GvC X.prog X.w X.K X.mg X.base x a TT) (TB : TabB X.base X.mg c P) (hgd : X.A.guards = some []) (hr : Room (k + 2) X.A) (hq : X.env.qual ++ "<lambda>" = q) (hg : Gl X x) (hc : X.env.code = .ref c) (L : LamS X.env.scope sco) (hdf : defaultsOf prm X.env = ([], []))
    (hbi : ∀ (q : Str) (cl : List (Str × Addr)) (pm cv ctv : Value), bindArgs (PySem.W.kla_fn "<lambda>" q prm bd sco cl pm cv ctv) ⟨[], []⟩ = pure [])
    (hbo : ∀ (A : Around) (outer : List Env) (s : Shared) (H : Hp) (E : XK) (f c' : Addr), A.guards = some [] → Room k (A.deeper (lamEnv X sco s.heap.objs.size f c')) → PE (lamCx X A outer s H E sco f c') bd (t E))
    (hdb : (x == ("__debug__" : Str)) = false := by decide) (hda : (a == ("__debug__" : Str)) = false := by decide) (hca : (a == ("__classdict__" : Str)) = false := by decide) :
    PE X (.Call (.Name x p) [.Lambda prm bd sco lp] [] pos) (tLamE P q TT t) := by
  subst hq
  exact pe_gv C TB hgd hr hg hc L hdf hbi hbo hdb hda hca
end
end DL
namespace DL
open PySem
/-- the table that a code object names -/
def tabA (K : PySem.W.Frag) (c : Addr) : Addr := match K.lookup c with
  | some ⟨_, _, .fields vs, _⟩ => (match (vs[11]? : Option Value) with
    | some (.ref P) => P
    | _ => 0)
  | _ => 0
end DL

namespace DL
open PySem L2 RZ PySem.Spec PyProof.Rows
/-! ### xs.count(d) -/
def rCntD (K : PySem.W.Frag) : V → List V → Hp → VK → Prop := fun x xs H Q => ∃ (a : Addr) (y : V) (d : PyData) (ds : List PyData), x = V.ref a ∧ xs = [y] ∧ L2.Dp K H (V.ref a) (.list ds) ∧ L2.Dp K H y d ∧
  SeqAt.shaped (.list ds) = true ∧ SeqAt.shaped d = true ∧ Q (.int (ds.countP fun z => PyData.eqv z d : Nat)) H
section
variable {X : Cx}
theorem mt_countD (hu : X.A.units + 65 < cLine) : MtR X "list.count" (rCntD X.K) := by
  rintro pins s σ H x xs v us Q I rx rxs ⟨a, y, d, ds, rfl, rfl, hl, hy, sl, sd, q⟩
  obtain rfl := rx
  match rxs with
  | .cons ry .nil =>
    rename_i uy
    obtain ⟨bs, r1⟩ := L2.Dp.reads I d y uy hy ry
    have cl : PyData.canLayAll0 ds = true := SeqAt.canLay_of_shaped sl
    match hl with
    | .lst hs ha =>
      obtain ⟨its, rv, ⟨⟨c1, c2, c3, c4⟩, n, g1, g2, g3, g4⟩, _⟩ := I.list hs
      obtain rfl : c1 = _ := g2
      obtain rfl : c3 = _ := g4
      obtain ⟨as, ra⟩ := L2.Dp.readsAll I ds _ its ha rv
      have em : its.map (SeqAt.readOf s.heap) = ds := SeqAt.readsAll_map ds its as cl ra
      refine call_meets PySem.F.slot_list_count ⟨_, g1, rfl⟩ PySem.F.entry_list_count (PySem.F.args_list_count_2 _ _)
        (SeqAt.list_countAt a its.toArray n c2 c4 uy fun u => PyData.eqv (SeqAt.readOf s.heap u) d) ⟨g1, SeqAt.items_eqAt (vs := its.toArray) (show ReadsAll s.heap its.toArray.toList ds as from ra) r1 cl (SeqAt.canLay_of_shaped sd) (room_in_shaped sd hu), ?_⟩
      have ec : its.toArray.toList.countP (fun u => PyData.eqv (SeqAt.readOf s.heap u) d) = ds.countP fun z => PyData.eqv z d := by
        rw [← em, List.countP_map]
        rfl
      rw [ec]
      exact ⟨.int (ds.countP fun z => PyData.eqv z d : Nat), H, I.tok _, ⟨_, rfl⟩, q⟩
end
section
variable {K : PySem.W.Frag} {W : Wd} {P : Sl → Prop}
theorem mts_count {s : Sl} {ds : List D} {d : D} (hs : LsOf s ds) (sl : SeqAt.shaped (.list ds) = true) (sd : SeqAt.shaped d = true) (p : P (.dat (.int (ds.countP fun z => PyData.eqv z d : Nat)))) : MtS K W (rCntD K) s [.dat d] P := fun F H x xs k hx hxs Q q => by
  cases hxs with
  | cons h1 h2 =>
    cases h2
    have hd := hs.dp k hx
    obtain ⟨a, vs, rfl, g1, g2⟩ := hs.get k hx
    exact ⟨a, _, d, ds, rfl, rfl, hd, (dp_mono k.sub h1).old, sl, sd, q _ F H (.dat (.int _)) k (Step.refl k) (.int _) p⟩
end
end DL

namespace DL
open PySem L2 RZ PySem.Spec PyProof.Rows
/-! ### a def that may raise, called by keywords -/
structure FnXK (Pg : Program) (w : World) (K : PySem.W.Frag) (mg : Str → Option Value) (base : Heap) (x : Str) (k : Nat) (ps : List Str) (sp : Sp) (n : Nat) (ks : List Str) (gV : List V → List V → List V) : Prop where
  ex : ∃ f fd g, FnGX Pg w K mg base k f fd ps sp ∧ mg x = some (.ref f) ∧ PySem.W.keepIn K (.ref f) = true ∧ KBn K fd ps n ks g gV
def tFnXK (n m : Nat) (sp : Sp) (gV : List V → List V → List V) (E : L2.St → XK) (t tk : TA) : TE := fun σ H Q => t σ H fun vs H1 => tk σ H1 fun zs H2 => vs.length = n ∧ zs.length = m ∧ sp (gV vs zs) H2 Q (E σ)
section
variable {X : Cx} {k n : Nat} {f : Addr} {fd : FuncData} {ps ks : List Str} {sp : Sp} {x : Str} {p pos : Pos} {e : Expr} {es : List Expr} {kws : List Keyword} {t tk : TA} {W : WX}
theorem pe_fnXK0 {gV : List V → List V → List V} (C : FnXK X.prog X.w X.K X.mg X.base x k ps sp 0 ks gV) (tk' : Takes X W) (hgd : X.A.guards = some []) (hr : Room k X.A) (hg : Gl X x) (hkw : PK X kws tk)
    (hall : (backToKw pos (keywordEach kws X.env)).all (·.1.isSome) = true := by rfl) (hks : (backToKw pos (keywordEach kws X.env)).filterMap (·.1) = ks := by rfl) (hdb : (x == ("__debug__" : Str)) = false := by decide)
    (hpl : ((backTo pos (starEach [] X.env)).any (·.1) || (backToKw pos (keywordEach kws X.env)).any (·.1.isNone)) = false := by rfl) :
    PE X (.Call (.Name x p) [] kws pos) (tFnXK 0 ks.length sp gV (WE W) tNil tk) := by
  obtain ⟨f, fd, g, F, hm, hk, hb⟩ := C.ex
  refine ⟨fun pins s σ H Q I h => wpAny_Call_Name_kw (ld_glob I hg hm ?_ hdb)⟩
  refine PySem.W.callWith_KW0 (h₀ := X.base) I.ok.mod.kin hk hall (thn (hkw.run pos pins s σ H _ I h) ?_) hpl
  rintro ws s2 ⟨zs, H2, I2, rz, l1, l2, q2⟩
  refine ⟨I2.kIn, ?_⟩
  rw [hks]
  exact run_GX (args := ⟨[], ks.zip ws⟩) F hgd hr I2 (hb.to s2 [] ws I2.kIn rfl (rz.length.symm.trans l2)) (hb.rel .nil rz) q2 (passAt tk' σ)
end
section
variable {K : PySem.W.Frag} {W : Wd} {H0 F0 : Hp} {ρ : Rho} {t tk : TA} {n : Nat} {Pre : Wd → Rho → Prop} {Post : Wd → Rho → Sl → Prop} {PE : Wd → Rho → Addr → List (Str × D) → Prop}
theorem evx_fnK {P : Sl → Prop} {R : Addr → List (Str × D) → Prop} {m l : Nat} {gV : List V → List V → List V} (gS : Rho → Rho → Rho) (hg : ∀ {F H : Hp} {vs zs : List V} {ss rs : Rho}, Paired (VOk K W F H) vs ss → Paired (VOk K W F H) zs rs → vs.length = m → zs.length = l → Paired (VOk K W F H) (gV vs zs) (gS ss rs))
    (h : EvA K W H0 t ρ fun ss => EvA K W H0 tk ρ fun rs => ss.length = m ∧ rs.length = l ∧ (∀ s ∈ gS ss rs, NoLs s) ∧ (gS ss rs).length = n ∧ Pre W (gS ss rs) ∧ (∀ s, Post W (gS ss rs) s → P s) ∧ ∀ C fs, PE W (gS ss rs) C fs → R C fs) :
    EvX K W H0 (fun Wx => tFnXK m l (PmX K n Pre Post PE) gV (WE Wx) t tk) ρ P R := fun σ F H o ho Q Wx q x =>
  h σ F H o ho _ fun vs F1 H1 ss o1 st1 hv k => k σ F1 H1 o1 (ho.step st1) _ fun zs F2 H2 rs o2 st2 hz ⟨l1, l2, hn, hl, hp, k1, k2⟩ => by
    have a1 := (Paired.length hv).trans l1
    have a2 := (Paired.length hz).trans l2
    exact ⟨a1, a2, W, F2, gS ss rs, o2, hg (pvok_step st2 hv) hz a1 a2, hn, hl, hp, fun v F3 H3 s o3 st3 hs p => q v F3 H3 s o3 ((st1.trans o1 st2).trans o2 st3) hs (k1 s p), fun C d fs F3 H3 o3 st3 he p => x C d fs F3 H3 o3 ((st1.trans o1 st2).trans o2 st3) he (k2 C fs p)⟩
end
end DL

namespace DL
open PySem L2 RZ PySem.Spec PyProof.Rows PySem.W
/-! ### d < e of data alike -/
def rLtD (K : PySem.W.Frag) : R2 := fun x y H Q => ∃ d e, L2.Dp K H x d ∧ L2.Dp K H y e ∧ alike d e = true ∧ d ≠ .none ∧ d.depth ≤ 60 ∧ Q (.bl (dataLt d e)) H
theorem opLtD {X : Cx} (hu : X.A.units + 64 < cLine) : OpR X (compareOp .Lt) (rLtD X.K) := by
  intro pins s σ H x y v u Q I rx ry h
  obtain ⟨d, e, hd, he, al, hn, hdp, q⟩ := h
  obtain ⟨as, r1⟩ := Dp.reads I d x v hd rx
  obtain ⟨bs, r2⟩ := Dp.reads I e y u he ry
  exact lt_data r1 r2 al hn (by omega) ⟨.bl _, H, I, rfl, q⟩
section
variable {K : PySem.W.Frag} {W : Wd} {P : Sl → Prop}
theorem ops_ltD {d e : D} (al : alike d e = true) (hn : d ≠ .none) (hd : d.depth ≤ 60) (p : P (.dat (.bool (dataLt d e)))) : OpS K W (rLtD K) (.dat d) (.dat e) P := fun F H x y o hx hy Q q =>
  ⟨d, e, (dp_mono o.sub hx).old, (dp_mono o.sub hy).old, al, hn, hd, q _ F H (.dat (.bool _)) o (Step.refl o) (.bl _) p⟩
end
/-! ### a def that may raise, but doesn't here -/
section
variable {K : PySem.W.Frag} {W : Wd} {H0 F0 : Hp} {ρ : Rho} {P : Sl → Prop} {t tk : TA} {n : Nat} {Pre : Wd → Rho → Prop} {Post : Wd → Rho → Sl → Prop} {PE : Wd → Rho → Addr → List (Str × D) → Prop} {N : Ends2}
theorem ev_fnXN (h : EvA K W H0 t ρ fun ss => (∀ s ∈ ss, NoLs s) ∧ ss.length = n ∧ Pre W ss ∧ (∀ s, Post W ss s → P s) ∧ ∀ C fs, ¬ PE W ss C fs) :
    Ev K W H0 (tCallS (PmX K n Pre Post PE) (WE fun _ _ _ _ => False) t) ρ P := fun σ F H o ho Q q =>
  evx_fn (R := fun _ _ => False) h σ F H o ho Q (fun _ _ _ _ => False) q fun _ _ _ _ _ _ _ _ r => r
/-- try: e / except X as n: suite, n in slot i -/
theorem sx_try_as_drop {tx : WX → TE} {ts : Addr → Value → Option Addr → TS} {c : Value} {Wout : WX} {i : Nat} (R : Addr → List (Str × D) → Prop)
    (hb : EvX K W H0 tx ρ (fun _ => N.nx ρ) R) (hc : ∀ C fs, R C fs → PySem.W.exmOne K (.ref C) c = some true)
    (hs : ∀ C fs, R C fs → ∀ a d vs, Sx K (errW K W d fs vs) H0 F0 (ts a (.ref C) (some d)) (ρ.set i (.rf (.ref a))) { nx := fun ρ' => N.nx (ρ'.set i .un), rt := N.rt, bk := fun ρ' => N.bk (ρ'.set i .un), ct := fun ρ' => N.ct (ρ'.set i .un) }) :
    Sx K W H0 F0 (fun D σ H => tDrop (tx (wAs K c i ts Wout D)) D σ H) ρ N := fun σ F H at_ D nn r b cc =>
  hb σ F H at_.ok at_.ho _ _ (fun v F1 H1 s o1 st1 hv k => nn σ F1 H1 ρ (at_.step o1 st1) st1.fz k) fun C d fs F1 H1 o1 st1 he hr =>
    ⟨true, hc C fs hr, fun _ a ha => by
      obtain ⟨vs, ev⟩ := he.v
      have a1 := at_.step o1 st1
      have a2 : At K W H0 F0 (σ.set i (some (.ref a))) F1 H1 (ρ.set i (.rf (.ref a))) := ⟨a1.ok, a1.st, a1.ho.set (s := .rf (.ref a)) rfl trivial⟩
      have off : ∀ {σ2 F2 H2 ρ2}, At K W H0 F0 σ2 F2 H2 ρ2 → At K W H0 F0 (σ2.set i none) F2 H2 (ρ2.set i .un) := fun x => ⟨x.ok, x.st, x.ho.un⟩
      exact sx_err a2 ev (hs C fs hr a d vs) _ (fun σ2 F2 H2 ρ2 x sm k => nn _ F2 H2 _ (off x) (st1.fz.trans sm) k) r (fun σ2 F2 H2 ρ2 x sm k => b _ F2 H2 _ (off x) (st1.fz.trans sm) k) (fun σ2 F2 H2 ρ2 x sm k => cc _ F2 H2 _ (off x) (st1.fz.trans sm) k), fun z => nomatch z⟩
end
/-! ### sorting by a key -/
section
variable {β : Type}
def ksort (k : β → D) (bs : List β) : List β := bs.mergeSort (dataLe false k)
theorem ksort_perm (k : β → D) (bs : List β) : (ksort k bs).Perm bs := List.mergeSort_perm _ _
theorem srt_ksort (k : β → D) (bs : List β) : srtD false (bs.map k) = (ksort k bs).map k := by
  unfold srtD ksort
  exact (List.map_mergeSort (r := dataLe false k) (s := dataLe false fun d => d) (f := k) (fun a _ b _ => rfl)).symm
theorem le_total (k : β → D) (a b : β) : (dataLe false k a b || dataLe false k b a) = true := by
  rw [dataLe_eq]
  simp only [cond_false]
  cases h : dataLt (k b) (k a) with
  | false => rfl
  | true =>
    cases h2 : dataLt (k a) (k b) with
    | false => simp
    | true =>
      have := lex_trans _ _ _ h h2
      rw [lex_irrefl] at this
      cases this
theorem le_trans (k : β → D) (a b c : β) (h1 : dataLe false k a b = true) (h2 : dataLe false k b c = true) : dataLe false k a c = true := by
  rw [dataLe_eq] at *
  simp only [cond_false, Bool.not_eq_true'] at *
  cases h : dataLt (k c) (k a) with
  | false => rfl
  | true =>
    rcases lex_negTrans _ (keyToks (k b)) _ h with z | z
    · rw [show dataLt (k c) (k b) = true from z] at h2
      cases h2
    · rw [show dataLt (k b) (k a) = true from z] at h1
      cases h1
theorem ksort_le (k : β → D) (bs : List β) : (ksort k bs).Pairwise (fun a b => dataLe false k a b = true) := List.pairwise_mergeSort (le_trans k) (le_total k) bs
theorem ksort_self (k : β → D) {bs : List β} (h : bs.Pairwise fun a b => dataLe false k a b = true) : ksort k bs = bs := List.mergeSort_of_pairwise h
theorem le_anti {k : β → D} (inj : ∀ a b, keyToks (k a) = keyToks (k b) → a = b) {a b : β} (h1 : dataLe false k a b = true) (h2 : dataLe false k b a = true) : a = b := by
  rw [dataLe_eq] at *
  simp only [cond_false, Bool.not_eq_true'] at *
  exact inj _ _ (lex_total _ _ h2 h1)
theorem ksort_eq {k : β → D} (inj : ∀ a b, keyToks (k a) = keyToks (k b) → a = b) {as bs : List β} (h : as.Perm bs) : ksort k as = ksort k bs :=
  List.Perm.eq_of_pairwise (fun a b _ _ => le_anti inj) (ksort_le k as) (ksort_le k bs) ((ksort_perm k as).trans (h.trans (ksort_perm k bs).symm))
end
end DL

namespace DL
open PySem L2 RZ PySem.Spec PyProof.Rows
/-! ### sorted(set(t)), t a tuple of ints -/
def rSetI (w : World) (K : PySem.W.Frag) : List V → Hp → VK → Prop := fun vs H Q => ∃ (p : Addr) (ns : List Int), vs = [.ref p] ∧ SqT K H p (ns.map V.int) ∧ ns.length < 60 ∧
  ∀ (a : Addr) (c : Nat), H a = none → c ≤ ns.length → Q (.ref a) (upd H a (SetO w a (fun j => decide (j ∈ ns)) c))
theorem cr_setI {X : Cx} (hc : X.calm = true) : CallR X (.type "set") (rSetI X.w X.K) := by
  intro pins s σ H vs us Q I r h
  obtain ⟨p0, ns, rfl, hq, hl, q⟩ := h
  rw [Vals.ref1 r]
  obtain ⟨its, rv, pt, _⟩ := I.tuple hq
  refine call_set_tupI ns (I.ok.hd hc) (show s.heap.IsTuple p0 its.toArray from pt) (ints_of_vals rv) (by unfold scanBound; omega) fun h2 tk c R1 hcn keep => ?_
  have fresh : H s.heap.objs.size = none := I.hok.fresh (Nat.le_refl _)
  refine ⟨.ref s.heap.objs.size, _, I.call (t' := tk) (ch := []) (Un.laid keep (Nat.le_refl _) fresh) (I.hok.laid keep (Nat.le_refl _) (setO_new R1)) I.bare (fun _ z => nomatch z), rfl, q _ c fresh hcn⟩
section
variable {K : PySem.W.Frag} {W : Wd} {H0 : Hp} {ρ : Rho} {P : Sl → Prop} {t : TA} {w : World}
theorem ints_dpa {F : Hp} : ∀ ns : List Int, DpAll K F (ns.map V.int) (ns.map .int)
  | [] => .nil
  | n :: ns => .cons (.int n) (ints_dpa ns)
theorem ev_srtset (h : EvA K W H0 t ρ fun ss => ∃ ns : List Int, ss = [.dat (.tuple (ns.map .int))] ∧ ns.length < 60 ∧ ∀ out : List Int, out.Pairwise (· < ·) → (∀ k, k ∈ out ↔ k ∈ ns) → P (.dat (.list (out.map .int)))) :
    Ev K W H0 (tCB (rSortedSet w) (tCons (tCB (rSetI w K) t) tNil)) ρ P := fun σ F H o ho Q q =>
  h σ F H o ho _ fun vs F1 H1 ss o1 st1 hv ⟨ns, e, hn, k⟩ => by
    subst e
    cases hv with
    | cons h1 hx =>
      cases hx
      obtain ⟨p, xs, rfl, g1, g2⟩ := dp_tup h1
      rw [dpa_ints' g2] at g1
      refine ⟨p, ns, rfl, SqT.of (o1.sub _ _ g1), hn, fun a c ha hc => ?_⟩
      obtain ⟨o2, st2⟩ := o1.own (u := SetO w a (fun j => decide (j ∈ ns)) c) ha
      refine ⟨a, _, c, rfl, upd_same, by omega, fun out p2 hpw hmem hlen hp => ?_⟩
      obtain ⟨o3, st3⟩ := o2.new (u := .lst (out.map V.int)) hp
      exact q (.ref p2) _ _ (.dat (.list (out.map .int))) o3 ((st1.trans o1 st2).trans o2 st3) (.lst upd_same (ints_dpa out)) (k out hpw fun j => by rw [hmem j, decide_eq_true_eq])
end
end DL

namespace DL
open PySem L2 RZ PySem.Spec PyProof.Rows PySem.W
/-! ### max(t, default=d), t a tuple of ints -/
def rMaxDef (K : PySem.W.Frag) : List V → List V → Hp → VK → Prop := fun vs zs H Q => ∃ (p : Addr) (ns : List Int) (d : Int), vs = [.ref p] ∧ zs = [.int d] ∧ SqT K H p (ns.map V.int) ∧
  (ns = [] → Q (.int d) H) ∧ ∀ m, m ∈ ns → (∀ y ∈ ns, y ≤ m) → Q (.int m) H
theorem int_reads {h : Heap} : ∀ {vs : List Value} {ns : List Int}, IntsAre vs ns → ReadsAll h vs (ns.map PyData.int) []
  | _, _, .nil => .nil
  | _, _, .cons _ _ t => .cons (.int _ _) (int_reads t)
theorem ints_alike (ns : List Int) : AlikeAll (ns.map PyData.int) := ⟨fun x hx y hy => by
    obtain ⟨a, _, rfl⟩ := List.mem_map.mp hx
    obtain ⟨b, _, rfl⟩ := List.mem_map.mp hy
    rfl, fun x hx => by
    obtain ⟨a, _, rfl⟩ := List.mem_map.mp hx
    exact fun z => nomatch z⟩
theorem fold_max : ∀ (ns : List Int) (n : Int), ns.foldl max n ∈ n :: ns ∧ ∀ y ∈ n :: ns, y ≤ ns.foldl max n
  | [], n => ⟨List.mem_cons_self, fun y m => by rw [List.mem_singleton.mp m]; exact Int.le_refl _⟩
  | a :: ns, n => by
    obtain ⟨h1, h2⟩ := fold_max ns (max n a)
    show (ns.foldl max (max n a)) ∈ n :: a :: ns ∧ _
    refine ⟨?_, fun y m => ?_⟩
    · rcases List.mem_cons.mp h1 with e | m
      · rw [e]
        rcases Int.le_total n a with h | h
        · rw [Int.max_eq_right h]
          simp
        · rw [Int.max_eq_left h]
          simp
      · simp [m]
    · rcases List.mem_cons.mp m with rfl | m
      · exact Int.le_trans (Int.le_max_left _ _) (h2 _ List.mem_cons_self)
      · rcases List.mem_cons.mp m with rfl | m
        · exact Int.le_trans (Int.le_max_right _ _) (h2 _ List.mem_cons_self)
        · exact h2 y (List.mem_cons_of_mem _ m)
theorem crk_maxD {X : Cx} (hc : X.calm = true) (hu : X.A.units + 64 < cLine) : CallRK X (.builtin "max") [Str.ofString "default"] (rMaxDef X.K) := by
  intro pins s σ H xs zs us ws Q I r rz h
  obtain ⟨p, ns, d, rfl, rfl, hq, h0, h1⟩ := h
  obtain rfl := Vals.ref1 r
  obtain ⟨w1, rfl, t1, e1⟩ := vals1 rz
  subst e1
  obtain ⟨its, rv, pt, _⟩ := I.tuple hq
  have hi : IntsAre its.toArray.toList ns := ints_of_vals rv
  have dep : PyData.depthAll (ns.map PyData.int) = 0 := depth_ints ns
  refine max_tuple_default (vs := its.toArray) (xs := ns.map PyData.int) (I.ok.hd hc) (show s.heap.IsTuple p its.toArray from pt) (int_reads hi) (ints_alike ns) (by rw [dep]; omega) (fun e h2 tk k => ?_) fun y ys i v h2 tk bs e hv rd k => ?_
  · obtain rfl : ns = [] := List.map_eq_nil_iff.mp e
    exact ⟨.int d, H, I.kept (t' := tk) k, ⟨_, rfl⟩, h0 rfl⟩
  · cases ns with
    | nil => cases e
    | cons n ns =>
      injection e with e1 e2
      subst e1 e2
      rw [maxD_ints] at rd
      cases rd
      obtain ⟨f1, f2⟩ := fold_max ns n
      exact ⟨.int _, H, I.kept (t' := tk) k, ⟨_, rfl⟩, h1 _ f1 f2⟩
section
variable {K : PySem.W.Frag} {W : Wd} {H0 F0 : Hp} {ρ : Rho} {P : Sl → Prop} {t tk : TA} {N : Ends2}
theorem ev_maxD (h : EvA K W H0 t ρ fun ss => EvA K W H0 tk ρ fun rs => ∃ (ns : List Int) (d : Int), ss = [.dat (.tuple (ns.map .int))] ∧ rs = [.dat (.int d)] ∧ (ns = [] → P (.dat (.int d))) ∧ ∀ m, m ∈ ns → (∀ y ∈ ns, y ≤ m) → P (.dat (.int m))) : Ev K W H0 (tCKw (rMaxDef K) t tk) ρ P := fun σ F H o ho Q q =>
  h σ F H o ho _ fun vs F1 H1 ss o1 st1 hv k => k σ F1 H1 o1 (ho.step st1) _ fun zs F2 H2 rs o2 st2 hz ⟨ns, d, e1, e2, p0, p1⟩ => by
    subst e1 e2
    cases hv with
    | cons h1 hn =>
      cases hn
      cases hz with
      | cons g1 gn =>
        cases gn
        obtain ⟨a, xs, rfl, a1, a2⟩ := dp_tup (h1.step st2)
        rw [dpa_ints' a2] at a1
        rw [vok_int g1]
        exact ⟨a, ns, d, rfl, rfl, SqT.of (o2.sub _ _ a1), fun e => q (.int d) F2 H2 (.dat (.int d)) o2 (st1.trans o1 st2) (.int _) (p0 e), fun m hm hy => q (.int m) F2 H2 (.dat (.int m)) o2 (st1.trans o1 st2) (.int _) (p1 m hm hy)⟩
/-- f(..) as a statement, f may raise -/
theorem sx_callX {tx : WX → TE} {E : XK} (R : Addr → List (Str × D) → Prop) (h : EvX K W H0 tx ρ (fun _ => N.nx ρ) R)
    (hR : ∀ C fs, R C fs → ∀ dd F' H', Ok W F' H' → Step W F0 H0 F' H' → Er K W F' H' dd fs → E (.ref C) (some dd) H') :
    Sx K W H0 F0 (fun D σ H => tDrop (tx (fun cls d _ H' => E cls d H')) D σ H) ρ N := fun σ F H at_ D nn r b cc =>
  h σ F H at_.ok at_.ho _ _ (fun v F1 H1 s o1 st1 hv k => nn σ F1 H1 ρ (at_.step o1 st1) st1.fz k) fun C d fs F1 H1 o1 st1 he hr => hR C fs hr d F1 H1 o1 (at_.st.trans at_.ok st1) he
end
/-! ### weaker promises -/
section
variable {Pg : Program} {w : World} {K : PySem.W.Frag} {mg : Str → Option Value} {base : Heap}
theorem FnG.weak {k : Nat} {f : Addr} {fd : FuncData} {ps : List Str} {sp sp' : Sp} (F : FnG Pg w K mg base k f fd ps sp) (h : ∀ vs H Q E, sp' vs H Q E → sp vs H Q E) : FnG Pg w K mg base k f fd ps sp' :=
  ⟨fun vs H Q E z => F.len vs H Q E (h vs H Q E z), fun A ou s H ar us vs Q g r en b v z => F.run A ou s H ar us vs Q g r en b v (h vs H Q E0 z)⟩
theorem Fn.weak {x : Str} {k : Nat} {ps : List Str} {sp sp' : Sp} (F : Fn Pg w K mg base x k ps sp) (h : ∀ vs H Q E, sp' vs H Q E → sp vs H Q E) : Fn Pg w K mg base x k ps sp' := by
  obtain ⟨f, fd, g, a, b, c⟩ := F.ex
  exact ⟨f, fd, g.weak h, a, b, c⟩
end
end DL

namespace DL
open PySem L2 RZ PySem.Spec PyProof.Rows PySem.W
/-! ### () * k -/
theorem tuple_mul0 (l : Addr) (n : Nat) (dd : Option Addr) (sl : Array (Option Value)) (x : Int) (u : Tok) (c0 : (decide (x < -(2 ^ 63)) || decide (x ≥ 2 ^ 63)) = false) :
    Meets (Builtin.«tuple.__mul__» ⟨[.ref l, .int x u], []⟩) (fun _ R s => s.heap.get? l = some { cls := .type "tuple", dict := dd, data := .seq #[] n, slots := sl } ∧ R (.ok (.ret (.ref l))) s) :=
  .of_wp fun prog w A R s h => by
    obtain ⟨hp, g, d, tk, os⟩ := s
    obtain ⟨hl, h⟩ := h
    have f1 := AutoSeq1.idx_int
    have c1 : ((#[] : Array Value).isEmpty || x == 1) = true := rfl
    wp_walk using wpAny_loadPart' hl
    repeat (first
      | (refine wpAny_ite_false (decide_eq_false (by rw [c0]; exact Bool.false_ne_true)) ?_; wp_walk using wpAny_loadPart' hl)
      | (refine wpAny_ite_true (by rfl) ?_; wp_walk using wpAny_loadPart' hl))
    exact ⟨_, rfl, h⟩
def rRepE (K : PySem.W.Frag) : R2 := fun x y H Q => ∃ l k, x = .ref l ∧ y = .int k ∧ SqT K H l [] ∧ 2 ≤ k ∧ k ≤ 1000 ∧ Q (.ref l) H
section
variable {X : Cx}
theorem op_repE : OpR X (binaryOp .Mult) (rRepE X.K) := by
  intro pins s σ H x y v u Q I rx ry h
  obtain ⟨l, k, rfl, rfl, hT, h1, h2, q⟩ := h
  cases rx
  obtain ⟨t, rfl⟩ := ry
  obtain ⟨its, r, ⟨⟨cls, dd, data, sl⟩, ho, hc, n, hd⟩, hs⟩ := I.tuple hT
  simp only at hc hd
  subst hc hd
  have hle : its.length = 0 := r.length.symm
  obtain rfl : its = [] := List.eq_nil_of_length_eq_zero hle
  have c0 : (decide (k < -(2 ^ 63)) || decide (k ≥ 2 ^ 63)) = false := by
    rw [decide_eq_false (by omega), decide_eq_false (by omega)] <;> rfl
  refine wpAny_binaryOp_repeat_ref (T := "tuple") (U := "int") (by decide) ⟨_, ho, rfl⟩ (fun s' => typeIs_int s' k t) noFill_tuple_mul F.fills_int_mul F.slot_int_rmul repeat_tuple F.slot_int_index.lookup
    (call_meets F.slot_int_rmul (typeIs_int s k t) F.entry_int_rmul (F.args_int_rmul_2 _ _) (int_rmul_tuple k t l #[] n dd sl)
      ⟨ho, rfl, ⟨_, ho, rfl⟩, call_meets F.slot_tuple_mul ⟨_, ho, rfl⟩ F.entry_tuple_mul (F.args_tuple_mul_2 _ _) (tuple_mul0 l n dd sl k t c0) ⟨ho, ?_⟩⟩)
  exact ⟨.ref l, H, I, rfl, q⟩
end
def rMul5 (K : PySem.W.Frag) : R2 := fun x y H Q => rMul2 K x y H Q ∨ rRepE K x y H Q
theorem opMul5 {X : Cx} : OpR X (binaryOp .Mult) (rMul5 X.K) := opMul.or op_repE
section
variable {K : PySem.W.Frag} {W : Wd} {P : Sl → Prop}
theorem ops_mul5 {s u : Sl} (h : OpS K W (rMul2 K) s u P) : OpS K W (rMul5 K) s u P := OpS.inl h
theorem ops_rep5 {ds : List D} {k : Int} (h1 : 2 ≤ k) (h2 : k ≤ 1000) (h3 : ds.length ≤ 1000) (p : P (.dat (.tuple (List.replicate k.toNat ds).flatten))) : OpS K W (rMul5 K) (.dat (.tuple ds)) (.dat (.int k)) P := by
  by_cases e : ds = []
  · subst e
    have e2 : (List.replicate k.toNat ([] : List D)).flatten = [] := by simp
    rw [e2] at p
    refine OpS.inr fun F H x y o hx hy Q q => ?_
    obtain ⟨a, xs, rfl, a1, a2⟩ := dp_tup hx
    rw [vok_int hy]
    have : xs = [] := List.eq_nil_of_length_eq_zero (by rw [dpa_len a2]; rfl)
    subst this
    exact ⟨a, k, rfl, rfl, SqT.of (o.sub _ _ a1), h1, h2, q _ F H (.dat (.tuple [])) o (Step.refl o) hx p⟩
  · exact OpS.inl (ops_rep e h1 h2 h3 p)
end
end DL

namespace DL
open PySem L2 RZ PySem.Spec PyProof.Rows PySem.W
/-! ### t * 1 -/
theorem tuple_mul1 (l : Addr) (items : Array Value) (n : Nat) (dd : Option Addr) (sl : Array (Option Value)) (x : Int) (u : Tok) (hx : (items.isEmpty || x == 1) = true) (c0 : (decide (x < -(2 ^ 63)) || decide (x ≥ 2 ^ 63)) = false) :
    Meets (Builtin.«tuple.__mul__» ⟨[.ref l, .int x u], []⟩) (fun _ R s => s.heap.get? l = some { cls := .type "tuple", dict := dd, data := .seq items n, slots := sl } ∧ R (.ok (.ret (.ref l))) s) :=
  .of_wp fun prog w A R s h => by
    obtain ⟨hp, g, d, tk, os⟩ := s
    obtain ⟨hl, h⟩ := h
    have f1 := AutoSeq1.idx_int
    have c1 : (items.isEmpty || x == 1) = true := hx
    wp_walk using wpAny_loadPart' hl
    repeat (first
      | (refine wpAny_ite_false (decide_eq_false (by rw [c0]; exact Bool.false_ne_true)) ?_; wp_walk using wpAny_loadPart' hl)
      | (refine wpAny_ite_true (by first | exact c1 | rfl) ?_; wp_walk using wpAny_loadPart' hl))
    exact ⟨_, rfl, h⟩
def rRep1 (K : PySem.W.Frag) : R2 := fun x y H Q => ∃ l xs, x = .ref l ∧ y = .int 1 ∧ SqT K H l xs ∧ Q (.ref l) H
section
variable {X : Cx}
theorem op_rep1 : OpR X (binaryOp .Mult) (rRep1 X.K) := by
  intro pins s σ H x y v u Q I rx ry h
  obtain ⟨l, xs, rfl, rfl, hT, q⟩ := h
  cases rx
  obtain ⟨t, rfl⟩ := ry
  obtain ⟨its, r, ⟨⟨cls, dd, data, sl⟩, ho, hc, n, hd⟩, hs⟩ := I.tuple hT
  simp only at hc hd
  subst hc hd
  have c0 : (decide ((1 : Int) < -(2 ^ 63)) || decide ((1 : Int) ≥ 2 ^ 63)) = false := by decide
  refine wpAny_binaryOp_repeat_ref (T := "tuple") (U := "int") (by decide) ⟨_, ho, rfl⟩ (fun s' => typeIs_int s' 1 t) noFill_tuple_mul F.fills_int_mul F.slot_int_rmul repeat_tuple F.slot_int_index.lookup
    (call_meets F.slot_int_rmul (typeIs_int s 1 t) F.entry_int_rmul (F.args_int_rmul_2 _ _) (int_rmul_tuple 1 t l its.toArray n dd sl)
      ⟨ho, rfl, ⟨_, ho, rfl⟩, call_meets F.slot_tuple_mul ⟨_, ho, rfl⟩ F.entry_tuple_mul (F.args_tuple_mul_2 _ _) (tuple_mul1 l its.toArray n dd sl 1 t (Bool.or_true _) c0) ⟨ho, ?_⟩⟩)
  exact ⟨.ref l, H, I, rfl, q⟩
end
def rMul6 (K : PySem.W.Frag) : R2 := fun x y H Q => rMul5 K x y H Q ∨ rRep1 K x y H Q
theorem opMul6 {X : Cx} : OpR X (binaryOp .Mult) (rMul6 X.K) := opMul5.or op_rep1
section
variable {K : PySem.W.Frag} {W : Wd} {P : Sl → Prop}
/-- a tuple times a number from 1 on -/
theorem ops_rep6 {ds : List D} {k : Int} (h1 : 1 ≤ k) (h2 : k ≤ 1000) (h3 : ds.length ≤ 1000) (p : P (.dat (.tuple (List.replicate k.toNat ds).flatten))) : OpS K W (rMul6 K) (.dat (.tuple ds)) (.dat (.int k)) P := by
  by_cases e : k = 1
  · subst e
    have e2 : (List.replicate (1 : Int).toNat ds).flatten = ds := by simp
    rw [e2] at p
    refine OpS.inr fun F H x y o hx hy Q q => ?_
    obtain ⟨a, xs, rfl, a1, a2⟩ := dp_tup hx
    rw [vok_int hy]
    exact ⟨a, xs, rfl, rfl, SqT.of (o.sub _ _ a1), q _ F H (.dat (.tuple ds)) o (Step.refl o) hx p⟩
  · exact OpS.inl (ops_rep5 (by omega) h2 h3 p)
end
end DL

namespace DL
open PySem L2 RZ PySem.Spec PyProof.Rows PySem.W
/-! ### enumerate of a list; is not of bools -/
theorem walk_enumL {K : PySem.W.Frag} {a : Addr} {xs : List V} {n : Nat} (hn : n = xs.length) : Walk (Ite K a) n (fun H => SqL K H a xs) (YPair (fun i => some (.int (i : Nat))) (fun i => xs[i]?)) := by
  subst hn
  exact ⟨fun i _ hi q => ⟨xs, xs[i], q, by simp [hi]⟩, fun _ q => ⟨xs, q, Nat.le_refl _⟩, fun i H v H' _ q y => by
    obtain ⟨T, x, h1, h2, h3, h4⟩ := y
    exact ⟨T, .int (i : Nat), x, h1, h2, h3, rfl, h4 xs q⟩⟩
section
variable {K : PySem.W.Frag} {W : Wd} {H0 F0 : Hp} {ρ : Rho} {P : Sl → Prop}
theorem evi_enumL {ta : TA} {PN : List D → Prop} (h : EvA K W H0 ta ρ fun ss => ∃ ds, ss = [.dat (.list ds)] ∧ PN (enumD ds)) : EvI K W H0 (iEnum K ta) ρ PN := fun σ F H o ho R q =>
  h σ F H o ho _ fun vs F' H' ss o' st hv ⟨ds, e, p⟩ => by
    subst e
    cases hv with
    | cons e1 e2 =>
      cases e2
      obtain ⟨a, xs, rfl, h1, h2⟩ := dp_lst e1
      refine ⟨a, xs, rfl, SqL.of (o'.sub _ _ h1), q _ F' H' (enumD ds) o' st ⟨_, _, walk_enumL (K := K) (a := a) (xs := xs) (by rw [enumD_len, dpa_len h2]), fun F2 H2 o2 st2 => SqL.of ((st2.trans o2.sub) _ _ h1), fun i x F2 H2 H3 hi o2 st2 y => ?_⟩ p⟩
      obtain ⟨T, u, w, rfl, hT, rfl, hu, hw⟩ := y
      obtain rfl := Option.some.inj hu
      obtain ⟨d, d1, d2⟩ := dpa_get h2 hw
      obtain ⟨o3, st3⟩ := o2.new (u := .tup [.int (i : Nat), w]) hT
      exact ⟨_, .tuple [.int (i : Nat), d], o3, st3, enumD_get d1, .tup upd_same (.cons (.int _) (.cons (dp_mono (st2.trans st3.fz) d2) .nil))⟩
theorem ops_notB {a b : Bool} (p : P (.dat (.bool (!decide (a = b))))) : OpS K W rNotB (.dat (.bool a)) (.dat (.bool b)) P := fun F H x y o hx hy Q q =>
  ⟨a, b, vok_bool hx, vok_bool hy, q _ F H (.dat (.bool _)) o (Step.refl o) (.bl _) p⟩
end
end DL

namespace K19
open PySem L2 RZ DL
/-! the walk by data -/
local macro_rules | `(tactic| walk_at "dl") => `(tactic| first
  | with_reducible first
    | refine sx_seq ?_ | refine sx_if ?_ | refine sx_next ?_
    | refine et_not ?_ | refine et_B ?_ | refine et_test ?_ | refine et_and ?_ | refine et_or ?_ | refine et_yes ?_
    | refine ev_and ?_ | refine ev_or ?_ | refine ev_not ?_ | refine ev_if ?_ | refine ev_chain ?_
    | refine ev_int ?_ | refine ev_bl ?_ | refine ev_str ?_ | refine ev_non ?_ | refine ev_c ?_
    | refine ev_op ?_ | refine ev_un ?_ | refine ev_cb ?_ | refine ev_fn1 ?_ | refine ev_fn2 ?_ | refine ev_sl ?_ | refine eo_none ?_ | refine eo_some ?_ | refine ev_tup ?_
    | refine ea_cons ?_ | refine ea_nil ?_
    | refine ops_ge ?_ | refine ops_le ?_ | refine ops_gt ?_ | refine ops_lt ?_ | refine ops_leS ?_ | refine ops_ltS ?_ | refine ops_add_int ?_ | refine ops_sub ?_ | refine ops_isN ?_ | refine ops_isNot ?_ | refine ops_eq_int ?_ | refine ops_eqS ?_ | refine ops_neS ?_
    | refine cas_len_tup ?_ | refine cas_isi_int ?_ | refine cas_isi_bool ?_ | refine cas_isi_str ?_ | refine cas_isi_tup ?_ | refine cas_isi_lst ?_
    | refine iteT ?_ | refine iteF ?_ | refine and_nols ?_
  | ((with_reducible refine ev_varx ?_); refine ⟨_, rfl, ?_⟩)
  | ((with_reducible refine ops_ix_tupx ?_); first | refine ⟨_, rfl, ?_⟩ | refine ⟨_, atI_nat (j := 0) rfl, ?_⟩ | refine ⟨_, atI_nat (j := 1) rfl, ?_⟩ | refine ⟨_, atI_nat (j := 2) rfl, ?_⟩ | refine ⟨_, atI_nat (j := 3) rfl, ?_⟩ | refine ⟨_, atI_nat (j := 4) rfl, ?_⟩ | refine ⟨_, atI_nat (j := 5) rfl, ?_⟩ | refine ⟨_, atI_nat (j := 6) rfl, ?_⟩)
  | ((with_reducible refine sz_and ?_ ?_); exact rfl)
  | ((with_reducible refine ev_ownx ?_); refine ⟨_, rfl, ?_⟩)
  | ((with_reducible refine ev_refx ?_); refine ⟨_, rfl, ?_⟩)
  | (with_reducible refine sxn_seq ?_) | (with_reducible refine uns_neg ?_) | (with_reducible refine ev_frz (evn_lst ?_)) | (with_reducible refine sls_tup ?_) | (refine ev_revT ?_)
  | ((refine sx_extx ?_); refine ⟨_, rfl, ?_⟩) | ((with_reducible refine ops_add_tup ?_ ?_); exact le_line rfl) | (with_reducible refine cas_listT ?_)
  | ((with_reducible refine ifT ?_ ?_); exact rfl) | ((with_reducible refine ifF ?_ ?_); exact rfl))
local macro_rules | `(tactic| walk_at "go") => `(tactic| repeat (first | walk_at "dl" | with_reducible refine ⟨_, rfl, ?_⟩ | with_reducible refine ⟨_, _, rfl, ?_⟩))
def top (i : Nat) : Stmt := PySem.Challenge.pw_handsmade_k19_whole_no_less_an_order.main.body.getD i (.Pass ⟨0, 0, 0, 0⟩)
abbrev s_is_number : Stmt := top 5
theorem sc_is_number : FnScope ["thing"] ["thing"] (defScope s_is_number) := ⟨rfl, rfl, rfl, by decide +kernel, rfl, by decide +kernel, by decide +kernel⟩
abbrev s_is_word : Stmt := top 6
theorem sc_is_word : FnScope ["thing", "sign"] ["thing"] (defScope s_is_word) := ⟨rfl, rfl, rfl, by decide +kernel, rfl, by decide +kernel, by decide +kernel⟩
abbrev s_is_tuple_of : Stmt := top 7
theorem sc_is_tuple_of : FnScope ["thing", "many"] ["thing", "many"] (defScope s_is_tuple_of) := ⟨rfl, rfl, rfl, by decide +kernel, rfl, by decide +kernel, by decide +kernel⟩
abbrev s_is_lights : Stmt := top 8
theorem sc_is_lights : FnScope ["thing", "light", "one", "other"] ["thing"] (defScope s_is_lights) := ⟨rfl, rfl, rfl, by decide +kernel, rfl, by decide +kernel, by decide +kernel⟩
abbrev s_bunch_covers : Stmt := top 10
theorem sc_bunch_covers : FnScope ["one", "other", "light", "less"] ["one", "other"] (defScope s_bunch_covers) := ⟨rfl, rfl, rfl, by decide +kernel, rfl, by decide +kernel, by decide +kernel⟩
abbrev s_kind_called : Stmt := top 12
theorem sc_kind_called : FnScope ["works", "name", "kind"] ["works", "name"] (defScope s_kind_called) := ⟨rfl, rfl, rfl, by decide +kernel, rfl, by decide +kernel, by decide +kernel⟩
abbrev s_place_called : Stmt := top 13
theorem sc_place_called : FnScope ["works", "name", "k", "kind"] ["works", "name"] (defScope s_place_called) := ⟨rfl, rfl, rfl, by decide +kernel, rfl, by decide +kernel, by decide +kernel⟩
abbrev s_terms_of : Stmt := top 14
theorem sc_terms_of : FnScope ["works", "thing", "_", "copying", "agreeing", "bounds"] ["works", "thing"] (defScope s_terms_of) := ⟨rfl, rfl, rfl, by decide +kernel, rfl, by decide +kernel, by decide +kernel⟩
abbrev s_are_numbers : Stmt := top 16
theorem sc_are_numbers : FnScope ["thing", "part"] ["thing"] (defScope s_are_numbers) := ⟨rfl, rfl, rfl, by decide +kernel, rfl, by decide +kernel, by decide +kernel⟩
abbrev s_is_made_thing : Stmt := top 17
theorem sc_is_made_thing : FnScope ["thing"] ["thing"] (defScope s_is_made_thing) := ⟨rfl, rfl, rfl, by decide +kernel, rfl, by decide +kernel, by decide +kernel⟩
abbrev s_is_making : Stmt := top 18
theorem sc_is_making : FnScope ["thing"] ["thing"] (defScope s_is_making) := ⟨rfl, rfl, rfl, by decide +kernel, rfl, by decide +kernel, by decide +kernel⟩
abbrev s_is_stand : Stmt := top 19
theorem sc_is_stand : FnScope ["thing", "uses", "leaves", "store", "makings", "phase", "rest", "lights", "making"] ["thing"] (defScope s_is_stand) := ⟨rfl, rfl, rfl, by decide +kernel, rfl, by decide +kernel, by decide +kernel⟩
abbrev s_look_at_uses : Stmt := top 20
theorem sc_look_at_uses : FnScope ["works", "uses", "k", "many"] ["works", "uses"] (defScope s_look_at_uses) := ⟨rfl, rfl, rfl, by decide +kernel, rfl, by decide +kernel, by decide +kernel⟩
abbrev s_look_at_leaves : Stmt := top 21
theorem sc_look_at_leaves : FnScope ["works", "leaves", "_", "sheets", "bright", "k", "lights"] ["works", "leaves"] (defScope s_look_at_leaves) := ⟨rfl, rfl, rfl, by decide +kernel, rfl, by decide +kernel, by decide +kernel⟩
abbrev s_is_right_making : Stmt := top 22
theorem sc_is_right_making : FnScope ["works", "making", "thing", "left"] ["works", "making"] (defScope s_is_right_making) := ⟨rfl, rfl, rfl, by decide +kernel, rfl, by decide +kernel, by decide +kernel⟩
abbrev s_look_at_makings : Stmt := top 23
theorem sc_look_at_makings : FnScope ["works", "makings", "j", "making"] ["works", "makings"] (defScope s_look_at_makings) := ⟨rfl, rfl, rfl, by decide +kernel, rfl, by decide +kernel, by decide +kernel⟩
abbrev s_lets_stand : Stmt := top 24
theorem sc_lets_stand : FnScope ["works", "thing", "uses", "leaves", "store", "makings", "phase", "rest"] ["works", "thing"] (defScope s_lets_stand) := ⟨rfl, rfl, rfl, by decide +kernel, rfl, by decide +kernel, by decide +kernel⟩
abbrev s_is_right_stand : Stmt := top 25
theorem sc_is_right_stand : FnScope ["works", "thing"] ["works", "thing"] (defScope s_is_right_stand) := ⟨rfl, rfl, rfl, by decide +kernel, rfl, by decide +kernel, by decide +kernel⟩
abbrev s_making_covers : Stmt := top 27
theorem sc_making_covers : FnScope ["one", "other", "thing", "left", "what", "beats"] ["one", "other"] (defScope s_making_covers) := ⟨rfl, rfl, rfl, by decide +kernel, rfl, by decide +kernel, by decide +kernel⟩
abbrev s_last_to_pair : Stmt := top 28
theorem sc_last_to_pair : FnScope ["makings", "other", "paired", "k"] ["makings", "other", "paired"] (defScope s_last_to_pair) := ⟨rfl, rfl, rfl, by decide +kernel, rfl, by decide +kernel, by decide +kernel⟩
abbrev s_pairing : Stmt := top 29
theorem sc_pairing : FnScope ["stand", "other", "numbers", "making", "k"] ["stand", "other"] (defScope s_pairing) := ⟨rfl, rfl, rfl, by decide +kernel, rfl, by decide +kernel, by decide +kernel⟩
abbrev s_lets_pairing : Stmt := top 30
theorem sc_lets_pairing : FnScope ["stand", "other", "thing", "j", "k"] ["stand", "other", "thing"] (defScope s_lets_pairing) := ⟨rfl, rfl, rfl, by decide +kernel, rfl, by decide +kernel, by decide +kernel⟩
abbrev s_is_no_less : Stmt := top 31
theorem sc_is_no_less : FnScope ["stand", "other", "uses", "leaves", "store", "_", "phase", "rest", "many", "less", "lights"] ["stand", "other"] (defScope s_is_no_less) := ⟨rfl, rfl, rfl, by decide +kernel, rfl, by decide +kernel, by decide +kernel⟩
abbrev s_phase_told : Stmt := top 33
theorem sc_phase_told : FnScope ["works", "phase"] ["works", "phase"] (defScope s_phase_told) := ⟨rfl, rfl, rfl, by decide +kernel, rfl, by decide +kernel, by decide +kernel⟩
abbrev s_void_stand : Stmt := top 34
theorem sc_void_stand : FnScope ["works", "phase", "rest", "many"] ["works", "phase", "rest"] (defScope s_void_stand) := ⟨rfl, rfl, rfl, by decide +kernel, rfl, by decide +kernel, by decide +kernel⟩
abbrev s_full_stand : Stmt := top 35
theorem sc_full_stand : FnScope ["works", "phase", "rest", "many", "uses", "sheets", "bright", "store"] ["works", "phase", "rest"] (defScope s_full_stand) := ⟨rfl, rfl, rfl, by decide +kernel, rfl, by decide +kernel, by decide +kernel⟩
abbrev s__law_feed : Stmt := top 37
theorem sc__law_feed : FnScope ["_law_script"] ["_law_script"] (defScope s__law_feed) := ⟨rfl, rfl, rfl, by decide +kernel, rfl, by decide +kernel, by decide +kernel⟩
abbrev s__law_draw : Stmt := top 38
theorem sc__law_draw : FnScope ["_law_feed_here", "_law_many", "_law_figure", "_law_place", "_law_cell", "_law_stirred"] ["_law_feed_here", "_law_many"] (defScope s__law_draw) := ⟨rfl, rfl, rfl, by decide +kernel, rfl, by decide +kernel, by decide +kernel⟩
abbrev s__law_any : Stmt := top 39
theorem sc__law_any : FnScope ["_law_feed_here", "_law_some"] ["_law_feed_here", "_law_some"] (defScope s__law_any) := ⟨rfl, rfl, rfl, by decide +kernel, rfl, by decide +kernel, by decide +kernel⟩
abbrev s__law_asks : Stmt := top 40
theorem sc__law_asks : FnScope ["_law_feed_here", "_law_names", "_law_own"] ["_law_feed_here", "_law_names"] (defScope s__law_asks) := ⟨rfl, rfl, rfl, by decide +kernel, rfl, by decide +kernel, by decide +kernel⟩
abbrev s__law_works : Stmt := top 41
theorem sc__law_works : FnScope ["_law_feed_here", "_law_most_kinds", "_law_names", "_law_kinds", "_law_own", "_law_asks_here", "_law_takes", "_law_beats", "_law_gives", "_law_many", "_law_copying", "_law_agreeing", "_law_uses", "_law_sheets", "_law_most", "_law_spring", "_law_foe"] ["_law_feed_here", "_law_most_kinds"] (defScope s__law_works) := ⟨rfl, rfl, rfl, by decide +kernel, rfl, by decide +kernel, by decide +kernel⟩
abbrev s__law_beats_of : Stmt := top 42
theorem sc__law_beats_of : FnScope ["_law_works_here", "_law_thing", "_law_kind"] ["_law_works_here", "_law_thing"] (defScope s__law_beats_of) := ⟨rfl, rfl, rfl, by decide +kernel, rfl, by decide +kernel, by decide +kernel⟩
abbrev s__law_stand : Stmt := top 43
theorem sc__law_stand : FnScope ["_law_feed_here", "_law_works_here", "_law_uses", "_law_sheets", "_law_bright", "_law_store", "_law_held", "_law_leaves", "_law_makings", "_law_kind", "_law_lights", "_law_k", "_law_name", "_law_thing", "_law_stuff", "_law_phase_now", "_law_rest_now"] ["_law_feed_here", "_law_works_here"] (defScope s__law_stand) := ⟨rfl, rfl, rfl, by decide +kernel, rfl, by decide +kernel, by decide +kernel⟩
abbrev s__law_row_covers : Stmt := top 44
theorem sc__law_row_covers : FnScope ["_law_lights", "_law_others", "_law_k", "_law_light"] ["_law_lights", "_law_others"] (defScope s__law_row_covers) := ⟨rfl, rfl, rfl, by decide +kernel, rfl, by decide +kernel, by decide +kernel⟩
abbrev s__law_less : Stmt := top 45
theorem sc__law_less : FnScope ["_law_feed_here", "_law_works_here", "_law_stand_here", "_law_laps", "_law_lap", "_law_uses", "_law_leaves", "_law_store", "_law_makings", "_law_phase_now", "_law_rest_now", "_law_way", "_law_i", "_law_at", "_law_lights", "_law_light", "_law_thing", "_law_left"] ["_law_feed_here", "_law_works_here", "_law_stand_here", "_law_laps"] (defScope s__law_less) := ⟨rfl, rfl, rfl, by decide +kernel, rfl, by decide +kernel, by decide +kernel⟩
abbrev s__law_near : Stmt := top 46
theorem sc__law_near : FnScope ["_law_feed_here", "_law_works_here", "_law_stand_here", "_law_way", "_law_i", "_law_less_here", "_law_uses", "_law_lights", "_law_thing", "_law_left"] ["_law_feed_here", "_law_works_here", "_law_stand_here"] (defScope s__law_near) := ⟨rfl, rfl, rfl, by decide +kernel, rfl, by decide +kernel, by decide +kernel⟩
abbrev s__law_chain : Stmt := top 47
theorem sc__law_chain : FnScope ["_law_feed_here", "_law_works_here", "_law_stand_here", "_law_many", "_law_found", "_law_k"] ["_law_feed_here", "_law_works_here", "_law_stand_here", "_law_many"] (defScope s__law_chain) := ⟨rfl, rfl, rfl, by decide +kernel, rfl, by decide +kernel, by decide +kernel⟩
abbrev s__law_plain : Stmt := top 48
theorem sc__law_plain : FnScope ["_law_one", "_law_other", "_law_k", "_law_many"] ["_law_one", "_law_other"] (defScope s__law_plain) := ⟨rfl, rfl, rfl, by decide +kernel, rfl, by decide +kernel, by decide +kernel⟩
abbrev s__law_is_order : Stmt := top 49
theorem sc__law_is_order : FnScope ["_law_some", "_law_table", "_law_i", "_law_one", "_law_j", "_law_other", "_law_paper", "_law_below", "_law_k"] ["_law_some"] (defScope s__law_is_order) := ⟨rfl, rfl, rfl, by decide +kernel, rfl, by decide +kernel, by decide +kernel⟩
abbrev s_law : Stmt := top 50
theorem sc_law : FnScope ["_law_script", "_law_feed_here", "_law_turn", "_law_works_here", "_law_stand_here", "_law_chain_here", "_law_one", "_law_later", "_law_others", "_law_void", "_law_bare"] ["_law_script"] (defScope s_law) := ⟨rfl, rfl, rfl, by decide +kernel, rfl, by decide +kernel, by decide +kernel⟩
structure Txt (mg : Str → Option Value) : Prop where
  b_all : mg "all" = none
  b_bool : mg "bool" = none
  b_enumerate : mg "enumerate" = none
  b_int : mg "int" = none
  b_isinstance : mg "isinstance" = none
  b_len : mg "len" = none
  b_list : mg "list" = none
  b_max : mg "max" = none
  b_min : mg "min" = none
  b_range : mg "range" = none
  b_reversed : mg "reversed" = none
  b_sorted : mg "sorted" = none
  b_str : mg "str" = none
  b_tuple : mg "tuple" = none
  b_zip : mg "zip" = none

/-! ### stands as data -/
abbrev num (n : Nat) : D := .int (n : Int)
structure Mk where
  nm : Str
  light : Option Nat
  left : Nat
def thingD (m : Mk) : D := match m.light with
  | none => .tuple [.str "tool", .str m.nm]
  | some l => .tuple [.str "leaf", .str m.nm, num l]
def mkD (m : Mk) : D := .tuple [thingD m, num m.left]
structure St where
  us : List Nat
  ls : List (List Nat)
  st : Nat
  ms : List Mk
  ph : Nat
  rs : Nat
abbrev rowD (l : List Nat) : D := .tuple (l.map num)
def stD (s : St) : D := .tuple [rowD s.us, .tuple (s.ls.map rowD), num s.st, .tuple (s.ms.map mkD), num s.ph, num s.rs]
theorem map_inj' {α : Type} {f : α → D} (hf : ∀ a b, f a = f b → a = b) : ∀ {xs ys : List α}, xs.map f = ys.map f → xs = ys
  | [], [], _ => rfl
  | [], _ :: _, h => by cases h
  | _ :: _, [], h => by cases h
  | x :: xs, y :: ys, h => by
    rw [List.map_cons, List.map_cons] at h
    injection h with h1 h2
    rw [hf _ _ h1, map_inj' hf h2]
theorem num_inj (a b : Nat) (h : num a = num b) : a = b := by
  injection h with h
  omega
theorem rowD_inj (a b : List Nat) (h : rowD a = rowD b) : a = b := by
  injection h with h
  exact map_inj' num_inj h
theorem mkD_inj (a b : Mk) (h : mkD a = mkD b) : a = b := by
  obtain ⟨n, l, k⟩ := a
  obtain ⟨n', l', k'⟩ := b
  unfold mkD thingD at h
  injection h with h
  injection h with h1 h2
  injection h2 with h2 _
  have e := num_inj _ _ h2
  simp only at e
  subst e
  cases l <;> cases l' <;> simp_all <;> omega
theorem stD_inj (a b : St) (h : stD a = stD b) : a = b := by
  obtain ⟨u, l, s, m, p, r⟩ := a
  obtain ⟨u', l', s', m', p', r'⟩ := b
  unfold stD at h
  injection h with h
  injection h with h1 h
  injection h with h2 h
  injection h with h3 h
  injection h with h4 h
  injection h with h5 h
  injection h with h6 _
  have e1 := rowD_inj _ _ h1
  injection h2 with h2
  have e2 := map_inj' rowD_inj h2
  have e3 := num_inj _ _ h3
  injection h4 with h4
  have e4 := map_inj' mkD_inj h4
  have e5 := num_inj _ _ h5
  have e6 := num_inj _ _ h6
  simp only at e1 e2 e3 e4 e5 e6
  subst e1 e2 e3 e4 e5 e6
  rfl
def fits (x y : Mk) : Bool := decide (x.left = y.left) && (decide (x.nm = y.nm) && match x.light, y.light with
  | none, none => true
  | some a, some b => decide (b ≤ a)
  | _, _ => false)
def geAll (a b : List Nat) : Bool := (a.zip b).all fun p => decide (p.2 ≤ p.1)
def covers (a b : List Nat) : Bool := !decide (a.length < b.length) && geAll a b
/-- the last of ms that fits and isn't taken -/
def lastFit (ms : List Mk) (o : Mk) (ks : List Nat) : Option Nat := ((List.range ms.length).reverse.filter fun k => !ks.contains k && fits (ms.getD k o) o).head?
def greedy (ms : List Mk) : List Mk → List Nat → Bool
  | [], _ => true
  | o :: os, ks => match lastFit ms o ks with
    | none => false
    | some k => greedy ms os (ks ++ [k])
def noLess (a b : St) : Bool := (decide (a.ph = b.ph) && (decide (b.rs ≤ a.rs) && decide (b.st ≤ a.st))) && (geAll a.us b.us && ((a.ls.zip b.ls).all (fun p => covers p.1 p.2) && greedy a.ms b.ms.reverse []))
/-! ### promises by an encoding -/
abbrev PmE (K : PySem.W.Frag) (n : Nat) {α : Type} (enc : α → Rho) (ok : α → Prop) (val : α → D) : Sp := Pm K n (fun _ ss => ∃ a, ss = enc a ∧ ok a) fun _ ss s => ∀ a, ss = enc a → ok a → s = .dat (val a)
section
variable {K : PySem.W.Frag} {W : Wd} {H0 : Hp} {ρ : Rho} {P : Sl → Prop} {t tk : TA} {n : Nat} {α : Type} {enc : α → Rho} {ok : α → Prop} {val : α → D}
theorem ev_fnE (h : EvA K W H0 t ρ fun ss => ∃ a, ss = enc a ∧ (∀ s ∈ enc a, NoLs s) ∧ (enc a).length = n ∧ ok a ∧ P (.dat (val a))) : Ev K W H0 (tFn (PmE K n enc ok val) t) ρ P :=
  ev_fn fun σ F H o ho Q q => h σ F H o ho Q fun vs F' H' ss o' st hv ⟨a, e, hn, hl, hk, hp⟩ => q vs F' H' ss o' st hv (by
    subst e
    exact ⟨hn, hl, ⟨a, rfl, hk⟩, fun s hs => by rw [hs a rfl hk]; exact hp⟩)
theorem bodyE {N : List Str} {ts : TS} {vs : List V} {H : Hp} {Q : VK} {E : XK} (hN : n ≤ N.length) (h : PmE K n enc ok val vs H Q E) (inj : ∀ a a', enc a = enc a' → a = a')
    (b : ∀ (W : Wd) (F : Hp) (a : α), ok a → (enc a).length = n → Sx K W H F ts (enc a ++ List.replicate (N.length - n) .un) { nx := fun _ => val a = .none, rt := fun s => s = .dat (val a) }) : ts { nx := fun _ H' => Q .non H', rt := Q } (L2.start N vs) H :=
  pm_body hN h fun W F ss hl ⟨a, e, hk⟩ => by
    subst e
    have := b W F a hk hl
    rw [hl]
    refine this.mono (fun _ p a' e _ => ?_) (fun s p a' e _ => ?_) (fun _ f => f) fun _ f => f
    · obtain rfl := inj _ _ e
      rw [p]
    · obtain rfl := inj _ _ e
      exact p
end
def encM (p : Mk × Mk) : Rho := [.dat (mkD p.1), .dat (mkD p.2)]
theorem encM_inj (a b : Mk × Mk) (h : encM a = encM b) : a = b := by
  unfold encM at h
  injection h with h1 h2
  injection h2 with h2 _
  injection h1 with h1
  injection h2 with h2
  exact Prod.ext (mkD_inj _ _ h1) (mkD_inj _ _ h2)
def encR (p : List Nat × List Nat) : Rho := [.dat (rowD p.1), .dat (rowD p.2)]
theorem encR_inj (a b : List Nat × List Nat) (h : encR a = encR b) : a = b := by
  unfold encR at h
  injection h with h1 h2
  injection h2 with h2 _
  injection h1 with h1
  injection h2 with h2
  exact Prod.ext (rowD_inj _ _ h1) (rowD_inj _ _ h2)
structure okM (m : Mk) : Prop where
  nm : Bt 8 m.nm
  light : ∀ l, m.light = some l → l ≤ 1000
  left : m.left ≤ 1000
theorem two_sh {a b : Str} (ha : Bt 8 a) (hb : Bt 8 b) : SeqAt.shaped (.tuple [.str a, .str b]) = true :=
  ((bd_tup.mpr (bds_cons ((bd_str (k := 0) (n := 0)).mpr ha) (bds_one (bd_str.mpr hb)))).fine (by decide) (by decide) (by decide)).shaped
theorem bt8 (x : Str) (h : (x.cps.toList.all fun c => decide (c < 128)) = true := by decide +kernel) (h2 : x.length ≤ 8 := by decide +kernel) : Bt 8 x := (bt_lit x h).mono h2
abbrev spM (K : PySem.W.Frag) : Sp := PmE K 2 encM (fun p => okM p.1 ∧ okM p.2) fun p => .bool (fits p.1 p.2)
abbrev spR (K : PySem.W.Frag) : Sp := PmE K 2 encR (fun p => p.1.length ≤ 1000 ∧ p.2.length ≤ 1000) fun p => .bool (covers p.1 p.2)
abbrev CMaking (Pg : Program) (w : World) (K : PySem.W.Frag) (mg : Str → Option Value) (base : Heap) := Fn Pg w K mg base "making_covers" 1 ["one", "other"] (spM K)
abbrev CBunch (Pg : Program) (w : World) (K : PySem.W.Frag) (mg : Str → Option Value) (base : Heap) := Fn Pg w K mg base "bunch_covers" 1 ["one", "other"] (spR K)
theorem beq_dec {x y : Str} : (x == y) = decide (x = y) := by
  by_cases h : x = y
  · subst h
    simp
  · rw [decide_eq_false h]
    exact beq_eq_false_iff_ne.mpr h
theorem nat_dec {a b : Nat} : decide ((a : Int) ≤ (b : Int)) = decide (a ≤ b) := by
  by_cases h : a ≤ b
  · rw [decide_eq_true h, decide_eq_true (by omega)]
  · rw [decide_eq_false h, decide_eq_false (by omega)]
theorem nat_lt {a b : Nat} : decide ((a : Int) < (b : Int)) = decide (a < b) := by
  by_cases h : a < b
  · rw [decide_eq_true h, decide_eq_true (by omega)]
  · rw [decide_eq_false h, decide_eq_false (by omega)]
theorem nat_eq {a b : Nat} : decide ((a : Int) = (b : Int)) = decide (a = b) := by
  by_cases h : a = b
  · rw [decide_eq_true h, decide_eq_true (by omega)]
  · rw [decide_eq_false h, decide_eq_false (by omega)]
theorem eqv_num {a b : Nat} : PyData.eqv (num a) (num b) = decide (a = b) := by
  simp only [PyData.eqv, num]
  by_cases h : a = b
  · subst h; simp
  · rw [decide_eq_false h]
    simp
    omega
end K19

namespace K19
open PySem L2 RZ DL
/-! the walk by data -/
local macro_rules | `(tactic| walk_at "dl") => `(tactic| first
  | with_reducible first
    | refine sx_seq ?_ | refine sx_if ?_ | refine sx_next ?_
    | refine et_not ?_ | refine et_B ?_ | refine et_test ?_ | refine et_and ?_ | refine et_or ?_ | refine et_yes ?_
    | refine ev_and ?_ | refine ev_or ?_ | refine ev_not ?_ | refine ev_if ?_ | refine ev_chain ?_
    | refine ev_int ?_ | refine ev_bl ?_ | refine ev_str ?_ | refine ev_non ?_ | refine ev_c ?_
    | refine ev_op ?_ | refine ev_un ?_ | refine ev_cb ?_ | refine ev_fn1 ?_ | refine ev_fn2 ?_ | refine ev_sl ?_ | refine eo_none ?_ | refine eo_some ?_ | refine ev_tup ?_
    | refine ea_cons ?_ | refine ea_nil ?_
    | refine ops_ge ?_ | refine ops_le ?_ | refine ops_gt ?_ | refine ops_lt ?_ | refine ops_leS ?_ | refine ops_ltS ?_ | refine ops_add_int ?_ | refine ops_sub ?_ | refine ops_isN ?_ | refine ops_isNot ?_ | refine ops_eq_int ?_ | refine ops_eqS ?_ | refine ops_neS ?_
    | refine cas_len_tup ?_ | refine cas_isi_int ?_ | refine cas_isi_bool ?_ | refine cas_isi_str ?_ | refine cas_isi_tup ?_ | refine cas_isi_lst ?_
    | refine iteT ?_ | refine iteF ?_ | refine and_nols ?_
  | ((with_reducible refine ev_varx ?_); refine ⟨_, rfl, ?_⟩)
  | ((with_reducible refine ops_ix_tupx ?_); first | refine ⟨_, rfl, ?_⟩ | refine ⟨_, atI_nat (j := 0) rfl, ?_⟩ | refine ⟨_, atI_nat (j := 1) rfl, ?_⟩ | refine ⟨_, atI_nat (j := 2) rfl, ?_⟩ | refine ⟨_, atI_nat (j := 3) rfl, ?_⟩ | refine ⟨_, atI_nat (j := 4) rfl, ?_⟩ | refine ⟨_, atI_nat (j := 5) rfl, ?_⟩ | refine ⟨_, atI_nat (j := 6) rfl, ?_⟩)
  | ((with_reducible refine sz_and ?_ ?_); exact rfl)
  | ((with_reducible refine ev_ownx ?_); refine ⟨_, rfl, ?_⟩)
  | ((with_reducible refine ev_refx ?_); refine ⟨_, rfl, ?_⟩)
  | (with_reducible refine sxn_seq ?_) | (with_reducible refine uns_neg ?_) | (with_reducible refine ev_frz (evn_lst ?_)) | (with_reducible refine sls_tup ?_) | (refine ev_revT ?_)
  | ((refine sx_extx ?_); refine ⟨_, rfl, ?_⟩) | ((with_reducible refine ops_add_tup ?_ ?_); exact le_line rfl) | (with_reducible refine cas_listT ?_)
  | ((with_reducible refine ifT ?_ ?_); exact rfl) | ((with_reducible refine ifF ?_ ?_); exact rfl))
local macro_rules | `(tactic| walk_at "go") => `(tactic| repeat (first | walk_at "dl" | with_reducible refine ⟨_, rfl, ?_⟩ | with_reducible refine ⟨_, _, rfl, ?_⟩))
/-! ### lights, pairings -/
def gePair : D → D
  | .tuple [.int a, .int b] => .bool (decide (b ≤ a))
  | _ => .none
theorem mem_zipD {xs ys : List D} {d : D} (h : d ∈ zipD xs ys) : ∃ a b, d = .tuple [a, b] ∧ a ∈ xs ∧ b ∈ ys := by
  obtain ⟨⟨a, b⟩, h1, h2⟩ := List.mem_map.mp h
  exact ⟨a, b, h2.symm, (List.of_mem_zip h1).1, (List.of_mem_zip h1).2⟩
theorem zip_nums : ∀ (a b : List Nat), (zipD (a.map num) (b.map num)).map gePair = ((a.zip b).map fun p => decide (p.2 ≤ p.1)).map .bool
  | [], _ => by simp [zipD]
  | _ :: _, [] => by simp [zipD]
  | x :: a, y :: b => by
    have ih := zip_nums a b
    simp only [zipD, List.map_cons, List.zip_cons_cons] at ih ⊢
    rw [ih]
    simp only [gePair, nat_dec]
theorem all_nums (a b : List Nat) : ((a.zip b).map fun p => decide (p.2 ≤ p.1)).all id = geAll a b := by
  rw [List.all_map]
  rfl
/-- what is told of the last one that fits -/
def optD : Option Nat → D
  | none => .none
  | some k => num k
section
variable {W : Wd} {F F1 F' H H' : Hp}
theorem ok_back (o : Ok W F H) (o' : Ok W F' H') (st : Step W F1 H F' H') : Ok W F H' ∧ Step W F H F H' := by
  refine ⟨⟨fun b u e => st.kp b u (fun z => ?_) (o.sub b u e), fun b z => ⟨(o.z b z).1, (o'.z b z).2⟩, W.back _ _ _ _ o.inv o'.inv⟩, ⟨Same.refl _, st.kp, fun b h _ => h⟩⟩
  rw [(o.z b z).1] at e
  cases e
end
def okL (ms : List Mk) (o : Mk) (ks : List Nat) : Prop := (∀ m ∈ ms, okM m) ∧ okM o ∧ ms.length ≤ 100 ∧ ks.length ≤ 100
/-- last_to_pair: the third is a list that its caller may still change -/
def spLast (K : PySem.W.Frag) : Sp := fun vs H Q _ => ∃ (W : Wd) (F : Hp) (x y : V) (p : Addr) (us : List V) (ms : List Mk) (o : Mk) (ks : List Nat), vs = [x, y, .ref p] ∧ Ok W F H ∧ VOk K W F H x (.dat (.tuple (ms.map mkD))) ∧ VOk K W F H y (.dat (mkD o)) ∧ H p = some (.lst us) ∧ F p = none ∧ ¬ W.Z p ∧ DL.DpAll K F us (ks.map num) ∧ okL ms o ks ∧
  ∀ v F' H', Ok W F' H' → Step W (upd F p (.lst us)) H F' H' → VOk K W F' H' v (.dat (optD (lastFit ms o ks))) → Q v H'
abbrev CLast (Pg : Program) (w : World) (K : PySem.W.Frag) (mg : Str → Option Value) (base : Heap) := Fn Pg w K mg base "last_to_pair" 2 ["makings", "other", "paired"] (spLast K)
section
variable {K : PySem.W.Frag} {W : Wd} {H0 : Hp} {ρ : Rho} {P : Sl → Prop} {t : TA}
theorem opt_any {F F' H H' : Hp} {v : V} {x : Option Nat} (h : VOk K W F H v (.dat (optD x))) : VOk K W F' H' v (.dat (optD x)) := by
  cases x with
  | none =>
    obtain rfl := dp_non h
    exact Dp.non
  | some k =>
    obtain rfl := vok_int h
    exact Dp.int _
theorem ev_last (h : EvA K W H0 t ρ fun ss => ∃ (ms : List Mk) (o : Mk) (ks : List Nat), ss = [.dat (.tuple (ms.map mkD)), .dat (mkD o), .ls (ks.map num)] ∧ okL ms o ks ∧ P (.dat (optD (lastFit ms o ks)))) : Ev K W H0 (tFn (spLast K) t) ρ P := fun σ F H o ho Q q =>
  h σ F H o ho _ fun vs F1 H1 ss o1 st1 hv ⟨ms, m, ks, e, hk, p⟩ => by
    subst e
    cases hv with
    | cons h1 hv =>
      cases hv with
      | cons h2 hv =>
        cases hv with
        | cons h3 hv =>
          cases hv
          obtain ⟨a, us, rfl, a1, a2, a3, a4⟩ := h3
          refine ⟨W, F1, _, _, a, us, ms, m, ks, rfl, o1, h1, h2, a1, a2, a3, a4, hk, fun v F' H' o' st hvv => ?_⟩
          obtain ⟨o2, st2⟩ := ok_back o1 o' st
          exact q v F1 H' _ o2 (st1.trans o1 st2) (opt_any hvv) p
end
theorem Sx.here {K : PySem.W.Frag} {W : Wd} {F H : Hp} {ρ : Rho} {ts : TS} {N : Ends2} {σ : L2.St} {D : L2.Ends} (a : At K W H F σ F H ρ) (h : Sx K W H F ts ρ N)
    (n : ∀ σ' F' H' ρ', Ok W F' H' → DL.Step W F H F' H' → N.nx ρ' → D.nx σ' H') (r : ∀ v F' H' s, Ok W F' H' → DL.Step W F H F' H' → VOk K W F' H' v s → N.rt s → D.rt v H') (b : ∀ ρ', ¬ N.bk ρ') (c : ∀ ρ', ¬ N.ct ρ') : ts D σ H :=
  h σ F H a D (fun σ' F' H' ρ' a' _ k => n σ' F' H' ρ' a'.ok a'.st k) (fun v F' H' s o' st hv k => r v F' H' s o' st hv k) (fun _ _ _ ρ' _ _ k => absurd k (b ρ')) fun _ _ _ ρ' _ _ k => absurd k (c ρ')
theorem le_line' {n : Nat} (h : n < 250000) : n < sizeLine := Nat.lt_of_lt_of_le h (by rw [sizeLine_eq]; decide)
theorem map_get {α : Type} {f : α → D} {xs : List α} {i : Nat} (h : i < xs.length) : (xs.map f)[i]? = some (f xs[i]) := by simp [h]
theorem any_nums (ks : List Nat) (k : Nat) : ((ks.map num).any fun z => PyData.eqv z (num k)) = ks.contains k := by
  rw [List.any_map]
  induction ks with
  | nil => rfl
  | cons x xs ih =>
    rw [List.any_cons, ih, List.contains_cons]
    simp only [Function.comp_def, eqv_num]
    congr 1
    by_cases h : x = k
    · subst h; simp
    · rw [decide_eq_false h]
      symm
      exact beq_eq_false_iff_ne.mpr (Ne.symm h)
theorem nums_sh (ks : List Nat) : SeqAt.shaped (.list (ks.map num)) = true := by
  have e : ks.map num = (ks.map fun n : Nat => (n : Int)).map PyData.int := by
    rw [List.map_map]
    rfl
  rw [e]
  show ((PyData.list _).canLay0 && decide ((PyData.list _).depth ≤ 64)) = true
  simp only [PyData.canLay0, PyData.depth, ints_lay, ints_dep]
  rfl
section
variable {Pg : Program} {w : World} {K : PySem.W.Frag} {mg : Str → Option Value} {base : Heap} {f : Addr} {fd : FuncData}
theorem ok_bunch_covers (F : Fun K "bunch_covers" "bunch_covers" s_bunch_covers f fd) (T : Txt mg) : FnG Pg w K mg base 1 f fd ["one", "other"] (spR K) := by
  have nd := sc_bunch_covers.nd
  refine fnG_of F sc_bunch_covers pm_len (fun cdv A ou s H vs Q hgd hr h => ?_)
  refine ⟨_, (pss_cons (ps_if (pt_cmpR opLt (pe_callB (r := rLenA K) call_len (by rfl) T.b_len (by decide +kernel) (pa_cons (pv 0) pa_nil)) (pe_callB (r := rLenA K) call_len (by rfl) T.b_len (by decide +kernel) (pa_cons (pv 1) pa_nil)) (nomark _)) (pss_one (ps_ret pe_bl)) pss_nil) (pss_one (ps_ret (pe_callB (r := rAll K) (cr_all rfl) (by rfl) T.b_all (by decide +kernel) (pa_cons (pe_lc (own := [("light", 2), ("less", 3)]) (g := (gTup K 2 (gCons (gName 2) (gCons (gName 3) gNil)))) rfl nd (pi_zipA rfl T.b_zip (pa_cons (pv 0) (pa_cons (pv 1) pa_nil))) (blkOk_by (N := ["one", "other", "light", "less"]) (sc := (defScope s_bunch_covers)) (by decide +kernel)) (fun _ _ _ _ _ => (pg_tup (n := 2) rfl (pgs_cons (pg_name (i := 2) nd rfl (Or.inl rfl) (Or.inr rfl)) (pgs_cons (pg_name (i := 3) nd rfl (Or.inl rfl) (Or.inr rfl)) pgs_nil)))) (fun _ _ _ _ _ => pts_nil) (fun _ _ _ _ _ => (pe_cmpR opGe (pv 2) (pv 3) (nomark _)))) pa_nil))))), bodyE (by decide) h encR_inj fun W F0 ⟨ns, ms⟩ ⟨hl, hl2⟩ _ => ?_⟩
  change Sx K W H F0 _ [.dat (rowD ns), .dat (rowD ms), .un, .un] _
  walk_at "go"
  rw [List.length_map, List.length_map, nat_lt]
  refine if2 (fun h1 => ?_) (fun h1 => ?_)
  · refine sx_ret ?_
    walk_at "go"
    exact rt_bool (by simp only [covers]; rw [h1]; rfl)
  · walk_at "go"
    refine sx_ret ?_
    walk_at "go"
    refine ev_frz (evn_mapT gePair (evi_zip ?_))
    walk_at "go"
    refine ⟨_, _, .inr rfl, ?_, fun d hd => ?_, ?_⟩
    · rw [zipD_len, List.length_map, List.length_map, sizeLine_eq]
      simp only at hl hl2
      omega
    · obtain ⟨a, b, rfl, ha, hb'⟩ := mem_zipD hd
      obtain ⟨i, _, rfl⟩ := List.mem_map.mp ha
      obtain ⟨j, _, rfl⟩ := List.mem_map.mp hb'
      refine gc_tup rfl (gcs_cons (gc_name (by decide) trivial (gcs_cons (gc_name (by decide) trivial (gcs_nil ?_)))))
      walk_at "go"
      exact rfl
    · walk_at "go"
      rw [zip_nums]
      refine cas_all (.inl rfl) ?_
      refine rt_bool ?_
      simp only [covers]
      rw [h1]
      exact all_nums ns ms
theorem ok_last_to_pair (F : Fun K "last_to_pair" "last_to_pair" s_last_to_pair f fd) (T : Txt mg) (C_making_covers : CMaking Pg w K mg base) : FnG Pg w K mg base 2 f fd ["makings", "other", "paired"] (spLast K) := by
  have nd := sc_last_to_pair.nd
  refine fnG_of F sc_last_to_pair (fun vs H Q E h => ?_) (fun cdv A ou s H vs Q hgd hr h => ?_)
  · obtain ⟨_, _, _, _, _, _, _, _, _, rfl, _⟩ := h
    rfl
  have hu : (A.deeper (PyProof.Rows.envOfC "last_to_pair" (defScope s_last_to_pair) s.heap.objs.size f cdv)).units + 64 < cLine := by have := hr.un; omega
  have hu5 : (A.deeper (PyProof.Rows.envOfC "last_to_pair" (defScope s_last_to_pair) s.heap.objs.size f cdv)).units + 65 < cLine := by have := hr.un; omega
  obtain ⟨W, F0, x, y, p, us, ms, o, ks, rfl, ok0, hx, hy, h1, h2, h3, h4, ⟨k1, k2, k3, k4⟩, fin⟩ := h
  refine ⟨_, (pss_cons (ps_for PassesOwn.never rfl (pi_revR (by rfl) T.b_reversed (prg_1 (by rfl) T.b_range (pe_callB (r := rLenA K) call_len (by rfl) T.b_len (by decide +kernel) (pa_cons (pv 0) pa_nil)))) (pg_name (i := 3) nd rfl (Or.inl rfl) (Or.inl rfl)) (pss_one (ps_if (PW.pt (pw_and (pt_cmpR (r := rNotIn2 K) (opNotIn hu5) (pv 3) (pv 2) (by rfl)) (pw_and1 (pt_val (pe_fn C_making_covers hgd (hr.mono (by first | decide | omega)) rfl (pa_cons (pe_ix (r := rIx K) ix_seq (pv 0) (pv 3) (fun _ _ => rfl)) (pa_cons (pv 1) pa_nil))))))) (pss_one (ps_ret (pv 3))) pss_nil))) (pss_one (ps_ret pe_non))), ?_⟩
  have ok1 := ok0.freeze h1 h3 h2
  have sm : Same F0 (upd F0 p (.lst us)) := sm_new h2
  have b0 : Holds K W H (L2.start ["makings", "other", "paired", "k"] [x, y, .ref p]) (upd F0 p (.lst us)) H ([.dat (.tuple (ms.map mkD)), .dat (mkD o), .dat (.list (ks.map num))] ++ List.replicate 1 .un) :=
    holds_start (ss := [.dat (.tuple (ms.map mkD)), .dat (mkD o), .dat (.list (ks.map num))]) (.cons (dp_mono sm hx) (.cons (dp_mono sm hy) (.cons (.lst upd_same (dpa_mono sm h4)) .nil))) (by simp [NoLs]) (Nat.le_of_ble_eq_true rfl)
  refine Sx.here (N := { nx := fun _ => lastFit ms o ks = none, rt := fun s => s = .dat (optD (lastFit ms o ks)) }) ⟨ok1, Step.refl ok1, b0⟩ ?_ (fun σ' F' H' ρ' ok' st' k => fin .non F' H' ok' st' (by rw [k]; exact DL.Dp.non)) (fun v F' H' s o' st hv e => by subst e; exact fin v F' H' o' st hv) (fun _ f => f) fun _ f => f
  change Sx K W H (upd F0 p (.lst us)) _ [.dat (.tuple (ms.map mkD)), .dat (mkD o), .dat (.list (ks.map num)), .un] _
  have erv : (rngD 0 ms.length).reverse = (List.range ms.length).reverse.map fun k : Nat => PyData.int (0 + (k : Int)) := by
    unfold rngD
    rw [List.map_reverse]
  refine sx_seq (sx_for (fun es i ρ' => es = (rngD 0 ms.length).reverse ∧ ∃ s3, ρ' = [.dat (.tuple (ms.map mkD)), .dat (mkD o), .dat (.list (ks.map num)), s3] ∧ ((List.range ms.length).reverse.take i).filter (fun k => !ks.contains k && fits (ms.getD k o) o) = []) (evi_revr ?_))
  walk_at "go"
  rw [List.length_map]
  refine ⟨by omega, ⟨rfl, _, rfl, rfl⟩, ?_, ?_⟩
  · rintro i d ρ' hd ⟨_, s3, rfl, hf⟩
    rw [erv, List.getElem?_map] at hd
    obtain ⟨k, hk, rfl⟩ := Option.map_eq_some_iff.mp hd
    have hkn : k < ms.length := by
      have := List.mem_of_getElem? hk
      simpa using this
    have hi := (List.getElem?_eq_some_iff.mp hk).1
    have et : (List.range ms.length).reverse.take (i + 1) = (List.range ms.length).reverse.take i ++ [k] := by
      rw [List.take_add_one, hk]
      rfl
    have eg : ms.getD k o = ms[k] := by simp [hkn]
    refine gs_name trivial ?_
    rw [Int.zero_add]
    change Sx K W H (upd F0 p (.lst us)) _ [.dat (.tuple (ms.map mkD)), .dat (mkD o), .dat (.list (ks.map num)), .dat (num k)] _
    walk_at "go"
    refine ops_notin_lst (shaped_int _) (nums_sh ks) (.inl rfl) ?_
    rw [any_nums]
    have no : (!ks.contains k && fits (ms.getD k o) o) = false → ((List.range ms.length).reverse.take (i + 1)).filter (fun k => !ks.contains k && fits (ms.getD k o) o) = [] := fun h => by
      rw [et, List.filter_append, hf, List.filter_cons_of_neg (by rw [h]; exact Bool.false_ne_true)]
      rfl
    refine ⟨_, rfl, if2 (fun h1 => ?_) (fun h1 => ?_)⟩
    · refine et_B (ev_fnE ?_)
      walk_at "go"
      refine ops_ix_tup (atI_nat (map_get hkn)) ?_
      walk_at "go"
      refine ⟨(ms[k], o), rfl, by simp [encM, NoLs], rfl, ⟨k1 _ (List.getElem_mem hkn), k2⟩, _, rfl, ?_⟩
      rw [← eg]
      refine if2 (fun h2 => ?_) (fun h2 => ?_)
      · refine sx_ret (ev_varx ⟨_, rfl, ?_⟩)
        have e : lastFit ms o ks = some k := by
          unfold lastFit
          have es : (List.range ms.length).reverse = ((List.range ms.length).reverse.take i ++ [k]) ++ (List.range ms.length).reverse.drop (i + 1) := by
            rw [← et, List.take_append_drop]
          rw [es, List.filter_append, List.filter_append, hf, List.filter_cons_of_pos (by rw [h1, Bool.true_and]; exact h2)]
          rfl
        rw [e]
        rfl
      · walk_at "go"
        exact ⟨rfl, _, rfl, no (by rw [h1, Bool.true_and]; exact h2)⟩
    · walk_at "go"
      exact ⟨rfl, _, rfl, no (by rw [h1, Bool.false_and])⟩
  · rintro ρ' ⟨_, s3, rfl, hf⟩
    refine sx_ret (ev_non ?_)
    have hl : (rngD 0 ms.length).reverse.length = (List.range ms.length).reverse.length := by
      rw [List.length_reverse, rngD_len, List.length_reverse, List.length_range]
    rw [hl, List.take_length] at hf
    unfold lastFit
    rw [hf]
    rfl
/-! ### pairing -/
def encS (p : St × St) : Rho := [.dat (stD p.1), .dat (stD p.2)]
theorem encS_inj (a b : St × St) (h : encS a = encS b) : a = b := by
  unfold encS at h
  injection h with h1 h2
  injection h2 with h2 _
  injection h1 with h1
  injection h2 with h2
  exact Prod.ext (stD_inj _ _ h1) (stD_inj _ _ h2)
/-- what greedy takes -/
def taken (ms : List Mk) : List Mk → List Nat → Option (List Nat)
  | [], ks => some ks
  | o :: os, ks => match lastFit ms o ks with
    | none => none
    | some k => taken ms os (ks ++ [k])
theorem taken_some (ms : List Mk) : ∀ (os : List Mk) (ks : List Nat), (taken ms os ks).isSome = greedy ms os ks
  | [], _ => rfl
  | o :: os, ks => by
    unfold taken greedy
    cases lastFit ms o ks with
    | none => rfl
    | some k => exact taken_some ms os (ks ++ [k])
def pairD (p : St × St) : D := match taken p.1.ms p.2.ms.reverse [] with
  | none => .none
  | some ks => .tuple (ks.reverse.map num)
structure okS (s : St) : Prop where
  ms : ∀ m ∈ s.ms, okM m
  many : s.ms.length ≤ 4
  us : s.us.length ≤ 10
  ls : s.ls.length ≤ 10
  rows : ∀ l ∈ s.ls, l.length ≤ 10
abbrev CPairing (Pg : Program) (w : World) (K : PySem.W.Frag) (mg : Str → Option Value) (base : Heap) := Fn Pg w K mg base "pairing" 3 ["stand", "other"] (PmE K 2 encS (fun p => okS p.1 ∧ okS p.2) pairD)
theorem ok_pairing (F : Fun K "pairing" "pairing" s_pairing f fd) (T : Txt mg) (C_last_to_pair : CLast Pg w K mg base) : FnG Pg w K mg base 3 f fd ["stand", "other"] (PmE K 2 encS (fun p => okS p.1 ∧ okS p.2) pairD) := by
  have nd := sc_pairing.nd
  refine fnG_of F sc_pairing pm_len (fun cdv A ou s H vs Q hgd hr h => ?_)
  refine ⟨_, (pss_cons (ps_set (i := 2) nd rfl (Or.inl rfl) (pe_lst pa_nil) (hf := Or.inl rfl)) (pss_cons (ps_for PassesOwn.never rfl (pi_tup (pe_revA (pe_ix (r := rIx K) ix_seq (pv 1) pe_int (fun _ _ => rfl)))) (pg_name (i := 3) nd rfl (Or.inl rfl) (Or.inl rfl)) (pss_cons (ps_set (i := 4) nd rfl (Or.inl rfl) (pe_fn C_last_to_pair hgd (hr.mono (by first | decide | omega)) rfl (pa_cons (pe_ix (r := rIx K) ix_seq (pv 0) pe_int (fun _ _ => rfl)) (pa_cons (pv 3) (pa_cons (pv 2) pa_nil)))) (hf := Or.inl rfl)) (pss_cons (ps_if (pt_cmpR opIsN (pv 4) pe_non (nomark _)) (pss_one (ps_ret pe_non)) pss_nil) (pss_one (ps_expr (pe_bm PySem.F.plainAttrs_list PySem.F.slot_list_append PySem.F.type_list_append mt_append (pv 2) (pa_cons (pv 4) pa_nil))))))) (pss_one (ps_ret (pe_callTy (r := rTupleOf K) call_tuple_of (by rfl) T.b_tuple (by decide +kernel) (pa_cons (pe_revA (pv 2)) pa_nil)))))), bodyE (by decide) h encS_inj fun W F0 ⟨a, b⟩ ⟨oa, ob⟩ _ => ?_⟩
  change Sx K W H F0 _ [.dat (stD a), .dat (stD b), .un, .un, .un] _
  refine sx_seq (sx_asgN (evn_lst (ea_nil ⟨[], rfl, le_line rfl, ?_⟩)))
  refine sx_seq (sx_for (fun es i ρ' => es = (b.ms.map mkD).reverse ∧ ∃ ks s3 s4, ρ' = [.dat (stD a), .dat (stD b), .ls (ks.map num), s3, s4] ∧ ks.length = i ∧ taken a.ms b.ms.reverse [] = taken a.ms (b.ms.reverse.drop i) ks) (evi_tup ?_))
  walk_at "go"
  refine ops_ix_tup (ds := [rowD b.us, .tuple (b.ls.map rowD), num b.st, .tuple (b.ms.map mkD), num b.ph, num b.rs]) (atI_nat (j := 3) rfl) ?_
  walk_at "go"
  refine ⟨⟨rfl, [], _, _, rfl, rfl, rfl⟩, ?_, ?_⟩
  · rintro i d ρ' hd ⟨_, ks, s3, s4, rfl, hk, ht⟩
    have hd' : (b.ms.reverse.map mkD)[i]? = some d := by rw [List.map_reverse]; exact hd
    rw [List.getElem?_map] at hd'
    obtain ⟨o, ho, rfl⟩ := Option.map_eq_some_iff.mp hd'
    have hom : o ∈ b.ms := List.mem_reverse.mp (List.mem_of_getElem? ho)
    have hi : i < b.ms.length := by
      have := (List.getElem?_eq_some_iff.mp ho).1
      rwa [List.length_reverse] at this
    have hdrop : b.ms.reverse.drop i = o :: b.ms.reverse.drop (i + 1) := by
      rw [List.drop_eq_getElem_cons (by rw [List.length_reverse]; exact hi)]
      congr 1
      have := (List.getElem?_eq_some_iff.mp ho)
      exact this.2
    have m1 : a.ms.length ≤ 4 := oa.many
    have m2 : b.ms.length ≤ 4 := ob.many
    refine gs_name trivial ?_
    change Sx K W H F0 _ [.dat (stD a), .dat (stD b), .ls (ks.map num), .dat (mkD o), s4] _
    refine sx_seq (sx_asg (ev_last ?_))
    walk_at "go"
    refine ops_ix_tup (ds := [rowD a.us, .tuple (a.ls.map rowD), num a.st, .tuple (a.ms.map mkD), num a.ph, num a.rs]) (atI_nat (j := 3) rfl) ?_
    refine ea_cons (ev_varx ⟨_, rfl, ea_cons (ev_own rfl (ea_nil ⟨a.ms, o, ks, rfl, ⟨oa.ms, ob.ms o hom, by omega, by omega⟩, ?_⟩))⟩)
    rw [hdrop] at ht
    cases hL : lastFit a.ms o ks with
    | none =>
      refine ⟨trivial, ?_⟩
      change Sx K W H F0 _ [.dat (stD a), .dat (stD b), .ls (ks.map num), .dat (mkD o), .dat .none] _
      walk_at "go"
      refine sx_ret (ev_non ?_)
      have e : taken a.ms b.ms.reverse [] = none := by
        rw [ht]
        unfold taken
        rw [hL]
      simp only [pairD, e]
    | some k =>
      refine ⟨trivial, ?_⟩
      change Sx K W H F0 _ [.dat (stD a), .dat (stD b), .ls (ks.map num), .dat (mkD o), .dat (num k)] _
      walk_at "go"
      refine sx_app rfl (le_line' (by rw [List.length_map]; omega)) (ev_varx ⟨_, rfl, _, rfl, rfl, ks ++ [k], _, _, by rw [List.map_append]; rfl, by rw [List.length_append, hk]; rfl, ?_⟩)
      rw [ht]
      conv => lhs; unfold taken
      rw [hL]
  · rintro ρ' ⟨_, ks, s3, s4, rfl, hk, ht⟩
    rw [List.length_reverse, List.length_map] at hk ht
    have e : taken a.ms b.ms.reverse [] = some ks := by
      rw [ht, List.drop_of_length_le (by rw [List.length_reverse]; exact Nat.le_refl _)]
      rfl
    refine sx_ret (ev_cb (ea_cons (ev_rev (ev_own rfl ⟨_, .inr ⟨.inr rfl, ea_nil (cas_tuple (.inr (.inl rfl)) ?_)⟩⟩))))
    simp only [pairD, e]
    rw [List.map_reverse]
end
end K19

namespace K19
open PySem L2 RZ DL
/-! the walk by data -/
local macro_rules | `(tactic| walk_at "dl") => `(tactic| first
  | with_reducible first
    | refine sx_seq ?_ | refine sx_if ?_ | refine sx_next ?_
    | refine et_not ?_ | refine et_B ?_ | refine et_test ?_ | refine et_and ?_ | refine et_or ?_ | refine et_yes ?_
    | refine ev_and ?_ | refine ev_or ?_ | refine ev_not ?_ | refine ev_if ?_ | refine ev_chain ?_
    | refine ev_int ?_ | refine ev_bl ?_ | refine ev_str ?_ | refine ev_non ?_ | refine ev_c ?_
    | refine ev_op ?_ | refine ev_un ?_ | refine ev_cb ?_ | refine ev_fn1 ?_ | refine ev_fn2 ?_ | refine ev_sl ?_ | refine eo_none ?_ | refine eo_some ?_ | refine ev_tup ?_
    | refine ea_cons ?_ | refine ea_nil ?_
    | refine ops_ge ?_ | refine ops_le ?_ | refine ops_gt ?_ | refine ops_lt ?_ | refine ops_leS ?_ | refine ops_ltS ?_ | refine ops_add_int ?_ | refine ops_sub ?_ | refine ops_isN ?_ | refine ops_isNot ?_ | refine ops_eq_int ?_ | refine ops_eqS ?_ | refine ops_neS ?_
    | refine cas_len_tup ?_ | refine cas_isi_int ?_ | refine cas_isi_bool ?_ | refine cas_isi_str ?_ | refine cas_isi_tup ?_ | refine cas_isi_lst ?_
    | refine iteT ?_ | refine iteF ?_ | refine and_nols ?_
  | ((with_reducible refine ev_varx ?_); refine ⟨_, rfl, ?_⟩)
  | ((with_reducible refine ops_ix_tupx ?_); first | refine ⟨_, rfl, ?_⟩ | refine ⟨_, atI_nat (j := 0) rfl, ?_⟩ | refine ⟨_, atI_nat (j := 1) rfl, ?_⟩ | refine ⟨_, atI_nat (j := 2) rfl, ?_⟩ | refine ⟨_, atI_nat (j := 3) rfl, ?_⟩ | refine ⟨_, atI_nat (j := 4) rfl, ?_⟩ | refine ⟨_, atI_nat (j := 5) rfl, ?_⟩ | refine ⟨_, atI_nat (j := 6) rfl, ?_⟩)
  | ((with_reducible refine sz_and ?_ ?_); exact rfl)
  | ((with_reducible refine ev_ownx ?_); refine ⟨_, rfl, ?_⟩)
  | ((with_reducible refine ev_refx ?_); refine ⟨_, rfl, ?_⟩)
  | (with_reducible refine sxn_seq ?_) | (with_reducible refine uns_neg ?_) | (with_reducible refine ev_frz (evn_lst ?_)) | (with_reducible refine sls_tup ?_) | (refine ev_revT ?_)
  | ((refine sx_extx ?_); refine ⟨_, rfl, ?_⟩) | ((with_reducible refine ops_add_tup ?_ ?_); exact le_line rfl) | (with_reducible refine cas_listT ?_)
  | ((with_reducible refine ifT ?_ ?_); exact rfl) | ((with_reducible refine ifF ?_ ?_); exact rfl))
local macro_rules | `(tactic| walk_at "go") => `(tactic| repeat (first | walk_at "dl" | with_reducible refine ⟨_, rfl, ?_⟩ | with_reducible refine ⟨_, _, rfl, ?_⟩))
/-! ### no less -/
def natsOf (ds : List D) : List Nat := ds.map fun d => match d with
  | .int i => i.toNat
  | _ => 0
theorem nats_num (l : List Nat) : natsOf (l.map num) = l := by
  unfold natsOf
  rw [List.map_map]
  induction l with
  | nil => rfl
  | cons x l ih =>
    rw [List.map_cons, ih]
    rfl
def coverP : D → D
  | .tuple [.tuple xs, .tuple ys] => .bool (covers (natsOf xs) (natsOf ys))
  | _ => .none
theorem zip_rows : ∀ (a b : List (List Nat)), (zipD (a.map rowD) (b.map rowD)).map coverP = ((a.zip b).map fun p => covers p.1 p.2).map .bool
  | [], _ => by simp [zipD]
  | _ :: _, [] => by simp [zipD]
  | x :: a, y :: b => by
    have ih := zip_rows a b
    simp only [zipD, List.map_cons, List.zip_cons_cons] at ih ⊢
    rw [ih]
    simp only [coverP, nats_num]
theorem all_rows (a b : List (List Nat)) : ((a.zip b).map fun p => covers p.1 p.2).all id = (a.zip b).all fun p => covers p.1 p.2 := by
  rw [List.all_map]
  rfl
abbrev spN (K : PySem.W.Frag) : Sp := PmE K 2 encS (fun p => okS p.1 ∧ okS p.2) fun p => .bool (noLess p.1 p.2)
abbrev CNoLess (Pg : Program) (w : World) (K : PySem.W.Frag) (mg : Str → Option Value) (base : Heap) := Fn Pg w K mg base "is_no_less" 4 ["stand", "other"] (spN K)
section
variable {Pg : Program} {w : World} {K : PySem.W.Frag} {mg : Str → Option Value} {base : Heap} {f : Addr} {fd : FuncData}
theorem ok_is_no_less (F : Fun K "is_no_less" "is_no_less" s_is_no_less f fd) (T : Txt mg) (C_bunch_covers : CBunch Pg w K mg base) (C_pairing : CPairing Pg w K mg base) : FnG Pg w K mg base 4 f fd ["stand", "other"] (spN K) := by
  have nd := sc_is_no_less.nd
  refine fnG_of F sc_is_no_less pm_len (fun cdv A ou s H vs Q hgd hr h => ?_)
  have hu : (A.deeper (PyProof.Rows.envOfC "is_no_less" (defScope s_is_no_less) s.heap.objs.size f cdv)).units + 64 < cLine := by have := hr.un; omega
  refine ⟨_, (pss_cons (ps_asg (pv 0) (pg_tup (n := 6) rfl (pgs_cons (pg_name (i := 2) nd rfl (Or.inl rfl) (Or.inl rfl)) (pgs_cons (pg_name (i := 3) nd rfl (Or.inl rfl) (Or.inl rfl)) (pgs_cons (pg_name (i := 4) nd rfl (Or.inl rfl) (Or.inl rfl)) (pgs_cons (pg_name (i := 5) nd rfl (Or.inl rfl) (Or.inl rfl)) (pgs_cons (pg_name (i := 6) nd rfl (Or.inl rfl) (Or.inl rfl)) (pgs_cons (pg_name (i := 7) nd rfl (Or.inl rfl) (Or.inl rfl)) pgs_nil)))))))) (pss_cons (ps_if (PW.pt (pw_or (pt_cmpR (r := rNe2 K) (opNe hu) (pv 6) (pe_ix (r := rIx K) ix_seq (pv 1) pe_int (fun _ _ => rfl)) (nomark _)) (pw_or (pt_cmpR opLt (pv 7) (pe_ix (r := rIx K) ix_seq (pv 1) pe_int (fun _ _ => rfl)) (nomark _)) (pw_or1 (pt_cmpR opLt (pv 4) (pe_ix (r := rIx K) ix_seq (pv 1) pe_int (fun _ _ => rfl)) (nomark _)))))) (pss_one (ps_ret pe_bl)) pss_nil) (pss_cons (ps_if (pt_not (pt_val (pe_callB (r := rAll K) (cr_all rfl) (by rfl) T.b_all (by decide +kernel) (pa_cons (pe_lc (own := [("many", 8), ("less", 9)]) (g := (gTup K 2 (gCons (gName 8) (gCons (gName 9) gNil)))) rfl nd (pi_zipA rfl T.b_zip (pa_cons (pv 2) (pa_cons (pe_ix (r := rIx K) ix_seq (pv 1) pe_int (fun _ _ => rfl)) pa_nil))) (blkOk_by (N := ["stand", "other", "uses", "leaves", "store", "_", "phase", "rest", "many", "less", "lights"]) (sc := (defScope s_is_no_less)) (by decide +kernel)) (fun _ _ _ _ _ => (pg_tup (n := 2) rfl (pgs_cons (pg_name (i := 8) nd rfl (Or.inl rfl) (Or.inr rfl)) (pgs_cons (pg_name (i := 9) nd rfl (Or.inl rfl) (Or.inr rfl)) pgs_nil)))) (fun _ _ _ _ _ => pts_nil) (fun _ _ _ _ _ => (pe_cmpR opGe (pv 8) (pv 9) (nomark _)))) pa_nil)))) (pss_one (ps_ret pe_bl)) pss_nil) (pss_cons (ps_if (pt_not (pt_val (pe_callB (r := rAll K) (cr_all rfl) (by rfl) T.b_all (by decide +kernel) (pa_cons (pe_lc (own := [("lights", 10), ("less", 9)]) (g := (gTup K 2 (gCons (gName 10) (gCons (gName 9) gNil)))) rfl nd (pi_zipA rfl T.b_zip (pa_cons (pv 3) (pa_cons (pe_ix (r := rIx K) ix_seq (pv 1) pe_int (fun _ _ => rfl)) pa_nil))) (blkOk_by (N := ["stand", "other", "uses", "leaves", "store", "_", "phase", "rest", "many", "less", "lights"]) (sc := (defScope s_is_no_less)) (by decide +kernel)) (fun _ _ _ _ _ => (pg_tup (n := 2) rfl (pgs_cons (pg_name (i := 10) nd rfl (Or.inl rfl) (Or.inr rfl)) (pgs_cons (pg_name (i := 9) nd rfl (Or.inl rfl) (Or.inr rfl)) pgs_nil)))) (fun _ _ _ _ _ => pts_nil) (fun _ _ _ _ _ => (pe_fn C_bunch_covers hgd (hr.mono (by first | decide | omega)) rfl (pa_cons (pv 10) (pa_cons (pv 9) pa_nil))))) pa_nil)))) (pss_one (ps_ret pe_bl)) pss_nil) (pss_one (ps_ret (pe_cmpR opIsNot (pe_fn C_pairing hgd (hr.mono (by first | decide | omega)) rfl (pa_cons (pv 0) (pa_cons (pv 1) pa_nil))) pe_non (nomark _)))))))), bodyE (by decide) h encS_inj fun W F0 ⟨a, b⟩ ⟨oa, ob⟩ _ => ?_⟩
  have oa : okS a := oa
  have ob : okS b := ob
  obtain ⟨au, al, as, am, ap, ar⟩ := a
  obtain ⟨bu, bl, bs, bm, bp, br⟩ := b
  change Sx K W H F0 _ [.dat (.tuple [rowD au, .tuple (al.map rowD), num as, .tuple (am.map mkD), num ap, num ar]), .dat (.tuple [rowD bu, .tuple (bl.map rowD), num bs, .tuple (bm.map mkD), num bp, num br]), .un, .un, .un, .un, .un, .un, .un, .un, .un] _
  refine sx_seq (sx_asgG (ev_varx ⟨_, rfl, gs_tup rfl (gss_cons (gs_name trivial (gss_cons (gs_name trivial (gss_cons (gs_name trivial (gss_cons (gs_name trivial (gss_cons (gs_name trivial (gss_cons (gs_name trivial (gss_nil ?_)))))))))))))⟩))
  change Sx K W H F0 _ [.dat (.tuple [rowD au, .tuple (al.map rowD), num as, .tuple (am.map mkD), num ap, num ar]), .dat (.tuple [rowD bu, .tuple (bl.map rowD), num bs, .tuple (bm.map mkD), num bp, num br]), .dat (rowD au), .dat (.tuple (al.map rowD)), .dat (num as), .dat (.tuple (am.map mkD)), .dat (num ap), .dat (num ar), .un, .un, .un] _
  walk_at "go"
  have lt_le : ∀ {x y : Nat}, decide (x < y) = !decide (y ≤ x) := fun {x y} => by
    by_cases h : x < y
    · rw [decide_eq_true h, decide_eq_false (by omega)]; rfl
    · rw [decide_eq_false h, decide_eq_true (by omega)]; rfl
  refine ops_ne (shaped_int _) (shaped_int _) ⟨_, rfl, ?_⟩
  rw [eqv_num]
  refine if2 (fun h1 => ?_) (fun h1 => ?_)
  · rw [Bool.not_eq_true'] at h1
    walk_at "go"
    refine sx_ret ?_
    walk_at "go"
    exact rt_bool (by simp only [noLess]; rw [h1, Bool.false_and, Bool.false_and])
  rw [Bool.not_eq_false'] at h1
  walk_at "go"
  rw [nat_lt, lt_le]
  refine if2 (fun h2 => ?_) (fun h2 => ?_)
  · rw [Bool.not_eq_true'] at h2
    walk_at "go"
    refine sx_ret ?_
    walk_at "go"
    exact rt_bool (by simp only [noLess]; rw [h2, Bool.false_and, Bool.and_false, Bool.false_and])
  rw [Bool.not_eq_false'] at h2
  walk_at "go"
  rw [nat_lt, lt_le]
  refine if2 (fun h3 => ?_) (fun h3 => ?_)
  · rw [Bool.not_eq_true'] at h3
    walk_at "go"
    refine sx_ret ?_
    walk_at "go"
    exact rt_bool (by simp only [noLess]; rw [h3, Bool.and_false, Bool.and_false, Bool.false_and])
  rw [Bool.not_eq_false'] at h3
  walk_at "go"
  refine ev_frz (evn_mapT gePair (evi_zip ?_))
  walk_at "go"
  have u1 := oa.us
  have u2 := oa.ls
  simp only at u1 u2
  refine ⟨_, _, .inr rfl, ?_, fun d hd => ?_, ?_⟩
  · rw [zipD_len, List.length_map, List.length_map, sizeLine_eq]
    omega
  · obtain ⟨x, y, rfl, hx, hy⟩ := mem_zipD hd
    obtain ⟨i, _, rfl⟩ := List.mem_map.mp hx
    obtain ⟨j, _, rfl⟩ := List.mem_map.mp hy
    refine gc_tup rfl (gcs_cons (gc_name (by decide) trivial (gcs_cons (gc_name (by decide) trivial (gcs_nil ?_)))))
    walk_at "go"
    exact rfl
  walk_at "go"
  rw [zip_nums]
  refine cas_all (.inl rfl) ⟨_, rfl, ?_⟩
  rw [all_nums]
  refine if2 (fun h4 => ?_) (fun h4 => ?_)
  · rw [Bool.not_eq_true'] at h4
    walk_at "go"
    refine sx_ret ?_
    walk_at "go"
    exact rt_bool (by simp only [noLess]; rw [h4, Bool.false_and, Bool.and_false])
  rw [Bool.not_eq_false'] at h4
  walk_at "go"
  refine ev_frz (evn_mapT coverP (evi_zip ?_))
  walk_at "go"
  refine ⟨_, _, .inr rfl, ?_, fun d hd => ?_, ?_⟩
  · rw [zipD_len, List.length_map, List.length_map, sizeLine_eq]
    omega
  · obtain ⟨x, y, rfl, hx, hy⟩ := mem_zipD hd
    obtain ⟨l, hl, rfl⟩ := List.mem_map.mp hx
    obtain ⟨l', hl', rfl⟩ := List.mem_map.mp hy
    refine gc_tup rfl (gcs_cons (gc_name (by decide) trivial (gcs_cons (gc_name (by decide) trivial (gcs_nil ?_)))))
    have r1 := oa.rows l hl
    have r2 := ob.rows l' hl'
    refine ev_fnE (ea_cons (ev_varx ⟨_, rfl, ea_cons (ev_varx ⟨_, rfl, ea_nil ⟨(l, l'), rfl, by simp [encR, NoLs], rfl, ⟨by show l.length ≤ 1000; omega, by show l'.length ≤ 1000; omega⟩, ?_⟩⟩)⟩))
    simp only [coverP, nats_num]
  walk_at "go"
  rw [zip_rows]
  refine cas_all (.inl rfl) ⟨_, rfl, ?_⟩
  rw [all_rows]
  refine if2 (fun h5 => ?_) (fun h5 => ?_)
  · rw [Bool.not_eq_true'] at h5
    walk_at "go"
    refine sx_ret ?_
    walk_at "go"
    exact rt_bool (by simp only [noLess]; rw [h5, Bool.false_and, Bool.and_false, Bool.and_false])
  rw [Bool.not_eq_false'] at h5
  walk_at "go"
  refine sx_ret (ev_op (ev_fnE (ea_cons (ev_varx ⟨_, rfl, ea_cons (ev_varx ⟨_, rfl, ea_nil ⟨(⟨au, al, as, am, ap, ar⟩, ⟨bu, bl, bs, bm, bp, br⟩), rfl, by simp [encS, NoLs], rfl, ⟨oa, ob⟩, ?_⟩⟩)⟩))))
  have fin : noLess ⟨au, al, as, am, ap, ar⟩ ⟨bu, bl, bs, bm, bp, br⟩ = (taken am bm.reverse []).isSome := by
    simp only [noLess]
    rw [h1, h2, h3, h4, h5, taken_some]
    rfl
  walk_at "go"
  refine rt_bool ?_
  show (!isNone (pairD (_, _))) = noLess _ _
  rw [fin]
  simp only [pairD]
  cases taken am bm.reverse [] <;> rfl
end
end K19

namespace K19
open PySem L2 RZ DL
/-! the walk by data -/
local macro_rules | `(tactic| walk_at "dl") => `(tactic| first
  | with_reducible first
    | refine sx_seq ?_ | refine sx_if ?_ | refine sx_next ?_
    | refine et_not ?_ | refine et_B ?_ | refine et_test ?_ | refine et_and ?_ | refine et_or ?_ | refine et_yes ?_
    | refine ev_and ?_ | refine ev_or ?_ | refine ev_not ?_ | refine ev_if ?_ | refine ev_chain ?_
    | refine ev_int ?_ | refine ev_bl ?_ | refine ev_str ?_ | refine ev_non ?_ | refine ev_c ?_
    | refine ev_op ?_ | refine ev_un ?_ | refine ev_cb ?_ | refine ev_fn1 ?_ | refine ev_fn2 ?_ | refine ev_sl ?_ | refine eo_none ?_ | refine eo_some ?_ | refine ev_tup ?_
    | refine ea_cons ?_ | refine ea_nil ?_
    | refine ops_ge ?_ | refine ops_le ?_ | refine ops_gt ?_ | refine ops_lt ?_ | refine ops_leS ?_ | refine ops_ltS ?_ | refine ops_add_int ?_ | refine ops_sub ?_ | refine ops_isN ?_ | refine ops_isNot ?_ | refine ops_eq_int ?_ | refine ops_eqS ?_ | refine ops_neS ?_
    | refine cas_len_tup ?_ | refine cas_isi_int ?_ | refine cas_isi_bool ?_ | refine cas_isi_str ?_ | refine cas_isi_tup ?_ | refine cas_isi_lst ?_
    | refine iteT ?_ | refine iteF ?_ | refine and_nols ?_
  | ((with_reducible refine ev_varx ?_); refine ⟨_, rfl, ?_⟩)
  | ((with_reducible refine ops_ix_tupx ?_); first | refine ⟨_, rfl, ?_⟩ | refine ⟨_, atI_nat (j := 0) rfl, ?_⟩ | refine ⟨_, atI_nat (j := 1) rfl, ?_⟩ | refine ⟨_, atI_nat (j := 2) rfl, ?_⟩ | refine ⟨_, atI_nat (j := 3) rfl, ?_⟩ | refine ⟨_, atI_nat (j := 4) rfl, ?_⟩ | refine ⟨_, atI_nat (j := 5) rfl, ?_⟩ | refine ⟨_, atI_nat (j := 6) rfl, ?_⟩)
  | ((with_reducible refine sz_and ?_ ?_); exact rfl)
  | ((with_reducible refine ev_ownx ?_); refine ⟨_, rfl, ?_⟩)
  | ((with_reducible refine ev_refx ?_); refine ⟨_, rfl, ?_⟩)
  | (with_reducible refine sxn_seq ?_) | (with_reducible refine uns_neg ?_) | (with_reducible refine ev_frz (evn_lst ?_)) | (with_reducible refine sls_tup ?_) | (refine ev_revT ?_)
  | ((refine sx_extx ?_); refine ⟨_, rfl, ?_⟩) | ((with_reducible refine ops_add_tup ?_ ?_); exact le_line rfl) | (with_reducible refine cas_listT ?_)
  | ((with_reducible refine ifT ?_ ?_); exact rfl) | ((with_reducible refine ifF ?_ ?_); exact rfl))
local macro_rules | `(tactic| walk_at "go") => `(tactic| repeat (first | walk_at "dl" | with_reducible refine ⟨_, rfl, ?_⟩ | with_reducible refine ⟨_, _, rfl, ?_⟩))
/-! ### how the law looks -/
abbrev LRow (Pg : Program) (w : World) (K : PySem.W.Frag) (mg : Str → Option Value) (base : Heap) := Fn Pg w K mg base "_law_row_covers" 1 ["_law_lights", "_law_others"] (spR K)
section
variable {Pg : Program} {w : World} {K : PySem.W.Frag} {mg : Str → Option Value} {base : Heap} {f : Addr} {fd : FuncData}
end
/-! rows -/
def ltE (a : List Nat) : D → Bool
  | .tuple [.int k, .int y] => decide (((a.getD k.toNat 0 : Nat) : Int) < y)
  | _ => false
def idxE : D → Int
  | .tuple [.int k, _] => k
  | _ => 0
theorem enum_mem {ds : List D} {d : D} (h : d ∈ enumD ds) : ∃ (k : Nat) (x : D), ds[k]? = some x ∧ d = .tuple [.int (k : Nat), x] := by
  obtain ⟨k, hk, rfl⟩ := List.mem_iff_getElem.mp h
  have hl : k < ds.length := by rwa [enumD_len] at hk
  have e := enumD_get (List.getElem?_eq_getElem hl)
  rw [List.getElem?_eq_getElem hk] at e
  exact ⟨k, ds[k], List.getElem?_eq_getElem hl, Option.some.inj e⟩
theorem row_iff {a b : List Nat} (h : b.length ≤ a.length) : ((enumD (b.map num)).filter (ltE a)).isEmpty = geAll a b := by
  rw [Bool.eq_iff_iff, List.isEmpty_iff, List.filter_eq_nil_iff]
  unfold geAll
  rw [List.all_eq_true]
  constructor
  · intro q p hp
    obtain ⟨k, hk⟩ := List.mem_iff_getElem?.mp hp
    obtain ⟨h1, h2⟩ := List.getElem?_zip_eq_some.mp hk
    have h3 : (b.map num)[k]? = some (num p.2) := by rw [List.getElem?_map, h2]; rfl
    have h4 := q _ (List.mem_of_getElem? (enumD_get h3))
    have h5 : a.getD k 0 = p.1 := by rw [List.getD_eq_getElem?_getD, h1]; rfl
    simp only [ltE, num, Int.toNat_natCast, h5, decide_eq_true_eq] at h4 ⊢
    omega
  · intro q d hd
    obtain ⟨k, x, hk, rfl⟩ := enum_mem hd
    rw [List.getElem?_map] at hk
    obtain ⟨y, hy, rfl⟩ := Option.map_eq_some_iff.mp hk
    have hka : k < a.length := by
      have := (List.getElem?_eq_some_iff.mp hy).1
      omega
    have h1 := q (a[k], y) (List.mem_of_getElem? (i := k) (List.getElem?_zip_eq_some.mpr ⟨List.getElem?_eq_getElem hka, hy⟩))
    have h5 : a.getD k 0 = a[k] := by simp [hka]
    simp only [ltE, num, Int.toNat_natCast, h5, decide_eq_true_eq] at h1 ⊢
    omega
theorem ints_sh (ns : List Int) : SeqAt.shaped (.list (ns.map .int)) = true := by
  show ((PyData.list (ns.map .int)).canLay0 && decide ((PyData.list (ns.map .int)).depth ≤ 64)) = true
  simp only [PyData.canLay0, PyData.depth, ints_lay, ints_dep]
  rfl
theorem eqv_nil (xs : List D) : PyData.eqv (.list xs) (.list []) = xs.isEmpty := by
  cases xs <;> simp [PyData.eqv, PyData.eqvAll]
section
variable {Pg : Program} {w : World} {K : PySem.W.Frag} {mg : Str → Option Value} {base : Heap} {f : Addr} {fd : FuncData}
theorem ok_row_covers (F : Fun K "_law_row_covers" "_law_row_covers" s__law_row_covers f fd) (T : Txt mg) : FnG Pg w K mg base 1 f fd ["_law_lights", "_law_others"] (spR K) := by
  have nd := sc__law_row_covers.nd
  refine fnG_of F sc__law_row_covers pm_len (fun cdv A ou s H vs Q hgd hr h => ?_)
  have hu : (A.deeper (PyProof.Rows.envOfC "_law_row_covers" (defScope s__law_row_covers) s.heap.objs.size f cdv)).units + 64 < cLine := by have := hr.un; omega
  refine ⟨_, (pss_cons (ps_if (pt_cmpR opLt (pe_callB (r := rLenA K) call_len (by rfl) T.b_len (by decide +kernel) (pa_cons (pv 0) pa_nil)) (pe_callB (r := rLenA K) call_len (by rfl) T.b_len (by decide +kernel) (pa_cons (pv 1) pa_nil)) (nomark _)) (pss_one (ps_ret pe_bl)) pss_nil) (pss_one (ps_ret (pe_cmpR (r := rEq2 K) (opEq hu) (pe_lc (own := [("_law_k", 2), ("_law_light", 3)]) (g := (gTup K 2 (gCons (gName 2) (gCons (gName 3) gNil)))) rfl nd (pi_enumT (by rfl) T.b_enumerate (pa_cons (pv 1) pa_nil)) (blkOk_by (N := ["_law_lights", "_law_others", "_law_k", "_law_light"]) (sc := (defScope s__law_row_covers)) (by decide +kernel)) (fun _ _ _ _ _ => (pg_tup (n := 2) rfl (pgs_cons (pg_name (i := 2) nd rfl (Or.inl rfl) (Or.inr rfl)) (pgs_cons (pg_name (i := 3) nd rfl (Or.inl rfl) (Or.inr rfl)) pgs_nil)))) (fun _ _ _ _ _ => (pts_one (pt_cmpR opLt (pe_ix (r := rIx K) ix_seq (pv 0) (pv 2) (fun _ _ => rfl)) (pv 3) (nomark _)))) (fun _ _ _ _ _ => (pv 2))) (pe_lst pa_nil) (nomark _))))), bodyE (by decide) h encR_inj fun W F0 ⟨ns, ms⟩ ⟨hl, hl2⟩ _ => ?_⟩
  simp only at hl hl2
  change Sx K W H F0 _ [.dat (rowD ns), .dat (rowD ms), .un, .un] _
  walk_at "go"
  rw [List.length_map, List.length_map, nat_lt]
  refine if2 (fun h1 => ?_) (fun h1 => ?_)
  · refine sx_ret ?_
    walk_at "go"
    exact rt_bool (by simp only [covers]; rw [h1]; rfl)
  · have hle : ms.length ≤ ns.length := by
      have := of_decide_eq_false h1
      omega
    walk_at "go"
    refine sx_ret (ev_op (ev_frz (evn_map (ltE ns) (fun d => .int (idxE d)) (evi_enum (ea_cons (ev_varx ⟨_, rfl, ea_nil ⟨_, rfl, ?_, fun d hd => ?_, ?_⟩⟩))))))
    · rw [enumD_len, List.length_map, sizeLine_eq]
      omega
    · obtain ⟨k, x, hk, rfl⟩ := enum_mem hd
      rw [List.getElem?_map] at hk
      obtain ⟨y, hy, rfl⟩ := Option.map_eq_some_iff.mp hk
      have hka : k < ns.length := by
        have := (List.getElem?_eq_some_iff.mp hy).1
        omega
      refine gc_tup rfl (gcs_cons (gc_name (by decide) trivial (gcs_cons (gc_name (by decide) trivial (gcs_nil ?_)))))
      refine et_B ?_
      walk_at "go"
      refine ops_ix_tup (atI_nat (map_get hka)) ?_
      walk_at "go"
      refine ⟨?_, fun _ => ?_⟩
      · simp [ltE, hka]
      · walk_at "go"
        exact rfl
    · walk_at "go"
      have e : ((enumD (ms.map num)).filter (ltE ns)).map (fun d => PyData.int (idxE d)) = (((enumD (ms.map num)).filter (ltE ns)).map idxE).map .int := by
        rw [List.map_map]
        rfl
      refine ops_eq (by rw [e]; exact ints_sh _) rfl ?_
      refine rt_bool ?_
      rw [eqv_nil, List.isEmpty_map]
      simp only [covers]
      rw [h1, row_iff hle]
      rfl
end
end K19

namespace K19
open PySem L2 RZ DL
/-! the walk by data -/
local macro_rules | `(tactic| walk_at "dl") => `(tactic| first
  | with_reducible first
    | refine sx_seq ?_ | refine sx_if ?_ | refine sx_next ?_
    | refine et_not ?_ | refine et_B ?_ | refine et_test ?_ | refine et_and ?_ | refine et_or ?_ | refine et_yes ?_
    | refine ev_and ?_ | refine ev_or ?_ | refine ev_not ?_ | refine ev_if ?_ | refine ev_chain ?_
    | refine ev_int ?_ | refine ev_bl ?_ | refine ev_str ?_ | refine ev_non ?_ | refine ev_c ?_
    | refine ev_op ?_ | refine ev_un ?_ | refine ev_cb ?_ | refine ev_fn1 ?_ | refine ev_fn2 ?_ | refine ev_sl ?_ | refine eo_none ?_ | refine eo_some ?_ | refine ev_tup ?_
    | refine ea_cons ?_ | refine ea_nil ?_
    | refine ops_ge ?_ | refine ops_le ?_ | refine ops_gt ?_ | refine ops_lt ?_ | refine ops_leS ?_ | refine ops_ltS ?_ | refine ops_add_int ?_ | refine ops_sub ?_ | refine ops_isN ?_ | refine ops_isNot ?_ | refine ops_eq_int ?_ | refine ops_eqS ?_ | refine ops_neS ?_
    | refine cas_len_tup ?_ | refine cas_isi_int ?_ | refine cas_isi_bool ?_ | refine cas_isi_str ?_ | refine cas_isi_tup ?_ | refine cas_isi_lst ?_
    | refine iteT ?_ | refine iteF ?_ | refine and_nols ?_
  | ((with_reducible refine ev_varx ?_); refine ⟨_, rfl, ?_⟩)
  | ((with_reducible refine ops_ix_tupx ?_); first | refine ⟨_, rfl, ?_⟩ | refine ⟨_, atI_nat (j := 0) rfl, ?_⟩ | refine ⟨_, atI_nat (j := 1) rfl, ?_⟩ | refine ⟨_, atI_nat (j := 2) rfl, ?_⟩ | refine ⟨_, atI_nat (j := 3) rfl, ?_⟩ | refine ⟨_, atI_nat (j := 4) rfl, ?_⟩ | refine ⟨_, atI_nat (j := 5) rfl, ?_⟩ | refine ⟨_, atI_nat (j := 6) rfl, ?_⟩)
  | ((with_reducible refine sz_and ?_ ?_); exact rfl)
  | ((with_reducible refine ev_ownx ?_); refine ⟨_, rfl, ?_⟩)
  | ((with_reducible refine ev_refx ?_); refine ⟨_, rfl, ?_⟩)
  | (with_reducible refine sxn_seq ?_) | (with_reducible refine uns_neg ?_) | (with_reducible refine ev_frz (evn_lst ?_)) | (with_reducible refine sls_tup ?_) | (refine ev_revT ?_)
  | ((refine sx_extx ?_); refine ⟨_, rfl, ?_⟩) | ((with_reducible refine ops_add_tup ?_ ?_); exact le_line rfl) | (with_reducible refine cas_listT ?_)
  | ((with_reducible refine ifT ?_ ?_); exact rfl) | ((with_reducible refine ifF ?_ ?_); exact rfl))
local macro_rules | `(tactic| walk_at "go") => `(tactic| repeat (first | walk_at "dl" | with_reducible refine ⟨_, rfl, ?_⟩ | with_reducible refine ⟨_, _, rfl, ?_⟩))
/-! ### all rows of unlike ones -/
def fitIdx (ms : List Mk) (o : Mk) : List Nat := (List.range ms.length).filter fun k => fits (ms.getD k o) o
def ext (ms : List Mk) (o : Mk) (some : List Nat) : List (List Nat) := ((fitIdx ms o).filter fun k => !some.contains k).map fun k => some ++ [k]
def brute (ms : List Mk) (os : List Mk) (found : List (List Nat)) : List (List Nat) := os.foldl (fun fd o => fd.flatMap (ext ms o)) found
/-- light by light they rise -/
def rises (os : List Mk) : Prop := os.Pairwise fun x y => ∀ a b, x.left = y.left → x.nm = y.nm → x.light = some a → y.light = some b → a ≤ b
theorem last_some {ms : List Mk} {o : Mk} {ks : List Nat} : (lastFit ms o ks).isSome = ((List.range ms.length).any fun k => !ks.contains k && fits (ms.getD k o) o) := by
  unfold lastFit
  cases h : List.filter (fun k => !ks.contains k && fits (ms.getD k o) o) (List.range ms.length).reverse with
  | nil =>
    rw [List.filter_eq_nil_iff] at h
    symm
    show _ = false
    rw [List.any_eq_false]
    exact fun x hx => h x (List.mem_reverse.mpr hx)
  | cons x t =>
    symm
    show _ = true
    rw [List.any_eq_true]
    have m : x ∈ List.filter (fun k => !ks.contains k && fits (ms.getD k o) o) (List.range ms.length).reverse := by rw [h]; simp
    exact ⟨x, List.mem_reverse.mp (List.mem_filter.mp m).1, (List.mem_filter.mp m).2⟩
theorem last_get {ms : List Mk} {o : Mk} {ks : List Nat} {k : Nat} (h : lastFit ms o ks = some k) : k < ms.length ∧ ks.contains k = false ∧ fits (ms.getD k o) o = true ∧ ∀ j, j < ms.length → ks.contains j = false → fits (ms.getD j o) o = true → j ≤ k := by
  unfold lastFit at h
  have hm : k ∈ List.filter (fun k => !ks.contains k && fits (ms.getD k o) o) (List.range ms.length).reverse := by
    cases e : List.filter (fun k => !ks.contains k && fits (ms.getD k o) o) (List.range ms.length).reverse with
    | nil => rw [e] at h; cases h
    | cons x t =>
      rw [e] at h
      obtain rfl := Option.some.inj h
      simp
  have h1 := List.mem_filter.mp hm
  have h2 : k < ms.length := by simpa using h1.1
  have h3 := h1.2
  simp only [Bool.and_eq_true, Bool.not_eq_true'] at h3
  refine ⟨h2, h3.1, h3.2, fun j hj hc hf => ?_⟩
  have hs : (List.filter (fun k => !ks.contains k && fits (ms.getD k o) o) (List.range ms.length).reverse).Pairwise (· ≥ ·) := by
    refine List.Pairwise.sublist List.filter_sublist ?_
    rw [List.pairwise_reverse]
    exact List.pairwise_lt_range.imp fun {a b} q => by omega
  have hj' : j ∈ List.filter (fun k => !ks.contains k && fits (ms.getD k o) o) (List.range ms.length).reverse := by
    rw [List.mem_filter]
    exact ⟨by simpa using hj, by simp only [hc, hf]; rfl⟩
  cases e : List.filter (fun k => !ks.contains k && fits (ms.getD k o) o) (List.range ms.length).reverse with
  | nil => rw [e] at h; cases h
  | cons x t =>
    rw [e] at h hs hj'
    obtain rfl := Option.some.inj h
    rcases List.mem_cons.mp hj' with rfl | m
    · exact Nat.le_refl _
    · exact (List.pairwise_cons.mp hs).1 j m
theorem fit_mem {ms : List Mk} {o : Mk} {k : Nat} : k ∈ fitIdx ms o ↔ k < ms.length ∧ fits (ms.getD k o) o = true := by
  unfold fitIdx
  rw [List.mem_filter, List.mem_range]
theorem getD_irr {ms : List Mk} {k : Nat} (o o' : Mk) (h : k < ms.length) : ms.getD k o = ms.getD k o' := by simp [h]
theorem fits_of {x y z o1 : Mk} (hy : fits x o1 = true) (hx0 : fits z y = true) (hz1 : fits z o1 = true) (hr : ∀ a b, y.left = o1.left → y.nm = o1.nm → y.light = some a → o1.light = some b → a ≤ b) : fits x y = true := by
  obtain ⟨n1, l1, k1⟩ := x
  obtain ⟨n2, l2, k2⟩ := y
  obtain ⟨n3, l3, k3⟩ := z
  obtain ⟨n4, l4, k4⟩ := o1
  simp only [fits, Bool.and_eq_true, decide_eq_true_eq] at hy hx0 hz1 hr ⊢
  obtain ⟨rfl, rfl, h1⟩ := hy
  obtain ⟨rfl, rfl, h2⟩ := hx0
  obtain ⟨rfl, rfl, h3⟩ := hz1
  refine ⟨rfl, rfl, ?_⟩
  cases l1 <;> cases l2 <;> cases l3 <;> cases l4 <;> simp_all
  omega
theorem brute_greedy {ms os : List Mk} (hs : rises os) (hl : os.length ≤ 2) : (!(brute ms os [[]]).isEmpty) = greedy ms os.reverse [] := by
  match os, hl with
  | [], _ => rfl
  | [o], _ =>
    have e1 : greedy ms [o].reverse [] = (lastFit ms o []).isSome := by
      simp only [List.reverse_cons, List.reverse_nil, List.nil_append]
      unfold greedy
      cases lastFit ms o [] <;> rfl
    rw [e1, last_some]
    simp only [brute, List.foldl_cons, List.foldl_nil, List.flatMap_cons, List.flatMap_nil, List.append_nil, ext, List.isEmpty_map]
    rw [Bool.eq_iff_iff]
    simp only [Bool.not_eq_true', List.any_eq_true, List.mem_range, Bool.and_eq_true]
    rw [← Bool.not_eq_true, List.isEmpty_iff, List.filter_eq_nil_iff]
    constructor
    · intro h
      have h := Classical.not_forall.mp h
      obtain ⟨k, hk⟩ := h
      have hk := Classical.not_imp.mp hk
      have := fit_mem.mp hk.1
      exact ⟨k, this.1, rfl, this.2⟩
    · rintro ⟨k, h1, _, h2⟩ h
      exact h k (fit_mem.mpr ⟨h1, h2⟩) rfl
  | [o0, o1], _ =>
    have hr := (List.pairwise_cons.mp hs).1 o1 (by simp)
    have eb : (!(brute ms [o0, o1] [[]]).isEmpty) = true ↔ ∃ i j, i ∈ fitIdx ms o0 ∧ j ∈ fitIdx ms o1 ∧ i ≠ j := by
      simp only [brute, List.foldl_cons, List.foldl_nil, List.flatMap_cons, List.flatMap_nil, List.append_nil, ext]
      rw [Bool.not_eq_true', ← Bool.not_eq_true, List.isEmpty_iff, List.flatMap_eq_nil_iff]
      constructor
      · intro h
        obtain ⟨l, hl⟩ := Classical.not_forall.mp h
        obtain ⟨hm, hn⟩ := Classical.not_imp.mp hl
        obtain ⟨i, hi, rfl⟩ := List.mem_map.mp hm
        unfold ext at hn
        rw [List.map_eq_nil_iff, List.filter_eq_nil_iff] at hn
        obtain ⟨j, hj⟩ := Classical.not_forall.mp hn
        obtain ⟨hj1, hj2⟩ := Classical.not_imp.mp hj
        have hj2 := Classical.not_not.mp hj2
        refine ⟨i, j, (List.mem_filter.mp hi).1, hj1, fun e => ?_⟩
        subst e
        simp at hj2
      · rintro ⟨i, j, hi, hj, hne⟩ h
        have q := h ([] ++ [i]) (List.mem_map.mpr ⟨i, List.mem_filter.mpr ⟨hi, rfl⟩, rfl⟩)
        unfold ext at q
        rw [List.map_eq_nil_iff, List.filter_eq_nil_iff] at q
        exact q j hj (by simp; exact fun e => hne e.symm)
    rw [Bool.eq_iff_iff, eb]
    simp only [List.reverse_cons, List.reverse_nil, List.nil_append, List.cons_append]
    have eg : greedy ms [o1, o0] [] = true ↔ ∃ k, lastFit ms o1 [] = some k ∧ ∃ i, i < ms.length ∧ i ≠ k ∧ fits (ms.getD i o0) o0 = true := by
      unfold greedy
      cases h1 : lastFit ms o1 [] with
      | none => simp
      | some k =>
        have e2 : greedy ms [o0] ([] ++ [k]) = (lastFit ms o0 ([] ++ [k])).isSome := by
          unfold greedy
          cases lastFit ms o0 ([] ++ [k]) <;> rfl
        simp only [e2, last_some]
        rw [List.any_eq_true]
        constructor
        · rintro ⟨i, hi, hf⟩
          simp only [Bool.and_eq_true, Bool.not_eq_true'] at hf
          refine ⟨k, rfl, i, by simpa using hi, fun e => ?_, hf.2⟩
          subst e
          simp at hf
        · rintro ⟨k', hk, i, hi, hne, hf⟩
          obtain rfl := Option.some.inj hk
          refine ⟨i, by simpa using hi, ?_⟩
          rw [hf, Bool.and_true]
          simp
          exact hne
    rw [eg]
    constructor
    · rintro ⟨i, j, hi, hj, hne⟩
      obtain ⟨hi1, hi2⟩ := fit_mem.mp hi
      obtain ⟨hj1, hj2⟩ := fit_mem.mp hj
      have hsome : (lastFit ms o1 []).isSome = true := by
        rw [last_some, List.any_eq_true]
        exact ⟨j, by simpa using hj1, by rw [hj2]; rfl⟩
      obtain ⟨k, hk⟩ := Option.isSome_iff_exists.mp hsome
      obtain ⟨k1, _, k3, k4⟩ := last_get hk
      refine ⟨k, hk, ?_⟩
      by_cases e : i = k
      · subst e
        refine ⟨j, hj1, Ne.symm hne, ?_⟩
        rw [getD_irr o0 o1 hj1]
        rw [getD_irr o0 o1 hi1] at hi2
        exact fits_of hj2 hi2 k3 hr
      · exact ⟨i, hi1, e, hi2⟩
    · rintro ⟨k, hk, i, hi, hne, hf⟩
      obtain ⟨k1, _, k3, _⟩ := last_get hk
      exact ⟨i, k, fit_mem.mpr ⟨hi, hf⟩, fit_mem.mpr ⟨k1, k3⟩, hne⟩
/-! pairings as the law goes through them -/
end K19

namespace K19
open PySem L2 RZ DL
/-! the walk by data -/
local macro_rules | `(tactic| walk_at "dl") => `(tactic| first
  | with_reducible first
    | refine sx_seq ?_ | refine sx_if ?_ | refine sx_next ?_
    | refine et_not ?_ | refine et_B ?_ | refine et_test ?_ | refine et_and ?_ | refine et_or ?_ | refine et_yes ?_
    | refine ev_and ?_ | refine ev_or ?_ | refine ev_not ?_ | refine ev_if ?_ | refine ev_chain ?_
    | refine ev_int ?_ | refine ev_bl ?_ | refine ev_str ?_ | refine ev_non ?_ | refine ev_c ?_
    | refine ev_op ?_ | refine ev_un ?_ | refine ev_cb ?_ | refine ev_fn1 ?_ | refine ev_fn2 ?_ | refine ev_sl ?_ | refine eo_none ?_ | refine eo_some ?_ | refine ev_tup ?_
    | refine ea_cons ?_ | refine ea_nil ?_
    | refine ops_ge ?_ | refine ops_le ?_ | refine ops_gt ?_ | refine ops_lt ?_ | refine ops_leS ?_ | refine ops_ltS ?_ | refine ops_add_int ?_ | refine ops_sub ?_ | refine ops_isN ?_ | refine ops_isNot ?_ | refine ops_eq_int ?_ | refine ops_eqS ?_ | refine ops_neS ?_
    | refine cas_len_tup ?_ | refine cas_isi_int ?_ | refine cas_isi_bool ?_ | refine cas_isi_str ?_ | refine cas_isi_tup ?_ | refine cas_isi_lst ?_
    | refine iteT ?_ | refine iteF ?_ | refine and_nols ?_
  | ((with_reducible refine ev_varx ?_); refine ⟨_, rfl, ?_⟩)
  | ((with_reducible refine ops_ix_tupx ?_); first | refine ⟨_, rfl, ?_⟩ | refine ⟨_, atI_nat (j := 0) rfl, ?_⟩ | refine ⟨_, atI_nat (j := 1) rfl, ?_⟩ | refine ⟨_, atI_nat (j := 2) rfl, ?_⟩ | refine ⟨_, atI_nat (j := 3) rfl, ?_⟩ | refine ⟨_, atI_nat (j := 4) rfl, ?_⟩ | refine ⟨_, atI_nat (j := 5) rfl, ?_⟩ | refine ⟨_, atI_nat (j := 6) rfl, ?_⟩)
  | ((with_reducible refine sz_and ?_ ?_); exact rfl)
  | ((with_reducible refine ev_ownx ?_); refine ⟨_, rfl, ?_⟩)
  | ((with_reducible refine ev_refx ?_); refine ⟨_, rfl, ?_⟩)
  | (with_reducible refine sxn_seq ?_) | (with_reducible refine uns_neg ?_) | (with_reducible refine ev_frz (evn_lst ?_)) | (with_reducible refine sls_tup ?_) | (refine ev_revT ?_)
  | ((refine sx_extx ?_); refine ⟨_, rfl, ?_⟩) | ((with_reducible refine ops_add_tup ?_ ?_); exact le_line rfl) | (with_reducible refine cas_listT ?_)
  | ((with_reducible refine ifT ?_ ?_); exact rfl) | ((with_reducible refine ifF ?_ ?_); exact rfl))
local macro_rules | `(tactic| walk_at "go") => `(tactic| repeat (first | walk_at "dl" | with_reducible refine ⟨_, rfl, ?_⟩ | with_reducible refine ⟨_, _, rfl, ?_⟩))
/-! ### an order of at most two makings -/
theorem fits_refl (x : Mk) : fits x x = true := by
  obtain ⟨n, l, k⟩ := x
  cases l <;> simp [fits]
theorem fits_trans {x y z : Mk} (h : fits x y = true) (h' : fits y z = true) : fits x z = true := by
  obtain ⟨n1, l1, k1⟩ := x
  obtain ⟨n2, l2, k2⟩ := y
  obtain ⟨n3, l3, k3⟩ := z
  simp only [fits, Bool.and_eq_true, decide_eq_true_eq] at h h' ⊢
  obtain ⟨rfl, rfl, h⟩ := h
  obtain ⟨rfl, rfl, h'⟩ := h'
  refine ⟨rfl, rfl, ?_⟩
  cases l1 <;> cases l2 <;> cases l3 <;> simp_all
  omega
theorem fits_anti {x y : Mk} (h : fits x y = true) (h' : fits y x = true) : x = y := by
  obtain ⟨n1, l1, k1⟩ := x
  obtain ⟨n2, l2, k2⟩ := y
  simp only [fits, Bool.and_eq_true, decide_eq_true_eq] at h h'
  obtain ⟨rfl, rfl, h⟩ := h
  obtain ⟨_, _, h'⟩ := h'
  cases l1 <;> cases l2 <;> simp_all
  omega
def emb : List Mk → List Mk → Bool
  | _, [] => true
  | [x], [o] => fits x o
  | [x, y], [o] => fits x o || fits y o
  | [x, y], [o, p] => (fits x o && fits y p) || (fits y o && fits x p)
  | _, _ => false
theorem greedy_emb {a b : List Mk} (ha : a.length ≤ 2) (hb : b.length ≤ 2) (hs : rises b) : greedy a b.reverse [] = emb a b := by
  rw [← brute_greedy hs hb]
  match a, b, ha, hb with
  | _, [], _, _ => cases a <;> rfl
  | [], [o], _, _ => rfl
  | [], [o, p], _, _ => rfl
  | [x], [o], _, _ =>
    cases h1 : fits x o <;> simp [brute, ext, fitIdx, emb, h1, List.range, List.range.loop, List.filter]
  | [x], [o, p], _, _ =>
    cases h1 : fits x o <;> cases h2 : fits x p <;> simp [brute, ext, fitIdx, emb, h1, h2, List.range, List.range.loop, List.filter]
  | [x, y], [o], _, _ =>
    cases h1 : fits x o <;> cases h2 : fits y o <;> simp [brute, ext, fitIdx, emb, h1, h2, List.range, List.range.loop, List.filter]
  | [x, y], [o, p], _, _ =>
    cases h1 : fits x o <;> cases h2 : fits y o <;> cases h3 : fits x p <;> cases h4 : fits y p <;> simp [brute, ext, fitIdx, emb, h1, h2, h3, h4, List.range, List.range.loop, List.filter]
theorem emb_refl {a : List Mk} (ha : a.length ≤ 2) : emb a a = true := by
  match a, ha with
  | [], _ => rfl
  | [x], _ => exact fits_refl x
  | [x, y], _ => simp only [emb, fits_refl, Bool.and_self, Bool.true_or]
theorem emb_trans {a b c : List Mk} (ha : a.length ≤ 2) (hb : b.length ≤ 2) (hc : c.length ≤ 2) (h : emb a b = true) (h' : emb b c = true) : emb a c = true := by
  have T := @fits_trans
  match a, b, c, ha, hb, hc with
  | a, _, [], _, _, _ => cases a <;> rfl
  | a, [], [o], _, _, _ => cases h'
  | a, [], [o, p], _, _, _ => cases h'
  | a, [z], [o, p], _, _, _ => cases h'
  | [], [z], _, _, _, _ => cases h
  | [], [z, v], _, _, _, _ => cases h
  | [x], [z, v], _, _, _, _ => cases h
  | [x], [z], [o], _, _, _ => exact T h h'
  | [x, y], [z], [o], _, _, _ =>
    simp only [emb, Bool.or_eq_true] at h h' ⊢
    rcases h with h | h
    · exact .inl (T h h')
    · exact .inr (T h h')
  | [x, y], [z, v], [o], _, _, _ =>
    simp only [emb, Bool.or_eq_true, Bool.and_eq_true] at h h' ⊢
    rcases h with ⟨h1, h2⟩ | ⟨h1, h2⟩ <;> rcases h' with h' | h'
    · exact .inl (T h1 h')
    · exact .inr (T h2 h')
    · exact .inr (T h1 h')
    · exact .inl (T h2 h')
  | [x, y], [z, v], [o, p], _, _, _ =>
    simp only [emb, Bool.or_eq_true, Bool.and_eq_true] at h h' ⊢
    rcases h with ⟨h1, h2⟩ | ⟨h1, h2⟩ <;> rcases h' with ⟨g1, g2⟩ | ⟨g1, g2⟩
    · exact .inl ⟨T h1 g1, T h2 g2⟩
    · exact .inr ⟨T h2 g1, T h1 g2⟩
    · exact .inr ⟨T h1 g1, T h2 g2⟩
    · exact .inl ⟨T h2 g1, T h1 g2⟩
/-- by the order of data -/
abbrev mkLe : Mk → Mk → Bool := PySem.W.dataLe false mkD
abbrev srt (ms : List Mk) : Prop := ms.Pairwise fun x y => mkLe x y = true
open PySem.W PyProof.Rows in
theorem toks_mk {x y : Mk} (h : keyToks (mkD x) = keyToks (mkD y)) : x = y := by
  obtain ⟨n, l, k⟩ := x
  obtain ⟨n', l', k'⟩ := y
  have ex : ∀ {a b : Str}, a.cps.toList = b.cps.toList → a = b := fun {a b} e => by
    cases a
    cases b
    simp only at e
    rw [Array.toList_inj.mp e]
  cases l <;> cases l' <;> simp only [mkD, thingD, keyToks, keyToksAll, num, List.cons_append, List.nil_append, List.append_nil, List.append_assoc, List.cons.injEq, Sum.inl.injEq, Sum.inr.injEq, Int.ofNat_inj, true_and, and_true] at h
  · obtain ⟨h1, rfl⟩ := h
    rw [ex h1]
  · exact absurd h (by simp)
  · exact absurd h (by simp)
  · obtain ⟨h1, rfl, rfl⟩ := h
    rw [ex h1]
open PySem.W PyProof.Rows in
theorem mkLe_anti {x y : Mk} (h : mkLe x y = true) (h' : mkLe y x = true) : x = y := by
  have h1 : (!lexLt itemOrd (keyToks (mkD y)) (keyToks (mkD x))) = true := h
  have h2 : (!lexLt itemOrd (keyToks (mkD x)) (keyToks (mkD y))) = true := h'
  rw [Bool.not_eq_true'] at h1 h2
  exact toks_mk (lex_total (O := itemOrd) _ _ h2 h1)
theorem emb_anti {a b : List Mk} (ha : a.length ≤ 2) (hb : b.length ≤ 2) (sa : srt a) (sb : srt b) (h : emb a b = true) (h' : emb b a = true) : a = b := by
  have T := @fits_trans
  match a, b, ha, hb with
  | [], [], _, _ => rfl
  | [], [o], _, _ => cases h
  | [], [o, p], _, _ => cases h
  | [x], [], _, _ => cases h'
  | [x, y], [], _, _ => cases h'
  | [x], [o, p], _, _ => cases h
  | [x, y], [o], _, _ => cases h'
  | [x], [o], _, _ => rw [fits_anti h h']
  | [x, y], [o, p], _, _ =>
    simp only [emb, Bool.or_eq_true, Bool.and_eq_true] at h h'
    rcases h with ⟨h1, h2⟩ | ⟨h1, h2⟩ <;> rcases h' with ⟨g1, g2⟩ | ⟨g1, g2⟩
    · rw [fits_anti h1 g1, fits_anti h2 g2]
    · have e1 := fits_anti h1 (T g2 (T h2 g1))
      have e2 := fits_anti h2 (T g1 (T h1 g2))
      rw [e1, e2]
    · have e3 := fits_anti (T h1 (T g1 h2)) g2
      have e4 := fits_anti (T h2 (T g2 h1)) g1
      rw [e4, e3]
    · have e1 := fits_anti h1 g2
      have e2 := fits_anti h2 g1
      subst e1 e2
      have q1 := (List.pairwise_cons.mp sa).1 y List.mem_cons_self
      have q2 := (List.pairwise_cons.mp sb).1 x List.mem_cons_self
      rw [mkLe_anti q1 q2]
/-! ### rows -/
theorem geAll_iff {a b : List Nat} (hl : a.length = b.length) : geAll a b = true ↔ ∀ k (h : k < b.length), b[k] ≤ a[k] := by
  unfold geAll
  rw [List.all_eq_true]
  constructor
  · intro h k hk
    have := h (a[k], b[k]) (List.mem_iff_getElem.mpr ⟨k, by rw [List.length_zip]; omega, List.getElem_zip⟩)
    exact of_decide_eq_true this
  · intro h p hp
    obtain ⟨k, hk, rfl⟩ := List.getElem_of_mem hp
    rw [List.length_zip] at hk
    rw [List.getElem_zip]
    exact decide_eq_true (h k (by omega))
theorem geAll_refl (a : List Nat) : geAll a a = true := (geAll_iff rfl).mpr fun k h => Nat.le_refl _
theorem geAll_trans {a b c : List Nat} (h1 : a.length = b.length) (h2 : b.length = c.length) (h : geAll a b = true) (h' : geAll b c = true) : geAll a c = true :=
  (geAll_iff (h1.trans h2)).mpr fun k hk => Nat.le_trans ((geAll_iff h2).mp h' k hk) ((geAll_iff h1).mp h k (by omega))
theorem geAll_anti {a b : List Nat} (h1 : a.length = b.length) (h : geAll a b = true) (h' : geAll b a = true) : a = b :=
  List.ext_getElem h1 fun k ha hb => Nat.le_antisymm ((geAll_iff h1.symm).mp h' k ha) ((geAll_iff h1).mp h k hb)
theorem covers_iff {a b : List Nat} : covers a b = true ↔ b.length ≤ a.length ∧ ∀ k (h : k < b.length) (h' : k < a.length), b[k] ≤ a[k] := by
  unfold covers geAll
  rw [Bool.and_eq_true, Bool.not_eq_true', decide_eq_false_iff_not, List.all_eq_true, Nat.not_lt]
  refine ⟨fun ⟨h, g⟩ => ⟨h, fun k hk hk' => ?_⟩, fun ⟨h, g⟩ => ⟨h, fun p hp => ?_⟩⟩
  · exact of_decide_eq_true (g (a[k], b[k]) (List.mem_iff_getElem.mpr ⟨k, by rw [List.length_zip]; omega, List.getElem_zip⟩))
  · obtain ⟨k, hk, rfl⟩ := List.getElem_of_mem hp
    rw [List.length_zip] at hk
    rw [List.getElem_zip]
    exact decide_eq_true (g k (by omega) (by omega))
theorem covers_refl (a : List Nat) : covers a a = true := covers_iff.mpr ⟨Nat.le_refl _, fun k h _ => Nat.le_refl _⟩
theorem covers_trans {a b c : List Nat} (h : covers a b = true) (h' : covers b c = true) : covers a c = true := by
  obtain ⟨l1, g1⟩ := covers_iff.mp h
  obtain ⟨l2, g2⟩ := covers_iff.mp h'
  exact covers_iff.mpr ⟨Nat.le_trans l2 l1, fun k hk hk' => Nat.le_trans (g2 k hk (by omega)) (g1 k (by omega) hk')⟩
theorem covers_anti {a b : List Nat} (h : covers a b = true) (h' : covers b a = true) : a = b := by
  obtain ⟨l1, g1⟩ := covers_iff.mp h
  obtain ⟨l2, g2⟩ := covers_iff.mp h'
  exact List.ext_getElem (Nat.le_antisymm l2 l1) fun k ha hb => Nat.le_antisymm (g2 k ha hb) (g1 k hb ha)
def covAll (a b : List (List Nat)) : Bool := (a.zip b).all fun p => covers p.1 p.2
theorem covAll_iff {a b : List (List Nat)} (hl : a.length = b.length) : covAll a b = true ↔ ∀ k (h : k < b.length), covers a[k] b[k] = true := by
  unfold covAll
  rw [List.all_eq_true]
  constructor
  · intro h k hk
    exact h (a[k], b[k]) (List.mem_iff_getElem.mpr ⟨k, by rw [List.length_zip]; omega, List.getElem_zip⟩)
  · intro h p hp
    obtain ⟨k, hk, rfl⟩ := List.getElem_of_mem hp
    rw [List.length_zip] at hk
    rw [List.getElem_zip]
    exact h k (by omega)
theorem covAll_refl (a : List (List Nat)) : covAll a a = true := (covAll_iff rfl).mpr fun k h => covers_refl _
theorem covAll_trans {a b c : List (List Nat)} (h1 : a.length = b.length) (h2 : b.length = c.length) (h : covAll a b = true) (h' : covAll b c = true) : covAll a c = true :=
  (covAll_iff (h1.trans h2)).mpr fun k hk => covers_trans ((covAll_iff h1).mp h k (by omega)) ((covAll_iff h2).mp h' k hk)
theorem covAll_anti {a b : List (List Nat)} (h1 : a.length = b.length) (h : covAll a b = true) (h' : covAll b a = true) : a = b :=
  List.ext_getElem h1 fun k ha hb => covers_anti ((covAll_iff h1).mp h k hb) ((covAll_iff h1.symm).mp h' k ha)
/-! ### stands -/
/-- as the order wants them: of n kinds -/
structure okO (n : Nat) (s : St) : Prop where
  us : s.us.length = n
  ls : s.ls.length = n
  mm : s.ms.length ≤ 2
  sr : srt s.ms
  rs : rises s.ms
theorem noLess_is {n : Nat} {a b : St} (oa : okO n a) (ob : okO n b) : noLess a b = (decide (a.ph = b.ph) && (decide (b.rs ≤ a.rs) && decide (b.st ≤ a.st)) && (geAll a.us b.us && (covAll a.ls b.ls && emb a.ms b.ms))) := by
  unfold noLess
  rw [greedy_emb oa.mm ob.mm ob.rs]
  rfl
theorem noLess_iff {n : Nat} {a b : St} (oa : okO n a) (ob : okO n b) : noLess a b = true ↔ a.ph = b.ph ∧ b.rs ≤ a.rs ∧ b.st ≤ a.st ∧ geAll a.us b.us = true ∧ covAll a.ls b.ls = true ∧ emb a.ms b.ms = true := by
  rw [noLess_is oa ob]
  simp only [Bool.and_eq_true, decide_eq_true_eq, and_assoc]
theorem noLess_refl {n : Nat} {a : St} (oa : okO n a) : noLess a a = true := (noLess_iff oa oa).mpr ⟨rfl, Nat.le_refl _, Nat.le_refl _, geAll_refl _, covAll_refl _, emb_refl oa.mm⟩
theorem noLess_trans {n : Nat} {a b c : St} (oa : okO n a) (ob : okO n b) (oc : okO n c) (h : noLess a b = true) (h' : noLess b c = true) : noLess a c = true := by
  obtain ⟨h1, h2, h3, h4, h5, h6⟩ := (noLess_iff oa ob).mp h
  obtain ⟨g1, g2, g3, g4, g5, g6⟩ := (noLess_iff ob oc).mp h'
  exact (noLess_iff oa oc).mpr ⟨h1.trans g1, Nat.le_trans g2 h2, Nat.le_trans g3 h3, geAll_trans (oa.us.trans ob.us.symm) (ob.us.trans oc.us.symm) h4 g4, covAll_trans (oa.ls.trans ob.ls.symm) (ob.ls.trans oc.ls.symm) h5 g5, emb_trans oa.mm ob.mm oc.mm h6 g6⟩
theorem noLess_anti {n : Nat} {a b : St} (oa : okO n a) (ob : okO n b) (h : noLess a b = true) (h' : noLess b a = true) : a = b := by
  obtain ⟨h1, h2, h3, h4, h5, h6⟩ := (noLess_iff oa ob).mp h
  obtain ⟨g1, g2, g3, g4, g5, g6⟩ := (noLess_iff ob oa).mp h'
  obtain ⟨u1, l1, s1, m1, p1, r1⟩ := a
  obtain ⟨u2, l2, s2, m2, p2, r2⟩ := b
  obtain rfl : u1 = u2 := geAll_anti (oa.us.trans ob.us.symm) h4 g4
  obtain rfl : l1 = l2 := covAll_anti (oa.ls.trans ob.ls.symm) h5 g5
  obtain rfl : m1 = m2 := emb_anti oa.mm ob.mm oa.sr ob.sr h6 g6
  simp only at h1 h2 h3 g2 g3
  obtain rfl := h1
  obtain rfl : s1 = s2 := by omega
  obtain rfl : r1 = r2 := by omega
  rfl
end K19

namespace K19
open PySem L2 RZ DL
/-! the walk by data -/
local macro_rules | `(tactic| walk_at "dl") => `(tactic| first
  | with_reducible first
    | refine sx_seq ?_ | refine sx_if ?_ | refine sx_ret ?_ | refine sx_next ?_ | refine sx_asg ?_
    | refine et_not ?_ | refine et_B ?_ | refine et_test ?_ | refine et_and ?_ | refine et_or ?_ | refine et_yes ?_
    | refine ev_and ?_ | refine ev_or ?_ | refine ev_not ?_ | refine ev_if ?_ | refine ev_chain ?_
    | refine ev_int ?_ | refine ev_bl ?_ | refine ev_str ?_ | refine ev_non ?_ | refine ev_c ?_
    | refine ev_op ?_ | refine ev_un ?_ | refine ev_cb ?_ | refine ev_fn1 ?_ | refine ev_fn2 ?_ | refine ev_sl ?_ | refine eo_none ?_ | refine eo_some ?_ | refine ev_tup ?_
    | refine ea_cons ?_ | refine ea_nil ?_
    | refine ops_ge ?_ | refine ops_le ?_ | refine ops_gt ?_ | refine ops_lt ?_ | refine ops_leS ?_ | refine ops_ltS ?_ | refine ops_add_int ?_ | refine ops_sub ?_ | refine ops_isN ?_ | refine ops_isNot ?_ | refine ops_eq_int ?_ | refine ops_eqS ?_ | refine ops_neS ?_
    | refine cas_len_tup ?_ | refine cas_isi_int ?_ | refine cas_isi_bool ?_ | refine cas_isi_str ?_ | refine cas_isi_tup ?_ | refine cas_isi_lst ?_
    | refine iteT ?_ | refine iteF ?_ | refine and_nols ?_
  | ((with_reducible refine ev_varx ?_); refine ⟨_, rfl, ?_⟩)
  | ((with_reducible refine ops_ix_tupx ?_); first | refine ⟨_, rfl, ?_⟩ | refine ⟨_, atI_nat (j := 0) rfl, ?_⟩ | refine ⟨_, atI_nat (j := 1) rfl, ?_⟩ | refine ⟨_, atI_nat (j := 2) rfl, ?_⟩ | refine ⟨_, atI_nat (j := 3) rfl, ?_⟩ | refine ⟨_, atI_nat (j := 4) rfl, ?_⟩ | refine ⟨_, atI_nat (j := 5) rfl, ?_⟩ | refine ⟨_, atI_nat (j := 6) rfl, ?_⟩)
  | ((with_reducible refine sz_and ?_ ?_); exact rfl)
  | ((with_reducible refine ev_ownx ?_); refine ⟨_, rfl, ?_⟩)
  | ((with_reducible refine ev_refx ?_); refine ⟨_, rfl, ?_⟩)
  | (with_reducible refine sxn_seq ?_) | (with_reducible refine uns_neg ?_) | (with_reducible refine ev_frz (evn_lst ?_)) | (with_reducible refine sls_tup ?_) | (refine ev_revT ?_)
  | ((refine sx_extx ?_); refine ⟨_, rfl, ?_⟩) | ((with_reducible refine ops_add_tup ?_ ?_); exact le_line rfl) | (with_reducible refine cas_listT ?_)
  | ((with_reducible refine ifT ?_ ?_); exact rfl) | ((with_reducible refine ifF ?_ ?_); exact rfl))
local macro_rules | `(tactic| walk_at "go") => `(tactic| repeat (first | walk_at "dl" | with_reducible refine ⟨_, rfl, ?_⟩ | with_reducible refine ⟨_, _, rfl, ?_⟩))
/-! ### drawing -/
def nm : Nm := ⟨"cells", "next", "rest", "draws", by decide +kernel, by decide +kernel, by decide +kernel, by decide +kernel, by decide +kernel, by decide +kernel⟩
def preDraw (ds : List D) : Prop := ∃ m : Int, ds = [.int m] ∧ 1 ≤ m ∧ m < 2 ^ 30
def postDraw (ds : List D) (d : D) : Prop := ∀ m : Int, ds = [.int m] → ∃ r : Int, d = .int r ∧ 0 ≤ r ∧ r < m
section
variable {Pg : Program} {w : World} {K : PySem.W.Frag} {mg : Str → Option Value} {base : Heap} {f : Addr} {fd : FuncData}
theorem fmod_in {i m : Int} (h : 1 ≤ m) : 0 ≤ i.fmod m ∧ i.fmod m < m := by
  rw [Int.fmod_eq_emod_of_nonneg i (by omega)]
  exact ⟨Int.emod_nonneg _ (by omega), Int.emod_lt_of_pos _ (by omega)⟩
theorem fdiv_nn {i m : Int} (h : 1 ≤ m) (hi : 0 ≤ i) : 0 ≤ i.fdiv m := by
  rw [Int.fdiv_eq_ediv_of_nonneg i (by omega)]
  exact Int.ediv_nonneg hi (by omega)
theorem ok_draw (F : Fun K "_law_draw" "_law_draw" s__law_draw f fd) (T : Txt mg) : FnG Pg w K mg base 1 f fd ["_law_feed_here", "_law_many"] (PmF nm K 1 preDraw postDraw) := by
  have nd := sc__law_draw.nd
  refine fnG_of F sc__law_draw pm_len (fun cdv A ou s H vs Q hgd hr h => ?_)
  have hu := hr.units
  have hu1 : (A.deeper (PyProof.Rows.envOfC "_law_draw" (defScope s__law_draw) s.heap.objs.size f cdv)).units + 1 < cLine := by omega
  refine ⟨_, (pss_cons (ps_dput hu1 (pv 0) pe_str (pe_op (r := rAdd4 K) opAdd (pe_dget hu1 (pv 0) pe_str (fun _ _ => rfl)) pe_int) rfl) (pss_cons (ps_if (pt_cmpR opGt (pe_dget hu1 (pv 0) pe_str (fun _ _ => rfl)) pe_int (nomark _)) (pss_cons (ps_set (i := 2) nd rfl (Or.inl rfl) (pe_op op_modN (pe_dget hu1 (pv 0) pe_str (fun _ _ => rfl)) (pv 1)) (hf := Or.inl rfl)) (pss_cons (ps_dput hu1 (pv 0) pe_str (pe_op op_fdivN (pe_dget hu1 (pv 0) pe_str (fun _ _ => rfl)) (pv 1)) rfl) (pss_one (ps_ret (pv 2))))) pss_nil) (pss_cons (ps_set (i := 3) nd rfl (Or.inl rfl) (pe_dget hu1 (pv 0) pe_str (fun _ _ => rfl)) (hf := Or.inl rfl)) (pss_cons (ps_dput hu1 (pv 0) pe_str (pe_op (r := rAdd4 K) opAdd (pv 3) pe_int) rfl) (pss_cons (ps_set (i := 4) nd rfl (Or.inl rfl) (pe_ifExp (pt_cmpR (r := rNe2 K) (opNe hu) (pe_dget hu1 (pv 0) pe_str (fun _ _ => rfl)) (pe_lst pa_nil) (nomark _)) (pe_ix (r := rIx K) ix_seq (pe_dget hu1 (pv 0) pe_str (fun _ _ => rfl)) (pe_op op_modN (pv 3) (pe_callB (r := rLenA K) call_len (by rfl) T.b_len (by decide +kernel) (pa_cons (pe_dget hu1 (pv 0) pe_str (fun _ _ => rfl)) pa_nil))) (fun _ _ => rfl)) pe_int) (hf := Or.inl rfl)) (pss_cons (ps_if (PW.pt (pw_and (pt_cmpR opGe (pv 4) (pe_op op_pow pe_int pe_int) (nomark _)) (pw_and1 (pt_cmpR opLt (pv 3) (pe_callB (r := rLenA K) call_len (by rfl) T.b_len (by decide +kernel) (pa_cons (pe_dget hu1 (pv 0) pe_str (fun _ _ => rfl)) pa_nil)) (nomark _))))) (pss_cons (ps_dput hu1 (pv 0) pe_str (pe_op op_fdivN (pv 4) (pv 1)) rfl) (pss_one (ps_ret (pe_op op_modN (pv 4) (pv 1))))) pss_nil) (pss_cons (ps_set (i := 5) nd rfl (Or.inl rfl) (pe_op op_modN (pe_op (r := rAdd4 K) opAdd (pe_op (r := rAdd4 K) opAdd (pe_op op_modN (pv 4) pe_int) (pe_op (r := rMul2 K) opMul pe_int (pe_dget hu1 (pv 0) pe_str (fun _ _ => rfl)))) pe_int) pe_int) (hf := Or.inl rfl)) (pss_cons (ps_set (i := 5) nd rfl (Or.inl rfl) (pe_op op_modN (pe_op (r := rAdd4 K) opAdd (pe_op (r := rAdd4 K) opAdd (pe_op op_pow (pv 5) pe_int) (pe_op (r := rMul2 K) opMul pe_int (pe_dget hu1 (pv 0) pe_str (fun _ _ => rfl)))) pe_int) pe_int) (hf := Or.inl rfl)) (pss_one (ps_ret (pe_op op_modN (pe_op op_fdivN (pe_op op_modN (pe_op (r := rAdd4 K) opAdd (pe_op op_pow (pv 5) pe_int) (pe_op (r := rMul2 K) opMul pe_int (pv 5))) pe_int) pe_int) (pv 1)))))))))))), bodyF (by decide) h fun a l cs F0 ds hl ⟨m, hm, hm1, hm2⟩ => ?_⟩
  subst hm
  change Sx K (feedW nm a l cs) H F0 _ [.rf (.ref a), .dat (.int m), .un, .un, .un, .un] _
  have hm0 : m ≠ 0 := by omega
  have hdv : CDivN 0 m := ⟨hm0, by omega⟩
  walk_at "go"
  refine sx_fput (m := nm) rfl (.inr (.inr rfl)) ?_
  walk_at "go"
  refine ev_fgetI (m := nm) rfl (.inr (.inr rfl)) fun c0 hc0 => ?_
  walk_at "go"
  refine ⟨by omega, ?_⟩
  walk_at "go"
  refine ev_fgetI (m := nm) rfl (.inr (.inl rfl)) fun l0 hl0 => ?_
  walk_at "go"
  refine if2 (fun h1 => ?_) (fun h1 => ?_)
  · walk_at "go"
    refine ev_fgetI (m := nm) rfl (.inr (.inl rfl)) fun l1 hl1 => ?_
    walk_at "go"
    refine ops_mod hm0 ?_
    walk_at "go"
    refine sx_fput (m := nm) rfl (.inr (.inl rfl)) ?_
    walk_at "go"
    refine ev_fgetI (m := nm) rfl (.inr (.inl rfl)) fun l2 hl2 => ?_
    walk_at "go"
    refine ops_fdiv hdv ?_
    walk_at "go"
    refine ⟨fdiv_nn hm1 hl2, ?_⟩
    walk_at "go"
    exact fun m' e => by cases e; exact ⟨_, rfl, fmod_in hm1⟩
  walk_at "go"
  refine ev_fgetI (m := nm) rfl (.inl rfl) fun t0 ht0 => ?_
  walk_at "go"
  refine sx_fput (m := nm) rfl (.inl rfl) ?_
  walk_at "go"
  refine ⟨by omega, ?_⟩
  -- the cell, whatever it is; then the rest
  refine sx_seq (sx_asg (Ev.mono (P := fun s => ∃ v : Int, s = .dat (.int v)) ?_ ?_))
  · walk_at "go"
    refine ev_fgetC (m := nm) rfl ?_
    refine ev_frz (evn_lst ?_)
    walk_at "go"
    refine ops_fne ?_
    refine ⟨_, rfl, if2 (fun h2 => ?_) (fun h2 => ?_)⟩
    · walk_at "go"
      refine ev_fgetC (m := nm) rfl ?_
      walk_at "go"
      refine ev_fgetC (m := nm) rfl ?_
      walk_at "go"
      refine cas_flen ?_
      have hl1 : 1 ≤ (cs.length : Int) := by
        cases cs with
        | nil => cases h2
        | cons c r =>
          rw [List.length_cons]
          omega
      refine ops_mod (by omega) ?_
      have q := fmod_in (i := t0) hl1
      exact ops_fix q.1 q.2 fun v => ⟨v, rfl⟩
    · walk_at "go"
      exact ⟨_, rfl⟩
  rintro s ⟨v, rfl⟩
  refine ⟨trivial, ?_⟩
  walk_at "go"
  refine ops_pow ⟨by decide, by decide, by decide⟩ ?_
  walk_at "go"
  refine if2 (fun h2 => ?_) (fun h2 => ?_)
  · walk_at "go"
    refine ev_fgetC (m := nm) rfl ?_
    walk_at "go"
    refine cas_flen ?_
    walk_at "go"
    refine if2 (fun h3 => ?_) (fun h3 => ?_)
    · walk_at "go"
      refine sx_fput (m := nm) rfl (.inr (.inl rfl)) ?_
      walk_at "go"
      refine ops_fdiv hdv ?_
      walk_at "go"
      have hv : (10 : Int) ^ (18 : Int).toNat ≤ v := of_decide_eq_true h2
      have hv2 : 0 ≤ v := Int.le_trans (by decide) hv
      refine ⟨fdiv_nn hm1 hv2, ?_⟩
      walk_at "go"
      refine ops_mod hm0 ?_
      walk_at "go"
      exact fun m' e => by cases e; exact ⟨_, rfl, fmod_in hm1⟩
    · walk_at "go"
      refine ops_mod (by decide) ?_
      walk_at "go"
      refine ev_fgetI (m := nm) rfl (.inr (.inr rfl)) fun ck hck => ?_
      walk_at "go"
      refine ops_mul (.inl ⟨by decide, by decide⟩) ?_
      walk_at "go"
      refine ops_mod (by decide) ?_
      have b1 := fmod_in (i := (v.fmod 1000000831 + 70067 * ck + 271)) (m := 2147483579) (by decide)
      generalize (v.fmod 1000000831 + 70067 * ck + 271).fmod 2147483579 = z1 at b1 ⊢
      walk_at "go"
      refine ops_pow ⟨by decide, by decide, by omega⟩ ?_
      walk_at "go"
      refine ev_fgetI (m := nm) rfl (.inr (.inr rfl)) fun cl hcl => ?_
      walk_at "go"
      refine ops_mul (.inl ⟨by decide, by decide⟩) ?_
      walk_at "go"
      refine ops_mod (by decide) ?_
      have b2 := fmod_in (i := (z1 ^ (3 : Int).toNat + 5500027 * cl + 83)) (m := 2147483549) (by decide)
      generalize (z1 ^ (3 : Int).toNat + 5500027 * cl + 83).fmod 2147483549 = z2 at b2 ⊢
      walk_at "go"
      refine ops_pow ⟨by decide, by decide, by omega⟩ ?_
      walk_at "go"
      refine ops_mul (.inl ⟨by decide, by decide⟩) ?_
      walk_at "go"
      refine ops_mod (by decide) ?_
      walk_at "go"
      refine ops_fdiv ⟨by decide, by decide⟩ ?_
      walk_at "go"
      refine ops_mod hm0 ?_
      walk_at "go"
      exact fun m' e => by cases e; exact ⟨_, rfl, fmod_in hm1⟩
  · walk_at "go"
    refine ops_mod (by decide) ?_
    walk_at "go"
    refine ev_fgetI (m := nm) rfl (.inr (.inr rfl)) fun ck hck => ?_
    walk_at "go"
    refine ops_mul (.inl ⟨by decide, by decide⟩) ?_
    walk_at "go"
    refine ops_mod (by decide) ?_
    have b1 := fmod_in (i := (v.fmod 1000000831 + 70067 * ck + 271)) (m := 2147483579) (by decide)
    generalize (v.fmod 1000000831 + 70067 * ck + 271).fmod 2147483579 = z1 at b1 ⊢
    walk_at "go"
    refine ops_pow ⟨by decide, by decide, by omega⟩ ?_
    walk_at "go"
    refine ev_fgetI (m := nm) rfl (.inr (.inr rfl)) fun cl hcl => ?_
    walk_at "go"
    refine ops_mul (.inl ⟨by decide, by decide⟩) ?_
    walk_at "go"
    refine ops_mod (by decide) ?_
    have b2 := fmod_in (i := (z1 ^ (3 : Int).toNat + 5500027 * cl + 83)) (m := 2147483549) (by decide)
    generalize (z1 ^ (3 : Int).toNat + 5500027 * cl + 83).fmod 2147483549 = z2 at b2 ⊢
    walk_at "go"
    refine ops_pow ⟨by decide, by decide, by omega⟩ ?_
    walk_at "go"
    refine ops_mul (.inl ⟨by decide, by decide⟩) ?_
    walk_at "go"
    refine ops_mod (by decide) ?_
    walk_at "go"
    refine ops_fdiv ⟨by decide, by decide⟩ ?_
    walk_at "go"
    refine ops_mod hm0 ?_
    walk_at "go"
    exact fun m' e => by cases e; exact ⟨_, rfl, fmod_in hm1⟩
end
abbrev LDraw (Pg : Program) (w : World) (K : PySem.W.Frag) (mg : Str → Option Value) (base : Heap) := Fn Pg w K mg base "_law_draw" 1 ["_law_feed_here", "_law_many"] (PmF nm K 1 preDraw postDraw)
/-- drawing a number below m -/
theorem ev_draw {K : PySem.W.Frag} {H0 : Hp} {ρ : Rho} {P : Sl → Prop} {a l : Addr} {cs : List Int} {t : TA} (h : EvA K (feedW nm a l cs) H0 t ρ fun ss => ∃ m : Int, ss = [.rf (.ref a), .dat (.int m)] ∧ (1 ≤ m ∧ m < 2 ^ 30) ∧ ∀ r : Int, 0 ≤ r → r < m → P (.dat (.int r))) :
    Ev K (feedW nm a l cs) H0 (tFn (PmF nm K 1 preDraw postDraw) t) ρ P := ev_fnF fun σ F H o ho Q q => h σ F H o ho Q fun vs F' H' ss o' st hv ⟨m, e, hm, k⟩ => q vs F' H' ss o' st hv ⟨[.int m], e, rfl, ⟨m, rfl, hm⟩, fun d hd => by
    obtain ⟨r, e, h1, h2⟩ := hd m rfl
    rw [e]
    exact k r h1 h2⟩
def spFeed (K : PySem.W.Frag) : Sp := fun vs H Q _ => ∃ p ns, vs = [.ref p] ∧ SqL K H p (List.map V.int ns) ∧ ∀ (a l : Addr) (H' : Hp) (cs : List Int), (∀ b u, H b = some u → H' b = some u) → H a = none → H l = none → a ≠ l →
  H' a = some (.dK (fdict nm l 0 0 0)) → H' l = some (.lst (cs.map V.int)) → Q (.ref a) H'
section
variable {Pg : Program} {w : World} {K : PySem.W.Frag} {mg : Str → Option Value} {base : Heap} {f : Addr} {fd : FuncData}
theorem ok_feed (F : Fun K "_law_feed" "_law_feed" s__law_feed f fd) (T : Txt mg) : FnG Pg w K mg base 1 f fd ["_law_script"] (spFeed K) := by
  have nd := sc__law_feed.nd
  refine fnG_of F sc__law_feed (fun vs H Q E h => ?_) (fun cdv A ou s H vs Q hgd hr h => ?_)
  · obtain ⟨p, ns, rfl, _⟩ := h
    rfl
  obtain ⟨p, ns, rfl, hS, k⟩ := h
  refine ⟨_, (pss_one (ps_ret (pe_disp (pps_cons pe_str (pe_callTy (r := rListOf K) call_list_of (by rfl) T.b_list (by decide +kernel) (pa_cons (pe_slice (r := rSl3 K) slAny (pv 0) po_none (po_some pe_int)) pa_nil)) (pps_cons pe_str pe_int (pps_cons pe_str pe_int (pps_cons pe_str pe_int pps_nil)))) (by rfl) (by rfl) (fun z => by cases z) (by decide)))), ?_⟩
  intro a ha
  have s0 : Same H (upd H a (.dK [])) := sm_new ha
  refine ⟨.ref p, rfl, 63, rfl, ?_⟩
  refine .inl (.inl ⟨p, _, rfl, sql_mono s0 hS, fun t ht => ?_⟩)
  refine ⟨t, _, rfl, .inl (SqL.of upd_same), fun l hl => ?_⟩
  have na : t ≠ a := fun z => by rw [z, upd_same] at ht; cases ht
  have nt : l ≠ t := fun z => by rw [z, upd_same] at hl; cases hl
  have nl : l ≠ a := fun z => by rw [z, upd_ne na.symm, upd_same] at hl; cases hl
  have hl0 : H l = none := by rw [upd_ne nt, upd_ne nl] at hl; exact hl
  have ht0 : H t = none := by rw [upd_ne na] at ht; exact ht
  have e : cutV (List.map V.int ns) none (some 63) = List.map V.int (cutV (List.map V.int ns) none (some 63) |>.map fun v => match v with | .int i => i | _ => 0) := by
    unfold cutV
    simp [List.map_take, List.map_drop, Function.comp_def]
  refine ⟨by rw [upd_ne nl.symm, upd_ne na.symm, upd_same], fdict nm l 0 0 0, rfl, by show 4 ≤ 15; decide, ?_⟩
  refine k a l _ _ (fun b u eb => ?_) ha hl0 nl.symm upd_same (by rw [upd_ne nl, upd_same]; exact congrArg (fun z => some (HO.lst z)) e)
  have n1 : b ≠ a := fun z => by rw [z, ha] at eb; cases eb
  have n2 : b ≠ l := fun z => by rw [z, hl0] at eb; cases eb
  have n3 : b ≠ t := fun z => by rw [z, ht0] at eb; cases eb
  rw [upd_ne n1, upd_ne n2, upd_ne n3, upd_ne n1]
  exact eb
end
end K19

namespace K19
open PySem L2 RZ DL
/-! the walk by data -/
local macro_rules | `(tactic| walk_at "dl") => `(tactic| first
  | with_reducible first
    | refine sx_seq ?_ | refine sx_if ?_ | refine sx_next ?_
    | refine et_not ?_ | refine et_B ?_ | refine et_test ?_ | refine et_and ?_ | refine et_or ?_ | refine et_yes ?_
    | refine ev_and ?_ | refine ev_or ?_ | refine ev_not ?_ | refine ev_if ?_ | refine ev_chain ?_
    | refine ev_int ?_ | refine ev_bl ?_ | refine ev_str ?_ | refine ev_non ?_ | refine ev_c ?_
    | refine ev_op ?_ | refine ev_un ?_ | refine ev_cb ?_ | refine ev_fn1 ?_ | refine ev_fn2 ?_ | refine ev_sl ?_ | refine eo_none ?_ | refine eo_some ?_ | refine ev_tup ?_
    | refine ea_cons ?_ | refine ea_nil ?_
    | refine ops_ge ?_ | refine ops_le ?_ | refine ops_gt ?_ | refine ops_lt ?_ | refine ops_leS ?_ | refine ops_ltS ?_ | refine ops_add_int ?_ | refine ops_sub ?_ | refine ops_isN ?_ | refine ops_isNot ?_ | refine ops_eq_int ?_ | refine ops_eqS ?_ | refine ops_neS ?_
    | refine cas_len_tup ?_ | refine cas_isi_int ?_ | refine cas_isi_bool ?_ | refine cas_isi_str ?_ | refine cas_isi_tup ?_ | refine cas_isi_lst ?_
    | refine iteT ?_ | refine iteF ?_ | refine and_nols ?_
  | ((with_reducible refine ev_varx ?_); refine ⟨_, rfl, ?_⟩)
  | ((with_reducible refine ops_ix_tupx ?_); first | refine ⟨_, rfl, ?_⟩ | refine ⟨_, atI_nat (j := 0) rfl, ?_⟩ | refine ⟨_, atI_nat (j := 1) rfl, ?_⟩ | refine ⟨_, atI_nat (j := 2) rfl, ?_⟩ | refine ⟨_, atI_nat (j := 3) rfl, ?_⟩ | refine ⟨_, atI_nat (j := 4) rfl, ?_⟩ | refine ⟨_, atI_nat (j := 5) rfl, ?_⟩ | refine ⟨_, atI_nat (j := 6) rfl, ?_⟩)
  | ((with_reducible refine sz_and ?_ ?_); exact rfl)
  | ((with_reducible refine ev_ownx ?_); refine ⟨_, rfl, ?_⟩)
  | ((with_reducible refine ev_refx ?_); refine ⟨_, rfl, ?_⟩)
  | (with_reducible refine sxn_seq ?_) | (with_reducible refine uns_neg ?_) | (with_reducible refine ev_frz (evn_lst ?_)) | (with_reducible refine sls_tup ?_) | (refine ev_revT ?_)
  | ((refine sx_extx ?_); refine ⟨_, rfl, ?_⟩) | ((with_reducible refine ops_add_tup ?_ ?_); exact le_line rfl) | (with_reducible refine cas_listT ?_)
  | ((with_reducible refine ifT ?_ ?_); exact rfl) | ((with_reducible refine ifF ?_ ?_); exact rfl))
local macro_rules | `(tactic| walk_at "go") => `(tactic| repeat (first | walk_at "dl" | with_reducible refine ⟨_, rfl, ?_⟩ | with_reducible refine ⟨_, _, rfl, ?_⟩))
structure Kd where
  nm : Str
  as : List (Str × Nat)
  tk : Nat
  be : Nat
  gi : Nat
  ba : Nat
abbrev askD (p : Str × Nat) : D := .tuple [.str p.1, num p.2]
abbrev kD (k : Kd) : D := .tuple [.str k.nm, .tuple (k.as.map askD), num k.tk, num k.be, num k.gi, num k.ba]
structure Wk where
  ks : List Kd
  c0 : List (Str × Nat)
  c1 : Nat
  cb : Nat
  am : Nat
  ak : Nat
  ab : Nat
  us : Nat
  sh : Nat
  br : Nat
  st : Nat
  fl : Nat
  dr : Nat
  bl : Nat
  re : Nat
  ln : Nat
abbrev wkD (w : Wk) : D := .tuple [.tuple (w.ks.map kD), .tuple [.tuple (w.c0.map askD), num w.c1, num w.cb], .tuple [num w.am, num w.ak, num w.ab], .tuple [num w.us, num w.sh, num w.br, num w.st], .tuple [num w.fl, num w.dr], .tuple [num w.bl, num w.re], num w.ln]
abbrev Wk.names (w : Wk) : List Str := w.ks.map Kd.nm
structure okA (ns : List Str) (p : Str × Nat) : Prop where
  nm : p.1 ∈ ns
  n : p.2 ≤ 3
def lowW (x : Str) : Bool := (decide (1 ≤ (x.length : Int)) && decide ((x.length : Int) ≤ 8)) && x.cps.toList.all fun c => decide (97 ≤ c) && decide (c ≤ 122)
structure okK (ns : List Str) (k : Kd) : Prop where
  nm : Bt 8 k.nm
  al : k.as.length ≤ 3
  as : ∀ p ∈ k.as, okA ns p
  tk : k.tk ≤ 6
  be1 : 1 ≤ k.be
  be : k.be ≤ 4
  gi : k.gi ≤ 4
  ba : k.ba ≤ 6
  wd : lowW k.nm = true
structure okW (w : Wk) : Prop where
  k1 : 1 ≤ w.ks.length
  k3 : w.ks.length ≤ 3
  ks : ∀ k ∈ w.ks, okK w.names k
  cl : w.c0.length ≤ 3
  ca : ∀ p ∈ w.c0, okA w.names p
  c1 : w.c1 ≤ 5
  cb1 : 1 ≤ w.cb
  cb : w.cb ≤ 4
  am : w.am ≤ 4
  ak : w.ak ≤ 6
  ab1 : 1 ≤ w.ab
  ab : w.ab ≤ 4
  us : w.us ≤ 6
  sh : w.sh ≤ 9
  sh2 : 2 ≤ w.sh
  br : w.br ≤ 3
  st : w.st ≤ 6
  fl : w.fl ≤ 4
  dr1 : 1 ≤ w.dr
  dr : w.dr ≤ 4
  bl : w.bl ≤ 2
  re : w.re ≤ 8
  ln : w.ln ≤ 2
/-! ### works, drawn -/
theorem ev_drawN {K : PySem.W.Frag} {H0 : Hp} {ρ : Rho} {P : Sl → Prop} {a l : Addr} {cs : List Int} {t : TA} (h : EvA K (feedW nm a l cs) H0 t ρ fun ss => ∃ m : Nat, ss = [.rf (.ref a), .dat (num m)] ∧ (1 ≤ m ∧ m < 1000) ∧ ∀ r : Nat, r < m → P (.dat (num r))) :
    Ev K (feedW nm a l cs) H0 (tFn (PmF nm K 1 preDraw postDraw) t) ρ P := ev_draw fun σ F H o ho Q q => h σ F H o ho Q fun vs F' H' ss o' st hv ⟨m, e, hm, k⟩ => q vs F' H' ss o' st hv ⟨(m : Int), e, ⟨by omega, by omega⟩, fun r r0 r1 => by
    obtain ⟨n, rfl⟩ := Int.eq_ofNat_of_zero_le r0
    exact k n (by omega)⟩
theorem ops_pick {K : PySem.W.Frag} {W : Wd} {P : Sl → Prop} (xs : List Nat) {r : Nat} (h : r < xs.length) (p : ∀ n, n ∈ xs → P (.dat (num n))) : OpS K W (rIx K) (.dat (.list (xs.map num))) (.dat (num r)) P := by
  refine ops_ix_lst (.inl rfl) (atI_nat (map_get h)) (p _ (List.getElem_mem h))
def isNames (d : D) (xs : List Str) : Prop := d = .list (xs.map .str) ∧ 1 ≤ xs.length ∧ xs.length ≤ 3 ∧ ∀ x ∈ xs, Bt 8 x ∧ lowW x = true
def asksOf (xs : List Str) (d : D) : Prop := ∃ as : List (Str × Nat), d = .tuple (as.map askD) ∧ as.length ≤ 3 ∧ ∀ p ∈ as, okA xs p
theorem strs_inj : ∀ {xs ys : List Str}, xs.map PyData.str = ys.map PyData.str → xs = ys := map_inj' fun a b h => by injection h
abbrev LAsks (Pg : Program) (w : World) (K : PySem.W.Frag) (mg : Str → Option Value) (base : Heap) := Fn Pg w K mg base "_law_asks" 2 ["_law_feed_here", "_law_names"] (PmF nm K 1 (fun ds => ∃ d xs, ds = [d] ∧ isNames d xs) fun ds d => ∀ xs : List Str, ds = [.list (xs.map .str)] → asksOf xs d)
abbrev preW (ds : List D) : Prop := ∃ m : Nat, ds = [num m] ∧ 1 ≤ m ∧ m ≤ 3
abbrev postW (_ : List D) (d : D) : Prop := ∃ w, d = wkD w ∧ okW w
abbrev LWorks (Pg : Program) (w : World) (K : PySem.W.Frag) (mg : Str → Option Value) (base : Heap) := Fn Pg w K mg base "_law_works" 3 ["_law_feed_here", "_law_most_kinds"] (PmF nm K 1 preW postW)
section
variable {Pg : Program} {w : World} {K : PySem.W.Frag} {mg : Str → Option Value} {base : Heap} {f : Addr} {fd : FuncData}
theorem ok_asks (F : Fun K "_law_asks" "_law_asks" s__law_asks f fd) (T : Txt mg) (C__law_draw : LDraw Pg w K mg base) : FnG Pg w K mg base 2 f fd ["_law_feed_here", "_law_names"] (PmF nm K 1 (fun ds => ∃ d xs, ds = [d] ∧ isNames d xs) fun ds d => ∀ xs : List Str, ds = [.list (xs.map .str)] → asksOf xs d) := by
  have nd := sc__law_asks.nd
  refine fnG_of F sc__law_asks pm_len (fun cdv A ou s H vs Q hgd hr h => ?_)
  have hu : (A.deeper (PyProof.Rows.envOfC "_law_asks" (defScope s__law_asks) s.heap.objs.size f cdv)).units + 64 < cLine := by have := hr.un; omega
  refine ⟨_, (pss_one (ps_ret (pe_callTy (r := rTupleOf K) call_tuple_of (by rfl) T.b_tuple (by decide +kernel) (pa_cons (pe_lc (own := [("_law_own", 2)]) (g := gName 2) rfl nd (pi_list (pv 1)) (blkOk_by (N := ["_law_feed_here", "_law_names", "_law_own"]) (sc := (defScope s__law_asks)) (by decide +kernel)) (fun _ _ _ _ _ => (pg_name (i := 2) nd rfl (Or.inl rfl) (Or.inr rfl))) (fun _ _ _ _ _ => (pts_one (pt_cmpR (r := rEq2 K) (opEq hu) (pe_fn C__law_draw hgd (hr.mono (by first | decide | omega)) rfl (pa_cons (pv 0) (pa_cons pe_int pa_nil))) pe_int (nomark _)))) (fun _ _ _ _ _ => (pe_tup (pa_cons (pv 2) (pa_cons (pe_ix (r := rIx K) ix_seq (pe_lst (pa_cons pe_int (pa_cons pe_int (pa_cons pe_int (pa_cons pe_int pa_nil))))) (pe_fn C__law_draw hgd (hr.mono (by first | decide | omega)) rfl (pa_cons (pv 0) (pa_cons pe_int pa_nil))) (fun _ _ => rfl)) pa_nil))))) pa_nil)))), bodyF (by decide) h fun a l cs F0 ds hl ⟨d, xs, hd, hx, h1, h3, hb⟩ => ?_⟩
  subst hd hx
  change Sx K (feedW nm a l cs) H F0 _ [.rf (.ref a), .dat (.list (xs.map .str)), .un] _
  refine sx_ret (ev_cb (ea_cons (ev_frz (evn_lc (fun es i acc => es = xs.map .str ∧ ∃ as : List (Str × Nat), acc = as.map askD ∧ as.length ≤ i ∧ ∀ p ∈ as, okA xs p) (evi_list (ev_varx ⟨_, rfl, xs.map .str, rfl, ?_, ⟨rfl, [], rfl, Nat.le_refl _, fun p m => nomatch m⟩, ?_, ?_⟩))))))
  · rw [List.length_map, sizeLine_eq]
    omega
  · rintro i z acc hz ⟨_, as, rfl, hi, ha⟩
    obtain ⟨x, hxm, rfl⟩ := List.mem_map.mp (List.mem_of_getElem? hz)
    refine gc_name (by decide) trivial ?_
    refine et_B ?_
    walk_at "go"
    (refine ev_drawN ?_; walk_at "go"; (first | refine ⟨3, rfl, ?_, fun (r : Nat) (hr : r < 3) => ?_⟩ | refine ⟨?_, fun (r : Nat) (hr : r < 3) => ?_⟩); (focus (show 1 ≤ 3 ∧ 3 < 1000; exact ⟨by omega, by omega⟩)); walk_at "go")
    refine if2 (fun h1 => ?_) (fun h1 => ⟨rfl, as, rfl, by omega, ha⟩)
    walk_at "go"
    (refine ev_drawN ?_; walk_at "go"; (first | refine ⟨4, rfl, ?_, fun (q : Nat) (hq : q < 4) => ?_⟩ | refine ⟨?_, fun (q : Nat) (hq : q < 4) => ?_⟩); (focus (show 1 ≤ 4 ∧ 4 < 1000; exact ⟨by omega, by omega⟩)); walk_at "go")
    refine ops_pick [1, 1, 2, 3] hq fun n hn => ?_
    walk_at "go"
    refine ⟨rfl, as ++ [(x, n)], by rw [List.map_append]; rfl, by rw [List.length_append]; show _ + 1 ≤ _; omega, fun p m => ?_⟩
    rcases List.mem_append.mp m with m | m
    · exact ha p m
    · rw [List.mem_singleton.mp m]
      have : n = 1 ∨ n = 2 ∨ n = 3 := by simpa using hn
      exact ⟨hxm, by show n ≤ 3; omega⟩
  · rintro acc ⟨_, as, rfl, hi, ha⟩
    rw [List.length_map] at hi
    refine ea_nil (cas_tuple (.inr (.inl rfl)) ?_)
    refine ⟨_, rfl, fun ys e => ?_⟩
    injection e with e _
    injection e with e
    obtain rfl := strs_inj e
    exact ⟨as, rfl, by omega, ha⟩
theorem ok_works (F : Fun K "_law_works" "_law_works" s__law_works f fd) (T : Txt mg) (C__law_draw : LDraw Pg w K mg base) (C__law_asks : LAsks Pg w K mg base) : FnG Pg w K mg base 3 f fd ["_law_feed_here", "_law_most_kinds"] (PmF nm K 1 preW postW) := by
  have nd := sc__law_works.nd
  refine fnG_of F sc__law_works pm_len (fun cdv A ou s H vs Q hgd hr h => ?_)
  refine ⟨_, (pss_cons (ps_set (i := 2) nd rfl (Or.inl rfl) (pe_ix (r := rIx K) ix_seq (pe_lst (pa_cons (pe_lst (pa_cons pe_str pa_nil)) (pa_cons (pe_lst (pa_cons pe_str (pa_cons pe_str pa_nil))) (pa_cons (pe_lst (pa_cons pe_str (pa_cons pe_str (pa_cons pe_str pa_nil)))) pa_nil)))) (pe_fn C__law_draw hgd (hr.mono (by first | decide | omega)) rfl (pa_cons (pv 0) (pa_cons (pv 1) pa_nil))) (fun _ _ => rfl)) (hf := Or.inl rfl)) (pss_cons (ps_set (i := 3) nd rfl (Or.inl rfl) (pe_lst pa_nil) (hf := Or.inl rfl)) (pss_cons (ps_for PassesOwn.never rfl (pi_list (pv 2)) (pg_name (i := 4) nd rfl (Or.inl rfl) (Or.inl rfl)) (pss_cons (ps_par (i := 5) (j := 6) rfl nd rfl rfl (by decide) rfl rfl (pa_cons (pe_fn C__law_asks hgd (hr.mono (by first | decide | omega)) rfl (pa_cons (pv 0) (pa_cons (pv 2) pa_nil))) (pa_cons (pe_ix (r := rIx K) ix_seq (pe_lst (pa_cons pe_int (pa_cons pe_int (pa_cons pe_int (pa_cons pe_int (pa_cons pe_int (pa_cons pe_int (pa_cons pe_int pa_nil)))))))) (pe_fn C__law_draw hgd (hr.mono (by first | decide | omega)) rfl (pa_cons (pv 0) (pa_cons pe_int pa_nil))) (fun _ _ => rfl)) pa_nil)) (by rfl)) (pss_cons (ps_par (i := 7) (j := 8) rfl nd rfl rfl (by decide) rfl rfl (pa_cons (pe_ix (r := rIx K) ix_seq (pe_lst (pa_cons pe_int (pa_cons pe_int (pa_cons pe_int (pa_cons pe_int pa_nil))))) (pe_fn C__law_draw hgd (hr.mono (by first | decide | omega)) rfl (pa_cons (pv 0) (pa_cons pe_int pa_nil))) (fun _ _ => rfl)) (pa_cons (pe_ix (r := rIx K) ix_seq (pe_lst (pa_cons pe_int (pa_cons pe_int (pa_cons pe_int (pa_cons pe_int pa_nil))))) (pe_fn C__law_draw hgd (hr.mono (by first | decide | omega)) rfl (pa_cons (pv 0) (pa_cons pe_int pa_nil))) (fun _ _ => rfl)) pa_nil)) (by rfl)) (pss_one (ps_expr (pe_bm PySem.F.plainAttrs_list PySem.F.slot_list_append PySem.F.type_list_append mt_append (pv 3) (pa_cons (pe_tup (pa_cons (pv 4) (pa_cons (pv 5) (pa_cons (pv 6) (pa_cons (pv 7) (pa_cons (pv 8) (pa_cons (pe_fn C__law_draw hgd (hr.mono (by first | decide | omega)) rfl (pa_cons (pv 0) (pa_cons (pe_op (r := rAdd4 K) opAdd (pv 6) pe_int) pa_nil))) pa_nil))))))) pa_nil))))))) (pss_cons (ps_set (i := 9) nd rfl (Or.inl rfl) (pe_op (r := rAdd4 K) opAdd pe_int (pe_fn C__law_draw hgd (hr.mono (by first | decide | omega)) rfl (pa_cons (pv 0) (pa_cons pe_int pa_nil)))) (hf := Or.inl rfl)) (pss_cons (ps_set (i := 10) nd rfl (Or.inl rfl) (pe_tup (pa_cons (pe_fn C__law_asks hgd (hr.mono (by first | decide | omega)) rfl (pa_cons (pv 0) (pa_cons (pv 2) pa_nil))) (pa_cons (pe_ix (r := rIx K) ix_seq (pe_lst (pa_cons pe_int (pa_cons pe_int (pa_cons pe_int (pa_cons pe_int pa_nil))))) (pe_fn C__law_draw hgd (hr.mono (by first | decide | omega)) rfl (pa_cons (pv 0) (pa_cons pe_int pa_nil))) (fun _ _ => rfl)) (pa_cons (pe_ix (r := rIx K) ix_seq (pe_lst (pa_cons pe_int (pa_cons pe_int (pa_cons pe_int (pa_cons pe_int pa_nil))))) (pe_fn C__law_draw hgd (hr.mono (by first | decide | omega)) rfl (pa_cons (pv 0) (pa_cons pe_int pa_nil))) (fun _ _ => rfl)) pa_nil)))) (hf := Or.inl rfl)) (pss_cons (ps_set (i := 11) nd rfl (Or.inl rfl) (pe_tup (pa_cons (pv 9) (pa_cons (pe_ix (r := rIx K) ix_seq (pe_lst (pa_cons pe_int (pa_cons pe_int (pa_cons pe_int (pa_cons pe_int pa_nil))))) (pe_fn C__law_draw hgd (hr.mono (by first | decide | omega)) rfl (pa_cons (pv 0) (pa_cons pe_int pa_nil))) (fun _ _ => rfl)) (pa_cons (pe_ix (r := rIx K) ix_seq (pe_lst (pa_cons pe_int (pa_cons pe_int (pa_cons pe_int (pa_cons pe_int pa_nil))))) (pe_fn C__law_draw hgd (hr.mono (by first | decide | omega)) rfl (pa_cons (pv 0) (pa_cons pe_int pa_nil))) (fun _ _ => rfl)) pa_nil)))) (hf := Or.inl rfl)) (pss_cons (ps_par (i := 12) (j := 13) rfl nd rfl rfl (by decide) rfl rfl (pa_cons (pe_op (r := rAdd4 K) opAdd pe_int (pe_fn C__law_draw hgd (hr.mono (by first | decide | omega)) rfl (pa_cons (pv 0) (pa_cons pe_int pa_nil)))) (pa_cons (pe_op (r := rAdd4 K) opAdd (pv 9) (pe_fn C__law_draw hgd (hr.mono (by first | decide | omega)) rfl (pa_cons (pv 0) (pa_cons (pe_op opSub pe_int (pv 9)) pa_nil)))) pa_nil)) (by rfl)) (pss_cons (ps_set (i := 14) nd rfl (Or.inl rfl) (pe_tup (pa_cons (pv 12) (pa_cons (pv 13) (pa_cons (pe_op (r := rAdd4 K) opAdd pe_int (pe_fn C__law_draw hgd (hr.mono (by first | decide | omega)) rfl (pa_cons (pv 0) (pa_cons pe_int pa_nil)))) (pa_cons (pe_fn C__law_draw hgd (hr.mono (by first | decide | omega)) rfl (pa_cons (pv 0) (pa_cons pe_int pa_nil))) pa_nil))))) (hf := Or.inl rfl)) (pss_cons (ps_set (i := 15) nd rfl (Or.inl rfl) (pe_tup (pa_cons (pe_fn C__law_draw hgd (hr.mono (by first | decide | omega)) rfl (pa_cons (pv 0) (pa_cons pe_int pa_nil))) (pa_cons (pe_op (r := rAdd4 K) opAdd pe_int (pe_fn C__law_draw hgd (hr.mono (by first | decide | omega)) rfl (pa_cons (pv 0) (pa_cons pe_int pa_nil)))) pa_nil))) (hf := Or.inl rfl)) (pss_cons (ps_set (i := 16) nd rfl (Or.inl rfl) (pe_tup (pa_cons (pe_op (r := rAdd4 K) opAdd pe_int (pe_fn C__law_draw hgd (hr.mono (by first | decide | omega)) rfl (pa_cons (pv 0) (pa_cons pe_int pa_nil)))) (pa_cons (pe_op (r := rAdd4 K) opAdd pe_int (pe_fn C__law_draw hgd (hr.mono (by first | decide | omega)) rfl (pa_cons (pv 0) (pa_cons pe_int pa_nil)))) pa_nil))) (hf := Or.inl rfl)) (pss_one (ps_ret (pe_tup (pa_cons (pe_callTy (r := rTupleOf K) call_tuple_of (by rfl) T.b_tuple (by decide +kernel) (pa_cons (pv 3) pa_nil)) (pa_cons (pv 10) (pa_cons (pv 11) (pa_cons (pv 14) (pa_cons (pv 15) (pa_cons (pv 16) (pa_cons (pe_op (r := rAdd4 K) opAdd pe_int (pe_fn C__law_draw hgd (hr.mono (by first | decide | omega)) rfl (pa_cons (pv 0) (pa_cons pe_int pa_nil)))) pa_nil)))))))))))))))))))), bodyF (by decide) h fun a l cs F0 ds hl ⟨mk, hd, m1, m3⟩ => ?_⟩
  subst hd
  change Sx K (feedW nm a l cs) H F0 _ [.rf (.ref a), .dat (num mk), .un, .un, .un, .un, .un, .un, .un, .un, .un, .un, .un, .un, .un, .un, .un] _
  refine sx_seq (sx_asg (Ev.mono (P := fun s => ∃ d xs, s = .dat d ∧ isNames d xs) ?_ ?_))
  · walk_at "go"
    (refine ev_drawN ?_; walk_at "go"; (first | refine ⟨mk, rfl, ?_, fun (r : Nat) (hr : r < mk) => ?_⟩ | refine ⟨?_, fun (r : Nat) (hr : r < mk) => ?_⟩); (focus (show 1 ≤ mk ∧ mk < 1000; exact ⟨by omega, by omega⟩)); walk_at "go")
    have hr3 : r < 3 := by omega
    refine ops_ix_lst (.inl rfl) (atI_nat (List.getElem?_eq_getElem (l := [PyData.list [.str "pen"], PyData.list [.str "cup", .str "pen"], PyData.list [.str "a", .str "pen", .str "zzzzzzzz"]]) hr3)) ?_
    have b8 : ∀ x : Str, (x.cps.toList.all fun c => decide (c < 128)) = true → x.length ≤ 8 → Bt 8 x := fun x h1 h2 => bt8 x h1 h2
    have e : r = 0 ∨ r = 1 ∨ r = 2 := by omega
    rcases e with rfl | rfl | rfl
    · refine ⟨_, ["pen"], rfl, rfl, by decide, by decide, fun x m => ?_⟩
      rcases List.mem_cons.mp m with rfl | m
      · exact ⟨bt8 "pen", by decide +kernel⟩
      · cases m
    · refine ⟨_, ["cup", "pen"], rfl, rfl, by decide, by decide, fun x m => ?_⟩
      rcases List.mem_cons.mp m with rfl | m
      · exact ⟨bt8 "cup", by decide +kernel⟩
      rcases List.mem_cons.mp m with rfl | m
      · exact ⟨bt8 "pen", by decide +kernel⟩
      · cases m
    · refine ⟨_, ["a", "pen", "zzzzzzzz"], rfl, rfl, by decide, by decide, fun x m => ?_⟩
      rcases List.mem_cons.mp m with rfl | m
      · exact ⟨bt8 "a", by decide +kernel⟩
      rcases List.mem_cons.mp m with rfl | m
      · exact ⟨bt8 "pen", by decide +kernel⟩
      rcases List.mem_cons.mp m with rfl | m
      · exact ⟨bt8 "zzzzzzzz", by decide +kernel⟩
      · cases m
  rintro _ ⟨d, xs, rfl, rfl, h1, h3, hb⟩
  have hn : isNames (.list (xs.map .str)) xs := ⟨rfl, h1, h3, hb⟩
  refine ⟨trivial, ?_⟩
  refine sx_seq (sx_asgN (evn_lst (ea_nil ⟨[], rfl, le_line rfl, ?_⟩)))
  change Sx K (feedW nm a l cs) H F0 _ [.rf (.ref a), .dat (num mk), .dat (.list (xs.map .str)), .ls [], .un, .un, .un, .un, .un, .un, .un, .un, .un, .un, .un, .un, .un] _
  refine sx_seq (sx_for (fun es i ρ' => es = xs.map .str ∧ ∃ (ks : List Kd) (s4 s5 s6 s7 s8 : Sl), ρ' = [.rf (.ref a), .dat (num mk), .dat (.list (xs.map .str)), .ls (ks.map kD), s4, s5, s6, s7, s8, .un, .un, .un, .un, .un, .un, .un, .un] ∧ ks.map Kd.nm = xs.take i ∧ ∀ k ∈ ks, okK xs k) (evi_list (ev_varx ⟨_, rfl, xs.map .str, rfl, ⟨rfl, [], .un, .un, .un, .un, .un, rfl, rfl, fun k m => nomatch m⟩, ?_, ?_⟩)))
  · rintro i z ρ' hz ⟨_, ks, s4, s5, s6, s7, s8, rfl, hi, hk⟩
    have hi3 : i < 3 := by
      have := (List.getElem?_eq_some_iff.mp hz).1
      rw [List.length_map] at this
      omega
    rw [List.getElem?_map] at hz
    obtain ⟨x, hxi, rfl⟩ := Option.map_eq_some_iff.mp hz
    have hxm := List.mem_of_getElem? hxi
    have hkl : ks.length ≤ 3 := by
      have := congrArg List.length hi
      rw [List.length_map, List.length_take] at this
      omega
    have et : xs.take (i + 1) = xs.take i ++ [x] := by
      rw [List.take_add_one, hxi]
      rfl
    refine gs_name trivial ?_
    change Sx K (feedW nm a l cs) H F0 _ [.rf (.ref a), .dat (num mk), .dat (.list (xs.map .str)), .ls (ks.map kD), .dat (.str x), s5, s6, s7, s8, .un, .un, .un, .un, .un, .un, .un, .un] _
    refine sx_seq (sx_par ?_)
    walk_at "go"
    refine ev_fnF ?_
    walk_at "go"
    refine ⟨[_], rfl, rfl, ⟨_, xs, rfl, hn⟩, fun d1 hd1 => ?_⟩
    obtain ⟨as1, rfl, al1, ao1⟩ := hd1 xs rfl
    walk_at "go"
    (refine ev_drawN ?_; walk_at "go"; (first | refine ⟨7, rfl, ?_, fun (r1 : Nat) (hr1 : r1 < 7) => ?_⟩ | refine ⟨?_, fun (r1 : Nat) (hr1 : r1 < 7) => ?_⟩); (focus (show 1 ≤ 7 ∧ 7 < 1000; exact ⟨by omega, by omega⟩)); walk_at "go")
    refine ops_pick [0, 0, 1, 1, 2, 4, 6] hr1 fun n1 hn1 => ?_
    have b1 : n1 ≤ 6 := by
      have : n1 = 0 ∨ n1 = 1 ∨ n1 = 2 ∨ n1 = 4 ∨ n1 = 6 := by simpa using hn1
      omega
    walk_at "go"
    refine sx_par ?_
    walk_at "go"
    (refine ev_drawN ?_; walk_at "go"; (first | refine ⟨4, rfl, ?_, fun (r2 : Nat) (hr2 : r2 < 4) => ?_⟩ | refine ⟨?_, fun (r2 : Nat) (hr2 : r2 < 4) => ?_⟩); (focus (show 1 ≤ 4 ∧ 4 < 1000; exact ⟨by omega, by omega⟩)); walk_at "go")
    refine ops_pick [1, 1, 2, 4] hr2 fun n2 hn2 => ?_
    walk_at "go"
    (refine ev_drawN ?_; walk_at "go"; (first | refine ⟨4, rfl, ?_, fun (r3 : Nat) (hr3 : r3 < 4) => ?_⟩ | refine ⟨?_, fun (r3 : Nat) (hr3 : r3 < 4) => ?_⟩); (focus (show 1 ≤ 4 ∧ 4 < 1000; exact ⟨by omega, by omega⟩)); walk_at "go")
    refine ops_pick [1, 1, 2, 4] hr3 fun n3 hn3 => ?_
    walk_at "go"
    refine sx_app rfl ?_ ?_
    · rw [List.length_map, sizeLine_eq]
      omega
    walk_at "go"
    (refine ev_drawN ?_; walk_at "go"; (first | refine ⟨(Nat.succ n1), rfl, ?_, fun (r4 : Nat) (hr4 : r4 < (Nat.succ n1)) => ?_⟩ | refine ⟨?_, fun (r4 : Nat) (hr4 : r4 < (Nat.succ n1)) => ?_⟩); (focus (show 1 ≤ (Nat.succ n1) ∧ (Nat.succ n1) < 1000; exact ⟨by omega, by omega⟩)); walk_at "go")
    refine ⟨rfl, ks ++ [⟨x, as1, n1, n2, n3, r4⟩], .dat (.str x), .dat (.tuple (as1.map askD)), .dat (num n1), .dat (num n2), .dat (num n3), by rw [List.map_append]; rfl, by rw [List.map_append, hi, et]; rfl, fun k m => ?_⟩
    rcases List.mem_append.mp m with m | m
    · exact hk k m
    · obtain rfl := List.mem_singleton.mp m
      have c2 : n2 = 1 ∨ n2 = 2 ∨ n2 = 4 := by simpa using hn2
      have c3 : n3 = 1 ∨ n3 = 2 ∨ n3 = 4 := by simpa using hn3
      have hr4' : r4 < Nat.succ n1 := hr4
      have c1 : n1 = 0 ∨ n1 = 1 ∨ n1 = 2 ∨ n1 = 4 ∨ n1 = 6 := by simpa using hn1
      have hr4' : r4 < n1 + 1 := hr4
      exact ⟨(hb x hxm).1, al1, ao1, by show n1 ≤ 6; omega, by show 1 ≤ n2; omega, by show n2 ≤ 4; omega, by show n3 ≤ 4; omega, by show r4 ≤ 6; omega, (hb x hxm).2⟩
  · rintro ρ' ⟨_, ks, s4, s5, s6, s7, s8, rfl, hi, hk⟩
    rw [List.length_map, List.take_length] at hi
    have hkl : ks.length = xs.length := by
      have := congrArg List.length hi
      rwa [List.length_map] at this
    refine sx_seq (sx_asg ?_)
    walk_at "go"
    (refine ev_drawN ?_; walk_at "go"; (first | refine ⟨3, rfl, ?_, fun (r1 : Nat) (h1 : r1 < 3) => ?_⟩ | refine ⟨?_, fun (r1 : Nat) (h1 : r1 < 3) => ?_⟩); (focus (show 1 ≤ 3 ∧ 3 < 1000; exact ⟨by omega, by omega⟩)); walk_at "go")
    change Sx K (feedW nm a l cs) H F0 _ [.rf (.ref a), .dat (num mk), .dat (.list (xs.map .str)), .ls (ks.map kD), s4, s5, s6, s7, s8, .dat (num (2 + r1)), .un, .un, .un, .un, .un, .un, .un] _
    refine sx_asg ?_
    walk_at "go"
    refine ev_fnF ?_
    walk_at "go"
    refine ⟨[_], rfl, rfl, ⟨_, xs, rfl, hn⟩, fun d1 hd1 => ?_⟩
    obtain ⟨as1, rfl, al1, ao1⟩ := hd1 xs rfl
    walk_at "go"
    (refine ev_drawN ?_; walk_at "go"; (first | refine ⟨4, rfl, ?_, fun (r2 : Nat) (h2 : r2 < 4) => ?_⟩ | refine ⟨?_, fun (r2 : Nat) (h2 : r2 < 4) => ?_⟩); (focus (show 1 ≤ 4 ∧ 4 < 1000; exact ⟨by omega, by omega⟩)); walk_at "go")
    refine ops_pick [0, 0, 1, 5] h2 fun n2 hn2 => ?_
    walk_at "go"
    (refine ev_drawN ?_; walk_at "go"; (first | refine ⟨4, rfl, ?_, fun (r3 : Nat) (h3 : r3 < 4) => ?_⟩ | refine ⟨?_, fun (r3 : Nat) (h3 : r3 < 4) => ?_⟩); (focus (show 1 ≤ 4 ∧ 4 < 1000; exact ⟨by omega, by omega⟩)); walk_at "go")
    refine ops_pick [1, 1, 2, 4] h3 fun n3 hn3 => ?_
    walk_at "go"
    change Sx K (feedW nm a l cs) H F0 _ [.rf (.ref a), .dat (num mk), .dat (.list (xs.map .str)), .ls (ks.map kD), s4, s5, s6, s7, s8, .dat (num (2 + r1)), .dat (.tuple [.tuple (as1.map askD), num n2, num n3]), .un, .un, .un, .un, .un, .un] _
    refine sx_asg ?_
    walk_at "go"
    (refine ev_drawN ?_; walk_at "go"; (first | refine ⟨4, rfl, ?_, fun (r4 : Nat) (h4 : r4 < 4) => ?_⟩ | refine ⟨?_, fun (r4 : Nat) (h4 : r4 < 4) => ?_⟩); (focus (show 1 ≤ 4 ∧ 4 < 1000; exact ⟨by omega, by omega⟩)); walk_at "go")
    refine ops_pick [0, 1, 2, 6] h4 fun n4 hn4 => ?_
    walk_at "go"
    (refine ev_drawN ?_; walk_at "go"; (first | refine ⟨4, rfl, ?_, fun (r5 : Nat) (h5 : r5 < 4) => ?_⟩ | refine ⟨?_, fun (r5 : Nat) (h5 : r5 < 4) => ?_⟩); (focus (show 1 ≤ 4 ∧ 4 < 1000; exact ⟨by omega, by omega⟩)); walk_at "go")
    refine ops_pick [1, 1, 2, 4] h5 fun n5 hn5 => ?_
    walk_at "go"
    change Sx K (feedW nm a l cs) H F0 _ [.rf (.ref a), .dat (num mk), .dat (.list (xs.map .str)), .ls (ks.map kD), s4, s5, s6, s7, s8, .dat (num (2 + r1)), .dat (.tuple [.tuple (as1.map askD), num n2, num n3]), .dat (.tuple [num (2 + r1), num n4, num n5]), .un, .un, .un, .un, .un] _
    refine sx_par ?_
    walk_at "go"
    (refine ev_drawN ?_; walk_at "go"; (first | refine ⟨6, rfl, ?_, fun (r6 : Nat) (h6 : r6 < 6) => ?_⟩ | refine ⟨?_, fun (r6 : Nat) (h6 : r6 < 6) => ?_⟩); (focus (show 1 ≤ 6 ∧ 6 < 1000; exact ⟨by omega, by omega⟩)); walk_at "go")
    have e6 : ((6 : Int) - ((2 + r1 : Nat) : Int)) = ((4 - r1 : Nat) : Int) := by
      have : r1 < 3 := h1
      omega
    refine ev_drawN ?_
    walk_at "go"
    refine ⟨4 - r1, ?_, ?_, fun r7 h7 => ?_⟩
    · exact congrArg (fun z => [Sl.rf (V.ref a), Sl.dat (.int z)]) e6
    · have : r1 < 3 := h1
      exact ⟨by omega, by omega⟩
    walk_at "go"
    change Sx K (feedW nm a l cs) H F0 _ [.rf (.ref a), .dat (num mk), .dat (.list (xs.map .str)), .ls (ks.map kD), s4, s5, s6, s7, s8, .dat (num (2 + r1)), .dat (.tuple [.tuple (as1.map askD), num n2, num n3]), .dat (.tuple [num (2 + r1), num n4, num n5]), .dat (num (1 + r6)), .dat (num (2 + r1 + r7)), .un, .un, .un] _
    refine sx_asg ?_
    walk_at "go"
    (refine ev_drawN ?_; walk_at "go"; (first | refine ⟨3, rfl, ?_, fun (r8 : Nat) (h8 : r8 < 3) => ?_⟩ | refine ⟨?_, fun (r8 : Nat) (h8 : r8 < 3) => ?_⟩); (focus (show 1 ≤ 3 ∧ 3 < 1000; exact ⟨by omega, by omega⟩)); walk_at "go")
    (refine ev_drawN ?_; walk_at "go"; (first | refine ⟨7, rfl, ?_, fun (r9 : Nat) (h9 : r9 < 7) => ?_⟩ | refine ⟨?_, fun (r9 : Nat) (h9 : r9 < 7) => ?_⟩); (focus (show 1 ≤ 7 ∧ 7 < 1000; exact ⟨by omega, by omega⟩)); walk_at "go")
    change Sx K (feedW nm a l cs) H F0 _ [.rf (.ref a), .dat (num mk), .dat (.list (xs.map .str)), .ls (ks.map kD), s4, s5, s6, s7, s8, .dat (num (2 + r1)), .dat (.tuple [.tuple (as1.map askD), num n2, num n3]), .dat (.tuple [num (2 + r1), num n4, num n5]), .dat (num (1 + r6)), .dat (num (2 + r1 + r7)), .dat (.tuple [num (1 + r6), num (2 + r1 + r7), num (1 + r8), num r9]), .un, .un] _
    refine sx_asg ?_
    walk_at "go"
    (refine ev_drawN ?_; walk_at "go"; (first | refine ⟨5, rfl, ?_, fun (r10 : Nat) (h10 : r10 < 5) => ?_⟩ | refine ⟨?_, fun (r10 : Nat) (h10 : r10 < 5) => ?_⟩); (focus (show 1 ≤ 5 ∧ 5 < 1000; exact ⟨by omega, by omega⟩)); walk_at "go")
    (refine ev_drawN ?_; walk_at "go"; (first | refine ⟨4, rfl, ?_, fun (r11 : Nat) (h11 : r11 < 4) => ?_⟩ | refine ⟨?_, fun (r11 : Nat) (h11 : r11 < 4) => ?_⟩); (focus (show 1 ≤ 4 ∧ 4 < 1000; exact ⟨by omega, by omega⟩)); walk_at "go")
    change Sx K (feedW nm a l cs) H F0 _ [.rf (.ref a), .dat (num mk), .dat (.list (xs.map .str)), .ls (ks.map kD), s4, s5, s6, s7, s8, .dat (num (2 + r1)), .dat (.tuple [.tuple (as1.map askD), num n2, num n3]), .dat (.tuple [num (2 + r1), num n4, num n5]), .dat (num (1 + r6)), .dat (num (2 + r1 + r7)), .dat (.tuple [num (1 + r6), num (2 + r1 + r7), num (1 + r8), num r9]), .dat (.tuple [num r10, num (1 + r11)]), .un] _
    refine sx_asg ?_
    walk_at "go"
    (refine ev_drawN ?_; walk_at "go"; (first | refine ⟨2, rfl, ?_, fun (r12 : Nat) (h12 : r12 < 2) => ?_⟩ | refine ⟨?_, fun (r12 : Nat) (h12 : r12 < 2) => ?_⟩); (focus (show 1 ≤ 2 ∧ 2 < 1000; exact ⟨by omega, by omega⟩)); walk_at "go")
    (refine ev_drawN ?_; walk_at "go"; (first | refine ⟨8, rfl, ?_, fun (r13 : Nat) (h13 : r13 < 8) => ?_⟩ | refine ⟨?_, fun (r13 : Nat) (h13 : r13 < 8) => ?_⟩); (focus (show 1 ≤ 8 ∧ 8 < 1000; exact ⟨by omega, by omega⟩)); walk_at "go")
    change Sx K (feedW nm a l cs) H F0 _ [.rf (.ref a), .dat (num mk), .dat (.list (xs.map .str)), .ls (ks.map kD), s4, s5, s6, s7, s8, .dat (num (2 + r1)), .dat (.tuple [.tuple (as1.map askD), num n2, num n3]), .dat (.tuple [num (2 + r1), num n4, num n5]), .dat (num (1 + r6)), .dat (num (2 + r1 + r7)), .dat (.tuple [num (1 + r6), num (2 + r1 + r7), num (1 + r8), num r9]), .dat (.tuple [num r10, num (1 + r11)]), .dat (.tuple [num (1 + r12), num (1 + r13)])] _
    refine sx_ret ?_
    walk_at "go"
    refine cas_tuple (.inr (.inr rfl)) ?_
    walk_at "go"
    (refine ev_drawN ?_; walk_at "go"; (first | refine ⟨2, rfl, ?_, fun (r14 : Nat) (h14 : r14 < 2) => ?_⟩ | refine ⟨?_, fun (r14 : Nat) (h14 : r14 < 2) => ?_⟩); (focus (show 1 ≤ 2 ∧ 2 < 1000; exact ⟨by omega, by omega⟩)); walk_at "go")
    have c3 : n3 = 1 ∨ n3 = 2 ∨ n3 = 4 := by simpa using hn3
    have c5 : n5 = 1 ∨ n5 = 2 ∨ n5 = 4 := by simpa using hn5
    have h1' : r1 < 3 := h1
    have h6' : r6 < 6 := h6
    have h8' : r8 < 3 := h8
    have h9' : r9 < 7 := h9
    have h11' : r11 < 4 := h11
    have h13' : r13 < 8 := h13
    have h14' : r14 < 2 := h14
    have c2 : n2 = 0 ∨ n2 = 1 ∨ n2 = 5 := by simpa using hn2
    have c4 : n4 = 0 ∨ n4 = 1 ∨ n4 = 2 ∨ n4 = 6 := by simpa using hn4
    have h10' : r10 < 5 := h10
    have h12' : r12 < 2 := h12
    have h7' : r7 < 4 - r1 := h7
    have hnm : ks.map Kd.nm = xs := hi
    refine ⟨⟨ks, as1, n2, n3, 2 + r1, n4, n5, 1 + r6, 2 + r1 + r7, 1 + r8, r9, r10, 1 + r11, 1 + r12, 1 + r13, 1 + r14⟩, rfl, ?_⟩
    refine ⟨?_, ?_, ?_, al1, ?_, ?_, ?_, ?_, ?_, ?_, ?_, ?_, ?_, ?_, ?_, ?_, ?_, ?_, ?_, ?_, ?_, ?_, ?_⟩
    · show 1 ≤ ks.length; omega
    · show ks.length ≤ 3; omega
    · show ∀ k ∈ ks, okK (ks.map Kd.nm) k
      rw [hnm]
      exact hk
    · show ∀ p ∈ as1, okA (ks.map Kd.nm) p
      rw [hnm]
      exact ao1
    · show n2 ≤ 5; omega
    · show 1 ≤ n3; omega
    · show n3 ≤ 4; omega
    · show 2 + r1 ≤ 4; omega
    · show n4 ≤ 6; omega
    · show 1 ≤ n5; omega
    · show n5 ≤ 4; omega
    · show 1 + r6 ≤ 6; omega
    · show 2 + r1 + r7 ≤ 9; omega
    · show 2 ≤ 2 + r1 + r7; omega
    · show 1 + r8 ≤ 3; omega
    · show r9 ≤ 6; omega
    · show r10 ≤ 4; omega
    · show 1 ≤ 1 + r11; omega
    · show 1 + r11 ≤ 4; omega
    · show 1 + r12 ≤ 2; omega
    · show 1 + r13 ≤ 8; omega
    · show 1 + r14 ≤ 2; omega
end
end K19

namespace K19
open PySem L2 RZ DL
/-! the walk by data -/
local macro_rules | `(tactic| walk_at "dl") => `(tactic| first
  | with_reducible first
    | refine sx_seq ?_ | refine sx_if ?_ | refine sx_next ?_
    | refine et_not ?_ | refine et_B ?_ | refine et_test ?_ | refine et_and ?_ | refine et_or ?_ | refine et_yes ?_
    | refine ev_and ?_ | refine ev_or ?_ | refine ev_not ?_ | refine ev_if ?_ | refine ev_chain ?_
    | refine ev_int ?_ | refine ev_bl ?_ | refine ev_str ?_ | refine ev_non ?_ | refine ev_c ?_
    | refine ev_op ?_ | refine ev_un ?_ | refine ev_cb ?_ | refine ev_fn1 ?_ | refine ev_fn2 ?_ | refine ev_sl ?_ | refine eo_none ?_ | refine eo_some ?_ | refine ev_tup ?_
    | refine ea_cons ?_ | refine ea_nil ?_
    | refine ops_ge ?_ | refine ops_le ?_ | refine ops_gt ?_ | refine ops_lt ?_ | refine ops_leS ?_ | refine ops_ltS ?_ | refine ops_add_int ?_ | refine ops_sub ?_ | refine ops_isN ?_ | refine ops_isNot ?_ | refine ops_eq_int ?_ | refine ops_eqS ?_ | refine ops_neS ?_
    | refine cas_len_tup ?_ | refine cas_isi_int ?_ | refine cas_isi_bool ?_ | refine cas_isi_str ?_ | refine cas_isi_tup ?_ | refine cas_isi_lst ?_
    | refine iteT ?_ | refine iteF ?_ | refine and_nols ?_
  | ((with_reducible refine ev_varx ?_); refine ⟨_, rfl, ?_⟩)
  | ((with_reducible refine ops_ix_tupx ?_); first | refine ⟨_, rfl, ?_⟩ | refine ⟨_, atI_nat (j := 0) rfl, ?_⟩ | refine ⟨_, atI_nat (j := 1) rfl, ?_⟩ | refine ⟨_, atI_nat (j := 2) rfl, ?_⟩ | refine ⟨_, atI_nat (j := 3) rfl, ?_⟩ | refine ⟨_, atI_nat (j := 4) rfl, ?_⟩ | refine ⟨_, atI_nat (j := 5) rfl, ?_⟩ | refine ⟨_, atI_nat (j := 6) rfl, ?_⟩)
  | ((with_reducible refine sz_and ?_ ?_); exact rfl)
  | ((with_reducible refine ev_ownx ?_); refine ⟨_, rfl, ?_⟩)
  | ((with_reducible refine ev_refx ?_); refine ⟨_, rfl, ?_⟩)
  | (with_reducible refine sxn_seq ?_) | (with_reducible refine uns_neg ?_) | (with_reducible refine ev_frz (evn_lst ?_)) | (with_reducible refine sls_tup ?_) | (refine ev_revT ?_)
  | ((refine sx_extx ?_); refine ⟨_, rfl, ?_⟩) | ((with_reducible refine ops_add_tup ?_ ?_); exact le_line rfl) | (with_reducible refine cas_listT ?_)
  | ((with_reducible refine ifT ?_ ?_); exact rfl) | ((with_reducible refine ifF ?_ ?_); exact rfl))
local macro_rules | `(tactic| walk_at "go") => `(tactic| repeat (first | walk_at "dl" | with_reducible refine ⟨_, rfl, ?_⟩ | with_reducible refine ⟨_, _, rfl, ?_⟩))
structure Kd8 where
  nm : Str
  x1 : D
  x2 : D
  beats : Nat
  x4 : D
  x5 : D
abbrev kD8 (k : Kd8) : D := .tuple [.str k.nm, k.x1, k.x2, num k.beats, k.x4, k.x5]
structure Wk8 where
  ks : List Kd8
  c0 : D
  c1 : D
  cb : Nat
  a0 : D
  a1 : D
  ab : Nat
  us : Nat
  sh : Nat
  br : Nat
  st : Nat
  s0 : D
  sp : Nat
  f0 : D
  fr : Nat
  ln : Nat
abbrev wkD8 (w : Wk8) : D := .tuple [.tuple (w.ks.map kD8), .tuple [w.c0, w.c1, num w.cb], .tuple [w.a0, w.a1, num w.ab], .tuple [num w.us, num w.sh, num w.br, num w.st], .tuple [w.s0, num w.sp], .tuple [w.f0, num w.fr], num w.ln]
structure okK8 (k : Kd8) : Prop where
  nm : Bt 8 k.nm
  b1 : 1 ≤ k.beats
  b4 : k.beats ≤ 4
structure okW8 (w : Wk8) : Prop where
  k1 : 1 ≤ w.ks.length
  k3 : w.ks.length ≤ 3
  ks : ∀ k ∈ w.ks, okK8 k
  cb1 : 1 ≤ w.cb
  cb4 : w.cb ≤ 4
  ab1 : 1 ≤ w.ab
  ab4 : w.ab ≤ 4
  us : w.us ≤ 6
  sh : w.sh ≤ 9
  br : w.br ≤ 3
  st : w.st ≤ 6
  sp1 : 1 ≤ w.sp
  sp : w.sp ≤ 4
  fr : w.fr ≤ 8
  ln : w.ln ≤ 2
abbrev LAny (Pg : Program) (w : World) (K : PySem.W.Frag) (mg : Str → Option Value) (base : Heap) := Fn Pg w K mg base "_law_any" 2 ["_law_feed_here", "_law_some"] (PmF nm K 1 (fun ds => ∃ xs, ds = [.tuple xs] ∧ 1 ≤ xs.length ∧ xs.length ≤ 3) fun ds d => ∀ xs, ds = [.tuple xs] → d ∈ xs)
section
variable {Pg : Program} {w : World} {K : PySem.W.Frag} {mg : Str → Option Value} {base : Heap} {f : Addr} {fd : FuncData}
theorem ok_any (F : Fun K "_law_any" "_law_any" s__law_any f fd) (T : Txt mg) (C__law_draw : LDraw Pg w K mg base) : FnG Pg w K mg base 2 f fd ["_law_feed_here", "_law_some"] (PmF nm K 1 (fun ds => ∃ xs, ds = [.tuple xs] ∧ 1 ≤ xs.length ∧ xs.length ≤ 3) fun ds d => ∀ xs, ds = [.tuple xs] → d ∈ xs) := by
  have nd := sc__law_any.nd
  refine fnG_of F sc__law_any pm_len (fun cdv A ou s H vs Q hgd hr h => ?_)
  refine ⟨_, (pss_one (ps_ret (pe_ix (r := rIx K) ix_seq (pv 1) (pe_fn C__law_draw hgd (hr.mono (by first | decide | omega)) rfl (pa_cons (pv 0) (pa_cons (pe_callB (r := rLenA K) call_len (by rfl) T.b_len (by decide +kernel) (pa_cons (pv 1) pa_nil)) pa_nil))) (fun _ _ => rfl)))), bodyF (by decide) h fun a l cs F0 ds hl ⟨xs, hd, h1, h3⟩ => ?_⟩
  subst hd
  change Sx K (feedW nm a l cs) H F0 _ [.rf (.ref a), .dat (.tuple xs)] _
  refine sx_ret ?_
  walk_at "go"
  (refine ev_drawN ?_; walk_at "go"; (first | refine ⟨xs.length, rfl, ?_, fun (r : Nat) (hr : r < xs.length) => ?_⟩ | refine ⟨?_, fun (r : Nat) (hr : r < xs.length) => ?_⟩); (focus (show 1 ≤ xs.length ∧ xs.length < 1000; exact ⟨by omega, by omega⟩)); walk_at "go")
  refine ops_ix_tup (atI_nat (List.getElem?_eq_getElem hr)) ?_
  refine ⟨_, rfl, fun ys e => ?_⟩
  injection e with e _
  injection e with e
  subst e
  exact List.getElem_mem hr
end
/-! ### stands, drawn -/
theorem kD_inj (a b : Kd8) (h : kD8 a = kD8 b) : a = b := by
  obtain ⟨a1, a2, a3, a4, a5, a6⟩ := a
  obtain ⟨b1, b2, b3, b4, b5, b6⟩ := b
  simp only [kD8, num, PyData.tuple.injEq, List.cons.injEq, PyData.int.injEq, PyData.str.injEq, Int.ofNat_inj, and_true] at h
  obtain ⟨rfl, rfl, rfl, rfl, rfl, rfl⟩ := h
  rfl
theorem wkD_inj (a b : Wk8) (h : wkD8 a = wkD8 b) : a = b := by
  obtain ⟨a1, a2, a3, a4, a5, a6, a7, a8, a9, a10, a11, a12, a13, a14, a15, a16⟩ := a
  obtain ⟨b1, b2, b3, b4, b5, b6, b7, b8, b9, b10, b11, b12, b13, b14, b15, b16⟩ := b
  simp only [wkD8, num, PyData.tuple.injEq, List.cons.injEq, PyData.int.injEq, Int.ofNat_inj, and_true] at h
  obtain ⟨h1, ⟨rfl, rfl, rfl⟩, ⟨rfl, rfl, rfl⟩, ⟨rfl, rfl, rfl, rfl⟩, ⟨rfl, rfl⟩, ⟨rfl, rfl⟩, rfl⟩ := h
  obtain rfl := map_inj' kD_inj h1
  rfl
theorem wk1 {w w' : Wk8} (h : [wkD8 w] = [wkD8 w']) : w = w' := by
  injection h with h _
  exact wkD_inj _ _ h
open PySem.W in
theorem alike_mk (x y : Mk) : alike (mkD x) (mkD y) = true := by
  obtain ⟨n, l, k⟩ := x
  obtain ⟨n', l', k'⟩ := y
  cases l <;> cases l' <;> simp only [mkD, thingD, alike, alikeAll] <;> rfl
open PySem.W in
theorem mks_alike (ms : List Mk) : AllAlike (ms.map mkD) := fun d hd e he => by
  obtain ⟨x, _, rfl⟩ := List.mem_map.mp hd
  obtain ⟨y, _, rfl⟩ := List.mem_map.mp he
  exact alike_mk x y
theorem mks_sort (ms : List Mk) : PySem.W.Sortable (ms.map mkD) := .inl fun d hd => by
  obtain ⟨x, _, rfl⟩ := List.mem_map.mp hd
  exact ⟨_, _, rfl⟩
theorem mk_dep (x : Mk) : (mkD x).depth ≤ 40 := by
  obtain ⟨n, l, k⟩ := x
  cases l <;> simp [mkD, thingD, PyData.depth, PyData.depthAll]
theorem mks_dep (ms : List Mk) : ∀ d ∈ ms.map mkD, d.depth ≤ 40 := fun d hd => by
  obtain ⟨x, _, rfl⟩ := List.mem_map.mp hd
  exact mk_dep x
open PySem.W PyProof.Rows in
theorem lex_same (x : Int ⊕ List Nat) (r t : List (Int ⊕ List Nat)) : lexLt itemOrd (x :: r) (x :: t) = lexLt itemOrd r t := by
  have e : itemOrd.blt x x = false := itemOrd.irrefl x
  show (itemOrd.blt x x || !itemOrd.blt x x && lexLt itemOrd r t) = _
  rw [e]
  rfl
open PySem.W PyProof.Rows in
theorem lex_lt {i j : Int} (h : i < j) (r t : List (Int ⊕ List Nat)) : lexLt itemOrd (.inl i :: r) (.inl j :: t) = true := by
  have e : itemOrd.blt (.inl i) (.inl j) = true := decide_eq_true h
  show (itemOrd.blt (.inl i) (.inl j) || _) = true
  rw [e]
  rfl
open PySem.W PyProof.Rows in
theorem mkLe_light {x y : Mk} (h : mkLe x y = true) {a b : Nat} (hn : x.nm = y.nm) (ha : x.light = some a) (hb : y.light = some b) : a ≤ b := by
  obtain ⟨n, l, k⟩ := x
  obtain ⟨n', l', k'⟩ := y
  simp only at hn ha hb
  subst hn ha hb
  by_cases q : a ≤ b
  · exact q
  exfalso
  have h' : (!lexLt itemOrd (keyToks (mkD ⟨n, some b, k'⟩)) (keyToks (mkD ⟨n, some a, k⟩))) = true := h
  rw [Bool.not_eq_true'] at h'
  have e : false = true := h'.symm.trans ((lex_same _ _ _).trans ((lex_same _ _ _).trans ((lex_same _ _ _).trans ((lex_same _ _ _).trans ((lex_same _ _ _).trans ((lex_same _ _ _).trans (lex_lt (Int.ofNat_lt.mpr (Nat.lt_of_not_le q)) _ _)))))))
  cases e
theorem srt_rises {ms : List Mk} (h : srt ms) : rises ms := h.imp fun h a b _ hn ha hb => mkLe_light h hn ha hb
theorem srt_mks (ms : List Mk) : ∃ ms' : List Mk, srtD false (ms.map mkD) = ms'.map mkD ∧ ms'.Perm ms ∧ srt ms' := by
  have tt := PySem.W.sortLe_total (PyProof.Rows.listOrd PyProof.Rows.itemOrd) false fun m : Mk => PySem.W.keyToks (mkD m)
  refine ⟨ms.mergeSort mkLe, (PySem.W.sort_maps (r := mkLe) mkD fun _ _ _ _ => rfl).symm, List.mergeSort_perm _ _, ?_⟩
  exact List.pairwise_mergeSort (le := mkLe) tt.trans (fun a b => by rw [Bool.or_eq_true]; exact tt.total a b) ms
abbrev down (l : List Nat) : Prop := l.Pairwise fun a b => b ≤ a
open PySem.W PyProof.Rows in
theorem nLe_le {x y : Nat} (h : PySem.W.dataLe true num x y = true) : y ≤ x := by
  by_cases q : y ≤ x
  · exact q
  exfalso
  have h' : (!lexLt itemOrd (keyToks (num x)) (keyToks (num y))) = true := h
  rw [Bool.not_eq_true'] at h'
  have e : false = true := h'.symm.trans (lex_lt (Int.ofNat_lt.mpr (Nat.lt_of_not_le q)) _ _)
  cases e
theorem srt_nums (ls : List Nat) : ∃ ls' : List Nat, srtD true (ls.map num) = ls'.map num ∧ ls'.Perm ls ∧ down ls' := by
  have tt := PySem.W.sortLe_total (PyProof.Rows.listOrd PyProof.Rows.itemOrd) true fun m : Nat => PySem.W.keyToks (num m)
  refine ⟨ls.mergeSort (PySem.W.dataLe true num), (PySem.W.sort_maps (r := PySem.W.dataLe true num) num fun _ _ _ _ => rfl).symm, List.mergeSort_perm _ _, ?_⟩
  have := List.pairwise_mergeSort (le := PySem.W.dataLe true num) tt.trans (fun a b => by rw [Bool.or_eq_true]; exact tt.total a b) ls
  exact this.imp fun h => nLe_le h
open PySem.W in
theorem nums_alike (ls : List Nat) : AllAlike (ls.map num) := fun d hd e he => by
  obtain ⟨x, _, rfl⟩ := List.mem_map.mp hd
  obtain ⟨y, _, rfl⟩ := List.mem_map.mp he
  rfl
theorem nums_sort (ls : List Nat) : PySem.W.Sortable (ls.map num) := .inr fun d hd => by
  obtain ⟨x, _, rfl⟩ := List.mem_map.mp hd
  exact ⟨fun z => (nomatch z), fun xs z => (nomatch z)⟩
theorem nums_dep (ls : List Nat) : ∀ d ∈ ls.map num, d.depth ≤ 40 := fun d hd => by
  obtain ⟨x, _, rfl⟩ := List.mem_map.mp hd
  simp [PyData.depth]
def b8 (w : Wk8) (m : Mk) : Nat := match m.light with
  | none => ((w.ks.find? fun k => decide (k.nm = m.nm)).map Kd8.beats).getD 0
  | some l => if l = w.br then w.ab else w.cb
theorem b8_in {w : Wk8} {m : Mk} (ok : okW8 w) (hm : m.nm ∈ w.ks.map Kd8.nm) : 1 ≤ b8 w m ∧ b8 w m ≤ 4 := by
  obtain ⟨n, l, k⟩ := m
  cases l with
  | none =>
    obtain ⟨k', hk', e⟩ := List.mem_map.mp hm
    cases q : w.ks.find? (fun k => decide (k.nm = n)) with
    | none =>
      have := List.find?_eq_none.mp q k' hk'
      rw [decide_eq_true e] at this
      exact absurd rfl this
    | some k2 =>
      have m2 := List.mem_of_find?_eq_some q
      show 1 ≤ ((w.ks.find? fun k => decide (k.nm = n)).map Kd8.beats).getD 0 ∧ _ ≤ 4
      have e2 : ((w.ks.find? fun k => decide (k.nm = n)).map Kd8.beats).getD 0 = k2.beats := by rw [q]; rfl
      have e3 : b8 w ⟨n, none, k⟩ = k2.beats := e2
      rw [e2, e3]
      exact ⟨(ok.ks k2 m2).b1, (ok.ks k2 m2).b4⟩
  | some l =>
    show 1 ≤ (if l = w.br then w.ab else w.cb) ∧ (if l = w.br then w.ab else w.cb) ≤ 4
    split
    · exact ⟨ok.ab1, ok.ab4⟩
    · exact ⟨ok.cb1, ok.cb4⟩
theorem b8_eq (w : Wk8) {m m' : Mk} (h : thingD m = thingD m') : b8 w m = b8 w m' := by
  obtain ⟨n, l, k⟩ := m
  obtain ⟨n', l', k'⟩ := m'
  cases l <;> cases l' <;> simp only [thingD, num, PyData.tuple.injEq, List.cons.injEq, PyData.int.injEq, PyData.str.injEq, Int.ofNat_inj, and_true] at h
  · obtain ⟨_, rfl⟩ := h
    rfl
  · exact absurd h.1 (by decide)
  · exact absurd h.1 (by decide)
  · obtain ⟨_, rfl, rfl⟩ := h
    rfl
/-- a making as it may be drawn -/
structure okQ (w : Wk8) (m : Mk) : Prop where
  nm : m.nm ∈ w.ks.map Kd8.nm
  light : ∀ l, m.light = some l → l ≤ w.br
  left1 : 1 ≤ m.left
  left : m.left ≤ b8 w m
/-- a right stand -/
structure okD (w : Wk8) (s : St) : Prop where
  us : s.us.length = w.ks.length
  ub : ∀ x ∈ s.us, x ≤ w.us
  ls : s.ls.length = w.ks.length
  lr : ∀ l ∈ s.ls, l.length ≤ w.sh ∧ (∀ x ∈ l, x ≤ w.br) ∧ down l
  st : s.st ≤ w.st
  mm : s.ms.length ≤ w.ln
  ms : ∀ m ∈ s.ms, okQ w m
  mr : srt s.ms
  ph1 : 1 ≤ s.ph
  ph : s.ph ≤ w.sp
  rs : s.rs ≤ w.fr
abbrev spBeatsX (K : PySem.W.Frag) : Sp := Pm K 2 (fun _ ss => ∃ (w : Wk8) (m : Mk), ss = [.dat (wkD8 w), .dat (thingD m)] ∧ w.ks.length ≤ 1000 ∧ m.nm ∈ w.ks.map Kd8.nm) fun _ ss s => ∀ (w : Wk8) (m : Mk), ss = [.dat (wkD8 w), .dat (thingD m)] → s = .dat (num (b8 w m))
abbrev LBeatsX (Pg : Program) (w : World) (K : PySem.W.Frag) (mg : Str → Option Value) (base : Heap) := Fn Pg w K mg base "_law_beats_of" 1 ["_law_works_here", "_law_thing"] (spBeatsX K)
abbrev LStand (Pg : Program) (w : World) (K : PySem.W.Frag) (mg : Str → Option Value) (base : Heap) := Fn Pg w K mg base "_law_stand" 3 ["_law_feed_here", "_law_works_here"] (PmF nm K 1 (fun ds => ∃ w, ds = [wkD8 w] ∧ okW8 w) fun ds d => ∀ w, ds = [wkD8 w] → ∃ s, d = stD s ∧ okD w s)
def isKd (x : Str) : D → Bool
  | .tuple (.str y :: _) => decide (y = x)
  | _ => false
def kBeats : D → D
  | .tuple [_, _, _, b, _, _] => b
  | _ => .none
section
variable {Pg : Program} {w : World} {K : PySem.W.Frag} {mg : Str → Option Value} {base : Heap} {f : Addr} {fd : FuncData}
theorem ok_stand (F : Fun K "_law_stand" "_law_stand" s__law_stand f fd) (T : Txt mg) (C__law_draw : LDraw Pg w K mg base) (C__law_any : LAny Pg w K mg base) (C__law_beats_of : LBeatsX Pg w K mg base) : FnG Pg w K mg base 3 f fd ["_law_feed_here", "_law_works_here"] (PmF nm K 1 (fun ds => ∃ w, ds = [wkD8 w] ∧ okW8 w) fun ds d => ∀ w, ds = [wkD8 w] → ∃ s, d = stD s ∧ okD w s) := by
  have nd := sc__law_stand.nd
  refine fnG_of F sc__law_stand pm_len (fun cdv A ou s H vs Q hgd hr h => ?_)
  have hu : (A.deeper (PyProof.Rows.envOfC "_law_stand" (defScope s__law_stand) s.heap.objs.size f cdv)).units + 64 < cLine := by have := hr.un; omega
  refine ⟨_, (pss_cons (ps_asg (pe_ix (r := rIx K) ix_seq (pv 1) pe_int (fun _ _ => rfl)) (pg_tup (n := 4) rfl (pgs_cons (pg_name (i := 2) nd rfl (Or.inl rfl) (Or.inl rfl)) (pgs_cons (pg_name (i := 3) nd rfl (Or.inl rfl) (Or.inl rfl)) (pgs_cons (pg_name (i := 4) nd rfl (Or.inr rfl) (Or.inl rfl)) (pgs_cons (pg_name (i := 5) nd rfl (Or.inl rfl) (Or.inl rfl)) pgs_nil)))))) (pss_cons (ps_par3 (i := 6) (j := 7) (l := 8) rfl nd rfl rfl rfl (by decide) (by decide) (by decide) rfl rfl rfl (pa_cons (pe_lst pa_nil) (pa_cons (pe_lst pa_nil) (pa_cons (pe_lst pa_nil) pa_nil))) (by rfl)) (pss_cons (ps_for PassesOwn.never rfl (pi_tup (pe_ix (r := rIx K) ix_seq (pv 1) pe_int (fun _ _ => rfl))) (pg_name (i := 9) nd rfl (Or.inl rfl) (Or.inl rfl)) (pss_cons (ps_expr (pe_bm PySem.F.plainAttrs_list PySem.F.slot_list_append PySem.F.type_list_append mt_append (pv 6) (pa_cons (pe_fn C__law_draw hgd (hr.mono (by first | decide | omega)) rfl (pa_cons (pv 0) (pa_cons (pe_op (r := rAdd4 K) opAdd (pv 2) pe_int) pa_nil))) pa_nil))) (pss_cons (ps_setLc (i := 10) (own := [("_law_k", 11)]) (g := gName 11) rfl nd rfl rfl (sw_true rfl rfl rfl (by decide +kernel)) (pi_range1 rfl T.b_range (pa_cons (pe_fn C__law_draw hgd (hr.mono (by first | decide | omega)) rfl (pa_cons (pv 0) (pa_cons (pe_op (r := rAdd4 K) opAdd (pv 3) pe_int) pa_nil))) pa_nil)) (blkOk_by (N := ["_law_feed_here", "_law_works_here", "_law_uses", "_law_sheets", "_law_bright", "_law_store", "_law_held", "_law_leaves", "_law_makings", "_law_kind", "_law_lights", "_law_k", "_law_name", "_law_thing", "_law_stuff", "_law_phase_now", "_law_rest_now"]) (sc := (defScope s__law_stand)) (by decide +kernel)) (fun _ _ _ _ _ => (pg_name (i := 11) nd rfl (Or.inl rfl) (Or.inr rfl))) (fun _ _ _ _ _ => pts_nil) (fun _ _ _ _ _ => (pe_fn C__law_draw hgd (hr.mono (by first | decide | omega)) rfl (pa_cons (pv 0) (pa_cons (pe_op (r := rAdd4 K) opAdd (pv 4) pe_int) pa_nil))))) (pss_one (ps_expr (pe_bm PySem.F.plainAttrs_list PySem.F.slot_list_append PySem.F.type_list_append mt_append (pv 7) (pa_cons (pe_callTy (r := rTupleOf K) call_tuple_of (by rfl) T.b_tuple (by decide +kernel) (pa_cons (pe_callBK (r := rSrtK K) (crk_srtD hu) (by rfl) T.b_sorted (by decide +kernel) (pa_cons (pv 10) pa_nil) (pk_cons pe_bl pk_nil)) pa_nil)) pa_nil))))))) (pss_cons (ps_for PassesOwn.never rfl (pi_range1 rfl T.b_range (pa_cons (pe_fn C__law_draw hgd (hr.mono (by first | decide | omega)) rfl (pa_cons (pv 0) (pa_cons (pe_op (r := rAdd4 K) opAdd (pe_ix (r := rIx K) ix_seq (pv 1) pe_int (fun _ _ => rfl)) pe_int) pa_nil))) pa_nil)) (pg_name (i := 11) nd rfl (Or.inl rfl) (Or.inl rfl)) (pss_cons (ps_set (i := 12) nd rfl (Or.inl rfl) (pe_ix (r := rIx K) ix_seq (pe_fn C__law_any hgd (hr.mono (by first | decide | omega)) rfl (pa_cons (pv 0) (pa_cons (pe_ix (r := rIx K) ix_seq (pv 1) pe_int (fun _ _ => rfl)) pa_nil))) pe_int (fun _ _ => rfl)) (hf := Or.inl rfl)) (pss_cons (ps_set (i := 13) nd rfl (Or.inl rfl) (pe_tup (pa_cons pe_str (pa_cons (pv 12) pa_nil))) (hf := Or.inl rfl)) (pss_cons (ps_if (pt_cmpR opGt (pe_fn C__law_draw hgd (hr.mono (by first | decide | omega)) rfl (pa_cons (pv 0) (pa_cons pe_int pa_nil))) pe_int (nomark _)) (pss_one (ps_set (i := 13) nd rfl (Or.inl rfl) (pe_tup (pa_cons pe_str (pa_cons (pv 12) (pa_cons (pe_fn C__law_draw hgd (hr.mono (by first | decide | omega)) rfl (pa_cons (pv 0) (pa_cons (pe_op (r := rAdd4 K) opAdd (pv 4) pe_int) pa_nil))) pa_nil)))) (hf := Or.inl rfl))) pss_nil) (pss_one (ps_expr (pe_bm PySem.F.plainAttrs_list PySem.F.slot_list_append PySem.F.type_list_append mt_append (pv 8) (pa_cons (pe_tup (pa_cons (pv 13) (pa_cons (pe_op (r := rAdd4 K) opAdd pe_int (pe_fn C__law_draw hgd (hr.mono (by first | decide | omega)) rfl (pa_cons (pv 0) (pa_cons (pe_fn C__law_beats_of hgd (hr.mono (by first | decide | omega)) rfl (pa_cons (pv 1) (pa_cons (pv 13) pa_nil))) pa_nil)))) pa_nil))) pa_nil)))))))) (pss_cons (ps_par (i := 14) (j := 15) rfl nd rfl rfl (by decide) rfl rfl (pa_cons (pe_fn C__law_draw hgd (hr.mono (by first | decide | omega)) rfl (pa_cons (pv 0) (pa_cons (pe_op (r := rAdd4 K) opAdd (pv 5) pe_int) pa_nil))) (pa_cons (pe_op (r := rAdd4 K) opAdd pe_int (pe_fn C__law_draw hgd (hr.mono (by first | decide | omega)) rfl (pa_cons (pv 0) (pa_cons (pe_ix (r := rIx K) ix_seq (pe_ix (r := rIx K) ix_seq (pv 1) pe_int (fun _ _ => rfl)) pe_int (fun _ _ => rfl)) pa_nil)))) pa_nil)) (by rfl)) (pss_cons (ps_set (i := 16) nd rfl (Or.inl rfl) (pe_op (r := rMul2 K) opMul (pe_fn C__law_draw hgd (hr.mono (by first | decide | omega)) rfl (pa_cons (pv 0) (pa_cons pe_int pa_nil))) (pe_fn C__law_draw hgd (hr.mono (by first | decide | omega)) rfl (pa_cons (pv 0) (pa_cons (pe_op (r := rAdd4 K) opAdd (pe_ix (r := rIx K) ix_seq (pe_ix (r := rIx K) ix_seq (pv 1) pe_int (fun _ _ => rfl)) pe_int (fun _ _ => rfl)) pe_int) pa_nil)))) (hf := Or.inl rfl)) (pss_one (ps_ret (pe_tup (pa_cons (pe_callTy (r := rTupleOf K) call_tuple_of (by rfl) T.b_tuple (by decide +kernel) (pa_cons (pv 6) pa_nil)) (pa_cons (pe_callTy (r := rTupleOf K) call_tuple_of (by rfl) T.b_tuple (by decide +kernel) (pa_cons (pv 7) pa_nil)) (pa_cons (pv 14) (pa_cons (pe_callTy (r := rTupleOf K) call_tuple_of (by rfl) T.b_tuple (by decide +kernel) (pa_cons (pe_callB (r := rSrtD K false) (cr_srtD hu) (by rfl) T.b_sorted (by decide +kernel) (pa_cons (pv 8) pa_nil)) pa_nil)) (pa_cons (pv 15) (pa_cons (pv 16) pa_nil))))))))))))))), bodyF (by decide) h fun a l cs F0 ds hl ⟨wk, hd, ok⟩ => ?_⟩
  subst hd
  have u1 := ok.us
  have u2 := ok.sh
  have u3 := ok.br
  have u4 := ok.st
  have u5 := ok.k1
  have u6 := ok.k3
  have u7 := ok.ln
  have u8 := ok.sp
  have u9 := ok.fr
  have u10 := ok.sp1
  change Sx K (feedW nm a l cs) H F0 _ [.rf (.ref a), .dat (wkD8 wk), .un, .un, .un, .un, .un, .un, .un, .un, .un, .un, .un, .un, .un, .un, .un] _
  refine sx_seq (sx_asgG ?_)
  walk_at "go"
  refine gs_tup rfl (gss_cons (gs_name trivial (gss_cons (gs_name trivial (gss_cons (gs_name trivial (gss_cons (gs_name trivial (gss_nil ?_)))))))))
  refine sx_seq (sx_three ?_)
  change Sx K (feedW nm a l cs) H F0 _ [.rf (.ref a), .dat (wkD8 wk), .dat (num wk.us), .dat (num wk.sh), .dat (num wk.br), .dat (num wk.st), .ls [], .ls [], .ls [], .un, .un, .un, .un, .un, .un, .un, .un] _
  refine sx_seq (sx_for (fun es i ρ' => es = wk.ks.map kD8 ∧ ∃ (us : List Nat) (ls : List (List Nat)) (s9 s10 : Sl), ρ' = [.rf (.ref a), .dat (wkD8 wk), .dat (num wk.us), .dat (num wk.sh), .dat (num wk.br), .dat (num wk.st), .ls (us.map num), .ls (ls.map rowD), .ls [], s9, s10, .un, .un, .un, .un, .un, .un] ∧ us.length = i ∧ (∀ x ∈ us, x ≤ wk.us) ∧ ls.length = i ∧ ∀ l ∈ ls, l.length ≤ wk.sh ∧ (∀ x ∈ l, x ≤ wk.br) ∧ down l) (evi_tup ?_))
  walk_at "go"
  refine ⟨⟨rfl, [], [], .un, .un, rfl, rfl, fun x m => (nomatch m), rfl, fun x m => (nomatch m)⟩, ?_, ?_⟩
  · rintro i z ρ' hz ⟨_, us, ls, s9, s10, rfl, e1, e2, e3, e4⟩
    have hi3 : i < 3 := by
      have := (List.getElem?_eq_some_iff.mp hz).1
      rw [List.length_map] at this
      omega
    obtain ⟨k, hk, rfl⟩ := List.mem_map.mp (List.mem_of_getElem? hz)
    refine gs_name trivial ?_
    refine sx_seq (sx_app rfl (by rw [List.length_map, sizeLine_eq]; omega) ?_)
    walk_at "go"
    (refine ev_drawN ?_; walk_at "go"; (first | refine ⟨(Nat.succ wk.us), rfl, ?_, fun (r1 : Nat) (h1 : r1 < (Nat.succ wk.us)) => ?_⟩ | refine ⟨?_, fun (r1 : Nat) (h1 : r1 < (Nat.succ wk.us)) => ?_⟩); (focus (show 1 ≤ (Nat.succ wk.us) ∧ (Nat.succ wk.us) < 1000; exact ⟨by omega, by omega⟩)); walk_at "go")
    refine sx_asg (Ev.mono (P := fun s => ∃ ls : List Nat, s = .dat (.list (ls.map num)) ∧ ls.length ≤ wk.sh ∧ ∀ x ∈ ls, x ≤ wk.br) ?_ ?_)
    · refine ev_frz (evn_lc (fun ds i acc => ds.length ≤ wk.sh ∧ ∃ ms : List Nat, acc = ms.map num ∧ ms.length = i ∧ ∀ m ∈ ms, m ≤ wk.br) (evi_rng1 ?_))
      walk_at "go"
      (refine ev_drawN ?_; walk_at "go"; (first | refine ⟨(Nat.succ wk.sh), rfl, ?_, fun (r2 : Nat) (h2 : r2 < (Nat.succ wk.sh)) => ?_⟩ | refine ⟨?_, fun (r2 : Nat) (h2 : r2 < (Nat.succ wk.sh)) => ?_⟩); (focus (show 1 ≤ (Nat.succ wk.sh) ∧ (Nat.succ wk.sh) < 1000; exact ⟨by omega, by omega⟩)); walk_at "go")
      refine ⟨by omega, by omega, ?_, ⟨?_, [], rfl, rfl, fun m h => (nomatch h)⟩, ?_, ?_⟩
      · rw [rngD_len, sizeLine_eq]
        omega
      · rw [rngD_len]
        omega
      · rintro i d acc hd ⟨h5, ms, rfl, hi, hb⟩
        refine gc_name (by decide) trivial (et_yes ?_)
        rw [if_pos rfl]
        (refine ev_drawN ?_; walk_at "go"; (first | refine ⟨(Nat.succ wk.br), rfl, ?_, fun (x : Nat) (hx : x < (Nat.succ wk.br)) => ?_⟩ | refine ⟨?_, fun (x : Nat) (hx : x < (Nat.succ wk.br)) => ?_⟩); (focus (show 1 ≤ (Nat.succ wk.br) ∧ (Nat.succ wk.br) < 1000; exact ⟨by omega, by omega⟩)); walk_at "go")
        refine ⟨h5, ms ++ [x], by rw [List.map_append]; rfl, by rw [List.length_append, hi]; rfl, fun m hm => ?_⟩
        rcases List.mem_append.mp hm with hm | hm
        · exact hb m hm
        · have := List.mem_singleton.mp hm
          omega
      · rintro acc ⟨h5, ms, rfl, hi, hb⟩
        exact ⟨ms, rfl, by omega, hb⟩
    · rintro _ ⟨lt, rfl, hl9, hb3⟩
      refine ⟨trivial, ?_⟩
      obtain ⟨lt', es, hp, hdn⟩ := srt_nums lt
      refine sx_app rfl (by rw [List.length_map, sizeLine_eq]; omega) ?_
      refine ev_cb (ea_cons (ev_srtK (ea_cons (ev_varx ⟨_, rfl, ea_nil (ea_cons (ev_bl (ea_nil ⟨_, lt.map num, rfl, rfl, trivial, .inr (.inl rfl), nums_alike lt, nums_sort lt, nums_dep lt, ?_⟩)))⟩))))
      rw [es]
      refine ea_nil (cas_tuple (.inr (.inl rfl)) ⟨_, rfl, ?_⟩)
      refine ⟨rfl, us ++ [r1], ls ++ [lt'], .dat (kD8 k), .dat (.list (lt.map num)), ?_, by rw [List.length_append, e1]; rfl, fun x m => ?_, by rw [List.length_append, e3]; rfl, fun x m => ?_⟩
      · rw [List.map_append, List.map_append]
        rfl
      · rcases List.mem_append.mp m with m | m
        · exact e2 x m
        · have := List.mem_singleton.mp m
          omega
      · rcases List.mem_append.mp m with m | m
        · exact e4 x m
        · rw [List.mem_singleton.mp m]
          exact ⟨by rw [hp.length_eq]; omega, fun y hy => hb3 y (hp.mem_iff.mp hy), hdn⟩
  rintro ρ' ⟨_, us, ls, s9, s10, rfl, e1, e2, e3, e4⟩
  rw [List.length_map] at e1 e3
  refine sx_seq (sx_for (fun es i ρ' => es.length ≤ wk.ln ∧ ∃ (ms : List Mk) (s11 s12 s13 : Sl), ρ' = [.rf (.ref a), .dat (wkD8 wk), .dat (num wk.us), .dat (num wk.sh), .dat (num wk.br), .dat (num wk.st), .ls (us.map num), .ls (ls.map rowD), .ls (ms.map mkD), s9, s10, s11, s12, s13, .un, .un, .un] ∧ ms.length = i ∧ ∀ m ∈ ms, okQ wk m) (evi_rng1 ?_))
  walk_at "go"
  (refine ev_drawN ?_; walk_at "go"; (first | refine ⟨(Nat.succ wk.ln), rfl, ?_, fun (r1 : Nat) (h1 : r1 < (Nat.succ wk.ln)) => ?_⟩ | refine ⟨?_, fun (r1 : Nat) (h1 : r1 < (Nat.succ wk.ln)) => ?_⟩); (focus (show 1 ≤ (Nat.succ wk.ln) ∧ (Nat.succ wk.ln) < 1000; exact ⟨by omega, by omega⟩)); walk_at "go")
  refine ⟨by omega, by omega, ⟨by rw [rngD_len]; omega, [], .un, .un, .un, rfl, rfl, fun m h => (nomatch h)⟩, ?_, ?_⟩
  · rintro i z ρ' hz ⟨l2, ms, s11, s12, s13, rfl, hi, hm⟩
    have hi2 : i < 2 := by
      have := (List.getElem?_eq_some_iff.mp hz).1
      omega
    refine gs_name trivial ?_
    refine sx_seq (sx_asg ?_)
    walk_at "go"
    refine ev_fnF ?_
    walk_at "go"
    refine ⟨[_], rfl, rfl, ⟨wk.ks.map kD8, rfl, by rw [List.length_map]; omega, by rw [List.length_map]; omega⟩, fun d hd => ?_⟩
    obtain ⟨k, hk, rfl⟩ := List.mem_map.mp (hd _ rfl)
    walk_at "go"
    refine sx_asg (ev_tup (ea_cons (ev_str (ea_cons (ev_varx ⟨_, rfl, ea_nil ⟨[.str "tool", .str k.nm], rfl, le_line rfl, trivial, ?_⟩⟩)))))
    change Sx K (feedW nm a l cs) H F0 _ [.rf (.ref a), .dat (wkD8 wk), .dat (num wk.us), .dat (num wk.sh), .dat (num wk.br), .dat (num wk.st), .ls (us.map num), .ls (ls.map rowD), .ls (ms.map mkD), s9, s10, .dat z, .dat (.str k.nm), .dat (thingD ⟨k.nm, none, 0⟩), .un, .un, .un] _
    refine sx_seq (Sx.mono (N := { nx := fun ρ' => ∃ lt : Option Nat, ρ' = [.rf (.ref a), .dat (wkD8 wk), .dat (num wk.us), .dat (num wk.sh), .dat (num wk.br), .dat (num wk.st), .ls (us.map num), .ls (ls.map rowD), .ls (ms.map mkD), s9, s10, .dat z, .dat (.str k.nm), .dat (thingD ⟨k.nm, lt, 0⟩), .un, .un, .un] ∧ ∀ x, lt = some x → x ≤ wk.br, rt := fun _ => False }) ?_ ?_ (fun _ f => f.elim) (fun _ f => f.elim) (fun _ f => f.elim))
    · walk_at "go"
      (refine ev_drawN ?_; walk_at "go"; (first | refine ⟨2, rfl, ?_, fun (r2 : Nat) (h2 : r2 < 2) => ?_⟩ | refine ⟨?_, fun (r2 : Nat) (h2 : r2 < 2) => ?_⟩); (focus (show 1 ≤ 2 ∧ 2 < 1000; exact ⟨by omega, by omega⟩)); walk_at "go")
      refine if2 (fun _ => ?_) (fun _ => ?_)
      · refine sx_asg ?_
        walk_at "go"
        (refine ev_drawN ?_; walk_at "go"; (first | refine ⟨(Nat.succ wk.br), rfl, ?_, fun (r3 : Nat) (h3 : r3 < (Nat.succ wk.br)) => ?_⟩ | refine ⟨?_, fun (r3 : Nat) (h3 : r3 < (Nat.succ wk.br)) => ?_⟩); (focus (show 1 ≤ (Nat.succ wk.br) ∧ (Nat.succ wk.br) < 1000; exact ⟨by omega, by omega⟩)); walk_at "go")
        exact ⟨some r3, rfl, fun x e => by cases e; omega⟩
      · walk_at "go"
        exact fun x e => (nomatch e)
    · rintro ρ' ⟨lt, rfl, hlt⟩
      refine sx_app rfl (by rw [List.length_map, sizeLine_eq]; omega) ?_
      walk_at "go"
      have hmem : k.nm ∈ wk.ks.map Kd8.nm := List.mem_map.mpr ⟨k, hk, rfl⟩
      refine ev_drawN ?_
      walk_at "go"
      refine ev_fn ?_
      walk_at "go"
      refine ⟨?_, rfl, ⟨wk, ⟨k.nm, lt, 0⟩, rfl, by omega, hmem⟩, ?_⟩
      · intro s m
        simp only [List.mem_cons, List.not_mem_nil, or_false] at m
        rcases m with rfl | rfl <;> trivial
      intro s hs
      have hs := hs wk ⟨k.nm, lt, 0⟩ rfl
      obtain ⟨b1, b4⟩ := b8_in (m := ⟨k.nm, lt, 0⟩) ok hmem
      obtain ⟨b, hbe⟩ : ∃ b, b = b8 wk ⟨k.nm, lt, 0⟩ := ⟨_, rfl⟩
      rw [← hbe] at hs b1 b4
      subst hs
      walk_at "go"
      refine ⟨⟨b1, by omega⟩, fun r4 h4 => ?_⟩
      walk_at "go"
      refine ⟨l2, ms ++ [⟨k.nm, lt, 1 + r4⟩], .dat z, .dat (.str k.nm), .dat (thingD ⟨k.nm, lt, 0⟩), ?_, by rw [List.length_append, hi]; rfl, fun m hm' => ?_⟩
      · rw [List.map_append]
        rfl
      · rcases List.mem_append.mp hm' with q | q
        · exact hm m q
        · rw [List.mem_singleton.mp q]
          exact ⟨hmem, hlt, by show 1 ≤ 1 + r4; omega, by show 1 + r4 ≤ b8 wk ⟨k.nm, lt, 1 + r4⟩; rw [b8_eq wk (m := ⟨k.nm, lt, 1 + r4⟩) (m' := ⟨k.nm, lt, 0⟩) rfl, ← hbe]; omega⟩
  · rintro ρ' ⟨l2, ms, s11, s12, s13, rfl, hi, hm⟩
    have hm2 : ms.length ≤ wk.ln := by omega
    refine sx_seq (sx_par ?_)
    walk_at "go"
    (refine ev_drawN ?_; walk_at "go"; (first | refine ⟨(Nat.succ wk.st), rfl, ?_, fun (r2 : Nat) (h2 : r2 < (Nat.succ wk.st)) => ?_⟩ | refine ⟨?_, fun (r2 : Nat) (h2 : r2 < (Nat.succ wk.st)) => ?_⟩); (focus (show 1 ≤ (Nat.succ wk.st) ∧ (Nat.succ wk.st) < 1000; exact ⟨by omega, by omega⟩)); walk_at "go")
    (refine ev_drawN ?_; walk_at "go"; (first | refine ⟨wk.sp, rfl, ?_, fun (r3 : Nat) (h3 : r3 < wk.sp) => ?_⟩ | refine ⟨?_, fun (r3 : Nat) (h3 : r3 < wk.sp) => ?_⟩); (focus (show 1 ≤ wk.sp ∧ wk.sp < 1000; exact ⟨by omega, by omega⟩)); walk_at "go")
    refine sx_asg ?_
    walk_at "go"
    (refine ev_drawN ?_; walk_at "go"; (first | refine ⟨2, rfl, ?_, fun (r4 : Nat) (h4 : r4 < 2) => ?_⟩ | refine ⟨?_, fun (r4 : Nat) (h4 : r4 < 2) => ?_⟩); (focus (show 1 ≤ 2 ∧ 2 < 1000; exact ⟨by omega, by omega⟩)); walk_at "go")
    (refine ev_drawN ?_; walk_at "go"; (first | refine ⟨(Nat.succ wk.fr), rfl, ?_, fun (r5 : Nat) (h5 : r5 < (Nat.succ wk.fr)) => ?_⟩ | refine ⟨?_, fun (r5 : Nat) (h5 : r5 < (Nat.succ wk.fr)) => ?_⟩); (focus (show 1 ≤ (Nat.succ wk.fr) ∧ (Nat.succ wk.fr) < 1000; exact ⟨by omega, by omega⟩)); walk_at "go")
    refine ops_mul (.inl ⟨by omega, by omega⟩) ?_
    walk_at "go"
    refine sx_ret ?_
    walk_at "go"
    refine cas_tuple (.inr (.inr rfl)) ?_
    walk_at "go"
    refine cas_tuple (.inr (.inr rfl)) ?_
    walk_at "go"
    obtain ⟨ms', es, hp, hr⟩ := srt_mks ms
    refine srt_run (.inr (.inr rfl)) (mks_alike ms) (mks_sort ms) (mks_dep ms) ?_
    rw [es]
    refine ea_nil (cas_tuple (.inr (.inl rfl)) ?_)
    walk_at "go"
    intro w' e'
    obtain rfl := wk1 e'
    refine ⟨⟨us, ls, r2, ms', 1 + r3, r4 * r5⟩, rfl, e1, e2, e3, e4, ?_, ?_, fun m q => hm m (hp.mem_iff.mp q), hr, ?_, ?_, ?_⟩
    · show r2 ≤ wk.st; omega
    · show ms'.length ≤ wk.ln
      rw [hp.length_eq]
      exact hm2
    · show 1 ≤ 1 + r3; omega
    · show 1 + r3 ≤ wk.sp; omega
    · show r4 * r5 ≤ wk.fr
      have : r4 = 0 ∨ r4 = 1 := by
        have : r4 < 2 := h4
        omega
      rcases this with rfl | rfl <;> omega
end
end K19

namespace K19
open PySem L2 RZ DL
/-! the walk by data -/
local macro_rules | `(tactic| walk_at "dl") => `(tactic| first
  | with_reducible first
    | refine sx_seq ?_ | refine sx_if ?_ | refine sx_next ?_
    | refine et_not ?_ | refine et_B ?_ | refine et_test ?_ | refine et_and ?_ | refine et_or ?_ | refine et_yes ?_
    | refine ev_and ?_ | refine ev_or ?_ | refine ev_not ?_ | refine ev_if ?_ | refine ev_chain ?_
    | refine ev_int ?_ | refine ev_bl ?_ | refine ev_str ?_ | refine ev_non ?_ | refine ev_c ?_
    | refine ev_op ?_ | refine ev_un ?_ | refine ev_cb ?_ | refine ev_fn1 ?_ | refine ev_fn2 ?_ | refine ev_sl ?_ | refine eo_none ?_ | refine eo_some ?_ | refine ev_tup ?_
    | refine ea_cons ?_ | refine ea_nil ?_
    | refine ops_ge ?_ | refine ops_le ?_ | refine ops_gt ?_ | refine ops_lt ?_ | refine ops_leS ?_ | refine ops_ltS ?_ | refine ops_add_int ?_ | refine ops_sub ?_ | refine ops_isN ?_ | refine ops_isNot ?_ | refine ops_eq_int ?_ | refine ops_eqS ?_ | refine ops_neS ?_
    | refine cas_len_tup ?_ | refine cas_isi_int ?_ | refine cas_isi_bool ?_ | refine cas_isi_str ?_ | refine cas_isi_tup ?_ | refine cas_isi_lst ?_
    | refine iteT ?_ | refine iteF ?_ | refine and_nols ?_
  | ((with_reducible refine ev_varx ?_); refine ⟨_, rfl, ?_⟩)
  | ((with_reducible refine ops_ix_tupx ?_); first | refine ⟨_, rfl, ?_⟩ | refine ⟨_, atI_nat (j := 0) rfl, ?_⟩ | refine ⟨_, atI_nat (j := 1) rfl, ?_⟩ | refine ⟨_, atI_nat (j := 2) rfl, ?_⟩ | refine ⟨_, atI_nat (j := 3) rfl, ?_⟩ | refine ⟨_, atI_nat (j := 4) rfl, ?_⟩ | refine ⟨_, atI_nat (j := 5) rfl, ?_⟩ | refine ⟨_, atI_nat (j := 6) rfl, ?_⟩)
  | ((with_reducible refine sz_and ?_ ?_); exact rfl)
  | ((with_reducible refine ev_ownx ?_); refine ⟨_, rfl, ?_⟩)
  | ((with_reducible refine ev_refx ?_); refine ⟨_, rfl, ?_⟩)
  | (with_reducible refine sxn_seq ?_) | (with_reducible refine uns_neg ?_) | (with_reducible refine ev_frz (evn_lst ?_)) | (with_reducible refine sls_tup ?_) | (refine ev_revT ?_)
  | ((refine sx_extx ?_); refine ⟨_, rfl, ?_⟩) | ((with_reducible refine ops_add_tup ?_ ?_); exact le_line rfl) | (with_reducible refine cas_listT ?_)
  | ((with_reducible refine ifT ?_ ?_); exact rfl) | ((with_reducible refine ifF ?_ ?_); exact rfl))
local macro_rules | `(tactic| walk_at "go") => `(tactic| repeat (first | walk_at "dl" | with_reducible refine ⟨_, rfl, ?_⟩ | with_reducible refine ⟨_, _, rfl, ?_⟩))
/-! ### one lap lower -/
theorem cnt_down {l : List Nat} (h : down l) (t : Nat) : ∀ k (hk : k < l.length), t ≤ l[k] ↔ k < l.countP fun x => decide (t ≤ x) := by
  induction l with
  | nil => intro k hk; cases hk
  | cons x l ih =>
    obtain ⟨h1, h2⟩ := List.pairwise_cons.mp h
    have z : ¬ t ≤ x → (l.countP fun x => decide (t ≤ x)) = 0 := fun q => by
      rw [List.countP_eq_zero]
      intro y hy
      have := h1 y hy
      simp only [decide_eq_true_eq]
      omega
    intro k hk
    rw [List.countP_cons]
    cases k with
    | zero =>
      show t ≤ x ↔ _
      by_cases q : t ≤ x
      · simp [q]
      · simp [q, z q]
    | succ k =>
      have hk' : k < l.length := by rw [List.length_cons] at hk; omega
      show t ≤ l[k] ↔ _
      rw [ih h2 k hk']
      by_cases q : t ≤ x
      · simp [q]
      · simp [q, z q]
theorem covers_cnt {a b : List Nat} (ha : down a) (hb : down b) (h : ∀ t, (b.countP fun x => decide (t ≤ x)) ≤ a.countP fun x => decide (t ≤ x)) : covers a b = true := by
  have h0 : ∀ l : List Nat, (l.countP fun x => decide (0 ≤ x)) = l.length := fun l => by
    rw [List.countP_eq_length]
    intro x _
    simp
  have hl : b.length ≤ a.length := by
    have := h 0
    rwa [h0, h0] at this
  refine covers_iff.mpr ⟨hl, fun k hk hk' => ?_⟩
  exact (cnt_down ha _ k hk').mpr (Nat.lt_of_lt_of_le ((cnt_down hb _ k hk).mp (Nat.le_refl _)) (h _))
theorem cnt_out {l : List Nat} {n : Nat} (h : n < l.length) (t : Nat) : (l.countP fun x => decide (t ≤ x)) = ((l.eraseIdx n).countP fun x => decide (t ≤ x)) + if t ≤ l[n] then 1 else 0 := by
  have e : l = l.take n ++ l[n] :: l.drop (n + 1) := by
    rw [List.getElem_cons_drop, List.take_append_drop]
  rw [List.eraseIdx_eq_take_drop_succ]
  conv => lhs; rw [e]
  rw [List.countP_append, List.countP_append, List.countP_cons]
  by_cases q : t ≤ l[n] <;> simp [q] <;> omega
theorem perm2 {α : Type} {p q a b : α} (h : [p, q].Perm [a, b]) : (p = a ∧ q = b) ∨ (p = b ∧ q = a) := by
  have m : p ∈ [a, b] := h.mem_iff.mp List.mem_cons_self
  rcases List.mem_cons.mp m with rfl | m
  · exact .inl ⟨rfl, List.singleton_perm_singleton.mp (List.Perm.cons_inv h)⟩
  · obtain rfl := List.mem_singleton.mp m
    exact .inr ⟨rfl, List.singleton_perm_singleton.mp (List.Perm.cons_inv (h.trans (List.Perm.swap _ _ _)))⟩
theorem emb_perm {a b c : List Mk} (hc : c.length ≤ 2) (h : b.Perm c) : emb a b = emb a c := by
  have hl := h.length_eq
  match b, c, hc, hl with
  | _ :: _ :: _ :: _, c, hc, hl => exact absurd hc (by rw [← hl]; simp only [List.length_cons]; omega)
  | [], [], _, _ => rfl
  | [o], [p], _, _ => rw [List.singleton_perm_singleton.mp h]
  | [o, p], [r, s], _, _ =>
    rcases perm2 h with ⟨rfl, rfl⟩ | ⟨rfl, rfl⟩
    · rfl
    · match a with
      | [] => rfl
      | [x] => rfl
      | [x, y] =>
        simp only [emb]
        cases fits x o <;> cases fits y o <;> cases fits x p <;> cases fits y p <;> rfl
      | _ :: _ :: _ :: _ => rfl
theorem emb_out {ms : List Mk} {n : Nat} (h2 : ms.length ≤ 2) (h : n < ms.length) : emb ms (ms.eraseIdx n) = true := by
  match ms, n, h2, h with
  | [x], 0, _, _ => rfl
  | [x, y], 0, _, _ => simp [emb, List.eraseIdx, fits_refl]
  | [x, y], 1, _, _ => simp [emb, List.eraseIdx, fits_refl]
  | _ :: _ :: _ :: _, _, h2, _ => exact absurd h2 (by simp only [List.length_cons]; omega)
theorem emb_low {ms ms2 : List Mk} {n : Nat} {o : Mk} (h2 : ms.length ≤ 2) (h : n < ms.length) (hf : fits ms[n] o = true) (hp : ms2.Perm (ms.eraseIdx n ++ [o])) : emb ms ms2 = true := by
  have hl : (ms.eraseIdx n ++ [o]).length ≤ 2 := by
    rw [List.length_append, List.length_eraseIdx, List.length_singleton]
    split <;> omega
  rw [emb_perm hl hp]
  match ms, n, h2, h with
  | [x], 0, _, _ => exact hf
  | [x, y], 0, _, _ =>
    have hf : fits x o = true := hf
    simp [emb, List.eraseIdx, fits_refl, hf]
  | [x, y], 1, _, _ =>
    have hf : fits y o = true := hf
    simp [emb, List.eraseIdx, fits_refl, hf]
  | _ :: _ :: _ :: _, _, h2, _ => exact absurd h2 (by simp only [List.length_cons]; omega)
theorem put_get {α : Type} {xs : List α} {i : Nat} (h : i < xs.length) (y : α) (k : Nat) (hk : k < xs.length) : (xs.take i ++ [y] ++ xs.drop (i + 1))[k]? = some (if k = i then y else xs[k]) := by
  rcases Nat.lt_trichotomy k i with q | q | q
  · rw [List.append_assoc, List.getElem?_append_left (by rw [List.length_take]; omega), List.getElem?_take_of_lt q, List.getElem?_eq_getElem hk, if_neg (by omega)]
  · subst q
    rw [List.append_assoc, List.getElem?_append_right (by rw [List.length_take]; omega), List.length_take, Nat.min_eq_left (by omega), Nat.sub_self]
    simp
  · rw [List.getElem?_append_right (by rw [List.length_append, List.length_take, List.length_singleton]; omega), List.getElem?_drop, List.length_append, List.length_take, List.length_singleton, Nat.min_eq_left (by omega), show i + 1 + (k - (i + 1)) = k by omega, List.getElem?_eq_getElem hk, if_neg (by omega)]
end K19

namespace K19
open PySem L2 RZ DL
/-! the walk by data -/
local macro_rules | `(tactic| walk_at "dl") => `(tactic| first
  | with_reducible first
    | refine sx_seq ?_ | refine sx_if ?_ | refine sx_next ?_
    | refine et_not ?_ | refine et_B ?_ | refine et_test ?_ | refine et_and ?_ | refine et_or ?_ | refine et_yes ?_
    | refine ev_and ?_ | refine ev_or ?_ | refine ev_not ?_ | refine ev_if ?_ | refine ev_chain ?_
    | refine ev_int ?_ | refine ev_bl ?_ | refine ev_str ?_ | refine ev_non ?_ | refine ev_c ?_
    | refine ev_op ?_ | refine ev_un ?_ | refine ev_cb ?_ | refine ev_fn1 ?_ | refine ev_fn2 ?_ | refine ev_sl ?_ | refine eo_none ?_ | refine eo_some ?_ | refine ev_tup ?_
    | refine ea_cons ?_ | refine ea_nil ?_
    | refine ops_ge ?_ | refine ops_le ?_ | refine ops_gt ?_ | refine ops_lt ?_ | refine ops_leS ?_ | refine ops_ltS ?_ | refine ops_add_int ?_ | refine ops_sub ?_ | refine ops_isN ?_ | refine ops_isNot ?_ | refine ops_eq_int ?_ | refine ops_eqS ?_ | refine ops_neS ?_
    | refine cas_len_tup ?_ | refine cas_isi_int ?_ | refine cas_isi_bool ?_ | refine cas_isi_str ?_ | refine cas_isi_tup ?_ | refine cas_isi_lst ?_
    | refine iteT ?_ | refine iteF ?_ | refine and_nols ?_
  | ((with_reducible refine ev_varx ?_); refine ⟨_, rfl, ?_⟩)
  | ((with_reducible refine ops_ix_tupx ?_); first | refine ⟨_, rfl, ?_⟩ | refine ⟨_, atI_nat (j := 0) rfl, ?_⟩ | refine ⟨_, atI_nat (j := 1) rfl, ?_⟩ | refine ⟨_, atI_nat (j := 2) rfl, ?_⟩ | refine ⟨_, atI_nat (j := 3) rfl, ?_⟩ | refine ⟨_, atI_nat (j := 4) rfl, ?_⟩ | refine ⟨_, atI_nat (j := 5) rfl, ?_⟩ | refine ⟨_, atI_nat (j := 6) rfl, ?_⟩)
  | ((with_reducible refine sz_and ?_ ?_); exact rfl)
  | ((with_reducible refine ev_ownx ?_); refine ⟨_, rfl, ?_⟩)
  | ((with_reducible refine ev_refx ?_); refine ⟨_, rfl, ?_⟩)
  | (with_reducible refine sxn_seq ?_) | (with_reducible refine uns_neg ?_) | (with_reducible refine ev_frz (evn_lst ?_)) | (with_reducible refine sls_tup ?_) | (refine ev_revT ?_)
  | ((refine sx_extx ?_); refine ⟨_, rfl, ?_⟩) | ((with_reducible refine ops_add_tup ?_ ?_); exact le_line rfl) | (with_reducible refine cas_listT ?_)
  | ((with_reducible refine ifT ?_ ?_); exact rfl) | ((with_reducible refine ifF ?_ ?_); exact rfl))
local macro_rules | `(tactic| walk_at "go") => `(tactic| repeat (first | walk_at "dl" | with_reducible refine ⟨_, rfl, ?_⟩ | with_reducible refine ⟨_, _, rfl, ?_⟩))
/-! ### less and less -/
theorem cut_to {ds : List D} {i : Nat} (h : i ≤ ds.length) : cutD ds none (some (i : Int)) = ds.take i := by
  have e : HT.sIx ds.length ds.length (some (i : Int)) = i := by
    have z : ¬ (i : Int) < 0 := by omega
    simp [HT.sIx, z, h]
  unfold cutD
  rw [e]
  simp [HT.sIx]
theorem cut_from {ds : List D} {i : Nat} (h : i ≤ ds.length) : cutD ds (some (i : Int)) none = ds.drop i := by
  have e : HT.sIx ds.length 0 (some (i : Int)) = i := by
    have z : ¬ (i : Int) < 0 := by omega
    simp [HT.sIx, z, h]
  unfold cutD
  rw [e]
  exact List.take_of_length_le (by simp [HT.sIx])
theorem map_put {α : Type} (g : α → D) {xs : List α} {i : Nat} (h : i < xs.length) (y : α) : cutD (xs.map g) none (some (i : Int)) ++ [g y] ++ cutD (xs.map g) (some ((i : Int) + 1)) none = (xs.take i ++ [y] ++ xs.drop (i + 1)).map g := by
  have e := cut_from (ds := xs.map g) (i := i + 1) (by rw [List.length_map]; omega)
  rw [cut_to (by rw [List.length_map]; omega), show ((i : Int) + 1) = ((i + 1 : Nat) : Int) by omega, e]
  simp
theorem map_out {α : Type} (g : α → D) {xs : List α} {i : Nat} (h : i < xs.length) : cutD (xs.map g) none (some (i : Int)) ++ cutD (xs.map g) (some ((i : Int) + 1)) none = (xs.eraseIdx i).map g := by
  have e := cut_from (ds := xs.map g) (i := i + 1) (by rw [List.length_map]; omega)
  rw [cut_to (by rw [List.length_map]; omega), show ((i : Int) + 1) = ((i + 1 : Nat) : Int) by omega, e, List.eraseIdx_eq_take_drop_succ]
  simp
theorem erase_map {α β : Type} (g : α → β) : ∀ (xs : List α) (n : Nat), (xs.map g).eraseIdx n = (xs.eraseIdx n).map g
  | [], _ => rfl
  | _ :: _, 0 => rfl
  | x :: xs, n + 1 => congrArg (g x :: ·) (erase_map g xs n)
theorem num_bd {n : Nat} (h : n ≤ 10) {k : Nat} : Bd 10 198 k (num n) := bd_int (by omega) (by decide +kernel)
theorem mk_bd {w : Wk8} (ok : okW8 w) {m : Mk} (h : okQ w m) : Bd 10 500 2 (mkD m) := by
  have hb := b8_in ok h.nm
  have hn : Bt 8 m.nm := by
    obtain ⟨k, hk, e⟩ := List.mem_map.mp h.nm
    rw [← e]
    exact (ok.ks k hk).nm
  have br := ok.br
  obtain ⟨n, l, k⟩ := m
  obtain ⟨h1, h2, h3, h4⟩ := h
  have t1 : Bd 10 8 0 (.str n) := bd_str.mpr hn
  have t0 : ∀ x : Str, (x.cps.toList.all fun c => decide (c < 128)) = true → x.length ≤ 8 → Bd 10 8 0 (.str x) := fun x a c => bd_str.mpr (bt8 x a c)
  have t2 : Bd 10 198 1 (num k) := num_bd (by simp only at h4; omega)
  cases l with
  | none =>
    have q := bd_tup.mpr (bds_cons (t0 "tool" (by decide +kernel) (by decide +kernel)) (bds_one t1))
    exact (bd_tup.mpr (bds_cons q (bds_one t2))).mono (Nat.le_refl _) (by decide) (Nat.le_refl _)
  | some l =>
    have t3 : Bd 10 198 0 (num l) := num_bd (by have := h2 l rfl; omega)
    have q := bd_tup.mpr (bds_cons (t0 "leaf" (by decide +kernel) (by decide +kernel)) (bds_cons t1 (bds_one t3)))
    exact (bd_tup.mpr (bds_cons q (bds_one t2))).mono (Nat.le_refl _) (by decide) (Nat.le_refl _)
theorem bds_map {α : Type} (g : α → D) {k w n : Nat} : ∀ {xs : List α}, (∀ x ∈ xs, Bd k w n (g x)) → Bds k ((w + 1) * xs.length) n (xs.map g)
  | [], _ => bds_nil
  | x :: xs, h => (bds_cons (h x (by simp)) (bds_map g fun y m => h y (by simp [m]))).mono (Nat.le_refl _) (by rw [List.length_cons, Nat.mul_succ]; omega) (Nat.le_refl _)
theorem mks_sh {w : Wk8} (ok : okW8 w) {ms : List Mk} (h : ∀ m ∈ ms, okQ w m) (hl : ms.length ≤ 2) : SeqAt.shaped (.tuple (ms.map mkD)) = true :=
  ((bd_tup.mpr (bds_map mkD fun m q => mk_bd ok (h m q))).mono (k' := 10) (w' := 1002) (n' := 3) (Nat.le_refl _) (by omega) (Nat.le_refl _)).fine (by decide) (by decide) (by decide) |>.shaped
theorem put_len {α : Type} {xs : List α} {i : Nat} (h : i < xs.length) (y : α) : (xs.take i ++ [y] ++ xs.drop (i + 1)).length = xs.length := by
  simp only [List.length_append, List.length_take, List.length_drop, List.length_singleton]
  omega
theorem put_mem {α : Type} {xs : List α} {i : Nat} {x y : α} (h : x ∈ xs.take i ++ [y] ++ xs.drop (i + 1)) : x = y ∨ x ∈ xs := by
  rcases List.mem_append.mp h with h | h
  · rcases List.mem_append.mp h with h | h
    · exact .inr (List.mem_of_mem_take h)
    · exact .inl (List.mem_singleton.mp h)
  · exact .inr (List.mem_of_mem_drop h)
theorem cut_len (ds : List D) (lo hi : Option Int) : (cutD ds lo hi).length ≤ ds.length := by
  unfold cutD
  rw [List.length_take, List.length_drop]
  omega
theorem fmod_nat {x m : Nat} : ((x : Int).fmod (m : Int)) = ((x % m : Nat) : Int) := by
  rw [Int.fmod_eq_emod_of_nonneg _ (by omega)]
  rfl
theorem max_sub (x : Nat) : (if (x : Int) - 1 > 0 then (x : Int) - 1 else 0) = ((x - 1 : Nat) : Int) := by
  split <;> omega
theorem ints_shaped' (ls : List Nat) : SeqAt.shaped (.list (ls.map num)) = true := by
  have e : (ls.map num) = (ls.map fun n : Nat => (n : Int)).map PyData.int := by
    rw [List.map_map]
    rfl
  show ((PyData.list (ls.map num)).canLay0 && decide ((PyData.list (ls.map num)).depth ≤ 64)) = true
  rw [e]
  simp only [PyData.canLay0, PyData.depth, ints_lay, ints_dep]
  rfl
abbrev preLess (ds : List D) : Prop := ∃ (w : Wk8) (s : St) (n : Nat), ds = [wkD8 w, stD s, num n] ∧ okW8 w ∧ okD w s ∧ n ≤ 10
abbrev postLess (ds : List D) (d : D) : Prop := ∀ (w : Wk8) (s : St) (n : Nat), ds = [wkD8 w, stD s, num n] → ∃ s', d = stD s' ∧ okD w s' ∧ noLess s s' = true
theorem okO_of {w : Wk8} (ok : okW8 w) {s : St} (o : okD w s) : okO w.ks.length s := ⟨o.us, o.ls, Nat.le_trans o.mm ok.ln, o.mr, srt_rises o.mr⟩
abbrev LLess (Pg : Program) (w : World) (K : PySem.W.Frag) (mg : Str → Option Value) (base : Heap) := Fn Pg w K mg base "_law_less" 2 ["_law_feed_here", "_law_works_here", "_law_stand_here", "_law_laps"] (PmF nm K 3 preLess postLess)
section
variable {Pg : Program} {w : World} {K : PySem.W.Frag} {mg : Str → Option Value} {base : Heap} {f : Addr} {fd : FuncData}
/-- what one lap leaves, ahead of the leaves' row -/
structure okLap (w : Wk8) (us0 lt0 : List Nat) (st0 : Nat) (ms0 : List Mk) (rs0 : Nat) (us : List Nat) (lt : List Nat) (st : Nat) (ms : List Mk) (rs : Nat) : Prop where
  hus : us.length = w.ks.length
  hub : ∀ x ∈ us, x ≤ w.us
  hl9 : lt.length ≤ w.sh
  hl3 : ∀ x ∈ lt, x ≤ w.br
  hst : st ≤ w.st
  hmm : ms.length ≤ w.ln
  hms : ∀ m ∈ ms, okQ w m
  hmr : srt ms
  hrs : rs ≤ w.fr
  gu : geAll us0 us = true
  gl : ∀ t, (lt.countP fun x => decide (t ≤ x)) ≤ lt0.countP fun x => decide (t ≤ x)
  gs : st ≤ st0
  gr : rs ≤ rs0
  gm : emb ms0 ms = true
theorem geAll_put {us : List Nat} {j y : Nat} (h : j < us.length) (hy : y ≤ us[j]) : geAll us (us.take j ++ [y] ++ us.drop (j + 1)) = true := by
  refine (geAll_iff (put_len h _).symm).mpr fun k hk => ?_
  have hk' : k < us.length := by rwa [put_len h] at hk
  have e := put_get h y k hk'
  rw [List.getElem?_eq_getElem hk] at e
  rw [Option.some.inj e]
  split
  · next q =>
    subst q
    exact hy
  · exact Nat.le_refl _
theorem covAll_put {ls : List (List Nat)} {j : Nat} {y : List Nat} (h : j < ls.length) (hy : covers ls[j] y = true) : covAll ls (ls.take j ++ [y] ++ ls.drop (j + 1)) = true := by
  refine (covAll_iff (put_len h _).symm).mpr fun k hk => ?_
  have hk' : k < ls.length := by rwa [put_len h] at hk
  have e := put_get h y k hk'
  rw [List.getElem?_eq_getElem hk] at e
  rw [Option.some.inj e]
  split
  · next q =>
    subst q
    exact hy
  · exact covers_refl _
theorem ok_less (F : Fun K "_law_less" "_law_less" s__law_less f fd) (T : Txt mg) (C__law_draw : LDraw Pg w K mg base) : FnG Pg w K mg base 2 f fd ["_law_feed_here", "_law_works_here", "_law_stand_here", "_law_laps"] (PmF nm K 3 preLess postLess) := by
  have nd := sc__law_less.nd
  refine fnG_of F sc__law_less pm_len (fun cdv A ou s H vs Q hgd hr h => ?_)
  have hu : (A.deeper (PyProof.Rows.envOfC "_law_less" (defScope s__law_less) s.heap.objs.size f cdv)).units + 64 < cLine := by have := hr.un; omega
  refine ⟨_, (pss_cons (ps_for PassesOwn.never rfl (pi_range1 rfl T.b_range (pa_cons (pv 3) pa_nil)) (pg_name (i := 4) nd rfl (Or.inl rfl) (Or.inl rfl)) (pss_cons (ps_asg (pv 2) (pg_tup (n := 6) rfl (pgs_cons (pg_name (i := 5) nd rfl (Or.inl rfl) (Or.inl rfl)) (pgs_cons (pg_name (i := 6) nd rfl (Or.inl rfl) (Or.inl rfl)) (pgs_cons (pg_name (i := 7) nd rfl (Or.inl rfl) (Or.inl rfl)) (pgs_cons (pg_name (i := 8) nd rfl (Or.inl rfl) (Or.inl rfl)) (pgs_cons (pg_name (i := 9) nd rfl (Or.inl rfl) (Or.inl rfl)) (pgs_cons (pg_name (i := 10) nd rfl (Or.inl rfl) (Or.inl rfl)) pgs_nil)))))))) (pss_cons (ps_par3 (i := 11) (j := 12) (l := 13) rfl nd rfl rfl rfl (by decide) (by decide) (by decide) rfl rfl rfl (pa_cons (pe_fn C__law_draw hgd (hr.mono (by first | decide | omega)) rfl (pa_cons (pv 0) (pa_cons pe_int pa_nil))) (pa_cons (pe_fn C__law_draw hgd (hr.mono (by first | decide | omega)) rfl (pa_cons (pv 0) (pa_cons (pe_callB (r := rLenA K) call_len (by rfl) T.b_len (by decide +kernel) (pa_cons (pv 5) pa_nil)) pa_nil))) (pa_cons (pe_fn C__law_draw hgd (hr.mono (by first | decide | omega)) rfl (pa_cons (pv 0) (pa_cons pe_int pa_nil))) pa_nil))) (by rfl)) (pss_cons (ps_set (i := 14) nd rfl (Or.inl rfl) (pe_callTy (r := rListOf K) call_list_of (by rfl) T.b_list (by decide +kernel) (pa_cons (pe_ix (r := rIx K) ix_seq (pv 6) (pv 12) (fun _ _ => rfl)) pa_nil)) (hf := Or.inl rfl)) (pss_cons (ps_if (pt_cmpR (r := rEq2 K) (opEq hu) (pv 11) pe_int (nomark _)) (pss_one (ps_set (i := 5) nd rfl (Or.inl rfl) (pe_op (r := rAdd4 K) opAdd (pe_op (r := rAdd4 K) opAdd (pe_slice (r := rSl3 K) slAny (pv 5) po_none (po_some (pv 12))) (pe_tup (pa_cons (pe_callB (r := rMax2) (call_max2 rfl) (by rfl) T.b_max (by decide +kernel) (pa_cons pe_int (pa_cons (pe_op opSub (pe_ix (r := rIx K) ix_seq (pv 5) (pv 12) (fun _ _ => rfl)) pe_int) pa_nil))) pa_nil))) (pe_slice (r := rSl3 K) slAny (pv 5) (po_some (pe_op (r := rAdd4 K) opAdd (pv 12) pe_int)) po_none)) (hf := Or.inl rfl))) (pss_one (ps_if (PW.pt (pw_and (pt_cmpR opLt (pv 11) pe_int (nomark _)) (pw_and1 (pt_cmpR (r := rNe2 K) (opNe hu) (pv 14) (pe_lst pa_nil) (nomark _))))) (pss_cons (ps_set (i := 15) nd rfl (Or.inl rfl) (pe_bm PySem.F.plainAttrs_list PySem.F.slot_list_pop PySem.F.type_list_pop mt_popAt (pv 14) (pa_cons (pe_op op_modN (pv 13) (pe_callB (r := rLenA K) call_len (by rfl) T.b_len (by decide +kernel) (pa_cons (pv 14) pa_nil))) pa_nil)) (hf := Or.inl rfl)) (pss_one (ps_expr (pe_bm PySem.F.plainAttrs_list PySem.F.slot_list_extend PySem.F.type_list_extend mt_extend (pv 14) (pa_cons (pe_op (r := rMul3 K) opMul3 (pe_lst (pa_cons (pe_op opSub (pv 15) pe_int) pa_nil)) (pe_callTy call_int1 (by rfl) T.b_int (by decide +kernel) (pa_cons (pe_and (pe_cmpR opGt (pv 15) pe_int (nomark _)) (pe_one (pe_cmpR (r := rEq2 K) (opEq hu) (pv 11) pe_int (nomark _)))) pa_nil))) pa_nil))))) (pss_one (ps_if (pt_cmpR (r := rEq2 K) (opEq hu) (pv 11) pe_int (nomark _)) (pss_one (ps_set (i := 7) nd rfl (Or.inl rfl) (pe_callB (r := rMax2) (call_max2 rfl) (by rfl) T.b_max (by decide +kernel) (pa_cons pe_int (pa_cons (pe_op opSub (pv 7) pe_int) pa_nil))) (hf := Or.inl rfl))) (pss_one (ps_if (pt_cmpR (r := rEq2 K) (opEq hu) (pv 11) pe_int (nomark _)) (pss_one (ps_set (i := 10) nd rfl (Or.inl rfl) (pe_callB (r := rMax2) (call_max2 rfl) (by rfl) T.b_max (by decide +kernel) (pa_cons pe_int (pa_cons (pe_op opSub (pv 10) pe_int) pa_nil))) (hf := Or.inl rfl))) (pss_one (ps_if (PW.pt (pw_and (pt_cmpR opLt (pv 11) pe_int (nomark _)) (pw_and1 (pt_cmpR (r := rNe2 K) (opNe hu) (pv 8) (pe_tup pa_nil) (nomark _))))) (pss_cons (ps_asg (pe_ix (r := rIx K) ix_seq (pv 8) (pe_op op_modN (pv 13) (pe_callB (r := rLenA K) call_len (by rfl) T.b_len (by decide +kernel) (pa_cons (pv 8) pa_nil))) (fun _ _ => rfl)) (pg_tup (n := 2) rfl (pgs_cons (pg_name (i := 16) nd rfl (Or.inl rfl) (Or.inl rfl)) (pgs_cons (pg_name (i := 17) nd rfl (Or.inl rfl) (Or.inl rfl)) pgs_nil)))) (pss_cons (ps_set (i := 8) nd rfl (Or.inl rfl) (pe_op (r := rAdd4 K) opAdd (pe_slice (r := rSl3 K) slAny (pv 8) po_none (po_some (pe_op op_modN (pv 13) (pe_callB (r := rLenA K) call_len (by rfl) T.b_len (by decide +kernel) (pa_cons (pv 8) pa_nil))))) (pe_slice (r := rSl3 K) slAny (pv 8) (po_some (pe_op (r := rAdd4 K) opAdd (pe_op op_modN (pv 13) (pe_callB (r := rLenA K) call_len (by rfl) T.b_len (by decide +kernel) (pa_cons (pv 8) pa_nil))) pe_int)) po_none)) (hf := Or.inl rfl)) (pss_one (ps_if (PW.pt (pw_and (pt_cmpR (r := rEq2 K) (opEq hu) (pv 11) pe_int (nomark _)) (pw_and (pt_cmpR (r := rEq2 K) (opEq hu) (pe_ix (r := rIx K) ix_seq (pv 16) pe_int (fun _ _ => rfl)) pe_str (nomark _)) (pw_and1 (pt_chain opLt opLt pe_int (pe_ix (r := rIx K) ix_seq (pv 16) pe_int (fun _ _ => rfl)) (pe_ix (r := rIx K) ix_seq (pe_ix (r := rIx K) ix_seq (pv 1) pe_int (fun _ _ => rfl)) pe_int (fun _ _ => rfl))))))) (pss_one (ps_set (i := 8) nd rfl (Or.inl rfl) (pe_callTy (r := rTupleOf K) call_tuple_of (by rfl) T.b_tuple (by decide +kernel) (pa_cons (pe_callB (r := rSrtD K false) (cr_srtD hu) (by rfl) T.b_sorted (by decide +kernel) (pa_cons (pe_op (r := rAdd4 K) opAdd (pv 8) (pe_tup (pa_cons (pe_tup (pa_cons (pe_tup (pa_cons (pe_ix (r := rIx K) ix_seq (pv 16) pe_int (fun _ _ => rfl)) (pa_cons (pe_ix (r := rIx K) ix_seq (pv 16) pe_int (fun _ _ => rfl)) (pa_cons (pe_op opSub (pe_ix (r := rIx K) ix_seq (pv 16) pe_int (fun _ _ => rfl)) pe_int) pa_nil)))) (pa_cons (pv 17) pa_nil))) pa_nil))) pa_nil)) pa_nil)) (hf := Or.inl rfl))) pss_nil)))) pss_nil))))))))) (pss_cons (ps_set (i := 6) nd rfl (Or.inl rfl) (pe_op (r := rAdd4 K) opAdd (pe_op (r := rAdd4 K) opAdd (pe_slice (r := rSl3 K) slAny (pv 6) po_none (po_some (pv 12))) (pe_tup (pa_cons (pe_callTy (r := rTupleOf K) call_tuple_of (by rfl) T.b_tuple (by decide +kernel) (pa_cons (pe_callBK (r := rSrtK K) (crk_srtD hu) (by rfl) T.b_sorted (by decide +kernel) (pa_cons (pv 14) pa_nil) (pk_cons pe_bl pk_nil)) pa_nil)) pa_nil))) (pe_slice (r := rSl3 K) slAny (pv 6) (po_some (pe_op (r := rAdd4 K) opAdd (pv 12) pe_int)) po_none)) (hf := Or.inl rfl)) (pss_one (ps_set (i := 2) nd rfl (Or.inl rfl) (pe_tup (pa_cons (pv 5) (pa_cons (pv 6) (pa_cons (pv 7) (pa_cons (pv 8) (pa_cons (pv 9) (pa_cons (pv 10) pa_nil))))))) (hf := Or.inl rfl))))))))) (pss_one (ps_ret (pv 2)))), bodyF (by decide) h fun a l cs F0 ds hl ⟨wk, s0, nl, hd, ok, od0, hnl⟩ => ?_⟩
  subst hd
  have us6 := ok.us
  have sh9 := ok.sh
  have br3 := ok.br
  have ln2 := ok.ln
  have k1 := ok.k1
  have k3 := ok.k3
  change Sx K (feedW nm a l cs) H F0 _ [.rf (.ref a), .dat (wkD8 wk), .dat (stD s0), .dat (num nl), .un, .un, .un, .un, .un, .un, .un, .un, .un, .un, .un, .un, .un, .un] _
  refine sx_seq (sx_for (fun es i ρ' => ∃ (s : St) (s4 s5 s6 s7 s8 s9 s10 s11 s12 s13 s14 s15 s16 s17 : Sl), ρ' = [.rf (.ref a), .dat (wkD8 wk), .dat (stD s), .dat (num nl), s4, s5, s6, s7, s8, s9, s10, s11, s12, s13, s14, s15, s16, s17] ∧ okD wk s ∧ noLess s0 s = true) (evi_rng1 ?_))
  walk_at "go"
  refine ⟨by omega, by omega, ⟨s0, .un, .un, .un, .un, .un, .un, .un, .un, .un, .un, .un, .un, .un, .un, rfl, od0, noLess_refl (okO_of ok od0)⟩, ?_, ?_⟩
  · rintro i z ρ' hz ⟨s, s4, s5, s6, s7, s8, s9, s10, s11, s12, s13, s14, s15, s16, s17, rfl, od, down0⟩
    have oos := okO_of ok od
    obtain ⟨us, ls, st, ms, ph, rs⟩ := s
    obtain ⟨d1, d2, d3, d4, d5, d6, d7, d8, dp1, d9, d10⟩ := od
    simp only at d1 d2 d3 d4 d5 d6 d7 d8 dp1 d9 d10
    have d62 : ms.length ≤ 2 := Nat.le_trans d6 ln2
    refine gs_name trivial ?_
    refine sx_seq (sx_asgG (ev_varx ⟨_, rfl, ?_⟩))
    refine gs_tup rfl (gss_cons (gs_name trivial (gss_cons (gs_name trivial (gss_cons (gs_name trivial (gss_cons (gs_name trivial (gss_cons (gs_name trivial (gss_cons (gs_name trivial (gss_nil ?_)))))))))))))
    change Sx K (feedW nm a l cs) H F0 _ [.rf (.ref a), .dat (wkD8 wk), .dat (stD ⟨us, ls, st, ms, ph, rs⟩), .dat (num nl), .dat z, .dat (.tuple (us.map num)), .dat (.tuple (ls.map rowD)), .dat (num st), .dat (.tuple (ms.map mkD)), .dat (num ph), .dat (num rs), s11, s12, s13, s14, s15, s16, s17] _
    refine sx_seq (sx_par3 ?_)
    walk_at "go"
    (refine ev_drawN ?_; walk_at "go"; (first | refine ⟨8, rfl, ?_, fun (way : Nat) (hway : way < 8) => ?_⟩ | refine ⟨?_, fun (way : Nat) (hway : way < 8) => ?_⟩); (focus (show 1 ≤ 8 ∧ 8 < 1000; exact ⟨by omega, by omega⟩)); walk_at "go")
    refine ev_drawN ?_
    walk_at "go"
    refine ⟨by rw [List.length_map]; exact ⟨by omega, by omega⟩, fun j hj => ?_⟩
    rw [List.length_map] at hj
    walk_at "go"
    (refine ev_drawN ?_; walk_at "go"; (first | refine ⟨5, rfl, ?_, fun (at_ : Nat) (hat : at_ < 5) => ?_⟩ | refine ⟨?_, fun (at_ : Nat) (hat : at_ < 5) => ?_⟩); (focus (show 1 ≤ 5 ∧ 5 < 1000; exact ⟨by omega, by omega⟩)); walk_at "go")
    have hjl : j < ls.length := by omega
    refine sx_asgN (evn_list ?_)
    walk_at "go"
    refine ops_ix_tup (atI_nat (map_get hjl)) ?_
    refine ea_nil ⟨_, (ls[j]).map num, rfl, .inl rfl, ?_⟩
    obtain ⟨lt, hlt⟩ : ∃ lt, lt = ls[j] := ⟨_, rfl⟩
    have hlr := d4 ls[j] (List.getElem_mem hjl)
    rw [← hlt] at hlr ⊢
    change Sx K (feedW nm a l cs) H F0 _ [.rf (.ref a), .dat (wkD8 wk), .dat (stD ⟨us, ls, st, ms, ph, rs⟩), .dat (num nl), .dat z, .dat (.tuple (us.map num)), .dat (.tuple (ls.map rowD)), .dat (num st), .dat (.tuple (ms.map mkD)), .dat (num ph), .dat (num rs), .dat (num way), .dat (num j), .dat (num at_), .ls (lt.map num), s15, s16, s17] _
    have olap : okLap wk us lt st ms rs us lt st ms rs := ⟨d1, d2, hlr.1, hlr.2.1, d5, d6, d7, d8, d10, geAll_refl _, fun t => Nat.le_refl _, Nat.le_refl _, Nat.le_refl _, emb_refl d62⟩
    refine sx_seq (Sx.mono (N := { nx := fun ρ' => ∃ (us' lt' : List Nat) (st' : Nat) (ms' : List Mk) (rs' : Nat) (t15 t16 t17 : Sl), ρ' = [.rf (.ref a), .dat (wkD8 wk), .dat (stD ⟨us, ls, st, ms, ph, rs⟩), .dat (num nl), .dat z, .dat (.tuple (us'.map num)), .dat (.tuple (ls.map rowD)), .dat (num st'), .dat (.tuple (ms'.map mkD)), .dat (num ph), .dat (num rs'), .dat (num way), .dat (num j), .dat (num at_), .ls (lt'.map num), t15, t16, t17] ∧ okLap wk us lt st ms rs us' lt' st' ms' rs', rt := fun _ => False }) ?_ ?_ (fun _ f => f.elim) (fun _ f => f.elim) (fun _ f => f.elim))
    · walk_at "go"
      refine if2 (fun _ => ?_) (fun _ => ?_)
      · have hju : j < us.length := hj
        refine sx_asg (ev_put (ds := us.map num) (i := j) rfl rfl (by rw [List.length_map]; omega) ?_)
        walk_at "go"
        refine ops_ix_tup (atI_nat (map_get hju)) ?_
        walk_at "go"
        refine cas_max2 ⟨_, rfl, trivial, ?_⟩
        rw [max_sub, map_put num hju]
        refine ⟨us.take j ++ [us[j] - 1] ++ us.drop (j + 1), lt, st, ms, rs, s15, s16, s17, rfl, { olap with hus := (put_len hju _).trans d1, hub := fun x m => ?_, gu := geAll_put hju (Nat.sub_le _ _) }⟩
        rcases put_mem m with rfl | m
        · have := d2 us[j] (List.getElem_mem hju)
          omega
        · exact d2 x m
      refine sx_if (EvT.mono (PB := fun c => c = true → lt ≠ []) ?_ fun c hc => ?_)
      · walk_at "go"
        refine if2 (fun hw3 => ?_) (fun hw3 => fun z => nomatch z)
        refine et_B (ev_op (ev_own rfl (ev_frz (evn_lst (ea_nil ⟨[], rfl, le_line rfl, ops_ne_ls (ints_shaped' lt) rfl ⟨_, rfl, fun z e => ?_⟩⟩)))))
        rw [e] at z
        cases z
      refine if2 (fun q => ?_) (fun _ => ?_)
      · have hne := hc q
        have hlen : 1 ≤ lt.length := List.length_pos_iff.mpr hne
        obtain ⟨n, hn⟩ : ∃ n, n = at_ % lt.length := ⟨_, rfl⟩
        have hnl : n < lt.length := by rw [hn]; exact Nat.mod_lt _ (by omega)
        have hl9 := hlr.1
        refine sx_seq (sx_asg2 (ev2_pop (i := 14) (ds := lt.map num) rfl ?_))
        walk_at "go"
        refine cas_len_lst (.inr rfl) (ops_mod (by rw [List.length_map]; omega) ?_)
        rw [List.length_map, fmod_nat, ← hn]
        refine ⟨n, rfl, by omega, _, map_get hnl, trivial, ?_⟩
        have hx3 := hlr.2.1 lt[n] (List.getElem_mem hnl)
        obtain ⟨x, hx⟩ : ∃ x, x = lt[n] := ⟨_, rfl⟩
        rw [← hx] at hx3 ⊢
        have em : (lt.map num).eraseIdx n = (lt.eraseIdx n).map num := erase_map num lt n
        rw [em]
        refine sx_ext (i := 14) rfl (ev_op (ev_frz (evn_lst (ea_cons (ev_op (ev_varx ⟨_, rfl, ev_int (ops_sub (ea_nil ⟨[.int ((x : Int) - 1)], rfl, le_line (n := 1) rfl, ev_cb (ea_cons (Ev.mono (P := fun s => ∃ b, s = .dat (.bool b) ∧ (b = true → 1 ≤ x)) ?_ ?_))⟩))⟩))))))
        · walk_at "go"
          refine if2 (fun hx0 => ?_) (fun hx0 => ?_)
          · walk_at "go"
            intro _
            have := of_decide_eq_true hx0
            omega
          · walk_at "go"
            intro z
            cases z
        rintro _ ⟨b, rfl, hb⟩
        refine ea_nil (cas_int1b ?_)
        have hle : (lt.eraseIdx n).length + 1 ≤ lt.length := by
          rw [List.length_eraseIdx]
          split <;> omega
        have hco := fun t => cnt_out hnl t
        cases b with
        | false =>
          refine ops_repF (.inl rfl) (by decide) (by decide) (big_line (Nat.le_of_ble_eq_true rfl)) ⟨_, rfl, big_line (by rw [List.length_map]; show _ + 0 ≤ 250000; omega), ?_⟩
          refine ⟨us, lt.eraseIdx n, st, ms, rs, .dat (num x), s16, s17, ?_, { olap with hl9 := by omega, hl3 := fun y m => hlr.2.1 y (List.mem_of_mem_eraseIdx m), gl := fun t => by have := hco t; split at this <;> omega }⟩
          have e : List.map num (lt.eraseIdx n) ++ (List.replicate (if false = true then 1 else 0 : Int).toNat [PyData.int ((x : Int) - 1)]).flatten = List.map num (lt.eraseIdx n) := List.append_nil _
          rw [e]
          rfl
        | true =>
          have hx1 := hb rfl
          have ex : ((x : Int) - 1) = ((x - 1 : Nat) : Int) := by omega
          refine ops_repF (.inl rfl) (by decide) (by decide) (big_line (Nat.le_of_ble_eq_true rfl)) ⟨_, rfl, big_line (by rw [List.length_map]; show _ + 1 ≤ 250000; omega), ?_⟩
          rw [ex]
          refine ⟨us, lt.eraseIdx n ++ [x - 1], st, ms, rs, .dat (num x), s16, s17, ?_, { olap with hl9 := by rw [List.length_append, List.length_singleton]; omega, hl3 := fun y m => ?_, gl := fun t => by have := hco t; rw [← hx] at this; rw [List.countP_append, List.countP_singleton]; by_cases q1 : t ≤ x - 1 <;> by_cases q2 : t ≤ x <;> simp only [q1, q2, if_true, if_false, decide_true, decide_false] at this ⊢ <;> first | omega | (simp at *; omega) }⟩
          · have e : List.map num (lt.eraseIdx n) ++ (List.replicate (if true = true then 1 else 0 : Int).toNat [PyData.int ((x - 1 : Nat) : Int)]).flatten = List.map num (lt.eraseIdx n ++ [x - 1]) := by
              rw [List.map_append]
              rfl
            rw [e]
            rfl
          · rcases List.mem_append.mp m with m | m
            · exact hlr.2.1 y (List.mem_of_mem_eraseIdx m)
            · have := List.mem_singleton.mp m
              omega
      walk_at "go"
      refine if2 (fun _ => ?_) (fun _ => ?_)
      · refine sx_asg ?_
        walk_at "go"
        refine cas_max2 ⟨trivial, ?_⟩
        rw [max_sub]
        exact ⟨us, lt, st - 1, ms, rs, s15, s16, s17, rfl, { olap with hst := by omega, gs := by omega }⟩
      walk_at "go"
      refine if2 (fun _ => ?_) (fun _ => ?_)
      · refine sx_asg ?_
        walk_at "go"
        refine cas_max2 ⟨trivial, ?_⟩
        rw [max_sub]
        exact ⟨us, lt, st, ms, rs - 1, s15, s16, s17, rfl, { olap with hrs := by omega, gr := by omega }⟩
      refine sx_if (EvT.mono (PB := fun c => c = true → ms ≠ []) ?_ fun c hc => ?_)
      · walk_at "go"
        refine if2 (fun hw3 => ?_) (fun hw3 => fun z => nomatch z)
        walk_at "go"
        have nb : ∀ y ∈ wk.ks.map Kd8.nm, Bt 8 y := fun y m => by
          obtain ⟨k, hk, rfl⟩ := List.mem_map.mp m
          exact (ok.ks k hk).nm
        refine ops_ne (mks_sh ok d7 d62) rfl ⟨_, rfl, fun z e => ?_⟩
        rw [e] at z
        cases z
      refine if2 (fun q => ?_) (fun _ => ?_)
      · have hne := hc q
        have hlen : 1 ≤ ms.length := List.length_pos_iff.mpr hne
        obtain ⟨n, hn⟩ : ∃ n, n = at_ % ms.length := ⟨_, rfl⟩
        have hnl : n < ms.length := by rw [hn]; exact Nat.mod_lt _ (by omega)
        have ix : ∀ {ρ : Rho} {P : Sl → Prop}, ρ[13]? = some (.dat (num at_)) → ρ[8]? = some (.dat (.tuple (ms.map mkD))) → P (.dat (num n)) → Ev K (feedW nm a l cs) H (tOp (rI (fun _ j => j ≠ 0) fun i j => .int (i.fmod j)) (tVar 13) (tCB (rLenA K) (tCons (tVar 8) tNil))) ρ P := fun {ρ P} h13 h8 p => by
          refine ev_op (ev_var h13 (ev_cb (ea_cons (ev_var h8 (ea_nil (cas_len_tup (ops_mod (by rw [List.length_map]; omega) ?_)))))))
          rw [List.length_map, fmod_nat, ← hn]
          exact p
        refine sx_seq (sx_asgG (ev_op (ev_varx ⟨_, rfl, ix rfl rfl (ops_ix_tup (atI_nat (map_get hnl)) ?_)⟩)))
        obtain ⟨m, hm⟩ : ∃ m, m = ms[n] := ⟨_, rfl⟩
        have hmo := d7 ms[n] (List.getElem_mem hnl)
        rw [← hm] at hmo ⊢
        refine gs_tup rfl (gss_cons (gs_name trivial (gss_cons (gs_name trivial (gss_nil ?_)))))
        refine sx_seq (sx_asg (ev_cut (i := n) (ds := ms.map mkD) rfl (by rw [List.length_map]; omega) (fun p => ix rfl rfl p) (fun p => ev_op (ix rfl rfl (ev_int (ops_add_int p)))) ⟨trivial, ?_⟩))
        rw [map_out mkD hnl]
        have hme : (ms.eraseIdx n).length + 1 ≤ ms.length := by
          rw [List.length_eraseIdx]
          split <;> omega
        have olap2 : okLap wk us lt st ms rs us lt st (ms.eraseIdx n) rs := { olap with hmm := by omega, hms := fun x q => d7 x (List.mem_of_mem_eraseIdx q), hmr := d8.sublist (List.eraseIdx_sublist _ _), gm := emb_out d62 hnl }
        change Sx K (feedW nm a l cs) H F0 _ [.rf (.ref a), .dat (wkD8 wk), .dat (stD ⟨us, ls, st, ms, ph, rs⟩), .dat (num nl), .dat z, .dat (.tuple (us.map num)), .dat (.tuple (ls.map rowD)), .dat (num st), .dat (.tuple ((ms.eraseIdx n).map mkD)), .dat (num ph), .dat (num rs), .dat (num way), .dat (num j), .dat (num at_), .ls (lt.map num), s15, .dat (thingD m), .dat (num m.left)] _
        obtain ⟨mn, ml, mk⟩ := m
        cases ml with
        | none =>
          have e : thingD ⟨mn, none, mk⟩ = .tuple [.str "tool", .str mn] := rfl
          rw [e]
          refine sx_if (EvT.mono (PB := fun c => c = false) ?_ fun c hc => ?_)
          · walk_at "go"
            refine if2 (fun _ => ?_) (fun _ => rfl)
            walk_at "go"
            exact rfl
          rw [hc]
          rw [if_neg Bool.false_ne_true]
          walk_at "go"
          exact ⟨us, lt, st, ms.eraseIdx n, rs, _, _, _, rfl, olap2⟩
        | some x =>
          have e : thingD ⟨mn, some x, mk⟩ = .tuple [.str "leaf", .str mn, num x] := rfl
          rw [e]
          refine sx_if (EvT.mono (PB := fun c => c = true → 1 ≤ x ∧ x < wk.br) ?_ fun c hc => ?_)
          · walk_at "go"
            refine if2 (fun _ => ?_) (fun _ => fun z => nomatch z)
            walk_at "go"
            refine if2 (fun h0 => ?_) (fun _ => ?_)
            · walk_at "go"
              have := of_decide_eq_true h0
              intro hb'
              have := of_decide_eq_true hb'
              omega
            · walk_at "go"
              exact fun z => nomatch z
          refine if2 (fun q1 => ?_) (fun _ => ?_)
          · obtain ⟨x1, x2⟩ := hc q1
            have x3 := hmo.light x rfl
            have fl : fits ms[n] ⟨mn, some (x - 1), mk⟩ = true := by
              rw [← hm]
              simp [fits]
            have ex : ((x : Int) - 1) = ((x - 1 : Nat) : Int) := by omega
            obtain ⟨ms2, es2, hp2, hr2⟩ := srt_mks (ms.eraseIdx n ++ [⟨mn, some (x - 1), mk⟩])
            refine sx_asg ?_
            walk_at "go"
            rw [ex]
            refine ops_add_tup (big_line (by rw [List.length_map]; show _ + 1 ≤ 250000; omega)) ?_
            refine ea_nil (srt_run (ds := (ms.eraseIdx n ++ [(⟨mn, some (x - 1), mk⟩ : Mk)]).map mkD) (.inl (by rw [List.map_append]; rfl)) (mks_alike _) (mks_sort _) (mks_dep _) ?_)
            rw [es2]
            refine ea_nil (cas_tuple (.inr (.inl rfl)) ?_)
            refine ⟨trivial, ?_⟩
            have hms2 : ∀ y ∈ ms2, okQ wk y := fun y hy => by
              rcases List.mem_append.mp (hp2.mem_iff.mp hy) with q | q
              · exact d7 y (List.mem_of_mem_eraseIdx q)
              · rw [List.mem_singleton.mp q]
                exact ⟨hmo.nm, fun v e => by cases e; omega, hmo.left1, by
                  have hl : mk ≤ (if x = wk.br then wk.ab else wk.cb) := hmo.left
                  show mk ≤ (if x - 1 = wk.br then wk.ab else wk.cb)
                  rw [if_neg (by omega)] at hl ⊢
                  exact hl⟩
            have hl2 : ms2.length ≤ wk.ln := by
              rw [hp2.length_eq, List.length_append, List.length_singleton]
              omega
            exact ⟨us, lt, st, ms2, rs, _, _, _, rfl, { olap with hmm := hl2, hms := hms2, hmr := hr2, gm := emb_low d62 hnl fl hp2 }⟩
          · walk_at "go"
            exact ⟨us, lt, st, ms.eraseIdx n, rs, _, _, _, rfl, olap2⟩
      · walk_at "go"
        exact ⟨us, lt, st, ms, rs, s15, s16, s17, rfl, olap⟩
    · rintro ρ' ⟨us', lt', st', ms', rs', t15, t16, t17, rfl, oo⟩
      obtain ⟨lt2, es, hp, hdn⟩ := srt_nums lt'
      refine sx_seq (sx_asg (ev_put (ds := ls.map rowD) (i := j) rfl rfl (by rw [List.length_map]; omega) ?_))
      refine ev_cb (ea_cons (ev_srtL (ea_cons (ev_own rfl (ea_nil (ea_cons (ev_bl (ea_nil ⟨_, lt'.map num, rfl, rfl, .inr (.inr rfl), nums_alike lt', nums_sort lt', nums_dep lt', ?_⟩))))))))
      rw [es]
      refine ea_nil (cas_tuple (.inr (.inl rfl)) ⟨_, rfl, trivial, ?_⟩)
      have e := map_put rowD hjl lt2
      rw [e]
      walk_at "go"
      refine sx_asg ?_
      walk_at "go"
      have odn : okD wk ⟨us', ls.take j ++ [lt2] ++ ls.drop (j + 1), st', ms', ph, rs'⟩ := by
        refine ⟨oo.hus, oo.hub, (put_len hjl _).trans d3, fun l m => ?_, oo.hst, oo.hmm, oo.hms, oo.hmr, dp1, d9, oo.hrs⟩
        rcases put_mem m with rfl | m
        · exact ⟨by rw [hp.length_eq]; exact oo.hl9, fun y hy => oo.hl3 y (hp.mem_iff.mp hy), hdn⟩
        · exact d4 l m
      have cv : covers ls[j] lt2 = true := by
        rw [← hlt]
        exact covers_cnt hlr.2.2 hdn fun t => by rw [hp.countP_eq]; exact oo.gl t
      refine ⟨⟨us', ls.take j ++ [lt2] ++ ls.drop (j + 1), st', ms', ph, rs'⟩, _, _, _, _, _, _, _, _, _, _, _, _, _, _, rfl, odn, noLess_trans (okO_of ok od0) oos (okO_of ok odn) down0 ((noLess_iff oos (okO_of ok odn)).mpr ⟨rfl, oo.gr, oo.gs, oo.gu, covAll_put hjl cv, oo.gm⟩)⟩
  · rintro ρ' ⟨s, s4, s5, s6, s7, s8, s9, s10, s11, s12, s13, s14, s15, s16, s17, rfl, od, dn⟩
    refine sx_ret (ev_varx ⟨_, rfl, _, rfl, fun w' s' n' e' => ?_⟩)
    injection e' with e1 e2
    injection e2 with e2 _
    obtain rfl := wkD_inj _ _ e1
    obtain rfl := stD_inj _ _ e2
    exact ⟨s, rfl, od, dn⟩
end
end K19

namespace K19
open PySem L2 RZ DL
/-! the walk by data -/
local macro_rules | `(tactic| walk_at "dl") => `(tactic| first
  | with_reducible first
    | refine sx_seq ?_ | refine sx_if ?_ | refine sx_next ?_
    | refine et_not ?_ | refine et_B ?_ | refine et_test ?_ | refine et_and ?_ | refine et_or ?_ | refine et_yes ?_
    | refine ev_and ?_ | refine ev_or ?_ | refine ev_not ?_ | refine ev_if ?_ | refine ev_chain ?_
    | refine ev_int ?_ | refine ev_bl ?_ | refine ev_str ?_ | refine ev_non ?_ | refine ev_c ?_
    | refine ev_op ?_ | refine ev_un ?_ | refine ev_cb ?_ | refine ev_fn1 ?_ | refine ev_fn2 ?_ | refine ev_sl ?_ | refine eo_none ?_ | refine eo_some ?_ | refine ev_tup ?_
    | refine ea_cons ?_ | refine ea_nil ?_
    | refine ops_ge ?_ | refine ops_le ?_ | refine ops_gt ?_ | refine ops_lt ?_ | refine ops_leS ?_ | refine ops_ltS ?_ | refine ops_add_int ?_ | refine ops_sub ?_ | refine ops_isN ?_ | refine ops_isNot ?_ | refine ops_eq_int ?_ | refine ops_eqS ?_ | refine ops_neS ?_
    | refine cas_len_tup ?_ | refine cas_isi_int ?_ | refine cas_isi_bool ?_ | refine cas_isi_str ?_ | refine cas_isi_tup ?_ | refine cas_isi_lst ?_
    | refine iteT ?_ | refine iteF ?_ | refine and_nols ?_
  | ((with_reducible refine ev_varx ?_); refine ⟨_, rfl, ?_⟩)
  | ((with_reducible refine ops_ix_tupx ?_); first | refine ⟨_, rfl, ?_⟩ | refine ⟨_, atI_nat (j := 0) rfl, ?_⟩ | refine ⟨_, atI_nat (j := 1) rfl, ?_⟩ | refine ⟨_, atI_nat (j := 2) rfl, ?_⟩ | refine ⟨_, atI_nat (j := 3) rfl, ?_⟩ | refine ⟨_, atI_nat (j := 4) rfl, ?_⟩ | refine ⟨_, atI_nat (j := 5) rfl, ?_⟩ | refine ⟨_, atI_nat (j := 6) rfl, ?_⟩)
  | ((with_reducible refine sz_and ?_ ?_); exact rfl)
  | ((with_reducible refine ev_ownx ?_); refine ⟨_, rfl, ?_⟩)
  | ((with_reducible refine ev_refx ?_); refine ⟨_, rfl, ?_⟩)
  | (with_reducible refine sxn_seq ?_) | (with_reducible refine uns_neg ?_) | (with_reducible refine ev_frz (evn_lst ?_)) | (with_reducible refine sls_tup ?_) | (refine ev_revT ?_)
  | ((refine sx_extx ?_); refine ⟨_, rfl, ?_⟩) | ((with_reducible refine ops_add_tup ?_ ?_); exact le_line rfl) | (with_reducible refine cas_listT ?_)
  | ((with_reducible refine ifT ?_ ?_); exact rfl) | ((with_reducible refine ifF ?_ ?_); exact rfl))
local macro_rules | `(tactic| walk_at "go") => `(tactic| repeat (first | walk_at "dl" | with_reducible refine ⟨_, rfl, ?_⟩ | with_reducible refine ⟨_, _, rfl, ?_⟩))
/-! ### stands beside -/
theorem cut_take {ds : List D} {i : Nat} : cutD ds none (some (i : Int)) = ds.take i := by
  by_cases h : i ≤ ds.length
  · exact cut_to h
  · have e : HT.sIx ds.length ds.length (some (i : Int)) = ds.length := by
      have z : ¬ (i : Int) < 0 := by omega
      have h' : ds.length ≤ i := by omega
      simp [HT.sIx, z, h']
    unfold cutD
    rw [e]
    simp [HT.sIx]
    rw [List.take_of_length_le (by omega)]
theorem min_add (x m : Nat) : (if (x : Int) + 1 < (m : Int) then (x : Int) + 1 else (m : Int)) = ((min m (x + 1) : Nat) : Int) := by
  split <;> omega
abbrev preNear (ds : List D) : Prop := ∃ (w : Wk8) (s : St), ds = [wkD8 w, stD s] ∧ okW8 w ∧ okD w s
abbrev postNear (ds : List D) (d : D) : Prop := ∀ (w : Wk8) (s : St), ds = [wkD8 w, stD s] → ∃ s', d = stD s' ∧ okD w s'
abbrev LNear (Pg : Program) (w : World) (K : PySem.W.Frag) (mg : Str → Option Value) (base : Heap) := Fn Pg w K mg base "_law_near" 4 ["_law_feed_here", "_law_works_here", "_law_stand_here"] (PmF nm K 2 preNear postNear)
section
variable {Pg : Program} {w : World} {K : PySem.W.Frag} {mg : Str → Option Value} {base : Heap} {f : Addr} {fd : FuncData}
theorem ok_near (F : Fun K "_law_near" "_law_near" s__law_near f fd) (T : Txt mg) (C__law_draw : LDraw Pg w K mg base) (C__law_less : LLess Pg w K mg base) (C__law_stand : LStand Pg w K mg base) (C__law_beats_of : LBeatsX Pg w K mg base) : FnG Pg w K mg base 4 f fd ["_law_feed_here", "_law_works_here", "_law_stand_here"] (PmF nm K 2 preNear postNear) := by
  have nd := sc__law_near.nd
  refine fnG_of F sc__law_near pm_len (fun cdv A ou s H vs Q hgd hr h => ?_)
  have hu : (A.deeper (PyProof.Rows.envOfC "_law_near" (defScope s__law_near) s.heap.objs.size f cdv)).units + 64 < cLine := by have := hr.un; omega
  refine ⟨_, (pss_cons (ps_par (i := 3) (j := 4) rfl nd rfl rfl (by decide) rfl rfl (pa_cons (pe_fn C__law_draw hgd (hr.mono (by first | decide | omega)) rfl (pa_cons (pv 0) (pa_cons pe_int pa_nil))) (pa_cons (pe_fn C__law_draw hgd (hr.mono (by first | decide | omega)) rfl (pa_cons (pv 0) (pa_cons (pe_callB (r := rLenA K) call_len (by rfl) T.b_len (by decide +kernel) (pa_cons (pe_ix (r := rIx K) ix_seq (pv 2) pe_int (fun _ _ => rfl)) pa_nil)) pa_nil))) pa_nil)) (by rfl)) (pss_cons (ps_set (i := 5) nd rfl (Or.inl rfl) (pe_fn C__law_less hgd (hr.mono (by first | decide | omega)) rfl (pa_cons (pv 0) (pa_cons (pv 1) (pa_cons (pv 2) (pa_cons pe_int pa_nil))))) (hf := Or.inl rfl)) (pss_cons (ps_if (pt_cmpR (r := rEq2 K) (opEq hu) (pv 3) pe_int (nomark _)) (pss_one (ps_ret (pe_fn C__law_stand hgd (hr.mono (by first | decide | omega)) rfl (pa_cons (pv 0) (pa_cons (pv 1) pa_nil))))) pss_nil) (pss_cons (ps_if (pt_cmpR (r := rEq2 K) (opEq hu) (pv 3) pe_int (nomark _)) (pss_one (ps_ret (pe_op (r := rAdd4 K) opAdd (pe_slice (r := rSl3 K) slAny (pv 5) po_none (po_some pe_int)) (pe_tup (pa_cons (pe_op (r := rAdd4 K) opAdd pe_int (pe_fn C__law_draw hgd (hr.mono (by first | decide | omega)) rfl (pa_cons (pv 0) (pa_cons (pe_ix (r := rIx K) ix_seq (pe_ix (r := rIx K) ix_seq (pv 1) pe_int (fun _ _ => rfl)) pe_int (fun _ _ => rfl)) pa_nil)))) (pa_cons (pe_ix (r := rIx K) ix_seq (pv 5) pe_int (fun _ _ => rfl)) pa_nil)))))) pss_nil) (pss_cons (ps_if (pt_cmpR (r := rEq2 K) (opEq hu) (pv 3) pe_int (nomark _)) (pss_cons (ps_set (i := 6) nd rfl (Or.inl rfl) (pe_op (r := rAdd4 K) opAdd (pe_op (r := rAdd4 K) opAdd (pe_slice (r := rSl3 K) slAny (pe_ix (r := rIx K) ix_seq (pv 5) pe_int (fun _ _ => rfl)) po_none (po_some (pv 4))) (pe_tup (pa_cons (pe_callB (r := rMin2) (call_min2 rfl) (by rfl) T.b_min (by decide +kernel) (pa_cons (pe_ix (r := rIx K) ix_seq (pe_ix (r := rIx K) ix_seq (pv 1) pe_int (fun _ _ => rfl)) pe_int (fun _ _ => rfl)) (pa_cons (pe_op (r := rAdd4 K) opAdd (pe_ix (r := rIx K) ix_seq (pe_ix (r := rIx K) ix_seq (pv 5) pe_int (fun _ _ => rfl)) (pv 4) (fun _ _ => rfl)) pe_int) pa_nil))) pa_nil))) (pe_slice (r := rSl3 K) slAny (pe_ix (r := rIx K) ix_seq (pv 5) pe_int (fun _ _ => rfl)) (po_some (pe_op (r := rAdd4 K) opAdd (pv 4) pe_int)) po_none)) (hf := Or.inl rfl)) (pss_one (ps_ret (pe_op (r := rAdd4 K) opAdd (pe_tup (pa_cons (pv 6) pa_nil)) (pe_slice (r := rSl3 K) slAny (pv 5) (po_some pe_int) po_none))))) pss_nil) (pss_cons (ps_if (pt_cmpR (r := rEq2 K) (opEq hu) (pv 3) pe_int (nomark _)) (pss_cons (ps_set (i := 7) nd rfl (Or.inl rfl) (pe_callBK (r := rSrtK K) (crk_srtD hu) (by rfl) T.b_sorted (by decide +kernel) (pa_cons (pe_op (r := rAdd4 K) opAdd (pe_ix (r := rIx K) ix_seq (pe_ix (r := rIx K) ix_seq (pv 5) pe_int (fun _ _ => rfl)) (pv 4) (fun _ _ => rfl)) (pe_tup (pa_cons (pe_fn C__law_draw hgd (hr.mono (by first | decide | omega)) rfl (pa_cons (pv 0) (pa_cons (pe_op (r := rAdd4 K) opAdd (pe_ix (r := rIx K) ix_seq (pe_ix (r := rIx K) ix_seq (pv 1) pe_int (fun _ _ => rfl)) pe_int (fun _ _ => rfl)) pe_int) pa_nil))) pa_nil))) pa_nil) (pk_cons pe_bl pk_nil)) (hf := Or.inl rfl)) (pss_cons (ps_set (i := 7) nd rfl (Or.inl rfl) (pe_callTy (r := rTupleOf K) call_tuple_of (by rfl) T.b_tuple (by decide +kernel) (pa_cons (pe_slice (r := rSl3 K) slAny (pv 7) po_none (po_some (pe_ix (r := rIx K) ix_seq (pe_ix (r := rIx K) ix_seq (pv 1) pe_int (fun _ _ => rfl)) pe_int (fun _ _ => rfl)))) pa_nil)) (hf := Or.inl rfl)) (pss_one (ps_ret (pe_op (r := rAdd4 K) opAdd (pe_op (r := rAdd4 K) opAdd (pe_slice (r := rSl3 K) slAny (pv 5) po_none (po_some pe_int)) (pe_tup (pa_cons (pe_op (r := rAdd4 K) opAdd (pe_op (r := rAdd4 K) opAdd (pe_slice (r := rSl3 K) slAny (pe_ix (r := rIx K) ix_seq (pv 5) pe_int (fun _ _ => rfl)) po_none (po_some (pv 4))) (pe_tup (pa_cons (pv 7) pa_nil))) (pe_slice (r := rSl3 K) slAny (pe_ix (r := rIx K) ix_seq (pv 5) pe_int (fun _ _ => rfl)) (po_some (pe_op (r := rAdd4 K) opAdd (pv 4) pe_int)) po_none)) pa_nil))) (pe_slice (r := rSl3 K) slAny (pv 5) (po_some pe_int) po_none)))))) pss_nil) (pss_cons (ps_if (PW.pt (pw_and (pt_cmpR (r := rEq2 K) (opEq hu) (pv 3) pe_int (nomark _)) (pw_and1 (pt_cmpR (r := rNe2 K) (opNe hu) (pe_ix (r := rIx K) ix_seq (pv 5) pe_int (fun _ _ => rfl)) (pe_tup pa_nil) (nomark _))))) (pss_cons (ps_set (i := 8) nd rfl (Or.inl rfl) (pe_ix (r := rIx K) ix_seq (pe_ix (r := rIx K) ix_seq (pe_ix (r := rIx K) ix_seq (pv 5) pe_int (fun _ _ => rfl)) pe_int (fun _ _ => rfl)) pe_int (fun _ _ => rfl)) (hf := Or.inl rfl)) (pss_cons (ps_set (i := 9) nd rfl (Or.inl rfl) (pe_op (r := rAdd4 K) opAdd pe_int (pe_fn C__law_draw hgd (hr.mono (by first | decide | omega)) rfl (pa_cons (pv 0) (pa_cons (pe_fn C__law_beats_of hgd (hr.mono (by first | decide | omega)) rfl (pa_cons (pv 1) (pa_cons (pv 8) pa_nil))) pa_nil)))) (hf := Or.inl rfl)) (pss_one (ps_ret (pe_op (r := rAdd4 K) opAdd (pe_op (r := rAdd4 K) opAdd (pe_slice (r := rSl3 K) slAny (pv 5) po_none (po_some pe_int)) (pe_tup (pa_cons (pe_callTy (r := rTupleOf K) call_tuple_of (by rfl) T.b_tuple (by decide +kernel) (pa_cons (pe_callB (r := rSrtD K false) (cr_srtD hu) (by rfl) T.b_sorted (by decide +kernel) (pa_cons (pe_op (r := rAdd4 K) opAdd (pe_tup (pa_cons (pe_tup (pa_cons (pv 8) (pa_cons (pv 9) pa_nil))) pa_nil)) (pe_slice (r := rSl3 K) slAny (pe_ix (r := rIx K) ix_seq (pv 5) pe_int (fun _ _ => rfl)) (po_some pe_int) po_none)) pa_nil)) pa_nil)) pa_nil))) (pe_slice (r := rSl3 K) slAny (pv 5) (po_some pe_int) po_none)))))) pss_nil) (pss_one (ps_ret (pv 5)))))))))), bodyF (by decide) h fun a l cs F0 ds hl ⟨wk, s0, hd, ok, od0⟩ => ?_⟩
  subst hd
  have k1 := ok.k1
  have k3 := ok.k3
  have us1 := od0.us
  have post : ∀ s, okD wk s → postNear [wkD8 wk, stD s0] (stD s) := fun s o w' s' e' => by
    injection e' with e1 _
    obtain rfl := wkD_inj _ _ e1
    exact ⟨s, rfl, o⟩
  change Sx K (feedW nm a l cs) H F0 _ [.rf (.ref a), .dat (wkD8 wk), .dat (stD s0), .un, .un, .un, .un, .un, .un, .un] _
  refine sx_seq (sx_par ?_)
  walk_at "go"
  (refine ev_drawN ?_; walk_at "go"; (first | refine ⟨6, rfl, ?_, fun (way : Nat) (hway : way < 6) => ?_⟩ | refine ⟨?_, fun (way : Nat) (hway : way < 6) => ?_⟩); (focus (show 1 ≤ 6 ∧ 6 < 1000; exact ⟨by omega, by omega⟩)); walk_at "go")
  refine ev_drawN ?_
  walk_at "go"
  refine ops_ix_tup (ds := [rowD s0.us, .tuple (s0.ls.map rowD), num s0.st, .tuple (s0.ms.map mkD), num s0.ph, num s0.rs]) (atI_nat (j := 0) rfl) ?_
  walk_at "go"
  refine ⟨by rw [List.length_map]; exact ⟨by omega, by omega⟩, fun j hj => ?_⟩
  rw [List.length_map] at hj
  refine ⟨trivial, ?_⟩
  refine sx_seq (sx_asg (ev_fnF ?_))
  walk_at "go"
  refine ⟨[_, _, _], rfl, rfl, ⟨wk, s0, 3, rfl, ok, od0, by decide⟩, fun d hdd => ?_⟩
  obtain ⟨s, rfl, od, _⟩ := hdd wk s0 3 rfl
  refine ⟨trivial, ?_⟩
  obtain ⟨us, ls, st, ms, ph, rs⟩ := s
  obtain ⟨d1, d2, d3, d4, d5, d6, d7, d8, dp1, d9, d10⟩ := od
  simp only at d1 d2 d3 d4 d5 d6 d7 d8 dp1 d9 d10
  have od : okD wk ⟨us, ls, st, ms, ph, rs⟩ := ⟨d1, d2, d3, d4, d5, d6, d7, d8, dp1, d9, d10⟩
  have ln2 := ok.ln
  have d62 : ms.length ≤ 2 := Nat.le_trans d6 ln2
  change Sx K (feedW nm a l cs) H F0 _ [.rf (.ref a), .dat (wkD8 wk), .dat (stD s0), .dat (num way), .dat (num j), .dat (.tuple [.tuple (us.map num), .tuple (ls.map rowD), num st, .tuple (ms.map mkD), num ph, num rs]), .un, .un, .un, .un] _
  have hju : j < us.length := by omega
  have hjl : j < ls.length := by omega
  walk_at "go"
  refine if2 (fun _ => ?_) (fun _ => ?_)
  · refine sx_ret (ev_fnF ?_)
    walk_at "go"
    refine ⟨[_], rfl, rfl, ⟨wk, rfl, ok⟩, fun d hdd => ?_⟩
    obtain ⟨s, rfl, o⟩ := hdd wk rfl
    exact ⟨_, rfl, post s o⟩
  walk_at "go"
  refine if2 (fun _ => ?_) (fun _ => ?_)
  · refine sx_ret ?_
    walk_at "go"
    have sp1 := ok.sp1
    have sp4 := ok.sp
    (refine ev_drawN ?_; walk_at "go"; (first | refine ⟨wk.sp, rfl, ?_, fun (r1 : Nat) (h1 : r1 < wk.sp) => ?_⟩ | refine ⟨?_, fun (r1 : Nat) (h1 : r1 < wk.sp) => ?_⟩); (focus (show 1 ≤ wk.sp ∧ wk.sp < 1000; exact ⟨by omega, by omega⟩)); walk_at "go")
    exact post ⟨us, ls, st, ms, 1 + r1, rs⟩ { od with ph := by show 1 + r1 ≤ wk.sp; omega, ph1 := by show 1 ≤ 1 + r1; omega }
  walk_at "go"
  refine if2 (fun _ => ?_) (fun _ => ?_)
  · refine sx_seq (sx_asg (ev_putE (ds := us.map num) (i := j) (fun p => ev_op (ev_varx ⟨_, rfl, ev_int (ops_ix_tup (atI_nat (j := 0) rfl) p)⟩)) rfl (by rw [List.length_map]; omega) ?_))
    walk_at "go"
    refine ops_ix_tup (atI_nat (map_get hju)) ?_
    walk_at "go"
    refine cas_min2 ⟨_, rfl, trivial, ?_⟩
    rw [min_add]
    have e := map_put num hju (min wk.us (us[j] + 1))
    rw [e]
    refine sx_ret ?_
    walk_at "go"
    have hus := ok.us
    refine post ⟨us.take j ++ [min wk.us (us[j] + 1)] ++ us.drop (j + 1), ls, st, ms, ph, rs⟩ { od with us := (put_len hju _).trans d1, ub := fun x m => ?_ }
    rcases put_mem m with rfl | m
    · omega
    · exact d2 x m
  walk_at "go"
  refine if2 (fun _ => ?_) (fun _ => ?_)
  · have hlr := d4 ls[j] (List.getElem_mem hjl)
    obtain ⟨lt, hlt⟩ : ∃ lt, lt = ls[j] := ⟨_, rfl⟩
    rw [← hlt] at hlr
    have hbr := ok.br
    have hsh := ok.sh
    obtain ⟨nothing, _⟩ : ∃ x : Nat, x = 0 := ⟨_, rfl⟩
    refine sx_seq (sx_asg (ev_srtL (b := true) ?_))
    walk_at "go"
    refine ops_ix_tup (atI_nat (map_get hjl)) ?_
    rw [← hlt]
    walk_at "go"
    (refine ev_drawN ?_; walk_at "go"; (first | refine ⟨(Nat.succ wk.br), rfl, ?_, fun (r1 : Nat) (h1 : r1 < (Nat.succ wk.br)) => ?_⟩ | refine ⟨?_, fun (r1 : Nat) (h1 : r1 < (Nat.succ wk.br)) => ?_⟩); (focus (show 1 ≤ (Nat.succ wk.br) ∧ (Nat.succ wk.br) < 1000; exact ⟨by omega, by omega⟩)); walk_at "go")
    refine ops_add_tup (big_line (by rw [List.length_map]; show _ + 1 ≤ 250000; omega)) ?_
    obtain ⟨lt2, es2, hp2, hdn⟩ := srt_nums (lt ++ [r1])
    have hl2 : lt2.length ≤ 10 := by
      rw [hp2.length_eq, List.length_append, List.length_singleton]
      omega
    have hx2 : ∀ x ∈ lt2, x ≤ wk.br := fun x m => by
      rcases List.mem_append.mp (hp2.mem_iff.mp m) with q | q
      · exact hlr.2.1 x q
      · have := List.mem_singleton.mp q
        omega
    refine ea_nil (ea_cons (ev_bl (ea_nil ⟨_, (lt ++ [r1]).map num, rfl, rfl, .inl (by rw [List.map_append]; rfl), nums_alike _, nums_sort _, nums_dep _, trivial, ?_⟩)))
    rw [es2]
    refine sx_seq (sx_asg ?_)
    walk_at "go"
    refine sls_lst (.inl rfl) ?_
    rw [cut_take, ← List.map_take]
    walk_at "go"
    refine cas_tuple (.inr (.inl rfl)) ?_
    walk_at "go"
    refine sx_ret ?_
    walk_at "go"
    have c1 := cut_len (ls.map rowD) none (some (j : Int))
    have c2 := cut_len (ls.map rowD) (some ((j : Int) + 1)) none
    rw [List.length_map] at c1 c2
    refine ops_add_tup (big_line (by show _ + 1 ≤ 250000; omega)) ?_
    walk_at "go"
    refine ops_add_tup (big_line (by rw [List.length_append]; show _ + 1 + _ ≤ 250000; omega)) ?_
    have e := map_put rowD hjl (lt2.take wk.sh)
    rw [e]
    walk_at "go"
    refine post ⟨us, ls.take j ++ [lt2.take wk.sh] ++ ls.drop (j + 1), st, ms, ph, rs⟩ { od with ls := (put_len hjl _).trans d3, lr := fun x m => ?_ }
    rcases put_mem m with rfl | m
    · exact ⟨by rw [List.length_take]; omega, fun y hy => hx2 y (List.mem_of_mem_take hy), hdn.sublist (List.take_sublist _ _)⟩
    · exact d4 x m
  refine sx_next ?_
  refine sx_seq ?_
  have nb : ∀ y ∈ wk.ks.map Kd8.nm, Bt 8 y := fun y m => by
    obtain ⟨k, hk, rfl⟩ := List.mem_map.mp m
    exact (ok.ks k hk).nm
  refine sx_if (EvT.mono (PB := fun c => c = true → ms ≠ []) ?_ fun c hc => ?_)
  · walk_at "go"
    refine if2 (fun _ => ?_) (fun _ => fun z => nomatch z)
    walk_at "go"
    refine ops_ne (mks_sh ok d7 d62) rfl ⟨_, rfl, fun z e => ?_⟩
    rw [e] at z
    cases z
  refine if2 (fun q => ?_) (fun _ => ?_)
  · have hne := hc q
    cases ms with
    | nil => exact absurd rfl hne
    | cons m ms =>
      have hmo := d7 m (by simp)
      refine sx_seq (sx_asg ?_)
      walk_at "go"
      refine ops_ix_tup (ds := [thingD m, num m.left]) (atI_nat (j := 0) rfl) ?_
      refine ⟨trivial, ?_⟩
      refine sx_seq (sx_asg ?_)
      walk_at "go"
      refine ev_drawN ?_
      walk_at "go"
      refine ev_fn ?_
      walk_at "go"
      refine ⟨?_, rfl, ⟨wk, m, rfl, by omega, hmo.nm⟩, ?_⟩
      · intro s hs
        simp only [List.mem_cons, List.not_mem_nil, or_false] at hs
        rcases hs with rfl | rfl <;> trivial
      intro s hs
      have hs := hs wk m rfl
      obtain ⟨b1, b4⟩ := b8_in ok hmo.nm
      obtain ⟨b, hbe⟩ : ∃ b, b = b8 wk m := ⟨_, rfl⟩
      rw [← hbe] at hs b1 b4
      subst hs
      walk_at "go"
      refine ⟨⟨b1, by omega⟩, fun r4 h4 => ?_⟩
      walk_at "go"
      refine sx_ret ?_
      walk_at "go"
      have d6' : ms.length ≤ 1 := by
        rw [List.length_cons] at d6
        omega
      have ec : cutD ((m :: ms).map mkD) (some 1) none = ms.map mkD := cut_from (ds := (m :: ms).map mkD) (i := 1) (by rw [List.length_map, List.length_cons]; omega)
      rw [ec]
      refine ops_add_tup (big_line (by show 1 + (ms.map mkD).length ≤ 250000; rw [List.length_map]; omega)) ?_
      obtain ⟨ms2, es2, hp2, hr2⟩ := srt_mks ((⟨m.nm, m.light, 1 + r4⟩ : Mk) :: ms)
      refine ea_nil (srt_run (ds := ((⟨m.nm, m.light, 1 + r4⟩ : Mk) :: ms).map mkD) (.inl rfl) (mks_alike _) (mks_sort _) (mks_dep _) ?_)
      rw [es2]
      refine ea_nil (cas_tuple (.inr (.inl rfl)) ?_)
      walk_at "go"
      refine post ⟨us, ls, st, ms2, ph, rs⟩ { od with mm := ?_, ms := fun y hy => ?_, mr := hr2 }
      · show ms2.length ≤ wk.ln
        rw [hp2.length_eq, List.length_cons]
        omega
      · rcases List.mem_cons.mp (hp2.mem_iff.mp hy) with rfl | q
        · exact ⟨hmo.nm, hmo.light, by show 1 ≤ 1 + r4; omega, by show 1 + r4 ≤ b8 wk ⟨m.nm, m.light, 1 + r4⟩; rw [b8_eq wk (m := ⟨m.nm, m.light, 1 + r4⟩) (m' := m) rfl, ← hbe]; omega⟩
        · exact d7 y (by simp [q])
  · refine sx_next ?_
    refine sx_ret (ev_varx ⟨_, rfl, _, rfl, post _ od⟩)
end
end K19

namespace K19
open PySem L2 RZ DL
/-! the walk by data -/
local macro_rules | `(tactic| walk_at "dl") => `(tactic| first
  | with_reducible first
    | refine sx_seq ?_ | refine sx_if ?_ | refine sx_ret ?_ | refine sx_next ?_ | refine sx_asg ?_
    | refine et_not ?_ | refine et_B ?_ | refine et_test ?_ | refine et_and ?_ | refine et_or ?_ | refine et_yes ?_
    | refine ev_and ?_ | refine ev_or ?_ | refine ev_not ?_ | refine ev_if ?_ | refine ev_chain ?_
    | refine ev_int ?_ | refine ev_bl ?_ | refine ev_str ?_ | refine ev_non ?_ | refine ev_c ?_
    | refine ev_op ?_ | refine ev_un ?_ | refine ev_cb ?_ | refine ev_fn1 ?_ | refine ev_fn2 ?_ | refine ev_sl ?_ | refine eo_none ?_ | refine eo_some ?_ | refine ev_tup ?_
    | refine ea_cons ?_ | refine ea_nil ?_
    | refine ops_ge ?_ | refine ops_le ?_ | refine ops_gt ?_ | refine ops_lt ?_ | refine ops_leS ?_ | refine ops_ltS ?_ | refine ops_add_int ?_ | refine ops_sub ?_ | refine ops_isN ?_ | refine ops_isNot ?_ | refine ops_eq_int ?_ | refine ops_eqS ?_ | refine ops_neS ?_
    | refine cas_len_tup ?_ | refine cas_isi_int ?_ | refine cas_isi_bool ?_ | refine cas_isi_str ?_ | refine cas_isi_tup ?_ | refine cas_isi_lst ?_
    | refine iteT ?_ | refine iteF ?_ | refine and_nols ?_
  | ((with_reducible refine ev_varx ?_); refine ⟨_, rfl, ?_⟩)
  | ((with_reducible refine ops_ix_tupx ?_); first | refine ⟨_, rfl, ?_⟩ | refine ⟨_, atI_nat (j := 0) rfl, ?_⟩ | refine ⟨_, atI_nat (j := 1) rfl, ?_⟩ | refine ⟨_, atI_nat (j := 2) rfl, ?_⟩ | refine ⟨_, atI_nat (j := 3) rfl, ?_⟩ | refine ⟨_, atI_nat (j := 4) rfl, ?_⟩ | refine ⟨_, atI_nat (j := 5) rfl, ?_⟩ | refine ⟨_, atI_nat (j := 6) rfl, ?_⟩)
  | ((with_reducible refine sz_and ?_ ?_); exact rfl)
  | ((with_reducible refine ev_ownx ?_); refine ⟨_, rfl, ?_⟩)
  | ((with_reducible refine ev_refx ?_); refine ⟨_, rfl, ?_⟩)
  | (with_reducible refine sxn_seq ?_) | (with_reducible refine uns_neg ?_) | (with_reducible refine ev_frz (evn_lst ?_)) | (with_reducible refine sls_tup ?_) | (refine ev_revT ?_)
  | ((refine sx_extx ?_); refine ⟨_, rfl, ?_⟩) | ((with_reducible refine ops_add_tup ?_ ?_); exact le_line rfl) | (with_reducible refine cas_listT ?_)
  | ((with_reducible refine ifT ?_ ?_); exact rfl) | ((with_reducible refine ifF ?_ ?_); exact rfl))
local macro_rules | `(tactic| walk_at "go") => `(tactic| repeat (first | walk_at "dl" | with_reducible refine ⟨_, rfl, ?_⟩ | with_reducible refine ⟨_, _, rfl, ?_⟩))
/-! ### looks -/
def isNum : D → Bool
  | .int i => decide (0 ≤ i)
  | _ => false
def lenIs : D → D → Bool
  | .tuple ds, .int m => decide ((ds.length : Int) = m)
  | _, _ => false
def areNums : D → Bool
  | .tuple ds => ds.all isNum
  | _ => false
theorem isNum_int {d : D} (h : isNum d = true) : ∃ n : Nat, d = num n := by
  cases d with
  | int i => exact ⟨i.toNat, by rw [show i = ((i.toNat : Nat) : Int) from (Int.toNat_of_nonneg (of_decide_eq_true h)).symm]; rfl⟩
  | _ => cases h
theorem nums_of : ∀ {ds : List D}, ds.all isNum = true → ∃ ns : List Nat, ds = ns.map num
  | [], _ => ⟨[], rfl⟩
  | d :: ds, h => by
    rw [List.all_cons, Bool.and_eq_true] at h
    obtain ⟨n, rfl⟩ := isNum_int h.1
    obtain ⟨ns, rfl⟩ := nums_of h.2
    exact ⟨n :: ns, rfl⟩
theorem nums_all (ns : List Nat) : (ns.map num).all isNum = true := by
  rw [List.all_eq_true]
  intro d hd
  obtain ⟨n, _, rfl⟩ := List.mem_map.mp hd
  exact decide_eq_true (Int.natCast_nonneg n)
abbrev CNum (Pg : Program) (w : World) (K : PySem.W.Frag) (mg : Str → Option Value) (base : Heap) := Fn Pg w K mg base "is_number" 1 ["thing"] (Pm1 K (fun _ => True) fun d => .bool (isNum d))
abbrev CNums (Pg : Program) (w : World) (K : PySem.W.Frag) (mg : Str → Option Value) (base : Heap) := Fn Pg w K mg base "are_numbers" 2 ["thing"] (Pm1 K Fine fun d => .bool (areNums d))
abbrev LCount (Pg : Program) (w : World) (K : PySem.W.Frag) (mg : Str → Option Value) (base : Heap) := Fn Pg w K mg base "_law_is_count" 1 ["_law_thing"] (Pm1 K (fun _ => True) fun d => .bool (isNum d))
abbrev LCounts (Pg : Program) (w : World) (K : PySem.W.Frag) (mg : Str → Option Value) (base : Heap) := Fn Pg w K mg base "_law_are_counts" 2 ["_law_thing"] (Pm1 K Fine fun d => .bool (areNums d))
theorem ifN {A B : Prop} {c : Bool} (e : c = false) (h : B) : if c = true then A else B := by
  rw [e]
  exact h
theorem ifY {A B : Prop} {c : Bool} (e : c = true) (h : A) : if c = true then A else B := by
  rw [e]
  exact h
theorem nums_is {d : D} (h : areNums d = true) : ∃ ns : List Nat, d = rowD ns := by
  cases d with
  | tuple ds =>
    obtain ⟨ns, rfl⟩ := nums_of h
    exact ⟨ns, rfl⟩
  | _ => cases h
section
variable {Pg : Program} {w : World} {K : PySem.W.Frag} {mg : Str → Option Value} {base : Heap} {f : Addr} {fd : FuncData}
theorem ok_is_number (F : Fun K "is_number" "is_number" s_is_number f fd) (T : Txt mg) : FnG Pg w K mg base 1 f fd ["thing"] (Pm1 K (fun _ => True) fun d => .bool (isNum d)) := by
  have nd := sc_is_number.nd
  refine fnG_of F sc_is_number pm_len (fun cdv A ou s H vs Q hgd hr h => ?_)
  refine ⟨_, (pss_one (ps_ret (pe_and (pe_callB (r := rIsi K) call_isi (by rfl) T.b_isinstance (by decide +kernel) (pa_cons (pv 0) (pa_cons (pe_bltn (v := .ty "int") rfl T.b_int (by decide +kernel) rfl) pa_nil))) (pe_and (pe_not (pe_callB (r := rIsi K) call_isi (by rfl) T.b_isinstance (by decide +kernel) (pa_cons (pv 0) (pa_cons (pe_bltn (v := .ty "bool") rfl T.b_bool (by decide +kernel) rfl) pa_nil)))) (pe_one (pe_cmpR opGe (pv 0) pe_int (nomark _))))))), body1 (by decide) h fun W F0 d _ => ?_⟩
  change Sx K W H F0 _ [.dat d] _
  walk_at "go"
  cases d with
  | int i =>
    walk_at "go"
    exact rfl
  | bool b =>
    walk_at "go"
    exact rfl
  | _ => exact rfl
theorem all_looks (g : D → Bool) (ds : List D) : ds.map (fun d => PyData.bool (g d)) = (ds.map g).map .bool := by
  rw [List.map_map]
  rfl
theorem all_id (g : D → Bool) (ds : List D) : (ds.map g).all id = ds.all g := by
  rw [List.all_map]
  rfl
theorem ok_are_numbers (F : Fun K "are_numbers" "are_numbers" s_are_numbers f fd) (T : Txt mg) (C_is_number : CNum Pg w K mg base) : FnG Pg w K mg base 2 f fd ["thing"] (Pm1 K Fine fun d => .bool (areNums d)) := by
  have nd := sc_are_numbers.nd
  refine fnG_of F sc_are_numbers pm_len (fun cdv A ou s H vs Q hgd hr h => ?_)
  refine ⟨_, (pss_one (ps_ret (pe_and (pe_callB (r := rIsi K) call_isi (by rfl) T.b_isinstance (by decide +kernel) (pa_cons (pv 0) (pa_cons (pe_bltn (v := .ty "tuple") rfl T.b_tuple (by decide +kernel) rfl) pa_nil))) (pe_one (pe_callB (r := rAll K) (cr_all rfl) (by rfl) T.b_all (by decide +kernel) (pa_cons (pe_lc (own := [("part", 1)]) (g := gName 1) rfl nd (pi_tup (pv 0)) (blkOk_by (N := ["thing", "part"]) (sc := (defScope s_are_numbers)) (by decide +kernel)) (fun _ _ _ _ _ => (pg_name (i := 1) nd rfl (Or.inl rfl) (Or.inr rfl))) (fun _ _ _ _ _ => pts_nil) (fun _ _ _ _ _ => (pe_fn C_is_number hgd (hr.mono (by first | decide | omega)) rfl (pa_cons (pv 1) pa_nil)))) pa_nil)))))), body1 (by decide) h fun W F0 d hd => ?_⟩
  change Sx K W H F0 _ [.dat d, .un] _
  walk_at "go"
  cases d with
  | tuple ds =>
    walk_at "go"
    refine ev_frz (evn_mapT (fun d => .bool (isNum d)) (evi_tup (ev_varx ⟨_, rfl, ds, rfl, ?_, fun d hd => ?_, ?_⟩)))
    · exact Nat.lt_of_le_of_lt hd.tlen (by rw [sizeLine_eq]; decide)
    · refine gc_name (by decide) trivial ?_
      walk_at "go"
      exact ⟨trivial, rfl⟩
    · walk_at "go"
      refine cas_all (.inl (by rw [all_looks])) ?_
      rw [all_id]
      exact rfl
  | _ =>
    walk_at "go"
    exact rfl
end
end K19

namespace K19
open PySem L2 RZ DL
/-! the walk by data -/
local macro_rules | `(tactic| walk_at "dl") => `(tactic| first
  | with_reducible first
    | refine sx_seq ?_ | refine sx_if ?_ | refine sx_ret ?_ | refine sx_next ?_ | refine sx_asg ?_
    | refine et_not ?_ | refine et_B ?_ | refine et_test ?_ | refine et_and ?_ | refine et_or ?_ | refine et_yes ?_
    | refine ev_and ?_ | refine ev_or ?_ | refine ev_not ?_ | refine ev_if ?_ | refine ev_chain ?_
    | refine ev_int ?_ | refine ev_bl ?_ | refine ev_str ?_ | refine ev_non ?_ | refine ev_c ?_
    | refine ev_op ?_ | refine ev_un ?_ | refine ev_cb ?_ | refine ev_fn1 ?_ | refine ev_fn2 ?_ | refine ev_sl ?_ | refine eo_none ?_ | refine eo_some ?_ | refine ev_tup ?_
    | refine ea_cons ?_ | refine ea_nil ?_
    | refine ops_ge ?_ | refine ops_le ?_ | refine ops_gt ?_ | refine ops_lt ?_ | refine ops_leS ?_ | refine ops_ltS ?_ | refine ops_add_int ?_ | refine ops_sub ?_ | refine ops_isN ?_ | refine ops_isNot ?_ | refine ops_eq_int ?_ | refine ops_eqS ?_ | refine ops_neS ?_
    | refine cas_len_tup ?_ | refine cas_isi_int ?_ | refine cas_isi_bool ?_ | refine cas_isi_str ?_ | refine cas_isi_tup ?_ | refine cas_isi_lst ?_
    | refine iteT ?_ | refine iteF ?_ | refine and_nols ?_
  | ((with_reducible refine ev_varx ?_); refine ⟨_, rfl, ?_⟩)
  | ((with_reducible refine ops_ix_tupx ?_); first | refine ⟨_, rfl, ?_⟩ | refine ⟨_, atI_nat (j := 0) rfl, ?_⟩ | refine ⟨_, atI_nat (j := 1) rfl, ?_⟩ | refine ⟨_, atI_nat (j := 2) rfl, ?_⟩)
  | ((with_reducible refine sz_and ?_ ?_); exact rfl)
  | ((with_reducible refine ev_ownx ?_); refine ⟨_, rfl, ?_⟩)
  | ((with_reducible refine ev_refx ?_); refine ⟨_, rfl, ?_⟩)
  | ((with_reducible refine ifT ?_ ?_); exact rfl) | ((with_reducible refine ifF ?_ ?_); exact rfl))
local macro_rules | `(tactic| walk_at "go") => `(tactic| repeat (first | walk_at "dl" | with_reducible refine ⟨_, rfl, ?_⟩ | with_reducible refine ⟨_, _, rfl, ?_⟩))
/-! ### the functions -/
def lowC (c : Nat) : Bool := decide (97 ≤ c) && decide (c ≤ 122)
def isWord : D → Bool
  | .str z => (decide (1 ≤ (z.length : Int)) && decide ((z.length : Int) ≤ 8)) && z.cps.toList.all lowC
  | _ => false
def geD : D → D → Bool
  | .int i, .int j => decide (j ≤ i)
  | _, _ => false
def fall (ds : List D) : Bool := (ds.zip (ds.drop 1)).all fun p => geD p.1 p.2
def isLights : D → Bool
  | .tuple ds => ds.all isNum && fall ds
  | _ => false
/-- it is this text -/
def isS (x : Str) : D → Bool
  | .str y => decide (y = x)
  | _ => false
def isGood : D → Bool
  | .tuple [a, b] => (isS "tool" a || isS "leaf" a) && isWord b
  | _ => false
def manyIs : D → D → Bool
  | .tuple ds, .none => decide (2 ≤ (ds.length : Int))
  | .tuple ds, .int m => decide ((ds.length : Int) = m)
  | _, _ => false
def isAgreed (d e : D) : Bool := isLights d && manyIs d e
def isDeed : D → D → Bool
  | .tuple [a, b], _ => isS "break" a && isNum b
  | .tuple [a, b, c], g => isWord b && (if isS "agree" a = true then isAgreed c g else (isS "make" a || isS "copy" a) && isNum c)
  | _, _ => false
def isStrike : D → Bool
  | .tuple [a] => isS "stuff" a
  | .tuple [a, b] => if isS "tool" a = true then isWord b else isS "making" a && isNum b
  | .tuple [a, b, c] => isS "leaf" a && (isWord b && isNum c)
  | _ => false
theorem eqv_S {d : D} {x : Str} : PyData.eqv d (.str x) = isS x d := by
  cases d <;> simp [PyData.eqv, isS, beq_dec]
theorem eqv_S' {d : D} {x : Str} : PyData.eqv (.str x) d = isS x d := by
  cases d <;> simp [PyData.eqv, isS, beq_dec, eq_comm]
section
variable {Pg : Program} {w : World} {K : PySem.W.Frag} {mg : Str → Option Value} {base : Heap} {f : Addr} {fd : FuncData}
theorem chr_le (c : Nat) : (!decide (([c] : List Nat) < ("a" : Str).cps.toList)) = decide (97 ≤ c) := by
  have e : ("a" : Str).cps.toList = [97] := by decide +kernel
  rw [e]
  by_cases h : 97 ≤ c
  · rw [decide_eq_true h, Bool.not_eq_true']
    refine decide_eq_false fun q => ?_
    cases q with
    | rel q => omega
    | cons q => cases q
  · rw [decide_eq_false h]
    have : ([c] : List Nat) < [97] := .rel (by omega)
    rw [decide_eq_true this]
    rfl
theorem chr_ge (c : Nat) : (!decide (("z" : Str).cps.toList < ([c] : List Nat))) = decide (c ≤ 122) := by
  have e : ("z" : Str).cps.toList = [122] := by decide +kernel
  rw [e]
  by_cases h : c ≤ 122
  · rw [decide_eq_true h, Bool.not_eq_true']
    refine decide_eq_false fun q => ?_
    cases q with
    | rel q => omega
    | cons q => cases q
  · rw [decide_eq_false h]
    have : ([122] : List Nat) < [c] := .rel (by omega)
    rw [decide_eq_true this]
    rfl
theorem mem_strD {z : Str} {d : D} (h : d ∈ strD z) : ∃ c, c ∈ z.cps.toList ∧ d = .str ⟨#[c]⟩ := by
  obtain ⟨c, h1, h2⟩ := List.mem_map.mp h
  exact ⟨c, h1, h2.symm⟩
/-- of a text of one sign -/
def low1 : D → Bool
  | .str z => lowC (z.cps.getD 0 0)
  | _ => false
theorem ok_is_word (F : Fun K "is_word" "is_word" s_is_word f fd) (T : Txt mg) : FnG Pg w K mg base 1 f fd ["thing"] (Pm1 K Fine fun d => .bool (isWord d)) := by
  have nd := sc_is_word.nd
  refine fnG_of F sc_is_word pm_len (fun cdv A ou s H vs Q hgd hr h => ?_)
  refine ⟨_, (pss_cons (ps_if (PW.pt (pw_or (pt_not (pt_val (pe_callB (r := rIsi K) call_isi (by rfl) T.b_isinstance (by decide +kernel) (pa_cons (pv 0) (pa_cons (pe_bltn (v := .ty "str") rfl T.b_str (by decide +kernel) rfl) pa_nil))))) (pw_or1 (pt_not (pt_chain opLe opLe pe_int (pe_callB (r := rLenA K) call_len (by rfl) T.b_len (by decide +kernel) (pa_cons (pv 0) pa_nil)) pe_int))))) (pss_one (ps_ret pe_bl)) pss_nil) (pss_one (ps_ret (pe_callB (r := rAll K) (cr_all rfl) (by rfl) T.b_all (by decide +kernel) (pa_cons (pe_lc (own := [("sign", 1)]) (g := gName 1) rfl nd (pi_str (pv 0)) (blkOk_by (N := ["thing", "sign"]) (sc := (defScope s_is_word)) (by decide +kernel)) (fun _ _ _ _ _ => (pg_name (i := 1) nd rfl (Or.inl rfl) (Or.inr rfl))) (fun _ _ _ _ _ => pts_nil) (fun _ _ _ _ _ => (pe_chain opLe opLe pe_str (pv 1) pe_str))) pa_nil))))), body1 (by decide) h fun W F0 d hd => ?_⟩
  change Sx K W H F0 _ [.dat d, .un] _
  walk_at "go"
  cases d with
  | str z =>
    walk_at "go"
    refine cas_len_str hd.sline ?_
    walk_at "go"
    refine if2 (fun h1 => ?_) (fun h1 => ?_)
    · walk_at "go"
      refine if2 (fun h2 => ?_) (fun h2 => ?_)
      · walk_at "go"
        exact rt_bool (by simp only [isWord]; rw [h1, Bool.true_and]; rw [Bool.not_eq_true'] at h2; rw [h2, Bool.false_and])
      · walk_at "go"
        refine ev_frz (evn_mapT (fun d => .bool (low1 d)) (evi_str (ev_varx ⟨_, rfl, z, rfl, ?_, fun d hd => ?_, ?_⟩)))
        · simp only [strD, List.length_map]
          exact Nat.lt_of_le_of_lt hd.slen (by decide)
        · obtain ⟨c, hc, rfl⟩ := mem_strD hd
          refine gc_name (by decide) trivial ?_
          walk_at "go"
          rw [chr_le]
          refine if2 (fun h3 => ?_) (fun h3 => ?_)
          · walk_at "go"
            rw [chr_ge]
            exact rt_bool (by show _ = lowC c; simp only [lowC]; rw [h3, Bool.true_and])
          · exact rt_bool (by show _ = lowC c; simp only [lowC]; rw [h3, Bool.false_and])
        · walk_at "go"
          refine cas_all (bs := z.cps.toList.map lowC) (.inl ?_) ?_
          · simp [strD, low1]
          · refine rt_bool ?_
            simp only [isWord]
            rw [Bool.not_eq_false'] at h2
            rw [h1, h2, List.all_map]
            rfl
    · refine ⟨_, rfl, ?_⟩
      walk_at "go"
      exact rt_bool (by simp only [isWord]; rw [h1, Bool.false_and, Bool.false_and])
  | _ =>
    walk_at "go"
    exact rfl
theorem ok_is_tuple_of (F : Fun K "is_tuple_of" "is_tuple_of" s_is_tuple_of f fd) (T : Txt mg) : FnG Pg w K mg base 1 f fd ["thing", "many"] (Pm2 K (fun _ e => ∃ m, e = .int m) fun d e => .bool (lenIs d e)) := by
  have nd := sc_is_tuple_of.nd
  refine fnG_of F sc_is_tuple_of pm_len (fun cdv A ou s H vs Q hgd hr h => ?_)
  have hu := hr.units
  refine ⟨_, (pss_one (ps_ret (pe_and (pe_callB (r := rIsi K) call_isi (by rfl) T.b_isinstance (by decide +kernel) (pa_cons (pv 0) (pa_cons (pe_bltn (v := .ty "tuple") rfl T.b_tuple (by decide +kernel) rfl) pa_nil))) (pe_one (pe_cmpR (r := rEq2 K) (opEq hu) (pe_callB (r := rLenA K) call_len (by rfl) T.b_len (by decide +kernel) (pa_cons (pv 0) pa_nil)) (pv 1) (nomark _)))))), body2 (by decide) h fun W F0 d e ⟨m, he⟩ => ?_⟩
  subst he
  change Sx K W H F0 _ [.dat d, .dat (.int m)] _
  walk_at "go"
  cases d with
  | tuple ds =>
    walk_at "go"
    exact rfl
  | _ =>
    walk_at "go"
    exact rfl
end
section
variable {Pg : Program} {w : World} {K : PySem.W.Frag} {mg : Str → Option Value} {base : Heap} {f : Addr} {fd : FuncData}
def gePairw : D → D
  | .tuple [a, b] => .bool (geD a b)
  | _ => .none
theorem cut1 (ds : List D) : cutD ds (some 1) none = ds.drop 1 := by
  unfold cutD
  have e1 : HT.sIx ds.length 0 (some 1) = min 1 ds.length := HT.sIx_nat _ _ 1
  rw [e1, HT.sIx_none]
  cases ds with
  | nil => rfl
  | cons a t =>
    have e : min 1 (a :: t).length = 1 := by simp
    rw [e]
    exact List.take_of_length_le (by simp)
theorem fall_map (ds : List D) : (zipD ds (cutD ds (some 1) none)).map gePairw = ((ds.zip (ds.drop 1)).map fun p => geD p.1 p.2).map .bool := by
  rw [cut1]
  unfold zipD
  rw [List.map_map, List.map_map]
  rfl
theorem mem_zipDw {xs ys : List D} {d : D} (h : d ∈ zipD xs ys) : ∃ a b, d = .tuple [a, b] ∧ a ∈ xs ∧ b ∈ ys := by
  obtain ⟨⟨a, b⟩, h1, h2⟩ := List.mem_map.mp h
  exact ⟨a, b, h2.symm, (List.of_mem_zip h1).1, (List.of_mem_zip h1).2⟩
theorem ok_is_lights (F : Fun K "is_lights" "is_lights" s_is_lights f fd) (T : Txt mg) (C_is_number : Fn Pg w K mg base "is_number" 1 ["thing"] (Pm1 K (fun _ => True) fun d => .bool (isNum d))) :
    FnG Pg w K mg base 2 f fd ["thing"] (Pm1 K Fine fun d => .bool (isLights d)) := by
  have nd := sc_is_lights.nd
  refine fnG_of F sc_is_lights pm_len (fun cdv A ou s H vs Q hgd hr h => ?_)
  have hu := hr.units
  refine ⟨_, (pss_cons (ps_if (PW.pt (pw_or (pt_not (pt_val (pe_callB (r := rIsi K) call_isi (by rfl) T.b_isinstance (by decide +kernel) (pa_cons (pv 0) (pa_cons (pe_bltn (v := .ty "tuple") rfl T.b_tuple (by decide +kernel) rfl) pa_nil))))) (pw_or1 (pt_not (pt_val (pe_callB (r := rAll K) (cr_all rfl) (by rfl) T.b_all (by decide +kernel) (pa_cons (pe_lc (own := [("light", 1)]) (g := gName 1) rfl nd (pi_tup (pv 0)) (blkOk_by (N := ["thing", "light", "one", "other"]) (sc := (defScope s_is_lights)) (by decide +kernel)) (fun _ _ _ _ _ => (pg_name (i := 1) nd rfl (Or.inl rfl) (Or.inr rfl))) (fun _ _ _ _ _ => pts_nil) (fun _ _ _ _ _ => (pe_fn C_is_number hgd (hr.mono (by first | decide | omega)) rfl (pa_cons (pv 1) pa_nil)))) pa_nil))))))) (pss_one (ps_ret pe_bl)) pss_nil) (pss_one (ps_ret (pe_callB (r := rAll K) (cr_all rfl) (by rfl) T.b_all (by decide +kernel) (pa_cons (pe_lc (own := [("one", 2), ("other", 3)]) (g := (gTup K 2 (gCons (gName 2) (gCons (gName 3) gNil)))) rfl nd (pi_zipA rfl T.b_zip (pa_cons (pv 0) (pa_cons (pe_slice (r := rSl3 K) slAny (pv 0) (po_some pe_int) po_none) pa_nil))) (blkOk_by (N := ["thing", "light", "one", "other"]) (sc := (defScope s_is_lights)) (by decide +kernel)) (fun _ _ _ _ _ => (pg_tup (n := 2) rfl (pgs_cons (pg_name (i := 2) nd rfl (Or.inl rfl) (Or.inr rfl)) (pgs_cons (pg_name (i := 3) nd rfl (Or.inl rfl) (Or.inr rfl)) pgs_nil)))) (fun _ _ _ _ _ => pts_nil) (fun _ _ _ _ _ => (pe_cmpR opGe (pv 2) (pv 3) (nomark _)))) pa_nil))))), body1 (by decide) h fun W F0 d hd' => ?_⟩
  change Sx K W H F0 _ [.dat d, .un, .un, .un] _
  walk_at "go"
  cases d with
  | tuple ds =>
    walk_at "go"
    refine ev_frz (evn_mapT (fun d => .bool (isNum d)) (evi_tup (ev_varx ⟨_, rfl, ds, rfl, ?_, fun d hd => ?_, ?_⟩)))
    · exact Nat.lt_of_le_of_lt hd'.tlen (by decide)
    · refine gc_name (by decide) trivial ?_
      walk_at "go"
      exact ⟨trivial, rfl⟩
    · walk_at "go"
      refine cas_all (bs := ds.map isNum) (.inl (by simp)) ?_
      refine ⟨_, rfl, ?_⟩
      refine if2 (fun h2 => ?_) (fun h2 => ?_)
      · walk_at "go"
        exact rt_bool (by simp only [isLights]; rw [Bool.not_eq_true'] at h2; rw [List.all_map] at h2; rw [show ds.all isNum = false from h2, Bool.false_and])
      · walk_at "go"
        refine ev_frz (evn_mapT gePairw (evi_zip ?_))
        walk_at "go"
        refine sls_tup ?_
        walk_at "go"
        refine ⟨ds, _, .inr rfl, ?_, fun d hd => ?_, ?_⟩
        · rw [zipD_len]
          have := hd'.tlen
          have h3 : sizeLine = 16777216 := sizeLine_eq
          omega
        · obtain ⟨a, b, rfl, ha, hb⟩ := mem_zipDw hd
          rw [cut1] at hb
          rw [Bool.not_eq_false', List.all_map, List.all_eq_true] at h2
          obtain ⟨i, rfl⟩ := isNum_int (h2 a ha)
          obtain ⟨j, rfl⟩ := isNum_int (h2 b (List.mem_of_mem_drop hb))
          refine gc_tup rfl (gcs_cons (gc_name (by decide) trivial (gcs_cons (gc_name (by decide) trivial (gcs_nil ?_)))))
          walk_at "go"
          exact rfl
        · walk_at "go"
          rw [fall_map]
          refine cas_all (.inl rfl) ?_
          refine rt_bool ?_
          simp only [isLights]
          rw [Bool.not_eq_false', List.all_map] at h2
          rw [show ds.all isNum = true from h2, Bool.true_and, List.all_map]
          rfl
  | _ =>
    walk_at "go"
    exact rfl
abbrev CWord (Pg : Program) (w : World) (K : PySem.W.Frag) (mg : Str → Option Value) (base : Heap) := Fn Pg w K mg base "is_word" 1 ["thing"] (Pm1 K Fine fun d => .bool (isWord d))
abbrev CTup (Pg : Program) (w : World) (K : PySem.W.Frag) (mg : Str → Option Value) (base : Heap) := Fn Pg w K mg base "is_tuple_of" 1 ["thing", "many"] (Pm2 K (fun _ e => ∃ m, e = .int m) fun d e => .bool (lenIs d e))
abbrev CLights (Pg : Program) (w : World) (K : PySem.W.Frag) (mg : Str → Option Value) (base : Heap) := Fn Pg w K mg base "is_lights" 2 ["thing"] (Pm1 K Fine fun d => .bool (isLights d))
abbrev CAgreed (Pg : Program) (w : World) (K : PySem.W.Frag) (mg : Str → Option Value) (base : Heap) := Fn Pg w K mg base "is_agreed" 3 ["thing", "agreed"] (Pm2 K (fun d e => Fine d ∧ (e = .none ∨ ∃ m, e = .int m)) fun d e => .bool (isAgreed d e))
end
end K19

namespace K19
open PySem L2 RZ DL
/-! the walk by data -/
local macro_rules | `(tactic| walk_at "dl") => `(tactic| first
  | with_reducible first
    | refine sx_seq ?_ | refine sx_if ?_ | refine sx_next ?_
    | refine et_not ?_ | refine et_B ?_ | refine et_test ?_ | refine et_and ?_ | refine et_or ?_ | refine et_yes ?_
    | refine ev_and ?_ | refine ev_or ?_ | refine ev_not ?_ | refine ev_if ?_ | refine ev_chain ?_
    | refine ev_int ?_ | refine ev_bl ?_ | refine ev_str ?_ | refine ev_non ?_ | refine ev_c ?_
    | refine ev_op ?_ | refine ev_un ?_ | refine ev_cb ?_ | refine ev_fn1 ?_ | refine ev_fn2 ?_ | refine ev_sl ?_ | refine eo_none ?_ | refine eo_some ?_ | refine ev_tup ?_
    | refine ea_cons ?_ | refine ea_nil ?_
    | refine ops_ge ?_ | refine ops_le ?_ | refine ops_gt ?_ | refine ops_lt ?_ | refine ops_leS ?_ | refine ops_ltS ?_ | refine ops_add_int ?_ | refine ops_sub ?_ | refine ops_isN ?_ | refine ops_isNot ?_ | refine ops_eq_int ?_ | refine ops_eqS ?_ | refine ops_neS ?_
    | refine cas_len_tup ?_ | refine cas_isi_int ?_ | refine cas_isi_bool ?_ | refine cas_isi_str ?_ | refine cas_isi_tup ?_ | refine cas_isi_lst ?_
    | refine iteT ?_ | refine iteF ?_ | refine and_nols ?_
  | ((with_reducible refine ev_varx ?_); refine ⟨_, rfl, ?_⟩)
  | ((with_reducible refine ops_ix_tupx ?_); first | refine ⟨_, rfl, ?_⟩ | refine ⟨_, atI_nat (j := 0) rfl, ?_⟩ | refine ⟨_, atI_nat (j := 1) rfl, ?_⟩ | refine ⟨_, atI_nat (j := 2) rfl, ?_⟩ | refine ⟨_, atI_nat (j := 3) rfl, ?_⟩ | refine ⟨_, atI_nat (j := 4) rfl, ?_⟩ | refine ⟨_, atI_nat (j := 5) rfl, ?_⟩ | refine ⟨_, atI_nat (j := 6) rfl, ?_⟩)
  | ((with_reducible refine sz_and ?_ ?_); exact rfl)
  | ((with_reducible refine ev_ownx ?_); refine ⟨_, rfl, ?_⟩)
  | ((with_reducible refine ev_refx ?_); refine ⟨_, rfl, ?_⟩)
  | (with_reducible refine sxn_seq ?_) | (with_reducible refine uns_neg ?_) | (with_reducible refine ev_frz (evn_lst ?_)) | (with_reducible refine sls_tup ?_) | (refine ev_revT ?_)
  | ((refine sx_extx ?_); refine ⟨_, rfl, ?_⟩) | ((with_reducible refine ops_add_tup ?_ ?_); exact le_line rfl) | (with_reducible refine cas_listT ?_)
  | ((with_reducible refine ifT ?_ ?_); exact rfl) | ((with_reducible refine ifF ?_ ?_); exact rfl))
local macro_rules | `(tactic| walk_at "go") => `(tactic| repeat (first | walk_at "dl" | with_reducible refine ⟨_, rfl, ?_⟩ | with_reducible refine ⟨_, _, rfl, ?_⟩))
/-! ### stands, read -/
theorem askD_inj (a b : Str × Nat) (h : askD a = askD b) : a = b := by
  obtain ⟨a1, a2⟩ := a
  obtain ⟨b1, b2⟩ := b
  simp only [askD, num, PyData.tuple.injEq, List.cons.injEq, PyData.int.injEq, PyData.str.injEq, Int.ofNat_inj, and_true] at h
  obtain ⟨rfl, rfl⟩ := h
  rfl
theorem kD7_inj (a b : Kd) (h : kD a = kD b) : a = b := by
  obtain ⟨a1, a2, a3, a4, a5, a6⟩ := a
  obtain ⟨b1, b2, b3, b4, b5, b6⟩ := b
  simp only [kD, num, PyData.tuple.injEq, List.cons.injEq, PyData.int.injEq, PyData.str.injEq, Int.ofNat_inj, and_true] at h
  obtain ⟨rfl, h2, rfl, rfl, rfl, rfl⟩ := h
  obtain rfl := map_inj' askD_inj h2
  rfl
theorem wkD7_inj (a b : Wk) (h : wkD a = wkD b) : a = b := by
  obtain ⟨a1, a2, a3, a4, a5, a6, a7, a8, a9, a10, a11, a12, a13, a14, a15, a16⟩ := a
  obtain ⟨b1, b2, b3, b4, b5, b6, b7, b8, b9, b10, b11, b12, b13, b14, b15, b16⟩ := b
  simp only [wkD, num, PyData.tuple.injEq, List.cons.injEq, PyData.int.injEq, Int.ofNat_inj, and_true] at h
  obtain ⟨h1, ⟨h2, rfl, rfl⟩, ⟨rfl, rfl, rfl⟩, ⟨rfl, rfl, rfl, rfl⟩, ⟨rfl, rfl⟩, ⟨rfl, rfl⟩, rfl⟩ := h
  obtain rfl := map_inj' kD7_inj h1
  obtain rfl := map_inj' askD_inj h2
  rfl
def to8 (w : Wk) : Wk8 := ⟨w.ks.map fun k => ⟨k.nm, .tuple (k.as.map askD), num k.tk, k.be, num k.gi, num k.ba⟩, .tuple (w.c0.map askD), num w.c1, w.cb, num w.am, num w.ak, w.ab, w.us, w.sh, w.br, w.st, num w.fl, w.dr, num w.bl, w.re, w.ln⟩
theorem to8_D (w : Wk) : wkD8 (to8 w) = wkD w := by
  unfold wkD8 to8
  simp only [List.map_map]
  rfl
theorem to8_nm (w : Wk) : (to8 w).ks.map Kd8.nm = w.names := by
  unfold to8
  rw [List.map_map]
  rfl
theorem to8_ok {w : Wk} (o : okW w) : okW8 (to8 w) := by
  refine ⟨by unfold to8; rw [List.length_map]; exact o.k1, by unfold to8; rw [List.length_map]; exact o.k3, fun k m => ?_, o.cb1, o.cb, o.ab1, o.ab, o.us, o.sh, o.br, o.st, o.dr1, o.dr, o.re, o.ln⟩
  obtain ⟨k', mk, rfl⟩ := List.mem_map.mp m
  have := o.ks k' mk
  exact ⟨this.nm, this.be1, this.be⟩
def toN : D → Nat
  | .int i => i.toNat
  | _ => 0
def itemsOf : D → List D
  | .tuple ds => ds
  | _ => []
def natsOfD (d : D) : List Nat := (itemsOf d).map toN
def mkOf : D → Mk
  | .tuple [.tuple [_, .str x], n] => ⟨x, none, toN n⟩
  | .tuple [.tuple [_, .str x, l], n] => ⟨x, some (toN l), toN n⟩
  | _ => ⟨"", none, 0⟩
def stOf : D → St
  | .tuple [u, l, s, m, p, r] => ⟨natsOfD u, (itemsOf l).map natsOfD, toN s, (itemsOf m).map mkOf, toN p, toN r⟩
  | _ => ⟨[], [], 0, [], 0, 0⟩
theorem nats_row (l : List Nat) : natsOfD (rowD l) = l := by
  show (l.map num).map toN = l
  rw [List.map_map]
  exact (List.map_congr_left fun n _ => (show toN (num n) = n from Int.toNat_natCast n)).trans (List.map_id l)
theorem mk_of (m : Mk) : mkOf (mkD m) = m := by
  obtain ⟨n, l, k⟩ := m
  cases l with
  | none => show (⟨n, none, toN (num k)⟩ : Mk) = _; rw [show toN (num k) = k from Int.toNat_natCast k]
  | some l => show (⟨n, some (toN (num l)), toN (num k)⟩ : Mk) = _; rw [show toN (num k) = k from Int.toNat_natCast k, show toN (num l) = l from Int.toNat_natCast l]
theorem map_back {α : Type} {f : α → D} {g : D → α} (h : ∀ a, g (f a) = a) (xs : List α) : (xs.map f).map g = xs := by
  rw [List.map_map]
  exact (List.map_congr_left fun a _ => h a).trans (List.map_id xs)
theorem st_of (s : St) : stOf (stD s) = s := by
  obtain ⟨u, l, st, m, p, r⟩ := s
  show (⟨natsOfD (rowD u), (l.map rowD).map natsOfD, toN (num st), (m.map mkD).map mkOf, toN (num p), toN (num r)⟩ : St) = _
  rw [nats_row, map_back nats_row, map_back mk_of, show toN (num st) = st from Int.toNat_natCast st, show toN (num p) = p from Int.toNat_natCast p, show toN (num r) = r from Int.toNat_natCast r]
def isMade : D → Bool
  | .tuple [a, b] => isS "tool" a && isWord b
  | .tuple [a, b, c] => isS "leaf" a && isWord b && isNum c
  | _ => false
def isMaking : D → Bool
  | .tuple [a, b] => isMade a && isNum b
  | _ => false
def areLights : D → Bool
  | .tuple ds => ds.all areNums
  | _ => false
def areMakings : D → Bool
  | .tuple ds => ds.all isMaking
  | _ => false
def isStand : D → Bool
  | .tuple [u, l, s, m, p, r] => areNums u && areNums (.tuple [s, p, r]) && areLights l && areMakings m
  | _ => false
theorem all_ex {α : Type} {f : α → D} {q : α → Prop} : ∀ {ds : List D}, (∀ d ∈ ds, ∃ a, d = f a ∧ q a) → ∃ as : List α, ds = as.map f ∧ ∀ a ∈ as, q a
  | [], _ => ⟨[], rfl, fun a m => nomatch m⟩
  | d :: ds, h => by
    obtain ⟨a, rfl, qa⟩ := h d List.mem_cons_self
    obtain ⟨as, rfl, qs⟩ := all_ex (ds := ds) fun e m => h e (List.mem_cons_of_mem _ m)
    refine ⟨a :: as, rfl, fun b m => ?_⟩
    rcases List.mem_cons.mp m with rfl | m
    · exact qa
    · exact qs b m
theorem num_of {d : D} (h : isNum d = true) : ∃ n : Nat, d = num n := by
  cases d with
  | int i => exact ⟨i.toNat, by have : 0 ≤ i := of_decide_eq_true h; show PyData.int i = PyData.int i.toNat; rw [Int.toNat_of_nonneg this]⟩
  | _ => cases h
theorem nums_row {d : D} (h : areNums d = true) : ∃ ns : List Nat, d = rowD ns := by
  cases d with
  | tuple ds =>
    obtain ⟨as, rfl, _⟩ := all_ex (f := num) (q := fun _ => True) (ds := ds) fun e m => by
      obtain ⟨n, rfl⟩ := num_of (List.all_eq_true.mp h e m)
      exact ⟨n, rfl, trivial⟩
    exact ⟨as, rfl⟩
  | _ => cases h
theorem isS_eq {x : Str} {d : D} (h : isS x d = true) : d = .str x := by
  cases d with
  | str y => rw [show y = x from of_decide_eq_true h]
  | _ => cases h
theorem word_eq {d : D} (h : isWord d = true) : ∃ x, d = .str x := by
  cases d with
  | str y => exact ⟨y, rfl⟩
  | _ => cases h
theorem making_mk {d : D} (h : isMaking d = true) : ∃ m : Mk, d = mkD m ∧ isWord (.str m.nm) = true := by
  unfold isMaking at h
  split at h
  · rename_i a b
    simp only [Bool.and_eq_true] at h
    obtain ⟨ha, hb⟩ := h
    obtain ⟨k, rfl⟩ := num_of hb
    unfold isMade at ha
    split at ha
    · simp only [Bool.and_eq_true] at ha
      obtain rfl := isS_eq ha.1
      obtain ⟨x, rfl⟩ := word_eq ha.2
      exact ⟨⟨x, none, k⟩, rfl, ha.2⟩
    · simp only [Bool.and_eq_true] at ha
      obtain rfl := isS_eq ha.1.1
      obtain ⟨x, rfl⟩ := word_eq ha.1.2
      obtain ⟨l, rfl⟩ := num_of ha.2
      exact ⟨⟨x, some l, k⟩, rfl, ha.1.2⟩
    · cases ha
  · cases h
theorem stand_st {d : D} (h : isStand d = true) : ∃ s : St, d = stD s ∧ ∀ m ∈ s.ms, isWord (.str m.nm) = true := by
  unfold isStand at h
  split at h
  · rename_i u l s m p r
    simp only [Bool.and_eq_true] at h
    obtain ⟨⟨⟨h1, h2⟩, h3⟩, h4⟩ := h
    obtain ⟨us, rfl⟩ := nums_row h1
    have h2' : (isNum s && (isNum p && (isNum r && true))) = true := h2
    simp only [Bool.and_eq_true] at h2'
    obtain ⟨st, rfl⟩ := num_of h2'.1
    obtain ⟨ph, rfl⟩ := num_of h2'.2.1
    obtain ⟨rs, rfl⟩ := num_of h2'.2.2.1
    cases l with
    | tuple ls =>
      cases m with
      | tuple ms =>
        obtain ⟨ls', rfl, _⟩ := all_ex (f := rowD) (q := fun _ => True) (ds := ls) fun e m => by
          obtain ⟨n, rfl⟩ := nums_row (List.all_eq_true.mp h3 e m)
          exact ⟨n, rfl, trivial⟩
        obtain ⟨ms', rfl, hw⟩ := all_ex (f := mkD) (q := fun m => isWord (.str m.nm) = true) (ds := ms) fun e m => making_mk (List.all_eq_true.mp h4 e m)
        exact ⟨⟨us, ls', st, ms', ph, rs⟩, rfl, hw⟩
      | _ => cases h4
    | _ => cases h3
  · cases h
/-! ### what is wrong with them -/
abbrev Ref := Option (Str × Int)
def fst (n : Nat) (p : Nat → Bool) : Option Nat := (List.range n).find? p
theorem fst_some {n k : Nat} {p : Nat → Bool} (h : k < n) (h1 : p k = true) (h2 : ∀ j < k, p j = false) : fst n p = some k :=
  List.find?_range_eq_some.mpr ⟨h1, List.mem_range.mpr h, fun j hj => by rw [h2 j hj]; rfl⟩
theorem fst_none {n : Nat} {p : Nat → Bool} (h : ∀ j < n, p j = false) : fst n p = none :=
  List.find?_range_eq_none.mpr fun j hj => by rw [h j hj]; rfl
theorem fst_lt {n k : Nat} {p : Nat → Bool} (h : fst n p = some k) : k < n := List.mem_range.mp (List.mem_of_find?_eq_some h)
def at_ (x : Str) (k : Nat) : Str × Int := (x, (k : Int))
abbrev gd (l : List Nat) (k : Nat) : Nat := l.getD k 0
def vUses (w : Wk) (us : List Nat) : Ref := if us.length = w.ks.length then (fst us.length fun k => decide (w.us < gd us k)).map (at_ "uses") else some ("uses", -1)
def fallN (l : List Nat) : Bool := (l.zip (l.drop 1)).all fun p => decide (p.2 ≤ p.1)
def leafBad (w : Wk) (l : List Nat) : Bool := decide (w.sh < l.length) || (!fallN l || l.any fun x => decide (w.br < x))
def vLeaves (w : Wk) (ls : List (List Nat)) : Ref := if ls.length = w.ks.length then (fst ls.length fun k => leafBad w (ls.getD k [])).map (at_ "leaves") else some ("leaves", -1)
def vStore (w : Wk) (n : Nat) : Ref := if w.st < n then some ("store", -1) else none
def beOf (w : Wk) (x : Str) : Nat := ((w.ks.find? fun k => decide (k.nm = x)).map Kd.be).getD 0
def beatsOf (w : Wk) (m : Mk) : Nat := match m.light with
  | none => beOf w m.nm
  | some l => if l = w.br then w.ab else w.cb
def tooBright (w : Wk) (m : Mk) : Bool := match m.light with
  | none => false
  | some l => decide (w.br < l)
def mkGood (w : Wk) (m : Mk) : Bool := decide (m.nm ∈ w.names) && (!tooBright w m && (decide (1 ≤ m.left) && decide (m.left ≤ beatsOf w m)))
def dfM : Mk := ⟨"", none, 0⟩
def mkDown (ms : List Mk) (j : Nat) : Bool := decide (0 < j) && PySem.W.dataLt (mkD (ms.getD j dfM)) (mkD (ms.getD (j - 1) dfM))
def vMakings (w : Wk) (ms : List Mk) : Ref := if w.ln < ms.length then some ("benches", -1) else (fst ms.length fun j => !mkGood w (ms.getD j dfM) || mkDown ms j).map (at_ "making")
def vPhase (w : Wk) (n : Nat) : Ref := if 1 ≤ n ∧ n ≤ w.dr then none else some ("phase", -1)
def vRest (w : Wk) (n : Nat) : Ref := if w.re < n then some ("rest", -1) else none
def orR : Ref → Ref → Ref
  | none, b => b
  | a, _ => a
def vPart (w : Wk) (s : St) : Ref := orR (vUses w s.us) (orR (vLeaves w s.ls) (vStore w s.st))
def vStand (w : Wk) (s : St) : Ref := orR (vUses w s.us) (orR (vLeaves w s.ls) (orR (vStore w s.st) (orR (vMakings w s.ms) (orR (vPhase w s.ph) (vRest w s.rs)))))
def judged (w : Wk) (d : D) : Ref := if isStand d = true then vStand w (stOf d) else some ("shape", -1)
theorem judged_st {w : Wk} {s : St} (h : isStand (stD s) = true) : judged w (stD s) = vStand w s := by
  unfold judged
  rw [if_pos h, st_of]
theorem part_of (w : Wk) (s : St) : vStand w s = orR (vPart w s) (orR (vMakings w s.ms) (orR (vPhase w s.ph) (vRest w s.rs))) := by
  unfold vStand vPart
  cases vUses w s.us <;> cases vLeaves w s.ls <;> cases vStore w s.st <;> rfl
end K19

namespace K19
open PySem L2 RZ DL
/-! the walk by data -/
local macro_rules | `(tactic| walk_at "dl") => `(tactic| first
  | with_reducible first
    | refine sx_seq ?_ | refine sx_if ?_ | refine sx_ret ?_ | refine sx_next ?_ | refine sx_asg ?_
    | refine et_not ?_ | refine et_B ?_ | refine et_test ?_ | refine et_and ?_ | refine et_or ?_ | refine et_yes ?_
    | refine ev_and ?_ | refine ev_or ?_ | refine ev_not ?_ | refine ev_if ?_ | refine ev_chain ?_
    | refine ev_int ?_ | refine ev_bl ?_ | refine ev_str ?_ | refine ev_non ?_ | refine ev_c ?_
    | refine ev_op ?_ | refine ev_un ?_ | refine ev_cb ?_ | refine ev_fn1 ?_ | refine ev_fn2 ?_ | refine ev_sl ?_ | refine eo_none ?_ | refine eo_some ?_ | refine ev_tup ?_
    | refine ea_cons ?_ | refine ea_nil ?_
    | refine ops_ge ?_ | refine ops_le ?_ | refine ops_gt ?_ | refine ops_lt ?_ | refine ops_leS ?_ | refine ops_ltS ?_ | refine ops_add_int ?_ | refine ops_sub ?_ | refine ops_isN ?_ | refine ops_isNot ?_ | refine ops_eq_int ?_ | refine ops_eqS ?_ | refine ops_neS ?_
    | refine cas_len_tup ?_ | refine cas_isi_int ?_ | refine cas_isi_bool ?_ | refine cas_isi_str ?_ | refine cas_isi_tup ?_ | refine cas_isi_lst ?_
    | refine iteT ?_ | refine iteF ?_ | refine and_nols ?_
  | ((with_reducible refine ev_varx ?_); refine ⟨_, rfl, ?_⟩)
  | ((with_reducible refine ops_ix_tupx ?_); first | refine ⟨_, rfl, ?_⟩ | refine ⟨_, atI_nat (j := 0) rfl, ?_⟩ | refine ⟨_, atI_nat (j := 1) rfl, ?_⟩ | refine ⟨_, atI_nat (j := 2) rfl, ?_⟩ | refine ⟨_, atI_nat (j := 3) rfl, ?_⟩ | refine ⟨_, atI_nat (j := 4) rfl, ?_⟩ | refine ⟨_, atI_nat (j := 5) rfl, ?_⟩ | refine ⟨_, atI_nat (j := 6) rfl, ?_⟩)
  | ((with_reducible refine sz_and ?_ ?_); exact rfl)
  | ((with_reducible refine ev_ownx ?_); refine ⟨_, rfl, ?_⟩)
  | ((with_reducible refine ev_refx ?_); refine ⟨_, rfl, ?_⟩)
  | (with_reducible refine sxn_seq ?_) | (with_reducible refine uns_neg ?_) | (with_reducible refine ev_frz (evn_lst ?_)) | (with_reducible refine sls_tup ?_) | (refine ev_revT ?_)
  | ((refine sx_extx ?_); refine ⟨_, rfl, ?_⟩) | ((with_reducible refine ops_add_tup ?_ ?_); exact le_line rfl) | (with_reducible refine cas_listT ?_)
  | ((with_reducible refine ifT ?_ ?_); exact rfl) | ((with_reducible refine ifF ?_ ?_); exact rfl))
local macro_rules | `(tactic| walk_at "go") => `(tactic| repeat (first | walk_at "dl" | with_reducible refine ⟨_, rfl, ?_⟩ | with_reducible refine ⟨_, _, rfl, ?_⟩))
theorem shaped_str2 (x : Str) (h : PyData.strOk x = true := by decide +kernel) : SeqAt.shaped (.str x) = true := by simp [SeqAt.shaped, PyData.canLay0, PyData.depth, h]
theorem len2 {d : D} (h : lenIs d (.int 2) = true) : ∃ a b, d = .tuple [a, b] := by
  cases d with
  | tuple ds =>
    have h : ((ds.length : Nat) : Int) = 2 := of_decide_eq_true h
    match ds, h with
    | [a, b], _ => exact ⟨a, b, rfl⟩
  | _ => cases h
theorem len3 {d : D} (h : lenIs d (.int 3) = true) : ∃ a b c, d = .tuple [a, b, c] := by
  cases d with
  | tuple ds =>
    have h : ((ds.length : Nat) : Int) = 3 := of_decide_eq_true h
    match ds, h with
    | [a, b, c], _ => exact ⟨a, b, c, rfl⟩
  | _ => cases h
theorem fine3 {u l s m p r : D} (h : Fine (.tuple [u, l, s, m, p, r])) : Fine (.tuple [s, p, r]) := by
  obtain ⟨h1, h2, h3⟩ := h
  refine ⟨?_, ?_, ?_⟩
  · simp only [DL.okD] at h1 ⊢
    rw [okDs_iff] at h1 ⊢
    intro x q
    refine h1 x ?_
    simp only [List.mem_cons, List.not_mem_nil, or_false] at q ⊢
    rcases q with rfl | rfl | rfl <;> simp
  · simp only [PyData.weight, PyData.weightAll] at h2 ⊢
    omega
  · simp only [PyData.depth, PyData.depthAll] at h3 ⊢
    omega
theorem made_no {d : D} (h2 : lenIs d (.int 2) = false) (h3 : lenIs d (.int 3) = false) : isMade d = false := by
  unfold isMade
  split
  · cases h2
  · cases h3
  · rfl
abbrev CTup7 (Pg : Program) (w : World) (K : PySem.W.Frag) (mg : Str → Option Value) (base : Heap) := Fn Pg w K mg base "is_tuple_of" 1 ["thing", "many"] (Pm2 K (fun _ e => ∃ m, e = .int m) fun d e => .bool (lenIs d e))
abbrev CWord7 (Pg : Program) (w : World) (K : PySem.W.Frag) (mg : Str → Option Value) (base : Heap) := Fn Pg w K mg base "is_word" 1 ["thing"] (Pm1 K Fine fun d => .bool (isWord d))
abbrev CMade (Pg : Program) (w : World) (K : PySem.W.Frag) (mg : Str → Option Value) (base : Heap) := Fn Pg w K mg base "is_made_thing" 2 ["thing"] (Pm1 K Fine fun d => .bool (isMade d))
abbrev CMaking7 (Pg : Program) (w : World) (K : PySem.W.Frag) (mg : Str → Option Value) (base : Heap) := Fn Pg w K mg base "is_making" 3 ["thing"] (Pm1 K Fine fun d => .bool (isMaking d))
section
variable {Pg : Program} {w : World} {K : PySem.W.Frag} {mg : Str → Option Value} {base : Heap} {f : Addr} {fd : FuncData}
theorem ok_made (F : Fun K "is_made_thing" "is_made_thing" s_is_made_thing f fd) (T : Txt mg) (C_is_tuple_of : CTup7 Pg w K mg base) (C_is_word : CWord7 Pg w K mg base) (C_is_number : CNum Pg w K mg base) : FnG Pg w K mg base 2 f fd ["thing"] (Pm1 K Fine fun d => .bool (isMade d)) := by
  have nd := sc_is_made_thing.nd
  refine fnG_of F sc_is_made_thing pm_len (fun cdv A ou s H vs Q hgd hr h => ?_)
  have hu : (A.deeper (PyProof.Rows.envOfC "is_made_thing" (defScope s_is_made_thing) s.heap.objs.size f cdv)).units + 64 < cLine := by have := hr.un; omega
  refine ⟨_, (pss_cons (ps_if (pt_val (pe_fn C_is_tuple_of hgd (hr.mono (by first | decide | omega)) rfl (pa_cons (pv 0) (pa_cons pe_int pa_nil)))) (pss_one (ps_ret (pe_and (pe_cmpR (r := rEq2 K) (opEq hu) (pe_ix (r := rIx K) ix_seq (pv 0) pe_int (fun _ _ => rfl)) pe_str (nomark _)) (pe_one (pe_fn C_is_word hgd (hr.mono (by first | decide | omega)) rfl (pa_cons (pe_ix (r := rIx K) ix_seq (pv 0) pe_int (fun _ _ => rfl)) pa_nil)))))) pss_nil) (pss_one (ps_ret (pe_and (pe_fn C_is_tuple_of hgd (hr.mono (by first | decide | omega)) rfl (pa_cons (pv 0) (pa_cons pe_int pa_nil))) (pe_and (pe_cmpR (r := rEq2 K) (opEq hu) (pe_ix (r := rIx K) ix_seq (pv 0) pe_int (fun _ _ => rfl)) pe_str (nomark _)) (pe_and (pe_fn C_is_word hgd (hr.mono (by first | decide | omega)) rfl (pa_cons (pe_ix (r := rIx K) ix_seq (pv 0) pe_int (fun _ _ => rfl)) pa_nil)) (pe_one (pe_fn C_is_number hgd (hr.mono (by first | decide | omega)) rfl (pa_cons (pe_ix (r := rIx K) ix_seq (pv 0) pe_int (fun _ _ => rfl)) pa_nil))))))))), body1 (by decide) h fun W F0 d fine => ?_⟩
  change Sx K W H F0 _ [.dat d] _
  refine sx_seq (sx_if (et_B (ev_fn2 ?_)))
  walk_at "go"
  refine ⟨⟨2, rfl⟩, _, rfl, if2 (fun h2 => ?_) (fun h2 => sx_next ?_)⟩
  · obtain ⟨a, b, rfl⟩ := len2 h2
    have fa : Fine a := fine.tup List.mem_cons_self
    have fb : Fine b := fine.tup (List.mem_cons_of_mem _ List.mem_cons_self)
    refine sx_ret ?_
    walk_at "go"
    refine ops_eq fa.shaped (shaped_str2 "tool") ⟨_, rfl, ?_⟩
    rw [eqv_S]
    refine if2 (fun h1 => ?_) (fun h1 => ?_)
    · walk_at "go"
      refine ⟨fb, ?_⟩
      exact rt_bool (by show _ = (isS "tool" a && isWord b); rw [h1, Bool.true_and])
    · exact rt_bool (by show _ = (isS "tool" a && isWord b); rw [h1, Bool.false_and])
  · refine sx_ret ?_
    refine ev_and (ev_fn2 ?_)
    walk_at "go"
    refine ⟨⟨3, rfl⟩, _, rfl, if2 (fun h3 => ?_) (fun h3 => ?_)⟩
    · obtain ⟨a, b, c, rfl⟩ := len3 h3
      have fa : Fine a := fine.tup List.mem_cons_self
      have fb : Fine b := fine.tup (List.mem_cons_of_mem _ List.mem_cons_self)
      walk_at "go"
      refine ops_eq fa.shaped (shaped_str2 "leaf") ⟨_, rfl, ?_⟩
      rw [eqv_S]
      refine if2 (fun h1 => ?_) (fun h1 => ?_)
      · walk_at "go"
        refine ⟨fb, _, rfl, if2 (fun h4 => ?_) (fun h4 => ?_)⟩
        · walk_at "go"
          refine ⟨trivial, ?_⟩
          exact rt_bool (by show _ = (isS "leaf" a && isWord b && isNum c); rw [h1, h4, Bool.true_and, Bool.true_and])
        · exact rt_bool (by show _ = (isS "leaf" a && isWord b && isNum c); rw [h1, h4, Bool.true_and, Bool.false_and])
      · exact rt_bool (by show _ = (isS "leaf" a && isWord b && isNum c); rw [h1, Bool.false_and, Bool.false_and])
    · exact rt_bool (made_no h2 h3).symm
theorem ok_making (F : Fun K "is_making" "is_making" s_is_making f fd) (T : Txt mg) (C_is_tuple_of : CTup7 Pg w K mg base) (C_is_made_thing : CMade Pg w K mg base) (C_is_number : CNum Pg w K mg base) : FnG Pg w K mg base 3 f fd ["thing"] (Pm1 K Fine fun d => .bool (isMaking d)) := by
  have nd := sc_is_making.nd
  refine fnG_of F sc_is_making pm_len (fun cdv A ou s H vs Q hgd hr h => ?_)
  refine ⟨_, (pss_one (ps_ret (pe_and (pe_fn C_is_tuple_of hgd (hr.mono (by first | decide | omega)) rfl (pa_cons (pv 0) (pa_cons pe_int pa_nil))) (pe_and (pe_fn C_is_made_thing hgd (hr.mono (by first | decide | omega)) rfl (pa_cons (pe_ix (r := rIx K) ix_seq (pv 0) pe_int (fun _ _ => rfl)) pa_nil)) (pe_one (pe_fn C_is_number hgd (hr.mono (by first | decide | omega)) rfl (pa_cons (pe_ix (r := rIx K) ix_seq (pv 0) pe_int (fun _ _ => rfl)) pa_nil))))))), body1 (by decide) h fun W F0 d fine => ?_⟩
  change Sx K W H F0 _ [.dat d] _
  refine sx_ret ?_
  refine ev_and (ev_fn2 ?_)
  walk_at "go"
  refine ⟨⟨2, rfl⟩, _, rfl, if2 (fun h2 => ?_) (fun h2 => ?_)⟩
  · obtain ⟨a, b, rfl⟩ := len2 h2
    have fa : Fine a := fine.tup List.mem_cons_self
    walk_at "go"
    refine ⟨fa, _, rfl, if2 (fun h4 => ?_) (fun h4 => ?_)⟩
    · walk_at "go"
      refine ⟨trivial, ?_⟩
      exact rt_bool (by show _ = (isMade a && isNum b); rw [h4, Bool.true_and])
    · exact rt_bool (by show _ = (isMade a && isNum b); rw [h4, Bool.false_and])
  · refine rt_bool ?_
    unfold isMaking
    split
    · cases h2
    · rfl
theorem len6 {d : D} (h : lenIs d (.int 6) = true) : ∃ a b c x y z, d = .tuple [a, b, c, x, y, z] := by
  cases d with
  | tuple ds =>
    have h : ((ds.length : Nat) : Int) = 6 := of_decide_eq_true h
    match ds, h with
    | [a, b, c, x, y, z], _ => exact ⟨a, b, c, x, y, z, rfl⟩
  | _ => cases h
abbrev CStand (Pg : Program) (w : World) (K : PySem.W.Frag) (mg : Str → Option Value) (base : Heap) := Fn Pg w K mg base "is_stand" 4 ["thing"] (Pm1 K Fine fun d => .bool (isStand d))
theorem ok_is_stand (F : Fun K "is_stand" "is_stand" s_is_stand f fd) (T : Txt mg) (C_is_tuple_of : CTup7 Pg w K mg base) (C_are_numbers : CNums Pg w K mg base) (C_is_making : CMaking7 Pg w K mg base) : FnG Pg w K mg base 4 f fd ["thing"] (Pm1 K Fine fun d => .bool (isStand d)) := by
  have nd := sc_is_stand.nd
  refine fnG_of F sc_is_stand pm_len (fun cdv A ou s H vs Q hgd hr h => ?_)
  refine ⟨_, (pss_cons (ps_if (pt_not (pt_val (pe_fn C_is_tuple_of hgd (hr.mono (by first | decide | omega)) rfl (pa_cons (pv 0) (pa_cons pe_int pa_nil))))) (pss_one (ps_ret pe_bl)) pss_nil) (pss_cons (ps_asg (pv 0) (pg_tup (n := 6) rfl (pgs_cons (pg_name (i := 1) nd rfl (Or.inl rfl) (Or.inl rfl)) (pgs_cons (pg_name (i := 2) nd rfl (Or.inl rfl) (Or.inl rfl)) (pgs_cons (pg_name (i := 3) nd rfl (Or.inl rfl) (Or.inl rfl)) (pgs_cons (pg_name (i := 4) nd rfl (Or.inl rfl) (Or.inl rfl)) (pgs_cons (pg_name (i := 5) nd rfl (Or.inl rfl) (Or.inl rfl)) (pgs_cons (pg_name (i := 6) nd rfl (Or.inl rfl) (Or.inl rfl)) pgs_nil)))))))) (pss_cons (ps_if (PW.pt (pw_or (pt_not (pt_val (pe_fn C_are_numbers hgd (hr.mono (by first | decide | omega)) rfl (pa_cons (pv 1) pa_nil)))) (pw_or1 (pt_not (pt_val (pe_fn C_are_numbers hgd (hr.mono (by first | decide | omega)) rfl (pa_cons (pe_tup (pa_cons (pv 3) (pa_cons (pv 5) (pa_cons (pv 6) pa_nil)))) pa_nil))))))) (pss_one (ps_ret pe_bl)) pss_nil) (pss_cons (ps_if (PW.pt (pw_or (pt_not (pt_val (pe_callB (r := rIsi K) call_isi (by rfl) T.b_isinstance (by decide +kernel) (pa_cons (pv 2) (pa_cons (pe_bltn (v := .ty "tuple") rfl T.b_tuple (by decide +kernel) rfl) pa_nil))))) (pw_or1 (pt_not (pt_val (pe_callB (r := rAll K) (cr_all rfl) (by rfl) T.b_all (by decide +kernel) (pa_cons (pe_lc (own := [("lights", 7)]) (g := gName 7) rfl nd (pi_tup (pv 2)) (blkOk_by (N := ["thing", "uses", "leaves", "store", "makings", "phase", "rest", "lights", "making"]) (sc := (defScope s_is_stand)) (by decide +kernel)) (fun _ _ _ _ _ => (pg_name (i := 7) nd rfl (Or.inl rfl) (Or.inr rfl))) (fun _ _ _ _ _ => pts_nil) (fun _ _ _ _ _ => (pe_fn C_are_numbers hgd (hr.mono (by first | decide | omega)) rfl (pa_cons (pv 7) pa_nil)))) pa_nil))))))) (pss_one (ps_ret pe_bl)) pss_nil) (pss_one (ps_ret (pe_and (pe_callB (r := rIsi K) call_isi (by rfl) T.b_isinstance (by decide +kernel) (pa_cons (pv 4) (pa_cons (pe_bltn (v := .ty "tuple") rfl T.b_tuple (by decide +kernel) rfl) pa_nil))) (pe_one (pe_callB (r := rAll K) (cr_all rfl) (by rfl) T.b_all (by decide +kernel) (pa_cons (pe_lc (own := [("making", 8)]) (g := gName 8) rfl nd (pi_tup (pv 4)) (blkOk_by (N := ["thing", "uses", "leaves", "store", "makings", "phase", "rest", "lights", "making"]) (sc := (defScope s_is_stand)) (by decide +kernel)) (fun _ _ _ _ _ => (pg_name (i := 8) nd rfl (Or.inl rfl) (Or.inr rfl))) (fun _ _ _ _ _ => pts_nil) (fun _ _ _ _ _ => (pe_fn C_is_making hgd (hr.mono (by first | decide | omega)) rfl (pa_cons (pv 8) pa_nil)))) pa_nil)))))))))), body1 (by decide) h fun W F0 d fine => ?_⟩
  change Sx K W H F0 _ [.dat d, .un, .un, .un, .un, .un, .un, .un, .un] _
  refine sx_seq (sx_if (et_not (et_B (ev_fn2 ?_))))
  walk_at "go"
  refine ⟨⟨6, rfl⟩, _, rfl, if2 (fun h2 => ?_) (fun h2 => ?_)⟩
  · walk_at "go"
    refine rt_bool ?_
    rw [Bool.not_eq_true'] at h2
    unfold isStand
    split
    · cases h2
    · rfl
  rw [Bool.not_eq_false'] at h2
  obtain ⟨u, l, s, m, p, r, rfl⟩ := len6 h2
  have fm : ∀ {x : D}, x ∈ [u, l, s, m, p, r] → Fine x := fun h => fine.tup h
  have fu : Fine u := fm (by simp)
  have fl : Fine l := fm (by simp)
  have fs : Fine s := fm (by simp)
  have fk : Fine m := fm (by simp)
  have fp : Fine p := fm (by simp)
  have fr : Fine r := fm (by simp)
  have f3 : Fine (.tuple [s, p, r]) := fine3 fine
  refine sx_next ?_
  refine sx_seq (sx_asgG ?_)
  walk_at "go"
  refine gs_tup rfl (gss_cons (gs_name trivial (gss_cons (gs_name trivial (gss_cons (gs_name trivial (gss_cons (gs_name trivial (gss_cons (gs_name trivial (gss_cons (gs_name trivial (gss_nil ?_)))))))))))))
  change Sx K W H F0 _ [.dat (.tuple [u, l, s, m, p, r]), .dat u, .dat l, .dat s, .dat m, .dat p, .dat r, .un, .un] _
  have eS : isStand (.tuple [u, l, s, m, p, r]) = (areNums u && areNums (.tuple [s, p, r]) && areLights l && areMakings m) := rfl
  walk_at "go"
  refine ⟨fu, _, rfl, if2 (fun h3 => ?_) (fun h3 => ?_)⟩
  · refine ifT rfl ?_
    walk_at "go"
    refine rt_bool ?_
    rw [Bool.not_eq_true'] at h3
    rw [eS, h3]
    rfl
  rw [Bool.not_eq_false'] at h3
  walk_at "go"
  refine ⟨f3, _, rfl, if2 (fun h4 => ?_) (fun h4 => ?_)⟩
  · walk_at "go"
    refine rt_bool ?_
    rw [Bool.not_eq_true'] at h4
    rw [eS, h3, h4]
    rfl
  rw [Bool.not_eq_false'] at h4
  walk_at "go"
  cases l with
  | tuple ls =>
    refine ifN rfl ?_
    walk_at "go"
    refine ev_frz (evn_mapT (fun d => .bool (areNums d)) (evi_tup (ev_varx ⟨_, rfl, ls, rfl, ?_, fun d hd => ?_, ?_⟩)))
    · exact Nat.lt_of_le_of_lt fl.tlen (by rw [sizeLine_eq]; decide)
    · refine gc_name (by decide) trivial ?_
      walk_at "go"
      exact ⟨fl.tup hd, rfl⟩
    · walk_at "go"
      refine cas_all (bs := ls.map areNums) (.inl (by rw [all_looks])) ?_
      rw [all_id]
      refine ⟨_, rfl, ?_⟩
      refine if2 (fun h5 => ?_) (fun h5 => ?_)
      · walk_at "go"
        refine rt_bool ?_
        rw [Bool.not_eq_true'] at h5
        rw [eS, h3, h4, show areLights (.tuple ls) = ls.all areNums from rfl, h5]
        rfl
      rw [Bool.not_eq_false'] at h5
      have eS2 : isStand (.tuple [u, .tuple ls, s, m, p, r]) = areMakings m := by
        rw [eS, h3, h4, show areLights (.tuple ls) = ls.all areNums from rfl, h5]
        rfl
      walk_at "go"
      cases m with
      | tuple ms =>
        walk_at "go"
        refine ev_frz (evn_mapT (fun d => .bool (isMaking d)) (evi_tup (ev_varx ⟨_, rfl, ms, rfl, ?_, fun d hd => ?_, ?_⟩)))
        · exact Nat.lt_of_le_of_lt fk.tlen (by rw [sizeLine_eq]; decide)
        · refine gc_name (by decide) trivial ?_
          walk_at "go"
          exact ⟨fk.tup hd, rfl⟩
        · walk_at "go"
          refine cas_all (bs := ms.map isMaking) (.inl (by rw [all_looks])) ?_
          rw [all_id]
          exact rt_bool eS2.symm
      | _ =>
        walk_at "go"
        exact rt_bool eS2.symm
  | _ =>
    refine ifY rfl ?_
    walk_at "go"
    refine rt_bool ?_
    rw [eS, h3, h4]
    rfl
end
end K19

namespace K19
open PySem L2 RZ DL
/-! the walk by data -/
local macro_rules | `(tactic| walk_at "dl") => `(tactic| first
  | with_reducible first
    | refine sx_seq ?_ | refine sx_if ?_ | refine sx_ret ?_ | refine sx_next ?_ | refine sx_asg ?_
    | refine et_not ?_ | refine et_B ?_ | refine et_test ?_ | refine et_and ?_ | refine et_or ?_ | refine et_yes ?_
    | refine ev_and ?_ | refine ev_or ?_ | refine ev_not ?_ | refine ev_if ?_ | refine ev_chain ?_
    | refine ev_int ?_ | refine ev_bl ?_ | refine ev_str ?_ | refine ev_non ?_ | refine ev_c ?_
    | refine ev_op ?_ | refine ev_un ?_ | refine ev_cb ?_ | refine ev_fn1 ?_ | refine ev_fn2 ?_ | refine ev_sl ?_ | refine eo_none ?_ | refine eo_some ?_ | refine ev_tup ?_
    | refine ea_cons ?_ | refine ea_nil ?_
    | refine ops_ge ?_ | refine ops_le ?_ | refine ops_gt ?_ | refine ops_lt ?_ | refine ops_leS ?_ | refine ops_ltS ?_ | refine ops_add_int ?_ | refine ops_sub ?_ | refine ops_isN ?_ | refine ops_isNot ?_ | refine ops_eq_int ?_ | refine ops_eqS ?_ | refine ops_neS ?_
    | refine cas_len_tup ?_ | refine cas_isi_int ?_ | refine cas_isi_bool ?_ | refine cas_isi_str ?_ | refine cas_isi_tup ?_ | refine cas_isi_lst ?_
    | refine iteT ?_ | refine iteF ?_ | refine and_nols ?_
  | ((with_reducible refine ev_varx ?_); refine ⟨_, rfl, ?_⟩)
  | ((with_reducible refine ops_ix_tupx ?_); first | refine ⟨_, rfl, ?_⟩ | refine ⟨_, atI_nat (j := 0) rfl, ?_⟩ | refine ⟨_, atI_nat (j := 1) rfl, ?_⟩ | refine ⟨_, atI_nat (j := 2) rfl, ?_⟩ | refine ⟨_, atI_nat (j := 3) rfl, ?_⟩ | refine ⟨_, atI_nat (j := 4) rfl, ?_⟩ | refine ⟨_, atI_nat (j := 5) rfl, ?_⟩ | refine ⟨_, atI_nat (j := 6) rfl, ?_⟩)
  | ((with_reducible refine sz_and ?_ ?_); exact rfl)
  | ((with_reducible refine ev_ownx ?_); refine ⟨_, rfl, ?_⟩)
  | ((with_reducible refine ev_refx ?_); refine ⟨_, rfl, ?_⟩)
  | (with_reducible refine sxn_seq ?_) | (with_reducible refine uns_neg ?_) | (with_reducible refine ev_frz (evn_lst ?_)) | (with_reducible refine sls_tup ?_) | (refine ev_revT ?_)
  | ((refine sx_extx ?_); refine ⟨_, rfl, ?_⟩) | ((with_reducible refine ops_add_tup ?_ ?_); exact le_line rfl) | (with_reducible refine cas_listT ?_)
  | ((with_reducible refine ifT ?_ ?_); exact rfl) | ((with_reducible refine ifF ?_ ?_); exact rfl))
local macro_rules | `(tactic| walk_at "go") => `(tactic| repeat (first | walk_at "dl" | with_reducible refine ⟨_, rfl, ?_⟩ | with_reducible refine ⟨_, _, rfl, ?_⟩))
/-! ### kinds, places, terms, right makings -/
def kk (w : Wk) (k : Nat) : Kd := w.ks.getD k ⟨"", [], 0, 0, 0, 0⟩
theorem kk_at {w : Wk} {k : Nat} (h : k < w.ks.length) : kk w k = w.ks[k] := by simp [kk, h]
theorem kk_get {w : Wk} {k : Nat} (h : k < w.ks.length) : (w.ks.map kD)[k]? = some (kD (kk w k)) := by
  rw [kk_at h]
  exact map_get h
def kOf (w : Wk) (x : Str) : Kd := (w.ks.find? fun k => decide (k.nm = x)).getD ⟨"", [], 0, 0, 0, 0⟩
theorem kOf_be (w : Wk) (x : Str) : (kOf w x).be = beOf w x := by
  unfold kOf beOf
  cases w.ks.find? fun k => decide (k.nm = x) <;> rfl
theorem kOf_at {w : Wk} {x : Str} {i : Nat} (h : i < w.ks.length) (h1 : (kk w i).nm = x) (h0 : ∀ j < i, (kk w j).nm ≠ x) : kOf w x = kk w i := by
  have e : w.ks.find? (fun k => decide (k.nm = x)) = some w.ks[i] := by
    refine List.find?_eq_some_iff_getElem.mpr ⟨?_, i, h, rfl, fun j hj => ?_⟩
    · rw [kk_at h] at h1
      exact decide_eq_true h1
    · have := h0 j hj
      rw [kk_at (Nat.lt_trans hj h)] at this
      rw [decide_eq_false this]
      rfl
  rw [kOf, e, kk_at h]
  rfl
def plD (w : Wk) (x : Str) : D := match fst w.ks.length (fun k => decide ((kk w k).nm = x)) with
  | some k => num k
  | none => .none
theorem mem_names {w : Wk} {x : Str} : x ∈ w.names ↔ ∃ k < w.ks.length, (kk w k).nm = x := by
  constructor
  · intro m
    obtain ⟨k, hk, rfl⟩ := List.mem_map.mp m
    obtain ⟨i, hi, rfl⟩ := List.getElem_of_mem hk
    exact ⟨i, hi, by rw [kk_at hi]⟩
  · rintro ⟨k, hk, rfl⟩
    rw [kk_at hk]
    exact List.mem_map.mpr ⟨_, List.getElem_mem hk, rfl⟩
theorem plD_none (w : Wk) (x : Str) : isNone (plD w x) = !decide (x ∈ w.names) := by
  unfold plD
  split
  · rename_i k e
    have h1 := List.find?_some e
    rw [decide_eq_true (mem_names.mpr ⟨k, fst_lt e, of_decide_eq_true h1⟩)]
    rfl
  · rename_i e
    rw [decide_eq_false fun m => ?_]
    · rfl
    · obtain ⟨k, hk, h⟩ := mem_names.mp m
      have := List.find?_range_eq_none.mp e k hk
      rw [decide_eq_true h] at this
      cases this
def encP (p : Wk × Str) : Rho := [.dat (wkD p.1), .dat (.str p.2)]
theorem encP_inj (a b : Wk × Str) (h : encP a = encP b) : a = b := by
  injection h with h1 h
  injection h with h2 _
  injection h1 with h1
  injection h2 with h2
  injection h2 with h2
  exact Prod.ext (wkD7_inj _ _ h1) h2
def encT (p : Wk × Mk) : Rho := [.dat (wkD p.1), .dat (thingD p.2)]
def encK (p : Wk × Mk) : Rho := [.dat (wkD p.1), .dat (mkD p.2)]
theorem encK_inj (a b : Wk × Mk) (h : encK a = encK b) : a = b := by
  injection h with h1 h
  injection h with h2 _
  injection h1 with h1
  injection h2 with h2
  exact Prod.ext (wkD7_inj _ _ h1) (mkD_inj _ _ h2)
def termD (w : Wk) (m : Mk) : D := match m.light with
  | none => .tuple [num (kOf w m.nm).tk, num (beatsOf w m)]
  | some l => .tuple [num (if l = w.br then w.ak else w.c1), num (beatsOf w m)]
abbrev spKind (K : PySem.W.Frag) : Sp := PmE K 2 encP (fun p => p.2 ∈ p.1.names) fun p => kD (kOf p.1 p.2)
abbrev spPlace (K : PySem.W.Frag) : Sp := PmE K 2 encP (fun _ => True) fun p => plD p.1 p.2
abbrev spTerms (K : PySem.W.Frag) : Sp := Pm K 2 (fun _ ss => ∃ w m, ss = [.dat (wkD w), .dat (thingD m)] ∧ m.nm ∈ w.names) fun _ ss s => ∀ w m, ss = [.dat (wkD w), .dat (thingD m)] → s = .dat (termD w m)
abbrev spGood (K : PySem.W.Frag) : Sp := PmE K 2 encK (fun _ => True) fun p => .bool (mkGood p.1 p.2)
abbrev CKind (Pg : Program) (w : World) (K : PySem.W.Frag) (mg : Str → Option Value) (base : Heap) := Fn Pg w K mg base "kind_called" 1 ["works", "name"] (spKind K)
abbrev CPlace (Pg : Program) (w : World) (K : PySem.W.Frag) (mg : Str → Option Value) (base : Heap) := Fn Pg w K mg base "place_called" 1 ["works", "name"] (spPlace K)
abbrev CTerms (Pg : Program) (w : World) (K : PySem.W.Frag) (mg : Str → Option Value) (base : Heap) := Fn Pg w K mg base "terms_of" 2 ["works", "thing"] (spTerms K)
abbrev CGood (Pg : Program) (w : World) (K : PySem.W.Frag) (mg : Str → Option Value) (base : Heap) := Fn Pg w K mg base "is_right_making" 3 ["works", "making"] (spGood K)
theorem beats_eq (w : Wk) {m m' : Mk} (h : thingD m = thingD m') : termD w m = termD w m' := by
  obtain ⟨n, l, k⟩ := m
  obtain ⟨n', l', k'⟩ := m'
  cases l <;> cases l' <;> simp only [thingD, num, PyData.tuple.injEq, List.cons.injEq, PyData.int.injEq, PyData.str.injEq, Int.ofNat_inj, and_true] at h
  · obtain ⟨_, rfl⟩ := h
    rfl
  · exact absurd h.1 (by decide)
  · exact absurd h.1 (by decide)
  · obtain ⟨_, rfl, rfl⟩ := h
    rfl
section
variable {Pg : Program} {w : World} {K : PySem.W.Frag} {mg : Str → Option Value} {base : Heap} {f : Addr} {fd : FuncData}
theorem ok_kind_called (F : Fun K "kind_called" "kind_called" s_kind_called f fd) (T : Txt mg) : FnG Pg w K mg base 1 f fd ["works", "name"] (spKind K) := by
  have nd := sc_kind_called.nd
  refine fnG_of F sc_kind_called pm_len (fun cdv A ou s H vs Q hgd hr h => ?_)
  have hu : (A.deeper (PyProof.Rows.envOfC "kind_called" (defScope s_kind_called) s.heap.objs.size f cdv)).units + 64 < cLine := by have := hr.un; omega
  refine ⟨_, (pss_cons (ps_for PassesOwn.never rfl (pi_tup (pe_ix (r := rIx K) ix_seq (pv 0) pe_int (fun _ _ => rfl))) (pg_name (i := 2) nd rfl (Or.inl rfl) (Or.inl rfl)) (pss_one (ps_if (pt_cmpR (r := rEq2 K) (opEq hu) (pe_ix (r := rIx K) ix_seq (pv 2) pe_int (fun _ _ => rfl)) (pv 1) (nomark _)) (pss_one (ps_ret (pv 2))) pss_nil))) (pss_one (ps_ret pe_non))), bodyE (by decide) h encP_inj fun W F0 ⟨wk, x⟩ hx _ => ?_⟩
  simp only at hx
  change Sx K W H F0 _ [.dat (wkD wk), .dat (.str x), .un] _
  refine sx_seq (sx_for (fun es i ρ' => es = wk.ks.map kD ∧ ∃ s2, ρ' = [.dat (wkD wk), .dat (.str x), s2] ∧ ∀ j < i, (kk wk j).nm ≠ x) (evi_tup ?_))
  walk_at "go"
  refine ⟨⟨rfl, _, rfl, fun j h => absurd h (Nat.not_lt_zero _)⟩, ?_, ?_⟩
  · rintro i d ρ' hd ⟨_, s2, rfl, hn⟩
    have hi : i < wk.ks.length := by
      have := (List.getElem?_eq_some_iff.mp hd).1
      rwa [List.length_map] at this
    rw [kk_get hi] at hd
    obtain rfl := Option.some.inj hd
    refine gs_name trivial ?_
    change Sx K W H F0 _ [.dat (wkD wk), .dat (.str x), .dat (kD (kk wk i))] _
    walk_at "go"
    refine if2 (fun h1 => ?_) (fun h1 => ?_)
    · walk_at "go"
      show Sl.dat (kD (kk wk i)) = Sl.dat (kD (kOf wk x))
      rw [kOf_at hi (of_decide_eq_true h1) hn]
    · walk_at "go"
      refine ⟨rfl, _, rfl, fun j hj => ?_⟩
      by_cases q : j < i
      · exact hn j q
      · obtain rfl : j = i := by omega
        exact of_decide_eq_false h1
  · rintro ρ' ⟨_, s2, rfl, hn⟩
    rw [List.length_map] at hn
    obtain ⟨k, hk, e⟩ := mem_names.mp hx
    exact absurd e (hn k hk)
theorem ok_place_called (F : Fun K "place_called" "place_called" s_place_called f fd) (T : Txt mg) : FnG Pg w K mg base 1 f fd ["works", "name"] (spPlace K) := by
  have nd := sc_place_called.nd
  refine fnG_of F sc_place_called pm_len (fun cdv A ou s H vs Q hgd hr h => ?_)
  have hu : (A.deeper (PyProof.Rows.envOfC "place_called" (defScope s_place_called) s.heap.objs.size f cdv)).units + 64 < cLine := by have := hr.un; omega
  refine ⟨_, (pss_cons (ps_for PassesOwn.never rfl (pi_enumT (by rfl) T.b_enumerate (pa_cons (pe_ix (r := rIx K) ix_seq (pv 0) pe_int (fun _ _ => rfl)) pa_nil)) (pg_tup (n := 2) rfl (pgs_cons (pg_name (i := 2) nd rfl (Or.inl rfl) (Or.inl rfl)) (pgs_cons (pg_name (i := 3) nd rfl (Or.inl rfl) (Or.inl rfl)) pgs_nil))) (pss_one (ps_if (pt_cmpR (r := rEq2 K) (opEq hu) (pe_ix (r := rIx K) ix_seq (pv 3) pe_int (fun _ _ => rfl)) (pv 1) (nomark _)) (pss_one (ps_ret (pv 2))) pss_nil))) (pss_one (ps_ret pe_non))), bodyE (by decide) h encP_inj fun W F0 ⟨wk, x⟩ _ _ => ?_⟩
  change Sx K W H F0 _ [.dat (wkD wk), .dat (.str x), .un, .un] _
  refine sx_seq (sx_for (fun es i ρ' => es = enumD (wk.ks.map kD) ∧ ∃ s2 s3, ρ' = [.dat (wkD wk), .dat (.str x), s2, s3] ∧ ∀ j < i, decide ((kk wk j).nm = x) = false) (evi_enum ?_))
  walk_at "go"
  refine ⟨⟨rfl, _, _, rfl, fun j h => absurd h (Nat.not_lt_zero _)⟩, ?_, ?_⟩
  · rintro i d ρ' hd ⟨_, s2, s3, rfl, hn⟩
    have hi : i < wk.ks.length := by
      have := (List.getElem?_eq_some_iff.mp hd).1
      rwa [enumD_len, List.length_map] at this
    rw [enumD_get (kk_get hi)] at hd
    obtain rfl := Option.some.inj hd
    refine gs_tup rfl (gss_cons (gs_name trivial (gss_cons (gs_name trivial (gss_nil ?_)))))
    change Sx K W H F0 _ [.dat (wkD wk), .dat (.str x), .dat (num i), .dat (kD (kk wk i))] _
    walk_at "go"
    refine if2 (fun h1 => ?_) (fun h1 => ?_)
    · walk_at "go"
      show Sl.dat (num i) = Sl.dat (plD wk x)
      rw [plD, fst_some hi h1 hn]
    · walk_at "go"
      refine ⟨rfl, _, _, rfl, fun j hj => ?_⟩
      by_cases q : j < i
      · exact hn j q
      · obtain rfl : j = i := by omega
        exact h1
  · rintro ρ' ⟨_, s2, s3, rfl, hn⟩
    rw [enumD_len, List.length_map] at hn
    walk_at "go"
    show Sl.dat .none = Sl.dat (plD wk x)
    rw [plD, fst_none hn]
theorem ok_terms_of (F : Fun K "terms_of" "terms_of" s_terms_of f fd) (T : Txt mg) (C_kind_called : CKind Pg w K mg base) : FnG Pg w K mg base 2 f fd ["works", "thing"] (spTerms K) := by
  have nd := sc_terms_of.nd
  refine fnG_of F sc_terms_of pm_len (fun cdv A ou s H vs Q hgd hr h => ?_)
  have hu : (A.deeper (PyProof.Rows.envOfC "terms_of" (defScope s_terms_of) s.heap.objs.size f cdv)).units + 64 < cLine := by have := hr.un; omega
  refine ⟨_, (pss_cons (ps_asg (pe_slice (r := rSl3 K) slAny (pv 0) po_none (po_some pe_int)) (pg_tup (n := 4) rfl (pgs_cons (pg_name (i := 2) nd rfl (Or.inl rfl) (Or.inl rfl)) (pgs_cons (pg_name (i := 3) nd rfl (Or.inl rfl) (Or.inl rfl)) (pgs_cons (pg_name (i := 4) nd rfl (Or.inl rfl) (Or.inl rfl)) (pgs_cons (pg_name (i := 5) nd rfl (Or.inl rfl) (Or.inl rfl)) pgs_nil)))))) (pss_cons (ps_if (pt_cmpR (r := rEq2 K) (opEq hu) (pe_ix (r := rIx K) ix_seq (pv 1) pe_int (fun _ _ => rfl)) pe_str (nomark _)) (pss_one (ps_ret (pe_slice (r := rSl3 K) slAny (pe_fn C_kind_called hgd (hr.mono (by first | decide | omega)) rfl (pa_cons (pv 0) (pa_cons (pe_ix (r := rIx K) ix_seq (pv 1) pe_int (fun _ _ => rfl)) pa_nil))) (po_some pe_int) (po_some pe_int)))) pss_nil) (pss_cons (ps_if (pt_cmpR (r := rEq2 K) (opEq hu) (pe_ix (r := rIx K) ix_seq (pv 1) pe_int (fun _ _ => rfl)) (pe_ix (r := rIx K) ix_seq (pv 5) pe_int (fun _ _ => rfl)) (nomark _)) (pss_one (ps_ret (pe_slice (r := rSl3 K) slAny (pv 4) (po_some pe_int) po_none))) pss_nil) (pss_one (ps_ret (pe_slice (r := rSl3 K) slAny (pv 3) (po_some pe_int) po_none)))))), pm_body (by decide) h fun W F0 ss hl ⟨wk, m, hss, hx⟩ => ?_⟩
  subst hss
  have fin : ∀ {s : Sl}, s = .dat (termD wk m) → ∀ w' m', ([.dat (wkD wk), .dat (thingD m)] : Rho) = [.dat (wkD w'), .dat (thingD m')] → s = .dat (termD w' m') := fun hs w' m' e => by
    injection e with e1 e
    injection e with e2 _
    injection e1 with e1
    injection e2 with e2
    obtain rfl := wkD7_inj _ _ e1
    rw [hs, beats_eq wk e2]
  change Sx K W H F0 _ [.dat (wkD wk), .dat (thingD m), .un, .un, .un, .un] _
  refine sx_seq (sx_asgG ?_)
  walk_at "go"
  rw [show (4 : Int) = ((4 : Nat) : Int) from rfl, cut_to (by simp)]
  refine gs_tup (ds := [.tuple (wk.ks.map kD), .tuple [.tuple (wk.c0.map askD), num wk.c1, num wk.cb], .tuple [num wk.am, num wk.ak, num wk.ab], .tuple [num wk.us, num wk.sh, num wk.br, num wk.st]]) rfl
    (gss_cons (gs_name trivial (gss_cons (gs_name trivial (gss_cons (gs_name trivial (gss_cons (gs_name trivial (gss_nil ?_)))))))))
  change Sx K W H F0 _ [.dat (wkD wk), .dat (thingD m), .dat (.tuple (wk.ks.map kD)), .dat (.tuple [.tuple (wk.c0.map askD), num wk.c1, num wk.cb]), .dat (.tuple [num wk.am, num wk.ak, num wk.ab]), .dat (.tuple [num wk.us, num wk.sh, num wk.br, num wk.st])] _
  have c1 : ∀ x y z : D, cutD [x, y, z] (some 1) none = [y, z] := fun x y z => by
    rw [show (1 : Int) = ((1 : Nat) : Int) from rfl, cut_from (by simp)]
    rfl
  have c2 : ∀ a b x y z u : D, cutD [a, b, x, y, z, u] (some 2) (some 4) = [x, y] := fun _ _ _ _ _ _ => rfl
  obtain ⟨n, l, k⟩ := m
  have hx : n ∈ wk.names := hx
  cases l with
  | none =>
    change Sx K W H F0 _ [.dat (wkD wk), .dat (.tuple [.str "tool", .str n]), .dat (.tuple (wk.ks.map kD)), .dat (.tuple [.tuple (wk.c0.map askD), num wk.c1, num wk.cb]), .dat (.tuple [num wk.am, num wk.ak, num wk.ab]), .dat (.tuple [num wk.us, num wk.sh, num wk.br, num wk.st])] _
    walk_at "go"
    refine ev_fnE ?_
    walk_at "go"
    refine ⟨(wk, n), rfl, by simp [encP, NoLs], rfl, hx, ?_⟩
    walk_at "go"
    refine fin ?_
    show Sl.dat (.tuple [num (kOf wk n).tk, num (kOf wk n).be]) = Sl.dat (.tuple [num (kOf wk n).tk, num (beOf wk n)])
    rw [← kOf_be]
  | some l =>
    change Sx K W H F0 _ [.dat (wkD wk), .dat (.tuple [.str "leaf", .str n, num l]), .dat (.tuple (wk.ks.map kD)), .dat (.tuple [.tuple (wk.c0.map askD), num wk.c1, num wk.cb]), .dat (.tuple [num wk.am, num wk.ak, num wk.ab]), .dat (.tuple [num wk.us, num wk.sh, num wk.br, num wk.st])] _
    walk_at "go"
    refine if2 (fun h1 => ?_) (fun h1 => ?_)
    · have h1 : l = wk.br := by have := of_decide_eq_true h1; omega
      walk_at "go"
      rw [c1]
      refine fin ?_
      show _ = Sl.dat (.tuple [num (if l = wk.br then wk.ak else wk.c1), num (if l = wk.br then wk.ab else wk.cb)])
      rw [if_pos h1, if_pos h1]
    · have h1 : ¬ l = wk.br := by have := of_decide_eq_false h1; omega
      walk_at "go"
      rw [c1]
      refine fin ?_
      show _ = Sl.dat (.tuple [num (if l = wk.br then wk.ak else wk.c1), num (if l = wk.br then wk.ab else wk.cb)])
      rw [if_neg h1, if_neg h1]
theorem ok_right_making (F : Fun K "is_right_making" "is_right_making" s_is_right_making f fd) (T : Txt mg) (C_place_called : CPlace Pg w K mg base) (C_terms_of : CTerms Pg w K mg base) : FnG Pg w K mg base 3 f fd ["works", "making"] (spGood K) := by
  have nd := sc_is_right_making.nd
  refine fnG_of F sc_is_right_making pm_len (fun cdv A ou s H vs Q hgd hr h => ?_)
  have hu : (A.deeper (PyProof.Rows.envOfC "is_right_making" (defScope s_is_right_making) s.heap.objs.size f cdv)).units + 64 < cLine := by have := hr.un; omega
  refine ⟨_, (pss_cons (ps_asg (pv 1) (pg_tup (n := 2) rfl (pgs_cons (pg_name (i := 2) nd rfl (Or.inl rfl) (Or.inl rfl)) (pgs_cons (pg_name (i := 3) nd rfl (Or.inl rfl) (Or.inl rfl)) pgs_nil)))) (pss_cons (ps_if (pt_cmpR opIsN (pe_fn C_place_called hgd (hr.mono (by first | decide | omega)) rfl (pa_cons (pv 0) (pa_cons (pe_ix (r := rIx K) ix_seq (pv 2) pe_int (fun _ _ => rfl)) pa_nil))) pe_non (nomark _)) (pss_one (ps_ret pe_bl)) pss_nil) (pss_cons (ps_if (PW.pt (pw_and (pt_cmpR (r := rEq2 K) (opEq hu) (pe_ix (r := rIx K) ix_seq (pv 2) pe_int (fun _ _ => rfl)) pe_str (nomark _)) (pw_and1 (pt_cmpR opGt (pe_ix (r := rIx K) ix_seq (pv 2) pe_int (fun _ _ => rfl)) (pe_ix (r := rIx K) ix_seq (pe_ix (r := rIx K) ix_seq (pv 0) pe_int (fun _ _ => rfl)) pe_int (fun _ _ => rfl)) (nomark _))))) (pss_one (ps_ret pe_bl)) pss_nil) (pss_one (ps_ret (pe_chain opLe opLe pe_int (pv 3) (pe_ix (r := rIx K) ix_seq (pe_fn C_terms_of hgd (hr.mono (by first | decide | omega)) rfl (pa_cons (pv 0) (pa_cons (pv 2) pa_nil))) pe_int (fun _ _ => rfl)))))))), bodyE (by decide) h encK_inj fun W F0 ⟨wk, m⟩ _ _ => ?_⟩
  change Sx K W H F0 _ [.dat (wkD wk), .dat (mkD m), .un, .un] _
  refine sx_seq (sx_asgG ?_)
  walk_at "go"
  refine gs_tup rfl (gss_cons (gs_name trivial (gss_cons (gs_name trivial (gss_nil ?_)))))
  change Sx K W H F0 _ [.dat (wkD wk), .dat (mkD m), .dat (thingD m), .dat (num m.left)] _
  have tail : m.nm ∈ wk.names → tooBright wk m = false → if decide ((1 : Int) ≤ (m.left : Int)) = true then Ev K W H (tOp (rIx K) (tFn (spTerms K) (tCons (tVar 0) (tCons (tVar 2) tNil))) (tC (.int 1))) [.dat (wkD wk), .dat (mkD m), .dat (thingD m), .dat (num m.left)] (fun w => OpS K W rLe2 (.dat (num m.left)) w fun s => s = .dat (.bool (mkGood wk m)))
      else Sl.dat (.bool false) = Sl.dat (.bool (mkGood wk m)) := fun hx hb => by
    have e : mkGood wk m = (decide (1 ≤ m.left) && decide (m.left ≤ beatsOf wk m)) := by
      unfold mkGood
      rw [decide_eq_true hx, hb]
      rfl
    rw [e]
    refine if2 (fun h1 => ?_) (fun h1 => ?_)
    · have h1 : 1 ≤ m.left := by have := of_decide_eq_true h1; omega
      walk_at "go"
      refine ev_fn ?_
      walk_at "go"
      refine ⟨by simp [NoLs], rfl, ⟨wk, m, rfl, hx⟩, fun s hs => ?_⟩
      rw [hs wk m rfl]
      have et : ∃ t, termD wk m = .tuple [num t, num (beatsOf wk m)] := by
        unfold termD
        split
        · exact ⟨_, rfl⟩
        · exact ⟨_, rfl⟩
      obtain ⟨t, et⟩ := et
      rw [et]
      walk_at "go"
      refine rt_bool ?_
      rw [decide_eq_true h1, Bool.true_and]
      exact decide_eq_decide.mpr (by omega)
    · have h1 : ¬ 1 ≤ m.left := by have := of_decide_eq_false h1; omega
      refine rt_bool ?_
      rw [decide_eq_false h1, Bool.false_and]
  obtain ⟨n, l, k⟩ := m
  cases l with
  | none =>
    change Sx K W H F0 _ [.dat (wkD wk), .dat (mkD ⟨n, none, k⟩), .dat (.tuple [.str "tool", .str n]), .dat (num k)] _
    walk_at "go"
    refine ev_fnE ?_
    walk_at "go"
    refine ⟨(wk, n), rfl, by simp [encP, NoLs], rfl, trivial, ?_⟩
    walk_at "go"
    rw [plD_none]
    refine if2 (fun h1 => ?_) (fun h1 => ?_)
    · walk_at "go"
      refine rt_bool ?_
      rw [Bool.not_eq_true'] at h1
      unfold mkGood
      rw [show decide (Mk.nm ⟨n, none, k⟩ ∈ wk.names) = false from h1]
      rfl
    · rw [Bool.not_eq_false'] at h1
      walk_at "go"
      exact tail (of_decide_eq_true h1) rfl
  | some l =>
    change Sx K W H F0 _ [.dat (wkD wk), .dat (mkD ⟨n, some l, k⟩), .dat (.tuple [.str "leaf", .str n, num l]), .dat (num k)] _
    walk_at "go"
    refine ev_fnE ?_
    walk_at "go"
    refine ⟨(wk, n), rfl, by simp [encP, NoLs], rfl, trivial, ?_⟩
    walk_at "go"
    rw [plD_none]
    refine if2 (fun h1 => ?_) (fun h1 => ?_)
    · walk_at "go"
      refine rt_bool ?_
      rw [Bool.not_eq_true'] at h1
      unfold mkGood
      rw [show decide (Mk.nm ⟨n, some l, k⟩ ∈ wk.names) = false from h1]
      rfl
    · rw [Bool.not_eq_false'] at h1
      walk_at "go"
      refine if2 (fun h2 => ?_) (fun h2 => ?_)
      · have h2 : wk.br < l := by have := of_decide_eq_true h2; omega
        walk_at "go"
        refine rt_bool ?_
        unfold mkGood
        rw [show tooBright wk ⟨n, some l, k⟩ = true from decide_eq_true h2]
        simp
      · have h2 : ¬ wk.br < l := by have := of_decide_eq_false h2; omega
        walk_at "go"
        exact tail (of_decide_eq_true h1) (decide_eq_false h2)
end
end K19

namespace K19
open PySem L2 RZ DL
/-! the walk by data -/
local macro_rules | `(tactic| walk_at "dl") => `(tactic| first
  | with_reducible first
    | refine sx_seq ?_ | refine sx_if ?_ | refine sx_ret ?_ | refine sx_next ?_ | refine sx_asg ?_
    | refine et_not ?_ | refine et_B ?_ | refine et_test ?_ | refine et_and ?_ | refine et_or ?_ | refine et_yes ?_
    | refine ev_and ?_ | refine ev_or ?_ | refine ev_not ?_ | refine ev_if ?_ | refine ev_chain ?_
    | refine ev_int ?_ | refine ev_bl ?_ | refine ev_str ?_ | refine ev_non ?_ | refine ev_c ?_
    | refine ev_op ?_ | refine ev_un ?_ | refine ev_cb ?_ | refine ev_fn1 ?_ | refine ev_fn2 ?_ | refine ev_sl ?_ | refine eo_none ?_ | refine eo_some ?_ | refine ev_tup ?_
    | refine ea_cons ?_ | refine ea_nil ?_
    | refine ops_ge ?_ | refine ops_le ?_ | refine ops_gt ?_ | refine ops_lt ?_ | refine ops_leS ?_ | refine ops_ltS ?_ | refine ops_add_int ?_ | refine ops_sub ?_ | refine ops_isN ?_ | refine ops_isNot ?_ | refine ops_eq_int ?_ | refine ops_eqS ?_ | refine ops_neS ?_
    | refine cas_len_tup ?_ | refine cas_isi_int ?_ | refine cas_isi_bool ?_ | refine cas_isi_str ?_ | refine cas_isi_tup ?_ | refine cas_isi_lst ?_
    | refine iteT ?_ | refine iteF ?_ | refine and_nols ?_
  | ((with_reducible refine ev_varx ?_); refine ⟨_, rfl, ?_⟩)
  | ((with_reducible refine ops_ix_tupx ?_); first | refine ⟨_, rfl, ?_⟩ | refine ⟨_, atI_nat (j := 0) rfl, ?_⟩ | refine ⟨_, atI_nat (j := 1) rfl, ?_⟩ | refine ⟨_, atI_nat (j := 2) rfl, ?_⟩ | refine ⟨_, atI_nat (j := 3) rfl, ?_⟩ | refine ⟨_, atI_nat (j := 4) rfl, ?_⟩ | refine ⟨_, atI_nat (j := 5) rfl, ?_⟩ | refine ⟨_, atI_nat (j := 6) rfl, ?_⟩)
  | ((with_reducible refine sz_and ?_ ?_); exact rfl)
  | ((with_reducible refine ev_ownx ?_); refine ⟨_, rfl, ?_⟩)
  | ((with_reducible refine ev_refx ?_); refine ⟨_, rfl, ?_⟩)
  | (with_reducible refine sxn_seq ?_) | (with_reducible refine uns_neg ?_) | (with_reducible refine ev_frz (evn_lst ?_)) | (with_reducible refine sls_tup ?_) | (refine ev_revT ?_)
  | ((refine sx_extx ?_); refine ⟨_, rfl, ?_⟩) | ((with_reducible refine ops_add_tup ?_ ?_); exact le_line rfl) | (with_reducible refine cas_listT ?_)
  | ((with_reducible refine ifT ?_ ?_); exact rfl) | ((with_reducible refine ifF ?_ ?_); exact rfl))
local macro_rules | `(tactic| walk_at "go") => `(tactic| repeat (first | walk_at "dl" | with_reducible refine ⟨_, rfl, ?_⟩ | with_reducible refine ⟨_, _, rfl, ?_⟩))
/-! ### the looks that raise -/
abbrev spLook (K : PySem.W.Frag) (n : Nat) {α : Type} (enc : α → Rho) (ok : α → Prop) (v : α → Ref) (C : Addr) : Sp := PmX K n (fun _ ss => ∃ a, ss = enc a ∧ ok a) (fun _ ss _ => ∀ a, ss = enc a → v a = none)
  fun _ ss C' fs => C' = C ∧ ∀ a, ss = enc a → ∃ (x : Str) (i : Int), v a = some (x, i) ∧ fs = ([("at", .int i), ("word", .str x)] : List (Str × D))
section
variable {K : PySem.W.Frag} {W : Wd} {H0 F0 : Hp} {ρ : Rho} {P : Sl → Prop} {t tk : TA} {n : Nat} {α : Type} {enc : α → Rho} {ok : α → Prop} {v : α → Ref} {C : Addr} {N : Ends2}
theorem look_body {Nm : List Str} {ts : TS} {vs : List V} {H : Hp} {Q : VK} {E : XK} (hN : n ≤ Nm.length) (h : spLook K n enc ok v C vs H Q E) (inj : ∀ a b, enc a = enc b → a = b)
    (b : ∀ (W : Wd) (F : Hp) (a : α), ok a → (∀ x i, v a = some (x, i) → ∀ dd F' H', Ok W F' H' → Step W F H F' H' → Er K W F' H' dd [("at", .int i), ("word", .str x)] → E (.ref C) (some dd) H') →
      Sx K W H F ts (enc a ++ List.replicate (Nm.length - n) .un) { nx := fun _ => v a = none, rt := fun _ => v a = none }) :
    ts { nx := fun _ H' => Q .non H', rt := Q } (L2.start Nm vs) H :=
  pmX_body hN h fun W F ss hl ⟨a, e, hk⟩ ke => by
    subst e
    rw [hl]
    refine (b W F a hk fun x i hv dd F' H' o st er => ke C dd _ F' H' o st er ⟨rfl, fun a' ea => ?_⟩).mono (fun _ p a' ea => ?_) (fun _ p a' ea => ?_) (fun _ f => f) fun _ f => f
    · obtain rfl := inj _ _ ea
      exact ⟨x, i, hv, rfl⟩
    · obtain rfl := inj _ _ ea
      exact p
    · obtain rfl := inj _ _ ea
      exact p
theorem sx_look {E : XK} {t : TA} (h : EvA K W H0 t ρ fun ss => ∃ a, ss = enc a ∧ (∀ s ∈ enc a, NoLs s) ∧ (enc a).length = n ∧ ok a ∧ (v a = none → N.nx ρ) ∧
      ∀ x i, v a = some (x, i) → ∀ dd F' H', Ok W F' H' → Step W F0 H0 F' H' → Er K W F' H' dd [("at", .int i), ("word", .str x)] → E (.ref C) (some dd) H') :
    Sx K W H0 F0 (fun D σ H => tDrop (tCallS (spLook K n enc ok v C) (WE fun cls d _ H' => E cls d H') t) D σ H) ρ N :=
  sx_callX (tx := fun Wx => tCallS (spLook K n enc ok v C) (WE Wx) t) (E := E) (fun C' fs => C' = C ∧ ∀ dd F' H', Ok W F' H' → Step W F0 H0 F' H' → Er K W F' H' dd fs → E (.ref C) (some dd) H')
    (evx_fn fun σ F H o ho Q q => h σ F H o ho Q fun vs F' H' ss o' st hv ⟨a, e, h1, h2, h3, h4, h5⟩ => q vs F' H' ss o' st hv (by
      subst e
      refine ⟨h1, h2, ⟨a, rfl, h3⟩, fun s hs => h4 (hs a rfl), fun C' fs ⟨hC, hx⟩ => ⟨hC, ?_⟩⟩
      obtain ⟨x, i, hv, rfl⟩ := hx a rfl
      exact h5 x i hv))
    fun C' fs ⟨hC, hk⟩ dd F' H' o st er => by
      rw [hC]
      exact hk dd F' H' o st er
end
def encU (p : Wk × List Nat) : Rho := [.dat (wkD p.1), .dat (rowD p.2)]
theorem encU_inj (a b : Wk × List Nat) (h : encU a = encU b) : a = b := by
  injection h with h1 h
  injection h with h2 _
  injection h1 with h1
  injection h2 with h2
  exact Prod.ext (wkD7_inj _ _ h1) (rowD_inj _ _ h2)
abbrev lsD (l : List (List Nat)) : D := .tuple (l.map rowD)
def encL (p : Wk × List (List Nat)) : Rho := [.dat (wkD p.1), .dat (lsD p.2)]
theorem encL_inj (a b : Wk × List (List Nat)) (h : encL a = encL b) : a = b := by
  injection h with h1 h
  injection h with h2 _
  injection h1 with h1
  injection h2 with h2
  injection h2 with h2
  exact Prod.ext (wkD7_inj _ _ h1) (map_inj' (fun a b e => rowD_inj _ _ e) h2)
abbrev msD (l : List Mk) : D := .tuple (l.map mkD)
def encM7 (p : Wk × List Mk) : Rho := [.dat (wkD p.1), .dat (msD p.2)]
theorem encM7_inj (a b : Wk × List Mk) (h : encM7 a = encM7 b) : a = b := by
  injection h with h1 h
  injection h with h2 _
  injection h1 with h1
  injection h2 with h2
  injection h2 with h2
  exact Prod.ext (wkD7_inj _ _ h1) (map_inj' (fun a b e => mkD_inj _ _ e) h2)
abbrev spLU (K : PySem.W.Frag) (C : Addr) : Sp := spLook K 2 encU (fun _ => True) (fun p => vUses p.1 p.2) C
abbrev spLL (K : PySem.W.Frag) (C : Addr) : Sp := spLook K 2 encL (fun p => Fine (lsD p.2)) (fun p => vLeaves p.1 p.2) C
abbrev spLM (K : PySem.W.Frag) (C : Addr) : Sp := spLook K 2 encM7 (fun _ => True) (fun p => vMakings p.1 p.2) C
abbrev CLU (Pg : Program) (w : World) (K : PySem.W.Frag) (mg : Str → Option Value) (base : Heap) (C : Addr) := FnX Pg w K mg base "look_at_uses" 3 ["works", "uses"] (spLU K C)
abbrev CLL (Pg : Program) (w : World) (K : PySem.W.Frag) (mg : Str → Option Value) (base : Heap) (C : Addr) := FnX Pg w K mg base "look_at_leaves" 3 ["works", "leaves"] (spLL K C)
abbrev CLM (Pg : Program) (w : World) (K : PySem.W.Frag) (mg : Str → Option Value) (base : Heap) (C : Addr) := FnX Pg w K mg base "look_at_makings" 4 ["works", "makings"] (spLM K C)
abbrev CLights7 (Pg : Program) (w : World) (K : PySem.W.Frag) (mg : Str → Option Value) (base : Heap) := Fn Pg w K mg base "is_lights" 2 ["thing"] (Pm1 K Fine fun d => .bool (isLights d))
theorem gd_get {l : List Nat} {k : Nat} (h : k < l.length) : (l.map num)[k]? = some (num (gd l k)) := by simp [gd, h]
theorem isNums (l : List Nat) : (l.map num).all isNum = true := nums_all l
theorem lights_row (l : List Nat) : isLights (rowD l) = fallN l := by
  show ((l.map num).all isNum && fall (l.map num)) = fallN l
  rw [nums_all, Bool.true_and]
  unfold fall fallN
  rw [← List.map_drop, List.zip_map, List.all_map]
  refine congrArg (fun p => (l.zip (l.drop 1)).all p) (funext fun p => ?_)
  exact decide_eq_decide.mpr (by show ((p.2 : Int) ≤ p.1) ↔ p.2 ≤ p.1; omega)
section
variable {Pg : Program} {w : World} {K : PySem.W.Frag} {mg : Str → Option Value} {base : Heap} {f C : Addr} {fd : FuncData}
theorem ok_look_uses (F : Fun K "look_at_uses" "look_at_uses" s_look_at_uses f fd) (T : Txt mg) (E_NoPaper : Exc2 Pg w K mg base "NoPaper" C "word" "at") : FnGX Pg w K mg base 3 f fd ["works", "uses"] (spLU K C) := by
  have nd := sc_look_at_uses.nd
  refine fnGX_of F sc_look_at_uses pmX_len (fun cdv A ou s H vs Q E hgd hr h => ?_)
  have hu : (A.deeper (PyProof.Rows.envOfC "look_at_uses" (defScope s_look_at_uses) s.heap.objs.size f cdv)).units + 64 < cLine := by have := hr.un; omega
  refine ⟨_, (pss_cons (ps_if (pt_cmpR (r := rNe2 K) (opNe hu) (pe_callB (r := rLenA K) call_len (by rfl) T.b_len (by decide +kernel) (pa_cons (pv 1) pa_nil)) (pe_callB (r := rLenA K) call_len (by rfl) T.b_len (by decide +kernel) (pa_cons (pe_ix (r := rIx K) ix_seq (pv 0) pe_int (fun _ _ => rfl)) pa_nil)) (nomark _)) (pss_one (ps_raise2 E_NoPaper (hr.mono (by first | decide | omega)) rfl (takes_of rfl rfl rfl rfl) (pa_cons pe_str (pa_cons (pe_un un_neg pe_int) pa_nil)))) pss_nil) (pss_one (ps_for (passes_of rfl) rfl (pi_enumT (by rfl) T.b_enumerate (pa_cons (pv 1) pa_nil)) (pg_tup (n := 2) rfl (pgs_cons (pg_name (i := 2) nd rfl (Or.inl rfl) (Or.inl rfl)) (pgs_cons (pg_name (i := 3) nd rfl (Or.inl rfl) (Or.inl rfl)) pgs_nil))) (pss_one (ps_if (pt_cmpR opGt (pv 3) (pe_ix (r := rIx K) ix_seq (pe_ix (r := rIx K) ix_seq (pv 0) pe_int (fun _ _ => rfl)) pe_int (fun _ _ => rfl)) (nomark _)) (pss_one (ps_raise2 E_NoPaper (hr.mono (by first | decide | omega)) rfl (takes_of rfl rfl rfl rfl) (pa_cons pe_str (pa_cons (pv 2) pa_nil)))) pss_nil))))), look_body (by decide) h encU_inj fun W F0 ⟨wk, us⟩ _ out => ?_⟩
  simp only at out
  change Sx K W H F0 _ [.dat (wkD wk), .dat (rowD us), .un, .un] _
  walk_at "go"
  refine ops_ne (shaped_int _) (shaped_int _) ⟨_, rfl, ?_⟩
  rw [show PyData.eqv (.int ((us.map num).length : Nat)) (.int ((wk.ks.map kD).length : Nat)) = decide (us.length = wk.ks.length) from by rw [List.length_map, List.length_map]; exact eqv_num]
  refine if2 (fun h1 => ?_) (fun h1 => ?_)
  · have h1 : ¬ us.length = wk.ks.length := by simpa using h1
    refine sx_raise2 E_NoPaper.ox E_NoPaper.n1 E_NoPaper.n2 ?_
    walk_at "go"
    exact out "uses" (-1) (by unfold vUses; rw [if_neg h1])
  have h1 : us.length = wk.ks.length := by simpa using h1
  have ev : vUses wk us = (fst us.length fun k => decide (wk.us < gd us k)).map (at_ "uses") := by unfold vUses; rw [if_pos h1]
  rw [ev] at out ⊢
  refine sx_next ?_
  refine sx_for (fun es i ρ' => es = enumD (us.map num) ∧ ∃ s2 s3, ρ' = [.dat (wkD wk), .dat (rowD us), s2, s3] ∧ ∀ j < i, decide (wk.us < gd us j) = false) (evi_enum ?_)
  walk_at "go"
  refine ⟨⟨rfl, _, _, rfl, fun j h => absurd h (Nat.not_lt_zero _)⟩, ?_, ?_⟩
  · rintro i d ρ' hd ⟨_, s2, s3, rfl, hn⟩
    have hi : i < us.length := by
      have := (List.getElem?_eq_some_iff.mp hd).1
      rwa [enumD_len, List.length_map] at this
    rw [enumD_get (gd_get hi)] at hd
    obtain rfl := Option.some.inj hd
    refine gs_tup rfl (gss_cons (gs_name trivial (gss_cons (gs_name trivial (gss_nil ?_)))))
    change Sx K W H F0 _ [.dat (wkD wk), .dat (rowD us), .dat (num i), .dat (num (gd us i))] _
    walk_at "go"
    refine if2 (fun h2 => ?_) (fun h2 => ?_)
    · have h2 : wk.us < gd us i := by have := of_decide_eq_true h2; omega
      refine sx_raise2 E_NoPaper.ox E_NoPaper.n1 E_NoPaper.n2 ?_
      walk_at "go"
      exact out "uses" i (by rw [fst_some hi (decide_eq_true h2) hn]; rfl)
    · have h2 : ¬ wk.us < gd us i := by have := of_decide_eq_false h2; omega
      walk_at "go"
      refine ⟨rfl, _, _, rfl, fun j hj => ?_⟩
      by_cases q : j < i
      · exact hn j q
      · obtain rfl : j = i := by omega
        exact decide_eq_false h2
  · rintro ρ' ⟨_, s2, s3, rfl, hn⟩
    rw [enumD_len, List.length_map] at hn
    show (fst us.length fun k => decide (wk.us < gd us k)).map (at_ "uses") = none
    rw [fst_none hn]
    rfl
theorem max_any {ns : List Nat} {b : Nat} {m : Int} (h1 : m ∈ ns.map Int.ofNat) (h2 : ∀ y ∈ ns.map Int.ofNat, y ≤ m) : decide ((b : Int) < m) = ns.any fun x => decide (b < x) := by
  rw [Bool.eq_iff_iff, decide_eq_true_iff, List.any_eq_true]
  constructor
  · intro h
    obtain ⟨n, hn, rfl⟩ := List.mem_map.mp h1
    have h : (b : Int) < (n : Int) := h
    exact ⟨n, hn, decide_eq_true (by omega)⟩
  · rintro ⟨n, hn, h⟩
    have h3 : (n : Int) ≤ m := h2 _ (List.mem_map.mpr ⟨n, hn, rfl⟩)
    have := of_decide_eq_true h
    omega
theorem ok_look_leaves (F : Fun K "look_at_leaves" "look_at_leaves" s_look_at_leaves f fd) (T : Txt mg) (E_NoPaper : Exc2 Pg w K mg base "NoPaper" C "word" "at") (C_is_lights : CLights7 Pg w K mg base) : FnGX Pg w K mg base 3 f fd ["works", "leaves"] (spLL K C) := by
  have nd := sc_look_at_leaves.nd
  refine fnGX_of F sc_look_at_leaves pmX_len (fun cdv A ou s H vs Q E hgd hr h => ?_)
  have hu : (A.deeper (PyProof.Rows.envOfC "look_at_leaves" (defScope s_look_at_leaves) s.heap.objs.size f cdv)).units + 64 < cLine := by have := hr.un; omega
  refine ⟨_, (pss_cons (ps_asg (pe_ix (r := rIx K) ix_seq (pv 0) pe_int (fun _ _ => rfl)) (pg_tup (n := 4) rfl (pgs_cons (pg_name (i := 2) nd rfl (Or.inl rfl) (Or.inl rfl)) (pgs_cons (pg_name (i := 3) nd rfl (Or.inl rfl) (Or.inl rfl)) (pgs_cons (pg_name (i := 4) nd rfl (Or.inl rfl) (Or.inl rfl)) (pgs_cons (pg_name (i := 2) nd rfl (Or.inl rfl) (Or.inl rfl)) pgs_nil)))))) (pss_cons (ps_if (pt_cmpR (r := rNe2 K) (opNe hu) (pe_callB (r := rLenA K) call_len (by rfl) T.b_len (by decide +kernel) (pa_cons (pv 1) pa_nil)) (pe_callB (r := rLenA K) call_len (by rfl) T.b_len (by decide +kernel) (pa_cons (pe_ix (r := rIx K) ix_seq (pv 0) pe_int (fun _ _ => rfl)) pa_nil)) (nomark _)) (pss_one (ps_raise2 E_NoPaper (hr.mono (by first | decide | omega)) rfl (takes_of rfl rfl rfl rfl) (pa_cons pe_str (pa_cons (pe_un un_neg pe_int) pa_nil)))) pss_nil) (pss_one (ps_for (passes_of rfl) rfl (pi_enumT (by rfl) T.b_enumerate (pa_cons (pv 1) pa_nil)) (pg_tup (n := 2) rfl (pgs_cons (pg_name (i := 5) nd rfl (Or.inl rfl) (Or.inl rfl)) (pgs_cons (pg_name (i := 6) nd rfl (Or.inl rfl) (Or.inl rfl)) pgs_nil))) (pss_one (ps_if (PW.pt (pw_or (pt_cmpR opGt (pe_callB (r := rLenA K) call_len (by rfl) T.b_len (by decide +kernel) (pa_cons (pv 6) pa_nil)) (pv 3) (nomark _)) (pw_or (pt_not (pt_val (pe_fn C_is_lights hgd (hr.mono (by first | decide | omega)) rfl (pa_cons (pv 6) pa_nil)))) (pw_or1 (pt_cmpR opGt (pe_callBK (r := rMaxDef K) (crk_maxD rfl hu) (by rfl) T.b_max (by decide +kernel) (pa_cons (pv 6) pa_nil) (pk_cons pe_int pk_nil)) (pv 4) (nomark _)))))) (pss_one (ps_raise2 E_NoPaper (hr.mono (by first | decide | omega)) rfl (takes_of rfl rfl rfl rfl) (pa_cons pe_str (pa_cons (pv 5) pa_nil)))) pss_nil)))))), look_body (by decide) h encL_inj fun W F0 ⟨wk, ls⟩ fine out => ?_⟩
  simp only at out fine
  change Sx K W H F0 _ [.dat (wkD wk), .dat (lsD ls), .un, .un, .un, .un, .un] _
  refine sx_seq (sx_asgG ?_)
  walk_at "go"
  refine gs_tup rfl (gss_cons (gs_name trivial (gss_cons (gs_name trivial (gss_cons (gs_name trivial (gss_cons (gs_name trivial (gss_nil ?_)))))))))
  change Sx K W H F0 _ [.dat (wkD wk), .dat (lsD ls), .dat (num wk.st), .dat (num wk.sh), .dat (num wk.br), .un, .un] _
  walk_at "go"
  refine ops_ne (shaped_int _) (shaped_int _) ⟨_, rfl, ?_⟩
  rw [show PyData.eqv (.int ((ls.map rowD).length : Nat)) (.int ((wk.ks.map kD).length : Nat)) = decide (ls.length = wk.ks.length) from by rw [List.length_map, List.length_map]; exact eqv_num]
  refine if2 (fun h1 => ?_) (fun h1 => ?_)
  · have h1 : ¬ ls.length = wk.ks.length := by simpa using h1
    refine sx_raise2 E_NoPaper.ox E_NoPaper.n1 E_NoPaper.n2 ?_
    walk_at "go"
    exact out "leaves" (-1) (by unfold vLeaves; rw [if_neg h1])
  have h1 : ls.length = wk.ks.length := by simpa using h1
  have ev : vLeaves wk ls = (fst ls.length fun k => leafBad wk (ls.getD k [])).map (at_ "leaves") := by unfold vLeaves; rw [if_pos h1]
  rw [ev] at out ⊢
  refine sx_next ?_
  refine sx_for (fun es i ρ' => es = enumD (ls.map rowD) ∧ ∃ s2 s3, ρ' = [.dat (wkD wk), .dat (lsD ls), .dat (num wk.st), .dat (num wk.sh), .dat (num wk.br), s2, s3] ∧ ∀ j < i, leafBad wk (ls.getD j []) = false) (evi_enum ?_)
  walk_at "go"
  refine ⟨⟨rfl, _, _, rfl, fun j h => absurd h (Nat.not_lt_zero _)⟩, ?_, ?_⟩
  · rintro i d ρ' hd ⟨_, s2, s3, rfl, hn⟩
    have hi : i < ls.length := by
      have := (List.getElem?_eq_some_iff.mp hd).1
      rwa [enumD_len, List.length_map] at this
    obtain ⟨l, hl⟩ : ∃ l, l = ls.getD i [] := ⟨_, rfl⟩
    have el : ls[i] = l := by rw [hl]; simp [hi]
    have hg : (ls.map rowD)[i]? = some (rowD l) := by rw [map_get hi, el]
    have fl : Fine (rowD l) := fine.tup (List.mem_of_getElem? hg)
    rw [enumD_get hg] at hd
    obtain rfl := Option.some.inj hd
    refine gs_tup rfl (gss_cons (gs_name trivial (gss_cons (gs_name trivial (gss_nil ?_)))))
    change Sx K W H F0 _ [.dat (wkD wk), .dat (lsD ls), .dat (num wk.st), .dat (num wk.sh), .dat (num wk.br), .dat (num i), .dat (rowD l)] _
    have no : leafBad wk l = true → ∀ {ta : TA} {N : DL.Ends2}, EvA K W H ta [.dat (wkD wk), .dat (lsD ls), .dat (num wk.st), .dat (num wk.sh), .dat (num wk.br), .dat (num i), .dat (rowD l)] (fun ss => ss = [.dat (.str "leaves"), .dat (num i)]) →
        Sx K W H F0 (fun _ σ H => tMkO C (initSp K "word" "at") [] ta σ H fun cls d H' => E cls d H') [.dat (wkD wk), .dat (lsD ls), .dat (num wk.st), .dat (num wk.sh), .dat (num wk.br), .dat (num i), .dat (rowD l)] N := fun hb {ta N} ha =>
      sx_raise2 E_NoPaper.ox E_NoPaper.n1 E_NoPaper.n2 (fun σ F H o ho Q q => ha σ F H o ho Q fun vs F' H' ss o' st hv e => q vs F' H' ss o' st hv ⟨.str "leaves", num i, e, out "leaves" i (by rw [fst_some hi (by rw [← hl]; exact hb) hn]; rfl)⟩)
    walk_at "go"
    rw [List.length_map]
    refine if2 (fun h2 => ?_) (fun h2 => ?_)
    · refine ifT rfl (no ?_ ?_)
      · have h2 : wk.sh < l.length := by have := of_decide_eq_true h2; omega
        unfold leafBad
        rw [decide_eq_true h2]
        rfl
      · walk_at "go"
        exact rfl
    have h2 : decide (wk.sh < l.length) = false := decide_eq_false (by have := of_decide_eq_false h2; omega)
    walk_at "go"
    refine ⟨fl, _, rfl, ?_⟩
    rw [lights_row]
    refine if2 (fun h3 => ?_) (fun h3 => ?_)
    · refine ifT rfl (no ?_ ?_)
      · unfold leafBad
        rw [h3]
        simp
      · walk_at "go"
        exact rfl
    walk_at "go"
    refine ev_maxD ?_
    walk_at "go"
    have lb : leafBad wk l = l.any fun x => decide (wk.br < x) := by
      unfold leafBad
      rw [h2, h3]
      rfl
    have nx : leafBad wk l = false → ∀ j < i + 1, leafBad wk (ls.getD j []) = false := fun hb j hj => by
      by_cases q : j < i
      · exact hn j q
      · obtain rfl : j = i := by omega
        rw [← hl]
        exact hb
    refine ⟨l.map Int.ofNat, 0, by rw [List.map_map]; rfl, rfl, fun e => ?_, fun m hm hy => ?_⟩
    · have e : l = [] := List.map_eq_nil_iff.mp e
      walk_at "go"
      exact ⟨rfl, _, _, rfl, nx (by rw [lb, e]; rfl)⟩
    · walk_at "go"
      rw [max_any hm hy, ← lb]
      refine if2 (fun h4 => no h4 ?_) (fun h4 => sx_next ⟨rfl, _, _, rfl, nx h4⟩)
      walk_at "go"
      exact rfl
  · rintro ρ' ⟨_, s2, s3, rfl, hn⟩
    rw [enumD_len, List.length_map] at hn
    show (fst ls.length fun k => leafBad wk (ls.getD k [])).map (at_ "leaves") = none
    rw [fst_none hn]
    rfl
theorem mk_get {ms : List Mk} {i : Nat} (h : i < ms.length) : (ms.map mkD)[i]? = some (mkD (ms.getD i dfM)) := by simp [h]
theorem ok_look_makings (F : Fun K "look_at_makings" "look_at_makings" s_look_at_makings f fd) (T : Txt mg) (E_NoPaper : Exc2 Pg w K mg base "NoPaper" C "word" "at") (C_is_right_making : CGood Pg w K mg base) : FnGX Pg w K mg base 4 f fd ["works", "makings"] (spLM K C) := by
  have nd := sc_look_at_makings.nd
  refine fnGX_of F sc_look_at_makings pmX_len (fun cdv A ou s H vs Q E hgd hr h => ?_)
  have hu : (A.deeper (PyProof.Rows.envOfC "look_at_makings" (defScope s_look_at_makings) s.heap.objs.size f cdv)).units + 64 < cLine := by have := hr.un; omega
  refine ⟨_, (pss_cons (ps_if (pt_cmpR opGt (pe_callB (r := rLenA K) call_len (by rfl) T.b_len (by decide +kernel) (pa_cons (pv 1) pa_nil)) (pe_ix (r := rIx K) ix_seq (pv 0) pe_int (fun _ _ => rfl)) (nomark _)) (pss_one (ps_raise2 E_NoPaper (hr.mono (by first | decide | omega)) rfl (takes_of rfl rfl rfl rfl) (pa_cons pe_str (pa_cons (pe_un un_neg pe_int) pa_nil)))) pss_nil) (pss_one (ps_for (passes_of rfl) rfl (pi_enumT (by rfl) T.b_enumerate (pa_cons (pv 1) pa_nil)) (pg_tup (n := 2) rfl (pgs_cons (pg_name (i := 2) nd rfl (Or.inl rfl) (Or.inl rfl)) (pgs_cons (pg_name (i := 3) nd rfl (Or.inl rfl) (Or.inl rfl)) pgs_nil))) (pss_one (ps_if (PW.pt (pw_or (pt_not (pt_val (pe_fn C_is_right_making hgd (hr.mono (by first | decide | omega)) rfl (pa_cons (pv 0) (pa_cons (pv 3) pa_nil))))) (pw_or1 (PW.pt (pw_and (pt_cmpR opGt (pv 2) pe_int (nomark _)) (pw_and1 (pt_cmpR (r := rLtD K) (opLtD hu) (pv 3) (pe_ix (r := rIx K) ix_seq (pv 1) (pe_op opSub (pv 2) pe_int) (fun _ _ => rfl)) (nomark _)))))))) (pss_one (ps_raise2 E_NoPaper (hr.mono (by first | decide | omega)) rfl (takes_of rfl rfl rfl rfl) (pa_cons pe_str (pa_cons (pv 2) pa_nil)))) pss_nil))))), look_body (by decide) h encM7_inj fun W F0 ⟨wk, ms⟩ _ out => ?_⟩
  simp only at out
  change Sx K W H F0 _ [.dat (wkD wk), .dat (msD ms), .un, .un] _
  walk_at "go"
  rw [List.length_map]
  refine if2 (fun h1 => ?_) (fun h1 => ?_)
  · have h1 : wk.ln < ms.length := by have := of_decide_eq_true h1; omega
    refine sx_raise2 E_NoPaper.ox E_NoPaper.n1 E_NoPaper.n2 ?_
    walk_at "go"
    exact out "benches" (-1) (by unfold vMakings; rw [if_pos h1])
  have h1 : ¬ wk.ln < ms.length := by have := of_decide_eq_false h1; omega
  have ev : vMakings wk ms = (fst ms.length fun j => !mkGood wk (ms.getD j dfM) || mkDown ms j).map (at_ "making") := by unfold vMakings; rw [if_neg h1]
  rw [ev] at out ⊢
  refine sx_next ?_
  refine sx_for (fun es i ρ' => es = enumD (ms.map mkD) ∧ ∃ s2 s3, ρ' = [.dat (wkD wk), .dat (msD ms), s2, s3] ∧ ∀ j < i, (!mkGood wk (ms.getD j dfM) || mkDown ms j) = false) (evi_enum ?_)
  walk_at "go"
  refine ⟨⟨rfl, _, _, rfl, fun j h => absurd h (Nat.not_lt_zero _)⟩, ?_, ?_⟩
  · rintro i d ρ' hd ⟨_, s2, s3, rfl, hn⟩
    have hi : i < ms.length := by
      have := (List.getElem?_eq_some_iff.mp hd).1
      rwa [enumD_len, List.length_map] at this
    rw [enumD_get (mk_get hi)] at hd
    obtain rfl := Option.some.inj hd
    refine gs_tup rfl (gss_cons (gs_name trivial (gss_cons (gs_name trivial (gss_nil ?_)))))
    obtain ⟨m, hm⟩ : ∃ m, m = ms.getD i dfM := ⟨_, rfl⟩
    rw [← hm]
    change Sx K W H F0 _ [.dat (wkD wk), .dat (msD ms), .dat (num i), .dat (mkD m)] _
    have no : (!mkGood wk m || mkDown ms i) = true → ∀ {ta : TA} {N : DL.Ends2}, EvA K W H ta [.dat (wkD wk), .dat (msD ms), .dat (num i), .dat (mkD m)] (fun ss => ss = [.dat (.str "making"), .dat (num i)]) →
        Sx K W H F0 (fun _ σ H => tMkO C (initSp K "word" "at") [] ta σ H fun cls d H' => E cls d H') [.dat (wkD wk), .dat (msD ms), .dat (num i), .dat (mkD m)] N := fun hb {ta N} ha =>
      sx_raise2 E_NoPaper.ox E_NoPaper.n1 E_NoPaper.n2 (fun σ F H o ho Q q => ha σ F H o ho Q fun vs F' H' ss o' st hv e => q vs F' H' ss o' st hv ⟨.str "making", num i, e, out "making" i (by rw [fst_some hi (by rw [← hm]; exact hb) hn]; rfl)⟩)
    have nx : (!mkGood wk m || mkDown ms i) = false → ∀ j < i + 1, (!mkGood wk (ms.getD j dfM) || mkDown ms j) = false := fun hb j hj => by
      by_cases q : j < i
      · exact hn j q
      · obtain rfl : j = i := by omega
        rw [← hm]
        exact hb
    refine sx_if (et_or (et_not (et_B (ev_fnE ?_))))
    walk_at "go"
    refine ⟨(wk, m), rfl, by simp [encK, NoLs], rfl, trivial, _, rfl, ?_⟩
    refine if2 (fun h2 => ?_) (fun h2 => ?_)
    · refine ifT rfl (no ?_ ?_)
      · rw [show (!mkGood wk m) = true from h2]
        rfl
      · walk_at "go"
        exact rfl
    have h2 : (!mkGood wk m) = false := h2
    rw [h2, Bool.false_or] at no nx
    walk_at "go"
    refine if2 (fun h3 => ?_) (fun h3 => ?_)
    · have h3 : 0 < i := by have := of_decide_eq_true h3; omega
      walk_at "go"
      rw [show (i : Int) - 1 = ((i - 1 : Nat) : Int) by omega]
      refine ops_ix_tup (atI_nat (mk_get (show i - 1 < ms.length by omega))) ?_
      refine ops_ltD (alike_mk _ _) (fun z => by cases z) (Nat.le_trans (mk_dep _) (by decide)) ?_
      refine ⟨_, rfl, ?_⟩
      have ed : mkDown ms i = PySem.W.dataLt (mkD m) (mkD (ms.getD (i - 1) dfM)) := by
        unfold mkDown
        rw [decide_eq_true h3, Bool.true_and, ← hm]
      rw [← ed]
      refine if2 (fun h4 => no h4 ?_) (fun h4 => sx_next ⟨rfl, _, _, rfl, nx h4⟩)
      walk_at "go"
      exact rfl
    · have h3 : ¬ 0 < i := by have := of_decide_eq_false h3; omega
      refine ifF rfl (sx_next ⟨rfl, _, _, rfl, nx ?_⟩)
      unfold mkDown
      rw [decide_eq_false h3]
      rfl
  · rintro ρ' ⟨_, s2, s3, rfl, hn⟩
    rw [enumD_len, List.length_map] at hn
    show (fst ms.length fun j => !mkGood wk (ms.getD j dfM) || mkDown ms j).map (at_ "making") = none
    rw [fst_none hn]
    rfl
end
/-! ### lets_stand, is_right_stand -/
theorem judged_no {w : Wk} {d : D} (h : isStand d = false) : judged w d = some (("shape" : Str), -1) := by
  unfold judged
  rw [h]
  rfl
theorem wd_inj {w w' : Wk} {d d' : D} (e : ([.dat (wkD w), .dat d] : Rho) = [.dat (wkD w'), .dat d']) : w = w' ∧ d = d' := by
  injection e with e1 e
  injection e with e2 _
  injection e1 with e1
  injection e2 with e2
  exact ⟨wkD7_inj _ _ e1, e2⟩
abbrev spLets (K : PySem.W.Frag) (C : Addr) : Sp := PmX K 2 (fun _ ss => ∃ (w : Wk) (d : D), ss = [.dat (wkD w), .dat d] ∧ Fine d) (fun _ ss s => ∀ (w : Wk) (d : D), ss = [.dat (wkD w), .dat d] → judged w d = none ∧ s = .dat (.bool true))
  fun _ ss C' fs => C' = C ∧ ∀ (w : Wk) (d : D), ss = [.dat (wkD w), .dat d] → ∃ (x : Str) (i : Int), judged w d = some (x, i) ∧ fs = ([("at", .int i), ("word", .str x)] : List (Str × D))
abbrev CLets (Pg : Program) (w : World) (K : PySem.W.Frag) (mg : Str → Option Value) (base : Heap) (C : Addr) := FnX Pg w K mg base "lets_stand" 5 ["works", "thing"] (spLets K C)
abbrev spRight (K : PySem.W.Frag) : Sp := Pm K 2 (fun _ ss => ∃ (w : Wk) (d : D), ss = [.dat (wkD w), .dat d] ∧ Fine d) fun _ ss s => ∀ (w : Wk) (d : D), ss = [.dat (wkD w), .dat d] → s = .dat (.bool (judged w d).isNone)
abbrev CRight (Pg : Program) (w : World) (K : PySem.W.Frag) (mg : Str → Option Value) (base : Heap) := Fn Pg w K mg base "is_right_stand" 6 ["works", "thing"] (spRight K)
section
variable {Pg : Program} {w : World} {K : PySem.W.Frag} {mg : Str → Option Value} {base : Heap} {f C : Addr} {fd : FuncData}
theorem ok_lets (F : Fun K "lets_stand" "lets_stand" s_lets_stand f fd) (T : Txt mg) (E_NoPaper : Exc2 Pg w K mg base "NoPaper" C "word" "at") (C_is_stand : CStand Pg w K mg base) (C_look_at_uses : CLU Pg w K mg base C) (C_look_at_leaves : CLL Pg w K mg base C) (C_look_at_makings : CLM Pg w K mg base C) :
    FnGX Pg w K mg base 5 f fd ["works", "thing"] (spLets K C) := by
  have nd := sc_lets_stand.nd
  refine fnGX_of F sc_lets_stand pmX_len (fun cdv A ou s H vs Q E hgd hr h => ?_)
  have hu : (A.deeper (PyProof.Rows.envOfC "lets_stand" (defScope s_lets_stand) s.heap.objs.size f cdv)).units + 64 < cLine := by have := hr.un; omega
  refine ⟨_, (pss_cons (ps_if (pt_not (pt_val (pe_fn C_is_stand hgd (hr.mono (by first | decide | omega)) rfl (pa_cons (pv 1) pa_nil)))) (pss_one (ps_raise2 E_NoPaper (hr.mono (by first | decide | omega)) rfl (takes_of rfl rfl rfl rfl) (pa_cons pe_str (pa_cons (pe_un un_neg pe_int) pa_nil)))) pss_nil) (pss_cons (ps_asg (pv 1) (pg_tup (n := 6) rfl (pgs_cons (pg_name (i := 2) nd rfl (Or.inl rfl) (Or.inl rfl)) (pgs_cons (pg_name (i := 3) nd rfl (Or.inl rfl) (Or.inl rfl)) (pgs_cons (pg_name (i := 4) nd rfl (Or.inl rfl) (Or.inl rfl)) (pgs_cons (pg_name (i := 5) nd rfl (Or.inl rfl) (Or.inl rfl)) (pgs_cons (pg_name (i := 6) nd rfl (Or.inl rfl) (Or.inl rfl)) (pgs_cons (pg_name (i := 7) nd rfl (Or.inl rfl) (Or.inl rfl)) pgs_nil)))))))) (pss_cons (ps_expr (pe_fnX C_look_at_uses (takes_of rfl rfl rfl rfl) hgd (hr.mono (by first | decide | omega)) rfl (pa_cons (pv 0) (pa_cons (pv 2) pa_nil)))) (pss_cons (ps_expr (pe_fnX C_look_at_leaves (takes_of rfl rfl rfl rfl) hgd (hr.mono (by first | decide | omega)) rfl (pa_cons (pv 0) (pa_cons (pv 3) pa_nil)))) (pss_cons (ps_if (pt_cmpR opGt (pv 4) (pe_ix (r := rIx K) ix_seq (pe_ix (r := rIx K) ix_seq (pv 0) pe_int (fun _ _ => rfl)) pe_int (fun _ _ => rfl)) (nomark _)) (pss_one (ps_raise2 E_NoPaper (hr.mono (by first | decide | omega)) rfl (takes_of rfl rfl rfl rfl) (pa_cons pe_str (pa_cons (pe_un un_neg pe_int) pa_nil)))) pss_nil) (pss_cons (ps_expr (pe_fnX C_look_at_makings (takes_of rfl rfl rfl rfl) hgd (hr.mono (by first | decide | omega)) rfl (pa_cons (pv 0) (pa_cons (pv 5) pa_nil)))) (pss_cons (ps_if (pt_not (pt_chain opLe opLe pe_int (pv 6) (pe_ix (r := rIx K) ix_seq (pe_ix (r := rIx K) ix_seq (pv 0) pe_int (fun _ _ => rfl)) pe_int (fun _ _ => rfl)))) (pss_one (ps_raise2 E_NoPaper (hr.mono (by first | decide | omega)) rfl (takes_of rfl rfl rfl rfl) (pa_cons pe_str (pa_cons (pe_un un_neg pe_int) pa_nil)))) pss_nil) (pss_cons (ps_if (pt_cmpR opGt (pv 7) (pe_ix (r := rIx K) ix_seq (pe_ix (r := rIx K) ix_seq (pv 0) pe_int (fun _ _ => rfl)) pe_int (fun _ _ => rfl)) (nomark _)) (pss_one (ps_raise2 E_NoPaper (hr.mono (by first | decide | omega)) rfl (takes_of rfl rfl rfl rfl) (pa_cons pe_str (pa_cons (pe_un un_neg pe_int) pa_nil)))) pss_nil) (pss_one (ps_ret pe_bl)))))))))), pmX_body (by decide) h fun W F0 ss hl ⟨wk, d, hss, fine⟩ ke => ?_⟩
  subst hss
  have out : ∀ (x : Str) (i : Int), judged wk d = some (x, i) → ∀ dd F' H', Ok W F' H' → Step W F0 H F' H' → Er K W F' H' dd [("at", .int i), ("word", .str x)] → E (.ref C) (some dd) H' := fun x i hj dd F' H' o' st' er =>
    ke C dd _ F' H' o' st' er ⟨rfl, fun w' d' e => by
      obtain ⟨rfl, rfl⟩ := wd_inj e
      exact ⟨x, i, hj, rfl⟩⟩
  change Sx K W H F0 _ [.dat (wkD wk), .dat d, .un, .un, .un, .un, .un, .un] _
  walk_at "go"
  refine ⟨fine, _, rfl, ?_⟩
  refine if2 (fun h1 => ?_) (fun h1 => ?_)
  · rw [Bool.not_eq_true'] at h1
    refine sx_raise2 E_NoPaper.ox E_NoPaper.n1 E_NoPaper.n2 ?_
    walk_at "go"
    exact out "shape" (-1) (judged_no h1)
  rw [Bool.not_eq_false'] at h1
  obtain ⟨t, rfl, _⟩ := stand_st h1
  have jd := judged_st (w := wk) h1
  rw [jd] at out
  obtain ⟨us, ls, st, ms, ph, rs⟩ := t
  have fl : Fine (lsD ls) := fine.tup (List.mem_cons_of_mem _ List.mem_cons_self)
  refine sx_next (sx_seq (sx_asgG ?_))
  walk_at "go"
  refine gs_tup rfl (gss_cons (gs_name trivial (gss_cons (gs_name trivial (gss_cons (gs_name trivial (gss_cons (gs_name trivial (gss_cons (gs_name trivial (gss_cons (gs_name trivial (gss_nil ?_)))))))))))))
  obtain ⟨dd, hdd⟩ : ∃ dd, dd = stD ⟨us, ls, st, ms, ph, rs⟩ := ⟨_, rfl⟩
  rw [← hdd] at jd ⊢
  change Sx K W H F0 _ [.dat (wkD wk), .dat dd, .dat (rowD us), .dat (lsD ls), .dat (num st), .dat (msD ms), .dat (num ph), .dat (num rs)] _
  refine sx_seq (sx_look (enc := encU) (ok := fun _ => True) (v := fun p => vUses p.1 p.2) ?_)
  walk_at "go"
  refine ⟨(wk, us), rfl, by simp [encU, NoLs], rfl, trivial, fun n1 => ?_, fun x i hv => out x i (by unfold vStand; rw [show vUses wk us = _ from hv]; rfl)⟩
  have n1 : vUses wk us = none := n1
  refine sx_seq (sx_look (enc := encL) (ok := fun p => Fine (lsD p.2)) (v := fun p => vLeaves p.1 p.2) ?_)
  walk_at "go"
  refine ⟨(wk, ls), rfl, by simp [encL, NoLs], rfl, fl, fun n2 => ?_, fun x i hv => out x i (by unfold vStand; rw [n1, show vLeaves wk ls = _ from hv]; rfl)⟩
  have n2 : vLeaves wk ls = none := n2
  walk_at "go"
  refine if2 (fun h3 => ?_) (fun h3 => ?_)
  · have h3 : wk.st < st := by have := of_decide_eq_true h3; omega
    refine sx_raise2 E_NoPaper.ox E_NoPaper.n1 E_NoPaper.n2 ?_
    walk_at "go"
    exact out "store" (-1) (by unfold vStand; rw [n1, n2, show vStore wk st = _ from if_pos h3]; rfl)
  have n3 : vStore wk st = none := if_neg (by have := of_decide_eq_false h3; omega)
  refine sx_next ?_
  refine sx_seq (sx_look (enc := encM7) (ok := fun _ => True) (v := fun p => vMakings p.1 p.2) ?_)
  walk_at "go"
  refine ⟨(wk, ms), rfl, by simp [encM7, NoLs], rfl, trivial, fun n4 => ?_, fun x i hv => out x i (by unfold vStand; rw [n1, n2, n3, show vMakings wk ms = _ from hv]; rfl)⟩
  have n4 : vMakings wk ms = none := n4
  walk_at "go"
  have tail : vPhase wk ph = none → Sx K W H F0 (tSeq (tIfS (tTest (tOp rGt2 (tVar 7) (tOp (rIx K) (tOp (rIx K) (tVar 0) (tC (V.int 5))) (tC (V.int 1)))))
      (fun _ σ H => tMkO C (initSp K "word" "at") [] (tCons (tC (.str "rest")) (tCons (tUn (rU fun i => .int (-i)) (tC (.int 1))) tNil)) σ H fun cls d H' => E cls d H') tNext) (tRet (tC (.bl true))))
      [.dat (wkD wk), .dat dd, .dat (rowD us), .dat (lsD ls), .dat (num st), .dat (msD ms), .dat (num ph), .dat (num rs)]
      { nx := fun _ => ∀ (w : Wk) (d : D), ([.dat (wkD wk), .dat dd] : Rho) = [.dat (wkD w), .dat d] → judged w d = none ∧ Sl.dat .none = .dat (.bool true), rt := fun s => ∀ (w : Wk) (d : D), ([.dat (wkD wk), .dat dd] : Rho) = [.dat (wkD w), .dat d] → judged w d = none ∧ s = .dat (.bool true) } := fun n5 => by
    walk_at "go"
    refine if2 (fun h6 => ?_) (fun h6 => ?_)
    · have h6 : wk.re < rs := by have := of_decide_eq_true h6; omega
      refine sx_raise2 E_NoPaper.ox E_NoPaper.n1 E_NoPaper.n2 ?_
      walk_at "go"
      exact out "rest" (-1) (by unfold vStand; rw [n1, n2, n3, n4, n5, show vRest wk rs = _ from if_pos h6]; rfl)
    · have n6 : vRest wk rs = none := if_neg (by have := of_decide_eq_false h6; omega)
      walk_at "go"
      intro w' d' e
      obtain ⟨rfl, rfl⟩ := wd_inj e
      rw [jd]
      exact ⟨by unfold vStand; rw [n1, n2, n3, n4, n5, n6]; rfl, rfl⟩
  refine if2 (fun h5 => ?_) (fun h5 => ?_)
  · walk_at "go"
    refine if2 (fun h6 => ?_) (fun h6 => ?_)
    · have n5 : vPhase wk ph = some (("phase" : Str), -1) := if_neg (by rw [Bool.not_eq_true'] at h6; have := of_decide_eq_false h6; omega)
      refine sx_raise2 E_NoPaper.ox E_NoPaper.n1 E_NoPaper.n2 ?_
      walk_at "go"
      exact out "phase" (-1) (by unfold vStand; rw [n1, n2, n3, n4, n5]; rfl)
    · refine sx_next (tail (if_pos ?_))
      rw [Bool.not_eq_false'] at h6
      have := of_decide_eq_true h6
      have := of_decide_eq_true h5
      omega
  · have n5 : vPhase wk ph = some (("phase" : Str), -1) := if_neg (by have := of_decide_eq_false h5; omega)
    refine ⟨_, rfl, ifT rfl ?_⟩
    refine sx_raise2 E_NoPaper.ox E_NoPaper.n1 E_NoPaper.n2 ?_
    walk_at "go"
    exact out "phase" (-1) (by unfold vStand; rw [n1, n2, n3, n4, n5]; rfl)
theorem ok_right_stand (F : Fun K "is_right_stand" "is_right_stand" s_is_right_stand f fd) (T : Txt mg) (E_NoPaper : Exc2 Pg w K mg base "NoPaper" C "word" "at") (C_lets_stand : CLets Pg w K mg base C) : FnG Pg w K mg base 6 f fd ["works", "thing"] (spRight K) := by
  have nd := sc_is_right_stand.nd
  refine fnG_of F sc_is_right_stand pm_len (fun cdv A ou s H vs Q hgd hr h => ?_)
  refine ⟨_, (pss_one (ps_try_only rfl rfl ⟨rfl, by decide, .inl E_NoPaper.g⟩ takesN (fun W pn xe tk _ => (pss_one (ps_ret (pe_fnX C_lets_stand tk hgd (hr.mono (by first | decide | omega)) rfl (pa_cons (pv 0) (pa_cons (pv 1) pa_nil)))))) (fun a oe cls d pn _ _ => (pss_one (ps_ret pe_bl))))), pm_body (ts := fun D σ H => tRet (tCallS (spLets K C) (WE (wOnly K (.ref C) (fun _ _ _ => tRet (tC (.bl false))) (fun _ _ _ _ => False) D)) (tCons (tVar 0) (tCons (tVar 1) tNil))) D σ H) (by decide) h fun W F0 ss hl ⟨wk, d, hss, hd⟩ => ?_⟩
  subst hss
  have fin : ∀ {b : Bool}, b = (judged wk d).isNone → ∀ (w' : Wk) (d' : D), ([.dat (wkD wk), .dat d] : Rho) = [.dat (wkD w'), .dat d'] → Sl.dat (.bool b) = .dat (.bool (judged w' d').isNone) := fun hb w' d' e => by
    obtain ⟨rfl, rfl⟩ := wd_inj e
    rw [hb]
  change Sx K W H F0 _ [.dat (wkD wk), .dat d] _
  refine sx_try_ret (K := K) (W := W) (H0 := H) (F0 := F0) (tx := fun Wx => tCallS (spLets K C) (WE Wx) (tCons (tVar 0) (tCons (tVar 1) tNil))) (ts := fun _ _ _ => tRet (tC (.bl false))) (c := .ref C) (fun C' fs => C' = C ∧ ∃ x i, judged wk d = some (x, i)) ?_ (fun C' fs h => ?_) (fun C' fs h a d' => ?_)
  · refine evx_fn (ea_cons (ev_varx ⟨_, rfl, ea_cons (ev_varx ⟨_, rfl, ea_nil ⟨?_, rfl, ⟨wk, d, rfl, hd⟩, fun s hs => ?_, fun C' fs hs => ⟨hs.1, ?_⟩⟩⟩)⟩))
    · simp [NoLs]
    · obtain ⟨h1, rfl⟩ := hs wk d rfl
      exact fin (by rw [h1]; rfl)
    · obtain ⟨x, i, h1, _⟩ := hs.2 wk d rfl
      exact ⟨x, i, h1⟩
  · rw [h.1]
    exact E_NoPaper.me
  · obtain ⟨_, x, i, h1⟩ := h
    refine sx_ret (ev_bl ?_)
    exact fin (by rw [h1]; rfl)
end
end K19

namespace K19
open PySem L2 RZ DL
/-! the walk by data -/
local macro_rules | `(tactic| walk_at "dl") => `(tactic| first
  | with_reducible first
    | refine sx_seq ?_ | refine sx_if ?_ | refine sx_next ?_
    | refine et_not ?_ | refine et_B ?_ | refine et_test ?_ | refine et_and ?_ | refine et_or ?_ | refine et_yes ?_
    | refine ev_and ?_ | refine ev_or ?_ | refine ev_not ?_ | refine ev_if ?_ | refine ev_chain ?_
    | refine ev_int ?_ | refine ev_bl ?_ | refine ev_str ?_ | refine ev_non ?_ | refine ev_c ?_
    | refine ev_op ?_ | refine ev_un ?_ | refine ev_cb ?_ | refine ev_fn1 ?_ | refine ev_fn2 ?_ | refine ev_sl ?_ | refine eo_none ?_ | refine eo_some ?_ | refine ev_tup ?_
    | refine ea_cons ?_ | refine ea_nil ?_
    | refine ops_ge ?_ | refine ops_le ?_ | refine ops_gt ?_ | refine ops_lt ?_ | refine ops_leS ?_ | refine ops_ltS ?_ | refine ops_add_int ?_ | refine ops_sub ?_ | refine ops_isN ?_ | refine ops_isNot ?_ | refine ops_eq_int ?_ | refine ops_eqS ?_ | refine ops_neS ?_
    | refine cas_len_tup ?_ | refine cas_isi_int ?_ | refine cas_isi_bool ?_ | refine cas_isi_str ?_ | refine cas_isi_tup ?_ | refine cas_isi_lst ?_
    | refine iteT ?_ | refine iteF ?_ | refine and_nols ?_
  | ((with_reducible refine ev_varx ?_); refine ⟨_, rfl, ?_⟩)
  | ((with_reducible refine ops_ix_tupx ?_); first | refine ⟨_, rfl, ?_⟩ | refine ⟨_, atI_nat (j := 0) rfl, ?_⟩ | refine ⟨_, atI_nat (j := 1) rfl, ?_⟩ | refine ⟨_, atI_nat (j := 2) rfl, ?_⟩ | refine ⟨_, atI_nat (j := 3) rfl, ?_⟩ | refine ⟨_, atI_nat (j := 4) rfl, ?_⟩ | refine ⟨_, atI_nat (j := 5) rfl, ?_⟩ | refine ⟨_, atI_nat (j := 6) rfl, ?_⟩)
  | ((with_reducible refine sz_and ?_ ?_); exact rfl)
  | ((with_reducible refine ev_ownx ?_); refine ⟨_, rfl, ?_⟩)
  | ((with_reducible refine ev_refx ?_); refine ⟨_, rfl, ?_⟩)
  | (with_reducible refine sxn_seq ?_) | (with_reducible refine uns_neg ?_) | (with_reducible refine ev_frz (evn_lst ?_)) | (with_reducible refine sls_tup ?_) | (refine ev_revT ?_)
  | ((refine sx_extx ?_); refine ⟨_, rfl, ?_⟩) | ((with_reducible refine ops_add_tup ?_ ?_); exact le_line rfl) | (with_reducible refine cas_listT ?_)
  | ((with_reducible refine ifT ?_ ?_); exact rfl) | ((with_reducible refine ifF ?_ ?_); exact rfl))
local macro_rules | `(tactic| walk_at "go") => `(tactic| repeat (first | walk_at "dl" | with_reducible refine ⟨_, rfl, ?_⟩ | with_reducible refine ⟨_, _, rfl, ?_⟩))
/-! ### pairings let by -/
inductive Verd18 where
  | told
  | no (x : Str) (i : Int)
def bad1 (a : St) (ks : List Nat) (j : Nat) : Bool := decide (a.ms.length ≤ gd ks j) || (ks.take j).contains (gd ks j)
def bad2 (a b : St) (ks : List Nat) (j : Nat) : Bool := !fits (a.ms.getD (gd ks j) dfM) (b.ms.getD j dfM)
def verdict18 (a b : St) (ks : List Nat) : Verd18 := if ks.length = b.ms.length then (match fst ks.length (bad1 a ks) with
  | some j => .no "number" j
  | none => match fst ks.length (bad2 a b ks) with
    | some j => .no "pair" j
    | none => .told) else .no "many" (-1)
def natsOf18 : D → List Nat
  | .tuple ds => ds.map toN
  | _ => []
theorem nats_row18 (ks : List Nat) : natsOf18 (rowD ks) = ks := by
  show (ks.map num).map toN = ks
  rw [List.map_map]
  have e : toN ∘ num = id := by
    funext n
    rfl
  rw [e, List.map_id]
def judged18 (a b : St) (d : D) : Verd18 := if areNums d = true then verdict18 a b (natsOf18 d) else .no "shape" (-1)
theorem judged_row18 (a b : St) (ks : List Nat) : judged18 a b (rowD ks) = verdict18 a b ks := by
  unfold judged18
  rw [if_pos (show areNums (rowD ks) = true from nums_all ks), nats_row18]
theorem judged_no18 {a b : St} {d : D} (h : areNums d = false) : judged18 a b d = .no "shape" (-1) := by
  unfold judged18
  rw [if_neg (by rw [h]; exact Bool.false_ne_true)]
structure At3 where
  a : St
  b : St
  d : D
def encL18 (p : At3) : Rho := [.dat (stD p.a), .dat (stD p.b), .dat p.d]
theorem encL_inj18 (p q : At3) (h : encL18 p = encL18 q) : p = q := by
  obtain ⟨a, b, d⟩ := p
  obtain ⟨a', b', d'⟩ := q
  injection h with h1 h
  injection h with h2 h
  injection h with h3 _
  injection h1 with h1
  injection h2 with h2
  injection h3 with h3
  obtain rfl := stD_inj _ _ h1
  obtain rfl := stD_inj _ _ h2
  obtain rfl : d = d' := h3
  rfl
abbrev spLets18 (K : PySem.W.Frag) (C : Addr) : Sp := PmX K 3 (fun _ ss => ∃ p : At3, ss = encL18 p ∧ okS p.a ∧ okS p.b ∧ Fine p.d) (fun _ ss s => ∀ p : At3, ss = encL18 p → judged18 p.a p.b p.d = .told ∧ s = .dat (.bool true))
  fun _ ss C' fs => C' = C ∧ ∀ p : At3, ss = encL18 p → ∃ (x : Str) (i : Int), judged18 p.a p.b p.d = .no x i ∧ fs = ([("at", .int i), ("word", .str x)] : List (Str × D))
abbrev CLets18 (Pg : Program) (w : World) (K : PySem.W.Frag) (mg : Str → Option Value) (base : Heap) (C : Addr) := FnX Pg w K mg base "lets_pairing" 3 ["stand", "other", "thing"] (spLets18 K C)
theorem ms_get {a : St} {k : Nat} (h : k < a.ms.length) : (a.ms.map mkD)[k]? = some (mkD (a.ms.getD k dfM)) := by
  simp [h]
theorem ms_mem {a : St} {k : Nat} (h : k < a.ms.length) : a.ms.getD k dfM ∈ a.ms := by
  simp [h]
theorem fine_take {ks : List Nat} (h : Fine (rowD ks)) (i : Nat) : Fine (.tuple ((ks.map num).take i)) := by
  have b : Bd big 250000 40 (rowD ks) := ⟨h.ok, h.wt, h.dep⟩
  exact (bd_tup.mpr (bds_sub (bd_tup.mp b) (List.take_sublist _ _))).fine (Nat.le_refl _) (Nat.le_refl _) (Nat.le_refl _)
theorem any_num {ks : List Nat} {k : Nat} : ((ks.map num).any fun z => PyData.eqv z (num k)) = ks.contains k := by
  rw [List.any_map]
  induction ks with
  | nil => rfl
  | cons x r ih =>
    rw [List.any_cons, ih, List.contains_cons]
    congr 1
    show PyData.eqv (num x) (num k) = _
    rw [eqv_num]
    by_cases q : x = k
    · subst q
      simp
    · rw [decide_eq_false q]
      exact (beq_eq_false_iff_ne.mpr fun z => q z.symm).symm
section
variable {Pg : Program} {w : World} {K : PySem.W.Frag} {mg : Str → Option Value} {base : Heap} {f C : Addr} {fd : FuncData}
theorem ok_lets18 (F : Fun K "lets_pairing" "lets_pairing" s_lets_pairing f fd) (T : Txt mg) (E_NoPaper : Exc2 Pg w K mg base "NoPaper" C "word" "at") (C_are_numbers : CNums Pg w K mg base) (C_making_covers : CMaking Pg w K mg base) : FnGX Pg w K mg base 3 f fd ["stand", "other", "thing"] (spLets18 K C) := by
  have nd := sc_lets_pairing.nd
  refine fnGX_of F sc_lets_pairing pmX_len (fun cdv A ou s H vs Q E hgd hr h => ?_)
  have hu : (A.deeper (PyProof.Rows.envOfC "lets_pairing" (defScope s_lets_pairing) s.heap.objs.size f cdv)).units + 64 < cLine := by have := hr.un; omega
  have hu5 : (A.deeper (PyProof.Rows.envOfC "lets_pairing" (defScope s_lets_pairing) s.heap.objs.size f cdv)).units + 65 < cLine := by have := hr.un; omega
  refine ⟨_, (pss_cons (ps_if (pt_not (pt_val (pe_fn C_are_numbers hgd (hr.mono (by first | decide | omega)) rfl (pa_cons (pv 2) pa_nil)))) (pss_one (ps_raise2 E_NoPaper (hr.mono (by first | decide | omega)) rfl (takes_of rfl rfl rfl rfl) (pa_cons pe_str (pa_cons (pe_un un_neg pe_int) pa_nil)))) pss_nil) (pss_cons (ps_if (pt_cmpR (r := rNe2 K) (opNe hu) (pe_callB (r := rLenA K) call_len (by rfl) T.b_len (by decide +kernel) (pa_cons (pv 2) pa_nil)) (pe_callB (r := rLenA K) call_len (by rfl) T.b_len (by decide +kernel) (pa_cons (pe_ix (r := rIx K) ix_seq (pv 1) pe_int (fun _ _ => rfl)) pa_nil)) (nomark _)) (pss_one (ps_raise2 E_NoPaper (hr.mono (by first | decide | omega)) rfl (takes_of rfl rfl rfl rfl) (pa_cons pe_str (pa_cons (pe_un un_neg pe_int) pa_nil)))) pss_nil) (pss_cons (ps_for (passes_of rfl) rfl (pi_enumT (by rfl) T.b_enumerate (pa_cons (pv 2) pa_nil)) (pg_tup (n := 2) rfl (pgs_cons (pg_name (i := 3) nd rfl (Or.inl rfl) (Or.inl rfl)) (pgs_cons (pg_name (i := 4) nd rfl (Or.inl rfl) (Or.inl rfl)) pgs_nil))) (pss_one (ps_if (PW.pt (pw_or (pt_cmpR opGe (pv 4) (pe_callB (r := rLenA K) call_len (by rfl) T.b_len (by decide +kernel) (pa_cons (pe_ix (r := rIx K) ix_seq (pv 0) pe_int (fun _ _ => rfl)) pa_nil)) (nomark _)) (pw_or1 (pt_cmpR (r := rIn2 K) (opIn hu5) (pv 4) (pe_slice (r := rSl3 K) slAny (pv 2) po_none (po_some (pv 3))) (by rfl))))) (pss_one (ps_raise2 E_NoPaper (hr.mono (by first | decide | omega)) rfl (takes_of rfl rfl rfl rfl) (pa_cons pe_str (pa_cons (pv 3) pa_nil)))) pss_nil))) (pss_cons (ps_for (passes_of rfl) rfl (pi_enumT (by rfl) T.b_enumerate (pa_cons (pv 2) pa_nil)) (pg_tup (n := 2) rfl (pgs_cons (pg_name (i := 3) nd rfl (Or.inl rfl) (Or.inl rfl)) (pgs_cons (pg_name (i := 4) nd rfl (Or.inl rfl) (Or.inl rfl)) pgs_nil))) (pss_one (ps_if (pt_not (pt_val (pe_fn C_making_covers hgd (hr.mono (by first | decide | omega)) rfl (pa_cons (pe_ix (r := rIx K) ix_seq (pe_ix (r := rIx K) ix_seq (pv 0) pe_int (fun _ _ => rfl)) (pv 4) (fun _ _ => rfl)) (pa_cons (pe_ix (r := rIx K) ix_seq (pe_ix (r := rIx K) ix_seq (pv 1) pe_int (fun _ _ => rfl)) (pv 3) (fun _ _ => rfl)) pa_nil))))) (pss_one (ps_raise2 E_NoPaper (hr.mono (by first | decide | omega)) rfl (takes_of rfl rfl rfl rfl) (pa_cons pe_str (pa_cons (pv 3) pa_nil)))) pss_nil))) (pss_one (ps_ret pe_bl)))))), pmX_body (by decide) h fun W F0 ss hl ⟨⟨a, b, d⟩, hss, oa, ob, fine⟩ ke => ?_⟩
  subst hss
  simp only at oa ob fine
  have m1 : a.ms.length ≤ 4 := oa.many
  have m2 : b.ms.length ≤ 4 := ob.many
  have enc2 : ∀ p : At3, encL18 ⟨a, b, d⟩ = encL18 p → p = ⟨a, b, d⟩ := fun p e => (encL_inj18 _ _ e).symm
  have out : ∀ (x : Str) (i : Int), judged18 a b d = .no x i → ∀ dd F' H', Ok W F' H' → Step W F0 H F' H' → Er K W F' H' dd [("at", .int i), ("word", .str x)] → E (.ref C) (some dd) H' := fun x i hj dd F' H' o' st' er =>
    ke C dd _ F' H' o' st' er ⟨rfl, fun p e => by rw [enc2 p e]; exact ⟨x, i, hj, rfl⟩⟩
  change Sx K W H F0 _ [.dat (stD a), .dat (stD b), .dat d, .un, .un] _
  walk_at "go"
  refine ⟨fine, _, rfl, ?_⟩
  refine if2 (fun h1 => ?_) (fun h1 => ?_)
  · rw [Bool.not_eq_true'] at h1
    refine sx_raise2 E_NoPaper.ox E_NoPaper.n1 E_NoPaper.n2 ?_
    walk_at "go"
    exact out "shape" (-1) (judged_no18 h1)
  rw [Bool.not_eq_false'] at h1
  obtain ⟨ks, rfl⟩ := nums_is h1
  rw [judged_row18] at out
  refine sx_next ?_
  refine sx_seq (sx_if ?_)
  walk_at "go"
  refine ops_ix_tup (ds := [rowD b.us, .tuple (b.ls.map rowD), num b.st, .tuple (b.ms.map mkD), num b.ph, num b.rs]) (atI_nat (j := 3) rfl) ?_
  walk_at "go"
  refine ops_ne (shaped_int _) (shaped_int _) ⟨_, rfl, ?_⟩
  rw [List.length_map, List.length_map, eqv_num]
  have rz : ∀ {ρ : Rho} {N : DL.Ends2} {ta : TA} (x : Str) (i : Int), verdict18 a b ks = .no x i → EvA K W H ta ρ (fun ss => ss = [.dat (.str x), .dat (.int i)]) →
      Sx K W H F0 (fun _ σ H => tMkO C (initSp K "word" "at") [] ta σ H fun cls d H' => E cls d H') ρ N := fun {ρ N ta} x i hv ha =>
    sx_raise2 E_NoPaper.ox E_NoPaper.n1 E_NoPaper.n2 fun σ F H k ho R q => ha σ F H k ho R fun vs F' H' ss o' st hv' e => q vs F' H' ss o' st hv' ⟨.str x, .int i, e, out x i hv⟩
  by_cases hm : ks.length = b.ms.length
  · refine ifN (by rw [decide_eq_true hm]; rfl) ?_
    refine sx_next ?_
    have key : ∀ {i : Nat} {q : Nat → Bool}, q i = false → (∀ j < i, q j = false) → ∀ j < i + 1, q j = false := fun {i q} h h0 j hj => by
      by_cases z : j < i
      · exact h0 j z
      · obtain rfl : j = i := by omega
        exact h
    refine sx_seq (sx_for (fun es i ρ' => es = enumD (ks.map num) ∧ ∃ s3 s4, ρ' = [.dat (stD a), .dat (stD b), .dat (rowD ks), s3, s4] ∧ ∀ j < i, bad1 a ks j = false) (evi_enum ?_))
    walk_at "go"
    refine ⟨⟨rfl, _, _, rfl, fun j h => absurd h (Nat.not_lt_zero _)⟩, ?_, ?_⟩
    · rintro i z ρ' hz ⟨_, s3, s4, rfl, h0⟩
      have hi : i < ks.length := by
        have := (List.getElem?_eq_some_iff.mp hz).1
        rwa [enumD_len, List.length_map] at this
      rw [enumD_get (gd_get hi)] at hz
      obtain rfl := Option.some.inj hz
      refine gs_tup rfl (gss_cons (gs_name trivial (gss_cons (gs_name trivial (gss_nil ?_)))))
      change Sx K W H F0 _ [.dat (stD a), .dat (stD b), .dat (rowD ks), .dat (num i), .dat (num (gd ks i))] _
      refine sx_if ?_
      walk_at "go"
      refine ops_ix_tup (ds := [rowD a.us, .tuple (a.ls.map rowD), num a.st, .tuple (a.ms.map mkD), num a.ph, num a.rs]) (atI_nat (j := 3) rfl) ?_
      walk_at "go"
      rw [List.length_map, nat_dec]
      refine if2 (fun h2 => ?_) (fun h2 => ?_)
      · have e := fst_some hi (p := bad1 a ks) (by unfold bad1; rw [h2]; rfl) h0
        refine rz "number" i (by unfold verdict18; rw [if_pos hm, e]) ?_
        walk_at "go"
        rfl
      · walk_at "go"
        have sh : SeqAt.shaped (.tuple (cutD (ks.map num) none (some (i : Int)))) = true := by
          rw [cut_to (by rw [List.length_map]; omega)]
          exact (fine_take fine i).shaped
        refine ops_in_tup (shaped_int _) sh ?_
        rw [cut_to (by rw [List.length_map]; omega), ← List.map_take, any_num]
        refine ⟨_, rfl, if2 (fun h3 => ?_) (fun h3 => ?_)⟩
        · have e := fst_some hi (p := bad1 a ks) (by unfold bad1; rw [h2, h3]; rfl) h0
          refine rz "number" i (by unfold verdict18; rw [if_pos hm, e]) ?_
          walk_at "go"
          rfl
        · exact sx_next ⟨rfl, _, _, rfl, key (by unfold bad1; rw [h2, h3]; rfl) h0⟩
    rintro ρ' ⟨_, s3, s4, rfl, q1⟩
    rw [enumD_len, List.length_map] at q1
    have v1 := fst_none q1
    refine sx_seq (sx_for (fun es i ρ' => es = enumD (ks.map num) ∧ ∃ s3 s4, ρ' = [.dat (stD a), .dat (stD b), .dat (rowD ks), s3, s4] ∧ ∀ j < i, bad2 a b ks j = false) (evi_enum ?_))
    walk_at "go"
    refine ⟨⟨rfl, _, _, rfl, fun j h => absurd h (Nat.not_lt_zero _)⟩, ?_, ?_⟩
    · rintro i z ρ' hz ⟨_, s3, s4, rfl, h0⟩
      have hi : i < ks.length := by
        have := (List.getElem?_eq_some_iff.mp hz).1
        rwa [enumD_len, List.length_map] at this
      rw [enumD_get (gd_get hi)] at hz
      obtain rfl := Option.some.inj hz
      have hk : gd ks i < a.ms.length := by
        have := q1 i hi
        unfold bad1 at this
        rw [Bool.or_eq_false_iff] at this
        have := of_decide_eq_false this.1
        omega
      refine gs_tup rfl (gss_cons (gs_name trivial (gss_cons (gs_name trivial (gss_nil ?_)))))
      change Sx K W H F0 _ [.dat (stD a), .dat (stD b), .dat (rowD ks), .dat (num i), .dat (num (gd ks i))] _
      refine sx_if (et_not (et_B (ev_fnE ?_)))
      walk_at "go"
      refine ops_ix_tup (ds := [rowD a.us, .tuple (a.ls.map rowD), num a.st, .tuple (a.ms.map mkD), num a.ph, num a.rs]) (atI_nat (j := 3) rfl) ?_
      walk_at "go"
      refine ops_ix_tup (atI_nat (ms_get hk)) ?_
      walk_at "go"
      refine ops_ix_tup (ds := [rowD b.us, .tuple (b.ls.map rowD), num b.st, .tuple (b.ms.map mkD), num b.ph, num b.rs]) (atI_nat (j := 3) rfl) ?_
      walk_at "go"
      refine ops_ix_tup (atI_nat (ms_get (by omega))) ?_
      walk_at "go"
      refine ⟨(a.ms.getD (gd ks i) dfM, b.ms.getD i dfM), rfl, by simp [encM, NoLs], rfl, ⟨oa.ms _ (ms_mem hk), ob.ms _ (ms_mem (by omega))⟩, _, rfl, ?_⟩
      refine if2 (fun h2 => ?_) (fun h2 => ?_)
      · have e := fst_some hi (p := bad2 a b ks) h2 h0
        refine rz "pair" i (by unfold verdict18; rw [if_pos hm, v1]; simp only; rw [e]) ?_
        walk_at "go"
        rfl
      · exact sx_next ⟨rfl, _, _, rfl, key h2 h0⟩
    rintro ρ' ⟨_, s3, s4, rfl, q2⟩
    rw [enumD_len, List.length_map] at q2
    have v2 := fst_none q2
    refine sx_ret ?_
    walk_at "go"
    intro p e
    rw [enc2 p e, judged_row18]
    refine ⟨?_, rfl⟩
    unfold verdict18
    rw [if_pos hm, v1]
    simp only
    rw [v2]
  · refine ifY (by rw [decide_eq_false hm]; rfl) ?_
    refine rz "many" (-1) (by unfold verdict18; rw [if_neg hm]) ?_
    walk_at "go"
    rfl
end
end K19

namespace K19
open PySem L2 RZ DL
/-! the walk by data -/
local macro_rules | `(tactic| walk_at "dl") => `(tactic| first
  | with_reducible first
    | refine sx_seq ?_ | refine sx_if ?_ | refine sx_next ?_
    | refine et_not ?_ | refine et_B ?_ | refine et_test ?_ | refine et_and ?_ | refine et_or ?_ | refine et_yes ?_
    | refine ev_and ?_ | refine ev_or ?_ | refine ev_not ?_ | refine ev_if ?_ | refine ev_chain ?_
    | refine ev_int ?_ | refine ev_bl ?_ | refine ev_str ?_ | refine ev_non ?_ | refine ev_c ?_
    | refine ev_op ?_ | refine ev_un ?_ | refine ev_cb ?_ | refine ev_fn1 ?_ | refine ev_fn2 ?_ | refine ev_sl ?_ | refine eo_none ?_ | refine eo_some ?_ | refine ev_tup ?_
    | refine ea_cons ?_ | refine ea_nil ?_
    | refine ops_ge ?_ | refine ops_le ?_ | refine ops_gt ?_ | refine ops_lt ?_ | refine ops_leS ?_ | refine ops_ltS ?_ | refine ops_add_int ?_ | refine ops_sub ?_ | refine ops_isN ?_ | refine ops_isNot ?_ | refine ops_eq_int ?_ | refine ops_eqS ?_ | refine ops_neS ?_
    | refine cas_len_tup ?_ | refine cas_isi_int ?_ | refine cas_isi_bool ?_ | refine cas_isi_str ?_ | refine cas_isi_tup ?_ | refine cas_isi_lst ?_
    | refine iteT ?_ | refine iteF ?_ | refine and_nols ?_
  | ((with_reducible refine ev_varx ?_); refine ⟨_, rfl, ?_⟩)
  | ((with_reducible refine ops_ix_tupx ?_); first | refine ⟨_, rfl, ?_⟩ | refine ⟨_, atI_nat (j := 0) rfl, ?_⟩ | refine ⟨_, atI_nat (j := 1) rfl, ?_⟩ | refine ⟨_, atI_nat (j := 2) rfl, ?_⟩ | refine ⟨_, atI_nat (j := 3) rfl, ?_⟩ | refine ⟨_, atI_nat (j := 4) rfl, ?_⟩ | refine ⟨_, atI_nat (j := 5) rfl, ?_⟩ | refine ⟨_, atI_nat (j := 6) rfl, ?_⟩)
  | ((with_reducible refine sz_and ?_ ?_); exact rfl)
  | ((with_reducible refine ev_ownx ?_); refine ⟨_, rfl, ?_⟩)
  | ((with_reducible refine ev_refx ?_); refine ⟨_, rfl, ?_⟩)
  | (with_reducible refine sxn_seq ?_) | (with_reducible refine uns_neg ?_) | (with_reducible refine ev_frz (evn_lst ?_)) | (with_reducible refine sls_tup ?_) | (refine ev_revT ?_)
  | ((refine sx_extx ?_); refine ⟨_, rfl, ?_⟩) | ((with_reducible refine ops_add_tup ?_ ?_); exact le_line rfl) | (with_reducible refine cas_listT ?_)
  | ((with_reducible refine ifT ?_ ?_); exact rfl) | ((with_reducible refine ifF ?_ ?_); exact rfl))
local macro_rules | `(tactic| walk_at "go") => `(tactic| repeat (first | walk_at "dl" | with_reducible refine ⟨_, rfl, ?_⟩ | with_reducible refine ⟨_, _, rfl, ?_⟩))
/-! ### chains, plain looks, void and full -/
/-- one behind the other, never more -/
def falls (ss : List St) : Prop := ∀ k (h : k + 1 < ss.length), noLess ss[k] ss[k + 1] = true
abbrev preChain (ds : List D) : Prop := ∃ (w : Wk8) (s : St) (n : Nat), ds = [wkD8 w, stD s, num n] ∧ okW8 w ∧ okD w s ∧ n ≤ 10
abbrev postChain (ds : List D) (d : D) : Prop := ∀ (w : Wk8) (s : St) (n : Nat), ds = [wkD8 w, stD s, num n] → ∃ ss : List St, d = .list (ss.map stD) ∧ ss.length = n + 1 ∧ (∀ x ∈ ss, okD w x ∧ x.ph = s.ph) ∧ falls ss
abbrev LChain (Pg : Program) (w : World) (K : PySem.W.Frag) (mg : Str → Option Value) (base : Heap) := Fn Pg w K mg base "_law_chain" 3 ["_law_feed_here", "_law_works_here", "_law_stand_here", "_law_many"] (PmF nm K 3 preChain postChain)
theorem falls_app {ss : List St} {s t : St} (h : falls (ss ++ [s])) (ht : noLess s t = true) : falls (ss ++ [s] ++ [t]) := fun k hk => by
  rw [List.length_append, List.length_append, List.length_singleton, List.length_singleton] at hk
  by_cases q : k + 1 < (ss ++ [s]).length
  · have := h k q
    rw [List.getElem_append_left (by omega), List.getElem_append_left q]
    exact this
  · rw [List.length_append, List.length_singleton] at q
    obtain rfl : k = ss.length := by omega
    rw [List.getElem_append_left (by rw [List.length_append, List.length_singleton]; omega)]
    simpa using ht
section
variable {Pg : Program} {w : World} {K : PySem.W.Frag} {mg : Str → Option Value} {base : Heap} {f : Addr} {fd : FuncData}
theorem ok_chain (F : Fun K "_law_chain" "_law_chain" s__law_chain f fd) (T : Txt mg) (C__law_draw : LDraw Pg w K mg base) (C__law_less : LLess Pg w K mg base) : FnG Pg w K mg base 3 f fd ["_law_feed_here", "_law_works_here", "_law_stand_here", "_law_many"] (PmF nm K 3 preChain postChain) := by
  have nd := sc__law_chain.nd
  refine fnG_of F sc__law_chain pm_len (fun cdv A ou s H vs Q hgd hr h => ?_)
  refine ⟨_, (pss_cons (ps_set (i := 4) nd rfl (Or.inl rfl) (pe_lst (pa_cons (pv 2) pa_nil)) (hf := Or.inl rfl)) (pss_cons (ps_for PassesOwn.never rfl (pi_range1 rfl T.b_range (pa_cons (pv 3) pa_nil)) (pg_name (i := 5) nd rfl (Or.inl rfl) (Or.inl rfl)) (pss_one (ps_expr (pe_bm PySem.F.plainAttrs_list PySem.F.slot_list_append PySem.F.type_list_append mt_append (pv 4) (pa_cons (pe_fn C__law_less hgd (hr.mono (by first | decide | omega)) rfl (pa_cons (pv 0) (pa_cons (pv 1) (pa_cons (pe_ix (r := rIx K) ix_seq (pv 4) (pe_un un_neg pe_int) (fun _ _ => rfl)) (pa_cons (pe_op (r := rAdd4 K) opAdd pe_int (pe_fn C__law_draw hgd (hr.mono (by first | decide | omega)) rfl (pa_cons (pv 0) (pa_cons pe_int pa_nil)))) pa_nil))))) pa_nil))))) (pss_one (ps_ret (pv 4))))), bodyF (by decide) h fun a l cs F0 ds hl ⟨wk, s0, n, hd, ok, od0, hn⟩ => ?_⟩
  subst hd
  change Sx K (feedW nm a l cs) H F0 _ [.rf (.ref a), .dat (wkD8 wk), .dat (stD s0), .dat (num n), .un, .un] _
  refine sx_seq (sx_asgN (evn_lst (ea_cons (ev_varx ⟨_, rfl, ea_nil ⟨[stD s0], rfl, le_line (n := 1) rfl, ?_⟩⟩))))
  change Sx K (feedW nm a l cs) H F0 _ [.rf (.ref a), .dat (wkD8 wk), .dat (stD s0), .dat (num n), .ls (([] ++ [s0]).map stD), .un] _
  refine sx_seq (sx_for (fun es i ρ' => es.length = n ∧ ∃ (ss : List St) (s : St) (s5 : Sl), ρ' = [.rf (.ref a), .dat (wkD8 wk), .dat (stD s0), .dat (num n), .ls ((ss ++ [s]).map stD), s5] ∧ ss.length = i ∧ (∀ x ∈ ss ++ [s], okD wk x ∧ x.ph = s0.ph) ∧ falls (ss ++ [s])) (evi_rng1 ?_))
  walk_at "go"
  refine ⟨by omega, by omega, ⟨by rw [rngD_len]; omega, [], s0, .un, rfl, rfl, fun s m => by have := List.mem_singleton.mp (show s ∈ [s0] from m); subst this; exact ⟨od0, rfl⟩, fun k h => absurd h (by simp)⟩, ?_, ?_⟩
  · rintro i z ρ' hz ⟨hes, ss, s, s5, rfl, hi, hs, hf⟩
    have hin : i < n := by
      have := (List.getElem?_eq_some_iff.mp hz).1
      omega
    obtain ⟨hso, hsp⟩ := hs s (by simp)
    refine gs_name trivial ?_
    refine sx_app rfl (by rw [List.length_map, List.length_append, List.length_singleton, sizeLine_eq]; omega) ?_
    refine ev_fnF ?_
    walk_at "go"
    refine ops_ix_lst (.inr rfl) (d := stD s) (by rw [List.map_append]; exact atI_last _ _) ?_
    walk_at "go"
    (refine ev_drawN ?_; walk_at "go"; (first | refine ⟨3, rfl, ?_, fun (r : Nat) (hr : r < 3) => ?_⟩ | refine ⟨?_, fun (r : Nat) (hr : r < 3) => ?_⟩); (focus (show 1 ≤ 3 ∧ 3 < 1000; exact ⟨by omega, by omega⟩)); walk_at "go")
    refine ⟨[_, _, _], rfl, rfl, ⟨wk, s, 1 + r, rfl, ok, hso, by omega⟩, fun d hd => ?_⟩
    obtain ⟨t, rfl, ot, ht⟩ := hd wk s (1 + r) rfl
    refine ⟨_, rfl, hes, ss ++ [s], t, _, by rw [List.map_append (l₁ := ss ++ [s])]; rfl, by rw [List.length_append, hi]; rfl, fun x m => ?_, falls_app hf ht⟩
    rcases List.mem_append.mp m with m | m
    · exact hs x m
    · rw [List.mem_singleton.mp m]
      exact ⟨ot, ((noLess_iff (okO_of ok hso) (okO_of ok ot)).mp ht).1.symm.trans hsp⟩
  · rintro ρ' ⟨hes, ss, s, s5, rfl, hi, hs, hf⟩
    refine sx_frz (i := 4) rfl ?_
    refine sx_ret (ev_varx ⟨_, rfl, _, rfl, fun w' s' n' e' => ?_⟩)
    injection e' with e1 e2
    injection e2 with e2 e3
    injection e3 with e3 _
    obtain rfl := wkD_inj _ _ e1
    obtain rfl := stD_inj _ _ e2
    obtain rfl := num_inj _ _ e3
    exact ⟨ss ++ [s], rfl, by rw [List.length_append, List.length_singleton]; omega, hs, hf⟩
end
def plainB (a b : St) : Bool := (decide (a.ph = b.ph) && (decide (b.rs ≤ a.rs) && decide (b.st ≤ a.st))) && (geAll a.us b.us && covAll a.ls b.ls)
theorem noLess_plain (a b : St) : noLess a b = (plainB a b && (taken a.ms b.ms.reverse []).isSome) := by
  rw [taken_some]
  unfold noLess plainB covAll
  simp only [Bool.and_assoc]
structure okLn (n : Nat) (a b : St) : Prop where
  oa : okS a
  ob : okS b
  a1 : a.us.length = n
  a2 : a.ls.length = n
  b1 : b.us.length = n
  b2 : b.ls.length = n
abbrev LPlain (Pg : Program) (w : World) (K : PySem.W.Frag) (mg : Str → Option Value) (base : Heap) := Fn Pg w K mg base "_law_plain" 2 ["_law_one", "_law_other"] (PmE K 2 encS (fun p => ∃ n, okLn n p.1 p.2) fun p => .bool (plainB p.1 p.2))
section
variable {Pg : Program} {w : World} {K : PySem.W.Frag} {mg : Str → Option Value} {base : Heap} {f : Addr} {fd : FuncData}
theorem ok_plain (F : Fun K "_law_plain" "_law_plain" s__law_plain f fd) (T : Txt mg) (C__law_row_covers : LRow Pg w K mg base) : FnG Pg w K mg base 2 f fd ["_law_one", "_law_other"] (PmE K 2 encS (fun p => ∃ n, okLn n p.1 p.2) fun p => .bool (plainB p.1 p.2)) := by
  have nd := sc__law_plain.nd
  refine fnG_of F sc__law_plain pm_len (fun cdv A ou s H vs Q hgd hr h => ?_)
  have hu : (A.deeper (PyProof.Rows.envOfC "_law_plain" (defScope s__law_plain) s.heap.objs.size f cdv)).units + 64 < cLine := by have := hr.un; omega
  refine ⟨_, (pss_cons (ps_if (PW.pt (pw_or (pt_cmpR (r := rNe2 K) (opNe hu) (pe_ix (r := rIx K) ix_seq (pv 0) pe_int (fun _ _ => rfl)) (pe_ix (r := rIx K) ix_seq (pv 1) pe_int (fun _ _ => rfl)) (nomark _)) (pw_or (pt_cmpR opLt (pe_ix (r := rIx K) ix_seq (pv 0) pe_int (fun _ _ => rfl)) (pe_ix (r := rIx K) ix_seq (pv 1) pe_int (fun _ _ => rfl)) (nomark _)) (pw_or1 (pt_cmpR opLt (pe_ix (r := rIx K) ix_seq (pv 0) pe_int (fun _ _ => rfl)) (pe_ix (r := rIx K) ix_seq (pv 1) pe_int (fun _ _ => rfl)) (nomark _)))))) (pss_one (ps_ret pe_bl)) pss_nil) (pss_cons (ps_for PassesOwn.never rfl (pi_enumT (by rfl) T.b_enumerate (pa_cons (pe_ix (r := rIx K) ix_seq (pv 1) pe_int (fun _ _ => rfl)) pa_nil)) (pg_tup (n := 2) rfl (pgs_cons (pg_name (i := 2) nd rfl (Or.inl rfl) (Or.inl rfl)) (pgs_cons (pg_name (i := 3) nd rfl (Or.inl rfl) (Or.inl rfl)) pgs_nil))) (pss_one (ps_if (PW.pt (pw_or (pt_cmpR opLt (pe_ix (r := rIx K) ix_seq (pe_ix (r := rIx K) ix_seq (pv 0) pe_int (fun _ _ => rfl)) (pv 2) (fun _ _ => rfl)) (pv 3) (nomark _)) (pw_or1 (pt_not (pt_val (pe_fn C__law_row_covers hgd (hr.mono (by first | decide | omega)) rfl (pa_cons (pe_ix (r := rIx K) ix_seq (pe_ix (r := rIx K) ix_seq (pv 0) pe_int (fun _ _ => rfl)) (pv 2) (fun _ _ => rfl)) (pa_cons (pe_ix (r := rIx K) ix_seq (pe_ix (r := rIx K) ix_seq (pv 1) pe_int (fun _ _ => rfl)) (pv 2) (fun _ _ => rfl)) pa_nil)))))))) (pss_one (ps_ret pe_bl)) pss_nil))) (pss_one (ps_ret pe_bl)))), bodyE (by decide) h encS_inj fun W F0 ⟨a, b⟩ ⟨n, o⟩ _ => ?_⟩
  obtain ⟨oa, ob, a1, a2, b1, b2⟩ := o
  simp only at oa ob a1 a2 b1 b2
  have ixa : ∀ {j : Nat} {d : D} {P : Sl → Prop} {K : PySem.W.Frag} {W : Wd}, [rowD a.us, lsD a.ls, num a.st, msD a.ms, num a.ph, num a.rs][j]? = some d → P (.dat d) → OpS K W (rIx K) (.dat (stD a)) (.dat (.int (j : Nat))) P := fun {j d P K W} e p => ops_ix_tup (ds := [rowD a.us, lsD a.ls, num a.st, msD a.ms, num a.ph, num a.rs]) (atI_nat e) p
  have ixb : ∀ {j : Nat} {d : D} {P : Sl → Prop} {K : PySem.W.Frag} {W : Wd}, [rowD b.us, lsD b.ls, num b.st, msD b.ms, num b.ph, num b.rs][j]? = some d → P (.dat d) → OpS K W (rIx K) (.dat (stD b)) (.dat (.int (j : Nat))) P := fun {j d P K W} e p => ops_ix_tup (ds := [rowD b.us, lsD b.ls, num b.st, msD b.ms, num b.ph, num b.rs]) (atI_nat e) p
  have eP : plainB a b = ((decide (a.ph = b.ph) && (decide (b.rs ≤ a.rs) && decide (b.st ≤ a.st))) && (geAll a.us b.us && covAll a.ls b.ls)) := rfl
  change Sx K W H F0 _ [.dat (stD a), .dat (stD b), .un, .un] { nx := fun _ => PyData.bool (plainB a b) = .none, rt := fun s => s = .dat (.bool (plainB a b)) }
  generalize hda : stD a = da at *
  generalize hdb : stD b = db at *
  walk_at "go"
  refine ixa (j := 4) rfl ?_
  walk_at "go"
  refine ixb (j := 4) rfl ?_
  refine ops_ne (shaped_int _) (shaped_int _) ⟨_, rfl, ?_⟩
  rw [eqv_num]
  refine if2 (fun h1 => ?_) (fun h1 => ?_)
  · refine ifT rfl ?_
    rw [Bool.not_eq_true'] at h1
    walk_at "go"
    refine sx_ret ?_
    walk_at "go"
    exact rt_bool (by rw [eP, h1]; rfl)
  rw [Bool.not_eq_false'] at h1
  rw [h1, Bool.true_and] at eP
  walk_at "go"
  refine ixa (j := 5) rfl ?_
  walk_at "go"
  refine ixb (j := 5) rfl ?_
  walk_at "go"
  refine if2 (fun h2 => ?_) (fun h2 => ?_)
  · have h2 : decide (b.rs ≤ a.rs) = false := decide_eq_false (by have := of_decide_eq_true h2; omega)
    refine ifT rfl ?_
    refine sx_ret ?_
    walk_at "go"
    exact rt_bool (by rw [eP, h2]; rfl)
  have h2 : decide (b.rs ≤ a.rs) = true := decide_eq_true (by have := of_decide_eq_false h2; omega)
  rw [h2, Bool.true_and] at eP
  walk_at "go"
  refine ixa (j := 2) rfl ?_
  walk_at "go"
  refine ixb (j := 2) rfl ?_
  walk_at "go"
  refine if2 (fun h3 => ?_) (fun h3 => ?_)
  · have h3 : decide (b.st ≤ a.st) = false := decide_eq_false (by have := of_decide_eq_true h3; omega)
    refine sx_ret ?_
    walk_at "go"
    exact rt_bool (by rw [eP, h3]; rfl)
  have h3 : decide (b.st ≤ a.st) = true := decide_eq_true (by have := of_decide_eq_false h3; omega)
  rw [h3, Bool.true_and] at eP
  refine sx_next ?_
  refine sx_seq (sx_for (fun es i ρ' => es = enumD (b.us.map num) ∧ ∃ s2 s3, ρ' = [.dat da, .dat db, s2, s3] ∧ ∀ j < i, gd b.us j ≤ gd a.us j ∧ covers (a.ls.getD j []) (b.ls.getD j []) = true) (evi_enum ?_))
  walk_at "go"
  refine ixb (j := 0) rfl ?_
  refine ea_nil ⟨_, rfl, ⟨rfl, _, _, rfl, fun j h => absurd h (Nat.not_lt_zero _)⟩, ?_, ?_⟩
  · rintro i z ρ' hz ⟨_, s2, s3, rfl, hn⟩
    have hi : i < b.us.length := by
      have := (List.getElem?_eq_some_iff.mp hz).1
      rwa [enumD_len, List.length_map] at this
    have ia : i < a.us.length := by omega
    have ja : i < a.ls.length := by omega
    have jb : i < b.ls.length := by omega
    rw [enumD_get (gd_get hi)] at hz
    obtain rfl := Option.some.inj hz
    refine gs_tup rfl (gss_cons (gs_name trivial (gss_cons (gs_name trivial (gss_nil ?_)))))
    change Sx K W H F0 _ [.dat da, .dat db, .dat (num i), .dat (num (gd b.us i))] _
    have gla : a.ls.getD i [] = a.ls[i] := by simp [ja]
    have glb : b.ls.getD i [] = b.ls[i] := by simp [jb]
    walk_at "go"
    refine ixa (j := 0) rfl ?_
    walk_at "go"
    refine ops_ix_tup (atI_nat (gd_get ia)) ?_
    walk_at "go"
    refine if2 (fun h4 => ?_) (fun h4 => ?_)
    · refine ifT rfl ?_
      refine sx_ret ?_
      walk_at "go"
      have h4 : ¬ gd b.us i ≤ gd a.us i := by have := of_decide_eq_true h4; omega
      have : geAll a.us b.us = false := by
        rw [← Bool.not_eq_true, geAll_iff (by omega)]
        intro q
        have := q i hi
        exact h4 (by simpa [gd, hi, ia] using this)
      exact rt_bool (by rw [eP, this]; rfl)
    have h4 : gd b.us i ≤ gd a.us i := by have := of_decide_eq_false h4; omega
    walk_at "go"
    refine ev_fnE ?_
    walk_at "go"
    refine ixa (j := 1) rfl ?_
    walk_at "go"
    refine ops_ix_tup (atI_nat (map_get ja)) ?_
    walk_at "go"
    refine ixb (j := 1) rfl ?_
    walk_at "go"
    refine ops_ix_tup (atI_nat (map_get jb)) ?_
    refine ea_nil ⟨(a.ls[i], b.ls[i]), rfl, by simp [encR, NoLs], rfl, ⟨Nat.le_trans (oa.rows _ (List.getElem_mem ja)) (by decide), Nat.le_trans (ob.rows _ (List.getElem_mem jb)) (by decide)⟩, _, rfl, ?_⟩
    refine if2 (fun h5 => ?_) (fun h5 => ?_)
    · rw [Bool.not_eq_true'] at h5
      refine sx_ret ?_
      walk_at "go"
      have : covAll a.ls b.ls = false := by
        rw [← Bool.not_eq_true, covAll_iff (by omega)]
        intro q
        have := q i jb
        rw [show covers a.ls[i] b.ls[i] = false from h5] at this
        cases this
      exact rt_bool (by rw [eP, this, Bool.and_false])
    rw [Bool.not_eq_false'] at h5
    refine sx_next ⟨rfl, _, _, rfl, fun j hj => ?_⟩
    by_cases q : j < i
    · exact hn j q
    · obtain rfl : j = i := by omega
      exact ⟨h4, by rw [gla, glb]; exact h5⟩
  · rintro ρ' ⟨_, s2, s3, rfl, hn⟩
    rw [enumD_len, List.length_map] at hn
    refine sx_ret ?_
    walk_at "go"
    have g1 : geAll a.us b.us = true := (geAll_iff (by omega)).mpr fun k hk => by
      have := (hn k hk).1
      simpa [gd, hk, show k < a.us.length by omega] using this
    have g2 : covAll a.ls b.ls = true := (covAll_iff (by omega)).mpr fun k hk => by
      have := (hn k (by omega)).2
      simpa [hk, show k < a.ls.length by omega] using this
    exact rt_bool (by rw [eP, g1, g2]; rfl)
end
/-! ### what pairing tells is let by -/
theorem verd_told {a b : St} {ks : List Nat} (hl : ks.length = b.ms.length) (h1 : ∀ j < ks.length, bad1 a ks j = false) (h2 : ∀ j < ks.length, bad2 a b ks j = false) : verdict18 a b ks = .told := by
  unfold verdict18
  rw [if_pos hl, fst_none h1]
  simp only
  rw [fst_none h2]
theorem told_ok {a b : St} (h2 : b.ms.length ≤ 2) {ks : List Nat} (h : taken a.ms b.ms.reverse [] = some ks) : verdict18 a b ks.reverse = .told ∧ ks.length ≤ 2 ∧ ∀ k ∈ ks, k < a.ms.length := by
  obtain ⟨ua, la, sa, ma, pa, ra⟩ := a
  obtain ⟨ub, lb, sb, mb, pb, rb⟩ := b
  have h2 : mb.length ≤ 2 := h2
  have h : taken ma mb.reverse [] = some ks := h
  match mb, h2 with
  | [], _ =>
    obtain rfl := Option.some.inj h
    exact ⟨rfl, by decide, fun k m => nomatch m⟩
  | [o], _ =>
    simp only [List.reverse_cons, List.reverse_nil, List.nil_append, taken] at h
    split at h
    · cases h
    · rename_i k e
      obtain rfl := Option.some.inj h
      obtain ⟨h1, _, h3, _⟩ := last_get e
      rw [getD_irr o dfM h1] at h3
      refine ⟨?_, Nat.le_succ 1, fun x m => by rw [List.mem_singleton.mp m]; exact h1⟩
      show verdict18 _ _ [k] = .told
      refine verd_told rfl (fun j hj => ?_) (fun j hj => ?_)
      · match j, hj with
        | 0, _ =>
          show (decide (ma.length ≤ k) || ([] : List Nat).contains k) = false
          rw [decide_eq_false (by omega)]
          rfl
      · match j, hj with
        | 0, _ =>
          show (!fits (ma.getD k dfM) o) = false
          rw [h3]
          rfl
  | [o1, o2], _ =>
    simp only [List.reverse_cons, List.reverse_nil, List.nil_append, List.singleton_append, taken] at h
    split at h
    · cases h
    · rename_i k2 e2
      split at h
      · cases h
      · rename_i k1 e1
        obtain rfl := Option.some.inj h
        obtain ⟨h1, _, h3, _⟩ := last_get e2
        obtain ⟨g1, g2, g3, _⟩ := last_get e1
        have ne : k2 ≠ k1 := fun e => by
          subst e
          simp at g2
        rw [getD_irr o2 dfM h1] at h3
        rw [getD_irr o1 dfM g1] at g3
        refine ⟨?_, Nat.le_refl 2, fun x m => ?_⟩
        · show verdict18 _ _ [k1, k2] = .told
          refine verd_told rfl (fun j hj => ?_) (fun j hj => ?_)
          · match j, hj with
            | 0, _ =>
              show (decide (ma.length ≤ k1) || ([] : List Nat).contains k1) = false
              rw [decide_eq_false (by omega)]
              rfl
            | 1, _ =>
              show (decide (ma.length ≤ k2) || [k1].contains k2) = false
              rw [decide_eq_false (by omega), Bool.false_or]
              simp [ne]
          · match j, hj with
            | 0, _ =>
              show (!fits (ma.getD k1 dfM) o1) = false
              rw [g3]
              rfl
            | 1, _ =>
              show (!fits (ma.getD k2 dfM) o2) = false
              rw [h3]
              rfl
        · have m : x = k2 ∨ x = k1 := by simpa using m
          rcases m with rfl | rfl
          · exact h1
          · exact g1
end K19

namespace K19
open PySem L2 RZ DL
/-! the walk by data -/
local macro_rules | `(tactic| walk_at "dl") => `(tactic| first
  | with_reducible first
    | refine sx_seq ?_ | refine sx_if ?_ | refine sx_next ?_
    | refine et_not ?_ | refine et_B ?_ | refine et_test ?_ | refine et_and ?_ | refine et_or ?_ | refine et_yes ?_
    | refine ev_and ?_ | refine ev_or ?_ | refine ev_not ?_ | refine ev_if ?_ | refine ev_chain ?_
    | refine ev_int ?_ | refine ev_bl ?_ | refine ev_str ?_ | refine ev_non ?_ | refine ev_c ?_
    | refine ev_op ?_ | refine ev_un ?_ | refine ev_cb ?_ | refine ev_fn1 ?_ | refine ev_fn2 ?_ | refine ev_sl ?_ | refine eo_none ?_ | refine eo_some ?_ | refine ev_tup ?_
    | refine ea_cons ?_ | refine ea_nil ?_
    | refine ops_ge ?_ | refine ops_le ?_ | refine ops_gt ?_ | refine ops_lt ?_ | refine ops_leS ?_ | refine ops_ltS ?_ | refine ops_add_int ?_ | refine ops_sub ?_ | refine ops_isN ?_ | refine ops_isNot ?_ | refine ops_eq_int ?_ | refine ops_eqS ?_ | refine ops_neS ?_
    | refine cas_len_tup ?_ | refine cas_isi_int ?_ | refine cas_isi_bool ?_ | refine cas_isi_str ?_ | refine cas_isi_tup ?_ | refine cas_isi_lst ?_
    | refine iteT ?_ | refine iteF ?_ | refine and_nols ?_
  | ((with_reducible refine ev_varx ?_); refine ⟨_, rfl, ?_⟩)
  | ((with_reducible refine ops_ix_tupx ?_); first | refine ⟨_, rfl, ?_⟩ | refine ⟨_, atI_nat (j := 0) rfl, ?_⟩ | refine ⟨_, atI_nat (j := 1) rfl, ?_⟩ | refine ⟨_, atI_nat (j := 2) rfl, ?_⟩ | refine ⟨_, atI_nat (j := 3) rfl, ?_⟩ | refine ⟨_, atI_nat (j := 4) rfl, ?_⟩ | refine ⟨_, atI_nat (j := 5) rfl, ?_⟩ | refine ⟨_, atI_nat (j := 6) rfl, ?_⟩)
  | ((with_reducible refine sz_and ?_ ?_); exact rfl)
  | ((with_reducible refine ev_ownx ?_); refine ⟨_, rfl, ?_⟩)
  | ((with_reducible refine ev_refx ?_); refine ⟨_, rfl, ?_⟩)
  | (with_reducible refine sxn_seq ?_) | (with_reducible refine uns_neg ?_) | (with_reducible refine ev_frz (evn_lst ?_)) | (with_reducible refine sls_tup ?_) | (refine ev_revT ?_)
  | ((refine sx_extx ?_); refine ⟨_, rfl, ?_⟩) | ((with_reducible refine ops_add_tup ?_ ?_); exact le_line rfl) | (with_reducible refine cas_listT ?_)
  | ((with_reducible refine ifT ?_ ?_); exact rfl) | ((with_reducible refine ifF ?_ ?_); exact rfl))
local macro_rules | `(tactic| walk_at "go") => `(tactic| repeat (first | walk_at "dl" | with_reducible refine ⟨_, rfl, ?_⟩ | with_reducible refine ⟨_, _, rfl, ?_⟩))
/-! ### it is an order -/
theorem bds_map' {k w n : Nat} : ∀ (xs : List Nat), (∀ x ∈ xs, Bd k w n (num x)) → Bds k ((w + 1) * xs.length) n (xs.map num) := fun xs h => bds_map num h
/-- what the law asks of the stands it looks at -/
structure okSome (n : Nat) (ss : List St) : Prop where
  len : ss.length ≤ 20
  sp : ∀ s ∈ ss, okS s
  or : ∀ s ∈ ss, okO n s
  sh : ∀ s ∈ ss, SeqAt.shaped (stD s) = true
theorem okSome_ln {n : Nat} {ss : List St} (o : okSome n ss) {a b : St} (ha : a ∈ ss) (hb : b ∈ ss) : okLn n a b := ⟨o.sp a ha, o.sp b hb, (o.or a ha).us, (o.or a ha).ls, (o.or b hb).us, (o.or b hb).ls⟩
abbrev LOrder (Pg : Program) (w : World) (K : PySem.W.Frag) (mg : Str → Option Value) (base : Heap) := Fn Pg w K mg base "_law_is_order" 5 ["_law_some"] (Pm K 1 (fun _ s => ∃ (n : Nat) (ss : List St), s = [.dat (.list (ss.map stD))] ∧ okSome n ss) fun _ _ s => s = .dat (.bool true))
/-- stand k is no more than a -/
def lessB (ss : List St) (a : St) : D → Bool
  | .int k => match ss[k.toNat]? with
    | some c => noLess a c
    | none => false
  | _ => false
def selfB (ss : List St) : D → Bool
  | .int k => match ss[k.toNat]? with
    | some c => noLess c c
    | none => false
  | _ => false
theorem lessB_at {ss : List St} {a c : St} {k : Nat} (h : ss[k]? = some c) : lessB ss a (num k) = noLess a c := by
  simp [lessB, h]
theorem selfB_at {ss : List St} {c : St} {k : Nat} (h : ss[k]? = some c) : selfB ss (num k) = noLess c c := by
  simp [selfB, h]
theorem rng_get {ss : List St} {d : D} (h : d ∈ rngD 0 ((List.map stD ss).length : Int).toNat) : ∃ k, k < ss.length ∧ ∃ c, ss[k]? = some c ∧ d = num k := by
  obtain ⟨k, hk, rfl⟩ := List.mem_map.mp h
  have hk := List.mem_range.mp hk
  rw [List.length_map] at hk
  have hk : k < ss.length := by omega
  exact ⟨k, hk, ss[k], List.getElem?_eq_getElem hk, congrArg PyData.int (Int.zero_add _)⟩
/-- the table's row of a stand -/
def tabRow (ss : List St) (a : St) : D := .list (ss.map fun b => .bool (noLess a b))
def stB : List St → D → D → D := fun ss x y => .bool (noLess (stOf x) (stOf y))
section
variable {Pg : Program} {w : World} {K : PySem.W.Frag} {mg : Str → Option Value} {base : Heap} {f C : Addr} {fd : FuncData}
theorem ok_order (F : Fun K "_law_is_order" "_law_is_order" s__law_is_order f fd) (T : Txt mg) (C_is_no_less : CNoLess Pg w K mg base) (C_pairing : CPairing Pg w K mg base) (C__law_plain : LPlain Pg w K mg base) (C_lets_pairing : CLets18 Pg w K mg base C) :
    FnG Pg w K mg base 5 f fd ["_law_some"] (Pm K 1 (fun _ s => ∃ (n : Nat) (ss : List St), s = [.dat (.list (ss.map stD))] ∧ okSome n ss) fun _ _ s => s = .dat (.bool true)) := by
  have nd := sc__law_is_order.nd
  refine fnG_of F sc__law_is_order pm_len (fun cdv A ou s H vs Q hgd hr h => ?_)
  have hu : (A.deeper (PyProof.Rows.envOfC "_law_is_order" (defScope s__law_is_order) s.heap.objs.size f cdv)).units + 64 < cLine := by have := hr.un; omega
  refine ⟨_, (pss_cons (ps_set (i := 1) nd rfl (Or.inr rfl) (pe_lc (own := [("_law_one", 3)]) (g := gName 3) rfl nd (pi_list (pv 0)) (blkOk_by (N := ["_law_some", "_law_table", "_law_i", "_law_one", "_law_j", "_law_other", "_law_paper", "_law_below", "_law_k"]) (sc := (defScope s__law_is_order)) (by decide +kernel)) (fun _ _ _ _ _ => (pg_name (i := 3) nd rfl (Or.inr rfl) (Or.inl rfl))) (fun _ _ _ _ _ => pts_nil) (fun _ _ _ _ _ => (pe_lc (own := [("_law_other", 5)]) (g := gName 5) rfl nd (pi_listK (K := K) rfl (pv 0)) (blkOk_by (N := ["_law_some", "_law_table", "_law_i", "_law_one", "_law_j", "_law_other", "_law_paper", "_law_below", "_law_k"]) (by kernel_rfl)) (fun _ _ _ _ _ => (pg_name (i := 5) nd rfl (Or.inl rfl) (Or.inr rfl))) (fun _ _ _ _ _ => pts_nil) (fun _ _ _ _ _ => (pe_fn C_is_no_less hgd (hr.mono (by first | decide | omega)) rfl (pa_cons (pv 3) (pa_cons (pv 5) pa_nil))))))) (hf := Or.inl rfl)) (pss_cons (ps_for PassesOwn.never rfl (pi_enum (by rfl) T.b_enumerate (pa_cons (pv 0) pa_nil)) (pg_tup (n := 2) rfl (pgs_cons (pg_name (i := 2) nd rfl (Or.inr rfl) (Or.inl rfl)) (pgs_cons (pg_name (i := 3) nd rfl (Or.inl rfl) (Or.inl rfl)) pgs_nil))) (pss_one (ps_for PassesOwn.never rfl (pi_enum (by rfl) T.b_enumerate (pa_cons (pv 0) pa_nil)) (pg_tup (n := 2) rfl (pgs_cons (pg_name (i := 4) nd rfl (Or.inr rfl) (Or.inl rfl)) (pgs_cons (pg_name (i := 5) nd rfl (Or.inl rfl) (Or.inl rfl)) pgs_nil))) (pss_cons (ps_set (i := 6) nd rfl (Or.inl rfl) (pe_fn C_pairing hgd (hr.mono (by first | decide | omega)) rfl (pa_cons (pv 3) (pa_cons (pv 5) pa_nil))) (hf := Or.inl rfl)) (pss_cons (ps_if (pt_cmpR (r := rNe2 K) (opNe hu) (pe_ix (r := rIx K) ix_seq (pe_ix (r := rIx K) ix_seq (pv 1) (pv 2) (fun _ _ => rfl)) (pv 4) (fun _ _ => rfl)) (pe_and (pe_fn C__law_plain hgd (hr.mono (by first | decide | omega)) rfl (pa_cons (pv 3) (pa_cons (pv 5) pa_nil))) (pe_one (pe_cmpR opIsNot (pv 6) pe_non (nomark _)))) (nomark _)) (pss_one (ps_ret pe_bl)) pss_nil) (pss_cons (ps_if (PW.pt (pw_and (pt_cmpR opIsNot (pv 6) pe_non (nomark _)) (pw_and1 (pt_cmpR (r := rNotB) op_notBl (pe_fnX C_lets_pairing takesN hgd (hr.mono (by first | decide | omega)) rfl (pa_cons (pv 3) (pa_cons (pv 5) (pa_cons (pv 6) pa_nil)))) pe_bl (nomark _))))) (pss_one (ps_ret pe_bl)) pss_nil) (pss_cons (ps_if (PW.pt (pw_and (pt_val (pe_ix (r := rIx K) ix_seq (pe_ix (r := rIx K) ix_seq (pv 1) (pv 2) (fun _ _ => rfl)) (pv 4) (fun _ _ => rfl))) (pw_and (pt_val (pe_ix (r := rIx K) ix_seq (pe_ix (r := rIx K) ix_seq (pv 1) (pv 4) (fun _ _ => rfl)) (pv 2) (fun _ _ => rfl))) (pw_and1 (pt_cmpR (r := rNe2 K) (opNe hu) (pv 3) (pv 5) (nomark _)))))) (pss_one (ps_ret pe_bl)) pss_nil) (pss_cons (ps_setLc (i := 7) (own := [("_law_k", 8)]) (g := gName 8) rfl nd rfl rfl (sw_true rfl rfl rfl (by decide +kernel)) (pi_range1 rfl T.b_range (pa_cons (pe_callB (r := rLenA K) call_len (by rfl) T.b_len (by decide +kernel) (pa_cons (pv 0) pa_nil)) pa_nil)) (blkOk_by (N := ["_law_some", "_law_table", "_law_i", "_law_one", "_law_j", "_law_other", "_law_paper", "_law_below", "_law_k"]) (sc := (defScope s__law_is_order)) (by decide +kernel)) (fun _ _ _ _ _ => (pg_name (i := 8) nd rfl (Or.inl rfl) (Or.inr rfl))) (fun _ _ _ _ _ => (pts_one (pt_val (pe_ix (r := rIx K) ix_seq (pe_ix (r := rIx K) ix_seq (pv 1) (pv 4) (fun _ _ => rfl)) (pv 8) (fun _ _ => rfl))))) (fun _ _ _ _ _ => (pv 8))) (pss_one (ps_if (PW.pt (pw_and (pt_val (pe_ix (r := rIx K) ix_seq (pe_ix (r := rIx K) ix_seq (pv 1) (pv 2) (fun _ _ => rfl)) (pv 4) (fun _ _ => rfl))) (pw_and1 (pt_cmpR (r := rNe2 K) (opNe hu) (pe_lc (own := [("_law_k", 8)]) (g := gName 8) rfl nd (pi_list (pv 7)) (blkOk_by (N := ["_law_some", "_law_table", "_law_i", "_law_one", "_law_j", "_law_other", "_law_paper", "_law_below", "_law_k"]) (sc := (defScope s__law_is_order)) (by decide +kernel)) (fun _ _ _ _ _ => (pg_name (i := 8) nd rfl (Or.inl rfl) (Or.inr rfl))) (fun _ _ _ _ _ => (pts_one (pt_not (pt_val (pe_ix (r := rIx K) ix_seq (pe_ix (r := rIx K) ix_seq (pv 1) (pv 2) (fun _ _ => rfl)) (pv 8) (fun _ _ => rfl)))))) (fun _ _ _ _ _ => (pv 8))) (pe_lst pa_nil) (nomark _))))) (pss_one (ps_ret pe_bl)) pss_nil)))))))))) (pss_one (ps_ret (pe_cmpR (r := rEq2 K) (opEq hu) (pe_lc (own := [("_law_k", 8)]) (g := gName 8) rfl nd (pi_range1 rfl T.b_range (pa_cons (pe_callB (r := rLenA K) call_len (by rfl) T.b_len (by decide +kernel) (pa_cons (pv 0) pa_nil)) pa_nil)) (blkOk_by (N := ["_law_some", "_law_table", "_law_i", "_law_one", "_law_j", "_law_other", "_law_paper", "_law_below", "_law_k"]) (sc := (defScope s__law_is_order)) (by decide +kernel)) (fun _ _ _ _ _ => (pg_name (i := 8) nd rfl (Or.inl rfl) (Or.inr rfl))) (fun _ _ _ _ _ => (pts_one (pt_not (pt_val (pe_ix (r := rIx K) ix_seq (pe_ix (r := rIx K) ix_seq (pv 1) (pv 8) (fun _ _ => rfl)) (pv 8) (fun _ _ => rfl)))))) (fun _ _ _ _ _ => (pv 8))) (pe_lst pa_nil) (nomark _)))))), pm_body (by decide) h fun W F0 sl hl ⟨n, ss, hss, o⟩ => ?_⟩
  subst hss
  have ol := o.len
  change Sx K W H F0 _ [.dat (.list (ss.map stD)), .un, .un, .un, .un, .un, .un, .un, .un] _
  refine sx_seq (sx_asg (ev_frz (evn_mapT (fun x => tabRow ss (stOf x)) (evi_list (ev_varx ⟨_, rfl, _, rfl, ?_, fun d hd => ?_, ?_⟩)))))
  · rw [List.length_map, sizeLine_eq]
    omega
  · obtain ⟨a, ha, rfl⟩ := List.mem_map.mp hd
    refine gc_name (by decide) trivial ?_
    refine ev_frz (evn_mapT (fun y => .bool (noLess a (stOf y))) (evi_list (ev_varx ⟨_, rfl, _, rfl, ?_, fun d hd => ?_, ?_⟩)))
    · rw [List.length_map, sizeLine_eq]
      omega
    · obtain ⟨b, hb, rfl⟩ := List.mem_map.mp hd
      refine gc_name (by decide) trivial ?_
      refine ev_fnE ?_
      walk_at "go"
      refine ⟨(a, b), rfl, by simp [encS, NoLs], rfl, ⟨o.sp a ha, o.sp b hb⟩, ?_⟩
      rw [st_of]
    · rw [List.map_map, st_of]
      show Sl.dat (.list (ss.map fun b => .bool (noLess a (stOf (stD b))))) = _
      simp only [st_of]
      rfl
  refine ⟨trivial, ?_⟩
  rw [List.map_map]
  have eT : (ss.map ((fun x => tabRow ss (stOf x)) ∘ stD)) = ss.map (tabRow ss) := List.map_congr_left fun a _ => by show tabRow ss (stOf (stD a)) = _; rw [st_of]
  rw [eT]
  have tix : ∀ {i j : Nat} {a b : St} {ρ : Rho} {x y : Nat} {P : Sl → Prop}, ss[i]? = some a → ss[j]? = some b → ρ[1]? = some (.dat (.list (ss.map (tabRow ss)))) → ρ[x]? = some (.dat (num i)) → ρ[y]? = some (.dat (num j)) → P (.dat (.bool (noLess a b))) →
      Ev K W H (tOp (rIx K) (tOp (rIx K) (tVar 1) (tVar x)) (tVar y)) ρ P := fun {i j a b ρ x y P} hi hj h1 hx hy p => by
    refine ev_op (ev_op (ev_var h1 (ev_var hx (ops_ix_lst (.inl rfl) (d := tabRow ss a) (atI_nat ?_) (ev_var hy (ops_ix_lst (.inl rfl) (d := .bool (noLess a b)) (atI_nat ?_) p))))))
    · rw [List.getElem?_map, hi]
      rfl
    · rw [List.getElem?_map, hj]
      rfl
  have hget : ∀ {i : Nat}, i < ss.length → ∃ a, ss[i]? = some a ∧ a ∈ ss ∧ (enumD (ss.map stD))[i]? = some (.tuple [num i, stD a]) := fun {i} hi => by
    refine ⟨ss[i], List.getElem?_eq_getElem hi, List.getElem_mem hi, ?_⟩
    exact enumD_get (by rw [List.getElem?_map, List.getElem?_eq_getElem hi]; rfl)
  obtain ⟨L, hL⟩ : ∃ L : D, L = .list (ss.map stD) := ⟨_, rfl⟩
  obtain ⟨TT, hTT⟩ : ∃ L : D, L = .list (ss.map (tabRow ss)) := ⟨_, rfl⟩
  rw [← hTT] at tix
  rw [← hL, ← hTT]
  change Sx K W H F0 _ [.dat L, .dat TT, .un, .un, .un, .un, .un, .un, .un] _
  refine sx_seq (sx_for (fun es i ρ' => es = enumD (ss.map stD) ∧ ∃ s2 s3 s4 s5 s6 s7 s8, ρ' = [.dat L, .dat TT, s2, s3, s4, s5, s6, s7, s8]) (evi_enumL ?_))
  rw [hL]
  walk_at "go"
  rw [← hL]
  refine ⟨⟨rfl, _, _, _, _, _, _, _, rfl⟩, ?_, ?_⟩
  · rintro i z ρ' hz ⟨_, s2, s3, s4, s5, s6, s7, s8, rfl⟩
    have hi : i < ss.length := by
      have := (List.getElem?_eq_some_iff.mp hz).1
      rwa [enumD_len, List.length_map] at this
    obtain ⟨a, ga, ma, ea⟩ := hget hi
    rw [ea] at hz
    obtain rfl := Option.some.inj hz
    refine gs_tup rfl (gss_cons (gs_name trivial (gss_cons (gs_name trivial (gss_nil ?_)))))
    change Sx K W H F0 _ [.dat L, .dat TT, .dat (num i), .dat (stD a), s4, s5, s6, s7, s8] _
    refine sx_for (fun es i' ρ' => es = enumD (ss.map stD) ∧ ∃ s4 s5 s6 s7 s8, ρ' = [.dat L, .dat TT, .dat (num i), .dat (stD a), s4, s5, s6, s7, s8]) (evi_enumL ?_)
    rw [hL]
    walk_at "go"
    rw [← hL]
    refine ⟨⟨rfl, _, _, _, _, _, rfl⟩, ?_, ?_⟩
    · rintro j z ρ' hz ⟨_, s4, s5, s6, s7, s8, rfl⟩
      have hj : j < ss.length := by
        have := (List.getElem?_eq_some_iff.mp hz).1
        rwa [enumD_len, List.length_map] at this
      obtain ⟨b, gb, mb, eb⟩ := hget hj
      rw [eb] at hz
      obtain rfl := Option.some.inj hz
      have oa := o.or a ma
      have ob := o.or b mb
      refine gs_tup rfl (gss_cons (gs_name trivial (gss_cons (gs_name trivial (gss_nil ?_)))))
      change Sx K W H F0 _ [.dat L, .dat TT, .dat (num i), .dat (stD a), .dat (num j), .dat (stD b), s6, s7, s8] _
      refine sx_seq (sx_asg (ev_fnE ?_))
      walk_at "go"
      refine ⟨(a, b), rfl, by simp [encS, NoLs], rfl, ⟨o.sp a ma, o.sp b mb⟩, trivial, ?_⟩
      change Sx K W H F0 _ [.dat L, .dat TT, .dat (num i), .dat (stD a), .dat (num j), .dat (stD b), .dat (pairD (a, b)), s7, s8] _
      have epn : isNone (pairD (a, b)) = !(taken a.ms b.ms.reverse []).isSome := by
        simp only [pairD]
        cases taken a.ms b.ms.reverse [] <;> rfl
      have enl := noLess_plain a b
      refine sx_seq (sx_if (et_test (ev_op (tix ga gb rfl rfl rfl (Ev.mono (P := fun s => s = .dat (.bool (noLess a b))) ?_ fun s e => ?_)))))
      · refine ev_and (ev_fnE ?_)
        walk_at "go"
        refine ⟨(a, b), rfl, by simp [encS, NoLs], rfl, ⟨n, okSome_ln o ma mb⟩, _, rfl, if2 (fun q => ?_) (fun q => ?_)⟩
        · have q : plainB a b = true := q
          walk_at "go"
          refine rt_bool ?_
          rw [enl, q, epn, Bool.not_not, Bool.true_and]
        · have q : plainB a b = false := q
          refine rt_bool ?_
          rw [enl, q, Bool.false_and]
      subst e
      refine ops_ne rfl rfl ⟨_, rfl, ifN (by cases noLess a b <;> rfl) (sx_next ?_)⟩
      refine sx_seq (sx_if (EvT.mono (PB := fun c => c = false) ?_ fun c hc => ?_))
      · refine et_and (et_test (ev_op (ev_varx ⟨_, rfl, ev_non (ops_isNot ⟨_, rfl, if2 (fun q => ?_) (fun _ => rfl)⟩)⟩)))
        rw [epn, Bool.not_not] at q
        obtain ⟨ks, hks⟩ := Option.isSome_iff_exists.mp q
        obtain ⟨t1, t2, t3⟩ := told_ok ob.mm hks
        have m2 := oa.mm
        have ep : pairD (a, b) = rowD ks.reverse := by simp only [pairD, hks]
        have fk : Fine (rowD ks.reverse) := ((bd_tup (n := 0)).mpr (bds_map' ks.reverse fun x m => (bd_int (k := 10) (by have := t3 x (List.mem_reverse.mp m); omega) (by decide)))).mono (w' := 400) (n' := 1) (Nat.le_refl _) (by rw [List.length_reverse]; omega) (by decide) |>.fine (by decide) (by decide) (by decide)
        have jt : judged18 a b (rowD ks.reverse) = .told := by rw [judged_row18, t1]
        refine et_test (ev_op (ev_fnXN ?_))
        walk_at "go"
        rw [ep]
        refine ⟨by simp [NoLs], rfl, ⟨⟨a, b, rowD ks.reverse⟩, rfl, o.sp a ma, o.sp b mb, fk⟩, fun s hs => ?_, fun C' fs hx => ?_⟩
        · obtain ⟨_, rfl⟩ := hs ⟨a, b, rowD ks.reverse⟩ rfl
          refine ev_bl (ops_notB ⟨_, rfl, rfl⟩)
        · obtain ⟨_, hx⟩ := hx
          obtain ⟨x, y, hj, _⟩ := hx ⟨a, b, rowD ks.reverse⟩ rfl
          rw [show judged18 a b (rowD ks.reverse) = _ from jt] at hj
          cases hj
      subst hc
      refine ifN rfl (sx_next ?_)
      refine sx_seq (sx_if (EvT.mono (PB := fun c => c = false) ?_ fun c hc => ?_))
      · refine et_and (et_B (tix ga gb rfl rfl rfl ⟨_, rfl, if2 (fun q1 => ?_) (fun _ => rfl)⟩))
        refine et_and (et_B (tix gb ga rfl rfl rfl ⟨_, rfl, if2 (fun q2 => ?_) (fun _ => rfl)⟩))
        obtain rfl := noLess_anti oa ob q1 q2
        refine et_test (ev_op (ev_varx ⟨_, rfl, ev_varx ⟨_, rfl, ops_ne (o.sh a ma) (o.sh a ma) ⟨_, rfl, ?_⟩⟩⟩))
        rw [SeqAt.eqv_refl _ (SeqAt.canLay_of_shaped (o.sh a ma))]
        rfl
      subst hc
      refine ifN rfl (sx_next ?_)
      refine sx_seq (sx_asg (ev_frz (evn_map (lessB ss b) (fun d => d) (evi_rng1 (ea_cons (ev_cb (ea_cons (ev_varx ⟨_, rfl, ea_nil (cas_len_lst (ds := ss.map stD) (.inl (by rw [hL])) (ea_nil ⟨_, rfl, ?_, ?_, ?_, fun d hd => ?_, ?_⟩))⟩))))))))
      · rw [List.length_map]; omega
      · rw [List.length_map]; omega
      · rw [rngD_len, List.length_map, sizeLine_eq]; omega
      · obtain ⟨k, hk, c, gc, rfl⟩ := rng_get hd
        refine gc_name (by decide) trivial ?_
        refine et_B (tix gb gc rfl rfl rfl ⟨_, rfl, ?_, fun _ => ev_varx ⟨_, rfl, rfl⟩⟩)
        rw [lessB_at gc]
      rw [List.map_id']
      refine ⟨trivial, ?_⟩
      obtain ⟨bl, hbl⟩ : ∃ bl, bl = (rngD 0 ((List.map stD ss).length : Int).toNat).filter (lessB ss b) := ⟨_, rfl⟩
      rw [← hbl]
      have lbl : bl.length ≤ 20 := by
        rw [hbl]
        refine Nat.le_trans (List.length_filter_le _ _) ?_
        rw [rngD_len, List.length_map]
        omega
      change Sx K W H F0 _ [.dat L, .dat TT, .dat (num i), .dat (stD a), .dat (num j), .dat (stD b), .dat (pairD (a, b)), .dat (.list bl), s8] _
      refine sx_if (EvT.mono (PB := fun c => c = false) ?_ fun c hc => ?_)
      · refine et_and (et_B (tix ga gb rfl rfl rfl ⟨_, rfl, if2 (fun q1 => ?_) (fun _ => rfl)⟩))
        refine et_test (ev_op (ev_frz (evn_map (fun d => !lessB ss a d) (fun d => d) (evi_list (ev_varx ⟨_, rfl, _, rfl, ?_, fun d hd => ?_, ?_⟩)))))
        · rw [sizeLine_eq]; omega
        · rw [hbl] at hd
          obtain ⟨k, hk, c, gc, rfl⟩ := rng_get (List.mem_filter.mp hd).1
          refine gc_name (by decide) trivial ?_
          refine et_not (et_B (tix ga gc rfl rfl rfl ⟨_, rfl, ?_, fun _ => ev_varx ⟨_, rfl, rfl⟩⟩))
          rw [lessB_at gc]
        · rw [List.map_id']
          have e0 : bl.filter (fun d => !lessB ss a d) = [] := by
            rw [List.filter_eq_nil_iff]
            intro d hd
            rw [hbl] at hd
            obtain ⟨m1, m2⟩ := List.mem_filter.mp hd
            obtain ⟨k, hk, c, gc, rfl⟩ := rng_get m1
            rw [lessB_at gc] at m2 ⊢
            rw [noLess_trans oa ob (o.or c (List.mem_of_getElem? gc)) q1 m2]
            exact Bool.false_ne_true
          rw [e0]
          walk_at "go"
          exact ops_ne rfl rfl ⟨_, rfl, rfl⟩
      subst hc
      exact ifN rfl (sx_next ⟨rfl, _, _, _, _, _, rfl⟩)
    · rintro ρ' ⟨_, s4, s5, s6, s7, s8, rfl⟩
      exact ⟨rfl, _, _, _, _, _, _, _, rfl⟩
  · rintro ρ' ⟨_, s2, s3, s4, s5, s6, s7, s8, rfl⟩
    refine sx_ret (ev_op (ev_frz (evn_map (fun d => !selfB ss d) (fun d => d) (evi_rng1 (ea_cons (ev_cb (ea_cons (ev_varx ⟨_, rfl, ea_nil (cas_len_lst (ds := ss.map stD) (.inl (by rw [hL])) (ea_nil ⟨_, rfl, ?_, ?_, ?_, fun d hd => ?_, ?_⟩))⟩))))))))
    · rw [List.length_map]; omega
    · rw [List.length_map]; omega
    · rw [rngD_len, List.length_map, sizeLine_eq]; omega
    · obtain ⟨k, hk, c, gc, rfl⟩ := rng_get hd
      refine gc_name (by decide) trivial ?_
      refine et_not (et_B (tix gc gc rfl rfl rfl ⟨_, rfl, ?_, fun _ => ev_varx ⟨_, rfl, rfl⟩⟩))
      rw [selfB_at gc]
    · rw [List.map_id']
      have e0 : (rngD 0 ((List.map stD ss).length : Int).toNat).filter (fun d => !selfB ss d) = [] := by
        rw [List.filter_eq_nil_iff]
        intro d hd
        obtain ⟨k, hk, c, gc, rfl⟩ := rng_get hd
        rw [selfB_at gc, noLess_refl (o.or c (List.mem_of_getElem? gc))]
        exact Bool.false_ne_true
      rw [e0]
      walk_at "go"
      exact ops_eq rfl rfl rfl
end
end K19

namespace K19
open PySem L2 RZ DL
/-! the walk by data -/
local macro_rules | `(tactic| walk_at "dl") => `(tactic| first
  | with_reducible first
    | refine sx_seq ?_ | refine sx_if ?_ | refine sx_next ?_
    | refine et_not ?_ | refine et_B ?_ | refine et_test ?_ | refine et_and ?_ | refine et_or ?_ | refine et_yes ?_
    | refine ev_and ?_ | refine ev_or ?_ | refine ev_not ?_ | refine ev_if ?_ | refine ev_chain ?_
    | refine ev_int ?_ | refine ev_bl ?_ | refine ev_str ?_ | refine ev_non ?_ | refine ev_c ?_
    | refine ev_op ?_ | refine ev_un ?_ | refine ev_cb ?_ | refine ev_fn1 ?_ | refine ev_fn2 ?_ | refine ev_sl ?_ | refine eo_none ?_ | refine eo_some ?_ | refine ev_tup ?_
    | refine ea_cons ?_ | refine ea_nil ?_
    | refine ops_ge ?_ | refine ops_le ?_ | refine ops_gt ?_ | refine ops_lt ?_ | refine ops_leS ?_ | refine ops_ltS ?_ | refine ops_add_int ?_ | refine ops_sub ?_ | refine ops_isN ?_ | refine ops_isNot ?_ | refine ops_eq_int ?_ | refine ops_eqS ?_ | refine ops_neS ?_
    | refine cas_len_tup ?_ | refine cas_isi_int ?_ | refine cas_isi_bool ?_ | refine cas_isi_str ?_ | refine cas_isi_tup ?_ | refine cas_isi_lst ?_
    | refine iteT ?_ | refine iteF ?_ | refine and_nols ?_
  | ((with_reducible refine ev_varx ?_); refine ⟨_, rfl, ?_⟩)
  | ((with_reducible refine ops_ix_tupx ?_); first | refine ⟨_, rfl, ?_⟩ | refine ⟨_, atI_nat (j := 0) rfl, ?_⟩ | refine ⟨_, atI_nat (j := 1) rfl, ?_⟩ | refine ⟨_, atI_nat (j := 2) rfl, ?_⟩ | refine ⟨_, atI_nat (j := 3) rfl, ?_⟩ | refine ⟨_, atI_nat (j := 4) rfl, ?_⟩ | refine ⟨_, atI_nat (j := 5) rfl, ?_⟩ | refine ⟨_, atI_nat (j := 6) rfl, ?_⟩)
  | ((with_reducible refine sz_and ?_ ?_); exact rfl)
  | ((with_reducible refine ev_ownx ?_); refine ⟨_, rfl, ?_⟩)
  | ((with_reducible refine ev_refx ?_); refine ⟨_, rfl, ?_⟩)
  | (with_reducible refine sxn_seq ?_) | (with_reducible refine uns_neg ?_) | (with_reducible refine ev_frz (evn_lst ?_)) | (with_reducible refine sls_tup ?_) | (refine ev_revT ?_)
  | ((refine sx_extx ?_); refine ⟨_, rfl, ?_⟩) | ((with_reducible refine ops_add_tup ?_ ?_); exact le_line rfl) | (with_reducible refine cas_listT ?_)
  | ((with_reducible refine ifT ?_ ?_); exact rfl) | ((with_reducible refine ifF ?_ ?_); exact rfl))
local macro_rules | `(tactic| walk_at "go") => `(tactic| repeat (first | walk_at "dl" | with_reducible refine ⟨_, rfl, ?_⟩ | with_reducible refine ⟨_, _, rfl, ?_⟩))
/-! ### void and full stands -/
def voidSt (n p r : Nat) : St := ⟨List.replicate n 0, List.replicate n [], 0, [], p, r⟩
def fullSt (w : Wk8) (p r : Nat) : St := ⟨List.replicate w.ks.length w.us, List.replicate w.ks.length (List.replicate w.sh w.br), w.st, [], p, r⟩
theorem flat_one {α : Type} (n : Nat) (x : α) : (List.replicate n [x]).flatten = List.replicate n x := by
  induction n with
  | zero => rfl
  | succ n ih => rw [List.replicate_succ, List.flatten_cons, ih, List.replicate_succ]; rfl
abbrev spPhase (K : PySem.W.Frag) : Sp := Pm K 2 (fun _ ss => ∃ (d : D) (p : Nat), ss = [.dat d, .dat (num p)]) fun _ ss s => ∀ (d : D) (p : Nat), ss = [.dat d, .dat (num p)] → s = .dat (num p)
abbrev CPhase (Pg : Program) (w : World) (K : PySem.W.Frag) (mg : Str → Option Value) (base : Heap) := Fn Pg w K mg base "phase_told" 1 ["works", "phase"] (spPhase K)
abbrev spVoid (K : PySem.W.Frag) (v : Wk8 → Nat → Nat → St) : Sp := Pm K 3 (fun _ ss => ∃ (w : Wk8) (p r : Nat), ss = [.dat (wkD8 w), .dat (num p), .dat (num r)] ∧ okW8 w ∧ 1 ≤ w.sh) fun _ ss s => ∀ (w : Wk8) (p r : Nat), ss = [.dat (wkD8 w), .dat (num p), .dat (num r)] → s = .dat (stD (v w p r))
theorem wpr_inj {w w' : Wk8} {p r p' r' : Nat} (e : ([.dat (wkD8 w), .dat (num p), .dat (num r)] : Rho) = [.dat (wkD8 w'), .dat (num p'), .dat (num r')]) : w = w' ∧ p = p' ∧ r = r' := by
  injection e with e1 e
  injection e with e2 e
  injection e with e3 _
  injection e1 with e1
  injection e2 with e2
  injection e3 with e3
  exact ⟨wkD_inj _ _ e1, num_inj _ _ e2, num_inj _ _ e3⟩
section
variable {Pg : Program} {w : World} {K : PySem.W.Frag} {mg : Str → Option Value} {base : Heap} {f : Addr} {fd : FuncData}
theorem ok_phase_told (F : Fun K "phase_told" "phase_told" s_phase_told f fd) (T : Txt mg) : FnG Pg w K mg base 1 f fd ["works", "phase"] (spPhase K) := by
  have nd := sc_phase_told.nd
  refine fnG_of F sc_phase_told pm_len (fun cdv A ou s H vs Q hgd hr h => ?_)
  refine ⟨_, (pss_cons (ps_if (pt_cmpR opIsN (pv 1) pe_non (nomark _)) (pss_one (ps_ret (pe_ix (r := rIx K) ix_seq (pe_ix (r := rIx K) ix_seq (pv 0) pe_int (fun _ _ => rfl)) pe_int (fun _ _ => rfl)))) pss_nil) (pss_one (ps_ret (pv 1)))), pm_body (by decide) h fun W F0 ss hl ⟨d, p, hss⟩ => ?_⟩
  subst hss
  change Sx K W H F0 _ [.dat d, .dat (num p)] _
  walk_at "go"
  refine sx_ret ?_
  walk_at "go"
  intro d' p' e
  injection e with _ e
  injection e with e _
theorem ok_void (F : Fun K "void_stand" "void_stand" s_void_stand f fd) (T : Txt mg) (C_phase_told : CPhase Pg w K mg base) : FnG Pg w K mg base 2 f fd ["works", "phase", "rest"] (spVoid K fun w p r => voidSt w.ks.length p r) := by
  have nd := sc_void_stand.nd
  refine fnG_of F sc_void_stand pm_len (fun cdv A ou s H vs Q hgd hr h => ?_)
  refine ⟨_, (pss_cons (ps_set (i := 3) nd rfl (Or.inl rfl) (pe_callB (r := rLenA K) call_len (by rfl) T.b_len (by decide +kernel) (pa_cons (pe_ix (r := rIx K) ix_seq (pv 0) pe_int (fun _ _ => rfl)) pa_nil)) (hf := Or.inl rfl)) (pss_one (ps_ret (pe_tup (pa_cons (pe_op (r := rMul6 K) opMul6 (pe_tup (pa_cons pe_int pa_nil)) (pv 3)) (pa_cons (pe_op (r := rMul6 K) opMul6 (pe_tup (pa_cons (pe_tup pa_nil) pa_nil)) (pv 3)) (pa_cons pe_int (pa_cons (pe_tup pa_nil) (pa_cons (pe_fn C_phase_told hgd (hr.mono (by first | decide | omega)) rfl (pa_cons (pv 0) (pa_cons (pv 1) pa_nil))) (pa_cons (pv 2) pa_nil)))))))))), pm_body (by decide) h fun W F0 ss hl ⟨wk, p, r, hss, ok, sh1⟩ => ?_⟩
  subst hss
  have k1 := ok.k1
  have k3 := ok.k3
  change Sx K W H F0 _ [.dat (wkD8 wk), .dat (num p), .dat (num r), .un] _
  refine sx_seq (sx_asg ?_)
  walk_at "go"
  rw [List.length_map]
  change Sx K W H F0 _ [.dat (wkD8 wk), .dat (num p), .dat (num r), .dat (num wk.ks.length)] _
  refine sx_ret ?_
  walk_at "go"
  refine ops_rep6 (by omega) (by omega) (by show 1 ≤ 1000; decide) ?_
  walk_at "go"
  refine ops_rep6 (by omega) (by omega) (by show 1 ≤ 1000; decide) ?_
  walk_at "go"
  refine ev_fn ?_
  walk_at "go"
  refine ⟨by simp [NoLs], rfl, ⟨_, p, rfl⟩, fun s hs => ?_⟩
  rw [hs _ p rfl]
  walk_at "go"
  intro w' p' r' e
  obtain ⟨rfl, rfl, rfl⟩ := wpr_inj e
  show Sl.dat (.tuple [.tuple (List.replicate ((wk.ks.length : Nat) : Int).toNat [.int 0]).flatten, .tuple (List.replicate ((wk.ks.length : Nat) : Int).toNat [.tuple []]).flatten, num 0, .tuple [], num p, num r]) = .dat (.tuple [.tuple ((List.replicate wk.ks.length 0).map num), .tuple ((List.replicate wk.ks.length []).map rowD), num 0, .tuple [], num p, num r])
  rw [flat_one, flat_one, List.map_replicate, List.map_replicate, Int.toNat_natCast]
  rfl
theorem ok_full (F : Fun K "full_stand" "full_stand" s_full_stand f fd) (T : Txt mg) (C_phase_told : CPhase Pg w K mg base) : FnG Pg w K mg base 2 f fd ["works", "phase", "rest"] (spVoid K fullSt) := by
  have nd := sc_full_stand.nd
  refine fnG_of F sc_full_stand pm_len (fun cdv A ou s H vs Q hgd hr h => ?_)
  refine ⟨_, (pss_cons (ps_set (i := 3) nd rfl (Or.inl rfl) (pe_callB (r := rLenA K) call_len (by rfl) T.b_len (by decide +kernel) (pa_cons (pe_ix (r := rIx K) ix_seq (pv 0) pe_int (fun _ _ => rfl)) pa_nil)) (hf := Or.inl rfl)) (pss_cons (ps_asg (pe_ix (r := rIx K) ix_seq (pv 0) pe_int (fun _ _ => rfl)) (pg_tup (n := 4) rfl (pgs_cons (pg_name (i := 4) nd rfl (Or.inl rfl) (Or.inl rfl)) (pgs_cons (pg_name (i := 5) nd rfl (Or.inl rfl) (Or.inl rfl)) (pgs_cons (pg_name (i := 6) nd rfl (Or.inl rfl) (Or.inl rfl)) (pgs_cons (pg_name (i := 7) nd rfl (Or.inl rfl) (Or.inl rfl)) pgs_nil)))))) (pss_one (ps_ret (pe_tup (pa_cons (pe_op (r := rMul6 K) opMul6 (pe_tup (pa_cons (pv 4) pa_nil)) (pv 3)) (pa_cons (pe_op (r := rMul6 K) opMul6 (pe_tup (pa_cons (pe_op (r := rMul6 K) opMul6 (pe_tup (pa_cons (pv 6) pa_nil)) (pv 5)) pa_nil)) (pv 3)) (pa_cons (pv 7) (pa_cons (pe_tup pa_nil) (pa_cons (pe_fn C_phase_told hgd (hr.mono (by first | decide | omega)) rfl (pa_cons (pv 0) (pa_cons (pv 1) pa_nil))) (pa_cons (pv 2) pa_nil))))))))))), pm_body (by decide) h fun W F0 ss hl ⟨wk, p, r, hss, ok, sh1⟩ => ?_⟩
  subst hss
  have k1 := ok.k1
  have k3 := ok.k3
  have sh9 := ok.sh
  change Sx K W H F0 _ [.dat (wkD8 wk), .dat (num p), .dat (num r), .un, .un, .un, .un, .un] _
  refine sx_seq (sx_asg ?_)
  walk_at "go"
  rw [List.length_map]
  refine sx_asgG ?_
  walk_at "go"
  refine gs_tup rfl (gss_cons (gs_name trivial (gss_cons (gs_name trivial (gss_cons (gs_name trivial (gss_cons (gs_name trivial (gss_nil ?_)))))))))
  change Sx K W H F0 _ [.dat (wkD8 wk), .dat (num p), .dat (num r), .dat (num wk.ks.length), .dat (num wk.us), .dat (num wk.sh), .dat (num wk.br), .dat (num wk.st)] _
  refine sx_ret ?_
  walk_at "go"
  refine ops_rep6 (by omega) (by omega) (by show 1 ≤ 1000; decide) ?_
  walk_at "go"
  refine ops_rep6 (by omega) (by omega) (by show 1 ≤ 1000; decide) ?_
  walk_at "go"
  refine ops_rep6 (by omega) (by omega) (by show 1 ≤ 1000; decide) ?_
  walk_at "go"
  refine ev_fn ?_
  walk_at "go"
  refine ⟨by simp [NoLs], rfl, ⟨_, p, rfl⟩, fun s hs => ?_⟩
  rw [hs _ p rfl]
  walk_at "go"
  intro w' p' r' e
  obtain ⟨rfl, rfl, rfl⟩ := wpr_inj e
  show Sl.dat (.tuple [.tuple (List.replicate ((wk.ks.length : Nat) : Int).toNat [num wk.us]).flatten, .tuple (List.replicate ((wk.ks.length : Nat) : Int).toNat [.tuple (List.replicate ((wk.sh : Nat) : Int).toNat [num wk.br]).flatten]).flatten, num wk.st, .tuple [], num p, num r]) = .dat (.tuple [.tuple ((List.replicate wk.ks.length wk.us).map num), .tuple ((List.replicate wk.ks.length (List.replicate wk.sh wk.br)).map rowD), num wk.st, .tuple [], num p, num r])
  rw [flat_one, flat_one, flat_one, List.map_replicate, List.map_replicate, Int.toNat_natCast, Int.toNat_natCast]
  have er : rowD (List.replicate wk.sh wk.br) = .tuple (List.replicate wk.sh (num wk.br)) := by
    show PyData.tuple ((List.replicate wk.sh wk.br).map num) = _
    rw [List.map_replicate]
  rw [er]
end
end K19

namespace K19
open PySem L2 RZ DL
/-! the walk by data -/
local macro_rules | `(tactic| walk_at "dl") => `(tactic| first
  | with_reducible first
    | refine sx_seq ?_ | refine sx_if ?_ | refine sx_next ?_
    | refine et_not ?_ | refine et_B ?_ | refine et_test ?_ | refine et_and ?_ | refine et_or ?_ | refine et_yes ?_
    | refine ev_and ?_ | refine ev_or ?_ | refine ev_not ?_ | refine ev_if ?_ | refine ev_chain ?_
    | refine ev_int ?_ | refine ev_bl ?_ | refine ev_str ?_ | refine ev_non ?_ | refine ev_c ?_
    | refine ev_op ?_ | refine ev_un ?_ | refine ev_cb ?_ | refine ev_fn1 ?_ | refine ev_fn2 ?_ | refine ev_sl ?_ | refine eo_none ?_ | refine eo_some ?_ | refine ev_tup ?_
    | refine ea_cons ?_ | refine ea_nil ?_
    | refine ops_ge ?_ | refine ops_le ?_ | refine ops_gt ?_ | refine ops_lt ?_ | refine ops_leS ?_ | refine ops_ltS ?_ | refine ops_add_int ?_ | refine ops_sub ?_ | refine ops_isN ?_ | refine ops_isNot ?_ | refine ops_eq_int ?_ | refine ops_eqS ?_ | refine ops_neS ?_
    | refine cas_len_tup ?_ | refine cas_isi_int ?_ | refine cas_isi_bool ?_ | refine cas_isi_str ?_ | refine cas_isi_tup ?_ | refine cas_isi_lst ?_
    | refine iteT ?_ | refine iteF ?_ | refine and_nols ?_
  | ((with_reducible refine ev_varx ?_); refine ⟨_, rfl, ?_⟩)
  | ((with_reducible refine ops_ix_tupx ?_); first | refine ⟨_, rfl, ?_⟩ | refine ⟨_, atI_nat (j := 0) rfl, ?_⟩ | refine ⟨_, atI_nat (j := 1) rfl, ?_⟩ | refine ⟨_, atI_nat (j := 2) rfl, ?_⟩ | refine ⟨_, atI_nat (j := 3) rfl, ?_⟩ | refine ⟨_, atI_nat (j := 4) rfl, ?_⟩ | refine ⟨_, atI_nat (j := 5) rfl, ?_⟩ | refine ⟨_, atI_nat (j := 6) rfl, ?_⟩)
  | ((with_reducible refine sz_and ?_ ?_); exact rfl)
  | ((with_reducible refine ev_ownx ?_); refine ⟨_, rfl, ?_⟩)
  | ((with_reducible refine ev_refx ?_); refine ⟨_, rfl, ?_⟩)
  | (with_reducible refine sxn_seq ?_) | (with_reducible refine uns_neg ?_) | (with_reducible refine ev_frz (evn_lst ?_)) | (with_reducible refine sls_tup ?_) | (refine ev_revT ?_)
  | ((refine sx_extx ?_); refine ⟨_, rfl, ?_⟩) | ((with_reducible refine ops_add_tup ?_ ?_); exact le_line rfl) | (with_reducible refine cas_listT ?_)
  | ((with_reducible refine ifT ?_ ?_); exact rfl) | ((with_reducible refine ifF ?_ ?_); exact rfl))
local macro_rules | `(tactic| walk_at "go") => `(tactic| repeat (first | walk_at "dl" | with_reducible refine ⟨_, rfl, ?_⟩ | with_reducible refine ⟨_, _, rfl, ?_⟩))
/-! ### right stands are let by -/
theorem b8_to (w : Wk) (m : Mk) : b8 (to8 w) m = beatsOf w m := by
  obtain ⟨n, l, k⟩ := m
  cases l with
  | none =>
    show (((w.ks.map _).find? fun k => decide (k.nm = n)).map Kd8.beats).getD 0 = ((w.ks.find? fun k => decide (k.nm = n)).map Kd.be).getD 0
    rw [List.find?_map, Option.map_map]
    rfl
  | some l => rfl
theorem is_row (l : List Nat) : areNums (rowD l) = true := nums_all l
theorem is_mk {x : Str} {l : Option Nat} {k : Nat} (h : isWord (.str x) = true) : isMaking (mkD ⟨x, l, k⟩) = true := by
  have n : ∀ m : Nat, isNum (num m) = true := fun m => decide_eq_true (Int.natCast_nonneg m)
  cases l with
  | none =>
    show ((isS "tool" (.str "tool") && isWord (.str x)) && isNum (num k)) = true
    rw [h, n]
    decide +kernel
  | some l =>
    show ((isS "leaf" (.str "leaf") && isWord (.str x) && isNum (num l)) && isNum (num k)) = true
    rw [h, n, n]
    decide +kernel
theorem stand_is {s : St} (h : ∀ m ∈ s.ms, isWord (.str m.nm) = true) : isStand (stD s) = true := by
  obtain ⟨us, ls, st, ms, ph, rs⟩ := s
  have n : ∀ m : Nat, isNum (num m) = true := fun m => decide_eq_true (Int.natCast_nonneg m)
  show (areNums (rowD us) && areNums (.tuple [num st, num ph, num rs]) && areLights (lsD ls) && areMakings (msD ms)) = true
  have h2 : areNums (.tuple [num st, num ph, num rs]) = true := is_row [st, ph, rs]
  have h3 : areLights (lsD ls) = true := by
    show (ls.map rowD).all areNums = true
    rw [List.all_map, List.all_eq_true]
    exact fun l _ => is_row l
  have h4 : areMakings (msD ms) = true := by
    show (ms.map mkD).all isMaking = true
    rw [List.all_map, List.all_eq_true]
    exact fun m hm => is_mk (h m hm)
  rw [is_row, h2, h3, h4]
  rfl
theorem fallN_down {l : List Nat} (h : down l) : fallN l = true := by
  unfold fallN
  rw [List.all_eq_true]
  intro p hp
  obtain ⟨i, hi, rfl⟩ := List.getElem_of_mem hp
  rw [List.length_zip, List.length_drop] at hi
  rw [List.getElem_zip, List.getElem_drop]
  exact decide_eq_true (List.pairwise_iff_getElem.mp h i (1 + i) (by omega) (by omega) (by omega))
theorem right_none {w : Wk} (ok : okW w) {s : St} (o : okD (to8 w) s) : judged w (stD s) = none := by
  have kl : (to8 w).ks.length = w.ks.length := by unfold to8; rw [List.length_map]
  have hnm : ∀ m ∈ s.ms, m.nm ∈ w.names := fun m hm => by
    have := (o.ms m hm).nm
    rwa [to8_nm] at this
  have hw : ∀ m ∈ s.ms, isWord (.str m.nm) = true := fun m hm => by
    obtain ⟨k, hk, e⟩ := List.mem_map.mp (hnm m hm)
    rw [← e]
    exact (ok.ks k hk).wd
  rw [judged_st (stand_is hw)]
  have u1 : vUses w s.us = none := by
    unfold vUses
    rw [if_pos (o.us.trans kl), fst_none]
    · rfl
    · intro j hj
      refine decide_eq_false ?_
      have e : gd s.us j = s.us[j] := by simp [gd, hj]
      rw [e]
      exact Nat.not_lt.mpr (o.ub _ (List.getElem_mem hj))
  have u2 : vLeaves w s.ls = none := by
    unfold vLeaves
    rw [if_pos (o.ls.trans kl), fst_none]
    · rfl
    · intro j hj
      have e : s.ls.getD j [] = s.ls[j] := by simp [hj]
      rw [e]
      obtain ⟨h1, h2, h3⟩ := o.lr _ (List.getElem_mem hj)
      unfold leafBad
      rw [show decide (w.sh < (s.ls[j]).length) = false from decide_eq_false (Nat.not_lt.mpr h1), fallN_down h3, Bool.false_or, Bool.not_true, Bool.false_or]
      rw [List.any_eq_false]
      intro x hx
      simp only [decide_eq_true_eq]
      exact Nat.not_lt.mpr (h2 x hx)
  have u3 : vStore w s.st = none := if_neg (Nat.not_lt.mpr o.st)
  have u4 : vMakings w s.ms = none := by
    unfold vMakings
    rw [if_neg (show ¬ w.ln < s.ms.length from Nat.not_lt.mpr o.mm), fst_none]
    · rfl
    · intro j hj
      have e : s.ms.getD j dfM = s.ms[j] := by simp [hj]
      have hm := List.getElem_mem hj
      have q := o.ms _ hm
      have g : mkGood w s.ms[j] = true := by
        unfold mkGood
        rw [decide_eq_true (hnm _ hm), Bool.true_and]
        have tb : tooBright w s.ms[j] = false := by
          unfold tooBright
          split
          · rfl
          · next l hl => exact decide_eq_false (Nat.not_lt.mpr (q.light l hl))
        rw [tb, decide_eq_true q.left1, decide_eq_true (by have := q.left; rwa [b8_to] at this)]
        rfl
      rw [e, g, Bool.not_true, Bool.false_or]
      unfold mkDown
      by_cases z : 0 < j
      · rw [decide_eq_true z, Bool.true_and]
        have e2 : s.ms.getD (j - 1) dfM = s.ms[j - 1] := by simp [show j - 1 < s.ms.length by omega]
        rw [e, e2]
        have := List.pairwise_iff_getElem.mp o.mr (j - 1) j (by omega) hj (by omega)
        have h1 : (!PySem.W.dataLt (mkD s.ms[j]) (mkD s.ms[j - 1])) = true := this
        rwa [Bool.not_eq_true'] at h1
      · rw [decide_eq_false z, Bool.false_and]
  have u5 : vPhase w s.ph = none := if_pos ⟨o.ph1, o.ph⟩
  have u6 : vRest w s.rs = none := if_neg (Nat.not_lt.mpr o.rs)
  unfold vStand
  rw [u1, u2, u3, u4, u5, u6]
  rfl
/-! ### bounds -/
theorem st_fine {w : Wk8} (ok : okW8 w) {s : St} (o : okD w s) : Fine (stD s) := by
  have k3 := ok.k3
  have n1 := o.us
  have n2 := o.ls
  have us6 := ok.us
  have sh9 := ok.sh
  have br3 := ok.br
  have ln2 := ok.ln
  have st6 := ok.st
  have sp4 := ok.sp
  have fr8 := ok.fr
  have g1 := o.st
  have g2 := o.ph
  have g3 := o.rs
  have g4 := o.mm
  have b1 : Bd 10 600 3 (rowD s.us) := (bd_tup.mpr (bds_map num (n := 0) fun x m => num_bd (Nat.le_trans (o.ub x m) (by omega)))).mono (Nat.le_refl _) (by omega) (by decide)
  have b2 : Bd 10 5400 3 (.tuple (s.ls.map rowD)) := (bd_tup.mpr (bds_map rowD (w := 1791) (n := 1) fun l m => by
    obtain ⟨h1, h2, _⟩ := o.lr l m
    exact (bd_tup.mpr (bds_map num (n := 0) fun x q => num_bd (Nat.le_trans (h2 x q) (by omega)))).mono (Nat.le_refl _) (by omega) (Nat.le_refl _))).mono (Nat.le_refl _) (by omega) (by decide)
  have b3 : Bd 10 198 3 (num s.st) := num_bd (by omega)
  have b4 : Bd 10 1002 3 (.tuple (s.ms.map mkD)) := (bd_tup.mpr (bds_map mkD fun m q => mk_bd ok (o.ms m q))).mono (Nat.le_refl _) (by omega) (by decide)
  have b5 : Bd 10 198 3 (num s.ph) := num_bd (by omega)
  have b6 : Bd 10 198 3 (num s.rs) := num_bd (by omega)
  exact ((bd_tup.mpr (bds_cons b1 (bds_cons b2 (bds_cons b3 (bds_cons b4 (bds_cons b5 (bds_one b6))))))).mono (w' := 8000) (n' := 4) (Nat.le_refl _) (by decide) (Nat.le_refl _)).fine (by decide) (by decide) (by decide)
theorem st_okS {w : Wk8} (ok : okW8 w) {s : St} (o : okD w s) : okS s := by
  have k3 := ok.k3
  have n1 := o.us
  have n2 := o.ls
  have sh9 := ok.sh
  have br3 := ok.br
  have ln2 := ok.ln
  have g4 := o.mm
  refine ⟨fun m q => ?_, by omega, by omega, by omega, fun l q => by have := (o.lr l q).1; omega⟩
  have hm := o.ms m q
  obtain ⟨b1, b4⟩ := b8_in ok hm.nm
  obtain ⟨k, hk, e⟩ := List.mem_map.mp hm.nm
  exact ⟨e ▸ (ok.ks k hk).nm, fun l e => by have := hm.light l e; omega, by have := hm.left; omega⟩
def bareSt (s : St) : St := { s with ms := [] }
theorem okO_bare {w : Wk8} {s : St} (o : okD w s) : okO w.ks.length (bareSt s) := ⟨o.us, o.ls, Nat.zero_le _, List.Pairwise.nil, List.Pairwise.nil⟩
theorem okS_bare {s : St} (o : okS s) : okS (bareSt s) := ⟨fun m q => (nomatch q), Nat.zero_le _, o.us, o.ls, o.rows⟩
theorem bare_less {w : Wk8} (ok : okW8 w) {s : St} (o : okD w s) : noLess s (bareSt s) = true :=
  (noLess_iff (okO_of ok o) (okO_bare o)).mpr ⟨rfl, Nat.le_refl _, Nat.le_refl _, geAll_refl _, covAll_refl _, by cases s.ms <;> rfl⟩
theorem okO_void (n p r : Nat) : okO n (voidSt n p r) := ⟨List.length_replicate, List.length_replicate, Nat.zero_le _, List.Pairwise.nil, List.Pairwise.nil⟩
theorem void_less {w : Wk8} (ok : okW8 w) {s : St} (o : okD w s) : noLess s (voidSt w.ks.length s.ph 0) = true := by
  refine (noLess_iff (okO_of ok o) (okO_void _ _ _)).mpr ⟨rfl, Nat.zero_le _, Nat.zero_le _, (geAll_iff (by rw [o.us]; exact List.length_replicate.symm)).mpr fun k hk => ?_, (covAll_iff (by rw [o.ls]; exact List.length_replicate.symm)).mpr fun k hk => ?_, by cases s.ms <;> rfl⟩
  · have hk' : k < (List.replicate w.ks.length 0).length := hk
    exact Nat.le_trans (Nat.le_of_eq (show (List.replicate w.ks.length 0)[k]'hk' = 0 from List.getElem_replicate _)) (Nat.zero_le _)
  · have hk' : k < (List.replicate w.ks.length ([] : List Nat)).length := hk
    have e : (voidSt w.ks.length s.ph 0).ls[k]'hk = [] := (show (List.replicate w.ks.length ([] : List Nat))[k]'hk' = [] from List.getElem_replicate _)
    rw [e]
    exact covers_iff.mpr ⟨Nat.zero_le _, fun k hk => absurd hk (Nat.not_lt_zero _)⟩
theorem okS_void (n p r : Nat) (h : n ≤ 10) : okS (voidSt n p r) := ⟨fun m q => (nomatch q), Nat.zero_le _, by show (List.replicate n 0).length ≤ 10; rw [List.length_replicate]; exact h, by show (List.replicate n []).length ≤ 10; rw [List.length_replicate]; exact h, fun l q => by rw [List.eq_of_mem_replicate q]; exact Nat.zero_le _⟩
theorem okO_full (w : Wk8) (p r : Nat) : okO w.ks.length (fullSt w p r) := ⟨List.length_replicate, List.length_replicate, Nat.zero_le _, List.Pairwise.nil, List.Pairwise.nil⟩
theorem okS_full {w : Wk8} (ok : okW8 w) (p r : Nat) : okS (fullSt w p r) := ⟨fun m q => (nomatch q), Nat.zero_le _, by show (List.replicate w.ks.length w.us).length ≤ 10; rw [List.length_replicate]; have := ok.k3; omega, by show (List.replicate w.ks.length (List.replicate w.sh w.br)).length ≤ 10; rw [List.length_replicate]; have := ok.k3; omega, fun l q => by rw [List.eq_of_mem_replicate q, List.length_replicate]; have := ok.sh; omega⟩
theorem full_more {w : Wk8} (ok : okW8 w) {s : St} (o : okD w s) : noLess (fullSt w s.ph s.rs) (bareSt s) = true := by
  refine (noLess_iff (okO_full _ _ _) (okO_bare o)).mpr ⟨rfl, Nat.le_refl _, o.st, (geAll_iff (by show (List.replicate w.ks.length w.us).length = _; rw [List.length_replicate]; exact o.us.symm)).mpr fun k hk => ?_, (covAll_iff (by show (List.replicate w.ks.length (List.replicate w.sh w.br)).length = _; rw [List.length_replicate]; exact o.ls.symm)).mpr fun k hk => ?_, rfl⟩
  · have hk : k < s.us.length := hk
    show s.us[k] ≤ (List.replicate w.ks.length w.us)[k]'(by rw [List.length_replicate, ← o.us]; exact hk)
    rw [List.getElem_replicate]
    exact o.ub _ (List.getElem_mem hk)
  · have hk : k < s.ls.length := hk
    show covers ((List.replicate w.ks.length (List.replicate w.sh w.br))[k]'(by rw [List.length_replicate, ← o.ls]; exact hk)) s.ls[k] = true
    rw [List.getElem_replicate]
    obtain ⟨h1, h2, _⟩ := o.lr _ (List.getElem_mem hk)
    refine covers_iff.mpr ⟨by rw [List.length_replicate]; exact h1, fun j hj hj' => ?_⟩
    rw [List.getElem_replicate]
    exact h2 _ (List.getElem_mem hj)
end K19

namespace K19
open PySem L2 RZ DL
/-! the walk by data -/
local macro_rules | `(tactic| walk_at "dl") => `(tactic| first
  | with_reducible first
    | refine sx_seq ?_ | refine sx_if ?_ | refine sx_ret ?_ | refine sx_next ?_ | refine sx_asg ?_
    | refine et_not ?_ | refine et_B ?_ | refine et_test ?_ | refine et_and ?_ | refine et_or ?_ | refine et_yes ?_
    | refine ev_and ?_ | refine ev_or ?_ | refine ev_not ?_ | refine ev_if ?_ | refine ev_chain ?_
    | refine ev_int ?_ | refine ev_bl ?_ | refine ev_str ?_ | refine ev_non ?_ | refine ev_c ?_
    | refine ev_op ?_ | refine ev_un ?_ | refine ev_cb ?_ | refine ev_fn1 ?_ | refine ev_fn2 ?_ | refine ev_sl ?_ | refine eo_none ?_ | refine eo_some ?_ | refine ev_tup ?_
    | refine ea_cons ?_ | refine ea_nil ?_
    | refine ops_ge ?_ | refine ops_le ?_ | refine ops_gt ?_ | refine ops_lt ?_ | refine ops_leS ?_ | refine ops_ltS ?_ | refine ops_add_int ?_ | refine ops_sub ?_ | refine ops_isN ?_ | refine ops_isNot ?_ | refine ops_eq_int ?_ | refine ops_eqS ?_ | refine ops_neS ?_
    | refine cas_len_tup ?_ | refine cas_isi_int ?_ | refine cas_isi_bool ?_ | refine cas_isi_str ?_ | refine cas_isi_tup ?_ | refine cas_isi_lst ?_
    | refine iteT ?_ | refine iteF ?_ | refine and_nols ?_
  | ((with_reducible refine ev_varx ?_); refine ⟨_, rfl, ?_⟩)
  | ((with_reducible refine ops_ix_tupx ?_); first | refine ⟨_, rfl, ?_⟩ | refine ⟨_, atI_nat (j := 0) rfl, ?_⟩ | refine ⟨_, atI_nat (j := 1) rfl, ?_⟩ | refine ⟨_, atI_nat (j := 2) rfl, ?_⟩ | refine ⟨_, atI_nat (j := 3) rfl, ?_⟩ | refine ⟨_, atI_nat (j := 4) rfl, ?_⟩ | refine ⟨_, atI_nat (j := 5) rfl, ?_⟩ | refine ⟨_, atI_nat (j := 6) rfl, ?_⟩)
  | ((with_reducible refine sz_and ?_ ?_); exact rfl)
  | ((with_reducible refine ev_ownx ?_); refine ⟨_, rfl, ?_⟩)
  | ((with_reducible refine ev_refx ?_); refine ⟨_, rfl, ?_⟩)
  | (with_reducible refine sxn_seq ?_) | (with_reducible refine uns_neg ?_) | (with_reducible refine ev_frz (evn_lst ?_)) | (with_reducible refine sls_tup ?_) | (refine ev_revT ?_)
  | ((refine sx_extx ?_); refine ⟨_, rfl, ?_⟩) | ((with_reducible refine ops_add_tup ?_ ?_); exact le_line rfl) | (with_reducible refine cas_listT ?_)
  | ((with_reducible refine ifT ?_ ?_); exact rfl) | ((with_reducible refine ifF ?_ ?_); exact rfl))
local macro_rules | `(tactic| walk_at "go") => `(tactic| repeat (first | walk_at "dl" | with_reducible refine ⟨_, rfl, ?_⟩ | with_reducible refine ⟨_, _, rfl, ?_⟩))
/-! ### the law -/
theorem paired_app {α β : Type} {R : α → β → Prop} : ∀ {a : List α} {b : List β} {c : List α} {d : List β}, Paired R a b → Paired R c d → Paired R (a ++ c) (b ++ d)
  | _, _, _, _, .nil, h => h
  | _, _, _, _, .cons h t, h' => .cons h (paired_app t h')
abbrev stL5 (s : St) : List D := [rowD s.us, lsD s.ls, num s.st, msD s.ms, num s.ph, num s.rs]
structure Calls (Pg : Program) (w : World) (K : PySem.W.Frag) (mg : Str → Option Value) (base : Heap) : Prop where
  c1 : Fn Pg w K mg base "_law_feed" 1 ["_law_script"] (spFeed K)
  c2 : LWorks Pg w K mg base
  c3 : LStand Pg w K mg base
  c4 : LChain Pg w K mg base
  c5 : LLess Pg w K mg base
  c6 : LNear Pg w K mg base
  c7 : LOrder Pg w K mg base
  c8 : CNoLess Pg w K mg base
  c9 : CRight Pg w K mg base
  k1 : FnK Pg w K mg base "void_stand" 2 ["works", "phase", "rest"] (spVoid K fun w p r => voidSt w.ks.length p r) 1 ["phase"] (fun vs zs => vs ++ zs ++ [.int 0])
  k2 : FnK Pg w K mg base "full_stand" 2 ["works", "phase", "rest"] (spVoid K fullSt) 1 ["phase", "rest"] (fun vs zs => vs ++ zs)
def spLaw (K : PySem.W.Frag) : Sp := fun vs H Q _ => ∃ p ns, vs = [.ref p] ∧ SqL K H p (List.map V.int ns) ∧ ∀ H', Q (.bl true) H'
theorem gname_go {i : Nat} {v : V} {σ : L2.St} {H : Hp} {Q : L2.St → Hp → Prop} (h : Q (σ.set i (some v)) H) : gName i v σ H Q := h
section
variable {Pg : Program} {w : World} {K : PySem.W.Frag} {mg : Str → Option Value} {base : Heap} {f : Addr} {fd : FuncData}
theorem ok_law (F : Fun K "law" "law" s_law f fd) (T : Txt mg) (C : Calls Pg w K mg base) : FnG Pg w K mg base 9 f fd ["_law_script"] (spLaw K) := by
  obtain ⟨C__law_feed, C__law_works, C__law_stand, C__law_chain, C__law_less, C__law_near, C__law_is_order, C_is_no_less, C_is_right_stand, C_void_stand_1_phase, C_full_stand_1_phase_rest⟩ := C
  have nd := sc_law.nd
  refine fnG_of F sc_law (fun vs H Q E h => ?_) (fun cdv A ou s H vs Q hgd hr h => ?_)
  · obtain ⟨p, ns, rfl, _⟩ := h
    rfl
  obtain ⟨p, ns, rfl, hS, k⟩ := h
  refine ⟨_, (pss_cons (ps_set (i := 1) nd rfl (Or.inl rfl) (pe_fn C__law_feed hgd (hr.mono (by first | decide | omega)) rfl (pa_cons (pv 0) pa_nil)) (hf := Or.inl rfl)) (pss_cons (ps_for PassesOwn.never rfl (pi_range1 rfl T.b_range (pa_cons pe_int pa_nil)) (pg_name (i := 2) nd rfl (Or.inl rfl) (Or.inl rfl)) (pss_cons (ps_set (i := 3) nd rfl (Or.inl rfl) (pe_fn C__law_works hgd (hr.mono (by first | decide | omega)) rfl (pa_cons (pv 1) (pa_cons pe_int pa_nil))) (hf := Or.inl rfl)) (pss_cons (ps_set (i := 4) nd rfl (Or.inl rfl) (pe_fn C__law_stand hgd (hr.mono (by first | decide | omega)) rfl (pa_cons (pv 1) (pa_cons (pv 3) pa_nil))) (hf := Or.inl rfl)) (pss_cons (ps_set (i := 5) nd rfl (Or.inl rfl) (pe_fn C__law_chain hgd (hr.mono (by first | decide | omega)) rfl (pa_cons (pv 1) (pa_cons (pv 3) (pa_cons (pv 4) (pa_cons pe_int pa_nil))))) (hf := Or.inl rfl)) (pss_cons (ps_for PassesOwn.never rfl (pi_zipA rfl T.b_zip (pa_cons (pv 5) (pa_cons (pe_slice (r := rSl3 K) slAny (pv 5) (po_some pe_int) po_none) pa_nil))) (pg_tup (n := 2) rfl (pgs_cons (pg_name (i := 6) nd rfl (Or.inl rfl) (Or.inl rfl)) (pgs_cons (pg_name (i := 7) nd rfl (Or.inl rfl) (Or.inl rfl)) pgs_nil))) (pss_one (ps_if (PW.pt (pw_or (pt_not (pt_val (pe_fn C_is_right_stand hgd (hr.mono (by first | decide | omega)) rfl (pa_cons (pv 3) (pa_cons (pv 7) pa_nil))))) (pw_or1 (pt_not (pt_val (pe_fn C_is_no_less hgd (hr.mono (by first | decide | omega)) rfl (pa_cons (pv 6) (pa_cons (pv 7) pa_nil)))))))) (pss_one (ps_ret pe_bl)) pss_nil))) (pss_cons (ps_set (i := 8) nd rfl (Or.inl rfl) (pe_lst (pa_cons (pe_fn C__law_less hgd (hr.mono (by first | decide | omega)) rfl (pa_cons (pv 1) (pa_cons (pv 3) (pa_cons (pv 4) (pa_cons pe_int pa_nil))))) (pa_cons (pe_fn C__law_near hgd (hr.mono (by first | decide | omega)) rfl (pa_cons (pv 1) (pa_cons (pv 3) (pa_cons (pv 4) pa_nil)))) (pa_cons (pe_fn C__law_stand hgd (hr.mono (by first | decide | omega)) rfl (pa_cons (pv 1) (pa_cons (pv 3) pa_nil))) pa_nil)))) (hf := Or.inl rfl)) (pss_cons (ps_if (pt_not (pt_val (pe_fn C__law_is_order hgd (hr.mono (by first | decide | omega)) rfl (pa_cons (pe_op (r := rAdd4 K) opAdd (pv 5) (pv 8)) pa_nil)))) (pss_one (ps_ret pe_bl)) pss_nil) (pss_cons (ps_set (i := 9) nd rfl (Or.inl rfl) (pe_fnK C_void_stand_1_phase hgd (hr.mono (by first | decide | omega)) rfl (pa_cons (pv 3) pa_nil) (pk_cons (pe_ix (r := rIx K) ix_seq (pv 4) pe_int (fun _ _ => rfl)) pk_nil)) (hf := Or.inl rfl)) (pss_one (ps_for PassesOwn.never rfl (pi_list (pv 5)) (pg_name (i := 6) nd rfl (Or.inl rfl) (Or.inl rfl)) (pss_cons (ps_set (i := 10) nd rfl (Or.inl rfl) (pe_op (r := rAdd4 K) opAdd (pe_op (r := rAdd4 K) opAdd (pe_slice (r := rSl3 K) slAny (pv 6) po_none (po_some pe_int)) (pe_tup (pa_cons (pe_tup pa_nil) pa_nil))) (pe_slice (r := rSl3 K) slAny (pv 6) (po_some pe_int) po_none)) (hf := Or.inl rfl)) (pss_cons (ps_if (PW.pt (pw_or (pt_not (pt_val (pe_fn C_is_no_less hgd (hr.mono (by first | decide | omega)) rfl (pa_cons (pv 6) (pa_cons (pv 10) pa_nil))))) (pw_or1 (pt_not (pt_val (pe_fn C_is_no_less hgd (hr.mono (by first | decide | omega)) rfl (pa_cons (pv 6) (pa_cons (pv 9) pa_nil)))))))) (pss_one (ps_ret pe_bl)) pss_nil) (pss_one (ps_if (pt_not (pt_val (pe_fn C_is_no_less hgd (hr.mono (by first | decide | omega)) rfl (pa_cons (pe_fnK C_full_stand_1_phase_rest hgd (hr.mono (by first | decide | omega)) rfl (pa_cons (pv 3) pa_nil) (pk_cons (pe_ix (r := rIx K) ix_seq (pv 6) pe_int (fun _ _ => rfl)) (pk_cons (pe_ix (r := rIx K) ix_seq (pv 6) pe_int (fun _ _ => rfl)) pk_nil))) (pa_cons (pv 10) pa_nil))))) (pss_one (ps_ret pe_bl)) pss_nil)))))))))))))) (pss_one (ps_ret pe_bl)))), ?_⟩
  refine ⟨.ref p, rfl, p, ns, rfl, hS, fun a l Ha cs keep ha hl hal ea el => ?_⟩
  have o0 : Ok (feedW nm a l cs) (fun _ => none) Ha := by
    refine ⟨fun b u e => (by cases e), fun b hz => ⟨rfl, ?_⟩, ⟨0, 0, 0, ea, el, by decide, by decide, by decide⟩⟩
    rcases hz with rfl | rfl
    · rw [ea]
      exact fun z => nomatch z
    · rw [el]
      exact fun z => nomatch z
  have b0 : Holds K (feedW nm a l cs) Ha (L2.start ["_law_script", "_law_feed_here", "_law_turn", "_law_works_here", "_law_stand_here", "_law_chain_here", "_law_one", "_law_later", "_law_others", "_law_void", "_law_bare"] [.ref p]) (fun _ => none) Ha ([.rf (.ref p)] ++ List.replicate 10 .un) :=
    holds_start (F := fun _ => none) (H := Ha) (ss := [.rf (.ref p)]) (.cons rfl .nil) (by simp [NoLs]) (Nat.le_of_ble_eq_true rfl)
  have b1 := b0.set (i := 1) (v := .ref a) (s := .rf (.ref a)) rfl trivial
  refine gname_go ?_
  dsimp only
  refine sx_anew (W := feedW nm a l cs) (K := K) (N := { nx := fun _ => False, rt := fun s => s = .dat (.bool true) }) o0 b1 (Step.refl o0) ?_ (fun _ _ _ _ _ z => z.elim) (fun v F' H' s o hv e => ?_) (fun _ z => z) (fun _ z => z)
  · change Sx K (feedW nm a l cs) Ha (fun _ => none) _ [.rf (.ref p), .rf (.ref a), .un, .un, .un, .un, .un, .un, .un, .un, .un] _
    generalize Ha = H0
    refine sx_seq (sx_for (fun es i ρ' => ∃ s2 s3 s4 s5 s6 s7 s8 s9 s10, ρ' = [.rf (.ref p), .rf (.ref a), s2, s3, s4, s5, s6, s7, s8, s9, s10]) (evi_rng1 ?_))
    walk_at "go"
    refine ⟨by decide, by decide, ⟨_, _, _, _, _, _, _, _, _, rfl⟩, ?_, ?_⟩
    · rintro i z ρ' hz ⟨s2, s3, s4, s5, s6, s7, s8, s9, s10, rfl⟩
      refine gs_name trivial ?_
      refine sx_seq (sx_asg (ev_fnF ?_))
      walk_at "go"
      refine ⟨[_], rfl, rfl, ⟨3, rfl, by decide, by decide⟩, fun d hd => ?_⟩
      obtain ⟨wk, rfl, ok⟩ := hd
      refine ⟨trivial, ?_⟩
      have ok8 := to8_ok ok
      have kl : (to8 wk).ks.length = wk.ks.length := by unfold to8; rw [List.length_map]
      have sh1 : 1 ≤ (to8 wk).sh := by have := ok.sh2; show 1 ≤ wk.sh; omega
      refine sx_seq (sx_asg (ev_fnF ?_))
      walk_at "go"
      refine ⟨[_], rfl, rfl, ⟨to8 wk, by rw [to8_D], ok8⟩, fun d hd => ?_⟩
      obtain ⟨S, rfl, oS⟩ := hd (to8 wk) (by rw [to8_D])
      refine ⟨trivial, ?_⟩
      refine sx_seq (sx_asg (ev_fnF ?_))
      walk_at "go"
      refine ⟨[_, _, _], rfl, rfl, ⟨to8 wk, S, 4, by rw [to8_D]; rfl, ok8, oS, by decide⟩, fun d hd => ?_⟩
      obtain ⟨ss, rfl, l5, hs, hf⟩ := hd (to8 wk) S 4 (by rw [to8_D]; rfl)
      refine ⟨trivial, ?_⟩
      have so : ∀ x ∈ ss, okD (to8 wk) x := fun x m => (hs x m).1
      change Sx K (feedW nm a l cs) H0 (fun _ => none) _ [.rf (.ref p), .rf (.ref a), .dat z, .dat (wkD wk), .dat (stD S), .dat (.list (ss.map stD)), s6, s7, s8, s9, s10] _
      refine sx_seq (sx_for (fun es i ρ' => es = zipD (ss.map stD) ((ss.drop 1).map stD) ∧ ∃ s6 s7, ρ' = [.rf (.ref p), .rf (.ref a), .dat z, .dat (wkD wk), .dat (stD S), .dat (.list (ss.map stD)), s6, s7, s8, s9, s10]) (evi_zip ?_))
      walk_at "go"
      refine sls_lst (.inl rfl) ?_
      have e1 : cutD (ss.map stD) (some 1) none = (ss.drop 1).map stD := by
        rw [show (1 : Int) = ((1 : Nat) : Int) from rfl, cut_from (by rw [List.length_map]; omega), List.map_drop]
      rw [e1]
      refine ea_nil ⟨_, _, .inl rfl, ⟨rfl, _, _, rfl⟩, ?_, ?_⟩
      · rintro k z' ρ' hz' ⟨_, s6, s7, rfl⟩
        have hk : k + 1 < ss.length := by
          have := (List.getElem?_eq_some_iff.mp hz').1
          rw [zipD_len, List.length_map, List.length_map, List.length_drop] at this
          omega
        have g1 : (ss.map stD)[k]? = some (stD ss[k]) := by rw [List.getElem?_map, List.getElem?_eq_getElem (by omega)]; rfl
        have g2 : ((ss.drop 1).map stD)[k]? = some (stD ss[k + 1]) := by
          rw [List.getElem?_map, List.getElem?_drop, Nat.add_comm 1 k, List.getElem?_eq_getElem hk]
          rfl
        rw [zipD_get g1 g2] at hz'
        obtain rfl := Option.some.inj hz'
        have o1 := so _ (List.getElem_mem (show k < ss.length by omega))
        have o2 := so _ (List.getElem_mem hk)
        refine gs_tup rfl (gss_cons (gs_name trivial (gss_cons (gs_name trivial (gss_nil ?_)))))
        change Sx K (feedW nm a l cs) H0 (fun _ => none) _ [.rf (.ref p), .rf (.ref a), .dat z, .dat (wkD wk), .dat (stD S), .dat (.list (ss.map stD)), .dat (stD ss[k]), .dat (stD ss[k + 1]), s8, s9, s10] _
        refine sx_if (EvT.mono (PB := fun c => c = false) ?_ fun c hc => ?_)
        · refine et_or (et_not (et_B (ev_fn ?_)))
          walk_at "go"
          refine ⟨by simp [NoLs], rfl, ⟨wk, stD ss[k + 1], rfl, st_fine ok8 o2⟩, fun s hs => ?_⟩
          rw [hs wk _ rfl, right_none ok o2]
          refine ⟨_, rfl, ifN rfl ?_⟩
          refine et_not (et_B (ev_fnE ?_))
          walk_at "go"
          exact ⟨(ss[k], ss[k + 1]), rfl, by simp [encS, NoLs], rfl, ⟨st_okS ok8 o1, st_okS ok8 o2⟩, _, rfl, by show (!noLess ss[k] ss[k + 1]) = false; rw [hf k hk]; rfl⟩
        subst hc
        exact ifN rfl (sx_next ⟨rfl, _, _, rfl⟩)
      rintro ρ' ⟨_, s6, s7, rfl⟩
      have vi : ∀ F H, VOk K (feedW nm a l cs) F H (V.int 0) (.dat (num 0)) := fun F H => by
        exact (DL.Dp.int 0 : DL.Dp K F (V.int 0) (.int 0))
      have ssok : ∀ x ∈ ss, Fine (stD x) := fun x m => st_fine ok8 (so x m)
      refine sx_seq (sx_asg (ev_frz (evn_lst ?_)))
      refine ea_cons (ev_fnF ?_)
      walk_at "go"
      refine ⟨[_, _, _], rfl, rfl, ⟨to8 wk, S, 2, by rw [to8_D]; rfl, ok8, oS, by decide⟩, fun d hd => ?_⟩
      obtain ⟨x1, rfl, ox1, _⟩ := hd (to8 wk) S 2 (by rw [to8_D]; rfl)
      refine ea_cons (ev_fnF ?_)
      walk_at "go"
      refine ⟨[_, _], rfl, rfl, ⟨to8 wk, S, by rw [to8_D], ok8, oS⟩, fun d hd => ?_⟩
      obtain ⟨x2, rfl, ox2⟩ := hd (to8 wk) S (by rw [to8_D])
      refine ea_cons (ev_fnF ?_)
      walk_at "go"
      refine ⟨[_], rfl, rfl, ⟨to8 wk, by rw [to8_D], ok8⟩, fun d hd => ?_⟩
      obtain ⟨x3, rfl, ox3⟩ := hd (to8 wk) (by rw [to8_D])
      refine ea_nil ⟨[stD x1, stD x2, stD x3], rfl, le_line (n := 3) rfl, trivial, ?_⟩
      have all : ∀ x ∈ ss ++ [x1, x2, x3], okD (to8 wk) x := fun x m => by
        rcases List.mem_append.mp m with m | m
        · exact so x m
        · simp only [List.mem_cons, List.not_mem_nil, or_false] at m
          rcases m with rfl | rfl | rfl
          · exact ox1
          · exact ox2
          · exact ox3
      have osome : okSome (to8 wk).ks.length (ss ++ [x1, x2, x3]) := ⟨by rw [List.length_append, l5]; show 4 + 1 + 3 ≤ 20; decide, fun x m => st_okS ok8 (all x m), fun x m => okO_of ok8 (all x m), fun x m => (st_fine ok8 (all x m)).shaped⟩
      change Sx K (feedW nm a l cs) H0 (fun _ => none) _ [.rf (.ref p), .rf (.ref a), .dat z, .dat (wkD wk), .dat (stD S), .dat (.list (ss.map stD)), s6, s7, .dat (.list [stD x1, stD x2, stD x3]), s9, s10] _
      refine sx_seq (sx_if (EvT.mono (PB := fun c => c = false) ?_ fun c hc => ?_))
      · refine et_not (et_B (ev_fn (ea_cons (ev_op (ev_varx ⟨_, rfl, ev_varx ⟨_, rfl, ops_catF (.inl rfl) (.inl rfl) (big_line (by rw [List.length_map, l5]; show 4 + 1 + 3 ≤ 250000; decide)) (ea_nil ⟨by simp [NoLs], rfl, ⟨_, ss ++ [x1, x2, x3], by rw [List.map_append]; rfl, osome⟩, fun s hs => ⟨true, hs, rfl⟩⟩)⟩⟩)))))
      subst hc
      refine ifN rfl (sx_next ?_)
      refine sx_seq (sx_asg (ev_fnK (fun ss rs => ss ++ rs ++ [.dat (num 0)]) (fun h1 h2 _ _ => paired_app (paired_app h1 h2) (.cons (vi _ _) .nil)) ?_))
      walk_at "go"
      refine ops_ix_tup (ds := stL5 S) (atI_nat (j := 4) rfl) ?_
      refine ea_nil ⟨rfl, rfl, by simp [NoLs], rfl, ⟨to8 wk, S.ph, 0, by rw [to8_D]; rfl, ok8, sh1⟩, fun s hv' => ?_⟩
      rw [hv' (to8 wk) S.ph 0 (by rw [to8_D]; rfl)]
      refine ⟨trivial, ?_⟩
      change Sx K (feedW nm a l cs) H0 (fun _ => none) _ [.rf (.ref p), .rf (.ref a), .dat z, .dat (wkD wk), .dat (stD S), .dat (.list (ss.map stD)), s6, s7, .dat (.list [stD x1, stD x2, stD x3]), .dat (stD (voidSt (to8 wk).ks.length S.ph 0)), s10] _
      refine sx_for (fun es i ρ' => es = ss.map stD ∧ ∃ s6 s10, ρ' = [.rf (.ref p), .rf (.ref a), .dat z, .dat (wkD wk), .dat (stD S), .dat (.list (ss.map stD)), s6, s7, .dat (.list [stD x1, stD x2, stD x3]), .dat (stD (voidSt (to8 wk).ks.length S.ph 0)), s10]) (evi_list (ev_varx ⟨_, rfl, _, rfl, ⟨rfl, _, _, rfl⟩, ?_, ?_⟩))
      · rintro k z' ρ' hz' ⟨_, s6, s10, rfl⟩
        obtain ⟨x, mx, rfl⟩ := List.mem_map.mp (List.mem_of_getElem? hz')
        obtain ⟨ox, hph⟩ := hs x mx
        have os := st_okS ok8 ox
        refine gs_name trivial ?_
        change Sx K (feedW nm a l cs) H0 (fun _ => none) _ [.rf (.ref p), .rf (.ref a), .dat z, .dat (wkD wk), .dat (stD S), .dat (.list (ss.map stD)), .dat (.tuple (stL5 x)), s7, .dat (.list [stD x1, stD x2, stD x3]), .dat (stD (voidSt (to8 wk).ks.length S.ph 0)), s10] _
        refine sx_seq (sx_asg ?_)
        walk_at "go"
        change Ev K (feedW nm a l cs) H0 _ [.rf (.ref p), .rf (.ref a), .dat z, .dat (wkD wk), .dat (stD S), .dat (.list (ss.map stD)), .dat (stD x), s7, .dat (.list [stD x1, stD x2, stD x3]), .dat (stD (voidSt (to8 wk).ks.length S.ph 0)), .dat (stD (bareSt x))] _
        refine ev_fnE ?_
        walk_at "go"
        refine ⟨(x, bareSt x), rfl, by simp [encS, NoLs], rfl, ⟨os, okS_bare os⟩, _, rfl, ?_⟩
        simp only [bare_less ok8 ox]
        refine ifN rfl ?_
        refine et_not (et_B (ev_fnE ?_))
        walk_at "go"
        have hvl : noLess x (voidSt (to8 wk).ks.length S.ph 0) = true := by
          rw [← hph]
          exact void_less ok8 ox
        refine ⟨(x, voidSt (to8 wk).ks.length S.ph 0), rfl, by simp [encS, NoLs], rfl, ⟨os, okS_void _ _ _ (by have := ok8.k3; omega)⟩, _, rfl, ?_⟩
        simp only [hvl]
        refine ifN rfl (sx_next ?_)
        refine sx_if (et_not (et_B (ev_fnE (ea_cons (ev_fnK (fun ss rs => ss ++ rs) (fun h1 h2 _ _ => paired_app h1 h2) ?_)))))
        walk_at "go"
        refine ⟨rfl, rfl, by simp [NoLs], rfl, ⟨to8 wk, x.ph, x.rs, by rw [to8_D]; rfl, ok8, sh1⟩, fun s hv' => ?_⟩
        rw [hv' (to8 wk) x.ph x.rs (by rw [to8_D]; rfl)]
        walk_at "go"
        refine ⟨(fullSt (to8 wk) x.ph x.rs, bareSt x), rfl, by simp [encS, NoLs], rfl, ⟨okS_full ok8 _ _, okS_bare os⟩, _, rfl, ?_⟩
        simp only [full_more ok8 ox]
        exact ifN rfl (sx_next ⟨trivial, _, _, rfl⟩)
      · rintro ρ' ⟨_, s6, s10, rfl⟩
        exact ⟨_, _, _, _, _, _, _, _, _, rfl⟩
    · rintro ρ' ⟨s2, s3, s4, s5, s6, s7, s8, s9, s10, rfl⟩
      refine sx_ret ?_
      walk_at "go"
      exact rfl
  · subst e
    rw [vok_bool hv]
    exact k _
end
end K19

namespace K19
open PySem L2 RZ DL
/-! the walk by data -/
local macro_rules | `(tactic| walk_at "dl") => `(tactic| first
  | with_reducible first
    | refine sx_seq ?_ | refine sx_if ?_ | refine sx_next ?_
    | refine et_not ?_ | refine et_B ?_ | refine et_test ?_ | refine et_and ?_ | refine et_or ?_ | refine et_yes ?_
    | refine ev_and ?_ | refine ev_or ?_ | refine ev_not ?_ | refine ev_if ?_ | refine ev_chain ?_
    | refine ev_int ?_ | refine ev_bl ?_ | refine ev_str ?_ | refine ev_non ?_ | refine ev_c ?_
    | refine ev_op ?_ | refine ev_un ?_ | refine ev_cb ?_ | refine ev_fn1 ?_ | refine ev_fn2 ?_ | refine ev_sl ?_ | refine eo_none ?_ | refine eo_some ?_ | refine ev_tup ?_
    | refine ea_cons ?_ | refine ea_nil ?_
    | refine ops_ge ?_ | refine ops_le ?_ | refine ops_gt ?_ | refine ops_lt ?_ | refine ops_leS ?_ | refine ops_ltS ?_ | refine ops_add_int ?_ | refine ops_sub ?_ | refine ops_isN ?_ | refine ops_isNot ?_ | refine ops_eq_int ?_ | refine ops_eqS ?_ | refine ops_neS ?_
    | refine cas_len_tup ?_ | refine cas_isi_int ?_ | refine cas_isi_bool ?_ | refine cas_isi_str ?_ | refine cas_isi_tup ?_ | refine cas_isi_lst ?_
    | refine iteT ?_ | refine iteF ?_ | refine and_nols ?_
  | ((with_reducible refine ev_varx ?_); refine ⟨_, rfl, ?_⟩)
  | ((with_reducible refine ops_ix_tupx ?_); first | refine ⟨_, rfl, ?_⟩ | refine ⟨_, atI_nat (j := 0) rfl, ?_⟩ | refine ⟨_, atI_nat (j := 1) rfl, ?_⟩ | refine ⟨_, atI_nat (j := 2) rfl, ?_⟩ | refine ⟨_, atI_nat (j := 3) rfl, ?_⟩ | refine ⟨_, atI_nat (j := 4) rfl, ?_⟩ | refine ⟨_, atI_nat (j := 5) rfl, ?_⟩ | refine ⟨_, atI_nat (j := 6) rfl, ?_⟩)
  | ((with_reducible refine sz_and ?_ ?_); exact rfl)
  | ((with_reducible refine ev_ownx ?_); refine ⟨_, rfl, ?_⟩)
  | ((with_reducible refine ev_refx ?_); refine ⟨_, rfl, ?_⟩)
  | (with_reducible refine sxn_seq ?_) | (with_reducible refine uns_neg ?_) | (with_reducible refine ev_frz (evn_lst ?_)) | (with_reducible refine sls_tup ?_) | (refine ev_revT ?_)
  | ((refine sx_extx ?_); refine ⟨_, rfl, ?_⟩) | ((with_reducible refine ops_add_tup ?_ ?_); exact le_line rfl) | (with_reducible refine cas_listT ?_)
  | ((with_reducible refine ifT ?_ ?_); exact rfl) | ((with_reducible refine ifF ?_ ?_); exact rfl))
local macro_rules | `(tactic| walk_at "go") => `(tactic| repeat (first | walk_at "dl" | with_reducible refine ⟨_, rfl, ?_⟩ | with_reducible refine ⟨_, _, rfl, ?_⟩))
section
variable {Pg : Program} {w : World} {K : PySem.W.Frag} {mg : Str → Option Value} {base : Heap} {f : Addr} {fd : FuncData}
theorem ok_making_covers (F : Fun K "making_covers" "making_covers" s_making_covers f fd) (T : Txt mg) : FnG Pg w K mg base 1 f fd ["one", "other"] (spM K) := by
  have nd := sc_making_covers.nd
  refine fnG_of F sc_making_covers pm_len (fun cdv A ou s H vs Q hgd hr h => ?_)
  have hu : (A.deeper (PyProof.Rows.envOfC "making_covers" (defScope s_making_covers) s.heap.objs.size f cdv)).units + 64 < cLine := by have := hr.un; omega
  refine ⟨_, (pss_cons (ps_asg (pv 0) (pg_tup (n := 2) rfl (pgs_cons (pg_name (i := 2) nd rfl (Or.inl rfl) (Or.inl rfl)) (pgs_cons (pg_name (i := 3) nd rfl (Or.inl rfl) (Or.inl rfl)) pgs_nil)))) (pss_cons (ps_asg (pv 1) (pg_tup (n := 2) rfl (pgs_cons (pg_name (i := 4) nd rfl (Or.inl rfl) (Or.inl rfl)) (pgs_cons (pg_name (i := 5) nd rfl (Or.inl rfl) (Or.inl rfl)) pgs_nil)))) (pss_cons (ps_if (PW.pt (pw_or (pt_cmpR (r := rNe2 K) (opNe hu) (pv 3) (pv 5) (nomark _)) (pw_or1 (pt_cmpR (r := rNe2 K) (opNe hu) (pe_slice (r := rSl3 K) slAny (pv 2) po_none (po_some pe_int)) (pe_slice (r := rSl3 K) slAny (pv 4) po_none (po_some pe_int)) (nomark _))))) (pss_one (ps_ret pe_bl)) pss_nil) (pss_one (ps_ret (pe_or (pe_cmpR (r := rEq2 K) (opEq hu) (pe_ix (r := rIx K) ix_seq (pv 2) pe_int (fun _ _ => rfl)) pe_str (nomark _)) (pe_one (pe_cmpR opGe (pe_ix (r := rIx K) ix_seq (pv 2) pe_int (fun _ _ => rfl)) (pe_ix (r := rIx K) ix_seq (pv 4) pe_int (fun _ _ => rfl)) (nomark _))))))))), bodyE (by decide) h encM_inj fun W F0 ⟨⟨n, l, k⟩, ⟨n', l', k'⟩⟩ ⟨o1, o2⟩ _ => ?_⟩
  have eS : ∀ (a b a' b' : Str), PyData.eqv (.tuple [.str a, .str b]) (.tuple [.str a', .str b']) = (decide (a = a') && decide (b = b')) := fun a b a' b' => by
    simp [PyData.eqv, PyData.eqvAll, beq_dec]
  cases l with
  | none =>
    cases l' with
    | none =>
      change Sx K W H F0 _ [.dat (.tuple [.tuple [.str "tool", .str n], num k]), .dat (.tuple [.tuple [.str "tool", .str n'], num k']), .un, .un, .un, .un] _
      refine sx_seq (sx_asgG (ev_varx ⟨_, rfl, gs_tup rfl (gss_cons (gs_name trivial (gss_cons (gs_name trivial (gss_nil ?_)))))⟩))
      refine sx_seq (sx_asgG (ev_varx ⟨_, rfl, gs_tup rfl (gss_cons (gs_name trivial (gss_cons (gs_name trivial (gss_nil ?_)))))⟩))
      walk_at "go"
      refine ops_ne (shaped_int _) (shaped_int _) ⟨_, rfl, ?_⟩
      rw [eqv_num]
      refine if2 (fun h1 => ?_) (fun h1 => ?_)
      · rw [Bool.not_eq_true'] at h1
        walk_at "go"
        refine sx_ret ?_
        walk_at "go"
        exact rt_bool (by simp only [fits]; rw [h1, Bool.false_and])
      · rw [Bool.not_eq_false'] at h1
        walk_at "go"
        refine ops_ne (d := .tuple [.str "tool", .str n]) (e := .tuple [.str "tool", .str n']) (two_sh (bt8 "tool") o1.nm) (two_sh (bt8 "tool") o2.nm) ⟨_, rfl, ?_⟩
        rw [eS]
        refine if2 (fun h2 => ?_) (fun h2 => ?_)
        · rw [Bool.not_eq_true', decide_eq_true rfl, Bool.true_and] at h2
          walk_at "go"
          refine sx_ret ?_
          walk_at "go"
          exact rt_bool (by simp only [fits]; rw [h2, Bool.false_and, Bool.and_false])
        · rw [Bool.not_eq_false', decide_eq_true rfl, Bool.true_and] at h2
          walk_at "go"
          refine sx_ret ?_
          walk_at "go"
          exact rt_bool (by simp only [fits]; rw [h1, h2]; rfl)
    | some l' =>
      change Sx K W H F0 _ [.dat (.tuple [.tuple [.str "tool", .str n], num k]), .dat (.tuple [.tuple [.str "leaf", .str n', num l'], num k']), .un, .un, .un, .un] _
      refine sx_seq (sx_asgG (ev_varx ⟨_, rfl, gs_tup rfl (gss_cons (gs_name trivial (gss_cons (gs_name trivial (gss_nil ?_)))))⟩))
      refine sx_seq (sx_asgG (ev_varx ⟨_, rfl, gs_tup rfl (gss_cons (gs_name trivial (gss_cons (gs_name trivial (gss_nil ?_)))))⟩))
      walk_at "go"
      refine ops_ne (shaped_int _) (shaped_int _) ⟨_, rfl, ?_⟩
      rw [eqv_num]
      refine if2 (fun h1 => ?_) (fun h1 => ?_)
      · rw [Bool.not_eq_true'] at h1
        walk_at "go"
        refine sx_ret ?_
        walk_at "go"
        exact rt_bool (by simp only [fits]; rw [h1, Bool.false_and])
      · rw [Bool.not_eq_false'] at h1
        walk_at "go"
        refine ops_ne (d := .tuple [.str "tool", .str n]) (e := .tuple [.str "leaf", .str n']) (two_sh (bt8 "tool") o1.nm) (two_sh (bt8 "leaf") o2.nm) ⟨_, rfl, ?_⟩
        rw [eS]
        rw [decide_eq_false (by decide +kernel), Bool.false_and]
        walk_at "go"
        refine sx_ret ?_
        walk_at "go"
        exact rt_bool (by simp [fits])
  | some l =>
    cases l' with
    | none =>
      change Sx K W H F0 _ [.dat (.tuple [.tuple [.str "leaf", .str n, num l], num k]), .dat (.tuple [.tuple [.str "tool", .str n'], num k']), .un, .un, .un, .un] _
      refine sx_seq (sx_asgG (ev_varx ⟨_, rfl, gs_tup rfl (gss_cons (gs_name trivial (gss_cons (gs_name trivial (gss_nil ?_)))))⟩))
      refine sx_seq (sx_asgG (ev_varx ⟨_, rfl, gs_tup rfl (gss_cons (gs_name trivial (gss_cons (gs_name trivial (gss_nil ?_)))))⟩))
      walk_at "go"
      refine ops_ne (shaped_int _) (shaped_int _) ⟨_, rfl, ?_⟩
      rw [eqv_num]
      refine if2 (fun h1 => ?_) (fun h1 => ?_)
      · rw [Bool.not_eq_true'] at h1
        walk_at "go"
        refine sx_ret ?_
        walk_at "go"
        exact rt_bool (by simp only [fits]; rw [h1, Bool.false_and])
      · rw [Bool.not_eq_false'] at h1
        walk_at "go"
        refine ops_ne (d := .tuple [.str "leaf", .str n]) (e := .tuple [.str "tool", .str n']) (two_sh (bt8 "leaf") o1.nm) (two_sh (bt8 "tool") o2.nm) ⟨_, rfl, ?_⟩
        rw [eS]
        rw [decide_eq_false (by decide +kernel), Bool.false_and]
        walk_at "go"
        refine sx_ret ?_
        walk_at "go"
        exact rt_bool (by simp [fits])
    | some l' =>
      change Sx K W H F0 _ [.dat (.tuple [.tuple [.str "leaf", .str n, num l], num k]), .dat (.tuple [.tuple [.str "leaf", .str n', num l'], num k']), .un, .un, .un, .un] _
      refine sx_seq (sx_asgG (ev_varx ⟨_, rfl, gs_tup rfl (gss_cons (gs_name trivial (gss_cons (gs_name trivial (gss_nil ?_)))))⟩))
      refine sx_seq (sx_asgG (ev_varx ⟨_, rfl, gs_tup rfl (gss_cons (gs_name trivial (gss_cons (gs_name trivial (gss_nil ?_)))))⟩))
      walk_at "go"
      refine ops_ne (shaped_int _) (shaped_int _) ⟨_, rfl, ?_⟩
      rw [eqv_num]
      refine if2 (fun h1 => ?_) (fun h1 => ?_)
      · rw [Bool.not_eq_true'] at h1
        walk_at "go"
        refine sx_ret ?_
        walk_at "go"
        exact rt_bool (by simp only [fits]; rw [h1, Bool.false_and])
      · rw [Bool.not_eq_false'] at h1
        walk_at "go"
        refine ops_ne (d := .tuple [.str "leaf", .str n]) (e := .tuple [.str "leaf", .str n']) (two_sh (bt8 "leaf") o1.nm) (two_sh (bt8 "leaf") o2.nm) ⟨_, rfl, ?_⟩
        rw [eS]
        refine if2 (fun h2 => ?_) (fun h2 => ?_)
        · rw [Bool.not_eq_true', decide_eq_true rfl, Bool.true_and] at h2
          walk_at "go"
          refine sx_ret ?_
          walk_at "go"
          exact rt_bool (by simp only [fits]; rw [h2, Bool.false_and, Bool.and_false])
        · rw [Bool.not_eq_false', decide_eq_true rfl, Bool.true_and] at h2
          walk_at "go"
          refine sx_ret ?_
          walk_at "go"
          exact rt_bool (by simp only [fits]; rw [h1, h2, nat_dec]; rfl)
end
end K19

namespace K19
open PySem L2 RZ DL
/-! the walk by data -/
local macro_rules | `(tactic| walk_at "dl") => `(tactic| first
  | with_reducible first
    | refine sx_seq ?_ | refine sx_if ?_ | refine sx_ret ?_ | refine sx_next ?_ | refine sx_asg ?_
    | refine et_not ?_ | refine et_B ?_ | refine et_test ?_ | refine et_and ?_ | refine et_or ?_ | refine et_yes ?_
    | refine ev_and ?_ | refine ev_or ?_ | refine ev_not ?_ | refine ev_if ?_ | refine ev_chain ?_
    | refine ev_int ?_ | refine ev_bl ?_ | refine ev_str ?_ | refine ev_non ?_ | refine ev_c ?_
    | refine ev_op ?_ | refine ev_un ?_ | refine ev_cb ?_ | refine ev_fn1 ?_ | refine ev_fn2 ?_ | refine ev_sl ?_ | refine eo_none ?_ | refine eo_some ?_ | refine ev_tup ?_
    | refine ea_cons ?_ | refine ea_nil ?_
    | refine ops_ge ?_ | refine ops_le ?_ | refine ops_gt ?_ | refine ops_lt ?_ | refine ops_leS ?_ | refine ops_ltS ?_ | refine ops_add_int ?_ | refine ops_sub ?_ | refine ops_isN ?_ | refine ops_isNot ?_ | refine ops_eq_int ?_ | refine ops_eqS ?_ | refine ops_neS ?_
    | refine cas_len_tup ?_ | refine cas_isi_int ?_ | refine cas_isi_bool ?_ | refine cas_isi_str ?_ | refine cas_isi_tup ?_ | refine cas_isi_lst ?_
    | refine iteT ?_ | refine iteF ?_ | refine and_nols ?_
  | ((with_reducible refine ev_varx ?_); refine ⟨_, rfl, ?_⟩)
  | ((with_reducible refine ops_ix_tupx ?_); first | refine ⟨_, rfl, ?_⟩ | refine ⟨_, atI_nat (j := 0) rfl, ?_⟩ | refine ⟨_, atI_nat (j := 1) rfl, ?_⟩ | refine ⟨_, atI_nat (j := 2) rfl, ?_⟩ | refine ⟨_, atI_nat (j := 3) rfl, ?_⟩ | refine ⟨_, atI_nat (j := 4) rfl, ?_⟩ | refine ⟨_, atI_nat (j := 5) rfl, ?_⟩ | refine ⟨_, atI_nat (j := 6) rfl, ?_⟩)
  | ((with_reducible refine sz_and ?_ ?_); exact rfl)
  | ((with_reducible refine ev_ownx ?_); refine ⟨_, rfl, ?_⟩)
  | ((with_reducible refine ev_refx ?_); refine ⟨_, rfl, ?_⟩)
  | (with_reducible refine sxn_seq ?_) | (with_reducible refine uns_neg ?_) | (with_reducible refine ev_frz (evn_lst ?_)) | (with_reducible refine sls_tup ?_) | (refine ev_revT ?_)
  | ((refine sx_extx ?_); refine ⟨_, rfl, ?_⟩) | ((with_reducible refine ops_add_tup ?_ ?_); exact le_line rfl) | (with_reducible refine cas_listT ?_)
  | ((with_reducible refine ifT ?_ ?_); exact rfl) | ((with_reducible refine ifF ?_ ?_); exact rfl))
local macro_rules | `(tactic| walk_at "go") => `(tactic| repeat (first | walk_at "dl" | with_reducible refine ⟨_, rfl, ?_⟩ | with_reducible refine ⟨_, _, rfl, ?_⟩))
section
variable {Pg : Program} {w : World} {K : PySem.W.Frag} {mg : Str → Option Value} {base : Heap} {f : Addr} {fd : FuncData}
theorem ok_beats_of (F : Fun K "_law_beats_of" "_law_beats_of" s__law_beats_of f fd) (T : Txt mg) : FnG Pg w K mg base 1 f fd ["_law_works_here", "_law_thing"] (spBeatsX K) := by
  have nd := sc__law_beats_of.nd
  refine fnG_of F sc__law_beats_of pm_len (fun cdv A ou s H vs Q hgd hr h => ?_)
  have hu : (A.deeper (PyProof.Rows.envOfC "_law_beats_of" (defScope s__law_beats_of) s.heap.objs.size f cdv)).units + 64 < cLine := by have := hr.un; omega
  refine ⟨_, (pss_cons (ps_if (pt_cmpR (r := rEq2 K) (opEq hu) (pe_ix (r := rIx K) ix_seq (pv 1) pe_int (fun _ _ => rfl)) pe_str (nomark _)) (pss_one (ps_ret (pe_ix (r := rIx K) ix_seq (pe_lc (own := [("_law_kind", 2)]) (g := gName 2) rfl nd (pi_tup (pe_ix (r := rIx K) ix_seq (pv 0) pe_int (fun _ _ => rfl))) (blkOk_by (N := ["_law_works_here", "_law_thing", "_law_kind"]) (sc := (defScope s__law_beats_of)) (by decide +kernel)) (fun _ _ _ _ _ => (pg_name (i := 2) nd rfl (Or.inl rfl) (Or.inr rfl))) (fun _ _ _ _ _ => (pts_one (pt_cmpR (r := rEq2 K) (opEq hu) (pe_ix (r := rIx K) ix_seq (pv 2) pe_int (fun _ _ => rfl)) (pe_ix (r := rIx K) ix_seq (pv 1) pe_int (fun _ _ => rfl)) (nomark _)))) (fun _ _ _ _ _ => (pe_ix (r := rIx K) ix_seq (pv 2) pe_int (fun _ _ => rfl)))) pe_int (fun _ _ => rfl)))) pss_nil) (pss_one (ps_ret (pe_ifExp (pt_cmpR (r := rEq2 K) (opEq hu) (pe_ix (r := rIx K) ix_seq (pv 1) pe_int (fun _ _ => rfl)) (pe_ix (r := rIx K) ix_seq (pe_ix (r := rIx K) ix_seq (pv 0) pe_int (fun _ _ => rfl)) pe_int (fun _ _ => rfl)) (nomark _)) (pe_ix (r := rIx K) ix_seq (pe_ix (r := rIx K) ix_seq (pv 0) pe_int (fun _ _ => rfl)) pe_int (fun _ _ => rfl)) (pe_ix (r := rIx K) ix_seq (pe_ix (r := rIx K) ix_seq (pv 0) pe_int (fun _ _ => rfl)) pe_int (fun _ _ => rfl)))))), pm_body (by decide) h fun W F0 ss hl ⟨wk, m, hss, hk, hm⟩ => ?_⟩
  subst hss
  have fin : ∀ {s : Sl}, s = .dat (num (b8 wk m)) → ∀ w' m', ([.dat (wkD8 wk), .dat (thingD m)] : Rho) = [.dat (wkD8 w'), .dat (thingD m')] → s = .dat (num (b8 w' m')) := fun hs w' m' e => by
    injection e with e1 e
    injection e with e2 _
    injection e1 with e1
    injection e2 with e2
    obtain rfl := wkD_inj _ _ e1
    rw [hs, b8_eq wk e2]
  obtain ⟨n, lt, k⟩ := m
  cases lt with
  | none =>
    change Sx K W H F0 _ [.dat (wkD8 wk), .dat (.tuple [.str "tool", .str n]), .un] _
    refine sx_seq (sx_if ?_)
    walk_at "go"
    refine ev_frz (evn_map (isKd n) kBeats (evi_tup ?_))
    walk_at "go"
    refine ⟨by rw [List.length_map, sizeLine_eq]; omega, fun d hd => ?_, ?_⟩
    · obtain ⟨k, hk, rfl⟩ := List.mem_map.mp hd
      refine gc_name (by decide) trivial ?_
      refine et_B ?_
      walk_at "go"
      exact ⟨rfl, fun _ => ev_op (ev_varx ⟨_, rfl, ev_int (ops_ix_tup (atI_nat (j := 3) rfl) rfl)⟩)⟩
    · refine ev_int ?_
      obtain ⟨k', hk', hkn⟩ := List.mem_map.mp hm
      have e1 : ((wk.ks.map kD8).filter (isKd n)).map kBeats = (wk.ks.filter fun k => decide (k.nm = n)).map fun k => num k.beats := by
        rw [List.filter_map, List.map_map]
        rfl
      rw [e1]
      cases e : wk.ks.filter (fun k => decide (k.nm = n)) with
      | nil =>
        have : k' ∈ wk.ks.filter (fun k => decide (k.nm = n)) := List.mem_filter.mpr ⟨hk', decide_eq_true hkn⟩
        rw [e] at this
        cases this
      | cons d ds =>
        refine ops_ix_lst (.inl rfl) (atI_nat (j := 0) rfl) ?_
        refine fin ?_
        have : wk.ks.find? (fun k => decide (k.nm = n)) = some d := by
          rw [← List.head?_filter, e]
          rfl
        show Sl.dat (num d.beats) = Sl.dat (num (((wk.ks.find? fun k => decide (k.nm = n)).map Kd8.beats).getD 0))
        rw [this]
        rfl
  | some l =>
    change Sx K W H F0 _ [.dat (wkD8 wk), .dat (.tuple [.str "leaf", .str n, num l]), .un] _
    walk_at "go"
    refine if2 (fun h1 => ?_) (fun h1 => ?_)
    · have h1 : l = wk.br := by have := of_decide_eq_true h1; omega
      walk_at "go"
      refine fin ?_
      show Sl.dat (num wk.ab) = Sl.dat (num (if l = wk.br then wk.ab else wk.cb))
      rw [if_pos h1]
    · have h1 : ¬ l = wk.br := by have := of_decide_eq_false h1; omega
      walk_at "go"
      refine fin ?_
      show Sl.dat (num wk.cb) = Sl.dat (num (if l = wk.br then wk.ab else wk.cb))
      rw [if_neg h1]
end
end K19

namespace K19
open PySem L2 RZ DL
/-! ### the error's __init__ -/
def initOf (st : Stmt) : Stmt := match st with
  | .ClassDef _ _ _ body _ _ _ _ _ _ _ => body.getD 0 (.Pass ⟨0, 0, 0, 0⟩)
  | _ => .Pass ⟨0, 0, 0, 0⟩
abbrev s_NoPaper : Stmt := initOf (top 3)
theorem sc_NoPaper : FnScope ["self", "word", "at"] ["self", "word", "at"] (defScope s_NoPaper) := ⟨rfl, rfl, rfl, by decide +kernel, rfl, by decide +kernel, by decide +kernel⟩
section
variable {Pg : Program} {w : World} {K : PySem.W.Frag} {mg : Str → Option Value} {base : Heap} {f : Addr} {fd : FuncData}
theorem ok_NoPaper (F : Fun K "__init__" "NoPaper.__init__" s_NoPaper f fd) : FnOk Pg w K mg base CX0 1 f fd ["self", "word", "at"] (initSp K "word" "at") := by
  have nd := sc_NoPaper.nd
  refine F.ok sc_NoPaper (fun vs H Q E h => ?_) (fun cdv A ou s H vs Q E hr h => ?_)
  · obtain ⟨a, C, x, y, rfl, _⟩ := h
    rfl
  obtain ⟨a, C, x, y, rfl, hC, h1, h2, ha, k⟩ := h
  refine ⟨_, (pss_cons (ps_ost (pv 0) (pv 1)) (pss_one (ps_ost (pv 0) (pv 2)))), ?_⟩
  refine ⟨x, rfl, .ref a, rfl, a, C, rfl, hC, h1, .inl ⟨ha, fun d hd hda => ?_⟩⟩
  refine ⟨y, rfl, .ref a, rfl, a, C, rfl, hC, h2, .inr ⟨d, _, upd_same, ?_, Nat.le_of_ble_eq_true rfl, k d hd hda⟩⟩
  rw [upd_ne hda, upd_same]
end
end K19
namespace K19
open PySem L2 RZ DL PySem.Spec PyProof.Rows
/-! ### what the top has written, the head -/
theorem exm_self {K : PySem.W.Frag} {S : Addr} (a : PySem.W.subIn K (.ref S) (.type "BaseException") = some true) (b : PySem.W.isClsIn K S = true) (c : PySem.W.typeIn K (.ref S) = some (.type "type")) (d : PySem.W.subIn K (.ref S) (.ref S) = some true) :
    PySem.W.exmOne K (.ref S) (.ref S) = some true := by
  have b' : (PySem.W.clsIn K S).isSome = true := b
  unfold PySem.W.exmOne PySem.W.kitCls
  simp [a, b', c, d]

section
variable {K : PySem.W.Frag} {f : Addr} {fd : FuncData}
abbrev VoidD (K : PySem.W.Frag) (f : Addr) (fd : FuncData) : Prop := FunD K "void_stand" "void_stand" (defArgs s_void_stand) (defBody s_void_stand) (defScope s_void_stand) [] [("phase", V.non), ("rest", V.int 0)] f fd
theorem void_k (F : VoidD K f fd) : ∃ mv : List Value, KBn K fd ["works", "phase", "rest"] 1 ["phase"] (fun us ws => us ++ ws ++ mv) (fun vs zs => vs ++ zs ++ [.int 0]) :=
  FunD.kbinds0 F 1 ["phase"] [("rest", V.int 0)] (fun {α} (us ms ws : List α) => us ++ ws ++ ms) (by simp) (fun q hq => List.mem_cons_of_mem _ hq) (fun r1 r2 r3 => (r1.append r3).append r2) fun D doc pm an cdv ct us mv ws h1 h2 h3 => match us, mv, ws, h1, h2, h3 with
    | [u], [v], [x], _, _, _ => ⟨_, _, _, _, _, _, rfl, rfl, rfl⟩
theorem full_k (F : Fun K "full_stand" "full_stand" s_full_stand f fd) : KBn K fd ["works", "phase", "rest"] 1 ["phase", "rest"] (fun us ws => us ++ ws) (fun vs zs => vs ++ zs) := by
  obtain ⟨oc, od, kV, doc, pm, an, cdv, ct, osl, rfl, lk, hcd⟩ := F.ex
  exact ⟨fun s us ws _ h1 h2 => match us, ws, h1, h2 with
    | [u], [v, x], _, _ => .of_eq rfl, fun r1 r2 => r1.append r2⟩
end
theorem all_mk {l : PySem.W.OpenLaw} {w : World} {K : PySem.W.Frag} {h : Heap} {mg : Str → Option Value} {fa : Addr} (X : K.In h) (G : h.Ns mainGlobals mg) (hfa : mg "law" = some (.ref fa))
    {f1 f2 f3 f4 f5 f6 f7 f8 f9 f10 f11 f12 f13 f14 f15 f16 f17 f18 f19 f20 f21 f22 f23 f24 f25 f26 f27 f28 f29 f30 f31 f32 f33 f34 f35 f36 f37 f38 f39 f40 : Addr}
    {od1 an1 od2 an2 od3 an3 od4 an4 od5 an5 od6 an6 od7 an7 od8 an8 od9 an9 od10 an10 od11 an11 od12 an12 od13 an13 od14 an14 od15 an15 od16 an16 od17 an17 od18 an18 od19 an19 od20 an20 od21 an21 od22 an22 od23 an23 od24 an24 od25 an25 od26 an26 od27 an27 od28 an28 od29 an29 od30 an30 od31 an31 od32 an32 od33 an33 od34 an34 od35 an35 od36 an36 od37 an37 od38 an38 od39 an39 od40 an40 : Option Addr} {sl1 sl2 sl3 sl4 sl5 sl6 sl7 sl8 sl9 sl10 sl11 sl12 sl13 sl14 sl15 sl16 sl17 sl18 sl19 sl20 sl21 sl22 sl23 sl24 sl25 sl26 sl27 sl28 sl29 sl30 sl31 sl32 sl33 sl34 sl35 sl36 sl37 sl38 sl39 sl40 : Array (Option Value)}
    {oc1 kV1 dc1 pm1 cd1 ct1 oc2 kV2 dc2 pm2 cd2 ct2 oc3 kV3 dc3 pm3 cd3 ct3 oc4 kV4 dc4 pm4 cd4 ct4 oc5 kV5 dc5 pm5 cd5 ct5 oc6 kV6 dc6 pm6 cd6 ct6 oc7 kV7 dc7 pm7 cd7 ct7 oc8 kV8 dc8 pm8 cd8 ct8 oc9 kV9 dc9 pm9 cd9 ct9 oc10 kV10 dc10 pm10 cd10 ct10 oc11 kV11 dc11 pm11 cd11 ct11 oc12 kV12 dc12 pm12 cd12 ct12 oc13 kV13 dc13 pm13 cd13 ct13 oc14 kV14 dc14 pm14 cd14 ct14 oc15 kV15 dc15 pm15 cd15 ct15 oc16 kV16 dc16 pm16 cd16 ct16 oc17 kV17 dc17 pm17 cd17 ct17 oc18 kV18 dc18 pm18 cd18 ct18 oc19 kV19 dc19 pm19 cd19 ct19 oc20 kV20 dc20 pm20 cd20 ct20 oc21 kV21 dc21 pm21 cd21 ct21 oc22 kV22 dc22 pm22 cd22 ct22 oc23 kV23 dc23 pm23 cd23 ct23 oc24 kV24 dc24 pm24 cd24 ct24 oc25 dc25 pm25 cd25 ct25 oc26 dc26 pm26 cd26 ct26 oc27 kV27 dc27 pm27 cd27 ct27 oc28 kV28 dc28 pm28 cd28 ct28 oc29 kV29 dc29 pm29 cd29 ct29 oc30 kV30 dc30 pm30 cd30 ct30 oc31 kV31 dc31 pm31 cd31 ct31 oc32 kV32 dc32 pm32 cd32 ct32 oc33 kV33 dc33 pm33 cd33 ct33 oc34 kV34 dc34 pm34 cd34 ct34 oc35 kV35 dc35 pm35 cd35 ct35 oc36 kV36 dc36 pm36 cd36 ct36 oc37 kV37 dc37 pm37 cd37 ct37 oc38 kV38 dc38 pm38 cd38 ct38 oc39 kV39 dc39 pm39 cd39 ct39 oc40 kV40 dc40 pm40 cd40 ct40 : Value}
    {kd25 : Addr}
    {kd26 : Addr}
    (a1 : PySem.W.nsIn K mainGlobals "is_number" = some (some (.ref f1))) (l1 : K.lookup f1 = some ⟨oc1, od1, .func (PySem.W.fnOf "is_number" "is_number" (defArgs s_is_number) (defBody s_is_number) (defScope s_is_number) .none kV1 dc1 pm1 an1 cd1 ct1), sl1⟩) (c1 : PySem.W.codeIn K cd1 "is_number" = true) (k1 : PySem.W.keepIn K (.ref f1) = true)
    (a2 : PySem.W.nsIn K mainGlobals "is_word" = some (some (.ref f2))) (l2 : K.lookup f2 = some ⟨oc2, od2, .func (PySem.W.fnOf "is_word" "is_word" (defArgs s_is_word) (defBody s_is_word) (defScope s_is_word) .none kV2 dc2 pm2 an2 cd2 ct2), sl2⟩) (c2 : PySem.W.codeIn K cd2 "is_word" = true) (k2 : PySem.W.keepIn K (.ref f2) = true)
    (a3 : PySem.W.nsIn K mainGlobals "is_tuple_of" = some (some (.ref f3))) (l3 : K.lookup f3 = some ⟨oc3, od3, .func (PySem.W.fnOf "is_tuple_of" "is_tuple_of" (defArgs s_is_tuple_of) (defBody s_is_tuple_of) (defScope s_is_tuple_of) .none kV3 dc3 pm3 an3 cd3 ct3), sl3⟩) (c3 : PySem.W.codeIn K cd3 "is_tuple_of" = true) (k3 : PySem.W.keepIn K (.ref f3) = true)
    (a4 : PySem.W.nsIn K mainGlobals "is_lights" = some (some (.ref f4))) (l4 : K.lookup f4 = some ⟨oc4, od4, .func (PySem.W.fnOf "is_lights" "is_lights" (defArgs s_is_lights) (defBody s_is_lights) (defScope s_is_lights) .none kV4 dc4 pm4 an4 cd4 ct4), sl4⟩) (c4 : PySem.W.codeIn K cd4 "is_lights" = true) (k4 : PySem.W.keepIn K (.ref f4) = true)
    (a5 : PySem.W.nsIn K mainGlobals "bunch_covers" = some (some (.ref f5))) (l5 : K.lookup f5 = some ⟨oc5, od5, .func (PySem.W.fnOf "bunch_covers" "bunch_covers" (defArgs s_bunch_covers) (defBody s_bunch_covers) (defScope s_bunch_covers) .none kV5 dc5 pm5 an5 cd5 ct5), sl5⟩) (c5 : PySem.W.codeIn K cd5 "bunch_covers" = true) (k5 : PySem.W.keepIn K (.ref f5) = true)
    (a6 : PySem.W.nsIn K mainGlobals "kind_called" = some (some (.ref f6))) (l6 : K.lookup f6 = some ⟨oc6, od6, .func (PySem.W.fnOf "kind_called" "kind_called" (defArgs s_kind_called) (defBody s_kind_called) (defScope s_kind_called) .none kV6 dc6 pm6 an6 cd6 ct6), sl6⟩) (c6 : PySem.W.codeIn K cd6 "kind_called" = true) (k6 : PySem.W.keepIn K (.ref f6) = true)
    (a7 : PySem.W.nsIn K mainGlobals "place_called" = some (some (.ref f7))) (l7 : K.lookup f7 = some ⟨oc7, od7, .func (PySem.W.fnOf "place_called" "place_called" (defArgs s_place_called) (defBody s_place_called) (defScope s_place_called) .none kV7 dc7 pm7 an7 cd7 ct7), sl7⟩) (c7 : PySem.W.codeIn K cd7 "place_called" = true) (k7 : PySem.W.keepIn K (.ref f7) = true)
    (a8 : PySem.W.nsIn K mainGlobals "terms_of" = some (some (.ref f8))) (l8 : K.lookup f8 = some ⟨oc8, od8, .func (PySem.W.fnOf "terms_of" "terms_of" (defArgs s_terms_of) (defBody s_terms_of) (defScope s_terms_of) .none kV8 dc8 pm8 an8 cd8 ct8), sl8⟩) (c8 : PySem.W.codeIn K cd8 "terms_of" = true) (k8 : PySem.W.keepIn K (.ref f8) = true)
    (a9 : PySem.W.nsIn K mainGlobals "are_numbers" = some (some (.ref f9))) (l9 : K.lookup f9 = some ⟨oc9, od9, .func (PySem.W.fnOf "are_numbers" "are_numbers" (defArgs s_are_numbers) (defBody s_are_numbers) (defScope s_are_numbers) .none kV9 dc9 pm9 an9 cd9 ct9), sl9⟩) (c9 : PySem.W.codeIn K cd9 "are_numbers" = true) (k9 : PySem.W.keepIn K (.ref f9) = true)
    (a10 : PySem.W.nsIn K mainGlobals "is_made_thing" = some (some (.ref f10))) (l10 : K.lookup f10 = some ⟨oc10, od10, .func (PySem.W.fnOf "is_made_thing" "is_made_thing" (defArgs s_is_made_thing) (defBody s_is_made_thing) (defScope s_is_made_thing) .none kV10 dc10 pm10 an10 cd10 ct10), sl10⟩) (c10 : PySem.W.codeIn K cd10 "is_made_thing" = true) (k10 : PySem.W.keepIn K (.ref f10) = true)
    (a11 : PySem.W.nsIn K mainGlobals "is_making" = some (some (.ref f11))) (l11 : K.lookup f11 = some ⟨oc11, od11, .func (PySem.W.fnOf "is_making" "is_making" (defArgs s_is_making) (defBody s_is_making) (defScope s_is_making) .none kV11 dc11 pm11 an11 cd11 ct11), sl11⟩) (c11 : PySem.W.codeIn K cd11 "is_making" = true) (k11 : PySem.W.keepIn K (.ref f11) = true)
    (a12 : PySem.W.nsIn K mainGlobals "is_stand" = some (some (.ref f12))) (l12 : K.lookup f12 = some ⟨oc12, od12, .func (PySem.W.fnOf "is_stand" "is_stand" (defArgs s_is_stand) (defBody s_is_stand) (defScope s_is_stand) .none kV12 dc12 pm12 an12 cd12 ct12), sl12⟩) (c12 : PySem.W.codeIn K cd12 "is_stand" = true) (k12 : PySem.W.keepIn K (.ref f12) = true)
    (a13 : PySem.W.nsIn K mainGlobals "look_at_uses" = some (some (.ref f13))) (l13 : K.lookup f13 = some ⟨oc13, od13, .func (PySem.W.fnOf "look_at_uses" "look_at_uses" (defArgs s_look_at_uses) (defBody s_look_at_uses) (defScope s_look_at_uses) .none kV13 dc13 pm13 an13 cd13 ct13), sl13⟩) (c13 : PySem.W.codeIn K cd13 "look_at_uses" = true) (k13 : PySem.W.keepIn K (.ref f13) = true)
    (a14 : PySem.W.nsIn K mainGlobals "look_at_leaves" = some (some (.ref f14))) (l14 : K.lookup f14 = some ⟨oc14, od14, .func (PySem.W.fnOf "look_at_leaves" "look_at_leaves" (defArgs s_look_at_leaves) (defBody s_look_at_leaves) (defScope s_look_at_leaves) .none kV14 dc14 pm14 an14 cd14 ct14), sl14⟩) (c14 : PySem.W.codeIn K cd14 "look_at_leaves" = true) (k14 : PySem.W.keepIn K (.ref f14) = true)
    (a15 : PySem.W.nsIn K mainGlobals "is_right_making" = some (some (.ref f15))) (l15 : K.lookup f15 = some ⟨oc15, od15, .func (PySem.W.fnOf "is_right_making" "is_right_making" (defArgs s_is_right_making) (defBody s_is_right_making) (defScope s_is_right_making) .none kV15 dc15 pm15 an15 cd15 ct15), sl15⟩) (c15 : PySem.W.codeIn K cd15 "is_right_making" = true) (k15 : PySem.W.keepIn K (.ref f15) = true)
    (a16 : PySem.W.nsIn K mainGlobals "look_at_makings" = some (some (.ref f16))) (l16 : K.lookup f16 = some ⟨oc16, od16, .func (PySem.W.fnOf "look_at_makings" "look_at_makings" (defArgs s_look_at_makings) (defBody s_look_at_makings) (defScope s_look_at_makings) .none kV16 dc16 pm16 an16 cd16 ct16), sl16⟩) (c16 : PySem.W.codeIn K cd16 "look_at_makings" = true) (k16 : PySem.W.keepIn K (.ref f16) = true)
    (a17 : PySem.W.nsIn K mainGlobals "lets_stand" = some (some (.ref f17))) (l17 : K.lookup f17 = some ⟨oc17, od17, .func (PySem.W.fnOf "lets_stand" "lets_stand" (defArgs s_lets_stand) (defBody s_lets_stand) (defScope s_lets_stand) .none kV17 dc17 pm17 an17 cd17 ct17), sl17⟩) (c17 : PySem.W.codeIn K cd17 "lets_stand" = true) (k17 : PySem.W.keepIn K (.ref f17) = true)
    (a18 : PySem.W.nsIn K mainGlobals "is_right_stand" = some (some (.ref f18))) (l18 : K.lookup f18 = some ⟨oc18, od18, .func (PySem.W.fnOf "is_right_stand" "is_right_stand" (defArgs s_is_right_stand) (defBody s_is_right_stand) (defScope s_is_right_stand) .none kV18 dc18 pm18 an18 cd18 ct18), sl18⟩) (c18 : PySem.W.codeIn K cd18 "is_right_stand" = true) (k18 : PySem.W.keepIn K (.ref f18) = true)
    (a19 : PySem.W.nsIn K mainGlobals "making_covers" = some (some (.ref f19))) (l19 : K.lookup f19 = some ⟨oc19, od19, .func (PySem.W.fnOf "making_covers" "making_covers" (defArgs s_making_covers) (defBody s_making_covers) (defScope s_making_covers) .none kV19 dc19 pm19 an19 cd19 ct19), sl19⟩) (c19 : PySem.W.codeIn K cd19 "making_covers" = true) (k19 : PySem.W.keepIn K (.ref f19) = true)
    (a20 : PySem.W.nsIn K mainGlobals "last_to_pair" = some (some (.ref f20))) (l20 : K.lookup f20 = some ⟨oc20, od20, .func (PySem.W.fnOf "last_to_pair" "last_to_pair" (defArgs s_last_to_pair) (defBody s_last_to_pair) (defScope s_last_to_pair) .none kV20 dc20 pm20 an20 cd20 ct20), sl20⟩) (c20 : PySem.W.codeIn K cd20 "last_to_pair" = true) (k20 : PySem.W.keepIn K (.ref f20) = true)
    (a21 : PySem.W.nsIn K mainGlobals "pairing" = some (some (.ref f21))) (l21 : K.lookup f21 = some ⟨oc21, od21, .func (PySem.W.fnOf "pairing" "pairing" (defArgs s_pairing) (defBody s_pairing) (defScope s_pairing) .none kV21 dc21 pm21 an21 cd21 ct21), sl21⟩) (c21 : PySem.W.codeIn K cd21 "pairing" = true) (k21 : PySem.W.keepIn K (.ref f21) = true)
    (a22 : PySem.W.nsIn K mainGlobals "lets_pairing" = some (some (.ref f22))) (l22 : K.lookup f22 = some ⟨oc22, od22, .func (PySem.W.fnOf "lets_pairing" "lets_pairing" (defArgs s_lets_pairing) (defBody s_lets_pairing) (defScope s_lets_pairing) .none kV22 dc22 pm22 an22 cd22 ct22), sl22⟩) (c22 : PySem.W.codeIn K cd22 "lets_pairing" = true) (k22 : PySem.W.keepIn K (.ref f22) = true)
    (a23 : PySem.W.nsIn K mainGlobals "is_no_less" = some (some (.ref f23))) (l23 : K.lookup f23 = some ⟨oc23, od23, .func (PySem.W.fnOf "is_no_less" "is_no_less" (defArgs s_is_no_less) (defBody s_is_no_less) (defScope s_is_no_less) .none kV23 dc23 pm23 an23 cd23 ct23), sl23⟩) (c23 : PySem.W.codeIn K cd23 "is_no_less" = true) (k23 : PySem.W.keepIn K (.ref f23) = true)
    (a24 : PySem.W.nsIn K mainGlobals "phase_told" = some (some (.ref f24))) (l24 : K.lookup f24 = some ⟨oc24, od24, .func (PySem.W.fnOf "phase_told" "phase_told" (defArgs s_phase_told) (defBody s_phase_told) (defScope s_phase_told) .none kV24 dc24 pm24 an24 cd24 ct24), sl24⟩) (c24 : PySem.W.codeIn K cd24 "phase_told" = true) (k24 : PySem.W.keepIn K (.ref f24) = true)
    (a25 : PySem.W.nsIn K mainGlobals "void_stand" = some (some (.ref f25))) (l25 : K.lookup f25 = some ⟨oc25, od25, .func (PySem.W.fnOf "void_stand" "void_stand" (defArgs s_void_stand) (defBody s_void_stand) (defScope s_void_stand) .none (.ref kd25) dc25 pm25 an25 cd25 ct25), sl25⟩) (c25 : PySem.W.codeIn K cd25 "void_stand" = true) (k25 : PySem.W.keepIn K (.ref f25) = true)
    (a26 : PySem.W.nsIn K mainGlobals "full_stand" = some (some (.ref f26))) (l26 : K.lookup f26 = some ⟨oc26, od26, .func (PySem.W.fnOf "full_stand" "full_stand" (defArgs s_full_stand) (defBody s_full_stand) (defScope s_full_stand) .none (.ref kd26) dc26 pm26 an26 cd26 ct26), sl26⟩) (c26 : PySem.W.codeIn K cd26 "full_stand" = true) (k26 : PySem.W.keepIn K (.ref f26) = true)
    (a27 : PySem.W.nsIn K mainGlobals "_law_feed" = some (some (.ref f27))) (l27 : K.lookup f27 = some ⟨oc27, od27, .func (PySem.W.fnOf "_law_feed" "_law_feed" (defArgs s__law_feed) (defBody s__law_feed) (defScope s__law_feed) .none kV27 dc27 pm27 an27 cd27 ct27), sl27⟩) (c27 : PySem.W.codeIn K cd27 "_law_feed" = true) (k27 : PySem.W.keepIn K (.ref f27) = true)
    (a28 : PySem.W.nsIn K mainGlobals "_law_draw" = some (some (.ref f28))) (l28 : K.lookup f28 = some ⟨oc28, od28, .func (PySem.W.fnOf "_law_draw" "_law_draw" (defArgs s__law_draw) (defBody s__law_draw) (defScope s__law_draw) .none kV28 dc28 pm28 an28 cd28 ct28), sl28⟩) (c28 : PySem.W.codeIn K cd28 "_law_draw" = true) (k28 : PySem.W.keepIn K (.ref f28) = true)
    (a29 : PySem.W.nsIn K mainGlobals "_law_any" = some (some (.ref f29))) (l29 : K.lookup f29 = some ⟨oc29, od29, .func (PySem.W.fnOf "_law_any" "_law_any" (defArgs s__law_any) (defBody s__law_any) (defScope s__law_any) .none kV29 dc29 pm29 an29 cd29 ct29), sl29⟩) (c29 : PySem.W.codeIn K cd29 "_law_any" = true) (k29 : PySem.W.keepIn K (.ref f29) = true)
    (a30 : PySem.W.nsIn K mainGlobals "_law_asks" = some (some (.ref f30))) (l30 : K.lookup f30 = some ⟨oc30, od30, .func (PySem.W.fnOf "_law_asks" "_law_asks" (defArgs s__law_asks) (defBody s__law_asks) (defScope s__law_asks) .none kV30 dc30 pm30 an30 cd30 ct30), sl30⟩) (c30 : PySem.W.codeIn K cd30 "_law_asks" = true) (k30 : PySem.W.keepIn K (.ref f30) = true)
    (a31 : PySem.W.nsIn K mainGlobals "_law_works" = some (some (.ref f31))) (l31 : K.lookup f31 = some ⟨oc31, od31, .func (PySem.W.fnOf "_law_works" "_law_works" (defArgs s__law_works) (defBody s__law_works) (defScope s__law_works) .none kV31 dc31 pm31 an31 cd31 ct31), sl31⟩) (c31 : PySem.W.codeIn K cd31 "_law_works" = true) (k31 : PySem.W.keepIn K (.ref f31) = true)
    (a32 : PySem.W.nsIn K mainGlobals "_law_beats_of" = some (some (.ref f32))) (l32 : K.lookup f32 = some ⟨oc32, od32, .func (PySem.W.fnOf "_law_beats_of" "_law_beats_of" (defArgs s__law_beats_of) (defBody s__law_beats_of) (defScope s__law_beats_of) .none kV32 dc32 pm32 an32 cd32 ct32), sl32⟩) (c32 : PySem.W.codeIn K cd32 "_law_beats_of" = true) (k32 : PySem.W.keepIn K (.ref f32) = true)
    (a33 : PySem.W.nsIn K mainGlobals "_law_stand" = some (some (.ref f33))) (l33 : K.lookup f33 = some ⟨oc33, od33, .func (PySem.W.fnOf "_law_stand" "_law_stand" (defArgs s__law_stand) (defBody s__law_stand) (defScope s__law_stand) .none kV33 dc33 pm33 an33 cd33 ct33), sl33⟩) (c33 : PySem.W.codeIn K cd33 "_law_stand" = true) (k33 : PySem.W.keepIn K (.ref f33) = true)
    (a34 : PySem.W.nsIn K mainGlobals "_law_row_covers" = some (some (.ref f34))) (l34 : K.lookup f34 = some ⟨oc34, od34, .func (PySem.W.fnOf "_law_row_covers" "_law_row_covers" (defArgs s__law_row_covers) (defBody s__law_row_covers) (defScope s__law_row_covers) .none kV34 dc34 pm34 an34 cd34 ct34), sl34⟩) (c34 : PySem.W.codeIn K cd34 "_law_row_covers" = true) (k34 : PySem.W.keepIn K (.ref f34) = true)
    (a35 : PySem.W.nsIn K mainGlobals "_law_less" = some (some (.ref f35))) (l35 : K.lookup f35 = some ⟨oc35, od35, .func (PySem.W.fnOf "_law_less" "_law_less" (defArgs s__law_less) (defBody s__law_less) (defScope s__law_less) .none kV35 dc35 pm35 an35 cd35 ct35), sl35⟩) (c35 : PySem.W.codeIn K cd35 "_law_less" = true) (k35 : PySem.W.keepIn K (.ref f35) = true)
    (a36 : PySem.W.nsIn K mainGlobals "_law_near" = some (some (.ref f36))) (l36 : K.lookup f36 = some ⟨oc36, od36, .func (PySem.W.fnOf "_law_near" "_law_near" (defArgs s__law_near) (defBody s__law_near) (defScope s__law_near) .none kV36 dc36 pm36 an36 cd36 ct36), sl36⟩) (c36 : PySem.W.codeIn K cd36 "_law_near" = true) (k36 : PySem.W.keepIn K (.ref f36) = true)
    (a37 : PySem.W.nsIn K mainGlobals "_law_chain" = some (some (.ref f37))) (l37 : K.lookup f37 = some ⟨oc37, od37, .func (PySem.W.fnOf "_law_chain" "_law_chain" (defArgs s__law_chain) (defBody s__law_chain) (defScope s__law_chain) .none kV37 dc37 pm37 an37 cd37 ct37), sl37⟩) (c37 : PySem.W.codeIn K cd37 "_law_chain" = true) (k37 : PySem.W.keepIn K (.ref f37) = true)
    (a38 : PySem.W.nsIn K mainGlobals "_law_plain" = some (some (.ref f38))) (l38 : K.lookup f38 = some ⟨oc38, od38, .func (PySem.W.fnOf "_law_plain" "_law_plain" (defArgs s__law_plain) (defBody s__law_plain) (defScope s__law_plain) .none kV38 dc38 pm38 an38 cd38 ct38), sl38⟩) (c38 : PySem.W.codeIn K cd38 "_law_plain" = true) (k38 : PySem.W.keepIn K (.ref f38) = true)
    (a39 : PySem.W.nsIn K mainGlobals "_law_is_order" = some (some (.ref f39))) (l39 : K.lookup f39 = some ⟨oc39, od39, .func (PySem.W.fnOf "_law_is_order" "_law_is_order" (defArgs s__law_is_order) (defBody s__law_is_order) (defScope s__law_is_order) .none kV39 dc39 pm39 an39 cd39 ct39), sl39⟩) (c39 : PySem.W.codeIn K cd39 "_law_is_order" = true) (k39 : PySem.W.keepIn K (.ref f39) = true)
    (a40 : PySem.W.nsIn K mainGlobals "law" = some (some (.ref f40))) (l40 : K.lookup f40 = some ⟨oc40, od40, .func (PySem.W.fnOf "law" "law" (defArgs s_law) (defBody s_law) (defScope s_law) .none kV40 dc40 pm40 an40 cd40 ct40), sl40⟩) (c40 : PySem.W.codeIn K cd40 "law" = true) (k40 : PySem.W.keepIn K (.ref f40) = true)
    {u25_0 : Value} (q25_0 : PySem.W.nsIn K kd25 "phase" = some (some u25_0)) (r25_0 : RelV (V.non) u25_0)
    {u25_1 : Value} (q25_1 : PySem.W.nsIn K kd25 "rest" = some (some u25_1)) (r25_1 : RelV (V.int 0) u25_1)
    {C fI : Addr} {nmX : Str} {qX : Str} {NX : Addr} {bsX bmX : List Value} {snX : List Str} {subX : List Value} {abX : Bool} {colX : Option Bool} {ddX : Option Addr} {m0X m1X m2X m3X m5X : Option Value}
    {odI anI : Option Addr} {slI : Array (Option Value)} {ocI kVI dcI pmI cdI ctI : Value}
    (aX : PySem.W.nsIn K mainGlobals "NoPaper" = some (some (.ref C)))
    (lX : K.lookup C = some (excClassObj nmX qX C NX bsX bmX true snX subX abX colX ddX m0X m1X m2X m3X m5X "ValueError.__new__")) (vX : PySem.HandSPX.refsVE bmX = true)
    (sX : PySem.W.findIn K (.ref C) "__setattr__" = some (some (.builtin "object.__setattr__"))) (eX : PySem.W.subIn K (.ref C) (.type "BaseException") = some true) (tX : PySem.W.typeIn K (.ref C) = some (.type "type")) (kX : PySem.W.keepIn K (.ref C) = true)
    (iX : PySem.W.isClsIn K C = true) (uX : PySem.W.subIn K (.ref C) (.ref C) = some true)
    (n1X : PySem.W.findIn K (.ref C) "word" = some none) (n2X : PySem.W.findIn K (.ref C) "at" = some none)
    (aI : PySem.W.findIn K (.ref C) "__init__" = some (some (.ref fI))) (tI : PySem.W.typeIn K (.ref fI) = some (.type "function"))
    (lI : K.lookup fI = some ⟨ocI, odI, .func (PySem.W.fnOf "__init__" "NoPaper.__init__" (defArgs s_NoPaper) (defBody s_NoPaper) (defScope s_NoPaper) .none kVI dcI pmI anI cdI ctI), slI⟩) (cI : PySem.W.codeIn K cdI "NoPaper.__init__" = true) (kI : PySem.W.keepIn K (.ref fI) = true)
    (z_all : PySem.W.nsIn K mainGlobals "all" = some none) (z_bool : PySem.W.nsIn K mainGlobals "bool" = some none) (z_enumerate : PySem.W.nsIn K mainGlobals "enumerate" = some none) (z_int : PySem.W.nsIn K mainGlobals "int" = some none) (z_isinstance : PySem.W.nsIn K mainGlobals "isinstance" = some none) (z_len : PySem.W.nsIn K mainGlobals "len" = some none) (z_list : PySem.W.nsIn K mainGlobals "list" = some none) (z_max : PySem.W.nsIn K mainGlobals "max" = some none) (z_min : PySem.W.nsIn K mainGlobals "min" = some none) (z_range : PySem.W.nsIn K mainGlobals "range" = some none) (z_reversed : PySem.W.nsIn K mainGlobals "reversed" = some none) (z_sorted : PySem.W.nsIn K mainGlobals "sorted" = some none) (z_str : PySem.W.nsIn K mainGlobals "str" = some none) (z_tuple : PySem.W.nsIn K mainGlobals "tuple" = some none) (z_zip : PySem.W.nsIn K mainGlobals "zip" = some none) :
    ∃ fd : FuncData, (∀ (s : Shared) (v : Value), BindsTo s fd ⟨[v], []⟩ [("_law_script", v)]) ∧ ∀ base : Heap, K.In base → base.Ns mainGlobals mg → FnG l.prog w K mg base 9 fa fd ["_law_script"] (spLaw K) := by
  have e := hfa.symm.trans (PySem.W.mg_of X G a40)
  cases e
  have T : Txt mg := ⟨PySem.W.mg_none_of X G z_all, PySem.W.mg_none_of X G z_bool, PySem.W.mg_none_of X G z_enumerate, PySem.W.mg_none_of X G z_int, PySem.W.mg_none_of X G z_isinstance, PySem.W.mg_none_of X G z_len, PySem.W.mg_none_of X G z_list, PySem.W.mg_none_of X G z_max, PySem.W.mg_none_of X G z_min, PySem.W.mg_none_of X G z_range, PySem.W.mg_none_of X G z_reversed, PySem.W.mg_none_of X G z_sorted, PySem.W.mg_none_of X G z_str, PySem.W.mg_none_of X G z_tuple, PySem.W.mg_none_of X G z_zip⟩
  have F1 := fun_mk (st := s_is_number) l1 c1 k1
  have b1 := F1.binds (ps := ["thing"]) fun _ _ _ _ _ _ us hl => match us, hl with | [_], _ => rfl
  have m1 := PySem.W.mg_of X G a1
  have F2 := fun_mk (st := s_is_word) l2 c2 k2
  have b2 := F2.binds (ps := ["thing"]) fun _ _ _ _ _ _ us hl => match us, hl with | [_], _ => rfl
  have m2 := PySem.W.mg_of X G a2
  have F3 := fun_mk (st := s_is_tuple_of) l3 c3 k3
  have b3 := F3.binds (ps := ["thing", "many"]) fun _ _ _ _ _ _ us hl => match us, hl with | [_, _], _ => rfl
  have m3 := PySem.W.mg_of X G a3
  have F4 := fun_mk (st := s_is_lights) l4 c4 k4
  have b4 := F4.binds (ps := ["thing"]) fun _ _ _ _ _ _ us hl => match us, hl with | [_], _ => rfl
  have m4 := PySem.W.mg_of X G a4
  have F5 := fun_mk (st := s_bunch_covers) l5 c5 k5
  have b5 := F5.binds (ps := ["one", "other"]) fun _ _ _ _ _ _ us hl => match us, hl with | [_, _], _ => rfl
  have m5 := PySem.W.mg_of X G a5
  have F6 := fun_mk (st := s_kind_called) l6 c6 k6
  have b6 := F6.binds (ps := ["works", "name"]) fun _ _ _ _ _ _ us hl => match us, hl with | [_, _], _ => rfl
  have m6 := PySem.W.mg_of X G a6
  have F7 := fun_mk (st := s_place_called) l7 c7 k7
  have b7 := F7.binds (ps := ["works", "name"]) fun _ _ _ _ _ _ us hl => match us, hl with | [_, _], _ => rfl
  have m7 := PySem.W.mg_of X G a7
  have F8 := fun_mk (st := s_terms_of) l8 c8 k8
  have b8 := F8.binds (ps := ["works", "thing"]) fun _ _ _ _ _ _ us hl => match us, hl with | [_, _], _ => rfl
  have m8 := PySem.W.mg_of X G a8
  have F9 := fun_mk (st := s_are_numbers) l9 c9 k9
  have b9 := F9.binds (ps := ["thing"]) fun _ _ _ _ _ _ us hl => match us, hl with | [_], _ => rfl
  have m9 := PySem.W.mg_of X G a9
  have F10 := fun_mk (st := s_is_made_thing) l10 c10 k10
  have b10 := F10.binds (ps := ["thing"]) fun _ _ _ _ _ _ us hl => match us, hl with | [_], _ => rfl
  have m10 := PySem.W.mg_of X G a10
  have F11 := fun_mk (st := s_is_making) l11 c11 k11
  have b11 := F11.binds (ps := ["thing"]) fun _ _ _ _ _ _ us hl => match us, hl with | [_], _ => rfl
  have m11 := PySem.W.mg_of X G a11
  have F12 := fun_mk (st := s_is_stand) l12 c12 k12
  have b12 := F12.binds (ps := ["thing"]) fun _ _ _ _ _ _ us hl => match us, hl with | [_], _ => rfl
  have m12 := PySem.W.mg_of X G a12
  have F13 := fun_mk (st := s_look_at_uses) l13 c13 k13
  have b13 := F13.binds (ps := ["works", "uses"]) fun _ _ _ _ _ _ us hl => match us, hl with | [_, _], _ => rfl
  have m13 := PySem.W.mg_of X G a13
  have F14 := fun_mk (st := s_look_at_leaves) l14 c14 k14
  have b14 := F14.binds (ps := ["works", "leaves"]) fun _ _ _ _ _ _ us hl => match us, hl with | [_, _], _ => rfl
  have m14 := PySem.W.mg_of X G a14
  have F15 := fun_mk (st := s_is_right_making) l15 c15 k15
  have b15 := F15.binds (ps := ["works", "making"]) fun _ _ _ _ _ _ us hl => match us, hl with | [_, _], _ => rfl
  have m15 := PySem.W.mg_of X G a15
  have F16 := fun_mk (st := s_look_at_makings) l16 c16 k16
  have b16 := F16.binds (ps := ["works", "makings"]) fun _ _ _ _ _ _ us hl => match us, hl with | [_, _], _ => rfl
  have m16 := PySem.W.mg_of X G a16
  have F17 := fun_mk (st := s_lets_stand) l17 c17 k17
  have b17 := F17.binds (ps := ["works", "thing"]) fun _ _ _ _ _ _ us hl => match us, hl with | [_, _], _ => rfl
  have m17 := PySem.W.mg_of X G a17
  have F18 := fun_mk (st := s_is_right_stand) l18 c18 k18
  have b18 := F18.binds (ps := ["works", "thing"]) fun _ _ _ _ _ _ us hl => match us, hl with | [_, _], _ => rfl
  have m18 := PySem.W.mg_of X G a18
  have F19 := fun_mk (st := s_making_covers) l19 c19 k19
  have b19 := F19.binds (ps := ["one", "other"]) fun _ _ _ _ _ _ us hl => match us, hl with | [_, _], _ => rfl
  have m19 := PySem.W.mg_of X G a19
  have F20 := fun_mk (st := s_last_to_pair) l20 c20 k20
  have b20 := F20.binds (ps := ["makings", "other", "paired"]) fun _ _ _ _ _ _ us hl => match us, hl with | [_, _, _], _ => rfl
  have m20 := PySem.W.mg_of X G a20
  have F21 := fun_mk (st := s_pairing) l21 c21 k21
  have b21 := F21.binds (ps := ["stand", "other"]) fun _ _ _ _ _ _ us hl => match us, hl with | [_, _], _ => rfl
  have m21 := PySem.W.mg_of X G a21
  have F22 := fun_mk (st := s_lets_pairing) l22 c22 k22
  have b22 := F22.binds (ps := ["stand", "other", "thing"]) fun _ _ _ _ _ _ us hl => match us, hl with | [_, _, _], _ => rfl
  have m22 := PySem.W.mg_of X G a22
  have F23 := fun_mk (st := s_is_no_less) l23 c23 k23
  have b23 := F23.binds (ps := ["stand", "other"]) fun _ _ _ _ _ _ us hl => match us, hl with | [_, _], _ => rfl
  have m23 := PySem.W.mg_of X G a23
  have F24 := fun_mk (st := s_phase_told) l24 c24 k24
  have b24 := F24.binds (ps := ["works", "phase"]) fun _ _ _ _ _ _ us hl => match us, hl with | [_, _], _ => rfl
  have m24 := PySem.W.mg_of X G a24
  have F25 := fun_mk (st := s_void_stand) l25 c25 k25
  have m25 := PySem.W.mg_of X G a25
  have F26 := fun_mk (st := s_full_stand) l26 c26 k26
  have m26 := PySem.W.mg_of X G a26
  have F27 := fun_mk (st := s__law_feed) l27 c27 k27
  have b27 := F27.binds (ps := ["_law_script"]) fun _ _ _ _ _ _ us hl => match us, hl with | [_], _ => rfl
  have m27 := PySem.W.mg_of X G a27
  have F28 := fun_mk (st := s__law_draw) l28 c28 k28
  have b28 := F28.binds (ps := ["_law_feed_here", "_law_many"]) fun _ _ _ _ _ _ us hl => match us, hl with | [_, _], _ => rfl
  have m28 := PySem.W.mg_of X G a28
  have F29 := fun_mk (st := s__law_any) l29 c29 k29
  have b29 := F29.binds (ps := ["_law_feed_here", "_law_some"]) fun _ _ _ _ _ _ us hl => match us, hl with | [_, _], _ => rfl
  have m29 := PySem.W.mg_of X G a29
  have F30 := fun_mk (st := s__law_asks) l30 c30 k30
  have b30 := F30.binds (ps := ["_law_feed_here", "_law_names"]) fun _ _ _ _ _ _ us hl => match us, hl with | [_, _], _ => rfl
  have m30 := PySem.W.mg_of X G a30
  have F31 := fun_mk (st := s__law_works) l31 c31 k31
  have b31 := F31.binds (ps := ["_law_feed_here", "_law_most_kinds"]) fun _ _ _ _ _ _ us hl => match us, hl with | [_, _], _ => rfl
  have m31 := PySem.W.mg_of X G a31
  have F32 := fun_mk (st := s__law_beats_of) l32 c32 k32
  have b32 := F32.binds (ps := ["_law_works_here", "_law_thing"]) fun _ _ _ _ _ _ us hl => match us, hl with | [_, _], _ => rfl
  have m32 := PySem.W.mg_of X G a32
  have F33 := fun_mk (st := s__law_stand) l33 c33 k33
  have b33 := F33.binds (ps := ["_law_feed_here", "_law_works_here"]) fun _ _ _ _ _ _ us hl => match us, hl with | [_, _], _ => rfl
  have m33 := PySem.W.mg_of X G a33
  have F34 := fun_mk (st := s__law_row_covers) l34 c34 k34
  have b34 := F34.binds (ps := ["_law_lights", "_law_others"]) fun _ _ _ _ _ _ us hl => match us, hl with | [_, _], _ => rfl
  have m34 := PySem.W.mg_of X G a34
  have F35 := fun_mk (st := s__law_less) l35 c35 k35
  have b35 := F35.binds (ps := ["_law_feed_here", "_law_works_here", "_law_stand_here", "_law_laps"]) fun _ _ _ _ _ _ us hl => match us, hl with | [_, _, _, _], _ => rfl
  have m35 := PySem.W.mg_of X G a35
  have F36 := fun_mk (st := s__law_near) l36 c36 k36
  have b36 := F36.binds (ps := ["_law_feed_here", "_law_works_here", "_law_stand_here"]) fun _ _ _ _ _ _ us hl => match us, hl with | [_, _, _], _ => rfl
  have m36 := PySem.W.mg_of X G a36
  have F37 := fun_mk (st := s__law_chain) l37 c37 k37
  have b37 := F37.binds (ps := ["_law_feed_here", "_law_works_here", "_law_stand_here", "_law_many"]) fun _ _ _ _ _ _ us hl => match us, hl with | [_, _, _, _], _ => rfl
  have m37 := PySem.W.mg_of X G a37
  have F38 := fun_mk (st := s__law_plain) l38 c38 k38
  have b38 := F38.binds (ps := ["_law_one", "_law_other"]) fun _ _ _ _ _ _ us hl => match us, hl with | [_, _], _ => rfl
  have m38 := PySem.W.mg_of X G a38
  have F39 := fun_mk (st := s__law_is_order) l39 c39 k39
  have b39 := F39.binds (ps := ["_law_some"]) fun _ _ _ _ _ _ us hl => match us, hl with | [_], _ => rfl
  have m39 := PySem.W.mg_of X G a39
  have F40 := fun_mk (st := s_law) l40 c40 k40
  have b40 := F40.binds (ps := ["_law_script"]) fun _ _ _ _ _ _ us hl => match us, hl with | [_], _ => rfl
  have m40 := PySem.W.mg_of X G a40
  have FI := fun_mk (st := s_NoPaper) lI cI kI
  have bI := FI.binds (ps := ["self", "word", "at"]) fun _ _ _ _ _ _ us hl => match us, hl with | [_, _, _], _ => rfl
  have EX : ∀ (w : World) (base : Heap), Exc2 l.prog w K mg base "NoPaper" C "word" "at" := fun w base => ⟨⟨⟨nmX, qX, NX, bsX, bmX, snX, subX, abX, colX, ddX, m0X, m1X, m2X, m3X, m5X, lX, vX⟩, sX, eX, tX, kX⟩, ⟨_, _, aI, tI, ok_NoPaper FI, bI⟩, PySem.W.mg_of X G aX, n1X, n2X, exm_self eX iX tX uX⟩
  have Dv : VoidD K _ _ := ⟨⟨_, _, _, _, _, _, _, _, _, _, rfl, l25, c25, .inl ⟨rfl, rfl⟩, .inr ⟨kd25, rfl, fun q hq => by rcases List.mem_cons.mp hq with rfl | hq; exact ⟨_, q25_0, r25_0⟩; obtain rfl := List.mem_singleton.mp hq; exact ⟨_, q25_1, r25_1⟩⟩⟩, k25⟩
  obtain ⟨mv, bv⟩ := void_k Dv
  refine ⟨PySem.W.fnOf "law" "law" (defArgs s_law) (defBody s_law) (defScope s_law) .none kV40 dc40 pm40 an40 cd40 ct40, fun s v => .of_eq rfl, fun base _ _ => ?_⟩
  have G1 := ok_is_number (Pg := l.prog) (w := w) (mg := mg) (base := base) F1 T
  have C1 : Fn l.prog w K mg base "is_number" 1 ["thing"] _ := ⟨_, _, G1, m1, k1, b1⟩
  have G2 := ok_is_word (Pg := l.prog) (w := w) (mg := mg) (base := base) F2 T
  have C2 : Fn l.prog w K mg base "is_word" 1 ["thing"] _ := ⟨_, _, G2, m2, k2, b2⟩
  have G3 := ok_is_tuple_of (Pg := l.prog) (w := w) (mg := mg) (base := base) F3 T
  have C3 : Fn l.prog w K mg base "is_tuple_of" 1 ["thing", "many"] _ := ⟨_, _, G3, m3, k3, b3⟩
  have G4 := ok_is_lights (Pg := l.prog) (w := w) (mg := mg) (base := base) F4 T C1
  have C4 : Fn l.prog w K mg base "is_lights" 2 ["thing"] _ := ⟨_, _, G4, m4, k4, b4⟩
  have G5 := ok_bunch_covers (Pg := l.prog) (w := w) (mg := mg) (base := base) F5 T
  have C5 : Fn l.prog w K mg base "bunch_covers" 1 ["one", "other"] _ := ⟨_, _, G5, m5, k5, b5⟩
  have G6 := ok_kind_called (Pg := l.prog) (w := w) (mg := mg) (base := base) F6 T
  have C6 : Fn l.prog w K mg base "kind_called" 1 ["works", "name"] _ := ⟨_, _, G6, m6, k6, b6⟩
  have G7 := ok_place_called (Pg := l.prog) (w := w) (mg := mg) (base := base) F7 T
  have C7 : Fn l.prog w K mg base "place_called" 1 ["works", "name"] _ := ⟨_, _, G7, m7, k7, b7⟩
  have G8 := ok_terms_of (Pg := l.prog) (w := w) (mg := mg) (base := base) F8 T C6
  have C8 : Fn l.prog w K mg base "terms_of" 2 ["works", "thing"] _ := ⟨_, _, G8, m8, k8, b8⟩
  have G9 := ok_are_numbers (Pg := l.prog) (w := w) (mg := mg) (base := base) F9 T C1
  have C9 : Fn l.prog w K mg base "are_numbers" 2 ["thing"] _ := ⟨_, _, G9, m9, k9, b9⟩
  have G10 := ok_made (Pg := l.prog) (w := w) (mg := mg) (base := base) F10 T C3 C2 C1
  have C10 : Fn l.prog w K mg base "is_made_thing" 2 ["thing"] _ := ⟨_, _, G10, m10, k10, b10⟩
  have G11 := ok_making (Pg := l.prog) (w := w) (mg := mg) (base := base) F11 T C3 C10 C1
  have C11 : Fn l.prog w K mg base "is_making" 3 ["thing"] _ := ⟨_, _, G11, m11, k11, b11⟩
  have G12 := ok_is_stand (Pg := l.prog) (w := w) (mg := mg) (base := base) F12 T C3 C9 C11
  have C12 : Fn l.prog w K mg base "is_stand" 4 ["thing"] _ := ⟨_, _, G12, m12, k12, b12⟩
  have G13 := ok_look_uses (Pg := l.prog) (w := w) (mg := mg) (base := base) F13 T (EX w base)
  have C13 : FnX l.prog w K mg base "look_at_uses" 3 ["works", "uses"] _ := ⟨_, _, G13, m13, k13, b13⟩
  have G14 := ok_look_leaves (Pg := l.prog) (w := w) (mg := mg) (base := base) F14 T (EX w base) C4
  have C14 : FnX l.prog w K mg base "look_at_leaves" 3 ["works", "leaves"] _ := ⟨_, _, G14, m14, k14, b14⟩
  have G15 := ok_right_making (Pg := l.prog) (w := w) (mg := mg) (base := base) F15 T C7 C8
  have C15 : Fn l.prog w K mg base "is_right_making" 3 ["works", "making"] _ := ⟨_, _, G15, m15, k15, b15⟩
  have G16 := ok_look_makings (Pg := l.prog) (w := w) (mg := mg) (base := base) F16 T (EX w base) C15
  have C16 : FnX l.prog w K mg base "look_at_makings" 4 ["works", "makings"] _ := ⟨_, _, G16, m16, k16, b16⟩
  have G17 := ok_lets (Pg := l.prog) (w := w) (mg := mg) (base := base) F17 T (EX w base) C12 C13 C14 C16
  have C17 : FnX l.prog w K mg base "lets_stand" 5 ["works", "thing"] _ := ⟨_, _, G17, m17, k17, b17⟩
  have G18 := ok_right_stand (Pg := l.prog) (w := w) (mg := mg) (base := base) F18 T (EX w base) C17
  have C18 : Fn l.prog w K mg base "is_right_stand" 6 ["works", "thing"] _ := ⟨_, _, G18, m18, k18, b18⟩
  have G19 := ok_making_covers (Pg := l.prog) (w := w) (mg := mg) (base := base) F19 T
  have C19 : Fn l.prog w K mg base "making_covers" 1 ["one", "other"] _ := ⟨_, _, G19, m19, k19, b19⟩
  have G20 := ok_last_to_pair (Pg := l.prog) (w := w) (mg := mg) (base := base) F20 T C19
  have C20 : Fn l.prog w K mg base "last_to_pair" 2 ["makings", "other", "paired"] _ := ⟨_, _, G20, m20, k20, b20⟩
  have G21 := ok_pairing (Pg := l.prog) (w := w) (mg := mg) (base := base) F21 T C20
  have C21 : Fn l.prog w K mg base "pairing" 3 ["stand", "other"] _ := ⟨_, _, G21, m21, k21, b21⟩
  have G22 := ok_lets18 (Pg := l.prog) (w := w) (mg := mg) (base := base) F22 T (EX w base) C9 C19
  have C22 : FnX l.prog w K mg base "lets_pairing" 3 ["stand", "other", "thing"] _ := ⟨_, _, G22, m22, k22, b22⟩
  have G23 := ok_is_no_less (Pg := l.prog) (w := w) (mg := mg) (base := base) F23 T C5 C21
  have C23 : Fn l.prog w K mg base "is_no_less" 4 ["stand", "other"] _ := ⟨_, _, G23, m23, k23, b23⟩
  have G24 := ok_phase_told (Pg := l.prog) (w := w) (mg := mg) (base := base) F24 T
  have C24 : Fn l.prog w K mg base "phase_told" 1 ["works", "phase"] _ := ⟨_, _, G24, m24, k24, b24⟩
  have G25 := ok_void (Pg := l.prog) (w := w) (mg := mg) (base := base) F25 T C24
  have G26 := ok_full (Pg := l.prog) (w := w) (mg := mg) (base := base) F26 T C24
  have G27 := ok_feed (Pg := l.prog) (w := w) (mg := mg) (base := base) F27 T
  have C27 : Fn l.prog w K mg base "_law_feed" 1 ["_law_script"] _ := ⟨_, _, G27, m27, k27, b27⟩
  have G28 := ok_draw (Pg := l.prog) (w := w) (mg := mg) (base := base) F28 T
  have C28 : Fn l.prog w K mg base "_law_draw" 1 ["_law_feed_here", "_law_many"] _ := ⟨_, _, G28, m28, k28, b28⟩
  have G29 := ok_any (Pg := l.prog) (w := w) (mg := mg) (base := base) F29 T C28
  have C29 : Fn l.prog w K mg base "_law_any" 2 ["_law_feed_here", "_law_some"] _ := ⟨_, _, G29, m29, k29, b29⟩
  have G30 := ok_asks (Pg := l.prog) (w := w) (mg := mg) (base := base) F30 T C28
  have C30 : Fn l.prog w K mg base "_law_asks" 2 ["_law_feed_here", "_law_names"] _ := ⟨_, _, G30, m30, k30, b30⟩
  have G31 := ok_works (Pg := l.prog) (w := w) (mg := mg) (base := base) F31 T C28 C30
  have C31 : Fn l.prog w K mg base "_law_works" 3 ["_law_feed_here", "_law_most_kinds"] _ := ⟨_, _, G31, m31, k31, b31⟩
  have G32 := ok_beats_of (Pg := l.prog) (w := w) (mg := mg) (base := base) F32 T
  have C32 : Fn l.prog w K mg base "_law_beats_of" 1 ["_law_works_here", "_law_thing"] _ := ⟨_, _, G32, m32, k32, b32⟩
  have G33 := ok_stand (Pg := l.prog) (w := w) (mg := mg) (base := base) F33 T C28 C29 C32
  have C33 : Fn l.prog w K mg base "_law_stand" 3 ["_law_feed_here", "_law_works_here"] _ := ⟨_, _, G33, m33, k33, b33⟩
  have G34 := ok_row_covers (Pg := l.prog) (w := w) (mg := mg) (base := base) F34 T
  have C34 : Fn l.prog w K mg base "_law_row_covers" 1 ["_law_lights", "_law_others"] _ := ⟨_, _, G34, m34, k34, b34⟩
  have G35 := ok_less (Pg := l.prog) (w := w) (mg := mg) (base := base) F35 T C28
  have C35 : Fn l.prog w K mg base "_law_less" 2 ["_law_feed_here", "_law_works_here", "_law_stand_here", "_law_laps"] _ := ⟨_, _, G35, m35, k35, b35⟩
  have G36 := ok_near (Pg := l.prog) (w := w) (mg := mg) (base := base) F36 T C28 C35 C33 C32
  have C36 : Fn l.prog w K mg base "_law_near" 4 ["_law_feed_here", "_law_works_here", "_law_stand_here"] _ := ⟨_, _, G36, m36, k36, b36⟩
  have G37 := ok_chain (Pg := l.prog) (w := w) (mg := mg) (base := base) F37 T C28 C35
  have C37 : Fn l.prog w K mg base "_law_chain" 3 ["_law_feed_here", "_law_works_here", "_law_stand_here", "_law_many"] _ := ⟨_, _, G37, m37, k37, b37⟩
  have G38 := ok_plain (Pg := l.prog) (w := w) (mg := mg) (base := base) F38 T C34
  have C38 : Fn l.prog w K mg base "_law_plain" 2 ["_law_one", "_law_other"] _ := ⟨_, _, G38, m38, k38, b38⟩
  have G39 := ok_order (Pg := l.prog) (w := w) (mg := mg) (base := base) F39 T C23 C21 C38 C22
  have C39 : Fn l.prog w K mg base "_law_is_order" 5 ["_law_some"] _ := ⟨_, _, G39, m39, k39, b39⟩
  have Kv : FnK l.prog w K mg base "void_stand" 2 ["works", "phase", "rest"] _ 1 ["phase"] (fun vs zs => vs ++ zs ++ [.int 0]) := ⟨_, _, _, G25, m25, k25, bv⟩
  have Kf : FnK l.prog w K mg base "full_stand" 2 ["works", "phase", "rest"] _ 1 ["phase", "rest"] (fun vs zs => vs ++ zs) := ⟨_, _, _, G26, m26, k26, full_k F26⟩
  exact ok_law F40 T ⟨C27, C31, C33, C37, C35, C36, C39, C23, C18, Kv, Kf⟩
theorem walk {l : PySem.W.OpenLaw} {q : Program} {loose : List Str} {XP : (Str → Option Value) → Heap → Prop} {YP : World → Heap → Prop} {d : DefRec} {K : Params → PySem.W.Frag} (hn : l.most = some 63) (hdf : d.params.defaults = []) (hY : ∀ (w : World) (h : Heap), YP w h → (K w.params).In h)
    (F : ∀ (w : World) (mg : Str → Option Value) (fa : Addr) (h : Heap), (K w.params).In h → h.Ns mainGlobals mg → mg d.name = some (.ref fa) → ∃ fd : FuncData, (∀ (s : Shared) (u : Value), BindsTo s fd ⟨[u], []⟩ [("_law_script", u)]) ∧
      ∀ base : Heap, (K w.params).In base → base.Ns mainGlobals mg → FnG l.prog w (K w.params) mg base 9 fa fd ["_law_script"] (spLaw (K w.params))) :
    PySem.W.WalkO q loose XP YP l.row.toRowW d [] (fun f vs => PySem.call f vs) :=
  told_walk (n := 63) (k := 9) (x := "_law_script") (sp := spLaw) hn (by decide) hdf ⟨rfl, by decide, by decide⟩ hY F fun K H p zs _ h => ⟨p, zs, rfl, h, fun _ => rfl⟩
end K19

open PySem PySem.W PyProof.Rows in
set_option maxRecDepth 100000 in
set_option maxHeartbeats 0 in
theorem PySem.Challenge.cw_handsmade_k19_whole_no_less_an_order_holds : PySem.Challenge.rw_handsmade_k19_whole_no_less_an_order.Holds := by
  w_on; o_law; k_head; (case hw => w_witness2)
  k_fill
  refine K19.walk (l := PySem.Challenge.rw_handsmade_k19_whole_no_less_an_order) rfl rfl (fun w h Y => PySem.W.kIn_of Y) ?F
  case F =>
    intro w mg fa h KX G hmg
    refine' K19.all_mk KX G hmg ?a1 ?l1 ?c1 ?k1 ?a2 ?l2 ?c2 ?k2 ?a3 ?l3 ?c3 ?k3 ?a4 ?l4 ?c4 ?k4 ?a5 ?l5 ?c5 ?k5 ?a6 ?l6 ?c6 ?k6 ?a7 ?l7 ?c7 ?k7 ?a8 ?l8 ?c8 ?k8 ?a9 ?l9 ?c9 ?k9 ?a10 ?l10 ?c10 ?k10 ?a11 ?l11 ?c11 ?k11 ?a12 ?l12 ?c12 ?k12 ?a13 ?l13 ?c13 ?k13 ?a14 ?l14 ?c14 ?k14 ?a15 ?l15 ?c15 ?k15 ?a16 ?l16 ?c16 ?k16 ?a17 ?l17 ?c17 ?k17 ?a18 ?l18 ?c18 ?k18 ?a19 ?l19 ?c19 ?k19 ?a20 ?l20 ?c20 ?k20 ?a21 ?l21 ?c21 ?k21 ?a22 ?l22 ?c22 ?k22 ?a23 ?l23 ?c23 ?k23 ?a24 ?l24 ?c24 ?k24 ?a25 ?l25 ?c25 ?k25 ?a26 ?l26 ?c26 ?k26 ?a27 ?l27 ?c27 ?k27 ?a28 ?l28 ?c28 ?k28 ?a29 ?l29 ?c29 ?k29 ?a30 ?l30 ?c30 ?k30 ?a31 ?l31 ?c31 ?k31 ?a32 ?l32 ?c32 ?k32 ?a33 ?l33 ?c33 ?k33 ?a34 ?l34 ?c34 ?k34 ?a35 ?l35 ?c35 ?k35 ?a36 ?l36 ?c36 ?k36 ?a37 ?l37 ?c37 ?k37 ?a38 ?l38 ?c38 ?k38 ?a39 ?l39 ?c39 ?k39 ?a40 ?l40 ?c40 ?k40 ?q25_0 ?r25_0 ?q25_1 ?r25_1 ?aX ?lX ?vX ?sX ?eX ?tX ?kX ?iX ?uX ?n1X ?n2X ?aI ?tI ?lI ?cI ?kI ?z_all ?z_bool ?z_enumerate ?z_int ?z_isinstance ?z_len ?z_list ?z_max ?z_min ?z_range ?z_reversed ?z_sorted ?z_str ?z_tuple ?z_zip
    (case a1 => k_is)
    (case l1 => k_is)
    (case c1 => k_is)
    (case k1 => k_is)
    (case a2 => k_is)
    (case l2 => k_is)
    (case c2 => k_is)
    (case k2 => k_is)
    (case a3 => k_is)
    (case l3 => k_is)
    (case c3 => k_is)
    (case k3 => k_is)
    (case a4 => k_is)
    (case l4 => k_is)
    (case c4 => k_is)
    (case k4 => k_is)
    (case a5 => k_is)
    (case l5 => k_is)
    (case c5 => k_is)
    (case k5 => k_is)
    (case a6 => k_is)
    (case l6 => k_is)
    (case c6 => k_is)
    (case k6 => k_is)
    (case a7 => k_is)
    (case l7 => k_is)
    (case c7 => k_is)
    (case k7 => k_is)
    (case a8 => k_is)
    (case l8 => k_is)
    (case c8 => k_is)
    (case k8 => k_is)
    (case a9 => k_is)
    (case l9 => k_is)
    (case c9 => k_is)
    (case k9 => k_is)
    (case a10 => k_is)
    (case l10 => k_is)
    (case c10 => k_is)
    (case k10 => k_is)
    (case a11 => k_is)
    (case l11 => k_is)
    (case c11 => k_is)
    (case k11 => k_is)
    (case a12 => k_is)
    (case l12 => k_is)
    (case c12 => k_is)
    (case k12 => k_is)
    (case a13 => k_is)
    (case l13 => k_is)
    (case c13 => k_is)
    (case k13 => k_is)
    (case a14 => k_is)
    (case l14 => k_is)
    (case c14 => k_is)
    (case k14 => k_is)
    (case a15 => k_is)
    (case l15 => k_is)
    (case c15 => k_is)
    (case k15 => k_is)
    (case a16 => k_is)
    (case l16 => k_is)
    (case c16 => k_is)
    (case k16 => k_is)
    (case a17 => k_is)
    (case l17 => k_is)
    (case c17 => k_is)
    (case k17 => k_is)
    (case a18 => k_is)
    (case l18 => k_is)
    (case c18 => k_is)
    (case k18 => k_is)
    (case a19 => k_is)
    (case l19 => k_is)
    (case c19 => k_is)
    (case k19 => k_is)
    (case a20 => k_is)
    (case l20 => k_is)
    (case c20 => k_is)
    (case k20 => k_is)
    (case a21 => k_is)
    (case l21 => k_is)
    (case c21 => k_is)
    (case k21 => k_is)
    (case a22 => k_is)
    (case l22 => k_is)
    (case c22 => k_is)
    (case k22 => k_is)
    (case a23 => k_is)
    (case l23 => k_is)
    (case c23 => k_is)
    (case k23 => k_is)
    (case a24 => k_is)
    (case l24 => k_is)
    (case c24 => k_is)
    (case k24 => k_is)
    (case a25 => k_is)
    (case l25 => k_is)
    (case c25 => k_is)
    (case k25 => k_is)
    (case a26 => k_is)
    (case l26 => k_is)
    (case c26 => k_is)
    (case k26 => k_is)
    (case a27 => k_is)
    (case l27 => k_is)
    (case c27 => k_is)
    (case k27 => k_is)
    (case a28 => k_is)
    (case l28 => k_is)
    (case c28 => k_is)
    (case k28 => k_is)
    (case a29 => k_is)
    (case l29 => k_is)
    (case c29 => k_is)
    (case k29 => k_is)
    (case a30 => k_is)
    (case l30 => k_is)
    (case c30 => k_is)
    (case k30 => k_is)
    (case a31 => k_is)
    (case l31 => k_is)
    (case c31 => k_is)
    (case k31 => k_is)
    (case a32 => k_is)
    (case l32 => k_is)
    (case c32 => k_is)
    (case k32 => k_is)
    (case a33 => k_is)
    (case l33 => k_is)
    (case c33 => k_is)
    (case k33 => k_is)
    (case a34 => k_is)
    (case l34 => k_is)
    (case c34 => k_is)
    (case k34 => k_is)
    (case a35 => k_is)
    (case l35 => k_is)
    (case c35 => k_is)
    (case k35 => k_is)
    (case a36 => k_is)
    (case l36 => k_is)
    (case c36 => k_is)
    (case k36 => k_is)
    (case a37 => k_is)
    (case l37 => k_is)
    (case c37 => k_is)
    (case k37 => k_is)
    (case a38 => k_is)
    (case l38 => k_is)
    (case c38 => k_is)
    (case k38 => k_is)
    (case a39 => k_is)
    (case l39 => k_is)
    (case c39 => k_is)
    (case k39 => k_is)
    (case a40 => k_is)
    (case l40 => k_is)
    (case c40 => k_is)
    (case k40 => k_is)
    (case q25_0 => k_is)
    (case r25_0 => first | exact rfl | exact ⟨_, rfl⟩)
    (case q25_1 => k_is)
    (case r25_1 => first | exact rfl | exact ⟨_, rfl⟩)
    (case aX => k_is)
    (case lX => k_is)
    (case vX => decide +kernel)
    (case sX => k_is)
    (case eX => k_is)
    (case tX => k_is)
    (case kX => k_is)
    (case iX => k_is)
    (case uX => first | rfl | k_is)
    (case n1X => k_is)
    (case n2X => k_is)
    (case aI => k_is)
    (case tI => k_is)
    (case lI => k_is)
    (case cI => k_is)
    (case kI => k_is)
    (case z_all => k_is)
    (case z_bool => k_is)
    (case z_enumerate => k_is)
    (case z_int => k_is)
    (case z_isinstance => k_is)
    (case z_len => k_is)
    (case z_list => k_is)
    (case z_max => k_is)
    (case z_min => k_is)
    (case z_range => k_is)
    (case z_reversed => k_is)
    (case z_sorted => k_is)
    (case z_str => k_is)
    (case z_tuple => k_is)
    (case z_zip => k_is)
