import PyProof.Rows.All
import Wide.All
import OpenK.AllK
import Wide.FinOn
import PyProof.EqAt
import PyProof.EqKinds
import PyProof.TupleCall
import PyProof.ReprRoads
import HandS.ForMost
import HandS.Deep
import HandS.IsInst
import HandS.TupAny
import HandS.TupMul
import HandS.Style
import HandS.Zip
import HandS.Walk
import HandS.Defaults
import HandS.StrMore
import HandS.RaiseMore
import HandS.Sort
import HandS.Lambda
import PyProof.P3In
import PyProof.Rows.IntBool
import PyProof.ReprLen
import PyProof.Rows.ReprOcc
import HandS.Ends
import KE.GoesEnum
import HandS.Iter
import HandS.RevRange
import HandS.Conv
import KE.SortData
import HandS.SortKw
import KE.KExcIs
import KE.KIsAll
import HandS.ExcIs
import HandS.ExcField
import HandS.ExcInit
import HandS.TryOnly
import KE.KNestM
import HandS.SetFor
import KE.DataCmp
import HandS.Strs
import KE.DataMinMax
import HandS.DictComp
import HandS.DictTup
import KE.KDictPairs
import HandS.Small
import HandS.TupLen
import HandS.Comp
import HandS.TupSets
import HandS.SetBool
import HandS.MakeKwOnly
import PySem.Challenge.RW_handsmade_k09_whole_rings
set_option Elab.async false
set_option linter.all false
set_option maxRecDepth 100000
set_option maxHeartbeats 4000000
/-! data layer: what an expression evaluates to, told by data alone -/
namespace DL
open PySem L2
abbrev D := PyData
/-! a value is this data: its lists and tuples stand as objects -/
mutual
inductive Dp (K : PySem.W.Frag) (H : Hp) : V → PyData → Prop
  | non : Dp K H .non .none
  | bl (b : Bool) : Dp K H (.bl b) (.bool b)
  | int (i : Int) : Dp K H (.int i) (.int i)
  | str (x : Str) : Dp K H (.str x) (.str x)
  | lst {a : Addr} {xs : List V} {ds : List PyData} : H a = some (.lst xs) → DpAll K H xs ds → Dp K H (.ref a) (.list ds)
  | tup {a : Addr} {xs : List V} {ds : List PyData} : Rd H a (.tup xs) → DpAll K H xs ds → Dp K H (.ref a) (.tuple ds)
inductive DpAll (K : PySem.W.Frag) (H : Hp) : List V → List PyData → Prop
  | nil : DpAll K H [] []
  | cons {v : V} {vs : List V} {d : PyData} {ds : List PyData} : Dp K H v d → DpAll K H vs ds → DpAll K H (v :: vs) (d :: ds)
end
mutual
theorem Dp.old {K : PySem.W.Frag} {H : Hp} : ∀ {v : V} {d : PyData}, Dp K H v d → L2.Dp K H v d
  | _, _, .non => .non
  | _, _, .bl b => .bl b
  | _, _, .int i => .int i
  | _, _, .str x => .str x
  | _, _, .lst h a => .lst (SqL.of h) (DpAll.old a)
  | _, _, .tup h a => .tup (.inl h) (DpAll.old a)
theorem DpAll.old {K : PySem.W.Frag} {H : Hp} : ∀ {vs : List V} {ds : List PyData}, DpAll K H vs ds → L2.DpAll K H vs ds
  | _, _, .nil => .nil
  | _, _, .cons h t => .cons (Dp.old h) (DpAll.old t)
end
/-- a slot: not known; frozen data; a list of the def's own; a value as it is -/
structure Kn where
  φ : Hp → V → Prop
  mono : ∀ {F F' : Hp} {v : V}, Same F F' → φ F v → φ F' v
/-- what is known of an own object that may change -/
structure Ow where
  φ : Hp → HO → Prop
  mono : ∀ {F F' : Hp} {u : HO}, Same F F' → φ F u → φ F' u
  ext : ∀ {F : Hp} {u : HO}, φ F u → ∃ f, u = .ext f
  nc : ∀ {F : Hp} {u : HO} (c : Addr) (q : Str), φ F u → some u ≠ some (LamX.CodeO c q)
inductive Sl where
  | un | dat (d : D) | ls (ds : List D) | rf (v : V) | kn (k : Kn) | ow (p : Addr) (k : Ow)
abbrev Rho := List Sl
/-- what may change behind our back (Z), what holds of it -/
structure Wd where
  Z : Addr → Prop
  I : Hp → Hp → Prop
  stab : ∀ F H F' H', I F H → Same F F' → (∀ b o, Z b → H b = some o → H' b = some o) → (∀ b c q, H b = some (LamX.CodeO c q) → H' b = some (LamX.CodeO c q)) → I F' H'
  back : ∀ F F' H0 H, I F H0 → I F' H → I F H
structure Ok (W : Wd) (F H : Hp) : Prop where
  sub : Same F H
  z : ∀ b, W.Z b → F b = none ∧ H b ≠ none
  inv : W.I F H
structure Step (W : Wd) (F H F' H' : Hp) : Prop where
  fz : Same F F'
  kp : ∀ b o, ¬ W.Z b → H b = some o → H' b = some o
  nw : ∀ b, F b = none → H b ≠ none → F' b = none

section
variable {W : Wd} {F F1 F2 F' H H0 H1 H2 H' : Hp} {K : PySem.W.Frag}
theorem some_of {a : Option HO} (h : a ≠ none) : ∃ o, a = some o := by
  cases a with
  | none => exact absurd rfl h
  | some o => exact ⟨o, rfl⟩
theorem Step.refl (o : Ok W F H) : Step W F H F H := ⟨Same.refl _, fun _ _ _ h => h, fun _ h _ => h⟩
theorem Step.there (s : Step W F H F' H') (o : Ok W F' H') {b : Addr} (h : H b ≠ none) : H' b ≠ none := by
  by_cases hz : W.Z b
  · exact (o.z b hz).2
  · obtain ⟨u, hu⟩ := some_of h
    rw [s.kp b u hz hu]
    exact fun z => nomatch z
theorem Step.trans (a : Step W F H F1 H1) (o : Ok W F1 H1) (b : Step W F1 H1 F2 H2) : Step W F H F2 H2 :=
  ⟨a.fz.trans b.fz, fun c u hz h => b.kp c u hz (a.kp c u hz h), fun c hf hh => b.nw c (a.nw c hf hh) (a.there o hh)⟩
theorem sm_new {p : Addr} {o : HO} (h : H p = none) : Same H (upd H p o) := fun a u e => by
  rw [upd_ne (ne_of_none e h)]
  exact e
theorem Ok.free (o : Ok W F H) {p : Addr} (h : H p = none) : F p = none := o.sub.free h
theorem Ok.nz (o : Ok W F H) {p : Addr} (h : H p = none) : ¬ W.Z p := fun z => (o.z p z).2 h
/-- a new object, frozen -/
theorem Ok.new (o : Ok W F H) {p : Addr} {u : HO} (h : H p = none) : Ok W (upd F p u) (upd H p u) ∧ Step W F H (upd F p u) (upd H p u) := by
  refine ⟨⟨fun a v e => ?_, fun b hz => ?_, W.stab _ _ _ _ o.inv (sm_new (o.free h)) (fun b v _ e => sm_new h b v e) fun b c q e => sm_new h b _ e⟩, sm_new (o.free h), fun b v _ e => sm_new h b v e, fun b hf hh => ?_⟩
  · by_cases q : a = p
    · rw [q, upd_same] at e
      rw [q, upd_same]
      exact e
    · rw [upd_ne q] at e
      rw [upd_ne q]
      exact o.sub a v e
  · have q : b ≠ p := fun q => o.nz h (q ▸ hz)
    rw [upd_ne q, upd_ne q]
    exact o.z b hz
  · have q : b ≠ p := fun q => hh (q ▸ h)
    rw [upd_ne q]
    exact hf
/-- a new object, not frozen -/
theorem Ok.own (o : Ok W F H) {p : Addr} {u : HO} (h : H p = none) : Ok W F (upd H p u) ∧ Step W F H F (upd H p u) := by
  refine ⟨⟨fun a v e => ?_, fun b hz => ?_, W.stab _ _ _ _ o.inv (Same.refl _) (fun b v _ e => sm_new h b v e) fun b c q e => sm_new h b _ e⟩, Same.refl _, fun b v _ e => sm_new h b v e, fun b hf _ => hf⟩
  · exact sm_new h a v (o.sub a v e)
  · have q : b ≠ p := fun q => o.nz h (q ▸ hz)
    rw [upd_ne q]
    exact o.z b hz
/-- a list of one's own is frozen -/
theorem Ok.freeze (o : Ok W F H) {p : Addr} {u : HO} (h : H p = some u) (hz : ¬ W.Z p) (hf : F p = none) : Ok W (upd F p u) H := by
  refine ⟨fun a v e => ?_, fun b z => ?_, W.stab _ _ _ _ o.inv (sm_new hf) (fun b v _ e => e) fun b c q e => e⟩
  · by_cases q : a = p
    · rw [q, upd_same] at e
      rw [q, h]
      exact e
    · rw [upd_ne q] at e
      exact o.sub a v e
  · have q : b ≠ p := fun q => hz (q ▸ z)
    rw [upd_ne q]
    exact o.z b z
/-- an own list is changed -/
theorem code_lst {c : Addr} {q : Str} {xs : List V} : some (HO.lst xs) ≠ some (LamX.CodeO c q) := fun z => by
  have z := Option.some.inj z
  unfold LamX.CodeO at z
  cases z
theorem Ok.mut (o : Ok W F H) {p : Addr} {u' : HO} {xs : List V} (h : H p = some (.lst xs)) (hz : ¬ W.Z p) (hf : F p = none) : Ok W F (upd H p u') := by
  refine ⟨fun a v e => ?_, fun b z => ?_, W.stab _ _ _ _ o.inv (Same.refl _) (fun b v z e => by
    have q : b ≠ p := fun q => hz (q ▸ z)
    rw [upd_ne q]
    exact e) fun b c q e => by
    have n : b ≠ p := fun z => by
      rw [z, h] at e
      exact code_lst e
    rw [upd_ne n]
    exact e⟩
  · have q : a ≠ p := fun q => by rw [q, hf] at e; cases e
    rw [upd_ne q]
    exact o.sub a v e
  · have q : b ≠ p := fun q => hz (q ▸ z)
    rw [upd_ne q]
    exact o.z b z

theorem rd_mono {a : Addr} {u : HO} (e : Same H H') (h : Rd H a u) : Rd H' a u := by
  rcases h with h | ⟨o, h⟩
  · exact Or.inl (e a _ h)
  · exact Or.inr ⟨o, e a _ h⟩
theorem sql_mono {a : Addr} {xs : List V} (e : Same H H') (h : SqL K H a xs) : SqL K H' a xs := e.seq h
theorem sqt_mono {a : Addr} {xs : List V} (e : Same H H') (h : SqT K H a xs) : SqT K H' a xs := by
  rcases h with h | h
  · exact Or.inl (rd_mono e h)
  · exact Or.inr h
mutual
theorem dp_mono (e : Same H H') : ∀ {v : V} {d : D}, Dp K H v d → Dp K H' v d
  | _, _, .non => .non
  | _, _, .bl b => .bl b
  | _, _, .int i => .int i
  | _, _, .str x => .str x
  | _, _, .lst h a => .lst (e _ _ h) (dpa_mono e a)
  | _, _, .tup h a => .tup (rd_mono e h) (dpa_mono e a)
theorem dpa_mono (e : Same H H') : ∀ {vs : List V} {ds : List D}, DpAll K H vs ds → DpAll K H' vs ds
  | _, _, .nil => .nil
  | _, _, .cons h t => .cons (dp_mono e h) (dpa_mono e t)
end
theorem dpa_len : ∀ {vs : List V} {ds : List D}, DpAll K H vs ds → vs.length = ds.length
  | _, _, .nil => rfl
  | _, _, .cons h t => by rw [List.length_cons, List.length_cons, dpa_len t]
theorem dpa_get : ∀ {vs : List V} {ds : List D} {i : Nat} {v : V}, DpAll K H vs ds → vs[i]? = some v → ∃ d, ds[i]? = some d ∧ Dp K H v d
  | _, _, i, v, .nil, h => by simp at h
  | _, _, 0, v, .cons h t, e => by
    simp at e
    subst e
    exact ⟨_, rfl, h⟩
  | _, _, i + 1, v, .cons h t, e => by
    obtain ⟨d, h1, h2⟩ := dpa_get (i := i) (v := v) t (by simpa using e)
    exact ⟨d, by simpa using h1, h2⟩
theorem dpa_get' : ∀ {vs : List V} {ds : List D} {i : Nat} {d : D}, DpAll K H vs ds → ds[i]? = some d → ∃ v, vs[i]? = some v ∧ Dp K H v d
  | _, _, i, v, .nil, h => by simp at h
  | _, _, 0, v, .cons h t, e => by
    simp at e
    subst e
    exact ⟨_, rfl, h⟩
  | _, _, i + 1, v, .cons h t, e => by
    obtain ⟨d, h1, h2⟩ := dpa_get' (i := i) (d := v) t (by simpa using e)
    exact ⟨d, by simpa using h1, h2⟩
theorem dpa_app : ∀ {vs ws : List V} {ds es : List D}, DpAll K H vs ds → DpAll K H ws es → DpAll K H (vs ++ ws) (ds ++ es)
  | _, _, _, _, .nil, h => h
  | _, _, _, _, .cons h t, k => .cons h (dpa_app t k)
theorem dpa_take : ∀ {vs : List V} {ds : List D} (n : Nat), DpAll K H vs ds → DpAll K H (vs.take n) (ds.take n)
  | _, _, 0, _ => by rw [List.take_zero, List.take_zero]; exact .nil
  | _, _, n + 1, .nil => .nil
  | _, _, n + 1, .cons h t => .cons h (dpa_take n t)
theorem dpa_drop : ∀ {vs : List V} {ds : List D} (n : Nat), DpAll K H vs ds → DpAll K H (vs.drop n) (ds.drop n)
  | _, _, 0, h => h
  | _, _, n + 1, .nil => .nil
  | _, _, n + 1, .cons _ t => dpa_drop n t
theorem dpa_erase : ∀ {vs : List V} {ds : List D} (n : Nat), DpAll K H vs ds → DpAll K H (vs.eraseIdx n) (ds.eraseIdx n)
  | _, _, n, .nil => .nil
  | _, _, 0, .cons _ t => t
  | _, _, n + 1, .cons h t => .cons h (dpa_erase n t)
theorem dpa_rev {vs : List V} {ds : List D} (h : DpAll K H vs ds) : DpAll K H vs.reverse ds.reverse := by
  induction vs generalizing ds with
  | nil => cases h; exact .nil
  | cons v vs ih =>
    cases h with
    | cons a t =>
      rw [List.reverse_cons, List.reverse_cons]
      exact dpa_app (ih t) (.cons a .nil)

/-! ### what holds of values, of slots -/
def VOk (K : PySem.W.Frag) (W : Wd) (F H : Hp) (v : V) : Sl → Prop
  | .un => False
  | .dat d => Dp K F v d
  | .ls ds => ∃ p vs, v = .ref p ∧ H p = some (.lst vs) ∧ F p = none ∧ ¬ W.Z p ∧ DpAll K F vs ds
  | .rf u => v = u
  | .kn k => k.φ F v
  | .ow p k => v = .ref p ∧ ∃ u, H p = some u ∧ F p = none ∧ ¬ W.Z p ∧ k.φ F u
def SlOk (K : PySem.W.Frag) (W : Wd) (H0 : Hp) (σ : St) (F H : Hp) (i : Nat) : Sl → Prop
  | .un => True
  | .dat d => ∃ v, σ[i]? = some (some v) ∧ Dp K F v d
  | .ls ds => ∃ p vs, σ[i]? = some (some (.ref p)) ∧ H p = some (.lst vs) ∧ F p = none ∧ ¬ W.Z p ∧ H0 p = none ∧ DpAll K F vs ds
  | .rf u => σ[i]? = some (some u)
  | .kn k => ∃ v, σ[i]? = some (some v) ∧ k.φ F v
  | .ow p k => σ[i]? = some (some (.ref p)) ∧ ∃ u, H p = some u ∧ F p = none ∧ ¬ W.Z p ∧ H0 p = none ∧ k.φ F u
structure Holds (K : PySem.W.Frag) (W : Wd) (H0 : Hp) (σ : St) (F H : Hp) (ρ : Rho) : Prop where
  len : σ.length = ρ.length
  at_ : ∀ (i : Nat) (s : Sl), ρ[i]? = some s → SlOk K W H0 σ F H i s
  dis : ∀ (i j : Nat) (ds es : List D) (p : Addr), i ≠ j → ρ[i]? = some (.ls ds) → ρ[j]? = some (.ls es) → σ[i]? = some (some (.ref p)) → σ[j]? ≠ some (some (.ref p))
theorem SlOk.step {σ : St} {i : Nat} {s : Sl} (h : SlOk K W H0 σ F H i s) (st : Step W F H F' H') : SlOk K W H0 σ F' H' i s := by
  cases s with
  | un => trivial
  | dat d =>
    obtain ⟨v, h1, h2⟩ := h
    exact ⟨v, h1, dp_mono st.fz h2⟩
  | ls ds =>
    obtain ⟨p, vs, h1, h2, h3, h4, h5, h6⟩ := h
    exact ⟨p, vs, h1, st.kp _ _ h4 h2, st.nw p h3 (by rw [h2]; exact fun z => nomatch z), h4, h5, dpa_mono st.fz h6⟩
  | rf u => exact h
  | kn k =>
    obtain ⟨v, h1, h2⟩ := h
    exact ⟨v, h1, k.mono st.fz h2⟩
  | ow p k =>
    obtain ⟨h1, u, h2, h3, h4, h5, h6⟩ := h
    exact ⟨h1, u, st.kp _ _ h4 h2, st.nw p h3 (by rw [h2]; exact fun z => nomatch z), h4, h5, k.mono st.fz h6⟩
theorem Holds.step {σ : St} {ρ : Rho} (h : Holds K W H0 σ F H ρ) (st : Step W F H F' H') : Holds K W H0 σ F' H' ρ :=
  ⟨h.len, fun i s e => (h.at_ i s e).step st, h.dis⟩
theorem VOk.step {v : V} {s : Sl} (h : VOk K W F H v s) (st : Step W F H F' H') : VOk K W F' H' v s := by
  cases s with
  | un => exact h
  | dat d => exact dp_mono st.fz h
  | ls ds =>
    obtain ⟨p, vs, h1, h2, h3, h4, h6⟩ := h
    exact ⟨p, vs, h1, st.kp _ _ h4 h2, st.nw p h3 (by rw [h2]; exact fun z => nomatch z), h4, dpa_mono st.fz h6⟩
  | rf u => exact h
  | kn k => exact k.mono st.fz h
  | ow p k =>
    obtain ⟨h1, u, h2, h3, h4, h6⟩ := h
    exact ⟨h1, u, st.kp _ _ h4 h2, st.nw p h3 (by rw [h2]; exact fun z => nomatch z), h4, k.mono st.fz h6⟩
/-- no list of one's own is set -/
def NoLs : Sl → Prop
  | .ls _ => False
  | .ow _ _ => False
  | _ => True
theorem Holds.set {σ : St} {ρ : Rho} {i : Nat} {v : V} {s : Sl} (h : Holds K W H0 σ F H ρ) (hv : VOk K W F H v s) (hn : NoLs s) : Holds K W H0 (σ.set i (some v)) F H (ρ.set i s) := by
  have nls : ∀ (j : Nat) (ds : List D), (ρ.set i s)[j]? = some (.ls ds) → j ≠ i ∧ ρ[j]? = some (.ls ds) := fun j ds e => by
    by_cases q : j = i
    · subst q
      rw [List.getElem?_set_self' ] at e
      cases e1 : ρ[j]? with
      | none => rw [e1] at e; cases e
      | some u =>
        rw [e1] at e
        have e2 : s = .ls ds := by simpa using e
        rw [e2] at hn
        exact hn.elim
    · rw [List.getElem?_set_ne (Ne.symm q)] at e
      exact ⟨q, e⟩
  refine ⟨by rw [List.length_set, List.length_set, h.len], fun j u e => ?_, fun j k ds es p hjk e1 e2 e3 => ?_⟩
  · by_cases q : j = i
    · subst q
      have hj : j < ρ.length := by
        have := (List.getElem?_eq_some_iff.mp e).1
        rwa [List.length_set] at this
      rw [List.getElem?_set_self hj] at e
      have e' : s = u := by simpa using e
      subst e'
      have hs : (σ.set j (some v))[j]? = some (some v) := List.getElem?_set_self (by rw [h.len]; exact hj)
      cases s with
      | un => trivial
      | dat d => exact ⟨v, hs, hv⟩
      | ls ds => exact hn.elim
      | rf u => exact (show v = u from hv) ▸ hs
      | kn k => exact ⟨v, hs, hv⟩
      | ow p k => exact hn.elim
    · rw [List.getElem?_set_ne (Ne.symm q)] at e
      have g := h.at_ j u e
      have hs : (σ.set i (some v))[j]? = σ[j]? := List.getElem?_set_ne (Ne.symm q)
      cases u with
      | un => trivial
      | dat d => obtain ⟨w, g1, g2⟩ := g; exact ⟨w, hs.trans g1, g2⟩
      | ls ds => obtain ⟨p, vs, g1, g2⟩ := g; exact ⟨p, vs, hs.trans g1, g2⟩
      | rf u => exact hs.trans g
      | kn k => obtain ⟨w, g1, g2⟩ := g; exact ⟨w, hs.trans g1, g2⟩
      | ow p k => exact ⟨hs.trans g.1, g.2⟩
  · obtain ⟨a1, a2⟩ := nls j ds e1
    obtain ⟨b1, b2⟩ := nls k es e2
    rw [List.getElem?_set_ne (Ne.symm a1)] at e3
    rw [List.getElem?_set_ne (Ne.symm b1)]
    exact h.dis j k ds es p hjk a2 b2 e3
/-- a new list of one's own -/
theorem Holds.setOwn {σ : St} {ρ : Rho} {i : Nat} {p : Addr} {vs : List V} {ds : List D} (h : Holds K W H0 σ F H ρ) (hp : H p = some (.lst vs)) (hf : F p = none) (hz : ¬ W.Z p) (h0 : H0 p = none) (hd : DpAll K F vs ds)
    (hnew : ∀ (j : Nat) (es : List D), ρ[j]? = some (.ls es) → σ[j]? ≠ some (some (.ref p))) : Holds K W H0 (σ.set i (some (.ref p))) F H (ρ.set i (.ls ds)) := by
  have lsat : ∀ (j : Nat) (es : List D), (ρ.set i (.ls ds))[j]? = some (.ls es) → j ≠ i → ρ[j]? = some (.ls es) := fun j es e q => by
    rw [List.getElem?_set_ne (Ne.symm q)] at e
    exact e
  refine ⟨by rw [List.length_set, List.length_set, h.len], fun j u e => ?_, fun j k es gs q hjk e1 e2 e3 => ?_⟩
  · by_cases q : j = i
    · subst q
      have hj : j < ρ.length := by
        have := (List.getElem?_eq_some_iff.mp e).1
        rwa [List.length_set] at this
      rw [List.getElem?_set_self hj] at e
      have e' : Sl.ls ds = u := by simpa using e
      subst e'
      exact ⟨p, vs, List.getElem?_set_self (by rw [h.len]; exact hj), hp, hf, hz, h0, hd⟩
    · rw [List.getElem?_set_ne (Ne.symm q)] at e
      have g := h.at_ j u e
      have hs : (σ.set i (some (.ref p)))[j]? = σ[j]? := List.getElem?_set_ne (Ne.symm q)
      cases u with
      | un => trivial
      | dat d => obtain ⟨w, g1, g2⟩ := g; exact ⟨w, hs.trans g1, g2⟩
      | ls ds => obtain ⟨p, vs, g1, g2⟩ := g; exact ⟨p, vs, hs.trans g1, g2⟩
      | rf u => exact hs.trans g
      | kn k => obtain ⟨w, g1, g2⟩ := g; exact ⟨w, hs.trans g1, g2⟩
      | ow p k => exact ⟨hs.trans g.1, g.2⟩
  · have hi : ∀ (l : Nat) (ls : List D), (ρ.set i (.ls ds))[l]? = some (.ls ls) → l = i → l < σ.length := fun l ls e q => by
      have := (List.getElem?_eq_some_iff.mp e).1
      rw [List.length_set] at this
      rw [h.len]
      exact this
    by_cases qj : j = i
    · by_cases qk : k = i
      · exact absurd (qj.trans qk.symm) hjk
      · rw [List.getElem?_set_ne (Ne.symm qk)]
        rw [qj, List.getElem?_set_self (by rw [← qj]; exact hi j es e1 qj)] at e3
        have e4 : q = p := by simpa using e3.symm
        rw [e4]
        exact hnew k gs (lsat k gs e2 qk)
    · rw [List.getElem?_set_ne (Ne.symm qj)] at e3
      by_cases qk : k = i
      · rw [qk, List.getElem?_set_self (by rw [← qk]; exact hi k gs e2 qk)]
        intro z
        have e4 : p = q := by simpa using z
        exact hnew j es (lsat j es e1 qj) (e4 ▸ e3)
      · rw [List.getElem?_set_ne (Ne.symm qk)]
        exact h.dis j k es gs q hjk (lsat j es e1 qj) (lsat k gs e2 qk) e3
/-- the own list at slot i is changed -/
theorem Holds.mut {σ : St} {ρ : Rho} {i : Nat} {p : Addr} {vs : List V} {ds es : List D} (h : Holds K W H0 σ F H ρ) (hi : ρ[i]? = some (.ls ds)) (hs : σ[i]? = some (some (.ref p))) (hd : DpAll K F vs es) :
    Holds K W H0 σ F (upd H p (.lst vs)) (ρ.set i (.ls es)) := by
  have hlt : i < ρ.length := (List.getElem?_eq_some_iff.mp hi).1
  obtain ⟨p', ws, g1, g2, g3, g4, g5, g6⟩ := h.at_ i _ hi
  rw [hs] at g1
  have ep : p = p' := by simpa using g1
  subst ep
  have lsat : ∀ (j : Nat) (gs : List D), (ρ.set i (.ls es))[j]? = some (.ls gs) → ∃ gs' : List D, ρ[j]? = some (.ls gs') := fun j gs e => by
    by_cases q : j = i
    · exact ⟨ds, q ▸ hi⟩
    · rw [List.getElem?_set_ne (Ne.symm q)] at e
      exact ⟨gs, e⟩
  refine ⟨by rw [List.length_set, h.len], fun j u e => ?_, fun j k as bs q hjk e1 e2 e3 => ?_⟩
  · by_cases q : j = i
    · subst q
      rw [List.getElem?_set_self hlt] at e
      have e' : Sl.ls es = u := by simpa using e
      subst e'
      exact ⟨p, vs, hs, upd_same, g3, g4, g5, hd⟩
    · rw [List.getElem?_set_ne (Ne.symm q)] at e
      have g := h.at_ j u e
      cases u with
      | un => trivial
      | dat d => exact g
      | ls cs =>
        obtain ⟨r, xs, k1, k2, k3⟩ := g
        have hne : r ≠ p := fun z => h.dis i j _ _ p (Ne.symm q) hi e hs (z ▸ k1)
        exact ⟨r, xs, k1, (upd_ne hne).trans k2, k3⟩
      | rf u => exact g
      | kn k => exact g
      | ow r k =>
        obtain ⟨g1', u, k2, k3⟩ := g
        have hne : r ≠ p := fun z => by
          rw [z, g2] at k2
          cases k2
          obtain ⟨f, z⟩ := k.ext k3.2.2.2
          cases z
        exact ⟨g1', u, (upd_ne hne).trans k2, k3⟩
  · obtain ⟨as', a⟩ := lsat j as e1
    obtain ⟨bs', b⟩ := lsat k bs e2
    exact h.dis j k as' bs' q hjk a b e3
end

/-! ### the judgements -/
section
variable (K : PySem.W.Frag) (W : Wd) (H0 : Hp)
def Ev (te : TE) (ρ : Rho) (P : Sl → Prop) : Prop := ∀ σ F H, Ok W F H → Holds K W H0 σ F H ρ → ∀ Q : VK,
  (∀ v F' H' s, Ok W F' H' → Step W F H F' H' → VOk K W F' H' v s → P s → Q v H') → te σ H Q
/-- a new list -/
def EvN (te : TE) (ρ : Rho) (P : List D → Prop) : Prop := ∀ σ F H, Ok W F H → Holds K W H0 σ F H ρ → ∀ Q : VK,
  (∀ p vs F' H' ds, Ok W F' H' → Step W F H F' H' → H p = none → H' p = some (.lst vs) → F' p = none → ¬ W.Z p → DpAll K F' vs ds → P ds → Q (.ref p) H') → te σ H Q
def EvT (tt : TT) (ρ : Rho) (P : Bool → Prop) : Prop := ∀ σ F H, Ok W F H → Holds K W H0 σ F H ρ → ∀ Q : Bool → Hp → Prop,
  (∀ b F' H', Ok W F' H' → Step W F H F' H' → P b → Q b H') → tt σ H Q
/-- arguments -/
def EvA (ta : TA) (ρ : Rho) (P : List Sl → Prop) : Prop := ∀ σ F H, Ok W F H → Holds K W H0 σ F H ρ → ∀ Q : List V → Hp → Prop,
  (∀ vs F' H' ss, Ok W F' H' → Step W F H F' H' → Paired (VOk K W F' H') vs ss → P ss → Q vs H') → ta σ H Q
/-- a slice's part -/
def EvO (to : TO) (ρ : Rho) (P : Option Int → Prop) : Prop := ∀ σ F H, Ok W F H → Holds K W H0 σ F H ρ → ∀ Q : Option Int → Hp → Prop,
  (∀ o F' H', Ok W F' H' → Step W F H F' H' → P o → Q o H') → to σ H Q
/-- a statement; F0, H0: the def's entry -/
structure Ends2 where
  nx : Rho → Prop
  rt : Sl → Prop
  bk : Rho → Prop := fun _ => False
  ct : Rho → Prop := fun _ => False
structure At (F0 : Hp) (σ : St) (F H : Hp) (ρ : Rho) : Prop where
  ok : Ok W F H
  st : Step W F0 H0 F H
  ho : Holds K W H0 σ F H ρ
def Sx (F0 : Hp) (ts : TS) (ρ : Rho) (N : Ends2) : Prop := ∀ σ F H, At K W H0 F0 σ F H ρ → ∀ D : Ends,
  (∀ σ' F' H' ρ', At K W H0 F0 σ' F' H' ρ' → Same F F' → N.nx ρ' → D.nx σ' H') → (∀ v F' H' s, Ok W F' H' → Step W F0 H0 F' H' → VOk K W F' H' v s → N.rt s → D.rt v H') →
  (∀ σ' F' H' ρ', At K W H0 F0 σ' F' H' ρ' → Same F F' → N.bk ρ' → D.bk σ' H') → (∀ σ' F' H' ρ', At K W H0 F0 σ' F' H' ρ' → Same F F' → N.ct ρ' → D.ct σ' H') → ts D σ H
end

section
variable {K : PySem.W.Frag} {W : Wd} {H0 : Hp} {ρ : Rho} {te ta tb tc : TE} {tt tu : TT} {P P' : Sl → Prop} {r : R2}
theorem Ev.mono (h : Ev K W H0 te ρ P) (k : ∀ s, P s → P' s) : Ev K W H0 te ρ P' := fun σ F H o ho Q q => h σ F H o ho Q fun v F' H' s o' st hv p => q v F' H' s o' st hv (k s p)
theorem ev_var {i : Nat} {d : D} (h : ρ[i]? = some (.dat d)) (p : P (.dat d)) : Ev K W H0 (tVar i) ρ P := fun σ F H o ho Q q => by
  obtain ⟨v, h1, h2⟩ := ho.at_ i _ h
  exact ⟨v, h1, q v F H (.dat d) o (Step.refl o) h2 p⟩
theorem ev_own {i : Nat} {ds : List D} (h : ρ[i]? = some (.ls ds)) (p : P (.ls ds)) : Ev K W H0 (tVar i) ρ P := fun σ F H o ho Q q => by
  obtain ⟨a, vs, h1, h2, h3, h4, h5, h6⟩ := ho.at_ i _ h
  exact ⟨.ref a, h1, q (.ref a) F H (.ls ds) o (Step.refl o) ⟨a, vs, rfl, h2, h3, h4, h6⟩ p⟩
theorem ev_ref {i : Nat} {v : V} (h : ρ[i]? = some (.rf v)) (p : P (.rf v)) : Ev K W H0 (tVar i) ρ P := fun σ F H o ho Q q =>
  ⟨v, ho.at_ i _ h, q v F H (.rf v) o (Step.refl o) rfl p⟩
theorem ev_non (p : P (.dat .none)) : Ev K W H0 (tC .non) ρ P := fun σ F H o ho Q q => q .non F H (.dat .none) o (Step.refl o) .non p
theorem ev_bl {b : Bool} (p : P (.dat (.bool b))) : Ev K W H0 (tC (.bl b)) ρ P := fun σ F H o ho Q q => q (.bl b) F H (.dat (.bool b)) o (Step.refl o) (.bl b) p
theorem ev_int {i : Int} (p : P (.dat (.int i))) : Ev K W H0 (tC (.int i)) ρ P := fun σ F H o ho Q q => q (.int i) F H (.dat (.int i)) o (Step.refl o) (.int i) p
theorem ev_str {x : Str} (p : P (.dat (.str x))) : Ev K W H0 (tC (.str x)) ρ P := fun σ F H o ho Q q => q (.str x) F H (.dat (.str x)) o (Step.refl o) (.str x) p
theorem ev_c {v : V} (p : P (.rf v)) : Ev K W H0 (tC v) ρ P := fun σ F H o ho Q q => q v F H (.rf v) o (Step.refl o) rfl p

/-- what an operation does, by data: from values that are so to a value that is so -/
def OpS (K : PySem.W.Frag) (W : Wd) (r : R2) (s t : Sl) (P : Sl → Prop) : Prop := ∀ F H x y, Ok W F H → VOk K W F H x s → VOk K W F H y t → ∀ Q : VK,
  (∀ v F' H' u, Ok W F' H' → Step W F H F' H' → VOk K W F' H' v u → P u → Q v H') → r x y H Q
theorem ev_op (h : Ev K W H0 ta ρ fun s => Ev K W H0 tb ρ fun t => OpS K W r s t P) : Ev K W H0 (tOp r ta tb) ρ P := fun σ F H o ho Q q => by
  refine h σ F H o ho _ fun v F1 H1 s o1 st1 hv h1 => ?_
  refine h1 σ F1 H1 o1 (ho.step st1) _ fun u F2 H2 t o2 st2 hu h2 => ?_
  exact h2 F2 H2 v u o2 (hv.step st2) hu Q fun w F3 H3 z o3 st3 hw p => q w F3 H3 z o3 ((st1.trans o1 st2).trans o2 st3) hw p
def UnS (K : PySem.W.Frag) (W : Wd) (r : V → Hp → VK → Prop) (s : Sl) (P : Sl → Prop) : Prop := ∀ F H x, Ok W F H → VOk K W F H x s → ∀ Q : VK,
  (∀ v F' H' u, Ok W F' H' → Step W F H F' H' → VOk K W F' H' v u → P u → Q v H') → r x H Q
theorem ev_un {r : V → Hp → VK → Prop} (h : Ev K W H0 ta ρ fun s => UnS K W r s P) : Ev K W H0 (tUn r ta) ρ P := fun σ F H o ho Q q => by
  refine h σ F H o ho _ fun v F1 H1 s o1 st1 hv h1 => ?_
  exact h1 F1 H1 v o1 hv Q fun w F3 H3 z o3 st3 hw p => q w F3 H3 z o3 (st1.trans o1 st3) hw p
/-- a call of a built-in -/
def CaS (K : PySem.W.Frag) (W : Wd) (r : List V → Hp → VK → Prop) (ss : List Sl) (P : Sl → Prop) : Prop := ∀ F H xs, Ok W F H → Paired (VOk K W F H) xs ss → ∀ Q : VK,
  (∀ v F' H' u, Ok W F' H' → Step W F H F' H' → VOk K W F' H' v u → P u → Q v H') → r xs H Q
theorem ea_nil {P : List Sl → Prop} (p : P []) : EvA K W H0 tNil ρ P := fun σ F H o ho Q q => q [] F H [] o (Step.refl o) .nil p
theorem pvok_step {F H F' H' : Hp} (st : Step W F H F' H') : ∀ {vs : List V} {ss : List Sl}, Paired (VOk K W F H) vs ss → Paired (VOk K W F' H') vs ss
  | _, _, .nil => .nil
  | _, _, .cons h t => .cons (h.step st) (pvok_step st t)
theorem ea_cons {t : TA} {P : List Sl → Prop} (h : Ev K W H0 ta ρ fun s => EvA K W H0 t ρ fun ss => P (s :: ss)) : EvA K W H0 (tCons ta t) ρ P := fun σ F H o ho Q q => by
  refine h σ F H o ho _ fun v F1 H1 s o1 st1 hv h1 => ?_
  exact h1 σ F1 H1 o1 (ho.step st1) _ fun vs F2 H2 ss o2 st2 hvs p => q (v :: vs) F2 H2 (s :: ss) o2 (st1.trans o1 st2) (.cons (hv.step st2) hvs) p
theorem ev_cb {r : List V → Hp → VK → Prop} {t : TA} (h : EvA K W H0 t ρ fun ss => CaS K W r ss P) : Ev K W H0 (tCB r t) ρ P := fun σ F H o ho Q q => by
  refine h σ F H o ho _ fun vs F1 H1 ss o1 st1 hv h1 => ?_
  exact h1 F1 H1 vs o1 hv Q fun w F3 H3 z o3 st3 hw p => q w F3 H3 z o3 (st1.trans o1 st3) hw p
/-- a method of a built-in type -/
def MtS (K : PySem.W.Frag) (W : Wd) (r : V → List V → Hp → VK → Prop) (s : Sl) (ss : List Sl) (P : Sl → Prop) : Prop := ∀ F H x xs, Ok W F H → VOk K W F H x s → Paired (VOk K W F H) xs ss → ∀ Q : VK,
  (∀ v F' H' u, Ok W F' H' → Step W F H F' H' → VOk K W F' H' v u → P u → Q v H') → r x xs H Q
def TyS (K : PySem.W.Frag) (W : Wd) (T : String) (s : Sl) : Prop := ∀ F H x, Ok W F H → VOk K W F H x s → tyV K T x H
theorem ev_bm0 {T : String} {r : V → List V → Hp → VK → Prop} (h : Ev K W H0 ta ρ fun s => TyS K W T s ∧ MtS K W r s [] P) : Ev K W H0 (tBM0 K T r ta) ρ P := fun σ F H o ho Q q => by
  refine h σ F H o ho _ fun v F1 H1 s o1 st1 hv h1 => ?_
  exact ⟨h1.1 F1 H1 v o1 hv, h1.2 F1 H1 v [] o1 hv .nil Q fun w F3 H3 z o3 st3 hw p => q w F3 H3 z o3 (st1.trans o1 st3) hw p⟩
theorem ev_bm {T : String} {r : V → List V → Hp → VK → Prop} {t : TA} (h : Ev K W H0 ta ρ fun s => TyS K W T s ∧ EvA K W H0 t ρ fun ss => MtS K W r s ss P) : Ev K W H0 (tBM K T r ta t) ρ P := fun σ F H o ho Q q => by
  refine h σ F H o ho _ fun v F1 H1 s o1 st1 hv h1 => ?_
  refine ⟨h1.1 F1 H1 v o1 hv, h1.2 σ F1 H1 o1 (ho.step st1) _ fun vs F2 H2 ss o2 st2 hvs h2 => ?_⟩
  exact h2 F2 H2 v vs o2 (hv.step st2) hvs Q fun w F3 H3 z o3 st3 hw p => q w F3 H3 z o3 ((st1.trans o1 st2).trans o2 st3) hw p
/-- a new list, frozen at once -/
theorem ev_frz (h : EvN K W H0 te ρ fun ds => P (.dat (.list ds))) : Ev K W H0 te ρ P := fun σ F H o ho Q q => by
  refine h σ F H o ho _ fun p vs F1 H1 ds o1 st1 hn hp hf hz hd hP => ?_
  have o2 := o1.freeze hp hz hf
  have s2 : Same F1 (upd F1 p (.lst vs)) := sm_new hf
  refine q (.ref p) (upd F1 p (.lst vs)) H1 (.dat (.list ds)) o2 ⟨st1.fz.trans s2, st1.kp, fun b hb hh => ?_⟩ (.lst upd_same (dpa_mono s2 hd)) hP
  have hne : b ≠ p := fun z => hh (z ▸ hn)
  rw [upd_ne hne]
  exact st1.nw b hb hh
/-- ... as a list that may be read, not frozen -/
theorem ev_lsN (h : EvN K W H0 te ρ fun ds => P (.ls ds)) : Ev K W H0 te ρ P := fun σ F H o ho Q q => by
  refine h σ F H o ho _ fun p vs F1 H1 ds o1 st1 hn hp hf hz hd hP => ?_
  exact q (.ref p) F1 H1 (.ls ds) o1 st1 ⟨p, vs, rfl, hp, hf, hz, hd⟩ hP

end
end DL

namespace DL
open PySem L2 RZ
section
variable {K : PySem.W.Frag} {W : Wd} {H0 F0 : Hp} {ρ : Rho} {te ta tb tc : TE} {tt tu : TT} {P P' : Sl → Prop} {PB : Bool → Prop} {r r' : R2}
theorem dp_bool {F : Hp} {v : V} {b : Bool} (h : Dp K F v (.bool b)) : v = .bl b := by cases h; rfl
theorem dp_int {F : Hp} {v : V} {i : Int} (h : Dp K F v (.int i)) : v = .int i := by cases h; rfl
theorem dp_str {F : Hp} {v : V} {x : Str} (h : Dp K F v (.str x)) : v = .str x := by cases h; rfl
theorem dp_non {F : Hp} {v : V} (h : Dp K F v .none) : v = .non := by cases h; rfl
theorem dp_tup {F : Hp} {v : V} {ds : List D} (h : Dp K F v (.tuple ds)) : ∃ a xs, v = .ref a ∧ Rd F a (.tup xs) ∧ DpAll K F xs ds := by
  cases h with
  | tup h1 h2 => exact ⟨_, _, rfl, h1, h2⟩
theorem dp_lst {F : Hp} {v : V} {ds : List D} (h : Dp K F v (.list ds)) : ∃ a xs, v = .ref a ∧ F a = some (.lst xs) ∧ DpAll K F xs ds := by
  cases h with
  | lst h1 h2 => exact ⟨_, _, rfl, h1, h2⟩
theorem vok_bool {F H : Hp} {v : V} {b : Bool} (h : VOk K W F H v (.dat (.bool b))) : v = .bl b := dp_bool h
theorem vok_int {F H : Hp} {v : V} {i : Int} (h : VOk K W F H v (.dat (.int i))) : v = .int i := dp_int h
theorem vok_str {F H : Hp} {v : V} {x : Str} (h : VOk K W F H v (.dat (.str x))) : v = .str x := dp_str h
theorem EvT.mono {P' : Bool → Prop} (h : EvT K W H0 tt ρ PB) (k : ∀ b, PB b → P' b) : EvT K W H0 tt ρ P' := fun σ F H o ho Q q => h σ F H o ho Q fun b F' H' o' st p => q b F' H' o' st (k b p)
/-! ### tests -/
theorem et_B (h : Ev K W H0 te ρ fun s => ∃ b, s = .dat (.bool b) ∧ PB b) : EvT K W H0 (tB te) ρ PB := fun σ F H o ho Q q =>
  h σ F H o ho _ fun v F' H' s o' st hv ⟨b, e, p⟩ => by
    subst e
    exact ⟨b, vok_bool hv, q b F' H' o' st p⟩
theorem et_test (h : Ev K W H0 te ρ fun s => ∃ b, s = .dat (.bool b) ∧ PB b) : EvT K W H0 (tTest te) ρ PB := fun σ F H o ho Q q =>
  h σ F H o ho _ fun v F' H' s o' st hv ⟨b, e, p⟩ => by
    subst e
    exact ⟨b, vok_bool hv, q b F' H' o' st p⟩
theorem et_and (h : EvT K W H0 tt ρ fun c => if c = true then EvT K W H0 tu ρ PB else PB false) : EvT K W H0 (tAnd tt tu) ρ PB := fun σ F H o ho Q q =>
  h σ F H o ho _ fun c F1 H1 o1 st1 p => by
    cases c with
    | true => exact p σ F1 H1 o1 (ho.step st1) Q fun b F2 H2 o2 st2 p2 => q b F2 H2 o2 (st1.trans o1 st2) p2
    | false => exact q false F1 H1 o1 st1 p
theorem et_or (h : EvT K W H0 tt ρ fun c => if c = true then PB true else EvT K W H0 tu ρ PB) : EvT K W H0 (tOr tt tu) ρ PB := fun σ F H o ho Q q =>
  h σ F H o ho _ fun c F1 H1 o1 st1 p => by
    cases c with
    | false => exact p σ F1 H1 o1 (ho.step st1) Q fun b F2 H2 o2 st2 p2 => q b F2 H2 o2 (st1.trans o1 st2) p2
    | true => exact q true F1 H1 o1 st1 p
theorem et_not (h : EvT K W H0 tt ρ fun c => PB (!c)) : EvT K W H0 (tNot tt) ρ PB := fun σ F H o ho Q q =>
  h σ F H o ho _ fun c F1 H1 o1 st1 p => q (!c) F1 H1 o1 st1 p
theorem et_yes (p : PB true) : EvT K W H0 tYes ρ PB := fun σ F H o ho Q q => q true F H o (Step.refl o) p
theorem ev_and (h : Ev K W H0 ta ρ fun s => ∃ c, s = .dat (.bool c) ∧ if c = true then Ev K W H0 tb ρ P else P (.dat (.bool false))) : Ev K W H0 (tAndV ta tb) ρ P := fun σ F H o ho Q q =>
  h σ F H o ho _ fun v F1 H1 s o1 st1 hv ⟨c, e, p⟩ => by
    subst e
    refine ⟨c, vok_bool hv, ?_⟩
    cases c with
    | true => exact p σ F1 H1 o1 (ho.step st1) Q fun w F2 H2 s o2 st2 hw p2 => q w F2 H2 s o2 (st1.trans o1 st2) hw p2
    | false => exact q (.bl false) F1 H1 (.dat (.bool false)) o1 st1 (.bl false) p
theorem ev_or (h : Ev K W H0 ta ρ fun s => ∃ c, s = .dat (.bool c) ∧ if c = true then P (.dat (.bool true)) else Ev K W H0 tb ρ P) : Ev K W H0 (tOrV ta tb) ρ P := fun σ F H o ho Q q =>
  h σ F H o ho _ fun v F1 H1 s o1 st1 hv ⟨c, e, p⟩ => by
    subst e
    refine ⟨c, vok_bool hv, ?_⟩
    cases c with
    | false => exact p σ F1 H1 o1 (ho.step st1) Q fun w F2 H2 s o2 st2 hw p2 => q w F2 H2 s o2 (st1.trans o1 st2) hw p2
    | true => exact q (.bl true) F1 H1 (.dat (.bool true)) o1 st1 (.bl true) p
theorem ev_not (h : Ev K W H0 ta ρ fun s => ∃ c, s = .dat (.bool c) ∧ P (.dat (.bool (!c)))) : Ev K W H0 (tNotV ta) ρ P := fun σ F H o ho Q q =>
  h σ F H o ho _ fun v F1 H1 s o1 st1 hv ⟨c, e, p⟩ => by
    subst e
    exact ⟨c, vok_bool hv, q (.bl (!c)) F1 H1 (.dat (.bool (!c))) o1 st1 (.bl _) p⟩
theorem ev_if (h : EvT K W H0 tt ρ fun c => if c = true then Ev K W H0 ta ρ P else Ev K W H0 tb ρ P) : Ev K W H0 (tIf tt ta tb) ρ P := fun σ F H o ho Q q =>
  h σ F H o ho _ fun c F1 H1 o1 st1 p => by
    cases c with
    | true => exact p σ F1 H1 o1 (ho.step st1) Q fun w F2 H2 s o2 st2 hw p2 => q w F2 H2 s o2 (st1.trans o1 st2) hw p2
    | false => exact p σ F1 H1 o1 (ho.step st1) Q fun w F2 H2 s o2 st2 hw p2 => q w F2 H2 s o2 (st1.trans o1 st2) hw p2
theorem OpS.mono {s t : Sl} (h : OpS K W r s t P) (k : ∀ s, P s → P' s) : OpS K W r s t P' := fun F H x y o hx hy Q q => h F H x y o hx hy Q fun v F' H' u o' st hv p => q v F' H' u o' st hv (k u p)
/-- a < b < c -/
theorem ev_chain (h : Ev K W H0 ta ρ fun s => Ev K W H0 tb ρ fun t => OpS K W r s t fun u => ∃ c, u = .dat (.bool c) ∧ if c = true then Ev K W H0 tc ρ (fun w => OpS K W r' t w P) else P (.dat (.bool false))) : Ev K W H0 (tChain r r' ta tb tc) ρ P := fun σ F H o ho Q q => by
  refine h σ F H o ho _ fun v F1 H1 s o1 st1 hv h1 => ?_
  refine h1 σ F1 H1 o1 (ho.step st1) _ fun u F2 H2 t o2 st2 hu h2 => ?_
  refine h2 F2 H2 v u o2 (hv.step st2) hu _ fun w F3 H3 z o3 st3 hw ⟨c, e, p⟩ => ?_
  subst e
  refine ⟨c, vok_bool hw, ?_⟩
  have st13 := (st1.trans o1 st2).trans o2 st3
  cases c with
  | true =>
    refine p σ F3 H3 o3 (ho.step st13) _ fun y F4 H4 s4 o4 st4 hy h4 => ?_
    exact h4 F4 H4 u y o4 ((hu.step st3).step st4) hy Q fun w5 F5 H5 s5 o5 st5 h5 p5 => q w5 F5 H5 s5 o5 ((st13.trans o3 st4).trans o4 st5) h5 p5
  | false => exact q (.bl false) F3 H3 (.dat (.bool false)) o3 st13 (.bl false) p
/-- displays -/
def allDat : List Sl → Option (List D)
  | [] => some []
  | .dat d :: ss => (allDat ss).map (d :: ·)
  | _ :: _ => none
theorem dpa_of {F H : Hp} : ∀ {vs : List V} {ss : List Sl} {ds : List D}, Paired (VOk K W F H) vs ss → allDat ss = some ds → DpAll K F vs ds
  | _, _, ds, .nil, e => by cases e; exact .nil
  | _, _, ds, .cons (b := s) h t, e => by
    cases s with
    | dat d =>
      unfold allDat at e
      rename_i vs v ss
      cases e2 : allDat ss with
      | none => rw [e2] at e; cases e
      | some es =>
        rw [e2] at e
        cases e
        exact .cons h (dpa_of t e2)
    | un => cases e
    | ls _ => cases e
    | rf _ => cases e
    | kn _ => cases e
    | ow _ _ => cases e
theorem allDat_len : ∀ {ss : List Sl} {ds : List D}, allDat ss = some ds → ss.length = ds.length
  | [], ds, e => by cases e; rfl
  | s :: ss, ds, e => by
    cases s with
    | dat d =>
      unfold allDat at e
      cases e2 : allDat ss with
      | none => rw [e2] at e; cases e
      | some es =>
        rw [e2] at e
        cases e
        rw [List.length_cons, List.length_cons, allDat_len e2]
    | un => cases e
    | ls _ => cases e
    | rf _ => cases e
    | kn _ => cases e
    | ow _ _ => cases e
theorem ev_tup {t : TA} (h : EvA K W H0 t ρ fun ss => ∃ ds, allDat ss = some ds ∧ ds.length ≤ sizeLine ∧ P (.dat (.tuple ds))) : Ev K W H0 (tTup t) ρ P := fun σ F H o ho Q q =>
  h σ F H o ho _ fun vs F1 H1 ss o1 st1 hv ⟨ds, e, hl, p⟩ => by
    have hd := dpa_of hv e
    refine ⟨by rw [dpa_len hd]; exact hl, fun a ha => ?_⟩
    obtain ⟨o2, st2⟩ := o1.new (u := .tup vs) ha
    exact q (.ref a) _ _ (.dat (.tuple ds)) o2 (st1.trans o1 st2) (.tup (.inl upd_same) (dpa_mono st2.fz hd)) p
theorem evn_lst {t : TA} {PN : List D → Prop} (h : EvA K W H0 t ρ fun ss => ∃ ds, allDat ss = some ds ∧ ds.length ≤ sizeLine ∧ PN ds) : EvN K W H0 (tLst t) ρ PN := fun σ F H o ho Q q =>
  h σ F H o ho _ fun vs F1 H1 ss o1 st1 hv ⟨ds, e, hl, p⟩ => by
    have hd := dpa_of hv e
    refine ⟨by rw [dpa_len hd]; exact hl, fun a ha => ?_⟩
    obtain ⟨o2, st2⟩ := o1.own (u := .lst vs) ha
    have hH : H a = none := by
      cases z : H a with
      | none => rfl
      | some u => exact absurd ha (st1.there o1 (by rw [z]; exact fun y => nomatch y))
    exact q a vs _ _ ds o2 (st1.trans o1 st2) hH upd_same (o1.free ha) (o1.nz ha) hd p

/-! ### statements -/
variable {N : Ends2} {t u : TS}
theorem Step.back {F H F' H' : Hp} (st : Step W F H F' H') (o : Ok W F' H') {a : Addr} (h : H' a = none) : H a = none := by
  cases z : H a with
  | none => rfl
  | some u => exact absurd h (st.there o (by rw [z]; exact fun y => nomatch y))
theorem At.step {σ : St} {F H F' H' : Hp} (a : At K W H0 F0 σ F H ρ) (o : Ok W F' H') (st : Step W F H F' H') : At K W H0 F0 σ F' H' ρ := ⟨o, a.st.trans a.ok st, a.ho.step st⟩
theorem sx_seq (h : Sx K W H0 F0 t ρ { N with nx := fun ρ' => Sx K W H0 F0 u ρ' N }) : Sx K W H0 F0 (tSeq t u) ρ N := fun σ F H a D n r b c =>
  h σ F H a { D with nx := u D } (fun σ' F' H' ρ' a' sm k => k σ' F' H' a' D (fun σ2 F2 H2 ρ2 a2 sm2 => n σ2 F2 H2 ρ2 a2 (sm.trans sm2)) r (fun σ2 F2 H2 ρ2 a2 sm2 => b σ2 F2 H2 ρ2 a2 (sm.trans sm2)) (fun σ2 F2 H2 ρ2 a2 sm2 => c σ2 F2 H2 ρ2 a2 (sm.trans sm2))) r b c
theorem sx_next (h : N.nx ρ) : Sx K W H0 F0 tNext ρ N := fun σ F H a D n r b c => n σ F H ρ a (Same.refl _) h
theorem sx_ret (h : Ev K W H0 te ρ N.rt) : Sx K W H0 F0 (tRet te) ρ N := fun σ F H a D n r b c =>
  h σ F H a.ok a.ho _ fun v F' H' s o' st hv p => r v F' H' s o' (a.st.trans a.ok st) hv p
theorem sx_retN (h : N.rt (.dat .none)) : Sx K W H0 F0 tRetN ρ N := fun σ F H a D n r b c => r .non F H (.dat .none) a.ok a.st .non h
theorem sx_if (h : EvT K W H0 tt ρ fun c => if c = true then Sx K W H0 F0 t ρ N else Sx K W H0 F0 u ρ N) : Sx K W H0 F0 (tIfS tt t u) ρ N := fun σ F H a D n r b c =>
  h σ F H a.ok a.ho _ fun k F' H' o' st p => by
    cases k with
    | true => exact p σ F' H' (a.step o' st) D (fun σ2 F2 H2 ρ2 a2 sm2 => n σ2 F2 H2 ρ2 a2 (st.fz.trans sm2)) r (fun σ2 F2 H2 ρ2 a2 sm2 => b σ2 F2 H2 ρ2 a2 (st.fz.trans sm2)) (fun σ2 F2 H2 ρ2 a2 sm2 => c σ2 F2 H2 ρ2 a2 (st.fz.trans sm2))
    | false => exact p σ F' H' (a.step o' st) D (fun σ2 F2 H2 ρ2 a2 sm2 => n σ2 F2 H2 ρ2 a2 (st.fz.trans sm2)) r (fun σ2 F2 H2 ρ2 a2 sm2 => b σ2 F2 H2 ρ2 a2 (st.fz.trans sm2)) (fun σ2 F2 H2 ρ2 a2 sm2 => c σ2 F2 H2 ρ2 a2 (st.fz.trans sm2))
theorem sx_drop (h : Ev K W H0 te ρ fun _ => N.nx ρ) : Sx K W H0 F0 (tDrop te) ρ N := fun σ F H a D n r b c =>
  h σ F H a.ok a.ho _ fun v F' H' s o' st hv p => n σ F' H' ρ (a.step o' st) st.fz p
theorem sx_brk (h : N.bk ρ) : Sx K W H0 F0 tBreak ρ N := fun σ F H a D n r b c => b σ F H ρ a (Same.refl _) h
theorem sx_cont (h : N.ct ρ) : Sx K W H0 F0 tCont ρ N := fun σ F H a D n r b c => c σ F H ρ a (Same.refl _) h
/-- targets -/
def GS (K : PySem.W.Frag) (W : Wd) (H0 F0 : Hp) (g : TG) (s : Sl) (ρ : Rho) (k : Rho → Prop) : Prop := ∀ v σ F H, At K W H0 F0 σ F H ρ → VOk K W F H v s → ∀ Q : St → Hp → Prop,
  (∀ σ' ρ', At K W H0 F0 σ' F H ρ' → k ρ' → Q σ' H) → g v σ H Q
def GSs (K : PySem.W.Frag) (W : Wd) (H0 F0 : Hp) (g : TGs) (ss : List D) (ρ : Rho) (k : Rho → Prop) : Prop := ∀ vs σ F H, At K W H0 F0 σ F H ρ → DpAll K F vs ss → ∀ Q : St → Hp → Prop,
  (∀ σ' ρ', At K W H0 F0 σ' F H ρ' → k ρ' → Q σ' H) → g vs σ H Q
theorem gs_name {i : Nat} {s : Sl} {k : Rho → Prop} (hn : NoLs s) (h : k (ρ.set i s)) : GS K W H0 F0 (gName i) s ρ k := fun v σ F H a hv Q q =>
  q (σ.set i (some v)) (ρ.set i s) ⟨a.ok, a.st, a.ho.set hv hn⟩ h
theorem gss_nil {k : Rho → Prop} (h : k ρ) : GSs K W H0 F0 gNil [] ρ k := fun vs σ F H a hv Q q => by
  cases hv
  exact ⟨rfl, q σ ρ a h⟩
theorem gss_cons {g : TG} {gs : TGs} {d : D} {ds : List D} {k : Rho → Prop} (h : GS K W H0 F0 g (.dat d) ρ fun ρ' => GSs K W H0 F0 gs ds ρ' k) : GSs K W H0 F0 (gCons g gs) (d :: ds) ρ k := fun vs σ F H a hv Q q => by
  cases hv with
  | cons h1 h2 => exact ⟨_, _, rfl, h _ σ F H a h1 _ fun σ' ρ' a' p => p _ σ' F H a' h2 Q q⟩
theorem gs_tup {n : Nat} {gs : TGs} {ds : List D} {k : Rho → Prop} (hl : ds.length = n) (h : GSs K W H0 F0 gs ds ρ k) : GS K W H0 F0 (gTup K n gs) (.dat (.tuple ds)) ρ k := fun v σ F H a hv Q q => by
  obtain ⟨p, xs, rfl, h1, h2⟩ := dp_tup hv
  exact ⟨p, xs, rfl, Or.inl (rd_mono a.ok.sub h1), by rw [dpa_len h2]; exact hl, h xs σ F H a h2 Q q⟩
theorem sx_asgG {g : TG} (h : Ev K W H0 te ρ fun s => GS K W H0 F0 g s ρ N.nx) : Sx K W H0 F0 (tAsg te g) ρ N := fun σ F H a D n r b c =>
  h σ F H a.ok a.ho _ fun v F' H' s o' st hv p => p v σ F' H' (a.step o' st) hv _ fun σ' ρ' a' k => n σ' F' H' ρ' a' st.fz k
theorem sx_asg {i : Nat} (h : Ev K W H0 te ρ fun s => NoLs s ∧ N.nx (ρ.set i s)) : Sx K W H0 F0 (tAsg te (gName i)) ρ N := sx_asgG (h.mono fun s ⟨a, b⟩ => gs_name a b)
/-- x = a new list, to be changed -/
theorem sx_asgN {i : Nat} (h : EvN K W H0 te ρ fun ds => N.nx (ρ.set i (.ls ds))) : Sx K W H0 F0 (tAsg te (gName i)) ρ N := fun σ F H a D n r b c =>
  h σ F H a.ok a.ho _ fun p vs F' H' ds o' st hn hp hf hz hd k => by
    have a' := a.step o' st
    have h0 : H0 p = none := a.st.back a.ok hn
    refine n _ F' H' _ ⟨o', a'.st, a'.ho.setOwn hp hf hz h0 hd fun j es e z => ?_⟩ st.fz k
    obtain ⟨p', ws, g1, g2, _⟩ := a.ho.at_ j _ e
    rw [z] at g1
    have ep : p = p' := by simpa using g1
    rw [ep, g2] at hn
    cases hn
/-- xs.append(e), xs one's own -/
theorem sx_app {i : Nat} {ds : List D} (hi : ρ[i]? = some (.ls ds)) (hz : ds.length < sizeLine) (h : Ev K W H0 te ρ fun s => ∃ d, s = .dat d ∧ N.nx (ρ.set i (.ls (ds ++ [d])))) :
    Sx K W H0 F0 (tDrop (tBM K "list" rAppend (tVar i) (tCons te tNil))) ρ N := fun σ F H a D n r b c => by
  obtain ⟨p, vs, g1, g2, g3, g4, g5, g6⟩ := a.ho.at_ i _ hi
  refine ⟨.ref p, g1, .inl ⟨rfl, _, SqL.of g2⟩, ?_⟩
  refine h σ F H a.ok a.ho _ fun v F' H' s o' st hv ⟨d, e, k⟩ => ?_
  subst e
  have g2' := st.kp p _ g4 g2
  have g3' := st.nw p g3 (by rw [g2]; exact fun z => nomatch z)
  refine ⟨p, vs, v, rfl, rfl, g2', by rw [dpa_len g6]; exact hz, ?_⟩
  have a' := a.step o' st
  have o2 : Ok W F' (upd H' p (.lst (vs ++ [v]))) := o'.mut g2' g4 g3'
  refine n σ F' _ _ ⟨o2, ⟨a'.st.fz, fun b' u hz' e' => ?_, fun b' hf hh => ?_⟩, a'.ho.mut hi g1 (dpa_app (dpa_mono st.fz g6) (.cons hv .nil))⟩ st.fz k
  · have q : b' ≠ p := fun z => by rw [z, g5] at e'; cases e'
    rw [upd_ne q]
    exact a'.st.kp b' u hz' e'
  · exact a'.st.nw b' hf hh
/-- an own list is changed no more -/
theorem sx_frz {i : Nat} {ds : List D} (hi : ρ[i]? = some (.ls ds)) (h : Sx K W H0 F0 t (ρ.set i (.dat (.list ds))) N) : Sx K W H0 F0 t ρ N := fun σ F H a D n r b c => by
  obtain ⟨p, vs, g1, g2, g3, g4, g5, g6⟩ := a.ho.at_ i _ hi
  have o2 := a.ok.freeze g2 g4 g3
  have s2 : Same F (upd F p (.lst vs)) := sm_new g3
  have st2 : Step W F0 H0 (upd F p (.lst vs)) H := ⟨a.st.fz.trans s2, a.st.kp, fun b' hf hh => by
    have q : b' ≠ p := fun z => hh (z ▸ g5)
    rw [upd_ne q]
    exact a.st.nw b' hf hh⟩
  refine h σ _ H ⟨o2, st2, ?_⟩ D (fun σ2 F2 H2 ρ2 a2 sm2 => n σ2 F2 H2 ρ2 a2 (s2.trans sm2)) r (fun σ2 F2 H2 ρ2 a2 sm2 => b σ2 F2 H2 ρ2 a2 (s2.trans sm2)) (fun σ2 F2 H2 ρ2 a2 sm2 => c σ2 F2 H2 ρ2 a2 (s2.trans sm2))
  have hlt : i < ρ.length := (List.getElem?_eq_some_iff.mp hi).1
  refine ⟨by rw [List.length_set, a.ho.len], fun j s e => ?_, fun j k es gs q hjk e1 e2 e3 => ?_⟩
  · by_cases q : j = i
    · subst q
      rw [List.getElem?_set_self hlt] at e
      have e' : Sl.dat (.list ds) = s := by simpa using e
      subst e'
      exact ⟨.ref p, g1, .lst upd_same (dpa_mono s2 g6)⟩
    · rw [List.getElem?_set_ne (Ne.symm q)] at e
      have g := a.ho.at_ j s e
      cases s with
      | un => trivial
      | dat d =>
        obtain ⟨v, k1, k2⟩ := g
        exact ⟨v, k1, dp_mono s2 k2⟩
      | ls cs =>
        obtain ⟨r', xs, k1, k2, k3, k4, k5, k6⟩ := g
        have hne : r' ≠ p := fun z => a.ho.dis i j _ _ p (Ne.symm q) hi e g1 (z ▸ k1)
        exact ⟨r', xs, k1, k2, by rw [upd_ne hne]; exact k3, k4, k5, dpa_mono s2 k6⟩
      | rf v => exact g
      | kn k =>
        obtain ⟨v, k1, k2⟩ := g
        exact ⟨v, k1, k.mono s2 k2⟩
      | ow r k =>
        obtain ⟨k1, u, k2, k3, k4, k5, k6⟩ := g
        have hne : r ≠ p := fun z => by
          rw [z, g2] at k2
          cases k2
          obtain ⟨f, z⟩ := k.ext k6
          cases z
        exact ⟨k1, u, k2, by rw [upd_ne hne]; exact k3, k4, k5, k.mono s2 k6⟩
  · have qj : j ≠ i := fun z => by
      rw [z, List.getElem?_set_self hlt] at e1
      cases e1
    have qk : k ≠ i := fun z => by
      rw [z, List.getElem?_set_self hlt] at e2
      cases e2
    rw [List.getElem?_set_ne (Ne.symm qj)] at e1
    rw [List.getElem?_set_ne (Ne.symm qk)] at e2
    exact a.ho.dis j k es gs q hjk e1 e2 e3
theorem Sx.mono {N' : Ends2} (h : Sx K W H0 F0 t ρ N) (hn : ∀ ρ', N.nx ρ' → N'.nx ρ') (hr : ∀ s, N.rt s → N'.rt s) (hb : ∀ ρ', N.bk ρ' → N'.bk ρ') (hc : ∀ ρ', N.ct ρ' → N'.ct ρ') : Sx K W H0 F0 t ρ N' := fun σ F H a D n r b c =>
  h σ F H a D (fun σ' F' H' ρ' a' sm k => n σ' F' H' ρ' a' sm (hn _ k)) (fun v F' H' s o st hv k => r v F' H' s o st hv (hr _ k)) (fun σ' F' H' ρ' a' sm k => b σ' F' H' ρ' a' sm (hb _ k)) (fun σ' F' H' ρ' a' sm k => c σ' F' H' ρ' a' sm (hc _ k))

/-! ### what is walked -/
/-- the items of a walk, by data -/
structure Items (K : PySem.W.Frag) (W : Wd) (J : It) (F H : Hp) (ds : List D) : Prop where
  w : ∃ (G : Hp → Prop) (Y : Nat → Hp → V → Hp → Prop), Walk J ds.length G Y ∧ (∀ F' H', Ok W F' H' → Same F F' → G H') ∧
    (∀ i x F' H' H'', i < ds.length → Ok W F' H' → Same F F' → Y i H' x H'' → ∃ F'' d, Ok W F'' H'' ∧ Step W F' H' F'' H'' ∧ ds[i]? = some d ∧ Dp K F'' x d)
def EvI (K : PySem.W.Frag) (W : Wd) (H0 : Hp) (wi : TI) (ρ : Rho) (P : List D → Prop) : Prop := ∀ σ F H, Ok W F H → Holds K W H0 σ F H ρ → ∀ R : It → Hp → Prop,
  (∀ J F' H' ds, Ok W F' H' → Step W F H F' H' → Items K W J F' H' ds → P ds → R J H') → wi σ H R
theorem get_len {α : Type} {l : List α} {i : Nat} (h : i < l.length) : l[i]? = some l[i] := List.getElem?_eq_getElem h
theorem evi_list {tl : TE} {PN : List D → Prop} (h : Ev K W H0 tl ρ fun s => ∃ ds, s = .dat (.list ds) ∧ PN ds) : EvI K W H0 (iList K tl) ρ PN := fun σ F H o ho R q =>
  h σ F H o ho _ fun v F' H' s o' st hv ⟨ds, e, p⟩ => by
    subst e
    obtain ⟨a, xs, rfl, h1, h2⟩ := dp_lst hv
    refine ⟨a, rfl, ⟨xs, SqL.of (o'.sub _ _ h1)⟩, q _ F' H' ds o' st ⟨_, _, (dpa_len h2) ▸ walk_list (K := K) (a := a) (xs := xs), fun F2 H2 o2 st2 => SqL.of ((st2.trans o2.sub) _ _ h1), fun i x F2 H2 H3 hi o2 st2 y => ?_⟩ p⟩
    obtain ⟨rfl, hx⟩ := y
    obtain ⟨d, e1, e2⟩ := dpa_get h2 hx
    exact ⟨F2, d, o2, Step.refl o2, e1, dp_mono st2 e2⟩
theorem evi_tup {tl : TE} {PN : List D → Prop} (h : Ev K W H0 tl ρ fun s => ∃ ds, s = .dat (.tuple ds) ∧ PN ds) : EvI K W H0 (iTup K tl) ρ PN := fun σ F H o ho R q =>
  h σ F H o ho _ fun v F' H' s o' st hv ⟨ds, e, p⟩ => by
    subst e
    obtain ⟨a, xs, rfl, h1, h2⟩ := dp_tup hv
    refine ⟨a, rfl, ⟨xs, Or.inl (rd_mono o'.sub h1)⟩, q _ F' H' ds o' st ⟨_, _, (dpa_len h2) ▸ walk_tup (K := K) (a := a) (xs := xs), fun F2 H2 o2 st2 => Or.inl (rd_mono (st2.trans o2.sub) h1), fun i x F2 H2 H3 hi o2 st2 y => ?_⟩ p⟩
    obtain ⟨rfl, hx⟩ := y
    obtain ⟨d, e1, e2⟩ := dpa_get h2 hx
    exact ⟨F2, d, o2, Step.refl o2, e1, dp_mono st2 e2⟩
def rngD (lo : Int) (n : Nat) : List D := (List.range n).map fun i => .int (lo + (i : Nat))
theorem rngD_len (lo : Int) (n : Nat) : (rngD lo n).length = n := by simp [rngD]
theorem rngD_get {lo : Int} {n i : Nat} (h : i < n) : (rngD lo n)[i]? = some (.int (lo + (i : Nat))) := by simp [rngD, h]
def strD (z : Str) : List D := z.cps.toList.map fun c => .str ⟨#[c]⟩
theorem evi_str {te : TE} {PN : List D → Prop} (h : Ev K W H0 te ρ fun s => ∃ z, s = .dat (.str z) ∧ PN (strD z)) : EvI K W H0 (iStr te) ρ PN := fun σ F H o ho R q =>
  h σ F H o ho _ fun v F' H' s o' st hv ⟨z, e, p⟩ => by
    subst e
    have hl : (strD z).length = z.cps.size := by simp [strD]
    refine ⟨z, vok_str hv, q _ F' H' (strD z) o' st ⟨_, _, hl.symm ▸ walk_str (z := z), fun _ _ _ _ => trivial, fun i x F2 H2 H3 hi o2 st2 y => ?_⟩ p⟩
    obtain ⟨rfl, c, hc, rfl⟩ := y
    refine ⟨F2, .str ⟨#[c]⟩, o2, Step.refl o2, ?_, .str _⟩
    rw [hl] at hi
    simp [strD]
    rw [Array.getElem?_eq_getElem hi] at hc
    simpa [hi] using hc
theorem evi_rng1 {ta : TA} {PN : List D → Prop} (h : EvA K W H0 ta ρ fun ss => ∃ n : Int, ss = [.dat (.int n)] ∧ -(2 ^ 62) ≤ n ∧ n < 2 ^ 62 ∧ PN (rngD 0 n.toNat)) : EvI K W H0 (iRng1 ta) ρ PN := fun σ F H o ho R q =>
  h σ F H o ho _ fun vs F' H' ss o' st hv ⟨n, e, b1, b2, p⟩ => by
    subst e
    cases hv with
    | cons h1 h2 =>
      cases h2
      rw [vok_int h1]
      refine ⟨n, rfl, b1, b2, q _ F' H' (rngD 0 n.toNat) o' st ⟨_, _, (by rw [rngD_len]; exact walk_range (lo := 0)), fun _ _ _ _ => trivial, fun i x F2 H2 H3 hi o2 st2 y => ?_⟩ p⟩
      rw [rngD_len] at hi
      obtain ⟨rfl, rfl⟩ := y
      exact ⟨F2, _, o2, Step.refl o2, rngD_get hi, .int _⟩
theorem evi_rng2 {ta : TA} {PN : List D → Prop} (h : EvA K W H0 ta ρ fun ss => ∃ m n : Int, ss = [.dat (.int m), .dat (.int n)] ∧ (-(2 ^ 62) ≤ m ∧ m < 2 ^ 62 ∧ -(2 ^ 62) ≤ n ∧ n < 2 ^ 62) ∧ PN (rngD m (n - m).toNat)) : EvI K W H0 (iRng2 ta) ρ PN := fun σ F H o ho R q =>
  h σ F H o ho _ fun vs F' H' ss o' st hv ⟨m, n, e, b, p⟩ => by
    subst e
    cases hv with
    | cons h1 h2 =>
      cases h2 with
      | cons h3 h4 =>
        cases h4
        rw [vok_int h1, vok_int h3]
        refine ⟨m, n, rfl, b, q _ F' H' (rngD m (n - m).toNat) o' st ⟨_, _, (by rw [rngD_len]; exact walk_range (lo := m)), fun _ _ _ _ => trivial, fun i x F2 H2 H3 hi o2 st2 y => ?_⟩ p⟩
        rw [rngD_len] at hi
        obtain ⟨rfl, rfl⟩ := y
        exact ⟨F2, _, o2, Step.refl o2, rngD_get hi, .int _⟩
def zipD (xs ys : List D) : List D := (xs.zip ys).map fun p => .tuple [p.1, p.2]
theorem zipD_len (xs ys : List D) : (zipD xs ys).length = min xs.length ys.length := by simp [zipD]
theorem zipD_get {xs ys : List D} {i : Nat} {x y : D} (hx : xs[i]? = some x) (hy : ys[i]? = some y) : (zipD xs ys)[i]? = some (.tuple [x, y]) := by
  unfold zipD
  have q : (xs.zip ys)[i]? = some (x, y) := List.getElem?_zip_eq_some.mpr ⟨hx, hy⟩
  rw [List.getElem?_map, q]
  rfl
theorem walk_zipT {a b : Addr} {xs ys : List V} {n : Nat} (hn : n = min xs.length ys.length) : Walk (ItzT K a b) n (fun H => SqT K H a xs ∧ SqT K H b ys) (YPair (fun i => xs[i]?) (fun i => ys[i]?)) := by
  subst hn
  refine ⟨fun i _ hi q => ?_, fun _ q => ⟨xs, ys, q.1, q.2, by omega⟩, fun i H v H' _ q y => ?_⟩
  · have h1 : i < xs.length := by omega
    have h2 : i < ys.length := by omega
    exact ⟨xs, ys, xs[i], ys[i], q.1, q.2, by simp [h1], by simp [h2]⟩
  · obtain ⟨T, x, z, h1, h2, h3, h4, h5⟩ := y
    exact ⟨T, x, z, h1, h2, h3, h4 xs q.1, h5 ys q.2⟩
theorem pair_yield {xs ys : List V} {ds es : List D} {F2 F H2 H3 : Hp} {x : V} {i : Nat} (hx : DpAll K F xs ds) (hy : DpAll K F ys es) (s : Same F F2) (o2 : Ok W F2 H2) (y : YPair (fun i => xs[i]?) (fun i => ys[i]?) i H2 x H3) :
    ∃ F'' d, Ok W F'' H3 ∧ Step W F2 H2 F'' H3 ∧ (zipD ds es)[i]? = some d ∧ Dp K F'' x d := by
  obtain ⟨T, u, w, rfl, hT, rfl, hu, hw⟩ := y
  obtain ⟨d, e1, e2⟩ := dpa_get hx hu
  obtain ⟨e, e3, e4⟩ := dpa_get hy hw
  obtain ⟨o3, st3⟩ := o2.new (u := .tup [u, w]) hT
  exact ⟨_, .tuple [d, e], o3, st3, zipD_get e1 e3, .tup (.inl upd_same) (.cons (dp_mono (s.trans st3.fz) e2) (.cons (dp_mono (s.trans st3.fz) e4) .nil))⟩
theorem evi_zip {ta : TA} {PN : List D → Prop} (h : EvA K W H0 ta ρ fun ss => ∃ ds es, (ss = [.dat (.list ds), .dat (.list es)] ∨ ss = [.dat (.tuple ds), .dat (.tuple es)]) ∧ PN (zipD ds es)) : EvI K W H0 (iZipA K ta) ρ PN := fun σ F H o ho R q =>
  h σ F H o ho _ fun vs F' H' ss o' st hv ⟨ds, es, e, p⟩ => by
    rcases e with e | e
    · subst e
      cases hv with
      | cons h1 h2 =>
        cases h2 with
        | cons h3 h4 =>
          cases h4
          obtain ⟨a, xs, rfl, a1, a2⟩ := dp_lst h1
          obtain ⟨b, ys, rfl, b1, b2⟩ := dp_lst h3
          refine ⟨a, b, xs, ys, rfl, .inl ⟨SqL.of (o'.sub _ _ a1), SqL.of (o'.sub _ _ b1), q _ F' H' _ o' st ⟨_, _, walk_zip (K := K) (a := a) (b := b) (xs := xs) (ys := ys) (by rw [zipD_len, dpa_len a2, dpa_len b2]), fun F2 H2 o2 st2 => ⟨SqL.of ((st2.trans o2.sub) _ _ a1), SqL.of ((st2.trans o2.sub) _ _ b1)⟩, fun i x F2 H2 H3 hi o2 st2 y => pair_yield a2 b2 st2 o2 y⟩ p⟩⟩
    · subst e
      cases hv with
      | cons h1 h2 =>
        cases h2 with
        | cons h3 h4 =>
          cases h4
          obtain ⟨a, xs, rfl, a1, a2⟩ := dp_tup h1
          obtain ⟨b, ys, rfl, b1, b2⟩ := dp_tup h3
          refine ⟨a, b, xs, ys, rfl, .inr ⟨Or.inl (rd_mono o'.sub a1), Or.inl (rd_mono o'.sub b1), q _ F' H' _ o' st ⟨_, _, walk_zipT (K := K) (a := a) (b := b) (xs := xs) (ys := ys) (by rw [zipD_len, dpa_len a2, dpa_len b2]), fun F2 H2 o2 st2 => ⟨Or.inl (rd_mono (st2.trans o2.sub) a1), Or.inl (rd_mono (st2.trans o2.sub) b1)⟩, fun i x F2 H2 H3 hi o2 st2 y => pair_yield a2 b2 st2 o2 y⟩ p⟩⟩

/-! ### for -/
theorem sx_for {wi : TI} {g : TG} {tb : TS} (J : List D → Nat → Rho → Prop)
    (h : EvI K W H0 wi ρ fun ds => J ds 0 ρ ∧ (∀ i d ρ', ds[i]? = some d → J ds i ρ' → GS K W H0 F0 g (.dat d) ρ' fun ρ2 => Sx K W H0 F0 tb ρ2 { nx := J ds (i + 1), ct := J ds (i + 1), bk := N.nx, rt := N.rt }) ∧ ∀ ρ', J ds ds.length ρ' → N.nx ρ') :
    Sx K W H0 F0 (tFor wi g tb) ρ N := fun σ F H a D n r b c =>
  h σ F H a.ok a.ho _ fun Jt F' H' ds o' st it ⟨j0, js, jd⟩ => by
    obtain ⟨G, Y, w, hG, hY⟩ := it.w
    have a' := a.step o' st
    refine for_it w (fun i σ2 H2 => ∃ F2 ρ2, At K W H0 F0 σ2 F2 H2 ρ2 ∧ Same F' F2 ∧ J ds i ρ2) ⟨F', ρ, a', Same.refl _, j0⟩ (fun i σ2 H2 _ ⟨F2, ρ2, a2, sm, _⟩ => hG F2 H2 a2.ok sm) ?_ (fun σ2 H2 ⟨F2, ρ2, a2, sm, j⟩ => n σ2 F2 H2 ρ2 a2 (st.fz.trans sm) (jd ρ2 j))
    rintro i x σ2 H2 H3 hi ⟨F2, ρ2, a2, sm, j⟩ y
    obtain ⟨F3, d, o3, st3, e1, e2⟩ := hY i x F2 H2 H3 hi a2.ok sm y
    have a3 := a2.step o3 st3
    refine js i d ρ2 e1 j x σ2 F3 H3 a3 e2 _ fun σ3 ρ3 a4 k => ?_
    have sm3 : Same F' F3 := sm.trans st3.fz
    exact k σ3 F3 H3 a4 _ (fun σ4 F4 H4 ρ4 a5 s5 j5 => ⟨F4, ρ4, a5, sm3.trans s5, j5⟩) r (fun σ4 F4 H4 ρ4 a5 s5 j5 => n σ4 F4 H4 ρ4 a5 (st.fz.trans (sm3.trans s5)) j5) (fun σ4 F4 H4 ρ4 a5 s5 j5 => ⟨F4, ρ4, a5, sm3.trans s5, j5⟩)
end
end DL

namespace DL
open PySem L2 RZ
section
variable {K : PySem.W.Frag} {W : Wd} {H0 F0 : Hp} {ρ : Rho} {te ta tb tc : TE} {tt tu : TT} {P P' : Sl → Prop} {PN : List D → Prop}
/-! ### comprehensions -/
def wipeR (ρ : Rho) : List Nat → Rho
  | [] => ρ
  | v :: vs => (wipeR ρ vs).set v .un
theorem Holds.un {σ : St} {F H : Hp} {i : Nat} (h : Holds K W H0 σ F H ρ) : Holds K W H0 (σ.set i none) F H (ρ.set i .un) := by
  have nls : ∀ (j : Nat) (ds : List D), (ρ.set i .un)[j]? = some (.ls ds) → j ≠ i ∧ ρ[j]? = some (.ls ds) := fun j ds e => by
    by_cases q : j = i
    · subst q
      have hj : j < ρ.length := by
        have := (List.getElem?_eq_some_iff.mp e).1
        rwa [List.length_set] at this
      rw [List.getElem?_set_self hj] at e
      cases e
    · rw [List.getElem?_set_ne (Ne.symm q)] at e
      exact ⟨q, e⟩
  refine ⟨by rw [List.length_set, List.length_set, h.len], fun j u e => ?_, fun j k ds es p hjk e1 e2 e3 => ?_⟩
  · by_cases q : j = i
    · subst q
      have hj : j < ρ.length := by
        have := (List.getElem?_eq_some_iff.mp e).1
        rwa [List.length_set] at this
      rw [List.getElem?_set_self hj] at e
      cases e
      trivial
    · rw [List.getElem?_set_ne (Ne.symm q)] at e
      have g := h.at_ j u e
      have hs : (σ.set i none)[j]? = σ[j]? := List.getElem?_set_ne (Ne.symm q)
      cases u with
      | un => trivial
      | dat d => obtain ⟨w, g1, g2⟩ := g; exact ⟨w, hs.trans g1, g2⟩
      | ls ds => obtain ⟨p, vs, g1, g2⟩ := g; exact ⟨p, vs, hs.trans g1, g2⟩
      | rf u => exact hs.trans g
      | kn k => obtain ⟨w, g1, g2⟩ := g; exact ⟨w, hs.trans g1, g2⟩
      | ow p k => exact ⟨hs.trans g.1, g.2⟩
  · obtain ⟨a1, a2⟩ := nls j ds e1
    obtain ⟨b1, b2⟩ := nls k es e2
    rw [List.getElem?_set_ne (Ne.symm a1)] at e3
    rw [List.getElem?_set_ne (Ne.symm b1)]
    exact h.dis j k ds es p hjk a2 b2 e3
theorem Holds.wipe {σ : St} {F H : Hp} (h : Holds K W H0 σ F H ρ) : ∀ vs : List Nat, Holds K W H0 (wipe σ vs) F H (wipeR ρ vs)
  | [] => h
  | _ :: vs => (Holds.wipe h vs).un
theorem wipe_set {σ : St} {i : Nat} {x : Option V} : ∀ {vs : List Nat}, i ∈ vs → wipe (σ.set i x) vs = wipe σ vs
  | v :: vs, h => by
    by_cases q : i = v
    · subst q
      by_cases m : i ∈ vs
      · show (wipe (σ.set i x) vs).set i none = (wipe σ vs).set i none
        rw [wipe_set m]
      · have go : ∀ (us : List Nat), i ∉ us → wipe (σ.set i x) us = (wipe σ us).set i x := by
          intro us
          induction us with
          | nil => intro _; rfl
          | cons u us ih =>
            intro hm
            have h1 : i ≠ u := fun z => hm (z ▸ List.mem_cons_self)
            have h2 : i ∉ us := fun z => hm (List.mem_cons_of_mem _ z)
            show (wipe (σ.set i x) us).set u none = ((wipe σ us).set u none).set i x
            rw [ih h2, List.set_comm _ _ h1]
        show (wipe (σ.set i x) vs).set i none = (wipe σ vs).set i none
        rw [go vs m, List.set_set]
    · have m : i ∈ vs := by
        rcases List.mem_cons.mp h with e | e
        · exact absurd e q
        · exact e
      show (wipe (σ.set i x) vs).set v none = (wipe σ vs).set v none
      rw [wipe_set m]
theorem wipe_idem {σ : St} : ∀ {vs us : List Nat}, (∀ i ∈ us, i ∈ vs) → wipe (wipe σ us) vs = wipe σ vs
  | vs, [], _ => rfl
  | vs, u :: us, h => by
    show wipe ((wipe σ us).set u none) vs = wipe σ vs
    rw [wipe_set (h u List.mem_cons_self)]
    exact wipe_idem fun i hi => h i (List.mem_cons_of_mem _ hi)
/-- a comprehension's target -/
def GC (K : PySem.W.Frag) (W : Wd) (H0 : Hp) (vs : List Nat) (g : TG) (s : Sl) (ρ : Rho) (k : Rho → Prop) : Prop := ∀ v σ F H, Ok W F H → Holds K W H0 σ F H ρ → VOk K W F H v s → ∀ Q : St → Hp → Prop,
  (∀ σ' ρ', Holds K W H0 σ' F H ρ' → wipe σ' vs = wipe σ vs → k ρ' → Q σ' H) → g v σ H Q
def GCs (K : PySem.W.Frag) (W : Wd) (H0 : Hp) (vs : List Nat) (g : TGs) (ss : List D) (ρ : Rho) (k : Rho → Prop) : Prop := ∀ ws σ F H, Ok W F H → Holds K W H0 σ F H ρ → DpAll K F ws ss → ∀ Q : St → Hp → Prop,
  (∀ σ' ρ', Holds K W H0 σ' F H ρ' → wipe σ' vs = wipe σ vs → k ρ' → Q σ' H) → g ws σ H Q
theorem gc_name {vs : List Nat} {i : Nat} {s : Sl} {k : Rho → Prop} (hi : i ∈ vs) (hn : NoLs s) (h : k (ρ.set i s)) : GC K W H0 vs (gName i) s ρ k := fun v σ F H o ho hv Q q =>
  q (σ.set i (some v)) (ρ.set i s) (ho.set hv hn) (wipe_set hi) h
theorem gcs_nil {vs : List Nat} {k : Rho → Prop} (h : k ρ) : GCs K W H0 vs gNil [] ρ k := fun ws σ F H o ho hv Q q => by
  cases hv
  exact ⟨rfl, q σ ρ ho rfl h⟩
theorem gcs_cons {vs : List Nat} {g : TG} {gs : TGs} {d : D} {ds : List D} {k : Rho → Prop} (h : GC K W H0 vs g (.dat d) ρ fun ρ' => GCs K W H0 vs gs ds ρ' k) : GCs K W H0 vs (gCons g gs) (d :: ds) ρ k := fun ws σ F H o ho hv Q q => by
  cases hv with
  | cons h1 h2 => exact ⟨_, _, rfl, h _ σ F H o ho h1 _ fun σ' ρ' ho' e p => p _ σ' F H o ho' h2 Q fun σ2 ρ2 ho2 e2 p2 => q σ2 ρ2 ho2 (e2.trans e) p2⟩
theorem gc_tup {vs : List Nat} {n : Nat} {gs : TGs} {ds : List D} {k : Rho → Prop} (hl : ds.length = n) (h : GCs K W H0 vs gs ds ρ k) : GC K W H0 vs (gTup K n gs) (.dat (.tuple ds)) ρ k := fun v σ F H o ho hv Q q => by
  obtain ⟨p, xs, rfl, h1, h2⟩ := dp_tup hv
  exact ⟨p, xs, rfl, Or.inl (rd_mono o.sub h1), by rw [dpa_len h2]; exact hl, h xs σ F H o ho h2 Q q⟩
theorem evn_lc {wi : TI} {g : TG} {vs : List Nat} (J : List D → Nat → List D → Prop)
    (h : EvI K W H0 wi ρ fun ds => ds.length < sizeLine ∧ J ds 0 [] ∧ (∀ i d acc, ds[i]? = some d → J ds i acc → GC K W H0 vs g (.dat d) (wipeR ρ vs) fun ρ2 => EvT K W H0 tt ρ2 fun b =>
      if b = true then Ev K W H0 te ρ2 fun s => ∃ e, s = .dat e ∧ J ds (i + 1) (acc ++ [e]) else J ds (i + 1) acc) ∧ ∀ acc, J ds ds.length acc → PN acc) :
    EvN K W H0 (tLc wi g tt te vs) ρ PN := fun σ F H o ho Q q =>
  h σ F H o ho _ fun Jt F' H' ds o' st it ⟨hl, j0, js, jd⟩ => by
    obtain ⟨G, Y, w, hG, hY⟩ := it.w
    intro Da hD
    obtain ⟨oD, stD⟩ := o'.own (u := .lst []) hD
    have nz : ¬ W.Z Da := o'.nz hD
    have hw := (ho.step st).wipe vs
    have chg : ∀ {F2 H2 : Hp} {vs2 ws : List V}, Ok W F2 H2 → Step W F' H' F2 H2 → H2 Da = some (.lst vs2) → F2 Da = none → Ok W F2 (upd H2 Da (.lst ws)) ∧ Step W F' H' F2 (upd H2 Da (.lst ws)) := fun {F2 H2 vs2 ws} o2 st2 hA hF =>
      ⟨o2.mut hA nz hF, st2.fz, fun b u hz e => by
        have q : b ≠ Da := fun z => by rw [z, hD] at e; cases e
        rw [upd_ne q]
        exact st2.kp b u hz e, st2.nw⟩
    refine lc_it w (fun i H2 => ∃ F2 vs2 acc, Ok W F2 H2 ∧ Step W F' H' F2 H2 ∧ H2 Da = some (.lst vs2) ∧ F2 Da = none ∧ DpAll K F2 vs2 acc ∧ acc.length ≤ i ∧ J ds i acc) ?_ ?_ ?_ ?_
    · exact ⟨F', [], [], oD, stD, upd_same, o'.free hD, .nil, Nat.le_refl _, j0⟩
    · rintro i H2 _ ⟨F2, vs2, acc, o2, st2, _⟩
      exact hG F2 H2 o2 st2.fz
    · rintro i x H2 H3 hi ⟨F2, vs2, acc, o2, st2, hA, hF, hd, ha, j⟩ y
      obtain ⟨F3, d, o3, st3, e1, e2⟩ := hY i x F2 H2 H3 hi o2 st2.fz y
      have st3' := st2.trans o2 st3
      have hs := js i d acc e1 j
      refine hs x (wipe σ vs) F3 H3 o3 (hw.step st3') e2 _ fun σ4 ρ4 h4 ew k => ?_
      refine ⟨ew.trans (wipe_idem fun _ z => z), ?_⟩
      refine k σ4 F3 H3 o3 h4 _ fun b F5 H5 o5 st5 kb => ?_
      have hA5 := st5.kp _ _ nz (st3.kp _ _ nz hA)
      have hF5 := st5.nw Da (st3.nw Da hF (by rw [hA]; exact fun z => nomatch z)) (by rw [st3.kp _ _ nz hA]; exact fun z => nomatch z)
      have st5' := st3'.trans o3 st5
      have hd5 := dpa_mono st5.fz (dpa_mono st3.fz hd)
      cases b with
      | false => exact ⟨F5, vs2, acc, o5, st5', hA5, hF5, hd5, Nat.le_succ_of_le ha, kb⟩
      | true =>
        refine kb σ4 F5 H5 o5 (h4.step st5) _ fun v F6 H6 s o6 st6 hv ⟨e, es, je⟩ => ?_
        subst es
        have hA6 := st6.kp _ _ nz hA5
        have hF6 := st6.nw Da hF5 (by rw [hA5]; exact fun z => nomatch z)
        obtain ⟨o7, st7⟩ := chg (ws := vs2 ++ [v]) o6 (st5'.trans o5 st6) hA6 hF6
        refine ⟨vs2, hA6, by rw [dpa_len hd5]; omega, F6, vs2 ++ [v], acc ++ [e], o7, st7, upd_same, hF6, dpa_app (dpa_mono st6.fz hd5) (.cons hv .nil), by rw [List.length_append, List.length_singleton]; omega, je⟩
    · rintro H2 ⟨F2, vs2, acc, o2, st2, hA, hF, hd, ha, j⟩
      exact q Da vs2 F2 H2 acc o2 (st.trans o' st2) (st.back o' hD) hA hF nz hd (jd acc j)
/-- .. by a function of the item -/
theorem evn_map {wi : TI} {g : TG} {vs : List Nat} (f : D → Bool) (v : D → D)
    (h : EvI K W H0 wi ρ fun ds => ds.length < sizeLine ∧ (∀ d, d ∈ ds → GC K W H0 vs g (.dat d) (wipeR ρ vs) fun ρ2 => EvT K W H0 tt ρ2 fun b => b = f d ∧ (b = true → Ev K W H0 te ρ2 fun s => s = .dat (v d))) ∧ PN ((ds.filter f).map v)) :
    EvN K W H0 (tLc wi g tt te vs) ρ PN := by
  refine evn_lc (fun ds i acc => acc = ((ds.take i).filter f).map v) (fun σ F H o ho R q => h σ F H o ho R fun J F' H' ds o' st it ⟨hl, hs, p⟩ => q J F' H' ds o' st it ⟨hl, by simp, fun i d acc e ha => ?_, fun acc ha => by rw [ha, List.take_length]; exact p⟩)
  have hm : d ∈ ds := List.mem_of_getElem? e
  have et : ds.take (i + 1) = ds.take i ++ [d] := by rw [List.take_add_one, e]; rfl
  refine fun x σ F H o ho hv Q q => hs d hm x σ F H o ho hv Q fun σ' ρ' ho' ew k => q σ' ρ' ho' ew (k.mono fun b ⟨eb, hb⟩ => ?_)
  cases b with
  | true => exact (hb rfl).mono fun s es => ⟨v d, es, by rw [ha, et, List.filter_append, List.map_append, List.filter_cons, ← eb]; rfl⟩
  | false =>
    show acc = _
    rw [ha, et, List.filter_append, List.map_append, List.filter_cons, ← eb]
    simp
theorem filt_true {α : Type} (l : List α) : l.filter (fun _ => true) = l := by
  induction l with
  | nil => rfl
  | cons a l ih => rw [List.filter_cons, if_pos rfl, ih]
/-- .. without a test -/
theorem evn_mapT {wi : TI} {g : TG} {vs : List Nat} (v : D → D)
    (h : EvI K W H0 wi ρ fun ds => ds.length < sizeLine ∧ (∀ d, d ∈ ds → GC K W H0 vs g (.dat d) (wipeR ρ vs) fun ρ2 => Ev K W H0 te ρ2 fun s => s = .dat (v d)) ∧ PN (ds.map v)) :
    EvN K W H0 (tLc wi g tYes te vs) ρ PN := by
  refine evn_map (fun _ => true) v (fun σ F H o ho R q => h σ F H o ho R fun J F' H' ds o' st it ⟨hl, hs, p⟩ => q J F' H' ds o' st it ⟨hl, fun d hd => ?_, by rw [filt_true]; exact p⟩)
  exact fun x σ F H o ho hv Q q => hs d hd x σ F H o ho hv Q fun σ' ρ' ho' ew k => q σ' ρ' ho' ew (et_yes ⟨rfl, fun _ => k⟩)
end
end DL

namespace DL
open PySem L2 RZ
/-! ### operations, by data -/
/-- data that may be compared and shown -/
structure Nice (d : D) : Prop where
  lay : d.canLay0 = true
  dep : d.depth ≤ 40
  shw : d.showable = true
theorem Nice.shaped {d : D} (h : Nice d) : SeqAt.shaped d = true := by
  show (d.canLay0 && decide (d.depth ≤ 64)) = true
  rw [h.lay, decide_eq_true (Nat.le_trans h.dep (by decide))]
  rfl
section
variable {K : PySem.W.Frag} {W : Wd} {H0 F0 : Hp} {ρ : Rho} {te ta tb tc : TE} {tt tu : TT} {P P' : Sl → Prop} {PN : List D → Prop} {X : Cx}
theorem dpa_atI {F : Hp} {vs : List V} {ds : List D} {i : Int} {d : D} (h : DpAll K F vs ds) (e : atI ds i = some d) : ∃ v, atI vs i = some v ∧ Dp K F v d := by
  unfold atI at e ⊢
  rw [dpa_len h]
  cases q : ixN ds.length i with
  | none => rw [q] at e; cases e
  | some j =>
    rw [q] at e
    exact dpa_get' h e
theorem dpa_cut {F : Hp} {vs : List V} {ds : List D} (lo hi : Option Int) (h : DpAll K F vs ds) : DpAll K F (cutV vs lo hi) ((ds.drop (HT.sIx ds.length 0 lo)).take (HT.sIx ds.length ds.length hi - HT.sIx ds.length 0 lo)) := by
  unfold cutV
  rw [dpa_len h]
  exact dpa_take _ (dpa_drop _ h)
/-- the items of xs[lo:hi] -/
def cutD (ds : List D) (lo hi : Option Int) : List D := (ds.drop (HT.sIx ds.length 0 lo)).take (HT.sIx ds.length ds.length hi - HT.sIx ds.length 0 lo)
theorem cutD_whole {ds : List D} {lo hi : Option Int} (h : HT.sIx ds.length 0 lo = 0 ∧ HT.sIx ds.length ds.length hi = ds.length) : cutD ds lo hi = ds := by
  unfold cutD
  rw [h.1, h.2, List.drop_zero, Nat.sub_zero, List.take_length]

/-! + -/
def rAddS : R2 := fun x y H Q => ∃ i j, x = .str i ∧ y = .str j ∧ i.length + j.length ≤ sizeLine ∧ Q (.str (i ++ j)) H
/-- truths among ints -/
def rBI (g : Int → Int → Int) : R2 := fun x y H Q => ∃ b i, x = .bl b ∧ y = .int i ∧ Q (.int (g (if b = true then 1 else 0) i)) H
def rIB (g : Int → Int → Int) : R2 := fun x y H Q => ∃ i b, x = .int i ∧ y = .bl b ∧ Q (.int (g i (if b = true then 1 else 0))) H
theorem op_addBI : OpR X (binaryOp .Add) (rBI fun i j => i + j) := by
  intro pins s σ H x y v u Q I rx ry h
  obtain ⟨b, i, rfl, rfl, q⟩ := h
  cases rx
  obtain ⟨t, rfl⟩ := ry
  exact PySem.IntBool.add_bool_int ⟨.int _, H, I.tok _, ⟨_, rfl⟩, q⟩
theorem op_subBI : OpR X (binaryOp .Sub) (rBI fun i j => i - j) := by
  intro pins s σ H x y v u Q I rx ry h
  obtain ⟨b, i, rfl, rfl, q⟩ := h
  cases rx
  obtain ⟨t, rfl⟩ := ry
  exact PySem.IntBool.sub_bool_int ⟨.int _, H, I.tok _, ⟨_, rfl⟩, q⟩
theorem op_subIB : OpR X (binaryOp .Sub) (rIB fun i j => i - j) := by
  intro pins s σ H x y v u Q I rx ry h
  obtain ⟨i, b, rfl, rfl, q⟩ := h
  cases ry
  obtain ⟨t, rfl⟩ := rx
  exact PySem.IntBool.sub_int_bool ⟨.int _, H, I.tok _, ⟨_, rfl⟩, q⟩
def rAdd4 (K : PySem.W.Frag) : R2 := fun x y H Q => (((rI0 (fun i j => .int (i + j)) x y H Q ∨ rAddS x y H Q) ∨ rCatA K x y H Q) ∨ rCat x y H Q) ∨ rBI (fun i j => i + j) x y H Q
theorem opAdd : OpR X (binaryOp .Add) (rAdd4 X.K) := (((op_add.or op_add_str).or op_catA).or op_cat).or op_addBI
def rSub3 : R2 := fun x y H Q => (rI0 (fun i j => .int (i - j)) x y H Q ∨ rBI (fun i j => i - j) x y H Q) ∨ rIB (fun i j => i - j) x y H Q
theorem opSub : OpR X (binaryOp .Sub) rSub3 := (op_sub.or op_subBI).or op_subIB
theorem ops_I0 {g : Int → Int → V} {f : Int → Int → D} {i j : Int} (hg : ∀ F, Dp K F (g i j) (f i j)) (p : P (.dat (f i j))) : OpS K W (rI0 g) (.dat (.int i)) (.dat (.int j)) P := fun F H x y o hx hy Q q => by
  rw [vok_int hx, vok_int hy]
  exact ⟨i, j, rfl, rfl, q _ F H (.dat (f i j)) o (Step.refl o) (hg F) p⟩
theorem ops_I {C : Int → Int → Prop} {g : Int → Int → V} {f : Int → Int → D} {i j : Int} (hg : ∀ F, Dp K F (g i j) (f i j)) (hc : C i j) (p : P (.dat (f i j))) : OpS K W (rI C g) (.dat (.int i)) (.dat (.int j)) P := fun F H x y o hx hy Q q => by
  rw [vok_int hx, vok_int hy]
  exact ⟨i, j, rfl, rfl, hc, q _ F H (.dat (f i j)) o (Step.refl o) (hg F) p⟩
theorem OpS.inl {r r' : R2} {s t : Sl} (h : OpS K W r s t P) : OpS K W (fun x y H Q => r x y H Q ∨ r' x y H Q) s t P := fun F H x y o hx hy Q q => .inl (h F H x y o hx hy Q q)
theorem OpS.inr {r r' : R2} {s t : Sl} (h : OpS K W r' s t P) : OpS K W (fun x y H Q => r x y H Q ∨ r' x y H Q) s t P := fun F H x y o hx hy Q q => .inr (h F H x y o hx hy Q q)
theorem ops_add_int {i j : Int} (p : P (.dat (.int (i + j)))) : OpS K W (rAdd4 K) (.dat (.int i)) (.dat (.int j)) P := OpS.inl <| OpS.inl (OpS.inl (OpS.inl (ops_I0 (f := fun i j => .int (i + j)) (fun _ => .int _) p)))
theorem ops_add_str {i j : Str} (hl : i.length + j.length ≤ sizeLine) (p : P (.dat (.str (i ++ j)))) : OpS K W (rAdd4 K) (.dat (.str i)) (.dat (.str j)) P := OpS.inl <| OpS.inl (OpS.inl (OpS.inr fun F H x y o hx hy Q q => by
  rw [vok_str hx, vok_str hy]
  exact ⟨i, j, rfl, rfl, hl, q _ F H (.dat (.str (i ++ j))) o (Step.refl o) (.str _) p⟩))
theorem ops_add_tup {ds es : List D} (hl : ds.length + es.length ≤ sizeLine) (p : P (.dat (.tuple (ds ++ es)))) : OpS K W (rAdd4 K) (.dat (.tuple ds)) (.dat (.tuple es)) P := OpS.inl <| OpS.inl (OpS.inr fun F H x y o hx hy Q q => by
  obtain ⟨a, xs, rfl, a1, a2⟩ := dp_tup hx
  obtain ⟨b, ys, rfl, b1, b2⟩ := dp_tup hy
  refine ⟨a, b, xs, ys, rfl, rfl, Or.inl (rd_mono o.sub a1), Or.inl (rd_mono o.sub b1), by rw [dpa_len a2, dpa_len b2]; exact hl, fun e => ?_, fun _ e => ?_, fun _ _ p' hp => ?_⟩
  · have e2 : ds = [] := List.length_eq_zero_iff.mp (by rw [← dpa_len a2, e]; rfl)
    rw [e2] at p
    exact q _ F H _ o (Step.refl o) hy p
  · have e2 : es = [] := List.length_eq_zero_iff.mp (by rw [← dpa_len b2, e]; rfl)
    rw [e2, List.append_nil] at p
    exact q _ F H _ o (Step.refl o) hx p
  · obtain ⟨o2, st2⟩ := o.new (u := .tup (xs ++ ys)) hp
    exact q _ _ _ (.dat (.tuple (ds ++ es))) o2 st2 (.tup (.inl upd_same) (dpa_mono st2.fz (dpa_app a2 b2))) p)
/-- a list that may be read -/
def LsOf (s : Sl) (ds : List D) : Prop := s = .dat (.list ds) ∨ s = .ls ds
theorem LsOf.get {F H : Hp} {v : V} {s : Sl} {ds : List D} (h : LsOf s ds) (o : Ok W F H) (hv : VOk K W F H v s) : ∃ p vs, v = .ref p ∧ H p = some (.lst vs) ∧ DpAll K F vs ds := by
  rcases h with e | e
  · subst e
    obtain ⟨a, xs, e, a1, a2⟩ := dp_lst hv
    exact ⟨a, xs, e, o.sub _ _ a1, a2⟩
  · subst e
    obtain ⟨p, vs, e, h1, _, _, h2⟩ := hv
    exact ⟨p, vs, e, h1, h2⟩
theorem evn_cat (h : Ev K W H0 ta ρ fun s => Ev K W H0 tb ρ fun t => ∃ ds es, LsOf s ds ∧ LsOf t es ∧ ds.length + es.length ≤ sizeLine ∧ PN (ds ++ es)) : EvN K W H0 (tOp (rAdd4 K) ta tb) ρ PN := fun σ F H o ho Q q => by
  refine h σ F H o ho _ fun v F1 H1 s o1 st1 hv h1 => ?_
  refine h1 σ F1 H1 o1 (ho.step st1) _ fun u F2 H2 t o2 st2 hu ⟨ds, es, hs, ht, hl, p⟩ => ?_
  obtain ⟨a, xs, rfl, a1, a2⟩ := hs.get o2 (hv.step st2)
  obtain ⟨b, ys, rfl, b1, b2⟩ := ht.get o2 hu
  refine .inl (.inr ⟨a, b, xs, ys, rfl, rfl, a1, b1, by rw [dpa_len a2, dpa_len b2]; exact hl, fun p' hp => ?_⟩)
  obtain ⟨o3, st3⟩ := o2.own (u := .lst (xs ++ ys)) hp
  have st := st1.trans o1 st2
  exact q p' (xs ++ ys) _ _ (ds ++ es) o3 (st.trans o2 st3) (st.back o2 hp) upd_same (o2.free hp) (o2.nz hp) (dpa_app a2 b2) p

/-! - * % // ** -/
theorem ops_sub {i j : Int} (p : P (.dat (.int (i - j)))) : OpS K W rSub3 (.dat (.int i)) (.dat (.int j)) P := OpS.inl <| OpS.inl <| ops_I0 (f := fun i j => .int (i - j)) (fun _ => .int _) p
theorem ops_subBI {b : Bool} {j : Int} (p : P (.dat (.int ((if b = true then 1 else 0) - j)))) : OpS K W rSub3 (.dat (.bool b)) (.dat (.int j)) P := OpS.inl <| OpS.inr fun F H x y o hx hy Q q => by
  rw [vok_bool hx, vok_int hy]
  exact ⟨b, j, rfl, rfl, q _ F H (.dat (.int _)) o (Step.refl o) (.int _) p⟩
theorem ops_subIB {b : Bool} {i : Int} (p : P (.dat (.int (i - (if b = true then 1 else 0))))) : OpS K W rSub3 (.dat (.int i)) (.dat (.bool b)) P := OpS.inr fun F H x y o hx hy Q q => by
  rw [vok_int hx, vok_bool hy]
  exact ⟨i, b, rfl, rfl, q _ F H (.dat (.int _)) o (Step.refl o) (.int _) p⟩
theorem ops_addBI {b : Bool} {j : Int} (p : P (.dat (.int ((if b = true then 1 else 0) + j)))) : OpS K W (rAdd4 K) (.dat (.bool b)) (.dat (.int j)) P := OpS.inr fun F H x y o hx hy Q q => by
  rw [vok_bool hx, vok_int hy]
  exact ⟨b, j, rfl, rfl, q _ F H (.dat (.int _)) o (Step.refl o) (.int _) p⟩
/-- * of ints, of a tuple -/
def rMul2 (K : PySem.W.Frag) : R2 := fun x y H Q => rI CMul (fun i j => .int (i * j)) x y H Q ∨ rRepT K x y H Q
theorem opMul : OpR X (binaryOp .Mult) (rMul2 X.K) := op_mul.or op_repT
theorem dpa_flat {F : Hp} {vs : List V} {ds : List D} (h : DpAll K F vs ds) : ∀ n : Nat, DpAll K F (List.replicate n vs).flatten (List.replicate n ds).flatten
  | 0 => .nil
  | n + 1 => by
    rw [List.replicate_succ, List.replicate_succ, List.flatten_cons, List.flatten_cons]
    exact dpa_app h (dpa_flat h n)
theorem ops_rep {ds : List D} {k : Int} (h0 : ds ≠ []) (h1 : 2 ≤ k) (h2 : k ≤ 1000) (h3 : ds.length ≤ 1000) (p : P (.dat (.tuple (List.replicate k.toNat ds).flatten))) : OpS K W (rMul2 K) (.dat (.tuple ds)) (.dat (.int k)) P := OpS.inr fun F H x y o hx hy Q q => by
  obtain ⟨a, xs, rfl, a1, a2⟩ := dp_tup hx
  rw [vok_int hy]
  refine ⟨a, k, xs, rfl, rfl, Or.inl (rd_mono o.sub a1), fun e => h0 (List.length_eq_zero_iff.mp (by rw [← dpa_len a2, e]; rfl)), h1, h2, by rw [dpa_len a2]; exact h3, fun p' hp => ?_⟩
  obtain ⟨o2, st2⟩ := o.new (u := .tup (List.replicate k.toNat xs).flatten) hp
  exact q _ _ _ (.dat (.tuple (List.replicate k.toNat ds).flatten)) o2 st2 (.tup (.inl upd_same) (dpa_mono st2.fz (dpa_flat a2 _))) p
theorem ops_mul {i j : Int} (hc : CMul i j) (p : P (.dat (.int (i * j)))) : OpS K W (rMul2 K) (.dat (.int i)) (.dat (.int j)) P := OpS.inl <| ops_I (f := fun i j => .int (i * j)) (fun _ => .int _) hc p
theorem ops_fdiv {i j : Int} (hc : CDivN i j) (p : P (.dat (.int (i.fdiv j)))) : OpS K W (rI CDivN fun i j => .int (i.fdiv j)) (.dat (.int i)) (.dat (.int j)) P := ops_I (f := fun i j => .int (i.fdiv j)) (fun _ => .int _) hc p
theorem ops_mod {i j : Int} (hc : j ≠ 0) (p : P (.dat (.int (i.fmod j)))) : OpS K W (rI (fun _ j => j ≠ 0) fun i j => .int (i.fmod j)) (.dat (.int i)) (.dat (.int j)) P := ops_I (f := fun i j => .int (i.fmod j)) (fun _ => .int _) hc p
theorem ops_pow {i j : Int} (hc : CPow i j) (p : P (.dat (.int (i ^ j.toNat)))) : OpS K W (rI CPow fun i j => .int (i ^ j.toNat)) (.dat (.int i)) (.dat (.int j)) P := ops_I (f := fun i j => .int (i ^ j.toNat)) (fun _ => .int _) hc p
theorem uns_neg {i : Int} (p : P (.dat (.int (-i)))) : UnS K W (rU fun i => .int (-i)) (.dat (.int i)) P := fun F H x o hx Q q => by
  rw [vok_int hx]
  exact ⟨i, rfl, q _ F H (.dat (.int (-i))) o (Step.refl o) (.int _) p⟩

/-! comparisons -/
def rEq2 (K : PySem.W.Frag) : R2 := fun x y H Q => rEqD K x y H Q ∨ rEq x y H Q
def rNe2 (K : PySem.W.Frag) : R2 := fun x y H Q => rNeD K x y H Q ∨ rNe x y H Q
theorem opEq (hu : X.A.units + 64 < cLine) : OpR X (compareOp .Eq) (rEq2 X.K) := (op_eqD hu).or op_eq
theorem opNe (hu : X.A.units + 64 < cLine) : OpR X (compareOp .NotEq) (rNe2 X.K) := (op_neD hu).or op_ne
theorem ops_eqS {x y : Str} (p : P (.dat (.bool (decide (x = y))))) : OpS K W (rEq2 K) (.dat (.str x)) (.dat (.str y)) P := OpS.inr fun F H v u o hx hy Q q => by
  rw [vok_str hx, vok_str hy]
  refine ⟨rfl, ?_⟩
  have e : decide (V.str x = V.str y) = decide (x = y) := by
    by_cases h : x = y
    · rw [h, decide_eq_true rfl, decide_eq_true rfl]
    · rw [decide_eq_false h, decide_eq_false (fun z => h (by injection z))]
  rw [e]
  exact q _ F H (.dat (.bool _)) o (Step.refl o) (.bl _) p
theorem ops_neS {x y : Str} (p : P (.dat (.bool (!decide (x = y))))) : OpS K W (rNe2 K) (.dat (.str x)) (.dat (.str y)) P := OpS.inr fun F H v u o hx hy Q q => by
  rw [vok_str hx, vok_str hy]
  refine ⟨rfl, ?_⟩
  have e : decide (V.str x = V.str y) = decide (x = y) := by
    by_cases h : x = y
    · rw [h, decide_eq_true rfl, decide_eq_true rfl]
    · rw [decide_eq_false h, decide_eq_false (fun z => h (by injection z))]
  rw [e]
  exact q _ F H (.dat (.bool _)) o (Step.refl o) (.bl _) p
theorem ops_eq {d e : D} (hd : SeqAt.shaped d = true) (he : SeqAt.shaped e = true) (p : P (.dat (.bool (PyData.eqv d e)))) : OpS K W (rEq2 K) (.dat d) (.dat e) P := OpS.inl fun F H x y o hx hy Q q =>
  ⟨d, e, (dp_mono o.sub hx).old, (dp_mono o.sub hy).old, hd, he, q _ F H (.dat (.bool _)) o (Step.refl o) (.bl _) p⟩
theorem ops_ne {d e : D} (hd : SeqAt.shaped d = true) (he : SeqAt.shaped e = true) (p : P (.dat (.bool (!PyData.eqv d e)))) : OpS K W (rNe2 K) (.dat d) (.dat e) P := OpS.inl fun F H x y o hx hy Q q =>
  ⟨d, e, (dp_mono o.sub hx).old, (dp_mono o.sub hy).old, hd, he, q _ F H (.dat (.bool _)) o (Step.refl o) (.bl _) p⟩
def rLtS : R2 := fun x y H Q => ∃ i j, x = .str i ∧ y = .str j ∧ Q (.bl (decide (i.cps.toList < j.cps.toList))) H
def rLeS : R2 := fun x y H Q => ∃ i j, x = .str i ∧ y = .str j ∧ Q (.bl (!decide (j.cps.toList < i.cps.toList))) H
def rGtS : R2 := fun x y H Q => ∃ i j, x = .str i ∧ y = .str j ∧ Q (.bl (decide (j.cps.toList < i.cps.toList))) H
def rGeS : R2 := fun x y H Q => ∃ i j, x = .str i ∧ y = .str j ∧ Q (.bl (!decide (i.cps.toList < j.cps.toList))) H
def rLt2 : R2 := fun x y H Q => rI0 (fun i j => .bl (decide (i < j))) x y H Q ∨ rLtS x y H Q
def rLe2 : R2 := fun x y H Q => rI0 (fun i j => .bl (decide (i ≤ j))) x y H Q ∨ rLeS x y H Q
def rGt2 : R2 := fun x y H Q => rI0 (fun i j => .bl (decide (j < i))) x y H Q ∨ rGtS x y H Q
def rGe2 : R2 := fun x y H Q => rI0 (fun i j => .bl (decide (j ≤ i))) x y H Q ∨ rGeS x y H Q
theorem opLt : OpR X (compareOp .Lt) rLt2 := op_lt.or op_lt_str
theorem opLe : OpR X (compareOp .LtE) rLe2 := op_le.or op_le_str
theorem opGt : OpR X (compareOp .Gt) rGt2 := op_gt.or op_gt_str
theorem opGe : OpR X (compareOp .GtE) rGe2 := op_ge.or op_ge_str
theorem ops_lt {i j : Int} (p : P (.dat (.bool (decide (i < j))))) : OpS K W rLt2 (.dat (.int i)) (.dat (.int j)) P := OpS.inl (ops_I0 (f := fun i j => .bool (decide (i < j))) (fun _ => .bl _) p)
theorem ops_le {i j : Int} (p : P (.dat (.bool (decide (i ≤ j))))) : OpS K W rLe2 (.dat (.int i)) (.dat (.int j)) P := OpS.inl (ops_I0 (f := fun i j => .bool (decide (i ≤ j))) (fun _ => .bl _) p)
theorem ops_gt {i j : Int} (p : P (.dat (.bool (decide (j < i))))) : OpS K W rGt2 (.dat (.int i)) (.dat (.int j)) P := OpS.inl (ops_I0 (f := fun i j => .bool (decide (j < i))) (fun _ => .bl _) p)
theorem ops_ge {i j : Int} (p : P (.dat (.bool (decide (j ≤ i))))) : OpS K W rGe2 (.dat (.int i)) (.dat (.int j)) P := OpS.inl (ops_I0 (f := fun i j => .bool (decide (j ≤ i))) (fun _ => .bl _) p)
theorem ops_ltS {i j : Str} (p : P (.dat (.bool (decide (i.cps.toList < j.cps.toList))))) : OpS K W rLt2 (.dat (.str i)) (.dat (.str j)) P := OpS.inr fun F H x y o hx hy Q q => by
  rw [vok_str hx, vok_str hy]
  exact ⟨i, j, rfl, rfl, q _ F H (.dat (.bool _)) o (Step.refl o) (.bl _) p⟩
theorem ops_leS {i j : Str} (p : P (.dat (.bool (!decide (j.cps.toList < i.cps.toList))))) : OpS K W rLe2 (.dat (.str i)) (.dat (.str j)) P := OpS.inr fun F H x y o hx hy Q q => by
  rw [vok_str hx, vok_str hy]
  exact ⟨i, j, rfl, rfl, q _ F H (.dat (.bool _)) o (Step.refl o) (.bl _) p⟩
def rIsNo : R2 := fun x y H Q => y = .non ∧ Q (.bl (decide (x = .non))) H
def rIsNot : R2 := fun x y H Q => y = .non ∧ Q (.bl (!decide (x = .non))) H
theorem opIsN : OpR X (compareOp .Is) rIsNo := op_isN
theorem opIsNot : OpR X (compareOp .IsNot) rIsNot := op_notN
def isNone : D → Bool
  | .none => true
  | _ => false
theorem dp_isN {F : Hp} {v : V} {d : D} (h : Dp K F v d) : decide (v = V.non) = isNone d := by cases h <;> rfl
theorem ops_isN {d : D} (p : P (.dat (.bool (isNone d)))) : OpS K W rIsNo (.dat d) (.dat .none) P := fun F H x y o hx hy Q q =>
  ⟨dp_non hy, q _ F H (.dat (.bool (isNone d))) o (Step.refl o) (by rw [dp_isN hx]; exact .bl _) p⟩
theorem ops_isNot {d : D} (p : P (.dat (.bool (!isNone d)))) : OpS K W rIsNot (.dat d) (.dat .none) P := fun F H x y o hx hy Q q =>
  ⟨dp_non hy, q _ F H (.dat (.bool (!isNone d))) o (Step.refl o) (by rw [dp_isN hx]; exact .bl _) p⟩
/-- x in a list | tuple -/
def rInT (K : PySem.W.Frag) : R2 := fun x y H Q => ∃ d ds, L2.Dp K H x d ∧ L2.Dp K H y (.tuple ds) ∧ SeqAt.shaped d = true ∧ SeqAt.shaped (.tuple ds) = true ∧ Q (.bl (ds.any fun z => PyData.eqv z d)) H
def rNotInT (K : PySem.W.Frag) : R2 := fun x y H Q => ∃ d ds, L2.Dp K H x d ∧ L2.Dp K H y (.tuple ds) ∧ SeqAt.shaped d = true ∧ SeqAt.shaped (.tuple ds) = true ∧ Q (.bl (!ds.any fun z => PyData.eqv z d)) H
theorem lay_tup {ds : List D} (h : SeqAt.shaped (.tuple ds) = true) : PyData.canLayAll0 ds = true := SeqAt.canLay_of_shaped h
theorem op_inT (hu : X.A.units + 65 < cLine) : OpR X (compareOp .In) (rInT X.K) := by
  intro pins s σ H x y v u Q I rx ry h
  obtain ⟨d, ds, hd, he, sd, se, q⟩ := h
  obtain ⟨as, r1⟩ := Dp.reads I d x v hd rx
  obtain ⟨bs, r2⟩ := Dp.reads I (.tuple ds) y u he ry
  refine SeqAt.in_tuple_reads r2 r1 (lay_tup se) (SeqAt.canLay_of_shaped sd) ?_ ⟨.bl _, H, I, rfl, q⟩
  have := SeqAt.depth_of_shaped sd
  omega
theorem op_notInT (hu : X.A.units + 65 < cLine) : OpR X (compareOp .NotIn) (rNotInT X.K) := by
  intro pins s σ H x y v u Q I rx ry h
  obtain ⟨d, ds, hd, he, sd, se, q⟩ := h
  obtain ⟨as, r1⟩ := Dp.reads I d x v hd rx
  obtain ⟨bs, r2⟩ := Dp.reads I (.tuple ds) y u he ry
  refine SeqAt.notIn_tuple_reads r2 r1 (lay_tup se) (SeqAt.canLay_of_shaped sd) ?_ ⟨.bl _, H, I, rfl, q⟩
  have := SeqAt.depth_of_shaped sd
  omega
def rIn2 (K : PySem.W.Frag) : R2 := fun x y H Q => (rInD K x y H Q ∨ rInT K x y H Q) ∨ rIn K false x y H Q
def rNotIn2 (K : PySem.W.Frag) : R2 := fun x y H Q => (rNotInD K x y H Q ∨ rNotInT K x y H Q) ∨ rIn K true x y H Q
theorem opIn (hu : X.A.units + 65 < cLine) : OpR X (compareOp .In) (rIn2 X.K) := ((op_inD hu).or (op_inT hu)).or op_in_seq
theorem opNotIn (hu : X.A.units + 65 < cLine) : OpR X (compareOp .NotIn) (rNotIn2 X.K) := ((op_notInD hu).or (op_notInT hu)).or op_notIn_seq
theorem ops_in_tup {d : D} {ds : List D} (hd : SeqAt.shaped d = true) (he : SeqAt.shaped (.tuple ds) = true) (p : P (.dat (.bool (ds.any fun z => PyData.eqv z d)))) : OpS K W (rIn2 K) (.dat d) (.dat (.tuple ds)) P := OpS.inl <| OpS.inr fun F H x y o hx hy Q q =>
  ⟨d, ds, (dp_mono o.sub hx).old, (dp_mono o.sub hy).old, hd, he, q _ F H (.dat (.bool _)) o (Step.refl o) (.bl _) p⟩
theorem ops_notin_tup {d : D} {ds : List D} (hd : SeqAt.shaped d = true) (he : SeqAt.shaped (.tuple ds) = true) (p : P (.dat (.bool (!ds.any fun z => PyData.eqv z d)))) : OpS K W (rNotIn2 K) (.dat d) (.dat (.tuple ds)) P := OpS.inl <| OpS.inr fun F H x y o hx hy Q q =>
  ⟨d, ds, (dp_mono o.sub hx).old, (dp_mono o.sub hy).old, hd, he, q _ F H (.dat (.bool _)) o (Step.refl o) (.bl _) p⟩
theorem dpa_strs {F : Hp} : ∀ {vs : List V} {ys : List Str}, DpAll K F vs (ys.map .str) → vs = ys.map V.str
  | [], [], _ => rfl
  | v :: vs, [], h => by cases h
  | [], b :: bs, h => by cases h
  | v :: vs, b :: bs, h => by
    cases h with
    | cons h1 h2 =>
      rw [dp_str h1, dpa_strs h2]
      rfl
theorem inV_strs {x : Str} : ∀ {ys : List Str}, inV (.str x) (ys.map V.str) = ys.any fun y => decide (y = x)
  | [] => rfl
  | y :: ys => by
    show (inV (.str x) (V.str y :: ys.map V.str)) = _
    unfold inV
    rw [List.any_cons, List.any_cons]
    have ih := inV_strs (x := x) (ys := ys)
    unfold inV at ih
    rw [ih]
    have e : eqV (V.str y) (V.str x) = decide (y = x) := by
      show (y == x) = _
      by_cases h : y = x
      · rw [h, decide_eq_true rfl, beq_self_eq_true]
      · rw [decide_eq_false h]
        exact beq_eq_false_iff_ne.mpr h
    rw [e]
theorem flat_strs (ys : List Str) : (ys.map V.str).all flatV = true := by
  rw [List.all_map]
  exact List.all_eq_true.mpr fun _ _ => rfl
theorem ops_in_strs {x : Str} {ys : List Str} (p : P (.dat (.bool (ys.any fun y => decide (y = x))))) : OpS K W (rIn2 K) (.dat (.str x)) (.dat (.tuple (ys.map .str))) P := OpS.inr fun F H v u o hx hy Q q => by
  obtain ⟨a, xs, rfl, a1, a2⟩ := dp_tup hy
  rw [dpa_strs a2] at a1
  rw [vok_str hx]
  refine ⟨a, _, rfl, .inr (Or.inl (rd_mono o.sub a1)), rfl, flat_strs ys, ?_⟩
  rw [inV_strs]
  exact q _ F H (.dat (.bool _)) o (Step.refl o) (.bl _) p
theorem ops_notin_strs {x : Str} {ys : List Str} (p : P (.dat (.bool (!ys.any fun y => decide (y = x))))) : OpS K W (rNotIn2 K) (.dat (.str x)) (.dat (.tuple (ys.map .str))) P := OpS.inr fun F H v u o hx hy Q q => by
  obtain ⟨a, xs, rfl, a1, a2⟩ := dp_tup hy
  rw [dpa_strs a2] at a1
  rw [vok_str hx]
  refine ⟨a, _, rfl, .inr (Or.inl (rd_mono o.sub a1)), rfl, flat_strs ys, ?_⟩
  rw [inV_strs]
  exact q _ F H (.dat (.bool _)) o (Step.refl o) (.bl _) p
theorem LsOf.dp {F H : Hp} {v : V} {s : Sl} {ds : List D} (h : LsOf s ds) (o : Ok W F H) (hv : VOk K W F H v s) : L2.Dp K H v (.list ds) := by
  obtain ⟨p, vs, rfl, h1, h2⟩ := h.get o hv
  exact .lst (SqL.of h1) (dpa_mono o.sub h2).old
theorem ops_in_lst {d : D} {ds : List D} {s : Sl} (hd : SeqAt.shaped d = true) (he : SeqAt.shaped (.list ds) = true) (hs : LsOf s ds) (p : P (.dat (.bool (ds.any fun z => PyData.eqv z d)))) : OpS K W (rIn2 K) (.dat d) s P := OpS.inl <| OpS.inl fun F H x y o hx hy Q q =>
  ⟨d, ds, (dp_mono o.sub hx).old, hs.dp o hy, hd, he, q _ F H (.dat (.bool _)) o (Step.refl o) (.bl _) p⟩
theorem ops_notin_lst {d : D} {ds : List D} {s : Sl} (hd : SeqAt.shaped d = true) (he : SeqAt.shaped (.list ds) = true) (hs : LsOf s ds) (p : P (.dat (.bool (!ds.any fun z => PyData.eqv z d)))) : OpS K W (rNotIn2 K) (.dat d) s P := OpS.inl <| OpS.inl fun F H x y o hx hy Q q =>
  ⟨d, ds, (dp_mono o.sub hx).old, hs.dp o hy, hd, he, q _ F H (.dat (.bool _)) o (Step.refl o) (.bl _) p⟩
/-! subscripts -/
theorem ops_ix_tup {ds : List D} {i : Int} {d : D} (e : atI ds i = some d) (p : P (.dat d)) : OpS K W (rIx K) (.dat (.tuple ds)) (.dat (.int i)) P := fun F H x y o hx hy Q q => by
  obtain ⟨a, xs, rfl, a1, a2⟩ := dp_tup hx
  obtain ⟨v, e1, e2⟩ := dpa_atI a2 e
  rw [vok_int hy]
  exact .inr (.inl ⟨a, xs, i, v, rfl, rfl, Or.inl (rd_mono o.sub a1), e1, q _ F H (.dat d) o (Step.refl o) e2 p⟩)
theorem ops_ix_tupx {ds : List D} {i : Int} (h : ∃ d, atI ds i = some d ∧ P (.dat d)) : OpS K W (rIx K) (.dat (.tuple ds)) (.dat (.int i)) P := let ⟨_, a, b⟩ := h; ops_ix_tup a b
theorem ops_ix_lst {ds : List D} {s : Sl} {i : Int} {d : D} (hs : LsOf s ds) (e : atI ds i = some d) (p : P (.dat d)) : OpS K W (rIx K) s (.dat (.int i)) P := fun F H x y o hx hy Q q => by
  obtain ⟨a, xs, rfl, a1, a2⟩ := hs.get o hx
  obtain ⟨v, e1, e2⟩ := dpa_atI a2 e
  rw [vok_int hy]
  exact .inl ⟨a, xs, i, v, rfl, rfl, SqL.of a1, e1, q _ F H (.dat d) o (Step.refl o) e2 p⟩
theorem ops_ix_str {z : Str} {i : Int} {c : Nat} (hl : z.length ≤ sizeLine) (e : atI z.cps.toList i = some c) (p : P (.dat (.str ⟨#[c]⟩))) : OpS K W (rIx K) (.dat (.str z)) (.dat (.int i)) P := fun F H x y o hx hy Q q => by
  rw [vok_int hy, vok_str hx]
  exact .inr (.inr ⟨z, i, c, rfl, rfl, hl, e, q _ F H (.dat (.str _)) o (Step.refl o) (.str _) p⟩)
/-! slices -/
def SlS (K : PySem.W.Frag) (W : Wd) (r : V → Option Int → Option Int → Hp → VK → Prop) (s : Sl) (lo hi : Option Int) (P : Sl → Prop) : Prop := ∀ F H x, Ok W F H → VOk K W F H x s → ∀ Q : VK,
  (∀ v F' H' u, Ok W F' H' → Step W F H F' H' → VOk K W F' H' v u → P u → Q v H') → r x lo hi H Q
theorem ev_sl {r : V → Option Int → Option Int → Hp → VK → Prop} {tl th : TO} (h : Ev K W H0 te ρ fun s => EvO K W H0 tl ρ fun lo => EvO K W H0 th ρ fun hi => SlS K W r s lo hi P) : Ev K W H0 (tSl r te tl th) ρ P := fun σ F H o ho Q q => by
  refine h σ F H o ho _ fun v F1 H1 s o1 st1 hv h1 => ?_
  refine h1 σ F1 H1 o1 (ho.step st1) _ fun lo F2 H2 o2 st2 h2 => ?_
  refine h2 σ F2 H2 o2 ((ho.step st1).step st2) _ fun hi F3 H3 o3 st3 h3 => ?_
  exact h3 F3 H3 v o3 ((hv.step st2).step st3) Q fun w F4 H4 z o4 st4 hw p => q w F4 H4 z o4 (((st1.trans o1 st2).trans o2 st3).trans o3 st4) hw p
theorem eo_none {PO : Option Int → Prop} (p : PO none) : EvO K W H0 tNoPart ρ PO := fun σ F H o ho Q q => q none F H o (Step.refl o) p
theorem eo_some {PO : Option Int → Prop} (h : Ev K W H0 te ρ fun s => ∃ i, s = .dat (.int i) ∧ PO (some i)) : EvO K W H0 (tPart te) ρ PO := fun σ F H o ho Q q =>
  h σ F H o ho _ fun v F1 H1 s o1 st1 hv ⟨i, e, p⟩ => by
    subst e
    exact ⟨i, vok_int hv, q (some i) F1 H1 o1 st1 p⟩
def rSl3 (K : PySem.W.Frag) : V → Option Int → Option Int → Hp → VK → Prop := fun x lo hi H Q => (rSlL K x lo hi H Q ∨ rSlA K x lo hi H Q) ∨ rSlS x lo hi H Q
theorem slAny : SlR X (rSl3 X.K) := (sl_list.or sl_tupA).or sl_str
theorem sls_tup {ds : List D} {lo hi : Option Int} (p : P (.dat (.tuple (cutD ds lo hi)))) : SlS K W (rSl3 K) (.dat (.tuple ds)) lo hi P := fun F H x o hx Q q => by
  obtain ⟨a, xs, rfl, a1, a2⟩ := dp_tup hx
  refine .inl (.inr ⟨a, xs, rfl, Or.inl (rd_mono o.sub a1), fun hw => ?_, fun hw p' hp => ?_⟩)
  · rw [dpa_len a2] at hw
    rw [cutD_whole hw] at p
    exact q _ F H _ o (Step.refl o) hx p
  · obtain ⟨o2, st2⟩ := o.new (u := .tup (cutV xs lo hi)) hp
    exact q _ _ _ (.dat (.tuple (cutD ds lo hi))) o2 st2 (.tup (.inl upd_same) (dpa_mono st2.fz (dpa_cut lo hi a2))) p
theorem sls_lst {ds : List D} {s : Sl} {lo hi : Option Int} (hs : LsOf s ds) (p : P (.dat (.list (cutD ds lo hi)))) : SlS K W (rSl3 K) s lo hi P := fun F H x o hx Q q => by
  obtain ⟨a, xs, rfl, a1, a2⟩ := hs.get o hx
  refine .inl (.inl ⟨a, xs, rfl, SqL.of a1, fun p' hp => ?_⟩)
  obtain ⟨o2, st2⟩ := o.new (u := .lst (cutV xs lo hi)) hp
  exact q _ _ _ (.dat (.list (cutD ds lo hi))) o2 st2 (.lst upd_same (dpa_mono st2.fz (dpa_cut lo hi a2))) p
theorem sls_str {z : Str} {lo hi : Option Int} (hl : z.length ≤ sizeLine) (p : P (.dat (.str (cutS z lo hi)))) : SlS K W (rSl3 K) (.dat (.str z)) lo hi P := fun F H x o hx Q q => by
  rw [vok_str hx]
  exact .inr ⟨z, rfl, hl, q _ F H (.dat (.str _)) o (Step.refl o) (.str _) p⟩

theorem shaped_int (i : Int) : SeqAt.shaped (.int i) = true := by simp [SeqAt.shaped, PyData.canLay0, PyData.depth]
theorem shaped_bool (i : Bool) : SeqAt.shaped (.bool i) = true := by simp [SeqAt.shaped, PyData.canLay0, PyData.depth]
theorem shaped_none : SeqAt.shaped .none = true := by simp [SeqAt.shaped, PyData.canLay0, PyData.depth]
theorem ops_eq_int {i j : Int} (p : P (.dat (.bool (decide (i = j))))) : OpS K W (rEq2 K) (.dat (.int i)) (.dat (.int j)) P := ops_eq (shaped_int i) (shaped_int j) (by
  have e : PyData.eqv (.int i) (.int j) = decide (i = j) := by
    simp only [PyData.eqv]
    by_cases h : i = j
    · subst h
      simp
    · rw [decide_eq_false h]
      exact beq_eq_false_iff_ne.mpr h
  rw [e]
  exact p)
/-! ### calls of built-ins -/
def tyN : D → String
  | .none => "NoneType" | .bool _ => "bool" | .int _ => "int" | .str _ => "str" | .list _ => "list" | .tuple _ => "tuple" | .dict _ => "dict"
theorem ty_of {F H : Hp} (o : Ok W F H) {v : V} {d : D} (h : Dp K F v d) : TyX K H v (.type (tyN d)) := by
  cases h with
  | non => exact .base .non
  | bl b => exact .base (.bl b)
  | int i => exact .base (.int i)
  | str x => exact .base (.str x)
  | lst h _ => exact .base (.lst (o.sub _ _ h))
  | tup h _ =>
    rcases h with h | ⟨u, h⟩
    · exact .base (.tup (o.sub _ _ h))
    · exact .fTuple (o.sub _ _ h)
theorem kit_all : ∀ a ∈ ["NoneType", "bool", "int", "str", "list", "tuple", "dict"], ∀ T ∈ ["int", "bool", "str", "tuple", "list"], kitB a T = some (a == T || (a == "bool" && T == "int")) := by decide +kernel
theorem ty_mem (d : D) : tyN d ∈ ["NoneType", "bool", "int", "str", "list", "tuple", "dict"] := by cases d <;> simp [tyN]
def isInt : D → Bool
  | .int _ | .bool _ => true
  | _ => false
def isBl : D → Bool
  | .bool _ => true
  | _ => false
def isStr : D → Bool
  | .str _ => true
  | _ => false
def isTup : D → Bool
  | .tuple _ => true
  | _ => false
def isLst : D → Bool
  | .list _ => true
  | _ => false
theorem cas_isi {d : D} {T : String} {b : Bool} (hT : T ∈ ["int", "bool", "str", "tuple", "list"]) (hb : (tyN d == T || (tyN d == "bool" && T == "int")) = b) (p : P (.dat (.bool b))) : CaS K W (rIsi K) [.dat d, .rf (.ty T)] P := fun F H xs o hx Q q => by
  cases hx with
  | cons h1 h2 =>
    cases h2 with
    | cons h3 h4 =>
      cases h4
      exact ⟨_, _, _, _, b, rfl, (show _ = V.ty T from h3) ▸ .ty T, ty_of o h1, hb ▸ kit_ty (kit_all _ (ty_mem d) T hT), q _ F H (.dat (.bool _)) o (Step.refl o) (.bl _) p⟩
theorem cas_isi_int {d : D} (p : P (.dat (.bool (isInt d)))) : CaS K W (rIsi K) [.dat d, .rf (.ty "int")] P := cas_isi (by decide +kernel) (by cases d <;> rfl) p
theorem cas_isi_bool {d : D} (p : P (.dat (.bool (isBl d)))) : CaS K W (rIsi K) [.dat d, .rf (.ty "bool")] P := cas_isi (by decide +kernel) (by cases d <;> rfl) p
theorem cas_isi_str {d : D} (p : P (.dat (.bool (isStr d)))) : CaS K W (rIsi K) [.dat d, .rf (.ty "str")] P := cas_isi (by decide +kernel) (by cases d <;> rfl) p
theorem cas_isi_tup {d : D} (p : P (.dat (.bool (isTup d)))) : CaS K W (rIsi K) [.dat d, .rf (.ty "tuple")] P := cas_isi (by decide +kernel) (by cases d <;> rfl) p
theorem cas_isi_lst {d : D} (p : P (.dat (.bool (isLst d)))) : CaS K W (rIsi K) [.dat d, .rf (.ty "list")] P := cas_isi (by decide +kernel) (by cases d <;> rfl) p
theorem ops_ix_lstx {ds : List D} {i : Int} (h : ∃ d, atI ds i = some d ∧ P (.dat d)) : OpS K W (rIx K) (.dat (.list ds)) (.dat (.int i)) P := let ⟨_, a, b⟩ := h; ops_ix_lst (.inl rfl) a b
theorem le_line {n : Nat} (h : Nat.ble n 250000 = true) : n ≤ sizeLine := Nat.le_trans (Nat.le_of_ble_eq_true h) (by decide)
theorem sz_and {n : Nat} {A : Prop} (h : Nat.ble n 250000 = true) (k : A) : n ≤ sizeLine ∧ A := ⟨le_line h, k⟩
theorem and_nols {d : D} {A : Prop} (h : A) : NoLs (.dat d) ∧ A := ⟨trivial, h⟩
theorem rt_bool {a b : Bool} (h : a = b) : Sl.dat (.bool a) = Sl.dat (.bool b) := by rw [h]
theorem ifT {c : Bool} {A B : Prop} (hc : c = true) (h : A) : if c = true then A else B := by
  rw [if_pos hc]
  exact h
theorem ifF {c : Bool} {A B : Prop} (hc : c = false) (h : B) : if c = true then A else B := by
  rw [if_neg (by rw [hc]; exact Bool.false_ne_true)]
  exact h
theorem if2 {c : Bool} {A B : Prop} (h : c = true → A) (h' : c = false → B) : if c = true then A else B := by
  cases c with
  | true => exact h rfl
  | false => exact h' rfl
abbrev rLenA (K : PySem.W.Frag) : List V → Hp → VK → Prop := fun xs H Q => ∃ x n, xs = [x] ∧ LenV K x H n ∧ Q (.int n) H
theorem cas_len_tup {ds : List D} (p : P (.dat (.int ds.length))) : CaS K W (rLenA K) [.dat (.tuple ds)] P := fun F H xs o hx Q q => by
  cases hx with
  | cons h1 h2 =>
    cases h2
    obtain ⟨a, xs, rfl, a1, a2⟩ := dp_tup h1
    exact ⟨_, ds.length, rfl, .inr ⟨xs, Or.inl (rd_mono o.sub a1), (dpa_len a2).symm⟩, q _ F H (.dat (.int _)) o (Step.refl o) (.int _) p⟩
theorem cas_len_lst {ds : List D} {s : Sl} (hs : LsOf s ds) (p : P (.dat (.int ds.length))) : CaS K W (rLenA K) [s] P := fun F H xs o hx Q q => by
  cases hx with
  | cons h1 h2 =>
    cases h2
    obtain ⟨a, xs, rfl, a1, a2⟩ := hs.get o h1
    exact ⟨_, ds.length, rfl, .inl ⟨xs, SqL.of a1, (dpa_len a2).symm⟩, q _ F H (.dat (.int _)) o (Step.refl o) (.int _) p⟩
theorem cas_len_str {z : Str} (hl : z.length ≤ sizeLine) (p : P (.dat (.int z.length))) : CaS K W (rLenA K) [.dat (.str z)] P := fun F H xs o hx Q q => by
  cases hx with
  | cons h1 h2 =>
    cases h2
    rw [vok_str h1]
    exact ⟨_, z.length, rfl, ⟨hl, rfl⟩, q _ F H (.dat (.int _)) o (Step.refl o) (.int _) p⟩
theorem dpa_bools {F : Hp} : ∀ {vs : List V} {bs : List Bool}, DpAll K F vs (bs.map .bool) → vs = bs.map V.bl
  | [], [], _ => rfl
  | v :: vs, [], h => by cases h
  | [], b :: bs, h => by cases h
  | v :: vs, b :: bs, h => by
    cases h with
    | cons h1 h2 =>
      rw [dp_bool h1, dpa_bools h2]
      rfl
theorem cas_all {s : Sl} {bs : List Bool} (hs : LsOf s (bs.map .bool)) (p : P (.dat (.bool (bs.all id)))) : CaS K W (rAll K) [s] P := fun F H xs o hx Q q => by
  cases hx with
  | cons h1 h2 =>
    cases h2
    obtain ⟨a, xs, rfl, a1, a2⟩ := hs.get o h1
    rw [dpa_bools a2] at a1
    exact ⟨a, bs, rfl, SqL.of a1, q _ F H (.dat (.bool _)) o (Step.refl o) (.bl _) p⟩
theorem cas_any {s : Sl} {bs : List Bool} (hs : LsOf s (bs.map .bool)) (p : P (.dat (.bool (bs.any id)))) : CaS K W (rAny K) [s] P := fun F H xs o hx Q q => by
  cases hx with
  | cons h1 h2 =>
    cases h2
    obtain ⟨a, xs, rfl, a1, a2⟩ := hs.get o h1
    rw [dpa_bools a2] at a1
    exact ⟨a, bs, rfl, SqL.of a1, q _ F H (.dat (.bool _)) o (Step.refl o) (.bl _) p⟩
/-- list(x), tuple(x) -/
abbrev rListOf (K : PySem.W.Frag) : List V → Hp → VK → Prop := fun xs H Q => ∃ p ys, xs = [.ref p] ∧ (SqL K H p ys ∨ SqT K H p ys) ∧ ∀ l, H l = none → Q (.ref l) (upd H l (.lst ys))
abbrev rTupleOf (K : PySem.W.Frag) : List V → Hp → VK → Prop := fun xs H Q => ∃ p ys, xs = [.ref p] ∧ ((SqL K H p ys ∧ ∀ l, H l = none → Q (.ref l) (upd H l (.tup ys))) ∨ (SqT K H p ys ∧ Q (.ref p) H))
def SqOf (s : Sl) (ds : List D) : Prop := s = .dat (.tuple ds) ∨ LsOf s ds
theorem SqOf.get {F H : Hp} {v : V} {s : Sl} {ds : List D} (h : SqOf s ds) (o : Ok W F H) (hv : VOk K W F H v s) : ∃ p vs, v = .ref p ∧ (SqL K H p vs ∨ SqT K H p vs) ∧ DpAll K F vs ds := by
  rcases h with e | e
  · subst e
    obtain ⟨a, xs, e, a1, a2⟩ := dp_tup hv
    exact ⟨a, xs, e, .inr (Or.inl (rd_mono o.sub a1)), a2⟩
  · obtain ⟨p, vs, e, h1, h2⟩ := e.get o hv
    exact ⟨p, vs, e, .inl (SqL.of h1), h2⟩
theorem evn_list {t : TA} (h : EvA K W H0 t ρ fun ss => ∃ s ds, ss = [s] ∧ SqOf s ds ∧ PN ds) : EvN K W H0 (tCB (rListOf K) t) ρ PN := fun σ F H o ho Q q => by
  refine h σ F H o ho _ fun vs F1 H1 ss o1 st1 hv ⟨s, ds, e, hs, p⟩ => ?_
  subst e
  cases hv with
  | cons h1 h2 =>
    cases h2
    obtain ⟨a, xs, rfl, a1, a2⟩ := hs.get o1 h1
    refine ⟨a, xs, rfl, a1, fun l hl => ?_⟩
    obtain ⟨o2, st2⟩ := o1.own (u := .lst xs) hl
    exact q l xs _ _ ds o2 (st1.trans o1 st2) (st1.back o1 hl) upd_same (o1.free hl) (o1.nz hl) a2 p
theorem cas_tuple {s : Sl} {ds : List D} (hs : SqOf s ds) (p : P (.dat (.tuple ds))) : CaS K W (rTupleOf K) [s] P := fun F H xs o hx Q q => by
  cases hx with
  | cons h1 h2 =>
    cases h2
    rcases hs with e | e
    · subst e
      obtain ⟨a, xs, rfl, a1, a2⟩ := dp_tup h1
      exact ⟨a, xs, rfl, .inr ⟨Or.inl (rd_mono o.sub a1), q _ F H _ o (Step.refl o) h1 p⟩⟩
    · obtain ⟨a, xs, rfl, a1, a2⟩ := e.get o h1
      refine ⟨a, xs, rfl, .inl ⟨SqL.of a1, fun l hl => ?_⟩⟩
      obtain ⟨o2, st2⟩ := o.new (u := .tup xs) hl
      exact q _ _ _ (.dat (.tuple ds)) o2 st2 (.tup (.inl upd_same) (dpa_mono st2.fz a2)) p
/-- repr -/
def rReprD (K : PySem.W.Frag) : List V → Hp → VK → Prop := fun xs H Q => ∃ v d, xs = [v] ∧ L2.Dp K H v d ∧ d.depth ≤ 64 ∧ d.showable = true ∧ d.shown.length ≤ sizeLine ∧ Q (.str d.shown) H
end
end DL

namespace DL
open PySem L2 RZ PySem.Spec PyProof.Rows
/-! ### defs that may show data: no object is being shown when they are called -/
structure FnG (Pg : Program) (w : World) (K : PySem.W.Frag) (mg : Str → Option Value) (base : Heap) (k : Nat) (f : Addr) (fd : FuncData) (ps : List Str) (sp : Sp) : Prop where
  len : ∀ vs H Q E, sp vs H Q E → vs.length = ps.length
  run : ∀ (A : Around) (outer : List Env) (s : Shared) (H : Hp) (args : Args) (us : List Value) (vs : List V) (Q : VK), A.guards = some [] → Room k A → Env0 Pg w K mg base A outer s H →
    BindsTo s fd args (ps.zip us) → Vals vs us → sp vs H Q E0 → codeAny (model Pg w) A (.call (.ref f) args) (CR CX0 outer Pg w H s Q E0) s
section
variable {Pg : Program} {w : World} {K : PySem.W.Frag} {mg : Str → Option Value} {base : Heap}
theorem FnG.mono {j k : Nat} {f : Addr} {fd : FuncData} {ps : List Str} {sp : Sp} (F : FnG Pg w K mg base j f fd ps sp) (h : j ≤ k) : FnG Pg w K mg base k f fd ps sp :=
  ⟨F.len, fun A ou s H ar us vs Q g r => F.run A ou s H ar us vs Q g (r.mono h)⟩
theorem fnG_of {x qual : Str} {st : Stmt} {f : Addr} {fd : FuncData} {N ps : List Str} {k : Nat} {sp : Sp} (F : Fun K x qual st f fd) (S : FnScope N ps (defScope st)) (len : ∀ vs H Q E, sp vs H Q E → vs.length = ps.length)
    (hb : ∀ (cdv : Value) (A : Around) (ou : List Env) (s : Shared) (H : Hp) (vs : List V) (Q : VK), A.guards = some [] → Room k (A.deeper (envOfC qual (defScope st) s.heap.objs.size f cdv)) → sp vs H Q E0 →
      ∃ t, PSs (cxOf CX0 Pg w K mg base N qual (defScope st) f cdv A ou s H E0).nox (defBody st) t ∧ t { nx := fun _ H' => Q .non H', rt := Q } (L2.start N vs) H) : FnG Pg w K mg base (k + 1) f fd ps sp := by
  obtain ⟨oc, od, kV, doc, pm, an, cdv, ct, osl, efd, lk, hcd⟩ := F.ex
  subst efd
  refine ⟨len, fun A ou s H ar us vs Q hgd hr en hbd hv hsp => ?_⟩
  have hl := len vs H Q _ hsp
  have KX : K.In s.heap := en.mod.kin.keeps (fun b o e => (en.bs b o e).1)
  have lim : s.heap.NoLimit := en.mod.nolimit.keeps (fun b o e => (en.bs b o e).1)
  have hkd : ∀ y ∈ ps.zip us, (defScope st).names.lookup y.1 = some .local ∨ ((defScope st).names.lookup y.1 = some .cell ∧ ((cellsFrom (s.heap.objs.size + 1) (defScope st).names []).lookup y.1).isSome = true) := by
    rintro ⟨n, v⟩ hy
    rcases S.par n (List.of_mem_zip hy).1 with q | q
    · exact Or.inl q
    · exact Or.inr ⟨q, PySem.W.cellsFrom_some _ _ _ (Or.inl q)⟩
  refine codeAny_call_function hr.depth (KX _ _ lk) rfl S.co S.gen rfl (PySem.W.codeRec_of KX hcd) (hbd _ _ _ _ ?_)
  refine wpAny_newFunctionEnv_cells S.kind hkd fun env he s1 x => ?_
  subst he
  refine ⟨lim.keeps x.toInCall.keep, codeAny_func ?_⟩
  obtain ⟨t, ht, hq⟩ := hb cdv A ou s H vs Q hgd (hr.deeper _) hsp
  have I := inv_start (CX := CX0) (E := E0) S hr.hd en hl hv x
  refine wpAny_mono (ht.nox.run [] s1 (L2.start N vs) H _ I hq) ?_ (fun e s' hs => hs)
  intro fl s' hs
  cases fl with
  | ret u =>
    obtain ⟨v, σ', H', J, rv, q⟩ := hs
    exact ⟨v, H', J.os, J.bare, J.base, J.hok, rv, q⟩
  | next =>
    obtain ⟨σ', H', J, q⟩ := hs
    exact ⟨V.non, H', J.os, J.bare, J.base, J.hok, rfl, q⟩
  | brk => exact False.elim hs.choose_spec.choose_spec.2
  | cont => exact False.elim hs.choose_spec.choose_spec.2
end
section
variable {X : Cx} {k n : Nat} {f : Addr} {fd : FuncData} {ps ks : List Str} {sp : Sp} {x : Str} {p pos : Pos} {e : Expr} {es : List Expr} {kws : List Keyword} {t tk : TA}
/-- a def by its name: its promise, its place, how plain arguments bind -/
structure Fn (Pg : Program) (w : World) (K : PySem.W.Frag) (mg : Str → Option Value) (base : Heap) (x : Str) (k : Nat) (ps : List Str) (sp : Sp) : Prop where
  ex : ∃ f fd, FnG Pg w K mg base k f fd ps sp ∧ mg x = some (.ref f) ∧ PySem.W.keepIn K (.ref f) = true ∧ Binds K fd ps []
/-- what a call is, by which way its arguments bind: positional n, keywords ks, put in order by g -/
structure FnK (Pg : Program) (w : World) (K : PySem.W.Frag) (mg : Str → Option Value) (base : Heap) (x : Str) (k : Nat) (ps : List Str) (sp : Sp) (n : Nat) (ks : List Str) (gV : List V → List V → List V) : Prop where
  ex : ∃ f fd g, FnG Pg w K mg base k f fd ps sp ∧ mg x = some (.ref f) ∧ PySem.W.keepIn K (.ref f) = true ∧ KBn K fd ps n ks g gV
theorem run_G {pins : List (Addr × Obj)} {σ : L2.St} {H : Hp} {s : Shared} {Q : VK} {args : Args} {us : List Value} {vs : List V} (F : FnG X.prog X.w X.K X.mg X.base k f fd ps sp) (hgd : X.A.guards = some []) (hr : Room k X.A)
    (I : Inv X pins σ H s) (hb : BindsTo s fd args (ps.zip us)) (r : Vals vs us) (h : sp vs H Q E0) : wpAny (model X.prog X.w) X.A (call (.ref f) args.pos args.kw) (EP X pins σ Q) X.xe s := by
  refine wpAny_call (codeAny_mono (F.run X.A X.stack s H args us vs Q hgd hr I.env0 hb r h) ?_)
  intro res s' hq
  cases res with
  | error e => exact False.elim hq
  | ok fl =>
    cases fl with
    | ret u => exact I.after hq
    | next => exact False.elim hq
    | brk => exact False.elim hq
    | cont => exact False.elim hq
def tFn (sp : Sp) (t : TA) : TE := fun σ H Q => t σ H fun vs H1 => sp vs H1 Q E0
theorem pe_fn (C : Fn X.prog X.w X.K X.mg X.base x k ps sp) (hgd : X.A.guards = some []) (hr : Room k X.A) (hg : Gl X x) (ha : PA X (e :: es) t) (hdb : (x == ("__debug__" : Str)) = false := by decide)
    (he : starEach (e :: es) X.env = (false, eval e X.env) :: starEach es X.env := by rfl) (hpl : (backTo pos (starEach es X.env)).any (·.1) = false := by rfl) : PE X (.Call (.Name x p) (e :: es) [] pos) (tFn sp t) := by
  obtain ⟨f, fd, F, hm, hk, hb⟩ := C.ex
  refine ⟨fun pins s σ H Q I h => wpAny_Call_Name_kw (ld_glob I hg hm ?_ hdb)⟩
  refine PySem.W.callWith_K (h₀ := X.base) I.ok.mod.kin hk (thn (ha.run pos pins s σ H _ I h) ?_) he hpl
  rintro us s1 ⟨vs, H1, I1, r, q⟩
  have hl : (us ++ []).length = ps.length := by rw [List.append_nil, ← r.length]; exact F.len _ _ _ _ q
  have hb' := hb s1 us I1.kIn hl
  rw [List.append_nil] at hb'
  exact ⟨I1.kIn, run_G (args := ⟨us, []⟩) F hgd hr I1 hb' r q⟩
theorem pe_fn0 (C : Fn X.prog X.w X.K X.mg X.base x k ps sp) (hgd : X.A.guards = some []) (hr : Room k X.A) (hg : Gl X x) (hdb : (x == ("__debug__" : Str)) = false := by decide) : PE X (.Call (.Name x p) [] [] pos) (tFn sp tNil) := by
  obtain ⟨f, fd, F, hm, hk, hb⟩ := C.ex
  refine ⟨fun pins s σ H Q I h => wpAny_Call_Name_kw (ld_glob I hg hm ?_ hdb)⟩
  have hl : ([] ++ [] : List Value).length = ps.length := F.len [] H Q E0 h
  exact PySem.W.callWith_K0 I.kIn hk (run_G (args := ⟨[], []⟩) F hgd hr I (hb s [] I.kIn hl) .nil h)
def tFnK (n m : Nat) (sp : Sp) (gV : List V → List V → List V) (t tk : TA) : TE := fun σ H Q => t σ H fun vs H1 => tk σ H1 fun zs H2 => vs.length = n ∧ zs.length = m ∧ sp (gV vs zs) H2 Q E0
theorem pe_fnK {gV : List V → List V → List V} (C : FnK X.prog X.w X.K X.mg X.base x k ps sp n ks gV) (hgd : X.A.guards = some []) (hr : Room k X.A) (hg : Gl X x) (ha : PA X (e :: es) t) (hkw : PK X kws tk)
    (hall : (backToKw pos (keywordEach kws X.env)).all (·.1.isSome) = true := by rfl) (hks : (backToKw pos (keywordEach kws X.env)).filterMap (·.1) = ks := by rfl) (hdb : (x == ("__debug__" : Str)) = false := by decide)
    (he : starEach (e :: es) X.env = (false, eval e X.env) :: starEach es X.env := by rfl) (hpl : ((backTo pos (starEach (e :: es) X.env)).any (·.1) || (backToKw pos (keywordEach kws X.env)).any (·.1.isNone)) = false := by rfl) :
    PE X (.Call (.Name x p) (e :: es) kws pos) (tFnK n ks.length sp gV t tk) := by
  obtain ⟨f, fd, g, F, hm, hk, hb⟩ := C.ex
  refine ⟨fun pins s σ H Q I h => wpAny_Call_Name_kw (ld_glob I hg hm ?_ hdb)⟩
  refine PySem.W.callWith_KW (h₀ := X.base) I.ok.mod.kin hk hall (thn (ha.run pos pins s σ H _ I h) ?_) hpl he
  rintro us s1 ⟨vs, H1, I1, r, q⟩
  refine thn (hkw.run pos pins s1 σ H1 _ I1 q) ?_
  rintro ws s2 ⟨zs, H2, I2, rz, l1, l2, q2⟩
  refine ⟨I2.kIn, ?_⟩
  rw [hks]
  exact run_G (args := ⟨us, ks.zip ws⟩) F hgd hr I2 (hb.to s2 us ws I2.kIn (r.length.symm.trans l1) (rz.length.symm.trans l2)) (hb.rel r rz) q2
/-- keywords alone -/
theorem pe_fnK0 {gV : List V → List V → List V} (C : FnK X.prog X.w X.K X.mg X.base x k ps sp 0 ks gV) (hgd : X.A.guards = some []) (hr : Room k X.A) (hg : Gl X x) (hkw : PK X kws tk)
    (hall : (backToKw pos (keywordEach kws X.env)).all (·.1.isSome) = true := by rfl) (hks : (backToKw pos (keywordEach kws X.env)).filterMap (·.1) = ks := by rfl) (hdb : (x == ("__debug__" : Str)) = false := by decide)
    (hpl : ((backTo pos (starEach [] X.env)).any (·.1) || (backToKw pos (keywordEach kws X.env)).any (·.1.isNone)) = false := by rfl) :
    PE X (.Call (.Name x p) [] kws pos) (tFnK 0 ks.length sp gV tNil tk) := by
  obtain ⟨f, fd, g, F, hm, hk, hb⟩ := C.ex
  refine ⟨fun pins s σ H Q I h => wpAny_Call_Name_kw (ld_glob I hg hm ?_ hdb)⟩
  refine PySem.W.callWith_KW0 (h₀ := X.base) I.ok.mod.kin hk hall (thn (hkw.run pos pins s σ H _ I h) ?_) hpl
  rintro ws s2 ⟨zs, H2, I2, rz, l1, l2, q2⟩
  refine ⟨I2.kIn, ?_⟩
  rw [hks]
  exact run_G (args := ⟨[], ks.zip ws⟩) F hgd hr I2 (hb.to s2 [] ws I2.kIn rfl (rz.length.symm.trans l2)) (hb.rel .nil rz) q2
end

/-! ### promises by data -/
/-- arguments ss such that Pre; then some s such that Post -/
def Pm (K : PySem.W.Frag) (n : Nat) (Pre : Wd → Rho → Prop) (Post : Wd → Rho → Sl → Prop) : Sp := fun vs H Q _ => ∃ W F ss, Ok W F H ∧ Paired (VOk K W F H) vs ss ∧ (∀ s ∈ ss, NoLs s) ∧ ss.length = n ∧ Pre W ss ∧
  ∀ v F' H' s, Ok W F' H' → Step W F H F' H' → VOk K W F' H' v s → Post W ss s → Q v H'
section
variable {K : PySem.W.Frag} {W : Wd} {H0 F0 : Hp} {ρ : Rho} {P : Sl → Prop} {t tk : TA} {n : Nat} {Pre : Wd → Rho → Prop} {Post : Wd → Rho → Sl → Prop}
theorem pm_len (vs : List V) (H : Hp) (Q : VK) (E : XK) (h : Pm K n Pre Post vs H Q E) : vs.length = n := by
  obtain ⟨W, F, ss, _, h1, _, h2, _⟩ := h
  exact (Paired.length h1).trans h2
/-- a call -/
theorem ev_fn (h : EvA K W H0 t ρ fun ss => (∀ s ∈ ss, NoLs s) ∧ ss.length = n ∧ Pre W ss ∧ ∀ s, Post W ss s → P s) : Ev K W H0 (tFn (Pm K n Pre Post) t) ρ P := fun σ F H o ho Q q =>
  h σ F H o ho _ fun vs F1 H1 ss o1 st1 hv ⟨h1, h2, h3, h4⟩ => ⟨W, F1, ss, o1, hv, h1, h2, h3, fun v F2 H2 s o2 st2 hv2 p => q v F2 H2 s o2 (st1.trans o1 st2) hv2 (h4 s p)⟩
theorem ev_fnK {m l : Nat} {gV : List V → List V → List V} (gS : Rho → Rho → Rho) (hg : ∀ {F H : Hp} {vs zs : List V} {ss rs : Rho}, Paired (VOk K W F H) vs ss → Paired (VOk K W F H) zs rs → vs.length = m → zs.length = l → Paired (VOk K W F H) (gV vs zs) (gS ss rs))
    (h : EvA K W H0 t ρ fun ss => EvA K W H0 tk ρ fun rs => ss.length = m ∧ rs.length = l ∧ (∀ s ∈ gS ss rs, NoLs s) ∧ (gS ss rs).length = n ∧ Pre W (gS ss rs) ∧ ∀ s, Post W (gS ss rs) s → P s) : Ev K W H0 (tFnK m l (Pm K n Pre Post) gV t tk) ρ P := fun σ F H o ho Q q =>
  h σ F H o ho _ fun vs F1 H1 ss o1 st1 hv k => k σ F1 H1 o1 (ho.step st1) _ fun zs F2 H2 rs o2 st2 hz ⟨l1, l2, h1, h2, h3, h4⟩ => by
    have a1 := (Paired.length hv).trans l1
    have a2 := (Paired.length hz).trans l2
    exact ⟨a1, a2, W, F2, gS ss rs, o2, hg (pvok_step st2 hv) hz a1 a2, h1, h2, h3, fun v F3 H3 s o3 st3 hv3 p => q v F3 H3 s o3 ((st1.trans o1 st2).trans o2 st3) hv3 (h4 s p)⟩
/-- a body -/
theorem get_pair {α β : Type} {R : α → β → Prop} : ∀ {xs : List α} {ys : List β} {i : Nat} {y : β}, Paired R xs ys → ys[i]? = some y → ∃ x, xs[i]? = some x ∧ R x y
  | _, _, i, y, .nil, h => by simp at h
  | _, _, 0, y, .cons h t, e => by
    simp at e
    subst e
    exact ⟨_, rfl, h⟩
  | _, _, i + 1, y, .cons h t, e => by
    obtain ⟨x, h1, h2⟩ := get_pair (i := i) (y := y) t (by simpa using e)
    exact ⟨x, by simpa using h1, h2⟩
theorem holds_start {F H : Hp} {N : List Str} {vs : List V} {ss : Rho} (h : Paired (VOk K W F H) vs ss) (hn : ∀ s ∈ ss, NoLs s) (hl : ss.length ≤ N.length) : Holds K W H (L2.start N vs) F H (ss ++ List.replicate (N.length - ss.length) .un) := by
  have hlen := Paired.length h
  have nls : ∀ (i : Nat) (ds : List D), (ss ++ List.replicate (N.length - ss.length) Sl.un)[i]? ≠ some (.ls ds) := fun i ds e => by
    rcases List.mem_append.mp (List.mem_of_getElem? e) with m | m
    · exact hn _ m
    · have := List.eq_of_mem_replicate m
      cases this
  refine ⟨?_, fun i s e => ?_, fun i j ds es p _ e => absurd e (nls i ds)⟩
  · unfold L2.start
    rw [List.length_append, List.length_append, List.length_map, List.length_replicate, List.length_replicate, hlen]
  · by_cases hi : i < ss.length
    · rw [List.getElem?_append_left hi] at e
      obtain ⟨v, e1, e2⟩ := get_pair h e
      have es : (L2.start N vs)[i]? = some (some v) := by
        unfold L2.start
        rw [List.getElem?_append_left (by rw [List.length_map, hlen]; exact hi), List.getElem?_map, e1]
        rfl
      cases s with
      | un => trivial
      | dat d => exact ⟨v, es, e2⟩
      | ls ds => exact (hn _ (List.mem_of_getElem? e)).elim
      | rf u => rw [show v = u from e2] at es; exact es
      | kn k => exact ⟨v, es, e2⟩
      | ow p k => exact (hn _ (List.mem_of_getElem? e)).elim
    · rw [List.getElem?_append_right (by omega)] at e
      have := List.eq_of_mem_replicate (List.mem_of_getElem? e)
      subst this
      trivial
theorem pm_body {N : List Str} {ts : TS} {vs : List V} {H : Hp} {Q : VK} {E : XK} (hN : n ≤ N.length) (h : Pm K n Pre Post vs H Q E)
    (b : ∀ (W : Wd) (F : Hp) (ss : Rho), ss.length = n → Pre W ss → Sx K W H F ts (ss ++ List.replicate (N.length - ss.length) .un) { nx := fun _ => Post W ss (.dat .none), rt := Post W ss }) :
    ts { nx := fun _ H' => Q .non H', rt := Q } (L2.start N vs) H := by
  obtain ⟨W, F, ss, o, h1, h2, h3, h4, k⟩ := h
  refine b W F ss h3 h4 (L2.start N vs) F H ⟨o, Step.refl o, holds_start h1 h2 (by rw [h3]; exact hN)⟩ _ (fun σ' F' H' ρ' a _ p => k .non F' H' (.dat .none) a.ok a.st .non p) (fun v F' H' s o' st hv p => k v F' H' s o' st hv p) (fun _ _ _ _ _ _ f => f.elim) fun _ _ _ _ _ _ f => f.elim
end
end DL

namespace DL
open PySem L2 RZ PySem.Spec PyProof.Rows
section
variable {K : PySem.W.Frag} {W : Wd} {H0 F0 : Hp} {ρ : Rho} {P : Sl → Prop} {t tk : TA} {te : TE}
theorem ev_varx {i : Nat} (h : ∃ d, ρ[i]? = some (.dat d) ∧ P (.dat d)) : Ev K W H0 (tVar i) ρ P := let ⟨_, a, b⟩ := h; ev_var a b
theorem ev_ownx {i : Nat} (h : ∃ ds, ρ[i]? = some (.ls ds) ∧ P (.ls ds)) : Ev K W H0 (tVar i) ρ P := let ⟨_, a, b⟩ := h; ev_own a b
theorem ev_refx {i : Nat} (h : ∃ v, ρ[i]? = some (.rf v) ∧ P (.rf v)) : Ev K W H0 (tVar i) ρ P := let ⟨_, a, b⟩ := h; ev_ref a b
/-! ### plain functions of data -/
abbrev Pm1 (K : PySem.W.Frag) (p : D → Prop) (f : D → D) : Sp := Pm K 1 (fun _ ss => ∃ d, ss = [.dat d] ∧ p d) (fun _ ss s => ∀ d, ss = [.dat d] → s = .dat (f d))
abbrev Pm2 (K : PySem.W.Frag) (p : D → D → Prop) (f : D → D → D) : Sp := Pm K 2 (fun _ ss => ∃ d e, ss = [.dat d, .dat e] ∧ p d e) (fun _ ss s => ∀ d e, ss = [.dat d, .dat e] → s = .dat (f d e))
theorem ev_fn1 {p : D → Prop} {f : D → D} (h : EvA K W H0 t ρ fun ss => ∃ d, ss = [.dat d] ∧ p d ∧ P (.dat (f d))) : Ev K W H0 (tFn (Pm1 K p f) t) ρ P :=
  ev_fn fun σ F H o ho Q q => h σ F H o ho Q fun vs F' H' ss o' st hv ⟨d, e, hp, k⟩ => q vs F' H' ss o' st hv (by
    subst e
    refine ⟨fun s m => ?_, rfl, ⟨d, rfl, hp⟩, fun s hs => ?_⟩
    · rw [List.mem_singleton.mp m]
      trivial
    · rw [hs d rfl]
      exact k)
theorem ev_fn2 {p : D → D → Prop} {f : D → D → D} (h : EvA K W H0 t ρ fun ss => ∃ d e, ss = [.dat d, .dat e] ∧ p d e ∧ P (.dat (f d e))) : Ev K W H0 (tFn (Pm2 K p f) t) ρ P :=
  ev_fn fun σ F H o ho Q q => h σ F H o ho Q fun vs F' H' ss o' st hv ⟨d, d2, e, hp, k⟩ => q vs F' H' ss o' st hv (by
    subst e
    refine ⟨fun s m => ?_, rfl, ⟨d, d2, rfl, hp⟩, fun s hs => ?_⟩
    · rcases List.mem_cons.mp m with e | m
      · rw [e]
        trivial
      · rw [List.mem_singleton.mp m]
        trivial
    · rw [hs d d2 rfl]
      exact k)
theorem body1 {N : List Str} {ts : TS} {vs : List V} {H : Hp} {Q : VK} {E : XK} {p : D → Prop} {f : D → D} (hN : 1 ≤ N.length) (h : Pm1 K p f vs H Q E)
    (b : ∀ (W : Wd) (F : Hp) (d : D), p d → Sx K W H F ts (.dat d :: List.replicate (N.length - 1) .un) { nx := fun _ => f d = .none, rt := fun s => s = .dat (f d) }) : ts { nx := fun _ H' => Q .non H', rt := Q } (L2.start N vs) H :=
  pm_body hN h fun W F ss _ ⟨d, e, hp⟩ => by
    subst e
    exact (b W F d hp).mono (fun _ e d' e' => by cases e'; rw [e]) (fun s e d' e' => by cases e'; exact e) (fun _ f => f) fun _ f => f
theorem body2 {N : List Str} {ts : TS} {vs : List V} {H : Hp} {Q : VK} {E : XK} {p : D → D → Prop} {f : D → D → D} (hN : 2 ≤ N.length) (h : Pm2 K p f vs H Q E)
    (b : ∀ (W : Wd) (F : Hp) (d e : D), p d e → Sx K W H F ts (.dat d :: .dat e :: List.replicate (N.length - 2) .un) { nx := fun _ => f d e = .none, rt := fun s => s = .dat (f d e) }) : ts { nx := fun _ H' => Q .non H', rt := Q } (L2.start N vs) H :=
  pm_body hN h fun W F ss _ ⟨d, d2, e, hp⟩ => by
    subst e
    exact (b W F d d2 hp).mono (fun _ e d' d2' e' => by cases e'; rw [e]) (fun s e d' d2' e' => by cases e'; exact e) (fun _ f => f) fun _ f => f
end
/-! ### repr -/
mutual
theorem no_dict {K : PySem.W.Frag} {H : Hp} : ∀ {v : V} {d : D}, L2.Dp K H v d → d.hasDict = false
  | _, _, .non => by simp [PyData.hasDict]
  | _, _, .bl _ => by simp [PyData.hasDict]
  | _, _, .int _ => by simp [PyData.hasDict]
  | _, _, .str _ => by simp [PyData.hasDict]
  | _, _, .lst _ a => by simp only [PyData.hasDict]; exact no_dicts a
  | _, _, .tup _ a => by simp only [PyData.hasDict]; exact no_dicts a
theorem no_dicts {K : PySem.W.Frag} {H : Hp} : ∀ {vs : List V} {ds : List D}, L2.DpAll K H vs ds → PyData.hasDictAll ds = false
  | _, _, .nil => by simp [PyData.hasDictAll]
  | _, _, .cons h t => by simp only [PyData.hasDictAll, no_dict h, no_dicts t, Bool.or_false]
end
section
variable {X : Cx} {K : PySem.W.Frag} {W : Wd} {P : Sl → Prop} {k : Nat}
theorem call_reprD (hgd : X.A.guards = some []) (hr : Room k X.A) : CallR X (.builtin "repr") (rReprD X.K) := by
  intro pins s σ H xs us Q I r h
  obtain ⟨v, d, rfl, hd, hdep, hsh, hl, q⟩ := h
  obtain ⟨u, rfl, ru⟩ := vals1 r
  obtain ⟨as, rd⟩ := Dp.reads I d v u hd ru
  have hnd := no_dict hd
  cases hd with
  | non =>
    cases ru
    exact PySem.P.repr_of_none ⟨.str _, H, I.tok _, ⟨_, rfl⟩, by simpa only [PyData.shown] using q⟩
  | bl b =>
    cases ru
    refine PySem.P.repr_of_bool ⟨.str _, H, I.tok _, ⟨_, rfl⟩, ?_⟩
    simpa only [PyData.shown] using q
  | int i =>
    obtain ⟨t, rfl⟩ := ru
    have hi : i.natAbs.log2 < 1920 := of_decide_eq_true (by simpa only [PyData.showable] using hsh)
    exact PySem.P.repr_of_int hi ⟨.str _, H, I.tok _, ⟨_, rfl⟩, by simpa only [PyData.shown] using q⟩
  | str x =>
    obtain ⟨t, rfl⟩ := ru
    refine PySem.P.repr_of_str ⟨.str _, H, I.tok _, ⟨_, rfl⟩, ?_⟩ (hsz := ?_)
    · simpa only [PyData.shown] using q
    · simpa only [PyData.shown] using hl
  | lst hs ha =>
    cases ru
    have := hr.un
    refine repr_of_reads' rd hsh (fun z => by rw [hnd] at z; cases z) hgd (by omega) (fun _ _ e => e) ?_ hl
    intro h' u tk hk
    exact ⟨.str _, H, I.kept (t' := tk) hk, ⟨_, rfl⟩, q⟩
  | tup hs ha =>
    cases ru
    have := hr.un
    refine repr_of_reads' rd hsh (fun z => by rw [hnd] at z; cases z) hgd (by omega) (fun _ _ e => e) ?_ hl
    intro h' u tk hk
    exact ⟨.str _, H, I.kept (t' := tk) hk, ⟨_, rfl⟩, q⟩
/-- data that may be shown, so long -/
structure Shows (n : Nat) (d : D) : Prop where
  nice : Nice d
  len : d.shown.length ≤ n
theorem cas_repr {d : D} (h : Nice d) (hl : d.shown.length ≤ sizeLine) (p : P (.dat (.str d.shown))) : CaS K W (rReprD K) [.dat d] P := fun F H xs o hx Q q => by
  cases hx with
  | cons h1 h2 =>
    cases h2
    exact ⟨_, d, rfl, (dp_mono o.sub h1).old, Nat.le_trans h.dep (by decide), h.shw, hl, q _ F H (.dat (.str _)) o (Step.refl o) (.str _) p⟩
theorem cas_reprL {s : Sl} {ds : List D} (hs : LsOf s ds) (h : Nice (.list ds)) (hl : (PyData.shown (.list ds)).length ≤ sizeLine) (p : P (.dat (.str (PyData.shown (.list ds))))) : CaS K W (rReprD K) [s] P := fun F H xs o hx Q q => by
  cases hx with
  | cons h1 h2 =>
    cases h2
    exact ⟨_, .list ds, rfl, hs.dp o h1, Nat.le_trans h.dep (by decide), h.shw, hl, q _ F H (.dat (.str _)) o (Step.refl o) (.str _) p⟩
end
end DL

namespace DL
open PySem L2
/-! ### data of bounded size -/
mutual
/-- ints no greater than k, plain signs, no dicts -/
def okD (k : Nat) : D → Bool
  | .none | .bool _ => true
  | .int i => decide (i.natAbs ≤ k)
  | .str x => x.cps.toList.all fun c => decide (c < 128)
  | .list xs | .tuple xs => okDs k xs
  | .dict _ => false
def okDs (k : Nat) : List D → Bool
  | [] => true
  | x :: xs => okD k x && okDs k xs
end
theorem okDs_iff {k : Nat} : ∀ {xs : List D}, okDs k xs = true ↔ ∀ x ∈ xs, okD k x = true
  | [] => by simp [okDs]
  | x :: xs => by simp [okDs, okDs_iff (xs := xs)]
mutual
theorem okD_mono {k l : Nat} (h : k ≤ l) : ∀ {d : D}, okD k d = true → okD l d = true
  | .none, _ => rfl
  | .bool _, _ => rfl
  | .int i, e => by
    simp only [okD, decide_eq_true_eq] at e ⊢
    omega
  | .str x, e => by simpa only [okD] using e
  | .list xs, e => by
    simp only [okD] at e ⊢
    exact okDs_mono h e
  | .tuple xs, e => by
    simp only [okD] at e ⊢
    exact okDs_mono h e
  | .dict _, e => by simp [okD] at e
theorem okDs_mono {k l : Nat} (h : k ≤ l) : ∀ {xs : List D}, okDs k xs = true → okDs l xs = true
  | [], _ => rfl
  | x :: xs, e => by
    simp only [okDs, Bool.and_eq_true] at e ⊢
    exact ⟨okD_mono h e.1, okDs_mono h e.2⟩
end
mutual
theorem okD_lay {k : Nat} : ∀ {d : D}, okD k d = true → d.canLay0 = true
  | .none, _ => rfl
  | .bool _, _ => rfl
  | .int i, e => rfl
  | .str x, e => by
    simp only [okD, List.all_eq_true, decide_eq_true_eq] at e
    show (x.cps.all fun c => decide (c < 0x110000)) = true
    rw [← Array.all_toList, List.all_eq_true]
    intro c hc
    exact decide_eq_true (Nat.lt_of_lt_of_le (e c hc) (by decide))
  | .list xs, e => by
    simp only [okD] at e
    simp only [PyData.canLay0]
    exact okDs_lay e
  | .tuple xs, e => by
    simp only [okD] at e
    simp only [PyData.canLay0]
    exact okDs_lay e
  | .dict _, e => by simp [okD] at e
theorem okDs_lay {k : Nat} : ∀ {xs : List D}, okDs k xs = true → PyData.canLayAll0 xs = true
  | [], _ => rfl
  | x :: xs, e => by
    simp only [okDs, Bool.and_eq_true] at e
    simp only [PyData.canLayAll0, Bool.and_eq_true]
    exact ⟨okD_lay e.1, okDs_lay e.2⟩
end
def big : Nat := 2 * 10 ^ 59
theorem big_log {i : Int} (h : i.natAbs ≤ big) : i.natAbs.log2 < 1920 := by
  by_cases z : i.natAbs = 0
  · rw [z]
    decide
  · rw [Nat.log2_lt z]
    exact Nat.lt_of_le_of_lt h (by decide +kernel)
theorem big_len {i : Int} (h : i.natAbs ≤ big) : (PyData.shown (.int i)).length ≤ 62 := by
  have q : i.natAbs < 10 ^ 61 := Nat.lt_of_le_of_lt h (by decide +kernel)
  have e := int_text_length_le10 (a := i) (k := 61) (by decide) q
  simp only [PyData.shown]
  rw [ofString_length]
  exact e
mutual
theorem okD_shw : ∀ {d : D}, okD big d = true → d.showable = true ∧ d.leavesShort 62 = true
  | .none, _ => ⟨rfl, rfl⟩
  | .bool _, _ => ⟨rfl, rfl⟩
  | .int i, e => by
    simp only [okD, decide_eq_true_eq] at e
    exact ⟨by simp only [PyData.showable]; exact decide_eq_true (big_log e), by simp only [PyData.leavesShort]; exact decide_eq_true (big_len e)⟩
  | .str x, e => by
    simp only [okD, List.all_eq_true, decide_eq_true_eq] at e
    refine ⟨rfl, ?_⟩
    simp only [PyData.leavesShort, List.all_eq_true]
    intro c hc
    exact decide_eq_true (Nat.lt_of_lt_of_le (e c hc) (by decide))
  | .list xs, e => by
    simp only [okD] at e
    simp only [PyData.showable, PyData.leavesShort]
    exact okDs_shw e
  | .tuple xs, e => by
    simp only [okD] at e
    simp only [PyData.showable, PyData.leavesShort]
    exact okDs_shw e
  | .dict _, e => by simp [okD] at e
theorem okDs_shw : ∀ {xs : List D}, okDs big xs = true → PyData.showableAll xs = true ∧ PyData.leavesShortAll 62 xs = true
  | [], _ => ⟨rfl, rfl⟩
  | x :: xs, e => by
    simp only [okDs, Bool.and_eq_true] at e
    have h1 := okD_shw e.1
    have h2 := okDs_shw e.2
    simp only [PyData.showableAll, PyData.leavesShortAll, Bool.and_eq_true]
    exact ⟨⟨h1.1, h2.1⟩, h1.2, h2.2⟩
end
/-- data that may be handed to anything here -/
structure Fine (d : D) : Prop where
  ok : okD big d = true
  wt : d.weight ≤ 250000
  dep : d.depth ≤ 40
theorem Fine.nice {d : D} (h : Fine d) : Nice d := ⟨okD_lay h.ok, h.dep, (okD_shw h.ok).1⟩
theorem Fine.shaped {d : D} (h : Fine d) : SeqAt.shaped d = true := h.nice.shaped
theorem Fine.shown {d : D} (h : Fine d) : d.shown.length ≤ sizeLine := by
  have e := PyData.shown_le 62 (by decide) d (okD_shw h.ok).2
  have := h.wt
  rw [sizeLine_eq]
  omega
theorem wt_mem : ∀ {xs : List D} {x : D}, x ∈ xs → x.weight + 1 ≤ PyData.weightAll xs
  | y :: ys, x, h => by
    simp only [PyData.weightAll]
    rcases List.mem_cons.mp h with e | e
    · subst e
      omega
    · have := wt_mem e
      omega
theorem dep_mem : ∀ {xs : List D} {x : D}, x ∈ xs → x.depth ≤ PyData.depthAll xs
  | y :: ys, x, h => by
    simp only [PyData.depthAll]
    rcases List.mem_cons.mp h with e | e
    · subst e
      exact Nat.le_max_left _ _
    · exact Nat.le_trans (dep_mem e) (Nat.le_max_right _ _)
theorem wt_len : ∀ (xs : List D), xs.length ≤ PyData.weightAll xs
  | [] => Nat.zero_le _
  | x :: xs => by
    have := wt_len xs
    simp only [PyData.weightAll, List.length_cons]
    omega
theorem Fine.tup {ds : List D} (h : Fine (.tuple ds)) {d : D} (m : d ∈ ds) : Fine d := by
  obtain ⟨h1, h2, h3⟩ := h
  simp only [okD] at h1
  simp only [PyData.weight] at h2
  simp only [PyData.depth] at h3
  have a := wt_mem m
  have b := dep_mem m
  exact ⟨okDs_iff.mp h1 d m, by omega, by omega⟩
theorem Fine.lst {ds : List D} (h : Fine (.list ds)) {d : D} (m : d ∈ ds) : Fine d := by
  obtain ⟨h1, h2, h3⟩ := h
  simp only [okD] at h1
  simp only [PyData.weight] at h2
  simp only [PyData.depth] at h3
  have a := wt_mem m
  have b := dep_mem m
  exact ⟨okDs_iff.mp h1 d m, by omega, by omega⟩
theorem Fine.tlen {ds : List D} (h : Fine (.tuple ds)) : ds.length ≤ 250000 := by
  have h2 := h.wt
  simp only [PyData.weight] at h2
  exact Nat.le_trans (wt_len ds) h2
theorem Fine.slen {z : Str} (h : Fine (.str z)) : z.length ≤ 250000 := by
  have h2 := h.wt
  simp only [PyData.weight] at h2
  exact h2
theorem big_line {n : Nat} (h : n ≤ 250000) : n ≤ sizeLine := Nat.le_trans h (by decide)
theorem Fine.sline {z : Str} (h : Fine (.str z)) : z.length ≤ sizeLine := big_line h.slen
end DL

namespace DL
open PySem L2
/-! ### the source of drawn numbers: a dict of a list and three ints -/
structure Nm where
  c : Str
  a : Str
  l : Str
  n : Str
  ca : ¬ c = a
  cl : ¬ c = l
  cn : ¬ c = n
  al : ¬ a = l
  an : ¬ a = n
  ln : ¬ l = n
def fdict (m : Nm) (p : Addr) (t lf k : Int) : List (Key × V) := [(.inr m.c, .ref p), (.inr m.a, .int t), (.inr m.l, .int lf), (.inr m.n, .int k)]
section
variable {m : Nm} {p : Addr} {t lf k v : Int}
theorem inr_ne {a b : Str} (h : ¬ a = b) : ¬ ((Sum.inr a : Key) = Sum.inr b) := fun z => h (Sum.inr.inj z)
theorem fd_c : valV (fdict m p t lf k) (.inr m.c) = some (.ref p) := valV_pos rfl
theorem fd_a : valV (fdict m p t lf k) (.inr m.a) = some (.int t) := by
  unfold fdict
  rw [valV_neg (inr_ne m.ca), valV_pos rfl]
theorem fd_l : valV (fdict m p t lf k) (.inr m.l) = some (.int lf) := by
  unfold fdict
  rw [valV_neg (inr_ne m.cl), valV_neg (inr_ne m.al), valV_pos rfl]
theorem fd_n : valV (fdict m p t lf k) (.inr m.n) = some (.int k) := by
  unfold fdict
  rw [valV_neg (inr_ne m.cn), valV_neg (inr_ne m.an), valV_neg (inr_ne m.ln), valV_pos rfl]
theorem put_any {kvs : List (Key × V)} {q : Key} {w : V} (h : (kvs.any fun kv => decide (kv.1 = q)) = true) : putK kvs q w = kvs.map fun kv => if kv.1 = q then (kv.1, w) else kv := by
  unfold putK
  rw [if_pos h]
theorem fp_a : putK (fdict m p t lf k) (.inr m.a) (.int v) = fdict m p v lf k := by
  have h1 : ¬ m.l = m.a := fun z => m.al z.symm
  have h2 : ¬ m.n = m.a := fun z => m.an z.symm
  rw [put_any (by simp [fdict])]
  simp [fdict, m.ca, h1, h2]
theorem fp_l : putK (fdict m p t lf k) (.inr m.l) (.int v) = fdict m p t v k := by
  have h : ¬ m.n = m.l := fun z => m.ln z.symm
  rw [put_any (by simp [fdict])]
  simp [fdict, m.cl, m.al, h]
theorem fp_n : putK (fdict m p t lf k) (.inr m.n) (.int v) = fdict m p t lf v := by
  rw [put_any (by simp [fdict])]
  simp [fdict, m.cn, m.an, m.ln]
end
/-- the world with such a source at a, its list at l -/
def feedW (m : Nm) (a l : Addr) (cs : List Int) : Wd where
  Z := fun b => b = a ∨ b = l
  I := fun _ H => ∃ t lf k : Int, H a = some (.dK (fdict m l t lf k)) ∧ H l = some (.lst (cs.map V.int)) ∧ 0 ≤ t ∧ 0 ≤ lf ∧ 0 ≤ k
  stab := fun _ H _ H' ⟨t, lf, k, h1, h2, h3⟩ _ hk _ => ⟨t, lf, k, hk a _ (.inl rfl) h1, hk l _ (.inr rfl) h2, h3⟩
  back := fun _ _ _ _ _ h => h
section
variable {K : PySem.W.Frag} {H0 F0 : Hp} {ρ : Rho} {P : Sl → Prop} {te : TE} {m : Nm} {a l : Addr} {cs : List Int}
/-- the state of the source is changed -/
theorem feed_put {F H : Hp} {t lf k : Int} (o : Ok (feedW m a l cs) F H) (h0 : 0 ≤ t ∧ 0 ≤ lf ∧ 0 ≤ k) :
    Ok (feedW m a l cs) F (upd H a (.dK (fdict m l t lf k))) ∧ Step (feedW m a l cs) F H F (upd H a (.dK (fdict m l t lf k))) := by
  obtain ⟨t', lf', k', h1, h2, _⟩ := o.inv
  have hal : l ≠ a := fun z => by
    rw [z, h1] at h2
    cases h2
  refine ⟨⟨fun b u e => ?_, fun b hz => ⟨(o.z b hz).1, ?_⟩, ⟨t, lf, k, upd_same, by rw [upd_ne hal]; exact h2, h0⟩⟩, Same.refl _, fun b u hz e => ?_, fun b hf _ => hf⟩
  · have q : b ≠ a := fun z => by
      rw [z, (o.z a (.inl rfl)).1] at e
      cases e
    rw [upd_ne q]
    exact o.sub b u e
  · by_cases q : b = a
    · rw [q, upd_same]
      exact fun z => nomatch z
    · rw [upd_ne q]
      exact (o.z b hz).2
  · have q : b ≠ a := fun z => hz (.inl z)
    rw [upd_ne q]
    exact e
/-- reading an int of the source: any that isn't negative -/
theorem ev_fgetI {i : Nat} {x : Str} (hi : ρ[i]? = some (.rf (.ref a))) (hx : x = m.a ∨ x = m.l ∨ x = m.n) (p : ∀ v : Int, 0 ≤ v → P (.dat (.int v))) : Ev K (feedW m a l cs) H0 (tDGet (tVar i) (tC (.str x))) ρ P := fun σ F H o ho Q q => by
  obtain ⟨t, lf, k, h1, h2, h3, h4, h5⟩ := o.inv
  refine ⟨.ref a, ho.at_ i _ hi, ?_⟩
  rcases hx with e | e | e
  · subst e
    exact ⟨a, .int t, rfl, by have := DGet.k (k := .inr m.a) h1; rw [fd_a] at this; exact this, q _ F H (.dat (.int t)) o (Step.refl o) (.int _) (p t h3)⟩
  · subst e
    exact ⟨a, .int lf, rfl, by have := DGet.k (k := .inr m.l) h1; rw [fd_l] at this; exact this, q _ F H (.dat (.int lf)) o (Step.refl o) (.int _) (p lf h4)⟩
  · subst e
    exact ⟨a, .int k, rfl, by have := DGet.k (k := .inr m.n) h1; rw [fd_n] at this; exact this, q _ F H (.dat (.int k)) o (Step.refl o) (.int _) (p k h5)⟩
theorem ev_fgetC {i : Nat} (hi : ρ[i]? = some (.rf (.ref a))) (p : P (.rf (.ref l))) : Ev K (feedW m a l cs) H0 (tDGet (tVar i) (tC (.str m.c))) ρ P := fun σ F H o ho Q q => by
  obtain ⟨t, lf, k, h1, h2, h3, h4, h5⟩ := o.inv
  exact ⟨.ref a, ho.at_ i _ hi, a, .ref l, rfl, by have := DGet.k (k := .inr m.c) h1; rw [fd_c] at this; exact this, q _ F H (.rf (.ref l)) o (Step.refl o) rfl p⟩
/-- storing an int -/
theorem sx_fput {i : Nat} {x : Str} {N : Ends2} (hi : ρ[i]? = some (.rf (.ref a))) (hx : x = m.a ∨ x = m.l ∨ x = m.n) (h : Ev K (feedW m a l cs) H0 te ρ fun s => ∃ v : Int, s = .dat (.int v) ∧ 0 ≤ v ∧ N.nx ρ) : Sx K (feedW m a l cs) H0 F0 (sDPut (tVar i) (tC (.str x)) te) ρ N := fun σ F H at_ D n r b c => by
  refine h σ F H at_.ok at_.ho _ fun w F1 H1 s o1 st1 hw ⟨v, e, hv, k1⟩ => ?_
  subst e
  rw [vok_int hw]
  have a1 := at_.step o1 st1
  obtain ⟨t, lf, k, h1, h2, h3, h4, h5⟩ := o1.inv
  refine ⟨.ref a, a1.ho.at_ i _ hi, ?_⟩
  have hl : ∀ t lf k : Int, (fdict m l t lf k).length < sizeLine := fun _ _ _ => by
    show 4 < sizeLine
    decide
  rcases hx with e | e | e
  · subst e
    obtain ⟨o2, st2⟩ := feed_put (t := v) (lf := lf) (k := k) o1 ⟨hv, h4, h5⟩
    refine ⟨a, _, rfl, ?_, n σ F1 _ ρ (a1.step o2 st2) (st1.fz.trans st2.fz) k1⟩
    have := DPut.k (k := .inr m.a) (v := .int v) h1 (hl _ _ _)
    rw [fp_a] at this
    exact this
  · subst e
    obtain ⟨o2, st2⟩ := feed_put (t := t) (lf := v) (k := k) o1 ⟨h3, hv, h5⟩
    refine ⟨a, _, rfl, ?_, n σ F1 _ ρ (a1.step o2 st2) (st1.fz.trans st2.fz) k1⟩
    have := DPut.k (k := .inr m.l) (v := .int v) h1 (hl _ _ _)
    rw [fp_l] at this
    exact this
  · subst e
    obtain ⟨o2, st2⟩ := feed_put (t := t) (lf := lf) (k := v) o1 ⟨h3, h4, hv⟩
    refine ⟨a, _, rfl, ?_, n σ F1 _ ρ (a1.step o2 st2) (st1.fz.trans st2.fz) k1⟩
    have := DPut.k (k := .inr m.n) (v := .int v) h1 (hl _ _ _)
    rw [fp_n] at this
    exact this
/-- the source's list -/
theorem cas_flen (p : P (.dat (.int cs.length))) : CaS K (feedW m a l cs) (rLenA K) [.rf (.ref l)] P := fun F H xs o hx Q q => by
  obtain ⟨t, lf, k, h1, h2, _⟩ := o.inv
  cases hx with
  | cons e1 e2 =>
    cases e2
    rw [show _ = V.ref l from e1]
    refine ⟨_, cs.length, rfl, .inl ⟨_, SqL.of h2, by rw [List.length_map]⟩, q _ F H (.dat (.int _)) o (Step.refl o) (.int _) p⟩
theorem ops_fix {i : Int} (h0 : 0 ≤ i) (h1 : i < cs.length) (p : ∀ v : Int, P (.dat (.int v))) : OpS K (feedW m a l cs) (rIx K) (.rf (.ref l)) (.dat (.int i)) P := fun F H x y o hx hy Q q => by
  obtain ⟨t, lf, k, g1, g2, _⟩ := o.inv
  rw [show x = V.ref l from hx, vok_int hy]
  have hi : i.toNat < (cs.map V.int).length := by rw [List.length_map]; omega
  have e : (cs.map V.int)[i.toNat]? = some (.int (cs[i.toNat]'(by simpa using hi))) := by simp [show i.toNat < cs.length by simpa using hi]
  have e2 := atI_nat e
  rw [show ((i.toNat : Nat) : Int) = i by omega] at e2
  exact .inl ⟨l, _, i, _, rfl, rfl, SqL.of g2, e2, q _ F H (.dat (.int _)) o (Step.refl o) (.int _) (p _)⟩
theorem ints_dp {F : Hp} : ∀ ns : List Int, DpAll K F (ns.map V.int) (ns.map .int)
  | [] => .nil
  | n :: ns => .cons (.int n) (ints_dp ns)
theorem ints_lay : ∀ ns : List Int, PyData.canLayAll0 (ns.map .int) = true
  | [] => rfl
  | n :: ns => by
    show (PyData.canLay0 (.int n) && PyData.canLayAll0 (ns.map .int)) = true
    rw [ints_lay ns]
    rfl
theorem ints_dep : ∀ ns : List Int, PyData.depthAll (ns.map .int) = 0
  | [] => rfl
  | n :: ns => by
    show max (PyData.depth (.int n)) (PyData.depthAll (ns.map .int)) = 0
    rw [ints_dep ns]
    rfl
theorem ops_fne (p : P (.dat (.bool (!cs.isEmpty)))) : OpS K (feedW m a l cs) (rNe2 K) (.rf (.ref l)) (.dat (.list [])) P := OpS.inl fun F H x y o hx hy Q q => by
  obtain ⟨t, lf, k, g1, g2, _⟩ := o.inv
  rw [show x = V.ref l from hx]
  refine ⟨.list (cs.map .int), .list [], .lst (SqL.of g2) (ints_dp (K := K) (F := H) cs).old, (dp_mono o.sub hy).old, ?_, by decide +kernel, ?_⟩
  · show ((PyData.list (cs.map .int)).canLay0 && decide ((PyData.list (cs.map .int)).depth ≤ 64)) = true
    simp only [PyData.canLay0, PyData.depth, ints_lay, ints_dep]
    rfl
  · have e : PyData.eqv (.list (cs.map .int)) (.list []) = cs.isEmpty := by cases cs <;> simp [PyData.eqv, PyData.eqvAll]
    rw [e]
    exact q _ F H (.dat (.bool _)) o (Step.refl o) (.bl _) p
/-! ### functions that draw -/
theorem dat_inj : ∀ {ds es : List D}, ds.map Sl.dat = es.map Sl.dat → ds = es
  | [], [], _ => rfl
  | [], _ :: _, h => by cases h
  | _ :: _, [], h => by cases h
  | d :: ds, e :: es, h => by
    rw [List.map_cons, List.map_cons] at h
    injection h with h1 h2
    injection h1 with h1
    rw [h1, dat_inj h2]
abbrev PmF (nm : Nm) (K : PySem.W.Frag) (n : Nat) (pre : List D → Prop) (post : List D → D → Prop) : Sp := Pm K (n + 1)
  (fun W ss => ∃ a l cs ds, W = feedW nm a l cs ∧ ss = .rf (.ref a) :: ds.map .dat ∧ ds.length = n ∧ pre ds) (fun _ ss s => ∀ v ds, ss = v :: ds.map .dat → ∃ d, s = .dat d ∧ post ds d)
theorem nols_dat (ds : List D) : ∀ s ∈ ds.map Sl.dat, NoLs s := fun s h => by
  obtain ⟨d, _, rfl⟩ := List.mem_map.mp h
  trivial
theorem ev_fnF {n : Nat} {pre : List D → Prop} {post : List D → D → Prop} {t : TA} (h : EvA K (feedW m a l cs) H0 t ρ fun ss => ∃ ds, ss = .rf (.ref a) :: ds.map .dat ∧ ds.length = n ∧ pre ds ∧ ∀ d, post ds d → P (.dat d)) :
    Ev K (feedW m a l cs) H0 (tFn (PmF m K n pre post) t) ρ P :=
  ev_fn fun σ F H o ho Q q => h σ F H o ho Q fun vs F' H' ss o' st hv ⟨ds, e, hl, hp, k⟩ => q vs F' H' ss o' st hv (by
    subst e
    refine ⟨fun s hs => ?_, by simp [hl], ⟨a, l, cs, ds, rfl, rfl, hl, hp⟩, fun s hs => ?_⟩
    · rcases List.mem_cons.mp hs with e | e
      · rw [e]
        trivial
      · exact nols_dat ds s e
    · obtain ⟨d, e, hd⟩ := hs _ ds rfl
      rw [e]
      exact k d hd)
theorem bodyF {N : List Str} {ts : TS} {vs : List V} {H : Hp} {Q : VK} {E : XK} {nm : Nm} {n : Nat} {pre : List D → Prop} {post : List D → D → Prop} (hN : n + 1 ≤ N.length) (h : PmF nm K n pre post vs H Q E)
    (b : ∀ (a l : Addr) (cs : List Int) (F : Hp) (ds : List D), ds.length = n → pre ds → Sx K (feedW nm a l cs) H F ts (.rf (.ref a) :: (ds.map .dat ++ List.replicate (N.length - (n + 1)) .un)) { nx := fun _ => post ds .none, rt := fun s => ∃ d, s = .dat d ∧ post ds d }) :
    ts { nx := fun _ H' => Q .non H', rt := Q } (L2.start N vs) H :=
  pm_body hN h fun W F ss hss ⟨a, l, cs, ds, eW, e, hl, hp⟩ => by
    subst e eW
    have e2 : (Sl.rf (V.ref a) :: ds.map Sl.dat).length = n + 1 := by simp [hl]
    have := b a l cs F ds hl hp
    rw [e2]
    refine this.mono (fun _ p v es he => ?_) (fun s p v es he => ?_) (fun _ f => f) fun _ f => f
    · injection he with _ he
      rw [← dat_inj he]
      exact ⟨_, rfl, p⟩
    · injection he with _ he
      rw [← dat_inj he]
      exact p
end
end DL

namespace DL
open PySem L2
/-! ### bounds of what is drawn and bent -/
theorem atI_in {α : Type} {ds : List α} {i : Int} (h0 : 0 ≤ i) (h1 : i < ds.length) : ∃ d, atI ds i = some d ∧ d ∈ ds := by
  have hi : i.toNat < ds.length := by omega
  have e := atI_nat (List.getElem?_eq_getElem hi)
  rw [show ((i.toNat : Nat) : Int) = i by omega] at e
  exact ⟨_, e, List.getElem_mem hi⟩
/-- ints to k, so heavy, so deep at the most -/
structure Bd (k w n : Nat) (d : D) : Prop where
  ok : okD k d = true
  wt : d.weight ≤ w
  dep : d.depth ≤ n
structure Bds (k w n : Nat) (ds : List D) : Prop where
  ok : okDs k ds = true
  wt : PyData.weightAll ds ≤ w
  dep : PyData.depthAll ds ≤ n
section
variable {k w n k' w' n' : Nat} {d : D} {ds es : List D}
theorem Bd.mono (h : Bd k w n d) (a : k ≤ k') (b : w ≤ w') (c : n ≤ n') : Bd k' w' n' d := ⟨okD_mono a h.ok, Nat.le_trans h.wt b, Nat.le_trans h.dep c⟩
theorem Bds.mono (h : Bds k w n ds) (a : k ≤ k') (b : w ≤ w') (c : n ≤ n') : Bds k' w' n' ds := ⟨okDs_mono a h.ok, Nat.le_trans h.wt b, Nat.le_trans h.dep c⟩
theorem Bd.fine (h : Bd k w n d) (a : k ≤ big) (b : w ≤ 250000) (c : n ≤ 40) : Fine d := ⟨okD_mono a h.ok, Nat.le_trans h.wt b, Nat.le_trans h.dep c⟩
theorem bd_tup : Bd k w (n + 1) (.tuple ds) ↔ Bds k w n ds := by
  constructor
  · rintro ⟨a, b, c⟩
    simp only [okD] at a
    simp only [PyData.weight] at b
    simp only [PyData.depth] at c
    exact ⟨a, b, by omega⟩
  · rintro ⟨a, b, c⟩
    refine ⟨by simpa only [okD] using a, by simpa only [PyData.weight] using b, ?_⟩
    simp only [PyData.depth]
    omega
theorem bd_lst : Bd k w (n + 1) (.list ds) ↔ Bds k w n ds := by
  constructor
  · rintro ⟨a, b, c⟩
    simp only [okD] at a
    simp only [PyData.weight] at b
    simp only [PyData.depth] at c
    exact ⟨a, b, by omega⟩
  · rintro ⟨a, b, c⟩
    refine ⟨by simpa only [okD] using a, by simpa only [PyData.weight] using b, ?_⟩
    simp only [PyData.depth]
    omega
theorem bds_nil : Bds k w n [] := ⟨rfl, Nat.zero_le _, Nat.zero_le _⟩
theorem bds_cons {a b : Nat} (h : Bd k a n d) (h' : Bds k b n ds) : Bds k (a + 1 + b) n (d :: ds) := by
  refine ⟨by simp only [okDs, h.ok, h'.ok, Bool.and_self], ?_, ?_⟩
  · have := h.wt
    have := h'.wt
    simp only [PyData.weightAll]
    omega
  · have := h.dep
    have := h'.dep
    simp only [PyData.depthAll]
    omega
theorem wt_app : ∀ (xs ys : List D), PyData.weightAll (xs ++ ys) = PyData.weightAll xs + PyData.weightAll ys
  | [], ys => by simp [PyData.weightAll]
  | x :: xs, ys => by
    have := wt_app xs ys
    simp only [List.cons_append, PyData.weightAll]
    omega
theorem dep_app : ∀ (xs ys : List D), PyData.depthAll (xs ++ ys) = max (PyData.depthAll xs) (PyData.depthAll ys)
  | [], ys => by simp [PyData.depthAll]
  | x :: xs, ys => by
    have := dep_app xs ys
    simp only [List.cons_append, PyData.depthAll]
    omega
theorem ok_app {xs ys : List D} : okDs k (xs ++ ys) = (okDs k xs && okDs k ys) := by
  induction xs with
  | nil => simp [okDs]
  | cons x xs ih =>
    simp only [List.cons_append, okDs, ih, Bool.and_assoc]
theorem bds_app {a b : Nat} (h : Bds k a n ds) (h' : Bds k b n es) : Bds k (a + b) n (ds ++ es) := by
  refine ⟨by rw [ok_app, h.ok, h'.ok]; rfl, ?_, ?_⟩
  · have := h.wt
    have := h'.wt
    rw [wt_app]
    omega
  · have := h.dep
    have := h'.dep
    rw [dep_app]
    omega
theorem bds_sub (h : Bds k w n ds) : ∀ {es : List D}, es.Sublist ds → Bds k w n es := fun {es} s => by
  obtain ⟨a, b, c⟩ := h
  induction s generalizing w with
  | slnil => exact bds_nil
  | cons x s ih =>
    simp only [okDs, Bool.and_eq_true] at a
    simp only [PyData.weightAll] at b
    simp only [PyData.depthAll] at c
    exact (ih (w := w) a.2 (by omega) (by omega))
  | cons_cons x s ih =>
    simp only [okDs, Bool.and_eq_true] at a
    simp only [PyData.weightAll] at b
    simp only [PyData.depthAll] at c
    have := ih (w := w - x.weight - 1) a.2 (by omega) (by omega)
    exact (bds_cons (a := x.weight) ⟨a.1, Nat.le_refl _, by omega⟩ this).mono (Nat.le_refl _) (by omega) (Nat.le_refl _)
theorem bds_perm {xs ys : List D} (p : xs.Perm ys) (h : Bds k w n xs) : Bds k w n ys := by
  refine ⟨?_, ?_, ?_⟩
  · rw [okDs_iff]
    intro y hy
    exact okDs_iff.mp h.ok y (p.mem_iff.mpr hy)
  · have : PyData.weightAll xs = PyData.weightAll ys := by
      induction p with
      | nil => rfl
      | cons x _ ih =>
        simp only [PyData.weightAll]
        rw [ih ⟨(by have := h.ok; simp only [okDs, Bool.and_eq_true] at this; exact this.2), (by have := h.wt; simp only [PyData.weightAll] at this; omega), (by have := h.dep; simp only [PyData.depthAll] at this; omega)⟩]
      | swap x y l =>
        simp only [PyData.weightAll]
        omega
      | trans p1 _ ih1 ih2 =>
        rw [ih1 h]
        refine ih2 ⟨?_, ?_, ?_⟩
        · rw [okDs_iff]
          intro y hy
          exact okDs_iff.mp h.ok y (p1.mem_iff.mpr hy)
        · rw [← ih1 h]
          exact h.wt
        · refine Nat.le_trans (dep_sub fun y hy => p1.mem_iff.mpr hy) h.dep
    rw [← this]
    exact h.wt
  · exact Nat.le_trans (dep_sub fun y hy => p.mem_iff.mpr hy) h.dep
where
  dep_sub {xs ys : List D} (h : ∀ y ∈ ys, y ∈ xs) : PyData.depthAll ys ≤ PyData.depthAll xs := by
    induction ys with
    | nil => exact Nat.zero_le _
    | cons y ys ih =>
      simp only [PyData.depthAll]
      exact Nat.max_le.mpr ⟨dep_mem (h y (by simp)), ih fun z hz => h z (List.mem_cons_of_mem _ hz)⟩
theorem bds_rev (h : Bds k w n ds) : Bds k w n ds.reverse := bds_perm (List.reverse_perm ds).symm h
theorem bds_mem (h : Bds k w n ds) (m : d ∈ ds) : Bd k w n d := by
  have a := wt_mem m
  have b := dep_mem m
  have := h.wt
  have := h.dep
  exact ⟨okDs_iff.mp h.ok d m, by omega, by omega⟩
theorem bds_cut (h : Bds k w n ds) (lo hi : Option Int) : Bds k w n (cutD ds lo hi) := bds_sub h ((List.take_sublist _ _).trans (List.drop_sublist _ _))
end
section
variable {K : PySem.W.Frag} {W : Wd} {P : Sl → Prop} {ds es : List D} {s t : Sl}
/-- what is put together is kept as it is -/
theorem ops_catF (hs : LsOf s ds) (ht : LsOf t es) (hl : ds.length + es.length ≤ sizeLine) (p : P (.dat (.list (ds ++ es)))) : OpS K W (rAdd4 K) s t P := fun F H x y o hx hy Q q => by
  obtain ⟨a, xs, rfl, a1, a2⟩ := hs.get o hx
  obtain ⟨b, ys, rfl, b1, b2⟩ := ht.get o hy
  refine .inl (.inr ⟨a, b, xs, ys, rfl, rfl, a1, b1, by rw [dpa_len a2, dpa_len b2]; exact hl, fun p' hp => ?_⟩)
  obtain ⟨o2, st2⟩ := o.new (u := .lst (xs ++ ys)) hp
  exact q _ _ _ (.dat (.list (ds ++ es))) o2 st2 (.lst upd_same (dpa_mono st2.fz (dpa_app a2 b2))) p
theorem cas_listF (hs : SqOf s ds) (p : P (.dat (.list ds))) : CaS K W (rListOf K) [s] P := fun F H xs o hx Q q => by
  cases hx with
  | cons e1 e2 =>
    cases e2
    obtain ⟨a, vs, rfl, a1, a2⟩ := hs.get o e1
    refine ⟨a, vs, rfl, a1, fun l hl => ?_⟩
    obtain ⟨o2, st2⟩ := o.new (u := .lst vs) hl
    exact q _ _ _ (.dat (.list ds)) o2 st2 (.lst upd_same (dpa_mono st2.fz a2)) p
end
end DL

/-! ### xs[::-1] of a tuple or a list -/
namespace DL
open PySem PySem.Spec PyProof.Rows HT L2
section
variable {prog : Program} {w : World} {A : Around} {E : Value → Shared → Prop} {s : Shared}
theorem pick_same {α β : Type} {f g : α → Option β} : ∀ {l : List α}, (∀ x ∈ l, f x = g x) → l.filterMap f = l.filterMap g
  | [], _ => rfl
  | x :: l, h => by
    rw [List.filterMap_cons, List.filterMap_cons, h x (by simp), pick_same fun y hy => h y (List.mem_cons_of_mem _ hy)]
theorem back_run (zs : Array Value) : ((List.range zs.size).filterMap fun (k : Nat) => zs[((zs.size : Int) - 1 + (k : Int) * -1).toNat]?).toArray = zs.toList.reverse.toArray := by
  have h1 := pick_gen zs.toList.reverse.toArray 0 zs.size
  rw [List.drop_zero, List.take_of_length_le (by simp)] at h1
  rw [show zs.toList.reverse.toArray.toList.toArray = zs.toList.reverse.toArray by simp] at h1
  rw [← h1]
  refine congrArg List.toArray (pick_same fun k hk => ?_)
  have hk := List.mem_range.mp hk
  rw [show ((zs.size : Int) - 1 + (k : Int) * -1).toNat = zs.size - 1 - k by omega, show (((0 : Nat) : Int) + (k : Int) * 1).toNat = k by omega]
  simp [List.getElem?_reverse, hk]
theorem back_cut {sl : Addr} {v1 v2 v3 : Value} {n : Nat} {Q : Int × Int × Nat → Shared → Prop} (hs : s.heap.IsSliceOf sl v1 v2 v3) (p1 : IsPart v1 none) (p2 : IsPart v2 none) (p3 : IsPart v3 (some (-1)))
    (h : Q ((n : Int) - 1, -1, n) s) : wpAny (model prog w) A (Builtin.Slice.sliceApplied (.ref sl) (pure (n : Int))) Q E s := by
  obtain ⟨ob, e1, e2, e3⟩ := id hs
  unfold Builtin.Slice.sliceApplied Builtin.Slice.sliceFields
  refine wpAny_bind (wpAny_bind (wpAny_field e1 e3 (x := v1) rfl (wpAny_bind (wpAny_field e1 e3 (x := v2) rfl (wpAny_bind (wpAny_field e1 e3 (x := v3) rfl (wpAny_pure ?_)))))))
  refine wpAny_bind (slicePart_ p3 ?_)
  show wpAny _ _ (if ((-1 : Int) == 0) = true then _ else _) _ _ s
  rw [if_neg (by decide)]
  refine wpAny_bind (slicePart_ p1 (wpAny_bind (slicePart_ p2 (wpAny_bind (wpAny_pure ?_)))))
  have e : Builtin.Slice.slicePlaces ((n : Int) - 1) (-1) (-1) = n := by
    unfold Builtin.Slice.slicePlaces
    by_cases z : (n : Int) - 1 > -1
    · simp [z]
    · have : n = 0 := by omega
      subst this
      simp
  show wpAny _ _ (pure ((n : Int) - 1, (-1 : Int), Builtin.Slice.slicePlaces ((n : Int) - 1) (-1) (-1))) _ _ s
  rw [e]
  exact wpAny_pure h
theorem back_tup {t sl : Addr} {zs : Array Value} {v1 v2 v3 : Value} {Q : Value → Shared → Prop} (h1 : IsTup s.heap t zs) (hs : s.heap.IsSliceOf sl v1 v2 v3) (p1 : IsPart v1 none) (p2 : IsPart v2 none) (p3 : IsPart v3 (some (-1)))
    (h : Q (.ref s.heap.objs.size) { s with heap := s.heap.push { cls := .type "tuple", data := .seq zs.toList.reverse.toArray } }) (hz : zs.size ≤ sizeLine) : wpAny (model prog w) A (getItem (.ref t) (.ref sl)) Q E s := by
  have hfit : sizeOk (.seq zs.toList.reverse.toArray) := by
    show zs.toList.reverse.toArray.size ≤ sizeLine
    rw [List.size_toArray, List.length_reverse, Array.length_toList]
    exact hz
  obtain ⟨ob, e1, e2, e3⟩ := id hs
  have hT : s.TypeIs (.ref sl) "slice" := ⟨ob, e1, e2⟩
  unfold getItem
  try with_reducible refine wpAny_holding ?_
  first | refine wpAny_bind (wpAny_pure ?_) | skip
  refine wpAny_bind (wpAny_sequenceKey h1.typeIs (by decide) ?_)
  refine wpAny_bind (wpAny_callSpecial?_slot (name := Str.ofString "__getitem__") h1.typeIs PyProof.Rows.slot_tuple_getitem (wpAny_call_entry PyProof.Rows.slot_tuple_getitem h1.typeIs entry_tuple_getitem ?_ (args_tuple_getitem _ _)))
  show wpAny _ _ (Builtin.Tuple.tupleItemsOf (.ref t) >>= _) _ _ s
  refine wpAny_bind (tupleItemsOf_ h1 ?_)
  refine wpAny_bind (wpAny_typeOf hT ?_)
  rw [if_pos (by decide)]
  refine wpAny_bind (back_cut hs p1 p2 p3 ?_)
  have hno : ¬ ((((zs.size : Int) - 1) == 0 && (-1 : Int) == 1 && zs.size == zs.size) = true) := by simp
  show wpAny _ _ (if (((zs.size : Int) - 1) == 0 && (-1 : Int) == 1 && zs.size == zs.size) = true then _ else _) _ _ s
  rw [if_neg hno, back_run]
  first
    | exact wpAny_bind (m := Builtin.Tuple.tupleExact _) (wpAny_newObj_type (wpAny_pure ⟨_, rfl, wpAny_pure h⟩) hfit)
    | exact wpAny_bind (m := Builtin.Tuple.tupleExact _) (wpAny_newObj_type (wpAny_bind (wpAny_pure (wpAny_pure ⟨_, rfl, wpAny_pure h⟩))) hfit)
    | exact wpAny_bind (wpAny_bind (m := Builtin.Tuple.tupleExact _) (wpAny_newObj_type (wpAny_pure (wpAny_pure ⟨_, rfl, wpAny_pure h⟩)) hfit))
    | exact wpAny_bind (wpAny_bind (m := Builtin.Tuple.tupleExact _) (wpAny_newObj_type (wpAny_pure ⟨_, rfl, wpAny_pure h⟩) hfit))
end
section
variable {X : Cx}
/-- xs[::-1]: a new one of the same kind -/
def tRevA (K : PySem.W.Frag) (te : TE) : TE := fun σ H Q => te σ H fun x H1 => ∃ a xs, x = .ref a ∧
  ((SqL K H1 a xs ∧ ∀ p, H1 p = none → Q (.ref p) (upd H1 p (.lst xs.reverse))) ∨ (SqT K H1 a xs ∧ ∀ p, H1 p = none → Q (.ref p) (upd H1 p (.tup xs.reverse))))
theorem pe_revA {e : Expr} {te : TE} {k : Nat} {q1 q2 q3 pos : Pos} (he : PE X e te) : PE X (.Subscript e (.Slice none none (some (.UnaryOp .USub (.Constant (.int 1) k q1) q2)) q3) pos) (tRevA X.K te) := by
  refine ⟨fun pins s σ H Q I h => Subscript_ (thn (he.run pins s σ H _ I h) fun v sa ⟨x, Ha, Ia, ra, a, xs, ex, q⟩ => ?_)⟩
  subst ex
  cases ra
  refine wpAny_Slice (thn (po_none.run pins sa σ Ha (fun o H2 => o = none ∧ H2 = Ha) Ia ⟨rfl, rfl⟩) fun vl sb ⟨l, Hb, Ib, pl, el, eb⟩ => ?_)
  subst el eb
  refine thn (po_none.run pins sb σ Hb (fun o H3 => o = none ∧ H3 = Hb) Ib ⟨rfl, rfl⟩) fun vu sc ⟨u, Hc, Ic, pu, eu, ec⟩ => ?_
  subst eu ec
  refine thn ((po_some (X := X) (pe_un un_neg (pe_int (X := X)))).run pins sc σ Hc (fun o H4 => o = some (-1) ∧ H4 = Hc) Ic ⟨1, rfl, -1, rfl, rfl, rfl⟩) fun vs sd ⟨o, Hd, Id, ps, eo, ed⟩ => ?_
  subst eo ed
  have J : Inv X pins σ Hd { sd with heap := sd.heap.push { cls := .type "slice", data := .fields #[vl, vu, vs] } } := Id.kept (t' := sd.toks) fun b ob q => Heap.get?_push_of_some _ q
  show wpAny (model X.prog X.w) X.A (subscriptTail e _ (.ref a) (.ref sd.heap.objs.size)) (EP X pins σ Q) X.xe _
  rcases q with ⟨hx, q⟩ | ⟨hx, q⟩
  · obtain ⟨its, r, ht, hz⟩ := J.list hx
    have hn := r.length
    refine tail_any (ops := [.ref a, .ref sd.heap.objs.size]) ht.isList.typeIs (PySem.slot_list_getitem.lookup) ?_ (by with_unfolding_all rfl)
    refine wpAny_getItem_list_slice ht.isList (Heap.IsSliceOf.new _ vl vu vs) pl pu ps (by decide) ?_ (by rw [List.size_toArray]; omega)
    rw [PySem.W.krv_pick]
    refine ⟨.ref _, _, J.laid (t' := sd.toks) (o := .lst xs.reverse) (fun b ob q => Heap.get?_push_of_some _ q) (Nat.le_refl _) ?_, rfl, q _ (J.hok.fresh (Nat.le_refl _))⟩
    exact ⟨by rw [List.length_reverse]; exact hz, _, 0, r.reverse, Heap.get?_push_size _ rfl⟩
  · obtain ⟨its, r, ht, hz⟩ := J.tuple hx
    have hn := r.length
    refine tail_any (ops := [.ref a, .ref sd.heap.objs.size]) ht.typeIs (PyProof.Rows.slot_tuple_getitem.lookup) ?_ (by with_unfolding_all rfl)
    refine back_tup ht (Heap.IsSliceOf.new _ vl vu vs) pl pu ps ?_ (by rw [List.size_toArray]; omega)
    refine ⟨.ref _, _, J.laid (t' := sd.toks) (o := .tup xs.reverse) (fun b ob q => Heap.get?_push_of_some _ q) (Nat.le_refl _) ?_, rfl, q _ (J.hok.fresh (Nat.le_refl _))⟩
    exact ⟨by rw [List.length_reverse]; exact hz, _, r.reverse, IsTup.new _ _⟩
end
section
variable {K : PySem.W.Frag} {W : Wd} {H0 : Hp} {ρ : Rho} {P : Sl → Prop} {te : TE} {ds : List D}
theorem ev_rev (h : Ev K W H0 te ρ fun s => ∃ ds, (s = .dat (.tuple ds) ∧ P (.dat (.tuple ds.reverse))) ∨ (LsOf s ds ∧ P (.dat (.list ds.reverse)))) : Ev K W H0 (tRevA K te) ρ P := fun σ F H o ho Q q => by
  refine h σ F H o ho _ fun v F1 H1 s o1 st1 hv ⟨ds, h1⟩ => ?_
  rcases h1 with ⟨e, p⟩ | ⟨e, p⟩
  · subst e
    obtain ⟨a, xs, rfl, a1, a2⟩ := dp_tup hv
    refine ⟨a, xs, rfl, .inr ⟨Or.inl (rd_mono o1.sub a1), fun l hl => ?_⟩⟩
    obtain ⟨o2, st2⟩ := o1.new (u := .tup xs.reverse) hl
    exact q _ _ _ (.dat (.tuple ds.reverse)) o2 (st1.trans o1 st2) (.tup (.inl upd_same) (dpa_rev (dpa_mono st2.fz a2))) p
  · obtain ⟨a, xs, rfl, a1, a2⟩ := e.get o1 hv
    refine ⟨a, xs, rfl, .inl ⟨SqL.of a1, fun l hl => ?_⟩⟩
    obtain ⟨o2, st2⟩ := o1.new (u := .lst xs.reverse) hl
    exact q _ _ _ (.dat (.list ds.reverse)) o2 (st1.trans o1 st2) (.lst upd_same (dpa_rev (dpa_mono st2.fz a2))) p
theorem ev_revT (h : Ev K W H0 te ρ fun s => ∃ ds, s = .dat (.tuple ds) ∧ P (.dat (.tuple ds.reverse))) : Ev K W H0 (tRevA K te) ρ P := ev_rev (h.mono fun s ⟨ds, e, p⟩ => ⟨ds, .inl ⟨e, p⟩⟩)
end
end DL

namespace DL
open PySem L2
/-! ### texts: bounds, upper, str(n) -/
section
variable {k w n m : Nat} {x y : Str}
/-- plain signs, so long at the most -/
structure Bt (w : Nat) (x : Str) : Prop where
  ok : ∀ c ∈ x.cps.toList, c < 128
  len : x.length ≤ w
theorem bd_str : Bd k w n (.str x) ↔ Bt w x := by
  constructor
  · rintro ⟨a, b, _⟩
    simp only [okD, List.all_eq_true, decide_eq_true_eq] at a
    simp only [PyData.weight] at b
    exact ⟨a, b⟩
  · rintro ⟨a, b⟩
    refine ⟨?_, by simp only [PyData.weight]; exact b, by simp [PyData.depth]⟩
    simp only [okD, List.all_eq_true, decide_eq_true_eq]
    exact a
theorem Bt.mono {v : Nat} (h : Bt w x) (l : w ≤ v) : Bt v x := ⟨h.ok, Nat.le_trans h.len l⟩
theorem bt_lit (x : Str) (h : (x.cps.toList.all fun c => decide (c < 128)) = true := by decide +kernel) : Bt x.length x := ⟨fun c hc => of_decide_eq_true (List.all_eq_true.mp h c hc), Nat.le_refl _⟩
theorem bt_app {v : Nat} (h : Bt w x) (h' : Bt v y) : Bt (w + v) (x ++ y) := by
  obtain ⟨a, b⟩ := h
  obtain ⟨c, d⟩ := h'
  have e : (x ++ y).cps.toList = x.cps.toList ++ y.cps.toList := by
    show (x.cps ++ y.cps).toList = _
    rw [Array.toList_append]
  refine ⟨fun z hz => ?_, ?_⟩
  · rw [e] at hz
    rcases List.mem_append.mp hz with q | q
    · exact a z q
    · exact c z q
  · show (x.cps ++ y.cps).size ≤ _
    rw [Array.size_append]
    exact Nat.add_le_add b d
theorem bt_cut (h : Bt w x) (lo hi : Option Int) : Bt w (cutS x lo hi) := by
  obtain ⟨a, b⟩ := h
  have e : (cutS x lo hi).cps.toList = ((x.cps.toList.drop (HT.sIx x.length 0 lo)).take (HT.sIx x.length x.length hi - HT.sIx x.length 0 lo)) := rfl
  refine ⟨fun z hz => ?_, ?_⟩
  · rw [e] at hz
    exact a z (List.mem_of_mem_drop (List.mem_of_mem_take hz))
  · refine Nat.le_trans ?_ b
    show ((cutS x lo hi).cps).size ≤ x.cps.size
    rw [← Array.length_toList, e, List.length_take, List.length_drop, Array.length_toList]
    omega
theorem up_plain : ∀ c : Fin 128, (Unicode.upperOf c.val).length = 1 ∧ ∀ d ∈ Unicode.upperOf c.val, d < 128 := by decide +kernel
theorem bt_up (h : Bt w x) : Bt w (Txt.upper x) := by
  obtain ⟨a, b⟩ := h
  have up : ∀ c : Nat, c < 128 → (Unicode.upperOf c).length = 1 ∧ ∀ d ∈ Unicode.upperOf c, d < 128 := fun c hc => up_plain ⟨c, hc⟩
  have e : (Txt.upper x).cps.toList = (x.cps.toList.map Unicode.upperOf).flatten := by
    show ((x.cps.mapIdx fun i c => (Unicode.upperOf c).toArray).flatten).toList = _
    simp [Array.toList_flatten, Array.toList_mapIdx, List.mapIdx_eq_zipIdx_map, Function.comp_def, ← List.map_map]
    have q := List.zipIdx_map_fst 0 x.cps.toList
    refine congrArg List.flatten ?_
    refine Eq.trans ?_ (congrArg (List.map Unicode.upperOf) q)
    rw [List.map_map, List.map_map]
    rfl
  refine ⟨fun z hz => ?_, ?_⟩
  · rw [e] at hz
    obtain ⟨l, hl, hz⟩ := List.mem_flatten.mp hz
    obtain ⟨c, hc, rfl⟩ := List.mem_map.mp hl
    exact (up c (a c hc)).2 z hz
  · refine Nat.le_trans ?_ b
    show (Txt.upper x).cps.size ≤ x.cps.size
    rw [← Array.length_toList, e, ← Array.length_toList]
    have : ∀ l : List Nat, (∀ c ∈ l, c < 128) → (l.map Unicode.upperOf).flatten.length = l.length := fun l => by
      induction l with
      | nil => intro _; rfl
      | cons c l ih =>
        intro hl
        rw [List.map_cons, List.flatten_cons, List.length_append, ih fun d hd => hl d (List.mem_cons_of_mem _ hd), (up c (hl c (by simp))).1, List.length_cons]
        omega
    exact Nat.le_of_eq (this _ a)
theorem bt_int {i : Int} (h : i.natAbs ≤ big) : Bt 62 (Str.ofString (toString i)) := by
  refine ⟨fun c hc => ?_, ?_⟩
  · by_cases z : c < 128
    · exact z
    · exact absurd hc (PyProof.Rows.int_text_free' c ⟨by omega, .inr (by omega)⟩ i)
  · have := big_len h
    simpa only [PyData.shown] using this
end
section
variable {X : Cx}
/-- str(n), of a truth, too -/
def rStrA : List V → Hp → VK → Prop := fun xs H Q => (∃ i, xs = [.int i] ∧ i.natAbs.log2 < 1920 ∧ Q (.str (toString i)) H) ∨ (∃ b : Bool, xs = [.bl b] ∧ Q (.str (if b then "True" else "False")) H)
theorem call_strA : CallR X (.type "str") rStrA := by
  intro pins s σ H xs us Q I r h
  rcases h with ⟨i, rfl, hz, q⟩ | ⟨b, rfl, q⟩
  · exact call_str_int pins s σ H _ us Q I r ⟨i, rfl, hz, q⟩
  · obtain ⟨u, rfl, e⟩ := vals1 r
    cases e
    exact PySem.P.str_of_bool ⟨.str _, H, I.tok _, ⟨_, rfl⟩, q⟩
end
section
variable {K : PySem.W.Frag} {W : Wd} {P : Sl → Prop}
theorem tys_str {z : Str} : TyS K W "str" (.dat (.str z)) := fun F H x o hx => by
  rw [vok_str hx]
  rfl
theorem mts_upper {z : Str} (hl : z.length ≤ 250000) (p : P (.dat (.str (Txt.upper z)))) : MtS K W (fun x xs H Q => ∃ a, x = .str a ∧ xs = [] ∧ a.length ≤ 5592405 ∧ Q (.str (Txt.upper a)) H) (.dat (.str z)) [] P := fun F H x xs o hx hxs Q q => by
  cases hxs
  rw [vok_str hx]
  exact ⟨z, rfl, rfl, Nat.le_trans hl (by decide), q _ F H (.dat (.str _)) o (Step.refl o) (.str _) p⟩
theorem cas_strI {i : Int} (h : i.natAbs ≤ big) (p : P (.dat (.str (Str.ofString (toString i))))) : CaS K W rStrA [.dat (.int i)] P := fun F H xs o hx Q q => by
  cases hx with
  | cons e1 e2 =>
    cases e2
    rw [vok_int e1]
    exact .inl ⟨i, rfl, big_log h, q _ F H (.dat (.str _)) o (Step.refl o) (.str _) p⟩
theorem cas_strB {b : Bool} (p : P (.dat (.str (if b then "True" else "False")))) : CaS K W rStrA [.dat (.bool b)] P := fun F H xs o hx Q q => by
  cases hx with
  | cons e1 e2 =>
    cases e2
    rw [vok_bool e1]
    exact .inr ⟨b, rfl, q _ F H (.dat (.str _)) o (Step.refl o) (.str _) p⟩
end
end DL
namespace DL
open PySem L2
section
variable {k w n : Nat} {d : D} {ds : List D}
theorem bd_int {i : Int} (h : i.natAbs ≤ k) (hk : k ≤ big) : Bd k 198 n (.int i) := by
  refine ⟨by simp only [okD]; exact decide_eq_true h, ?_, by simp [PyData.depth]⟩
  have q : i.natAbs ≤ big := Nat.le_trans h hk
  simp only [PyData.weight]
  split
  · exact Nat.zero_le _
  · next z =>
    have z : i.natAbs ≠ 0 := fun e => z (by rw [Int.natAbs_eq_zero.mp e]; rfl)
    have : i.natAbs.log2 < 198 := by
      rw [Nat.log2_lt z]
      exact Nat.lt_of_le_of_lt q (by decide +kernel)
    omega
theorem bd_bool {b : Bool} : Bd k w n (.bool b) := ⟨rfl, by simp [PyData.weight], by simp [PyData.depth]⟩
theorem bd_none : Bd k w n .none := ⟨rfl, by simp [PyData.weight], by simp [PyData.depth]⟩
theorem bds_one (h : Bd k w n d) : Bds k (w + 1) n [d] := (bds_cons h bds_nil (b := 0)).mono (Nat.le_refl _) (by omega) (Nat.le_refl _)
theorem okD_int {i : Int} (h : okD k (.int i) = true) : i.natAbs ≤ k := by simpa only [okD, decide_eq_true_eq] using h
theorem bd_self (h : okD k d = true) : Bd k d.weight d.depth d := ⟨h, Nat.le_refl _, Nat.le_refl _⟩
end
end DL

namespace DL
open PySem L2
/-! ### expressions that change an own list: xs.pop(i) in a comprehension -/
section
variable {K : PySem.W.Frag} {W : Wd} {H0 F0 : Hp} {ρ : Rho} {te : TE} {N : Ends2}
/-- all but the own lists of ρ stands -/
structure But (W : Wd) (σ : St) (ρ : Rho) (F H F' H' : Hp) : Prop where
  fz : Same F F'
  kp : ∀ b u, ¬ W.Z b → (∀ (i : Nat) (es : List D), ρ[i]? = some (.ls es) → σ[i]? ≠ some (some (.ref b))) → H b = some u → H' b = some u
  nw : ∀ b, F b = none → H b ≠ none → F' b = none
def Ev2 (K : PySem.W.Frag) (W : Wd) (H0 F0 : Hp) (te : TE) (ρ : Rho) (P : Sl → Rho → Prop) : Prop := ∀ σ F H, At K W H0 F0 σ F H ρ → ∀ Q : VK,
  (∀ v F' H' s ρ', At K W H0 F0 σ F' H' ρ' → But W σ ρ F H F' H' → VOk K W F' H' v s → P s ρ' → Q v H') → te σ H Q
theorem ev2_of {P : Sl → Rho → Prop} (h : Ev K W H0 te ρ fun s => P s ρ) : Ev2 K W H0 F0 te ρ P := fun σ F H a Q q => h σ F H a.ok a.ho Q fun v F' H' s o st hv p => q v F' H' s ρ (a.step o st) ⟨st.fz, fun b u hz _ e => st.kp b u hz e, st.nw⟩ hv p
theorem ev2_pop {i : Nat} {ds : List D} {P : Sl → Rho → Prop} (hi : ρ[i]? = some (.ls ds)) (h : Ev K W H0 te ρ fun s => ∃ n : Nat, s = .dat (.int n) ∧ n < 2 ^ 62 ∧ ∃ d, ds[n]? = some d ∧ P (.dat d) (ρ.set i (.ls (ds.eraseIdx n)))) :
    Ev2 K W H0 F0 (tBM K "list" rPopAt (tVar i) (tCons te tNil)) ρ P := fun σ F H a Q q => by
  obtain ⟨p, vs, g1, g2, g3, g4, g5, g6⟩ := a.ho.at_ i _ hi
  refine ⟨.ref p, g1, .inl ⟨rfl, _, SqL.of g2⟩, ?_⟩
  refine h σ F H a.ok a.ho _ fun v F' H' s o st hv ⟨n, e, hn, d, hd, k⟩ => ?_
  subst e
  rw [vok_int hv]
  have g2' := st.kp p _ g4 g2
  have g3' := st.nw p g3 (by rw [g2]; exact fun z => nomatch z)
  have g6' := dpa_mono st.fz g6
  obtain ⟨y, hy, hyd⟩ := dpa_get' g6' hd
  have hlt : n < vs.length := (List.getElem?_eq_some_iff.mp hy).1
  refine ⟨p, vs, n, n, y, rfl, rfl, g2', by omega, by omega, ?_, hy, ?_⟩
  · rw [seqIndex_of (by omega) (by omega)]
    simp
  have a' := a.step o st
  have o2 : Ok W F' (upd H' p (.lst (vs.eraseIdx n))) := o.mut g2' g4 g3'
  refine q y F' _ (.dat d) (ρ.set i (.ls (ds.eraseIdx n))) ⟨o2, ⟨a'.st.fz, fun b' u hz' e' => ?_, fun b' hf hh => a'.st.nw b' hf hh⟩, a'.ho.mut hi g1 (dpa_erase n g6')⟩ ⟨st.fz, fun b' u hz' hno e' => ?_, st.nw⟩ hyd k
  · have q : b' ≠ p := fun z => by rw [z, g5] at e'; cases e'
    rw [upd_ne q]
    exact a'.st.kp b' u hz' e'
  · have q : b' ≠ p := fun z => hno i ds hi (z ▸ g1)
    rw [upd_ne q]
    exact st.kp b' u hz' e'
theorem wipe_off {σ : St} {i : Nat} : ∀ {vs : List Nat}, i ∉ vs → (wipe σ vs)[i]? = σ[i]?
  | [], _ => rfl
  | u :: us, h => by
    show ((wipe σ us).set u none)[i]? = _
    have hu : u ≠ i := fun z => h (by rw [z]; exact List.mem_cons_self)
    rw [List.getElem?_set_ne hu, wipe_off fun z => h (List.mem_cons_of_mem _ z)]
theorem wipeR_off {ρ : Rho} {i : Nat} : ∀ {vs : List Nat}, i ∉ vs → (wipeR ρ vs)[i]? = ρ[i]?
  | [], _ => rfl
  | u :: us, h => by
    show ((wipeR ρ us).set u .un)[i]? = _
    have hu : u ≠ i := fun z => h (by rw [z]; exact List.mem_cons_self)
    rw [List.getElem?_set_ne hu, wipeR_off fun z => h (List.mem_cons_of_mem _ z)]
theorem wipe_back {σ : St} {i : Nat} {v : V} : ∀ {vs : List Nat}, (wipe σ vs)[i]? = some (some v) → σ[i]? = some (some v)
  | [], h => h
  | u :: us, h => by
    have h : ((wipe σ us).set u none)[i]? = some (some v) := h
    by_cases q : u = i
    · subst q
      rw [List.getElem?_set] at h
      simp at h
    · rw [List.getElem?_set_ne q] at h
      exact wipe_back h
theorem wipe_len {σ : St} : ∀ {vs : List Nat}, (wipe σ vs).length = σ.length
  | [] => rfl
  | u :: us => by
    show ((wipe σ us).set u none).length = _
    rw [List.length_set, wipe_len]
theorem Holds.unwipe {σ : St} {F H : Hp} {vs : List Nat} (h : Holds K W H0 (L2.wipe σ vs) F H ρ) : Holds K W H0 σ F H ρ := by
  refine ⟨by rw [← h.len, wipe_len], fun i s e => ?_, fun i j ds es p hij e1 e2 e3 e4 => ?_⟩
  · have g := h.at_ i s e
    cases s with
    | un => trivial
    | dat d => obtain ⟨w, g1, g2⟩ := g; exact ⟨w, wipe_back g1, g2⟩
    | ls ds => obtain ⟨p, ws, g1, g2⟩ := g; exact ⟨p, ws, wipe_back g1, g2⟩
    | rf u => exact wipe_back g
    | kn k => obtain ⟨w, g1, g2⟩ := g; exact ⟨w, wipe_back g1, g2⟩
    | ow p k => exact ⟨wipe_back g.1, g.2⟩
  · obtain ⟨p1, _, g1, _⟩ := h.at_ i _ e1
    obtain ⟨p2, _, g2, _⟩ := h.at_ j _ e2
    have k1 := wipe_back g1
    have k2 := wipe_back g2
    rw [e3] at k1
    rw [e4] at k2
    have q1 : p = p1 := by simpa using k1
    have q2 : p = p2 := by simpa using k2
    exact h.dis i j ds es p hij e1 e2 (q1 ▸ g1) (q2 ▸ g2)
theorem yes_then {σ : St} {H : Hp} {A B : Hp → Prop} (h : A H) : tYes σ H fun b H3 => if b = true then A H3 else B H3 := by
  show (if true = true then A H else B H)
  rw [if_pos rfl]
  exact h
/-- xs = [e for ..], e changes the own list at slot j -/
theorem sx_lc2 {wi : TI} {g : TG} {vs : List Nat} {j k : Nat} {p0 : List D} (hj : (wipeR ρ vs)[j]? = some (.ls p0)) (J : List D → Nat → List D → List D → Prop)
    (h : EvI K W H0 wi ρ fun ds => ds.length < sizeLine ∧ J ds 0 [] p0 ∧ (∀ i d acc p, ds[i]? = some d → J ds i acc p → GC K W H0 vs g (.dat d) ((wipeR ρ vs).set j (.ls p)) fun ρ2 => (∀ i ∈ vs, ∀ es, ρ2[i]? ≠ some (.ls es)) ∧ wipeR ρ2 vs = (wipeR ρ vs).set j (.ls p) ∧
      Ev2 K W H0 F0 te ρ2 fun s ρ3 => ∃ e p', s = .dat e ∧ wipeR ρ3 vs = (wipeR ρ vs).set j (.ls p') ∧ J ds (i + 1) (acc ++ [e]) p') ∧
      ∀ acc p, J ds ds.length acc p → N.nx (((wipeR ρ vs).set j (.ls p)).set k (.ls acc))) :
    Sx K W H0 F0 (tAsg (tLc wi g tYes te vs) (gName k)) ρ N := fun σ F H a D n r b c =>
  h σ F H a.ok a.ho _ fun Jt F' H' ds o' st it ⟨hl, j0, js, jd⟩ => by
    have a' := a.step o' st
    obtain ⟨G, Y, w, hG, hY⟩ := it.w
    intro Da hD
    obtain ⟨oD, stD⟩ := o'.own (u := .lst []) hD
    have nz : ¬ W.Z Da := o'.nz hD
    have h0 : H0 Da = none := a'.st.back o' hD
    have hw := a'.ho.wipe vs
    have own : ∀ (i : Nat) (es : List DL.D), (wipeR ρ vs)[i]? = some (.ls es) → (wipe σ vs)[i]? ≠ some (some (.ref Da)) := fun i es e z => by
      obtain ⟨q, ws, g1, g2, _⟩ := hw.at_ i _ e
      rw [z] at g1
      have : Da = q := by simpa using g1
      rw [← this, hD] at g2
      cases g2
    have j0' : (wipeR ρ vs).set j (.ls p0) = wipeR ρ vs := by
      have hlt := (List.getElem?_eq_some_iff.mp hj).1
      refine List.ext_getElem? fun m => ?_
      by_cases q : j = m
      · subst q
        rw [List.getElem?_set_self hlt, hj]
      · rw [List.getElem?_set_ne q]
    have own2 : ∀ (p : List DL.D) (i : Nat) (es : List DL.D), ((wipeR ρ vs).set j (.ls p))[i]? = some (.ls es) → (wipe σ vs)[i]? ≠ some (some (.ref Da)) := fun p i es e => by
      by_cases q : j = i
      · subst q
        exact own j p0 hj
      · rw [List.getElem?_set_ne q] at e
        exact own i es e
    have ofD : ∀ {F2 H2 : Hp} {vs0 ws : List V} {ρ' : Rho}, H2 Da = some (.lst vs0) → (∀ (i : Nat) (es : List DL.D), ρ'[i]? = some (.ls es) → (wipe σ vs)[i]? ≠ some (some (.ref Da))) → Holds K W H0 (wipe σ vs) F2 H2 ρ' → Holds K W H0 (wipe σ vs) F2 (upd H2 Da (.lst ws)) ρ' := fun {F2 H2 vs0 ws ρ'} hA own h => by
      refine ⟨h.len, fun i s e => ?_, h.dis⟩
      have g := h.at_ i s e
      cases s with
      | un => trivial
      | dat d => exact g
      | ls es =>
        obtain ⟨q, xs, g1, g2, g3⟩ := g
        have z : q ≠ Da := fun z => own i es e (z ▸ g1)
        exact ⟨q, xs, g1, by rw [upd_ne z]; exact g2, g3⟩
      | rf u => exact g
      | kn k => exact g
      | ow r k =>
        obtain ⟨g1, u, g2, g3⟩ := g
        have z : r ≠ Da := fun z => by
          rw [z, hA] at g2
          cases g2
          obtain ⟨f, z⟩ := k.ext g3.2.2.2
          cases z
        exact ⟨g1, u, by rw [upd_ne z]; exact g2, g3⟩
    refine lc_it w (fun i H2 => ∃ F2 vs2 acc p, Ok W F2 H2 ∧ Same F' F2 ∧ Step W F0 H0 F2 H2 ∧ H2 Da = some (.lst vs2) ∧ F2 Da = none ∧ DpAll K F2 vs2 acc ∧ acc.length ≤ i ∧ Holds K W H0 (wipe σ vs) F2 H2 ((wipeR ρ vs).set j (.ls p)) ∧ J ds i acc p) ?_ ?_ ?_ ?_
    · exact ⟨F', [], [], p0, oD, Same.refl _, a'.st.trans o' stD, upd_same, o'.free hD, .nil, Nat.le_refl _, by rw [j0']; exact hw.step stD, j0⟩
    · rintro i H2 _ ⟨F2, vs2, acc, p, o2, sm2, _⟩
      exact hG F2 H2 o2 sm2
    · rintro i x H2 H3 hi ⟨F2, vs2, acc, p, o2, sm2, st2, hA, hF, hd, ha, hh, jj⟩ y
      obtain ⟨F3, d, o3, st3, e1, e2⟩ := hY i x F2 H2 H3 hi o2 sm2 y
      have hs := js i d acc p e1 jj
      have hA3 := st3.kp _ _ nz hA
      have hF3 := st3.nw Da hF (by rw [hA]; exact fun z => nomatch z)
      refine hs x (wipe σ vs) F3 H3 o3 (hh.step st3) e2 _ fun σ4 ρ4 h4 ew ⟨oA, oB, ev⟩ => ?_
      have ew := ew.trans (wipe_idem fun _ z => z)
      refine ⟨ew, ?_⟩
      have notD : ∀ (i : Nat) (es : List DL.D), ρ4[i]? = some (.ls es) → σ4[i]? ≠ some (some (.ref Da)) := fun i es e z => by
        have m : i ∉ vs := fun m => oA i m es e
        refine own2 p i es ?_ ?_
        · rw [← oB, wipeR_off m]
          exact e
        · rw [← ew, wipe_off m]
          exact z
      refine yes_then ?_
      have sm3 : Same F' F3 := sm2.trans st3.fz
      refine ev σ4 F3 H3 ⟨o3, st2.trans o2 st3, h4⟩ _ fun v F5 H5 s ρ5 a5 bt hv ⟨e, p', es, eR, jn⟩ => ?_
      subst es
      have hA5 := bt.kp Da _ nz notD hA3
      have hF5 := bt.nw Da hF3 (by rw [hA3]; exact fun z => nomatch z)
      have hd5 := dpa_mono bt.fz (dpa_mono st3.fz hd)
      have h5 := a5.ho.wipe vs
      rw [ew, eR] at h5
      refine ⟨vs2, hA5, by rw [dpa_len hd5]; omega, F5, vs2 ++ [v], acc ++ [e], p', a5.ok.mut hA5 nz hF5, sm3.trans bt.fz, ⟨a5.st.fz, fun b u hz e => ?_, a5.st.nw⟩, upd_same, hF5, dpa_app hd5 (.cons hv .nil), by rw [List.length_append, List.length_singleton]; omega, ofD hA5 (own2 p') h5, jn⟩
      have q : b ≠ Da := fun z => by rw [z, h0] at e; cases e
      rw [upd_ne q]
      exact a5.st.kp b u hz e
    · rintro H2 ⟨F2, vs2, acc, p, o2, sm2, st2, hA, hF, hd, ha, hh, jj⟩
      refine n _ F2 H2 _ ⟨o2, st2, hh.unwipe.setOwn hA hF nz h0 hd fun i es e z => ?_⟩ (st.fz.trans sm2) (jd acc p jj)
      obtain ⟨q, ws, g1, _⟩ := hh.at_ i _ e
      have := wipe_back g1
      rw [z] at this
      have q1 : Da = q := by simpa using this
      exact own2 p i es e (q1 ▸ g1)
end
section
variable {X : Cx}
/-- a method in a block, whose kit is known -/
theorem pe_bmK {K : PySem.W.Frag} {T : String} {id : String} {name : Str} {r : V → List V → Hp → VK → Prop} {o e : Expr} {es : List Expr} {to : TE} {t : TA} {apos cpos : Pos} (hK : X.K = K) (pa : PlainAttrs T) (slot : Slot T name id) (hty : typeOf (.builtin id) = pure (.type "method_descriptor")) (hm : MtR X id r) (ho : PE X o to) (ha : PA X (e :: es) t)
    (hbase : attributeBase o name X.env (eval o X.env) = eval o X.env := by rfl)
    (hfew : ((backTo cpos (starEach (e :: es) X.env)).all (fun x => !x.1) && (backToKw cpos (keywordEach [] X.env)).all (fun x => x.1.isSome) && decide ((e :: es).length + ([] : List Keyword).length + (if ([] : List Keyword).isEmpty then 0 else 1) < 30)) = true := by rfl)
    (hline : (apos.endLine == cpos.line) = true := by rfl) (hs : starEach (e :: es) X.env = (false, eval e X.env) :: starEach es X.env := by rfl) (hplain : (backTo cpos (starEach es X.env)).any (·.1) = false := by rfl) :
    PE X (.Call (.Attribute o name apos) (e :: es) [] cpos) (tBM K T r to t) := by
  subst hK
  exact pe_bm pa slot hty hm ho ha hbase hfew hline hs hplain
/-- sorted: of ints, of texts -/
def rSortedA (K : PySem.W.Frag) : List V → Hp → VK → Prop := fun xs H Q => rSorted K xs H Q ∨ rSortedS K xs H Q
theorem cr_sortedA : CallR X (.builtin "sorted") (rSortedA X.K) := cr_sorted.or cr_sortedS
end
section
variable {K : PySem.W.Frag} {W : Wd} {P : Sl → Prop} {s : Sl}
theorem dpa_ints' {F : Hp} : ∀ {vs : List V} {ns : List Int}, DpAll K F vs (ns.map .int) → vs = ns.map V.int
  | _, [], .nil => rfl
  | _, n :: ns, .cons h1 h2 => by
    rw [dp_int h1, dpa_ints' h2]
    rfl
theorem dpa_ofstrs {F : Hp} : ∀ xs : List Str, DpAll K F (xs.map V.str) (xs.map .str)
  | [] => .nil
  | x :: xs => .cons (.str x) (dpa_ofstrs xs)
theorem cas_sortI {ns : List Int} (hs : LsOf s (ns.map .int)) (hl : ns.length < 64) (p : ∀ ms : List Int, ms.Perm ns → ms.Pairwise (· ≤ ·) → P (.dat (.list (ms.map .int)))) : CaS K W (rSortedA K) [s] P := fun F H xs o hx Q q => by
  cases hx with
  | cons e1 e2 =>
    cases e2
    obtain ⟨a, vs, rfl, a1, a2⟩ := hs.get o e1
    rw [dpa_ints' a2] at a1
    refine .inl ⟨a, ns, rfl, SqL.of a1, hl, fun ms l h1 h2 hn => ?_⟩
    obtain ⟨o2, st2⟩ := o.new (u := .lst (ms.map V.int)) hn
    exact q _ _ _ (.dat (.list (ms.map .int))) o2 st2 (.lst upd_same (ints_dp ms)) (p ms h1 h2)
theorem cas_sortS {ns : List Str} (hs : LsOf s (ns.map .str)) (hl : ns.length < 64) (p : ∀ ms : List Str, ms.Perm ns → PyProof.Rows.sortedS ms = true → P (.dat (.list (ms.map .str)))) : CaS K W (rSortedA K) [s] P := fun F H xs o hx Q q => by
  cases hx with
  | cons e1 e2 =>
    cases e2
    obtain ⟨a, vs, rfl, a1, a2⟩ := hs.get o e1
    rw [dpa_strs a2] at a1
    refine .inr ⟨a, ns, rfl, SqL.of a1, hl, fun ms l h1 h2 hn => ?_⟩
    obtain ⟨o2, st2⟩ := o.new (u := .lst (ms.map V.str)) hn
    exact q _ _ _ (.dat (.list (ms.map .str))) o2 st2 (.lst upd_same (dpa_ofstrs ms)) (p ms h1 h2)
end
end DL

namespace DL
open PySem L2
section
variable {K : PySem.W.Frag} {W : Wd} {H0 F0 : Hp} {ρ : Rho} {te te2 : TE} {N : Ends2}
/-- xs.extend(ys), xs one's own -/
theorem sx_ext {i : Nat} {ds : List D} (hi : ρ[i]? = some (.ls ds)) (h : Ev K W H0 te ρ fun s => ∃ es, s = .dat (.list es) ∧ ds.length + es.length ≤ sizeLine ∧ N.nx (ρ.set i (.ls (ds ++ es)))) :
    Sx K W H0 F0 (tDrop (tBM K "list" rExtend (tVar i) (tCons te tNil))) ρ N := fun σ F H a D n r b c => by
  obtain ⟨p, vs, g1, g2, g3, g4, g5, g6⟩ := a.ho.at_ i _ hi
  refine ⟨.ref p, g1, .inl ⟨rfl, _, SqL.of g2⟩, ?_⟩
  refine h σ F H a.ok a.ho _ fun v F' H' s o' st hv ⟨es, e, hz, k⟩ => ?_
  subst e
  obtain ⟨q, ws, rfl, q1, q2⟩ := dp_lst hv
  have g2' := st.kp p _ g4 g2
  have g3' := st.nw p g3 (by rw [g2]; exact fun z => nomatch z)
  have g6' := dpa_mono st.fz g6
  refine ⟨p, q, vs, ws, rfl, rfl, g2', o'.sub _ _ q1, by rw [dpa_len g6, dpa_len q2]; exact hz, ?_⟩
  have a' := a.step o' st
  have o2 : Ok W F' (upd H' p (.lst (vs ++ ws))) := o'.mut g2' g4 g3'
  refine n σ F' _ _ ⟨o2, ⟨a'.st.fz, fun b' u hz' e' => ?_, fun b' hf hh => ?_⟩, a'.ho.mut hi g1 (dpa_app g6' q2)⟩ st.fz k
  · have q : b' ≠ p := fun z => by rw [z, g5] at e'; cases e'
    rw [upd_ne q]
    exact a'.st.kp b' u hz' e'
  · exact a'.st.nw b' hf hh
/-- x, y = e, a new list -/
theorem sx_parN {i j : Nat} (h : Ev K W H0 te ρ fun s => NoLs s ∧ EvN K W H0 te2 ρ fun ds => N.nx ((ρ.set i s).set j (.ls ds))) : Sx K W H0 F0 (tPar i j (tCons te (tCons te2 tNil))) ρ N := fun σ F H a D n r b c => by
  refine h σ F H a.ok a.ho _ fun v F1 H1 s o1 st1 hv ⟨hn, h2⟩ => ?_
  have a1 := a.step o1 st1
  refine h2 σ F1 H1 o1 a1.ho _ fun p vs F2 H2 ds o2 st2 hp hl hf hz hd k => ?_
  have a2 := a1.step o2 st2
  have hs1 := a1.ho.set (i := i) hv hn
  refine ⟨v, .ref p, rfl, n _ F2 H2 _ ⟨o2, a2.st, ((hs1.step st2)).setOwn hl hf hz (a1.st.back o1 hp) hd fun m es e z => ?_⟩ (st1.fz.trans st2.fz) k⟩
  obtain ⟨q, ws, g1, g2, _⟩ := hs1.at_ m _ e
  rw [z] at g1
  have : p = q := by simpa using g1
  rw [← this, hp] at g2
  cases g2
/-- the rest of a body, its base heap chosen anew -/
theorem sx_anew {ts : TS} {σ : St} {F H : Hp} {D : Ends} (o : Ok W F H) (ho : Holds K W H0 σ F H ρ) (st : Step W F H0 F H) (h : Sx K W H0 F ts ρ N)
    (n : ∀ σ' F' H' ρ', Ok W F' H' → N.nx ρ' → D.nx σ' H') (r : ∀ v F' H' s, Ok W F' H' → VOk K W F' H' v s → N.rt s → D.rt v H') (b : ∀ ρ', ¬ N.bk ρ') (c : ∀ ρ', ¬ N.ct ρ') : ts D σ H :=
  h σ F H ⟨o, st, ho⟩ D (fun σ' F' H' ρ' a' _ k => n σ' F' H' ρ' a'.ok k) (fun v F' H' s o' _ hv k => r v F' H' s o' hv k) (fun σ' F' H' ρ' a' _ k => absurd k (b ρ')) fun σ' F' H' ρ' a' _ k => absurd k (c ρ')
end
end DL
namespace DL
open PySem L2 RZ PySem.Spec PyProof.Rows
section
variable {X : Cx} {k n : Nat} {f : Addr} {fd : FuncData} {ps ks : List Str} {sp : Sp} {x : Str} {p pos : Pos} {e : Expr} {es : List Expr} {t : TA} {dvs : List V}
/-- a def by its name, where dvs fill up -/
structure FnD (Pg : Program) (w : World) (K : PySem.W.Frag) (mg : Str → Option Value) (base : Heap) (x : Str) (k : Nat) (ps : List Str) (sp : Sp) (dvs : List V) : Prop where
  ex : ∃ f fd ds, FnG Pg w K mg base k f fd ps sp ∧ mg x = some (.ref f) ∧ PySem.W.keepIn K (.ref f) = true ∧ Binds K fd ps ds ∧ Vals dvs ds
def tFnD (sp : Sp) (dvs : List V) (t : TA) : TE := fun σ H Q => t σ H fun vs H1 => sp (vs ++ dvs) H1 Q E0
theorem pe_fnD (C : FnD X.prog X.w X.K X.mg X.base x k ps sp dvs) (hgd : X.A.guards = some []) (hr : Room k X.A) (hg : Gl X x) (ha : PA X (e :: es) t) (hdb : (x == ("__debug__" : Str)) = false := by decide)
    (he : starEach (e :: es) X.env = (false, eval e X.env) :: starEach es X.env := by rfl) (hpl : (backTo pos (starEach es X.env)).any (·.1) = false := by rfl) : PE X (.Call (.Name x p) (e :: es) [] pos) (tFnD sp dvs t) := by
  obtain ⟨f, fd, ds, F, hm, hk, hb, hd⟩ := C.ex
  refine ⟨fun pins s σ H Q I h => wpAny_Call_Name_kw (ld_glob I hg hm ?_ hdb)⟩
  refine PySem.W.callWith_K (h₀ := X.base) I.ok.mod.kin hk (thn (ha.run pos pins s σ H _ I h) ?_) he hpl
  rintro us s1 ⟨vs, H1, I1, r, q⟩
  have r2 : Vals (vs ++ dvs) (us ++ ds) := r.append hd
  have hl : (us ++ ds).length = ps.length := by rw [← r2.length]; exact F.len _ _ _ _ q
  exact ⟨I1.kIn, run_G (args := ⟨us, []⟩) F hgd hr I1 (hb s1 us I1.kIn hl) r2 q⟩
end
section
variable {K : PySem.W.Frag} {W : Wd} {H0 : Hp} {ρ : Rho} {P : Sl → Prop} {t tk : TA}
/-- .. the second of two is None -/
theorem ev_fnD {p : D → D → Prop} {f : D → D → D} (h : EvA K W H0 t ρ fun ss => ∃ d, ss = [.dat d] ∧ p d .none ∧ P (.dat (f d .none))) : Ev K W H0 (tFnD (Pm2 K p f) [.non] t) ρ P := fun σ F H o ho Q q =>
  h σ F H o ho _ fun vs F1 H1 ss o1 st1 hv ⟨d, e, hp, k⟩ => by
    subst e
    cases hv with
    | cons h1 h2 =>
      cases h2
      exact ⟨W, F1, [.dat d, .dat .none], o1, .cons h1 (.cons .non .nil), by simp [NoLs], rfl, ⟨d, .none, rfl, hp⟩, fun v F2 H2 s o2 st2 hv2 p2 => q v F2 H2 s o2 (st1.trans o1 st2) hv2 (by rw [p2 d .none rfl]; exact k)⟩
/-- one by place, one by name -/
theorem ev_fnK11 {p : D → D → Prop} {f : D → D → D} (h : EvA K W H0 t ρ fun ss => EvA K W H0 tk ρ fun rs => ∃ d e, ss = [.dat d] ∧ rs = [.dat e] ∧ p d e ∧ P (.dat (f d e))) : Ev K W H0 (tFnK 1 1 (Pm2 K p f) (fun vs zs => vs ++ zs) t tk) ρ P := fun σ F H o ho Q q =>
  h σ F H o ho _ fun vs F1 H1 ss o1 st1 hv h2 => h2 σ F1 H1 o1 (ho.step st1) _ fun zs F2 H2 rs o2 st2 hz ⟨d, e, e1, e2, hp, k⟩ => by
    subst e1 e2
    cases hv with
    | cons h1 hn =>
      cases hn
      cases hz with
      | cons g1 gn =>
        cases gn
        exact ⟨rfl, rfl, W, F2, [.dat d, .dat e], o2, .cons (h1.step st2) (.cons g1 .nil), by simp [NoLs], rfl, ⟨d, e, rfl, hp⟩, fun v F3 H3 s o3 st3 hv2 p2 => q v F3 H3 s o3 ((st1.trans o1 st2).trans o2 st3) hv2 (by rw [p2 d e rfl]; exact k)⟩
/-- one by name -/
theorem ev_fnK01 {p : D → Prop} {f : D → D} (h : EvA K W H0 tk ρ fun rs => ∃ d, rs = [.dat d] ∧ p d ∧ P (.dat (f d))) : Ev K W H0 (tFnK 0 1 (Pm1 K p f) (fun vs zs => zs) tNil tk) ρ P := fun σ F H o ho Q q =>
  h σ F H o ho _ fun zs F1 H1 rs o1 st1 hz ⟨d, e, hp, k⟩ => by
    subst e
    cases hz with
    | cons h1 hn =>
      cases hn
      exact ⟨rfl, rfl, W, F1, [.dat d], o1, .cons h1 .nil, by simp [NoLs], rfl, ⟨d, rfl, hp⟩, fun v F3 H3 s o3 st3 hv2 p2 => q v F3 H3 s o3 (st1.trans o1 st3) hv2 (by rw [p2 d rfl]; exact k)⟩
def swapV (vs zs : List V) : List V := match zs with
  | [a, b] => [b, a]
  | _ => zs
/-- two by name, the second first -/
theorem ev_fnK02 {p : D → D → Prop} {f : D → D → D} (h : EvA K W H0 tk ρ fun rs => ∃ d e, rs = [.dat e, .dat d] ∧ p d e ∧ P (.dat (f d e))) : Ev K W H0 (tFnK 0 2 (Pm2 K p f) swapV tNil tk) ρ P := fun σ F H o ho Q q =>
  h σ F H o ho _ fun zs F1 H1 rs o1 st1 hz ⟨d, e, e1, hp, k⟩ => by
    subst e1
    cases hz with
    | cons h1 hn =>
      cases hn with
      | cons h2 hn =>
        cases hn
        exact ⟨rfl, rfl, W, F1, [.dat d, .dat e], o1, .cons h2 (.cons h1 .nil), by simp [NoLs], rfl, ⟨d, e, rfl, hp⟩, fun v F3 H3 s o3 st3 hv2 p2 => q v F3 H3 s o3 (st1.trans o1 st3) hv2 (by rw [p2 d e rfl]; exact k)⟩
end
end DL

namespace DL
open PySem L2 RZ PySem.Spec PyProof.Rows
/-! ### the law's call, where no object is being shown -/
section
variable {Pg : Program} {w : World} {K : PySem.W.Frag} {mg mb : Str → Option Value} {k : Nat} {fl p : Addr} {fd : FuncData} {x : Str} {sp : Sp} {st : Shared} {us : List Value} {zs : List Int}
/-- what the whole call has to come to -/
abbrev Told (s0 : Shared) : Result → Shared → Prop := fun r s2 => r = .ok (.ret (.bool true)) ∧ OldK s0.heap s2.heap ∧ s2.os = s0.os ∧ AllBare s2.gens
/-- from a heap that tracks the script alone, if anything -/
theorem told_from (KX : K.In st.heap) (hm : st.heap.Ns mainGlobals mg) (hb : st.heap.Ns builtinsNs mb) (hbb : ∀ y : Str, y ≠ "__name__" → mb y = bootBuiltins y) (hl : st.heap.NoLimit) (hg : st.gens = #[])
    (hp : st.heap.get? p = some { cls := .type "list", data := .seq us.toArray }) (hr : Room k callerA) (F : ∀ base : Heap, K.In base → base.Ns mainGlobals mg → FnG Pg w K mg base k fl fd [x] sp)
    (bd : ∀ (s : Shared) (u : Value), BindsTo s fd ⟨[u], []⟩ [(x, u)]) (H : Hp) (only : Only H) (ok : HOk Pg w H st.heap) (one : ∀ b, H b ≠ none → b = p) (out : H p ≠ none → K.lookup p = none)
    (hs : sp [.ref p] H (fun v _ => v = .bl true) E0) : codeAny (model Pg w) callerA (.call (.ref fl) ⟨[.ref p], []⟩) (Told st) st := by
  have hid : ∀ {b : Addr} {ob : Obj}, st.heap.get? b = some ob → H b = none → (hidT st.heap H).get? b = some ob := fun a b => hidT_get a b
  have dicts : ∀ {b : Addr} {ob : Obj} {es : Array DictEntry} {n : Nat}, st.heap.get? b = some ob → ob.data = .dict es n → H b = none := fun {b ob es n} g d => by
    cases hb : H b with
    | none => rfl
    | some u =>
      obtain rfl : b = p := one b (by rw [hb]; exact fun z => nomatch z)
      rw [hp] at g
      cases g
      have d : Data.seq us.toArray _ = Data.dict es n := d
      cases d
  have names : ∀ {b : Addr} {m : Str → Option Value}, st.heap.Ns b m → (hidT st.heap H).Ns b m := fun {b m} h => by
    obtain ⟨ob, es, n, g, d, r⟩ := h
    exact ⟨ob, es, n, hid g (dicts g d), d, r⟩
  have kin : K.In (hidT st.heap H) := fun b ob g => hid (KX b ob g) (by
    cases hb : H b with
    | none => rfl
    | some u =>
      obtain rfl : b = p := one b (by rw [hb]; exact fun z => nomatch z)
      rw [out (by rw [hb]; exact fun z => nomatch z)] at g
      cases g)
  have md : Mod K mg (hidT st.heap H) := by
    obtain ⟨mc, n1, n2⟩ := hl
    exact ⟨kin, names hm, ⟨mb, names hb, hbb⟩, ⟨mc, names n1, n2⟩⟩
  have env : Env0 Pg w K mg (hidT st.heap H) callerA [] st H := ⟨rfl, md, fun b ob g => of_hidT g, Nat.le_of_eq (hidT_size _ _), trivial, fun b z => absurd (show b ∈ ([] : List Addr) from z) (by simp), ok, .of_eq hg⟩
  have run := (F _ kin (names hm)).run callerA [] st H ⟨[.ref p], []⟩ [.ref p] [.ref p] _ rfl hr env (bd st (.ref p)) (.cons rfl .nil) hs
  refine codeAny_mono run fun r s2 h => ?_
  match r, h with
  | .error e, h => exact False.elim h
  | .ok .next, h => exact False.elim h
  | .ok .brk, h => exact False.elim h
  | .ok .cont, h => exact False.elim h
  | .ok (.ret u), h =>
    obtain ⟨v, H2, os, bare, un, ok2, rel, e⟩ := h
    have e : v = .bl true := e
    subst e
    obtain rfl : u = Value.bool true := rel
    refine ⟨rfl, OldK.of_keep fun b ob g => ?_, os, bare⟩
    rcases hb : H b with _ | u2
    · exact un.keep b ob g hb (by intro z; exact absurd (show b ∈ ([] : List Addr) from z) (by simp)) (by simp)
    · rcases only b with z | ⟨o3, xs, z⟩
      · rw [hb] at z
        cases z
      · obtain ⟨g1, _⟩ := ok b _ z
        obtain ⟨g2, _⟩ := ok2 b _ (un.frzs b o3 _ z)
        rw [g] at g1
        cases g1
        exact g2
theorem told_call (KX : K.In st.heap) (hm : st.heap.Ns mainGlobals mg) (hb : st.heap.Ns builtinsNs mb) (hbb : ∀ y : Str, y ≠ "__name__" → mb y = bootBuiltins y) (hl : st.heap.NoLimit) (hg : st.gens = #[])
    (hp : st.heap.get? p = some { cls := .type "list", data := .seq us.toArray }) (hi : IntsAre us zs) (hz : zs.length ≤ sizeLine) (hr : Room k callerA) (F : ∀ base : Heap, K.In base → base.Ns mainGlobals mg → FnG Pg w K mg base k fl fd [x] sp)
    (bd : ∀ (s : Shared) (u : Value), BindsTo s fd ⟨[u], []⟩ [(x, u)]) (hs : ∀ H : Hp, SqL K H p (zs.map V.int) → sp [.ref p] H (fun v _ => v = .bl true) E0) :
    codeAny (model Pg w) callerA (.call (.ref fl) ⟨[.ref p], []⟩) (Told st) st := by
  have rel := vals_ints hi
  have len := hi.length
  rcases lk : K.lookup p with _ | o
  · let H : Hp := fun b => if b = p then some (.frz { cls := .type "list", data := .seq us.toArray } (.lst (zs.map V.int))) else none
    have at_ : H p = some (.frz { cls := .type "list", data := .seq us.toArray } (.lst (zs.map V.int))) := if_pos rfl
    have off : ∀ b, b ≠ p → H b = none := fun b n => if_neg n
    refine told_from KX hm hb hbb hl hg hp hr F bd H (fun b => ?_) (fun b u g => ?_) (fun b z => ?_) (fun _ => lk) (hs H (.inl (.inr ⟨_, at_⟩)))
    · by_cases n : b = p
      · rw [n, at_]
        exact .inr ⟨_, _, rfl⟩
      · exact .inl (off b n)
    · by_cases n : b = p
      · subst n
        rw [at_] at g
        cases g
        have hz2 : (zs.map V.int).length ≤ sizeLine := by
          rw [List.length_map]
          exact hz
        exact ⟨hp, hz2, us, _, rel, hp⟩
      · rw [off b n] at g
        cases g
    · by_cases n : b = p
      · exact n
      · exact absurd (off b n) z
  · have g := KX p o lk
    rw [hp] at g
    cases g
    refine told_from KX hm hb hbb hl hg hp hr F bd (fun _ => none) (fun _ => .inl rfl) (fun b u z => ?_) (fun b z => absurd rfl z) (fun z => absurd rfl z) (hs _ (.inr ⟨_, us.toArray, _, lk, rfl, rfl, rfl, ?_, ?_⟩))
    · have z : (none : Option HO) = some u := z
      cases z
    · rw [List.size_toArray, len]
      exact hz
    · simpa using rel
end
/-- the goal behind the head -/
theorem told_walk {l : PySem.W.OpenLaw} {n k : Nat} {q : Program} {loose : List Str} {XP : (Str → Option Value) → Heap → Prop} {YP : World → Heap → Prop} {d : DefRec} {K : Params → PySem.W.Frag} {sp : PySem.W.Frag → Sp} {x : Str}
    (hn : l.most = some n) (hz : n ≤ sizeLine) (hdf : d.params.defaults = []) (hr : Room k callerA) (hY : ∀ (w : World) (h : Heap), YP w h → (K w.params).In h)
    (F : ∀ (w : World) (mg : Str → Option Value) (fl : Addr) (h : Heap), (K w.params).In h → h.Ns mainGlobals mg → mg d.name = some (.ref fl) → ∃ fd : FuncData, (∀ (s : Shared) (u : Value), BindsTo s fd ⟨[u], []⟩ [(x, u)]) ∧
      ∀ base : Heap, (K w.params).In base → base.Ns mainGlobals mg → FnG l.prog w (K w.params) mg base k fl fd [x] (sp (K w.params)))
    (hs : ∀ (K : PySem.W.Frag) (H : Hp) (p : Addr) (zs : List Int), zs.length ≤ n → SqL K H p (zs.map V.int) → sp K [.ref p] H (fun v _ => v = .bl true) E0) : PySem.W.WalkO q loose XP YP l.row.toRowW d [] (fun f vs => PySem.call f vs) :=
  Att.attach_call hn hdf fun w _ st mg mb fl _ _ _ _ p us zs G Y _ _ _ hmg hp hi hlen hg => by
    have KX := hY w _ Y
    obtain ⟨fd, bd, hF⟩ := F w mg fl _ KX G.T.g hmg
    exact told_call KX G.T.g G.T.b G.T.builtins G.T.nolimit hg hp hi (Nat.le_trans hlen hz) hr hF bd fun H h => hs _ H p zs hlen h
end DL

namespace DL
open PySem L2
section
variable {K : PySem.W.Frag} {W : Wd} {H0 F0 : Hp} {ρ : Rho} {te te2 : TE} {N : Ends2}
theorem sx_extx {i : Nat} (h : ∃ ds, ρ[i]? = some (.ls ds) ∧ Ev K W H0 te ρ fun s => ∃ es, s = .dat (.list es) ∧ ds.length + es.length ≤ sizeLine ∧ N.nx (ρ.set i (.ls (ds ++ es)))) : Sx K W H0 F0 (tDrop (tBM K "list" rExtend (tVar i) (tCons te tNil))) ρ N :=
  let ⟨_, a, b⟩ := h; sx_ext a b
theorem cas_listT {P : Sl → Prop} {ds : List D} (p : P (.dat (.list ds))) : CaS K W (rListOf K) [.dat (.tuple ds)] P := cas_listF (.inl rfl) p
/-- x, y = e, e' -/
theorem sx_par {i j : Nat} (h : Ev K W H0 te ρ fun s => NoLs s ∧ Ev K W H0 te2 ρ fun t => NoLs t ∧ N.nx ((ρ.set i s).set j t)) : Sx K W H0 F0 (tPar i j (tCons te (tCons te2 tNil))) ρ N := fun σ F H a D n r b c => by
  refine h σ F H a.ok a.ho _ fun v F1 H1 s o1 st1 hv ⟨hn, h2⟩ => ?_
  have a1 := a.step o1 st1
  refine h2 σ F1 H1 o1 a1.ho _ fun u F2 H2 t o2 st2 hu ⟨hn2, k⟩ => ?_
  have a2 := a1.step o2 st2
  exact ⟨v, u, rfl, n _ F2 H2 _ ⟨o2, a2.st, (a2.ho.set (hv.step st2) hn).set hu hn2⟩ (st1.fz.trans st2.fz) k⟩
end
/-! ### functions that give a new list back, to be changed -/
def PmN (K : PySem.W.Frag) (n : Nat) (Pre : Wd → Rho → Prop) (PN : List D → Prop) : Sp := fun vs H Q _ => ∃ W F ss, Ok W F H ∧ Paired (VOk K W F H) vs ss ∧ (∀ s ∈ ss, NoLs s) ∧ ss.length = n ∧ Pre W ss ∧
  ∀ p us F' H' ds, Ok W F' H' → Step W F H F' H' → H p = none → H' p = some (.lst us) → F' p = none → ¬ W.Z p → DpAll K F' us ds → PN ds → Q (.ref p) H'
section
variable {K : PySem.W.Frag} {W : Wd} {H0 F0 : Hp} {ρ : Rho} {te : TE} {t : TA} {PN : List D → Prop} {n : Nat} {Pre : Wd → Rho → Prop}
theorem pmN_len (vs : List V) (H : Hp) (Q : VK) (E : XK) (h : PmN K n Pre PN vs H Q E) : vs.length = n := by
  obtain ⟨W, F, ss, _, h1, _, h2, _⟩ := h
  exact (Paired.length h1).trans h2
theorem evn_fn {PN' : List D → Prop} (h : EvA K W H0 t ρ fun ss => (∀ s ∈ ss, NoLs s) ∧ ss.length = n ∧ Pre W ss ∧ ∀ ds, PN ds → PN' ds) : EvN K W H0 (tFn (PmN K n Pre PN) t) ρ PN' := fun σ F H o ho Q q =>
  h σ F H o ho _ fun vs F1 H1 ss o1 st1 hv ⟨h1, h2, h3, h4⟩ => ⟨W, F1, ss, o1, hv, h1, h2, h3, fun p us F2 H2 ds o2 st2 hp hl hf hz hd k => q p us F2 H2 ds o2 (st1.trans o1 st2) (st1.back o1 hp) hl hf hz hd (h4 ds k)⟩
/-- statements that end in such a list -/
def SxN (K : PySem.W.Frag) (W : Wd) (H0 F0 : Hp) (ts : TS) (ρ : Rho) (PN : List D → Prop) : Prop := ∀ σ F H, At K W H0 F0 σ F H ρ → ∀ D : Ends,
  (∀ p us F' H' ds, Ok W F' H' → Step W F0 H0 F' H' → H0 p = none → H' p = some (.lst us) → F' p = none → ¬ W.Z p → DpAll K F' us ds → PN ds → D.rt (.ref p) H') → ts D σ H
theorem sxn_seq {u v : TS} (h : Sx K W H0 F0 u ρ { nx := fun ρ' => SxN K W H0 F0 v ρ' PN, rt := fun _ => False }) : SxN K W H0 F0 (tSeq u v) ρ PN := fun σ F H a D r =>
  h σ F H a _ (fun σ' F' H' ρ' a' _ k => k σ' F' H' a' D r) (fun _ _ _ _ _ _ _ f => f.elim) (fun _ _ _ _ _ _ f => f.elim) fun _ _ _ _ _ _ f => f.elim
theorem sxn_ret {i : Nat} {ds : List D} (hi : ρ[i]? = some (.ls ds)) (k : PN ds) : SxN K W H0 F0 (tRet (tVar i)) ρ PN := fun σ F H a D r => by
  obtain ⟨p, vs, g1, g2, g3, g4, g5, g6⟩ := a.ho.at_ i _ hi
  exact ⟨.ref p, g1, r p vs F H ds a.ok a.st g5 g2 g3 g4 g6 k⟩
theorem sxn_retE (h : EvN K W H0 te ρ PN) : SxN K W H0 F0 (tRet te) ρ PN := fun σ F H a D r =>
  h σ F H a.ok a.ho _ fun p us F' H' ds o' st hp hl hf hz hd k => r p us F' H' ds o' (a.st.trans a.ok st) (a.st.back a.ok hp) hl hf hz hd k
theorem pmN_body {N : List Str} {ts : TS} {vs : List V} {H : Hp} {Q : VK} {E : XK} (hN : n ≤ N.length) (h : PmN K n Pre PN vs H Q E)
    (b : ∀ (W : Wd) (F : Hp) (ss : Rho), ss.length = n → Pre W ss → SxN K W H F ts (ss ++ List.replicate (N.length - ss.length) .un) PN) : ts { nx := fun _ H' => Q .non H', rt := Q } (L2.start N vs) H := by
  obtain ⟨W, F, ss, o, h1, h2, h3, h4, k⟩ := h
  exact b W F ss h3 h4 (L2.start N vs) F H ⟨o, Step.refl o, holds_start h1 h2 (by rw [h3]; exact hN)⟩ _ fun p us F' H' ds o' st hp hl hf hz hd e => k p us F' H' ds o' st hp hl hf hz hd e
end
end DL

namespace DL
open PySem L2 RZ
/-! ### xs * k of a list -/
def rMul3 (K : PySem.W.Frag) : R2 := fun x y H Q => rMul2 K x y H Q ∨ rRep x y H Q
theorem opMul3 {X : Cx} : OpR X (binaryOp .Mult) (rMul3 X.K) := opMul.or op_rep
section
variable {K : PySem.W.Frag} {W : Wd} {H0 F0 : Hp} {ρ : Rho} {ta tb : TE} {t tk : TA} {P : Sl → Prop} {PN : List D → Prop} {N : Ends2}
theorem ops_mul3 {s u : Sl} (h : OpS K W (rMul2 K) s u P) : OpS K W (rMul3 K) s u P := OpS.inl h
theorem evn_rep (h : Ev K W H0 ta ρ fun s => Ev K W H0 tb ρ fun u => ∃ (ds : List D) (k : Int), LsOf s ds ∧ u = .dat (.int k) ∧ -(2 ^ 63) ≤ k ∧ k < 2 ^ 63 ∧ ds.length * k.toNat ≤ sizeLine ∧ PN (List.replicate k.toNat ds).flatten) : EvN K W H0 (tOp (rMul3 K) ta tb) ρ PN := fun σ F H o ho Q q => by
  refine h σ F H o ho _ fun v F1 H1 s o1 st1 hv h1 => ?_
  refine h1 σ F1 H1 o1 (ho.step st1) _ fun u F2 H2 t o2 st2 hu ⟨ds, k, hs, ht, k1, k2, hl, p⟩ => ?_
  obtain ⟨a, xs, rfl, a1, a2⟩ := hs.get o2 (hv.step st2)
  subst ht
  rw [vok_int hu]
  refine .inr ⟨a, k, xs, rfl, rfl, a1, k1, k2, by rw [dpa_len a2]; exact hl, fun p' hp => ?_⟩
  obtain ⟨o3, st3⟩ := o2.own (u := .lst (List.replicate k.toNat xs).flatten) hp
  have st := st1.trans o1 st2
  exact q p' _ _ _ _ o3 (st.trans o2 st3) (st.back o2 hp) upd_same (o2.free hp) (o2.nz hp) (dpa_flat a2 _) p
theorem ops_repF {s : Sl} {ds : List D} {k : Int} (hs : LsOf s ds) (k1 : -(2 ^ 63) ≤ k) (k2 : k < 2 ^ 63) (hl : ds.length * k.toNat ≤ sizeLine) (p : P (.dat (.list (List.replicate k.toNat ds).flatten))) : OpS K W (rMul3 K) s (.dat (.int k)) P := OpS.inr fun F H x y o hx hy Q q => by
  obtain ⟨a, xs, rfl, a1, a2⟩ := hs.get o hx
  rw [vok_int hy]
  refine ⟨a, k, xs, rfl, rfl, a1, k1, k2, by rw [dpa_len a2]; exact hl, fun p' hp => ?_⟩
  obtain ⟨o2, st2⟩ := o.new (u := .lst (List.replicate k.toNat xs).flatten) hp
  exact q _ _ _ (.dat (.list (List.replicate k.toNat ds).flatten)) o2 st2 (.lst upd_same (dpa_mono st2.fz (dpa_flat a2 _))) p
/-- the second of two is a number by default -/
theorem ev_fnDi {p : D → D → Prop} {f : D → D → D} {i : Int} (h : EvA K W H0 t ρ fun ss => ∃ d, ss = [.dat d] ∧ p d (.int i) ∧ P (.dat (f d (.int i)))) : Ev K W H0 (tFnD (Pm2 K p f) [.int i] t) ρ P := fun σ F H o ho Q q =>
  h σ F H o ho _ fun vs F1 H1 ss o1 st1 hv ⟨d, e, hp, k⟩ => by
    subst e
    cases hv with
    | cons h1 h2 =>
      cases h2
      exact ⟨W, F1, [.dat d, .dat (.int i)], o1, .cons h1 (.cons (.int i) .nil), by simp [NoLs], rfl, ⟨d, .int i, rfl, hp⟩, fun v F2 H2 s o2 st2 hv2 p2 => q v F2 H2 s o2 (st1.trans o1 st2) hv2 (by rw [p2 d (.int i) rfl]; exact k)⟩
/-- one by name, the other by default -/
theorem ev_fnK01d {p : D → D → Prop} {f : D → D → D} {i : Int} (h : EvA K W H0 tk ρ fun rs => ∃ d, rs = [.dat d] ∧ p d (.int i) ∧ P (.dat (f d (.int i)))) : Ev K W H0 (tFnK 0 1 (Pm2 K p f) (fun _ zs => zs ++ [.int i]) tNil tk) ρ P := fun σ F H o ho Q q =>
  h σ F H o ho _ fun zs F1 H1 rs o1 st1 hz ⟨d, e, hp, k⟩ => by
    subst e
    cases hz with
    | cons h1 hn =>
      cases hn
      exact ⟨rfl, rfl, W, F1, [.dat d, .dat (.int i)], o1, .cons h1 (.cons (.int i) .nil), by simp [NoLs], rfl, ⟨d, .int i, rfl, hp⟩, fun v F3 H3 s o3 st3 hv2 p2 => q v F3 H3 s o3 (st1.trans o1 st3) hv2 (by rw [p2 d (.int i) rfl]; exact k)⟩
end
end DL

namespace DL
open PySem L2 RZ PySem.Spec PyProof.Rows
/-! ### sorted of a tuple of ints -/
section
variable {prog : Program} {w : World} {A : Around} {E : Value → Shared → Prop} {s : Shared}
theorem collect_tup {l : Addr} {vs : List Value} {Q : List Value → Shared → Prop} (hl : IsTup s.heap l vs.toArray)
    (h : Q vs { s with heap := (s.heap.push (seqObj "list" #[] 0)).update s.heap.objs.size (Obj.mapSeq (· ++ vs.toArray)) }) (hsz : vs.length ≤ sizeLine) :
    wpAny (model prog w) A (collect (.ref l)) Q E s := by
  obtain ⟨o, ho, hc, n, hd⟩ := id hl
  unfold collect
  refine wpAny_bind (wpAny_runValue (codeAny_builtin entry_proto_collect' ?_))
  show wpAny _ _ (do again (.builtin "list.__iadd__" ⟨[← newList [], .ref l], []⟩)) _ _ s
  refine wpAny_bind (wpAny_newList (wpAny_pure ⟨Code.quiet_builtin _ (by decide +kernel), codeAny_builtin entry_list_iadd' ?_⟩))
  show wpAny _ _ (Builtin.List.listExtendWith (.ref s.heap.objs.size) (.ref l) (.ref s.heap.objs.size)) _ _ { s with heap := s.heap.push (seqObj "list" #[] 0) }
  unfold Builtin.List.listExtendWith
  have ho' : (s.heap.push (seqObj "list" #[] 0)).get? l = some o := Heap.get?_push_of_some _ ho
  refine wpAny_bind (wpAny_typeOf (T := "tuple") ⟨o, ho', hc⟩ ?_)
  have ht : (Value.type "tuple" == Value.type "tuple") = true := by rfl
  rw [if_pos (by rw [ht]; simp)]
  refine wpAny_bind (listItems_at ho' hd ?_)
  refine wpAny_bind (listItems_at (xs := #[]) (n := 0) (Heap.get?_push_size _ rfl) rfl ?_)
  rw [if_neg (by simp)]
  refine wpAny_bind (listUpdate_at (xs := #[]) (n := 0) (Heap.get?_push_size _ rfl) rfl ?_ (Nat.zero_le _) (by show (#[] ++ vs.toArray).size ≤ sizeLine + 1; simp only [Array.size_append, List.size_toArray, List.length_nil]; omega))
  refine wpAny_pure ?_
  show wpAny (model prog w) A (do
      let o ← load s.heap.objs.size
      match o.data with
      | .seq xs _ => pure xs.toList
      | _ => unsupported "internal:collect") Q E { s with heap := (s.heap.push (seqObj "list" #[] 0)).update s.heap.objs.size (Obj.mapSeq (· ++ vs.toArray)) }
  refine wpAny_bind (wpAny_load (get?_update_seq (Heap.get?_push_size _ rfl) _) ?_)
  show wpAny _ _ (pure ((#[] : Array Value) ++ vs.toArray).toList) Q E _
  rw [show ((#[] : Array Value) ++ vs.toArray).toList = vs by simp]
  exact wpAny_pure h
theorem sorted_intsT {l : Addr} {vs : List Value} {ns : List Int} {Q : Value → Shared → Prop} (hl : IsTup s.heap l vs.toArray) (hI : IntsAre vs ns) (h64 : vs.length < 64)
    (h : ∀ (out : Array Value) (ns' : List Int), IntsAre out.toList ns' → ns'.Perm ns → ns'.Pairwise (· ≤ ·) → Q (.ref (s.heap.objs.size + 1)) { s with heap := sortedAll s.heap vs out }) :
    wpAny (model prog w) A (call (.builtin "sorted") [.ref l]) Q E s := by
  refine Calls.call_function_entry kind_sorted plain_sorted entry_sorted (args_sorted1 _) ?_
  unfold Builtin.«sorted»
  refine wpAny_bind (m := checkCount "sorted" 1 1 _) (wpAny_pure ?_)
  refine wpAny_bind (collect_tup hl ?_ (by rw [sizeLine_eq]; omega))
  refine wpAny_bind (wpAny_newList ?_)
  have hsz : ((s.heap.push (seqObj "list" #[] 0)).update s.heap.objs.size (Obj.mapSeq (· ++ vs.toArray))).objs.size = s.heap.objs.size + 1 := by
    rw [Heap.size_update, size_push']
  have hoL : (((s.heap.push (seqObj "list" #[] 0)).update s.heap.objs.size (Obj.mapSeq (· ++ vs.toArray))).push (seqObj "list" vs.toArray 0)).get? (s.heap.objs.size + 1) = some (seqObj "list" vs.toArray 0) := by
    rw [← hsz]; exact Heap.get?_push_size _ rfl
  show wpAny _ _ _ _ _ { s with heap := ((s.heap.push (seqObj "list" #[] 0)).update s.heap.objs.size (Obj.mapSeq (· ++ vs.toArray))).push (seqObj "list" vs.toArray 0) }
  rw [hsz]
  refine wpAny_bind (wpAny_holding (wpAny_call_entry slot_list_sort ⟨_, hoL, rfl⟩ entry_list_sort (list_sort_tree hoL hI h64 fun out ns' a1 a2 a3 => ⟨_, rfl, ?_⟩) (args_list_sort _)))
  exact wpAny_pure ⟨_, rfl, h out ns' a1 a2 a3⟩
end
def rSortedT (K : PySem.W.Frag) : List V → Hp → VK → Prop := fun vs H Q => ∃ (a : Addr) (ns : List Int), vs = [V.ref a] ∧ SqT K H a (ns.map V.int) ∧ ns.length < 64 ∧
  ∀ (ns' : List Int) (p : Addr), ns'.Perm ns → ns'.Pairwise (· ≤ ·) → H p = none → Q (.ref p) (upd H p (.lst (ns'.map V.int)))
section
variable {X : Cx}
theorem cr_sortedT : CallR X (.builtin "sorted") (rSortedT X.K) := by
  intro pins s σ H vs us Q I r h
  obtain ⟨a, ns, rfl, hs, h64, q⟩ := h
  obtain ⟨its, rv, hl, _⟩ := I.tuple hs
  rw [Vals.ref1 r]
  have hi := rv.ints
  refine sorted_intsT hl hi (by rw [hi.length]; exact h64) fun out ns' h1 h2 h3 => ?_
  obtain ⟨ep, he'⟩ := PyProof.Rows.sortedAll_at s.heap its out
  have hlen : (ns'.map V.int).length ≤ sizeLine := by rw [List.length_map, h2.length_eq]; exact small64 h64
  exact ⟨.ref _, upd H (s.heap.objs.size + 1) (.lst (ns'.map V.int)), I.laid (t' := s.toks) (fun _ _ => PyProof.Rows.sortedAll_old) (Nat.le_succ _) ⟨hlen, out.toList, ep, vals_of_ints h1, he'⟩, rfl, q ns' _ h2 h3 (I.hok.fresh (Nat.le_succ _))⟩
/-- sorted: of ints (a list, a tuple), of texts -/
def rSortedB (K : PySem.W.Frag) : List V → Hp → VK → Prop := fun xs H Q => rSortedA K xs H Q ∨ rSortedT K xs H Q
theorem cr_sortedB : CallR X (.builtin "sorted") (rSortedB X.K) := cr_sortedA.or cr_sortedT
end
section
variable {K : PySem.W.Frag} {W : Wd} {P : Sl → Prop} {s : Sl}
theorem cas_sortBL {ns : List Int} (hs : LsOf s (ns.map .int)) (hl : ns.length < 64) (p : ∀ ms : List Int, ms.Perm ns → ms.Pairwise (· ≤ ·) → P (.dat (.list (ms.map .int)))) : CaS K W (rSortedB K) [s] P := fun F H xs o hx Q q =>
  .inl (cas_sortI hs hl p F H xs o hx Q q)
theorem cas_sortBT {ns : List Int} (hl : ns.length < 64) (p : ∀ ms : List Int, ms.Perm ns → ms.Pairwise (· ≤ ·) → P (.dat (.list (ms.map .int)))) : CaS K W (rSortedB K) [.dat (.tuple (ns.map .int))] P := fun F H xs o hx Q q => by
  cases hx with
  | cons e1 e2 =>
    cases e2
    obtain ⟨a, vs, rfl, a1, a2⟩ := dp_tup e1
    rw [dpa_ints' a2] at a1
    refine .inr ⟨a, ns, rfl, Or.inl (rd_mono o.sub a1), hl, fun ms l h1 h2 hn => ?_⟩
    obtain ⟨o2, st2⟩ := o.new (u := .lst (ms.map V.int)) hn
    exact q _ _ _ (.dat (.list (ms.map .int))) o2 st2 (.lst upd_same (ints_dp ms)) (p ms h1 h2)
/-- sum of ints -/
theorem cas_sum {ns : List Int} (hs : LsOf s (ns.map .int)) (p : P (.dat (.int ns.sum))) : CaS K W (rSum K) [s] P := fun F H xs o hx Q q => by
  cases hx with
  | cons e1 e2 =>
    cases e2
    obtain ⟨a, vs, rfl, a1, a2⟩ := hs.get o e1
    rw [dpa_ints' a2] at a1
    exact ⟨a, ns, rfl, SqL.of a1, q _ F H (.dat (.int _)) o (Step.refl o) (.int _) p⟩
theorem ops_shl {i j : Int} (hc : CPow i j) (p : P (.dat (.int (i * 2 ^ j.toNat)))) : OpS K W (rI CPow fun i j => .int (i * 2 ^ j.toNat)) (.dat (.int i)) (.dat (.int j)) P := ops_I (f := fun i j => .int (i * 2 ^ j.toNat)) (fun _ => .int _) hc p
end
end DL

namespace DL
open PySem L2 RZ PySem.Spec PyProof.Rows
/-! ### enumerate of a tuple -/
theorem meets_enumerate_newT {v : Value} {o : Obj} {H : Heap → Prop} (B : Begins v o H) :
    Meets (Builtin.«enumerate.__new__» ⟨[.type "enumerate", v], []⟩) (fun _ R s => H s.heap ∧
      R (.ok (.ret (.ref (s.heap.push o).objs.size))) { s with heap := (s.heap.push o).push { cls := .type "enumerate", data := .fields #[.none, .bool false, .ref s.heap.objs.size, rawInt 0, .none, .none] } }) :=
  .of_wp fun prog w A R s h => by
    obtain ⟨hp, g, d, tk, os⟩ := s; obtain ⟨h1, h⟩ := h
    have hsub := sub_enumerate
    have q1 : ∀ {A' : Around} {E : Value → Shared → Prop} {Q : Value → Shared → Prop}, Q (.ref hp.objs.size) ⟨hp.push o, g, d, tk, os⟩ → wpAny (model prog w) A' (pyIter v) Q E ⟨hp, g, d, tk, os⟩ :=
      fun q => B.iter prog w _ _ ⟨hp, g, d, tk, os⟩ _ h1 q
    wp_walk using q1
    refine wpAny_stack_any fun st => wpAny_pure ?_
    split
    · rename_i c _ _ _ _ _
      cases (c == Value.type "enumerate")
      · wp_walk using q1
        exact ⟨_, rfl, h⟩
      · wp_walk using q1
        exact ⟨_, rfl, h⟩
    · wp_walk using q1
      exact ⟨_, rfl, h⟩
section
variable {prog : Program} {w : World} {A : Around} {E : Value → Shared → Prop} {s : Shared}
theorem call_enumerate_tuple {l : Addr} {items : Array Value} {Q : Value → Shared → Prop} (hL : s.heap.IsTuple l items)
    (h : ∀ h', IsEnum h' (s.heap.objs.size + 1) s.heap.objs.size 0 .none → h'.IsTupleIter s.heap.objs.size l 0 → h'.objs.size = s.heap.objs.size + 2 →
      (∀ b o, s.heap.get? b = some o → h'.get? b = some o) → Q (.ref (s.heap.objs.size + 1)) { s with heap := h' }) :
    wpAny (model prog w) A (call (.type "enumerate") [.ref l]) Q E s := by
  refine callType_new F.called_enumerate (by decide) (F.typeCall_enumerate_1 _) (F.newCall_enumerate_1 _) (fun obj => F.args_object_init_2 obj _) F.entry_enumerate_new
    (meets_enumerate_newT (begins_tuple l items)) ⟨hL, ?_⟩
  have hz : (s.heap.push { cls := .type "tuple_iterator", data := .fields #[.ref l, .int 0 0] }).objs.size = s.heap.objs.size + 1 := Heap.size_push ..
  show _ ∧ _
  rw [hz]
  have he : IsEnum ((s.heap.push { cls := .type "tuple_iterator", data := .fields #[.ref l, .int 0 0] }).push
      { cls := .type "enumerate", data := .fields #[.none, .bool false, .ref s.heap.objs.size, rawInt 0, .none, .none] }) (s.heap.objs.size + 1) s.heap.objs.size 0 .none := by
    have := Heap.get?_push_size (s.heap.push { cls := .type "tuple_iterator", data := .fields #[.ref l, .int 0 0] })
      (o := { cls := .type "enumerate", data := .fields #[.none, .bool false, .ref s.heap.objs.size, rawInt 0, .none, .none] }) rfl
    rw [hz] at this
    exact this
  refine ⟨⟨_, he, rfl⟩, h _ he ⟨_, Heap.get?_push_of_some _ (Heap.get?_push_size _ rfl), rfl, rfl⟩ (by rw [Heap.size_push, hz]) fun b o x => Heap.get?_push_of_some _ (Heap.get?_push_of_some _ x)⟩
end
/-- the tuple at a, each item in a new pair -/
def IteT (K : PySem.W.Frag) (a : Addr) : It :=
  ⟨fun i H => ∃ (xs : List V) (x : V), SqT K H a xs ∧ xs[i]? = some x, fun i H v H' => ∃ T x, v = .ref T ∧ H T = none ∧ H' = upd H T (.tup [.int (i : Nat), x]) ∧ ∀ xs, SqT K H a xs → xs[i]? = some x, fun i H => ∃ xs : List V, SqT K H a xs ∧ xs.length = i⟩
theorem turn_enumT {P : Program} {w : World} {K : PySem.W.Frag} {elts : List Expr} {kk : Nat} {tpos : Pos} (a e it : Addr) :
    Turn P w K (.Tuple elts kk tpos) (IteT K a) [e, it] e (fun i h => (∃ old, IsEnum h e it ((i : Nat) : Int) old) ∧ h.IsTupleIter it a i ∧ e ≠ it) where
  mem := by simp
  obj := fun i h st b hb => by
    obtain ⟨⟨old, he⟩, ⟨o, ho, hc, hd⟩, _⟩ := st
    have e' : b = e ∨ b = it := by simpa using hb
    rcases e' with z | z
    · rw [z]; exact ⟨_, he, fun v q => nomatch q⟩
    · rw [z]; exact ⟨o, ho, fun v q => by rw [hd] at q; cases q⟩
  keep := fun i h h' st k => let ⟨⟨old, he⟩, hi, hne⟩ := st; ⟨⟨old, k e (by simp) _ he⟩, hi.at fun o q => k it (by simp) o q, hne⟩
  item := by
    intro X hP hw hK hc i pins s σ H E I hf st hg
    subst hP hw hK
    obtain ⟨⟨old, he⟩, hit, hne⟩ := st
    obtain ⟨xs, x, hq, hx⟩ := hg
    obtain ⟨its, rv, p, hz⟩ := I.tuple hq
    obtain ⟨u, hu, ru⟩ := rv.get hx
    have hel : e < s.heap.objs.size := Heap.lt_size he
    have hil : it < s.heap.objs.size := by obtain ⟨_, q, _⟩ := hit; exact Heap.lt_size q
    have hae : e ≠ a := fun z => by
      obtain ⟨o, ho, hcl, _⟩ := p
      rw [← z, he] at ho
      injection ho with ho
      rw [← ho] at hcl
      exact absurd (Value.type.inj hcl) (by decide)
    have hai : a ≠ it := fun z => by
      obtain ⟨o, ho, hcl, _⟩ := p
      obtain ⟨o2, ho2, hc2, _⟩ := hit
      rw [z, ho2] at ho
      injection ho with ho
      rw [← ho, hc2] at hcl
      exact absurd (Value.type.inj hcl) (by decide)
    have hlt : i < its.toArray.size := by
      have : i < its.length := (List.getElem?_eq_some_iff.mp hu).1
      simpa using this
    refine wpAny_pyNext_enum_itemD (Draws.tuple (A := X.A.in1) (show X.A.in1.handled = none from I.ok.hd hc) it a hai its.toArray) he ⟨hit, p⟩ hlt hne (by simp [hne, hae]) fun x' h' tk hx' ho hst' hT hsz hk => ?_
    obtain ⟨hit', _⟩ := hst'
    have ex : x' = u := by
      have q : its.toArray[i]? = some u := by simpa using hu
      rw [hx'] at q
      exact Option.some.inj q
    subst ex
    refine ⟨_, rfl, wpAny_letOwnedTupleGo_enum (s := { s with heap := h', toks := tk + 1 }) ho fun h'' he' sb => ?_⟩
    have hT2 : h''.get? s.heap.objs.size = some { cls := .type "tuple", data := .seq #[.int i tk, x'] } := (sb.2 _ (Nat.ne_of_gt hel)).trans hT
    have new : ObjOk X.prog X.w (upd H s.heap.objs.size (.tup [.int (i : Nat), x])) h'' s.heap.objs.size (.tup [.int (i : Nat), x]) :=
      ⟨by show 2 ≤ sizeLine; decide, [.int i tk, x'], .cons ⟨_, rfl⟩ (.cons ru .nil), ⟨_, hT2, rfl, _, rfl⟩⟩
    have I1 : Inv X pins σ (upd H s.heap.objs.size (.tup [.int (i : Nat), x])) { s with heap := h'', toks := tk + 1 } :=
      I.turnedNew (ch := [e, it]) (fun b ob hb q => (sb.2 b (fun z => hb (by simp [z]))).trans (hk b ob (fun z => hb (by simp [z])) (fun z => hb (by simp [z])) q)) hf (Nat.le_refl _) new
    refine ⟨.ref s.heap.objs.size, _, I1, rfl, ⟨_, x, rfl, I.hok.fresh (Nat.le_refl _), rfl, fun ys hy => by rw [I.tuple_inj hy hq]; exact hx⟩, ⟨⟨x', ?_⟩, hit'.at fun o q => (sb.2 it (Ne.symm hne)).trans q, hne⟩, fun b hb => ?_⟩
    · have e1 : ((i + 1 : Nat) : Int) = (i : Int) + 1 := by omega
      rw [e1]; exact he'
    · have hb' : b < s.heap.objs.size := by
        have e' : b = e ∨ b = it := by simpa using hb
        rcases e' with z | z
        · rw [z]; exact hel
        · rw [z]; exact hil
      rw [upd_ne (Nat.ne_of_lt hb')]
      exact (hf b hb).1
  done := by
    intro X hP hw hK hc i pins s σ H E I hf st hg
    subst hP hw hK
    obtain ⟨⟨old, he⟩, hit, hne⟩ := st
    obtain ⟨xs, hq, hx⟩ := hg
    obtain ⟨its, rv, p, hz⟩ := I.tuple hq
    obtain ⟨f0, f1, f2, f3, f4, f5⟩ := hf it (by simp)
    have hl := rv.length
    have hai : a ≠ it := fun z => by
      obtain ⟨o, ho, hcl, _⟩ := p
      obtain ⟨o2, ho2, hc2, _⟩ := hit
      rw [z, ho2] at ho
      injection ho with ho
      rw [← ho, hc2] at hcl
      exact absurd (Value.type.inj hcl) (by decide)
    have hi : i = its.toArray.size := by
      rw [← hx, hl]
      simp
    subst hi
    exact wpAny_pyNext_enum_endD (Draws.tuple (A := X.A.in1) (show X.A.in1.handled = none from I.ok.hd hc) it a hai its.toArray) he ⟨hit, p⟩ fun h' eb => ⟨rfl, I.turned (t' := s.toks) (fun b o hb q => eb b o hb q) f0 f1 f3 f4 f5⟩
  self := fun A i s Q E st h => let ⟨⟨_, he⟩, _⟩ := st; wpAny_pyIter_enum he h
def iEnumA (K : PySem.W.Frag) (ta : TA) : TI := fun σ H R => ta σ H fun vs H1 => ∃ a xs, vs = [.ref a] ∧ SqT K H1 a xs ∧ R (IteT K a) H1
theorem pi_enumT {X : Cx} {e : Expr} {ta : TA} {p pos tpos : Pos} {elts : List Expr} {kk : Nat} (hg : Gl X "enumerate") (hm : X.mg "enumerate" = none) (ha : PA X [e] ta) (hs : starEach [e] X.env = [(false, eval e X.env)] := by rfl) :
    PI X (.Tuple elts kk tpos) (.Call (.Name "enumerate" p) [e] [] pos) (iEnumA X.K ta) := by
  refine ⟨fun pins s σ H R I h => ?_⟩
  refine Call_ (ld_blt I hg hm boot_enumerate (PyProof.Rows.callWith_type1 (thn (ha.run pos pins s σ H _ I h) fun us s1 ⟨vs, H1, I1, r1, q1⟩ => ?_) hs rfl))
  obtain ⟨a, xs, ex, hq, q⟩ := q1
  subst ex
  cases r1 with
  | cons r rr =>
    cases rr
    cases r
    obtain ⟨its, rv, p', hz⟩ := I1.tuple hq
    refine call_enumerate_tuple p' fun h' he hit hsz hk => wpAny_pyIter_enum he ?_
    have I2 : Inv X pins σ H1 { s1 with heap := h' } := I1.kept (t' := s1.toks) hk
    refine ⟨s1.heap.objs.size + 1, [s1.heap.objs.size + 1, s1.heap.objs.size], _, _, H1, rfl, I2, turn_enumT a (s1.heap.objs.size + 1) s1.heap.objs.size, ⟨⟨.none, he⟩, hit, Nat.succ_ne_self _⟩, fun b hb => ?_, q⟩
    have e' : b = s1.heap.objs.size + 1 ∨ b = s1.heap.objs.size := by simpa using hb
    have hle : s1.heap.objs.size ≤ b := by
      rcases e' with z | z
      · rw [z]; exact Nat.le_add_right _ _
      · rw [z]; exact Nat.le_refl _
    exact I1.fpOk hle (I1.hok.fresh hle)
/-- (0, x), (1, y) .. -/
def enumD (ds : List D) : List D := (rngD 0 ds.length).zipWith (fun i d => .tuple [i, d]) ds
theorem enumD_len (ds : List D) : (enumD ds).length = ds.length := by simp [enumD, rngD_len]
theorem enumD_get {ds : List D} {i : Nat} {d : D} (h : ds[i]? = some d) : (enumD ds)[i]? = some (.tuple [.int (i : Nat), d]) := by
  have hl := (List.getElem?_eq_some_iff.mp h).1
  unfold enumD
  rw [List.getElem?_zipWith, rngD_get hl, h]
  simp
theorem walk_enumT {K : PySem.W.Frag} {a : Addr} {xs : List V} {n : Nat} (hn : n = xs.length) : Walk (IteT K a) n (fun H => SqT K H a xs) (YPair (fun i => some (.int (i : Nat))) (fun i => xs[i]?)) := by
  subst hn
  exact ⟨fun i _ hi q => ⟨xs, xs[i], q, by simp [hi]⟩, fun _ q => ⟨xs, q, rfl⟩, fun i H v H' _ q y => by
    obtain ⟨T, x, h1, h2, h3, h4⟩ := y
    exact ⟨T, .int (i : Nat), x, h1, h2, h3, rfl, h4 xs q⟩⟩
section
variable {K : PySem.W.Frag} {W : Wd} {H0 F0 : Hp} {ρ : Rho}
theorem evi_enum {ta : TA} {PN : List D → Prop} (h : EvA K W H0 ta ρ fun ss => ∃ ds, ss = [.dat (.tuple ds)] ∧ PN (enumD ds)) : EvI K W H0 (iEnumA K ta) ρ PN := fun σ F H o ho R q =>
  h σ F H o ho _ fun vs F' H' ss o' st hv ⟨ds, e, p⟩ => by
    subst e
    cases hv with
    | cons e1 e2 =>
      cases e2
      obtain ⟨a, xs, rfl, h1, h2⟩ := dp_tup e1
      refine ⟨a, xs, rfl, Or.inl (rd_mono o'.sub h1), q _ F' H' (enumD ds) o' st ⟨_, _, walk_enumT (K := K) (a := a) (xs := xs) (by rw [enumD_len, dpa_len h2]), fun F2 H2 o2 st2 => Or.inl (rd_mono (st2.trans o2.sub) h1), fun i x F2 H2 H3 hi o2 st2 y => ?_⟩ p⟩
      obtain ⟨T, u, w, rfl, hT, rfl, hu, hw⟩ := y
      obtain rfl := Option.some.inj hu
      obtain ⟨d, d1, d2⟩ := dpa_get h2 hw
      obtain ⟨o3, st3⟩ := o2.new (u := .tup [.int (i : Nat), w]) hT
      exact ⟨_, .tuple [.int (i : Nat), d], o3, st3, enumD_get d1, .tup (.inl upd_same) (.cons (.int _) (.cons (dp_mono (st2.trans st3.fz) d2) .nil))⟩
/-- reversed(range(n)) -/
theorem evi_revr {te : TE} {PN : List D → Prop} (h : Ev K W H0 te ρ fun s => ∃ n : Nat, s = .dat (.int (n : Int)) ∧ n < 2 ^ 60 ∧ PN ((rngD 0 n).reverse)) : EvI K W H0 (iRevR (tRg1 te)) ρ PN := fun σ F H o ho R q =>
  h σ F H o ho _ fun v F' H' s o' st hv ⟨n, e, hn, p⟩ => by
    subst e
    refine ⟨n, vok_int hv, by decide, by decide, by omega, by omega, ?_⟩
    have e0 : ((n : Int) - 0).toNat = n := by omega
    rw [e0]
    refine q _ F' H' ((rngD 0 n).reverse) o' st ⟨_, _, by rw [List.length_reverse, rngD_len]; exact walk_rangeC, fun _ _ _ _ => trivial, fun i x F2 H2 H3 hi o2 st2 y => ?_⟩ p
    rw [List.length_reverse, rngD_len] at hi
    obtain ⟨rfl, rfl⟩ := y
    refine ⟨F2, _, o2, Step.refl o2, ?_, .int _⟩
    rw [List.getElem?_reverse (by rw [rngD_len]; omega), rngD_len, rngD_get (by omega)]
    congr 2
    omega
end
/-! ### max, min of two, int of a truth -/
def rMax2 : List V → Hp → VK → Prop := fun xs H Q => ∃ i j, xs = [.int i, .int j] ∧ Q (.int (if j > i then j else i)) H
def rMin2 : List V → Hp → VK → Prop := fun xs H Q => ∃ i j, xs = [.int i, .int j] ∧ Q (.int (if j < i then j else i)) H
section
variable {K : PySem.W.Frag} {W : Wd} {P : Sl → Prop}
theorem cas_max2 {i j : Int} (p : P (.dat (.int (if j > i then j else i)))) : CaS K W rMax2 [.dat (.int i), .dat (.int j)] P := fun F H xs o hx Q q => by
  cases hx with
  | cons e1 e2 =>
    cases e2 with
    | cons e3 e4 =>
      cases e4
      exact ⟨i, j, by rw [vok_int e1, vok_int e3], q _ F H (.dat (.int _)) o (Step.refl o) (.int _) p⟩
theorem cas_min2 {i j : Int} (p : P (.dat (.int (if j < i then j else i)))) : CaS K W rMin2 [.dat (.int i), .dat (.int j)] P := fun F H xs o hx Q q => by
  cases hx with
  | cons e1 e2 =>
    cases e2 with
    | cons e3 e4 =>
      cases e4
      exact ⟨i, j, by rw [vok_int e1, vok_int e3], q _ F H (.dat (.int _)) o (Step.refl o) (.int _) p⟩
end
end DL

namespace DL
open PySem L2 RZ PySem.Spec PyProof.Rows PySem.W PySem.Calls
/-! ### sorted of data that are alike: of a list, of a tuple, either way about -/
section
variable {prog : Program} {w : World} {A : Around} {E : Value → Shared → Prop} {s : Shared}
theorem sorted_of_sortT {l : Addr} {vs : List Value} {kw : List (Str × Value)} {Q : Value → Shared → Prop} (hl : IsTup s.heap l vs.toArray) (hL : vs.length ≤ sizeLine) (ha1 : argsOk "sorted" ⟨[.ref l], kw⟩) (ha2 : ∀ x, argsOk "list.sort" ⟨[.ref x], kw⟩)
    (body : ∀ E' : Value → Shared → Prop, wpAny (model prog w) A.in1.in1 (Builtin.«list.sort» ⟨[.ref (s.heap.objs.size + 1)], kw⟩) (fun f s' => f = .done (.ret .none) ∧ Q (.ref (s.heap.objs.size + 1)) s') E' { s with heap := copyHeap s.heap vs }) :
    wpAny (model prog w) A (call (.builtin "sorted") [.ref l] kw) Q E s := by
  refine call_function_entry_kw kind_sorted plain_sorted entry_sorted ha1 ?_
  unfold Builtin.«sorted»
  refine wpAny_bind (m := checkCount "sorted" 1 1 _) (wpAny_pure ?_)
  refine wpAny_bind (collect_tup hl ?_ hL)
  refine wpAny_bind (wpAny_newList ?_ hL)
  have hsz : ((s.heap.push (seqObj "list" #[] 0)).update s.heap.objs.size (Obj.mapSeq (· ++ vs.toArray))).objs.size = s.heap.objs.size + 1 := by
    rw [Heap.size_update, size_push']
  show wpAny _ _ _ _ _ { s with heap := copyHeap s.heap vs }
  rw [hsz]
  refine wpAny_bind (wpAny_holding (wpAny_call_entry_kw slot_list_sort ⟨_, copyHeap_at s.heap vs, rfl⟩ entry_list_sort ?body (ha2 _)))
  case body =>
    show wpAny (model prog w) A.in1.in1 (Builtin.«list.sort» ⟨[.ref (s.heap.objs.size + 1)], kw⟩) _ _ _
    refine wpAny_mono (body _) (fun f s' hf => ?_) fun _ _ e => e
    obtain ⟨rfl, hq⟩ := hf
    exact ⟨_, rfl, wpAny_pure ⟨_, rfl, hq⟩⟩
variable {β : Type} {vs : List Value} {bs : List β} {enc : β → PyData} {R : Value → β → Prop}
theorem sorted_rev_dataT {l : Addr} {b : Bool} {Q : Value → Shared → Prop} (hl : IsTup s.heap l vs.toArray) (e : EachIs R vs bs) (er : EachIs (fun v b => ∃ as, Reads s.heap v (enc b) as) vs bs) (hal : AllAlike (bs.map enc)) (hk : PySem.W.Sortable (bs.map enc)) (hL : bs.length ≤ sizeLine)
    (hu : ∀ b, b ∈ bs → A.units + 2 + (enc b).depth < cLine) (h : ∀ out, out.length = bs.length → EachIs R out (bs.mergeSort (dataLe b enc)) → Q (.ref (s.heap.objs.size + 1)) { s with heap := sortedAll s.heap vs (List.toArray out) }) :
    wpAny (model prog w) A (call (.builtin "sorted") [.ref l] [(Str.ofString "reverse", .bool b)]) Q E s := by
  have er' : EachIs (fun v b => ∃ as, Reads (sortingHeap (copyHeap s.heap vs) (s.heap.objs.size + 1) vs) v (enc b) as) vs bs := er.mono fun _ _ ⟨as, r⟩ => ⟨as, PyProof.Rows.Reads.keeps (fun _ _ => sorting_copy_old) r⟩
  have hL' : vs.length ≤ sizeLine := by rw [e.length]; exact hL
  exact sorted_of_sortT hl hL' (args_sorted_rev _ _) (fun _ => args_list_sort_rev _ _) fun _ => list_sort_rev_vals (s := { s with heap := copyHeap s.heap vs }) (copyHeap_at s.heap vs)
    (SortsAt.data (s := { s with heap := sortingHeap (copyHeap s.heap vs) (s.heap.objs.size + 1) vs }) (each_map (R := fun v d => ∃ as, Reads (sortingHeap (copyHeap s.heap vs) (s.heap.objs.size + 1) vs) v d as) enc er') hal hk (bound_map hu)) hL'
    ⟨rfl, h _ (by rw [sortVals_length b rfl]; exact e.length) (sortVals_data b e er' hal)⟩
theorem sorted_dataT {l : Addr} {Q : Value → Shared → Prop} (hl : IsTup s.heap l vs.toArray) (e : EachIs R vs bs) (er : EachIs (fun v b => ∃ as, Reads s.heap v (enc b) as) vs bs) (hal : AllAlike (bs.map enc)) (hk : PySem.W.Sortable (bs.map enc)) (hL : bs.length ≤ sizeLine)
    (hu : ∀ b, b ∈ bs → A.units + 2 + (enc b).depth < cLine) (h : ∀ out, out.length = bs.length → EachIs R out (bs.mergeSort (dataLe false enc)) → Q (.ref (s.heap.objs.size + 1)) { s with heap := sortedAll s.heap vs (List.toArray out) }) :
    wpAny (model prog w) A (call (.builtin "sorted") [.ref l]) Q E s := by
  have er' : EachIs (fun v b => ∃ as, Reads (sortingHeap (copyHeap s.heap vs) (s.heap.objs.size + 1) vs) v (enc b) as) vs bs := er.mono fun _ _ ⟨as, r⟩ => ⟨as, PyProof.Rows.Reads.keeps (fun _ _ => sorting_copy_old) r⟩
  have hL' : vs.length ≤ sizeLine := by rw [e.length]; exact hL
  exact sorted_of_sortT hl hL' (args_sorted1 _) (fun _ => args_list_sort _) fun _ => list_sort_vals (s := { s with heap := copyHeap s.heap vs }) (copyHeap_at s.heap vs)
    (SortsAt.data (s := { s with heap := sortingHeap (copyHeap s.heap vs) (s.heap.objs.size + 1) vs }) (each_map (R := fun v d => ∃ as, Reads (sortingHeap (copyHeap s.heap vs) (s.heap.objs.size + 1) vs) v d as) enc er') hal hk (bound_map hu)) hL'
    ⟨rfl, h _ (by rw [sortVals_length false rfl]; exact e.length) (sortVals_data false e er' hal)⟩
end
/-- what sorted gives -/
def srtD (b : Bool) (ds : List D) : List D := ds.mergeSort (dataLe b fun d => d)
def pairLe (b : Bool) : V × D → V × D → Bool := dataLe b Prod.snd
def rSrtD (K : PySem.W.Frag) (b : Bool) : List V → Hp → VK → Prop := fun xs H Q => ∃ (a : Addr) (vs : List V) (ds : List D), xs = [V.ref a] ∧ (SqL K H a vs ∨ SqT K H a vs) ∧ L2.DpAll K H vs ds ∧ AllAlike ds ∧ PySem.W.Sortable ds ∧ (∀ d ∈ ds, d.depth ≤ 40) ∧
  ∀ p, H p = none → Q (.ref p) (upd H p (.lst (((vs.zip ds).mergeSort (pairLe b)).map Prod.fst)))
section
variable {X : Cx}
theorem each_rel {vs : List V} {us : List Value} (r : Vals vs us) : ∀ {ds : List D}, vs.length = ds.length → EachIs (fun u (b : V × D) => RelV b.1 u) us (vs.zip ds) := by
  induction r with
  | nil => exact fun _ => .nil
  | cons h t ih =>
    intro ds hl
    cases ds with
    | nil => cases hl
    | cons d ds => exact .cons h (ih (by simpa using hl))
theorem each_reads {pins : List (Addr × Obj)} {σ : L2.St} {H : Hp} {s : Shared} (I : Inv X pins σ H s) : ∀ {vs : List V} {us : List Value} {ds : List D}, Vals vs us → L2.DpAll X.K H vs ds → EachIs (fun u (b : V × D) => ∃ as, Reads s.heap u b.2 as) us (vs.zip ds)
  | _, _, _, .nil, .nil => .nil
  | _, _, _, .cons h t, .cons d e => .cons (L2.Dp.reads I _ _ _ d h) (each_reads I t e)
theorem snd_zip : ∀ {vs : List V} {ds : List D}, vs.length = ds.length → (vs.zip ds).map Prod.snd = ds
  | [], [], _ => rfl
  | _ :: vs, _ :: ds, h => by rw [List.zip_cons_cons, List.map_cons, snd_zip (by simpa using h)]
theorem each_vals {zs : List (V × D)} {us : List Value} (e : EachIs (fun u (b : V × D) => RelV b.1 u) us zs) : Vals (zs.map Prod.fst) us := by
  induction e with
  | nil => exact .nil
  | cons h t ih => exact .cons h ih
theorem dpa_len2 {K : PySem.W.Frag} {H : Hp} : ∀ {vs : List V} {ds : List D}, L2.DpAll K H vs ds → vs.length = ds.length
  | _, _, .nil => rfl
  | _, _, .cons _ t => congrArg Nat.succ (dpa_len2 t)
theorem srt_fin {b : Bool} {pins : List (Addr × Obj)} {σ : L2.St} {H : Hp} {s : Shared} {vs : List V} {ds : List D} {its : List Value} {Q : VK} (I : Inv X pins σ H s) (rv : Vals vs its) (hz : vs.length ≤ sizeLine)
    (q : ∀ p, H p = none → Q (.ref p) (upd H p (.lst (((vs.zip ds).mergeSort (pairLe b)).map Prod.fst)))) (hl : vs.length = ds.length) (out : List Value) (h1 : out.length = (vs.zip ds).length) (h2 : EachIs (fun u (b : V × D) => RelV b.1 u) out ((vs.zip ds).mergeSort (pairLe b))) :
    EP X pins σ Q (.ref (s.heap.objs.size + 1)) { s with heap := sortedAll s.heap its out.toArray } := by
  obtain ⟨ep, he'⟩ := PyProof.Rows.sortedAll_at s.heap its out.toArray
  have hlen : (((vs.zip ds).mergeSort (pairLe b)).map Prod.fst).length ≤ sizeLine := by
    rw [List.length_map, List.length_mergeSort, List.length_zip, ← hl, Nat.min_self]
    exact hz
  exact ⟨.ref _, upd H (s.heap.objs.size + 1) (.lst (((vs.zip ds).mergeSort (pairLe b)).map Prod.fst)), I.laid (t' := s.toks) (fun _ _ => PyProof.Rows.sortedAll_old) (Nat.le_succ _) ⟨hlen, out, ep, each_vals h2, he'⟩, rfl, q _ (I.hok.fresh (Nat.le_succ _))⟩
theorem cr_srtD (hu : X.A.units + 64 < cLine) : CallR X (.builtin "sorted") (rSrtD X.K false) := by
  intro pins s σ H xs us Q I r h
  obtain ⟨a, vs, ds, rfl, hs, hd, hal, hk, hdp, q⟩ := h
  rw [Vals.ref1 r]
  have hl := dpa_len2 hd
  have hal' : AllAlike ((vs.zip ds).map Prod.snd) := by rw [snd_zip hl]; exact hal
  have hk' : PySem.W.Sortable ((vs.zip ds).map Prod.snd) := by rw [snd_zip hl]; exact hk
  have hu' : ∀ b, b ∈ vs.zip ds → X.A.units + 2 + (Prod.snd b).depth < cLine := fun b hb => by
    have := hdp b.2 (List.of_mem_zip hb).2
    omega
  rcases hs with hs | hs
  · obtain ⟨its, rv, hL, hz⟩ := I.list hs
    exact sorted_data (bs := vs.zip ds) (enc := Prod.snd) hL.isList (each_rel rv hl) (each_reads I rv hd) hal' hk' (by rw [List.length_zip]; omega) hu' fun out h1 h2 => srt_fin (b := false) I rv hz q hl out h1 h2
  · obtain ⟨its, rv, hL, hz⟩ := I.tuple hs
    exact sorted_dataT (bs := vs.zip ds) (enc := Prod.snd) hL (each_rel rv hl) (each_reads I rv hd) hal' hk' (by rw [List.length_zip]; omega) hu' fun out h1 h2 => srt_fin (b := false) I rv hz q hl out h1 h2
def rSrtK (K : PySem.W.Frag) : List V → List V → Hp → VK → Prop := fun vs zs H Q => ∃ b, zs = [.bl b] ∧ rSrtD K b vs H Q
theorem crk_srtD (hu : X.A.units + 64 < cLine) : CallRK X (.builtin "sorted") [Str.ofString "reverse"] (rSrtK X.K) := by
  intro pins s σ H xs zs us ws Q I r rz h
  obtain ⟨b, rfl, a, vs, ds, rfl, hs, hd, hal, hk, hdp, q⟩ := h
  obtain rfl := Vals.ref1 r
  obtain ⟨w1, rfl, e1⟩ := vals1 rz
  obtain rfl : w1 = Value.bool b := e1
  have hl := dpa_len2 hd
  have hal' : AllAlike ((vs.zip ds).map Prod.snd) := by rw [snd_zip hl]; exact hal
  have hk' : PySem.W.Sortable ((vs.zip ds).map Prod.snd) := by rw [snd_zip hl]; exact hk
  have hu' : ∀ b, b ∈ vs.zip ds → X.A.units + 2 + (Prod.snd b).depth < cLine := fun b hb => by
    have := hdp b.2 (List.of_mem_zip hb).2
    omega
  rcases hs with hs | hs
  · obtain ⟨its, rv, hL, hz⟩ := I.list hs
    exact sorted_rev_data (bs := vs.zip ds) (enc := Prod.snd) hL.isList (each_rel rv hl) (each_reads I rv hd) hal' hk' (by rw [List.length_zip]; omega) hu' fun out h1 h2 => srt_fin (b := b) I rv hz q hl out h1 h2
  · obtain ⟨its, rv, hL, hz⟩ := I.tuple hs
    exact sorted_rev_dataT (bs := vs.zip ds) (enc := Prod.snd) hL (each_rel rv hl) (each_reads I rv hd) hal' hk' (by rw [List.length_zip]; omega) hu' fun out h1 h2 => srt_fin (b := b) I rv hz q hl out h1 h2
end
section
variable {K : PySem.W.Frag} {W : Wd} {H0 : Hp} {ρ : Rho} {P : Sl → Prop} {s : Sl} {t tk : TA}
theorem dpa_of_zip {F : Hp} : ∀ {zs : List (V × D)}, (∀ p ∈ zs, Dp K F p.1 p.2) → DpAll K F (zs.map Prod.fst) (zs.map Prod.snd)
  | [], _ => .nil
  | z :: zs, h => .cons (h z (by simp)) (dpa_of_zip fun p m => h p (by simp [m]))
theorem dpa_zip_mem {F : Hp} : ∀ {vs : List V} {ds : List D}, DpAll K F vs ds → ∀ p ∈ vs.zip ds, Dp K F p.1 p.2
  | _, _, .nil, _, m => nomatch m
  | _, _, .cons h t, p, m => by
    rw [List.zip_cons_cons] at m
    rcases List.mem_cons.mp m with rfl | m
    · exact h
    · exact dpa_zip_mem t p m
theorem srt_run {b : Bool} {ds : List D} (hs : SqOf s ds) (hal : AllAlike ds) (hk : PySem.W.Sortable ds) (hd : ∀ d ∈ ds, d.depth ≤ 40) (p : P (.dat (.list (srtD b ds)))) : CaS K W (rSrtD K b) [s] P := fun F H xs o hx Q q => by
  cases hx with
  | cons e1 e2 =>
    cases e2
    obtain ⟨a, vs, rfl, a1, a2⟩ := hs.get o e1
    refine ⟨a, vs, ds, rfl, a1, (dpa_mono o.sub a2).old, hal, hk, hd, fun p' hp => ?_⟩
    obtain ⟨o2, st2⟩ := o.new (u := .lst (((vs.zip ds).mergeSort (pairLe b)).map Prod.fst)) hp
    have e : ((vs.zip ds).mergeSort (pairLe b)).map Prod.snd = srtD b ds := by
      unfold srtD
      rw [sort_maps (r := pairLe b) (s := dataLe b fun d => d) Prod.snd (fun _ _ _ _ => rfl), snd_zip (dpa_len a2)]
    refine q _ _ _ (.dat (.list (srtD b ds))) o2 st2 (.lst upd_same ?_) p
    rw [← e]
    exact dpa_of_zip fun z hz => dp_mono st2.fz (dpa_zip_mem a2 z (List.mem_mergeSort.mp hz))
theorem ev_srtK {b : Bool} (h : EvA K W H0 t ρ fun ss => EvA K W H0 tk ρ fun rs => ∃ s ds, ss = [s] ∧ rs = [.dat (.bool b)] ∧ NoLs s ∧ SqOf s ds ∧ AllAlike ds ∧ PySem.W.Sortable ds ∧ (∀ d ∈ ds, d.depth ≤ 40) ∧ P (.dat (.list (srtD b ds)))) : Ev K W H0 (tCKw (rSrtK K) t tk) ρ P := fun σ F H o ho Q q =>
  h σ F H o ho _ fun vs F1 H1 ss o1 st1 hv k => k σ F1 H1 o1 (ho.step st1) _ fun zs F2 H2 rs o2 st2 hz ⟨s, ds, e1, e2, hn, hs, hal, hk, hd, p⟩ => by
    subst e1 e2
    cases hv with
    | cons h1 h0 =>
      cases h0
      cases hz with
      | cons g1 g0 =>
        cases g0
        exact ⟨b, by rw [vok_bool g1], srt_run (P := P) hs hal hk hd p F2 H2 [_] o2 (.cons (h1.step st2) .nil) Q fun v F3 H3 s' o3 st3 hv3 p3 => q v F3 H3 s' o3 ((st1.trans o1 st2).trans o2 st3) hv3 p3⟩
end
end DL

namespace DL
open PySem L2
open PySem.W (AllAlike)
section
variable {K : PySem.W.Frag} {W : Wd} {H0 F0 : Hp} {ρ : Rho} {N : Ends2}
/-- a new list's address stands in no slot that held ahead of it -/
theorem fresh_slot {σ : St} {F H H' : Hp} {p : Addr} (ho : Holds K W H0 σ F H ρ) (hp : H p = none) (j : Nat) (es : List D) (e : ρ[j]? = some (.ls es)) : σ[j]? ≠ some (some (.ref p)) := fun z => by
  obtain ⟨q, ws, g1, g2, _⟩ := ho.at_ j _ e
  rw [z] at g1
  have : p = q := by simpa using g1
  rw [← this, hp] at g2
  cases g2
theorem slot_set {σ : St} {i j : Nat} {p q : Addr} {s : Sl} {es : List D} (hpq : p ≠ q) (h : ∀ es, ρ[j]? = some (.ls es) → σ[j]? ≠ some (some (.ref p))) (hl : σ.length = ρ.length) (e : (ρ.set i s)[j]? = some (.ls es)) : (σ.set i (some (.ref q)))[j]? ≠ some (some (.ref p)) := fun z => by
  by_cases w : j = i
  · subst w
    have hj : j < ρ.length := by
      have := (List.getElem?_eq_some_iff.mp e).1
      rwa [List.length_set] at this
    rw [List.getElem?_set_self (by omega)] at z
    exact hpq (by simpa using z.symm)
  · rw [List.getElem?_set_ne (Ne.symm w)] at e z
    exact h es e z
theorem sx_three {i j k : Nat} (h : N.nx (((ρ.set i (.ls [])).set j (.ls [])).set k (.ls []))) :
    Sx K W H0 F0 (tPar3 i j k (tCons (tLst tNil) (tCons (tLst tNil) (tCons (tLst tNil) tNil)))) ρ N := fun σ F H a D n r b c => by
  refine ⟨Nat.zero_le _, fun p1 q1 => ?_⟩
  obtain ⟨o1, s1⟩ := a.ok.own (u := .lst []) q1
  refine ⟨Nat.zero_le _, fun p2 q2 => ?_⟩
  obtain ⟨o2, s2⟩ := o1.own (u := .lst []) q2
  refine ⟨Nat.zero_le _, fun p3 q3 => ?_⟩
  obtain ⟨o3, s3⟩ := o2.own (u := .lst []) q3
  refine ⟨_, _, _, rfl, ?_⟩
  have n21 : p2 ≠ p1 := fun z => by rw [z, upd_same] at q2; cases q2
  have n32 : p3 ≠ p2 := fun z => by rw [z, upd_same] at q3; cases q3
  have n31 : p3 ≠ p1 := fun z => by rw [z, upd_ne n21.symm, upd_same] at q3; cases q3
  have r2 : H p2 = none := by rw [upd_ne n21] at q2; exact q2
  have r3 : H p3 = none := by rw [upd_ne n32, upd_ne n31] at q3; exact q3
  have st : Step W F H F _ := (s1.trans o1 s2).trans o2 s3
  have a4 := a.step o3 st
  have h1 := fresh_slot (H' := H) a.ho q1
  have h2 := fresh_slot (H' := H) a.ho r2
  have h3 := fresh_slot (H' := H) a.ho r3
  have b1 := a4.ho.setOwn (i := i) (p := p1) (vs := []) (ds := []) (by rw [upd_ne n31.symm, upd_ne n21.symm, upd_same]) (a.ok.free q1) (a.ok.nz q1) (a.st.back a.ok q1) .nil h1
  have b2 := b1.setOwn (i := j) (p := p2) (vs := []) (ds := []) (by rw [upd_ne n32.symm, upd_same]) (a.ok.free r2) (a.ok.nz r2) (a.st.back a.ok r2) .nil fun m es e => slot_set n21 (fun es e => h2 m es e) a.ho.len e
  have b3 := b2.setOwn (i := k) (p := p3) (vs := []) (ds := []) (by rw [upd_same]) (a.ok.free r3) (a.ok.nz r3) (a.st.back a.ok r3) .nil fun m es e => slot_set (ρ := ρ.set i (.ls [])) n32 (fun es e => slot_set n31 (fun es e => h3 m es e) a.ho.len e) (by rw [List.length_set, List.length_set]; exact a.ho.len) e
  exact n _ F _ _ ⟨o3, a4.st, b3⟩ (Same.refl _) h
/-- x, y, z = .. -/
theorem sx_par3 {i j k : Nat} {te te2 te3 : TE} (h : Ev K W H0 te ρ fun s => NoLs s ∧ Ev K W H0 te2 ρ fun t => NoLs t ∧ Ev K W H0 te3 ρ fun u => NoLs u ∧ N.nx (((ρ.set i s).set j t).set k u)) : Sx K W H0 F0 (tPar3 i j k (tCons te (tCons te2 (tCons te3 tNil)))) ρ N := fun σ F H a D n r b c => by
  refine h σ F H a.ok a.ho _ fun v F1 H1 s o1 st1 hv ⟨hn, h2⟩ => ?_
  have a1 := a.step o1 st1
  refine h2 σ F1 H1 o1 a1.ho _ fun u F2 H2 t o2 st2 hu ⟨hn2, h3⟩ => ?_
  have a2 := a1.step o2 st2
  refine h3 σ F2 H2 o2 a2.ho _ fun x F3 H3 z o3 st3 hx ⟨hn3, k3⟩ => ?_
  have a3 := a2.step o3 st3
  have b1 := ((a1.ho.set (i := i) hv hn).step st2).step st3
  have b2 := (((a1.ho.set (i := i) hv hn).step st2).set (i := j) hu hn2).step st3
  exact ⟨v, u, x, rfl, n _ F3 H3 _ ⟨o3, a3.st, b2.set (i := k) hx hn3⟩ ((st1.fz.trans st2.fz).trans st3.fz) k3⟩
/-- x = xs.pop(..), xs one's own -/
theorem sx_asg2 {i : Nat} {te : TE} (h : Ev2 K W H0 F0 te ρ fun s ρ' => NoLs s ∧ N.nx (ρ'.set i s)) : Sx K W H0 F0 (tAsg te (gName i)) ρ N := fun σ F H a D n r b c =>
  h σ F H a _ fun v F' H' s ρ' a' bt hv ⟨hn, k⟩ => n _ F' H' _ ⟨a'.ok, a'.st, a'.ho.set hv hn⟩ bt.fz k
/-- int(truth) -/
theorem cas_int1b {P : Sl → Prop} {b : Bool} (p : P (.dat (.int (if b = true then 1 else 0)))) : CaS K W (fun xs H Q => (∃ i, xs = [V.int i] ∧ Q (V.int i) H) ∨ ∃ k, xs = [V.bl k] ∧ Q (V.int (if k = true then 1 else 0)) H) [.dat (.bool b)] P := fun F H xs o hx Q q => by
  cases hx with
  | cons e1 e2 =>
    cases e2
    rw [vok_bool e1]
    exact .inr ⟨b, rfl, q _ F H (.dat (.int _)) o (Step.refl o) (.int _) p⟩
section
variable {P : Sl → Prop} {s : Sl} {t tk : TA}
open PySem.W
theorem ev_srtL {b : Bool} (h : EvA K W H0 t ρ fun ss => EvA K W H0 tk ρ fun rs => ∃ s ds, ss = [s] ∧ rs = [.dat (.bool b)] ∧ SqOf s ds ∧ AllAlike ds ∧ PySem.W.Sortable ds ∧ (∀ d ∈ ds, d.depth ≤ 40) ∧ P (.dat (.list (srtD b ds)))) : Ev K W H0 (tCKw (rSrtK K) t tk) ρ P := fun σ F H o ho Q q =>
  h σ F H o ho _ fun vs F1 H1 ss o1 st1 hv k => k σ F1 H1 o1 (ho.step st1) _ fun zs F2 H2 rs o2 st2 hz ⟨s, ds, e1, e2, hs, hal, hk, hd, p⟩ => by
    subst e1 e2
    cases hv with
    | cons h1 h0 =>
      cases h0
      cases hz with
      | cons g1 g0 =>
        cases g0
        exact ⟨b, by rw [vok_bool g1], srt_run (P := P) hs hal hk hd p F2 H2 [_] o2 (.cons (h1.step st2) .nil) Q fun v F3 H3 s' o3 st3 hv3 p3 => q v F3 H3 s' o3 ((st1.trans o1 st2).trans o2 st3) hv3 p3⟩
end
/-- xs != ys, xs one's own -/
theorem ops_ne_ls {P : Sl → Prop} {ds : List D} {e : D} (hd : SeqAt.shaped (.list ds) = true) (he : SeqAt.shaped e = true) (p : P (.dat (.bool (!PyData.eqv (.list ds) e)))) : OpS K W (rNe2 K) (.ls ds) (.dat e) P := OpS.inl fun F H x y o hx hy Q q => by
  obtain ⟨a, vs, rfl, g2, g3, g4, g6⟩ := hx
  exact ⟨.list ds, e, .lst (SqL.of g2) (dpa_mono o.sub g6).old, (dp_mono o.sub hy).old, hd, he, q _ F H (.dat (.bool _)) o (Step.refl o) (.bl _) p⟩
theorem ev_put {x y : Nat} {ds : List D} {i : Nat} {te : TE} {P : Sl → Prop} (hx : ρ[x]? = some (.dat (.tuple ds))) (hy : ρ[y]? = some (.dat (.int (i : Int)))) (hl : ds.length ≤ 1000) (h : Ev K W H0 te ρ fun s => ∃ d, s = .dat d ∧ P (.dat (.tuple (cutD ds none (some (i : Int)) ++ [d] ++ cutD ds (some ((i : Int) + 1)) none)))) :
    Ev K W H0 (tOp (rAdd4 K) (tOp (rAdd4 K) (tSl (rSl3 K) (tVar x) tNoPart (tPart (tVar y))) (tTup (tCons te tNil))) (tSl (rSl3 K) (tVar x) (tPart (tOp (rAdd4 K) (tVar y) (tC (.int 1)))) tNoPart)) ρ P := by
  have c1 : ∀ lo hi, (cutD ds lo hi).length ≤ ds.length := fun lo hi => by
    unfold cutD
    rw [List.length_take, List.length_drop]
    omega
  have b1 := c1 none (some (i : Int))
  have b2 := c1 (some ((i : Int) + 1)) none
  refine ev_op (ev_op (ev_sl (ev_var hx (eo_none (eo_some (ev_var hy ⟨_, rfl, sls_tup (ev_tup (ea_cons (h.mono fun s k => ?_)))⟩))))))
  obtain ⟨d, rfl, p⟩ := k
  refine ea_nil ⟨[d], rfl, le_line (n := 1) rfl, ops_add_tup (big_line (by rw [List.length_singleton]; omega)) ?_⟩
  refine ev_sl (ev_var hx (eo_some (ev_op (ev_var hy (ev_int (ops_add_int ⟨_, rfl, eo_none (sls_tup (ops_add_tup (big_line (by rw [List.length_append, List.length_singleton]; omega)) p))⟩))))))
theorem ev_putE {y : Nat} {ds : List D} {i : Nat} {te tb : TE} {P : Sl → Prop} (hb : ∀ {P : Sl → Prop}, P (.dat (.tuple ds)) → Ev K W H0 tb ρ P) (hy : ρ[y]? = some (.dat (.int (i : Int)))) (hl : ds.length ≤ 1000) (h : Ev K W H0 te ρ fun s => ∃ d, s = .dat d ∧ P (.dat (.tuple (cutD ds none (some (i : Int)) ++ [d] ++ cutD ds (some ((i : Int) + 1)) none)))) :
    Ev K W H0 (tOp (rAdd4 K) (tOp (rAdd4 K) (tSl (rSl3 K) tb tNoPart (tPart (tVar y))) (tTup (tCons te tNil))) (tSl (rSl3 K) tb (tPart (tOp (rAdd4 K) (tVar y) (tC (.int 1)))) tNoPart)) ρ P := by
  have c1 : ∀ lo hi, (cutD ds lo hi).length ≤ ds.length := fun lo hi => by
    unfold cutD
    rw [List.length_take, List.length_drop]
    omega
  have b1 := c1 none (some (i : Int))
  have b2 := c1 (some ((i : Int) + 1)) none
  refine ev_op (ev_op (ev_sl (hb (eo_none (eo_some (ev_var hy ⟨_, rfl, sls_tup (ev_tup (ea_cons (h.mono fun s k => ?_)))⟩))))))
  obtain ⟨d, rfl, p⟩ := k
  refine ea_nil ⟨[d], rfl, le_line (n := 1) rfl, ops_add_tup (big_line (by rw [List.length_singleton]; omega)) ?_⟩
  refine ev_sl (hb (eo_some (ev_op (ev_var hy (ev_int (ops_add_int ⟨_, rfl, eo_none (sls_tup (ops_add_tup (big_line (by rw [List.length_append, List.length_singleton]; omega)) p))⟩))))))
/-- xs[:i] + xs[i + 1:], i written out -/
theorem ev_cut {x : Nat} {ds : List D} {i : Nat} {te te2 : TE} {P : Sl → Prop} (hx : ρ[x]? = some (.dat (.tuple ds))) (hl : ds.length ≤ 1000) (h1 : ∀ {P : Sl → Prop}, P (.dat (.int (i : Int))) → Ev K W H0 te ρ P) (h2 : ∀ {P : Sl → Prop}, P (.dat (.int ((i : Int) + 1))) → Ev K W H0 te2 ρ P) (p : P (.dat (.tuple (cutD ds none (some (i : Int)) ++ cutD ds (some ((i : Int) + 1)) none)))) :
    Ev K W H0 (tOp (rAdd4 K) (tSl (rSl3 K) (tVar x) tNoPart (tPart te)) (tSl (rSl3 K) (tVar x) (tPart te2) tNoPart)) ρ P := by
  have c1 : ∀ lo hi, (cutD ds lo hi).length ≤ ds.length := fun lo hi => by
    unfold cutD
    rw [List.length_take, List.length_drop]
    omega
  have b1 := c1 none (some (i : Int))
  have b2 := c1 (some ((i : Int) + 1)) none
  exact ev_op (ev_sl (ev_var hx (eo_none (eo_some (h1 ⟨_, rfl, sls_tup (ev_sl (ev_var hx (eo_some (h2 ⟨_, rfl, eo_none (sls_tup (ops_add_tup (big_line (by omega)) p))⟩))))⟩)))))
end
end DL

namespace DL
open PySem L2
section
variable {K : PySem.W.Frag} {W : Wd} {H0 F0 : Hp} {ρ : Rho} {N : Ends2} {tt : TT} {tb : TS}
/-- while: J m holds ahead of each turn, m falls -/
theorem sx_while (J : Nat → Rho → Prop) (m : Nat) (h0 : J m ρ)
    (h : ∀ m ρ', J m ρ' → EvT K W H0 tt ρ' fun b => if b = true then Sx K W H0 F0 tb ρ' { nx := fun ρ2 => ∃ m', m' < m ∧ J m' ρ2, ct := fun ρ2 => ∃ m', m' < m ∧ J m' ρ2, bk := N.nx, rt := N.rt } else N.nx ρ') :
    Sx K W H0 F0 (tWhile tt tb) ρ N := fun σ F H a D n r b c =>
  ⟨fun m σ2 H2 => ∃ F2 ρ2, At K W H0 F0 σ2 F2 H2 ρ2 ∧ Same F F2 ∧ J m ρ2, ⟨m, F, ρ, a, Same.refl _, h0⟩, fun m σ2 H2 ⟨F2, ρ2, a2, sm, j⟩ => h m ρ2 j σ2 F2 H2 a2.ok a2.ho _ fun k F3 H3 o3 st3 p => by
    have a3 := a2.step o3 st3
    cases k with
    | true =>
      rw [if_pos rfl] at p
      rw [if_pos rfl]
      refine ⟨fun σ4 H4 => ∃ m', m' < m ∧ ∃ F4 ρ4, At K W H0 F0 σ4 F4 H4 ρ4 ∧ Same F F4 ∧ J m' ρ4, fun σ4 H4 q => q, ?_⟩
      exact p σ2 F3 H3 a3 _ (fun σ4 F4 H4 ρ4 a4 s4 ⟨m', hm, j4⟩ => ⟨m', hm, F4, ρ4, a4, (sm.trans st3.fz).trans s4, j4⟩) r (fun σ4 F4 H4 ρ4 a4 s4 q => n σ4 F4 H4 ρ4 a4 ((sm.trans st3.fz).trans s4) q) (fun σ4 F4 H4 ρ4 a4 s4 ⟨m', hm, j4⟩ => ⟨m', hm, F4, ρ4, a4, (sm.trans st3.fz).trans s4, j4⟩)
    | false => exact n σ2 F3 H3 ρ2 a3 (sm.trans st3.fz) p⟩
end
section
variable {K : PySem.W.Frag} {W : Wd} {H0 F0 : Hp} {ρ : Rho} {te : TE} {tt tt1 : TT} {PN : List D → Prop}
theorem walk_it {J : It} {n : Nat} {G : Hp → Prop} {Y : Nat → Hp → V → Hp → Prop} (w : Walk J n G Y) (Pv : Nat → Hp → Prop) {H1 : Hp} (h0 : Pv 0 H1) (hG : ∀ i H, i ≤ n → Pv i H → G H) {Qd : Hp → Prop} (hQ : ∀ H, Pv n H → Qd H) {B : (Hp → Prop) → V → Hp → Prop}
    (hB : ∀ i x H H', i < n → Pv i H → Y i H x H' → B (Pv (i + 1)) x H') :
    ∃ W : Nat → Nat → Hp → Prop, (∃ m, W 0 m H1) ∧ ∀ i m H, W i m H → (J.stop i H ∧ Qd H) ∨ (J.go i H ∧ ∃ Nx : Hp → Prop, (∀ H', Nx H' → ∃ m', m' < m ∧ W (i + 1) m' H') ∧ ∀ x H', J.yld i H x H' → B Nx x H') := by
  refine ⟨fun i m H => i ≤ n ∧ m = n - i ∧ Pv i H, ⟨n, Nat.zero_le _, rfl, h0⟩, fun i m H ⟨hi, hm, p⟩ => ?_⟩
  by_cases q : i = n
  · subst q
    exact .inl ⟨w.stops H (hG i H hi p), hQ H p⟩
  · have hi' : i < n := by omega
    have g := hG i H hi p
    exact .inr ⟨w.goes i H hi' g, Pv (i + 1), fun H' p' => ⟨n - (i + 1), by omega, by omega, rfl, p'⟩, fun x H' y => hB i x H H' hi' p (w.yields i H x H' hi' g y)⟩
/-- no slot has a list of one's own -/
def noOwn (ρ : Rho) : Bool := ρ.all fun s => match s with | .ls _ => false | .ow _ _ => false | _ => true
theorem noOwn_at {ρ : Rho} (h : noOwn ρ = true) {j : Nat} {es : List D} : ρ[j]? ≠ some (.ls es) := fun e => by
  have := List.all_eq_true.mp h _ (List.mem_of_getElem? e)
  cases this
theorem noOwn_wipe {ρ : Rho} (h : noOwn ρ = true) : ∀ vs : List Nat, noOwn (wipeR ρ vs) = true
  | [] => h
  | v :: vs => by
    have ih := noOwn_wipe h vs
    refine List.all_eq_true.mpr fun s m => ?_
    rcases List.mem_or_eq_of_mem_set m with m | rfl
    · exact List.all_eq_true.mp ih s m
    · rfl
theorem holds_other {σ : St} {F H : Hp} {p : Addr} {u : HO} (h : Holds K W H0 σ F H ρ) (hn : noOwn ρ = true) : Holds K W H0 σ F (upd H p u) ρ := by
  refine ⟨h.len, fun j s e => ?_, fun j k ds es q hjk e1 e2 e3 => absurd e1 (noOwn_at hn)⟩
  have g := h.at_ j s e
  cases s with
  | un => trivial
  | dat d => exact g
  | ls ds => exact absurd e (noOwn_at hn)
  | rf v => exact g
  | kn k => exact g
  | ow r k =>
    have := List.all_eq_true.mp hn _ (List.mem_of_getElem? e)
    cases this
/-- [e for x in .. if .. for y in .. if ..] -/
theorem evn_lc2 {wi wi1 : TI} {g g1 : TG} {vs vs1 : List Nat} (J : List D → Nat → List D → Prop)
    (h : EvI K W H0 wi ρ fun ds => J ds 0 [] ∧ (∀ i d acc, ds[i]? = some d → J ds i acc → GC K W H0 vs g (.dat d) (wipeR ρ vs) fun ρ2 => EvT K W H0 tt ρ2 fun b =>
      if b = true then noOwn ρ2 = true ∧ EvI K W H0 wi1 ρ2 fun es => ∃ J1 : Nat → List D → Prop, J1 0 acc ∧ (∀ j e acc, es[j]? = some e → J1 j acc → GC K W H0 vs1 g1 (.dat e) (wipeR ρ2 vs1) fun ρ3 => EvT K W H0 tt1 ρ3 fun b =>
        if b = true then Ev K W H0 te ρ3 fun s => ∃ x, s = .dat x ∧ acc.length < sizeLine ∧ J1 (j + 1) (acc ++ [x]) else J1 (j + 1) acc) ∧ ∀ acc, J1 es.length acc → J ds (i + 1) acc
      else J ds (i + 1) acc) ∧ ∀ acc, J ds ds.length acc → PN acc) :
    EvN K W H0 (tLc2 wi g tt wi1 g1 tt1 te vs vs1) ρ PN := fun σ F H o ho Q q =>
  h σ F H o ho _ fun Jt F' H' ds o' st it ⟨j0, js, jd⟩ => by
    obtain ⟨G, Y, w, hG, hY⟩ := it.w
    intro Da hD
    obtain ⟨oD, stD⟩ := o'.own (u := .lst []) hD
    have nz : ¬ W.Z Da := o'.nz hD
    have hw := (ho.step st).wipe vs
    have chg : ∀ {F2 H2 : Hp} {vs2 ws : List V}, Ok W F2 H2 → Step W F' H' F2 H2 → H2 Da = some (.lst vs2) → F2 Da = none → Ok W F2 (upd H2 Da (.lst ws)) ∧ Step W F' H' F2 (upd H2 Da (.lst ws)) := fun {F2 H2 vs2 ws} o2 st2 hA hF =>
      ⟨o2.mut hA nz hF, st2.fz, fun b u hz e => by
        have q : b ≠ Da := fun z => by rw [z, hD] at e; cases e
        rw [upd_ne q]
        exact st2.kp b u hz e, st2.nw⟩
    refine walk_it w (fun i H2 => ∃ F2 vs2 acc, Ok W F2 H2 ∧ Step W F' H' F2 H2 ∧ H2 Da = some (.lst vs2) ∧ F2 Da = none ∧ DpAll K F2 vs2 acc ∧ J ds i acc) ?_ ?_ ?_ ?_
    · exact ⟨F', [], [], oD, stD, upd_same, o'.free hD, .nil, j0⟩
    · rintro i H2 _ ⟨F2, vs2, acc, o2, st2, _⟩
      exact hG F2 H2 o2 st2.fz
    · rintro H2 ⟨F2, vs2, acc, o2, st2, hA, hF, hd, j⟩
      exact q Da vs2 F2 H2 acc o2 (st.trans o' st2) (st.back o' hD) hA hF nz hd (jd acc j)
    · rintro i x H2 H3 hi ⟨F2, vs2, acc, o2, st2, hA, hF, hd, j⟩ y
      obtain ⟨F3, d, o3, st3, e1, e2⟩ := hY i x F2 H2 H3 hi o2 st2.fz y
      have st3' := st2.trans o2 st3
      have hs := js i d acc e1 j
      refine hs x (wipe σ vs) F3 H3 o3 (hw.step st3') e2 _ fun σ4 ρ4 h4 ew k => ?_
      refine ⟨ew.trans (wipe_idem fun _ z => z), ?_⟩
      refine k σ4 F3 H3 o3 h4 _ fun b F5 H5 o5 st5 kb => ?_
      have hA5 := st5.kp _ _ nz (st3.kp _ _ nz hA)
      have hF5 := st5.nw Da (st3.nw Da hF (by rw [hA]; exact fun z => nomatch z)) (by rw [st3.kp _ _ nz hA]; exact fun z => nomatch z)
      have st5' := st3'.trans o3 st5
      have hd5 := dpa_mono st5.fz (dpa_mono st3.fz hd)
      have h5 := h4.step st5
      cases b with
      | false => exact ⟨F5, vs2, acc, o5, st5', hA5, hF5, hd5, kb⟩
      | true =>
        rw [if_pos rfl] at kb
        rw [if_pos rfl]
        refine kb.2 σ4 F5 H5 o5 h5 _ fun Jt1 F6 H6 es o6 st6 it1 ⟨J1, a0, as_, ad⟩ => ?_
        obtain ⟨G1, Y1, w1, hG1, hY1⟩ := it1.w
        have hA6 := st6.kp _ _ nz hA5
        have hF6 := st6.nw Da hF5 (by rw [hA5]; exact fun z => nomatch z)
        have st6' := st5'.trans o5 st6
        have h6 := (h5.step st6).wipe vs1
        have chg1 : ∀ {F2 H2 : Hp} {vs2 ws : List V}, Ok W F2 H2 → Step W F' H' F2 H2 → Same F6 F2 → H2 Da = some (.lst vs2) → F2 Da = none → Ok W F2 (upd H2 Da (.lst ws)) ∧ Step W F' H' F2 (upd H2 Da (.lst ws)) := fun o2 st2 _ hA hF => chg o2 st2 hA hF
        refine walk_it w1 (fun j H2 => ∃ F2 vs2 acc, Ok W F2 H2 ∧ Step W F' H' F2 H2 ∧ Same F6 F2 ∧ H2 Da = some (.lst vs2) ∧ F2 Da = none ∧ DpAll K F2 vs2 acc ∧ J1 j acc ∧ Holds K W H0 (wipe σ4 vs1) F2 H2 (wipeR ρ4 vs1)) ?_ ?_ ?_ ?_
        · exact ⟨F6, vs2, acc, o6, st6', Same.refl _, hA6, hF6, dpa_mono st6.fz hd5, a0, h6⟩
        · rintro j H2 _ ⟨F7, vs7, acc7, o7, st7, sm7, _⟩
          exact hG1 F7 H2 o7 sm7
        · rintro H2 ⟨F7, vs7, acc7, o7, st7, sm7, hA7, hF7, hd7, j7, _⟩
          exact ⟨F7, vs7, acc7, o7, st7, hA7, hF7, hd7, ad acc7 j7⟩
        · rintro j x H7 H8 hj ⟨F7, vs7, acc7, o7, st7, sm7, hA7, hF7, hd7, j7, h7⟩ y
          obtain ⟨F8, e, o8, st8, e1', e2'⟩ := hY1 j x F7 H7 H8 hj o7 sm7 y
          have st8' := st7.trans o7 st8
          refine as_ j e acc7 e1' j7 x (wipe σ4 vs1) F8 H8 o8 (h7.step st8) e2' _ fun σ9 ρ9 h9 ew9 k9 => ?_
          refine ⟨ew9.trans (wipe_idem fun _ z => z), ?_⟩
          refine k9 σ9 F8 H8 o8 h9 _ fun b F10 H10 o10 st10 kb10 => ?_
          have hA8 := st8.kp _ _ nz hA7
          have hF8 := st8.nw Da hF7 (by rw [hA7]; exact fun z => nomatch z)
          have hA10 := st10.kp _ _ nz hA8
          have hF10 := st10.nw Da hF8 (by rw [hA8]; exact fun z => nomatch z)
          have st10' := st8'.trans o8 st10
          have hd10 := dpa_mono st10.fz (dpa_mono st8.fz hd7)
          have h10 := (h7.step st8).step st10
          have sm10 := (sm7.trans st8.fz).trans st10.fz
          cases b with
          | false => exact ⟨F10, vs7, acc7, o10, st10', sm10, hA10, hF10, hd10, kb10, h10⟩
          | true =>
            rw [if_pos rfl] at kb10
            rw [if_pos rfl]
            refine kb10 σ9 F10 H10 o10 (h9.step st10) _ fun v F11 H11 s o11 st11 hv ⟨z, es', hz, jz⟩ => ?_
            subst es'
            have hA11 := st11.kp _ _ nz hA10
            have hF11 := st11.nw Da hF10 (by rw [hA10]; exact fun z => nomatch z)
            obtain ⟨o12, st12⟩ := chg (ws := vs7 ++ [v]) o11 (st10'.trans o10 st11) hA11 hF11
            refine ⟨vs7, hA11, by rw [dpa_len hd10]; exact hz, F11, vs7 ++ [v], acc7 ++ [z], o12, st12, sm10.trans st11.fz, upd_same, hF11, dpa_app (dpa_mono st11.fz hd10) (.cons hv .nil), jz, ?_⟩
            exact holds_other (h10.step st11) (noOwn_wipe kb.1 vs1)
end
section
variable {K : PySem.W.Frag} {W : Wd} {H0 F0 : Hp} {ρ : Rho} {te : TE} {N : Ends2}
/-- x += e, of ints -/
theorem sx_augI {i : Nat} {a : Int} {f : Int → Int → Int} (hi : ρ[i]? = some (.dat (.int a))) (h : Ev K W H0 te ρ fun s => ∃ b : Int, s = .dat (.int b) ∧ N.nx (ρ.set i (.dat (.int (f a b))))) : Sx K W H0 F0 (tAug i te (ipI f)) ρ N := fun σ F H at_ D n r b c => by
  obtain ⟨v, g1, g2⟩ := at_.ho.at_ i _ hi
  have ev := vok_int (K := K) (W := W) (H := H) (F := F) g2
  subst ev
  refine ⟨_, g1, h σ F H at_.ok at_.ho _ fun y F1 H1 s o1 st1 hy ⟨e, es, k⟩ => ?_⟩
  subst es
  rw [vok_int hy]
  have a1 := at_.step o1 st1
  exact ⟨a, e, rfl, rfl, n _ F1 H1 _ ⟨o1, a1.st, a1.ho.set (s := .dat (.int (f a e))) (.int _) trivial⟩ st1.fz k⟩
end
end DL

namespace DL
open PySem L2
/-! ### isinstance of a caught error with fields -/
/-- facts of an error's class D, for isinstance -/
structure IsC (K : PySem.W.Frag) (D : Addr) : Prop where
  cl : (PySem.W.clsIn K D).isSome = true
  ga : PySem.W.findIn K (.ref D) "__getattribute__" = some (some (.builtin "BaseException.__getattribute__"))
  gg : PySem.W.findIn K (.ref D) "__getattr__" = some none
  ex : PySem.W.subIn K (.ref D) (.type "BaseException") = some true
  cc : PySem.W.findIn K (.ref D) "__class__" = some (some (.builtin "object.__class__"))
  cg : PySem.W.specialIn K (.builtin "object.__class__") "__get__" = some (some (.builtin "getset_descriptor.__get__"))
  ct : PySem.W.takesIn K (.builtin "object.__class__") = some true
  cm : PySem.W.mroIn K D (.type "object") = some true
def rIsEX (K : PySem.W.Frag) (D a dd : Addr) : List V → Hp → VK → Prop := fun xs H Q => ∃ (c : V) (b : Bool) (fs : List (Str × V)), xs = [.ref a, c] ∧ H dd = some (.xd fs) ∧
  ((∃ cv, (∀ u, RelV c u → u = cv) ∧ PySem.W.kitOne K (.ref D) cv = some b) ∨ (∃ (p : Addr) (cs : List V), c = .ref p ∧ SqT K H p cs ∧ ∀ us, Vals cs us → PySem.W.kitAny K (.ref D) us = some b)) ∧ Q (.bl b) H
theorem call_isEX {X : Cx} {a D dd : Addr} {oe : Obj} {pn : List (Addr × Obj)} (T : IsC X.K D) (hz : Zc (.ref D) (some dd) oe) (hf : ∃ vs, oe.data = .fields vs) : CallR (X.suite a ((a, oe) :: pn)) (.builtin "isinstance") (rIsEX X.K D a dd) := by
  intro pins s σ H xs us Q I r h
  obtain ⟨c, b, fs, rfl, hx, hc, q⟩ := h
  have g := (I.pin (a, oe) (by simp)).1
  have hk := I.hok dd _ hx
  obtain ⟨hz1, hz2⟩ := hz
  have ho : ∃ o, s.heap.get? dd = some o := by
    obtain ⟨mA, hn, _⟩ := hk
    obtain ⟨o, es, ep, h1, _⟩ := hn
    exact ⟨o, h1⟩
  obtain ⟨o, ho⟩ := ho
  have no : PySem.W.notCls oe = true := by
    obtain ⟨vs, e⟩ := hf
    simp [PySem.W.notCls, e]
  have hi : PySem.W.InstAt s.heap a oe D (some o) := ⟨g, hz1, no, by rw [hz2]; exact ho⟩
  have kx := PySem.W.kitx_exc (K := X.K) (x := a) (C := D) (ox := oe) (od := some o) T.cl T.ga T.gg T.ex T.cc T.cg T.ct T.cm
  have fin : ∀ tk : Nat, EP (X.suite a ((a, oe) :: pn)) pins σ Q (.bool b) { s with toks := tk } := fun tk => ⟨.bl b, H, I.tok tk, rfl, q⟩
  cases r with
  | cons r1 r2 =>
    cases r2 with
    | cons r3 r4 =>
      cases r4
      obtain rfl := r1
      rcases hc with ⟨cv, h1, h2⟩ | ⟨p, cs, rfl, h1, h2⟩
      · obtain rfl := h1 _ r3
        exact PySem.W.kia_one kx I.kIn hi h2 (fun z => nomatch z) fin
      · obtain rfl := r3
        obtain ⟨its, rv, hL, hzz⟩ := I.tuple h1
        obtain ⟨⟨cl, di, da, sl⟩, g1, g2, n, g3⟩ := hL
        simp only at g2 g3
        subst g2 g3
        exact PySem.W.kia_tup kx I.kIn hi g1 (h2 its rv) (fun z => nomatch z) fin
end DL

namespace DL
open PySem L2 RZ PySem.Spec PyProof.Rows
/-! ### defs that may raise, where no object is being shown -/
structure FnGX (Pg : Program) (w : World) (K : PySem.W.Frag) (mg : Str → Option Value) (base : Heap) (k : Nat) (f : Addr) (fd : FuncData) (ps : List Str) (sp : Sp) : Prop where
  len : ∀ vs H Q E, sp vs H Q E → vs.length = ps.length
  run : ∀ (A : Around) (outer : List Env) (s : Shared) (H : Hp) (args : Args) (us : List Value) (vs : List V) (Q : VK) (E : XK), A.guards = some [] → Room k A → Env0 Pg w K mg base A outer s H →
    BindsTo s fd args (ps.zip us) → Vals vs us → sp vs H Q E → codeAny (model Pg w) A (.call (.ref f) args) (CR (CX Pg w) outer Pg w H s Q E) s
section
variable {Pg : Program} {w : World} {K : PySem.W.Frag} {mg : Str → Option Value} {base : Heap}
theorem fnGX_of {x qual : Str} {st : Stmt} {f : Addr} {fd : FuncData} {N ps : List Str} {k : Nat} {sp : Sp} (F : Fun K x qual st f fd) (S : FnScope N ps (defScope st)) (len : ∀ vs H Q E, sp vs H Q E → vs.length = ps.length)
    (hb : ∀ (cdv : Value) (A : Around) (ou : List Env) (s : Shared) (H : Hp) (vs : List V) (Q : VK) (E : XK), A.guards = some [] → Room k (A.deeper (envOfC qual (defScope st) s.heap.objs.size f cdv)) → sp vs H Q E →
      ∃ t, PSs (cxOf (CX Pg w) Pg w K mg base N qual (defScope st) f cdv A ou s H E) (defBody st) t ∧ t { nx := fun _ H' => Q .non H', rt := Q } (L2.start N vs) H) : FnGX Pg w K mg base (k + 1) f fd ps sp := by
  obtain ⟨oc, od, kV, doc, pm, an, cdv, ct, osl, efd, lk, hcd⟩ := F.ex
  subst efd
  refine ⟨len, fun A ou s H ar us vs Q E hgd hr en hbd hv hsp => ?_⟩
  have hl := len vs H Q _ hsp
  have KX : K.In s.heap := en.mod.kin.keeps (fun b o e => (en.bs b o e).1)
  have lim : s.heap.NoLimit := en.mod.nolimit.keeps (fun b o e => (en.bs b o e).1)
  have hkd : ∀ y ∈ ps.zip us, (defScope st).names.lookup y.1 = some .local ∨ ((defScope st).names.lookup y.1 = some .cell ∧ ((cellsFrom (s.heap.objs.size + 1) (defScope st).names []).lookup y.1).isSome = true) := by
    rintro ⟨n, v⟩ hy
    rcases S.par n (List.of_mem_zip hy).1 with q | q
    · exact Or.inl q
    · exact Or.inr ⟨q, PySem.W.cellsFrom_some _ _ _ (Or.inl q)⟩
  refine codeAny_call_function hr.depth (KX _ _ lk) rfl S.co S.gen rfl (PySem.W.codeRec_of KX hcd) (hbd _ _ _ _ ?_)
  refine wpAny_newFunctionEnv_cells S.kind hkd fun env he s1 x => ?_
  subst he
  refine ⟨lim.keeps x.toInCall.keep, codeAny_func ?_⟩
  obtain ⟨t, ht, hq⟩ := hb cdv A ou s H vs Q E hgd (hr.deeper _) hsp
  have I := inv_start (CX := CX Pg w) (E := E) S hr.hd en hl hv x
  refine wpAny_mono (ht.run [] s1 (L2.start N vs) H _ I hq) ?_ (fun e s' hs => hs)
  intro fl s' hs
  cases fl with
  | ret u =>
    obtain ⟨v, σ', H', J, rv, q⟩ := hs
    exact ⟨v, H', J.os, J.bare, J.base, J.hok, rv, q⟩
  | next =>
    obtain ⟨σ', H', J, q⟩ := hs
    exact ⟨V.non, H', J.os, J.bare, J.base, J.hok, rfl, q⟩
  | brk => exact False.elim hs.choose_spec.choose_spec.2
  | cont => exact False.elim hs.choose_spec.choose_spec.2
end
section
variable {X : Cx} {k n : Nat} {f : Addr} {fd : FuncData} {ps ks : List Str} {sp : Sp} {x : Str} {p pos : Pos} {e : Expr} {es : List Expr} {kws : List Keyword} {t tk : TA} {W : WX}
structure FnX (Pg : Program) (w : World) (K : PySem.W.Frag) (mg : Str → Option Value) (base : Heap) (x : Str) (k : Nat) (ps : List Str) (sp : Sp) : Prop where
  ex : ∃ f fd, FnGX Pg w K mg base k f fd ps sp ∧ mg x = some (.ref f) ∧ PySem.W.keepIn K (.ref f) = true ∧ Binds K fd ps []
theorem run_GX {pins : List (Addr × Obj)} {σ : L2.St} {H : Hp} {s : Shared} {Q : VK} {E : XK} {args : Args} {us : List Value} {vs : List V} (F : FnGX X.prog X.w X.K X.mg X.base k f fd ps sp) (hgd : X.A.guards = some []) (hr : Room k X.A)
    (I : Inv X pins σ H s) (hb : BindsTo s fd args (ps.zip us)) (r : Vals vs us) (h : sp vs H Q E) (hx : PassesAt (CX X.prog X.w) X σ E) : wpAny (model X.prog X.w) X.A (call (.ref f) args.pos args.kw) (EP X pins σ Q) X.xe s := by
  refine wpAny_call (codeAny_mono (F.run X.A X.stack s H args us vs Q E hgd hr I.env0 hb r h) ?_)
  intro res s' hq
  cases res with
  | error e => exact hx _ _ _ _ _ I hq
  | ok fl =>
    cases fl with
    | ret u => exact I.after hq
    | next => exact False.elim hq
    | brk => exact False.elim hq
    | cont => exact False.elim hq
/-- f(e, ..) that may raise, W the wish of what is raised -/
theorem pe_fnX (C : FnX X.prog X.w X.K X.mg X.base x k ps sp) (tk : Takes X W) (hgd : X.A.guards = some []) (hr : Room k X.A) (hg : Gl X x) (ha : PA X (e :: es) t) (hdb : (x == ("__debug__" : Str)) = false := by decide)
    (he : starEach (e :: es) X.env = (false, eval e X.env) :: starEach es X.env := by rfl) (hpl : (backTo pos (starEach es X.env)).any (·.1) = false := by rfl) : PE X (.Call (.Name x p) (e :: es) [] pos) (tCallS sp (WE W) t) := by
  obtain ⟨f, fd, F, hm, hk, hb⟩ := C.ex
  refine ⟨fun pins s σ H Q I h => wpAny_Call_Name_kw (ld_glob I hg hm ?_ hdb)⟩
  refine PySem.W.callWith_K (h₀ := X.base) I.ok.mod.kin hk (thn (ha.run pos pins s σ H _ I h) ?_) he hpl
  rintro us s1 ⟨vs, H1, I1, r, q⟩
  have hl : (us ++ []).length = ps.length := by rw [List.append_nil, ← r.length]; exact F.len _ _ _ _ q
  have hb' := hb s1 us I1.kIn hl
  rw [List.append_nil] at hb'
  exact ⟨I1.kIn, run_GX (args := ⟨us, []⟩) F hgd hr I1 hb' r q (passAt tk σ)⟩
end
/-! ### raised errors, by data -/
/-- an error's own dict at d: fields of data -/
def Er (K : PySem.W.Frag) (W : Wd) (F H : Hp) (d : Addr) (fs : List (Str × D)) : Prop := ∃ vs : List V, H d = some (.xd ((fs.map Prod.fst).zip vs)) ∧ F d = none ∧ ¬ W.Z d ∧ DpAll K F vs (fs.map Prod.snd)
/-- a promise by data of a def that may raise: PE says of which class, with which fields -/
def PmX (K : PySem.W.Frag) (n : Nat) (Pre : Wd → Rho → Prop) (Post : Wd → Rho → Sl → Prop) (PE : Wd → Rho → Addr → List (Str × D) → Prop) : Sp := fun vs H Q E => ∃ W F ss, Ok W F H ∧ Paired (VOk K W F H) vs ss ∧ (∀ s ∈ ss, NoLs s) ∧ ss.length = n ∧ Pre W ss ∧
  (∀ v F' H' s, Ok W F' H' → Step W F H F' H' → VOk K W F' H' v s → Post W ss s → Q v H') ∧
  (∀ C d fs F' H', Ok W F' H' → Step W F H F' H' → Er K W F' H' d fs → PE W ss C fs → E (.ref C) (some d) H')
section
variable {K : PySem.W.Frag} {W : Wd} {H0 F0 : Hp} {ρ : Rho} {te : TE} {t : TA} {N : Ends2} {n : Nat} {Pre : Wd → Rho → Prop} {Post : Wd → Rho → Sl → Prop} {PE : Wd → Rho → Addr → List (Str × D) → Prop}
theorem pmX_len (vs : List V) (H : Hp) (Q : VK) (E : XK) (h : PmX K n Pre Post PE vs H Q E) : vs.length = n := by
  obtain ⟨W, F, ss, _, hp, _, hl, _⟩ := h
  rw [← hl]
  exact hp.length
/-- an expression that may raise: R says of which class, with which fields -/
def EvX (K : PySem.W.Frag) (W : Wd) (H0 : Hp) (te : WX → TE) (ρ : Rho) (P : Sl → Prop) (R : Addr → List (Str × D) → Prop) : Prop := ∀ σ F H, Ok W F H → Holds K W H0 σ F H ρ → ∀ (Q : VK) (Wx : WX),
  (∀ v F' H' s, Ok W F' H' → Step W F H F' H' → VOk K W F' H' v s → P s → Q v H') → (∀ C d fs F' H', Ok W F' H' → Step W F H F' H' → Er K W F' H' d fs → R C fs → Wx (.ref C) (some d) σ H') → te Wx σ H Q
theorem evx_fn {P : Sl → Prop} {R : Addr → List (Str × D) → Prop} (h : EvA K W H0 t ρ fun ss => (∀ s ∈ ss, NoLs s) ∧ ss.length = n ∧ Pre W ss ∧ (∀ s, Post W ss s → P s) ∧ ∀ C fs, PE W ss C fs → R C fs) :
    EvX K W H0 (fun Wx => tCallS (PmX K n Pre Post PE) (WE Wx) t) ρ P R := fun σ F H o ho Q Wx q x =>
  h σ F H o ho _ fun vs F1 H1 ss o1 st1 hv ⟨hn, hl, hp, k1, k2⟩ => ⟨W, F1, ss, o1, hv, hn, hl, hp, fun v F2 H2 s o2 st2 hs p => q v F2 H2 s o2 (st1.trans o1 st2) hs (k1 s p), fun C d fs F2 H2 o2 st2 he p => x C d fs F2 H2 o2 (st1.trans o1 st2) he (k2 C fs p)⟩
/-- (e, f(..)), f may raise -/
theorem evx_pair {tx : WX → TE} {P : Sl → Prop} {R : Addr → List (Str × D) → Prop} (h : Ev K W H0 te ρ fun s => ∃ d, s = .dat d ∧ EvX K W H0 tx ρ (fun u => ∃ e, u = .dat e ∧ P (.dat (.tuple [d, e]))) R) :
    EvX K W H0 (fun Wx => tTup (tCons te (tCons (tx Wx) tNil))) ρ P R := fun σ F H o ho Q Wx q x =>
  h σ F H o ho _ fun v F1 H1 s o1 st1 hv ⟨d, e, k⟩ => by
    subst e
    refine k σ F1 H1 o1 (ho.step st1) _ Wx (fun u F2 H2 s2 o2 st2 hu ⟨e, es, p⟩ => ?_) fun C d fs F2 H2 o2 st2 he r => x C d fs F2 H2 o2 (st1.trans o1 st2) he r
    subst es
    refine ⟨le_line (n := 2) rfl, fun a ha => ?_⟩
    obtain ⟨o3, st3⟩ := o2.new (u := .tup [v, u]) ha
    exact q (.ref a) _ _ (.dat (.tuple [d, e])) o3 ((st1.trans o1 st2).trans o2 st3) (.tup (.inl upd_same) (dpa_mono st3.fz (.cons (dp_mono st2.fz hv) (.cons hu .nil)))) p
/-- try: return e / except X: suite, X the class c -/
theorem sx_try_ret {tx : WX → TE} {ts : Addr → Value → Option Addr → TS} {c : Value} {Wout : WX} (R : Addr → List (Str × D) → Prop)
    (hb : EvX K W H0 tx ρ N.rt R) (hc : ∀ C fs, R C fs → PySem.W.exmOne K (.ref C) c = some true) (hs : ∀ C fs, R C fs → ∀ a d, Sx K W H0 F0 (ts a (.ref C) (some d)) ρ N) :
    Sx K W H0 F0 (fun D σ H => tRet (tx (wOnly K c ts Wout D)) D σ H) ρ N := fun σ F H at_ D nn r b cc =>
  hb σ F H at_.ok at_.ho _ _ (fun v F1 H1 s o1 st1 hv p => r v F1 H1 s o1 (at_.st.trans at_.ok st1) hv p) fun C d fs F1 H1 o1 st1 he hr =>
    ⟨true, hc C fs hr, fun _ a ha => hs C fs hr a d σ F1 H1 (at_.step o1 st1) D (fun σ2 F2 H2 ρ2 a2 sm k => nn σ2 F2 H2 ρ2 a2 (st1.fz.trans sm) k) r (fun σ2 F2 H2 ρ2 a2 sm k => b σ2 F2 H2 ρ2 a2 (st1.fz.trans sm) k) (fun σ2 F2 H2 ρ2 a2 sm k => cc σ2 F2 H2 ρ2 a2 (st1.fz.trans sm) k), fun z => nomatch z⟩
end
end DL

namespace DL
open PySem L2
/-! ### a caught error, its fields -/
/-- the world in which the error's own dict stands at d -/
def errW (K : PySem.W.Frag) (W : Wd) (d : Addr) (fs : List (Str × D)) (vs : List V) : Wd where
  Z := fun b => W.Z b ∨ b = d
  I := fun F H => W.I F H ∧ H d = some (.xd ((fs.map Prod.fst).zip vs)) ∧ DpAll K F vs (fs.map Prod.snd)
  stab := fun F H F' H' ⟨h1, h2, h3⟩ hs hk hc => ⟨W.stab F H F' H' h1 hs (fun b o z e => hk b o (.inl z) e) hc, hk d _ (.inr rfl) h2, dpa_mono hs h3⟩
  back := fun F F' H0 H h h' => ⟨W.back F F' H0 H h.1 h'.1, h'.2.1, h.2.2⟩
section
variable {K : PySem.W.Frag} {W : Wd} {H0 F0 : Hp} {ρ : Rho} {t : TS} {N : Ends2} {d : Addr} {fs : List (Str × D)} {vs : List V}
structure ErV (K : PySem.W.Frag) (W : Wd) (F H : Hp) (d : Addr) (fs : List (Str × D)) (vs : List V) : Prop where
  at_ : H d = some (.xd ((fs.map Prod.fst).zip vs))
  fr : F d = none
  nz : ¬ W.Z d
  dp : DpAll K F vs (fs.map Prod.snd)
theorem Er.v {F H : Hp} (h : Er K W F H d fs) : ∃ vs, ErV K W F H d fs vs := by
  obtain ⟨vs, h1, h2, h3, h4⟩ := h
  exact ⟨vs, h1, h2, h3, h4⟩
theorem err_ok {F H : Hp} (o : Ok W F H) (h : ErV K W F H d fs vs) : Ok (errW K W d fs vs) F H := by
  refine ⟨o.sub, fun b z => ?_, o.inv, h.at_, h.dp⟩
  rcases z with z | rfl
  · exact o.z b z
  · exact ⟨h.fr, by rw [h.at_]; exact fun z => nomatch z⟩
theorem ok_err {F H : Hp} (o : Ok (errW K W d fs vs) F H) : Ok W F H := ⟨o.sub, fun b z => o.z b (.inl z), o.inv.1⟩
theorem step_err {F H F' H' : Hp} (st : Step W F H F' H') : Step (errW K W d fs vs) F H F' H' := ⟨st.fz, fun b u hz e => st.kp b u (fun z => hz (.inl z)) e, st.nw⟩
theorem back_err {F1 H1 F2 H2 : Hp} (st1 : Step W F0 H0 F1 H1) (h : ErV K W F1 H1 d fs vs) (st : Step (errW K W d fs vs) F0 H0 F2 H2) (o : Ok (errW K W d fs vs) F2 H2) : Step W F0 H0 F2 H2 :=
  ⟨st.fz, fun b u hzb e => by
    by_cases q : b = d
    · subst q
      have e1 := st1.kp b u hzb e
      rw [h.at_] at e1
      rw [o.inv.2.1]
      exact e1
    · exact st.kp b u (fun z => z.elim hzb q) e, st.nw⟩
theorem holds_err {σ : St} {F H : Hp} (ho : Holds K W H0 σ F H ρ) (h : ErV K W F H d fs vs) : Holds K (errW K W d fs vs) H0 σ F H ρ := by
  refine ⟨ho.len, fun i s e => ?_, ho.dis⟩
  have g := ho.at_ i s e
  cases s with
  | un => trivial
  | dat x => exact g
  | rf u => exact g
  | kn k => exact g
  | ow r k =>
    obtain ⟨g1, u, g2, g3, g4, g5, g6⟩ := g
    refine ⟨g1, u, g2, g3, fun z => ?_, g5, g6⟩
    rcases z with z | rfl
    · exact g4 z
    · rw [h.at_] at g2
      cases g2
      obtain ⟨f, z⟩ := k.ext g6
      cases z
  | ls ds =>
    obtain ⟨p, ws, g1, g2, g3, g4, g5, g6⟩ := g
    refine ⟨p, ws, g1, g2, g3, fun z => ?_, g5, g6⟩
    rcases z with z | rfl
    · exact g4 z
    · rw [h.at_] at g2
      cases g2
theorem holds_back {σ : St} {F H : Hp} (ho : Holds K (errW K W d fs vs) H0 σ F H ρ) : Holds K W H0 σ F H ρ := by
  refine ⟨ho.len, fun i s e => ?_, ho.dis⟩
  have g := ho.at_ i s e
  cases s with
  | un => trivial
  | dat x => exact g
  | rf u => exact g
  | kn k => exact g
  | ow r k =>
    obtain ⟨g1, u, g2, g3, g4, g5, g6⟩ := g
    exact ⟨g1, u, g2, g3, fun z => g4 (.inl z), g5, g6⟩
  | ls ds =>
    obtain ⟨p, ws, g1, g2, g3, g4, g5, g6⟩ := g
    exact ⟨p, ws, g1, g2, g3, fun z => g4 (.inl z), g5, g6⟩
theorem vok_back {F H : Hp} {v : V} {s : Sl} (h : VOk K (errW K W d fs vs) F H v s) : VOk K W F H v s := by
  cases s with
  | un => exact h
  | dat x => exact h
  | rf u => exact h
  | kn k => exact h
  | ow r k =>
    obtain ⟨g1, u, g2, g3, g4, g5⟩ := h
    exact ⟨g1, u, g2, g3, fun z => g4 (.inl z), g5⟩
  | ls ds =>
    obtain ⟨p, ws, g1, g2, g3, g4, g5⟩ := h
    exact ⟨p, ws, g1, g2, g3, fun z => g4 (.inl z), g5⟩
/-- a suite is run in the error's world -/
theorem sx_err {σ : St} {F H : Hp} (a : At K W H0 F0 σ F H ρ) (e : ErV K W F H d fs vs) (h : Sx K (errW K W d fs vs) H0 F0 t ρ N) (D : Ends)
    (n : ∀ σ' F' H' ρ', At K W H0 F0 σ' F' H' ρ' → Same F F' → N.nx ρ' → D.nx σ' H') (r : ∀ v F' H' s, Ok W F' H' → Step W F0 H0 F' H' → VOk K W F' H' v s → N.rt s → D.rt v H')
    (b : ∀ σ' F' H' ρ', At K W H0 F0 σ' F' H' ρ' → Same F F' → N.bk ρ' → D.bk σ' H') (c : ∀ σ' F' H' ρ', At K W H0 F0 σ' F' H' ρ' → Same F F' → N.ct ρ' → D.ct σ' H') : t D σ H := by
  have bk : ∀ {σ' F' H' ρ'}, At K (errW K W d fs vs) H0 F0 σ' F' H' ρ' → At K W H0 F0 σ' F' H' ρ' := fun a' => ⟨ok_err a'.ok, back_err a.st e a'.st a'.ok, holds_back a'.ho⟩
  exact h σ F H ⟨err_ok a.ok e, step_err a.st, holds_err a.ho e⟩ D (fun σ' F' H' ρ' a' sm k => n σ' F' H' ρ' (bk a') sm k) (fun v F' H' s o' st' hv k => r v F' H' s (ok_err o') (back_err a.st e st' o') (vok_back hv) k) (fun σ' F' H' ρ' a' sm k => b σ' F' H' ρ' (bk a') sm k) (fun σ' F' H' ρ' a' sm k => c σ' F' H' ρ' (bk a') sm k)
/-- e.f of the caught error -/
theorem ev_xf {a C : Addr} {f : Str} {te : TE} {P : Sl → Prop} {x : D} {k : Nat} (h : Ev K (errW K W d fs vs) H0 te ρ fun s => s = .rf (.ref a)) (hk : fs[k]? = some (f, x)) (hn : ∀ j < k, ∀ q, fs[j]? = some q → q.1 ≠ f) (p : P (.dat x)) :
    Ev K (errW K W d fs vs) H0 (tXf a (.ref C) (some d) C f te) ρ P := fun σ F H o ho Q q =>
  h σ F H o ho _ fun v F1 H1 s o1 st1 hv e => by
    subst e
    obtain ⟨_, h2, h3⟩ := o1.inv
    have hv' : v = .ref a := hv
    obtain ⟨y, hy, hyd⟩ := dpa_get' (d := x) (i := k) h3 (by rw [List.getElem?_map, hk]; rfl)
    refine ⟨hv', rfl, d, _, y, rfl, h2, ?_, q y F1 H1 (.dat x) o1 st1 hyd p⟩
    have hz : ∀ (ns : List Str) (ws : List V) (k : Nat), ns[k]? = some f → (∀ j < k, ns[j]? ≠ some f) → ws[k]? = some y → (ns.zip ws).lookup f = some y := by
      intro ns
      induction ns with
      | nil => intro ws k e _ _; cases e
      | cons n ns ih =>
        intro ws k e hne ew
        cases ws with
        | nil => cases ew
        | cons w ws =>
          cases k with
          | zero =>
            have e : n = f := by simpa using e
            have ew : w = y := by simpa using ew
            subst e ew
            simp [List.zip_cons_cons, List.lookup_cons]
          | succ k =>
            have h0 : n ≠ f := fun z => hne 0 (Nat.succ_pos _) (by simp [z])
            rw [List.zip_cons_cons, List.lookup_cons]
            have : (f == n) = false := by simpa using fun z => h0 z.symm
            rw [this]
            exact ih ws k (by simpa using e) (fun j hj z => hne (j + 1) (Nat.succ_lt_succ hj) (by simpa using z)) (by simpa using ew)
    refine hz _ _ k (by rw [List.getElem?_map, hk]; rfl) (fun j hj z => ?_) hy
    rw [List.getElem?_map] at z
    cases e : fs[j]? with
    | none => rw [e] at z; cases z
    | some qq =>
      rw [e] at z
      exact hn j hj qq e (by simpa using z)
end
end DL

namespace DL
open PySem L2
section
variable {K : PySem.W.Frag} {W : Wd} {H0 F0 : Hp} {ρ : Rho} {N : Ends2} {ta : TA}
/-- try: return e / except X as n: suite, n in slot i -/
theorem sx_try_as_ret {tx : WX → TE} {ts : Addr → Value → Option Addr → TS} {c : Value} {Wout : WX} {i : Nat} (R : Addr → List (Str × D) → Prop)
    (hb : EvX K W H0 tx ρ N.rt R) (hc : ∀ C fs, R C fs → PySem.W.exmOne K (.ref C) c = some true)
    (hs : ∀ C fs, R C fs → ∀ a d vs, Sx K (errW K W d fs vs) H0 F0 (ts a (.ref C) (some d)) (ρ.set i (.rf (.ref a))) { nx := fun ρ' => N.nx (ρ'.set i .un), rt := N.rt, bk := fun ρ' => N.bk (ρ'.set i .un), ct := fun ρ' => N.ct (ρ'.set i .un) }) :
    Sx K W H0 F0 (fun D σ H => tRet (tx (wAs K c i ts Wout D)) D σ H) ρ N := fun σ F H at_ D nn r b cc =>
  hb σ F H at_.ok at_.ho _ _ (fun v F1 H1 s o1 st1 hv p => r v F1 H1 s o1 (at_.st.trans at_.ok st1) hv p) fun C d fs F1 H1 o1 st1 he hr =>
    ⟨true, hc C fs hr, fun _ a ha => by
      obtain ⟨vs, ev⟩ := he.v
      have a1 := at_.step o1 st1
      have a2 : At K W H0 F0 (σ.set i (some (.ref a))) F1 H1 (ρ.set i (.rf (.ref a))) := ⟨a1.ok, a1.st, a1.ho.set (s := .rf (.ref a)) rfl trivial⟩
      have off : ∀ {σ2 F2 H2 ρ2}, At K W H0 F0 σ2 F2 H2 ρ2 → At K W H0 F0 (σ2.set i none) F2 H2 (ρ2.set i .un) := fun x => ⟨x.ok, x.st, x.ho.un⟩
      exact sx_err a2 ev (hs C fs hr a d vs) _ (fun σ2 F2 H2 ρ2 x sm k => nn _ F2 H2 _ (off x) (st1.fz.trans sm) k) r (fun σ2 F2 H2 ρ2 x sm k => b _ F2 H2 _ (off x) (st1.fz.trans sm) k) (fun σ2 F2 H2 ρ2 x sm k => cc _ F2 H2 _ (off x) (st1.fz.trans sm) k), fun z => nomatch z⟩
/-- what __init__ of an error with two fields does -/
def initSp (K : PySem.W.Frag) (f1 f2 : Str) : Sp := fun vs H Q _ => ∃ (a C : Addr) (x y : V), vs = [.ref a, x, y] ∧ OexC K C ∧ PySem.W.findIn K (.ref C) f1 = some none ∧ PySem.W.findIn K (.ref C) f2 = some none ∧ H a = some (exo a C none) ∧
  ∀ d, H d = none → d ≠ a → Q .non (upd (upd (upd H d (exd d [(f1, x)])) a (exo a C (some d))) d (exd d [(f2, y), (f1, x)]))
/-- raise X(e1, e2) -/
theorem sx_raise2 {C : Addr} {E : XK} {f1 f2 : Str} (hC : OexC K C) (h1 : PySem.W.findIn K (.ref C) f1 = some none) (h2 : PySem.W.findIn K (.ref C) f2 = some none)
    (h : EvA K W H0 ta ρ fun ss => ∃ x y, ss = [.dat x, .dat y] ∧ ∀ dd F' H', Ok W F' H' → Step W F0 H0 F' H' → Er K W F' H' dd [(f2, y), (f1, x)] → E (.ref C) (some dd) H') :
    Sx K W H0 F0 (fun _ σ H => tMkO C (initSp K f1 f2) [] ta σ H fun cls d H' => E cls d H') ρ N := fun σ F H at_ D nn r b cc =>
  h σ F H at_.ok at_.ho _ fun vs F1 H1 ss o1 st1 hv ⟨x, y, es, k⟩ => by
    subst es
    cases hv with
    | cons e1 hv =>
      cases hv with
      | cons e2 hv =>
        cases hv
        rename_i v1 v2
        refine ⟨Nat.le_of_ble_eq_true rfl, fun a ha => ⟨a, C, v1, v2, rfl, hC, h1, h2, upd_same, fun d hd hda => ⟨rfl, d, _, ?_, upd_same, ?_, ?_⟩⟩⟩
        · rw [upd_ne hda.symm, upd_same]
        · rw [upd_ne hda] at hd
          exact hd
        · have hd1 : H1 d = none := by rw [upd_ne hda] at hd; exact hd
          have e : upd (del (upd (upd (upd (upd H1 a (exo a C none)) d (exd d [(f1, v1)])) a (exo a C (some d))) d (exd d [(f2, v2), (f1, v1)])) a) d (.xd [(f2, v2), (f1, v1)]) = upd H1 d (.xd [(f2, v2), (f1, v1)]) := by
            funext b
            by_cases q : b = d
            · rw [q, upd_same, upd_same]
            · rw [upd_ne q, upd_ne q]
              by_cases q2 : b = a
              · subst q2
                simp [del, ha]
              · simp [del, q2, upd_ne, q]
          rw [e]
          obtain ⟨o2, st2⟩ := o1.own (u := .xd [(f2, v2), (f1, v1)]) hd1
          have a2 := (at_.step o1 st1).step o2 st2
          exact k d F1 _ o2 a2.st ⟨[v2, v1], upd_same, o1.free hd1, o1.nz hd1, .cons e2 (.cons e1 .nil)⟩
end
end DL

namespace DL
open PySem L2
section
variable {K : PySem.W.Frag} {W : Wd} {H0 : Hp} {ρ : Rho} {P : Sl → Prop} {d a C : Addr} {fs : List (Str × D)} {vs : List V}
/-- some classes, written one behind the other -/
def tRefs : List Addr → TA
  | [] => tNil
  | c :: cs => tCons (tC (.ref c)) (tRefs cs)
theorem trefs_run : ∀ (cs : List Addr) {σ : St} {H : Hp} {R : List V → Hp → Prop}, R (cs.map V.ref) H → tRefs cs σ H R
  | [], _, _, _, h => h
  | c :: cs, σ, H, R, h => by
    show tRefs cs σ H fun vs H1 => R (.ref c :: vs) H1
    exact trefs_run cs h
theorem vals_refs : ∀ {cs : List Addr} {us : List Value}, Vals (cs.map V.ref) us → us = cs.map Value.ref
  | [], _, r => by cases r; rfl
  | c :: cs, _, r => by
    rw [List.map_cons] at r
    cases r with
    | cons h t =>
      have h : _ = Value.ref c := h
      rw [h, vals_refs t]
      rfl
/-- isinstance(e, X) of the caught error -/
theorem ev_isE1 {i : Nat} {c : Addr} {b : Bool} (hi : ρ[i]? = some (.rf (.ref a))) (hb : PySem.W.kitOne K (.ref C) (.ref c) = some b) (p : P (.dat (.bool b))) :
    Ev K (errW K W d fs vs) H0 (tCB (rIsEX K C a d) (tCons (tVar i) (tCons (tC (.ref c)) tNil))) ρ P := fun σ F H o ho Q q =>
  ⟨.ref a, ho.at_ i _ hi, .ref c, b, _, rfl, o.inv.2.1, .inl ⟨.ref c, fun u h => h, hb⟩, q _ F H (.dat (.bool b)) o (Step.refl o) (.bl b) p⟩
/-- isinstance(e, (X, ..)) of the caught error -/
theorem ev_isE2 {i : Nat} {cs : List Addr} {b : Bool} (hi : ρ[i]? = some (.rf (.ref a))) (hl : cs.length ≤ sizeLine) (hb : PySem.W.kitAny K (.ref C) (cs.map Value.ref) = some b) (p : P (.dat (.bool b))) :
    Ev K (errW K W d fs vs) H0 (tCB (rIsEX K C a d) (tCons (tVar i) (tCons (tTup (tRefs cs)) tNil))) ρ P := fun σ F H o ho Q q => by
  refine ⟨.ref a, ho.at_ i _ hi, trefs_run cs ⟨by rw [List.length_map]; exact hl, fun p' hp => ?_⟩⟩
  obtain ⟨o2, st2⟩ := o.own (u := .tup (cs.map V.ref)) hp
  exact ⟨.ref p', b, _, rfl, o2.inv.2.1, .inr ⟨p', _, rfl, SqT.of upd_same, fun us r => by rw [vals_refs r]; exact hb⟩, q _ F _ (.dat (.bool b)) o2 st2 (.bl b) p⟩
end
end DL

namespace DL
open PySem L2 RZ
/-! ### range(n) kept in a name -/
def rRangeV : List V → Hp → VK → Prop := fun vs H Q => ∃ j : Int, vs = [.int j] ∧ ∀ p, H p = none → Q (.ref p) (upd H p (.rng 0 j))
section
open PySem.Spec PyProof.Rows
variable {X : Cx}
theorem cr_rangeV : CallR X (.type "range") rRangeV := fun pins s σ H vs us Q I r h => by
  obtain ⟨j, e, q⟩ := h
  subst e
  cases r with
  | cons r1 r2 =>
    cases r2
    obtain ⟨t, et⟩ := r1
    subst et
    have nw := I.hok.fresh (Nat.le_refl _)
    exact call_range_1 ⟨.ref s.heap.objs.size, _, I.laid (o := .rng 0 j) (t' := s.toks + 2) (fun b o e => Heap.get?_push_of_some _ e) (Nat.le_refl _) ⟨_, _, _, Heap.get?_push_size _ rfl⟩, rfl, q _ nw⟩
/-- a kept range is walked -/
def iRngV (te : TE) : TI := fun σ H R => te σ H fun x H1 => ∃ (p : Addr) (lo hi : Int), x = .ref p ∧ H1 p = some (.rng lo hi) ∧ (-(2 ^ 62) ≤ lo ∧ lo < 2 ^ 62 ∧ -(2 ^ 62) ≤ hi ∧ hi < 2 ^ 62) ∧ R (Itr lo (hi - lo).toNat) H1
theorem pi_rngV {tg l : Expr} {te : TE} (hl : PE X l te) : PI X tg l (iRngV te) := by
  constructor
  intro pins s σ H R I h
  refine thn (hl.run pins s σ H _ I h) fun v s1 ⟨x, H1, J, rx, k⟩ => ?_
  obtain ⟨p, lo, hi, ex, hp, ⟨b1, b2, b3, b4⟩, q⟩ := k
  subst ex
  cases rx
  obtain ⟨t, u, w, ho⟩ := J.hok p _ hp
  refine wpAny_pyIter_range (show IsRange s1.heap p lo hi 1 t u w from ho) (small_one b1 b2 b3 b4) ?_
  refine ⟨s1.heap.objs.size, [s1.heap.objs.size], _, _, H1, rfl, J.kept (t' := s1.toks) fun b o e => Heap.get?_push_of_some _ e, turn_range _ lo (hi - lo).toNat, ?_, ?_, q⟩
  · have e0 : lo = lo + ((0 : Nat) : Int) * 1 := by simp
    have en : Builtin.Range.rangeSize lo hi 1 = (((hi - lo).toNat : Nat) : Int) - ((0 : Nat) : Int) := by
      rw [rangeSize_one]
      split <;> omega
    show IsRangeIter _ _ (lo + ((0 : Nat) : Int) * 1) ((((hi - lo).toNat : Nat) : Int) - ((0 : Nat) : Int)) 1
    rw [← e0, ← en]
    exact Heap.get?_push_size _ rfl
  · intro b hb
    rw [List.mem_singleton.mp hb]
    exact J.fpOk (Nat.le_refl _) (J.hok.fresh (Nat.le_refl _))
end
/-- the world in which the object o stands at p -/
def objW (W : Wd) (p : Addr) (o : HO) : Wd where
  Z := fun b => W.Z b ∨ b = p
  I := fun F H => W.I F H ∧ H p = some o
  stab := fun F H F' H' ⟨h1, h2⟩ hs hk hc => ⟨W.stab F H F' H' h1 hs (fun b u z e => hk b u (.inl z) e) hc, hk p _ (.inr rfl) h2⟩
  back := fun F F' H0 H h h' => ⟨W.back F F' H0 H h.1 h'.1, h'.2⟩
section
variable {K : PySem.W.Frag} {W : Wd} {H0 F0 : Hp} {ρ : Rho} {t : TS} {N : Ends2} {p : Addr} {o : HO}
theorem obj_ok {F H : Hp} (k : Ok W F H) (hH : H p = some o) (hF : F p = none) : Ok (objW W p o) F H := by
  refine ⟨k.sub, fun b z => ?_, k.inv, hH⟩
  rcases z with z | rfl
  · exact k.z b z
  · exact ⟨hF, by rw [hH]; exact fun z => nomatch z⟩
theorem ok_obj {F H : Hp} (k : Ok (objW W p o) F H) : Ok W F H := ⟨k.sub, fun b z => k.z b (.inl z), k.inv.1⟩
theorem step_obj {F H F' H' : Hp} (st : Step W F H F' H') : Step (objW W p o) F H F' H' := ⟨st.fz, fun b u hz e => st.kp b u (fun z => hz (.inl z)) e, st.nw⟩
theorem back_obj {F2 H2 : Hp} (h0 : H0 p = none) (st : Step (objW W p o) F0 H0 F2 H2) : Step W F0 H0 F2 H2 :=
  ⟨st.fz, fun b u hzb e => st.kp b u (fun z => by
    rcases z with z | rfl
    · exact hzb z
    · rw [h0] at e
      cases e) e, st.nw⟩
theorem holds_obj {σ : St} {F H : Hp} (ho : Holds K W H0 σ F H ρ) (hH : H p = some o) (hl : ∀ xs, o ≠ .lst xs) (he : ∀ f, o ≠ .ext f) : Holds K (objW W p o) H0 σ F H ρ := by
  refine ⟨ho.len, fun i s e => ?_, ho.dis⟩
  have g := ho.at_ i s e
  cases s with
  | un => trivial
  | dat x => exact g
  | rf u => exact g
  | kn k => exact g
  | ow r k =>
    obtain ⟨g1, u, g2, g3, g4, g5, g6⟩ := g
    refine ⟨g1, u, g2, g3, fun z => ?_, g5, g6⟩
    rcases z with z | rfl
    · exact g4 z
    · rw [hH] at g2
      obtain ⟨f, z⟩ := k.ext g6
      exact he f ((Option.some.inj g2).trans z)
  | ls ds =>
    obtain ⟨r, ws, g1, g2, g3, g4, g5, g6⟩ := g
    refine ⟨r, ws, g1, g2, g3, fun z => ?_, g5, g6⟩
    rcases z with z | rfl
    · exact g4 z
    · rw [hH] at g2
      exact hl ws (Option.some.inj g2)
theorem obj_holds {σ : St} {F H : Hp} (ho : Holds K (objW W p o) H0 σ F H ρ) : Holds K W H0 σ F H ρ := by
  refine ⟨ho.len, fun i s e => ?_, ho.dis⟩
  have g := ho.at_ i s e
  cases s with
  | un => trivial
  | dat x => exact g
  | rf u => exact g
  | kn k => exact g
  | ow r k =>
    obtain ⟨g1, u, g2, g3, g4, g5, g6⟩ := g
    exact ⟨g1, u, g2, g3, fun z => g4 (.inl z), g5, g6⟩
  | ls ds =>
    obtain ⟨r, ws, g1, g2, g3, g4, g5, g6⟩ := g
    exact ⟨r, ws, g1, g2, g3, fun z => g4 (.inl z), g5, g6⟩
theorem vok_obj {F H : Hp} {v : V} {s : Sl} (h : VOk K (objW W p o) F H v s) : VOk K W F H v s := by
  cases s with
  | un => exact h
  | dat x => exact h
  | rf u => exact h
  | kn k => exact h
  | ow r k =>
    obtain ⟨g1, u, g2, g3, g4, g5⟩ := h
    exact ⟨g1, u, g2, g3, fun z => g4 (.inl z), g5⟩
  | ls ds =>
    obtain ⟨r, ws, g1, g2, g3, g4, g5⟩ := h
    exact ⟨r, ws, g1, g2, g3, fun z => g4 (.inl z), g5⟩
theorem er_obj {F H : Hp} {d : Addr} {fs : List (Str × D)} (h : Er K (objW W p o) F H d fs) : Er K W F H d fs := by
  obtain ⟨vs, h1, h2, h3, h4⟩ := h
  exact ⟨vs, h1, h2, fun z => h3 (.inl z), h4⟩
theorem sx_obj {σ : St} {F H : Hp} (a : At K W H0 F0 σ F H ρ) (hH : H p = some o) (hF : F p = none) (h0 : H0 p = none) (hl : ∀ xs, o ≠ .lst xs) (he : ∀ f, o ≠ .ext f) (h : Sx K (objW W p o) H0 F0 t ρ N) (D : Ends)
    (n : ∀ σ' F' H' ρ', At K W H0 F0 σ' F' H' ρ' → Same F F' → N.nx ρ' → D.nx σ' H') (r : ∀ v F' H' s, Ok W F' H' → Step W F0 H0 F' H' → VOk K W F' H' v s → N.rt s → D.rt v H')
    (b : ∀ σ' F' H' ρ', At K W H0 F0 σ' F' H' ρ' → Same F F' → N.bk ρ' → D.bk σ' H') (c : ∀ σ' F' H' ρ', At K W H0 F0 σ' F' H' ρ' → Same F F' → N.ct ρ' → D.ct σ' H') : t D σ H := by
  have bk : ∀ {σ' F' H' ρ'}, At K (objW W p o) H0 F0 σ' F' H' ρ' → At K W H0 F0 σ' F' H' ρ' := fun a' => ⟨ok_obj a'.ok, back_obj h0 a'.st, obj_holds a'.ho⟩
  exact h σ F H ⟨obj_ok a.ok hH hF, step_obj a.st, holds_obj a.ho hH hl he⟩ D (fun σ' F' H' ρ' a' sm k => n σ' F' H' ρ' (bk a') sm k) (fun v F' H' s o' st' hv k => r v F' H' s (ok_obj o') (back_obj h0 st') (vok_obj hv) k) (fun σ' F' H' ρ' a' sm k => b σ' F' H' ρ' (bk a') sm k) (fun σ' F' H' ρ' a' sm k => c σ' F' H' ρ' (bk a') sm k)
/-- x = range(e); the rest -/
theorem sx_rngV {i : Nat} {ta : TA} {u : TS} (h : EvA K W H0 ta ρ fun ss => ∃ j : Int, ss = [.dat (.int j)] ∧ ∀ p, H0 p = none → Sx K (objW W p (.rng 0 j)) H0 F0 u (ρ.set i (.rf (.ref p))) N) :
    Sx K W H0 F0 (tSeq (tAsg (tCB rRangeV ta) (gName i)) u) ρ N := fun σ F H a D n r b c =>
  h σ F H a.ok a.ho _ fun vs F' H' ss o' st hv ⟨j, e, k⟩ => by
    subst e
    cases hv with
    | cons h1 hv =>
      cases hv
      have e1 := vok_int h1
      subst e1
      refine ⟨j, rfl, fun p hp => ?_⟩
      have a' := a.step o' st
      have h0 : H0 p = none := a'.st.back a'.ok hp
      obtain ⟨o2, st2⟩ := o'.own (u := .rng 0 j) hp
      have a2 := a'.step o2 st2
      have a3 : At K W H0 F0 (σ.set i (some (.ref p))) F' (upd H' p (.rng 0 j)) (ρ.set i (.rf (.ref p))) := ⟨a2.ok, a2.st, a2.ho.set (s := .rf (.ref p)) rfl trivial⟩
      exact sx_obj a3 upd_same (o'.free hp) h0 (fun xs z => by cases z) (fun f z => by cases z) (k p h0) D (fun σ2 F2 H2 ρ2 x sm q => n σ2 F2 H2 ρ2 x (st.fz.trans sm) q) r (fun σ2 F2 H2 ρ2 x sm q => b σ2 F2 H2 ρ2 x (st.fz.trans sm) q) (fun σ2 F2 H2 ρ2 x sm q => c σ2 F2 H2 ρ2 x (st.fz.trans sm) q)
theorem evi_rngV {i : Nat} {hi : Int} {PN : List D → Prop} (hs : ρ[i]? = some (.rf (.ref p))) (h1 : -(2 ^ 62) ≤ hi) (h2 : hi < 2 ^ 62) (q : PN (rngD 0 hi.toNat)) : EvI K (objW W p (.rng 0 hi)) H0 (iRngV (tVar i)) ρ PN := fun σ F H k ho R f => by
  refine ⟨.ref p, ho.at_ i _ hs, p, 0, hi, rfl, k.inv.2, ⟨by decide, by decide, h1, h2⟩, ?_⟩
  rw [Int.sub_zero]
  refine f _ F H (rngD 0 hi.toNat) k (Step.refl k) ⟨_, _, (by rw [rngD_len]; exact walk_range (lo := 0)), fun _ _ _ _ => trivial, fun j x F2 H2 H3 hj o2 st2 y => ?_⟩ q
  rw [rngD_len] at hj
  obtain ⟨rfl, rfl⟩ := y
  exact ⟨F2, _, o2, Step.refl o2, rngD_get hj, .int _⟩
/-! ### list(range(n)) -/
theorem rgV_dp {F : Hp} (n : Int) : DpAll K F (rgV 0 n) (rngD 0 n.toNat) := by
  unfold rgV rngD
  rw [Int.sub_zero]
  have go : ∀ l : List Nat, DpAll K F (l.map fun i => V.int (0 + (i : Nat))) (l.map fun i => PyData.int (0 + (i : Nat))) := fun l => by
    induction l with
    | nil => exact .nil
    | cons x l ih => exact .cons (.int _) ih
  exact go _
theorem evn_listRg {te : TE} {PN : List D → Prop} (h : Ev K W H0 te ρ fun s => ∃ n : Int, s = .dat (.int n) ∧ n ≤ 1000000 ∧ -1000000 ≤ n ∧ PN (rngD 0 n.toNat)) : EvN K W H0 (tLstRg (tRg1 te)) ρ PN := fun σ F H o ho Q q =>
  h σ F H o ho _ fun v F' H' s o' st hv ⟨n, e, h1, h2, p⟩ => by
    subst e
    refine ⟨n, vok_int hv, ⟨by decide, by decide, by omega, by omega, by omega⟩, fun a ha => ?_⟩
    obtain ⟨o2, st2⟩ := o'.own (u := .lst (rgV 0 n)) ha
    have hH : H a = none := st.back o' ha
    exact q a _ _ _ (rngD 0 n.toNat) o2 (st.trans o' st2) hH upd_same (o'.free ha) (o'.nz ha) (rgV_dp n) p
/-! ### min, max, index -/
theorem cas_minL {P : Sl → Prop} {s : Sl} {ns : List Int} (hs : LsOf s (ns.map .int)) (hn : 0 < ns.length) (p : ∀ m, m ∈ ns → (∀ y, y ∈ ns → m ≤ y) → P (.dat (.int m))) : CaS K W (rMin K) [s] P := fun F H xs k hx Q q => by
  cases hx with
  | cons h1 h2 =>
    cases h2
    obtain ⟨a, vs, rfl, g1, g2⟩ := hs.get k h1
    rw [dpa_ints' g2] at g1
    exact ⟨a, ns, rfl, SqL.of g1, hn, fun m m1 m2 => q (.int m) F H (.dat (.int m)) k (Step.refl k) (.int m) (p m m1 m2)⟩
theorem cas_maxL {P : Sl → Prop} {s : Sl} {ns : List Int} (hs : LsOf s (ns.map .int)) (hn : 0 < ns.length) (p : ∀ m, m ∈ ns → (∀ y, y ∈ ns → y ≤ m) → P (.dat (.int m))) : CaS K W (rMax K) [s] P := fun F H xs k hx Q q => by
  cases hx with
  | cons h1 h2 =>
    cases h2
    obtain ⟨a, vs, rfl, g1, g2⟩ := hs.get k h1
    rw [dpa_ints' g2] at g1
    exact ⟨a, ns, rfl, SqL.of g1, hn, fun m m1 m2 => q (.int m) F H (.dat (.int m)) k (Step.refl k) (.int m) (p m m1 m2)⟩
end
/-! ### raise X(e1, e2) -/
structure Exc2 (Pg : Program) (w : World) (K : PySem.W.Frag) (mg : Str → Option Value) (base : Heap) (x : Str) (C : Addr) (f1 f2 : Str) : Prop where
  ox : OexC K C
  ini : ∃ fI fd, PySem.W.findIn K (.ref C) "__init__" = some (some (.ref fI)) ∧ PySem.W.typeIn K (.ref fI) = some (.type "function") ∧ FnOk Pg w K mg base CX0 1 fI fd ["self", f1, f2] (initSp K f1 f2) ∧ Binds K fd ["self", f1, f2] []
  g : mg x = some (.ref C)
  n1 : PySem.W.findIn K (.ref C) f1 = some none
  n2 : PySem.W.findIn K (.ref C) f2 = some none
  me : PySem.W.exmOne K (.ref C) (.ref C) = some true
section
variable {X : Cx} {x f1 f2 : Str} {C : Addr} {e1 e2 : Expr} {ta : TA} {p pos pos2 : Pos} {W : WX}
theorem ps_raise2 (E : Exc2 X.prog X.w X.K X.mg X.base x C f1 f2) (hr : Room 2 X.A) (hg : Gl X x) (tk : Takes X W) (ha : PA X [e1, e2] ta) (hc : X.calm = true := by rfl) (hdb : (x == ("__debug__" : Str)) = false := by decide)
    (he : starEach (e1 :: [e2]) X.env = (false, eval e1 X.env) :: starEach [e2] X.env := by rfl) (hpl : (backTo pos (starEach [e2] X.env)).any (·.1) = false := by rfl) :
    PS X (.Raise (some (.Call (.Name x p) [e1, e2] [] pos)) none pos2) (fun _ σ H => tMkO C (initSp X.K f1 f2) [] ta σ H fun cls d H' => W cls d σ H') := by
  obtain ⟨fI, fd, i1, i2, i3, i4⟩ := E.ini
  exact ps_raise hc tk (pmk_oex E.ox i1 i2 i3 hr i4 .nil pass0 hg E.g ha hdb he hpl)
end
/-! ### try: f(..) / except X: suite, no name -/
section
variable {K : PySem.W.Frag} {W : Wd} {H0 F0 : Hp} {ρ : Rho} {N : Ends2} {ta : TA}
theorem sx_try_drop {tx : WX → TE} {ts : Addr → Value → Option Addr → TS} {c : Value} {Wout : WX} (R : Addr → List (Str × D) → Prop)
    (hb : EvX K W H0 tx ρ (fun _ => N.nx ρ) R) (hc : ∀ C fs, R C fs → PySem.W.exmOne K (.ref C) c = some true) (hs : ∀ C fs, R C fs → ∀ a d, Sx K W H0 F0 (ts a (.ref C) (some d)) ρ N) :
    Sx K W H0 F0 (fun D σ H => tDrop (tx (wOnly K c ts Wout D)) D σ H) ρ N := fun σ F H at_ D nn r b cc =>
  hb σ F H at_.ok at_.ho _ _ (fun v F1 H1 s o1 st1 hv k => nn σ F1 H1 ρ (at_.step o1 st1) st1.fz k) fun C d fs F1 H1 o1 st1 he hr =>
    ⟨true, hc C fs hr, fun _ a ha => hs C fs hr a d σ F1 H1 (at_.step o1 st1) D (fun σ2 F2 H2 ρ2 a2 sm k => nn σ2 F2 H2 ρ2 a2 (st1.fz.trans sm) k) r (fun σ2 F2 H2 ρ2 a2 sm k => b σ2 F2 H2 ρ2 a2 (st1.fz.trans sm) k) (fun σ2 F2 H2 ρ2 a2 sm k => cc σ2 F2 H2 ρ2 a2 (st1.fz.trans sm) k), fun z => nomatch z⟩
/-- a body of a def that may raise -/
theorem pmX_body {n : Nat} {Pre : Wd → Rho → Prop} {Post : Wd → Rho → Sl → Prop} {PE : Wd → Rho → Addr → List (Str × D) → Prop} {Nm : List Str} {ts : TS} {vs : List V} {H : Hp} {Q : VK} {E : XK} (hN : n ≤ Nm.length) (h : PmX K n Pre Post PE vs H Q E)
    (b : ∀ (W : Wd) (F : Hp) (ss : Rho), ss.length = n → Pre W ss → (∀ C d fs F' H', Ok W F' H' → Step W F H F' H' → Er K W F' H' d fs → PE W ss C fs → E (.ref C) (some d) H') →
      Sx K W H F ts (ss ++ List.replicate (Nm.length - ss.length) .un) { nx := fun _ => Post W ss (.dat .none), rt := Post W ss }) :
    ts { nx := fun _ H' => Q .non H', rt := Q } (L2.start Nm vs) H := by
  obtain ⟨W, F, ss, k0, h1, h2, h3, h4, k, ke⟩ := h
  exact b W F ss h3 h4 ke (L2.start Nm vs) F H ⟨k0, Step.refl k0, holds_start h1 h2 (by rw [h3]; exact hN)⟩ _ (fun σ' F' H' ρ' a _ q => k .non F' H' (.dat .none) a.ok a.st .non q) (fun v F' H' s o' st hv q => k v F' H' s o' st hv q) (fun _ _ _ _ _ _ f => f.elim) fun _ _ _ _ _ _ f => f.elim
/-- raise X(e1, e2) in the world of an object of one's own -/
theorem sx_raiseO {C p : Addr} {o : HO} {E : XK} {f1 f2 : Str} (hC : OexC K C) (h1 : PySem.W.findIn K (.ref C) f1 = some none) (h2 : PySem.W.findIn K (.ref C) f2 = some none) (h0 : H0 p = none)
    (h : EvA K (objW W p o) H0 ta ρ fun ss => ∃ x y, ss = [.dat x, .dat y] ∧ ∀ dd F' H', Ok W F' H' → Step W F0 H0 F' H' → Er K W F' H' dd [(f2, y), (f1, x)] → E (.ref C) (some dd) H') :
    Sx K (objW W p o) H0 F0 (fun _ σ H => tMkO C (initSp K f1 f2) [] ta σ H fun cls d H' => E cls d H') ρ N := by
  refine sx_raise2 hC h1 h2 fun σ F H k ho R q => h σ F H k ho R fun vs F' H' ss o' st hv ⟨x, y, e, f⟩ => q vs F' H' ss o' st hv ⟨x, y, e, fun dd F2 H2 o2 st2 er => f dd F2 H2 (ok_obj o2) (back_obj h0 st2) (er_obj er)⟩
end
/-! ### what is walked within a comprehension -/
section
variable {X : Cx} {K : PySem.W.Frag} {tg l : Expr} {tl : TE}
theorem pi_listK (hK : X.K = K) (hl : PE X l tl) : PI X tg l (iList K tl) := hK ▸ pi_list hl
theorem pi_tupK (hK : X.K = K) (hl : PE X l tl) : PI X tg l (iTup K tl) := hK ▸ pi_tup hl
theorem takesN : Takes X (fun _ _ _ _ => False) := fun _ _ x => by
  obtain ⟨_, _, _, _, _, _, _, _, _, _, _, _, _, _, _, _, q⟩ := x
  cases q
end
/-! ### xs.index(d) -/
section
variable {K : PySem.W.Frag} {W : Wd} {P : Sl → Prop}
theorem tys_lst {s : Sl} {ds : List D} (hs : LsOf s ds) : TyS K W "list" s := fun F H x k hx => by
  obtain ⟨p, vs, rfl, h1, h2⟩ := hs.get k hx
  exact .inl ⟨rfl, _, SqL.of h1⟩
theorem mts_index {s : Sl} {ds : List D} {d z : D} {j : Nat} (hs : LsOf s ds) (sl : SeqAt.shaped (.list ds) = true) (sd : SeqAt.shaped d = true) (hz : ds[j]? = some z) (he : PyData.eqv z d = true)
    (hn : ∀ (m : Nat) (z' : D), m < j → ds[m]? = some z' → PyData.eqv z' d = false) (p : P (.dat (.int (j : Nat)))) : MtS K W (rIndexD K) s [.dat d] P := fun F H x xs k hx hxs Q q => by
  cases hxs with
  | cons h1 h2 =>
    cases h2
    have hd := hs.dp k hx
    obtain ⟨a, vs, rfl, g1, g2⟩ := hs.get k hx
    exact ⟨a, _, d, ds, j, z, rfl, rfl, hd, (dp_mono k.sub h1).old, sl, sd, hz, he, hn, q _ F H (.dat (.int (j : Nat))) k (Step.refl k) (.int _) p⟩
end
/-! ### two generators, without tests -/
section
variable {K : PySem.W.Frag} {W : Wd} {H0 : Hp} {ρ : Rho} {te : TE}
theorem flat_take {α β : Type} {l : List α} {i : Nat} {d : α} (f : α → List β) (h : l[i]? = some d) : (l.take (i + 1)).flatMap f = (l.take i).flatMap f ++ f d := by
  rw [List.take_add_one, h]
  simp
theorem evn_flat {wi wi1 : TI} {g g1 : TG} {vs vs1 : List Nat} {PN : List D → Prop} (G : D → List D) (f : D → D → D)
    (h : EvI K W H0 wi ρ fun ds => (∀ d, d ∈ ds → GC K W H0 vs g (.dat d) (wipeR ρ vs) fun ρ2 => noOwn ρ2 = true ∧ EvI K W H0 wi1 ρ2 fun es => es = G d ∧ ∀ e, e ∈ es → GC K W H0 vs1 g1 (.dat e) (wipeR ρ2 vs1) fun ρ3 => Ev K W H0 te ρ3 fun s => s = .dat (f d e)) ∧
      (ds.flatMap fun d => (G d).map (f d)).length < sizeLine ∧ PN (ds.flatMap fun d => (G d).map (f d))) :
    EvN K W H0 (tLc2 wi g tYes wi1 g1 tYes te vs vs1) ρ PN := by
  refine evn_lc2 (fun ds i acc => acc = (ds.take i).flatMap fun d => (G d).map (f d)) (fun σ F H o ho R q => h σ F H o ho R fun J F' H' ds o' st it ⟨hs, hl, p⟩ => q J F' H' ds o' st it ⟨by simp, fun i d acc e ha => ?_, fun acc ha => by rw [ha, List.take_length]; exact p⟩)
  have hm : d ∈ ds := List.mem_of_getElem? e
  have et := flat_take (fun d => (G d).map (f d)) e
  have hsub : ((ds.take i).flatMap fun d => (G d).map (f d)).length + ((G d).map (f d)).length ≤ (ds.flatMap fun d => (G d).map (f d)).length := by
    have := congrArg List.length (congrArg (List.flatMap fun d => (G d).map (f d)) (List.take_append_drop (i + 1) ds))
    rw [List.flatMap_append, et, List.length_append, List.length_append] at this
    omega
  refine fun x σ F H o ho hv Q q => hs d hm x σ F H o ho hv Q fun σ' ρ' ho' ew k => q σ' ρ' ho' ew (et_yes ?_)
  rw [if_pos rfl]
  refine ⟨k.1, fun σ F H o ho R q => k.2 σ F H o ho R fun J F' H' es o' st it ⟨hes, hk⟩ => q J F' H' es o' st it ⟨fun j acc => acc = ((ds.take i).flatMap fun d => (G d).map (f d)) ++ ((G d).take j).map (f d), ?_, ?_, ?_⟩⟩
  · rw [ha]
    simp
  · intro j e2 acc2 he2 ha2
    have hme : e2 ∈ es := List.mem_of_getElem? he2
    have hj : j < (G d).length := by rw [← hes]; exact (List.getElem?_eq_some_iff.mp he2).1
    refine fun x σ F H o ho hv Q q => hk e2 hme x σ F H o ho hv Q fun σ' ρ' ho' ew kk => q σ' ρ' ho' ew (et_yes ?_)
    rw [if_pos rfl]
    refine kk.mono fun s es' => ⟨_, es', ?_, ?_⟩
    · rw [ha2, List.length_append, List.length_map, List.length_take]
      rw [List.length_map] at hsub
      omega
    · rw [ha2]
      show _ = _ ++ List.map (f d) (List.take (j + 1) (G d))
      rw [List.take_add_one, ← hes, he2, List.map_append, ← List.append_assoc]
      rfl
  · intro acc2 ha2
    rw [ha2, hes, List.take_length, et]
end
end DL

namespace DL
open PySem L2 RZ
/-! ### a lambda is made: what becomes of the heap, exactly -/
section
open PySem.Spec PyProof.Rows LamX
variable {X : Cx} {pins : List (Addr × Obj)} {σ : L2.St} {H : Hp} {s : Shared}
/-- of the heap H: it is as it was, or the table at P is longer and c' is a new code object -/
def Made (P : Addr) (ps : Array Value) (q : Str) (H H1 : Hp) (c' : Addr) : Prop :=
  H1 = H ∨ ∃ more : Array Value, H c' = none ∧ c' ≠ P ∧ H1 = upd (upd H P (.tbl (ps ++ more))) c' (CodeO c' q)
/-- what is known of the codes that a table tells -/
def Coded (ps : Array Value) (q : Str) (H : Hp) : Prop := TriplesOk ps.toList ∧ ∀ (at_ : Pos) (v : Value), codeAmong at_ ps.toList = some v → ∃ c, v = .ref c ∧ H c = some (CodeO c q)
theorem lam_exact {c P : Addr} {prm : Arguments} {bd : Expr} {sco : Scope} {ps : Array Value} {lp : Pos} {E Q : Value → Shared → Prop} (I : Inv X pins σ H s) (TB : TabB X.base X.mg c P) (hc : X.env.code = .ref c) (hP : H P = some (.tbl ps))
    (hk : Coded ps (X.env.qual ++ "<lambda>") H) (hd : defaultsOf prm X.env = ([], [])) (hfr : ∀ y ∈ sco.names, y.2 = .free → ∃ b, X.env.cells.lookup y.1 = some b)
    (go : ∀ (f c' : Addr) (pm tv : Value) (H1 : Hp) (s1 : Shared), Inv X pins σ H1 s1 → Made P ps (X.env.qual ++ "<lambda>") H H1 c' → TabS H1 P (X.env.qual ++ "<lambda>") → s1.heap.get? f = some (PySem.W.kla_obj "<lambda>" (X.env.qual ++ "<lambda>") prm bd sco (cloFrom X.env.cells sco.names []) pm c' tv) →
      H1 f = none → f ∉ frs X.stack → H1 c' = some (CodeO c' (X.env.qual ++ "<lambda>")) → Q (.ref f) s1) : wpAny (model X.prog X.w) X.A (eval (.Lambda prm bd sco lp) X.env) Q E s := by
  obtain ⟨k1, k2⟩ := hk
  have bat := TB.bm.keeps I.bk
  have cod := TB.code.keeps I.bk
  have got : s.heap.get? P = some { cls := .none, data := .fields ps } := I.hok P _ hP
  have glb := I.mod.glob.keeps I.bk
  have off : ∀ b, s.heap.objs.size ≤ b → b ∉ frs X.stack := fun b hb m => by
    rcases List.mem_cons.mp (I.stkSub _ m) with rfl | m
    · exact absurd I.lt (Nat.not_lt.mpr hb)
    · exact I.nofs hb m
  refine PySem.W.kla_eval hd ?_
  rcases hf : codeAmong lp ps.toList with _ | v
  · refine PySem.W.kla_makeFunction (c := c) (P := P) (mg := X.mg) (ps := ps) (closure_ok hfr) I.ok.glob glb hc cod got k1 hf TB.gP bat ?_
    intro c' tv hp tk ext ge lt rec_ tab
    obtain ⟨c2, ob, fs, tt, q2, g1, g2, g3⟩ := rec_
    cases q2
    have le : s.heap.objs.size ≤ hp.objs.size := Nat.le_trans ge (Nat.le_of_lt lt)
    have fresh := I.hok.fresh ge
    have ncP : c' ≠ P := fun z => by
      rw [z, hP] at fresh
      cases fresh
    let nw : Array Value := #[rawInt lp.line, rawInt lp.col, .ref c']
    have big : (ps ++ nw).toList = ps.toList ++ [rawInt lp.line, rawInt lp.col, .ref c'] := by simp [nw]
    have J := inv_table (t' := tk) (more := nw) (h' := hp.push (PySem.W.kla_obj "<lambda>" (X.env.qual ++ "<lambda>") prm bd sco (cloFrom X.env.cells sco.names []) ((X.mg "__name__").getD .none) c' tv)) I hP (fun b o n e => Heap.get?_push_of_some _ (ext b o n e))
      (Heap.get?_push_of_some _ tab) ge ⟨ob, fs, tt, Heap.get?_push_of_some _ g1, g2, g3⟩
    have tabS : TabS (upd (upd H P (.tbl (ps ++ nw))) c' (CodeO c' (X.env.qual ++ "<lambda>"))) P (X.env.qual ++ "<lambda>") := by
      refine ⟨ps ++ nw, by rw [upd_ne (Ne.symm ncP), upd_same], ?_, fun at_ w hw => ?_⟩
      · rw [big]
        exact PySem.TriplesOk_snoc _ _ _ _ k1
      · rw [big] at hw
        rcases among_app _ k1 hw with z | z
        · obtain ⟨c0, a1, a2⟩ := k2 at_ w z
          have n1 : c0 ≠ c' := fun z => by
            rw [z, fresh] at a2
            cases a2
          have n2 : c0 ≠ P := fun z => by
            rw [z, hP] at a2
            exact codeO_ne ps (Option.some.inj a2).symm
          exact ⟨c0, a1, by rw [upd_ne n1, upd_ne n2]; exact a2⟩
        · exact ⟨c', z, upd_same⟩
    have nfc : hp.objs.size ≠ c' := fun z => absurd lt (by omega)
    have nfP : hp.objs.size ≠ P := fun z => Nat.lt_irrefl P (Nat.lt_of_lt_of_le (Heap.lt_size got) (z ▸ le))
    exact go hp.objs.size c' _ tv _ _ J (.inr ⟨nw, fresh, ncP, rfl⟩) tabS (Heap.get?_push_size _ rfl) (by rw [upd_ne nfc, upd_ne nfP]; exact I.hok.fresh le) (off _ le) upd_same
  · obtain ⟨c0, a1, a2⟩ := k2 lp v hf
    subst a1
    refine PySem.W.kla_makeFunctionHit (c := c) (P := P) (mg := X.mg) (ps := ps) (closure_ok hfr) I.ok.glob glb hc cod got k1 hf bat ?_
    intro tv hp tk ext le
    exact go hp.objs.size c0 _ tv H _ (I.kept fun b o e => Heap.get?_push_of_some _ (ext b o e)) (.inl rfl) ⟨ps, hP, k1, k2⟩ (Heap.get?_push_size _ rfl) (I.hok.fresh le) (off _ le) a2
/-- a(), in the def that got the lambda; what is raised is wished for at that def's own slots -/
theorem pe_actS {CXg : CXT} {Eg : XK} {Ng : List Str} {qg : Str} {sg : Scope} {g f c' : Addr} {cdg pm tv : Value} {prm : Arguments} {bd : Expr} {sco : Scope} {k i : Nat} {a : Str} {pn : List (Addr × Obj)} {xe : Value → Shared → Prop} {W : WX} {t : XK → TE} {p1 p2 : Pos}
    (I : Inv X pins σ H s) (L : LamS X.env.scope sco) (hf : s.heap.get? f = some (PySem.W.kla_obj "<lambda>" (X.env.qual ++ "<lambda>") prm bd sco (cloFrom X.env.cells sco.names []) pm c' tv)) (hn : H f = none) (hs : f ∉ frs X.stack)
    (hbi : bindArgs (PySem.W.kla_fn "<lambda>" (X.env.qual ++ "<lambda>") prm bd sco (cloFrom X.env.cells sco.names []) pm (.ref c') tv) ⟨[], []⟩ = pure [])
    (tk : Takes ((cxOf CXg X.prog X.w X.K X.mg X.base Ng qg sg g cdg X.A X.stack s H Eg).tr pn xe) W) (hr : Room (k + 1) (X.A.deeper (envOfC qg sg s.heap.objs.size g cdg)))
    (hbo : ∀ (A : Around) (ou : List Env) (s : Shared) (H : Hp) (E : XK), A.guards = X.A.guards → Room k (A.deeper (lamEnv X sco s.heap.objs.size f c')) → PE (lamCx X A ou s H E sco f c') bd (t E))
    (hN : Ng[i]? = some a) (hv : Vis sg a) (hda : (a == ("__debug__" : Str)) = false := by decide) (hca : (a == ("__classdict__" : Str)) = false := by decide) :
    PE ((cxOf CXg X.prog X.w X.K X.mg X.base Ng qg sg g cdg X.A X.stack s H Eg).tr pn xe) (.Call (.Name a p1) [] [] p2)
      (fun σ2 H2 Q => σ2[i]? = some (some (.ref f)) ∧ H2 c' = some (CodeO c' (X.env.qual ++ "<lambda>")) ∧ t (WE W σ2) σ H2 Q) := by
  constructor
  intro pins2 s2 σ2 H2 Q I2 ⟨h1, h2, h3⟩
  have rv := (pe_var (X := (cxOf CXg X.prog X.w X.K X.mg X.base Ng qg sg g cdg X.A X.stack s H Eg).tr pn xe) (pos := p1) (i := i) hN hv hda hca).run pins2 s2 σ2 H2 (fun v H3 => v = .ref f ∧ H3 = H2) I2 ⟨.ref f, h1, rfl, rfl⟩
  refine wpAny_Call_Name_kw (thn rv ?_)
  rintro u s3 ⟨v, H3, I3, r3, q3, e3⟩
  subst q3
  rw [e3] at I3
  obtain rfl : u = Value.ref f := r3
  have lam := I3.base.keep f _ hf hn hs (fun z => nomatch (show f ∈ ([] : List Addr) from z))
  refine PySem.W.callWith_F0 ⟨_, _, _, _, lam⟩ ?_
  have un : Un (frs X.stack) [] H H2 s.heap s3.heap := I3.base
  obtain ⟨⟨ob, fs, tt, g1, g2, g3⟩, _⟩ := I3.hok c' _ h2
  have own : ∀ y ∈ sco.names, y.2 ≠ .cell := fun y m => (L.own y m).2
  have run : codeAny (model X.prog X.w) (X.A.deeper (envOfC qg sg s.heap.objs.size g cdg)) (.call (.ref f) ⟨[], []⟩) (CR (L2.CX X.prog X.w) (envOfC qg sg s.heap.objs.size g cdg :: X.stack) X.prog X.w H2 s3 Q (WE W σ2)) s3 := by
    refine PySem.W.kla_callFunE hr.depth lam rfl L.co L.gen rfl ⟨c', ob, fs, tt, rfl, g1, g2, g3⟩ ?_
    rw [hbi]
    refine wpAny_pure (wpAny_newFunctionEnv own (fun y m => absurd m (by simp)) (fun h4 ns4 sb4 => ⟨I3.nolimit.fresh _ sb4, ?_⟩) L.kind)
    show codeAny _ _ (.expr bd (lamEnv X sco s3.heap.objs.size f c')) _ _
    have kept := fun (b : Addr) (o : Obj) (e : s3.heap.get? b = some o) => sb4.extBut b o (Nat.ne_of_lt (Heap.lt_size e)) (Heap.get?_push_of_some _ e)
    have st : Inv (lamCx X (X.A.deeper (envOfC qg sg s.heap.objs.size g cdg)) (envOfC qg sg s.heap.objs.size g cdg :: X.stack) s3 H2 (WE W σ2) sco f c') [] σ H2 { s3 with heap := h4, toks := s3.toks + ([] : List (Str × Value)).length } := lam_start2 I L I3.env0 hr.hd un ns4 kept
    have body := (hbo (X.A.deeper (envOfC qg sg s.heap.objs.size g cdg)) _ s3 H2 (WE W σ2) rfl (hr.deeper _)).run [] _ _ H2 Q st h3
    refine PySem.W.kla_codeExpr (wpAny_mono body ?_ fun e s5 q => q)
    rintro w s5 ⟨w', H5, I5, r5, q5⟩
    exact ⟨w', H5, I5.os, I5.bare, I5.base, I5.hok, r5, q5⟩
  refine wpAny_call (codeAny_mono run fun r s5 q => ?_)
  match r, q with
  | .error e, q => exact passAt tk σ2 pins2 H2 s3 e s5 I3 q
  | .ok (.ret _), q => exact I3.after q
  | .ok .next, q => exact False.elim q
  | .ok .brk, q => exact False.elim q
  | .ok .cont, q => exact False.elim q
/-- the def that calls what it got, its wish told of its own slots -/
def GivesS (X : Cx) (Ng : List Str) (x : Str) (sg : Scope) (g : Addr) (cdg : Value) (bg : List Stmt) (a : Str) (q : Str) (TT : (XK → Hp → VK → Prop) → Hp → VK → Prop) : Prop :=
  ∀ (f c' : Addr) (s : Shared) (H : Hp) (Q : VK) (tl : XK → Hp → VK → Prop), Room 1 (X.A.deeper (PyProof.Rows.envOfC x sg s.heap.objs.size g cdg)) →
    (∀ (W : WX) (pn : List (Addr × Obj)) (xe : Value → Shared → Prop) (p1 p2 : Pos), Takes ((cxOf C8.CX0 X.prog X.w X.K X.mg X.base Ng x sg g cdg X.A X.stack s H C8.E0).tr pn xe) W →
      PE ((cxOf C8.CX0 X.prog X.w X.K X.mg X.base Ng x sg g cdg X.A X.stack s H C8.E0).tr pn xe) (.Call (.Name a p1) [] [] p2) (fun σ2 H2 Q => σ2[0]? = some (some (.ref f)) ∧ H2 c' = some (CodeO c' q) ∧ tl (WE W σ2) H2 Q)) →
    H c' = some (CodeO c' q) → TT tl H Q →
    ∃ t, PSs (cxOf C8.CX0 X.prog X.w X.K X.mg X.base Ng x sg g cdg X.A X.stack s H C8.E0).nox bg t ∧ t { nx := fun _ H' => Q .non H', rt := Q } (L2.start Ng [.ref f]) H
/-- f(lambda: body), by what is made of the heap exactly -/
def tLamE (P : Addr) (q : Str) (TT : (XK → Hp → VK → Prop) → Hp → VK → Prop) (t : XK → TE) : TE := fun σ H Q => ∃ ps, H P = some (.tbl ps) ∧ Coded ps q H ∧
  ∀ H1 c', Made P ps q H H1 c' → TabS H1 P q → H1 c' = some (CodeO c' q) → TT (fun E H' Q' => t E σ H' Q') H1 Q
theorem pe_lamE {TT : (XK → Hp → VK → Prop) → Hp → VK → Prop} {x a : Str} {g c P : Addr} {k : Nat} {pg : Arguments} {bg : List Stmt} {sg : Scope} {dV kV doc pm cdv ct oc : Value} {an od : Option Addr} {osl : Array (Option Value)} {Ng : List Str}
    {prm : Arguments} {bd : Expr} {sco : Scope} {t : XK → TE} {p lp pos : Pos} (hg : Gl X x) (hm : X.mg x = some (.ref g)) (hk : PySem.W.keepIn X.K (.ref g) = true)
    (lk : X.K.lookup g = some ⟨oc, od, .func (PySem.W.fnOf x x pg bg sg dV kV doc pm an cdv ct), osl⟩) (hcg : PySem.W.codeIn X.K cdv x = true) (hb : L2.Binds X.K (PySem.W.fnOf x x pg bg sg dV kV doc pm an cdv ct) [a] []) (Sg : FnScope Ng [a] sg) (hN : Ng[0]? = some a) (hv : Vis sg a)
    (hG : GivesS X Ng x sg g cdv bg a (X.env.qual ++ "<lambda>") TT) (TB : TabB X.base X.mg c P) (hc : X.env.code = .ref c) (hr : Room (k + 2) X.A) (L : LamS X.env.scope sco) (hdf : defaultsOf prm X.env = ([], []))
    (hbi : ∀ (q : Str) (cl : List (Str × Addr)) (pm cv ctv : Value), bindArgs (PySem.W.kla_fn "<lambda>" q prm bd sco cl pm cv ctv) ⟨[], []⟩ = pure [])
    (hbo : ∀ (A : Around) (outer : List Env) (s : Shared) (H : Hp) (E : XK) (f c' : Addr), A.guards = X.A.guards → Room k (A.deeper (lamEnv X sco s.heap.objs.size f c')) → PE (lamCx X A outer s H E sco f c') bd (t E))
    (hdb : (x == ("__debug__" : Str)) = false := by decide) (hda : (a == ("__debug__" : Str)) = false := by decide) (hca : (a == ("__classdict__" : Str)) = false := by decide) :
    PE X (.Call (.Name x p) [.Lambda prm bd sco lp] [] pos) (tLamE P (X.env.qual ++ "<lambda>") TT t) := by
  constructor
  intro pins s σ H Q I ⟨ps, hP, hk2, hgo⟩
  refine wpAny_Call_Name_kw (ld_glob I hg hm ?_ hdb)
  refine PySem.W.callWith_K (h₀ := X.base) I.ok.mod.kin hk ?_ (by rfl) (by rfl)
  show wpAny _ _ (spliced ((false, eval (.Lambda prm bd sco lp) X.env) :: backTo pos (starEach [] X.env))) _ _ s
  refine Calls.spliced_cons (lam_exact I TB hc hP hk2 hdf (L.has I.ok) ?_)
  intro f c' pm' tv H1 s1 J md tb hf hn hs hco
  refine Calls.spliced_nil ⟨J.kIn, ?_⟩
  have run : codeAny (model X.prog X.w) X.A (.call (.ref g) ⟨[.ref f], []⟩) (CR C8.CX0 X.stack X.prog X.w H1 s1 Q C8.E0) s1 := by
    refine run_ofS (ps := [a]) (N := Ng) (vs := [.ref f]) (us := [.ref f]) lk hcg Sg hr J.env0 (hb s1 [.ref f] J.kIn rfl) (.cons rfl .nil) rfl ?_
    intro hr2
    obtain ⟨t', h1, h2⟩ := hG f c' s1 H1 Q (fun E H' Q' => t E σ H' Q') (hr2.mono (by omega))
      (fun _ _ _ _ _ tk => pe_actS (i := 0) J L hf hn hs (hbi _ _ _ _ _) tk hr2 (fun A ou st h E hgd hr3 => hbo A ou st h E f c' hgd hr3) hN hv hda hca)
      hco (hgo H1 c' md tb hco)
    exact ⟨t', h1.nox, h2⟩
  refine wpAny_call (codeAny_mono run fun r s2 h => ?_)
  match r, h with
  | .error _, h => exact False.elim h
  | .ok (.ret _), h => exact J.after h
  | .ok .next, h => exact False.elim h
  | .ok .brk, h => exact False.elim h
  | .ok .cont, h => exact False.elim h
end
end DL

namespace DL
open PySem L2 RZ LamX
/-! ### worlds with tables of code objects -/
def tabW (W : Wd) (T : List (Addr × Str)) : Wd where
  Z := fun b => W.Z b ∨ ∃ p ∈ T, b = p.1
  I := fun F H => W.I F H ∧ ∀ p ∈ T, ∃ ps, H p.1 = some (.tbl ps) ∧ Coded ps p.2 H
  stab := fun F H F' H' ⟨h1, h2⟩ hs hk hc => ⟨W.stab F H F' H' h1 hs (fun b u z e => hk b u (.inl z) e) hc, fun p hp => by
    obtain ⟨ps, a1, a2, a3⟩ := h2 p hp
    exact ⟨ps, hk _ _ (.inr ⟨p, hp, rfl⟩) a1, a2, fun at_ v e => by
      obtain ⟨c, b1, b2⟩ := a3 at_ v e
      exact ⟨c, b1, hc _ _ _ b2⟩⟩⟩
  back := fun F F' H0 H h h' => ⟨W.back F F' H0 H h.1 h'.1, h'.2⟩
/-- its own objects are neither tables nor code objects -/
def Plain (W : Wd) : Prop := ∀ F H b, Ok W F H → W.Z b → ∃ o, H b = some o ∧ (∀ ps, o ≠ .tbl ps) ∧ ∀ c q, o ≠ CodeO c q
/-- each table is told once -/
def Once (T : List (Addr × Str)) : Prop := ∀ p ∈ T, ∀ p' ∈ T, p.1 = p'.1 → p.2 = p'.2
section
variable {K : PySem.W.Frag} {W : Wd} {H0 F0 : Hp} {ρ : Rho} {T : List (Addr × Str)} {P : Sl → Prop}
theorem lst_code {xs : List V} {c : Addr} {q : Str} : HO.lst xs ≠ CodeO c q := fun z => by
  unfold CodeO at z
  cases z
theorem dK_code {xs : List (Key × V)} {c : Addr} {q : Str} : HO.dK xs ≠ CodeO c q := fun z => by
  unfold CodeO at z
  cases z
theorem feed_plain {m : Nm} {a l : Addr} {cs : List Int} : Plain (feedW m a l cs) := fun F H b o z => by
  obtain ⟨t, lf, k, h1, h2, _⟩ := o.inv
  rcases z with rfl | rfl
  · exact ⟨_, h1, fun ps z => (by cases z), fun c q => dK_code⟩
  · exact ⟨_, h2, fun ps z => (by cases z), fun c q => lst_code⟩
theorem tab_ok {F H : Hp} (k : Ok (tabW W T) F H) : Ok W F H := ⟨k.sub, fun b z => k.z b (.inl z), k.inv.1⟩
theorem tab_off {F H : Hp} (pl : Plain W) (k : Ok (tabW W T) F H) {p : Addr × Str} (hp : p ∈ T) : ¬ W.Z p.1 := fun z => by
  obtain ⟨o, h1, h2, _⟩ := pl F H _ (tab_ok k) z
  obtain ⟨ps, a1, _⟩ := k.inv.2 p hp
  rw [a1] at h1
  exact h2 ps (Option.some.inj h1).symm
theorem code_kept {F H F' H' : Hp} (pl : Plain W) (k : Ok W F H) (st : Step W F H F' H') {b c : Addr} {q : Str} (e : H b = some (CodeO c q)) : H' b = some (CodeO c q) :=
  st.kp b _ (fun z => by
    obtain ⟨o, h1, _, h3⟩ := pl F H b k z
    rw [e] at h1
    exact h3 c q (Option.some.inj h1).symm) e
theorem tab_up {F H F' H' : Hp} (pl : Plain W) (k : Ok (tabW W T) F H) (k' : Ok W F' H') (st : Step W F H F' H') : Ok (tabW W T) F' H' ∧ Step (tabW W T) F H F' H' := by
  refine ⟨⟨k'.sub, fun b z => ?_, k'.inv, fun p hp => ?_⟩, ⟨st.fz, fun b u hz e => st.kp b u (fun z => hz (.inl z)) e, st.nw⟩⟩
  · rcases z with z | ⟨p, hp, rfl⟩
    · exact k'.z b z
    · obtain ⟨ps, a1, _⟩ := k.inv.2 p hp
      have e := st.kp _ _ (tab_off pl k hp) a1
      refine ⟨st.nw _ (k.z _ (.inr ⟨p, hp, rfl⟩)).1 (k.z _ (.inr ⟨p, hp, rfl⟩)).2, ?_⟩
      rw [e]
      exact fun z => nomatch z
  · obtain ⟨ps, a1, a2, a3⟩ := k.inv.2 p hp
    exact ⟨ps, st.kp _ _ (tab_off pl k hp) a1, a2, fun at_ v e => by
      obtain ⟨c, b1, b2⟩ := a3 at_ v e
      exact ⟨c, b1, code_kept pl (tab_ok k) st b2⟩⟩
theorem vok_down {F H : Hp} {v : V} {s : Sl} (h : VOk K (tabW W T) F H v s) : VOk K W F H v s := by
  cases s with
  | un => exact h
  | dat x => exact h
  | rf u => exact h
  | kn k => exact h
  | ow r k =>
    obtain ⟨g1, u, g2, g3, g4, g5⟩ := h
    exact ⟨g1, u, g2, g3, fun z => g4 (.inl z), g5⟩
  | ls ds =>
    obtain ⟨r, ws, g1, g2, g3, g4, g5⟩ := h
    exact ⟨r, ws, g1, g2, g3, fun z => g4 (.inl z), g5⟩
theorem vok_up {F H : Hp} {v : V} {s : Sl} (hn : NoLs s) (h : VOk K W F H v s) : VOk K (tabW W T) F H v s := by
  cases s with
  | un => exact h
  | dat x => exact h
  | rf u => exact h
  | kn k => exact h
  | ls ds => exact hn.elim
  | ow r k => exact hn.elim
theorem pvok_down {F H : Hp} : ∀ {vs : List V} {ss : List Sl}, Paired (VOk K (tabW W T) F H) vs ss → Paired (VOk K W F H) vs ss
  | _, _, .nil => .nil
  | _, _, .cons h t => .cons (vok_down h) (pvok_down t)
/-- a def whose promise is told in the world without tables -/
theorem ev_fnT {t : TA} {n : Nat} {Pre : Wd → Rho → Prop} {Post : Wd → Rho → Sl → Prop} (pl : Plain W) (h : EvA K (tabW W T) H0 t ρ fun ss => (∀ s ∈ ss, NoLs s) ∧ ss.length = n ∧ Pre W ss ∧ ∀ s, Post W ss s → NoLs s ∧ P s) :
    Ev K (tabW W T) H0 (tFn (Pm K n Pre Post) t) ρ P := fun σ F H o ho Q q =>
  h σ F H o ho _ fun vs F1 H1 ss o1 st1 hv ⟨h1, h2, h3, h4⟩ => ⟨W, F1, ss, tab_ok o1, pvok_down hv, h1, h2, h3, fun v F2 H2 s o2 st2 hv2 p => by
    obtain ⟨o3, st3⟩ := tab_up pl o1 o2 st2
    obtain ⟨hn, hp⟩ := h4 s p
    exact q v F2 H2 s o3 (st1.trans o1 st3) (vok_up hn hv2) hp⟩
theorem ev_fnFT {nm : Nm} {a l : Addr} {cs : List Int} {n : Nat} {pre : List D → Prop} {post : List D → D → Prop} {t : TA} (h : EvA K (tabW (feedW nm a l cs) T) H0 t ρ fun ss => ∃ ds, ss = .rf (.ref a) :: ds.map .dat ∧ ds.length = n ∧ pre ds ∧ ∀ d, post ds d → P (.dat d)) :
    Ev K (tabW (feedW nm a l cs) T) H0 (tFn (PmF nm K n pre post) t) ρ P := ev_fnT feed_plain fun σ F H o ho Q q => h σ F H o ho Q fun vs F' H' ss o' st hv ⟨ds, e, hl, hp, k⟩ => q vs F' H' ss o' st hv (by
    subst e
    refine ⟨fun s m => ?_, by rw [List.length_cons, List.length_map, hl], ⟨a, l, cs, ds, rfl, rfl, hl, hp⟩, fun s hs => ?_⟩
    · rcases List.mem_cons.mp m with rfl | m
      · trivial
      · exact nols_dat ds s m
    · obtain ⟨d, rfl, hd⟩ := hs _ ds rfl
      exact ⟨trivial, k d hd⟩)
/-- the making of a lambda, in such a world -/
theorem tab_made {F H H1 : Hp} {p : Addr × Str} {ps : Array Value} {c' : Addr} (pl : Plain W) (on : Once T) (hp : p ∈ T) (k : Ok (tabW W T) F H) (hP : H p.1 = some (.tbl ps)) (md : Made p.1 ps p.2 H H1 c') (tb : TabS H1 p.1 p.2) :
    Ok (tabW W T) F H1 ∧ Step (tabW W T) F H F H1 := by
  rcases md with rfl | ⟨more, hc, hne, rfl⟩
  · exact ⟨k, Step.refl k⟩
  have at_ : ∀ b o, b ≠ p.1 → H b = some o → upd (upd H p.1 (.tbl (ps ++ more))) c' (CodeO c' p.2) b = some o := fun b o h1 e => by
    rw [upd_ne (ne_of_none e hc), upd_ne h1]
    exact e
  have cod : ∀ b c q, H b = some (CodeO c q) → upd (upd H p.1 (.tbl (ps ++ more))) c' (CodeO c' p.2) b = some (CodeO c q) := fun b c q e => at_ b _ (fun z => by
    rw [z, hP] at e
    exact codeO_ne ps (Option.some.inj e).symm) e
  have st : Step (tabW W T) F H F (upd (upd H p.1 (.tbl (ps ++ more))) c' (CodeO c' p.2)) := ⟨Same.refl _, fun b u hz e => at_ b u (fun z => hz (.inr ⟨p, hp, z⟩)) e, fun b h _ => h⟩
  refine ⟨⟨fun b u e => at_ b u (fun z => ?_) (k.sub b u e), fun b z => ⟨(k.z b z).1, ?_⟩, ?_, fun p' hp' => ?_⟩, st⟩
  · rw [z, (k.z p.1 (.inr ⟨p, hp, rfl⟩)).1] at e
    cases e
  · by_cases n : b = p.1
    · rw [n, upd_ne hne.symm, upd_same]
      exact fun z => nomatch z
    · obtain ⟨o, e⟩ := some_of (k.z b z).2
      rw [at_ b o n e]
      exact fun z => nomatch z
  · exact W.stab F H F _ k.inv.1 (Same.refl _) (fun b u z e => at_ b u (fun n => tab_off pl k hp (n ▸ z)) e) cod
  · by_cases n : p'.1 = p.1
    · obtain ⟨ps', a1, a2, a3⟩ := tb
      exact ⟨ps', n ▸ a1, a2, fun at2 v e => by
        obtain ⟨c, b1, b2⟩ := a3 at2 v e
        exact ⟨c, b1, by rw [on p' hp' p hp n]; exact b2⟩⟩
    · obtain ⟨ps', a1, a2, a3⟩ := k.inv.2 p' hp'
      exact ⟨ps', at_ _ _ n a1, a2, fun at2 v e => by
        obtain ⟨c, b1, b2⟩ := a3 at2 v e
        exact ⟨c, b1, cod _ _ _ b2⟩⟩
/-- f(lambda: ..), f's promise TT told of data -/
theorem ev_lamE {p : Addr × Str} {TT : (XK → Hp → VK → Prop) → Hp → VK → Prop} {t : XK → TE} (pl : Plain W) (on : Once T) (hp : p ∈ T)
    (h : ∀ σ F H, Ok (tabW W T) F H → Holds K (tabW W T) H0 σ F H ρ → ∀ Q : VK, (∀ v F' H' s, Ok (tabW W T) F' H' → Step (tabW W T) F H F' H' → VOk K (tabW W T) F' H' v s → P s → Q v H') → TT (fun E H' Q' => t E σ H' Q') H Q) :
    Ev K (tabW W T) H0 (tLamE p.1 p.2 TT t) ρ P := fun σ F H k ho Q q => by
  obtain ⟨ps, hP, hc⟩ := k.inv.2 p hp
  refine ⟨ps, hP, hc, fun H1 c' md tb hco => ?_⟩
  obtain ⟨k1, st1⟩ := tab_made pl on hp k hP md tb
  exact h σ F H1 k1 (ho.step st1) Q fun v F' H' s k' st' hv pp => q v F' H' s k' (st1.trans k1 st') hv pp
/-- no code object is its own -/
theorem tab_code {F H : Hp} (pl : Plain W) (k : Ok (tabW W T) F H) {b c : Addr} {q : Str} (e : H b = some (CodeO c q)) : ¬ (tabW W T).Z b := fun z => by
  rcases z with z | ⟨p, hp, rfl⟩
  · obtain ⟨o, h1, _, h3⟩ := pl F H b (tab_ok k) z
    rw [e] at h1
    exact h3 c q (Option.some.inj h1).symm
  · obtain ⟨ps, a1, _⟩ := k.inv.2 p hp
    rw [e] at a1
    exact codeO_ne ps (Option.some.inj a1)
end
end DL

namespace DL
open PySem L2 RZ LamX PySem.Spec PyProof.Rows
/-! ### a def that takes a lambda -/
structure GvC (Pg : Program) (w : World) (K : PySem.W.Frag) (mg : Str → Option Value) (base : Heap) (x a : Str) (TT : (XK → Hp → VK → Prop) → Hp → VK → Prop) : Prop where
  ex : ∃ (g : Addr) (pg : Arguments) (bg : List Stmt) (sg : Scope) (Ng : List Str) (oc dV kV doc pm cdv ct : Value) (od an : Option Addr) (osl : Array (Option Value)),
    mg x = some (.ref g) ∧ PySem.W.keepIn K (.ref g) = true ∧ K.lookup g = some ⟨oc, od, .func (PySem.W.fnOf x x pg bg sg dV kV doc pm an cdv ct), osl⟩ ∧ PySem.W.codeIn K cdv x = true ∧ L2.Binds K (PySem.W.fnOf x x pg bg sg dV kV doc pm an cdv ct) [a] [] ∧
    FnScope Ng [a] sg ∧ Ng[0]? = some a ∧ Vis sg a ∧ ∀ X : Cx, X.prog = Pg → X.w = w → X.K = K → X.mg = mg → X.base = base → X.A.guards = some [] → ∀ q, GivesS X Ng x sg g cdv bg a q TT
section
variable {X : Cx} {TT : (XK → Hp → VK → Prop) → Hp → VK → Prop} {x a : Str} {c P : Addr} {k : Nat} {prm : Arguments} {bd : Expr} {sco : Scope} {t : XK → TE} {p lp pos : Pos}
theorem pe_gv (C : GvC X.prog X.w X.K X.mg X.base x a TT) (TB : TabB X.base X.mg c P) (hgd : X.A.guards = some []) (hr : Room (k + 2) X.A) (hg : Gl X x) (hc : X.env.code = .ref c) (L : LamS X.env.scope sco) (hdf : defaultsOf prm X.env = ([], []))
    (hbi : ∀ (q : Str) (cl : List (Str × Addr)) (pm cv ctv : Value), bindArgs (PySem.W.kla_fn "<lambda>" q prm bd sco cl pm cv ctv) ⟨[], []⟩ = pure [])
    (hbo : ∀ (A : Around) (outer : List Env) (s : Shared) (H : Hp) (E : XK) (f c' : Addr), A.guards = some [] → Room k (A.deeper (lamEnv X sco s.heap.objs.size f c')) → PE (lamCx X A outer s H E sco f c') bd (t E))
    (hdb : (x == ("__debug__" : Str)) = false := by decide) (hda : (a == ("__debug__" : Str)) = false := by decide) (hca : (a == ("__classdict__" : Str)) = false := by decide) :
    PE X (.Call (.Name x p) [.Lambda prm bd sco lp] [] pos) (tLamE P (X.env.qual ++ "<lambda>") TT t) := by
  obtain ⟨g, pg, bg, sg, Ng, oc, dV, kV, doc, pm, cdv, ct, od, an, osl, h1, h2, h3, h4, h5, h6, h7, h8, h9⟩ := C.ex
  exact pe_lamE hg h1 h2 h3 h4 h5 h6 h7 h8 (h9 X rfl rfl rfl rfl rfl hgd _) TB hc hr L hdf hbi (fun A ou s H E f c' hg2 hr2 => hbo A ou s H E f c' (hg2.trans hgd) hr2) hdb hda hca
end
/-! ### a def's code object is known -/
section
variable {Pg : Program} {w : World} {K : PySem.W.Frag} {mg : Str → Option Value} {base : Heap}
theorem fnGc_of {x qual : Str} {st : Stmt} {f c : Addr} {fd : FuncData} {N ps : List Str} {k : Nat} {sp : Sp} (F : Fun K x qual st f fd) (hcd : fd.code = .ref c) (S : FnScope N ps (defScope st)) (len : ∀ vs H Q E, sp vs H Q E → vs.length = ps.length)
    (hb : ∀ (A : Around) (ou : List Env) (s : Shared) (H : Hp) (vs : List V) (Q : VK), A.guards = some [] → Room k (A.deeper (envOfC qual (defScope st) s.heap.objs.size f (.ref c))) → sp vs H Q E0 →
      ∃ t, PSs (cxOf CX0 Pg w K mg base N qual (defScope st) f (.ref c) A ou s H E0).nox (defBody st) t ∧ t { nx := fun _ H' => Q .non H', rt := Q } (L2.start N vs) H) : FnG Pg w K mg base (k + 1) f fd ps sp := by
  obtain ⟨oc, od, kV, doc, pm, an, cdv, ct, osl, efd, lk, hci⟩ := F.ex
  subst efd
  obtain rfl : cdv = .ref c := hcd
  refine ⟨len, fun A ou s H ar us vs Q hgd hr en hbd hv hsp => ?_⟩
  refine codeAny_call_function hr.depth (en.mod.kin.keeps (fun b o e => (en.bs b o e).1) _ _ lk) rfl S.co S.gen rfl (PySem.W.codeRec_of (en.mod.kin.keeps (fun b o e => (en.bs b o e).1)) hci) (hbd _ _ _ _ ?_)
  refine wpAny_newFunctionEnv_cells S.kind (fun y hy => ?_) fun env he s1 x => ?_
  · obtain ⟨n, v⟩ := y
    rcases S.par n (List.of_mem_zip hy).1 with q | q
    · exact .inl q
    · exact .inr ⟨q, PySem.W.cellsFrom_some _ _ _ (.inl q)⟩
  subst he
  refine ⟨(en.mod.nolimit.keeps (fun b o e => (en.bs b o e).1)).keeps x.toInCall.keep, codeAny_func ?_⟩
  obtain ⟨t, ht, hq⟩ := hb A ou s H vs Q hgd (hr.deeper _) hsp
  refine wpAny_mono (ht.nox.run [] s1 (L2.start N vs) H _ (inv_start (CX := CX0) (E := E0) S hr.hd en (len vs H Q _ hsp) hv x) hq) (fun fl s2 hs => ?_) (fun e s2 hs => hs)
  match fl, hs with
  | .ret u, ⟨v, σ2, H2, J, rv, q⟩ => exact ⟨v, H2, J.os, J.bare, J.base, J.hok, rv, q⟩
  | .next, ⟨σ2, H2, J, q⟩ => exact ⟨V.non, H2, J.os, J.bare, J.base, J.hok, rfl, q⟩
  | .brk, hs => exact hs.choose_spec.choose_spec.2.elim
  | .cont, hs => exact hs.choose_spec.choose_spec.2.elim
end
/-! ### the law's call, with tables of code objects -/
section
variable {Pg : Program} {w : World} {K : PySem.W.Frag} {mg mb : Str → Option Value} {k : Nat} {fl p : Addr} {fd : FuncData} {x : Str} {sp : Sp} {st : Shared} {us : List Value} {zs : List Int} {cs : List (Addr × Addr)}
theorem told_fromT (KX : K.In st.heap) (hm : st.heap.Ns mainGlobals mg) (hb : st.heap.Ns builtinsNs mb) (hbb : ∀ y : Str, y ≠ "__name__" → mb y = bootBuiltins y) (hl : st.heap.NoLimit) (hg : st.gens = #[])
    (hT : ∀ q ∈ cs, st.heap.get? q.2 = some { cls := .none, data := .fields #[] }) (nT : ∀ q ∈ cs, K.lookup q.2 = none) (cd : ∀ q ∈ cs, PySem.W.CodeHd st.heap q.1 q.2)
    (hbm : ∃ (bm : Addr) (ob : Obj), mg "__builtins__" = some (.ref bm) ∧ bm ≠ builtinsNs ∧ st.heap.get? bm = some ob ∧ ob.cls = .type "module" ∧ ob.dict = some builtinsNs ∧ ob.data = .plain)
    (hp : st.heap.get? p = some { cls := .type "list", data := .seq us.toArray }) (hr : Room k callerA) (F : ∀ base : Heap, K.In base → base.Ns mainGlobals mg → (∀ q ∈ cs, TabB base mg q.1 q.2) → FnG Pg w K mg base k fl fd [x] sp)
    (bd : ∀ (s : Shared) (u : Value), BindsTo s fd ⟨[u], []⟩ [(x, u)]) (H : Hp) (hH : ∀ q ∈ cs, H q.2 = some (.tbl #[])) (ok : HOk Pg w H st.heap)
    (one : ∀ b u, H b = some u → (b = p ∧ K.lookup p = none ∧ ∃ o xs, u = .frz o (.lst xs)) ∨ ∃ q ∈ cs, b = q.2)
    (hs : sp [.ref p] H (fun v _ => v = .bl true) E0) : codeAny (model Pg w) callerA (.call (.ref fl) ⟨[.ref p], []⟩) (Told st) st := by
  -- what is neither the script nor a table isn't shown
  have off : ∀ {b : Addr} {ob : Obj}, st.heap.get? b = some ob → (∀ vs n, ob.data ≠ .seq vs n) → ob.data ≠ .fields #[] → H b = none := fun {b ob} g h1 h2 => by
    rcases e : H b with _ | u
    · rfl
    · rcases one b u e with ⟨rfl, _⟩ | ⟨q, hq, rfl⟩
      · rw [hp] at g
        exact absurd rfl (Option.some.inj g ▸ h1 _ _)
      · rw [hT q hq] at g
        exact absurd rfl (Option.some.inj g ▸ h2)
  have dic : ∀ {b : Addr} {ob : Obj} {es : Array DictEntry} {n : Nat}, st.heap.get? b = some ob → ob.data = .dict es n → H b = none := fun {b ob es n} g d =>
    off g (fun _ _ z => (by rw [d] at z; cases z)) fun z => (by rw [d] at z; cases z)
  have names : ∀ {b : Addr} {m : Str → Option Value}, st.heap.Ns b m → (hidT st.heap H).Ns b m := fun {b m} h => by
    obtain ⟨ob, es, n, g, d, r⟩ := h
    exact ⟨ob, es, n, hidT_get g (dic g d), d, r⟩
  have kin : K.In (hidT st.heap H) := fun b ob g => hidT_get (KX b ob g) (by
    rcases e : H b with _ | u
    · rfl
    · rcases one b u e with ⟨rfl, z, _⟩ | ⟨q, hq, rfl⟩
      · rw [z] at g
        cases g
      · rw [nT q hq] at g
        cases g)
  have md : L2.Mod K mg (hidT st.heap H) := by
    obtain ⟨mc, n1, n2⟩ := hl
    exact ⟨kin, names hm, ⟨mb, names hb, hbb⟩, ⟨mc, names n1, n2⟩⟩
  have mne : ∀ {b : Addr} {ob : Obj}, st.heap.get? b = some ob → (∀ es n, ob.data ≠ .dict es n) → b ≠ mainGlobals := fun {b ob} g h z => by
    obtain ⟨o2, es, n, g2, d, _⟩ := hm
    rw [z, g2] at g
    exact h es n (Option.some.inj g ▸ d)
  have tb : ∀ q ∈ cs, TabB (hidT st.heap H) mg q.1 q.2 := fun q hq => by
    refine ⟨?_, ?_, fun z => mne (hT q hq) (fun _ _ z => nomatch z) z.symm⟩
    · obtain ⟨o, fs, r1, r2, r3, r4, r5, r6, r7, g, g2, g3, g4, r⟩ := cd q hq
      refine ⟨o, fs, r1, r2, r3, r4, r5, r6, r7, hidT_get g (off g (fun _ _ z => ?_) fun z => ?_), g2, g3, g4, r⟩
      · rw [g3] at z
        cases z
      · rw [g3] at z
        obtain rfl : fs = #[] := Data.fields.inj z
        simp at g4
    · obtain ⟨bm, ob, z1, z2, z3, z4, z5, z6⟩ := hbm
      refine ⟨bm, ob, z1, z2, mne z3 (fun _ _ z => ?_), fun z => ?_, hidT_get z3 (off z3 (fun _ _ z => ?_) fun z => ?_), z4, z5, z6⟩
      · rw [z6] at z
        cases z
      · rw [z, hT q hq] at z3
        rw [← Option.some.inj z3] at z6
        cases z6
      · rw [z6] at z
        cases z
      · rw [z6] at z
        cases z
  have env : Env0 Pg w K mg (hidT st.heap H) callerA [] st H := ⟨rfl, md, fun b ob g => of_hidT g, Nat.le_of_eq (hidT_size _ _), trivial, fun b z => absurd (show b ∈ ([] : List Addr) from z) (by simp), ok, .of_eq hg⟩
  refine codeAny_mono ((F _ kin (names hm) tb).run callerA [] st H ⟨[.ref p], []⟩ [.ref p] [.ref p] _ rfl hr env (bd st (.ref p)) (.cons rfl .nil) hs) fun r s2 h => ?_
  match r, h with
  | .error _, h => exact h.elim
  | .ok .next, h => exact h.elim
  | .ok .brk, h => exact h.elim
  | .ok .cont, h => exact h.elim
  | .ok (.ret u), ⟨v, H2, os, bare, un, ok2, rel, e⟩ =>
    obtain rfl : v = .bl true := e
    obtain rfl : u = Value.bool true := rel
    have key : ∀ b ob, st.heap.get? b = some ob → s2.heap.get? b = some ob ∨ ∃ q ∈ cs, b = q.2 ∧ ∃ more : Array Value, s2.heap.get? b = some { cls := .none, data := .fields more } := fun b ob g => by
      rcases e : H b with _ | u2
      · exact .inl (un.keep b ob g e (fun z => absurd (show b ∈ ([] : List Addr) from z) (by simp)) (by simp))
      · rcases one b u2 e with ⟨_, _, o3, xs, rfl⟩ | ⟨q, hq, rfl⟩
        · obtain ⟨g1, _⟩ := ok b _ e
          obtain ⟨g2, _⟩ := ok2 b _ (un.frzs b o3 _ e)
          rw [g1] at g
          exact .inl (g2.trans g)
        · obtain ⟨more, z⟩ := un.tbls q.2 #[] (hH q hq)
          exact .inr ⟨q, hq, rfl, _, ok2 q.2 _ z⟩
    refine ⟨rfl, ⟨fun b ob g => ?_, fun b ob g => ?_⟩, os, bare⟩
    · rcases key b ob g with z | ⟨q, hq, rfl, more, z⟩
      · exact .inl z
      · rw [hT q hq] at g
        obtain rfl := Option.some.inj g
        exact .inr (.inl ⟨((cd q hq).tab (hT q hq)).isCodeTable, rfl, #[], more, rfl, by simpa using z⟩)
    · rcases key b ob g with z | ⟨q, hq, rfl, more, z⟩
      · exact ⟨_, z⟩
      · exact ⟨_, z⟩
theorem told_callT (KX : K.In st.heap) (hm : st.heap.Ns mainGlobals mg) (hb : st.heap.Ns builtinsNs mb) (hbb : ∀ y : Str, y ≠ "__name__" → mb y = bootBuiltins y) (hl : st.heap.NoLimit) (hg : st.gens = #[])
    (hT : ∀ q ∈ cs, st.heap.get? q.2 = some { cls := .none, data := .fields #[] }) (nT : ∀ q ∈ cs, K.lookup q.2 = none) (cd : ∀ q ∈ cs, PySem.W.CodeHd st.heap q.1 q.2)
    (hbm : ∃ (bm : Addr) (ob : Obj), mg "__builtins__" = some (.ref bm) ∧ bm ≠ builtinsNs ∧ st.heap.get? bm = some ob ∧ ob.cls = .type "module" ∧ ob.dict = some builtinsNs ∧ ob.data = .plain)
    (hp : st.heap.get? p = some { cls := .type "list", data := .seq us.toArray }) (hi : IntsAre us zs) (hz : zs.length ≤ sizeLine) (hr : Room k callerA)
    (F : ∀ base : Heap, K.In base → base.Ns mainGlobals mg → (∀ q ∈ cs, TabB base mg q.1 q.2) → FnG Pg w K mg base k fl fd [x] sp) (bd : ∀ (s : Shared) (u : Value), BindsTo s fd ⟨[u], []⟩ [(x, u)])
    (hs : ∀ H : Hp, (∀ q ∈ cs, H q.2 = some (.tbl #[])) → SqL K H p (zs.map V.int) → sp [.ref p] H (fun v _ => v = .bl true) E0) : codeAny (model Pg w) callerA (.call (.ref fl) ⟨[.ref p], []⟩) (Told st) st := by
  have rel := vals_ints hi
  have len := hi.length
  have pne : ∀ q ∈ cs, q.2 ≠ p := fun q hq z => by
    have e := hT q hq
    rw [z, hp] at e
    have e : Data.seq us.toArray _ = Data.fields #[] := congrArg Obj.data (Option.some.inj e)
    cases e
  let T : Hp := fun b => if b ∈ cs.map Prod.snd then some (.tbl #[]) else none
  have Tin : ∀ q ∈ cs, T q.2 = some (.tbl #[]) := fun q hq => if_pos (List.mem_map.mpr ⟨q, hq, rfl⟩)
  have Tof : ∀ b u, T b = some u → u = .tbl #[] ∧ ∃ q ∈ cs, b = q.2 := fun b u e => by
    by_cases m : b ∈ cs.map Prod.snd
    · obtain ⟨q, hq, rfl⟩ := List.mem_map.mp m
      rw [Tin q hq] at e
      exact ⟨(Option.some.inj e).symm, q, hq, rfl⟩
    · have z : T b = none := if_neg m
      rw [z] at e
      cases e
  have Tok : ∀ b u, T b = some u → ObjOk Pg w T st.heap b u := fun b u e => by
    obtain ⟨rfl, q, hq, rfl⟩ := Tof b u e
    exact hT q hq
  rcases lk : K.lookup p with _ | o
  · have at_ : upd T p (.frz { cls := .type "list", data := .seq us.toArray } (.lst (zs.map V.int))) p = _ := upd_same
    have Uin : ∀ q ∈ cs, upd T p (.frz { cls := .type "list", data := .seq us.toArray } (.lst (zs.map V.int))) q.2 = some (.tbl #[]) := fun q hq => by rw [upd_ne (pne q hq), Tin q hq]
    refine told_fromT KX hm hb hbb hl hg hT nT cd hbm hp hr F bd _ Uin (fun b u e => ?_) (fun b u e => ?_) (hs _ Uin (.inl (.inr ⟨_, at_⟩)))
    · by_cases n : b = p
      · subst n
        rw [at_] at e
        obtain rfl := Option.some.inj e
        exact ⟨hp, by rw [List.length_map]; exact hz, us, _, rel, hp⟩
      · rw [upd_ne n] at e
        obtain ⟨rfl, q, hq, rfl⟩ := Tof b u e
        exact hT q hq
    · by_cases n : b = p
      · subst n
        rw [at_] at e
        exact .inl ⟨rfl, lk, _, _, (Option.some.inj e).symm⟩
      · rw [upd_ne n] at e
        exact .inr (Tof b u e).2
  · have g := KX p o lk
    rw [hp] at g
    obtain rfl := Option.some.inj g
    exact told_fromT KX hm hb hbb hl hg hT nT cd hbm hp hr F bd T Tin (fun b u e => by obtain ⟨rfl, q, hq, rfl⟩ := Tof b u e; exact hT q hq) (fun b u e => .inr (Tof b u e).2)
      (hs T Tin (.inr ⟨_, us.toArray, _, lk, rfl, rfl, rfl, by rw [List.size_toArray, len]; exact hz, by simpa using rel⟩))
end
theorem told_walkT {l : PySem.W.OpenLaw} {n k : Nat} {q : Program} {loose : List Str} {XP : (Str → Option Value) → Heap → Prop} {YP : World → Heap → Prop} {d : DefRec} {K : Params → PySem.W.Frag} {ts : List Addr} {sp : PySem.W.Frag → List (Addr × Addr) → Sp} {x : Str}
    (hn : l.most = some n) (hz : n ≤ sizeLine) (hdf : d.params.defaults = []) (hr : Room k callerA) (hY : ∀ (w : World) (h : Heap), YP w h → (K w.params).In h ∧ ∀ P ∈ ts, h.get? P = some (PySem.W.tabObj #[]))
    (F : ∀ (w : World) (mg : Str → Option Value) (fl : Addr) (h : Heap), (K w.params).In h → h.Ns mainGlobals mg → mg d.name = some (.ref fl) → ∃ (fd : FuncData) (cs : List (Addr × Addr)), (∀ p ∈ cs, p.2 ∈ ts ∧ (K w.params).lookup p.2 = none ∧ PySem.W.codeHdIn (K w.params) p.1 p.2 = true) ∧
      (∀ (s : Shared) (u : Value), BindsTo s fd ⟨[u], []⟩ [(x, u)]) ∧ ∀ base : Heap, (K w.params).In base → base.Ns mainGlobals mg → (∀ p ∈ cs, TabB base mg p.1 p.2) → FnG l.prog w (K w.params) mg base k fl fd [x] (sp (K w.params) cs))
    (hs : ∀ (K : PySem.W.Frag) (cs : List (Addr × Addr)) (H : Hp) (p : Addr) (zs : List Int), zs.length ≤ n → (∀ q ∈ cs, H q.2 = some (.tbl #[])) → SqL K H p (zs.map V.int) → sp K cs [.ref p] H (fun v _ => v = .bl true) E0) :
    PySem.W.WalkO q loose XP YP l.row.toRowW d [] (fun f vs => PySem.call f vs) :=
  Att.attach_call hn hdf fun w _ st mg mb fl _ _ _ _ p us zs G Y _ _ _ hmg hp hi hlen hg => by
    obtain ⟨KX, tb⟩ := hY w _ Y
    obtain ⟨fd, cs, h1, bd, hF⟩ := F w mg fl _ KX G.T.g hmg
    exact told_callT KX G.T.g G.T.b G.T.builtins G.T.nolimit hg (fun q hq => tb _ (h1 q hq).1) (fun q hq => (h1 q hq).2.1) (fun q hq => PySem.W.codeHd_of_K KX (h1 q hq).2.2) G.T.bmain hp hi (Nat.le_trans hlen hz) hr hF bd fun H a b => hs _ cs H p zs hlen a b
end DL

namespace DL
open PySem L2 RZ LamX
/-! ### what a def makes of the lambda handed in -/
/-- code objects are nobody's own -/
def NoCode (W : Wd) : Prop := ∀ F H b c q, Ok W F H → H b = some (CodeO c q) → ¬ W.Z b
/-- ("told", what the lambda gives), or what RC has of the error's class and fields -/
def TTs (K : PySem.W.Frag) (RC : Addr → List (Str × D) → D → Prop) : (XK → Hp → VK → Prop) → Hp → VK → Prop := fun tl H Q =>
  ∃ (W : Wd) (F : Hp) (P : D → Prop) (R : Addr → List (Str × D) → Prop), NoCode W ∧ Ok W F H ∧
    (∀ F1 H1, Ok W F1 H1 → Step W F H F1 H1 → ∀ (E : XK) (Q' : VK), (∀ v F' H' d, Ok W F' H' → Step W F1 H1 F' H' → VOk K W F' H' v (.dat d) → P d → Q' v H') →
      (∀ C d fs F' H', Ok W F' H' → Step W F1 H1 F' H' → Er K W F' H' d fs → R C fs → E (.ref C) (some d) H') → tl E H1 Q') ∧
    (∀ C fs, R C fs → ∃ r, RC C fs r) ∧
    ∀ v F' H' d, Ok W F' H' → Step W F H F' H' → VOk K W F' H' v (.dat d) → ((∃ x, P x ∧ d = .tuple [.str "told", x]) ∨ ∃ C fs, R C fs ∧ RC C fs d) → Q v H'
section
variable {K : PySem.W.Frag} {W : Wd} {H0 F0 : Hp} {ρ : Rho} {T : List (Addr × Str)} {P : Sl → Prop} {N : Ends2} {RC : Addr → List (Str × D) → D → Prop}
theorem ev_said {p : Addr × Str} {te : WX → TE} (pl : Plain W) (on : Once T) (hp : p ∈ T)
    (h : EvX K (tabW W T) H0 te ρ (fun s => ∃ d, s = .dat d ∧ P (.dat (.tuple [.str "told", d]))) fun C fs => (∃ r, RC C fs r) ∧ ∀ r, RC C fs r → P (.dat r)) :
    Ev K (tabW W T) H0 (tLamE p.1 p.2 (TTs K RC) fun E => te fun cls d _ H => E cls d H) ρ P :=
  ev_lamE pl on hp fun σ F H o ho Q q => ⟨tabW W T, F, fun d => P (.dat (.tuple [.str "told", d])), fun C fs => (∃ r, RC C fs r) ∧ ∀ r, RC C fs r → P (.dat r), fun F H b c q o e => tab_code pl o e, o,
    fun F1 H1 o1 st1 E Q' a b => h σ F1 H1 o1 (ho.step st1) Q' (fun cls d _ H => E cls d H) (fun v F' H' s o' st' hv ⟨d, e, k⟩ => by subst e; exact a v F' H' d o' st' hv k) (fun C d fs F' H' o' st' er r => b C d fs F' H' o' st' er r),
    fun C fs r => r.1, fun v F' H' d o' st' hv k => q v F' H' (.dat d) o' st' hv (by
      rcases k with ⟨x, hx, rfl⟩ | ⟨C, fs, r, rc⟩
      · exact hx
      · exact r.2 d rc)⟩
/-- try: x = e / except X as n: suite, n in slot i, x in slot j -/
theorem sx_try_as_set {tx : WX → TE} {ts : Addr → Value → Option Addr → TS} {c : Value} {Wout : WX} {i j : Nat} (P : D → Prop) (R : Addr → List (Str × D) → Prop)
    (hb : ∀ σ F H, At K W H0 F0 σ F H ρ → ∀ (Q : VK) (Wx : WX), (∀ v F' H' d, Ok W F' H' → Step W F H F' H' → VOk K W F' H' v (.dat d) → P d → Q v H') →
      (∀ C d fs F' H', Ok W F' H' → Step W F H F' H' → Er K W F' H' d fs → R C fs → Wx (.ref C) (some d) σ H') → tx Wx σ H Q)
    (hn : ∀ d, P d → N.nx (ρ.set j (.dat d))) (hc : ∀ C fs, R C fs → PySem.W.exmOne K (.ref C) c = some true)
    (hs : ∀ C fs, R C fs → ∀ a d vs, Sx K (errW K W d fs vs) H0 F0 (ts a (.ref C) (some d)) (ρ.set i (.rf (.ref a))) { nx := fun ρ' => N.nx (ρ'.set i .un), rt := N.rt, bk := fun ρ' => N.bk (ρ'.set i .un), ct := fun ρ' => N.ct (ρ'.set i .un) }) :
    Sx K W H0 F0 (fun D σ H => tAsg (tx (wAs K c i ts Wout D)) (gName j) D σ H) ρ N := fun σ F H at_ D nn r b cc =>
  hb σ F H at_ _ _ (fun v F1 H1 d o1 st1 hv p => nn _ F1 H1 _ ⟨o1, (at_.step o1 st1).st, (at_.step o1 st1).ho.set hv trivial⟩ st1.fz (hn d p)) fun C d fs F1 H1 o1 st1 he hr =>
    ⟨true, hc C fs hr, fun _ a ha => by
      obtain ⟨vs, ev⟩ := he.v
      have a1 := at_.step o1 st1
      have a2 : At K W H0 F0 (σ.set i (some (.ref a))) F1 H1 (ρ.set i (.rf (.ref a))) := ⟨a1.ok, a1.st, a1.ho.set (s := .rf (.ref a)) rfl trivial⟩
      have off : ∀ {σ2 F2 H2 ρ2}, At K W H0 F0 σ2 F2 H2 ρ2 → At K W H0 F0 (σ2.set i none) F2 H2 (ρ2.set i .un) := fun x => ⟨x.ok, x.st, x.ho.un⟩
      exact sx_err a2 ev (hs C fs hr a d vs) _ (fun σ2 F2 H2 ρ2 x sm k => nn _ F2 H2 _ (off x) (st1.fz.trans sm) k) r (fun σ2 F2 H2 ρ2 x sm k => b _ F2 H2 _ (off x) (st1.fz.trans sm) k) (fun σ2 F2 H2 ρ2 x sm k => cc _ F2 H2 _ (off x) (st1.fz.trans sm) k), fun z => nomatch z⟩
/-- isinstance(e, X), X a builtin type -/
theorem ev_isEt {d a C : Addr} {fs : List (Str × D)} {vs : List V} {i : Nat} {n : String} {b : Bool} (hi : ρ[i]? = some (.rf (.ref a))) (hb : PySem.W.kitOne K (.ref C) (.type n) = some b) (p : P (.dat (.bool b))) :
    Ev K (errW K W d fs vs) H0 (tCB (rIsEX K C a d) (tCons (tVar i) (tCons (tC (.ty n)) tNil))) ρ P := fun σ F H o ho Q q =>
  ⟨.ref a, ho.at_ i _ hi, .ty n, b, _, rfl, o.inv.2.1, .inl ⟨.type n, fun u h => h, hb⟩, q _ F H (.dat (.bool b)) o (Step.refl o) (.bl b) p⟩
end
/-- facts of an error's class, its fields among fl -/
structure ErrK (K : PySem.W.Frag) (fl : List Str) (C : Addr) : Prop where
  is : IsC K C
  xf : XfC K C
  nf : ∀ f ∈ fl, PySem.W.findIn K (.ref C) f = some none
/-- a suite's reading, where the class is one of these -/
def tEx (OKc : Addr → Prop) (cls : Value) (d : Option Addr) (tree : Addr → Addr → TS) : TS := fun D σ H => ∃ C dd, cls = .ref C ∧ d = some dd ∧ OKc C ∧ tree C dd D σ H
theorem pss_ex {Y : Cx} {b : List Stmt} {OKc : Addr → Prop} {cls : Value} {d : Option Addr} {tree : Addr → Addr → TS} (h : ∀ C dd, cls = .ref C → d = some dd → OKc C → PSs Y b (tree C dd)) : PSs Y b (tEx OKc cls d tree) :=
  ⟨fun pins s σ H D I ⟨C, dd, e1, e2, k, q⟩ => (h C dd e1 e2 k).run pins s σ H D I q⟩
theorem zc_of {cls : Value} {d : Option Addr} {C dd : Addr} {oe : Obj} (e1 : cls = .ref C) (e2 : d = some dd) (h : Zc cls d oe) : Zc (.ref C) (some dd) oe := by rw [← e1, ← e2]; exact h
theorem sx_ex {K : PySem.W.Frag} {W : Wd} {H0 F0 : Hp} {ρ : Rho} {N : Ends2} {OKc : Addr → Prop} {C dd : Addr} {tree : Addr → Addr → TS} (k : OKc C) (h : Sx K W H0 F0 (tree C dd) ρ N) : Sx K W H0 F0 (tEx OKc (.ref C) (some dd) tree) ρ N :=
  fun σ F H a D n r b c => ⟨C, dd, rfl, rfl, k, h σ F H a D n r b c⟩
/-- the call of the lambda, within ("told", a()) -/
theorem tx_act {K : PySem.W.Frag} {W : Wd} {H0 F0 : Hp} {ρ : Rho} {H : Hp} {F : Hp} {σ : St} {f c' : Addr} {q : Str} {tl : XK → Hp → VK → Prop} {P : D → Prop} {R : Addr → List (Str × D) → Prop} (nc : NoCode W) (h0 : Ok W F0 H0) (hco : H0 c' = some (CodeO c' q))
    (htl : ∀ F1 H1, Ok W F1 H1 → Step W F0 H0 F1 H1 → ∀ (E : XK) (Q' : VK), (∀ v F' H' d, Ok W F' H' → Step W F1 H1 F' H' → VOk K W F' H' v (.dat d) → P d → Q' v H') →
      (∀ C d fs F' H', Ok W F' H' → Step W F1 H1 F' H' → Er K W F' H' d fs → R C fs → E (.ref C) (some d) H') → tl E H1 Q')
    (at_ : At K W H0 F0 σ F H ρ) (hf : ρ[0]? = some (.rf (.ref f))) (Q : VK) (Wx : WX) (k1 : ∀ v F' H' d, Ok W F' H' → Step W F H F' H' → VOk K W F' H' v (.dat d) → (∃ x, P x ∧ d = .tuple [.str "told", x]) → Q v H')
    (k2 : ∀ C d fs F' H', Ok W F' H' → Step W F H F' H' → Er K W F' H' d fs → R C fs → Wx (.ref C) (some d) σ H') :
    tTup (tCons (tC (.str "told")) (tCons (fun σ2 H2 Q => σ2[0]? = some (some (.ref f)) ∧ H2 c' = some (CodeO c' q) ∧ tl (WE Wx σ2) H2 Q) tNil)) σ H Q := by
  refine ⟨at_.ho.at_ 0 _ hf, at_.st.kp _ _ (nc F0 H0 _ _ _ h0 hco) hco, ?_⟩
  refine htl F H at_.ok at_.st _ _ (fun v F1 H1 d o1 st1 hv p => ?_) fun C d fs F1 H1 o1 st1 he r => k2 C d fs F1 H1 o1 st1 he r
  refine ⟨le_line (n := 2) rfl, fun b hb => ?_⟩
  obtain ⟨o2, st2⟩ := o1.new (u := .tup [.str "told", v]) hb
  exact k1 (.ref b) _ _ (.tuple [.str "told", d]) o2 (st1.trans o1 st2) (.tup (.inl upd_same) (.cons (.str _) (.cons (dp_mono st2.fz hv) .nil))) ⟨d, p, rfl⟩
end DL

namespace DL
open PySem L2 RZ LamX PySem.Spec PyProof.Rows
section
variable {X : Cx} {TT : (XK → Hp → VK → Prop) → Hp → VK → Prop} {x a q : Str} {c P : Addr} {k : Nat} {prm : Arguments} {bd : Expr} {sco : Scope} {t : XK → TE} {p lp pos : Pos}
/-- the code objects' name told apart -/
theorem pe_gvQ (C : GvC X.prog X.w X.K X.mg X.base x a TT) (TB : TabB X.base X.mg c P) (hgd : X.A.guards = some []) (hr : Room (k + 2) X.A) (hq : X.env.qual ++ "<lambda>" = q) (hg : Gl X x) (hc : X.env.code = .ref c) (L : LamS X.env.scope sco) (hdf : defaultsOf prm X.env = ([], []))
    (hbi : ∀ (q : Str) (cl : List (Str × Addr)) (pm cv ctv : Value), bindArgs (PySem.W.kla_fn "<lambda>" q prm bd sco cl pm cv ctv) ⟨[], []⟩ = pure [])
    (hbo : ∀ (A : Around) (outer : List Env) (s : Shared) (H : Hp) (E : XK) (f c' : Addr), A.guards = some [] → Room k (A.deeper (lamEnv X sco s.heap.objs.size f c')) → PE (lamCx X A outer s H E sco f c') bd (t E))
    (hdb : (x == ("__debug__" : Str)) = false := by decide) (hda : (a == ("__debug__" : Str)) = false := by decide) (hca : (a == ("__classdict__" : Str)) = false := by decide) :
    PE X (.Call (.Name x p) [.Lambda prm bd sco lp] [] pos) (tLamE P q TT t) := by
  subst hq
  exact pe_gv C TB hgd hr hg hc L hdf hbi hbo hdb hda hca
end
end DL
namespace DL
open PySem
/-- the table that a code object names -/
def tabA (K : PySem.W.Frag) (c : Addr) : Addr := match K.lookup c with
  | some ⟨_, _, .fields vs, _⟩ => (match (vs[11]? : Option Value) with
    | some (.ref P) => P
    | _ => 0)
  | _ => 0
end DL

namespace DL
open PySem L2 RZ PySem.Spec PyProof.Rows
/-! ### xs.count(d) -/
def rCntD (K : PySem.W.Frag) : V → List V → Hp → VK → Prop := fun x xs H Q => ∃ (a : Addr) (y : V) (d : PyData) (ds : List PyData), x = V.ref a ∧ xs = [y] ∧ L2.Dp K H (V.ref a) (.list ds) ∧ L2.Dp K H y d ∧
  SeqAt.shaped (.list ds) = true ∧ SeqAt.shaped d = true ∧ Q (.int (ds.countP fun z => PyData.eqv z d : Nat)) H
section
variable {X : Cx}
theorem mt_countD (hu : X.A.units + 65 < cLine) : MtR X "list.count" (rCntD X.K) := by
  rintro pins s σ H x xs v us Q I rx rxs ⟨a, y, d, ds, rfl, rfl, hl, hy, sl, sd, q⟩
  obtain rfl := rx
  match rxs with
  | .cons ry .nil =>
    rename_i uy
    obtain ⟨bs, r1⟩ := L2.Dp.reads I d y uy hy ry
    have cl : PyData.canLayAll0 ds = true := SeqAt.canLay_of_shaped sl
    match hl with
    | .lst hs ha =>
      obtain ⟨its, rv, ⟨⟨c1, c2, c3, c4⟩, n, g1, g2, g3, g4⟩, _⟩ := I.list hs
      obtain rfl : c1 = _ := g2
      obtain rfl : c3 = _ := g4
      obtain ⟨as, ra⟩ := L2.Dp.readsAll I ds _ its ha rv
      have em : its.map (SeqAt.readOf s.heap) = ds := SeqAt.readsAll_map ds its as cl ra
      refine call_meets PySem.F.slot_list_count ⟨_, g1, rfl⟩ PySem.F.entry_list_count (PySem.F.args_list_count_2 _ _)
        (SeqAt.list_countAt a its.toArray n c2 c4 uy fun u => PyData.eqv (SeqAt.readOf s.heap u) d) ⟨g1, SeqAt.items_eqAt (vs := its.toArray) (show ReadsAll s.heap its.toArray.toList ds as from ra) r1 cl (SeqAt.canLay_of_shaped sd) (room_in_shaped sd hu), ?_⟩
      have ec : its.toArray.toList.countP (fun u => PyData.eqv (SeqAt.readOf s.heap u) d) = ds.countP fun z => PyData.eqv z d := by
        rw [← em, List.countP_map]
        rfl
      rw [ec]
      exact ⟨.int (ds.countP fun z => PyData.eqv z d : Nat), H, I.tok _, ⟨_, rfl⟩, q⟩
end
section
variable {K : PySem.W.Frag} {W : Wd} {P : Sl → Prop}
theorem mts_count {s : Sl} {ds : List D} {d : D} (hs : LsOf s ds) (sl : SeqAt.shaped (.list ds) = true) (sd : SeqAt.shaped d = true) (p : P (.dat (.int (ds.countP fun z => PyData.eqv z d : Nat)))) : MtS K W (rCntD K) s [.dat d] P := fun F H x xs k hx hxs Q q => by
  cases hxs with
  | cons h1 h2 =>
    cases h2
    have hd := hs.dp k hx
    obtain ⟨a, vs, rfl, g1, g2⟩ := hs.get k hx
    exact ⟨a, _, d, ds, rfl, rfl, hd, (dp_mono k.sub h1).old, sl, sd, q _ F H (.dat (.int _)) k (Step.refl k) (.int _) p⟩
end
end DL

namespace DL
open PySem L2 RZ PySem.Spec PyProof.Rows
/-! ### a def that may raise, called by keywords -/
structure FnXK (Pg : Program) (w : World) (K : PySem.W.Frag) (mg : Str → Option Value) (base : Heap) (x : Str) (k : Nat) (ps : List Str) (sp : Sp) (n : Nat) (ks : List Str) (gV : List V → List V → List V) : Prop where
  ex : ∃ f fd g, FnGX Pg w K mg base k f fd ps sp ∧ mg x = some (.ref f) ∧ PySem.W.keepIn K (.ref f) = true ∧ KBn K fd ps n ks g gV
def tFnXK (n m : Nat) (sp : Sp) (gV : List V → List V → List V) (E : L2.St → XK) (t tk : TA) : TE := fun σ H Q => t σ H fun vs H1 => tk σ H1 fun zs H2 => vs.length = n ∧ zs.length = m ∧ sp (gV vs zs) H2 Q (E σ)
section
variable {X : Cx} {k n : Nat} {f : Addr} {fd : FuncData} {ps ks : List Str} {sp : Sp} {x : Str} {p pos : Pos} {e : Expr} {es : List Expr} {kws : List Keyword} {t tk : TA} {W : WX}
theorem pe_fnXK0 {gV : List V → List V → List V} (C : FnXK X.prog X.w X.K X.mg X.base x k ps sp 0 ks gV) (tk' : Takes X W) (hgd : X.A.guards = some []) (hr : Room k X.A) (hg : Gl X x) (hkw : PK X kws tk)
    (hall : (backToKw pos (keywordEach kws X.env)).all (·.1.isSome) = true := by rfl) (hks : (backToKw pos (keywordEach kws X.env)).filterMap (·.1) = ks := by rfl) (hdb : (x == ("__debug__" : Str)) = false := by decide)
    (hpl : ((backTo pos (starEach [] X.env)).any (·.1) || (backToKw pos (keywordEach kws X.env)).any (·.1.isNone)) = false := by rfl) :
    PE X (.Call (.Name x p) [] kws pos) (tFnXK 0 ks.length sp gV (WE W) tNil tk) := by
  obtain ⟨f, fd, g, F, hm, hk, hb⟩ := C.ex
  refine ⟨fun pins s σ H Q I h => wpAny_Call_Name_kw (ld_glob I hg hm ?_ hdb)⟩
  refine PySem.W.callWith_KW0 (h₀ := X.base) I.ok.mod.kin hk hall (thn (hkw.run pos pins s σ H _ I h) ?_) hpl
  rintro ws s2 ⟨zs, H2, I2, rz, l1, l2, q2⟩
  refine ⟨I2.kIn, ?_⟩
  rw [hks]
  exact run_GX (args := ⟨[], ks.zip ws⟩) F hgd hr I2 (hb.to s2 [] ws I2.kIn rfl (rz.length.symm.trans l2)) (hb.rel .nil rz) q2 (passAt tk' σ)
end
section
variable {K : PySem.W.Frag} {W : Wd} {H0 F0 : Hp} {ρ : Rho} {t tk : TA} {n : Nat} {Pre : Wd → Rho → Prop} {Post : Wd → Rho → Sl → Prop} {PE : Wd → Rho → Addr → List (Str × D) → Prop}
theorem evx_fnK {P : Sl → Prop} {R : Addr → List (Str × D) → Prop} {m l : Nat} {gV : List V → List V → List V} (gS : Rho → Rho → Rho) (hg : ∀ {F H : Hp} {vs zs : List V} {ss rs : Rho}, Paired (VOk K W F H) vs ss → Paired (VOk K W F H) zs rs → vs.length = m → zs.length = l → Paired (VOk K W F H) (gV vs zs) (gS ss rs))
    (h : EvA K W H0 t ρ fun ss => EvA K W H0 tk ρ fun rs => ss.length = m ∧ rs.length = l ∧ (∀ s ∈ gS ss rs, NoLs s) ∧ (gS ss rs).length = n ∧ Pre W (gS ss rs) ∧ (∀ s, Post W (gS ss rs) s → P s) ∧ ∀ C fs, PE W (gS ss rs) C fs → R C fs) :
    EvX K W H0 (fun Wx => tFnXK m l (PmX K n Pre Post PE) gV (WE Wx) t tk) ρ P R := fun σ F H o ho Q Wx q x =>
  h σ F H o ho _ fun vs F1 H1 ss o1 st1 hv k => k σ F1 H1 o1 (ho.step st1) _ fun zs F2 H2 rs o2 st2 hz ⟨l1, l2, hn, hl, hp, k1, k2⟩ => by
    have a1 := (Paired.length hv).trans l1
    have a2 := (Paired.length hz).trans l2
    exact ⟨a1, a2, W, F2, gS ss rs, o2, hg (pvok_step st2 hv) hz a1 a2, hn, hl, hp, fun v F3 H3 s o3 st3 hs p => q v F3 H3 s o3 ((st1.trans o1 st2).trans o2 st3) hs (k1 s p), fun C d fs F3 H3 o3 st3 he p => x C d fs F3 H3 o3 ((st1.trans o1 st2).trans o2 st3) he (k2 C fs p)⟩
end
end DL

namespace DL
open PySem L2 RZ PySem.Spec PyProof.Rows PySem.W
/-! ### d < e of data alike -/
def rLtD (K : PySem.W.Frag) : R2 := fun x y H Q => ∃ d e, L2.Dp K H x d ∧ L2.Dp K H y e ∧ alike d e = true ∧ d ≠ .none ∧ d.depth ≤ 60 ∧ Q (.bl (dataLt d e)) H
theorem opLtD {X : Cx} (hu : X.A.units + 64 < cLine) : OpR X (compareOp .Lt) (rLtD X.K) := by
  intro pins s σ H x y v u Q I rx ry h
  obtain ⟨d, e, hd, he, al, hn, hdp, q⟩ := h
  obtain ⟨as, r1⟩ := Dp.reads I d x v hd rx
  obtain ⟨bs, r2⟩ := Dp.reads I e y u he ry
  exact lt_data r1 r2 al hn (by omega) ⟨.bl _, H, I, rfl, q⟩
section
variable {K : PySem.W.Frag} {W : Wd} {P : Sl → Prop}
theorem ops_ltD {d e : D} (al : alike d e = true) (hn : d ≠ .none) (hd : d.depth ≤ 60) (p : P (.dat (.bool (dataLt d e)))) : OpS K W (rLtD K) (.dat d) (.dat e) P := fun F H x y o hx hy Q q =>
  ⟨d, e, (dp_mono o.sub hx).old, (dp_mono o.sub hy).old, al, hn, hd, q _ F H (.dat (.bool _)) o (Step.refl o) (.bl _) p⟩
end
/-! ### a def that may raise, but doesn't here -/
section
variable {K : PySem.W.Frag} {W : Wd} {H0 F0 : Hp} {ρ : Rho} {P : Sl → Prop} {t tk : TA} {n : Nat} {Pre : Wd → Rho → Prop} {Post : Wd → Rho → Sl → Prop} {PE : Wd → Rho → Addr → List (Str × D) → Prop} {N : Ends2}
theorem ev_fnXN (h : EvA K W H0 t ρ fun ss => (∀ s ∈ ss, NoLs s) ∧ ss.length = n ∧ Pre W ss ∧ (∀ s, Post W ss s → P s) ∧ ∀ C fs, ¬ PE W ss C fs) :
    Ev K W H0 (tCallS (PmX K n Pre Post PE) (WE fun _ _ _ _ => False) t) ρ P := fun σ F H o ho Q q =>
  evx_fn (R := fun _ _ => False) h σ F H o ho Q (fun _ _ _ _ => False) q fun _ _ _ _ _ _ _ _ r => r
/-- try: e / except X as n: suite, n in slot i -/
theorem sx_try_as_drop {tx : WX → TE} {ts : Addr → Value → Option Addr → TS} {c : Value} {Wout : WX} {i : Nat} (R : Addr → List (Str × D) → Prop)
    (hb : EvX K W H0 tx ρ (fun _ => N.nx ρ) R) (hc : ∀ C fs, R C fs → PySem.W.exmOne K (.ref C) c = some true)
    (hs : ∀ C fs, R C fs → ∀ a d vs, Sx K (errW K W d fs vs) H0 F0 (ts a (.ref C) (some d)) (ρ.set i (.rf (.ref a))) { nx := fun ρ' => N.nx (ρ'.set i .un), rt := N.rt, bk := fun ρ' => N.bk (ρ'.set i .un), ct := fun ρ' => N.ct (ρ'.set i .un) }) :
    Sx K W H0 F0 (fun D σ H => tDrop (tx (wAs K c i ts Wout D)) D σ H) ρ N := fun σ F H at_ D nn r b cc =>
  hb σ F H at_.ok at_.ho _ _ (fun v F1 H1 s o1 st1 hv k => nn σ F1 H1 ρ (at_.step o1 st1) st1.fz k) fun C d fs F1 H1 o1 st1 he hr =>
    ⟨true, hc C fs hr, fun _ a ha => by
      obtain ⟨vs, ev⟩ := he.v
      have a1 := at_.step o1 st1
      have a2 : At K W H0 F0 (σ.set i (some (.ref a))) F1 H1 (ρ.set i (.rf (.ref a))) := ⟨a1.ok, a1.st, a1.ho.set (s := .rf (.ref a)) rfl trivial⟩
      have off : ∀ {σ2 F2 H2 ρ2}, At K W H0 F0 σ2 F2 H2 ρ2 → At K W H0 F0 (σ2.set i none) F2 H2 (ρ2.set i .un) := fun x => ⟨x.ok, x.st, x.ho.un⟩
      exact sx_err a2 ev (hs C fs hr a d vs) _ (fun σ2 F2 H2 ρ2 x sm k => nn _ F2 H2 _ (off x) (st1.fz.trans sm) k) r (fun σ2 F2 H2 ρ2 x sm k => b _ F2 H2 _ (off x) (st1.fz.trans sm) k) (fun σ2 F2 H2 ρ2 x sm k => cc _ F2 H2 _ (off x) (st1.fz.trans sm) k), fun z => nomatch z⟩
end
/-! ### sorting by a key -/
section
variable {β : Type}
def ksort (k : β → D) (bs : List β) : List β := bs.mergeSort (dataLe false k)
theorem ksort_perm (k : β → D) (bs : List β) : (ksort k bs).Perm bs := List.mergeSort_perm _ _
theorem srt_ksort (k : β → D) (bs : List β) : srtD false (bs.map k) = (ksort k bs).map k := by
  unfold srtD ksort
  exact (List.map_mergeSort (r := dataLe false k) (s := dataLe false fun d => d) (f := k) (fun a _ b _ => rfl)).symm
theorem le_total (k : β → D) (a b : β) : (dataLe false k a b || dataLe false k b a) = true := by
  rw [dataLe_eq]
  simp only [cond_false]
  cases h : dataLt (k b) (k a) with
  | false => rfl
  | true =>
    cases h2 : dataLt (k a) (k b) with
    | false => simp
    | true =>
      have := lex_trans _ _ _ h h2
      rw [lex_irrefl] at this
      cases this
theorem le_trans (k : β → D) (a b c : β) (h1 : dataLe false k a b = true) (h2 : dataLe false k b c = true) : dataLe false k a c = true := by
  rw [dataLe_eq] at *
  simp only [cond_false, Bool.not_eq_true'] at *
  cases h : dataLt (k c) (k a) with
  | false => rfl
  | true =>
    rcases lex_negTrans _ (keyToks (k b)) _ h with z | z
    · rw [show dataLt (k c) (k b) = true from z] at h2
      cases h2
    · rw [show dataLt (k b) (k a) = true from z] at h1
      cases h1
theorem ksort_le (k : β → D) (bs : List β) : (ksort k bs).Pairwise (fun a b => dataLe false k a b = true) := List.pairwise_mergeSort (le_trans k) (le_total k) bs
theorem ksort_self (k : β → D) {bs : List β} (h : bs.Pairwise fun a b => dataLe false k a b = true) : ksort k bs = bs := List.mergeSort_of_pairwise h
theorem le_anti {k : β → D} (inj : ∀ a b, keyToks (k a) = keyToks (k b) → a = b) {a b : β} (h1 : dataLe false k a b = true) (h2 : dataLe false k b a = true) : a = b := by
  rw [dataLe_eq] at *
  simp only [cond_false, Bool.not_eq_true'] at *
  exact inj _ _ (lex_total _ _ h2 h1)
theorem ksort_eq {k : β → D} (inj : ∀ a b, keyToks (k a) = keyToks (k b) → a = b) {as bs : List β} (h : as.Perm bs) : ksort k as = ksort k bs :=
  List.Perm.eq_of_pairwise (fun a b _ _ => le_anti inj) (ksort_le k as) (ksort_le k bs) ((ksort_perm k as).trans (h.trans (ksort_perm k bs).symm))
end
end DL

namespace DL
open PySem L2 RZ PySem.Spec PyProof.Rows
/-! ### sorted(set(t)), t a tuple of ints -/
def rSetI (w : World) (K : PySem.W.Frag) : List V → Hp → VK → Prop := fun vs H Q => ∃ (p : Addr) (ns : List Int), vs = [.ref p] ∧ SqT K H p (ns.map V.int) ∧ ns.length < 60 ∧
  ∀ (a : Addr) (c : Nat), H a = none → c ≤ ns.length → Q (.ref a) (upd H a (SetO w a (fun j => decide (j ∈ ns)) c))
theorem cr_setI {X : Cx} (hc : X.calm = true) : CallR X (.type "set") (rSetI X.w X.K) := by
  intro pins s σ H vs us Q I r h
  obtain ⟨p0, ns, rfl, hq, hl, q⟩ := h
  rw [Vals.ref1 r]
  obtain ⟨its, rv, pt, _⟩ := I.tuple hq
  refine call_set_tupI ns (I.ok.hd hc) (show s.heap.IsTuple p0 its.toArray from pt) (ints_of_vals rv) (by unfold scanBound; omega) fun h2 tk c R1 hcn keep => ?_
  have fresh : H s.heap.objs.size = none := I.hok.fresh (Nat.le_refl _)
  refine ⟨.ref s.heap.objs.size, _, I.call (t' := tk) (ch := []) (Un.laid keep (Nat.le_refl _) fresh) (I.hok.laid keep (Nat.le_refl _) (setO_new R1)) I.bare (fun _ z => nomatch z), rfl, q _ c fresh hcn⟩
section
variable {K : PySem.W.Frag} {W : Wd} {H0 : Hp} {ρ : Rho} {P : Sl → Prop} {t : TA} {w : World}
theorem ints_dpa {F : Hp} : ∀ ns : List Int, DpAll K F (ns.map V.int) (ns.map .int)
  | [] => .nil
  | n :: ns => .cons (.int n) (ints_dpa ns)
theorem ev_srtset (h : EvA K W H0 t ρ fun ss => ∃ ns : List Int, ss = [.dat (.tuple (ns.map .int))] ∧ ns.length < 60 ∧ ∀ out : List Int, out.Pairwise (· < ·) → (∀ k, k ∈ out ↔ k ∈ ns) → P (.dat (.list (out.map .int)))) :
    Ev K W H0 (tCB (rSortedSet w) (tCons (tCB (rSetI w K) t) tNil)) ρ P := fun σ F H o ho Q q =>
  h σ F H o ho _ fun vs F1 H1 ss o1 st1 hv ⟨ns, e, hn, k⟩ => by
    subst e
    cases hv with
    | cons h1 hx =>
      cases hx
      obtain ⟨p, xs, rfl, g1, g2⟩ := dp_tup h1
      rw [dpa_ints' g2] at g1
      refine ⟨p, ns, rfl, Or.inl (rd_mono o1.sub g1), hn, fun a c ha hc => ?_⟩
      obtain ⟨o2, st2⟩ := o1.own (u := SetO w a (fun j => decide (j ∈ ns)) c) ha
      refine ⟨a, _, c, rfl, upd_same, by omega, fun out p2 hpw hmem hlen hp => ?_⟩
      obtain ⟨o3, st3⟩ := o2.new (u := .lst (out.map V.int)) hp
      exact q (.ref p2) _ _ (.dat (.list (out.map .int))) o3 ((st1.trans o1 st2).trans o2 st3) (.lst upd_same (ints_dpa out)) (k out hpw fun j => by rw [hmem j, decide_eq_true_eq])
end
end DL

namespace DL
open PySem L2 RZ PySem.Spec PyProof.Rows PySem.W
/-! ### max(t, default=d), t a tuple of ints -/
def rMaxDef (K : PySem.W.Frag) : List V → List V → Hp → VK → Prop := fun vs zs H Q => ∃ (p : Addr) (ns : List Int) (d : Int), vs = [.ref p] ∧ zs = [.int d] ∧ SqT K H p (ns.map V.int) ∧
  (ns = [] → Q (.int d) H) ∧ ∀ m, m ∈ ns → (∀ y ∈ ns, y ≤ m) → Q (.int m) H
theorem int_reads {h : Heap} : ∀ {vs : List Value} {ns : List Int}, IntsAre vs ns → ReadsAll h vs (ns.map PyData.int) []
  | _, _, .nil => .nil
  | _, _, .cons _ _ t => .cons (.int _ _) (int_reads t)
theorem ints_alike (ns : List Int) : AlikeAll (ns.map PyData.int) := ⟨fun x hx y hy => by
    obtain ⟨a, _, rfl⟩ := List.mem_map.mp hx
    obtain ⟨b, _, rfl⟩ := List.mem_map.mp hy
    rfl, fun x hx => by
    obtain ⟨a, _, rfl⟩ := List.mem_map.mp hx
    exact fun z => nomatch z⟩
theorem fold_max : ∀ (ns : List Int) (n : Int), ns.foldl max n ∈ n :: ns ∧ ∀ y ∈ n :: ns, y ≤ ns.foldl max n
  | [], n => ⟨List.mem_cons_self, fun y m => by rw [List.mem_singleton.mp m]; exact Int.le_refl _⟩
  | a :: ns, n => by
    obtain ⟨h1, h2⟩ := fold_max ns (max n a)
    show (ns.foldl max (max n a)) ∈ n :: a :: ns ∧ _
    refine ⟨?_, fun y m => ?_⟩
    · rcases List.mem_cons.mp h1 with e | m
      · rw [e]
        rcases Int.le_total n a with h | h
        · rw [Int.max_eq_right h]
          simp
        · rw [Int.max_eq_left h]
          simp
      · simp [m]
    · rcases List.mem_cons.mp m with rfl | m
      · exact Int.le_trans (Int.le_max_left _ _) (h2 _ List.mem_cons_self)
      · rcases List.mem_cons.mp m with rfl | m
        · exact Int.le_trans (Int.le_max_right _ _) (h2 _ List.mem_cons_self)
        · exact h2 y (List.mem_cons_of_mem _ m)
theorem crk_maxD {X : Cx} (hc : X.calm = true) (hu : X.A.units + 64 < cLine) : CallRK X (.builtin "max") [Str.ofString "default"] (rMaxDef X.K) := by
  intro pins s σ H xs zs us ws Q I r rz h
  obtain ⟨p, ns, d, rfl, rfl, hq, h0, h1⟩ := h
  obtain rfl := Vals.ref1 r
  obtain ⟨w1, rfl, t1, e1⟩ := vals1 rz
  subst e1
  obtain ⟨its, rv, pt, _⟩ := I.tuple hq
  have hi : IntsAre its.toArray.toList ns := ints_of_vals rv
  have dep : PyData.depthAll (ns.map PyData.int) = 0 := depth_ints ns
  refine max_tuple_default (vs := its.toArray) (xs := ns.map PyData.int) (I.ok.hd hc) (show s.heap.IsTuple p its.toArray from pt) (int_reads hi) (ints_alike ns) (by rw [dep]; omega) (fun e h2 tk k => ?_) fun y ys i v h2 tk bs e hv rd k => ?_
  · obtain rfl : ns = [] := List.map_eq_nil_iff.mp e
    exact ⟨.int d, H, I.kept (t' := tk) k, ⟨_, rfl⟩, h0 rfl⟩
  · cases ns with
    | nil => cases e
    | cons n ns =>
      injection e with e1 e2
      subst e1 e2
      rw [maxD_ints] at rd
      cases rd
      obtain ⟨f1, f2⟩ := fold_max ns n
      exact ⟨.int _, H, I.kept (t' := tk) k, ⟨_, rfl⟩, h1 _ f1 f2⟩
section
variable {K : PySem.W.Frag} {W : Wd} {H0 F0 : Hp} {ρ : Rho} {P : Sl → Prop} {t tk : TA} {N : Ends2}
theorem ev_maxD (h : EvA K W H0 t ρ fun ss => EvA K W H0 tk ρ fun rs => ∃ (ns : List Int) (d : Int), ss = [.dat (.tuple (ns.map .int))] ∧ rs = [.dat (.int d)] ∧ (ns = [] → P (.dat (.int d))) ∧ ∀ m, m ∈ ns → (∀ y ∈ ns, y ≤ m) → P (.dat (.int m))) : Ev K W H0 (tCKw (rMaxDef K) t tk) ρ P := fun σ F H o ho Q q =>
  h σ F H o ho _ fun vs F1 H1 ss o1 st1 hv k => k σ F1 H1 o1 (ho.step st1) _ fun zs F2 H2 rs o2 st2 hz ⟨ns, d, e1, e2, p0, p1⟩ => by
    subst e1 e2
    cases hv with
    | cons h1 hn =>
      cases hn
      cases hz with
      | cons g1 gn =>
        cases gn
        obtain ⟨a, xs, rfl, a1, a2⟩ := dp_tup (h1.step st2)
        rw [dpa_ints' a2] at a1
        rw [vok_int g1]
        exact ⟨a, ns, d, rfl, rfl, Or.inl (rd_mono o2.sub a1), fun e => q (.int d) F2 H2 (.dat (.int d)) o2 (st1.trans o1 st2) (.int _) (p0 e), fun m hm hy => q (.int m) F2 H2 (.dat (.int m)) o2 (st1.trans o1 st2) (.int _) (p1 m hm hy)⟩
/-- f(..) as a statement, f may raise -/
theorem sx_callX {tx : WX → TE} {E : XK} (R : Addr → List (Str × D) → Prop) (h : EvX K W H0 tx ρ (fun _ => N.nx ρ) R)
    (hR : ∀ C fs, R C fs → ∀ dd F' H', Ok W F' H' → Step W F0 H0 F' H' → Er K W F' H' dd fs → E (.ref C) (some dd) H') :
    Sx K W H0 F0 (fun D σ H => tDrop (tx (fun cls d _ H' => E cls d H')) D σ H) ρ N := fun σ F H at_ D nn r b cc =>
  h σ F H at_.ok at_.ho _ _ (fun v F1 H1 s o1 st1 hv k => nn σ F1 H1 ρ (at_.step o1 st1) st1.fz k) fun C d fs F1 H1 o1 st1 he hr => hR C fs hr d F1 H1 o1 (at_.st.trans at_.ok st1) he
end
/-! ### weaker promises -/
section
variable {Pg : Program} {w : World} {K : PySem.W.Frag} {mg : Str → Option Value} {base : Heap}
theorem FnG.weak {k : Nat} {f : Addr} {fd : FuncData} {ps : List Str} {sp sp' : Sp} (F : FnG Pg w K mg base k f fd ps sp) (h : ∀ vs H Q E, sp' vs H Q E → sp vs H Q E) : FnG Pg w K mg base k f fd ps sp' :=
  ⟨fun vs H Q E z => F.len vs H Q E (h vs H Q E z), fun A ou s H ar us vs Q g r en b v z => F.run A ou s H ar us vs Q g r en b v (h vs H Q E0 z)⟩
theorem Fn.weak {x : Str} {k : Nat} {ps : List Str} {sp sp' : Sp} (F : Fn Pg w K mg base x k ps sp) (h : ∀ vs H Q E, sp' vs H Q E → sp vs H Q E) : Fn Pg w K mg base x k ps sp' := by
  obtain ⟨f, fd, g, a, b, c⟩ := F.ex
  exact ⟨f, fd, g.weak h, a, b, c⟩
end
end DL

namespace DL
open PySem L2 RZ PySem.Spec PyProof.Rows PySem.W
/-! ### () * k -/
theorem tuple_mul0 (l : Addr) (n : Nat) (dd : Option Addr) (sl : Array (Option Value)) (x : Int) (u : Tok) (c0 : (decide (x < -(2 ^ 63)) || decide (x ≥ 2 ^ 63)) = false) :
    Meets (Builtin.«tuple.__mul__» ⟨[.ref l, .int x u], []⟩) (fun _ R s => s.heap.get? l = some { cls := .type "tuple", dict := dd, data := .seq #[] n, slots := sl } ∧ R (.ok (.ret (.ref l))) s) :=
  .of_wp fun prog w A R s h => by
    obtain ⟨hp, g, d, tk, os⟩ := s
    obtain ⟨hl, h⟩ := h
    have f1 := AutoSeq1.idx_int
    have c1 : ((#[] : Array Value).isEmpty || x == 1) = true := rfl
    wp_walk using wpAny_loadPart' hl
    repeat (first
      | (refine wpAny_ite_false (decide_eq_false (by rw [c0]; exact Bool.false_ne_true)) ?_; wp_walk using wpAny_loadPart' hl)
      | (refine wpAny_ite_true (by rfl) ?_; wp_walk using wpAny_loadPart' hl))
    exact ⟨_, rfl, h⟩
def rRepE (K : PySem.W.Frag) : R2 := fun x y H Q => ∃ l k, x = .ref l ∧ y = .int k ∧ SqT K H l [] ∧ 2 ≤ k ∧ k ≤ 1000 ∧ Q (.ref l) H
section
variable {X : Cx}
theorem op_repE : OpR X (binaryOp .Mult) (rRepE X.K) := by
  intro pins s σ H x y v u Q I rx ry h
  obtain ⟨l, k, rfl, rfl, hT, h1, h2, q⟩ := h
  cases rx
  obtain ⟨t, rfl⟩ := ry
  obtain ⟨its, r, ⟨⟨cls, dd, data, sl⟩, ho, hc, n, hd⟩, hs⟩ := I.tuple hT
  simp only at hc hd
  subst hc hd
  have hle : its.length = 0 := r.length.symm
  obtain rfl : its = [] := List.eq_nil_of_length_eq_zero hle
  have c0 : (decide (k < -(2 ^ 63)) || decide (k ≥ 2 ^ 63)) = false := by
    rw [decide_eq_false (by omega), decide_eq_false (by omega)] <;> rfl
  refine wpAny_binaryOp_repeat_ref (T := "tuple") (U := "int") (by decide) ⟨_, ho, rfl⟩ (fun s' => typeIs_int s' k t) noFill_tuple_mul F.fills_int_mul F.slot_int_rmul repeat_tuple F.slot_int_index.lookup
    (call_meets F.slot_int_rmul (typeIs_int s k t) F.entry_int_rmul (F.args_int_rmul_2 _ _) (int_rmul_tuple k t l #[] n dd sl)
      ⟨ho, rfl, ⟨_, ho, rfl⟩, call_meets F.slot_tuple_mul ⟨_, ho, rfl⟩ F.entry_tuple_mul (F.args_tuple_mul_2 _ _) (tuple_mul0 l n dd sl k t c0) ⟨ho, ?_⟩⟩)
  exact ⟨.ref l, H, I, rfl, q⟩
end
def rMul5 (K : PySem.W.Frag) : R2 := fun x y H Q => rMul2 K x y H Q ∨ rRepE K x y H Q
theorem opMul5 {X : Cx} : OpR X (binaryOp .Mult) (rMul5 X.K) := opMul.or op_repE
section
variable {K : PySem.W.Frag} {W : Wd} {P : Sl → Prop}
theorem ops_mul5 {s u : Sl} (h : OpS K W (rMul2 K) s u P) : OpS K W (rMul5 K) s u P := OpS.inl h
theorem ops_rep5 {ds : List D} {k : Int} (h1 : 2 ≤ k) (h2 : k ≤ 1000) (h3 : ds.length ≤ 1000) (p : P (.dat (.tuple (List.replicate k.toNat ds).flatten))) : OpS K W (rMul5 K) (.dat (.tuple ds)) (.dat (.int k)) P := by
  by_cases e : ds = []
  · subst e
    have e2 : (List.replicate k.toNat ([] : List D)).flatten = [] := by simp
    rw [e2] at p
    refine OpS.inr fun F H x y o hx hy Q q => ?_
    obtain ⟨a, xs, rfl, a1, a2⟩ := dp_tup hx
    rw [vok_int hy]
    have : xs = [] := List.eq_nil_of_length_eq_zero (by rw [dpa_len a2]; rfl)
    subst this
    exact ⟨a, k, rfl, rfl, Or.inl (rd_mono o.sub a1), h1, h2, q _ F H (.dat (.tuple [])) o (Step.refl o) hx p⟩
  · exact OpS.inl (ops_rep e h1 h2 h3 p)
end
end DL

namespace DL
open PySem L2 RZ PySem.Spec PyProof.Rows PySem.W
/-! ### t * 1 -/
theorem tuple_mul1 (l : Addr) (items : Array Value) (n : Nat) (dd : Option Addr) (sl : Array (Option Value)) (x : Int) (u : Tok) (hx : (items.isEmpty || x == 1) = true) (c0 : (decide (x < -(2 ^ 63)) || decide (x ≥ 2 ^ 63)) = false) :
    Meets (Builtin.«tuple.__mul__» ⟨[.ref l, .int x u], []⟩) (fun _ R s => s.heap.get? l = some { cls := .type "tuple", dict := dd, data := .seq items n, slots := sl } ∧ R (.ok (.ret (.ref l))) s) :=
  .of_wp fun prog w A R s h => by
    obtain ⟨hp, g, d, tk, os⟩ := s
    obtain ⟨hl, h⟩ := h
    have f1 := AutoSeq1.idx_int
    have c1 : (items.isEmpty || x == 1) = true := hx
    wp_walk using wpAny_loadPart' hl
    repeat (first
      | (refine wpAny_ite_false (decide_eq_false (by rw [c0]; exact Bool.false_ne_true)) ?_; wp_walk using wpAny_loadPart' hl)
      | (refine wpAny_ite_true (by first | exact c1 | rfl) ?_; wp_walk using wpAny_loadPart' hl))
    exact ⟨_, rfl, h⟩
def rRep1 (K : PySem.W.Frag) : R2 := fun x y H Q => ∃ l xs, x = .ref l ∧ y = .int 1 ∧ SqT K H l xs ∧ Q (.ref l) H
section
variable {X : Cx}
theorem op_rep1 : OpR X (binaryOp .Mult) (rRep1 X.K) := by
  intro pins s σ H x y v u Q I rx ry h
  obtain ⟨l, xs, rfl, rfl, hT, q⟩ := h
  cases rx
  obtain ⟨t, rfl⟩ := ry
  obtain ⟨its, r, ⟨⟨cls, dd, data, sl⟩, ho, hc, n, hd⟩, hs⟩ := I.tuple hT
  simp only at hc hd
  subst hc hd
  have c0 : (decide ((1 : Int) < -(2 ^ 63)) || decide ((1 : Int) ≥ 2 ^ 63)) = false := by decide
  refine wpAny_binaryOp_repeat_ref (T := "tuple") (U := "int") (by decide) ⟨_, ho, rfl⟩ (fun s' => typeIs_int s' 1 t) noFill_tuple_mul F.fills_int_mul F.slot_int_rmul repeat_tuple F.slot_int_index.lookup
    (call_meets F.slot_int_rmul (typeIs_int s 1 t) F.entry_int_rmul (F.args_int_rmul_2 _ _) (int_rmul_tuple 1 t l its.toArray n dd sl)
      ⟨ho, rfl, ⟨_, ho, rfl⟩, call_meets F.slot_tuple_mul ⟨_, ho, rfl⟩ F.entry_tuple_mul (F.args_tuple_mul_2 _ _) (tuple_mul1 l its.toArray n dd sl 1 t (Bool.or_true _) c0) ⟨ho, ?_⟩⟩)
  exact ⟨.ref l, H, I, rfl, q⟩
end
def rMul6 (K : PySem.W.Frag) : R2 := fun x y H Q => rMul5 K x y H Q ∨ rRep1 K x y H Q
theorem opMul6 {X : Cx} : OpR X (binaryOp .Mult) (rMul6 X.K) := opMul5.or op_rep1
section
variable {K : PySem.W.Frag} {W : Wd} {P : Sl → Prop}
/-- a tuple times a number from 1 on -/
theorem ops_rep6 {ds : List D} {k : Int} (h1 : 1 ≤ k) (h2 : k ≤ 1000) (h3 : ds.length ≤ 1000) (p : P (.dat (.tuple (List.replicate k.toNat ds).flatten))) : OpS K W (rMul6 K) (.dat (.tuple ds)) (.dat (.int k)) P := by
  by_cases e : k = 1
  · subst e
    have e2 : (List.replicate (1 : Int).toNat ds).flatten = ds := by simp
    rw [e2] at p
    refine OpS.inr fun F H x y o hx hy Q q => ?_
    obtain ⟨a, xs, rfl, a1, a2⟩ := dp_tup hx
    rw [vok_int hy]
    exact ⟨a, xs, rfl, rfl, Or.inl (rd_mono o.sub a1), q _ F H (.dat (.tuple ds)) o (Step.refl o) hx p⟩
  · exact OpS.inl (ops_rep5 (by omega) h2 h3 p)
end
end DL

namespace DL
open PySem L2 RZ PySem.Spec PyProof.Rows PySem.W
/-! ### enumerate of a list; is not of bools -/
theorem walk_enumL {K : PySem.W.Frag} {a : Addr} {xs : List V} {n : Nat} (hn : n = xs.length) : Walk (Ite K a) n (fun H => SqL K H a xs) (YPair (fun i => some (.int (i : Nat))) (fun i => xs[i]?)) := by
  subst hn
  exact ⟨fun i _ hi q => ⟨xs, xs[i], q, by simp [hi]⟩, fun _ q => ⟨xs, q, Nat.le_refl _⟩, fun i H v H' _ q y => by
    obtain ⟨T, x, h1, h2, h3, h4⟩ := y
    exact ⟨T, .int (i : Nat), x, h1, h2, h3, rfl, h4 xs q⟩⟩
section
variable {K : PySem.W.Frag} {W : Wd} {H0 F0 : Hp} {ρ : Rho} {P : Sl → Prop}
theorem evi_enumL {ta : TA} {PN : List D → Prop} (h : EvA K W H0 ta ρ fun ss => ∃ ds, ss = [.dat (.list ds)] ∧ PN (enumD ds)) : EvI K W H0 (iEnum K ta) ρ PN := fun σ F H o ho R q =>
  h σ F H o ho _ fun vs F' H' ss o' st hv ⟨ds, e, p⟩ => by
    subst e
    cases hv with
    | cons e1 e2 =>
      cases e2
      obtain ⟨a, xs, rfl, h1, h2⟩ := dp_lst e1
      refine ⟨a, xs, rfl, SqL.of (o'.sub _ _ h1), q _ F' H' (enumD ds) o' st ⟨_, _, walk_enumL (K := K) (a := a) (xs := xs) (by rw [enumD_len, dpa_len h2]), fun F2 H2 o2 st2 => SqL.of ((st2.trans o2.sub) _ _ h1), fun i x F2 H2 H3 hi o2 st2 y => ?_⟩ p⟩
      obtain ⟨T, u, w, rfl, hT, rfl, hu, hw⟩ := y
      obtain rfl := Option.some.inj hu
      obtain ⟨d, d1, d2⟩ := dpa_get h2 hw
      obtain ⟨o3, st3⟩ := o2.new (u := .tup [.int (i : Nat), w]) hT
      exact ⟨_, .tuple [.int (i : Nat), d], o3, st3, enumD_get d1, .tup (.inl upd_same) (.cons (.int _) (.cons (dp_mono (st2.trans st3.fz) d2) .nil))⟩
theorem ops_notB {a b : Bool} (p : P (.dat (.bool (!decide (a = b))))) : OpS K W rNotB (.dat (.bool a)) (.dat (.bool b)) P := fun F H x y o hx hy Q q =>
  ⟨a, b, vok_bool hx, vok_bool hy, q _ F H (.dat (.bool _)) o (Step.refl o) (.bl _) p⟩
end
end DL

namespace DL
open PySem L2 RZ PySem.Spec PyProof.Rows PySem.W PySem.Calls
/-! ### sorted of tuples that are alike as far as sorting looks -/
def near (d e : D) : Prop := ∃ (x : D) (r : List D) (y : D) (q : List D), d = .tuple (x :: r) ∧ e = .tuple (y :: q) ∧ alike x y = true ∧ (PyData.eqv x y = true → alikeAll r q = true)
def AllNear (ds : List D) : Prop := ∀ d ∈ ds, ∀ e ∈ ds, near d e
theorem near_unique {h : Heap} {d e : D} {v : Value} {as bs : List Addr} (n : near d e) (r : Reads h v d as) (r' : Reads h v e bs) : d = e := by
  obtain ⟨x, xr, y, yr, rfl, rfl, ha, hr⟩ := n
  cases r with
  | @tuple l o vs n _ as₁ h1 h2 h3 h4 =>
    cases r' with
    | @tuple _ o' vs' n' _ bs₁ k1 k2 k3 k4 =>
      rw [h1] at k1
      cases k1
      rw [h3] at k3
      cases k3
      generalize vs.toList = zs at h4 k4
      cases h4 with
      | cons a1 a2 =>
        cases k4 with
        | cons b1 b2 =>
          have e1 := alike_unique x y _ _ _ ha a1 b1
          subst e1
          rw [alikeAll_unique xr yr _ _ _ (hr (eqv_refl_alike x ha)) a2 b2]
theorem dkn_some {h : Heap} {ds : List D} (hn : AllNear ds) {v : Value} {d : D} {as : List Addr} (hd : d ∈ ds) (r : Reads h v d as) : (dataKind h ds).keyOf v = some (keyToks d) := by
  have hex : ∃ e, e ∈ ds ∧ ∃ bs, Reads h v e bs := ⟨d, hd, as, r⟩
  have e0 : (dataKind h ds).keyOf v = some (keyToks hex.choose) := dif_pos hex
  obtain ⟨m, bs, rb⟩ := hex.choose_spec
  rw [e0, near_unique (hn _ m _ hd) rb r]
theorem each_keysN {h : Heap} {ds : List D} (hn : AllNear ds) {vs : List Value} (e : EachIs (fun v d => ∃ as, Reads h v d as) vs ds) : EachIs (fun v d => (dataKind h ds).keyOf v = some (keyToks d)) vs ds :=
  (each_mem e).mono fun _ _ ⟨⟨_, r⟩, m⟩ => dkn_some hn m r
section
variable {prog : Program} {w : World} {A : Around} {E : Value → Shared → Prop} {s : Shared} {β : Type} {vs : List Value} {bs : List β} {enc : β → PyData} {R : Value → β → Prop}
theorem sortsNear {ws : List Value} {ds : List D} (e : EachIs (fun v d => ∃ as, Reads s.heap v d as) ws ds) (hn : AllNear ds) (hu : ∀ d ∈ ds, A.units + d.depth < cLine) : SortsAt prog w A s (dataKind s.heap ds) ws := by
  refine ⟨fun v hv => ?_, ?_⟩
  · obtain ⟨d, hd, as, r⟩ := e.left v hv
    exact ⟨_, dkn_some hn hd r⟩
  cases ds with
  | nil =>
    cases e
    refine ⟨general', fun E x y a b Q ha _ _ => ?_, fun h2 => absurd h2 (by simp)⟩
    obtain ⟨d, _, m, _⟩ := dataKind_inv ha
    exact absurd m (by simp)
  | cons d0 dr =>
    obtain ⟨x0, r0, _, _, e0, _⟩ := hn d0 List.mem_cons_self d0 List.mem_cons_self
    have fst : ∀ x r, PyData.tuple (x :: r) ∈ d0 :: dr → alike x x0 = true := fun x r m => by
      obtain ⟨x1, r1, y1, q1, e1, e2, al, _⟩ := hn _ m d0 List.mem_cons_self
      rw [e0] at e2
      cases e1
      cases e2
      exact al
    have tp : ∀ d, d ∈ d0 :: dr → ∃ x r, d = .tuple (x :: r) := fun d m => by
      obtain ⟨x1, r1, _, _, e1, _⟩ := hn d m d m
      exact ⟨x1, r1, e1⟩
    refine ⟨tuples' (dataType x0 != Value.type "tuple"), fun E x y a b Q ha hb hq => ?_, fun h2 E Q hq => ?_⟩
    · obtain ⟨d, as, m, ra, rfl⟩ := dataKind_inv ha
      obtain ⟨d', as', m', rb, rfl⟩ := dataKind_inv hb
      have rm := hu d m
      have rm2 := hu d' m'
      obtain ⟨x1, r1, x2, r2, rfl, rfl, al, rest⟩ := hn d m d' m'
      have hq' : Q (dataLt (.tuple (x1 :: r1)) (.tuple (x2 :: r2))) s := hq
      rw [dataLt_tuple] at hq'
      cases ra with
      | @tuple l o xs n _ _ h1 h2 h3 h4 =>
        cases rb with
        | @tuple l' o' xs' n' _ _ k1 k2 k3 k4 =>
          have n1 : xs.size = (x1 :: r1).length := by simpa using SeqAt.ReadsAll.length _ _ _ h4
          have n2 : xs'.size = (x2 :: r2).length := by simpa using SeqAt.ReadsAll.length _ _ _ k4
          refine kat_lt h1 h3 k1 k3 ?_
          rw [n1, n2]
          have rm3 : A.units + 1 + max x1.depth (PyData.depthAll r1) < cLine := by
            simp only [PyData.depth, PyData.depthAll] at rm
            omega
          generalize xs.toList = us at h4
          generalize xs'.toList = ts at k4
          cases h4 with
          | cons a1 a2 =>
            cases k4 with
            | cons b1 b2 =>
              rw [List.zip_cons_cons]
              refine kat_cons (PySem.W.eqAt_alike x1 x2 A s _ _ _ _ a1 b1 al (by omega) prog w _ _ ?_)
              cases hx : PyData.eqv x1 x2 with
              | true =>
                rw [dataLt_all_yes al hx] at hq'
                exact kat_yes (katLex_alike r1 r2 1 _ _ _ _ a2 b2 (rest hx) (by omega) (fun _ z => absurd z (by omega)) (by simp) hq')
              | false =>
                rw [dataLt_all_no al hx] at hq'
                refine kat_no (oneLt_alike (fun hbi t => ?_) a1 b1 al (ne_none_of al hx) (by omega) hq')
                rw [Bool.and_eq_true] at hbi
                have z := hbi.1
                rw [← dataType_alike (fst _ _ m)] at z
                exact dataType_tuple z t
    · obtain ⟨fs, t1, t2, t3⟩ := each_katTups e tp
      refine kat_kind (T := dataType x0) t1 (by omega) (fun f hf => ?_) (beq_self_eq_true _) hq
      obtain ⟨x, r, as, m1, m2⟩ := t3 f hf
      rw [← dataType_alike (fst x r m1)]
      exact looks_reads m2
theorem sorted_near {l : Addr} {Q : Value → Shared → Prop} (hl : s.heap.IsList l vs.toArray) (e : EachIs R vs bs) (er : EachIs (fun v b => ∃ as, Reads s.heap v (enc b) as) vs bs) (hn : AllNear (bs.map enc)) (hL : bs.length ≤ sizeLine)
    (hu : ∀ b ∈ bs, A.units + 2 + (enc b).depth < cLine) (h : ∀ out, out.length = bs.length → EachIs R out (bs.mergeSort (dataLe false enc)) → Q (.ref (s.heap.objs.size + 1)) { s with heap := sortedAll s.heap vs (List.toArray out) }) :
    wpAny (model prog w) A (call (.builtin "sorted") [.ref l]) Q E s := by
  have k : EachIs (fun v b => ∃ as, Reads (sortingHeap (copyHeap s.heap vs) (s.heap.objs.size + 1) vs) v (enc b) as) vs bs := er.mono fun _ _ ⟨as, r⟩ => ⟨as, PyProof.Rows.Reads.keeps (fun _ _ => sorting_copy_old) r⟩
  have k2 := each_map (R := fun v d => ∃ as, Reads (sortingHeap (copyHeap s.heap vs) (s.heap.objs.size + 1) vs) v d as) enc k
  refine sorted_vals hl (sortsNear (s := { s with heap := sortingHeap (copyHeap s.heap vs) (s.heap.objs.size + 1) vs }) k2 hn (bound_map hu)) (by rw [e.length]; exact hL) (h _ (by rw [sortVals_length false rfl]; exact e.length) ?_)
  exact sortVals_each (κ := dataKind (sortingHeap (copyHeap s.heap vs) (s.heap.objs.size + 1) vs) (bs.map enc)) (fun b => keyToks (enc b)) e (each_of_map enc (each_keysN hn k2))
end
def rSrtN (K : PySem.W.Frag) : List V → Hp → VK → Prop := fun xs H Q => ∃ (a : Addr) (vs : List V) (ds : List D), xs = [V.ref a] ∧ SqL K H a vs ∧ L2.DpAll K H vs ds ∧ AllNear ds ∧ (∀ d ∈ ds, d.depth ≤ 40) ∧
  ∀ p, H p = none → Q (.ref p) (upd H p (.lst (((vs.zip ds).mergeSort (pairLe false)).map Prod.fst)))
theorem cr_srtN {X : Cx} (hu : X.A.units + 64 < cLine) : CallR X (.builtin "sorted") (rSrtN X.K) := by
  intro pins s σ H xs us Q I r h
  obtain ⟨a, vs, ds, rfl, hs, hd, hn, hdp, q⟩ := h
  rw [Vals.ref1 r]
  have hl := dpa_len2 hd
  obtain ⟨its, rv, hL, hz⟩ := I.list hs
  refine sorted_near (bs := vs.zip ds) (enc := Prod.snd) hL.isList (each_rel rv hl) (each_reads I rv hd) (by rw [snd_zip hl]; exact hn) (by rw [List.length_zip]; omega) (fun b hb => ?_) fun out h1 h2 => srt_fin (b := false) I rv hz q hl out h1 h2
  have := hdp b.2 (List.of_mem_zip hb).2
  omega
section
variable {K : PySem.W.Frag} {W : Wd} {P : Sl → Prop} {s : Sl}
theorem srt_runN {ds : List D} (hs : LsOf s ds) (hn : AllNear ds) (hd : ∀ d ∈ ds, d.depth ≤ 40) (p : P (.dat (.list (srtD false ds)))) : CaS K W (rSrtN K) [s] P := fun F H xs o hx Q q => by
  cases hx with
  | cons e1 e2 =>
    cases e2
    obtain ⟨a, vs, rfl, a1, a2⟩ := hs.get o e1
    refine ⟨a, vs, ds, rfl, SqL.of a1, (dpa_mono o.sub a2).old, hn, hd, fun p' hp => ?_⟩
    obtain ⟨o2, st2⟩ := o.new (u := .lst (((vs.zip ds).mergeSort (pairLe false)).map Prod.fst)) hp
    have e : ((vs.zip ds).mergeSort (pairLe false)).map Prod.snd = srtD false ds := by
      unfold srtD
      rw [sort_maps (r := pairLe false) (s := dataLe false fun d => d) Prod.snd (fun _ _ _ _ => rfl), snd_zip (dpa_len a2)]
    refine q _ _ _ (.dat (.list (srtD false ds))) o2 st2 (.lst upd_same ?_) p
    rw [← e]
    exact dpa_of_zip fun z hz => dp_mono st2.fz (dpa_zip_mem a2 z (List.mem_mergeSort.mp hz))
end
end DL

namespace DL
open PySem L2 RZ PySem.Spec PyProof.Rows PySem.W
/-! ### max of a tuple of ints -/
def rMaxTu (K : PySem.W.Frag) : List V → Hp → VK → Prop := fun vs H Q => ∃ (p : Addr) (ns : List Int), vs = [.ref p] ∧ ns ≠ [] ∧ SqT K H p (ns.map V.int) ∧ ∀ m, m ∈ ns → (∀ y ∈ ns, y ≤ m) → Q (.int m) H
theorem cr_maxTu {X : Cx} (hc : X.calm = true) (hu : X.A.units + 64 < cLine) : CallR X (.builtin "max") (rMaxTu X.K) := by
  intro pins s σ H xs us Q I r h
  obtain ⟨p, ns, rfl, hne, hq, h1⟩ := h
  obtain rfl := Vals.ref1 r
  obtain ⟨its, rv, pt, _⟩ := I.tuple hq
  cases ns with
  | nil => exact absurd rfl hne
  | cons n ns =>
    have dep : PyData.depthAll ((n :: ns).map PyData.int) = 0 := depth_ints (n :: ns)
    refine max_tuple_data (vs := its.toArray) (x := .int n) (xs := ns.map PyData.int) (I.ok.hd hc) (show s.heap.IsTuple p its.toArray from pt) (int_reads (ints_of_vals rv)) (ints_alike (n :: ns)) (by rw [show PyData.depthAll (PyData.int n :: ns.map PyData.int) = 0 from dep]; omega) ?_
    intro i v h' tk bs _ rd k
    rw [maxD_ints] at rd
    cases rd
    obtain ⟨f1, f2⟩ := fold_max ns n
    exact ⟨.int _, H, I.kept (t' := tk) k, ⟨_, rfl⟩, h1 _ f1 f2⟩
/-! ### t * 0 -/
theorem tuple_mulN (l : Addr) (items : Array Value) (n : Nat) (dd : Option Addr) (sl : Array (Option Value)) (u : Tok) (hi : items.isEmpty = false) :
    Meets (Builtin.«tuple.__mul__» ⟨[.ref l, .int 0 u], []⟩) (fun _ R s => s.heap.get? l = some { cls := .type "tuple", dict := dd, data := .seq items n, slots := sl } ∧ R (.ok (.ret (.ref s.heap.objs.size))) { s with heap := s.heap.push { cls := .type "tuple", data := .seq #[] } }) :=
  .of_wp fun prog w A R s h => by
    obtain ⟨hp, g, d, tk, os⟩ := s
    obtain ⟨hl, h⟩ := h
    have f1 := AutoSeq1.idx_int
    have c0 : (decide ((0 : Int) < -(2 ^ 63)) || decide ((0 : Int) ≥ 2 ^ 63)) = false := by decide
    have c1 : (items.isEmpty || (0 : Int) == 1) = false := by rw [hi]; rfl
    have c2 : (decide ((0 : Int) ≤ 0) || items.isEmpty) = true := rfl
    wp_walk using wpAny_loadPart' hl
    repeat (first
      | (refine wpAny_ite_false (decide_eq_false (by rw [c0]; exact Bool.false_ne_true)) ?_; wp_walk using wpAny_loadPart' hl)
      | (refine wpAny_ite_false (by first | (rw [c1]; exact Bool.false_ne_true) | exact c1) ?_; wp_walk using wpAny_loadPart' hl)
      | (refine wpAny_ite_true (by first | exact c2 | rfl) ?_; wp_walk using wpAny_loadPart' hl))
    exact ⟨_, rfl, h⟩
def rRepN (K : PySem.W.Frag) : R2 := fun x y H Q => ∃ l xs, x = .ref l ∧ y = .int 0 ∧ xs ≠ [] ∧ SqT K H l xs ∧ ∀ p, H p = none → Q (.ref p) (upd H p (.tup []))
theorem op_repN {X : Cx} : OpR X (binaryOp .Mult) (rRepN X.K) := by
  intro pins s σ H x y v u Q I rx ry h
  obtain ⟨l, xs, rfl, rfl, hne, hT, q⟩ := h
  cases rx
  obtain ⟨t, rfl⟩ := ry
  obtain ⟨its, r, ⟨⟨cls, dd, data, sl⟩, ho, hc, n, hd⟩, hs⟩ := I.tuple hT
  simp only at hc hd
  subst hc hd
  have hi : its.toArray.isEmpty = false := by
    have := r.length
    cases its with
    | nil => exact absurd (List.eq_nil_of_length_eq_zero this) hne
    | cons a b => rfl
  refine wpAny_binaryOp_repeat_ref (T := "tuple") (U := "int") (by decide) ⟨_, ho, rfl⟩ (fun s' => typeIs_int s' 0 t) noFill_tuple_mul F.fills_int_mul F.slot_int_rmul repeat_tuple F.slot_int_index.lookup
    (call_meets F.slot_int_rmul (typeIs_int s 0 t) F.entry_int_rmul (F.args_int_rmul_2 _ _) (int_rmul_tuple 0 t l its.toArray n dd sl)
      ⟨ho, rfl, ⟨_, ho, rfl⟩, call_meets F.slot_tuple_mul ⟨_, ho, rfl⟩ F.entry_tuple_mul (F.args_tuple_mul_2 _ _) (tuple_mulN l its.toArray n dd sl t hi) ⟨ho, ?_⟩⟩)
  have hn : H s.heap.objs.size = none := I.hok.fresh (Nat.le_refl _)
  exact ⟨.ref s.heap.objs.size, upd H s.heap.objs.size (.tup []), I.laid (o := .tup []) (t' := s.toks) (fun _ _ e => Heap.get?_push_of_some _ e) (Nat.le_refl _) ⟨Nat.zero_le _, [], .nil, ⟨_, Heap.get?_push_size _ rfl, rfl, 0, rfl⟩⟩, rfl, q _ hn⟩
def rMul7 (K : PySem.W.Frag) : R2 := fun x y H Q => rMul6 K x y H Q ∨ rRepN K x y H Q
theorem opMul7 {X : Cx} : OpR X (binaryOp .Mult) (rMul7 X.K) := opMul6.or op_repN
section
variable {K : PySem.W.Frag} {W : Wd} {H0 F0 : Hp} {ρ : Rho} {P : Sl → Prop} {N : Ends2}
/-- a tuple with an item times a number -/
theorem ops_rep7 {ds : List D} {k : Nat} (h0 : ds ≠ []) (h2 : k ≤ 1000) (h3 : ds.length ≤ 1000) (p : P (.dat (.tuple (List.replicate k ds).flatten))) : OpS K W (rMul7 K) (.dat (.tuple ds)) (.dat (.int (k : Int))) P := by
  by_cases e : k = 0
  · subst e
    refine OpS.inr fun F H x y o hx hy Q q => ?_
    obtain ⟨a, xs, rfl, a1, a2⟩ := dp_tup hx
    rw [vok_int hy]
    refine ⟨a, xs, rfl, rfl, fun z => h0 ?_, Or.inl (rd_mono o.sub a1), fun p' hp => ?_⟩
    · subst z
      cases a2
      rfl
    · obtain ⟨o2, st2⟩ := o.new (u := .tup []) hp
      exact q _ _ _ (.dat (.tuple [])) o2 st2 (.tup (.inl upd_same) .nil) p
  · exact OpS.inl (ops_rep6 (by omega) (by omega) h3 (by rw [Int.toNat_natCast]; exact p))
theorem cas_maxTu {ns : List Int} (hne : ns ≠ []) (p : ∀ m, m ∈ ns → (∀ y ∈ ns, y ≤ m) → P (.dat (.int m))) : CaS K W (rMaxTu K) [.dat (.tuple (ns.map .int))] P := fun F H xs o hx Q q => by
  cases hx with
  | cons h1 h2 =>
    cases h2
    obtain ⟨a, vs, rfl, a1, a2⟩ := dp_tup h1
    rw [dpa_ints' a2] at a1
    exact ⟨a, ns, rfl, hne, Or.inl (rd_mono o.sub a1), fun m h h' => q (.int m) F H (.dat (.int m)) o (Step.refl o) (.int _) (p m h h')⟩
/-- xs.remove(e), xs one's own list of ints, e there -/
theorem ints_era (ns : List Int) (k : Int) (h : k ∈ ns) : ∃ j, ns[j]? = some k ∧ (∀ m : Nat, m < j → ns[m]? ≠ some k) ∧ ns.eraseIdx j = ns.erase k := by
  induction ns with
  | nil => exact absurd h (by simp)
  | cons a r ih =>
    by_cases e : a = k
    · subst e
      exact ⟨0, rfl, fun m hm => absurd hm (Nat.not_lt_zero _), by simp⟩
    · obtain ⟨j, h1, h2, h3⟩ := ih ((List.mem_cons.mp h).resolve_left fun z => e z.symm)
      refine ⟨j + 1, h1, fun m hm => ?_, ?_⟩
      · cases m with
        | zero => simpa using e
        | succ m => exact h2 m (by omega)
      · rw [List.eraseIdx_cons_succ, h3, List.erase_cons_tail (by simpa using e)]
theorem sx_rem {i : Nat} {ns : List Int} {te : TE} (hi : ρ[i]? = some (.ls (ns.map .int))) (h : Ev K W H0 te ρ fun s => ∃ k : Int, s = .dat (.int k) ∧ k ∈ ns ∧ N.nx (ρ.set i (.ls ((ns.erase k).map .int)))) :
    Sx K W H0 F0 (tDrop (tBM K "list" rRemI (tVar i) (tCons te tNil))) ρ N := fun σ F H a D n r b c => by
  obtain ⟨p, vs, g1, g2, g3, g4, g5, g6⟩ := a.ho.at_ i _ hi
  refine ⟨.ref p, g1, .inl ⟨rfl, _, SqL.of g2⟩, ?_⟩
  refine h σ F H a.ok a.ho _ fun v F' H' s o' st hv ⟨k, e, hk, kk⟩ => ?_
  subst e
  have u2 := st.kp p _ g4 g2
  have u3 := st.nw p g3 (by rw [g2]; exact fun z => nomatch z)
  obtain ⟨j, j1, j2, j3⟩ := ints_era ns k hk
  rw [vok_int hv]
  rw [dpa_ints' g6] at u2
  refine ⟨p, ns, k, j, rfl, rfl, u2, j1, j2, ?_⟩
  have a' := a.step o' st
  rw [j3]
  have o2 : Ok W F' (upd H' p (.lst ((ns.erase k).map V.int))) := o'.mut u2 g4 u3
  refine n σ F' _ _ ⟨o2, ⟨a'.st.fz, fun b' u hz e' => ?_, fun b' hf hh => ?_⟩, a'.ho.mut hi g1 (ints_dpa _)⟩ st.fz kk
  · have q : b' ≠ p := fun z => by rw [z, g5] at e'; cases e'
    rw [upd_ne q]
    exact a'.st.kp b' u hz e'
  · exact a'.st.nw b' hf hh
end
section
variable {X : Cx} {k n : Nat} {f : Addr} {fd : FuncData} {ps ks : List Str} {sp : Sp} {x : Str} {p pos : Pos} {e : Expr} {es : List Expr} {kws : List Keyword} {t tk : TA} {W : WX}
/-- a def that may raise, called by places and keywords -/
theorem pe_fnXKn {gV : List V → List V → List V} (C : FnXK X.prog X.w X.K X.mg X.base x k ps sp n ks gV) (tk' : Takes X W) (hgd : X.A.guards = some []) (hr : Room k X.A) (hg : Gl X x) (ha : PA X (e :: es) t) (hkw : PK X kws tk)
    (hall : (backToKw pos (keywordEach kws X.env)).all (·.1.isSome) = true := by rfl) (hks : (backToKw pos (keywordEach kws X.env)).filterMap (·.1) = ks := by rfl) (hdb : (x == ("__debug__" : Str)) = false := by decide)
    (he : starEach (e :: es) X.env = (false, eval e X.env) :: starEach es X.env := by rfl) (hpl : ((backTo pos (starEach (e :: es) X.env)).any (·.1) || (backToKw pos (keywordEach kws X.env)).any (·.1.isNone)) = false := by rfl) :
    PE X (.Call (.Name x p) (e :: es) kws pos) (tFnXK n ks.length sp gV (WE W) t tk) := by
  obtain ⟨f, fd, g, F, hm, hk, hb⟩ := C.ex
  refine ⟨fun pins s σ H Q I h => wpAny_Call_Name_kw (ld_glob I hg hm ?_ hdb)⟩
  refine PySem.W.callWith_KW (h₀ := X.base) I.ok.mod.kin hk hall (thn (ha.run pos pins s σ H _ I h) ?_) hpl he
  rintro us s1 ⟨vs, H1, I1, r, q⟩
  refine thn (hkw.run pos pins s1 σ H1 _ I1 q) ?_
  rintro ws s2 ⟨zs, H2, I2, rz, l1, l2, q2⟩
  refine ⟨I2.kIn, ?_⟩
  rw [hks]
  exact run_GX (args := ⟨us, ks.zip ws⟩) F hgd hr I2 (hb.to s2 us ws I2.kIn (r.length.symm.trans l1) (rz.length.symm.trans l2)) (hb.rel r rz) q2 (passAt tk' σ)
end
section
variable {K : PySem.W.Frag} {W : Wd} {H0 : Hp} {ρ : Rho} {t tk : TA} {n : Nat} {Pre : Wd → Rho → Prop} {Post : Wd → Rho → Sl → Prop} {PE : Wd → Rho → Addr → List (Str × D) → Prop}
theorem pair_app {α β : Type} {R : α → β → Prop} : ∀ {as cs : List α} {bs ds : List β}, Paired R as bs → Paired R cs ds → Paired R (as ++ cs) (bs ++ ds)
  | _, _, _, _, .nil, h => h
  | _, _, _, _, .cons a t, h => .cons a (pair_app t h)
/-- .. that doesn't raise here -/
theorem ev_fnXKN {P : Sl → Prop} {m l : Nat} (h : EvA K W H0 t ρ fun ss => EvA K W H0 tk ρ fun rs => ss.length = m ∧ rs.length = l ∧ (∀ s ∈ ss ++ rs, NoLs s) ∧ (ss ++ rs).length = n ∧ Pre W (ss ++ rs) ∧ (∀ s, Post W (ss ++ rs) s → P s) ∧ ∀ C fs, ¬ PE W (ss ++ rs) C fs) :
    Ev K W H0 (tFnXK m l (PmX K n Pre Post PE) (fun vs zs => vs ++ zs) (WE fun _ _ _ _ => False) t tk) ρ P := fun σ F H o ho Q q =>
  evx_fnK (R := fun _ _ => False) (fun ss rs => ss ++ rs) (fun h1 h2 _ _ => pair_app h1 h2) h σ F H o ho Q (fun _ _ _ _ => False) q fun _ _ _ _ _ _ _ _ r => r
end
end DL

namespace DL
open PySem L2 RZ PySem.Spec PyProof.Rows
/-! ### dicts whose keys are tuples: the very tuples are told -/
abbrev KAV := List (List Key × Addr × V)
def ThreeR (p : List Key × Addr × V) (q : List Key × Addr × Value) : Prop := p.1 = q.1 ∧ p.2.1 = q.2.1 ∧ RelV p.2.2 q.2.2
def DicAtH (P : Program) (w : World) (a : Addr) (kvs : KAV) (h : Heap) : Prop := (a == sysModules) = false ∧ kvs.length ≤ sizeLine ∧ ∃ xs, Paired ThreeR kvs xs ∧
  ∃ o es ep, h.get? a = some o ∧ o.ExactDict ∧ o.data = .dict es ep ∧ es.toList = xs.map (entryOfKey (tupleKind (mixKind P w))) ∧ (xs.map (·.1)).Nodup
/-- the dict at a: each key, the tuple that it is, the value -/
def DicO (P : Program) (w : World) (a : Addr) (kvs : KAV) : HO := .ext fun h => DicAtH P w a kvs h
theorem dico_ok {P : Program} {w : World} {H : Hp} {h : Heap} {a : Addr} {kvs : KAV} (x : DicAtH P w a kvs h) : ObjOk P w H h a (DicO P w a kvs) := by
  obtain ⟨_, _, xs, _, o, _, _, g, _⟩ := id x
  refine ⟨x, ⟨o, g⟩, fun h1 h2 y k => ?_⟩
  obtain ⟨c1, c2, ys, pr, o', es, ep, g', rest⟩ := y
  exact ⟨c1, c2, ys, pr, o', es, ep, k o' g', rest⟩
theorem dico_empty {P : Program} {w : World} (h : Heap) (hb : sysModules < h.objs.size) : DicAtH P w h.objs.size [] (h.push { cls := .type "dict", data := .dict #[] }) :=
  ⟨beq_eq_false_iff_ne.mpr (Nat.ne_of_gt hb), Nat.zero_le _, [], .nil, _, #[], 0, Heap.get?_push_size _ rfl, ⟨rfl, rfl, rfl⟩, rfl, rfl, List.nodup_nil⟩
theorem paired_snoc {α β : Type} {R : α → β → Prop} {a : α} {b : β} : ∀ {as : List α} {bs : List β}, Paired R as bs → R a b → Paired R (as ++ [a]) (bs ++ [b])
  | _, _, .nil, h => .cons h .nil
  | _, _, .cons x t, h => .cons x (paired_snoc t h)
theorem three_keys : ∀ {kvs : KAV} {xs : List (List Key × Addr × Value)}, Paired ThreeR kvs xs → xs.map (·.1) = kvs.map (·.1)
  | _, _, .nil => rfl
  | _, _, .cons h t => by rw [List.map_cons, List.map_cons, three_keys t, h.1]
/-- the tuples of the keys stand -/
def KeysIn (H : Hp) (kvs : KAV) : Prop := ∀ x ∈ kvs, Rd H x.2.1 (.tup (x.1.map kV))
theorem key_rd {P : Program} {w : World} {H : Hp} {h : Heap} {a : Addr} {ks : List Key} (ok : HOk P w H h) (e : Rd H a (.tup (ks.map kV))) : (tupleKind (mixKind P w)).is h ks a := by
  obtain ⟨_, us, ru, ob, q1, q2, m, q3⟩ := (show ObjOk P w H h a (.tup (ks.map kV)) from e.ok ok)
  exact ⟨ob, us.toArray, m, q1, q2, q3, by simpa using items_are ru⟩
theorem three_is {P : Program} {w : World} {H : Hp} {h : Heap} (ok : HOk P w H h) : ∀ {kvs : KAV} {xs : List (List Key × Addr × Value)}, Paired ThreeR kvs xs → KeysIn H kvs → ∀ x ∈ xs, (tupleKind (mixKind P w)).is h x.1 x.2.1
  | _, _, .nil, _, x, hx => nomatch hx
  | _, _, .cons h t, hk, x, hx => by
    rcases List.mem_cons.mp hx with rfl | hx
    · rw [← h.1, ← h.2.1]
      exact key_rd ok (hk _ List.mem_cons_self)
    · exact three_is ok t (fun y m => hk y (List.mem_cons_of_mem _ m)) x hx
/-- d[t] = v within a comprehension, t a tuple that is no key yet -/
theorem dt_put {X : Cx} {pins : List (Addr × Obj)} {σ : L2.St} {H : Hp} {s : Shared} {E : Value → Shared → Prop} {D b : Addr} {kvs : KAV} {k : List Key} {v : V} {r : Value} {Q : Unit → Shared → Prop}
    (hu : X.A.units + 64 < cLine) (I : Inv X pins σ H s) (hD : H D = some (DicO X.prog X.w D kvs)) (hin : KeysIn H kvs) (hb : Rd H b (.tup (k.map kV))) (hk : k ∉ kvs.map (·.1)) (hz : kvs.length < sizeLine) (rv : RelV v r)
    (h : ∀ s', Inv X pins σ (upd H D (DicO X.prog X.w D (kvs ++ [(k, b, v)]))) s' → Q () s') : wpAny (model X.prog X.w) X.A (dictSet D (.ref b) r) Q E s := by
  obtain ⟨⟨nsm, z, xs, rel, o, es, ep, g1, g2, g3, g4, g5⟩, _⟩ := I.hok D _ hD
  have l1 : xs.length ≤ sizeLine := (Paired.length rel) ▸ z
  have room : (tupleKind (mixKind X.prog X.w)).room X.A := show X.A.units < cLine by omega
  refine wpAny_dictSet_heap (hsz := l1) room (key_rd I.hok hb) ⟨o, es, ep, g1, g2, g3, g4, three_is I.hok rel hin, g5⟩ fun h2 d2 sb => h _ ?_
  obtain ⟨q, es2, ep2, f1, f2, f3, f4, _, f5⟩ := d2
  have mu : Mut (H D) := hD ▸ True.intro
  refine d_write I mu sb ⟨q, f1⟩ (dico_ok ⟨nsm, ?_, _, ?_, q, es2, ep2, f1, f2, f3, f4, f5⟩)
  · rw [List.length_append, List.length_singleton]
    exact hz
  · have no : atKey xs k = none := atKey_none_of_get fun j p e => hk (by
      rw [← three_keys rel]
      exact List.mem_map.mpr ⟨_, List.mem_of_getElem? e, rfl⟩)
    rw [storedH_new no]
    exact paired_snoc rel ⟨rfl, rfl, rv⟩
def tDcT (P : Program) (w : World) (wi : TI) (g : TG) (tt : TT) (tk tv : TE) (vs : List Nat) : TE := fun σ H Q => wi σ H fun J H1 => ∀ D, H1 D = none →
  ∃ W : Nat → Nat → Hp → Prop, (∃ m, W 0 m (upd H1 D (DicO P w D []))) ∧ ∀ i m H, W i m H → (J.stop i H ∧ Q (.ref D) H) ∨
    (J.go i H ∧ ∃ Nx : Hp → Prop, (∀ H', Nx H' → ∃ m', m' < m ∧ W (i + 1) m' H') ∧ ∀ x H', J.yld i H x H' → g x (wipe σ vs) H' fun σ2 H2 => wipe σ2 vs = wipe σ vs ∧ tt σ2 H2 fun c H3 =>
      if c = true then tk σ2 H3 fun y H4 => tv σ2 H4 fun z H5 => ∃ kvs k b, y = .ref b ∧ H5 D = some (DicO P w D kvs) ∧ KeysIn H5 kvs ∧ Rd H5 b (.tup (k.map kV)) ∧ k ∉ kvs.map (·.1) ∧ kvs.length < sizeLine ∧ Nx (upd H5 D (DicO P w D (kvs ++ [(k, b, z)]))) else Nx H3)
section
variable {X : Cx}
theorem pe_dcT {kx vx tg iter : Expr} {ifs : List Expr} {scope : Scope} {own : List (Str × Nat)} {pos : Pos} {wi : TI} {g : TG} {tt : TT} {tk tv : TE} {P : Program} {w : World} (hc : X.calm = true) (hu : X.A.units + 64 < cLine) (nd : X.N.Nodup) (pi : PI X tg iter wi)
    (ok : BlkOk X.N X.env.scope scope own) (eP : X.prog = P) (eW : X.w = w)
    (kg : ∀ s H C cl fp, PG (X.blk s H scope (compEnvC scope cl C X.env) fp) tg g)
    (kt : ∀ s H C cl fp, PTs (X.blk s H scope (compEnvC scope cl C X.env) fp) ifs tt)
    (kk : ∀ s H C cl fp, PE (X.blk s H scope (compEnvC scope cl C X.env) fp) kx tk)
    (kv : ∀ s H C cl fp, PE (X.blk s H scope (compEnvC scope cl C X.env) fp) vx tv)
    (nf : ∀ x, foldedSetIterable iter X.env x = pure x := by intro _; rfl) : PE X (.DictComp kx vx [⟨tg, iter, ifs, 0⟩] scope pos) (tDcT P w wi g tt tk tv (own.map (·.2))) := by
  subst eP eW
  refine ⟨fun pins s σ H Q I hw => ?_⟩
  rw [arm_eval_DictComp]
  have cells : ∀ y ∈ scope.names, y.2 = .free → ∃ c, X.env.cells.lookup y.1 = some c := fun y hy e => (ok.free y hy e).elim (fun k => I.ok.has _ (.inl k)) fun k => I.ok.has _ (.inr k)
  refine wpAny_comprehension_free (use := none) rfl nf (closure_ok cells) ok.kind (fun y hy e => by rw [ok.uniq y hy, e]) (thn (pi.run pins s σ H _ I hw) ?_)
  refine fun xv s1 hx => thn hx ?_
  rintro itv s2 ⟨ia, fp, tn, J, H2, rfl, I2, T, st2, f2, q⟩
  refine wpAny_newObj_type (newEnv_comp ?_)
  generalize eD : s2.heap.objs.size = D
  have freeD : H2 D = none := I2.hok.fresh (Nat.le_of_eq eD)
  obtain ⟨W, ⟨m0, w0⟩, turn⟩ := q D freeD
  generalize es3 : ({ s2 with heap := s2.heap.push { cls := .type "dict", data := .dict #[] } } : Shared) = s3
  have hp3 : s3.heap = s2.heap.push { cls := .type "dict", data := .dict #[] } := by rw [← es3]
  have I3 : Inv X pins σ (upd H2 D (DicO X.prog X.w D [])) s3 := by
    rw [← es3, ← eD]
    exact I2.laid (o := DicO X.prog X.w s2.heap.objs.size []) (t' := s2.toks) (fun b u => Heap.get?_push_of_some _) (Nat.le_refl _) (dico_ok (dico_empty s2.heap I2.big))
  have low : ∀ b ∈ fp, b < s2.heap.objs.size := fun b hb => (T.obj _ _ st2 b hb).elim fun o e => Heap.lt_size e.1
  have f3 : ∀ b ∈ fp, FpOk X pins (upd H2 D (DicO X.prog X.w D [])) b ∧ b < s3.heap.objs.size := fun b hb => by
    have lt := low b hb
    have ne : b ≠ D := eD ▸ Nat.ne_of_lt lt
    refine ⟨⟨?_, (f2 b hb).2⟩, ?_⟩
    · rw [upd_ne ne]
      exact (f2 b hb).1
    · rw [hp3, Heap.size_push]
      exact Nat.lt_succ_of_lt lt
  have st3 : tn 0 s3.heap := T.keep _ _ _ st2 fun b _ u e => hp3 ▸ Heap.get?_push_of_some _ e
  have I4 := block_start I3 ok nd f3
  have pg := kg s3 (upd H2 D (DicO X.prog X.w D [])) s3.heap.objs.size (cellsFrom (s3.heap.objs.size + 1) scope.names (cloFrom X.env.cells scope.names [])) fp
  have pt := kt s3 (upd H2 D (DicO X.prog X.w D [])) s3.heap.objs.size (cellsFrom (s3.heap.objs.size + 1) scope.names (cloFrom X.env.cells scope.names [])) fp
  have pk := kk s3 (upd H2 D (DicO X.prog X.w D [])) s3.heap.objs.size (cellsFrom (s3.heap.objs.size + 1) scope.names (cloFrom X.env.cells scope.names [])) fp
  have pv := kv s3 (upd H2 D (DicO X.prog X.w D [])) s3.heap.objs.size (cellsFrom (s3.heap.objs.size + 1) scope.names (cloFrom X.env.cells scope.names [])) fp
  show codeAny _ _ (.compStart (.DictComp kx vx [⟨tg, iter, ifs, 0⟩] scope pos) 0 (.ref ia) (.ref D) (compEnvC scope (cellsFrom (s3.heap.objs.size + 1) scope.names (cloFrom X.env.cells scope.names [])) s3.heap.objs.size X.env))
    (compPost (model X.prog X.w) X.A X.xe none _ (.ref D) s3.heap.objs.size) { s3 with heap := pushCells (s3.heap.push { cls := .type "dict", data := .dict #[] }) scope.names }
  have nofp : ∀ b ∈ fp, (upd H2 D (DicO X.prog X.w D [])) b = none := fun b hb => (f3 b hb).1.1
  generalize ece : compEnvC scope (cellsFrom (s3.heap.objs.size + 1) scope.names (cloFrom X.env.cells scope.names [])) s3.heap.objs.size X.env = ce at I4 pg pt pk pv ⊢
  have loc : ce.locals = s3.heap.objs.size := by
    rw [← ece]
    rfl
  generalize eH3 : upd H2 D (DicO X.prog X.w D []) = H3 at I3 I4 pg pt pk pv w0 nofp f3
  generalize es4 : ({ s3 with heap := pushCells (s3.heap.push { cls := .type "dict", data := .dict #[] }) scope.names } : Shared) = s4 at I4 ⊢
  have st4 : tn 0 s4.heap := T.keep _ _ _ st3 fun b _ u e => es4 ▸ pushCells_keeps _ _ _ _ (Heap.get?_push_of_some _ e)
  have fpo : ∀ {τ : L2.St} {G : Hp} {t : Shared}, Inv (X.blk s3 H3 scope ce fp) [] τ G t → (∀ b ∈ fp, G b = none) → ∀ b ∈ fp, FpOk (X.blk s3 H3 scope ce fp) [] G b := fun {τ G t} J' n b hb =>
    ⟨n b hb, (J'.ok.exf b hb).1, J'.ok.exfs b hb, .inl hb, fun x c e => (J'.ok.exf b hb).2 x c e, fun p hp => absurd (show p ∈ ([] : List (Addr × Obj)) ++ [] from hp) (by simp)⟩
  refine codeAny_compStart_dict ?loop (T.self X.A 0 _ _ _ st4 ?loop)
  all_goals
    refine compLoop_anyD (fun n t => ∃ i G, Inv (X.blk s3 H3 scope ce fp) [] (wipe σ (own.map (·.2))) G t ∧ tn i t.heap ∧ (∀ b ∈ fp, G b = none) ∧ W i n G) ?_ m0 ⟨0, H3, I4, st4, nofp, w0⟩
    rintro n s5 ⟨i, H5, I5, st5, n5, w5⟩
    rcases turn i n H5 w5 with ⟨stop, fin⟩ | ⟨go, Nx, hNx, step⟩
    · refine thnF (T.done (X.blk s3 H3 scope ce fp) rfl rfl rfl hc i [] s5 _ H5 (fun _ _ => False) I5 (fpo I5 n5) st5 stop) ?_
      rintro r s6 ⟨rfl, I6⟩
      have I7 : Inv X pins σ H5 s6 := I3.call' (ch := fp) I6.os I6.base I6.hok I6.bare fun b hb => ⟨(f3 b hb).1.2.2.2.1, (f3 b hb).1.2.1, (f3 b hb).1.2.2.2.2.1, (f3 b hb).1.2.2.2.2.2⟩
      have nC : H5 s3.heap.objs.size = none := loc ▸ (show H5 ce.locals = none from I6.free)
      obtain ⟨m, hn, _⟩ := I6.loc
      have hn : s6.heap.Ns s3.heap.objs.size m := loc ▸ (show s6.heap.Ns ce.locals m from hn)
      obtain ⟨e0, e1, e2, e3, e4, e5⟩ := I3.fpOk (Nat.le_refl _) nC
      exact ⟨m, hn, fun h2 sb => ⟨.ref D, H5, I7.turned (t' := s6.toks) (fun b o hb e => (sb.2 b hb).trans e) e0 e1 e3 e4 e5, rfl, fin⟩⟩
    · refine thnF (T.item (X.blk s3 H3 scope ce fp) rfl rfl rfl hc i [] s5 _ H5 (fun _ _ => False) I5 (fpo I5 n5) st5 go) ?_
      rintro r s6 ⟨u, rfl, h6⟩
      refine thnF h6 ?_
      rintro _ s7 ⟨x, H7, I7, r7, y7, st7, n7⟩
      have P7 := I7.pinned (fpo I7 n7) (T.obj _ _ st7)
      refine thnF (pg.run _ s7 _ H7 x u _ P7 r7 (step x H7 y7)) ?_
      rintro _ s8 ⟨σ8, H8, I8, hw8, q8⟩
      refine thnF (pt.run _ s8 σ8 H8 _ I8 q8) ?_
      rintro c s9 ⟨H9, I9, q9⟩
      have next : ∀ {t : Shared} {G : Hp}, Inv (X.blk s3 H3 scope ce fp) ([] ++ pinsAt fp s7.heap) σ8 G t → Nx G → ∃ m, m < n ∧ ∃ i G, Inv (X.blk s3 H3 scope ce fp) [] (wipe σ (own.map (·.2))) G t ∧ tn i t.heap ∧ (∀ b ∈ fp, G b = none) ∧ W i m G := fun {t G} J' nx => by
        obtain ⟨m', hm, w'⟩ := hNx G nx
        have pins' : ∀ b ∈ fp, ∀ o, s7.heap.get? b = some o → t.heap.get? b = some o ∧ G b = none := fun b hb o e => by
          have z := J'.pin (b, o) (List.mem_append_right _ (List.mem_append_right _ (mem_pinsAt hb e)))
          exact ⟨z.1, z.2.1⟩
        have len : (wipe σ (own.map (·.2))).length = σ8.length := by rw [← hw8, wipe_length]
        refine ⟨m', hm, i + 1, G, (J'.unpinned (pins := [])).weak len (fun j v e => (wipe_some (hw8.symm ▸ e)).1), T.keep _ _ _ st7 fun b hb o e => (pins' b hb o e).1, fun b hb => ?_, w'⟩
        obtain ⟨o, e, _⟩ := T.obj _ _ st7 b hb
        exact (pins' b hb o e).2
      cases c with
      | false =>
        rw [if_neg Bool.false_ne_true] at q9
        exact next I9 q9
      | true =>
        rw [if_pos rfl] at q9
        refine thnF (pk.run _ s9 σ8 H9 _ I9 q9) ?_
        rintro z s10 ⟨yk, H10, I10, r10, q10⟩
        refine thnF (pv.run _ s10 σ8 H10 _ I10 q10) ?_
        rintro z2 s11 ⟨yv, H11, I11, r11, kvs, k, b, rfl, hD11, hin11, hb11, hk11, hz11, nx⟩
        obtain rfl : z = Value.ref b := r10
        exact dt_put (X := X.blk s3 H3 scope ce fp) (by exact hu) I11 hD11 hin11 hb11 hk11 hz11 r11 fun s12 I12 => next I12 nx
/-- what an expression gives is locked for good -/
def tLk (te : TE) : TE := fun σ H Q => te σ H fun v H1 => ∃ d u, v = .ref d ∧ H1 d = some u ∧ Mut (some u) ∧ ∀ od, Q v (upd H1 d (.frz od u))
theorem pe_lk {e : Expr} {te : TE} (h : PE X e te) : PE X e (tLk te) := by
  refine ⟨fun pins s σ H Q I hw => thn (h.run pins s σ H _ I hw) ?_⟩
  rintro v s1 ⟨x, H1, I1, r, d, u, rfl, hd, mu, q⟩
  obtain ⟨od, I2⟩ := I1.lock hd mu
  exact ⟨.ref d, _, I2, r, q od⟩
end
end DL

namespace DL
open PySem L2 RZ PySem.Spec PyProof.Rows
/-! ### d.items() of a dict with tuple keys, walked -/
def ItiT (P : Program) (w : World) (d : Addr) (o : Obj) (kvs : KAV) : It where
  go i H := H d = some (.frz o (DicO P w d kvs)) ∧ i < kvs.length
  yld i H x H' := ∃ T k v q, kvs[i]? = some (k, q, v) ∧ x = .ref T ∧ H T = none ∧ H' = upd H T (.tup [.ref q, v])
  stop i H := H d = some (.frz o (DicO P w d kvs)) ∧ kvs.length ≤ i
section
variable {P : Program} {w : World} {K : PySem.W.Frag} {d : Addr} {o : Obj} {es : Array DictEntry} {ep : Nat}
/-- a locked dict: its entries -/
theorem frz_rows {X : Cx} {pins : List (Addr × Obj)} {σ : L2.St} {H : Hp} {s : Shared} {kvs : KAV} (I : Inv X pins σ H s) (hod : o.data = .dict es ep) (h : H d = some (.frz o (DicO X.prog X.w d kvs))) :
    (d == sysModules) = false ∧ DT.Raw s.heap d es ep ∧ es.size = kvs.length ∧
      ∀ (i : Nat) (k : List Key) (q : Addr) (v : V), kvs[i]? = some (k, q, v) → ∃ en : DictEntry, es[i]? = some en ∧ en.key = .ref q ∧ RelV v en.val := by
  obtain ⟨g, ⟨nsm, z, xs, pr, o2, es2, ep2, g2, ex, dat, rows, _⟩, _⟩ := I.hok d _ h
  cases g.symm.trans g2
  cases dat.symm.trans hod
  refine ⟨nsm, ⟨o, g, ex, dat⟩, (size_of_entries rows).trans (Paired.length pr).symm, fun i k q v e => ?_⟩
  obtain ⟨b, hb, e1, e2, e3⟩ := paired_get pr e
  have en := entry_at rows i
  rw [hb] at en
  exact ⟨_, en, congrArg Value.ref e2.symm, e3⟩
theorem turn_itemsT {kvs : KAV} {elts : List Expr} {kk : Nat} {tpos : Pos} (it : Addr) (hod : o.data = .dict es ep) :
    Turn P w K (.Tuple elts kk tpos) (ItiT P w d o kvs) [it] it (fun i h => ∃ ok ov, IsItemIter h it d i kvs.length ep ok ov) := by
  refine ⟨List.mem_singleton.mpr rfl, fun i h st b hb => ?_, fun i h h' ⟨ok, ov, e⟩ k => ⟨ok, ov, k it (List.mem_singleton.mpr rfl) _ e⟩, ?_, ?_, fun A i s Q E ⟨_, _, e⟩ hw => PySem.W.kcp_self e hw⟩
  · obtain rfl := List.mem_singleton.mp hb
    obtain ⟨ok, ov, e⟩ := st
    exact ⟨_, e, fun v z => nomatch z⟩
  · rintro X rfl rfl rfl hc i pins s σ H E I hf ⟨ok, ov, he⟩ ⟨hd, hi⟩
    obtain ⟨nsm, raw, sz, ent⟩ := frz_rows I hod hd
    obtain ⟨⟨k, q, v⟩, hkv⟩ : ∃ p, kvs[i]? = some p := ⟨kvs[i], List.getElem?_eq_getElem hi⟩
    obtain ⟨en, en1, en2, rv⟩ := ent i k q v hkv
    have hi2 : i < es.size := sz ▸ hi
    have en3 : es[i] = en := Option.some.inj ((Array.getElem?_eq_getElem hi2).symm.trans en1)
    have lt : it < s.heap.objs.size := Heap.lt_size he
    rw [← sz] at he
    refine DT.nextI he raw hi2 fun h1 out tup _ keep => ?_
    rw [en3] at out tup
    refine ⟨_, rfl, wpAny_letOwnedTupleGo_items (s := { s with heap := h1 }) out fun h2 fin sb => ?_⟩
    have t2 : h2.get? s.heap.objs.size = some { cls := .type "tuple", data := .seq #[en.key, en.val] } := (sb.2 _ (Nat.ne_of_gt lt)).trans tup
    have nw : ObjOk X.prog X.w (upd H s.heap.objs.size (.tup [.ref q, v])) h2 s.heap.objs.size (.tup [.ref q, v]) :=
      ⟨by show 2 ≤ sizeLine; decide, [en.key, en.val], .cons en2 (.cons rv .nil), ⟨_, t2, rfl, _, rfl⟩⟩
    have J : Inv X pins σ (upd H s.heap.objs.size (.tup [.ref q, v])) { s with heap := h2 } :=
      I.turnedNew (t' := s.toks) (ch := [it]) (fun b u hb e => (sb.2 b (by simpa using hb)).trans (keep b u (by simpa using hb) e)) hf (Nat.le_refl _) nw
    refine ⟨.ref s.heap.objs.size, _, J, rfl, ⟨_, k, v, q, hkv, rfl, I.hok.fresh (Nat.le_refl _), rfl⟩, ⟨en.key, en.val, sz ▸ fin⟩, fun b hb => ?_⟩
    obtain rfl := List.mem_singleton.mp hb
    rw [upd_ne (Nat.ne_of_lt lt)]
    exact (hf b hb).1
  · rintro X rfl rfl rfl hc i pins s σ H E I hf ⟨ok, ov, he⟩ ⟨hd, hi⟩
    obtain ⟨f0, f1, f2, f3, f4, f5⟩ := hf it (List.mem_singleton.mpr rfl)
    obtain ⟨nsm, raw, sz, ent⟩ := frz_rows I hod hd
    rw [← sz] at he hi
    exact DT.endI (I.ok.hd hc) he raw hi fun h1 xb => ⟨rfl, I.turned (t' := s.toks) (fun b u hb e => xb b u hb e) f0 f1 f3 f4 f5⟩
end
def iItemsT (P : Program) (w : World) (td : TE) : TI := fun σ H R => td σ H fun x H1 => ∃ d o kvs, x = .ref d ∧ H1 d = some (.frz o (DicO P w d kvs)) ∧ R (ItiT P w d o kvs) H1
section
variable {X : Cx}
theorem pi_itemsT {P : Program} {w : World} {e : Expr} {td : TE} {apos cpos tpos : Pos} {elts : List Expr} {kk : Nat} (eP : X.prog = P) (eW : X.w = w) (he : PE X e td) (hb : attributeBase e "items" X.env (eval e X.env) = eval e X.env := by rfl) (hl : (apos.endLine == cpos.line) = true := by rfl) :
    PI X (.Tuple elts kk tpos) (.Call (.Attribute e "items" apos) [] [] cpos) (iItemsT P w td) := by
  subst eP eW
  refine ⟨fun pins s σ H R I hw => ?_⟩
  refine wpAny_Call_method (T := "dict") (id := "dict.items") hb rfl hl F.plainAttrs_dict F.slot_dict_items F.type_dict_items (thn (he.run pins s σ H _ I hw) ?_)
  rintro u s1 ⟨x, H1, I1, rx, d, o, kvs, rfl, hd, q⟩
  obtain rfl : u = Value.ref d := rx
  obtain ⟨g, ⟨_, _, _, _, o2, es, ep, g2, _, dat, _⟩, _⟩ := id (I1.hok d _ hd)
  cases g.symm.trans g2
  obtain ⟨nsm, raw, sz, _⟩ := frz_rows I1 dat hd
  obtain ⟨o3, g3, ex3, dat3⟩ := id raw
  refine ⟨raw.typeIs, fun b e => by cases e; exact ⟨o3, g3, ex3.2.1⟩, ?_⟩
  have I2 : Inv X pins σ H1 { s1 with heap := s1.heap.push { cls := .type "dict_items", data := .fields #[.ref d] } } := I1.kept (t' := s1.toks) fun b u => Heap.get?_push_of_some _
  have fin : wpAny (model X.prog X.w) X.A (pyIter (.ref s1.heap.objs.size)) (PIE X pins σ (.Tuple elts kk tpos) R) X.xe { s1 with heap := s1.heap.push { cls := .type "dict_items", data := .fields #[.ref d] } } := by
    refine DT.iterI ⟨_, Heap.get?_push_size _ rfl, rfl, rfl⟩ (raw.push _) (pi_one (tk := s1.toks) I2 _ (turn_itemsT _ dat) ⟨.none, .none, ?_⟩ q)
    rw [← sz]
    exact Heap.get?_push_size _ rfl
  show wpAny _ _ (callWith cpos (.builtin "dict.items") [.ref d] [] []) _ X.xe s1
  exact method_meetsIn F.slot_dict_items F.entry_dict_items rfl (PySem.evalArgs_none ⟨rfl, raw.typeIs, F.args_dict_items_1 _, _, DT.meetsItems nsm, ⟨raw, fin⟩⟩)
/-! ### d[t] -/
def tDGetO (P : Program) (w : World) (td ty : TE) : TE := fun σ H Q => td σ H fun x H1 => ty σ H1 fun y H2 => ∃ (a : Addr) (kvs : KAV) (k : List Key) (b c : Addr) (v : V), x = .ref a ∧ Rd H2 a (DicO P w a kvs) ∧ KeysIn H2 kvs ∧ y = .ref b ∧ Rd H2 b (.tup (k.map kV)) ∧ (k, c, v) ∈ kvs ∧ Q v H2
theorem three_at {k : List Key} {c : Addr} {v : V} : ∀ {kvs : KAV} {xs : List (List Key × Addr × Value)}, Paired ThreeR kvs xs → (xs.map (·.1)).Nodup → (k, c, v) ∈ kvs → ∃ p, atKey xs k = some p ∧ RelV v p.2
  | _, _, .nil, _, m => nomatch m
  | _, _, .cons (a := a) (b := b) (l₁ := kvs) (l₂ := xs) h t, nd, m => by
    obtain ⟨n1, n2⟩ := List.nodup_cons.mp (show (b.1 :: xs.map (·.1)).Nodup from nd)
    rcases List.mem_cons.mp m with e | m
    · subst e
      have e1 : b.1 = k := h.1.symm
      refine ⟨b.2, ?_, h.2.2⟩
      simp [atKey, e1]
    · have ne : b.1 ≠ k := fun z => n1 (by
        rw [three_keys t, z]
        exact List.mem_map.mpr ⟨_, m, rfl⟩)
      obtain ⟨p, e, r⟩ := three_at t n2 m
      refine ⟨p, ?_, r⟩
      unfold atKey at e ⊢
      simp [ne, e]
theorem pe_dgetO {P : Program} {w : World} {o i : Expr} {pos : Pos} {td ty : TE} (eP : X.prog = P) (eW : X.w = w) (hu : X.A.units + 1 < cLine) (ho : PE X o td) (hi : PE X i ty) (ns : NoSl i) : PE X (.Subscript o i pos) (tDGetO P w td ty) := by
  subst eP eW
  refine ⟨fun pins s σ H Q I hw => ?_⟩
  refine subD_of F.slot_dict_getitem.lookup ns (thn (ho.run pins s σ H _ I hw) ?_)
  rintro u s1 ⟨x, H1, I1, rx, q1⟩
  refine thn (hi.run pins s1 σ H1 _ I1 q1) ?_
  rintro iv s2 ⟨y, H2, I2, ry, a, kvs, k, b, c, v, rfl, hd, hin, rfl, hb, hm, q2⟩
  obtain rfl : u = Value.ref a := rx
  obtain rfl : iv = Value.ref b := ry
  obtain ⟨⟨nsm, z, xs, rel, o', es, ep, g1, g2, g3, g4, g5⟩, _⟩ := (show ObjOk X.prog X.w H2 s2.heap a (DicO X.prog X.w a kvs) from hd.ok I2.hok)
  obtain ⟨p, e, r⟩ := three_at rel g5 hm
  have dd : s2.heap.DictOfH (tupleKind (mixKind X.prog X.w)) a xs := ⟨o', es, ep, g1, g2, g3, g4, three_is I2.hok rel hin, g5⟩
  exact ⟨⟨o', g1, g2.1⟩, wpAny_getItem_heap (tupleKind_room_in1 hu) (key_rd I2.hok hb) dd e ⟨v, H2, I2.tok _, r, q2⟩⟩
/-! ### dict(xs) of pairs, no key twice -/
def rDictO (P : Program) (w : World) (K : PySem.W.Frag) : List V → Hp → VK → Prop := fun xs H Q => ∃ (a : Addr) (ps : List Addr) (kvs : KAV), xs = [.ref a] ∧ SqL K H a (ps.map V.ref) ∧ Paired (fun p kv => SqT K H p [.ref kv.2.1, kv.2.2]) ps kvs ∧ KeysIn H kvs ∧ (kvs.map (·.1)).Nodup ∧
  ∀ p, H p = none → Q (.ref p) (upd H p (DicO P w p kvs))
theorem stored_self {K : Type} [DecidableEq K] : ∀ (ps acc : List (K × Addr × Value)), ((acc ++ ps).map (·.1)).Nodup → storedAllH acc ps = acc ++ ps
  | [], acc, _ => (List.append_nil acc).symm
  | p :: ps, acc, nd => by
    have no : atKey acc p.1 = none := atKey_none_of_get fun j q e => by
      have m : p.1 ∈ acc.map (·.1) := List.mem_map.mpr ⟨_, List.mem_of_getElem? e, rfl⟩
      rw [List.map_append, List.map_cons] at nd
      exact (List.nodup_append.mp nd).2.2 _ m _ List.mem_cons_self rfl
    have e : acc ++ p :: ps = (acc ++ [p]) ++ ps := by simp
    rw [e] at nd ⊢
    rw [← stored_self ps (acc ++ [p]) nd]
    show storedAllH (storedH acc p.1 p.2.1 p.2.2) ps = _
    rw [storedH_new no]
theorem three_of {pins : List (Addr × Obj)} {σ : L2.St} {H : Hp} {s : Shared} (I : Inv X pins σ H s) : ∀ {ps : List Addr} {kvs : KAV}, Paired (fun p kv => SqT X.K H p [.ref kv.2.1, kv.2.2]) ps kvs →
    ∃ xs : List (List Key × Addr × Value), Paired ThreeR kvs xs ∧ Paired (fun (p : Addr) (x : List Key × Addr × Value) => IsTup s.heap p #[.ref x.2.1, x.2.2]) ps xs
  | _, _, .nil => ⟨[], .nil, .nil⟩
  | _, _, .cons (a := p) (b := kv) h t => by
    obtain ⟨xs, r1, r2⟩ := three_of I t
    obtain ⟨its, rv, ht, _⟩ := I.tuple h
    obtain ⟨u, y, ei, ru, ry⟩ := vals2 rv
    subst ei
    cases (show u = Value.ref kv.2.1 from ru)
    exact ⟨(kv.1, kv.2.1, y) :: xs, .cons ⟨rfl, rfl, ry⟩ r1, .cons ht r2⟩
theorem cr_dictO {P : Program} {w : World} (eP : X.prog = P) (eW : X.w = w) (hc : X.calm = true) (hu : X.A.units + 64 < cLine) : CallR X (.type "dict") (rDictO P w X.K) := by
  subst eP eW
  intro pins s σ H xs us Q I r h
  obtain ⟨a, ps, kvs, rfl, hq, hp, hin, nd, q⟩ := h
  rw [Vals.ref1 r]
  obtain ⟨its, rv, ⟨o, n, ho, c1, c2, c3⟩, hz⟩ := I.list hq
  have ei := refs_at rv
  subst ei
  rw [List.length_map] at hz
  obtain ⟨xs, r1, r2⟩ := three_of I hp
  have l1 : kvs.length = xs.length := Paired.length r1
  have l2 : ps.length = xs.length := Paired.length r2
  have nd2 : (xs.map (·.1)).Nodup := by rw [three_keys r1]; exact nd
  have un : ∀ p ∈ ps, p < s.heap.objs.size := fun p m => by
    obtain ⟨j, hj⟩ := List.getElem?_of_mem m
    obtain ⟨x, _, ht⟩ := paired_get r2 hj
    exact ht.lt
  have pa := PairArg.list (prog := X.prog) (w := X.w) a (ps.map Value.ref).toArray (fun j => ps.getD j 0) (xs.map fun x => ((Value.ref x.2.1), x.2.2))
  have room : (tupleKind (mixKind X.prog X.w)).room X.A.in1.in1 := show X.A.units + 1 + 1 < cLine by omega
  refine call_dict_pairsH (knd := tupleKind (mixKind X.prog X.w)) (ps := xs) pa (I.ok.hd hc) room ⟨⟨o, n, ho, c1, c2, c3⟩, by simp [l2], fun j k v e => ?_⟩ ⟨by simp, fun i key v e => ?_⟩ ?_ (by rw [List.length_map]; omega) fun h' tk dd keep => ?_
  · rw [List.getElem?_map] at e
    rcases ex : xs[j]? with _ | x
    · rw [ex] at e
      cases e
    · rw [ex] at e
      cases e
      obtain ⟨hj, _⟩ := List.getElem?_eq_some_iff.mp ex
      have hj2 : j < ps.length := by omega
      have g := List.getElem?_eq_getElem hj2
      obtain ⟨x2, ex2, ht⟩ := paired_get r2 g
      rw [ex] at ex2
      cases ex2
      refine ⟨by simp [hj2], ?_⟩
      show PairAt s.heap (ps.getD j 0) _ _
      rw [show ps.getD j 0 = ps[j] by simp [hj2]]
      exact .inl ht
  · obtain ⟨e1, e2⟩ : i < xs.length ∧ (xs.map fun x => ((Value.ref x.2.1 : Value), x.2.2))[i]? = some (key, v) := ⟨by have := (List.getElem?_eq_some_iff.mp e).1; simpa using this, e⟩
    rw [List.getElem?_map, List.getElem?_eq_getElem e1] at e2
    cases e2
    exact ⟨_, _, List.getElem?_eq_getElem e1, rfl⟩
  · intro h' keep x m
    have q1 := three_is I.hok r1 hin x m
    obtain ⟨o1, its1, n1, g1, rest⟩ := q1
    have lt := Heap.lt_size g1
    exact ⟨o1, its1, n1, keep _ _ (Nat.ne_of_lt lt) (fun z => nomatch z) g1, rest⟩
  · have e0 : storedAllH [] xs = xs := by
      rw [stored_self xs [] (by simpa using nd2)]
      rfl
    rw [e0] at dd
    obtain ⟨o2, es, ep, g1, g2, g3, g4, _, g5⟩ := dd
    have hm : (s.heap.objs.size == sysModules) = false := beq_eq_false_iff_ne.mpr (Nat.ne_of_gt I.big)
    refine ⟨.ref s.heap.objs.size, upd H s.heap.objs.size (DicO X.prog X.w s.heap.objs.size kvs), I.laid (o := DicO X.prog X.w s.heap.objs.size kvs) (t' := tk) (fun b u e => keep b u (fun z => nomatch z) e) (Nat.le_refl _) (dico_ok ⟨hm, by omega, xs, r1, o2, es, ep, g1, g2, g3, g4, g5⟩), rfl, q _ (I.hok.fresh (Nat.le_refl _))⟩
end
end DL

namespace DL
open PySem L2 RZ PySem.Spec PyProof.Rows
/-! ### dicts with tuple keys, by data -/
def kd : Key → D
  | .inl i => .int i
  | .inr x => .str x
def kD (k : List Key) : D := .tuple (k.map kd)
theorem kd_v {K : PySem.W.Frag} {F : Hp} : ∀ {k : Key} {v : V}, Dp K F v (kd k) → v = kV k
  | .inl _, _, h => dp_int h
  | .inr _, _, h => dp_str h
theorem kds_v {K : PySem.W.Frag} {F : Hp} : ∀ {k : List Key} {vs : List V}, DpAll K F vs (k.map kd) → vs = k.map kV
  | [], _, .nil => rfl
  | x :: k, _, .cons h t => by rw [kd_v h, kds_v t]; rfl
theorem dp_key {K : PySem.W.Frag} {F : Hp} {v : V} {k : List Key} (h : Dp K F v (kD k)) : ∃ b, v = .ref b ∧ Rd F b (.tup (k.map kV)) := by
  obtain ⟨b, vs, rfl, e, d⟩ := dp_tup h
  rw [kds_v d] at e
  exact ⟨b, rfl, e⟩
theorem kd_dp {K : PySem.W.Frag} {F : Hp} : ∀ k : List Key, DpAll K F (k.map kV) (k.map kd)
  | [] => .nil
  | .inl i :: k => .cons (.int i) (kd_dp k)
  | .inr x :: k => .cons (.str x) (kd_dp k)
theorem key_dp {K : PySem.W.Frag} {F : Hp} {b : Addr} {k : List Key} (h : Rd F b (.tup (k.map kV))) : Dp K F (.ref b) (kD k) := .tup h (kd_dp k)
theorem code_dic {P : Program} {w : World} {a c : Addr} {kvs : KAV} {q : Str} : some (DicO P w a kvs) ≠ some (LamX.CodeO c q) := fun z => by
  have z := Option.some.inj z
  unfold DicO LamX.CodeO at z
  injection z with z
  have ob : ∃ h : Heap, h.get? c = some { cls := .none, data := .fields #[.none, .str q 0] } ∧ ∀ b o, h.get? b = some o → o.data = .fields #[.none, .str q 0] := by
    refine ⟨⟨Array.replicate (c + 1) { cls := .none, data := .fields #[.none, .str q 0] }, {}⟩, ?_, fun b o e => ?_⟩
    · simp [Heap.get?]
    · simp only [Heap.get?, Array.getElem?_replicate] at e
      split at e
      · cases e
      · rename_i h1 _
        split at e
        · have := Option.some.inj e
          rw [← this]
        · cases e
  obtain ⟨h, h1, h2⟩ := ob
  have yes : (fun h : Heap => ∃ (oc : Obj) (vs : Array Value) (t : Tok), h.get? c = some oc ∧ oc.data = .fields vs ∧ vs[1]? = some (.str q t)) h := ⟨_, _, 0, h1, rfl, rfl⟩
  rw [← z] at yes
  obtain ⟨_, _, _, _, o, es, ep, g, _, dat, _⟩ := yes
  rw [h2 _ _ g] at dat
  cases dat
theorem frz_code {o : Obj} {u : HO} {c : Addr} {q : Str} : some (HO.frz o u) ≠ some (LamX.CodeO c q) := fun z => by
  have z := Option.some.inj z
  unfold LamX.CodeO at z
  cases z
/-- what is known of the frozen part -/
def knW (W : Wd) (P : Hp → Prop) (m : ∀ F F', Same F F' → P F → P F') : Wd where
  Z := W.Z
  I := fun F H => W.I F H ∧ P F
  stab := fun F H F' H' h s k c => ⟨W.stab F H F' H' h.1 s k c, m F F' s h.2⟩
  back := fun F F' H0 H h h' => ⟨W.back F F' H0 H h.1 h'.1, h.2⟩
section
variable {K : PySem.W.Frag} {W : Wd} {H0 F0 : Hp} {ρ : Rho} {N : Ends2} {Pk : Hp → Prop} {m : ∀ F F', Same F F' → Pk F → Pk F'}
theorem kn_ok {F H : Hp} (o : Ok (knW W Pk m) F H) : Ok W F H := ⟨o.sub, o.z, o.inv.1⟩
theorem kn_up {F H : Hp} (o : Ok W F H) (p : Pk F) : Ok (knW W Pk m) F H := ⟨o.sub, o.z, o.inv, p⟩
theorem kn_st {F H F' H' : Hp} (s : Step (knW W Pk m) F H F' H') : Step W F H F' H' := ⟨s.fz, s.kp, s.nw⟩
theorem st_kn {F H F' H' : Hp} (s : Step W F H F' H') : Step (knW W Pk m) F H F' H' := ⟨s.fz, s.kp, s.nw⟩
theorem vok_kn {F H : Hp} {v : V} {s : Sl} : VOk K (knW W Pk m) F H v s ↔ VOk K W F H v s := by
  cases s <;> exact Iff.rfl
theorem slok_kn {F H : Hp} {σ : L2.St} {i : Nat} {s : Sl} : SlOk K (knW W Pk m) H0 σ F H i s ↔ SlOk K W H0 σ F H i s := by
  cases s <;> exact Iff.rfl
theorem holds_kn {F H : Hp} {σ : L2.St} : Holds K (knW W Pk m) H0 σ F H ρ ↔ Holds K W H0 σ F H ρ :=
  ⟨fun h => ⟨h.len, fun i s e => slok_kn.mp (h.at_ i s e), h.dis⟩, fun h => ⟨h.len, fun i s e => slok_kn.mpr (h.at_ i s e), h.dis⟩⟩
theorem at_kn {F H : Hp} {σ : L2.St} (a : At K (knW W Pk m) H0 F0 σ F H ρ) : At K W H0 F0 σ F H ρ := ⟨kn_ok a.ok, kn_st a.st, holds_kn.mp a.ho⟩
/-- the rest, where more is known -/
theorem sx_kn {t : TS} {σ : L2.St} {F H : Hp} {D : Ends} (a : At K W H0 F0 σ F H ρ) (p : Pk F) (h : Sx K (knW W Pk m) H0 F0 t ρ N)
    (n : ∀ σ' F' H' ρ', At K W H0 F0 σ' F' H' ρ' → Same F F' → N.nx ρ' → D.nx σ' H') (r : ∀ v F' H' s, Ok W F' H' → Step W F0 H0 F' H' → VOk K W F' H' v s → N.rt s → D.rt v H')
    (b : ∀ σ' F' H' ρ', At K W H0 F0 σ' F' H' ρ' → Same F F' → N.bk ρ' → D.bk σ' H') (c : ∀ σ' F' H' ρ', At K W H0 F0 σ' F' H' ρ' → Same F F' → N.ct ρ' → D.ct σ' H') : t D σ H :=
  h σ F H ⟨kn_up a.ok p, st_kn a.st, holds_kn.mpr a.ho⟩ D (fun σ' F' H' ρ' a' sm k => n σ' F' H' ρ' (at_kn a') sm k) (fun v F' H' s o st hv k => r v F' H' s (kn_ok o) (kn_st st) (vok_kn.mp hv) k)
    (fun σ' F' H' ρ' a' sm k => b σ' F' H' ρ' (at_kn a') sm k) fun σ' F' H' ρ' a' sm k => c σ' F' H' ρ' (at_kn a') sm k
end
/-- keys, values of the dict at a, by data -/
def KvR (K : PySem.W.Frag) (F : Hp) (p : List Key × Addr × V) (q : List Key × D) : Prop := p.1 = q.1 ∧ Rd F p.2.1 (.tup (p.1.map kV)) ∧ Dp K F p.2.2 q.2
def DicAt (K : PySem.W.Frag) (P : Program) (w : World) (a : Addr) (kvs : List (List Key × D)) (F : Hp) : Prop := ∃ od vs, F a = some (.frz od (DicO P w a vs)) ∧ Paired (KvR K F) vs kvs
theorem kvr_mono {K : PySem.W.Frag} {F F' : Hp} (s : Same F F') : ∀ {vs : KAV} {kvs : List (List Key × D)}, Paired (KvR K F) vs kvs → Paired (KvR K F') vs kvs
  | _, _, .nil => .nil
  | _, _, .cons h t => .cons ⟨h.1, rd_mono s h.2.1, dp_mono s h.2.2⟩ (kvr_mono s t)
theorem dic_mono {K : PySem.W.Frag} {P : Program} {w : World} {a : Addr} {kvs : List (List Key × D)} (F F' : Hp) (s : Same F F') (h : DicAt K P w a kvs F) : DicAt K P w a kvs F' := by
  obtain ⟨od, vs, e, r⟩ := h
  exact ⟨od, vs, s _ _ e, kvr_mono s r⟩
/-- the world in which the dict at a is so -/
abbrev dicW (K : PySem.W.Frag) (P : Program) (w : World) (W : Wd) (a : Addr) (kvs : List (List Key × D)) : Wd := knW W (DicAt K P w a kvs) dic_mono
theorem kvr_keys {K : PySem.W.Frag} {F : Hp} : ∀ {vs : KAV} {kvs : List (List Key × D)}, Paired (KvR K F) vs kvs → vs.map (·.1) = kvs.map (·.1)
  | _, _, .nil => rfl
  | _, _, .cons h t => by rw [List.map_cons, List.map_cons, kvr_keys t, h.1]
theorem kvr_in {K : PySem.W.Frag} {F H : Hp} (s : Same F H) : ∀ {vs : KAV} {kvs : List (List Key × D)}, Paired (KvR K F) vs kvs → KeysIn H vs
  | _, _, .nil => fun x m => nomatch m
  | _, _, .cons h t => fun x m => by
    rcases List.mem_cons.mp m with rfl | m
    · exact rd_mono s h.2.1
    · exact kvr_in s t x m
theorem kvr_at {K : PySem.W.Frag} {F : Hp} {i : Nat} {k : List Key} {q : Addr} {v : V} {vs : KAV} {kvs : List (List Key × D)} (h : Paired (KvR K F) vs kvs) (e : vs[i]? = some (k, q, v)) : ∃ d, kvs[i]? = some (k, d) ∧ Rd F q (.tup (k.map kV)) ∧ Dp K F v d := by
  obtain ⟨⟨k2, d⟩, e2, h1, h2, h3⟩ := paired_get h e
  cases h1
  exact ⟨d, e2, h2, h3⟩
theorem kvr_mem {K : PySem.W.Frag} {F : Hp} {k : List Key} {d : D} : ∀ {vs : KAV} {kvs : List (List Key × D)}, Paired (KvR K F) vs kvs → (k, d) ∈ kvs → ∃ c v, (k, c, v) ∈ vs ∧ Dp K F v d
  | _, _, .nil, m => nomatch m
  | _, _, .cons (a := p) h t, m => by
    rcases List.mem_cons.mp m with e | m
    · subst e
      obtain ⟨k0, c, v⟩ := p
      obtain rfl : k0 = k := h.1
      exact ⟨c, v, List.mem_cons_self, h.2.2⟩
    · obtain ⟨c, v, m2, r⟩ := kvr_mem t m
      exact ⟨c, v, List.mem_cons_of_mem _ m2, r⟩
section
variable {K : PySem.W.Frag} {W : Wd} {H0 F0 : Hp} {ρ : Rho} {N : Ends2} {Pg : Program} {w : World} {a : Addr} {kvs : List (List Key × D)} {P : Sl → Prop}
/-- d.items() -/
theorem evi_itemsO {td : TE} {PN : List D → Prop} (h : Ev K (dicW K Pg w W a kvs) H0 td ρ fun s => s = .rf (.ref a) ∧ PN (kvs.map fun p => .tuple [kD p.1, p.2])) : EvI K (dicW K Pg w W a kvs) H0 (iItemsT Pg w td) ρ PN := fun σ F H o ho R q =>
  h σ F H o ho _ fun v F1 H1 s o1 st1 hv ⟨es, p⟩ => by
    subst es
    obtain rfl : v = .ref a := hv
    obtain ⟨od, vs, e, r⟩ := o1.inv.2
    refine ⟨a, od, vs, rfl, o1.sub _ _ e, q _ F1 H1 _ o1 st1 ⟨(fun H => H a = some (.frz od (DicO Pg w a vs))), (ItiT Pg w a od vs).yld, ⟨fun i H hi g => ⟨g, ?_⟩, fun H g => ⟨g, ?_⟩, fun i H x H' hi g y => y⟩, fun F2 H2 o2 s2 => o2.sub _ _ (s2 _ _ e), fun i x F2 H2 H3 hi o2 s2 y => ?_⟩ p⟩
    · have := Paired.length r
      rw [List.length_map] at hi
      omega
    · have := Paired.length r
      rw [List.length_map]
      omega
    · obtain ⟨T, k, v, q0, e1, rfl, hT, rfl⟩ := y
      obtain ⟨d, e2, h1, h2⟩ := kvr_at r e1
      obtain ⟨o3, st3⟩ := o2.new (u := .tup [.ref q0, v]) hT
      have sm := s2.trans st3.fz
      exact ⟨_, .tuple [kD k, d], o3, st3, by rw [List.getElem?_map, e2]; rfl, .tup (.inl upd_same) (.cons (key_dp (rd_mono sm h1)) (.cons (dp_mono sm h2) .nil))⟩
/-- d[t] -/
theorem ev_dgetO {td ty : TE} (h : Ev K (dicW K Pg w W a kvs) H0 td ρ fun s => s = .rf (.ref a) ∧ Ev K (dicW K Pg w W a kvs) H0 ty ρ fun t => ∃ k d, t = .dat (kD k) ∧ (k, d) ∈ kvs ∧ P (.dat d)) : Ev K (dicW K Pg w W a kvs) H0 (tDGetO Pg w td ty) ρ P := fun σ F H o ho Q q =>
  h σ F H o ho _ fun v F1 H1 s o1 st1 hv ⟨es, h2⟩ => by
    subst es
    obtain rfl : v = .ref a := hv
    refine h2 σ F1 H1 o1 (ho.step st1) _ fun u F2 H2 t o2 st2 hu ⟨k, d, et, hm, p⟩ => ?_
    subst et
    obtain ⟨od, vs, e, r⟩ := o2.inv.2
    obtain ⟨b, rfl, eb⟩ := dp_key hu
    obtain ⟨c, v, m2, dv⟩ := kvr_mem r hm
    exact ⟨a, vs, k, b, c, v, rfl, .inr ⟨od, o2.sub _ _ e⟩, kvr_in o2.sub r, rfl, rd_mono o2.sub eb, m2, q v F2 H2 (.dat d) o2 (st1.trans o1 st2) dv p⟩
end
section
variable {K : PySem.W.Frag} {W : Wd} {H0 F0 : Hp} {ρ : Rho} {N : Ends2} {Pg : Program} {w : World}
theorem Ok.mutD {F H : Hp} (o : Ok W F H) {p : Addr} {u u' : HO} (h : H p = some u) (hc : ∀ c q, some u ≠ some (LamX.CodeO c q)) (hz : ¬ W.Z p) (hf : F p = none) : Ok W F (upd H p u') := by
  have off : ∀ b, b ≠ p → upd H p u' b = H b := fun b n => upd_ne n
  refine ⟨fun b v e => ?_, fun b z => ?_, W.stab _ _ _ _ o.inv (Same.refl _) (fun b v z e => ?_) fun b c q e => ?_⟩
  · rw [off b (fun z => by rw [z, hf] at e; cases e)]
    exact o.sub b v e
  · rw [off b (fun y => hz (y ▸ z))]
    exact o.z b z
  · rw [off b (fun y => hz (y ▸ z))]
    exact e
  · rw [off b (fun y => hc c q (by rw [← h, ← y, e]))]
    exact e
/-- x = {k: v for ..}, tuple keys, no key twice; then the rest -/
theorem sx_dcO {i : Nat} {wi : TI} {g : TG} {vs : List Nat} {tk tv : TE} {rest : TS}
    (h : EvI K W H0 wi ρ fun ds => ds.length < sizeLine ∧ ∃ (f : D → List Key) (v : D → D), (ds.map f).Nodup ∧ (∀ d ∈ ds, GC K W H0 vs g (.dat d) (wipeR ρ vs) fun ρ2 => Ev K W H0 tk ρ2 fun s => s = .dat (kD (f d)) ∧ Ev K W H0 tv ρ2 fun s => s = .dat (v d)) ∧
      ∀ a, Sx K (dicW K Pg w W a (ds.map fun d => (f d, v d))) H0 F0 rest (ρ.set i (.rf (.ref a))) N) :
    Sx K W H0 F0 (tSeq (tAsg (tLk (tDcT Pg w wi g tYes tk tv vs)) (gName i)) rest) ρ N := fun σ F H at_ D n r b c =>
  h σ F H at_.ok at_.ho _ fun Jt F' H' ds o' st it ⟨hl, f, v, nd, hs, hrest⟩ => by
    obtain ⟨G, Y, wk, hG, hY⟩ := it.w
    intro Da hD
    obtain ⟨oD, stD⟩ := o'.own (u := DicO Pg w Da []) hD
    have nz : ¬ W.Z Da := o'.nz hD
    have hw := (at_.ho.step st).wipe vs
    refine walk_it wk (fun i H2 => ∃ F2 ks, Ok W F2 H2 ∧ Step W F' H' F2 H2 ∧ H2 Da = some (DicO Pg w Da ks) ∧ F2 Da = none ∧ Paired (KvR K F2) ks ((ds.take i).map fun d => (f d, v d))) ?_ ?_ ?_ ?_
    · exact ⟨F', [], oD, stD, upd_same, o'.free hD, by rw [List.take_zero]; exact .nil⟩
    · rintro i H2 _ ⟨F2, ks, o2, st2, _⟩
      exact hG F2 H2 o2 st2.fz
    · rintro H2 ⟨F2, ks, o2, st2, hA, hF, pr⟩
      rw [List.take_length] at pr
      refine ⟨Da, _, rfl, hA, True.intro, fun od => ?_⟩
      have o3 : Ok W F2 (upd H2 Da (.frz od (DicO Pg w Da ks))) := o2.mutD hA (fun _ _ => code_dic) nz hF
      have o4 := o3.freeze (u := .frz od (DicO Pg w Da ks)) upd_same nz hF
      have s4 : Same F2 (upd F2 Da (.frz od (DicO Pg w Da ks))) := sm_new hF
      have st4 : Step W F' H' (upd F2 Da (.frz od (DicO Pg w Da ks))) (upd H2 Da (.frz od (DicO Pg w Da ks))) := ⟨st2.fz.trans s4, fun b u hz e => by
        have ne : b ≠ Da := fun z => by rw [z, hD] at e; cases e
        rw [upd_ne ne]
        exact st2.kp b u hz e, fun b hf hh => by
        have ne : b ≠ Da := fun z => hh (z ▸ hD)
        rw [upd_ne ne]
        exact st2.nw b hf hh⟩
      have st5 := st.trans o' st4
      have a5 := at_.step o4 st5
      have a6 : At K W H0 F0 (σ.set i (some (.ref Da))) _ _ (ρ.set i (.rf (.ref Da))) := ⟨a5.ok, a5.st, a5.ho.set (s := .rf (.ref Da)) rfl trivial⟩
      exact sx_kn a6 ⟨od, ks, upd_same, kvr_mono s4 pr⟩ (hrest Da) (fun σ' F3 H3 ρ' a' sm k => n σ' F3 H3 ρ' a' ((st5.fz).trans sm) k) r (fun σ' F3 H3 ρ' a' sm k => b σ' F3 H3 ρ' a' ((st5.fz).trans sm) k) fun σ' F3 H3 ρ' a' sm k => c σ' F3 H3 ρ' a' ((st5.fz).trans sm) k
    · rintro i x H2 H3 hi ⟨F2, ks, o2, st2, hA, hF, pr⟩ y
      obtain ⟨F3, d, o3, st3, e1, e2⟩ := hY i x F2 H2 H3 hi o2 st2.fz y
      have st3' := st2.trans o2 st3
      refine hs d (List.mem_of_getElem? e1) x (wipe σ vs) F3 H3 o3 (hw.step st3') e2 _ fun σ4 ρ4 h4 ew k => ?_
      refine ⟨ew.trans (wipe_idem fun _ z => z), yes_then ?_⟩
      refine k σ4 F3 H3 o3 h4 _ fun vk F5 H5 s5 o5 st5 hk ⟨ek, k2⟩ => ?_
      subst ek
      refine k2 σ4 F5 H5 o5 (h4.step st5) _ fun vv F6 H6 s6 o6 st6 hv ev => ?_
      subst ev
      have keep3 := st3.kp _ _ nz hA
      have keep5 := st5.kp _ _ nz keep3
      have keep6 := st6.kp _ _ nz keep5
      have nF3 := st3.nw Da hF (by rw [hA]; exact fun z => nomatch z)
      have nF5 := st5.nw Da nF3 (by rw [keep3]; exact fun z => nomatch z)
      have nF6 := st6.nw Da nF5 (by rw [keep5]; exact fun z => nomatch z)
      obtain ⟨b0, rfl, eb⟩ := dp_key hk
      have pr6 := kvr_mono st6.fz (kvr_mono st5.fz (kvr_mono st3.fz pr))
      have et : ds.take (i + 1) = ds.take i ++ [d] := by rw [List.take_add_one, e1]; rfl
      refine ⟨ks, f d, b0, rfl, keep6, kvr_in o6.sub pr6, rd_mono o6.sub (rd_mono st6.fz eb), fun m => ?_, ?_, F6, ks ++ [(f d, b0, vv)], o6.mutD keep6 (fun _ _ => code_dic) nz nF6, ?_, upd_same, nF6, ?_⟩
      · rw [kvr_keys pr6, List.map_map] at m
        have nd' : ((ds.take (i + 1)).map f).Nodup := nd.sublist ((List.take_sublist _ _).map _)
        rw [et, List.map_append] at nd'
        exact (List.nodup_append.mp nd').2.2 _ m _ List.mem_cons_self rfl
      · have := Paired.length pr6
        rw [List.length_map, List.length_take] at this
        omega
      · have st7 := st3'.trans o3 (st5.trans o5 st6)
        refine ⟨st7.fz, fun b u hz e => ?_, st7.nw⟩
        have ne : b ≠ Da := fun z => by rw [z, hD] at e; cases e
        rw [upd_ne ne]
        exact st7.kp b u hz e
      · rw [et, List.map_append]
        exact paired_snoc pr6 ⟨rfl, rd_mono st6.fz eb, hv⟩
end
end DL

namespace DL
open PySem L2 RZ PySem.Spec PyProof.Rows
/-! ### xs.extend(t), t a tuple; xs.pop(); x, y = dict(..), [] -/
theorem extend_tupG (l b : Addr) (xs ys : Array Value) (n m : Nat) (dd : Option Addr) (sl : Array (Option Value)) (short : ¬ (!xs.isEmpty && Builtin.List.listTooLong (xs.size + ys.size)) = true) (h1 : xs.size ≤ sizeLine) (h2 : xs.size + ys.size ≤ sizeLine + 1) :
    Meets (Builtin.«list.extend» ⟨[.ref l, .ref b], []⟩) (fun _ R s => s.heap.get? l = some { cls := .type "list", dict := none, data := .seq xs n, slots := #[] } ∧ s.heap.get? b = some { cls := .type "tuple", dict := dd, data := .seq ys m, slots := sl } ∧
      R (.ok (.ret Value.none)) { s with heap := s.heap.update l (Obj.mapSeq fun z => z ++ ys), toks := s.toks }) := by
  refine .of_wp fun prog w A R s hw => ?_
  obtain ⟨hp, g, d, tk, os⟩ := s
  obtain ⟨hl, hb, hw⟩ := hw
  have f1 := AutoSeq1.idx_int
  have f2 := AutoSeq1.sub_tuple_tuple
  have f3 := AutoSeq1.sub_list_list
  have f4 := AutoSeq1.sub_tuple_list
  have f5 := AutoSeq1.sub_list_tuple
  have both : (xs ++ ys).size ≤ sizeLine + 1 := by
    rw [Array.size_append]
    exact h2
  wp_walk using (wpAny_updateSeq hl rfl (hz := h1) (_hz' := both)), wpAny_loadPart' hl, wpAny_loadPart' hb
  exact ⟨_, rfl, hw⟩
def rExtendT (K : PySem.W.Frag) : V → List V → Hp → VK → Prop := fun x vs H Q => ∃ (l b : Addr) (xs zs : List V), x = .ref l ∧ vs = [.ref b] ∧ H l = some (.lst xs) ∧ SqT K H b zs ∧ xs.length + zs.length ≤ sizeLine ∧ Q .non (upd H l (.lst (xs ++ zs)))
theorem mt_extendT {X : Cx} : MtM X "list.extend" (rExtendT X.K) := by
  intro pins s σ H x vs v us Q I rx rv h
  obtain ⟨l, b, xs, zs, rfl, rfl, hH, hB, hz, q⟩ := h
  cases rx
  obtain ⟨u, rfl, ru⟩ := rv.one
  cases ru
  obtain ⟨z, its, n, r, hl, e⟩ := I.lstM hH
  obtain ⟨its2, r2, ⟨⟨cls, dd, data, sl⟩, ho, hc, n2, hd⟩, z2⟩ := I.tuple hB
  simp only at hc hd
  subst hc hd
  have l2 := r2.length
  have sz : its.toArray.size + its2.toArray.size ≤ sizeLine := by
    rw [List.size_toArray, List.size_toArray]
    omega
  have short : ¬ (!its.toArray.isEmpty && Builtin.List.listTooLong (its.toArray.size + its2.toArray.size)) = true := by
    rw [notLongL sz, Bool.and_false]
    exact Bool.false_ne_true
  refine call_meets F.slot_list_extend ⟨_, e, rfl⟩ F.entry_list_extend (F.args_list_extend_2 _ _) (extend_tupG l b its.toArray its2.toArray n n2 dd sl short (by rw [List.size_toArray]; omega) (by omega)) ⟨e, ho, ?_⟩
  exact ⟨.non, _, I.lset (ys := xs ++ zs) (its' := its ++ its2) hH e (by simp) (r.append r2) (by rw [List.length_append]; exact hz), rfl, q⟩
section
variable {K : PySem.W.Frag} {W : Wd} {H0 F0 : Hp} {ρ : Rho} {N : Ends2} {te : TE}
theorem sx_extT {i : Nat} {ds : List D} (hi : ρ[i]? = some (.ls ds)) (h : Ev K W H0 te ρ fun s => ∃ es, s = .dat (.tuple es) ∧ ds.length + es.length ≤ sizeLine ∧ N.nx (ρ.set i (.ls (ds ++ es)))) :
    Sx K W H0 F0 (tDrop (tBM K "list" (rExtendT K) (tVar i) (tCons te tNil))) ρ N := fun σ F H a D n r b c => by
  obtain ⟨p, vs, g1, g2, g3, g4, g5, g6⟩ := a.ho.at_ i _ hi
  refine ⟨.ref p, g1, .inl ⟨rfl, _, SqL.of g2⟩, ?_⟩
  refine h σ F H a.ok a.ho _ fun v F' H' s o' st hv ⟨es, e, hl, k⟩ => ?_
  subst e
  obtain ⟨t, zs, rfl, t1, t2⟩ := dp_tup hv
  have u2 := st.kp p _ g4 g2
  have u3 := st.nw p g3 (by rw [g2]; exact fun z => nomatch z)
  have d6 := dpa_mono st.fz g6
  refine ⟨p, t, vs, zs, rfl, rfl, u2, Or.inl (rd_mono o'.sub t1), by rw [dpa_len g6, dpa_len t2]; exact hl, ?_⟩
  have a' := a.step o' st
  have o2 : Ok W F' (upd H' p (.lst (vs ++ zs))) := o'.mut u2 g4 u3
  refine n σ F' _ _ ⟨o2, ⟨a'.st.fz, fun b' u hz e' => ?_, fun b' hf hh => a'.st.nw b' hf hh⟩, a'.ho.mut hi g1 (dpa_app d6 t2)⟩ st.fz k
  have ne : b' ≠ p := fun z => by rw [z, g5] at e'; cases e'
  rw [upd_ne ne]
  exact a'.st.kp b' u hz e'
theorem dpa_dropLast {F : Hp} : ∀ {vs : List V} {ds : List D}, DpAll K F vs ds → DpAll K F vs.dropLast ds.dropLast
  | _, _, .nil => .nil
  | _, _, .cons h .nil => .nil
  | _, _, .cons h (.cons h2 t) => .cons h (dpa_dropLast (.cons h2 t))
/-- xs.pop() -/
theorem ev2_popL {i : Nat} {ds : List D} {d : D} {P : Sl → Rho → Prop} (hi : ρ[i]? = some (.ls ds)) (hd : ds[ds.length - 1]? = some d) (k : P (.dat d) (ρ.set i (.ls ds.dropLast))) : Ev2 K W H0 F0 (tBM0 K "list" rPop (tVar i)) ρ P := fun σ F H a Q q => by
  obtain ⟨p, vs, g1, g2, g3, g4, g5, g6⟩ := a.ho.at_ i _ hi
  obtain ⟨y, hy, hyd⟩ := dpa_get' g6 hd
  refine ⟨.ref p, g1, .inl ⟨rfl, _, SqL.of g2⟩, p, vs, y, rfl, rfl, g2, by rw [dpa_len g6]; exact hy, ?_⟩
  have o2 : Ok W F (upd H p (.lst vs.dropLast)) := a.ok.mut g2 g4 g3
  refine q y F _ (.dat d) (ρ.set i (.ls ds.dropLast)) ⟨o2, ⟨a.st.fz, fun b' u hz' e' => ?_, a.st.nw⟩, a.ho.mut hi g1 (dpa_dropLast g6)⟩ ⟨Same.refl _, fun b' u hz' hno e' => ?_, fun b h _ => h⟩ hyd k
  · have ne : b' ≠ p := fun z => by rw [z, g5] at e'; cases e'
    rw [upd_ne ne]
    exact a.st.kp b' u hz' e'
  · have ne : b' ≠ p := fun z => hno i ds hi (z ▸ g1)
    rw [upd_ne ne]
    exact e'
theorem sq_rd {K : PySem.W.Frag} {H : Hp} {a : Addr} {xs : List V} (h : Rd H a (.tup xs)) : SqT K H a xs := .inl h
def PairAt (F : Hp) (p : Addr) (x : List Key × Addr × V) : Prop := Rd F p (.tup [.ref x.2.1, x.2.2])
theorem kv_one {F : Hp} {v : V} {k : List Key} {d : D} (h : Dp K F v (.tuple [kD k, d])) : ∃ (p : Addr) (b : Addr) (u : V), v = .ref p ∧ PairAt F p (k, b, u) ∧ Rd F b (.tup (k.map kV)) ∧ Dp K F u d := by
  obtain ⟨p, us, rfl, e, du⟩ := dp_tup h
  cases du with
  | cons h1 q =>
    cases q with
    | cons h2 q =>
      cases q
      obtain ⟨b, rfl, eb⟩ := dp_key h1
      exact ⟨p, b, _, rfl, e, eb, h2⟩
theorem kv_pairs {F : Hp} {vs : List V} {kvs : List (List Key × D)} (h : DpAll K F vs (kvs.map fun p => .tuple [kD p.1, p.2])) :
    ∃ (ps : List Addr) (ks : KAV), vs = ps.map V.ref ∧ Paired (PairAt F) ps ks ∧ Paired (KvR K F) ks kvs := by
  induction kvs generalizing vs with
  | nil =>
    cases h
    exact ⟨[], [], rfl, .nil, .nil⟩
  | cons x kvs ih =>
    obtain ⟨k, d⟩ := x
    rw [List.map_cons] at h
    cases h with
    | cons h t =>
      obtain ⟨ps, ks, e, r1, r2⟩ := ih t
      obtain ⟨p, b, u, e1, e2, e3, e4⟩ := kv_one h
      subst e e1
      exact ⟨p :: ps, (k, b, u) :: ks, rfl, .cons e2 r1, .cons ⟨rfl, e3, e4⟩ r2⟩
theorem paired_imp {α β : Type} {R S : α → β → Prop} (f : ∀ a b, R a b → S a b) : ∀ {as : List α} {bs : List β}, Paired R as bs → Paired S as bs
  | _, _, .nil => .nil
  | _, _, .cons h t => .cons (f _ _ h) (paired_imp f t)
/-- x, y = dict(e), []; then the rest -/
theorem sx_dictO {Pg : Program} {w : World} {i j : Nat} {rest : TS} (h : Ev K W H0 te ρ fun s => ∃ kvs : List (List Key × D), s = .dat (.list (kvs.map fun p => .tuple [kD p.1, p.2])) ∧ (kvs.map (·.1)).Nodup ∧
      ∀ a, Sx K (dicW K Pg w W a kvs) H0 F0 rest ((ρ.set i (.rf (.ref a))).set j (.ls [])) N) :
    Sx K W H0 F0 (tSeq (tPar i j (tCons (tLk (tCB (rDictO Pg w K) (tCons te tNil))) (tCons (tLst tNil) tNil))) rest) ρ N := fun σ F H at_ D n r b c => by
  refine h σ F H at_.ok at_.ho _ fun v F1 H1 s o1 st1 hv ⟨kvs, es, nd, hrest⟩ => ?_
  subst es
  obtain ⟨l, vs, rfl, el, dl⟩ := dp_lst hv
  obtain ⟨ps, ks, rfl, r1, r2⟩ := kv_pairs dl
  refine ⟨l, ps, ks, rfl, SqL.of (o1.sub _ _ el), paired_imp (fun p x e => sq_rd (rd_mono o1.sub (show Rd _ _ _ from e))) r1, kvr_in o1.sub r2, by rw [kvr_keys r2]; exact nd, fun Da hD => ?_⟩
  refine ⟨Da, _, rfl, upd_same, True.intro, fun od => ?_⟩
  obtain ⟨oD, stD⟩ := o1.own (u := DicO Pg w Da ks) hD
  have nz : ¬ W.Z Da := o1.nz hD
  have fD : F1 Da = none := o1.free hD
  have o3 : Ok W F1 (upd (upd H1 Da (DicO Pg w Da ks)) Da (.frz od (DicO Pg w Da ks))) := oD.mutD upd_same (fun _ _ => code_dic) nz fD
  have o4 := o3.freeze (u := .frz od (DicO Pg w Da ks)) upd_same nz fD
  have s4 : Same F1 (upd F1 Da (.frz od (DicO Pg w Da ks))) := sm_new fD
  have st4 : Step W F1 H1 (upd F1 Da (.frz od (DicO Pg w Da ks))) (upd (upd H1 Da (DicO Pg w Da ks)) Da (.frz od (DicO Pg w Da ks))) := ⟨s4, fun b u hz e => by
    have ne : b ≠ Da := fun z => by rw [z, hD] at e; cases e
    rw [upd_ne ne, upd_ne ne]
    exact e, fun b hf hh => by
    have ne : b ≠ Da := fun z => hh (z ▸ hD)
    rw [upd_ne ne]
    exact hf⟩
  have st5 := st1.trans o1 st4
  have a5 := at_.step o4 st5
  refine ⟨Nat.zero_le _, fun p2 hp2 => ?_⟩
  obtain ⟨o6, st6⟩ := o4.own (u := .lst []) hp2
  have a6 := a5.step o6 st6
  have hs1 := (a5.ho.set (i := i) (v := .ref Da) (s := .rf (.ref Da)) rfl trivial)
  refine ⟨.ref Da, .ref p2, rfl, ?_⟩
  have ho7 : Holds K W H0 ((σ.set i (some (.ref Da))).set j (some (.ref p2))) _ _ ((ρ.set i (.rf (.ref Da))).set j (.ls [])) := (hs1.step st6).setOwn (p := p2) (vs := []) upd_same (o4.free hp2) (o4.nz hp2) (a5.st.back a5.ok hp2) .nil fun m es e z => by
    obtain ⟨q, ws, g1, g2, _⟩ := hs1.at_ m _ e
    rw [z] at g1
    have : p2 = q := by simpa using g1
    rw [← this, hp2] at g2
    cases g2
  have sm := st5.fz.trans st6.fz
  show rest D _ _
  exact sx_kn ⟨o6, a6.st, ho7⟩ ⟨od, ks, st6.fz _ _ upd_same, kvr_mono (s4.trans st6.fz) r2⟩ (hrest Da) (fun σ' F3 H3 ρ' a' s' k => n σ' F3 H3 ρ' a' (sm.trans s') k) r (fun σ' F3 H3 ρ' a' s' k => b σ' F3 H3 ρ' a' (sm.trans s') k) fun σ' F3 H3 ρ' a' s' k => c σ' F3 H3 ρ' a' (sm.trans s') k
/-- the same by a tuple that is taken apart at once -/
theorem sx_dictO2 {Pg : Program} {w : World} {i j : Nat} {rest : TS} (h : Ev K W H0 te ρ fun s => ∃ kvs : List (List Key × D), s = .dat (.list (kvs.map fun p => .tuple [kD p.1, p.2])) ∧ (kvs.map (·.1)).Nodup ∧
      ∀ a, Sx K (dicW K Pg w W a kvs) H0 F0 rest ((ρ.set i (.rf (.ref a))).set j (.ls [])) N) :
    Sx K W H0 F0 (tSeq (tAsg (tTup (tCons (tLk (tCB (rDictO Pg w K) (tCons te tNil))) (tCons (tLst tNil) tNil))) (gTup K 2 (gCons (gName i) (gCons (gName j) gNil)))) rest) ρ N := fun σ F H at_ D n r b c => by
  refine h σ F H at_.ok at_.ho _ fun v F1 H1 s o1 st1 hv ⟨kvs, es, nd, hrest⟩ => ?_
  subst es
  obtain ⟨l, vs, rfl, el, dl⟩ := dp_lst hv
  obtain ⟨ps, ks, rfl, r1, r2⟩ := kv_pairs dl
  refine ⟨l, ps, ks, rfl, SqL.of (o1.sub _ _ el), paired_imp (fun p x e => sq_rd (rd_mono o1.sub (show Rd _ _ _ from e))) r1, kvr_in o1.sub r2, by rw [kvr_keys r2]; exact nd, fun Da hD => ?_⟩
  refine ⟨Da, _, rfl, upd_same, True.intro, fun od => ?_⟩
  obtain ⟨oD, stD⟩ := o1.own (u := DicO Pg w Da ks) hD
  have nz : ¬ W.Z Da := o1.nz hD
  have fD : F1 Da = none := o1.free hD
  have o3 : Ok W F1 (upd (upd H1 Da (DicO Pg w Da ks)) Da (.frz od (DicO Pg w Da ks))) := oD.mutD upd_same (fun _ _ => code_dic) nz fD
  have o4 := o3.freeze (u := .frz od (DicO Pg w Da ks)) upd_same nz fD
  have s4 : Same F1 (upd F1 Da (.frz od (DicO Pg w Da ks))) := sm_new fD
  have st4 : Step W F1 H1 (upd F1 Da (.frz od (DicO Pg w Da ks))) (upd (upd H1 Da (DicO Pg w Da ks)) Da (.frz od (DicO Pg w Da ks))) := ⟨s4, fun b u hz e => by
    have ne : b ≠ Da := fun z => by rw [z, hD] at e; cases e
    rw [upd_ne ne, upd_ne ne]
    exact e, fun b hf hh => by
    have ne : b ≠ Da := fun z => hh (z ▸ hD)
    rw [upd_ne ne]
    exact hf⟩
  have st5 := st1.trans o1 st4
  have a5 := at_.step o4 st5
  refine ⟨Nat.zero_le _, fun p2 hp2 => ?_⟩
  obtain ⟨o6, st6⟩ := o4.own (u := .lst []) hp2
  refine ⟨by show 2 ≤ sizeLine; decide, fun tp htp => ?_⟩
  obtain ⟨o8, st8⟩ := o6.own (u := .tup [.ref Da, .ref p2]) htp
  have a6 := (a5.step o6 st6).step o8 st8
  have hs1 := (a5.ho.set (i := i) (v := .ref Da) (s := .rf (.ref Da)) rfl trivial)
  refine ⟨tp, _, rfl, SqT.of upd_same, rfl, .ref Da, _, rfl, .ref p2, _, rfl, rfl, ?_⟩
  have ho7 : Holds K W H0 ((σ.set i (some (.ref Da))).set j (some (.ref p2))) _ _ ((ρ.set i (.rf (.ref Da))).set j (.ls [])) := ((hs1.step st6).step st8).setOwn (p := p2) (vs := []) (by rw [upd_ne (fun z => by rw [← z, upd_same] at htp; cases htp), upd_same]) (o4.free hp2) (o4.nz hp2) (a5.st.back a5.ok hp2) .nil fun m es e z => by
    obtain ⟨q, ws, g1, g2, _⟩ := hs1.at_ m _ e
    rw [z] at g1
    have : p2 = q := by simpa using g1
    rw [← this, hp2] at g2
    cases g2
  have sm := st5.fz.trans (st6.fz.trans st8.fz)
  show rest D _ _
  exact sx_kn ⟨o8, a6.st, ho7⟩ ⟨od, ks, st6.fz _ _ upd_same, kvr_mono (s4.trans st6.fz) r2⟩ (hrest Da) (fun σ' F3 H3 ρ' a' s' k => n σ' F3 H3 ρ' a' (sm.trans s') k) r (fun σ' F3 H3 ρ' a' s' k => b σ' F3 H3 ρ' a' (sm.trans s') k) fun σ' F3 H3 ρ' a' s' k => c σ' F3 H3 ρ' a' (sm.trans s') k
end
end DL

namespace DL
open PySem L2 RZ
section
variable {K : PySem.W.Frag} {W : Wd} {H0 F0 : Hp} {ρ : Rho} {N : Ends2}
/-- x, y = two new lists -/
theorem sx_parNN {i j : Nat} {te te2 : TE} (h : EvN K W H0 te ρ fun ds => EvN K W H0 te2 ρ fun es => N.nx ((ρ.set i (.ls ds)).set j (.ls es))) : Sx K W H0 F0 (tPar i j (tCons te (tCons te2 tNil))) ρ N := fun σ F H a D n r b c => by
  refine h σ F H a.ok a.ho _ fun p1 vs1 F1 H1 ds o1 st1 n1 l1 f1 z1 d1 h2 => ?_
  have a1 := a.step o1 st1
  refine h2 σ F1 H1 o1 a1.ho _ fun p2 vs2 F2 H2 es o2 st2 n2 l2 f2 z2 d2 k => ?_
  have a2 := a1.step o2 st2
  have ne : p1 ≠ p2 := fun z => by rw [← z, l1] at n2; cases n2
  have n2' : H p2 = none := st1.back o1 n2
  have b1 : Holds K W H0 (σ.set i (some (.ref p1))) F2 H2 (ρ.set i (.ls ds)) := a2.ho.setOwn (p := p1) (st2.kp _ _ z1 l1) (st2.nw p1 f1 (by rw [l1]; exact fun z => nomatch z)) z1 (a.st.back a.ok n1) (dpa_mono st2.fz d1) (fresh_slot (H' := H) a.ho n1)
  have b2 : Holds K W H0 ((σ.set i (some (.ref p1))).set j (some (.ref p2))) F2 H2 ((ρ.set i (.ls ds)).set j (.ls es)) := b1.setOwn (p := p2) l2 f2 z2 (a.st.back a.ok n2') d2 fun m es' e => slot_set (ne.symm) (fun es e => fresh_slot (H' := H) a.ho n2' m es e) a.ho.len e
  exact ⟨.ref p1, .ref p2, rfl, n _ F2 H2 _ ⟨o2, a2.st, b2⟩ (st1.fz.trans st2.fz) k⟩
end
end DL

namespace DL
open PySem L2 RZ PySem.Spec PyProof.Rows
/-! ### tuples whose very object is known: they have no dict, so that their methods can be called -/
def IsNic (H : Hp) (a : Addr) (xs : List V) : Prop := ∃ o : Obj, H a = some (.frz o (.tup xs)) ∧ o.cls = .type "tuple" ∧ o.dict = none
def nicK (K : PySem.W.Frag) (ds : List D) : Kn where
  φ F v := ∃ a xs, v = .ref a ∧ IsNic F a xs ∧ DpAll K F xs ds
  mono s h := by
    obtain ⟨a, xs, e, ⟨o, h1, h2, h3⟩, hd⟩ := h
    exact ⟨a, xs, e, ⟨o, s _ _ h1, h2, h3⟩, dpa_mono s hd⟩
theorem nic_dp {K : PySem.W.Frag} {F : Hp} {v : V} {ds : List D} (h : (nicK K ds).φ F v) : Dp K F v (.tuple ds) := by
  obtain ⟨a, xs, rfl, ⟨o, h1, _⟩, hd⟩ := h
  exact .tup (.inr ⟨o, h1⟩) hd
/-- tuple(xs) of a list, a new such object -/
def rTupleN (K : PySem.W.Frag) : List V → Hp → VK → Prop := fun xs H Q => ∃ p ys, xs = [V.ref p] ∧ SqL K H p ys ∧ ∀ l o, H l = none → Obj.cls o = .type "tuple" → Obj.dict o = none → Q (.ref l) (upd H l (.frz o (.tup ys)))
section
variable {X : Cx}
theorem cr_tupleN : CallR X (.type "tuple") (rTupleN X.K) := by
  rintro pins s σ H xs us Q I r ⟨p, ys, rfl, hq, q⟩
  match r with
  | .cons rx .nil =>
    cases rx
    obtain ⟨its, rv, pl, hz⟩ := I.list hq
    have hl := rv.length
    refine call_tuple_list pl.isList (fun h1 kp => ?_) (by simp only [List.size_toArray] <;> omega)
    have J : Inv X pins σ H { s with heap := h1 } := I.kept (t' := s.toks) kp
    have fresh := J.hok.fresh (a := h1.objs.size) (Nat.le_refl _)
    refine ⟨.ref h1.objs.size, _, J.laid (t' := s.toks) (o := .frz { cls := .type "tuple", data := .seq its.toArray } (.tup ys)) (fun _ _ e => Heap.get?_push_of_some _ e) (Nat.le_refl _) ⟨?_, hz, its, rv, IsTup.new _ _⟩, rfl, q _ _ fresh rfl rfl⟩
    exact Heap.get?_push_size _ rfl
/-- t.count(x), t such a tuple -/
def tCnt (K : PySem.W.Frag) (to : TE) (ta : TA) : TE := fun σ H Q => to σ H fun x H1 => (∃ a xs, x = V.ref a ∧ IsNic H1 a xs) ∧ ta σ H1 fun ys H2 =>
  ∃ y d ds, ys = [y] ∧ L2.Dp K H2 x (.tuple ds) ∧ L2.Dp K H2 y d ∧ SeqAt.shaped (.tuple ds) = true ∧ SeqAt.shaped d = true ∧ Q (.int (ds.countP fun z => PyData.eqv z d : Nat)) H2
variable {o e : Expr} {to : TE} {t : TA} {apos cpos : Pos}
theorem pe_cnt (hu : X.A.units + 65 < cLine) (ho : PE X o to) (ha : PA X [e] t)
    (hbase : attributeBase o "count" X.env (eval o X.env) = eval o X.env := by rfl)
    (hfew : ((backTo cpos (starEach [e] X.env)).all (fun x => !x.1) && (backToKw cpos (keywordEach [] X.env)).all (fun x => x.1.isSome) && decide ([e].length + ([] : List Keyword).length + (if ([] : List Keyword).isEmpty then 0 else 1) < 30)) = true := by rfl)
    (hline : (apos.endLine == cpos.line) = true := by rfl) (hs : starEach [e] X.env = (false, eval e X.env) :: starEach [] X.env := by rfl) (hplain : (backTo cpos (starEach [] X.env)).any (·.1) = false := by rfl) :
    PE X (.Call (.Attribute o "count" apos) [e] [] cpos) (tCnt X.K to t) := by
  refine ⟨fun pins s σ H Q I h => ?_⟩
  refine wpAny_Call_method_late hbase hfew hline rfl (thn (ho.run pins s σ H _ I h) ?_)
  rintro v s1 ⟨x, H1, I1, r1, ⟨a, xs, rfl, u, hn, hc, hd⟩, q1⟩
  cases r1
  have g : s1.heap.get? a = some u := (I1.hok a _ hn).1
  refine ⟨"tuple", "tuple.count", PySem.F.plainAttrs_tuple, PySem.F.slot_tuple_count, PySem.F.type_tuple_count, ⟨u, g, hc⟩, fun b eb => ?_, ?_⟩
  · cases eb
    exact ⟨u, g, hd⟩
  have hA := ha.run cpos pins s1 σ H1 _ I1 q1
  rw [hs] at hA ⊢
  refine Calls.callWith_builtin (by show (false || (backTo cpos (starEach [] X.env)).any (·.1)) = false; rw [hplain] <;> rfl) (Calls.evalArgs_plain (thn hA ?_))
  rintro us s2 ⟨ys, H2, I2, r2, y, d, ds, rfl, hl, hy, sl, sd, q⟩
  match r2 with
  | .cons ry .nil =>
    rename_i uy
    obtain ⟨bs, rd⟩ := L2.Dp.reads I2 d y uy hy ry
    have cl : PyData.canLayAll0 ds = true := SeqAt.canLay_of_shaped sl
    match hl with
    | .tup ht hA2 =>
      obtain ⟨its, rv, ⟨⟨c1, c2, c3, c4⟩, g1, g2, n, g4⟩, _⟩ := I2.tuple ht
      obtain rfl : c1 = _ := g2
      obtain rfl : c3 = _ := g4
      obtain ⟨as, ra⟩ := L2.Dp.readsAll I2 ds _ its hA2 rv
      have em : its.map (SeqAt.readOf s2.heap) = ds := SeqAt.readsAll_map ds its as cl ra
      refine call_meets PySem.F.slot_tuple_count ⟨_, g1, rfl⟩ PySem.F.entry_tuple_count (PySem.F.args_tuple_count_2 _ _)
        (SeqAt.tuple_countAt a its.toArray n c2 c4 uy fun u => PyData.eqv (SeqAt.readOf s2.heap u) d) ⟨g1, SeqAt.items_eqAt (vs := its.toArray) (show ReadsAll s2.heap its.toArray.toList ds as from ra) rd cl (SeqAt.canLay_of_shaped sd) (room_in_shaped sd hu), ?_⟩
      have ec : its.toArray.toList.countP (fun u => PyData.eqv (SeqAt.readOf s2.heap u) d) = ds.countP fun z => PyData.eqv z d := by
        rw [← em, List.countP_map]
        rfl
      rw [ec]
      exact ⟨.int (ds.countP fun z => PyData.eqv z d : Nat), H2, I2.tok _, ⟨_, rfl⟩, q⟩
end
section
variable {K : PySem.W.Frag} {W : Wd} {H0 : Hp} {ρ : Rho} {P : Sl → Prop} {to : TE} {ta : TA}
theorem ev_kn {i : Nat} {k : Kn} (h : ρ[i]? = some (.kn k)) (p : P (.kn k)) : Ev K W H0 (tVar i) ρ P := fun σ F H o ho Q q => by
  obtain ⟨v, h1, h2⟩ := ho.at_ i _ h
  exact ⟨v, h1, q v F H (.kn k) o (Step.refl o) h2 p⟩
/-- such a tuple is read as data -/
theorem ev_nic {te : TE} (h : Ev K W H0 te ρ fun s => ∃ ds, s = .kn (nicK K ds) ∧ P (.dat (.tuple ds))) : Ev K W H0 te ρ P := fun σ F H o ho Q q =>
  h σ F H o ho Q fun v F' H' s o' st hv ⟨ds, e, p⟩ => by
    subst e
    exact q v F' H' (.dat (.tuple ds)) o' st (nic_dp hv) p
theorem ev_nvar {i : Nat} {ds : List D} (h : ρ[i]? = some (.kn (nicK K ds))) (p : P (.dat (.tuple ds))) : Ev K W H0 (tVar i) ρ P := ev_nic (ev_kn h ⟨ds, rfl, p⟩)
theorem cas_tupleN {s : Sl} {ds : List D} (hs : LsOf s ds) (p : P (.kn (nicK K ds))) : CaS K W (rTupleN K) [s] P := fun F H xs k hx Q q => by
  cases hx with
  | cons h1 h2 =>
    cases h2
    obtain ⟨a, vs, rfl, g1, g2⟩ := hs.get k h1
    refine ⟨a, vs, rfl, SqL.of g1, fun l u hl hc hd => ?_⟩
    obtain ⟨o2, st2⟩ := k.new (u := .frz u (.tup vs)) hl
    exact q _ _ _ (.kn (nicK K ds)) o2 st2 ⟨l, vs, rfl, ⟨u, upd_same, hc, hd⟩, dpa_mono st2.fz g2⟩ p
theorem ev_cnt (h : Ev K W H0 to ρ fun s => ∃ ds, s = .kn (nicK K ds) ∧ EvA K W H0 ta ρ fun rs => ∃ d, rs = [.dat d] ∧ SeqAt.shaped (.tuple ds) = true ∧ SeqAt.shaped d = true ∧ P (.dat (.int (ds.countP fun z => PyData.eqv z d : Nat)))) :
    Ev K W H0 (tCnt K to ta) ρ P := fun σ F H o ho Q q =>
  h σ F H o ho _ fun v F1 H1 s o1 st1 hv ⟨ds, e, g⟩ => by
    subst e
    have hd := nic_dp hv
    obtain ⟨a, xs, rfl, ⟨u, h1, h2, h3⟩, _⟩ := hv
    refine ⟨⟨a, xs, rfl, u, o1.sub _ _ h1, h2, h3⟩, g σ F1 H1 o1 (ho.step st1) _ fun ys F2 H2 rs o2 st2 hr ⟨d, e, sl, sd, p⟩ => ?_⟩
    subst e
    cases hr with
    | cons hr1 hr2 =>
      cases hr2
      exact ⟨_, d, ds, rfl, (dp_mono (fun b u e => o2.sub _ _ (st2.fz _ _ e)) hd).old, (dp_mono o2.sub hr1).old, sl, sd, q _ F2 H2 (.dat (.int _)) o2 (st1.trans o1 st2) (.int _) p⟩
end
end DL

namespace DL
open PySem L2 RZ
section
variable {K : PySem.W.Frag} {W : Wd} {H0 F0 : Hp} {ρ : Rho} {N : Ends2}
/-- x, y, z, w = e, a new list, a new list, e2 (by a tuple that is taken apart at once) -/
theorem sx_four {i j k l : Nat} {te te2 te3 te4 : TE} (h : Ev K W H0 te ρ fun s => NoLs s ∧ EvN K W H0 te2 ρ fun ds => EvN K W H0 te3 ρ fun es => Ev K W H0 te4 ρ fun t => NoLs t ∧ N.nx ((((ρ.set i s).set j (.ls ds)).set k (.ls es)).set l t)) :
    Sx K W H0 F0 (tAsg (tTup (tCons te (tCons te2 (tCons te3 (tCons te4 tNil))))) (gTup K 4 (gCons (gName i) (gCons (gName j) (gCons (gName k) (gCons (gName l) gNil)))))) ρ N := fun σ F H a D n r b c => by
  refine h σ F H a.ok a.ho _ fun v F1 H1 s o1 st1 hv ⟨hn, h2⟩ => ?_
  have a1 := a.step o1 st1
  refine h2 σ F1 H1 o1 a1.ho _ fun p2 vs2 F2 H2 ds o2 st2 n2 l2 f2 z2 d2 h3 => ?_
  have a2 := a1.step o2 st2
  refine h3 σ F2 H2 o2 a2.ho _ fun p3 vs3 F3 H3 es o3 st3 n3 l3 f3 z3 d3 h4 => ?_
  have a3 := a2.step o3 st3
  refine h4 σ F3 H3 o3 a3.ho _ fun u F4 H4 t o4 st4 hu ⟨hn4, k4⟩ => ?_
  have a4 := a3.step o4 st4
  refine ⟨by show 4 ≤ sizeLine; decide, fun tp htp => ?_⟩
  obtain ⟨o5, st5⟩ := o4.own (u := .tup [v, .ref p2, .ref p3, u]) htp
  have a5 := a4.step o5 st5
  have hs1 := a1.ho.set (i := i) hv hn
  have b2 := (hs1.step st2).setOwn (i := j) l2 f2 z2 (a1.st.back o1 n2) d2 (fresh_slot (H' := H1) hs1 n2)
  have b3 := (b2.step st3).setOwn (i := k) l3 f3 z3 (a2.st.back o2 n3) d3 (fresh_slot (H' := H2) b2 n3)
  have b5 := ((b3.step st4).set (i := l) hu hn4).step st5
  exact ⟨tp, _, rfl, SqT.of upd_same, rfl, v, _, rfl, .ref p2, _, rfl, .ref p3, _, rfl, u, _, rfl, rfl, n _ F4 _ _ ⟨o5, a5.st, b5⟩ ((((st1.fz.trans st2.fz).trans st3.fz).trans st4.fz).trans st5.fz) k4⟩
end
end DL

namespace DL
open PySem L2 RZ PySem.Spec PyProof.Rows
/-! ### a dict with tuple keys that is filled: at the level of values -/
/-- stored: in the key's place, where there is one, else behind -/
def putG {α : Type} (key : α → List Key) (up : α → α) (new : α) (l : List α) (k : List Key) : List α := if l.any (fun x => decide (key x = k)) = true then l.map (fun x => if key x = k then up x else x) else l ++ [new]
theorem putG_len {α : Type} {key : α → List Key} {up : α → α} {new : α} {l : List α} {k : List Key} : (putG key up new l k).length ≤ l.length + 1 := by
  unfold putG
  split
  · rw [List.length_map]
    omega
  · rw [List.length_append, List.length_singleton]
    omega
section
variable {α β : Type} {R : α → β → Prop} {ka : α → List Key} {kb : β → List Key} {ua : α → α} {ub : β → β} {na : α} {nb : β} {k : List Key}
theorem any_paired (hk : ∀ a b, R a b → ka a = kb b) : ∀ {as : List α} {bs : List β}, Paired R as bs → as.any (fun x => decide (ka x = k)) = bs.any fun x => decide (kb x = k)
  | _, _, .nil => rfl
  | _, _, .cons h t => by rw [List.any_cons, List.any_cons, any_paired hk t, hk _ _ h]
theorem map_paired (hk : ∀ a b, R a b → ka a = kb b) (hu : ∀ a b, R a b → ka a = k → R (ua a) (ub b)) : ∀ {as : List α} {bs : List β}, Paired R as bs → Paired R (as.map fun x => if ka x = k then ua x else x) (bs.map fun x => if kb x = k then ub x else x)
  | _, _, .nil => .nil
  | _, _, .cons (a := a) (b := b) h t => by
    rw [List.map_cons, List.map_cons]
    refine .cons ?_ (map_paired hk hu t)
    by_cases e : ka a = k
    · rw [if_pos e, if_pos ((hk _ _ h) ▸ e)]
      exact hu _ _ h e
    · rw [if_neg e, if_neg ((hk _ _ h) ▸ e)]
      exact h
theorem paired_put (hk : ∀ a b, R a b → ka a = kb b) (hu : ∀ a b, R a b → ka a = k → R (ua a) (ub b)) (hn : R na nb) {as : List α} {bs : List β} (h : Paired R as bs) : Paired R (putG ka ua na as k) (putG kb ub nb bs k) := by
  unfold putG
  rw [any_paired hk h]
  split
  · exact map_paired hk hu h
  · exact paired_snoc h hn
end
abbrev putA (kvs : KAV) (k : List Key) (b : Addr) (v : V) : KAV := putG (·.1) (fun x => (x.1, x.2.1, v)) (k, b, v) kvs k
abbrev putD (kvs : List (List Key × Sl)) (k : List Key) (d : Sl) : List (List Key × Sl) := putG (·.1) (fun x => (x.1, d)) (k, d) kvs k
theorem putH_eq (xs : List (List Key × Addr × Value)) (k : List Key) (b : Addr) (v : Value) : storedH xs k b v = putG (·.1) (fun x => (x.1, x.2.1, v)) (k, b, v) xs k := by
  have e : (atKey xs k).isSome = xs.any fun x => decide (x.1 = k) := by
    unfold atKey
    rw [Option.isSome_map, Bool.eq_iff_iff, List.find?_isSome, List.any_eq_true]
  unfold storedH putG putAt
  simp only [e]
/-- what stands at a key -/
def keyed (kvs : List (List Key × Sl)) (k : List Key) : Bool := kvs.any fun x => decide (x.1 = k)
theorem three_keyed {k : List Key} {kvs : KAV} {xs : List (List Key × Addr × Value)} (h : Paired ThreeR kvs xs) : (atKey xs k).isSome = kvs.any fun x => decide (x.1 = k) := by
  rw [any_paired (fun _ _ r => r.1) h]
  unfold atKey
  rw [Option.isSome_map, Bool.eq_iff_iff, List.find?_isSome, List.any_eq_true]
section
variable {X : Cx}
/-- {}, to be a dict with tuple keys -/
def tDNewO (P : Program) (w : World) : TE := fun _ H Q => ∀ p, H p = none → Q (.ref p) (upd H p (DicO P w p []))
theorem pe_dnewO {P : Program} {w : World} {pos : Pos} (eP : X.prog = P) (eW : X.w = w) : PE X (.Dict [] [] pos) (tDNewO P w) := by
  subst eP eW
  refine ⟨fun pins s σ H Q I h => ?_⟩
  exact wpAny_Dict_empty ⟨.ref s.heap.objs.size, _, I.laid (o := DicO X.prog X.w s.heap.objs.size []) (t' := s.toks) (fun _ _ q => Heap.get?_push_of_some _ q) (Nat.le_refl _) (dico_ok (dico_empty s.heap I.big)), rfl, h _ (I.hok.fresh (Nat.le_refl _))⟩
/-- t in d, t not in d -/
def rInO (P : Program) (w : World) : R2 := fun x y H Q => ∃ a kvs k b, x = .ref b ∧ y = .ref a ∧ Rd H a (DicO P w a kvs) ∧ KeysIn H kvs ∧ Rd H b (.tup (k.map kV)) ∧ Q (.bl (kvs.any fun x => decide (x.1 = k))) H
def rNotInO (P : Program) (w : World) : R2 := fun x y H Q => ∃ a kvs k b, x = .ref b ∧ y = .ref a ∧ Rd H a (DicO P w a kvs) ∧ KeysIn H kvs ∧ Rd H b (.tup (k.map kV)) ∧ Q (.bl (!kvs.any fun x => decide (x.1 = k))) H
theorem opInO {P : Program} {w : World} (eP : X.prog = P) (eW : X.w = w) (hu : X.A.units + 1 < cLine) : OpR X (compareOp .In) (rInO P w) := by
  subst eP eW
  intro pins s σ H x y v u Q I rx ry h
  obtain ⟨a, kvs, k, b, rfl, rfl, hd, hin, hb, q⟩ := h
  obtain rfl : v = Value.ref b := rx
  obtain rfl : u = Value.ref a := ry
  obtain ⟨⟨nsm, z, xs, rel, o', es, ep, g1, g2, g3, g4, g5⟩, _⟩ := (show ObjOk X.prog X.w H s.heap a (DicO X.prog X.w a kvs) from hd.ok I.hok)
  have dd : s.heap.DictOfH (tupleKind (mixKind X.prog X.w)) a xs := ⟨o', es, ep, g1, g2, g3, g4, three_is I.hok rel hin, g5⟩
  refine wpAny_in_heap (tupleKind_room_in1 hu) (key_rd I.hok hb) nsm dd ?_
  rw [three_keyed rel]
  exact ⟨.bl _, H, I.tok _, rfl, q⟩
theorem opNotInO {P : Program} {w : World} (eP : X.prog = P) (eW : X.w = w) (hu : X.A.units + 1 < cLine) : OpR X (compareOp .NotIn) (rNotInO P w) := by
  subst eP eW
  intro pins s σ H x y v u Q I rx ry h
  obtain ⟨a, kvs, k, b, rfl, rfl, hd, hin, hb, q⟩ := h
  obtain rfl : v = Value.ref b := rx
  obtain rfl : u = Value.ref a := ry
  obtain ⟨⟨nsm, z, xs, rel, o', es, ep, g1, g2, g3, g4, g5⟩, _⟩ := (show ObjOk X.prog X.w H s.heap a (DicO X.prog X.w a kvs) from hd.ok I.hok)
  have dd : s.heap.DictOfH (tupleKind (mixKind X.prog X.w)) a xs := ⟨o', es, ep, g1, g2, g3, g4, three_is I.hok rel hin, g5⟩
  refine wpAny_notIn_heap (tupleKind_room_in1 hu) (key_rd I.hok hb) nsm dd ?_
  rw [three_keyed rel]
  exact ⟨.bl _, H, I.tok _, rfl, q⟩
/-- d[t] = v -/
def rSetO (P : Program) (w : World) : TSet := fun o i v H Q => ∃ a kvs k b, o = .ref a ∧ i = .ref b ∧ H a = some (DicO P w a kvs) ∧ KeysIn H kvs ∧ Rd H b (.tup (k.map kV)) ∧ kvs.length < sizeLine ∧ Q (upd H a (DicO P w a (putA kvs k b v)))
theorem set_dictO {P : Program} {w : World} (eP : X.prog = P) (eW : X.w = w) (hu : X.A.units + 1 < cLine) : PSet X (rSetO P w) := by
  subst eP eW
  intro pins s σ H o i v ov iv u Q I ro ri rv h
  obtain ⟨a, kvs, k, b, rfl, rfl, hD, hin, hb, hz, q⟩ := h
  obtain rfl : ov = Value.ref a := ro
  obtain rfl : iv = Value.ref b := ri
  obtain ⟨⟨nsm, z, xs, rel, o', es, ep, g1, g2, g3, g4, g5⟩, _⟩ := I.hok a _ hD
  have dd : s.heap.DictOfH (tupleKind (mixKind X.prog X.w)) a xs := ⟨o', es, ep, g1, g2, g3, g4, three_is I.hok rel hin, g5⟩
  refine wpAny_setItem_heap (hsz := (Paired.length rel) ▸ z) (tupleKind_room_in1 hu) (key_rd I.hok hb) dd fun h2 d2 sb => ?_
  obtain ⟨q2, es2, ep2, f1, f2, f3, f4, _, f5⟩ := d2
  have mu : Mut (H a) := hD ▸ True.intro
  rw [putH_eq] at f4 f5
  refine ⟨_, d_write I mu sb ⟨q2, f1⟩ (dico_ok ⟨nsm, ?_, _, ?_, q2, es2, ep2, f1, f2, f3, f4, f5⟩), q⟩
  · have := putG_len (key := fun x : List Key × Addr × V => x.1) (up := fun x => (x.1, x.2.1, v)) (new := (k, b, v)) (l := kvs) (k := k)
    exact Nat.le_trans this hz
  · exact paired_put (fun _ _ r => r.1) (fun a b r _ => ⟨r.1, r.2.1, rv⟩) ⟨rfl, rfl, rv⟩ rel
/-- len(d) -/
def rLenO (P : Program) (w : World) : List V → Hp → VK → Prop := fun xs H Q => ∃ a kvs, xs = [.ref a] ∧ Rd H a (DicO P w a kvs) ∧ KeysIn H kvs ∧ Q (.int ((kvs.length : Nat) : Int)) H
theorem call_lenO {P : Program} {w : World} (eP : X.prog = P) (eW : X.w = w) : CallR X (.builtin "len") (rLenO P w) := by
  subst eP eW
  intro pins s σ H xs us Q I r h
  obtain ⟨a, kvs, rfl, hd, hin, q⟩ := h
  rw [Vals.ref1 r]
  obtain ⟨⟨nsm, z, xs, rel, o', es, ep, g1, g2, g3, g4, g5⟩, _⟩ := (show ObjOk X.prog X.w H s.heap a (DicO X.prog X.w a kvs) from hd.ok I.hok)
  have dd : s.heap.DictOfH (tupleKind (mixKind X.prog X.w)) a xs := ⟨o', es, ep, g1, g2, g3, g4, three_is I.hok rel hin, g5⟩
  have hl : kvs.length = xs.length := Paired.length rel
  have hz := line63
  refine PySem.call_len_dictH nsm dd (by rw [← hl]; omega) ?_
  rw [← hl]
  exact ⟨.int ((kvs.length : Nat) : Int), H, I.tok _, ⟨_, rfl⟩, q⟩
/-- list(d): its keys, the very tuples -/
def rListO (P : Program) (w : World) : List V → Hp → VK → Prop := fun xs H Q => ∃ a kvs, xs = [.ref a] ∧ Rd H a (DicO P w a kvs) ∧ ∀ p, H p = none → Q (.ref p) (upd H p (.lst (kvs.map fun x => V.ref x.2.1)))
theorem three_refs : ∀ {kvs : KAV} {xs : List (List Key × Addr × Value)}, Paired ThreeR kvs xs → xs.map (fun x => x.2.1) = kvs.map fun x => x.2.1
  | _, _, .nil => rfl
  | _, _, .cons h t => by rw [List.map_cons, List.map_cons, three_refs t, h.2.1]
theorem call_listO {P : Program} {w : World} (eP : X.prog = P) (eW : X.w = w) (hc : X.calm = true) : CallR X (.type "list") (rListO P w) := by
  subst eP eW
  intro pins s σ H xs us Q I r h
  obtain ⟨d, kvs, rfl, hd, q⟩ := h
  rw [Vals.ref1 r]
  obtain ⟨⟨nsm, z, ks, rel, o, es, ep, ho, hx, hdt, he, hn⟩, _⟩ := (show ObjOk X.prog X.w H s.heap d (DicO X.prog X.w d kvs) from hd.ok I.hok)
  have l1 : es.size = ks.length := size_of_entries he
  have l2 : kvs.length = ks.length := Paired.length rel
  refine PySem.W.kdl_call (kdl_raw nsm hx hdt) (I.ok.hd hc) ho (by omega) fun h2 tk acc c kp e it => ?_
  have ea : acc.toList = (kvs.map fun x => x.2.1).map Value.ref := by
    rw [← three_refs rel, List.map_map]
    refine List.ext_getElem? fun j => ?_
    rw [List.getElem?_map]
    rcases hb : ks[j]? with _ | b
    · have h1 := List.getElem?_eq_none_iff.mp hb
      rw [List.getElem?_eq_none (by rw [Array.length_toList, it.1]; omega)]
      rfl
    · obtain ⟨hj, _⟩ := List.getElem?_eq_some_iff.mp hb
      have hj2 : j < acc.toList.length := by rw [Array.length_toList, it.1]; omega
      have g := List.getElem?_eq_getElem hj2
      obtain ⟨en, hen, hv⟩ := it.2 j _ (by rw [← Array.getElem?_toList]; exact g)
      have qe := entry_at he j
      rw [hen, hb] at qe
      rw [g, hv, Option.some.inj qe]
      rfl
  have em : (kvs.map fun x => V.ref x.2.1) = (kvs.map fun x => x.2.1).map V.ref := by rw [List.map_map]; rfl
  refine ⟨.ref s.heap.objs.size, _, I.laid (t' := tk) (o := .lst (kvs.map fun x => V.ref x.2.1)) kp (Nat.le_refl _) ⟨?_, acc.toList, c, ?_, ?_⟩, rfl, q _ (I.hok.fresh (Nat.le_refl _))⟩
  · rw [List.length_map]
    exact z
  · rw [ea, em]
    exact L2.vals_refs _
  · rw [Array.toArray_toList]
    exact e
/-! ### for t in d, d locked -/
def ItkO (P : Program) (w : World) (d : Addr) (o : Obj) (kvs : KAV) : It where
  go i H := H d = some (.frz o (DicO P w d kvs)) ∧ i < kvs.length
  yld i H x H' := H' = H ∧ ∃ k v q, kvs[i]? = some (k, q, v) ∧ x = .ref q
  stop i H := H d = some (.frz o (DicO P w d kvs)) ∧ kvs.length ≤ i
end
section
variable {P : Program} {w : World} {K : PySem.W.Frag} {d : Addr} {o : Obj} {es : Array DictEntry} {ep : Nat}
theorem turn_keysO {kvs : KAV} {tg : Expr} (it : Addr) (hod : o.data = .dict es ep) : Turn P w K tg (ItkO P w d o kvs) [it] it (fun i h => h.IsKeyIter it d i kvs.length ep) := by
  refine ⟨List.mem_singleton.mpr rfl, fun i h st b hb => ?_, fun i h h2 st k => st.at fun oi e => k it (List.mem_singleton.mpr rfl) oi e, ?_, ?_, fun A i s Q E st h => wpAny_pyIter_keyiter st h⟩
  · obtain rfl := List.mem_singleton.mp hb
    obtain ⟨oi, e, c, dd⟩ := st
    exact ⟨oi, e, fun v z => by rw [dd] at z; cases z⟩
  · rintro X rfl rfl rfl hc i pins s σ H E I hf st ⟨hd, hi⟩
    obtain ⟨f0, f1, f2, f3, f4, f5⟩ := hf it (List.mem_singleton.mpr rfl)
    obtain ⟨nsm, ⟨o2, g1, g2, g3⟩, sz, ent⟩ := frz_rows I hod hd
    obtain ⟨⟨k, q, v⟩, hkv⟩ : ∃ p, kvs[i]? = some p := ⟨kvs[i], List.getElem?_eq_getElem hi⟩
    obtain ⟨en, en1, en2, rv⟩ := ent i k q v hkv
    rw [← sz] at st
    refine next_key_item st g1 g3 rfl en1 fun h2 st2 sb => ?_
    have I2 : Inv X pins σ H { s with heap := h2 } := I.turned (t' := s.toks) (fun b ob hb e => (sb.2 b hb).trans e) f0 f1 f3 f4 f5
    obtain ⟨oi, e, c, dd⟩ := id st2
    rw [sz] at st2
    exact ⟨en.key, rfl, go_of (s := { s with heap := h2 }) e c dd (by decide) ⟨.ref q, H, I2, en2, ⟨rfl, k, v, q, hkv, rfl⟩, st2, fun b hb => (hf b hb).1⟩⟩
  · rintro X rfl rfl rfl hc i pins s σ H E I hf st ⟨hd, hi⟩
    obtain ⟨f0, f1, f2, f3, f4, f5⟩ := hf it (List.mem_singleton.mpr rfl)
    obtain ⟨nsm, ⟨o2, g1, g2, g3⟩, sz, ent⟩ := frz_rows I hod hd
    rw [← sz] at st hi
    exact next_key_end (I.ok.hd hc) st g1 g3 rfl hi fun h2 eb => ⟨rfl, I.turned (t' := s.toks) (fun b ob hb e => eb b ob hb e) f0 f1 f3 f4 f5⟩
end
def iKeysO (P : Program) (w : World) (td : TE) : TI := fun σ H R => td σ H fun x H1 => ∃ d o kvs, x = .ref d ∧ H1 d = some (.frz o (DicO P w d kvs)) ∧ R (ItkO P w d o kvs) H1
theorem pi_keysO {X : Cx} {P : Program} {w : World} {tg e : Expr} {td : TE} (eP : X.prog = P) (eW : X.w = w) (he : PE X e td) : PI X tg e (iKeysO P w td) := by
  subst eP eW
  refine ⟨fun pins s σ H R I hw => ?_⟩
  refine thn (he.run pins s σ H _ I hw) ?_
  rintro u s1 ⟨x, H1, I1, rx, d, o, kvs, rfl, hd, q⟩
  obtain rfl : u = Value.ref d := rx
  obtain ⟨g, ⟨_, _, _, _, o2, es, ep, g2, _, dat, _⟩, _⟩ := id (I1.hok d _ hd)
  cases g.symm.trans g2
  obtain ⟨nsm, ⟨o3, g3, ex3, dat3⟩, sz, _⟩ := frz_rows I1 dat hd
  refine iter_keys nsm g3 ex3 dat3 (pi_one (tk := s1.toks) I1 _ (turn_keysO _ dat) ⟨_, Heap.get?_push_size _ rfl, rfl, ?_⟩ q)
  rw [← sz]
  rfl
end DL

namespace DL
open PySem L2 RZ PySem.Spec PyProof.Rows
/-! ### own objects in slots -/
section
variable {K : PySem.W.Frag} {W : Wd} {H0 F0 F H : Hp} {ρ : Rho} {N : Ends2} {te ta tb : TE} {P : Sl → Prop}
/-- no other slot has the own object at p -/
def Alone (ρ : Rho) (i : Nat) (p : Addr) : Prop := ∀ (j : Nat) (q : Addr) (k : Ow), j ≠ i → ρ[j]? = some (.ow q k) → q ≠ p
/-- no slot has the own object at p -/
def Away (ρ : Rho) (p : Addr) : Prop := ∀ (j : Nat) (q : Addr) (k : Ow), ρ[j]? = some (.ow q k) → q ≠ p
theorem Away.alone {i : Nat} {p : Addr} (h : Away ρ p) {s : Sl} : Alone (ρ.set i s) i p := fun j q k n e => by
  rw [List.getElem?_set_ne (Ne.symm n)] at e
  exact h j q k e
theorem away_fresh {σ : L2.St} {p : Addr} (h : Holds K W H0 σ F H ρ) (n : H p = none) : Away ρ p := fun j q k e z => by
  obtain ⟨_, u, g, _⟩ := h.at_ j _ e
  rw [z, n] at g
  cases g
/-- a new own object -/
theorem Holds.setOw {σ : L2.St} {i : Nat} {p : Addr} {k : Ow} {u : HO} (h : Holds K W H0 σ F H ρ) (hp : H p = some u) (hf : F p = none) (hz : ¬ W.Z p) (h0 : H0 p = none) (hk : k.φ F u) : Holds K W H0 (σ.set i (some (.ref p))) F H (ρ.set i (.ow p k)) := by
  have nls : ∀ (j : Nat) (ds : List D), (ρ.set i (.ow p k))[j]? = some (.ls ds) → j ≠ i ∧ ρ[j]? = some (.ls ds) := fun j ds e => by
    by_cases q : j = i
    · subst q
      rw [List.getElem?_set_self'] at e
      cases e1 : ρ[j]? with
      | none => rw [e1] at e; cases e
      | some u =>
        rw [e1] at e
        cases e
    · rw [List.getElem?_set_ne (Ne.symm q)] at e
      exact ⟨q, e⟩
  refine ⟨by rw [List.length_set, List.length_set, h.len], fun j s e => ?_, fun j m ds es q hjk e1 e2 e3 => ?_⟩
  · by_cases q : j = i
    · subst q
      have hj : j < ρ.length := by
        have := (List.getElem?_eq_some_iff.mp e).1
        rwa [List.length_set] at this
      rw [List.getElem?_set_self hj] at e
      cases e
      exact ⟨List.getElem?_set_self (by rw [h.len]; exact hj), u, hp, hf, hz, h0, hk⟩
    · rw [List.getElem?_set_ne (Ne.symm q)] at e
      have g := h.at_ j s e
      have hs : (σ.set i (some (.ref p)))[j]? = σ[j]? := List.getElem?_set_ne (Ne.symm q)
      cases s with
      | un => trivial
      | dat d => obtain ⟨w, g1, g2⟩ := g; exact ⟨w, hs.trans g1, g2⟩
      | ls ds => obtain ⟨r, vs, g1, g2⟩ := g; exact ⟨r, vs, hs.trans g1, g2⟩
      | rf u => exact hs.trans g
      | kn k => obtain ⟨w, g1, g2⟩ := g; exact ⟨w, hs.trans g1, g2⟩
      | ow r k => exact ⟨hs.trans g.1, g.2⟩
  · obtain ⟨a1, a2⟩ := nls j ds e1
    obtain ⟨b1, b2⟩ := nls m es e2
    rw [List.getElem?_set_ne (Ne.symm a1)] at e3
    rw [List.getElem?_set_ne (Ne.symm b1)]
    exact h.dis j m ds es q hjk a2 b2 e3
/-- the own object at slot i is changed -/
theorem Holds.mutO {σ : L2.St} {i : Nat} {p : Addr} {k k' : Ow} {u' : HO} (h : Holds K W H0 σ F H ρ) (hi : ρ[i]? = some (.ow p k)) (al : Alone ρ i p) (hk : k'.φ F u') : Holds K W H0 σ F (upd H p u') (ρ.set i (.ow p k')) := by
  have hlt : i < ρ.length := (List.getElem?_eq_some_iff.mp hi).1
  obtain ⟨g1, u, g2, g3, g4, g5, g6⟩ := h.at_ i _ hi
  have lsat : ∀ (j : Nat) (gs : List D), (ρ.set i (.ow p k'))[j]? = some (.ls gs) → ρ[j]? = some (.ls gs) := fun j gs e => by
    by_cases q : j = i
    · rw [q, List.getElem?_set_self hlt] at e
      cases e
    · rw [List.getElem?_set_ne (Ne.symm q)] at e
      exact e
  refine ⟨by rw [List.length_set, h.len], fun j s e => ?_, fun j m as bs q hjk e1 e2 e3 => h.dis j m as bs q hjk (lsat j as e1) (lsat m bs e2) e3⟩
  by_cases q : j = i
  · subst q
    rw [List.getElem?_set_self hlt] at e
    cases e
    exact ⟨g1, u', upd_same, g3, g4, g5, hk⟩
  · rw [List.getElem?_set_ne (Ne.symm q)] at e
    have g := h.at_ j s e
    cases s with
    | un => trivial
    | dat d => exact g
    | ls cs =>
      obtain ⟨r, xs, k1, k2, k3⟩ := g
      have hne : r ≠ p := fun z => by
        rw [z, g2] at k2
        cases k2
        obtain ⟨f, z⟩ := k.ext g6
        cases z
      exact ⟨r, xs, k1, (upd_ne hne).trans k2, k3⟩
    | rf u => exact g
    | kn k => exact g
    | ow r k2 =>
      obtain ⟨e1, u2, e2, e3⟩ := g
      have hne : r ≠ p := al j r k2 q e
      exact ⟨e1, u2, (upd_ne hne).trans e2, e3⟩
/-- the own object at slot i is changed no more -/
theorem Holds.frzO {σ : L2.St} {i : Nat} {p : Addr} {k : Ow} {u u' : HO} {s : Sl} (h : Holds K W H0 σ F H ρ) (hi : ρ[i]? = some (.ow p k)) (al : Alone ρ i p) (hu : H p = some u) (hs : NoLs s) (sm : Same F (upd F p u')) (hv : VOk K W (upd F p u') (upd H p u') (.ref p) s) : Holds K W H0 σ (upd F p u') (upd H p u') (ρ.set i s) := by
  have hlt : i < ρ.length := (List.getElem?_eq_some_iff.mp hi).1
  obtain ⟨g1, u1, g2, g3, g4, g5, g6⟩ := h.at_ i _ hi
  have lsat : ∀ (j : Nat) (gs : List D), (ρ.set i s)[j]? = some (.ls gs) → ρ[j]? = some (.ls gs) := fun j gs e => by
    by_cases q : j = i
    · rw [q, List.getElem?_set_self hlt] at e
      have e := Option.some.inj e
      rw [e] at hs
      exact hs.elim
    · rw [List.getElem?_set_ne (Ne.symm q)] at e
      exact e
  refine ⟨by rw [List.length_set, h.len], fun j t e => ?_, fun j m as bs q hjk e1 e2 e3 => h.dis j m as bs q hjk (lsat j as e1) (lsat m bs e2) e3⟩
  by_cases q : j = i
  · subst q
    rw [List.getElem?_set_self hlt] at e
    have e := Option.some.inj e
    subst e
    cases s with
    | un => trivial
    | dat d => exact ⟨_, g1, hv⟩
    | ls ds => exact hs.elim
    | rf v => rw [← show V.ref p = v from hv]; exact g1
    | kn k => exact ⟨_, g1, hv⟩
    | ow r k => exact hs.elim
  · rw [List.getElem?_set_ne (Ne.symm q)] at e
    have g := h.at_ j t e
    cases t with
    | un => trivial
    | dat d =>
      obtain ⟨v, k1, k2⟩ := g
      exact ⟨v, k1, dp_mono sm k2⟩
    | ls cs =>
      obtain ⟨r, xs, k1, k2, k3, k4, k5, k6⟩ := g
      have hne : r ≠ p := fun z => by
        rw [z, g2] at k2
        cases k2
        obtain ⟨f, z⟩ := k.ext g6
        cases z
      exact ⟨r, xs, k1, (upd_ne hne).trans k2, (upd_ne hne).trans k3, k4, k5, dpa_mono sm k6⟩
    | rf v => exact g
    | kn k =>
      obtain ⟨v, k1, k2⟩ := g
      exact ⟨v, k1, k.mono sm k2⟩
    | ow r k2 =>
      obtain ⟨e1, u2, e2, e3, e4, e5, e6⟩ := g
      have hne : r ≠ p := al j r k2 q e
      exact ⟨e1, u2, (upd_ne hne).trans e2, (upd_ne hne).trans e3, e4, e5, k2.mono sm e6⟩
theorem ev_ow {i : Nat} {p : Addr} {k : Ow} (h : ρ[i]? = some (.ow p k)) (q : P (.ow p k)) : Ev K W H0 (tVar i) ρ P := fun σ F H o ho Q r => by
  obtain ⟨g1, u, g2, g3, g4, _, g6⟩ := ho.at_ i _ h
  exact ⟨.ref p, g1, r (.ref p) F H (.ow p k) o (Step.refl o) ⟨rfl, u, g2, g3, g4, g6⟩ q⟩
end
/-! ### values that are known -/
def SV (K : PySem.W.Frag) (F : Hp) (v : V) : Sl → Prop
  | .dat d => Dp K F v d
  | .kn k => k.φ F v
  | _ => False
theorem sv_mono {K : PySem.W.Frag} {F F' : Hp} (s : Same F F') {v : V} : ∀ {t : Sl}, SV K F v t → SV K F' v t
  | .dat _, h => dp_mono s h
  | .kn k, h => k.mono s h
theorem sv_vok {K : PySem.W.Frag} {W : Wd} {F H : Hp} {v : V} : ∀ {t : Sl}, SV K F v t → VOk K W F H v t
  | .dat _, h => h
  | .kn _, h => h
def SvK : Sl → Prop
  | .dat _ => True
  | .kn _ => True
  | _ => False
theorem vok_sv {K : PySem.W.Frag} {W : Wd} {F H : Hp} {v : V} : ∀ {t : Sl}, SvK t → VOk K W F H v t → SV K F v t
  | .dat _, _, h => h
  | .kn _, _, h => h
theorem svk_no : ∀ {t : Sl}, SvK t → NoLs t
  | .dat _, _ => trivial
  | .kn _, _ => trivial
theorem sv_no {K : PySem.W.Frag} {F : Hp} {v : V} : ∀ {t : Sl}, SV K F v t → NoLs t
  | .dat _, _ => trivial
  | .kn _, _ => trivial
/-- keys, values of a dict -/
def KvS (K : PySem.W.Frag) (F : Hp) (p : List Key × Addr × V) (q : List Key × Sl) : Prop := p.1 = q.1 ∧ Rd F p.2.1 (.tup (p.1.map kV)) ∧ SV K F p.2.2 q.2
theorem kvs_mono {K : PySem.W.Frag} {F F' : Hp} (s : Same F F') : ∀ {vs : KAV} {kvs : List (List Key × Sl)}, Paired (KvS K F) vs kvs → Paired (KvS K F') vs kvs
  | _, _, .nil => .nil
  | _, _, .cons h t => .cons ⟨h.1, rd_mono s h.2.1, sv_mono s h.2.2⟩ (kvs_mono s t)
theorem kvs_in {K : PySem.W.Frag} {F H : Hp} (s : Same F H) : ∀ {vs : KAV} {kvs : List (List Key × Sl)}, Paired (KvS K F) vs kvs → KeysIn H vs
  | _, _, .nil => fun x m => nomatch m
  | _, _, .cons h t => fun x m => by
    rcases List.mem_cons.mp m with rfl | m
    · exact rd_mono s h.2.1
    · exact kvs_in s t x m
theorem kvs_at {K : PySem.W.Frag} {F : Hp} {i : Nat} {k : List Key} {q : Addr} {v : V} {vs : KAV} {kvs : List (List Key × Sl)} (h : Paired (KvS K F) vs kvs) (e : vs[i]? = some (k, q, v)) : ∃ t, kvs[i]? = some (k, t) ∧ Rd F q (.tup (k.map kV)) ∧ SV K F v t := by
  obtain ⟨⟨k2, d⟩, e2, h1, h2, h3⟩ := paired_get h e
  cases h1
  exact ⟨d, e2, h2, h3⟩
theorem kvs_mem {K : PySem.W.Frag} {F : Hp} {k : List Key} {t : Sl} : ∀ {vs : KAV} {kvs : List (List Key × Sl)}, Paired (KvS K F) vs kvs → (k, t) ∈ kvs → ∃ c v, (k, c, v) ∈ vs ∧ SV K F v t
  | _, _, .nil, m => nomatch m
  | _, _, .cons (a := p) h r, m => by
    rcases List.mem_cons.mp m with e | m
    · subst e
      obtain ⟨k0, c, v⟩ := p
      obtain rfl : k0 = k := h.1
      exact ⟨c, v, List.mem_cons_self, h.2.2⟩
    · obtain ⟨c, v, m2, r⟩ := kvs_mem r m
      exact ⟨c, v, List.mem_cons_of_mem _ m2, r⟩
/-- the values of a dict of data -/
abbrev datV (kvs : List (List Key × D)) : List (List Key × Sl) := kvs.map fun p => (p.1, .dat p.2)
theorem kvs_dat {K : PySem.W.Frag} {F : Hp} : ∀ {vs : KAV} {kvs : List (List Key × D)}, Paired (KvR K F) vs kvs → Paired (KvS K F) vs (datV kvs)
  | _, _, .nil => .nil
  | _, _, .cons h t => .cons h (kvs_dat t)
/-! ### dicts with tuple keys, by data -/
/-- an own dict -/
def dicK (K : PySem.W.Frag) (P : Program) (w : World) (a : Addr) (kvs : List (List Key × Sl)) : Ow where
  φ F u := ∃ vs, u = DicO P w a vs ∧ Paired (KvS K F) vs kvs
  mono s h := by
    obtain ⟨vs, e, r⟩ := h
    exact ⟨vs, e, kvs_mono s r⟩
  ext h := by
    obtain ⟨vs, e, _⟩ := h
    exact ⟨_, e⟩
  nc c q h := by
    obtain ⟨vs, e, _⟩ := h
    rw [e]
    exact code_dic
/-- a dict that stays as it is -/
def dicR (K : PySem.W.Frag) (P : Program) (w : World) (kvs : List (List Key × Sl)) : Kn where
  φ F v := ∃ a vs, v = .ref a ∧ Rd F a (DicO P w a vs) ∧ Paired (KvS K F) vs kvs
  mono s h := by
    obtain ⟨a, vs, e, g, r⟩ := h
    exact ⟨a, vs, e, rd_mono s g, kvs_mono s r⟩
/-- a locked one -/
def dicL (K : PySem.W.Frag) (P : Program) (w : World) (kvs : List (List Key × Sl)) : Kn where
  φ F v := ∃ a od vs, v = .ref a ∧ F a = some (.frz od (DicO P w a vs)) ∧ Paired (KvS K F) vs kvs
  mono s h := by
    obtain ⟨a, od, vs, e, g, r⟩ := h
    exact ⟨a, od, vs, e, s _ _ g, kvs_mono s r⟩
/-- a slot in which such a dict is -/
def DSl (K : PySem.W.Frag) (P : Program) (w : World) (s : Sl) (kvs : List (List Key × Sl)) : Prop := (∃ a, s = .ow a (dicK K P w a kvs)) ∨ s = .kn (dicR K P w kvs) ∨ s = .kn (dicL K P w kvs)
/-- what stands at a key -/
def getD (kvs : List (List Key × Sl)) (k : List Key) : Option Sl := (kvs.find? fun x => decide (x.1 = k)).map (·.2)
section
variable {K : PySem.W.Frag} {W : Wd} {H0 F0 F H : Hp} {ρ : Rho} {N : Ends2} {te ta tb td ty tk : TE} {P : Sl → Prop} {Pg : Program} {w : World} {a : Addr} {kvs : List (List Key × Sl)}
theorem vok_dsl {v : V} {s : Sl} (o : Ok W F H) (h : VOk K W F H v s) (d : DSl K Pg w s kvs) : ∃ a vs, v = .ref a ∧ Rd H a (DicO Pg w a vs) ∧ Paired (KvS K F) vs kvs := by
  rcases d with ⟨a, rfl⟩ | rfl | rfl
  · obtain ⟨rfl, u, g, _, _, vs, rfl, r⟩ := h
    exact ⟨a, vs, rfl, .inl g, r⟩
  · obtain ⟨a, vs, rfl, g, r⟩ := h
    exact ⟨a, vs, rfl, rd_mono o.sub g, r⟩
  · obtain ⟨a, od, vs, rfl, g, r⟩ := h
    exact ⟨a, vs, rfl, .inr ⟨od, o.sub _ _ g⟩, r⟩
theorem kvs_get {k : List Key} {d : Sl} : ∀ {vs : KAV} {kvs : List (List Key × Sl)}, Paired (KvS K F) vs kvs → getD kvs k = some d → ∃ c v, (k, c, v) ∈ vs ∧ SV K F v d := fun r e => by
  unfold getD at e
  obtain ⟨⟨k2, d2⟩, e1, e2⟩ := Option.map_eq_some_iff.mp e
  cases e2
  have hm := List.mem_of_find?_eq_some e1
  have hk := List.find?_some e1
  cases of_decide_eq_true hk
  exact kvs_mem r hm
theorem dpa_two {xs : List V} {d d2 : D} (h : DpAll K F xs [d, d2]) : ∃ x1 x2, xs = [x1, x2] ∧ Dp K F x1 d ∧ Dp K F x2 d2 := by
  cases h with
  | cons h1 h2 =>
    cases h2 with
    | cons h2 h3 =>
      cases h3
      exact ⟨_, _, rfl, h1, h2⟩
theorem kvs_put {k : List Key} {b : Addr} {v : V} {d : Sl} (hb : Rd F b (.tup (k.map kV))) (hv : SV K F v d) {vs : KAV} {kvs : List (List Key × Sl)} (r : Paired (KvS K F) vs kvs) : Paired (KvS K F) (putA vs k b v) (putD kvs k d) := by
  refine paired_put (R := KvS K F) ?_ ?_ ?_ r
  · intro x y h
    exact h.1
  · intro x y h ek
    exact ⟨h.1, h.2.1, hv⟩
  · exact ⟨rfl, hb, hv⟩
theorem kvs_any {k : List Key} {vs : KAV} {kvs : List (List Key × Sl)} (r : Paired (KvS K F) vs kvs) : (vs.any fun x => decide (x.1 = k)) = keyed kvs k := any_paired (fun _ _ h => h.1) r
theorem dsl_ow : DSl K Pg w (.ow a (dicK K Pg w a kvs)) kvs := .inl ⟨a, rfl⟩
/-- d[t] -/
theorem ev_dget (h : Ev K W H0 td ρ fun s => ∃ kvs, DSl K Pg w s kvs ∧ Ev K W H0 ty ρ fun t => ∃ k d, t = .dat (kD k) ∧ getD kvs k = some d ∧ P d) : Ev K W H0 (tDGetO Pg w td ty) ρ P := fun σ F H o ho Q q =>
  h σ F H o ho _ fun v F1 H1 s o1 st1 hv ⟨kvs, ds, h2⟩ => by
    refine h2 σ F1 H1 o1 (ho.step st1) _ fun u F2 H2 t o2 st2 hu ⟨k, d, et, hm, p⟩ => ?_
    subst et
    obtain ⟨a, vs, rfl, g, r⟩ := vok_dsl o2 (hv.step st2) ds
    obtain ⟨b, rfl, eb⟩ := dp_key hu
    obtain ⟨c, v, m2, dv⟩ := kvs_get r hm
    exact ⟨a, vs, k, b, c, v, rfl, g, kvs_in o2.sub r, rfl, rd_mono o2.sub eb, m2, q v F2 H2 d o2 (st1.trans o1 st2) (sv_vok dv) p⟩
/-- t in d, t not in d -/
theorem ops_inO {k : List Key} {s : Sl} (d : DSl K Pg w s kvs) (p : P (.dat (.bool (keyed kvs k)))) : OpS K W (rInO Pg w) (.dat (kD k)) s P := fun F H x y o hx hy Q q => by
  obtain ⟨a, vs, rfl, g, r⟩ := vok_dsl o hy d
  obtain ⟨b, rfl, eb⟩ := dp_key hx
  refine ⟨a, vs, k, b, rfl, rfl, g, kvs_in o.sub r, rd_mono o.sub eb, ?_⟩
  rw [kvs_any r]
  exact q _ F H (.dat (.bool _)) o (Step.refl o) (.bl _) p
theorem ops_notInO {k : List Key} {s : Sl} (d : DSl K Pg w s kvs) (p : P (.dat (.bool (!keyed kvs k)))) : OpS K W (rNotInO Pg w) (.dat (kD k)) s P := fun F H x y o hx hy Q q => by
  obtain ⟨a, vs, rfl, g, r⟩ := vok_dsl o hy d
  obtain ⟨b, rfl, eb⟩ := dp_key hx
  refine ⟨a, vs, k, b, rfl, rfl, g, kvs_in o.sub r, rd_mono o.sub eb, ?_⟩
  rw [kvs_any r]
  exact q _ F H (.dat (.bool _)) o (Step.refl o) (.bl _) p
/-- len(d) -/
theorem cas_lenO {s : Sl} (d : DSl K Pg w s kvs) (p : P (.dat (.int (kvs.length : Nat)))) : CaS K W (rLenO Pg w) [s] P := fun F H xs o h Q q => by
  cases h with
  | cons h1 h2 =>
    cases h2
    obtain ⟨a, vs, rfl, g, r⟩ := vok_dsl o h1 d
    refine ⟨a, vs, rfl, g, kvs_in o.sub r, ?_⟩
    rw [Paired.length r]
    exact q _ F H (.dat (.int _)) o (Step.refl o) (.int _) p
theorem kvs_refs : ∀ {vs : KAV} {kvs : List (List Key × Sl)}, Paired (KvS K F) vs kvs → DpAll K F (vs.map fun x => V.ref x.2.1) (kvs.map fun p => kD p.1)
  | _, _, .nil => .nil
  | _, _, .cons (a := p) h t => by
    rw [List.map_cons, List.map_cons, ← h.1]
    exact .cons (key_dp h.2.1) (kvs_refs t)
/-- list(d), a new list -/
theorem evn_listO {t : TA} {PN : List D → Prop} (h : EvA K W H0 t ρ fun ss => ∃ s kvs, ss = [s] ∧ DSl K Pg w s kvs ∧ PN (kvs.map fun p => kD p.1)) : EvN K W H0 (tCB (rListO Pg w) t) ρ PN := fun σ F H o ho Q q =>
  h σ F H o ho _ fun xs F1 H1 ss o1 st1 hv ⟨s, kvs, es, d, p⟩ => by
    subst es
    cases hv with
    | cons h1 h2 =>
      cases h2
      obtain ⟨a, vs, rfl, g, r⟩ := vok_dsl o1 h1 d
      refine ⟨a, vs, rfl, g, fun l hl => ?_⟩
      obtain ⟨o2, st2⟩ := o1.own (u := .lst (vs.map fun x => V.ref x.2.1)) hl
      have st := st1.trans o1 st2
      exact q l _ F1 _ _ o2 st (st1.back o1 hl) upd_same (o1.free hl) (o1.nz hl) (kvs_refs r) p
/-- for t in d, d locked -/
theorem evi_keysO {PN : List D → Prop} (h : Ev K W H0 td ρ fun s => ∃ kvs, s = .kn (dicL K Pg w kvs) ∧ PN (kvs.map fun p => kD p.1)) : EvI K W H0 (iKeysO Pg w td) ρ PN := fun σ F H o ho R q =>
  h σ F H o ho _ fun v F1 H1 s o1 st1 hv ⟨kvs, es, p⟩ => by
    subst es
    obtain ⟨a, od, vs, rfl, e, r⟩ := hv
    refine ⟨a, od, vs, rfl, o1.sub _ _ e, q _ F1 H1 _ o1 st1 ⟨(fun H => H a = some (.frz od (DicO Pg w a vs))), (ItkO Pg w a od vs).yld, ⟨fun i H hi g => ⟨g, ?_⟩, fun H g => ⟨g, ?_⟩, fun i H x H' hi g y => y⟩, fun F2 H2 o2 s2 => o2.sub _ _ (s2 _ _ e), fun i x F2 H2 H3 hi o2 s2 y => ?_⟩ p⟩
    · have := Paired.length r
      rw [List.length_map] at hi
      omega
    · have := Paired.length r
      rw [List.length_map]
      omega
    · obtain ⟨rfl, k, v, q0, e1, rfl⟩ := y
      obtain ⟨d, e2, h1, h2⟩ := kvs_at r e1
      exact ⟨F2, kD k, o2, Step.refl o2, by rw [List.getElem?_map, e2]; rfl, key_dp (rd_mono s2 h1)⟩
/-- for t, v in d.items(), d locked -/
theorem evi_itemsL {PN : List D → Prop} (h : Ev K W H0 td ρ fun s => ∃ kvs : List (List Key × D), s = .kn (dicL K Pg w (datV kvs)) ∧ PN (kvs.map fun p => .tuple [kD p.1, p.2])) : EvI K W H0 (iItemsT Pg w td) ρ PN := fun σ F H o ho R q =>
  h σ F H o ho _ fun v F1 H1 s o1 st1 hv ⟨kvs, es, p⟩ => by
    subst es
    obtain ⟨a, od, vs, rfl, e, r⟩ := hv
    refine ⟨a, od, vs, rfl, o1.sub _ _ e, q _ F1 H1 _ o1 st1 ⟨(fun H => H a = some (.frz od (DicO Pg w a vs))), (ItiT Pg w a od vs).yld, ⟨fun i H hi g => ⟨g, ?_⟩, fun H g => ⟨g, ?_⟩, fun i H x H' hi g y => y⟩, fun F2 H2 o2 s2 => o2.sub _ _ (s2 _ _ e), fun i x F2 H2 H3 hi o2 s2 y => ?_⟩ p⟩
    · have := Paired.length r
      rw [List.length_map] at hi this
      omega
    · have := Paired.length r
      rw [List.length_map] at this ⊢
      omega
    · obtain ⟨T, k, v, q0, e1, rfl, hT, rfl⟩ := y
      obtain ⟨d0, e2, h1, h2⟩ := kvs_at r e1
      obtain ⟨d, e9, ed⟩ : ∃ d, kvs[i]? = some (k, d) ∧ d0 = .dat d := by
        unfold datV at e2
        rw [List.getElem?_map] at e2
        obtain ⟨⟨k2, d2⟩, z1, z2⟩ := Option.map_eq_some_iff.mp e2
        cases z2
        exact ⟨d2, z1, rfl⟩
      subst ed
      obtain ⟨o3, st3⟩ := o2.new (u := .tup [.ref q0, v]) hT
      have sm := s2.trans st3.fz
      exact ⟨_, .tuple [kD k, d], o3, st3, by rw [List.getElem?_map]; rw [e9]; rfl, .tup (.inl upd_same) (.cons (key_dp (rd_mono sm h1)) (.cons (dp_mono sm h2) .nil))⟩
/-- x = {} -/
theorem sx_dnewO {i : Nat} (h : ∀ a, Away ρ a → N.nx (ρ.set i (.ow a (dicK K Pg w a [])))) : Sx K W H0 F0 (tAsg (tDNewO Pg w) (gName i)) ρ N := fun σ F H at_ D n r b c => by
  intro a ha
  obtain ⟨o1, st1⟩ := at_.ok.own (u := DicO Pg w a []) ha
  have a1 := at_.step o1 st1
  exact n _ F _ _ ⟨o1, a1.st, a1.ho.setOw (k := dicK K Pg w a []) upd_same (at_.ok.free ha) (at_.ok.nz ha) (at_.st.back at_.ok ha) ⟨[], rfl, .nil⟩⟩ (Same.refl _) (h a (away_fresh at_.ho ha))
/-- d[t] = e -/
theorem sx_dput {i : Nat} (hi : ρ[i]? = some (.ow a (dicK K Pg w a kvs))) (al : Alone ρ i a) (hz : kvs.length < sizeLine) (h : Ev K W H0 te ρ fun s => SvK s ∧ Ev K W H0 tk ρ fun t => ∃ k, t = .dat (kD k) ∧ N.nx (ρ.set i (.ow a (dicK K Pg w a (putD kvs k s))))) :
    Sx K W H0 F0 (tAsg te (gSub (tVar i) tk (rSetO Pg w))) ρ N := fun σ F H at_ D n r b c =>
  h σ F H at_.ok at_.ho _ fun v F1 H1 s o1 st1 hv ⟨es, h2⟩ => by
    have a1 := at_.step o1 st1
    refine ⟨.ref a, (a1.ho.at_ i _ hi).1, ?_⟩
    refine h2 σ F1 H1 o1 a1.ho _ fun u F2 H2 t o2 st2 hu ⟨k, et, hn⟩ => ?_
    subst et
    have a2 := a1.step o2 st2
    obtain ⟨g1, u0, g2, g3, g4, g5, vs, rfl, rl⟩ := a2.ho.at_ i _ hi
    obtain ⟨b0, rfl, eb⟩ := dp_key hu
    refine ⟨a, vs, k, b0, rfl, rfl, g2, kvs_in o2.sub rl, rd_mono o2.sub eb, by rw [Paired.length rl]; exact hz, ?_⟩
    have o3 : Ok W F2 (upd H2 a (DicO Pg w a (putA vs k b0 v))) := o2.mutD g2 (fun _ _ => code_dic) g4 g3
    refine n σ F2 _ _ ⟨o3, ⟨a2.st.fz, fun b' u' hz' e' => ?_, fun b' hf hh => a2.st.nw b' hf hh⟩, a2.ho.mutO (k' := dicK K Pg w a (putD kvs k s)) hi al ⟨_, rfl, ?_⟩⟩ (st1.fz.trans st2.fz) hn
    · have q : b' ≠ a := fun z => by rw [z, g5] at e'; cases e'
      rw [upd_ne q]
      exact a2.st.kp b' u' hz' e'
    · exact kvs_put eb (vok_sv es (hv.step st2)) rl
/-- d[t], x = e, e2 -/
theorem sx_dputN {i j : Nat} (hij : i ≠ j) (hi : ρ[i]? = some (.ow a (dicK K Pg w a kvs))) (al : Alone ρ i a) (hz : kvs.length < sizeLine) (h : Ev K W H0 te ρ fun s => ∃ d d2, s = .dat (.tuple [d, d2]) ∧ Ev K W H0 tk ρ fun t => ∃ k, t = .dat (kD k) ∧ N.nx ((ρ.set i (.ow a (dicK K Pg w a (putD kvs k (.dat d))))).set j (.dat d2))) :
    Sx K W H0 F0 (tAsg te (gTup K 2 (gCons (gSub (tVar i) tk (rSetO Pg w)) (gCons (gName j) gNil)))) ρ N := fun σ F H at_ D n r b c =>
  h σ F H at_.ok at_.ho _ fun v F1 H1 s o1 st1 hv ⟨d, d2, es, h2⟩ => by
    subst es
    have a1 := at_.step o1 st1
    obtain ⟨tp, xs, rfl, h1, hx⟩ := dp_tup hv
    obtain ⟨x1, x2, rfl, hx1, hx2⟩ := dpa_two hx
    refine ⟨tp, [x1, x2], rfl, Or.inl (rd_mono o1.sub h1), rfl, x1, [x2], rfl, .ref a, (a1.ho.at_ i _ hi).1, ?_⟩
    refine h2 σ F1 H1 o1 a1.ho _ fun u F2 H2 t o2 st2 hu ⟨k, et, hn⟩ => ?_
    subst et
    have a2 := a1.step o2 st2
    obtain ⟨g1, u0, g2, g3, g4, g5, vs, rfl, rl⟩ := a2.ho.at_ i _ hi
    obtain ⟨b0, rfl, eb⟩ := dp_key hu
    refine ⟨a, vs, k, b0, rfl, rfl, g2, kvs_in o2.sub rl, rd_mono o2.sub eb, by rw [Paired.length rl]; exact hz, x2, [], rfl, ?_⟩
    show gNil [] _ _ _
    refine ⟨rfl, ?_⟩
    have o3 : Ok W F2 (upd H2 a (DicO Pg w a (putA vs k b0 x1))) := o2.mutD g2 (fun _ _ => code_dic) g4 g3
    have hv2 := dp_mono st2.fz hx1
    have h3 : Holds K W H0 σ F2 (upd H2 a (DicO Pg w a (putA vs k b0 x1))) (ρ.set i (.ow a (dicK K Pg w a (putD kvs k (.dat d))))) := a2.ho.mutO (k' := dicK K Pg w a (putD kvs k (.dat d))) hi al ⟨_, rfl, kvs_put (d := .dat d) eb hv2 rl⟩
    refine n (σ.set j (some x2)) F2 _ _ ⟨o3, ⟨a2.st.fz, fun b' u' hz' e' => ?_, fun b' hf hh => a2.st.nw b' hf hh⟩, h3.set (s := .dat d2) (dp_mono st2.fz hx2) trivial⟩ (st1.fz.trans st2.fz) hn
    have q : b' ≠ a := fun z => by rw [z, g5] at e'; cases e'
    rw [upd_ne q]
    exact a2.st.kp b' u' hz' e'
/-- return d, locked for good -/
theorem sx_retLk {i : Nat} {kvs2 : List (List Key × Sl)} (hi : ρ[i]? = some (.ow a (dicK K Pg w a kvs))) (hw : ∀ (F : Hp) (vs : KAV), Paired (KvS K F) vs kvs → Paired (KvS K F) vs kvs2) (h : N.rt (.kn (dicL K Pg w kvs2))) : Sx K W H0 F0 (tRet (tLk (tVar i))) ρ N := fun σ F H at_ D n r b c => by
  obtain ⟨g1, u0, g2, g3, g4, g5, vs, rfl, rl⟩ := at_.ho.at_ i _ hi
  refine ⟨.ref a, g1, a, _, rfl, g2, True.intro, fun od => ?_⟩
  have o3 : Ok W F (upd H a (.frz od (DicO Pg w a vs))) := at_.ok.mutD g2 (fun _ _ => code_dic) g4 g3
  have o4 := o3.freeze (u := .frz od (DicO Pg w a vs)) upd_same g4 g3
  have s4 : Same F (upd F a (.frz od (DicO Pg w a vs))) := sm_new g3
  refine r (.ref a) _ _ (.kn (dicL K Pg w kvs2)) o4 ⟨at_.st.fz.trans s4, fun b' u hz e => ?_, fun b' hf hh => ?_⟩ ⟨a, od, vs, rfl, upd_same, hw _ _ (kvs_mono s4 rl)⟩ h
  · have ne : b' ≠ a := fun z => by rw [z, g5] at e; cases e
    rw [upd_ne ne]
    exact at_.st.kp b' u hz e
  · have ne : b' ≠ a := fun z => hh (z ▸ g5)
    rw [upd_ne ne]
    exact at_.st.nw b' hf hh
/-- an own dict is changed no more -/
theorem sx_frzD {i : Nat} {t : TS} (hi : ρ[i]? = some (.ow a (dicK K Pg w a kvs))) (al : Alone ρ i a) (h : Sx K W H0 F0 t (ρ.set i (.kn (dicR K Pg w kvs))) N) : Sx K W H0 F0 t ρ N := fun σ F H at_ D n r b c => by
  obtain ⟨g1, u0, g2, g3, g4, g5, vs, rfl, rl⟩ := at_.ho.at_ i _ hi
  have o2 := at_.ok.freeze g2 g4 g3
  have s2 : Same F (upd F a (DicO Pg w a vs)) := sm_new g3
  have st2 : Step W F0 H0 (upd F a (DicO Pg w a vs)) H := ⟨at_.st.fz.trans s2, at_.st.kp, fun b' hf hh => by
    have q : b' ≠ a := fun z => hh (z ▸ g5)
    rw [upd_ne q]
    exact at_.st.nw b' hf hh⟩
  have eH : upd H a (DicO Pg w a vs) = H := by
    funext x
    by_cases q : x = a
    · rw [q, upd_same, g2]
    · rw [upd_ne q]
  have ho := at_.ho.frzO (u' := DicO Pg w a vs) (s := .kn (dicR K Pg w kvs)) hi al g2 trivial s2 ⟨a, vs, rfl, .inl upd_same, kvs_mono s2 rl⟩
  rw [eH] at ho
  exact h σ _ H ⟨o2, st2, ho⟩ D (fun σ2 F2 H2 ρ2 a2 sm2 => n σ2 F2 H2 ρ2 a2 (s2.trans sm2)) r (fun σ2 F2 H2 ρ2 a2 sm2 => b σ2 F2 H2 ρ2 a2 (s2.trans sm2)) (fun σ2 F2 H2 ρ2 a2 sm2 => c σ2 F2 H2 ρ2 a2 (s2.trans sm2))
end
end DL

namespace DL
open PySem L2 RZ PySem.Spec PyProof.Rows
section
variable {K : PySem.W.Frag} {W : Wd} {H0 F0 F H : Hp} {ρ : Rho} {N : Ends2} {te ta tb td ty tk tv : TE} {P : Sl → Prop} {Pg : Program} {w : World} {a : Addr} {kvs : List (List Key × Sl)}
theorem kvs_keys : ∀ {vs : KAV} {kvs : List (List Key × Sl)}, Paired (KvS K F) vs kvs → vs.map (·.1) = kvs.map (·.1)
  | _, _, .nil => rfl
  | _, _, .cons h t => by rw [List.map_cons, List.map_cons, kvs_keys t, h.1]
theorem evi_stepA {wi : TI} {PN : List D → Prop} {σ : L2.St} (at_ : At K W H0 F0 σ F H ρ) (h : EvI K W H0 wi ρ PN) (R : It → Hp → Prop) (q : ∀ J F' H' ds, At K W H0 F0 σ F' H' ρ → Same F F' → Items K W J F' H' ds → PN ds → R J H') : wi σ H R :=
  h σ F H at_.ok at_.ho R fun J F' H' ds o st it p => q J F' H' ds (at_.step o st) st.fz it p
/-- x = {k: v for ..}, tuple keys, no key twice, to be changed -/
theorem sx_dcW {i : Nat} {wi : TI} {g : TG} {vs : List Nat}
    (h : EvI K W H0 wi ρ fun ds => ds.length < sizeLine ∧ ∃ (f : D → List Key) (v : D → D), (ds.map f).Nodup ∧ (∀ d ∈ ds, GC K W H0 vs g (.dat d) (wipeR ρ vs) fun ρ2 => Ev K W H0 tk ρ2 fun s => s = .dat (kD (f d)) ∧ Ev K W H0 tv ρ2 fun s => s = .dat (v d)) ∧
      ∀ a, Away ρ a → N.nx (ρ.set i (.ow a (dicK K Pg w a (ds.map fun d => (f d, Sl.dat (v d))))))) :
    Sx K W H0 F0 (tAsg (tDcT Pg w wi g tYes tk tv vs) (gName i)) ρ N := fun σ F H at_ D n r b c =>
  evi_stepA at_ h _ fun Jt F' H' ds a1 sm1 it ⟨hl, f, v, nd, hs, hrest⟩ => by
    obtain ⟨G, Y, wk, hG, hY⟩ := it.w
    intro Da hD
    have o' := a1.ok
    obtain ⟨oD, stD⟩ := o'.own (u := DicO Pg w Da []) hD
    have nz : ¬ W.Z Da := o'.nz hD
    have hw := a1.ho.wipe vs
    have aw := away_fresh a1.ho hD
    refine walk_it wk (fun i H2 => ∃ F2 ks, Ok W F2 H2 ∧ Step W F' H' F2 H2 ∧ H2 Da = some (DicO Pg w Da ks) ∧ F2 Da = none ∧ Paired (KvS K F2) ks ((ds.take i).map fun d => (f d, Sl.dat (v d)))) ?_ ?_ ?_ ?_
    · exact ⟨F', [], oD, stD, upd_same, o'.free hD, by rw [List.take_zero]; exact .nil⟩
    · rintro i H2 _ ⟨F2, ks, o2, st2, _⟩
      exact hG F2 H2 o2 st2.fz
    · rintro H2 ⟨F2, ks, o2, st2, hA, hF, pr⟩
      rw [List.take_length] at pr
      have a2 := a1.step o2 st2
      exact n _ F2 H2 _ ⟨a2.ok, a2.st, a2.ho.setOw (k := dicK K Pg w Da (ds.map fun d => (f d, Sl.dat (v d)))) hA hF nz (a1.st.back o' hD) ⟨ks, rfl, pr⟩⟩ (sm1.trans st2.fz) (hrest Da aw)
    · rintro i x H2 H3 hi ⟨F2, ks, o2, st2, hA, hF, pr⟩ y
      obtain ⟨F3, d, o3, st3, e1, e2⟩ := hY i x F2 H2 H3 hi o2 st2.fz y
      have st3' := st2.trans o2 st3
      refine hs d (List.mem_of_getElem? e1) x (wipe σ vs) F3 H3 o3 (hw.step st3') e2 _ fun σ4 ρ4 h4 ew k => ?_
      refine ⟨ew.trans (wipe_idem fun _ z => z), yes_then ?_⟩
      refine k σ4 F3 H3 o3 h4 _ fun vk F5 H5 s5 o5 st5 hk ⟨ek, k2⟩ => ?_
      subst ek
      refine k2 σ4 F5 H5 o5 (h4.step st5) _ fun vv F6 H6 s6 o6 st6 hv ev => ?_
      subst ev
      have keep3 := st3.kp _ _ nz hA
      have keep5 := st5.kp _ _ nz keep3
      have keep6 := st6.kp _ _ nz keep5
      have nF3 := st3.nw Da hF (by rw [hA]; exact fun z => nomatch z)
      have nF5 := st5.nw Da nF3 (by rw [keep3]; exact fun z => nomatch z)
      have nF6 := st6.nw Da nF5 (by rw [keep5]; exact fun z => nomatch z)
      obtain ⟨b0, rfl, eb⟩ := dp_key hk
      have pr6 := kvs_mono st6.fz (kvs_mono st5.fz (kvs_mono st3.fz pr))
      have et : ds.take (i + 1) = ds.take i ++ [d] := by rw [List.take_add_one, e1]; rfl
      refine ⟨ks, f d, b0, rfl, keep6, kvs_in o6.sub pr6, rd_mono o6.sub (rd_mono st6.fz eb), fun m => ?_, ?_, F6, ks ++ [(f d, b0, vv)], o6.mutD keep6 (fun _ _ => code_dic) nz nF6, ?_, upd_same, nF6, ?_⟩
      · rw [kvs_keys pr6, List.map_map] at m
        have nd' : ((ds.take (i + 1)).map f).Nodup := nd.sublist ((List.take_sublist _ _).map _)
        rw [et, List.map_append] at nd'
        exact (List.nodup_append.mp nd').2.2 _ m _ List.mem_cons_self rfl
      · have := Paired.length pr6
        rw [List.length_map, List.length_take] at this
        omega
      · have st7 := st3'.trans o3 (st5.trans o5 st6)
        refine ⟨st7.fz, fun b u hz e => ?_, st7.nw⟩
        have ne : b ≠ Da := fun z => by rw [z, hD] at e; cases e
        rw [upd_ne ne]
        exact st7.kp b u hz e
      · rw [et, List.map_append]
        exact paired_snoc pr6 ⟨rfl, rd_mono st6.fz eb, hv⟩
/-- x = dict(pairs), no key twice, to be changed -/
theorem sx_dictW {i : Nat} (h : Ev K W H0 te ρ fun s => ∃ kvs : List (List Key × D), s = .dat (.list (kvs.map fun p => .tuple [kD p.1, p.2])) ∧ (kvs.map (·.1)).Nodup ∧
      ∀ a, Away ρ a → N.nx (ρ.set i (.ow a (dicK K Pg w a (datV kvs))))) :
    Sx K W H0 F0 (tAsg (tCB (rDictO Pg w K) (tCons te tNil)) (gName i)) ρ N := fun σ F H at_ D n r b c => by
  refine h σ F H at_.ok at_.ho _ fun v F1 H1 s o1 st1 hv ⟨kvs, es, nd, hrest⟩ => ?_
  subst es
  obtain ⟨l, vs, rfl, el, dl⟩ := dp_lst hv
  obtain ⟨ps, ks, rfl, r1, r2⟩ := kv_pairs dl
  refine ⟨l, ps, ks, rfl, SqL.of (o1.sub _ _ el), paired_imp (fun p x e => sq_rd (rd_mono o1.sub (show Rd _ _ _ from e))) r1, kvr_in o1.sub r2, by rw [kvr_keys r2]; exact nd, fun Da hD => ?_⟩
  have a1 := at_.step o1 st1
  obtain ⟨oD, stD⟩ := o1.own (u := DicO Pg w Da ks) hD
  have a2 := a1.step oD stD
  exact n _ F1 _ _ ⟨a2.ok, a2.st, a2.ho.setOw (k := dicK K Pg w Da (datV kvs)) upd_same (o1.free hD) (o1.nz hD) (a1.st.back o1 hD) ⟨ks, rfl, kvs_dat r2⟩⟩ st1.fz (hrest Da (away_fresh a1.ho hD))
/-- x, y = {}, a new list -/
theorem sx_parDL {i j : Nat} {t : TA} (h : EvN K W H0 (tLst t) ρ fun ds => ∀ a, Away ρ a → N.nx ((ρ.set i (.ow a (dicK K Pg w a []))).set j (.ls ds))) :
    Sx K W H0 F0 (tPar i j (tCons (tDNewO Pg w) (tCons (tLst t) tNil))) ρ N := fun σ F H at_ D n r b c => by
  intro Da hD
  obtain ⟨oD, stD⟩ := at_.ok.own (u := DicO Pg w Da []) hD
  have a1 := at_.step oD stD
  have nz := at_.ok.nz hD
  have h0 := at_.st.back at_.ok hD
  have aw := away_fresh at_.ho hD
  refine h σ F _ a1.ok a1.ho _ fun p vs F2 H2 ds o2 st2 hn hp hf hz hd k => ?_
  refine ⟨.ref Da, .ref p, rfl, ?_⟩
  have a2 := a1.step o2 st2
  have gD : H2 Da = some (DicO Pg w Da []) := st2.kp _ _ nz upd_same
  have fD : F2 Da = none := st2.nw _ (at_.ok.free hD) (by rw [upd_same]; exact fun z => nomatch z)
  have s1 := a2.ho.setOw (i := i) (k := dicK K Pg w Da []) gD fD nz h0 ⟨[], rfl, .nil⟩
  refine n _ F2 H2 _ ⟨o2, a2.st, s1.setOwn hp hf hz (a1.st.back oD hn) hd fun m es e z => ?_⟩ st2.fz (k Da aw)
  have q : m ≠ i := fun q => by
    rw [q] at e
    have := (List.getElem?_eq_some_iff.mp e).1
    rw [List.length_set] at this
    rw [List.getElem?_set_self this] at e
    cases e
  rw [List.getElem?_set_ne (Ne.symm q)] at e z
  obtain ⟨p2, ws, g1, g2, _⟩ := a1.ho.at_ m _ e
  rw [z] at g1
  have ep : p = p2 := by simpa using g1
  rw [← ep, hn] at g2
  cases g2
/-- a pair of known things -/
def twoK (k1 k2 : Kn) : Kn where
  φ F v := ∃ t x y, v = .ref t ∧ Rd F t (.tup [x, y]) ∧ k1.φ F x ∧ k2.φ F y
  mono s h := by
    obtain ⟨t, x, y, e, g, h1, h2⟩ := h
    exact ⟨t, x, y, e, rd_mono s g, k1.mono s h1, k2.mono s h2⟩
theorem ev_twoK {k1 k2 : Kn} {t : TA} (h : EvA K W H0 t ρ fun ss => ss = [.kn k1, .kn k2] ∧ P (.kn (twoK k1 k2))) : Ev K W H0 (tTup t) ρ P := fun σ F H o ho Q q =>
  h σ F H o ho _ fun vs F1 H1 ss o1 st1 hv ⟨es, p⟩ => by
    subst es
    cases hv with
    | cons h1 h2 =>
      cases h2 with
      | cons h2 h3 =>
        cases h3
        refine ⟨by show 2 ≤ sizeLine; decide, fun a ha => ?_⟩
        obtain ⟨o2, st2⟩ := o1.new (u := .tup _) ha
        exact q (.ref a) _ _ (.kn (twoK k1 k2)) o2 (st1.trans o1 st2) ⟨a, _, _, rfl, .inl upd_same, k1.mono st2.fz h1, k2.mono st2.fz h2⟩ p
theorem gs_twoK {k1 k2 : Kn} {i j : Nat} {k : Rho → Prop} (h : k ((ρ.set i (.kn k1)).set j (.kn k2))) : GS K W H0 F0 (gTup K 2 (gCons (gName i) (gCons (gName j) gNil))) (.kn (twoK k1 k2)) ρ k := fun v σ F H a hv Q q => by
  obtain ⟨t, x, y, rfl, g, h1, h2⟩ := hv
  refine ⟨t, [x, y], rfl, Or.inl (rd_mono a.ok.sub g), rfl, x, [y], rfl, y, [], rfl, ?_⟩
  show gNil [] _ _ _
  exact ⟨rfl, q _ _ ⟨a.ok, a.st, (a.ho.set (s := .kn k1) h1 trivial).set (s := .kn k2) h2 trivial⟩ h⟩
end
end DL

namespace DL
open PySem L2 RZ PySem.Spec PyProof.Rows
/-! ### an own list of known things: told by the heap alone, opened for each look at it -/
def LstX (a : Addr) (vs : List V) : HO := .ext fun h => vs.length ≤ sizeLine ∧ ∃ (its : List Value) (n : Nat), Vals vs its ∧ h.get? a = some { cls := .type "list", data := .seq its.toArray n }
section
variable {X : Cx} {pins : List (Addr × Obj)} {σ : L2.St} {H : Hp} {s : Shared} {p : Addr} {vs : List V}
theorem lstX_of (I : Inv X pins σ H s) (e : H p = some (.lst vs)) : Inv X pins σ (upd H p (LstX p vs)) s := by
  obtain ⟨z, its, n, r, g⟩ := I.hok p _ e
  have J := d_write (h' := s.heap) (t' := s.toks) (ob := LstX p vs) I (e ▸ True.intro) (Heap.SameBut.refl _ _) ⟨_, g⟩ ?_
  · exact J
  · exact ⟨⟨z, its, n, r, g⟩, ⟨_, g⟩, fun h1 h2 ⟨y1, i2, n2, y2, y3⟩ k => ⟨y1, i2, n2, y2, k _ y3⟩⟩
theorem lst_ofX (I : Inv X pins σ H s) (e : H p = some (LstX p vs)) : Inv X pins σ (upd H p (.lst vs)) s := by
  obtain ⟨⟨z, its, n, r, g⟩, _⟩ := I.hok p _ e
  have J := d_write (h' := s.heap) (t' := s.toks) (ob := .lst vs) I (e ▸ True.intro) (Heap.SameBut.refl _ _) ⟨_, g⟩ ⟨z, its, n, r, g⟩
  exact J
end
def tOpenL (te : TE) : TE := fun σ H Q => te σ H fun x H1 => ∃ p vs, x = .ref p ∧ H1 p = some (LstX p vs) ∧ Q x (upd H1 p (.lst vs))
def tCloseL (te : TE) : TE := fun σ H Q => te σ H fun x H1 => ∃ p vs, H1 p = some (.lst vs) ∧ Q x (upd H1 p (LstX p vs))
def ttCloseL (tt : TT) : TT := fun σ H Q => tt σ H fun b H1 => ∃ p vs, H1 p = some (.lst vs) ∧ Q b (upd H1 p (LstX p vs))
section
variable {X : Cx} {e : Expr} {te : TE} {tt : TT}
theorem pe_openL (h : PE X e te) : PE X e (tOpenL te) := by
  refine ⟨fun pins s σ H Q I hw => thn (h.run pins s σ H _ I hw) ?_⟩
  rintro v s1 ⟨x, H1, I1, r, p, vs, rfl, g, q⟩
  exact ⟨_, _, lst_ofX I1 g, r, q⟩
theorem pe_closeL (h : PE X e te) : PE X e (tCloseL te) := by
  refine ⟨fun pins s σ H Q I hw => thn (h.run pins s σ H _ I hw) ?_⟩
  rintro v s1 ⟨x, H1, I1, r, p, vs, g, q⟩
  exact ⟨_, _, lstX_of I1 g, r, q⟩
theorem pt_closeL (h : PT X e tt) : PT X e (ttCloseL tt) := by
  refine ⟨fun pins s σ H Q I hw => thn (h.run pins s σ H _ I hw) ?_⟩
  rintro v s1 ⟨H1, I1, p, vs, g, q⟩
  exact ⟨_, lstX_of I1 g, q⟩
end
theorem code_lstX {a c : Addr} {vs : List V} {q : Str} : some (LstX a vs) ≠ some (LamX.CodeO c q) := fun z => by
  have z := Option.some.inj z
  unfold LstX LamX.CodeO at z
  injection z with z
  have ob : ∃ h : Heap, h.get? c = some { cls := .none, data := .fields #[.none, .str q 0] } ∧ ∀ b o, h.get? b = some o → o.data = .fields #[.none, .str q 0] := by
    refine ⟨⟨Array.replicate (c + 1) { cls := .none, data := .fields #[.none, .str q 0] }, {}⟩, ?_, fun b o e => ?_⟩
    · simp [Heap.get?]
    · simp only [Heap.get?, Array.getElem?_replicate] at e
      split at e
      · cases e
      · rename_i h1 _
        split at e
        · have := Option.some.inj e
          rw [← this]
        · cases e
  obtain ⟨h, h1, h2⟩ := ob
  have yes : (fun h : Heap => ∃ (oc : Obj) (vs : Array Value) (t : Tok), h.get? c = some oc ∧ oc.data = .fields vs ∧ vs[1]? = some (.str q t)) h := ⟨_, _, 0, h1, rfl, rfl⟩
  rw [← z] at yes
  obtain ⟨_, its, n, _, g⟩ := yes
  have := h2 _ _ g
  cases this
/-- an own list of known things -/
def lkK (K : PySem.W.Frag) (p : Addr) (ss : List Sl) : Ow where
  φ F u := ∃ vs, u = LstX p vs ∧ Paired (SV K F) vs ss
  mono s h := by
    obtain ⟨vs, e, r⟩ := h
    exact ⟨vs, e, paired_imp (fun _ _ x => sv_mono s x) r⟩
  ext h := by
    obtain ⟨vs, e, _⟩ := h
    exact ⟨_, e⟩
  nc c q h := by
    obtain ⟨vs, e, _⟩ := h
    rw [e]
    exact code_lstX
/-- a list of known things that stays as it is -/
def lstK (K : PySem.W.Frag) (ss : List Sl) : Kn where
  φ F v := ∃ a vs, v = .ref a ∧ F a = some (.lst vs) ∧ Paired (SV K F) vs ss
  mono s h := by
    obtain ⟨a, vs, e, g, r⟩ := h
    exact ⟨a, vs, e, s _ _ g, paired_imp (fun _ _ x => sv_mono s x) r⟩
/-- a pair of known things -/
def pairK (K : PySem.W.Frag) (s t : Sl) : Kn where
  φ F v := ∃ a x y, v = .ref a ∧ Rd F a (.tup [x, y]) ∧ SV K F x s ∧ SV K F y t
  mono s h := by
    obtain ⟨t, x, y, e, g, h1, h2⟩ := h
    exact ⟨t, x, y, e, rd_mono s g, sv_mono s h1, sv_mono s h2⟩
section
variable {K : PySem.W.Frag} {W : Wd} {H0 F0 F H : Hp} {ρ : Rho} {N : Ends2} {te ta tb td ty tk tv : TE} {P : Sl → Prop} {PB : Bool → Prop}
theorem pvok_sv {vs : List V} : ∀ {ss : List Sl}, Paired (VOk K W F H) vs ss → (∀ s ∈ ss, SvK s) → Paired (SV K F) vs ss := fun h => by
  induction h with
  | nil => exact fun _ => .nil
  | cons h t ih => exact fun m => .cons (vok_sv (m _ List.mem_cons_self) h) (ih fun s x => m s (List.mem_cons_of_mem _ x))
/-- hidden while it is open -/
theorem Holds.hideO {σ : L2.St} {i : Nat} {p : Addr} {k : Ow} {u' : HO} (h : Holds K W H0 σ F H ρ) (hi : ρ[i]? = some (.ow p k)) (al : Alone ρ i p) : Holds K W H0 σ F (upd H p u') (ρ.set i .un) := by
  have hlt : i < ρ.length := (List.getElem?_eq_some_iff.mp hi).1
  obtain ⟨g1, u, g2, g3, g4, g5, g6⟩ := h.at_ i _ hi
  have lsat : ∀ (j : Nat) (gs : List D), (ρ.set i .un)[j]? = some (.ls gs) → ρ[j]? = some (.ls gs) := fun j gs e => by
    by_cases q : j = i
    · rw [q, List.getElem?_set_self hlt] at e
      cases e
    · rw [List.getElem?_set_ne (Ne.symm q)] at e
      exact e
  refine ⟨by rw [List.length_set, h.len], fun j s e => ?_, fun j m as bs q hjk e1 e2 e3 => h.dis j m as bs q hjk (lsat j as e1) (lsat m bs e2) e3⟩
  by_cases q : j = i
  · subst q
    rw [List.getElem?_set_self hlt] at e
    cases e
    trivial
  · rw [List.getElem?_set_ne (Ne.symm q)] at e
    have g := h.at_ j s e
    cases s with
    | un => trivial
    | dat d => exact g
    | ls cs =>
      obtain ⟨r, xs, k1, k2, k3⟩ := g
      have hne : r ≠ p := fun z => by
        rw [z, g2] at k2
        cases k2
        obtain ⟨f, z⟩ := k.ext g6
        cases z
      exact ⟨r, xs, k1, (upd_ne hne).trans k2, k3⟩
    | rf u => exact g
    | kn k => exact g
    | ow r k2 =>
      obtain ⟨e1, u2, e2, e3⟩ := g
      have hne : r ≠ p := al j r k2 q e
      exact ⟨e1, u2, (upd_ne hne).trans e2, e3⟩
theorem upd_self {u : HO} {p : Addr} (h : H p = some u) : upd H p u = H := by
  funext x
  by_cases q : x = p
  · rw [q, upd_same, h]
  · rw [upd_ne q]
theorem upd_upd {u u' : HO} {p : Addr} : upd (upd H p u) p u' = upd H p u' := by
  funext x
  by_cases q : x = p
  · rw [q, upd_same, upd_same]
  · rw [upd_ne q, upd_ne q, upd_ne q]
/-- x = [..], of known things -/
theorem sx_lkN {i : Nat} {t : TA} (h : EvA K W H0 t ρ fun ss => (∀ s ∈ ss, SvK s) ∧ ss.length ≤ sizeLine ∧ ∀ p, Away ρ p → N.nx (ρ.set i (.ow p (lkK K p ss)))) : Sx K W H0 F0 (tAsg (tCloseL (tLst t)) (gName i)) ρ N := fun σ F H at_ D n r b c =>
  h σ F H at_.ok at_.ho _ fun vs F1 H1 ss o1 st1 hv ⟨hk, hl, hn⟩ => by
    have a1 := at_.step o1 st1
    have el : vs.length = ss.length := Paired.length hv
    refine ⟨by rw [el]; exact hl, fun p hp => ⟨p, vs, upd_same, ?_⟩⟩
    rw [upd_upd]
    obtain ⟨o2, st2⟩ := o1.own (u := LstX p vs) hp
    have a2 := a1.step o2 st2
    exact n _ F1 _ _ ⟨o2, a2.st, a2.ho.setOw (k := lkK K p ss) upd_same (o1.free hp) (o1.nz hp) (a1.st.back o1 hp) ⟨vs, rfl, pvok_sv hv hk⟩⟩ st1.fz (hn p (away_fresh a1.ho hp))
/-- whether it has any -/
theorem et_lk {i : Nat} {p : Addr} {ss : List Sl} (hi : ρ[i]? = some (.ow p (lkK K p ss))) (h : PB (!ss.isEmpty)) : EvT K W H0 (ttCloseL fun σ H Q => tOpenL (tVar i) σ H fun x H' => ∃ k, TruV K x H' k ∧ Q k H') ρ PB := fun σ F H o ho Q q => by
  obtain ⟨g1, u, g2, g3, g4, g5, vs, rfl, rl⟩ := ho.at_ i _ hi
  refine ⟨.ref p, g1, p, vs, rfl, g2, !vs.isEmpty, .inl ⟨vs, SqL.of upd_same, rfl⟩, p, vs, upd_same, ?_⟩
  rw [upd_upd, upd_self g2]
  have e : vs.isEmpty = ss.isEmpty := by cases rl <;> rfl
  rw [e]
  exact q _ F H o (Step.refl o) h
theorem paired_last {α β : Type} {R : α → β → Prop} {b : β} : ∀ {as : List α} {bs : List β}, Paired R as (bs ++ [b]) → ∃ a0 a, as = a0 ++ [a] ∧ Paired R a0 bs ∧ R a b
  | _, [], .cons h .nil => ⟨[], _, rfl, .nil, h⟩
  | _, _ :: bs, .cons (a := a) h t => by
    obtain ⟨a0, x, e, r, hx⟩ := paired_last (bs := bs) t
    exact ⟨a :: a0, x, by rw [e]; rfl, .cons h r, hx⟩
theorem paired_two {α β : Type} {R : α → β → Prop} : ∀ {as cs : List α} {bs ds : List β}, Paired R as bs → Paired R cs ds → Paired R (as ++ cs) (bs ++ ds)
  | _, _, _, _, .nil, h => h
  | _, _, _, _, .cons h t, k => .cons h (paired_two t k)
theorem mutL {F F' H H' : Hp} {p : Addr} {vs vs' : List V} (o : Ok W F H) (g : H p = some (LstX p vs)) (nz : ¬ W.Z p) (hf : F p = none) : Ok W F (upd H p (LstX p vs')) := o.mutD g (fun _ _ => code_lstX) nz hf
/-- y = x.pop() -/
theorem sx_lkPop {i j : Nat} {p : Addr} {ss : List Sl} {s : Sl} (hij : i ≠ j) (hi : ρ[i]? = some (.ow p (lkK K p (ss ++ [s])))) (al : Alone ρ i p) (h : N.nx ((ρ.set i (.ow p (lkK K p ss))).set j s)) :
    Sx K W H0 F0 (tAsg (tCloseL (tBM0 K "list" rPop (tOpenL (tVar i)))) (gName j)) ρ N := fun σ F H at_ D n r b c => by
  obtain ⟨g1, u, g2, g3, g4, g5, vs, rfl, rl⟩ := at_.ho.at_ i _ hi
  obtain ⟨v0, v, rfl, r0, rv⟩ := paired_last rl
  refine ⟨.ref p, g1, p, _, rfl, g2, .inl ⟨rfl, _, SqL.of upd_same⟩, p, _, v, rfl, rfl, upd_same, by simp, p, v0, ?_, ?_⟩
  · rw [upd_same, List.dropLast_concat]
  · rw [upd_upd, upd_upd]
    have o1 : Ok W F (upd H p (LstX p v0)) := mutL (H' := H) (F' := F) at_.ok g2 g4 g3
    have h1 : Holds K W H0 σ F (upd H p (LstX p v0)) (ρ.set i (.ow p (lkK K p ss))) := at_.ho.mutO (k' := lkK K p ss) hi al ⟨v0, rfl, r0⟩
    refine n _ F _ _ ⟨o1, ⟨at_.st.fz, fun b' u' hz' e' => ?_, fun b' hf hh => at_.st.nw b' hf hh⟩, h1.set (s := s) (sv_vok rv) (sv_no rv)⟩ (Same.refl _) h
    have q : b' ≠ p := fun z => by rw [z, g5] at e'; cases e'
    rw [upd_ne q]
    exact at_.st.kp b' u' hz' e'
/-- a new list of known things -/
def EvNS (K : PySem.W.Frag) (W : Wd) (H0 : Hp) (te : TE) (ρ : Rho) (P : List Sl → Prop) : Prop := ∀ σ F H, Ok W F H → Holds K W H0 σ F H ρ → ∀ Q : VK,
  (∀ p vs F' H' ss, Ok W F' H' → Step W F H F' H' → H p = none → H' p = some (.lst vs) → F' p = none → ¬ W.Z p → Paired (SV K F') vs ss → P ss → Q (.ref p) H') → te σ H Q
theorem ev_frzS (h : EvNS K W H0 te ρ fun ss => P (.kn (lstK K ss))) : Ev K W H0 te ρ P := fun σ F H o ho Q q => by
  refine h σ F H o ho _ fun p vs F1 H1 ss o1 st1 hn hp hf hz hd hP => ?_
  have o2 := o1.freeze hp hz hf
  have s2 : Same F1 (upd F1 p (.lst vs)) := sm_new hf
  refine q (.ref p) (upd F1 p (.lst vs)) H1 (.kn (lstK K ss)) o2 ⟨st1.fz.trans s2, st1.kp, fun b hb hh => ?_⟩ ⟨p, vs, rfl, upd_same, paired_imp (fun _ _ x => sv_mono s2 x) hd⟩ hP
  have ne : b ≠ p := fun z => hh (z ▸ hn)
  rw [upd_ne ne]
  exact st1.nw b hb hh
/-- x.extend(a new list of known things) -/
theorem sx_lkExt {i : Nat} {p : Addr} {ss : List Sl} (hi : ρ[i]? = some (.ow p (lkK K p ss))) (al : Alone ρ i p) (h : EvNS K W H0 te (ρ.set i .un) fun ts => ss.length + ts.length ≤ sizeLine ∧ N.nx (ρ.set i (.ow p (lkK K p (ss ++ ts))))) :
    Sx K W H0 F0 (tDrop (tCloseL (tBM K "list" rExtend (tOpenL (tVar i)) (tCons te tNil)))) ρ N := fun σ F H at_ D n r b c => by
  obtain ⟨g1, u, g2, g3, g4, g5, vs, rfl, rl⟩ := at_.ho.at_ i _ hi
  refine ⟨.ref p, g1, p, _, rfl, g2, .inl ⟨rfl, _, SqL.of upd_same⟩, ?_⟩
  have oO : Ok W F (upd H p (.lst vs)) := at_.ok.mutD g2 (fun _ _ => code_lstX) g4 g3
  refine h σ F _ oO (at_.ho.hideO hi al) _ fun q ws F1 H1 ts o1 st1 hn hq hf hz hd ⟨hl, hN⟩ => ?_
  have e1 : H1 p = some (.lst vs) := st1.kp p _ g4 upd_same
  have f1 : F1 p = none := st1.nw p g3 (by rw [upd_same]; exact fun z => nomatch z)
  have lv : vs.length = ss.length := Paired.length rl
  have lw : ws.length = ts.length := Paired.length hd
  refine ⟨p, q, vs, ws, rfl, rfl, e1, hq, by rw [lv, lw]; exact hl, p, vs ++ ws, upd_same, ?_⟩
  rw [upd_upd]
  -- the state as if it had stayed closed
  have oC : Ok W F1 (upd H1 p (LstX p vs)) := o1.mutD e1 (fun c q => code_lst) g4 f1
  have stC : Step W F H F1 (upd H1 p (LstX p vs)) := ⟨st1.fz, fun b' u' hz' e' => by
    by_cases z : b' = p
    · subst z
      rw [g2] at e'
      cases e'
      rw [upd_same]
    · rw [upd_ne z]
      exact st1.kp b' u' hz' ((upd_ne z).trans e'), fun b' hf' hh => st1.nw b' hf' (by
    by_cases z : b' = p
    · rw [z, upd_same]
      exact fun z => nomatch z
    · rw [upd_ne z]
      exact hh)⟩
  have a1 := at_.step oC stC
  have h1 : Holds K W H0 σ F1 (upd (upd H1 p (LstX p vs)) p (LstX p (vs ++ ws))) (ρ.set i (.ow p (lkK K p (ss ++ ts)))) := a1.ho.mutO (k' := lkK K p (ss ++ ts)) hi al ⟨vs ++ ws, rfl, paired_two (paired_imp (fun _ _ x => sv_mono st1.fz x) rl) hd⟩
  rw [upd_upd] at h1
  have o2 : Ok W F1 (upd H1 p (LstX p (vs ++ ws))) := o1.mutD e1 (fun c q => code_lst) g4 f1
  refine n σ F1 _ _ ⟨o2, ⟨a1.st.fz, fun b' u' hz' e' => ?_, fun b' hf' hh => a1.st.nw b' hf' hh⟩, h1⟩ st1.fz hN
  have z : b' ≠ p := fun z => by rw [z, g5] at e'; cases e'
  have := a1.st.kp b' u' hz' e'
  rw [upd_ne z] at this ⊢
  exact this
end
end DL

namespace DL
open PySem L2 RZ PySem.Spec PyProof.Rows
/-! ### comprehensions over known things, of known things -/
structure ItemsS (K : PySem.W.Frag) (W : Wd) (J : It) (F H : Hp) (ss : List Sl) : Prop where
  w : ∃ (G : Hp → Prop) (Y : Nat → Hp → V → Hp → Prop), Walk J ss.length G Y ∧ (∀ F' H', Ok W F' H' → Same F F' → G H') ∧
    (∀ i x F' H' H'', i < ss.length → Ok W F' H' → Same F F' → Y i H' x H'' → ∃ F'' s, Ok W F'' H'' ∧ Step W F' H' F'' H'' ∧ ss[i]? = some s ∧ SV K F'' x s)
def EvIs (K : PySem.W.Frag) (W : Wd) (H0 : Hp) (wi : TI) (ρ : Rho) (P : List Sl → Prop) : Prop := ∀ σ F H, Ok W F H → Holds K W H0 σ F H ρ → ∀ R : It → Hp → Prop,
  (∀ J F' H' ss, Ok W F' H' → Step W F H F' H' → ItemsS K W J F' H' ss → P ss → R J H') → wi σ H R
section
variable {K : PySem.W.Frag} {W : Wd} {H0 F0 F H : Hp} {ρ : Rho} {N : Ends2} {te ta tb td ty tk tv : TE} {P : Sl → Prop} {PN : List Sl → Prop}
theorem evis_of {wi : TI} (h : EvI K W H0 wi ρ fun ds => PN (ds.map .dat)) : EvIs K W H0 wi ρ PN := fun σ F H o ho R q =>
  h σ F H o ho R fun J F' H' ds o' st it p => q J F' H' (ds.map .dat) o' st (by
    obtain ⟨G, Y, w, hG, hY⟩ := it.w
    refine ⟨G, Y, (by rw [List.length_map]; exact w), hG, fun i x F2 H2 H3 hi o2 sm y => ?_⟩
    rw [List.length_map] at hi
    obtain ⟨F3, d, o3, st3, e1, e2⟩ := hY i x F2 H2 H3 hi o2 sm y
    exact ⟨F3, .dat d, o3, st3, by rw [List.getElem?_map, e1]; rfl, e2⟩) p
theorem paired_sl {vs : List V} {ss : List Sl} {i : Nat} {v : V} (h : Paired (SV K F) vs ss) (e : vs[i]? = some v) : ∃ s, ss[i]? = some s ∧ SV K F v s := paired_get h e
/-- a known list is walked -/
theorem evis_lst (h : Ev K W H0 td ρ fun s => ∃ ss, s = .kn (lstK K ss) ∧ PN ss) : EvIs K W H0 (iList K td) ρ PN := fun σ F H o ho R q =>
  h σ F H o ho _ fun v F' H' s o' st hv ⟨ss, e, p⟩ => by
    subst e
    obtain ⟨a, xs, rfl, h1, h2⟩ := hv
    refine ⟨a, rfl, ⟨xs, SqL.of (o'.sub _ _ h1)⟩, q _ F' H' ss o' st ⟨_, _, (Paired.length h2) ▸ walk_list (K := K) (a := a) (xs := xs), fun F2 H2 o2 st2 => SqL.of ((st2.trans o2.sub) _ _ h1), fun i x F2 H2 H3 hi o2 st2 y => ?_⟩ p⟩
    obtain ⟨rfl, hx⟩ := y
    obtain ⟨d, e1, e2⟩ := paired_sl h2 hx
    exact ⟨F2, d, o2, Step.refl o2, e1, sv_mono st2 e2⟩
theorem evns_lc {wi : TI} {g : TG} {vs : List Nat} (J : List Sl → Nat → List Sl → Prop)
    (h : EvIs K W H0 wi ρ fun ss => ss.length < sizeLine ∧ J ss 0 [] ∧ (∀ i s acc, ss[i]? = some s → J ss i acc → GC K W H0 vs g s (wipeR ρ vs) fun ρ2 => Ev K W H0 te ρ2 fun t => SvK t ∧ J ss (i + 1) (acc ++ [t])) ∧ ∀ acc, J ss ss.length acc → PN acc) :
    EvNS K W H0 (tLc wi g tYes te vs) ρ PN := fun σ F H o ho Q q =>
  h σ F H o ho _ fun Jt F' H' ss o' st it ⟨hl, j0, js, jd⟩ => by
    obtain ⟨G, Y, w, hG, hY⟩ := it.w
    intro Da hD
    obtain ⟨oD, stD⟩ := o'.own (u := .lst []) hD
    have nz : ¬ W.Z Da := o'.nz hD
    have hw := (ho.step st).wipe vs
    refine lc_it w (fun i H2 => ∃ F2 vs2 acc, Ok W F2 H2 ∧ Step W F' H' F2 H2 ∧ H2 Da = some (.lst vs2) ∧ F2 Da = none ∧ Paired (SV K F2) vs2 acc ∧ acc.length ≤ i ∧ J ss i acc) ?_ ?_ ?_ ?_
    · exact ⟨F', [], [], oD, stD, upd_same, o'.free hD, .nil, Nat.le_refl _, j0⟩
    · rintro i H2 _ ⟨F2, vs2, acc, o2, st2, _⟩
      exact hG F2 H2 o2 st2.fz
    · rintro i x H2 H3 hi ⟨F2, vs2, acc, o2, st2, hA, hF, hd, ha, j⟩ y
      obtain ⟨F3, s, o3, st3, e1, e2⟩ := hY i x F2 H2 H3 hi o2 st2.fz y
      have st3' := st2.trans o2 st3
      refine js i s acc e1 j x (wipe σ vs) F3 H3 o3 (hw.step st3') (sv_vok e2) _ fun σ4 ρ4 h4 ew k => ?_
      refine ⟨ew.trans (wipe_idem fun _ z => z), yes_then ?_⟩
      refine k σ4 F3 H3 o3 h4 _ fun v F6 H6 t o6 st6 hv ⟨hk, je⟩ => ?_
      have hA3 := st3.kp _ _ nz hA
      have hF3 := st3.nw Da hF (by rw [hA]; exact fun z => nomatch z)
      have hA6 := st6.kp _ _ nz hA3
      have hF6 := st6.nw Da hF3 (by rw [hA3]; exact fun z => nomatch z)
      have st6' := st3'.trans o3 st6
      have hd6 : Paired (SV K F6) vs2 acc := paired_imp (fun _ _ x => sv_mono (st3.fz.trans st6.fz) x) hd
      have hl2 : vs2.length = acc.length := Paired.length hd
      refine ⟨vs2, hA6, by omega, F6, vs2 ++ [v], acc ++ [t], o6.mut hA6 nz hF6, ⟨st6'.fz, fun b u hz e => ?_, st6'.nw⟩, upd_same, hF6, paired_two hd6 (.cons (vok_sv hk hv) .nil), by rw [List.length_append, List.length_singleton]; omega, je⟩
      have q : b ≠ Da := fun z => by rw [z, hD] at e; cases e
      rw [upd_ne q]
      exact st6'.kp b u hz e
    · rintro H2 ⟨F2, vs2, acc, o2, st2, hA, hF, hd, ha, j⟩
      exact q Da vs2 F2 H2 acc o2 (st.trans o' st2) (st.back o' hD) hA hF nz hd (jd acc j)
theorem gc_pair {vs : List Nat} {g1 g2 : TG} {s t : Sl} {k : Rho → Prop} (h : GC K W H0 vs g1 s ρ fun ρ' => GC K W H0 vs g2 t ρ' k) : GC K W H0 vs (gTup K 2 (gCons g1 (gCons g2 gNil))) (.kn (pairK K s t)) ρ k := fun v σ F H o ho hv Q q => by
  obtain ⟨p, x, y, rfl, g, h1, h2⟩ := hv
  refine ⟨p, [x, y], rfl, Or.inl (rd_mono o.sub g), rfl, x, [y], rfl, ?_⟩
  refine h x σ F H o ho (sv_vok h1) _ fun σ1 ρ1 ho1 e1 k1 => ?_
  refine ⟨y, [], rfl, ?_⟩
  refine k1 y σ1 F H o ho1 (sv_vok h2) _ fun σ2 ρ2 ho2 e2 k2 => ?_
  exact ⟨rfl, q σ2 ρ2 ho2 (e2.trans e1) k2⟩
theorem ev_pairK {t : TA} (h : EvA K W H0 t ρ fun ss => ∃ x y, ss = [x, y] ∧ SvK x ∧ SvK y ∧ P (.kn (pairK K x y))) : Ev K W H0 (tTup t) ρ P := fun σ F H o ho Q q =>
  h σ F H o ho _ fun vs F1 H1 ss o1 st1 hv ⟨x, y, es, kx, ky, p⟩ => by
    subst es
    cases hv with
    | cons h1 h2 =>
      cases h2 with
      | cons h2 h3 =>
        cases h3
        refine ⟨by show 2 ≤ sizeLine; decide, fun a ha => ?_⟩
        obtain ⟨o2, st2⟩ := o1.new (u := .tup _) ha
        exact q (.ref a) _ _ (.kn (pairK K x y)) o2 (st1.trans o1 st2) ⟨a, _, _, rfl, .inl upd_same, sv_mono st2.fz (vok_sv kx h1), sv_mono st2.fz (vok_sv ky h2)⟩ p
/-- known things as data -/
theorem sv_pairD {v : V} {x y : Sl} {d e : D} (hx : ∀ v, SV K F v x → Dp K F v d) (hy : ∀ v, SV K F v y → Dp K F v e) (h : SV K F v (.kn (pairK K x y))) : Dp K F v (.tuple [d, e]) := by
  obtain ⟨p, x, y, rfl, g, h1, h2⟩ := h
  exact .tup g (.cons (hx _ h1) (.cons (hy _ h2) .nil))
theorem sv_lstD {v : V} : ∀ {ss : List Sl} {ds : List D}, Paired (fun s d => ∀ v, SV K F v s → Dp K F v d) ss ds → SV K F v (.kn (lstK K ss)) → Dp K F v (.list ds) := fun {ss ds} hp h => by
  obtain ⟨a, vs, rfl, g, r⟩ := h
  refine .lst g ?_
  clear g
  induction hp generalizing vs with
  | nil => cases r; exact .nil
  | cons h1 _ ih =>
    cases r with
    | cons r1 r2 => exact .cons (h1 _ r1) (ih _ r2)
end
end DL

namespace DL
open PySem L2 RZ PySem.Spec PyProof.Rows
/-- no own object but lists -/
def NoOw : Sl → Prop
  | .ow _ _ => False
  | _ => True
theorem alone_by {ρ : Rho} {i : Nat} {p : Addr} (h : ∀ s ∈ ρ.eraseIdx i, NoOw s) : Alone ρ i p := fun j q k n e => by
  have m : Sl.ow q k ∈ ρ.eraseIdx i := by
    rw [List.mem_eraseIdx_iff_getElem?]
    exact ⟨j, n, e⟩
  exact (h _ m).elim
/-- the same where one more own object stands -/
theorem alone_by2 {ρ : Rho} {i j : Nat} {p q : Addr} {k : Ow} (hj : ρ[j]? = some (.ow q k)) (ne : q ≠ p) (h : ∀ s ∈ (ρ.set j .un).eraseIdx i, NoOw s) : Alone ρ i p := fun m r k2 n e => by
  by_cases z : m = j
  · rw [z, hj] at e
    cases e
    exact ne
  · have m : Sl.ow r k2 ∈ (ρ.set j .un).eraseIdx i := by
      rw [List.mem_eraseIdx_iff_getElem?]
      exact ⟨m, n, by rw [List.getElem?_set_ne (Ne.symm z)]; exact e⟩
    exact (h _ m).elim
/-- a slot of data or of nothing known -/
def Dt (s : Sl) : Prop := s = .un ∨ ∃ d, s = .dat d
theorem dt_un : Dt .un := .inl rfl
theorem dt_dat (d : D) : Dt (.dat d) := .inr ⟨d, rfl⟩
theorem Dt.no {s : Sl} (h : Dt s) : NoOw s := by
  rcases h with rfl | ⟨d, rfl⟩ <;> trivial
section
variable {K : PySem.W.Frag} {W : Wd} {H0 F0 F H : Hp} {ρ : Rho} {N : Ends2} {te ta tb td ty tk tv : TE} {P : Sl → Prop}
theorem EvI.mono {wi : TI} {P P' : List D → Prop} (h : EvI K W H0 wi ρ P) (k : ∀ ds, P ds → P' ds) : EvI K W H0 wi ρ P' := fun σ F H o ho R q => h σ F H o ho R fun J F' H' ds o' st it p => q J F' H' ds o' st it (k ds p)
theorem take_nx {α : Type} {l : List α} {i : Nat} {x : α} (h : l[i]? = some x) : l.take (i + 1) = l.take i ++ [x] := by
  rw [List.take_add_one, h]
  rfl
/-- [e for x in ..], the items by a list of one's own -/
theorem evn_mapI {wi : TI} {g0 : TG} {vs : List Nat} {PN : List D → Prop} {α : Type} (xs : List α) (f g : α → D)
    (h : EvI K W H0 wi ρ fun ds => ds = xs.map f ∧ xs.length < sizeLine ∧ (∀ x ∈ xs, GC K W H0 vs g0 (.dat (f x)) (wipeR ρ vs) fun ρ2 => Ev K W H0 te ρ2 fun s => s = .dat (g x)) ∧ PN (xs.map g)) : EvN K W H0 (tLc wi g0 tYes te vs) ρ PN := by
  refine evn_lc (fun ds i acc => ds = xs.map f ∧ acc = (xs.take i).map g) (EvI.mono h fun ds ⟨e, hl, hs, p⟩ => ?_)
  subst e
  refine ⟨by rw [List.length_map]; exact hl, ⟨rfl, rfl⟩, ?_, ?_⟩
  · rintro i d acc hd ⟨_, rfl⟩
    rw [List.getElem?_map] at hd
    obtain ⟨x, hx, rfl⟩ := Option.map_eq_some_iff.mp hd
    have g1 := hs x (List.mem_of_getElem? hx)
    refine fun v σ F H o ho hv Q q => g1 v σ F H o ho hv Q fun σ2 ρ2 h2 e2 k2 => q σ2 ρ2 h2 e2 (et_yes ?_)
    rw [if_pos rfl]
    refine k2.mono fun s es => ⟨g x, es, rfl, ?_⟩
    rw [take_nx hx, List.map_append]
    rfl
  · rintro acc ⟨_, rfl⟩
    rw [List.length_map, List.take_length]
    exact p
theorem EvIs.mono {wi : TI} {P P' : List Sl → Prop} (h : EvIs K W H0 wi ρ P) (k : ∀ ss, P ss → P' ss) : EvIs K W H0 wi ρ P' := fun σ F H o ho R q => h σ F H o ho R fun J F' H' ss o' st it p => q J F' H' ss o' st it (k ss p)
theorem evns_mapI {wi : TI} {g0 : TG} {vs : List Nat} {PN : List Sl → Prop} {α : Type} (xs : List α) (f g : α → Sl)
    (h : EvIs K W H0 wi ρ fun ss => ss = xs.map f ∧ xs.length < sizeLine ∧ (∀ x ∈ xs, SvK (g x)) ∧ (∀ x ∈ xs, GC K W H0 vs g0 (f x) (wipeR ρ vs) fun ρ2 => Ev K W H0 te ρ2 fun s => s = g x) ∧ PN (xs.map g)) : EvNS K W H0 (tLc wi g0 tYes te vs) ρ PN := by
  refine evns_lc (fun ss i acc => ss = xs.map f ∧ acc = (xs.take i).map g) (EvIs.mono h fun ss ⟨e, hl, hk, hs, p⟩ => ?_)
  subst e
  refine ⟨by rw [List.length_map]; exact hl, ⟨rfl, rfl⟩, ?_, ?_⟩
  · rintro i s acc hd ⟨_, rfl⟩
    rw [List.getElem?_map] at hd
    obtain ⟨x, hx, rfl⟩ := Option.map_eq_some_iff.mp hd
    have mx := List.mem_of_getElem? hx
    have g1 := hs x mx
    refine fun v σ F H o ho hv Q q => g1 v σ F H o ho hv Q fun σ2 ρ2 h2 e2 k2 => q σ2 ρ2 h2 e2 ?_
    refine k2.mono fun s es => ?_
    subst es
    refine ⟨hk x mx, rfl, ?_⟩
    rw [take_nx hx, List.map_append]
    rfl
  · rintro acc ⟨_, rfl⟩
    rw [List.length_map, List.take_length]
    exact p
end
end DL

namespace DL
open PySem L2 RZ PySem.Spec PyProof.Rows
/-! ### x = {k: v for ..} on one line, x a plain local -/
section
variable {X : Cx}
theorem dc_core {kx vx tg iter : Expr} {ifs : List Expr} {pins : List (Addr × Obj)} {s : Shared} {σ : L2.St} {H : Hp} {Q : VK} {pos' : Pos} {use : Option (Value → Sem Unit)} {Qf : Value → Shared → Prop} {scope : Scope} {own : List (Str × Nat)} {pos : Pos} {wi : TI} {g : TG} {tt : TT} {tk tv : TE} {P : Program} {w : World} (hc : X.calm = true) (hu : X.A.units + 64 < cLine) (nd : X.N.Nodup) (pi : PI X tg iter wi)
    (ok : BlkOk X.N X.env.scope scope own) (eP : X.prog = P) (eW : X.w = w)
    (kg : ∀ s H C cl fp, PG (X.blk s H scope (compEnvC scope cl C X.env) fp) tg g)
    (kt : ∀ s H C cl fp, PTs (X.blk s H scope (compEnvC scope cl C X.env) fp) ifs tt)
    (kk : ∀ s H C cl fp, PE (X.blk s H scope (compEnvC scope cl C X.env) fp) kx tk)
    (kv : ∀ s H C cl fp, PE (X.blk s H scope (compEnvC scope cl C X.env) fp) vx tv)
    (nf : ∀ x, foldedSetIterable iter X.env x = pure x) (I : Inv X pins σ H s) (hw : tDcT P w wi g tt tk tv (own.map (·.2)) σ H Q)
    (hRR : ∀ D C s' m H', Inv X pins σ H' s' → Q (.ref D) H' → s'.heap.Ns C m → FpOk X pins H' C → compPost (model X.prog X.w) X.A X.xe use Qf (.ref D) C (.ok .next) s') :
    wpAny (model X.prog X.w) X.A (comprehension (.DictComp kx vx [⟨tg, iter, ifs, 0⟩] scope pos) scope X.env pos' newDict false (eval iter X.env) use) Qf X.xe s := by
  subst eP eW
  have cells : ∀ y ∈ scope.names, y.2 = .free → ∃ c, X.env.cells.lookup y.1 = some c := fun y hy e => (ok.free y hy e).elim (fun k => I.ok.has _ (.inl k)) fun k => I.ok.has _ (.inr k)
  refine wpAny_comprehension_free (use := use) rfl nf (closure_ok cells) ok.kind (fun y hy e => by rw [ok.uniq y hy, e]) (thn (pi.run pins s σ H _ I hw) ?_)
  refine fun xv s1 hx => thn hx ?_
  rintro itv s2 ⟨ia, fp, tn, J, H2, rfl, I2, T, st2, f2, q⟩
  refine wpAny_newObj_type (newEnv_comp ?_)
  generalize eD : s2.heap.objs.size = D
  have freeD : H2 D = none := I2.hok.fresh (Nat.le_of_eq eD)
  obtain ⟨W, ⟨m0, w0⟩, turn⟩ := q D freeD
  generalize es3 : ({ s2 with heap := s2.heap.push { cls := .type "dict", data := .dict #[] } } : Shared) = s3
  have hp3 : s3.heap = s2.heap.push { cls := .type "dict", data := .dict #[] } := by rw [← es3]
  have I3 : Inv X pins σ (upd H2 D (DicO X.prog X.w D [])) s3 := by
    rw [← es3, ← eD]
    exact I2.laid (o := DicO X.prog X.w s2.heap.objs.size []) (t' := s2.toks) (fun b u => Heap.get?_push_of_some _) (Nat.le_refl _) (dico_ok (dico_empty s2.heap I2.big))
  have low : ∀ b ∈ fp, b < s2.heap.objs.size := fun b hb => (T.obj _ _ st2 b hb).elim fun o e => Heap.lt_size e.1
  have f3 : ∀ b ∈ fp, FpOk X pins (upd H2 D (DicO X.prog X.w D [])) b ∧ b < s3.heap.objs.size := fun b hb => by
    have lt := low b hb
    have ne : b ≠ D := eD ▸ Nat.ne_of_lt lt
    refine ⟨⟨?_, (f2 b hb).2⟩, ?_⟩
    · rw [upd_ne ne]
      exact (f2 b hb).1
    · rw [hp3, Heap.size_push]
      exact Nat.lt_succ_of_lt lt
  have st3 : tn 0 s3.heap := T.keep _ _ _ st2 fun b _ u e => hp3 ▸ Heap.get?_push_of_some _ e
  have I4 := block_start I3 ok nd f3
  have pg := kg s3 (upd H2 D (DicO X.prog X.w D [])) s3.heap.objs.size (cellsFrom (s3.heap.objs.size + 1) scope.names (cloFrom X.env.cells scope.names [])) fp
  have pt := kt s3 (upd H2 D (DicO X.prog X.w D [])) s3.heap.objs.size (cellsFrom (s3.heap.objs.size + 1) scope.names (cloFrom X.env.cells scope.names [])) fp
  have pk := kk s3 (upd H2 D (DicO X.prog X.w D [])) s3.heap.objs.size (cellsFrom (s3.heap.objs.size + 1) scope.names (cloFrom X.env.cells scope.names [])) fp
  have pv := kv s3 (upd H2 D (DicO X.prog X.w D [])) s3.heap.objs.size (cellsFrom (s3.heap.objs.size + 1) scope.names (cloFrom X.env.cells scope.names [])) fp
  show codeAny _ _ (.compStart (.DictComp kx vx [⟨tg, iter, ifs, 0⟩] scope pos) 0 (.ref ia) (.ref D) (compEnvC scope (cellsFrom (s3.heap.objs.size + 1) scope.names (cloFrom X.env.cells scope.names [])) s3.heap.objs.size X.env))
    (compPost (model X.prog X.w) X.A X.xe use Qf (.ref D) s3.heap.objs.size) { s3 with heap := pushCells (s3.heap.push { cls := .type "dict", data := .dict #[] }) scope.names }
  have nofp : ∀ b ∈ fp, (upd H2 D (DicO X.prog X.w D [])) b = none := fun b hb => (f3 b hb).1.1
  generalize ece : compEnvC scope (cellsFrom (s3.heap.objs.size + 1) scope.names (cloFrom X.env.cells scope.names [])) s3.heap.objs.size X.env = ce at I4 pg pt pk pv ⊢
  have loc : ce.locals = s3.heap.objs.size := by
    rw [← ece]
    rfl
  generalize eH3 : upd H2 D (DicO X.prog X.w D []) = H3 at I3 I4 pg pt pk pv w0 nofp f3
  generalize es4 : ({ s3 with heap := pushCells (s3.heap.push { cls := .type "dict", data := .dict #[] }) scope.names } : Shared) = s4 at I4 ⊢
  have st4 : tn 0 s4.heap := T.keep _ _ _ st3 fun b _ u e => es4 ▸ pushCells_keeps _ _ _ _ (Heap.get?_push_of_some _ e)
  have fpo : ∀ {τ : L2.St} {G : Hp} {t : Shared}, Inv (X.blk s3 H3 scope ce fp) [] τ G t → (∀ b ∈ fp, G b = none) → ∀ b ∈ fp, FpOk (X.blk s3 H3 scope ce fp) [] G b := fun {τ G t} J' n b hb =>
    ⟨n b hb, (J'.ok.exf b hb).1, J'.ok.exfs b hb, .inl hb, fun x c e => (J'.ok.exf b hb).2 x c e, fun p hp => absurd (show p ∈ ([] : List (Addr × Obj)) ++ [] from hp) (by simp)⟩
  refine codeAny_compStart_dict ?loop (T.self X.A 0 _ _ _ st4 ?loop)
  all_goals
    refine compLoop_anyD (fun n t => ∃ i G, Inv (X.blk s3 H3 scope ce fp) [] (wipe σ (own.map (·.2))) G t ∧ tn i t.heap ∧ (∀ b ∈ fp, G b = none) ∧ W i n G) ?_ m0 ⟨0, H3, I4, st4, nofp, w0⟩
    rintro n s5 ⟨i, H5, I5, st5, n5, w5⟩
    rcases turn i n H5 w5 with ⟨stop, fin⟩ | ⟨go, Nx, hNx, step⟩
    · refine thnF (T.done (X.blk s3 H3 scope ce fp) rfl rfl rfl hc i [] s5 _ H5 (fun _ _ => False) I5 (fpo I5 n5) st5 stop) ?_
      rintro r s6 ⟨rfl, I6⟩
      have I7 : Inv X pins σ H5 s6 := I3.call' (ch := fp) I6.os I6.base I6.hok I6.bare fun b hb => ⟨(f3 b hb).1.2.2.2.1, (f3 b hb).1.2.1, (f3 b hb).1.2.2.2.2.1, (f3 b hb).1.2.2.2.2.2⟩
      have nC : H5 s3.heap.objs.size = none := loc ▸ (show H5 ce.locals = none from I6.free)
      obtain ⟨m, hn, _⟩ := I6.loc
      have hn : s6.heap.Ns s3.heap.objs.size m := loc ▸ (show s6.heap.Ns ce.locals m from hn)
      obtain ⟨e0, e1, e2, e3, e4, e5⟩ := I3.fpOk (Nat.le_refl _) nC
      exact hRR D s3.heap.objs.size s6 m H5 I7 fin hn ⟨e0, e1, e2, e3, e4, e5⟩
    · refine thnF (T.item (X.blk s3 H3 scope ce fp) rfl rfl rfl hc i [] s5 _ H5 (fun _ _ => False) I5 (fpo I5 n5) st5 go) ?_
      rintro r s6 ⟨u, rfl, h6⟩
      refine thnF h6 ?_
      rintro _ s7 ⟨x, H7, I7, r7, y7, st7, n7⟩
      have P7 := I7.pinned (fpo I7 n7) (T.obj _ _ st7)
      refine thnF (pg.run _ s7 _ H7 x u _ P7 r7 (step x H7 y7)) ?_
      rintro _ s8 ⟨σ8, H8, I8, hw8, q8⟩
      refine thnF (pt.run _ s8 σ8 H8 _ I8 q8) ?_
      rintro c s9 ⟨H9, I9, q9⟩
      have next : ∀ {t : Shared} {G : Hp}, Inv (X.blk s3 H3 scope ce fp) ([] ++ pinsAt fp s7.heap) σ8 G t → Nx G → ∃ m, m < n ∧ ∃ i G, Inv (X.blk s3 H3 scope ce fp) [] (wipe σ (own.map (·.2))) G t ∧ tn i t.heap ∧ (∀ b ∈ fp, G b = none) ∧ W i m G := fun {t G} J' nx => by
        obtain ⟨m', hm, w'⟩ := hNx G nx
        have pins' : ∀ b ∈ fp, ∀ o, s7.heap.get? b = some o → t.heap.get? b = some o ∧ G b = none := fun b hb o e => by
          have z := J'.pin (b, o) (List.mem_append_right _ (List.mem_append_right _ (mem_pinsAt hb e)))
          exact ⟨z.1, z.2.1⟩
        have len : (wipe σ (own.map (·.2))).length = σ8.length := by rw [← hw8, wipe_length]
        refine ⟨m', hm, i + 1, G, (J'.unpinned (pins := [])).weak len (fun j v e => (wipe_some (hw8.symm ▸ e)).1), T.keep _ _ _ st7 fun b hb o e => (pins' b hb o e).1, fun b hb => ?_, w'⟩
        obtain ⟨o, e, _⟩ := T.obj _ _ st7 b hb
        exact (pins' b hb o e).2
      cases c with
      | false =>
        rw [if_neg Bool.false_ne_true] at q9
        exact next I9 q9
      | true =>
        rw [if_pos rfl] at q9
        refine thnF (pk.run _ s9 σ8 H9 _ I9 q9) ?_
        rintro z s10 ⟨yk, H10, I10, r10, q10⟩
        refine thnF (pv.run _ s10 σ8 H10 _ I10 q10) ?_
        rintro z2 s11 ⟨yv, H11, I11, r11, kvs, k, b, rfl, hD11, hin11, hb11, hk11, hz11, nx⟩
        obtain rfl : z = Value.ref b := r10
        exact dt_put (X := X.blk s3 H3 scope ce fp) (by exact hu) I11 hD11 hin11 hb11 hk11 hz11 r11 fun s12 I12 => next I12 nx

theorem sw_dict {kx vx : Expr} {gs : List Comprehension} {scope : Scope} {pos py : Pos} {y : Str} {l : Nat} {env : Env} (hk : env.scope.kind = .function) (hy : env.scope.names.lookup y = some .local) (hl : (py.line == pos.line) = true)
    (ha : (scope.names.any fun (n, k) => n == y && (k == .local || k == .cell)) = false) : swapsWith (.DictComp kx vx gs scope pos) (some (.Name y py)) l env = pure true := by
  have hb : env.blockKind = .function := by
    unfold Env.blockKind
    rw [hk]
    rfl
  unfold swapsWith
  simp only [hb, show env.kindOf y = some .local from hy, ha, Expr.pos, hl]
  rfl
theorem ps_setDc {i : Nat} {y : Str} {py : Pos} {kx vx tg iter : Expr} {ifs : List Expr} {scope : Scope} {own : List (Str × Nat)} {pos spos : Pos} {wi : TI} {g : TG} {tt : TT} {tk tv : TE} {P : Program} {w : World} (hc : X.calm = true) (hu : X.A.units + 64 < cLine) (hN : X.N.Nodup) (hy : X.N[i]? = some y) (hyl : X.env.scope.names.lookup y = some .local)
    (hsw : swapsWith (.DictComp kx vx [⟨tg, iter, ifs, 0⟩] scope pos) (some (.Name y py)) spos.line X.env = pure true) (pi : PI X tg iter wi) (ok : BlkOk X.N X.env.scope scope own) (eP : X.prog = P) (eW : X.w = w)
    (kg : ∀ s H C cl fp, PG (X.blk s H scope (compEnvC scope cl C X.env) fp) tg g)
    (kt : ∀ s H C cl fp, PTs (X.blk s H scope (compEnvC scope cl C X.env) fp) ifs tt)
    (kk : ∀ s H C cl fp, PE (X.blk s H scope (compEnvC scope cl C X.env) fp) kx tk)
    (kv : ∀ s H C cl fp, PE (X.blk s H scope (compEnvC scope cl C X.env) fp) vx tv)
    (nf : ∀ x, foldedSetIterable iter X.env x = pure x := by intro _; rfl) : PS X (.Assign [.Name y py] (.DictComp kx vx [⟨tg, iter, ifs, 0⟩] scope pos) spos) (tAsg (tDcT P w wi g tt tk tv (own.map (·.2))) (gName i)) := by
  refine ⟨fun pins s σ H D I hw => ?_⟩
  rw [exec_Assign_Name_used _ _ _ _ hsw]
  refine wpAny_bind (wpAny_standAt (wpAny_bind ?_))
  show wpAny _ X.A (do let _ ← comprehension (.DictComp kx vx [⟨tg, iter, ifs, 0⟩] scope pos) scope X.env (firstIterPos [⟨tg, iter, ifs, 0⟩] pos) newDict false (eval iter X.env) (some (assign (.Name y py) X.env))) _ _ s
  have hw : tDcT P w wi g tt tk tv (own.map (·.2)) σ H (fun x H1 => gName i x σ H1 D.nx) := hw
  refine wpAny_bind (thn (dc_core (Qf := fun _ t => SP X pins D .next t) hc hu hN pi ok eP eW kg kt kk kv nf I hw fun L C t m H2 I2 q hn f => ?_) fun _ t hq => wpAny_pure (wpAny_pure hq))
  show wpAny _ _ (assign (.Name y py) X.env (.ref L)) _ _ _
  refine wpAny_assign_Name (store_ok2 (v := V.ref L) I2 hN hy (.inl hyl) rfl (fun s3 I3 ⟨a, sb, ha⟩ => ?_) (.inr hyl))
  obtain ⟨f0, f1, f2, f3, f4, f5⟩ := f
  have off : C ≠ a := by
    rcases ha with z | z
    · rw [z]
      exact f1
    · exact fun e => f4 y a z e.symm
  exact ⟨m, hn.sameBut sb off, fun h3 sb3 => ⟨_, H2, I3.turned (t' := s3.toks) (fun b o hb e => (sb3.2 b hb).trans e) f0 f1 f3 f4 f5, q⟩⟩
end
end DL

namespace DL
open PySem L2 RZ PySem.Spec PyProof.Rows
/-! ### displays of tuples whose very object is known; tuples of known things -/
def tTupN (t : TA) : TE := fun σ H Q => t σ H fun xs H1 => xs.length ≤ sizeLine ∧ ∀ p o, H1 p = none → Obj.cls o = .type "tuple" → Obj.dict o = none → Q (.ref p) (upd H1 p (.frz o (.tup xs)))
theorem pe_tupN {X : Cx} {es : List Expr} {k : Nat} {pos : Pos} {t : TA} (h : PA X es t) : PE X (.Tuple es k pos) (tTupN t) := by
  refine ⟨fun pins s σ H Q I hq => wpAny_Tuple_spliced (thn (h.run pos pins s σ H _ I hq) ?_)⟩
  rintro us s1 ⟨xs, H1, I1, r, z, q⟩
  refine ⟨by rw [← r.length]; exact z, ?_⟩
  have fresh : H1 s1.heap.objs.size = none := I1.hok.fresh (Nat.le_refl _)
  refine ⟨.ref s1.heap.objs.size, _, I1.laid (t' := s1.toks) (o := .frz { cls := .type "tuple", data := .seq us.toArray } (.tup xs)) (fun b u e => Heap.get?_push_of_some _ e) (Nat.le_refl _) ⟨Heap.get?_push_size _ rfl, z, us, r, IsTup.new _ _⟩, rfl, q _ _ fresh rfl rfl⟩
/-- a tuple of known things -/
def tupS (K : PySem.W.Frag) (ss : List Sl) : Kn where
  φ F v := ∃ a vs, v = .ref a ∧ Rd F a (.tup vs) ∧ Paired (SV K F) vs ss
  mono s h := by
    obtain ⟨a, vs, e, g, r⟩ := h
    exact ⟨a, vs, e, rd_mono s g, paired_imp (fun _ _ x => sv_mono s x) r⟩
section
variable {K : PySem.W.Frag} {W : Wd} {H0 F0 F H : Hp} {ρ : Rho} {N : Ends2} {te td : TE} {P : Sl → Prop} {PN : List Sl → Prop} {Pg : Program} {w : World} {kvs : List (List Key × Sl)}
theorem ev_tupN {t : TA} (h : EvA K W H0 t ρ fun ss => ∃ ds, allDat ss = some ds ∧ ds.length ≤ sizeLine ∧ P (.kn (nicK K ds))) : Ev K W H0 (tTupN t) ρ P := fun σ F H o ho Q q =>
  h σ F H o ho _ fun vs F1 H1 ss o1 st1 hv ⟨ds, e, hl, p⟩ => by
    have hd := dpa_of hv e
    refine ⟨by rw [dpa_len hd]; exact hl, fun a u ha hc hx => ?_⟩
    obtain ⟨o2, st2⟩ := o1.new (u := .frz u (.tup vs)) ha
    exact q (.ref a) _ _ (.kn (nicK K ds)) o2 (st1.trans o1 st2) ⟨a, vs, rfl, ⟨u, upd_same, hc, hx⟩, dpa_mono st2.fz hd⟩ p
theorem ev_tupS {t : TA} (h : EvA K W H0 t ρ fun ss => (∀ s ∈ ss, SvK s) ∧ ss.length ≤ sizeLine ∧ P (.kn (tupS K ss))) : Ev K W H0 (tTup t) ρ P := fun σ F H o ho Q q =>
  h σ F H o ho _ fun vs F1 H1 ss o1 st1 hv ⟨hk, hl, p⟩ => by
    have el : vs.length = ss.length := Paired.length hv
    refine ⟨by rw [el]; exact hl, fun a ha => ?_⟩
    obtain ⟨o2, st2⟩ := o1.new (u := .tup vs) ha
    exact q (.ref a) _ _ (.kn (tupS K ss)) o2 (st1.trans o1 st2) ⟨a, vs, rfl, .inl upd_same, paired_imp (fun _ _ x => sv_mono st2.fz x) (pvok_sv hv hk)⟩ p
theorem evis_tup (h : Ev K W H0 td ρ fun s => ∃ ss, s = .kn (tupS K ss) ∧ PN ss) : EvIs K W H0 (iTup K td) ρ PN := fun σ F H o ho R q =>
  h σ F H o ho _ fun v F' H' s o' st hv ⟨ss, e, p⟩ => by
    subst e
    obtain ⟨a, xs, rfl, h1, h2⟩ := hv
    refine ⟨a, rfl, ⟨xs, Or.inl (rd_mono o'.sub h1)⟩, q _ F' H' ss o' st ⟨_, _, (Paired.length h2) ▸ walk_tup (K := K) (a := a) (xs := xs), fun F2 H2 o2 st2 => Or.inl (rd_mono (st2.trans o2.sub) h1), fun i x F2 H2 H3 hi o2 st2 y => ?_⟩ p⟩
    obtain ⟨rfl, hx⟩ := y
    obtain ⟨d, e1, e2⟩ := paired_sl h2 hx
    exact ⟨F2, d, o2, Step.refl o2, e1, sv_mono st2 e2⟩
theorem svs_dat : ∀ {vs : List V} {ds : List D}, Paired (SV K F) vs (ds.map .dat) → DpAll K F vs ds
  | [], [], _ => .nil
  | _ :: _, _ :: _, .cons h t => .cons h (svs_dat t)
/-- known things that are data -/
theorem evn_ofS {PD : List D → Prop} (h : EvNS K W H0 te ρ fun ss => ∃ ds, ss = ds.map .dat ∧ PD ds) : EvN K W H0 te ρ PD := fun σ F H o ho Q q =>
  h σ F H o ho Q fun p vs F' H' ss o' st hn hp hf hz hd ⟨ds, e, k⟩ => q p vs F' H' ds o' st hn hp hf hz (svs_dat (e ▸ hd)) k
theorem ops_isNot_dic (p : P (.dat (.bool true))) : OpS K W rIsNot (.kn (dicL K Pg w kvs)) (.dat .none) P := fun F H x y o hx hy Q q => by
  obtain ⟨a, od, vs, rfl, _⟩ := hx
  obtain rfl := dp_non hy
  refine ⟨rfl, ?_⟩
  rw [decide_eq_false (fun z => nomatch z)]
  exact q _ F H (.dat (.bool true)) o (Step.refl o) (.bl true) p
end
end DL

namespace DL
open PySem L2 RZ PySem.Spec PyProof.Rows
/-! ### sets of tuples of ints and texts -/
abbrev TpK (P : Program) (w : World) (h : Heap) (k : List Key) (a : Addr) : Prop := IsTupleKey (mixKind P w) h k a
abbrev tpH (P : Program) (w : World) (k : List Key) : Int := tupleKeyHash (mixKind P w) k
/-- an int or a text -/
def Flat1 : Value → Prop
  | .int _ _ => True
  | .str _ _ => True
  | _ => False
section
variable {P : Program} {w : World} {A : Around} {E : Value → Shared → Prop} {s : Shared}
theorem flat_items {k : List Key} {vs : List Value} (h : ItemsAre (mixKind P w) k vs) : ∀ v ∈ vs, Flat1 v := by
  induction h with
  | nil => exact fun v m => nomatch m
  | cons h1 _ ih =>
    intro v m
    rcases List.mem_cons.mp m with rfl | m
    · rcases keyIs_shape h1 with ⟨i, t, _, rfl⟩ | ⟨x, t, _, rfl⟩ <;> trivial
    · exact ih v m
theorem flat_cls {v : Value} (n : Nat) (h : Flat1 v) : ofAClassStatement n v = pure false := by
  cases v <;> first | exact h.elim | (cases n <;> rfl)
/-- whether a hash is by value: an int's is, a text's is not -/
def byVal1 : Value → Bool
  | .int _ _ => true
  | _ => false
theorem flat_hash {v : Value} (n : Nat) (h : Flat1 v) : hashByValue n v = pure (byVal1 v) := by
  cases v <;> first | exact h.elim | (cases n <;> rfl)
theorem tp_cls {k : List Key} {b : Addr} {Q : Bool → Shared → Prop} (x : TpK P w s.heap k b) (q : Q false s) : wpAny (model P w) A (ofAClassStatement 8 (.ref b)) Q E s := by
  have ty := x.typeIs
  obtain ⟨o, its, n, g, _, dat, its_are⟩ := x
  unfold ofAClassStatement
  refine wpAny_bind (wpAny_typeOf ty ?_)
  dsimp only
  simp only [show (("tuple" : String) == "tuple") = true by decide, if_true, Bool.not_true, Bool.false_eq_true, if_false]
  try refine wpAny_bind (wpAny_pure ?_)
  show wpAny _ _ (seqItems? (.ref b) >>= _) _ _ s
  refine wpAny_bind (wpAny_seqItems g dat ?_)
  dsimp only
  refine wpAny_bind ?_
  show wpAny _ _ (forIn its _ _) _ _ s
  rw [← Array.forIn_toList]
  refine wpAny_forIn_list _ (fun rest r t => r.1 = none ∧ t = s ∧ ∀ v ∈ rest, Flat1 v) _ ?_ ?_ _ _ ⟨rfl, rfl, flat_items its_are⟩
  · rintro v rest r t ⟨_, rfl, fl⟩
    rw [flat_cls _ (fl v List.mem_cons_self)]
    refine wpAny_bind (wpAny_pure ?_)
    simp only [Bool.false_eq_true, if_false]
    exact wpAny_pure ⟨rfl, rfl, fun u m => fl u (List.mem_cons_of_mem _ m)⟩
  · rintro ⟨r1, r2⟩ t ⟨e, rfl, _⟩
    obtain rfl : r1 = none := e
    exact wpAny_pure q
theorem tp_byVal {k : List Key} {b : Addr} {Q : Bool → Shared → Prop} (x : TpK P w s.heap k b) (q : ∀ y, Q y s) : wpAny (model P w) A (hashByValue 8 (.ref b)) Q E s := by
  have ty := x.typeIs
  obtain ⟨o, its, n, g, _, dat, its_are⟩ := x
  unfold hashByValue
  refine wpAny_bind (wpAny_specialOf ty F.slot_tuple_hash.lookup ?_)
  show wpAny _ _ (seqItems? (.ref b) >>= _) _ _ s
  refine wpAny_bind (wpAny_seqItems g dat ?_)
  refine wpAny_bind ?_
  show wpAny _ _ (forIn its _ _) _ _ s
  rw [← Array.forIn_toList]
  refine wpAny_forIn_list _ (fun rest r t => t = s ∧ ∀ v ∈ rest, Flat1 v) _ ?_ ?_ _ _ ⟨rfl, flat_items its_are⟩
  · rintro v rest r t ⟨rfl, fl⟩
    rw [flat_hash _ (fl v List.mem_cons_self)]
    refine wpAny_bind (wpAny_pure ?_)
    cases byVal1 v
    · simp only [Bool.not_false, if_true]
      refine wpAny_pure ?_
      exact wpAny_pure (q false)
    · simp only [Bool.not_true, Bool.false_eq_true, if_false]
      exact wpAny_pure ⟨rfl, fun u m => fl u (List.mem_cons_of_mem _ m)⟩
  · rintro ⟨r1, r2⟩ t ⟨rfl, _⟩
    cases r1 <;> exact wpAny_pure (q _)
theorem tp_unseen {k : List Key} {b : Addr} {Q : Bool → Shared → Prop} (x : TpK P w s.heap k b) {ys : List Value} (hy : ∀ y ∈ ys, ∃ k' c, y = Value.ref c ∧ TpK P w s.heap k' c) (q : Q false s) : wpAny (model P w) A (searchCouldBeSeen (.ref b) ys) Q E s := by
  unfold searchCouldBeSeen
  refine wpAny_bind ?_
  refine wpAny_forIn_list _ (fun rest r t => r.1 = none ∧ t = s ∧ ∀ y ∈ rest, ∃ k' c, y = Value.ref c ∧ TpK P w s.heap k' c) _ ?_ ?_ _ _ ⟨rfl, rfl, hy⟩
  · rintro y rest r t ⟨_, rfl, all⟩
    obtain ⟨k', c, rfl, xc⟩ := all y List.mem_cons_self
    have tail : ∀ y ∈ rest, ∃ k' c, y = Value.ref c ∧ TpK P w t.heap k' c := fun u m => all u (List.mem_cons_of_mem _ m)
    dsimp only
    by_cases same : (b == c || (carriedByValue (.ref b) && carriedByValue (.ref c))) = true
    · exact wp_if_pos same (wpAny_pure ⟨rfl, rfl, tail⟩)
    · refine wp_if_neg same (wpAny_bind (wpAny_eqIsQuiet_tuple x ?_))
      simp only [Bool.not_true, Bool.false_eq_true, if_false]
      refine wpAny_bind (wpAny_eqIsQuiet_tuple xc ?_)
      simp only [Bool.not_true, Bool.false_eq_true, if_false]
      refine wpAny_bind (tp_cls x ?_)
      simp only [Bool.false_eq_true, if_false]
      refine wpAny_bind (tp_cls xc ?_)
      simp only [Bool.false_eq_true, if_false]
      exact wpAny_pure ⟨rfl, rfl, tail⟩
  · rintro ⟨r1, r2⟩ t ⟨e, rfl, _⟩
    obtain rfl : r1 = none := e
    exact wpAny_pure q
end
/-! ### the set, its rows -/
abbrev TL := List (Addr × List Key)
def rowH (P : Program) (w : World) (p : Addr × List Key) : Int × Value := (tpH P w p.2, Value.ref p.1)
/-- the set at a: its tuples by their places in the table -/
structure TSet (P : Program) (w : World) (h : Heap) (a : Addr) (L : TL) (o : Obj) (es : Array (Int × Value)) (ep : Nat) (t : SetTable) : Prop where
  at_ : h.get? a = some o
  ex : o.ExactSet
  dat : o.data = .set es ep t
  rows : es.toList = L.map (rowH P w)
  tab : TabOk t (L.map fun p => tpH P w p.2)
  nd : (L.map (·.2)).Nodup
  led : w.params.followText "set-order" = true ∨ t.led = true
  room : L.length * 5 < t.mask * 3
  few : L.length < 64
def TupsIn (P : Program) (w : World) (h : Heap) (L : TL) : Prop := ∀ p ∈ L, TpK P w h p.2 p.1
section
variable {P : Program} {w : World} {A : Around} {E : Value → Shared → Prop} {s : Shared} {a : Addr} {L : TL} {o : Obj} {es : Array (Int × Value)} {ep : Nat} {t : SetTable}
theorem TSet.size {h : Heap} (R : TSet P w h a L o es ep t) : es.size = L.length := by
  rw [← Array.length_toList, R.rows, List.length_map]
theorem fits_of (h1 : t.place.size = es.size) (h2 : t.dummies = #[]) (h3 : es.size ≤ t.mask) : t.fits es.size = true := by
  unfold SetTable.fits SetTable.fill
  rw [h2, Bool.and_eq_true, beq_iff_eq, decide_eq_true_eq]
  exact ⟨h1, by show t.place.size + 0 ≤ _; omega⟩
theorem TSet.fits {h : Heap} (R : TSet P w h a L o es ep t) : t.fits es.size = true := by
  have h1 := R.tab.sz
  have h2 := R.size
  have h3 := R.room
  rw [List.length_map] at h1
  exact fits_of (by omega) R.tab.dm (by omega)
theorem TSet.row {h : Heap} (R : TSet P w h a L o es ep t) {i : Nat} {p : Addr × List Key} (e : L[i]? = some p) : es[i]? = some (tpH P w p.2, Value.ref p.1) := by
  rw [← Array.getElem?_toList, R.rows, List.getElem?_map, e]
  rfl
end
end DL

namespace DL
open PySem L2 RZ PySem.Spec PyProof.Rows
/-! ### looking for a tuple in a set, and putting one in -/
/-- the c-th stop of a hash's way through a table -/
def stop (m : Nat) (h : Int) (c : Nat) : SetTable.Probe := nth m (runAt m (SetTable.bits h % (m + 1)) (SetTable.bits h)) c
theorem stop_j (m : Nat) (h : Int) (c : Nat) : (stop m h c).j = way m h c := rfl
theorem stop_on (m : Nat) (h : Int) (c q : Nat) : nth m (stop m h c) q = stop m h (c + q) := (nth_add m c _ q).symm
theorem stop_nd (m : Nat) (h : Int) (c : Nat) : (stop m h c).dummy = none := by
  have all : ∀ (n : Nat) (p : SetTable.Probe), p.dummy = none → (nth m p n).dummy = none := by
    intro n
    induction n with
    | zero => exact fun _ e => e
    | succ n ih =>
      intro p e
      refine ih (adv m p) ?_
      unfold adv
      split <;> exact e
  exact all c _ rfl
/-- the first empty place on the way -/
structure Gap (t : SetTable) (h : Int) (K : Nat) : Prop where
  few : K < 10 * SetTable.turns t.mask
  gap : way t.mask h K ∉ t.place.toList
  full : ∀ c, c < K → way t.mask h c ∈ t.place.toList
section
variable {P : Program} {w : World} {A : Around} {E : Value → Shared → Prop} {s : Shared} {a : Addr} {L : TL} {o : Obj} {es : Array (Int × Value)} {ep : Nat} {t : SetTable}
theorem TSet.opn {h : Heap} (R : TSet P w h a L o es ep t) : ¬ t.gaveWay = true := by
  unfold SetTable.gaveWay
  rw [mask_odd R.tab.mok]
  decide
theorem TSet.len {h : Heap} (R : TSet P w h a L o es ep t) : t.place.toList.length = L.length := by
  have e := R.tab.sz
  rw [List.length_map] at e
  rw [Array.length_toList, e]
theorem TSet.gapAt {h : Heap} (R : TSet P w h a L o es ep t) (x : Int) : ∃ K, Gap t x K := by
  have r := R.room
  obtain ⟨K, h1, h2, h3⟩ := R.tab.first (by rw [List.length_map]; omega) x
  exact ⟨K, h1, h2, h3⟩
/-- the rows of key k are met from the c-th stop on -/
def Still (t : SetTable) (h : Int) (K : Nat) (L : TL) (k : List Key) (c : Nat) : Prop :=
  ∀ (i : Nat) (p : Addr × List Key), L[i]? = some p → p.2 = k → ∃ c', c ≤ c' ∧ c' < K ∧ t.place.toList[i]? = some (way t.mask h c')
theorem TSet.still {h : Heap} (R : TSet P w h a L o es ep t) {k : List Key} {K : Nat} (g : Gap t (tpH P w k) K) : Still t (tpH P w k) K L k 0 := by
  intro i p e ek
  have l := R.len
  have hi : i < L.length := (List.getElem?_eq_some_iff.mp e).1
  have hj := List.getElem?_eq_getElem (show i < t.place.toList.length by omega)
  have hh : (L.map fun p => tpH P w p.2)[i]? = some (tpH P w k) := by rw [List.getElem?_map, e, ← ek]; rfl
  obtain ⟨c, c1, c2⟩ := R.tab.before g.gap hh hj
  exact ⟨c, Nat.zero_le _, c1, by rw [hj, c2]⟩
theorem find_go (R : TSet P w s.heap a L o es ep t) (T : TupsIn P w s.heap L) {x : Addr} {k : List Key} (hx : TpK P w s.heap k x) (hu : A.units < cLine) {K : Nat} (g : Gap t (tpH P w k) K) {Q : SetFound → Shared → Prop}
    (yes : k ∈ L.map (·.2) → Q (.there none) s) (no : k ∉ L.map (·.2) → Q (.free (way t.mask (tpH P w k) K) false) s) :
    ∀ (f c : Nat) (at' : Option SetTable.Probe), at'.getD (t.probeStart (tpH P w k)) = stop t.mask (tpH P w k) c → c ≤ K → K - c < f → Still t (tpH P w k) K L k c →
      wpAny (model P w) A (setSearchFrom a (.ref x) (tpH P w k) true f at') Q E s := by
  intro f
  induction f with
  | zero => exact fun c at' _ _ l _ => absurd l (Nat.not_lt_zero _)
  | succ f ih =>
    intro c at' here cK fuel st
    rw [setSearchFrom_succ]
    refine wpAny_bind (wpAny_setState_of R.at_ R.dat R.fits ?_)
    dsimp only
    refine wp_if_neg R.opn ?_
    try refine wpAny_bind (wpAny_pure ?_)
    have hashOf : ∀ (i : Nat) (p : Addr × List Key), L[i]? = some p → (es[i]?.map (·.1)).getD 0 = tpH P w p.2 := fun i p e => by rw [R.row e]; rfl
    have sp := go_spec t R.tab.ris R.tab.dm (fun i => (es[i]?.map (·.1)).getD 0) (tpH P w k) (10 * SetTable.turns t.mask) (K - c) (stop t.mask (tpH P w k) c) (stop_nd ..) (by have := g.few; omega)
      (fun q l => by rw [stop_on, stop_j]; exact g.full _ (by omega)) (by rw [stop_on, stop_j, show c + (K - c) = K by omega]; exact g.gap)
    rcases sp with ⟨q, i, qK, here2, _, skipped, probed⟩ | ⟨skipped, probed⟩
    · rw [stop_on, stop_j] at here2
      rw [stop_on, stop_on, stop_j] at probed
      have e0 : t.probe (fun i => (es[i]?.map (·.1)).getD 0) (tpH P w k) (at'.getD (t.probeStart (tpH P w k))) = some (.candidate (way t.mask (tpH P w k) (c + q)) i (stop t.mask (tpH P w k) (c + (q + 1)))) := by rw [here]; exact probed
      rw [e0]
      dsimp only
      have iL : i < L.length := by
        have := (List.getElem?_eq_some_iff.mp here2).1
        have := R.len
        omega
      obtain ⟨p, ep1⟩ : ∃ p, L[i]? = some p := ⟨_, List.getElem?_eq_getElem iL⟩
      have pL : p ∈ L := List.mem_of_getElem? ep1
      have go : wpAny (model P w) A (searchRest a (.ref x) (tpH P w k) true f es t (way t.mask (tpH P w k) (c + q)) i (stop t.mask (tpH P w k) (c + (q + 1)))) Q E s := by
        unfold searchRest
        rw [R.row ep1]
        dsimp only
        refine wpAny_bind (wpAny_holding (wpAny_eqBool_tuple hu (T p pL) hx ?_))
        refine wpAny_bind (wpAny_setState_of R.at_ R.dat R.fits ?_)
        dsimp only
        by_cases same : p.2 = k
        · refine wp_if_pos (by simp [same]) ?_
          exact wpAny_pure (yes (List.mem_map.mpr ⟨p, pL, same⟩))
        · refine wp_if_neg (by simp [same]) ?_
          try refine wpAny_bind (wpAny_pure ?_)
          rw [sameMem]
          have lv : t.slot (way t.mask (tpH P w k) (c + q)) = .live i := slot_live R.tab.ris here2
          simp only [if_true, lv, R.row ep1]
          refine wpAny_bind (wpAny_isSame_ref_self (wpAny_bind (wpAny_pure ?_)))
          simp only [if_true]
          refine wp_if_neg (by simp [same]) ?_
          refine ih (c + (q + 1)) _ rfl (by omega) (by omega) fun i0 p0 e1 e2 => ?_
          obtain ⟨c', le, lt, at0⟩ := st i0 p0 e1 e2
          refine ⟨c', ?_, lt, at0⟩
          rcases Nat.lt_trichotomy c' (c + q) with z | z | z
          · refine absurd ?_ (skipped (c' - c) i0 (by omega) (by rw [stop_on, stop_j, show c + (c' - c) = c' by omega]; exact at0))
            rw [hashOf i0 p0 e1, e2]
          · rw [z] at at0
            have lv0 := slot_live R.tab.ris at0
            rw [lv] at lv0
            injection lv0 with lv0
            rw [← lv0, ep1] at e1
            exact absurd (by rw [Option.some.inj e1]; exact e2) same
          · omega
      by_cases led : t.led = true
      · refine wp_if_neg (by simp [led]) ?_
        try refine wpAny_bind (wpAny_pure ?_)
        exact go
      · refine wp_if_pos (by simp [led]) ?_
        refine wpAny_bind (tp_unseen hx (fun y m => ?_) ?_)
        · obtain ⟨e, m1, rfl⟩ := List.mem_map.mp m
          have m2 : e ∈ es ∧ e.1 = tpH P w k := by simpa using m1
          have m3 : e ∈ es.toList := by simpa using m2.1
          rw [R.rows] at m3
          obtain ⟨r, m4, rfl⟩ := List.mem_map.mp m3
          exact ⟨r.2, r.1, rfl, T r m4⟩
        · refine wp_if_neg (by decide) ?_
          try refine wpAny_bind (wpAny_pure ?_)
          exact go
    · rw [stop_on, stop_j, show c + (K - c) = K by omega] at probed
      have e0 : t.probe (fun i => (es[i]?.map (·.1)).getD 0) (tpH P w k) (at'.getD (t.probeStart (tpH P w k))) = some (.empty (way t.mask (tpH P w k) K) none) := by rw [here]; exact probed
      rw [e0]
      refine wpAny_pure (no fun m => ?_)
      obtain ⟨p, pL, ek⟩ := List.mem_map.mp m
      obtain ⟨i, e⟩ := List.mem_iff_getElem?.mp pL
      obtain ⟨c', le, lt, at0⟩ := st i p e ek
      refine absurd ?_ (skipped (c' - c) i (by omega) (by rw [stop_on, stop_j, show c + (c' - c) = c' by omega]; exact at0))
      rw [hashOf i p e, ek]
theorem find_at (R : TSet P w s.heap a L o es ep t) (T : TupsIn P w s.heap L) {x : Addr} {k : List Key} (hx : TpK P w s.heap k x) (hu : A.units < cLine) {Q : SetFound → Shared → Prop}
    (yes : k ∈ L.map (·.2) → Q (.there none) s) (no : ∀ K, k ∉ L.map (·.2) → Gap t (tpH P w k) K → Q (.free (way t.mask (tpH P w k) K) false) s) :
    wpAny (model P w) A (setSearch a (.ref x) (tpH P w k) true) Q E s := by
  obtain ⟨K, g⟩ := R.gapAt (tpH P w k)
  have few : K < 100000 := by
    have h1 := g.few
    have h2 : 10 * SetTable.turns t.mask ≤ 1420 := by
      unfold SetTable.turns
      rcases R.tab.mok with e | e | e <;> omega
    omega
  exact find_go R T hx hu g yes (fun n => no K n g) 100000 0 none rfl (Nat.zero_le _) (by omega) (R.still g)
end
end DL

namespace DL
open PySem L2 RZ PySem.Spec PyProof.Rows
/-! ### a table laid anew, a tuple put in -/
theorem pick_all {α : Type} (l : List α) : (List.range l.length).filterMap (fun i => l[i]?) = l := by
  have go : ∀ n, n ≤ l.length → (List.range n).filterMap (fun i => l[i]?) = l.take n := by
    intro n
    induction n with
    | zero => intro _; rfl
    | succ n ih =>
      intro le
      rw [List.range_succ, List.filterMap_append, ih (by omega), List.take_succ]
      have e := List.getElem?_eq_getElem (show n < l.length by omega)
      simp [e]
  rw [go _ (Nat.le_refl _), List.take_length]
theorem put_in {α : Type} (l : List α) (i : Nat) (x : α) : (l.take i ++ x :: l.drop i).Perm (x :: l) := by
  have e : (l.take i ++ x :: l.drop i).Perm (x :: (l.take i ++ l.drop i)) := List.perm_middle
  rwa [List.take_append_drop] at e
section
variable {P : Program} {w : World} {A : Around} {E : Value → Shared → Prop} {s : Shared} {a : Addr} {L : TL} {o : Obj} {es : Array (Int × Value)} {ep : Nat} {t : SetTable}
theorem picked (rows : es.toList = L.map (rowH P w)) : ∀ l : List Nat, (∀ i ∈ l, i < L.length) →
    l.filterMap (fun i => es[i]?) = (l.filterMap fun i => L[i]?).map (rowH P w) ∧ (l.filterMap fun i => L[i]?).map (fun p => tpH P w p.2) = l.map fun i => (es.map (·.1)).getD i 0 := by
  intro l
  induction l with
  | nil => exact fun _ => ⟨rfl, rfl⟩
  | cons i l ih =>
    intro all
    obtain ⟨h1, h2⟩ := ih fun j m => all j (List.mem_cons_of_mem _ m)
    obtain ⟨p, e1⟩ : ∃ p, L[i]? = some p := ⟨_, List.getElem?_eq_getElem (all i List.mem_cons_self)⟩
    have e2 : es[i]? = some (rowH P w p) := by rw [← Array.getElem?_toList, rows, List.getElem?_map, e1]; rfl
    have e3 : (es.map (·.1)).getD i 0 = tpH P w p.2 := by
      have e4 : (es.map (·.1))[i]? = some (tpH P w p.2) := by rw [Array.getElem?_map, e2]; rfl
      simp [Array.getD_eq_getD_getElem?, e4]
    refine ⟨?_, ?_⟩
    · rw [List.filterMap_cons_some e2, List.filterMap_cons_some e1, List.map_cons, h1]
    · rw [List.filterMap_cons_some e1, List.map_cons, List.map_cons, h2, e3]
theorem tp_other {h h' : Heap} {k : List Key} {b : Addr} (x : TpK P w h k b) (ho : h.get? a = some o) (hd : o.data = .set es ep t) (sb : Heap.SameBut a h h') : TpK P w h' k b := by
  obtain ⟨o', its, n, g, rest⟩ := x
  refine ⟨o', its, n, ?_, rest⟩
  rw [sb.2 b ?_]
  · exact g
  · rintro rfl
    rw [ho] at g
    obtain rfl := Option.some.inj g
    rw [hd] at rest
    exact nomatch rest.2.1
theorem tp_kept {h h' : Heap} {k : List Key} {b : Addr} (x : TpK P w h k b) (kp : ∀ c u, h.get? c = some u → h'.get? c = some u) : TpK P w h' k b := by
  obtain ⟨o', its, n, g, rest⟩ := x
  exact ⟨o', its, n, kp _ _ g, rest⟩
theorem relay_to (ho : s.heap.get? a = some o) (hex : o.ExactSet) (hd : o.data = .set es ep t) (rows : es.toList = L.map (rowH P w)) (sz : t.place.size = es.size) (dm : t.dummies = #[]) (fl : es.size ≤ t.mask)
    (nd : (L.map (·.2)).Nodup) (led : w.params.followText "set-order" = true ∨ t.led = true) (few : L.length < 64) {wanted M : Nat}
    (hw : SetTable.sizeAbove wanted - 1 = M) (hM : MaskOk M) (hw2 : SetTable.sizeAbove wanted ≤ 128) (room : L.length * 5 < M * 3) {Q : Unit → Shared → Prop}
    (q : ∀ h' L' o' es' ep' t', Heap.SameBut a s.heap h' → TSet P w h' a L' o' es' ep' t' → L'.Perm L → Q () { s with heap := h' }) : wpAny (model P w) A (setRelay a wanted) Q E s := by
  have sL : es.size = L.length := by rw [← Array.length_toList, rows, List.length_map]
  obtain ⟨t', order, e, pm, T, em, el, _, _⟩ := relaid_ok t (hs := es.map (·.1)) (wanted := wanted) hw hM (by rw [Array.size_map, sL]; omega)
  rw [Array.size_map, sL] at pm
  obtain ⟨r1, r2⟩ := picked rows order.toList fun i m => List.mem_range.mp (pm.mem_iff.mp m)
  have pL : (order.toList.filterMap fun i => L[i]?).Perm L := by
    have h1 : (order.toList.filterMap fun i => L[i]?).Perm ((List.range L.length).filterMap fun i => L[i]?) := pm.filterMap _
    rwa [pick_all] at h1
  generalize order.toList.filterMap (fun i => L[i]?) = L2 at r1 r2 pL
  rw [← r2] at T
  have r3 : (order.filterMap (es[·]?)).toList = L2.map (rowH P w) := by first | (rw [Array.toList_filterMap]; exact r1) | simpa using r1
  have s2 : (order.filterMap (es[·]?)).size = es.size := by rw [← Array.length_toList, r3, List.length_map, pL.length_eq, sL]
  rw [setRelay_eq]
  refine wpAny_bind (wpAny_setState_of ho hd (fits_of sz dm fl) ?_)
  dsimp only
  refine wp_if_neg (by rw [sizeLine_eq]; omega) ?_
  try refine wpAny_bind (wpAny_pure ?_)
  rw [e]
  dsimp only
  refine wpAny_bind ?_
  refine wp_if_neg (by rw [s2]; simp) ?_
  try refine wpAny_bind (wpAny_pure ?_)
  refine wpAny_pure ?_
  dsimp only
  refine wpAny_storeSet_of ho hd ?_ (by rw [s2, sL, sizeLine_eq]; omega)
  refine q _ L2 _ (order.filterMap (es[·]?)) (ep + 1) t' (Heap.SameBut.update ..) ⟨store_at ho hd, ⟨hex.1, hex.2.1, hex.2.2⟩, rfl, r3, T, (pL.map (·.2)).nodup_iff.mpr nd, by rw [el]; exact led, ?_, by rw [pL.length_eq]; exact few⟩ pL
  rw [pL.length_eq, em]
  exact room
/-- putting a tuple in -/
theorem put_go (R : TSet P w s.heap a L o es ep t) (T : TupsIn P w s.heap L) {x : Addr} {k : List Key} (hx : TpK P w s.heap k x) (hu : A.units < cLine) (few : k ∉ L.map (·.2) → L.length + 1 < 64) {Q : Bool → Shared → Prop}
    (q : ∀ b h' L' o' es' ep' t', Heap.SameBut a s.heap h' → TSet P w h' a L' o' es' ep' t' → (k ∈ L.map (·.2) → L' = L) → (k ∉ L.map (·.2) → L'.Perm ((x, k) :: L)) → Q b { s with heap := h' }) :
    wpAny (model P w) A (setAddHashed a (.ref x) (tpH P w k)) Q E s := by
  unfold setAddHashed
  refine wpAny_holding ?_
  rw [show (100000 : Nat) = 99999 + 1 from rfl, setAddHashedIn_succ]
  refine wpAny_bind (wpAny_setState_of R.at_ R.dat R.fits ?_)
  dsimp only
  refine wp_if_neg (by simp [byScan, Value.scannable]) ?_
  try refine wpAny_bind (wpAny_pure ?_)
  refine wpAny_bind (find_at R T hx hu (fun m => ?_) fun K m g => ?_)
  · dsimp only
    exact wpAny_pure (q false s.heap L o es ep t (Heap.SameBut.refl a s.heap) R (fun _ => rfl) fun z => absurd m z)
  dsimp only
  refine wpAny_bind (wpAny_setState_of R.at_ R.dat R.fits ?_)
  dsimp only
  replace few := few m
  obtain ⟨p1, p2, p3, p4, p5, _, _, _, p9⟩ := R.tab.put g.gap g.full
  generalize t.put (way t.mask (tpH P w k) K) = tp at p1 p3 p4 p5 p9 ⊢
  obtain ⟨t1, i⟩ := tp
  dsimp only at p1 p3 p4 p5 p9 ⊢
  rw [← p1] at p2 p3
  rw [List.length_map] at p2 p9
  have pm := put_in L i (x, k)
  have hh : (L.take i ++ (x, k) :: L.drop i).map (fun p => tpH P w p.2) = (L.map fun p => tpH P w p.2).take i ++ tpH P w k :: (L.map fun p => tpH P w p.2).drop i := by
    rw [List.map_append, List.map_cons, List.map_take, List.map_drop]
  rw [← hh] at p3
  have nd1 : ((L.take i ++ (x, k) :: L.drop i).map (·.2)).Nodup := by
    refine (pm.map (·.2)).nodup_iff.mpr ?_
    rw [List.map_cons]
    exact List.nodup_cons.mpr ⟨m, R.nd⟩
  have rows1 : (SetTable.insertAt es i (tpH P w k, Value.ref x)).toList = (L.take i ++ (x, k) :: L.drop i).map (rowH P w) := by
    rw [SetTable.toList_insertAt, R.rows, List.map_append, List.map_cons, List.map_take, List.map_drop]
    rfl
  have sz0 := R.size
  have room := R.room
  generalize SetTable.insertAt es i (tpH P w k, Value.ref x) = es1 at rows1 ⊢
  generalize L.take i ++ (x, k) :: L.drop i = L1 at pm p3 nd1 rows1
  have n1 : L1.length = L.length + 1 := pm.length_eq
  have n2 : es1.size = L.length + 1 := by rw [← Array.length_toList, rows1, List.length_map, n1]
  have core : ∀ t2 : SetTable, TabOk t2 (L1.map fun p => tpH P w p.2) → t2.mask = t.mask → t2.led = t.led → t2.fill = L.length + 1 →
      wpAny (model P w) A (storeSet a es1 t2 >>= fun _ => (if (!false && t2.tooFull) = true then (do
        setRelay a (SetTable.grown (es.size + 1))
        pure true) else pure true)) Q E s := by
    intro t2 T2 m2 l2 f2
    refine wpAny_bind (wpAny_storeSet_of R.at_ R.dat ?_ (by rw [n2, sizeLine_eq]; omega))
    have sb : Heap.SameBut a s.heap (s.heap.update a (Obj.putSet es1 t2)) := Heap.SameBut.update ..
    have at1 := store_at (es' := es1) (t' := t2) R.at_ R.dat
    generalize s.heap.update a (Obj.putSet es1 t2) = h1 at sb at1 ⊢
    have led1 : w.params.followText "set-order" = true ∨ t2.led = true := by rw [l2]; exact R.led
    have ex1 : Obj.ExactSet { o with data := .set es1 (ep + 1) t2 } := ⟨R.ex.1, R.ex.2.1, R.ex.2.2⟩
    by_cases full : t2.tooFull = true
    · refine wp_if_pos (by simp [full]) ?_
      have full2 : (L.length + 1) * 5 ≥ t2.mask * 3 := by
        have z := full
        unfold SetTable.tooFull at z
        rw [decide_eq_true_eq, f2] at z
        exact z
      have sz1 : t2.place.size = es1.size := by
        have z := T2.sz
        rw [List.length_map, n1] at z
        rw [z, n2]
      have two : (t.mask = 7 ∧ L.length = 4) ∨ (t.mask = 31 ∧ L.length = 18) := by
        rw [m2] at full2
        rcases R.tab.mok with e | e | e <;> rw [e] at full2 room
        · exact Or.inl ⟨e, by omega⟩
        · exact Or.inr ⟨e, by omega⟩
        · omega
      rw [sz0]
      have on : ∀ M, SetTable.sizeAbove (SetTable.grown (L.length + 1)) = M + 1 → MaskOk M → M ≤ 127 → (L.length + 1) * 5 < M * 3 →
          wpAny (model P w) A (setRelay a (SetTable.grown (L.length + 1)) >>= fun _ => pure true) Q E { s with heap := h1 } := by
        intro M e1 e2 e3 e4
        refine wpAny_bind (relay_to (s := { s with heap := h1 }) at1 ex1 rfl rows1 sz1 T2.dm (by rw [n2, m2]; rcases two with ⟨e, e'⟩ | ⟨e, e'⟩ <;> omega) nd1 led1 (by omega) (by rw [e1]; rfl) e2 (by omega) (by omega) ?_)
        intro h2 L2 o2 es2 ep2 t2 sb2 R2 pm2
        exact wpAny_pure (q true h2 L2 o2 es2 ep2 t2 (sb.trans sb2) R2 (fun z => absurd z m) fun _ => pm2.trans pm)
      rcases two with ⟨_, e⟩ | ⟨_, e⟩
      · exact on 31 (by rw [e, size_20]) (.inr (.inl rfl)) (by omega) (by omega)
      · exact on 127 (by rw [e, size_76]) (.inr (.inr rfl)) (by omega) (by omega)
    · refine wp_if_neg (by simp [full]) ?_
      refine wpAny_pure (q true h1 L1 _ es1 (ep + 1) t2 sb ⟨at1, ex1, rfl, rows1, T2, nd1, led1, ?_, by omega⟩ (fun z => absurd z m) fun _ => pm)
      have z := full
      unfold SetTable.tooFull at z
      rw [decide_eq_true_eq, f2] at z
      omega
  have dull : TabOk { t1 with plain := false } (L1.map fun p => tpH P w p.2) := ⟨p3.ris, p3.dm, p3.sz, p3.mok, p3.bd, p3.reach⟩
  by_cases pl : t1.plain = true
  · refine wp_if_pos pl (wpAny_bind (tp_byVal hx fun y => ?_))
    cases y
    · exact core _ dull p4 p5 p9
    · exact core _ p3 p4 p5 p9
  · refine wp_if_neg pl (wpAny_bind (wpAny_pure ?_))
    exact core _ p3 p4 p5 p9
end
end DL

namespace DL
open PySem L2 RZ PySem.Spec PyProof.Rows PySem.W PySem.Calls
/-! ### sorted of a set of tuples -/
theorem reads_items {P : Program} {w : World} {h : Heap} {k : List Key} {vs : List Value} (x : ItemsAre (mixKind P w) k vs) : ∃ as, ReadsAll h vs (k.map kd) as := by
  induction x with
  | nil => exact ⟨_, .nil⟩
  | cons h1 _ ih =>
    obtain ⟨as, r⟩ := ih
    rcases keyIs_shape h1 with ⟨i, t, rfl, rfl⟩ | ⟨y, t, rfl, rfl⟩
    · exact ⟨_, .cons (.int i t) r⟩
    · exact ⟨_, .cons (.str y t) r⟩
theorem tp_reads {P : Program} {w : World} {h : Heap} {k : List Key} {b : Addr} (x : TpK P w h k b) : ∃ as, Reads h (.ref b) (kD k) as := by
  obtain ⟨o, its, n, g, c, d, i⟩ := x
  obtain ⟨as, r⟩ := reads_items (h := h) i
  exact ⟨as, .tuple g c d r⟩
theorem kd_depth : ∀ k : Key, (kd k).depth = 0
  | .inl _ => rfl
  | .inr _ => rfl
theorem kD_depth (k : List Key) : (kD k).depth ≤ 1 := by
  have all : ∀ k : List Key, PyData.depthAll (k.map kd) = 0 := by
    intro k
    induction k with
    | nil => rfl
    | cons x k ih => simp only [List.map_cons, PyData.depthAll, kd_depth, ih]; rfl
  show (PyData.tuple (k.map kd)).depth ≤ 1
  simp only [PyData.depth, all]
  omega
section
variable {P : Program} {w : World} {A : Around} {E : Value → Shared → Prop} {s : Shared} {a : Addr} {L : TL} {o : Obj} {es : Array (Int × Value)} {ep : Nat} {t : SetTable}
theorem each_ref : ∀ L1 : TL, EachIs (fun v (q : Addr × List Key) => v = Value.ref q.1) (L1.map fun q => Value.ref q.1) L1
  | [] => .nil
  | _ :: l => .cons rfl (each_ref l)
theorem refs_of (L : TL) : ∀ vs : List Value, (∀ v ∈ vs, ∃ q ∈ L, v = Value.ref q.1) → ∃ L1 : TL, vs = L1.map (fun q => Value.ref q.1) ∧ ∀ q ∈ L1, q ∈ L
  | [], _ => ⟨[], rfl, fun _ m => nomatch m⟩
  | v :: vs, all => by
    obtain ⟨q, m, rfl⟩ := all v List.mem_cons_self
    obtain ⟨L1, rfl, sub⟩ := refs_of L vs fun u mu => all u (List.mem_cons_of_mem _ mu)
    refine ⟨q :: L1, rfl, fun r mr => ?_⟩
    rcases List.mem_cons.mp mr with rfl | mr
    · exact m
    · exact sub r mr
theorem perm_refs {h : Heap} (R : TSet P w h a L o es ep t) (T : TupsIn P w h L) {L1 : TL} (sub : ∀ q ∈ L1, q ∈ L) (pm : (L1.map fun q => Value.ref q.1).Perm (L.map fun q => Value.ref q.1)) : L1.Perm L := by
  have one : ∀ q ∈ L, ∀ r ∈ L, q.1 = r.1 → q = r := fun q mq r mr e => by
    have h1 := T q mq
    have h2 := T r mr
    rw [e] at h1
    exact Prod.ext e (h1.inj h2)
  have nL : L.Nodup := List.Pairwise.of_map (·.2) (fun _ _ ne e => ne (congrArg _ e)) R.nd
  have nr : (L.map fun q => Value.ref q.1).Nodup := List.pairwise_map.mpr (List.Pairwise.imp_of_mem (fun {q r} mq mr ne e => ne (one q mq r mr (by injection e))) nL)
  have n1 : L1.Nodup := List.Pairwise.of_map (fun q : Addr × List Key => Value.ref q.1) (fun _ _ ne e => ne (by rw [e])) (pm.nodup_iff.mpr nr)
  refine (List.perm_ext_iff_of_nodup n1 nL).mpr fun q => ⟨sub q, fun m => ?_⟩
  obtain ⟨r, mr, e⟩ := List.mem_map.mp (pm.mem_iff.mpr (List.mem_map.mpr ⟨q, m, rfl⟩))
  injection e with e
  rw [← one r (sub r mr) q m e]
  exact mr
theorem sorted_tset {Q : Value → Shared → Prop} (R : TSet P w s.heap a L o es ep t) (T : TupsIn P w s.heap L) (hh : A.handled = none) (hu : A.units + 64 < cLine) (hn : AllNear (L.map fun q => kD q.2))
    (q : ∀ s' p (L1 : TL) (out : List Value) (c : Nat), L1.Perm L → out = (L1.mergeSort (dataLe false fun q => kD q.2)).map (fun q => Value.ref q.1) → (∀ b u, s.heap.get? b = some u → s'.heap.get? b = some u) → s'.gens = s.gens → s'.os = s.os →
      s.heap.objs.size ≤ p → s'.heap.get? p = some (seqObj "list" out.toArray c) → Q (.ref p) s') :
    wpAny (model P w) A (call (.builtin "sorted") [.ref a]) Q E s := by
  have few := R.few
  have sz := R.size
  refine call_function_entry kind_sorted plain_sorted entry_sorted (args_sorted1 _) ?_
  unfold Builtin.«sorted»
  refine wpAny_bind (m := checkCount "sorted" 1 1 _) (wpAny_pure ?_)
  refine wpAny_bind (collect_set (A := A.in1) hh ⟨o, R.at_, R.ex.1, R.dat⟩ R.fits (by unfold scanBound; omega) R.tab.ris R.led fun s1 vs kp szl g1 o1 pm => ?_)
  have e1 : es.toList.map (·.2) = L.map fun q => Value.ref q.1 := by
    rw [R.rows, List.map_map]
    rfl
  rw [e1] at pm
  obtain ⟨L1, rfl, sub⟩ := refs_of L vs fun v m => by
    obtain ⟨r, mr, e⟩ := List.mem_map.mp (pm.mem_iff.mp m)
    exact ⟨r, mr, e.symm⟩
  have pL := perm_refs R T sub pm
  have n1 : L1.length = L.length := pL.length_eq
  refine wpAny_bind (wpAny_newList ?_ (by rw [List.length_map, sizeLine_eq]; omega))
  generalize hvs : L1.map (fun q => Value.ref q.1) = vs
  have vl : vs.length = L1.length := by rw [← hvs, List.length_map]
  have at1 : (s1.heap.push (seqObj "list" vs.toArray 0)).get? s1.heap.objs.size = some (seqObj "list" vs.toArray 0) := Heap.get?_push_size _ rfl
  have ev : EachIs (fun v (q : Addr × List Key) => v = Value.ref q.1) vs L1 := by
    rw [← hvs]
    exact each_ref L1
  have old : ∀ b u, s.heap.get? b = some u → (sortingHeap (s1.heap.push (seqObj "list" vs.toArray 0)) s1.heap.objs.size vs).get? b = some u := fun b u e => by
    have e2 := kp b u e
    exact sortingHeap_old (Nat.ne_of_lt (Heap.lt_size e2)) (Heap.get?_push_of_some _ e2)
  have rd : ∀ q ∈ L1, ∃ as, Reads (sortingHeap (s1.heap.push (seqObj "list" vs.toArray 0)) s1.heap.objs.size vs) (Value.ref q.1) (kD q.2) as := fun q m => tp_reads (tp_kept (T q (sub q m)) old)
  have er : EachIs (fun v (q : Addr × List Key) => ∃ as, Reads (sortingHeap (s1.heap.push (seqObj "list" vs.toArray 0)) s1.heap.objs.size vs) v (kD q.2) as) vs L1 :=
    (each_mem ev).mono fun v q ⟨e, m⟩ => by rw [e]; exact rd q m
  have hn1 : AllNear (L1.map fun q => kD q.2) := fun d md e me => hn d ((pL.map _).mem_iff.mp md) e ((pL.map _).mem_iff.mp me)
  have k2 := each_map (R := fun v d => ∃ as, Reads (sortingHeap (s1.heap.push (seqObj "list" vs.toArray 0)) s1.heap.objs.size vs) v d as) (fun q : Addr × List Key => kD q.2) er
  refine wpAny_bind (wpAny_holding (wpAny_call_entry_kw slot_list_sort ⟨_, at1, rfl⟩ entry_list_sort ?body (args_list_sort _)))
  refine list_sort_vals (s := { s1 with heap := s1.heap.push (seqObj "list" vs.toArray 0) }) at1 (sortsNear (s := { s1 with heap := sortingHeap (s1.heap.push (seqObj "list" vs.toArray 0)) s1.heap.objs.size vs }) k2 hn1 (bound_map fun q _ => ?_)) (by rw [vl, sizeLine_eq]; omega) ?_
  · have := kD_depth q.2
    show A.units + 1 + 1 + _ < _
    omega
  have res := sortVals_each (κ := dataKind (sortingHeap (s1.heap.push (seqObj "list" vs.toArray 0)) s1.heap.objs.size vs) (L1.map fun q => kD q.2)) (rev := false) (fun q : Addr × List Key => keyToks (kD q.2)) ev (each_of_map (fun q : Addr × List Key => kD q.2) (each_keysN hn1 k2))
  have ol := sortVals_length (κ := dataKind (sortingHeap (s1.heap.push (seqObj "list" vs.toArray 0)) s1.heap.objs.size vs) (L1.map fun q => kD q.2)) false (ks := vs) (vs := vs) rfl
  generalize sortVals (dataKind (sortingHeap (s1.heap.push (seqObj "list" vs.toArray 0)) s1.heap.objs.size vs) (L1.map fun q => kD q.2)) false vs vs = out at res ol ⊢
  refine ⟨.none, rfl, wpAny_pure ⟨_, rfl, ?_⟩⟩
  obtain ⟨c, hc⟩ := sortedHeap_at (vs := vs) (out := out.toArray) at1
  refine q _ s1.heap.objs.size L1 out c pL ?_ (fun b u e => ?_) g1 o1 szl hc
  · have go : ∀ {us : List Value} {M : TL}, EachIs (fun v (q : Addr × List Key) => v = Value.ref q.1) us M → us = M.map (fun q => Value.ref q.1) := by
      intro us M x
      induction x with
      | nil => rfl
      | cons h _ ih => rw [List.map_cons, h, ih]
    exact go res
  · have e2 := kp b u e
    have lt := Heap.lt_size e2
    show (sortedHeap (s1.heap.push (seqObj "list" vs.toArray 0)) s1.heap.objs.size vs out.toArray).get? b = some u
    rw [sortedHeap_old (Nat.ne_of_lt lt) (by rw [size_push']; exact Nat.lt_succ_of_lt lt)]
    exact Heap.get?_push_of_some _ e2
end
end DL

namespace DL
open PySem L2 RZ PySem.Spec PyProof.Rows
/-! ### set(xs), xs a list or a tuple of tuples -/
/-- few unlike keys -/
def Slim (ks : TL) : Prop := ∀ M : List (List Key), M.Nodup → (∀ k ∈ M, k ∈ ks.map (·.2)) → M.length < 64
/-- L is what the first i of ks come to -/
structure Part (ks : TL) (i : Nat) (L : TL) : Prop where
  sub : ∀ p ∈ L, p ∈ ks.take i
  all : ∀ p ∈ ks.take i, p.2 ∈ L.map (·.2)
theorem Part.zero (ks : TL) : Part ks 0 [] := ⟨fun _ m => (nomatch m), fun _ m => (nomatch m)⟩
theorem Part.step {ks L L' : TL} {i : Nat} {x : Addr × List Key} (g : Part ks i L) (e : ks[i]? = some x) (h1 : x.2 ∈ L.map (·.2) → L' = L) (h2 : x.2 ∉ L.map (·.2) → L'.Perm (x :: L)) : Part ks (i + 1) L' := by
  have tk : ks.take (i + 1) = ks.take i ++ [x] := by rw [List.take_succ, e]; rfl
  by_cases m : x.2 ∈ L.map (·.2)
  · rw [h1 m]
    refine ⟨fun p mp => ?_, fun p mp => ?_⟩
    · rw [tk]
      exact List.mem_append_left _ (g.sub p mp)
    · rw [tk] at mp
      rcases List.mem_append.mp mp with z | z
      · exact g.all p z
      · rw [List.mem_singleton.mp z]
        exact m
  · have pm := h2 m
    refine ⟨fun p mp => ?_, fun p mp => (pm.map (·.2)).mem_iff.mpr ?_⟩
    · rw [tk]
      rcases List.mem_cons.mp (pm.mem_iff.mp mp) with rfl | z
      · exact List.mem_append_right _ List.mem_cons_self
      · exact List.mem_append_left _ (g.sub p z)
    · rw [tk] at mp
      rw [List.map_cons]
      rcases List.mem_append.mp mp with z | z
      · exact List.mem_cons_of_mem _ (g.all p z)
      · rw [List.mem_singleton.mp z]
        exact List.mem_cons_self
theorem slim_room {ks L : TL} {i : Nat} {x : Addr × List Key} (sl : Slim ks) (g : Part ks i L) (e : ks[i]? = some x) (nd : (L.map (·.2)).Nodup) (m : x.2 ∉ L.map (·.2)) : L.length + 1 < 64 := by
  have z := sl (x.2 :: L.map (·.2)) (List.nodup_cons.mpr ⟨m, nd⟩) fun k mk => by
    rcases List.mem_cons.mp mk with rfl | mk
    · exact List.mem_map.mpr ⟨x, List.mem_of_getElem? e, rfl⟩
    · obtain ⟨p, mp, rfl⟩ := List.mem_map.mp mk
      exact List.mem_map.mpr ⟨p, List.mem_of_mem_take (g.sub p mp), rfl⟩
  rwa [List.length_cons, List.length_map] at z
/-- a new set's object -/
abbrev bareSet (w : World) : Obj := { cls := .type "set", dict := none, data := .set #[] 0 (.fresh 0 0 (!w.params.followText "set-order")) }
section
variable {P : Program} {w : World} {A : Around} {E : Value → Shared → Prop} {s : Shared}
theorem bare_tset {h : Heap} {a : Addr} (e : h.get? a = some (bareSet w)) : TSet P w h a [] (bareSet w) #[] 0 (.fresh 0 0 (!w.params.followText "set-order")) where
  at_ := e
  ex := ⟨rfl, rfl, rfl⟩
  dat := rfl
  rows := rfl
  tab := ⟨List.Pairwise.nil, rfl, rfl, .inl rfl, fun x m => (by cases m), fun i h j z => (by simp at z)⟩
  nd := List.nodup_nil
  led := by
    show _ ∨ (!w.params.followText "set-order") = true
    cases w.params.followText "set-order"
    · exact .inr rfl
    · exact .inl rfl
  room := by
    show 0 * 5 < 7 * 3
    decide
  few := by
    show 0 < 64
    decide
theorem TSet.kept {h h' : Heap} {a : Addr} {L : TL} {o : Obj} {es : Array (Int × Value)} {ep : Nat} {t : SetTable} (R : TSet P w h a L o es ep t) (e : h'.get? a = some o) : TSet P w h' a L o es ep t :=
  ⟨e, R.ex, R.dat, R.rows, R.tab, R.nd, R.led, R.room, R.few⟩
/-- the loop that fills a set -/
theorem fill_set {I : Addr} {fp wr : List Addr} {G : Array GenState → Array GenState → Prop} {n : Nat} {Pv : Nat → Value → Prop} {St : Nat → Shared → Prop} {R : Result → Shared → Prop}
    (W : WalksS P w A.in1 I fp wr G n Pv St) (S : Addr) (out : S ∉ fp) (ks : TL) (hn : n = ks.length) (sl : Slim ks) (val : ∀ i v, Pv i v → ∃ p, ks[i]? = some p ∧ v = .ref p.1)
    (h0 : Heap) (tk : TupsIn P w h0 ks) (noS : h0.get? S = none) (noW : ∀ b ∈ wr, h0.get? b = none) (hu : A.in1.units < cLine) :
    ∀ (k i : Nat) (s : Shared), n - i = k → i ≤ n → St i s → (∀ b u, h0.get? b = some u → s.heap.get? b = some u) → (∃ L o es ep t, TSet P w s.heap S L o es ep t ∧ Part ks i L) →
      (∀ s' L o es ep t, Moved (S :: wr) G s s' → TSet P w s'.heap S L o es ep t → Part ks n L → (∀ b u, h0.get? b = some u → s'.heap.get? b = some u) → R (.ok (.ret .none)) s') →
      codeAny (model P w) A (.builtin "set.update.loop" ⟨[.ref S, .ref I], []⟩) R s := by
  have notW : S ∉ wr := fun m => out (W.sub _ m)
  have wider : ∀ b ∈ wr, b ∈ S :: wr := fun b m => List.mem_cons_of_mem _ m
  have go0 : ∀ {s s' : Shared}, Moved wr G s s' → (∀ b u, h0.get? b = some u → s.heap.get? b = some u) → ∀ b u, h0.get? b = some u → s'.heap.get? b = some u := fun mv kp b u e =>
    mv.heap b u (fun m => by rw [noW b m] at e; cases e) (kp b u e)
  intro k
  induction k with
  | zero =>
    rintro i s hk le st kp ⟨L, o, es, ep, t, TS, g⟩ fin
    obtain rfl : i = n := by omega
    refine codeAny_builtin F.entry_set_update_loop ?_
    rw [Around.under_plainId F.plain_set_update_loop _]
    show wpAny _ A.in1 (pyNext (.ref I) >>= _) _ _ s
    refine wpAny_bind (W.done s _ _ st fun s' mv => ?_)
    show wpAny _ A.in1 (ret Value.none) _ _ s'
    exact wpAny_pure (fin s' L o es ep t (mv.mono wider) (TS.kept (mv.heap S o notW TS.at_)) g (go0 mv kp))
  | succ k ih =>
    rintro i s hk le st kp ⟨L, o, es, ep, t, TS, g⟩ fin
    refine codeAny_builtin F.entry_set_update_loop ?_
    rw [Around.under_plainId F.plain_set_update_loop _]
    show wpAny _ A.in1 (pyNext (.ref I) >>= _) _ _ s
    refine wpAny_bind (W.item i s _ _ (by omega) st fun v s' pv st' mv => ?_)
    obtain ⟨p, hp, rfl⟩ := val i v pv
    have kp' := go0 mv kp
    have TS' : TSet P w s'.heap S L o es ep t := TS.kept (mv.heap S o notW TS.at_)
    have hx : TpK P w s'.heap p.2 p.1 := tp_kept (tk p (List.mem_of_getElem? hp)) kp'
    have hL : TupsIn P w s'.heap L := fun q m => tp_kept (tk q (List.mem_of_mem_take (g.sub q m))) kp'
    show wpAny _ A.in1 (holding [Value.ref p.1] (setAdd S (.ref p.1)) >>= _) _ _ s'
    refine wpAny_bind (wpAny_holding ?_)
    unfold setAdd
    refine wpAny_holding ?_
    refine wpAny_bind (wpAny_pyHash_tuple hu hx ?_)
    refine put_go (s := { s' with toks := s'.toks + (p.2.length + 1) }) TS' hL hx hu (slim_room sl g hp TS.nd) fun b h' L' o' es' ep' t' sb TS2 c1 c2 => ?_
    have kp2 : ∀ b u, h0.get? b = some u → h'.get? b = some u := fun b u e => (sb.2 b (fun z => by rw [z, noS] at e; cases e)).trans (kp' b u e)
    refine wpAny_pure ⟨plainId_quiet F.plain_set_update_loop _, ih (i + 1) _ (by omega) (by omega) (W.frame _ s' _ _ st' (Nat.le_add_right _ _) fun b hb u e => ?_) kp2 ⟨L', o', es', ep', t', TS2, g.step hp c1 c2⟩
      fun s'' L2 o2 es2 ep2 t2 mv2 TS3 g2 kp3 => ?_⟩
    · rw [sb.2 b (fun z : b = S => out (z ▸ hb))]
      exact e
    · refine fin s'' L2 o2 es2 ep2 t2 (Moved.trans W.gtrans ((mv.mono wider).then_heap (Nat.le_add_right _ _) fun b u hb e => ?_) mv2) TS3 g2 kp3
      rw [sb.2 b (fun z : b = S => hb (z ▸ List.mem_cons_self))]
      exact e
/-- set(x) is set.__init__ on a new set -/
theorem set_by_init {l : Addr} {Q : Value → Shared → Prop}
    (body : ∀ E' : Value → Shared → Prop, wpAny (model P w) A.in1.in1 (Builtin.«set.__init__» ⟨[.ref s.heap.objs.size, .ref l], []⟩) (fun fin s' => fin = .done (.ret .none) ∧ Q (.ref s.heap.objs.size) s') E' { s with heap := s.heap.push (bareSet w) }) :
    wpAny (model P w) A (call (.type "set") [.ref l]) Q E s := by
  obtain ⟨c, tl, mro⟩ := F.called_set.mro
  have made := F.called_set.made
  have sub := F.called_set.sub
  refine wpAny_call (codeAny_of_tree ?_)
  show wpAny _ _ (callAny (.type "set") _) _ _ _
  refine wpAny_pure ⟨Code.quiet_builtin _ (by decide +kernel), codeAny_builtin F.entry_type_call ?_⟩
  rw [Around.under_plain (weight_type_call_type "set" [.ref l] []) rfl]
  have h1 := F.called_set.notType
  have h2 := F.called_set.canCreate
  have h3 := F.typeCall_set_1 (.ref l)
  repeat (any_goals (first | assumption | wp_step))
  refine codeAny_mono (code_set_led1 (.ref l) (E := E) (Q₁ := fun obj s₁ => obj = .ref s.heap.objs.size ∧ s₁ = { s with heap := s.heap.push (bareSet w) }) ⟨rfl, rfl⟩) fun r s₁ hr => ?_
  cases r with
  | error e => exact hr
  | ok fl =>
    cases fl with
    | ret obj =>
      obtain ⟨rfl, rfl⟩ := hr
      have hS : (s.heap.push (bareSet w)).get? s.heap.objs.size = some (bareSet w) := Heap.get?_push_size _ rfl
      have hT : Shared.TypeIs { s with heap := s.heap.push (bareSet w) } (.ref s.heap.objs.size) "set" := ⟨_, hS, rfl⟩
      have look := F.called_set.init.lookup
      have bnd := F.called_set.init.bind (.ref s.heap.objs.size)
      repeat (any_goals (first | assumption | wp_step))
      refine codeAny_mono (codeAny_call_builtin (R := wants (fun r s₂ => r = .none ∧ Q (.ref s.heap.objs.size) s₂) E) F.called_set.init.plain F.entry_set_init (check_set_init_1 hT ?_)) fun r₂ s₂ hr₂ => ?_
      · refine wpAny_mono (body _) (fun fin s' hf => ?_) fun _ _ e => e
        obtain ⟨rfl, hq⟩ := hf
        exact ⟨rfl, hq⟩
      · cases r₂ with
        | error e => exact hr₂
        | ok f2 =>
          cases f2 with
          | ret r =>
            obtain ⟨rfl, hq⟩ := hr₂
            repeat (any_goals (first | assumption | wp_step))
          | _ => exact hr₂.elim
    | _ => exact hr.elim
theorem call_set_list {l : Addr} {items : Array Value} {ks : TL} {Q : Value → Shared → Prop} (hh : A.handled = none) (hl : s.heap.IsList l items) (hit : items.toList = ks.map fun p => Value.ref p.1)
    (tk : TupsIn P w s.heap ks) (sl : Slim ks) (hu : A.units + 3 < cLine)
    (q : ∀ (h' : Heap) (n : Nat) L o es ep t, TSet P w h' s.heap.objs.size L o es ep t → Part ks ks.length L → (∀ b u, s.heap.get? b = some u → h'.get? b = some u) → Q (.ref s.heap.objs.size) { s with heap := h', toks := n }) :
    wpAny (model P w) A (call (.type "set") [.ref l]) Q E s := by
  have isz : items.size = ks.length := by rw [← Array.length_toList, hit, List.length_map]
  refine set_by_init fun E' => ?_
  obtain ⟨ol, hol, hcl, nl, hdl⟩ := hl
  obtain ⟨ocls, odict, odata, oslots⟩ := ol
  simp only at hcl hdl
  subst hcl hdl
  have hol' : (s.heap.push (bareSet w)).get? l = some { cls := .type "list", dict := odict, data := .seq items nl, slots := oslots } := Heap.get?_push_of_some _ hol
  have sub1 := F.sub_list_set
  have sub2 := F.sub_list_frozenset
  have ne : (Value.type "list" == Value.type "dict") = false := by decide
  have hl1 : (s.heap.push (bareSet w)).IsList l items := ⟨_, hol', rfl, nl, rfl⟩
  have hS : (s.heap.push (bareSet w)).get? s.heap.objs.size = some (bareSet w) := Heap.get?_push_size _ rfl
  unfold Builtin.«set.__init__» noKeywords Builtin.Frozenset.updateFrom
  generalize hPI : pyIter = PI
  wp_walk
  subst hPI
  refine wpAny_pyIter_list hl1 ?_
  refine wpAny_bind (wpAny_runValue ?_)
  have lS : l < s.heap.objs.size := Heap.lt_size hol
  have hh3 : A.in1.in1.in1.handled = none := by simp [hh]
  have nI : l ≠ (s.heap.push (bareSet w)).objs.size := by
    rw [Heap.size_push]
    exact Nat.ne_of_lt (Nat.lt_succ_of_lt lS)
  have out : s.heap.objs.size ∉ [(s.heap.push (bareSet w)).objs.size, l] := by
    rw [Heap.size_push]
    simp only [List.mem_cons, List.not_mem_nil, or_false, not_or]
    exact ⟨Nat.ne_of_lt (Nat.lt_succ_self _), Nat.ne_of_gt lS⟩
  have noneAt : ∀ b, s.heap.objs.size ≤ b → s.heap.get? b = none := fun b le => by
    cases e : s.heap.get? b with
    | none => rfl
    | some o => exact absurd (Nat.lt_of_lt_of_le (Heap.lt_size e) le) (Nat.lt_irrefl _)
  refine fill_set ((Walks.list hh3 _ l nI items).toS) s.heap.objs.size out ks isz sl (fun i v e => ?_) s.heap tk (noneAt _ (Nat.le_refl _)) (fun b m => noneAt b (by rw [List.mem_singleton.mp m, Heap.size_push]; exact Nat.le_succ _)) (by show A.units + 1 + 1 + 1 < cLine; omega)
    (items.size - 0) 0 _ (by omega) (Nat.zero_le _) ⟨⟨_, Heap.get?_push_size _ rfl, rfl, rfl⟩, (hl1.push _)⟩ (fun b o e => Heap.get?_push_of_some _ (Heap.get?_push_of_some _ e)) ⟨[], _, _, _, _, bare_tset (Heap.get?_push_of_some _ hS), Part.zero ks⟩ ?_
  · have z : items.toList[i]? = some v := by rw [Array.getElem?_toList]; exact e
    rw [hit, List.getElem?_map] at z
    cases hq : ks[i]? with
    | none => rw [hq] at z; cases z
    | some p =>
      rw [hq] at z
      exact ⟨p, rfl, (Option.some.inj z).symm⟩
  · intro s' L o es ep t mv TS g kp
    obtain ⟨h', g2, d', n', os'⟩ := s'
    obtain rfl : g2 = s.gens := mv.gens
    obtain rfl : d' = s.drawn := mv.drawn
    obtain rfl : os' = s.os := mv.os
    refine wpAny_pure ?_
    refine wpAny_pure ⟨rfl, ?_⟩
    rw [isz] at g
    exact q h' n' L o es ep t TS g kp
theorem call_set_tuple {l : Addr} {items : Array Value} {ks : TL} {Q : Value → Shared → Prop} (hh : A.handled = none) (hl : s.heap.IsTuple l items) (hit : items.toList = ks.map fun p => Value.ref p.1)
    (tk : TupsIn P w s.heap ks) (sl : Slim ks) (hu : A.units + 3 < cLine)
    (q : ∀ (h' : Heap) (n : Nat) L o es ep t, TSet P w h' s.heap.objs.size L o es ep t → Part ks ks.length L → (∀ b u, s.heap.get? b = some u → h'.get? b = some u) → Q (.ref s.heap.objs.size) { s with heap := h', toks := n }) :
    wpAny (model P w) A (call (.type "set") [.ref l]) Q E s := by
  have isz : items.size = ks.length := by rw [← Array.length_toList, hit, List.length_map]
  refine set_by_init fun E' => ?_
  obtain ⟨ol, hol, hcl, nl, hdl⟩ := hl
  obtain ⟨ocls, odict, odata, oslots⟩ := ol
  simp only at hcl hdl
  subst hcl hdl
  have hol' : (s.heap.push (bareSet w)).get? l = some { cls := .type "tuple", dict := odict, data := .seq items nl, slots := oslots } := Heap.get?_push_of_some _ hol
  have sub1 := F.sub_tuple_set
  have sub2 := F.sub_tuple_frozenset
  have ne : (Value.type "tuple" == Value.type "dict") = false := by decide
  have hl1 : (s.heap.push (bareSet w)).IsTuple l items := ⟨_, hol', rfl, nl, rfl⟩
  have hS : (s.heap.push (bareSet w)).get? s.heap.objs.size = some (bareSet w) := Heap.get?_push_size _ rfl
  unfold Builtin.«set.__init__» noKeywords Builtin.Frozenset.updateFrom
  generalize hPI : pyIter = PI
  wp_walk
  subst hPI
  refine wpAny_pyIter_tuple hl1 ?_
  refine wpAny_bind (wpAny_runValue ?_)
  have lS : l < s.heap.objs.size := Heap.lt_size hol
  have hh3 : A.in1.in1.in1.handled = none := by simp [hh]
  have nI : l ≠ (s.heap.push (bareSet w)).objs.size := by
    rw [Heap.size_push]
    exact Nat.ne_of_lt (Nat.lt_succ_of_lt lS)
  have out : s.heap.objs.size ∉ [(s.heap.push (bareSet w)).objs.size, l] := by
    rw [Heap.size_push]
    simp only [List.mem_cons, List.not_mem_nil, or_false, not_or]
    exact ⟨Nat.ne_of_lt (Nat.lt_succ_self _), Nat.ne_of_gt lS⟩
  have noneAt : ∀ b, s.heap.objs.size ≤ b → s.heap.get? b = none := fun b le => by
    cases e : s.heap.get? b with
    | none => rfl
    | some o => exact absurd (Nat.lt_of_lt_of_le (Heap.lt_size e) le) (Nat.lt_irrefl _)
  refine fill_set ((Walks.tuple hh3 _ l nI items).toS) s.heap.objs.size out ks isz sl (fun i v e => ?_) s.heap tk (noneAt _ (Nat.le_refl _)) (fun b m => noneAt b (by rw [List.mem_singleton.mp m, Heap.size_push]; exact Nat.le_succ _)) (by show A.units + 1 + 1 + 1 < cLine; omega)
    (items.size - 0) 0 _ (by omega) (Nat.zero_le _) ⟨⟨_, Heap.get?_push_size _ rfl, rfl, rfl⟩, (hl1.push _)⟩ (fun b o e => Heap.get?_push_of_some _ (Heap.get?_push_of_some _ e)) ⟨[], _, _, _, _, bare_tset (Heap.get?_push_of_some _ hS), Part.zero ks⟩ ?_
  · have z : items.toList[i]? = some v := by rw [Array.getElem?_toList]; exact e
    rw [hit, List.getElem?_map] at z
    cases hq : ks[i]? with
    | none => rw [hq] at z; cases z
    | some p =>
      rw [hq] at z
      exact ⟨p, rfl, (Option.some.inj z).symm⟩
  · intro s' L o es ep t mv TS g kp
    obtain ⟨h', g2, d', n', os'⟩ := s'
    obtain rfl : g2 = s.gens := mv.gens
    obtain rfl : d' = s.drawn := mv.drawn
    obtain rfl : os' = s.os := mv.os
    refine wpAny_pure ?_
    refine wpAny_pure ⟨rfl, ?_⟩
    rw [isz] at g
    exact q h' n' L o es ep t TS g kp
end
end DL

namespace DL
open PySem L2 RZ PySem.Spec PyProof.Rows PySem.W PySem.Calls
/-! ### sorted(set(xs)) of tuples of ints and texts, by data -/
def TSetAt (P : Program) (w : World) (a : Addr) (L : TL) (h : Heap) : Prop := ∃ o es ep t, TSet P w h a L o es ep t
def TSetO (P : Program) (w : World) (a : Addr) (L : TL) : HO := .ext fun h => TSetAt P w a L h
theorem tseto_ok {P : Program} {w : World} {H : Hp} {h : Heap} {a : Addr} {L : TL} (x : TSetAt P w a L h) : ObjOk P w H h a (TSetO P w a L) := by
  obtain ⟨o, _, _, _, R⟩ := id x
  refine ⟨x, ⟨o, R.at_⟩, fun h1 h2 y k => ?_⟩
  obtain ⟨o', es, ep, t, R'⟩ := y
  exact ⟨o', es, ep, t, R'.kept (k o' R'.at_)⟩
def TupsRd (H : Hp) (L : TL) : Prop := ∀ p ∈ L, Rd H p.1 (.tup (p.2.map kV))
theorem TupsRd.tups {P : Program} {w : World} {H : Hp} {h : Heap} {L : TL} (x : TupsRd H L) (ok : HOk P w H h) : TupsIn P w h L := fun p m => key_rd ok (x p m)
theorem refs_vals : ∀ {L : TL} {us : List Value}, Vals (L.map fun p => V.ref p.1) us → us = L.map fun p => Value.ref p.1
  | [], _, .nil => rfl
  | p :: L, _, .cons r t => by
    cases r
    rw [refs_vals t]
    rfl
theorem tl_vals : ∀ L : TL, Vals (L.map fun p => V.ref p.1) (L.map fun p => Value.ref p.1)
  | [] => .nil
  | _ :: L => .cons rfl (tl_vals L)
def rSetT (K : PySem.W.Frag) (P : Program) (w : World) : List V → Hp → VK → Prop := fun vs H Q => ∃ (l : Addr) (ks : TL), vs = [.ref l] ∧ (SqL K H l (ks.map fun p => V.ref p.1) ∨ SqT K H l (ks.map fun p => V.ref p.1)) ∧ TupsRd H ks ∧ Slim ks ∧
  ∀ a L, H a = none → (∀ p ∈ L, p ∈ ks) → (∀ p ∈ ks, p.2 ∈ L.map (·.2)) → (L.map (·.2)).Nodup → Q (.ref a) (upd H a (TSetO P w a L))
def rSortT (P : Program) (w : World) : List V → Hp → VK → Prop := fun vs H Q => ∃ (a : Addr) (L : TL), vs = [.ref a] ∧ H a = some (TSetO P w a L) ∧ TupsRd H L ∧ AllNear (L.map fun q => kD q.2) ∧
  ∀ (L1 : TL) (p : Addr), L1.Perm L → H p = none → Q (.ref p) (upd H p (.lst ((L1.mergeSort (dataLe false fun q => kD q.2)).map fun q => V.ref q.1)))
section
variable {X : Cx}
theorem cr_setT (hc : X.calm = true) (hu : X.A.units + 64 < cLine) : CallR X (.type "set") (rSetT X.K X.prog X.w) := by
  intro pins s σ H vs us Q I r h
  obtain ⟨l, ks, rfl, hs, hk, sl, q⟩ := h
  rw [Vals.ref1 r]
  have fresh : H s.heap.objs.size = none := I.hok.fresh (Nat.le_refl _)
  have fin : ∀ (h' : Heap) (n : Nat) L o es ep t, TSet X.prog X.w h' s.heap.objs.size L o es ep t → Part ks ks.length L → (∀ b u, s.heap.get? b = some u → h'.get? b = some u) → EP X pins σ Q (.ref s.heap.objs.size) { s with heap := h', toks := n } :=
    fun h' n L o es ep t R g kp => ⟨.ref s.heap.objs.size, _, I.laid (t' := n) kp (Nat.le_refl _) (tseto_ok ⟨o, es, ep, t, R⟩), rfl,
      q _ L fresh (fun p m => List.mem_of_mem_take (g.sub p m)) (fun p m => g.all p (by rw [List.take_length]; exact m)) R.nd⟩
  rcases hs with hs | hs
  · obtain ⟨its, rv, pl, _⟩ := I.list hs
    exact call_set_list (I.ok.hd hc) pl.isList (by rw [List.toList_toArray]; exact refs_vals rv) (hk.tups I.hok) sl (by omega) fin
  · obtain ⟨its, rv, pl, _⟩ := I.tuple hs
    exact call_set_tuple (I.ok.hd hc) (show s.heap.IsTuple l its.toArray from pl) (by rw [List.toList_toArray]; exact refs_vals rv) (hk.tups I.hok) sl (by omega) fin
theorem cr_sortT (hc : X.calm = true) (hu : X.A.units + 64 < cLine) : CallR X (.builtin "sorted") (rSortT X.prog X.w) := by
  intro pins s σ H vs us Q I r h
  obtain ⟨a, L, rfl, ha, hk, hn, q⟩ := h
  rw [Vals.ref1 r]
  obtain ⟨o, es, ep, t, R⟩ : TSetAt X.prog X.w a L s.heap := (I.hok a _ ha).1
  refine sorted_tset R (hk.tups I.hok) (I.ok.hd hc) hu hn fun s' p L1 out c pm eo kp g1 o1 szl hp => ?_
  have few := R.few
  have fresh : H p = none := I.hok.fresh szl
  have hlen : ((L1.mergeSort (dataLe false fun q : Addr × List Key => kD q.2)).map fun q => V.ref q.1).length ≤ sizeLine := by
    rw [List.length_map, List.length_mergeSort, pm.length_eq, sizeLine_eq]
    omega
  have J : Inv X pins σ (upd H p (.lst ((L1.mergeSort (dataLe false fun q => kD q.2)).map fun q => V.ref q.1))) { s with heap := s'.heap, gens := s'.gens, drawn := s'.drawn, toks := s'.toks } :=
    I.call (ch := []) (Un.laid kp szl fresh) (I.hok.laid kp szl ⟨hlen, out, c, by rw [eo]; exact tl_vals _, hp⟩) (by rw [g1]; exact I.bare) (fun _ z => nomatch z)
  have e : s' = { s with heap := s'.heap, gens := s'.gens, drawn := s'.drawn, toks := s'.toks } := by
    cases s'
    cases s
    cases o1
    rfl
  rw [e]
  exact ⟨.ref p, _, J, rfl, q L1 p pm fresh⟩
end
section
variable {K : PySem.W.Frag} {W : Wd} {H0 : Hp} {ρ : Rho} {P : Sl → Prop} {t : TA} {Pg : Program} {w : World}
/-- the tuples that keys read off -/
theorem keys_at {F : Hp} : ∀ {vs : List V} {ks : List (List Key)}, DpAll K F vs (ks.map kD) → ∃ L : TL, vs = L.map (fun p => V.ref p.1) ∧ L.map (·.2) = ks ∧ TupsRd F L
  | _, [], .nil => ⟨[], rfl, rfl, fun _ m => nomatch m⟩
  | _, k :: ks, .cons h t => by
    obtain ⟨b, rfl, e⟩ := dp_key h
    obtain ⟨L, rfl, rfl, r⟩ := keys_at t
    refine ⟨(b, k) :: L, rfl, rfl, fun p m => ?_⟩
    rcases List.mem_cons.mp m with rfl | m
    · exact e
    · exact r p m
theorem at_keys {F : Hp} : ∀ {L : TL}, TupsRd F L → DpAll K F (L.map fun p => V.ref p.1) (L.map fun p => kD p.2)
  | [], _ => .nil
  | p :: L, h => .cons (key_dp (h p List.mem_cons_self)) (at_keys fun q m => h q (List.mem_cons_of_mem _ m))
def SlimK (ks : List (List Key)) : Prop := ∀ M : List (List Key), M.Nodup → (∀ k ∈ M, k ∈ ks) → M.length < 64
theorem nodup_le {α : Type} [DecidableEq α] : ∀ (M l : List α), M.Nodup → (∀ x ∈ M, x ∈ l) → M.length ≤ l.length
  | [], _, _, _ => Nat.zero_le _
  | x :: M, l, nd, sub => by
    have m := sub x List.mem_cons_self
    have h := nodup_le M (l.erase x) (List.nodup_cons.mp nd).2 fun y my => (List.mem_erase_of_ne (fun e : y = x => (List.nodup_cons.mp nd).1 (by rw [← e]; exact my))).mpr (sub y (List.mem_cons_of_mem _ my))
    have e := List.length_erase_of_mem m
    have p := List.length_pos_of_mem m
    rw [List.length_cons]
    omega
theorem slimK_of {ks : List (List Key)} (h : ks.length < 64) : SlimK ks := fun M nd sub => Nat.lt_of_le_of_lt (nodup_le M ks nd sub) h
theorem ev_srtsetT (h : EvA K W H0 t ρ fun ss => ∃ s ks, ss = [s] ∧ SqOf s (ks.map kD) ∧ SlimK ks ∧ AllNear (ks.map kD) ∧ ∀ ys : List (List Key), ys.Nodup → (∀ k, k ∈ ys ↔ k ∈ ks) → P (.dat (.list (srtD false (ys.map kD))))) :
    Ev K W H0 (tCB (rSortT Pg w) (tCons (tCB (rSetT K Pg w) t) tNil)) ρ P := fun σ F H o ho Q q =>
  h σ F H o ho _ fun vs F1 H1 ss o1 st1 hv ⟨s, ks, e, hs, sl, hn, k⟩ => by
    subst e
    cases hv with
    | cons h1 hx =>
      cases hx
      obtain ⟨l, us, rfl, a1, a2⟩ := hs.get o1 h1
      obtain ⟨L0, rfl, rfl, r0⟩ := keys_at a2
      refine ⟨l, L0, rfl, a1, fun p m => rd_mono o1.sub (r0 p m), sl, fun a L ha sub all nd => ?_⟩
      obtain ⟨o2, st2⟩ := o1.own (u := TSetO Pg w a L) ha
      refine ⟨a, L, rfl, upd_same, fun p m => rd_mono o2.sub (r0 p (sub p m)), fun d m e m2 => ?_, fun L1 p2 pm hp => ?_⟩
      · obtain ⟨x, mx, rfl⟩ := List.mem_map.mp m
        obtain ⟨y, my, rfl⟩ := List.mem_map.mp m2
        exact hn _ (List.mem_map.mpr ⟨_, List.mem_map.mpr ⟨x, sub x mx, rfl⟩, rfl⟩) _ (List.mem_map.mpr ⟨_, List.mem_map.mpr ⟨y, sub y my, rfl⟩, rfl⟩)
      · obtain ⟨o3, st3⟩ := o2.new (u := .lst ((L1.mergeSort (dataLe false fun q : Addr × List Key => kD q.2)).map fun q => V.ref q.1)) hp
        have pm2 : (L1.mergeSort (dataLe false fun q : Addr × List Key => kD q.2)).Perm L := (List.mergeSort_perm _ _).trans pm
        have e9 : (L1.mergeSort (dataLe false fun q : Addr × List Key => kD q.2)).map (fun q => kD q.2) = srtD false ((L1.map (·.2)).map kD) := by
          unfold srtD
          rw [List.map_map]
          exact sort_maps (r := dataLe false fun q : Addr × List Key => kD q.2) (s := dataLe false fun d => d) (fun q => kD q.2) (fun _ _ _ _ => rfl)
        refine q (.ref p2) _ _ (.dat (.list (srtD false ((L1.map (·.2)).map kD)))) o3 ((st1.trans o1 st2).trans o2 st3) (.lst upd_same ?_) (k _ ((pm.map _).nodup_iff.mpr nd) fun x => ?_)
        · rw [← e9]
          exact at_keys fun p m => rd_mono (fun b u e => st3.fz b u e) (r0 p (sub p (pm2.mem_iff.mp m)))
        · rw [(pm.map (·.2)).mem_iff]
          refine ⟨fun m => ?_, fun m => ?_⟩
          · obtain ⟨p, mp, rfl⟩ := List.mem_map.mp m
            exact List.mem_map.mpr ⟨p, sub p mp, rfl⟩
          · obtain ⟨p, mp, rfl⟩ := List.mem_map.mp m
            exact all p mp
end
end DL

namespace DL
open PySem L2 RZ LamX
/-! ### a def that takes a lambda and lets one error by: try: return a() / except X: return None -/
/-- what the lambda gives, or None where it raises the class C0 -/
def TTl (K : PySem.W.Frag) (C0 : Addr) : (XK → Hp → VK → Prop) → Hp → VK → Prop := fun tl H Q =>
  ∃ (W : Wd) (F : Hp) (P : D → Prop) (N : Prop), NoCode W ∧ Ok W F H ∧
    (∀ F1 H1, Ok W F1 H1 → Step W F H F1 H1 → ∀ (E : XK) (Q' : VK), (∀ v F' H' d, Ok W F' H' → Step W F1 H1 F' H' → VOk K W F' H' v (.dat d) → P d → Q' v H') →
      (∀ C d fs F' H', Ok W F' H' → Step W F1 H1 F' H' → Er K W F' H' d fs → C = C0 ∧ N → E (.ref C) (some d) H') → tl E H1 Q') ∧
    ∀ v F' H' d, Ok W F' H' → Step W F H F' H' → VOk K W F' H' v (.dat d) → (P d ∨ N ∧ d = .none) → Q v H'
section
variable {K : PySem.W.Frag} {W : Wd} {H0 F0 : Hp} {ρ : Rho} {T : List (Addr × Str)} {P : Sl → Prop} {N : Ends2} {C0 : Addr}
theorem ev_let {p : Addr × Str} {te : WX → TE} (pl : Plain W) (on : Once T) (hp : p ∈ T)
    (h : EvX K (tabW W T) H0 te ρ (fun s => ∃ d, s = .dat d ∧ P (.dat d)) fun C fs => C = C0 ∧ P (.dat .none)) :
    Ev K (tabW W T) H0 (tLamE p.1 p.2 (TTl K C0) fun E => te fun cls d _ H => E cls d H) ρ P :=
  ev_lamE pl on hp fun σ F H o ho Q q => ⟨tabW W T, F, fun d => P (.dat d), P (.dat .none), fun F H b c q o e => tab_code pl o e, o,
    fun F1 H1 o1 st1 E Q' a b => h σ F1 H1 o1 (ho.step st1) Q' (fun cls d _ H => E cls d H) (fun v F' H' s o' st' hv ⟨d, e, k⟩ => by subst e; exact a v F' H' d o' st' hv k) (fun C d fs F' H' o' st' er r => b C d fs F' H' o' st' er r),
    fun v F' H' d o' st' hv k => q v F' H' (.dat d) o' st' hv (by
      rcases k with k | ⟨k, rfl⟩
      · exact k
      · exact k)⟩
/-- try: return e / except X: suite, e told of here -/
theorem sx_try_retA {tx : WX → TE} {ts : Addr → Value → Option Addr → TS} {c : Value} {Wout : WX} (P : D → Prop) (R : Addr → List (Str × D) → Prop)
    (hb : ∀ σ F H, At K W H0 F0 σ F H ρ → ∀ (Q : VK) (Wx : WX), (∀ v F' H' d, Ok W F' H' → Step W F H F' H' → VOk K W F' H' v (.dat d) → P d → Q v H') →
      (∀ C d fs F' H', Ok W F' H' → Step W F H F' H' → Er K W F' H' d fs → R C fs → Wx (.ref C) (some d) σ H') → tx Wx σ H Q)
    (hn : ∀ d, P d → N.rt (.dat d)) (hc : ∀ C fs, R C fs → PySem.W.exmOne K (.ref C) c = some true) (hs : ∀ C fs, R C fs → ∀ a d, Sx K W H0 F0 (ts a (.ref C) (some d)) ρ N) :
    Sx K W H0 F0 (fun D σ H => tRet (tx (wOnly K c ts Wout D)) D σ H) ρ N := fun σ F H at_ D nn r b cc =>
  hb σ F H at_ _ _ (fun v F1 H1 d o1 st1 hv p => r v F1 H1 (.dat d) o1 (at_.st.trans at_.ok st1) hv (hn d p)) fun C d fs F1 H1 o1 st1 he hr =>
    ⟨true, hc C fs hr, fun _ a ha => hs C fs hr a d σ F1 H1 (at_.step o1 st1) D (fun σ2 F2 H2 ρ2 a2 sm k => nn σ2 F2 H2 ρ2 a2 (st1.fz.trans sm) k) r (fun σ2 F2 H2 ρ2 a2 sm k => b σ2 F2 H2 ρ2 a2 (st1.fz.trans sm) k) (fun σ2 F2 H2 ρ2 a2 sm k => cc σ2 F2 H2 ρ2 a2 (st1.fz.trans sm) k), fun z => nomatch z⟩
end
/-- the call of the lambda -/
theorem tx_actB {K : PySem.W.Frag} {W : Wd} {H0 F0 : Hp} {ρ : Rho} {H : Hp} {F : Hp} {σ : St} {f c' : Addr} {q : Str} {tl : XK → Hp → VK → Prop} {P : D → Prop} {R : Addr → List (Str × D) → Prop} (nc : NoCode W) (h0 : Ok W F0 H0) (hco : H0 c' = some (CodeO c' q))
    (htl : ∀ F1 H1, Ok W F1 H1 → Step W F0 H0 F1 H1 → ∀ (E : XK) (Q' : VK), (∀ v F' H' d, Ok W F' H' → Step W F1 H1 F' H' → VOk K W F' H' v (.dat d) → P d → Q' v H') →
      (∀ C d fs F' H', Ok W F' H' → Step W F1 H1 F' H' → Er K W F' H' d fs → R C fs → E (.ref C) (some d) H') → tl E H1 Q')
    (at_ : At K W H0 F0 σ F H ρ) (hf : ρ[0]? = some (.rf (.ref f))) (Q : VK) (Wx : WX) (k1 : ∀ v F' H' d, Ok W F' H' → Step W F H F' H' → VOk K W F' H' v (.dat d) → P d → Q v H')
    (k2 : ∀ C d fs F' H', Ok W F' H' → Step W F H F' H' → Er K W F' H' d fs → R C fs → Wx (.ref C) (some d) σ H') :
    σ[0]? = some (some (.ref f)) ∧ H c' = some (CodeO c' q) ∧ tl (WE Wx σ) H Q :=
  ⟨at_.ho.at_ 0 _ hf, at_.st.kp _ _ (nc F0 H0 _ _ _ h0 hco) hco, htl F H at_.ok at_.st _ _ (fun v F1 H1 d o1 st1 hv p => k1 v F1 H1 d o1 st1 hv p) fun C d fs F1 H1 o1 st1 he r => k2 C d fs F1 H1 o1 st1 he r⟩
end DL

namespace DL
open PySem L2 RZ PySem.Spec PyProof.Rows PySem.W
/-! ### d <= e of data alike -/
def rLeD (K : PySem.W.Frag) : R2 := fun x y H Q => ∃ d e, L2.Dp K H x d ∧ L2.Dp K H y e ∧ alike d e = true ∧ d ≠ .none ∧ d.depth ≤ 60 ∧ Q (.bl (!dataLt e d)) H
theorem opLeD {X : Cx} (hu : X.A.units + 64 < cLine) : OpR X (compareOp .LtE) (rLeD X.K) := by
  intro pins s σ H x y v u Q I rx ry h
  obtain ⟨d, e, hd, he, al, hn, hdp, q⟩ := h
  obtain ⟨as, r1⟩ := Dp.reads I d x v hd rx
  obtain ⟨bs, r2⟩ := Dp.reads I e y u he ry
  exact le_data r1 r2 al hn (by omega) ⟨.bl _, H, I, rfl, q⟩
theorem ops_leD {K : PySem.W.Frag} {W : Wd} {P : Sl → Prop} {d e : D} (al : alike d e = true) (hn : d ≠ .none) (hd : d.depth ≤ 60) (p : P (.dat (.bool (!dataLt e d)))) : OpS K W (rLeD K) (.dat d) (.dat e) P := fun F H x y o hx hy Q q =>
  ⟨d, e, (dp_mono o.sub hx).old, (dp_mono o.sub hy).old, al, hn, hd, q _ F H (.dat (.bool _)) o (Step.refl o) (.bl _) p⟩
end DL

namespace K09w
open PySem L2 RZ DL
def top (i : Nat) : Stmt := PySem.Challenge.pw_handsmade_k09_whole_rings.main.body.getD i (.Pass ⟨0, 0, 0, 0⟩)
abbrev s_kind_called : Stmt := top 1
theorem sc_kind_called : FnScope ["works", "name", "kind"] ["works", "name"] (defScope s_kind_called) := ⟨rfl, rfl, rfl, by decide +kernel, rfl, by decide +kernel, by decide +kernel⟩
abbrev s_goods_of : Stmt := top 2
theorem sc_goods_of : FnScope ["works", "names", "kind", "what", "name"] ["works"] (defScope s_goods_of) := ⟨rfl, rfl, rfl, by decide +kernel, rfl, by decide +kernel, by decide +kernel⟩
abbrev s_hangs_straight : Stmt := top 4
theorem sc_hangs_straight : FnScope ["works", "good", "what", "name", "asks", "word", "_"] ["works", "good"] (defScope s_hangs_straight) := ⟨rfl, rfl, rfl, by decide +kernel, rfl, by decide +kernel, by decide +kernel⟩
abbrev s_hangs_on : Stmt := top 5
theorem sc_hangs_on : FnScope ["works", "good", "found", "k", "ons", "other"] ["works", "good"] (defScope s_hangs_on) := ⟨rfl, rfl, rfl, by decide +kernel, rfl, by decide +kernel, by decide +kernel⟩
abbrev s_rings_of : Stmt := top 6
theorem sc_rings_of : FnScope ["works", "hung", "rings", "good", "ons", "ring", "other"] ["works"] (defScope s_rings_of) := ⟨rfl, rfl, rfl, by decide +kernel, rfl, by decide +kernel, by decide +kernel⟩
abbrev s_is_number : Stmt := top 12
theorem sc_is_number : FnScope ["thing"] ["thing"] (defScope s_is_number) := ⟨rfl, rfl, rfl, by decide +kernel, rfl, by decide +kernel, by decide +kernel⟩
abbrev s_is_number_from : Stmt := top 13
theorem sc_is_number_from : FnScope ["thing", "least"] ["thing", "least"] (defScope s_is_number_from) := ⟨rfl, rfl, rfl, by decide +kernel, rfl, by decide +kernel, by decide +kernel⟩
abbrev s_is_word : Stmt := top 14
theorem sc_is_word : FnScope ["thing", "sign"] ["thing"] (defScope s_is_word) := ⟨rfl, rfl, rfl, by decide +kernel, rfl, by decide +kernel, by decide +kernel⟩
abbrev s_is_tuple_of : Stmt := top 15
theorem sc_is_tuple_of : FnScope ["thing", "many"] ["thing", "many"] (defScope s_is_tuple_of) := ⟨rfl, rfl, rfl, by decide +kernel, rfl, by decide +kernel, by decide +kernel⟩
abbrev s_is_rising : Stmt := top 16
theorem sc_is_rising : FnScope ["things", "one", "other"] ["things"] (defScope s_is_rising) := ⟨rfl, rfl, rfl, by decide +kernel, rfl, by decide +kernel, by decide +kernel⟩
abbrev s_is_ask : Stmt := top 17
theorem sc_is_ask : FnScope ["thing"] ["thing"] (defScope s_is_ask) := ⟨rfl, rfl, rfl, by decide +kernel, rfl, by decide +kernel, by decide +kernel⟩
abbrev s_is_asks : Stmt := top 18
theorem sc_is_asks : FnScope ["thing", "ask", "word", "_"] ["thing"] (defScope s_is_asks) := ⟨rfl, rfl, rfl, by decide +kernel, rfl, by decide +kernel, by decide +kernel⟩
abbrev s_is_kind : Stmt := top 19
theorem sc_is_kind : FnScope ["thing", "name", "asks", "takes", "beats", "gives", "back"] ["thing"] (defScope s_is_kind) := ⟨rfl, rfl, rfl, by decide +kernel, rfl, by decide +kernel, by decide +kernel⟩
abbrev s_is_copying : Stmt := top 20
theorem sc_is_copying : FnScope ["thing", "asks", "takes", "beats"] ["thing"] (defScope s_is_copying) := ⟨rfl, rfl, rfl, by decide +kernel, rfl, by decide +kernel, by decide +kernel⟩
abbrev s_is_agreeing : Stmt := top 21
theorem sc_is_agreeing : FnScope ["thing", "many", "takes", "beats"] ["thing"] (defScope s_is_agreeing) := ⟨rfl, rfl, rfl, by decide +kernel, rfl, by decide +kernel, by decide +kernel⟩
abbrev s_is_bounds : Stmt := top 22
theorem sc_is_bounds : FnScope ["thing", "least", "uses", "sheets", "bright", "store"] ["thing", "least"] (defScope s_is_bounds) := ⟨rfl, rfl, rfl, by decide +kernel, rfl, by decide +kernel, by decide +kernel⟩
abbrev s_is_spring : Stmt := top 23
theorem sc_is_spring : FnScope ["thing"] ["thing"] (defScope s_is_spring) := ⟨rfl, rfl, rfl, by decide +kernel, rfl, by decide +kernel, by decide +kernel⟩
abbrev s_is_foe : Stmt := top 24
theorem sc_is_foe : FnScope ["thing"] ["thing"] (defScope s_is_foe) := ⟨rfl, rfl, rfl, by decide +kernel, rfl, by decide +kernel, by decide +kernel⟩
abbrev s_is_kinds : Stmt := top 25
theorem sc_is_kinds : FnScope ["thing", "kind"] ["thing"] (defScope s_is_kinds) := ⟨rfl, rfl, rfl, by decide +kernel, rfl, by decide +kernel, by decide +kernel⟩
abbrev s_is_works : Stmt := top 26
theorem sc_is_works : FnScope ["thing", "kinds", "copying", "agreeing", "bounds", "spring", "foe", "benches"] ["thing"] (defScope s_is_works) := ⟨rfl, rfl, rfl, by decide +kernel, rfl, by decide +kernel, by decide +kernel⟩
abbrev s_lacking_ask : Stmt := top 28
theorem sc_lacking_ask : FnScope ["works", "asks", "j", "name", "_"] ["works", "asks"] (defScope s_lacking_ask) := ⟨rfl, rfl, rfl, by decide +kernel, rfl, by decide +kernel, by decide +kernel⟩
abbrev s_lets_works : Stmt := top 29
theorem sc_lets_works : FnScope ["thing", "kinds", "copying", "k", "kind", "j"] ["thing"] (defScope s_lets_works) := ⟨rfl, rfl, rfl, by decide +kernel, rfl, by decide +kernel, by decide +kernel⟩
abbrev s_is_whole : Stmt := top 30
theorem sc_is_whole : FnScope ["thing"] ["thing"] (defScope s_is_whole) := ⟨rfl, rfl, rfl, by decide +kernel, rfl, by decide +kernel, by decide +kernel⟩
abbrev s__law_feed : Stmt := top 32
theorem sc__law_feed : FnScope ["_law_script"] ["_law_script"] (defScope s__law_feed) := ⟨rfl, rfl, rfl, by decide +kernel, rfl, by decide +kernel, by decide +kernel⟩
abbrev s__law_draw : Stmt := top 33
theorem sc__law_draw : FnScope ["_law_feed_here", "_law_many", "_law_figure", "_law_at", "_law_cell", "_law_mixed"] ["_law_feed_here", "_law_many"] (defScope s__law_draw) := ⟨rfl, rfl, rfl, by decide +kernel, rfl, by decide +kernel, by decide +kernel⟩
abbrev s__law_called : Stmt := top 34
theorem sc__law_called : FnScope ["_law_feed_here", "_law_many", "_law_pool", "_law_some", "_law_k"] ["_law_feed_here", "_law_many"] (defScope s__law_called) := ⟨rfl, rfl, rfl, by decide +kernel, rfl, by decide +kernel, by decide +kernel⟩
abbrev s__law_asks : Stmt := top 35
theorem sc__law_asks : FnScope ["_law_feed_here", "_law_words", "_law_found", "_law_word"] ["_law_feed_here", "_law_words"] (defScope s__law_asks) := ⟨rfl, rfl, rfl, by decide +kernel, rfl, by decide +kernel, by decide +kernel⟩
abbrev s__law_made_kind : Stmt := top 36
theorem sc__law_made_kind : FnScope ["_law_feed_here", "_law_word", "_law_words", "_law_cost", "_law_slow", "_law_many"] ["_law_feed_here", "_law_word", "_law_words"] (defScope s__law_made_kind) := ⟨rfl, rfl, rfl, by decide +kernel, rfl, by decide +kernel, by decide +kernel⟩
abbrev s__law_plant : Stmt := top 37
theorem sc__law_plant : FnScope ["_law_feed_here", "_law_words", "_law_strange", "_law_pool", "_law_kinds", "_law_many", "_law_copying", "_law_agreeing", "_law_sheets", "_law_limits", "_law_flow", "_law_foe", "_law_word"] ["_law_feed_here", "_law_words", "_law_strange"] (defScope s__law_plant) := ⟨rfl, rfl, rfl, by decide +kernel, rfl, by decide +kernel, by decide +kernel⟩
abbrev s__law_pen : Stmt := top 38
theorem sc__law_pen : FnScope ["_law_kinds"] [] (defScope s__law_pen) := ⟨rfl, rfl, rfl, by decide +kernel, rfl, by decide +kernel, by decide +kernel⟩
abbrev s__law_by_hand_plants : Stmt := top 39
theorem sc__law_by_hand_plants : FnScope ["_law_pen_here", "_law_ring", "_law_row", "_law_both", "_law_found"] [] (defScope s__law_by_hand_plants) := ⟨rfl, rfl, rfl, by decide +kernel, rfl, by decide +kernel, by decide +kernel⟩
abbrev s__law_hangs_right : Stmt := top 40
theorem sc__law_hangs_right : FnScope ["_law_plant_here", "_law_one", "_law_on", "_law_straight", "_law_every", "_law_other", "_law_third"] ["_law_plant_here", "_law_one"] (defScope s__law_hangs_right) := ⟨rfl, rfl, rfl, by decide +kernel, rfl, by decide +kernel, by decide +kernel⟩
abbrev s__law_rings_right : Stmt := top 41
theorem sc__law_rings_right : FnScope ["_law_plant_here", "_law_rings", "_law_goods", "_law_one", "_law_own", "_law_ring", "_law_on", "_law_there", "_law_k", "_law_mutual", "_law_other"] ["_law_plant_here"] (defScope s__law_rings_right) := ⟨rfl, rfl, rfl, by decide +kernel, rfl, by decide +kernel, by decide +kernel⟩
abbrev s__law_otherwise : Stmt := top 42
theorem sc__law_otherwise : FnScope ["_law_feed_here", "_law_plant_here", "_law_kinds", "_law_kind", "_law_asks_here", "_law_copying", "_law_pair"] ["_law_feed_here", "_law_plant_here"] (defScope s__law_otherwise) := ⟨rfl, rfl, rfl, by decide +kernel, rfl, by decide +kernel, by decide +kernel⟩
abbrev s_law : Stmt := top 43
theorem sc_law : FnScope ["_law_script", "_law_feed_here", "_law_plants", "_law_k", "_law_plant_here", "_law_other", "_law_one"] ["_law_script"] (defScope s_law) := ⟨rfl, rfl, rfl, by decide +kernel, rfl, by decide +kernel, by decide +kernel⟩
structure Txt (mg : Str → Option Value) : Prop where
  b_all : mg "all" = none
  b_bool : mg "bool" = none
  b_enumerate : mg "enumerate" = none
  b_int : mg "int" = none
  b_isinstance : mg "isinstance" = none
  b_len : mg "len" = none
  b_list : mg "list" = none
  b_range : mg "range" = none
  b_set : mg "set" = none
  b_sorted : mg "sorted" = none
  b_str : mg "str" = none
  b_tuple : mg "tuple" = none
  b_zip : mg "zip" = none

/-! the walk by data -/
local macro_rules | `(tactic| walk_at "dl") => `(tactic| first
  | with_reducible first
    | refine sx_seq ?_ | refine sx_if ?_ | refine sx_ret ?_ | refine sx_next ?_ | refine sx_asg ?_
    | refine et_not ?_ | refine et_B ?_ | refine et_test ?_ | refine et_and ?_ | refine et_or ?_ | refine et_yes ?_
    | refine ev_and ?_ | refine ev_or ?_ | refine ev_not ?_ | refine ev_if ?_ | refine ev_chain ?_
    | refine ev_int ?_ | refine ev_bl ?_ | refine ev_str ?_ | refine ev_non ?_ | refine ev_c ?_
    | refine ev_op ?_ | refine ev_un ?_ | refine ev_cb ?_ | refine ev_fn1 ?_ | refine ev_fn2 ?_ | refine ev_sl ?_ | refine eo_none ?_ | refine eo_some ?_ | refine ev_tup ?_
    | refine ea_cons ?_ | refine ea_nil ?_
    | refine ops_ge ?_ | refine ops_le ?_ | refine ops_gt ?_ | refine ops_lt ?_ | refine ops_leS ?_ | refine ops_ltS ?_ | refine ops_add_int ?_ | refine ops_sub ?_ | refine ops_isN ?_ | refine ops_isNot ?_ | refine ops_eq_int ?_ | refine ops_eqS ?_ | refine ops_neS ?_
    | refine cas_len_tup ?_ | refine cas_isi_int ?_ | refine cas_isi_bool ?_ | refine cas_isi_str ?_ | refine cas_isi_tup ?_ | refine cas_isi_lst ?_
    | refine iteT ?_ | refine iteF ?_ | refine and_nols ?_
  | ((with_reducible refine ev_varx ?_); refine ⟨_, rfl, ?_⟩)
  | ((with_reducible refine ops_ix_tupx ?_); first | refine ⟨_, rfl, ?_⟩ | refine ⟨_, atI_nat (j := 0) rfl, ?_⟩ | refine ⟨_, atI_nat (j := 1) rfl, ?_⟩ | refine ⟨_, atI_nat (j := 2) rfl, ?_⟩)
  | ((with_reducible refine sz_and ?_ ?_); exact rfl)
  | ((with_reducible refine ev_ownx ?_); refine ⟨_, rfl, ?_⟩)
  | ((with_reducible refine ev_refx ?_); refine ⟨_, rfl, ?_⟩)
  | ((with_reducible refine ifT ?_ ?_); exact rfl) | ((with_reducible refine ifF ?_ ?_); exact rfl))
local macro_rules | `(tactic| walk_at "go") => `(tactic| repeat (first | walk_at "dl" | with_reducible refine ⟨_, rfl, ?_⟩ | with_reducible refine ⟨_, _, rfl, ?_⟩))
/-! ### the functions -/
def isNum : D → Bool
  | .int i => decide (0 ≤ i)
  | _ => false
def lowC (c : Nat) : Bool := decide (97 ≤ c) && decide (c ≤ 122)
def isWord : D → Bool
  | .str z => (decide (1 ≤ (z.length : Int)) && decide ((z.length : Int) ≤ 8)) && z.cps.toList.all lowC
  | _ => false
def lenIs : D → D → Bool
  | .tuple ds, .int m => decide ((ds.length : Int) = m)
  | _, _ => false
def geD : D → D → Bool
  | .int i, .int j => decide (j ≤ i)
  | _, _ => false
def fall (ds : List D) : Bool := (ds.zip (ds.drop 1)).all fun p => geD p.1 p.2
def isLights : D → Bool
  | .tuple ds => ds.all isNum && fall ds
  | _ => false
/-- it is this text -/
def isS (x : Str) : D → Bool
  | .str y => decide (y = x)
  | _ => false
def isGood : D → Bool
  | .tuple [a, b] => (isS "tool" a || isS "leaf" a) && isWord b
  | _ => false
def manyIs : D → D → Bool
  | .tuple ds, .none => decide (2 ≤ (ds.length : Int))
  | .tuple ds, .int m => decide ((ds.length : Int) = m)
  | _, _ => false
def isAgreed (d e : D) : Bool := isLights d && manyIs d e
def isDeed : D → D → Bool
  | .tuple [a, b], _ => isS "break" a && isNum b
  | .tuple [a, b, c], g => isWord b && (if isS "agree" a = true then isAgreed c g else (isS "make" a || isS "copy" a) && isNum c)
  | _, _ => false
def isStrike : D → Bool
  | .tuple [a] => isS "stuff" a
  | .tuple [a, b] => if isS "tool" a = true then isWord b else isS "making" a && isNum b
  | .tuple [a, b, c] => isS "leaf" a && (isWord b && isNum c)
  | _ => false
theorem beq_dec {x y : Str} : (x == y) = decide (x = y) := by
  by_cases h : x = y
  · subst h
    simp
  · rw [decide_eq_false h]
    exact beq_eq_false_iff_ne.mpr h
theorem eqv_S {d : D} {x : Str} : PyData.eqv d (.str x) = isS x d := by
  cases d <;> simp [PyData.eqv, isS, beq_dec]
theorem eqv_S' {d : D} {x : Str} : PyData.eqv (.str x) d = isS x d := by
  cases d <;> simp [PyData.eqv, isS, beq_dec, eq_comm]
section
variable {Pg : Program} {w : World} {K : PySem.W.Frag} {mg : Str → Option Value} {base : Heap} {f : Addr} {fd : FuncData}
theorem ok_is_number (F : Fun K "is_number" "is_number" s_is_number f fd) (T : Txt mg) : FnG Pg w K mg base 1 f fd ["thing"] (Pm1 K (fun _ => True) fun d => .bool (isNum d)) := by
  have nd := sc_is_number.nd
  refine fnG_of F sc_is_number pm_len (fun cdv A ou s H vs Q hgd hr h => ?_)
  refine ⟨_, (pss_one (ps_ret (pe_and (pe_callB (r := rIsi K) call_isi (by rfl) T.b_isinstance (by decide +kernel) (pa_cons (pv 0) (pa_cons (pe_bltn (v := .ty "int") rfl T.b_int (by decide +kernel) rfl) pa_nil))) (pe_and (pe_not (pe_callB (r := rIsi K) call_isi (by rfl) T.b_isinstance (by decide +kernel) (pa_cons (pv 0) (pa_cons (pe_bltn (v := .ty "bool") rfl T.b_bool (by decide +kernel) rfl) pa_nil)))) (pe_one (pe_cmpR opGe (pv 0) pe_int (nomark _))))))), body1 (by decide) h fun W F0 d _ => ?_⟩
  change Sx K W H F0 _ [.dat d] _
  walk_at "go"
  cases d with
  | int i =>
    walk_at "go"
    exact rfl
  | bool b =>
    walk_at "go"
    exact rfl
  | _ => exact rfl
theorem chr_le (c : Nat) : (!decide (([c] : List Nat) < ("a" : Str).cps.toList)) = decide (97 ≤ c) := by
  have e : ("a" : Str).cps.toList = [97] := by decide +kernel
  rw [e]
  by_cases h : 97 ≤ c
  · rw [decide_eq_true h, Bool.not_eq_true']
    refine decide_eq_false fun q => ?_
    cases q with
    | rel q => omega
    | cons q => cases q
  · rw [decide_eq_false h]
    have : ([c] : List Nat) < [97] := .rel (by omega)
    rw [decide_eq_true this]
    rfl
theorem chr_ge (c : Nat) : (!decide (("z" : Str).cps.toList < ([c] : List Nat))) = decide (c ≤ 122) := by
  have e : ("z" : Str).cps.toList = [122] := by decide +kernel
  rw [e]
  by_cases h : c ≤ 122
  · rw [decide_eq_true h, Bool.not_eq_true']
    refine decide_eq_false fun q => ?_
    cases q with
    | rel q => omega
    | cons q => cases q
  · rw [decide_eq_false h]
    have : ([122] : List Nat) < [c] := .rel (by omega)
    rw [decide_eq_true this]
    rfl
theorem mem_strD {z : Str} {d : D} (h : d ∈ strD z) : ∃ c, c ∈ z.cps.toList ∧ d = .str ⟨#[c]⟩ := by
  obtain ⟨c, h1, h2⟩ := List.mem_map.mp h
  exact ⟨c, h1, h2.symm⟩
/-- of a text of one sign -/
def low1 : D → Bool
  | .str z => lowC (z.cps.getD 0 0)
  | _ => false
theorem ok_is_word (F : Fun K "is_word" "is_word" s_is_word f fd) (T : Txt mg) : FnG Pg w K mg base 1 f fd ["thing"] (Pm1 K Fine fun d => .bool (isWord d)) := by
  have nd := sc_is_word.nd
  refine fnG_of F sc_is_word pm_len (fun cdv A ou s H vs Q hgd hr h => ?_)
  refine ⟨_, (pss_cons (ps_if (PW.pt (pw_or (pt_not (pt_val (pe_callB (r := rIsi K) call_isi (by rfl) T.b_isinstance (by decide +kernel) (pa_cons (pv 0) (pa_cons (pe_bltn (v := .ty "str") rfl T.b_str (by decide +kernel) rfl) pa_nil))))) (pw_or1 (pt_not (pt_chain opLe opLe pe_int (pe_callB (r := rLenA K) call_len (by rfl) T.b_len (by decide +kernel) (pa_cons (pv 0) pa_nil)) pe_int))))) (pss_one (ps_ret pe_bl)) pss_nil) (pss_one (ps_ret (pe_callB (r := rAll K) (cr_all rfl) (by rfl) T.b_all (by decide +kernel) (pa_cons (pe_lc (own := [("sign", 1)]) (g := gName 1) rfl nd (pi_str (pv 0)) (blkOk_by (N := ["thing", "sign"]) (sc := (defScope s_is_word)) (by decide +kernel)) (fun _ _ _ _ _ => (pg_name (i := 1) nd rfl (Or.inl rfl) (Or.inr rfl))) (fun _ _ _ _ _ => pts_nil) (fun _ _ _ _ _ => (pe_chain opLe opLe pe_str (pv 1) pe_str))) pa_nil))))), body1 (by decide) h fun W F0 d hd => ?_⟩
  change Sx K W H F0 _ [.dat d, .un] _
  walk_at "go"
  cases d with
  | str z =>
    walk_at "go"
    refine cas_len_str hd.sline ?_
    walk_at "go"
    refine if2 (fun h1 => ?_) (fun h1 => ?_)
    · walk_at "go"
      refine if2 (fun h2 => ?_) (fun h2 => ?_)
      · walk_at "go"
        exact rt_bool (by simp only [isWord]; rw [h1, Bool.true_and]; rw [Bool.not_eq_true'] at h2; rw [h2, Bool.false_and])
      · walk_at "go"
        refine ev_frz (evn_mapT (fun d => .bool (low1 d)) (evi_str (ev_varx ⟨_, rfl, z, rfl, ?_, fun d hd => ?_, ?_⟩)))
        · simp only [strD, List.length_map]
          exact Nat.lt_of_le_of_lt hd.slen (by decide)
        · obtain ⟨c, hc, rfl⟩ := mem_strD hd
          refine gc_name (by decide) trivial ?_
          walk_at "go"
          rw [chr_le]
          refine if2 (fun h3 => ?_) (fun h3 => ?_)
          · walk_at "go"
            rw [chr_ge]
            exact rt_bool (by show _ = lowC c; simp only [lowC]; rw [h3, Bool.true_and])
          · exact rt_bool (by show _ = lowC c; simp only [lowC]; rw [h3, Bool.false_and])
        · walk_at "go"
          refine cas_all (bs := z.cps.toList.map lowC) (.inl ?_) ?_
          · simp [strD, low1]
          · refine rt_bool ?_
            simp only [isWord]
            rw [Bool.not_eq_false'] at h2
            rw [h1, h2, List.all_map]
            rfl
    · refine ⟨_, rfl, ?_⟩
      walk_at "go"
      exact rt_bool (by simp only [isWord]; rw [h1, Bool.false_and, Bool.false_and])
  | _ =>
    walk_at "go"
    exact rfl
theorem ok_is_tuple_of (F : Fun K "is_tuple_of" "is_tuple_of" s_is_tuple_of f fd) (T : Txt mg) : FnG Pg w K mg base 1 f fd ["thing", "many"] (Pm2 K (fun _ e => ∃ m, e = .int m) fun d e => .bool (lenIs d e)) := by
  have nd := sc_is_tuple_of.nd
  refine fnG_of F sc_is_tuple_of pm_len (fun cdv A ou s H vs Q hgd hr h => ?_)
  have hu := hr.units
  refine ⟨_, (pss_one (ps_ret (pe_and (pe_callB (r := rIsi K) call_isi (by rfl) T.b_isinstance (by decide +kernel) (pa_cons (pv 0) (pa_cons (pe_bltn (v := .ty "tuple") rfl T.b_tuple (by decide +kernel) rfl) pa_nil))) (pe_one (pe_cmpR (r := rEq2 K) (opEq hu) (pe_callB (r := rLenA K) call_len (by rfl) T.b_len (by decide +kernel) (pa_cons (pv 0) pa_nil)) (pv 1) (nomark _)))))), body2 (by decide) h fun W F0 d e ⟨m, he⟩ => ?_⟩
  subst he
  change Sx K W H F0 _ [.dat d, .dat (.int m)] _
  walk_at "go"
  cases d with
  | tuple ds =>
    walk_at "go"
    exact rfl
  | _ =>
    walk_at "go"
    exact rfl
end
section
variable {Pg : Program} {w : World} {K : PySem.W.Frag} {mg : Str → Option Value} {base : Heap} {f : Addr} {fd : FuncData}
def gePair : D → D
  | .tuple [a, b] => .bool (geD a b)
  | _ => .none
theorem cut1 (ds : List D) : cutD ds (some 1) none = ds.drop 1 := by
  unfold cutD
  have e1 : HT.sIx ds.length 0 (some 1) = min 1 ds.length := HT.sIx_nat _ _ 1
  rw [e1, HT.sIx_none]
  cases ds with
  | nil => rfl
  | cons a t =>
    have e : min 1 (a :: t).length = 1 := by simp
    rw [e]
    exact List.take_of_length_le (by simp)
theorem fall_map (ds : List D) : (zipD ds (cutD ds (some 1) none)).map gePair = ((ds.zip (ds.drop 1)).map fun p => geD p.1 p.2).map .bool := by
  rw [cut1]
  unfold zipD
  rw [List.map_map, List.map_map]
  rfl
theorem mem_zipD {xs ys : List D} {d : D} (h : d ∈ zipD xs ys) : ∃ a b, d = .tuple [a, b] ∧ a ∈ xs ∧ b ∈ ys := by
  obtain ⟨⟨a, b⟩, h1, h2⟩ := List.mem_map.mp h
  exact ⟨a, b, h2.symm, (List.of_mem_zip h1).1, (List.of_mem_zip h1).2⟩
theorem isNum_int {d : D} (h : isNum d = true) : ∃ i, d = .int i := by
  cases d with
  | int i => exact ⟨i, rfl⟩
  | _ => cases h
end
abbrev CNum (Pg : Program) (w : World) (K : PySem.W.Frag) (mg : Str → Option Value) (base : Heap) := Fn Pg w K mg base "is_number" 1 ["thing"] (Pm1 K (fun _ => True) fun d => .bool (isNum d))
abbrev CWord (Pg : Program) (w : World) (K : PySem.W.Frag) (mg : Str → Option Value) (base : Heap) := Fn Pg w K mg base "is_word" 1 ["thing"] (Pm1 K Fine fun d => .bool (isWord d))
abbrev CTup (Pg : Program) (w : World) (K : PySem.W.Frag) (mg : Str → Option Value) (base : Heap) := Fn Pg w K mg base "is_tuple_of" 1 ["thing", "many"] (Pm2 K (fun _ e => ∃ m, e = .int m) fun d e => .bool (lenIs d e))
theorem shS (x : Str) (h : (PyData.str x).canLay0 = true := by decide +kernel) : SeqAt.shaped (.str x) = true := by
  show ((PyData.str x).canLay0 && decide ((PyData.str x).depth ≤ 64)) = true
  rw [h]
  rfl
end K09w

namespace K09w
open PySem L2 RZ DL
/-! the walk by data -/
local macro_rules | `(tactic| walk_at "dl") => `(tactic| first
  | with_reducible first
    | refine sx_seq ?_ | refine sx_if ?_ | refine sx_ret ?_ | refine sx_next ?_ | refine sx_asg ?_
    | refine et_not ?_ | refine et_B ?_ | refine et_test ?_ | refine et_and ?_ | refine et_or ?_ | refine et_yes ?_
    | refine ev_and ?_ | refine ev_or ?_ | refine ev_not ?_ | refine ev_if ?_ | refine ev_chain ?_
    | refine ev_int ?_ | refine ev_bl ?_ | refine ev_str ?_ | refine ev_non ?_ | refine ev_c ?_
    | refine ev_op ?_ | refine ev_un ?_ | refine ev_cb ?_ | refine ev_fn1 ?_ | refine ev_fn2 ?_ | refine ev_sl ?_ | refine eo_none ?_ | refine eo_some ?_ | refine ev_tup ?_
    | refine ea_cons ?_ | refine ea_nil ?_
    | refine ops_ge ?_ | refine ops_le ?_ | refine ops_gt ?_ | refine ops_lt ?_ | refine ops_leS ?_ | refine ops_ltS ?_ | refine ops_add_int ?_ | refine ops_sub ?_ | refine ops_isN ?_ | refine ops_isNot ?_ | refine ops_eq_int ?_ | refine ops_eqS ?_ | refine ops_neS ?_
    | refine cas_len_tup ?_ | refine cas_isi_int ?_ | refine cas_isi_bool ?_ | refine cas_isi_str ?_ | refine cas_isi_tup ?_ | refine cas_isi_lst ?_
    | refine iteT ?_ | refine iteF ?_ | refine and_nols ?_
  | ((with_reducible refine ev_varx ?_); refine ⟨_, rfl, ?_⟩)
  | ((with_reducible refine ops_ix_tupx ?_); first | refine ⟨_, rfl, ?_⟩ | refine ⟨_, atI_nat (j := 0) rfl, ?_⟩ | refine ⟨_, atI_nat (j := 1) rfl, ?_⟩ | refine ⟨_, atI_nat (j := 2) rfl, ?_⟩)
  | ((with_reducible refine sz_and ?_ ?_); exact rfl)
  | ((with_reducible refine ev_ownx ?_); refine ⟨_, rfl, ?_⟩)
  | ((with_reducible refine ev_refx ?_); refine ⟨_, rfl, ?_⟩)
  | ((with_reducible refine ifT ?_ ?_); exact rfl) | ((with_reducible refine ifF ?_ ?_); exact rfl))
local macro_rules | `(tactic| walk_at "go") => `(tactic| repeat (first | walk_at "dl" | with_reducible refine ⟨_, rfl, ?_⟩ | with_reducible refine ⟨_, _, rfl, ?_⟩))
/-! ### the law's own looks -/
section
variable {K : PySem.W.Frag} {W : Wd} {P : Sl → Prop}
abbrev rOrd : List V → Hp → VK → Prop := fun xs H Q => ∃ x, xs = [.str x] ∧ x.length = 1 ∧ Q (.int (x.cps.getD 0 0 : Nat)) H
theorem cas_ord {c : Nat} (p : P (.dat (.int (c : Nat)))) : CaS K W rOrd [.dat (.str ⟨#[c]⟩)] P := fun F H xs o hx Q q => by
  cases hx with
  | cons h1 h2 =>
    cases h2
    rw [vok_str h1]
    exact ⟨_, rfl, rfl, q _ F H (.dat (.int (c : Nat))) o (Step.refl o) (.int _) p⟩
theorem eqv_nil {xs : List D} : PyData.eqv (.list xs) (.list []) = xs.isEmpty := by cases xs <;> simp [PyData.eqv, PyData.eqvAll]
theorem eqv_nilT {xs : List D} : PyData.eqv (.tuple xs) (.tuple []) = xs.isEmpty := by cases xs <;> simp [PyData.eqv, PyData.eqvAll]
theorem shaped_list {xs : List D} (h : ∀ x ∈ xs, Fine x) : SeqAt.shaped (.list xs) = true := by
  have h1 : PyData.canLayAll0 xs = true := okDs_lay (okDs_iff.mpr fun x hx => (h x hx).ok)
  have h2 : PyData.depthAll xs ≤ 40 := by
    clear h1
    induction xs with
    | nil => exact Nat.zero_le _
    | cons x xs ih =>
      simp only [PyData.depthAll]
      exact Nat.max_le.mpr ⟨(h x List.mem_cons_self).dep, ih fun y hy => h y (List.mem_cons_of_mem _ hy)⟩
  show ((PyData.list xs).canLay0 && decide ((PyData.list xs).depth ≤ 64)) = true
  simp only [PyData.canLay0, PyData.depth, h1, Bool.true_and]
  exact decide_eq_true (by omega)
theorem shaped_nil : SeqAt.shaped (.list []) = true := by decide +kernel
theorem shaped_nilT : SeqAt.shaped (.tuple []) = true := by decide +kernel
theorem fine_chr {z : Str} (hd : Fine (.str z)) {d : D} (h : d ∈ strD z) : Fine d := by
  obtain ⟨c, hc, rfl⟩ := mem_strD h
  have h1 := hd.ok
  simp only [okD, List.all_eq_true] at h1
  refine ⟨?_, ?_, ?_⟩
  · simp only [okD]
    show ([c] : List Nat).all _ = true
    rw [List.all_cons, h1 c hc]
    rfl
  · simp only [PyData.weight]
    show 1 ≤ 250000
    decide
  · simp only [PyData.depth]
    decide
theorem fine_int {i : Int} (h : i.natAbs ≤ 250000) : Fine (.int i) := by
  refine ⟨?_, ?_, ?_⟩
  · simp only [okD]
    exact decide_eq_true (Nat.le_trans h (by decide +kernel))
  · simp only [PyData.weight]
    split
    · exact Nat.zero_le _
    · have : i.natAbs.log2 ≤ i.natAbs := Nat.log2_le_self _
      have h3 : i.natAbs.log2 < 18 := by
        by_cases z : i.natAbs = 0
        · rw [z]
          decide
        · rw [Nat.log2_lt z]
          omega
      omega
  · simp only [PyData.depth]
    decide
end
theorem cut_to {ds : List D} {i : Nat} (h : i ≤ ds.length) : cutD ds none (some (i : Int)) = ds.take i := by
  have e : HT.sIx ds.length ds.length (some (i : Int)) = i := by
    have z : ¬ (i : Int) < 0 := by omega
    simp [HT.sIx, z, h]
  unfold cutD
  rw [e]
  simp [HT.sIx]
theorem cut_from {ds : List D} {i : Nat} (h : i ≤ ds.length) : cutD ds (some (i : Int)) none = ds.drop i := by
  have e : HT.sIx ds.length 0 (some (i : Int)) = i := by
    have z : ¬ (i : Int) < 0 := by omega
    simp [HT.sIx, z, h]
  unfold cutD
  rw [e]
  exact List.take_of_length_le (by simp [HT.sIx])
end K09w

namespace K09w
open PySem L2 RZ DL
/-! the walk by data -/
local macro_rules | `(tactic| walk_at "dl") => `(tactic| first
  | with_reducible first
    | refine sx_seq ?_ | refine sx_if ?_ | refine sx_ret ?_ | refine sx_next ?_ | refine sx_asg ?_
    | refine et_not ?_ | refine et_B ?_ | refine et_test ?_ | refine et_and ?_ | refine et_or ?_ | refine et_yes ?_
    | refine ev_and ?_ | refine ev_or ?_ | refine ev_not ?_ | refine ev_if ?_ | refine ev_chain ?_
    | refine ev_int ?_ | refine ev_bl ?_ | refine ev_str ?_ | refine ev_non ?_ | refine ev_c ?_
    | refine ev_op ?_ | refine ev_un ?_ | refine ev_cb ?_ | refine ev_fn1 ?_ | refine ev_fn2 ?_ | refine ev_sl ?_ | refine eo_none ?_ | refine eo_some ?_ | refine ev_tup ?_
    | refine ea_cons ?_ | refine ea_nil ?_
    | refine ops_ge ?_ | refine ops_le ?_ | refine ops_gt ?_ | refine ops_lt ?_ | refine ops_leS ?_ | refine ops_ltS ?_ | refine ops_add_int ?_ | refine ops_sub ?_ | refine ops_isN ?_ | refine ops_isNot ?_ | refine ops_eq_int ?_ | refine ops_eqS ?_ | refine ops_neS ?_
    | refine cas_len_tup ?_ | refine cas_isi_int ?_ | refine cas_isi_bool ?_ | refine cas_isi_str ?_ | refine cas_isi_tup ?_ | refine cas_isi_lst ?_
    | refine iteT ?_ | refine iteF ?_ | refine and_nols ?_
  | ((with_reducible refine ev_varx ?_); refine ⟨_, rfl, ?_⟩)
  | ((with_reducible refine ops_ix_tupx ?_); first | refine ⟨_, rfl, ?_⟩ | refine ⟨_, atI_nat (j := 0) rfl, ?_⟩ | refine ⟨_, atI_nat (j := 1) rfl, ?_⟩ | refine ⟨_, atI_nat (j := 2) rfl, ?_⟩)
  | ((with_reducible refine sz_and ?_ ?_); exact rfl)
  | ((with_reducible refine ev_ownx ?_); refine ⟨_, rfl, ?_⟩)
  | ((with_reducible refine ev_refx ?_); refine ⟨_, rfl, ?_⟩)
  | ((with_reducible refine ifT ?_ ?_); exact rfl) | ((with_reducible refine ifF ?_ ?_); exact rfl))
local macro_rules | `(tactic| walk_at "go") => `(tactic| repeat (first | walk_at "dl" | with_reducible refine ⟨_, rfl, ?_⟩ | with_reducible refine ⟨_, _, rfl, ?_⟩))
theorem if2n {c : Bool} {A B : Prop} (h : c = false → A) (h' : c = true → B) : if (!c) = true then A else B := by
  cases c with
  | true => exact h' rfl
  | false => exact h rfl
/-! ### looks at kinds -/
def numFrom (d e : D) : Bool := isNum d && geD d e
def ltD : D → D → Bool
  | .str a, .str b => decide (a.cps.toList < b.cps.toList)
  | _, _ => false
def rise (ds : List D) : Bool := (ds.zip (ds.drop 1)).all fun p => ltD p.1 p.2
def isRise : D → Bool
  | .list ds => rise ds
  | _ => false
def fst0 : D → D
  | .tuple (a :: _) => a
  | _ => .none
def askParts : D → Bool
  | .tuple [a, b] => isWord a && numFrom b (.int 1)
  | _ => false
def isAsk (d : D) : Bool := lenIs d (.int 2) && askParts d
def isAsks : D → Bool
  | .tuple ds => ds.all isAsk && rise (ds.map fst0)
  | _ => false
def leD : D → D → Bool
  | .int i, .int j => decide (i ≤ j)
  | _, _ => false
def kindParts : D → Bool
  | .tuple [n, a, t, b, g, k] => (isWord n && isAsks a) && (numFrom b (.int 1) && numFrom g (.int 1)) && (isNum t && (isNum k && leD k t))
  | _ => false
def isKind (d : D) : Bool := lenIs d (.int 6) && kindParts d
def copyParts : D → Bool
  | .tuple [a, t, b] => isAsks a && (isNum t && numFrom b (.int 1))
  | _ => false
def isCopying (d : D) : Bool := lenIs d (.int 3) && copyParts d
def agreeParts : D → Bool
  | .tuple [m, t, b] => numFrom m (.int 2) && (isNum t && numFrom b (.int 1))
  | _ => false
def isAgreeing (d : D) : Bool := lenIs d (.int 3) && agreeParts d
def boundParts : D → D → Bool
  | .tuple [u, s, b, t], e => (numFrom u (.int 1) && numFrom b (.int 1)) && (numFrom s e && isNum t)
  | _, _ => false
def isBounds (d e : D) : Bool := lenIs d (.int 4) && boundParts d e
def springParts : D → Bool
  | .tuple [a, b] => isNum a && numFrom b (.int 1)
  | _ => false
def isSpring (d : D) : Bool := lenIs d (.int 2) && springParts d
def foeParts : D → Bool
  | .tuple [a, b] => numFrom a (.int 1) && numFrom b (.int 1)
  | _ => false
def isFoe (d : D) : Bool := lenIs d (.int 2) && foeParts d
def isKinds : D → Bool
  | .tuple ds => !ds.isEmpty && (ds.all isKind && rise (ds.map fst0))
  | _ => false
def worksParts : D → Bool
  | .tuple [k, c, a, b, s, f, n] => (isKinds k && (isCopying c && isAgreeing a)) && (isBounds b (fst0 a) && (isSpring s && (isFoe f && numFrom n (.int 1))))
  | _ => false
def isWorks (d : D) : Bool := lenIs d (.int 7) && worksParts d
theorem lenIs_is {d : D} {m : Int} (h : lenIs d (.int m) = true) : ∃ ds, d = .tuple ds ∧ (ds.length : Int) = m := by
  cases d with
  | tuple ds => exact ⟨ds, rfl, of_decide_eq_true h⟩
  | _ => cases h
abbrev CFrom (Pg : Program) (w : World) (K : PySem.W.Frag) (mg : Str → Option Value) (base : Heap) := Fn Pg w K mg base "is_number_from" 2 ["thing", "least"] (Pm2 K (fun _ e => ∃ m, e = .int m) fun d e => .bool (numFrom d e))
abbrev CRise (Pg : Program) (w : World) (K : PySem.W.Frag) (mg : Str → Option Value) (base : Heap) := Fn Pg w K mg base "is_rising" 1 ["things"] (Pm1 K (fun d => ∃ xs : List Str, d = .list (xs.map .str) ∧ xs.length ≤ 250000) fun d => .bool (isRise d))
abbrev CAsk (Pg : Program) (w : World) (K : PySem.W.Frag) (mg : Str → Option Value) (base : Heap) := Fn Pg w K mg base "is_ask" 3 ["thing"] (Pm1 K Fine fun d => .bool (isAsk d))
abbrev CAsks (Pg : Program) (w : World) (K : PySem.W.Frag) (mg : Str → Option Value) (base : Heap) := Fn Pg w K mg base "is_asks" 4 ["thing"] (Pm1 K Fine fun d => .bool (isAsks d))
abbrev CKind (Pg : Program) (w : World) (K : PySem.W.Frag) (mg : Str → Option Value) (base : Heap) := Fn Pg w K mg base "is_kind" 5 ["thing"] (Pm1 K Fine fun d => .bool (isKind d))
section
variable {Pg : Program} {w : World} {K : PySem.W.Frag} {mg : Str → Option Value} {base : Heap} {f : Addr} {fd : FuncData}
theorem ok_is_number_from (F : Fun K "is_number_from" "is_number_from" s_is_number_from f fd) (T : Txt mg) (C_is_number : CNum Pg w K mg base) : FnG Pg w K mg base 2 f fd ["thing", "least"] (Pm2 K (fun _ e => ∃ m, e = .int m) fun d e => .bool (numFrom d e)) := by
  have nd := sc_is_number_from.nd
  refine fnG_of F sc_is_number_from pm_len (fun cdv A ou s H vs Q hgd hr h => ?_)
  refine ⟨_, (pss_one (ps_ret (pe_and (pe_fn C_is_number hgd (hr.mono (by first | decide | omega)) rfl (pa_cons (pv 0) pa_nil)) (pe_one (pe_cmpR opGe (pv 0) (pv 1) (nomark _)))))), body2 (by decide) h fun W F0 d e ⟨m, he⟩ => ?_⟩
  subst he
  change Sx K W H F0 _ [.dat d, .dat (.int m)] _
  walk_at "go"
  refine ⟨trivial, _, rfl, if2 (fun h1 => ?_) (fun h1 => ?_)⟩
  · obtain ⟨i, rfl⟩ := isNum_int h1
    walk_at "go"
    exact rt_bool (by simp [numFrom, h1, geD])
  · exact rt_bool (by simp [numFrom, h1])
def ltPair : D → D
  | .tuple [a, b] => .bool (ltD a b)
  | _ => .none
theorem rise_map (ds : List D) : (zipD ds (cutD ds (some 1) none)).map ltPair = ((ds.zip (ds.drop 1)).map fun p => ltD p.1 p.2).map .bool := by
  rw [cut1]
  unfold zipD
  rw [List.map_map, List.map_map]
  rfl
theorem ok_is_rising (F : Fun K "is_rising" "is_rising" s_is_rising f fd) (T : Txt mg) : FnG Pg w K mg base 1 f fd ["things"] (Pm1 K (fun d => ∃ xs : List Str, d = .list (xs.map .str) ∧ xs.length ≤ 250000) fun d => .bool (isRise d)) := by
  have nd := sc_is_rising.nd
  refine fnG_of F sc_is_rising pm_len (fun cdv A ou s H vs Q hgd hr h => ?_)
  refine ⟨_, (pss_one (ps_ret (pe_callB (r := rAll K) (cr_all rfl) (by rfl) T.b_all (by decide +kernel) (pa_cons (pe_lc (own := [("one", 1), ("other", 2)]) (g := (gTup K 2 (gCons (gName 1) (gCons (gName 2) gNil)))) rfl nd (pi_zipA rfl T.b_zip (pa_cons (pv 0) (pa_cons (pe_slice (r := rSl3 K) slAny (pv 0) (po_some pe_int) po_none) pa_nil))) (blkOk_by (N := ["things", "one", "other"]) (sc := (defScope s_is_rising)) (by decide +kernel)) (fun _ _ _ _ _ => (pg_tup (n := 2) rfl (pgs_cons (pg_name (i := 1) nd rfl (Or.inl rfl) (Or.inr rfl)) (pgs_cons (pg_name (i := 2) nd rfl (Or.inl rfl) (Or.inr rfl)) pgs_nil)))) (fun _ _ _ _ _ => pts_nil) (fun _ _ _ _ _ => (pe_cmpR opLt (pv 1) (pv 2) (nomark _)))) pa_nil)))), body1 (by decide) h fun W F0 d ⟨xs, hd, hl⟩ => ?_⟩
  subst hd
  change Sx K W H F0 _ [.dat (.list (xs.map .str)), .un, .un] _
  walk_at "go"
  refine ev_frz (evn_mapT ltPair (evi_zip ?_))
  walk_at "go"
  refine sls_lst (.inl rfl) ?_
  walk_at "go"
  refine ⟨xs.map .str, _, .inl rfl, ?_, fun d hd => ?_, ?_⟩
  · rw [zipD_len, List.length_map, sizeLine_eq]
    omega
  · obtain ⟨a, b, rfl, ha, hb⟩ := mem_zipD hd
    rw [cut1] at hb
    obtain ⟨x, _, rfl⟩ := List.mem_map.mp ha
    obtain ⟨y, _, rfl⟩ := List.mem_map.mp (List.mem_of_mem_drop hb)
    refine gc_tup rfl (gcs_cons (gc_name (by decide) trivial (gcs_cons (gc_name (by decide) trivial (gcs_nil ?_)))))
    walk_at "go"
    exact rfl
  · walk_at "go"
    rw [rise_map]
    refine cas_all (.inl rfl) ?_
    refine rt_bool ?_
    simp only [isRise, rise]
    rw [List.all_map]
    rfl
theorem ok_is_ask (F : Fun K "is_ask" "is_ask" s_is_ask f fd) (T : Txt mg) (C_is_tuple_of : CTup Pg w K mg base) (C_is_word : CWord Pg w K mg base) (C_is_number_from : CFrom Pg w K mg base) : FnG Pg w K mg base 3 f fd ["thing"] (Pm1 K Fine fun d => .bool (isAsk d)) := by
  have nd := sc_is_ask.nd
  refine fnG_of F sc_is_ask pm_len (fun cdv A ou s H vs Q hgd hr h => ?_)
  refine ⟨_, (pss_one (ps_ret (pe_and (pe_fn C_is_tuple_of hgd (hr.mono (by first | decide | omega)) rfl (pa_cons (pv 0) (pa_cons pe_int pa_nil))) (pe_and (pe_fn C_is_word hgd (hr.mono (by first | decide | omega)) rfl (pa_cons (pe_ix (r := rIx K) ix_seq (pv 0) pe_int (fun _ _ => rfl)) pa_nil)) (pe_one (pe_fn C_is_number_from hgd (hr.mono (by first | decide | omega)) rfl (pa_cons (pe_ix (r := rIx K) ix_seq (pv 0) pe_int (fun _ _ => rfl)) (pa_cons pe_int pa_nil)))))))), body1 (by decide) h fun W F0 d hd => ?_⟩
  change Sx K W H F0 _ [.dat d] _
  walk_at "go"
  refine ⟨⟨_, rfl⟩, _, rfl, if2 (fun h1 => ?_) (fun h1 => ?_)⟩
  · obtain ⟨ds, rfl, hl⟩ := lenIs_is h1
    match ds, hl with
    | [a, b], _ =>
      walk_at "go"
      refine ⟨hd.tup (by simp), _, rfl, if2 (fun h2 => ?_) (fun h2 => ?_)⟩
      · walk_at "go"
        refine ⟨⟨_, rfl⟩, ?_⟩
        exact rt_bool (by simp [isAsk, askParts, h1, h2])
      · exact rt_bool (by simp [isAsk, askParts, h1, h2])
  · exact rt_bool (by simp [isAsk, h1])
end
end K09w

namespace K09w
open PySem L2 RZ DL
/-! the walk by data -/
local macro_rules | `(tactic| walk_at "dl") => `(tactic| first
  | with_reducible first
    | refine sx_seq ?_ | refine sx_if ?_ | refine sx_ret ?_ | refine sx_next ?_ | refine sx_asg ?_
    | refine et_not ?_ | refine et_B ?_ | refine et_test ?_ | refine et_and ?_ | refine et_or ?_ | refine et_yes ?_
    | refine ev_and ?_ | refine ev_or ?_ | refine ev_not ?_ | refine ev_if ?_ | refine ev_chain ?_
    | refine ev_int ?_ | refine ev_bl ?_ | refine ev_str ?_ | refine ev_non ?_ | refine ev_c ?_
    | refine ev_op ?_ | refine ev_un ?_ | refine ev_cb ?_ | refine ev_fn1 ?_ | refine ev_fn2 ?_ | refine ev_sl ?_ | refine eo_none ?_ | refine eo_some ?_ | refine ev_tup ?_
    | refine ea_cons ?_ | refine ea_nil ?_
    | refine ops_ge ?_ | refine ops_le ?_ | refine ops_gt ?_ | refine ops_lt ?_ | refine ops_leS ?_ | refine ops_ltS ?_ | refine ops_add_int ?_ | refine ops_sub ?_ | refine ops_isN ?_ | refine ops_isNot ?_ | refine ops_eq_int ?_ | refine ops_eqS ?_ | refine ops_neS ?_
    | refine cas_len_tup ?_ | refine cas_isi_int ?_ | refine cas_isi_bool ?_ | refine cas_isi_str ?_ | refine cas_isi_tup ?_ | refine cas_isi_lst ?_
    | refine iteT ?_ | refine iteF ?_ | refine and_nols ?_
  | ((with_reducible refine ev_varx ?_); refine ⟨_, rfl, ?_⟩)
  | ((with_reducible refine ops_ix_tupx ?_); first | refine ⟨_, rfl, ?_⟩ | refine ⟨_, atI_nat (j := 0) rfl, ?_⟩ | refine ⟨_, atI_nat (j := 1) rfl, ?_⟩ | refine ⟨_, atI_nat (j := 2) rfl, ?_⟩)
  | ((with_reducible refine sz_and ?_ ?_); exact rfl)
  | ((with_reducible refine ev_ownx ?_); refine ⟨_, rfl, ?_⟩)
  | ((with_reducible refine ev_refx ?_); refine ⟨_, rfl, ?_⟩)
  | ((with_reducible refine ifT ?_ ?_); exact rfl) | ((with_reducible refine ifF ?_ ?_); exact rfl))
local macro_rules | `(tactic| walk_at "go") => `(tactic| repeat (first | walk_at "dl" | with_reducible refine ⟨_, rfl, ?_⟩ | with_reducible refine ⟨_, _, rfl, ?_⟩))
theorem isWord_str {d : D} (h : isWord d = true) : ∃ x, d = .str x := by
  cases d with
  | str x => exact ⟨x, rfl⟩
  | _ => cases h
theorem ask_is {d : D} (h : isAsk d = true) : ∃ x b, d = .tuple [.str x, b] ∧ numFrom b (.int 1) = true := by
  simp only [isAsk, Bool.and_eq_true] at h
  obtain ⟨ds, rfl, hl⟩ := lenIs_is h.1
  match ds, hl, h with
  | [a, b], _, h =>
    simp only [askParts, Bool.and_eq_true] at h
    obtain ⟨x, rfl⟩ := isWord_str h.2.1
    exact ⟨x, b, rfl, h.2.2⟩
theorem firsts {p : D → Bool} (hp : ∀ d, p d = true → ∃ x, fst0 d = .str x) : ∀ {ds : List D}, ds.all p = true → ∃ xs : List Str, ds.map fst0 = xs.map .str ∧ xs.length = ds.length
  | [], _ => ⟨[], rfl, rfl⟩
  | d :: ds, h => by
    simp only [List.all_cons, Bool.and_eq_true] at h
    obtain ⟨x, e⟩ := hp d h.1
    obtain ⟨xs, e2, l⟩ := firsts hp h.2
    exact ⟨x :: xs, by rw [List.map_cons, List.map_cons, e, e2], by rw [List.length_cons, List.length_cons, l]⟩
theorem all_map' {p : D → Bool} (ds : List D) : (ds.map p).all id = ds.all p := by
  rw [List.all_map]
  rfl
section
variable {Pg : Program} {w : World} {K : PySem.W.Frag} {mg : Str → Option Value} {base : Heap} {f : Addr} {fd : FuncData}
theorem ok_is_asks (F : Fun K "is_asks" "is_asks" s_is_asks f fd) (T : Txt mg) (C_is_ask : CAsk Pg w K mg base) (C_is_rising : CRise Pg w K mg base) : FnG Pg w K mg base 4 f fd ["thing"] (Pm1 K Fine fun d => .bool (isAsks d)) := by
  have nd := sc_is_asks.nd
  refine fnG_of F sc_is_asks pm_len (fun cdv A ou s H vs Q hgd hr h => ?_)
  refine ⟨_, (pss_cons (ps_if (PW.pt (pw_or (pt_not (pt_val (pe_callB (r := rIsi K) call_isi (by rfl) T.b_isinstance (by decide +kernel) (pa_cons (pv 0) (pa_cons (pe_bltn (v := .ty "tuple") rfl T.b_tuple (by decide +kernel) rfl) pa_nil))))) (pw_or1 (pt_not (pt_val (pe_callB (r := rAll K) (cr_all rfl) (by rfl) T.b_all (by decide +kernel) (pa_cons (pe_lc (own := [("ask", 1)]) (g := gName 1) rfl nd (pi_tup (pv 0)) (blkOk_by (N := ["thing", "ask", "word", "_"]) (sc := (defScope s_is_asks)) (by decide +kernel)) (fun _ _ _ _ _ => (pg_name (i := 1) nd rfl (Or.inl rfl) (Or.inr rfl))) (fun _ _ _ _ _ => pts_nil) (fun _ _ _ _ _ => (pe_fn C_is_ask hgd (hr.mono (by first | decide | omega)) rfl (pa_cons (pv 1) pa_nil)))) pa_nil))))))) (pss_one (ps_ret pe_bl)) pss_nil) (pss_one (ps_ret (pe_fn C_is_rising hgd (hr.mono (by first | decide | omega)) rfl (pa_cons (pe_lc (own := [("word", 2), ("_", 3)]) (g := (gTup K 2 (gCons (gName 2) (gCons (gName 3) gNil)))) rfl nd (pi_tup (pv 0)) (blkOk_by (N := ["thing", "ask", "word", "_"]) (sc := (defScope s_is_asks)) (by decide +kernel)) (fun _ _ _ _ _ => (pg_tup (n := 2) rfl (pgs_cons (pg_name (i := 2) nd rfl (Or.inl rfl) (Or.inr rfl)) (pgs_cons (pg_name (i := 3) nd rfl (Or.inl rfl) (Or.inr rfl)) pgs_nil)))) (fun _ _ _ _ _ => pts_nil) (fun _ _ _ _ _ => (pv 2))) pa_nil))))), body1 (by decide) h fun W F0 d hd => ?_⟩
  change Sx K W H F0 _ [.dat d, .un, .un, .un] _
  walk_at "go"
  cases d with
  | tuple ds =>
    have hlen := hd.tlen
    have hsz : ds.length < sizeLine := Nat.lt_of_le_of_lt hlen (by decide)
    walk_at "go"
    refine ev_frz (evn_mapT (fun d => .bool (isAsk d)) (evi_tup (ev_varx ⟨_, rfl, ds, rfl, hsz, fun d m => ?_, ?_⟩)))
    · refine gc_name (by decide) trivial ?_
      walk_at "go"
      exact ⟨hd.tup m, rfl⟩
    · walk_at "go"
      refine cas_all (bs := ds.map isAsk) (.inl (by simp)) ?_
      rw [all_map']
      refine ⟨_, rfl, if2n (fun h2 => ?_) (fun h2 => ?_)⟩
      · walk_at "go"
        exact rt_bool (by simp [isAsks, h2])
      · walk_at "go"
        obtain ⟨xs, ex, lx⟩ := firsts (p := isAsk) (fun d h => by
          obtain ⟨x, b, rfl, _⟩ := ask_is h
          exact ⟨x, rfl⟩) h2
        refine ev_frz (evn_mapT fst0 (evi_tup (ev_varx ⟨_, rfl, ds, rfl, hsz, fun d m => ?_, ?_⟩)))
        · obtain ⟨x, b, rfl, _⟩ := ask_is (List.all_eq_true.mp h2 d m)
          refine gc_tup rfl (gcs_cons (gc_name (by decide) trivial (gcs_cons (gc_name (by decide) trivial (gcs_nil ?_)))))
          walk_at "go"
          exact rfl
        · walk_at "go"
          refine ⟨⟨xs, by rw [ex], by omega⟩, ?_⟩
          exact rt_bool (by simp [isAsks, isRise, h2])
  | _ =>
    walk_at "go"
    exact rfl
theorem ok_is_kind (F : Fun K "is_kind" "is_kind" s_is_kind f fd) (T : Txt mg) (C_is_tuple_of : CTup Pg w K mg base) (C_is_word : CWord Pg w K mg base) (C_is_number : CNum Pg w K mg base) (C_is_number_from : CFrom Pg w K mg base) (C_is_asks : CAsks Pg w K mg base) : FnG Pg w K mg base 5 f fd ["thing"] (Pm1 K Fine fun d => .bool (isKind d)) := by
  have nd := sc_is_kind.nd
  refine fnG_of F sc_is_kind pm_len (fun cdv A ou s H vs Q hgd hr h => ?_)
  refine ⟨_, (pss_cons (ps_if (pt_not (pt_val (pe_fn C_is_tuple_of hgd (hr.mono (by first | decide | omega)) rfl (pa_cons (pv 0) (pa_cons pe_int pa_nil))))) (pss_one (ps_ret pe_bl)) pss_nil) (pss_cons (ps_asg (pv 0) (pg_tup (n := 6) rfl (pgs_cons (pg_name (i := 1) nd rfl (Or.inl rfl) (Or.inl rfl)) (pgs_cons (pg_name (i := 2) nd rfl (Or.inl rfl) (Or.inl rfl)) (pgs_cons (pg_name (i := 3) nd rfl (Or.inl rfl) (Or.inl rfl)) (pgs_cons (pg_name (i := 4) nd rfl (Or.inl rfl) (Or.inl rfl)) (pgs_cons (pg_name (i := 5) nd rfl (Or.inl rfl) (Or.inl rfl)) (pgs_cons (pg_name (i := 6) nd rfl (Or.inl rfl) (Or.inl rfl)) pgs_nil)))))))) (pss_cons (ps_if (PW.pt (pw_or (pt_not (pt_val (pe_fn C_is_word hgd (hr.mono (by first | decide | omega)) rfl (pa_cons (pv 1) pa_nil)))) (pw_or1 (pt_not (pt_val (pe_fn C_is_asks hgd (hr.mono (by first | decide | omega)) rfl (pa_cons (pv 2) pa_nil))))))) (pss_one (ps_ret pe_bl)) pss_nil) (pss_cons (ps_if (PW.pt (pw_or (pt_not (pt_val (pe_fn C_is_number_from hgd (hr.mono (by first | decide | omega)) rfl (pa_cons (pv 4) (pa_cons pe_int pa_nil))))) (pw_or1 (pt_not (pt_val (pe_fn C_is_number_from hgd (hr.mono (by first | decide | omega)) rfl (pa_cons (pv 5) (pa_cons pe_int pa_nil)))))))) (pss_one (ps_ret pe_bl)) pss_nil) (pss_one (ps_ret (pe_and (pe_fn C_is_number hgd (hr.mono (by first | decide | omega)) rfl (pa_cons (pv 3) pa_nil)) (pe_and (pe_fn C_is_number hgd (hr.mono (by first | decide | omega)) rfl (pa_cons (pv 6) pa_nil)) (pe_one (pe_cmpR opLe (pv 6) (pv 3) (nomark _))))))))))), body1 (by decide) h fun W F0 d hd => ?_⟩
  change Sx K W H F0 _ [.dat d, .un, .un, .un, .un, .un, .un] _
  walk_at "go"
  refine ⟨⟨_, rfl⟩, _, rfl, if2n (fun h1 => ?_) (fun h1 => ?_)⟩
  · walk_at "go"
    exact rt_bool (by simp [isKind, h1])
  obtain ⟨ds, rfl, hl⟩ := lenIs_is h1
  match ds, hl, hd with
  | [n, a, t, b, g, k], _, hd =>
    walk_at "go"
    refine sx_asgG (ev_varx ⟨_, rfl, gs_tup rfl (gss_cons (gs_name trivial (gss_cons (gs_name trivial (gss_cons (gs_name trivial (gss_cons (gs_name trivial (gss_cons (gs_name trivial (gss_cons (gs_name trivial (gss_nil ?_)))))))))))))⟩)
    walk_at "go"
    refine ⟨hd.tup (by simp), _, rfl, if2n (fun h2 => ?_) (fun h2 => ?_)⟩
    · walk_at "go"
      exact rt_bool (by simp [isKind, kindParts, h2])
    walk_at "go"
    refine ⟨hd.tup (by simp), _, rfl, if2n (fun h3 => ?_) (fun h3 => ?_)⟩
    · walk_at "go"
      exact rt_bool (by simp [isKind, kindParts, h3])
    walk_at "go"
    refine ⟨⟨_, rfl⟩, _, rfl, if2n (fun h4 => ?_) (fun h4 => ?_)⟩
    · walk_at "go"
      exact rt_bool (by simp [isKind, kindParts, h4])
    walk_at "go"
    refine ⟨⟨_, rfl⟩, _, rfl, if2n (fun h5 => ?_) (fun h5 => ?_)⟩
    · walk_at "go"
      exact rt_bool (by simp [isKind, kindParts, h5])
    walk_at "go"
    refine ⟨trivial, _, rfl, if2 (fun h6 => ?_) (fun h6 => ?_)⟩
    · walk_at "go"
      refine ⟨trivial, _, rfl, if2 (fun h7 => ?_) (fun h7 => ?_)⟩
      · obtain ⟨i, rfl⟩ := isNum_int h6
        obtain ⟨j, rfl⟩ := isNum_int h7
        walk_at "go"
        exact rt_bool (by simp [isKind, kindParts, h1, h2, h3, h4, h5, h6, h7, leD])
      · exact rt_bool (by simp [isKind, kindParts, h7])
    · exact rt_bool (by simp [isKind, kindParts, h6])
theorem ok_is_copying (F : Fun K "is_copying" "is_copying" s_is_copying f fd) (T : Txt mg) (C_is_tuple_of : CTup Pg w K mg base) (C_is_number : CNum Pg w K mg base) (C_is_number_from : CFrom Pg w K mg base) (C_is_asks : CAsks Pg w K mg base) : FnG Pg w K mg base 5 f fd ["thing"] (Pm1 K Fine fun d => .bool (isCopying d)) := by
  have nd := sc_is_copying.nd
  refine fnG_of F sc_is_copying pm_len (fun cdv A ou s H vs Q hgd hr h => ?_)
  refine ⟨_, (pss_cons (ps_if (pt_not (pt_val (pe_fn C_is_tuple_of hgd (hr.mono (by first | decide | omega)) rfl (pa_cons (pv 0) (pa_cons pe_int pa_nil))))) (pss_one (ps_ret pe_bl)) pss_nil) (pss_cons (ps_asg (pv 0) (pg_tup (n := 3) rfl (pgs_cons (pg_name (i := 1) nd rfl (Or.inl rfl) (Or.inl rfl)) (pgs_cons (pg_name (i := 2) nd rfl (Or.inl rfl) (Or.inl rfl)) (pgs_cons (pg_name (i := 3) nd rfl (Or.inl rfl) (Or.inl rfl)) pgs_nil))))) (pss_one (ps_ret (pe_and (pe_fn C_is_asks hgd (hr.mono (by first | decide | omega)) rfl (pa_cons (pv 1) pa_nil)) (pe_and (pe_fn C_is_number hgd (hr.mono (by first | decide | omega)) rfl (pa_cons (pv 2) pa_nil)) (pe_one (pe_fn C_is_number_from hgd (hr.mono (by first | decide | omega)) rfl (pa_cons (pv 3) (pa_cons pe_int pa_nil)))))))))), body1 (by decide) h fun W F0 d hd => ?_⟩
  change Sx K W H F0 _ [.dat d, .un, .un, .un] _
  walk_at "go"
  refine ⟨⟨_, rfl⟩, _, rfl, if2n (fun h1 => ?_) (fun h1 => ?_)⟩
  · walk_at "go"
    exact rt_bool (by simp [isCopying, h1])
  obtain ⟨ds, rfl, hl⟩ := lenIs_is h1
  match ds, hl, hd with
  | [a, t, b], _, hd =>
    walk_at "go"
    refine sx_asgG (ev_varx ⟨_, rfl, gs_tup rfl (gss_cons (gs_name trivial (gss_cons (gs_name trivial (gss_cons (gs_name trivial (gss_nil ?_)))))))⟩)
    walk_at "go"
    refine ⟨hd.tup (by simp), _, rfl, if2 (fun h2 => ?_) (fun h2 => ?_)⟩
    · walk_at "go"
      refine ⟨trivial, _, rfl, if2 (fun h3 => ?_) (fun h3 => ?_)⟩
      · walk_at "go"
        refine ⟨⟨_, rfl⟩, ?_⟩
        exact rt_bool (by simp [isCopying, copyParts, h1, h2, h3])
      · exact rt_bool (by simp [isCopying, copyParts, h3])
    · exact rt_bool (by simp [isCopying, copyParts, h2])
theorem ok_is_agreeing (F : Fun K "is_agreeing" "is_agreeing" s_is_agreeing f fd) (T : Txt mg) (C_is_tuple_of : CTup Pg w K mg base) (C_is_number : CNum Pg w K mg base) (C_is_number_from : CFrom Pg w K mg base) : FnG Pg w K mg base 3 f fd ["thing"] (Pm1 K Fine fun d => .bool (isAgreeing d)) := by
  have nd := sc_is_agreeing.nd
  refine fnG_of F sc_is_agreeing pm_len (fun cdv A ou s H vs Q hgd hr h => ?_)
  refine ⟨_, (pss_cons (ps_if (pt_not (pt_val (pe_fn C_is_tuple_of hgd (hr.mono (by first | decide | omega)) rfl (pa_cons (pv 0) (pa_cons pe_int pa_nil))))) (pss_one (ps_ret pe_bl)) pss_nil) (pss_cons (ps_asg (pv 0) (pg_tup (n := 3) rfl (pgs_cons (pg_name (i := 1) nd rfl (Or.inl rfl) (Or.inl rfl)) (pgs_cons (pg_name (i := 2) nd rfl (Or.inl rfl) (Or.inl rfl)) (pgs_cons (pg_name (i := 3) nd rfl (Or.inl rfl) (Or.inl rfl)) pgs_nil))))) (pss_one (ps_ret (pe_and (pe_fn C_is_number_from hgd (hr.mono (by first | decide | omega)) rfl (pa_cons (pv 1) (pa_cons pe_int pa_nil))) (pe_and (pe_fn C_is_number hgd (hr.mono (by first | decide | omega)) rfl (pa_cons (pv 2) pa_nil)) (pe_one (pe_fn C_is_number_from hgd (hr.mono (by first | decide | omega)) rfl (pa_cons (pv 3) (pa_cons pe_int pa_nil)))))))))), body1 (by decide) h fun W F0 d hd => ?_⟩
  change Sx K W H F0 _ [.dat d, .un, .un, .un] _
  walk_at "go"
  refine ⟨⟨_, rfl⟩, _, rfl, if2n (fun h1 => ?_) (fun h1 => ?_)⟩
  · walk_at "go"
    exact rt_bool (by simp [isAgreeing, h1])
  obtain ⟨ds, rfl, hl⟩ := lenIs_is h1
  match ds, hl, hd with
  | [a, t, b], _, hd =>
    walk_at "go"
    refine sx_asgG (ev_varx ⟨_, rfl, gs_tup rfl (gss_cons (gs_name trivial (gss_cons (gs_name trivial (gss_cons (gs_name trivial (gss_nil ?_)))))))⟩)
    walk_at "go"
    refine ⟨⟨_, rfl⟩, _, rfl, if2 (fun h2 => ?_) (fun h2 => ?_)⟩
    · walk_at "go"
      refine ⟨trivial, _, rfl, if2 (fun h3 => ?_) (fun h3 => ?_)⟩
      · walk_at "go"
        refine ⟨⟨_, rfl⟩, ?_⟩
        exact rt_bool (by simp [isAgreeing, agreeParts, h1, h2, h3])
      · exact rt_bool (by simp [isAgreeing, agreeParts, h3])
    · exact rt_bool (by simp [isAgreeing, agreeParts, h2])
end
end K09w

namespace K09w
open PySem L2 RZ DL
/-! the walk by data -/
local macro_rules | `(tactic| walk_at "dl") => `(tactic| first
  | with_reducible first
    | refine sx_seq ?_ | refine sx_if ?_ | refine sx_ret ?_ | refine sx_next ?_ | refine sx_asg ?_
    | refine et_not ?_ | refine et_B ?_ | refine et_test ?_ | refine et_and ?_ | refine et_or ?_ | refine et_yes ?_
    | refine ev_and ?_ | refine ev_or ?_ | refine ev_not ?_ | refine ev_if ?_ | refine ev_chain ?_
    | refine ev_int ?_ | refine ev_bl ?_ | refine ev_str ?_ | refine ev_non ?_ | refine ev_c ?_
    | refine ev_op ?_ | refine ev_un ?_ | refine ev_cb ?_ | refine ev_fn1 ?_ | refine ev_fn2 ?_ | refine ev_sl ?_ | refine eo_none ?_ | refine eo_some ?_ | refine ev_tup ?_
    | refine ea_cons ?_ | refine ea_nil ?_
    | refine ops_ge ?_ | refine ops_le ?_ | refine ops_gt ?_ | refine ops_lt ?_ | refine ops_leS ?_ | refine ops_ltS ?_ | refine ops_add_int ?_ | refine ops_sub ?_ | refine ops_isN ?_ | refine ops_isNot ?_ | refine ops_eq_int ?_ | refine ops_eqS ?_ | refine ops_neS ?_
    | refine cas_len_tup ?_ | refine cas_isi_int ?_ | refine cas_isi_bool ?_ | refine cas_isi_str ?_ | refine cas_isi_tup ?_ | refine cas_isi_lst ?_
    | refine iteT ?_ | refine iteF ?_ | refine and_nols ?_
  | ((with_reducible refine ev_varx ?_); refine ⟨_, rfl, ?_⟩)
  | ((with_reducible refine ops_ix_tupx ?_); first | refine ⟨_, rfl, ?_⟩ | refine ⟨_, atI_nat (j := 0) rfl, ?_⟩ | refine ⟨_, atI_nat (j := 1) rfl, ?_⟩ | refine ⟨_, atI_nat (j := 2) rfl, ?_⟩)
  | ((with_reducible refine sz_and ?_ ?_); exact rfl)
  | ((with_reducible refine ev_ownx ?_); refine ⟨_, rfl, ?_⟩)
  | ((with_reducible refine ev_refx ?_); refine ⟨_, rfl, ?_⟩)
  | ((with_reducible refine ifT ?_ ?_); exact rfl) | ((with_reducible refine ifF ?_ ?_); exact rfl))
local macro_rules | `(tactic| walk_at "go") => `(tactic| repeat (first | walk_at "dl" | with_reducible refine ⟨_, rfl, ?_⟩ | with_reducible refine ⟨_, _, rfl, ?_⟩))
abbrev CCopying (Pg : Program) (w : World) (K : PySem.W.Frag) (mg : Str → Option Value) (base : Heap) := Fn Pg w K mg base "is_copying" 5 ["thing"] (Pm1 K Fine fun d => .bool (isCopying d))
abbrev CAgreeing (Pg : Program) (w : World) (K : PySem.W.Frag) (mg : Str → Option Value) (base : Heap) := Fn Pg w K mg base "is_agreeing" 3 ["thing"] (Pm1 K Fine fun d => .bool (isAgreeing d))
abbrev spB (K : PySem.W.Frag) : Sp := Pm2 K (fun d e => Fine d ∧ ∃ m, e = .int m) fun d e => .bool (isBounds d e)
abbrev CBoundsK (Pg : Program) (w : World) (K : PySem.W.Frag) (mg : Str → Option Value) (base : Heap) := FnK Pg w K mg base "is_bounds" 3 ["thing", "least"] (spB K) 1 ["least"] (fun vs zs => vs ++ zs)
abbrev CSpring (Pg : Program) (w : World) (K : PySem.W.Frag) (mg : Str → Option Value) (base : Heap) := Fn Pg w K mg base "is_spring" 3 ["thing"] (Pm1 K Fine fun d => .bool (isSpring d))
abbrev CFoe (Pg : Program) (w : World) (K : PySem.W.Frag) (mg : Str → Option Value) (base : Heap) := Fn Pg w K mg base "is_foe" 3 ["thing"] (Pm1 K Fine fun d => .bool (isFoe d))
abbrev CKinds (Pg : Program) (w : World) (K : PySem.W.Frag) (mg : Str → Option Value) (base : Heap) := Fn Pg w K mg base "is_kinds" 6 ["thing"] (Pm1 K Fine fun d => .bool (isKinds d))
theorem kind_is {d : D} (h : isKind d = true) : ∃ x r, d = .tuple (.str x :: r) ∧ r ≠ [] := by
  simp only [isKind, Bool.and_eq_true] at h
  obtain ⟨ds, rfl, hl⟩ := lenIs_is h.1
  match ds, hl, h with
  | [n, a, t, b, g, k], _, h =>
    simp only [kindParts, Bool.and_eq_true] at h
    obtain ⟨x, rfl⟩ := isWord_str h.2.1.1.1
    exact ⟨x, _, rfl, by simp⟩
theorem numFrom_int {d e : D} (h : numFrom d e = true) : ∃ i, d = .int i := by
  simp only [numFrom, Bool.and_eq_true] at h
  exact isNum_int h.1
theorem agree_is {d : D} (h : isAgreeing d = true) : ∃ m t b, d = .tuple [.int m, t, b] := by
  simp only [isAgreeing, Bool.and_eq_true] at h
  obtain ⟨ds, rfl, hl⟩ := lenIs_is h.1
  match ds, hl, h with
  | [a, t, b], _, h =>
    simp only [agreeParts, Bool.and_eq_true] at h
    obtain ⟨m, rfl⟩ := numFrom_int h.2.1
    exact ⟨m, t, b, rfl⟩
section
variable {Pg : Program} {w : World} {K : PySem.W.Frag} {mg : Str → Option Value} {base : Heap} {f : Addr} {fd : FuncData}
theorem ok_is_bounds (F : Fun K "is_bounds" "is_bounds" s_is_bounds f fd) (T : Txt mg) (C_is_tuple_of : CTup Pg w K mg base) (C_is_number : CNum Pg w K mg base) (C_is_number_from : CFrom Pg w K mg base) : FnG Pg w K mg base 3 f fd ["thing", "least"] (spB K) := by
  have nd := sc_is_bounds.nd
  refine fnG_of F sc_is_bounds pm_len (fun cdv A ou s H vs Q hgd hr h => ?_)
  refine ⟨_, (pss_cons (ps_if (pt_not (pt_val (pe_fn C_is_tuple_of hgd (hr.mono (by first | decide | omega)) rfl (pa_cons (pv 0) (pa_cons pe_int pa_nil))))) (pss_one (ps_ret pe_bl)) pss_nil) (pss_cons (ps_asg (pv 0) (pg_tup (n := 4) rfl (pgs_cons (pg_name (i := 2) nd rfl (Or.inl rfl) (Or.inl rfl)) (pgs_cons (pg_name (i := 3) nd rfl (Or.inl rfl) (Or.inl rfl)) (pgs_cons (pg_name (i := 4) nd rfl (Or.inl rfl) (Or.inl rfl)) (pgs_cons (pg_name (i := 5) nd rfl (Or.inl rfl) (Or.inl rfl)) pgs_nil)))))) (pss_cons (ps_if (PW.pt (pw_or (pt_not (pt_val (pe_fn C_is_number_from hgd (hr.mono (by first | decide | omega)) rfl (pa_cons (pv 2) (pa_cons pe_int pa_nil))))) (pw_or1 (pt_not (pt_val (pe_fn C_is_number_from hgd (hr.mono (by first | decide | omega)) rfl (pa_cons (pv 4) (pa_cons pe_int pa_nil)))))))) (pss_one (ps_ret pe_bl)) pss_nil) (pss_one (ps_ret (pe_and (pe_fn C_is_number_from hgd (hr.mono (by first | decide | omega)) rfl (pa_cons (pv 3) (pa_cons (pv 1) pa_nil))) (pe_one (pe_fn C_is_number hgd (hr.mono (by first | decide | omega)) rfl (pa_cons (pv 5) pa_nil))))))))), body2 (by decide) h fun W F0 d e ⟨hd, m, he⟩ => ?_⟩
  subst he
  change Sx K W H F0 _ [.dat d, .dat (.int m), .un, .un, .un, .un] _
  walk_at "go"
  refine ⟨⟨_, rfl⟩, _, rfl, if2n (fun h1 => ?_) (fun h1 => ?_)⟩
  · walk_at "go"
    exact rt_bool (by simp [isBounds, h1])
  obtain ⟨ds, rfl, hl⟩ := lenIs_is h1
  match ds, hl, hd with
  | [u, s', b, t], _, hd =>
    walk_at "go"
    refine sx_asgG (ev_varx ⟨_, rfl, gs_tup rfl (gss_cons (gs_name trivial (gss_cons (gs_name trivial (gss_cons (gs_name trivial (gss_cons (gs_name trivial (gss_nil ?_)))))))))⟩)
    walk_at "go"
    refine ⟨⟨_, rfl⟩, _, rfl, if2n (fun h2 => ?_) (fun h2 => ?_)⟩
    · walk_at "go"
      exact rt_bool (by simp [isBounds, boundParts, h2])
    walk_at "go"
    refine ⟨⟨_, rfl⟩, _, rfl, if2n (fun h3 => ?_) (fun h3 => ?_)⟩
    · walk_at "go"
      exact rt_bool (by simp [isBounds, boundParts, h3])
    walk_at "go"
    refine ⟨⟨_, rfl⟩, _, rfl, if2 (fun h4 => ?_) (fun h4 => ?_)⟩
    · walk_at "go"
      refine ⟨trivial, ?_⟩
      exact rt_bool (by simp [isBounds, boundParts, h1, h2, h3, h4])
    · exact rt_bool (by simp [isBounds, boundParts, h4])
theorem ok_is_spring (F : Fun K "is_spring" "is_spring" s_is_spring f fd) (T : Txt mg) (C_is_tuple_of : CTup Pg w K mg base) (C_is_number : CNum Pg w K mg base) (C_is_number_from : CFrom Pg w K mg base) : FnG Pg w K mg base 3 f fd ["thing"] (Pm1 K Fine fun d => .bool (isSpring d)) := by
  have nd := sc_is_spring.nd
  refine fnG_of F sc_is_spring pm_len (fun cdv A ou s H vs Q hgd hr h => ?_)
  refine ⟨_, (pss_one (ps_ret (pe_and (pe_fn C_is_tuple_of hgd (hr.mono (by first | decide | omega)) rfl (pa_cons (pv 0) (pa_cons pe_int pa_nil))) (pe_and (pe_fn C_is_number hgd (hr.mono (by first | decide | omega)) rfl (pa_cons (pe_ix (r := rIx K) ix_seq (pv 0) pe_int (fun _ _ => rfl)) pa_nil)) (pe_one (pe_fn C_is_number_from hgd (hr.mono (by first | decide | omega)) rfl (pa_cons (pe_ix (r := rIx K) ix_seq (pv 0) pe_int (fun _ _ => rfl)) (pa_cons pe_int pa_nil)))))))), body1 (by decide) h fun W F0 d hd => ?_⟩
  change Sx K W H F0 _ [.dat d] _
  walk_at "go"
  refine ⟨⟨_, rfl⟩, _, rfl, if2 (fun h1 => ?_) (fun h1 => ?_)⟩
  · obtain ⟨ds, rfl, hl⟩ := lenIs_is h1
    match ds, hl with
    | [a, b], _ =>
      walk_at "go"
      refine ⟨trivial, _, rfl, if2 (fun h2 => ?_) (fun h2 => ?_)⟩
      · walk_at "go"
        refine ⟨⟨_, rfl⟩, ?_⟩
        exact rt_bool (by simp [isSpring, springParts, h1, h2])
      · exact rt_bool (by simp [isSpring, springParts, h2])
  · exact rt_bool (by simp [isSpring, h1])
theorem ok_is_foe (F : Fun K "is_foe" "is_foe" s_is_foe f fd) (T : Txt mg) (C_is_tuple_of : CTup Pg w K mg base) (C_is_number_from : CFrom Pg w K mg base) : FnG Pg w K mg base 3 f fd ["thing"] (Pm1 K Fine fun d => .bool (isFoe d)) := by
  have nd := sc_is_foe.nd
  refine fnG_of F sc_is_foe pm_len (fun cdv A ou s H vs Q hgd hr h => ?_)
  refine ⟨_, (pss_one (ps_ret (pe_and (pe_fn C_is_tuple_of hgd (hr.mono (by first | decide | omega)) rfl (pa_cons (pv 0) (pa_cons pe_int pa_nil))) (pe_and (pe_fn C_is_number_from hgd (hr.mono (by first | decide | omega)) rfl (pa_cons (pe_ix (r := rIx K) ix_seq (pv 0) pe_int (fun _ _ => rfl)) (pa_cons pe_int pa_nil))) (pe_one (pe_fn C_is_number_from hgd (hr.mono (by first | decide | omega)) rfl (pa_cons (pe_ix (r := rIx K) ix_seq (pv 0) pe_int (fun _ _ => rfl)) (pa_cons pe_int pa_nil)))))))), body1 (by decide) h fun W F0 d hd => ?_⟩
  change Sx K W H F0 _ [.dat d] _
  walk_at "go"
  refine ⟨⟨_, rfl⟩, _, rfl, if2 (fun h1 => ?_) (fun h1 => ?_)⟩
  · obtain ⟨ds, rfl, hl⟩ := lenIs_is h1
    match ds, hl with
    | [a, b], _ =>
      walk_at "go"
      refine ⟨⟨_, rfl⟩, _, rfl, if2 (fun h2 => ?_) (fun h2 => ?_)⟩
      · walk_at "go"
        refine ⟨⟨_, rfl⟩, ?_⟩
        exact rt_bool (by simp [isFoe, foeParts, h1, h2])
      · exact rt_bool (by simp [isFoe, foeParts, h2])
  · exact rt_bool (by simp [isFoe, h1])
theorem ok_is_kinds (F : Fun K "is_kinds" "is_kinds" s_is_kinds f fd) (T : Txt mg) (C_is_kind : CKind Pg w K mg base) (C_is_rising : CRise Pg w K mg base) : FnG Pg w K mg base 6 f fd ["thing"] (Pm1 K Fine fun d => .bool (isKinds d)) := by
  have nd := sc_is_kinds.nd
  refine fnG_of F sc_is_kinds pm_len (fun cdv A ou s H vs Q hgd hr h => ?_)
  have hu : (A.deeper (PyProof.Rows.envOfC "is_kinds" (defScope s_is_kinds) s.heap.objs.size f cdv)).units + 64 < cLine := by have := hr.un; omega
  refine ⟨_, (pss_cons (ps_if (PW.pt (pw_or (pt_not (pt_val (pe_callB (r := rIsi K) call_isi (by rfl) T.b_isinstance (by decide +kernel) (pa_cons (pv 0) (pa_cons (pe_bltn (v := .ty "tuple") rfl T.b_tuple (by decide +kernel) rfl) pa_nil))))) (pw_or1 (pt_cmpR (r := rEq2 K) (opEq hu) (pv 0) (pe_tup pa_nil) (nomark _))))) (pss_one (ps_ret pe_bl)) pss_nil) (pss_one (ps_ret (pe_and (pe_callB (r := rAll K) (cr_all rfl) (by rfl) T.b_all (by decide +kernel) (pa_cons (pe_lc (own := [("kind", 1)]) (g := gName 1) rfl nd (pi_tup (pv 0)) (blkOk_by (N := ["thing", "kind"]) (sc := (defScope s_is_kinds)) (by decide +kernel)) (fun _ _ _ _ _ => (pg_name (i := 1) nd rfl (Or.inl rfl) (Or.inr rfl))) (fun _ _ _ _ _ => pts_nil) (fun _ _ _ _ _ => (pe_fn C_is_kind hgd (hr.mono (by first | decide | omega)) rfl (pa_cons (pv 1) pa_nil)))) pa_nil)) (pe_one (pe_fn C_is_rising hgd (hr.mono (by first | decide | omega)) rfl (pa_cons (pe_lc (own := [("kind", 1)]) (g := gName 1) rfl nd (pi_tup (pv 0)) (blkOk_by (N := ["thing", "kind"]) (sc := (defScope s_is_kinds)) (by decide +kernel)) (fun _ _ _ _ _ => (pg_name (i := 1) nd rfl (Or.inl rfl) (Or.inr rfl))) (fun _ _ _ _ _ => pts_nil) (fun _ _ _ _ _ => (pe_ix (r := rIx K) ix_seq (pv 1) pe_int (fun _ _ => rfl)))) pa_nil))))))), body1 (by decide) h fun W F0 d hd => ?_⟩
  change Sx K W H F0 _ [.dat d, .un] _
  walk_at "go"
  cases d with
  | tuple ds =>
    have hlen := hd.tlen
    have hsz : ds.length < sizeLine := Nat.lt_of_le_of_lt hlen (by decide)
    walk_at "go"
    refine ops_eq hd.shaped (by decide) ?_
    rw [eqv_nilT]
    refine ⟨_, rfl, if2 (fun h1 => ?_) (fun h1 => ?_)⟩
    · walk_at "go"
      exact rt_bool (by simp [isKinds, h1])
    walk_at "go"
    refine ev_frz (evn_mapT (fun d => .bool (isKind d)) (evi_tup (ev_varx ⟨_, rfl, ds, rfl, hsz, fun d m => ?_, ?_⟩)))
    · refine gc_name (by decide) trivial ?_
      walk_at "go"
      exact ⟨hd.tup m, rfl⟩
    · walk_at "go"
      refine cas_all (bs := ds.map isKind) (.inl (by simp)) ?_
      rw [all_map']
      refine ⟨_, rfl, if2 (fun h2 => ?_) (fun h2 => ?_)⟩
      · obtain ⟨xs, ex, lx⟩ := firsts (p := isKind) (fun d h => by
          obtain ⟨x, r, rfl, _⟩ := kind_is h
          exact ⟨x, rfl⟩) h2
        walk_at "go"
        refine ev_frz (evn_mapT fst0 (evi_tup (ev_varx ⟨_, rfl, ds, rfl, hsz, fun d m => ?_, ?_⟩)))
        · obtain ⟨x, r, rfl, _⟩ := kind_is (List.all_eq_true.mp h2 d m)
          refine gc_name (by decide) trivial ?_
          walk_at "go"
          exact rfl
        · walk_at "go"
          refine ⟨⟨xs, by rw [ex], by omega⟩, ?_⟩
          exact rt_bool (by simp [isKinds, isRise, h1, h2])
      · exact rt_bool (by simp [isKinds, h2])
  | _ =>
    walk_at "go"
    exact rfl
theorem ok_is_works (F : Fun K "is_works" "is_works" s_is_works f fd) (T : Txt mg) (C_is_tuple_of : CTup Pg w K mg base) (C_is_number_from : CFrom Pg w K mg base) (C_is_kinds : CKinds Pg w K mg base) (C_is_copying : CCopying Pg w K mg base) (C_is_agreeing : CAgreeing Pg w K mg base)
    (C_is_bounds_1_least : CBoundsK Pg w K mg base) (C_is_spring : CSpring Pg w K mg base) (C_is_foe : CFoe Pg w K mg base) : FnG Pg w K mg base 7 f fd ["thing"] (Pm1 K Fine fun d => .bool (isWorks d)) := by
  have nd := sc_is_works.nd
  refine fnG_of F sc_is_works pm_len (fun cdv A ou s H vs Q hgd hr h => ?_)
  refine ⟨_, (pss_cons (ps_if (pt_not (pt_val (pe_fn C_is_tuple_of hgd (hr.mono (by first | decide | omega)) rfl (pa_cons (pv 0) (pa_cons pe_int pa_nil))))) (pss_one (ps_ret pe_bl)) pss_nil) (pss_cons (ps_asg (pv 0) (pg_tup (n := 7) rfl (pgs_cons (pg_name (i := 1) nd rfl (Or.inl rfl) (Or.inl rfl)) (pgs_cons (pg_name (i := 2) nd rfl (Or.inl rfl) (Or.inl rfl)) (pgs_cons (pg_name (i := 3) nd rfl (Or.inl rfl) (Or.inl rfl)) (pgs_cons (pg_name (i := 4) nd rfl (Or.inl rfl) (Or.inl rfl)) (pgs_cons (pg_name (i := 5) nd rfl (Or.inl rfl) (Or.inl rfl)) (pgs_cons (pg_name (i := 6) nd rfl (Or.inl rfl) (Or.inl rfl)) (pgs_cons (pg_name (i := 7) nd rfl (Or.inl rfl) (Or.inl rfl)) pgs_nil))))))))) (pss_cons (ps_if (PW.pt (pw_or (pt_not (pt_val (pe_fn C_is_kinds hgd (hr.mono (by first | decide | omega)) rfl (pa_cons (pv 1) pa_nil)))) (pw_or (pt_not (pt_val (pe_fn C_is_copying hgd (hr.mono (by first | decide | omega)) rfl (pa_cons (pv 2) pa_nil)))) (pw_or1 (pt_not (pt_val (pe_fn C_is_agreeing hgd (hr.mono (by first | decide | omega)) rfl (pa_cons (pv 3) pa_nil)))))))) (pss_one (ps_ret pe_bl)) pss_nil) (pss_cons (ps_if (pt_not (pt_val (pe_fnK C_is_bounds_1_least hgd (hr.mono (by first | decide | omega)) rfl (pa_cons (pv 4) pa_nil) (pk_cons (pe_ix (r := rIx K) ix_seq (pv 3) pe_int (fun _ _ => rfl)) pk_nil)))) (pss_one (ps_ret pe_bl)) pss_nil) (pss_one (ps_ret (pe_and (pe_fn C_is_spring hgd (hr.mono (by first | decide | omega)) rfl (pa_cons (pv 5) pa_nil)) (pe_and (pe_fn C_is_foe hgd (hr.mono (by first | decide | omega)) rfl (pa_cons (pv 6) pa_nil)) (pe_one (pe_fn C_is_number_from hgd (hr.mono (by first | decide | omega)) rfl (pa_cons (pv 7) (pa_cons pe_int pa_nil)))))))))))), body1 (by decide) h fun W F0 d hd => ?_⟩
  change Sx K W H F0 _ [.dat d, .un, .un, .un, .un, .un, .un, .un] _
  walk_at "go"
  refine ⟨⟨_, rfl⟩, _, rfl, if2n (fun h1 => ?_) (fun h1 => ?_)⟩
  · walk_at "go"
    exact rt_bool (by simp [isWorks, h1])
  obtain ⟨ds, rfl, hl⟩ := lenIs_is h1
  match ds, hl, hd with
  | [k, c, a, b, s', f', n], _, hd =>
    walk_at "go"
    refine sx_asgG (ev_varx ⟨_, rfl, gs_tup rfl (gss_cons (gs_name trivial (gss_cons (gs_name trivial (gss_cons (gs_name trivial (gss_cons (gs_name trivial (gss_cons (gs_name trivial (gss_cons (gs_name trivial (gss_cons (gs_name trivial (gss_nil ?_)))))))))))))))⟩)
    walk_at "go"
    refine ⟨hd.tup (by simp), _, rfl, if2n (fun h2 => ?_) (fun h2 => ?_)⟩
    · walk_at "go"
      exact rt_bool (by simp [isWorks, worksParts, h2])
    walk_at "go"
    refine ⟨hd.tup (by simp), _, rfl, if2n (fun h3 => ?_) (fun h3 => ?_)⟩
    · walk_at "go"
      exact rt_bool (by simp [isWorks, worksParts, h3])
    walk_at "go"
    refine ⟨hd.tup (by simp), _, rfl, if2n (fun h4 => ?_) (fun h4 => ?_)⟩
    · walk_at "go"
      exact rt_bool (by simp [isWorks, worksParts, h4])
    obtain ⟨m, t, b', rfl⟩ := agree_is h4
    walk_at "go"
    refine ev_fnK11 (ea_cons (ev_varx ⟨_, rfl, ea_nil (ea_cons (ev_op (ev_varx ⟨_, rfl, ev_int (ops_ix_tup (atI_nat (j := 0) rfl) (ea_nil ⟨_, _, rfl, rfl, ⟨hd.tup (by simp), ⟨m, rfl⟩⟩, ?_⟩))⟩)))⟩))
    refine ⟨_, rfl, if2n (fun h5 => ?_) (fun h5 => ?_)⟩
    · walk_at "go"
      exact rt_bool (by simp [isWorks, worksParts, fst0, h5])
    walk_at "go"
    refine ⟨hd.tup (by simp), _, rfl, if2 (fun h6 => ?_) (fun h6 => ?_)⟩
    · walk_at "go"
      refine ⟨hd.tup (by simp), _, rfl, if2 (fun h7 => ?_) (fun h7 => ?_)⟩
      · walk_at "go"
        refine ⟨⟨_, rfl⟩, ?_⟩
        exact rt_bool (by simp [isWorks, worksParts, fst0, h1, h2, h3, h4, h5, h6, h7])
      · exact rt_bool (by simp [isWorks, worksParts, h7])
    · exact rt_bool (by simp [isWorks, worksParts, h6])
end
end K09w

namespace K09w
open PySem L2 RZ DL
/-! the walk by data -/
local macro_rules | `(tactic| walk_at "dl") => `(tactic| first
  | with_reducible first
    | refine sx_seq ?_ | refine sx_if ?_ | refine sx_next ?_
    | refine et_not ?_ | refine et_B ?_ | refine et_test ?_ | refine et_and ?_ | refine et_or ?_ | refine et_yes ?_
    | refine ev_and ?_ | refine ev_or ?_ | refine ev_not ?_ | refine ev_if ?_ | refine ev_chain ?_
    | refine ev_int ?_ | refine ev_bl ?_ | refine ev_str ?_ | refine ev_non ?_ | refine ev_c ?_
    | refine ev_op ?_ | refine ev_un ?_ | refine ev_cb ?_ | refine ev_fn1 ?_ | refine ev_fn2 ?_ | refine ev_sl ?_ | refine eo_none ?_ | refine eo_some ?_ | refine ev_tup ?_
    | refine ea_cons ?_ | refine ea_nil ?_
    | refine ops_ge ?_ | refine ops_le ?_ | refine ops_gt ?_ | refine ops_lt ?_ | refine ops_leS ?_ | refine ops_ltS ?_ | refine ops_add_int ?_ | refine ops_sub ?_ | refine ops_isN ?_ | refine ops_isNot ?_ | refine ops_eq_int ?_ | refine ops_eqS ?_ | refine ops_neS ?_
    | refine cas_len_tup ?_ | refine cas_isi_int ?_ | refine cas_isi_bool ?_ | refine cas_isi_str ?_ | refine cas_isi_tup ?_ | refine cas_isi_lst ?_
    | refine iteT ?_ | refine iteF ?_ | refine and_nols ?_
  | ((with_reducible refine ev_varx ?_); refine ⟨_, rfl, ?_⟩)
  | ((with_reducible refine ops_ix_tupx ?_); first | refine ⟨_, rfl, ?_⟩ | refine ⟨_, atI_nat (j := 0) rfl, ?_⟩ | refine ⟨_, atI_nat (j := 1) rfl, ?_⟩ | refine ⟨_, atI_nat (j := 2) rfl, ?_⟩ | refine ⟨_, atI_nat (j := 3) rfl, ?_⟩ | refine ⟨_, atI_nat (j := 4) rfl, ?_⟩ | refine ⟨_, atI_nat (j := 5) rfl, ?_⟩ | refine ⟨_, atI_nat (j := 6) rfl, ?_⟩)
  | ((with_reducible refine sz_and ?_ ?_); exact rfl)
  | ((with_reducible refine ev_ownx ?_); refine ⟨_, rfl, ?_⟩)
  | ((with_reducible refine ev_refx ?_); refine ⟨_, rfl, ?_⟩)
  | (with_reducible refine sxn_seq ?_) | (with_reducible refine uns_neg ?_) | (with_reducible refine ev_frz (evn_lst ?_)) | (with_reducible refine sls_tup ?_) | (refine ev_revT ?_)
  | ((refine sx_extx ?_); refine ⟨_, rfl, ?_⟩) | ((with_reducible refine ops_add_tup ?_ ?_); exact le_line rfl) | (with_reducible refine cas_listT ?_)
  | ((with_reducible refine ifT ?_ ?_); exact rfl) | ((with_reducible refine ifF ?_ ?_); exact rfl))
local macro_rules | `(tactic| walk_at "go") => `(tactic| repeat (first | walk_at "dl" | with_reducible refine ⟨_, rfl, ?_⟩ | with_reducible refine ⟨_, _, rfl, ?_⟩))
/-! ### the kind of a name, what is lacking -/
def kindsOf : D → List D
  | .tuple (.tuple ks :: _) => ks
  | _ => []
def named (e k : D) : Bool := PyData.eqv (fst0 k) e
def calledD (d e : D) : D := ((kindsOf d).find? (named e)).getD .none
/-- each of them a tuple that begins with a word -/
def Heads (ks : List D) : Prop := ∀ k ∈ ks, ∃ x r, k = .tuple (.str x :: r)
def preKind (d e : D) : Prop := ∃ ks r x, d = .tuple (.tuple ks :: r) ∧ e = .str x ∧ ks.length ≤ 250000 ∧ Heads ks
theorem find_at {α : Type} {p : α → Bool} : ∀ {l : List α} {i : Nat} {z : α}, l[i]? = some z → p z = true → (∀ j < i, ∀ k, l[j]? = some k → p k = false) → l.find? p = some z
  | [], i, z, h, _, _ => by simp at h
  | a :: l, 0, z, h, hp, _ => by
    obtain rfl := Option.some.inj h
    rw [List.find?_cons, hp]
  | a :: l, i + 1, z, h, hp, hn => by
    rw [List.find?_cons, hn 0 (Nat.succ_pos _) a rfl]
    exact find_at (l := l) (i := i) h hp fun j hj k hk => hn (j + 1) (Nat.succ_lt_succ hj) k hk
theorem find_no {α : Type} {p : α → Bool} {l : List α} (h : ∀ j < l.length, ∀ k, l[j]? = some k → p k = false) : l.find? p = none := by
  rw [List.find?_eq_none]
  intro x hx
  obtain ⟨j, hj⟩ := List.getElem?_of_mem hx
  rw [h j (List.getElem?_eq_some_iff.mp hj).1 x hj]
  exact Bool.false_ne_true
abbrev CCalled (Pg : Program) (w : World) (K : PySem.W.Frag) (mg : Str → Option Value) (base : Heap) := Fn Pg w K mg base "kind_called" 1 ["works", "name"] (Pm2 K preKind calledD)
section
variable {Pg : Program} {w : World} {K : PySem.W.Frag} {mg : Str → Option Value} {base : Heap} {f : Addr} {fd : FuncData}
theorem ok_kind_called (F : Fun K "kind_called" "kind_called" s_kind_called f fd) (T : Txt mg) : FnG Pg w K mg base 1 f fd ["works", "name"] (Pm2 K preKind calledD) := by
  have nd := sc_kind_called.nd
  refine fnG_of F sc_kind_called pm_len (fun cdv A ou s H vs Q hgd hr h => ?_)
  have hu : (A.deeper (PyProof.Rows.envOfC "kind_called" (defScope s_kind_called) s.heap.objs.size f cdv)).units + 64 < cLine := by have := hr.un; omega
  refine ⟨_, (pss_cons (ps_for PassesOwn.never rfl (pi_tup (pe_ix (r := rIx K) ix_seq (pv 0) pe_int (fun _ _ => rfl))) (pg_name (i := 2) nd rfl (Or.inl rfl) (Or.inl rfl)) (pss_one (ps_if (pt_cmpR (r := rEq2 K) (opEq hu) (pe_ix (r := rIx K) ix_seq (pv 2) pe_int (fun _ _ => rfl)) (pv 1) (nomark _)) (pss_one (ps_ret (pv 2))) pss_nil))) (pss_one (ps_ret pe_non))), body2 (by decide) h fun W F0 d e ⟨ks, r, x, hd, he, hn, hk⟩ => ?_⟩
  subst hd he
  change Sx K W H F0 _ [.dat (.tuple (.tuple ks :: r)), .dat (.str x), .un] _
  refine sx_seq (sx_for (fun es i ρ' => es = ks ∧ ∃ s2, ρ' = [.dat (.tuple (.tuple ks :: r)), .dat (.str x), s2] ∧ ∀ j < i, ∀ k, ks[j]? = some k → named (.str x) k = false) (evi_tup ?_))
  walk_at "go"
  refine ⟨⟨rfl, _, rfl, fun j h => absurd h (Nat.not_lt_zero _)⟩, ?_, ?_⟩
  · rintro i z ρ' hz ⟨_, s2, rfl, h0⟩
    obtain ⟨y, q, rfl⟩ := hk z (List.mem_of_getElem? hz)
    refine gs_name trivial ?_
    change Sx K W H F0 _ [.dat (.tuple (.tuple ks :: r)), .dat (.str x), .dat (.tuple (.str y :: q))] _
    refine sx_if ?_
    walk_at "go"
    have e : named (.str x) (.tuple (.str y :: q)) = decide (y = x) := eqv_S
    refine if2 (fun h1 => ?_) (fun h1 => ?_)
    · refine sx_ret ?_
      walk_at "go"
      show _ = Sl.dat (calledD _ _)
      rw [calledD, kindsOf, find_at hz (e.trans h1) h0]
      rfl
    · refine sx_next ⟨rfl, _, rfl, fun j hj k hk' => ?_⟩
      by_cases z' : j < i
      · exact h0 j z' k hk'
      · obtain rfl : j = i := by omega
        rw [hz] at hk'
        obtain rfl := Option.some.inj hk'
        exact e.trans h1
  · rintro ρ' ⟨_, s2, rfl, h0⟩
    refine sx_ret ?_
    walk_at "go"
    show _ = Sl.dat (calledD _ _)
    rw [calledD, kindsOf, find_no h0]
    rfl
end
/-- the least k below n of that kind -/
def fst (n : Nat) (p : Nat → Bool) : Option Nat := (List.range n).find? p
theorem fst_some {n k : Nat} {p : Nat → Bool} (h : k < n) (h1 : p k = true) (h2 : ∀ j < k, p j = false) : fst n p = some k :=
  List.find?_range_eq_some.mpr ⟨h1, List.mem_range.mpr h, fun j hj => by rw [h2 j hj]; rfl⟩
theorem fst_none {n : Nat} {p : Nat → Bool} (h : ∀ j < n, p j = false) : fst n p = none :=
  List.find?_range_eq_none.mpr fun j hj => by rw [h j hj]; rfl
def WkHeads (d : D) : Prop := ∃ ks r, d = .tuple (.tuple ks :: r) ∧ ks.length ≤ 250000 ∧ Heads ks
def AskHeads (qs : List D) : Prop := ∀ a ∈ qs, ∃ x b, a = .tuple [.str x, b]
def lackAt (d : D) (qs : List D) (j : Nat) : Bool := isNone (calledD d (fst0 (qs.getD j .none)))
def lackJ (d : D) (qs : List D) : Option Nat := fst qs.length (lackAt d qs)
def optD : Option Nat → D
  | some j => .int (j : Int)
  | none => .none
def itemsOf : D → List D
  | .tuple qs => qs
  | _ => []
def lackD (d e : D) : D := optD (lackJ d (itemsOf e))
def preLack (d e : D) : Prop := WkHeads d ∧ ∃ qs, e = .tuple qs ∧ qs.length ≤ 250000 ∧ AskHeads qs
abbrev CLack (Pg : Program) (w : World) (K : PySem.W.Frag) (mg : Str → Option Value) (base : Heap) := Fn Pg w K mg base "lacking_ask" 2 ["works", "asks"] (Pm2 K preLack lackD)
section
variable {Pg : Program} {w : World} {K : PySem.W.Frag} {mg : Str → Option Value} {base : Heap} {f : Addr} {fd : FuncData}
theorem ok_lacking_ask (F : Fun K "lacking_ask" "lacking_ask" s_lacking_ask f fd) (T : Txt mg) (C_kind_called : CCalled Pg w K mg base) : FnG Pg w K mg base 2 f fd ["works", "asks"] (Pm2 K preLack lackD) := by
  have nd := sc_lacking_ask.nd
  refine fnG_of F sc_lacking_ask pm_len (fun cdv A ou s H vs Q hgd hr h => ?_)
  have hu : (A.deeper (PyProof.Rows.envOfC "lacking_ask" (defScope s_lacking_ask) s.heap.objs.size f cdv)).units + 64 < cLine := by have := hr.un; omega
  refine ⟨_, (pss_cons (ps_for PassesOwn.never rfl (pi_enumT (by rfl) T.b_enumerate (pa_cons (pv 1) pa_nil)) (pg_tup (n := 2) rfl (pgs_cons (pg_name (i := 2) nd rfl (Or.inl rfl) (Or.inl rfl)) (pgs_cons (pg_tup (n := 2) rfl (pgs_cons (pg_name (i := 3) nd rfl (Or.inl rfl) (Or.inl rfl)) (pgs_cons (pg_name (i := 4) nd rfl (Or.inl rfl) (Or.inl rfl)) pgs_nil))) pgs_nil))) (pss_one (ps_if (pt_cmpR opIsN (pe_fn C_kind_called hgd (hr.mono (by first | decide | omega)) rfl (pa_cons (pv 0) (pa_cons (pv 3) pa_nil))) pe_non (nomark _)) (pss_one (ps_ret (pv 2))) pss_nil))) (pss_one (ps_ret pe_non))), body2 (by decide) h fun W F0 d e ⟨hw, qs, he, hn, ha⟩ => ?_⟩
  subst he
  change Sx K W H F0 _ [.dat d, .dat (.tuple qs), .un, .un, .un] _
  refine sx_seq (sx_for (fun es i ρ' => es = enumD qs ∧ ∃ s2 s3 s4, ρ' = [.dat d, .dat (.tuple qs), s2, s3, s4] ∧ ∀ j < i, lackAt d qs j = false) (evi_enum ?_))
  walk_at "go"
  refine ⟨⟨rfl, _, _, _, rfl, fun j h => absurd h (Nat.not_lt_zero _)⟩, ?_, ?_⟩
  · rintro i z ρ' hz ⟨_, s2, s3, s4, rfl, h0⟩
    have hi : i < qs.length := by
      have := (List.getElem?_eq_some_iff.mp hz).1
      rwa [enumD_len] at this
    have hz' : qs[i]? = some qs[i] := List.getElem?_eq_getElem hi
    obtain ⟨x, b, hx⟩ := ha qs[i] (List.getElem_mem hi)
    rw [enumD_get (hz'.trans (by rw [hx]))] at hz
    obtain rfl := Option.some.inj hz
    have e : lackAt d qs i = isNone (calledD d (.str x)) := by
      unfold lackAt
      rw [List.getD_eq_getElem?_getD, hz', hx]
      rfl
    refine gs_tup rfl (gss_cons (gs_name trivial (gss_cons (gs_tup rfl (gss_cons (gs_name trivial (gss_cons (gs_name trivial (gss_nil (gss_nil ?_))))))))))
    change Sx K W H F0 _ [.dat d, .dat (.tuple qs), .dat (.int i), .dat (.str x), .dat b] _
    refine sx_if ?_
    walk_at "go"
    refine ⟨?_, ?_⟩
    · obtain ⟨ks, r, rfl, hk, hh⟩ := hw
      exact ⟨ks, r, x, rfl, rfl, hk, hh⟩
    walk_at "go"
    refine if2 (fun h1 => ?_) (fun h1 => ?_)
    · refine sx_ret ?_
      walk_at "go"
      show _ = Sl.dat (lackD _ _)
      rw [lackD, itemsOf, lackJ, fst_some hi (e.trans h1) h0]
      rfl
    · refine sx_next ⟨rfl, _, _, _, rfl, fun j hj => ?_⟩
      by_cases z' : j < i
      · exact h0 j z'
      · obtain rfl : j = i := by omega
        exact e.trans h1
  · rintro ρ' ⟨_, s2, s3, s4, rfl, h0⟩
    rw [enumD_len] at h0
    refine sx_ret ?_
    walk_at "go"
    show _ = Sl.dat (lackD _ _)
    rw [lackD, itemsOf, lackJ, fst_none h0]
    rfl
end
end K09w

namespace K09w
open PySem L2 RZ DL
/-! the walk by data -/
local macro_rules | `(tactic| walk_at "dl") => `(tactic| first
  | with_reducible first
    | refine sx_seq ?_ | refine sx_if ?_ | refine sx_next ?_
    | refine et_not ?_ | refine et_B ?_ | refine et_test ?_ | refine et_and ?_ | refine et_or ?_ | refine et_yes ?_
    | refine ev_and ?_ | refine ev_or ?_ | refine ev_not ?_ | refine ev_if ?_ | refine ev_chain ?_
    | refine ev_int ?_ | refine ev_bl ?_ | refine ev_str ?_ | refine ev_non ?_ | refine ev_c ?_
    | refine ev_op ?_ | refine ev_un ?_ | refine ev_cb ?_ | refine ev_fn1 ?_ | refine ev_fn2 ?_ | refine ev_sl ?_ | refine eo_none ?_ | refine eo_some ?_ | refine ev_tup ?_
    | refine ea_cons ?_ | refine ea_nil ?_
    | refine ops_ge ?_ | refine ops_le ?_ | refine ops_gt ?_ | refine ops_lt ?_ | refine ops_leS ?_ | refine ops_ltS ?_ | refine ops_add_int ?_ | refine ops_sub ?_ | refine ops_isN ?_ | refine ops_isNot ?_ | refine ops_eq_int ?_ | refine ops_eqS ?_ | refine ops_neS ?_
    | refine cas_len_tup ?_ | refine cas_isi_int ?_ | refine cas_isi_bool ?_ | refine cas_isi_str ?_ | refine cas_isi_tup ?_ | refine cas_isi_lst ?_
    | refine iteT ?_ | refine iteF ?_ | refine and_nols ?_
  | ((with_reducible refine ev_varx ?_); refine ⟨_, rfl, ?_⟩)
  | ((with_reducible refine ops_ix_tupx ?_); first | refine ⟨_, rfl, ?_⟩ | refine ⟨_, atI_nat (j := 0) rfl, ?_⟩ | refine ⟨_, atI_nat (j := 1) rfl, ?_⟩ | refine ⟨_, atI_nat (j := 2) rfl, ?_⟩ | refine ⟨_, atI_nat (j := 3) rfl, ?_⟩ | refine ⟨_, atI_nat (j := 4) rfl, ?_⟩ | refine ⟨_, atI_nat (j := 5) rfl, ?_⟩ | refine ⟨_, atI_nat (j := 6) rfl, ?_⟩)
  | ((with_reducible refine sz_and ?_ ?_); exact rfl)
  | ((with_reducible refine ev_ownx ?_); refine ⟨_, rfl, ?_⟩)
  | ((with_reducible refine ev_refx ?_); refine ⟨_, rfl, ?_⟩)
  | (with_reducible refine sxn_seq ?_) | (with_reducible refine uns_neg ?_) | (with_reducible refine ev_frz (evn_lst ?_)) | (with_reducible refine sls_tup ?_) | (refine ev_revT ?_)
  | ((refine sx_extx ?_); refine ⟨_, rfl, ?_⟩) | ((with_reducible refine ops_add_tup ?_ ?_); exact le_line rfl) | (with_reducible refine cas_listT ?_)
  | ((with_reducible refine ifT ?_ ?_); exact rfl) | ((with_reducible refine ifF ?_ ?_); exact rfl))
local macro_rules | `(tactic| walk_at "go") => `(tactic| repeat (first | walk_at "dl" | with_reducible refine ⟨_, rfl, ?_⟩ | with_reducible refine ⟨_, _, rfl, ?_⟩))
/-! ### is it a works that can be run -/
theorem ifN {A B : Prop} {c : Bool} (e : c = false) (h : B) : if c = true then A else B := by
  rw [e]
  exact h
theorem ifY {A B : Prop} {c : Bool} (e : c = true) (h : A) : if c = true then A else B := by
  rw [e]
  exact h
inductive Verd
  | told
  | no (x : Str) (d : D)
def atD (d : D) (i : Nat) : D := (itemsOf d).getD i .none
def asksOf (k : D) : List D := itemsOf (atD k 1)
def lackB (d : D) (j : Nat) : Bool := (lackJ d (asksOf ((kindsOf d).getD j .none))).isSome
def lackK (d : D) : Option Nat := fst (kindsOf d).length (lackB d)
def copyAsks (d : D) : List D := itemsOf (atD (atD d 1) 0)
def verdict (d : D) : Verd := match lackK d with
  | some k => .no "asks" (.tuple [.int (k : Int), optD (lackJ d (asksOf ((kindsOf d).getD k .none)))])
  | none => match lackJ d (copyAsks d) with
    | some j => .no "copying" (.int (j : Int))
    | none => .told
def judged (d : D) : Verd := if isWorks d then verdict d else .no "shape" (.int (-1))
def KindFull (k : D) : Prop := ∃ x qs r, k = .tuple (.str x :: .tuple qs :: r) ∧ AskHeads qs
structure WorksOK (ks : List D) (cs cr r : List D) : Prop where
  kinds : ∀ k ∈ ks, KindFull k
  copy : AskHeads cs
theorem asks_is {d : D} (h : isAsks d = true) : ∃ qs, d = .tuple qs ∧ AskHeads qs := by
  cases d with
  | tuple qs =>
    simp only [isAsks, Bool.and_eq_true] at h
    refine ⟨qs, rfl, fun a m => ?_⟩
    obtain ⟨x, b, e, _⟩ := ask_is (List.all_eq_true.mp h.1 a m)
    exact ⟨x, b, e⟩
  | _ => cases h
theorem kind_full {d : D} (h : isKind d = true) : KindFull d := by
  simp only [isKind, Bool.and_eq_true] at h
  obtain ⟨ds, rfl, hl⟩ := lenIs_is h.1
  match ds, hl, h with
  | [n, a, t, b, g, k], _, h =>
    simp only [kindParts, Bool.and_eq_true] at h
    obtain ⟨x, rfl⟩ := isWord_str h.2.1.1.1
    obtain ⟨qs, rfl, hq⟩ := asks_is h.2.1.1.2
    exact ⟨x, qs, _, rfl, hq⟩
theorem works_is {d : D} (h : isWorks d = true) : ∃ ks cs cr r, d = .tuple (.tuple ks :: .tuple (.tuple cs :: cr) :: r) ∧ WorksOK ks cs cr r := by
  simp only [isWorks, Bool.and_eq_true] at h
  obtain ⟨ds, rfl, hl⟩ := lenIs_is h.1
  match ds, hl, h with
  | [k, c, a, b, s, f, n], _, h =>
    simp only [worksParts, Bool.and_eq_true] at h
    obtain ⟨_, ⟨⟨hk, hc, _⟩, _⟩⟩ := h
    cases k with
    | tuple ks =>
      simp only [isKinds, Bool.and_eq_true] at hk
      simp only [isCopying, Bool.and_eq_true] at hc
      obtain ⟨es, rfl, hl'⟩ := lenIs_is hc.1
      match es, hl', hc with
      | [x, t, y], _, hc =>
        simp only [copyParts, Bool.and_eq_true] at hc
        obtain ⟨qs, rfl, hq⟩ := asks_is hc.2.1
        exact ⟨ks, qs, _, _, rfl, fun k m => kind_full (List.all_eq_true.mp hk.2.1 k m), hq⟩
    | _ => cases hk
theorem heads_of {ks cs cr r : List D} (h : WorksOK ks cs cr r) : Heads ks := fun k m => by
  obtain ⟨x, qs, r', e, _⟩ := h.kinds k m
  exact ⟨x, _, e⟩
theorem judged_no {d : D} (h : isWorks d = false) : judged d = .no "shape" (.int (-1)) := by
  rw [judged, h]
  rfl
theorem judged_ok {d : D} (h : isWorks d = true) : judged d = verdict d := by
  rw [judged, if_pos h]
abbrev CWorks (Pg : Program) (w : World) (K : PySem.W.Frag) (mg : Str → Option Value) (base : Heap) := Fn Pg w K mg base "is_works" 7 ["thing"] (Pm1 K Fine fun d => .bool (isWorks d))
abbrev spLets (K : PySem.W.Frag) (C : Addr) : Sp := PmX K 1 (fun _ ss => ∃ d : D, ss = [.dat d] ∧ Fine d) (fun _ ss s => ∀ d : D, ss = [.dat d] → judged d = .told ∧ s = .dat (.bool true))
  fun _ ss C' fs => C' = C ∧ ∀ d : D, ss = [.dat d] → ∃ (x : Str) (i : D), judged d = .no x i ∧ fs = ([("at", i), ("word", .str x)] : List (Str × D))
abbrev CLets (Pg : Program) (w : World) (K : PySem.W.Frag) (mg : Str → Option Value) (base : Heap) (C : Addr) := FnX Pg w K mg base "lets_works" 8 ["thing"] (spLets K C)
section
variable {Pg : Program} {w : World} {K : PySem.W.Frag} {mg : Str → Option Value} {base : Heap} {f C : Addr} {fd : FuncData}
theorem ok_lets (F : Fun K "lets_works" "lets_works" s_lets_works f fd) (T : Txt mg) (E_NoWorks : Exc2 Pg w K mg base "NoWorks" C "word" "at") (C_is_works : CWorks Pg w K mg base) (C_lacking_ask : CLack Pg w K mg base) : FnGX Pg w K mg base 8 f fd ["thing"] (spLets K C) := by
  have nd := sc_lets_works.nd
  refine fnGX_of F sc_lets_works pmX_len (fun cdv A ou s H vs Q E hgd hr h => ?_)
  have hu : (A.deeper (PyProof.Rows.envOfC "lets_works" (defScope s_lets_works) s.heap.objs.size f cdv)).units + 64 < cLine := by have := hr.un; omega
  have hu5 : (A.deeper (PyProof.Rows.envOfC "lets_works" (defScope s_lets_works) s.heap.objs.size f cdv)).units + 65 < cLine := by have := hr.un; omega
  refine ⟨_, (pss_cons (ps_if (pt_not (pt_val (pe_fn C_is_works hgd (hr.mono (by first | decide | omega)) rfl (pa_cons (pv 0) pa_nil)))) (pss_one (ps_raise2 E_NoWorks (hr.mono (by first | decide | omega)) rfl (takes_of rfl rfl rfl rfl) (pa_cons pe_str (pa_cons (pe_un un_neg pe_int) pa_nil)))) pss_nil) (pss_cons (ps_asg (pe_slice (r := rSl3 K) slAny (pv 0) po_none (po_some pe_int)) (pg_tup (n := 2) rfl (pgs_cons (pg_name (i := 1) nd rfl (Or.inl rfl) (Or.inl rfl)) (pgs_cons (pg_name (i := 2) nd rfl (Or.inl rfl) (Or.inl rfl)) pgs_nil)))) (pss_cons (ps_for (passes_of rfl) rfl (pi_enumT (by rfl) T.b_enumerate (pa_cons (pv 1) pa_nil)) (pg_tup (n := 2) rfl (pgs_cons (pg_name (i := 3) nd rfl (Or.inl rfl) (Or.inl rfl)) (pgs_cons (pg_name (i := 4) nd rfl (Or.inl rfl) (Or.inl rfl)) pgs_nil))) (pss_cons (ps_set (i := 5) nd rfl (Or.inl rfl) (pe_fn C_lacking_ask hgd (hr.mono (by first | decide | omega)) rfl (pa_cons (pv 0) (pa_cons (pe_ix (r := rIx K) ix_seq (pv 4) pe_int (fun _ _ => rfl)) pa_nil))) (hf := Or.inl rfl)) (pss_one (ps_if (pt_cmpR opIsNot (pv 5) pe_non (nomark _)) (pss_one (ps_raise2 E_NoWorks (hr.mono (by first | decide | omega)) rfl (takes_of rfl rfl rfl rfl) (pa_cons pe_str (pa_cons (pe_tup (pa_cons (pv 3) (pa_cons (pv 5) pa_nil))) pa_nil)))) pss_nil)))) (pss_cons (ps_set (i := 5) nd rfl (Or.inl rfl) (pe_fn C_lacking_ask hgd (hr.mono (by first | decide | omega)) rfl (pa_cons (pv 0) (pa_cons (pe_ix (r := rIx K) ix_seq (pv 2) pe_int (fun _ _ => rfl)) pa_nil))) (hf := Or.inl rfl)) (pss_cons (ps_if (pt_cmpR opIsNot (pv 5) pe_non (nomark _)) (pss_one (ps_raise2 E_NoWorks (hr.mono (by first | decide | omega)) rfl (takes_of rfl rfl rfl rfl) (pa_cons pe_str (pa_cons (pv 5) pa_nil)))) pss_nil) (pss_one (ps_ret pe_bl))))))), pmX_body (by decide) h fun W F0 ss hl ⟨d, hss, fine⟩ ke => ?_⟩
  subst hss
  have enc2 : ∀ p : D, ([.dat d] : Rho) = [.dat p] → p = d := fun p e => by
    injection e with e _
    injection e with e
    exact e.symm
  have out : ∀ (x : Str) (i : D), judged d = .no x i → ∀ dd F' H', Ok W F' H' → Step W F0 H F' H' → Er K W F' H' dd [("at", i), ("word", .str x)] → E (.ref C) (some dd) H' := fun x i hj dd F' H' o' st' er =>
    ke C dd _ F' H' o' st' er ⟨rfl, fun p e => by rw [enc2 p e]; exact ⟨x, i, hj, rfl⟩⟩
  change Sx K W H F0 _ [.dat d, .un, .un, .un, .un, .un] _
  walk_at "go"
  refine ⟨fine, _, rfl, ?_⟩
  refine if2 (fun h1 => ?_) (fun h1 => ?_)
  · rw [Bool.not_eq_true'] at h1
    refine sx_raise2 E_NoWorks.ox E_NoWorks.n1 E_NoWorks.n2 ?_
    walk_at "go"
    exact out "shape" (.int (-1)) (judged_no h1)
  rw [Bool.not_eq_false'] at h1
  obtain ⟨ks, cs, cr, r, rfl, ok⟩ := works_is h1
  rw [judged_ok h1] at out
  have hw : WkHeads (.tuple (.tuple ks :: .tuple (.tuple cs :: cr) :: r)) := ⟨ks, _, rfl, (fine.tup (List.mem_cons_self ..)).tlen, heads_of ok⟩
  have fc : Fine (.tuple (.tuple cs :: cr)) := fine.tup (List.mem_cons_of_mem _ (List.mem_cons_self ..))
  generalize hdd : (PyData.tuple (.tuple ks :: .tuple (.tuple cs :: cr) :: r)) = d at *
  have rz : ∀ {ρ : Rho} {N : DL.Ends2} {ta : TA} (x : Str) (i : D), verdict d = .no x i → EvA K W H ta ρ (fun ss => ss = [.dat (.str x), .dat i]) →
      Sx K W H F0 (fun _ σ H => tMkO C (initSp K "word" "at") [] ta σ H fun cls d H' => E cls d H') ρ N := fun {ρ N ta} x i hv ha =>
    sx_raise2 E_NoWorks.ox E_NoWorks.n1 E_NoWorks.n2 fun σ F H k ho R q => ha σ F H k ho R fun vs F' H' ss o' st hv' e => q vs F' H' ss o' st hv' ⟨.str x, i, e, out x i hv⟩
  have ekd : kindsOf d = ks := by rw [← hdd]; rfl
  refine sx_next ?_
  refine sx_seq (sx_asgG (ev_sl (ev_varx ⟨_, rfl, eo_none (eo_some (ev_int ⟨_, rfl, ?_⟩))⟩)))
  rw [← hdd]
  refine sls_tup ?_
  rw [show (2 : Int) = ((2 : Nat) : Int) from rfl, cut_to (by simp)]
  refine gs_tup (ds := [.tuple ks, .tuple (.tuple cs :: cr)]) rfl (gss_cons (gs_name trivial (gss_cons (gs_name trivial (gss_nil ?_)))))
  rw [hdd]
  change Sx K W H F0 _ [.dat d, .dat (.tuple ks), .dat (.tuple (.tuple cs :: cr)), .un, .un, .un] _
  refine sx_seq (sx_for (fun es i ρ' => es = enumD ks ∧ ∃ s3 s4 s5, ρ' = [.dat d, .dat (.tuple ks), .dat (.tuple (.tuple cs :: cr)), s3, s4, s5] ∧ ∀ j < i, lackB d j = false) (evi_enum ?_))
  walk_at "go"
  refine ⟨⟨rfl, _, _, _, rfl, fun j h => absurd h (Nat.not_lt_zero _)⟩, ?_, ?_⟩
  · rintro i z ρ' hz ⟨_, s3, s4, s5, rfl, h0⟩
    have hi : i < ks.length := by
      have := (List.getElem?_eq_some_iff.mp hz).1
      rwa [enumD_len] at this
    have hz' : ks[i]? = some ks[i] := List.getElem?_eq_getElem hi
    have hm : ks[i] ∈ ks := List.getElem_mem hi
    obtain ⟨x, qs, r', hx, hq⟩ := ok.kinds _ hm
    have fk : Fine (.tuple qs) := by
      have f0 : Fine (.tuple ks) := by
        rw [← hdd] at fine
        exact fine.tup (List.mem_cons_self ..)
      have f1 : Fine ks[i] := f0.tup hm
      rw [hx] at f1
      exact f1.tup (List.mem_cons_of_mem _ (List.mem_cons_self ..))
    rw [hx] at hz'
    rw [enumD_get hz'] at hz
    obtain rfl := Option.some.inj hz
    have e1 : asksOf ((kindsOf d).getD i .none) = qs := by
      rw [ekd, List.getD_eq_getElem?_getD, hz']
      rfl
    have e2 : lackB d i = (lackJ d qs).isSome := by unfold lackB; rw [e1]
    refine gs_tup rfl (gss_cons (gs_name trivial (gss_cons (gs_name trivial (gss_nil ?_)))))
    change Sx K W H F0 _ [.dat d, .dat (.tuple ks), .dat (.tuple (.tuple cs :: cr)), .dat (.int i), .dat (.tuple (.str x :: .tuple qs :: r')), s5] _
    refine sx_seq (sx_asg ?_)
    walk_at "go"
    refine ⟨⟨hw, qs, rfl, fk.tlen, hq⟩, ?_⟩
    walk_at "go"
    have e3 : lackD d (.tuple qs) = optD (lackJ d qs) := rfl
    cases hj : lackJ d qs with
    | some j =>
      refine ifY (by rw [e3, hj]; rfl) ?_
      refine rz "asks" (.tuple [.int (i : Int), optD (lackJ d qs)]) ?_ ?_
      · unfold verdict lackK
        rw [fst_some (by rw [ekd]; exact hi) (by rw [e2, hj]; rfl) h0]
        simp only
        rw [e1]
      · change EvA K W H _ [.dat d, .dat (.tuple ks), .dat (.tuple (.tuple cs :: cr)), .dat (.int i), .dat (.tuple (.str x :: .tuple qs :: r')), .dat (optD (lackJ d qs))] _
        walk_at "go"
        rfl
    | none =>
      refine ifN (by rw [e3, hj]; rfl) (sx_next ⟨rfl, _, _, _, rfl, fun j hj' => ?_⟩)
      by_cases z' : j < i
      · exact h0 j z'
      · obtain rfl : j = i := by omega
        rw [e2, hj]
        rfl
  · rintro ρ' ⟨_, s3, s4, s5, rfl, h0⟩
    rw [enumD_len] at h0
    have v1 : lackK d = none := by
      unfold lackK
      rw [ekd]
      exact fst_none h0
    have e1 : copyAsks d = cs := by rw [← hdd]; rfl
    refine sx_seq (sx_asg ?_)
    walk_at "go"
    refine ⟨⟨hw, cs, rfl, (fc.tup (List.mem_cons_self ..)).tlen, ok.copy⟩, ?_⟩
    walk_at "go"
    have e3 : lackD d (.tuple cs) = optD (lackJ d cs) := rfl
    cases hj : lackJ d cs with
    | some j =>
      refine ifY (by rw [e3, hj]; rfl) ?_
      refine rz "copying" (.int (j : Int)) ?_ ?_
      · unfold verdict
        rw [v1]
        simp only
        rw [e1, hj]
      · rw [e3, hj]
        change EvA K W H _ [.dat d, .dat (.tuple ks), .dat (.tuple (.tuple cs :: cr)), s3, s4, .dat (.int j)] _
        walk_at "go"
        rfl
    | none =>
      refine ifN (by rw [e3, hj]; rfl) (sx_next ?_)
      refine sx_ret ?_
      walk_at "go"
      intro p e
      rw [enc2 p e, judged_ok h1]
      refine ⟨?_, rfl⟩
      unfold verdict
      rw [v1]
      simp only
      rw [e1, hj]
end
end K09w

namespace K09w
open PySem L2 RZ DL
/-! the walk by data -/
local macro_rules | `(tactic| walk_at "dl") => `(tactic| first
  | with_reducible first
    | refine sx_seq ?_ | refine sx_if ?_ | refine sx_next ?_
    | refine et_not ?_ | refine et_B ?_ | refine et_test ?_ | refine et_and ?_ | refine et_or ?_ | refine et_yes ?_
    | refine ev_and ?_ | refine ev_or ?_ | refine ev_not ?_ | refine ev_if ?_ | refine ev_chain ?_
    | refine ev_int ?_ | refine ev_bl ?_ | refine ev_str ?_ | refine ev_non ?_ | refine ev_c ?_
    | refine ev_op ?_ | refine ev_un ?_ | refine ev_cb ?_ | refine ev_fn1 ?_ | refine ev_fn2 ?_ | refine ev_sl ?_ | refine eo_none ?_ | refine eo_some ?_ | refine ev_tup ?_
    | refine ea_cons ?_ | refine ea_nil ?_
    | refine ops_ge ?_ | refine ops_le ?_ | refine ops_gt ?_ | refine ops_lt ?_ | refine ops_leS ?_ | refine ops_ltS ?_ | refine ops_add_int ?_ | refine ops_sub ?_ | refine ops_isN ?_ | refine ops_isNot ?_ | refine ops_eq_int ?_ | refine ops_eqS ?_ | refine ops_neS ?_
    | refine cas_len_tup ?_ | refine cas_isi_int ?_ | refine cas_isi_bool ?_ | refine cas_isi_str ?_ | refine cas_isi_tup ?_ | refine cas_isi_lst ?_
    | refine iteT ?_ | refine iteF ?_ | refine and_nols ?_
  | ((with_reducible refine ev_varx ?_); refine ⟨_, rfl, ?_⟩)
  | ((with_reducible refine ops_ix_tupx ?_); first | refine ⟨_, rfl, ?_⟩ | refine ⟨_, atI_nat (j := 0) rfl, ?_⟩ | refine ⟨_, atI_nat (j := 1) rfl, ?_⟩ | refine ⟨_, atI_nat (j := 2) rfl, ?_⟩ | refine ⟨_, atI_nat (j := 3) rfl, ?_⟩ | refine ⟨_, atI_nat (j := 4) rfl, ?_⟩ | refine ⟨_, atI_nat (j := 5) rfl, ?_⟩ | refine ⟨_, atI_nat (j := 6) rfl, ?_⟩)
  | ((with_reducible refine sz_and ?_ ?_); exact rfl)
  | ((with_reducible refine ev_ownx ?_); refine ⟨_, rfl, ?_⟩)
  | ((with_reducible refine ev_refx ?_); refine ⟨_, rfl, ?_⟩)
  | (with_reducible refine sxn_seq ?_) | (with_reducible refine uns_neg ?_) | (with_reducible refine ev_frz (evn_lst ?_)) | (with_reducible refine sls_tup ?_) | (refine ev_revT ?_)
  | ((refine sx_extx ?_); refine ⟨_, rfl, ?_⟩) | ((with_reducible refine ops_add_tup ?_ ?_); exact le_line rfl) | (with_reducible refine cas_listT ?_)
  | ((with_reducible refine ifT ?_ ?_); exact rfl) | ((with_reducible refine ifF ?_ ?_); exact rfl))
local macro_rules | `(tactic| walk_at "go") => `(tactic| repeat (first | walk_at "dl" | with_reducible refine ⟨_, rfl, ?_⟩ | with_reducible refine ⟨_, _, rfl, ?_⟩))
/-! ### is_whole -/
def isTold : Verd → Bool
  | .told => true
  | .no _ _ => false
abbrev CWhole (Pg : Program) (w : World) (K : PySem.W.Frag) (mg : Str → Option Value) (base : Heap) := Fn Pg w K mg base "is_whole" 9 ["thing"] (Pm1 K Fine fun d => .bool (isTold (judged d)))
section
variable {Pg : Program} {w : World} {K : PySem.W.Frag} {mg : Str → Option Value} {base : Heap} {f C : Addr} {fd : FuncData}
theorem ok_is_whole (F : Fun K "is_whole" "is_whole" s_is_whole f fd) (T : Txt mg) (E_NoWorks : Exc2 Pg w K mg base "NoWorks" C "word" "at") (C_lets_works : CLets Pg w K mg base C) : FnG Pg w K mg base 9 f fd ["thing"] (Pm1 K Fine fun d => .bool (isTold (judged d))) := by
  have nd := sc_is_whole.nd
  refine fnG_of F sc_is_whole pm_len (fun cdv A ou s H vs Q hgd hr h => ?_)
  refine ⟨_, (pss_one (ps_try_only rfl rfl ⟨rfl, by decide, .inl E_NoWorks.g⟩ takesN (fun W pn xe tk _ => (pss_one (ps_ret (pe_fnX C_lets_works tk hgd (hr.mono (by first | decide | omega)) rfl (pa_cons (pv 0) pa_nil))))) (fun a oe cls d pn _ _ => (pss_one (ps_ret pe_bl))))), body1 (ts := fun D σ H => tRet (tCallS (spLets K C) (WE (wOnly K (.ref C) (fun _ _ _ => tRet (tC (.bl false))) (fun _ _ _ _ => False) D)) (tCons (tVar 0) tNil)) D σ H) (by decide) h fun W F0 d hd => ?_⟩
  change Sx K W H F0 _ [.dat d] _
  have enc2 : ∀ p : D, ([.dat d] : Rho) = [.dat p] → p = d := fun p e => by
    injection e with e _
    injection e with e
    exact e.symm
  refine sx_try_ret (K := K) (W := W) (H0 := H) (F0 := F0) (tx := fun Wx => tCallS (spLets K C) (WE Wx) (tCons (tVar 0) tNil)) (ts := fun _ _ _ => tRet (tC (.bl false))) (c := .ref C) (fun C' fs => C' = C ∧ ∃ x i, judged d = .no x i) ?_ (fun C' fs h => ?_) (fun C' fs h a d' => ?_)
  · refine evx_fn (ea_cons (ev_varx ⟨_, rfl, ea_nil ⟨?_, rfl, ⟨d, rfl, hd⟩, fun s hs => ?_, fun C' fs hs => ⟨hs.1, ?_⟩⟩⟩))
    · simp [NoLs]
    · obtain ⟨h1, rfl⟩ := hs d rfl
      show _ = Sl.dat (.bool (isTold (judged d)))
      rw [h1]
      rfl
    · obtain ⟨x, i, h1, _⟩ := hs.2 d rfl
      exact ⟨x, i, h1⟩
  · rw [h.1]
    exact E_NoWorks.me
  · obtain ⟨_, x, i, h1⟩ := h
    refine sx_ret (ev_bl ?_)
    show _ = Sl.dat (.bool (isTold (judged d)))
    rw [h1]
    rfl
end
end K09w

namespace K09
open PySem L2 RZ DL
/-! the walk by data -/
local macro_rules | `(tactic| walk_at "dl") => `(tactic| first
  | with_reducible first
    | refine sx_seq ?_ | refine sx_if ?_ | refine sx_next ?_
    | refine et_not ?_ | refine et_B ?_ | refine et_test ?_ | refine et_and ?_ | refine et_or ?_ | refine et_yes ?_
    | refine ev_and ?_ | refine ev_or ?_ | refine ev_not ?_ | refine ev_if ?_ | refine ev_chain ?_
    | refine ev_int ?_ | refine ev_bl ?_ | refine ev_str ?_ | refine ev_non ?_ | refine ev_c ?_
    | refine ev_op ?_ | refine ev_un ?_ | refine ev_cb ?_ | refine ev_fn1 ?_ | refine ev_fn2 ?_ | refine ev_sl ?_ | refine eo_none ?_ | refine eo_some ?_ | refine ev_tup ?_
    | refine ea_cons ?_ | refine ea_nil ?_
    | refine ops_ge ?_ | refine ops_le ?_ | refine ops_gt ?_ | refine ops_lt ?_ | refine ops_leS ?_ | refine ops_ltS ?_ | refine ops_add_int ?_ | refine ops_sub ?_ | refine ops_isN ?_ | refine ops_isNot ?_ | refine ops_eq_int ?_ | refine ops_eqS ?_ | refine ops_neS ?_
    | refine cas_len_tup ?_ | refine cas_isi_int ?_ | refine cas_isi_bool ?_ | refine cas_isi_str ?_ | refine cas_isi_tup ?_ | refine cas_isi_lst ?_
    | refine iteT ?_ | refine iteF ?_ | refine and_nols ?_
  | ((with_reducible refine ev_varx ?_); refine ⟨_, rfl, ?_⟩)
  | ((with_reducible refine ops_ix_tupx ?_); first | refine ⟨_, rfl, ?_⟩ | refine ⟨_, atI_nat (j := 0) rfl, ?_⟩ | refine ⟨_, atI_nat (j := 1) rfl, ?_⟩ | refine ⟨_, atI_nat (j := 2) rfl, ?_⟩ | refine ⟨_, atI_nat (j := 3) rfl, ?_⟩ | refine ⟨_, atI_nat (j := 4) rfl, ?_⟩ | refine ⟨_, atI_nat (j := 5) rfl, ?_⟩ | refine ⟨_, atI_nat (j := 6) rfl, ?_⟩)
  | ((with_reducible refine sz_and ?_ ?_); exact rfl)
  | ((with_reducible refine ev_ownx ?_); refine ⟨_, rfl, ?_⟩)
  | ((with_reducible refine ev_refx ?_); refine ⟨_, rfl, ?_⟩)
  | (with_reducible refine sxn_seq ?_) | (with_reducible refine uns_neg ?_) | (with_reducible refine ev_frz (evn_lst ?_)) | (with_reducible refine sls_tup ?_) | (refine ev_revT ?_)
  | ((refine sx_extx ?_); refine ⟨_, rfl, ?_⟩) | ((with_reducible refine ops_add_tup ?_ ?_); exact le_line rfl) | (with_reducible refine cas_listT ?_)
  | ((with_reducible refine ifT ?_ ?_); exact rfl) | ((with_reducible refine ifF ?_ ?_); exact rfl))
local macro_rules | `(tactic| walk_at "go") => `(tactic| repeat (first | walk_at "dl" | with_reducible refine ⟨_, rfl, ?_⟩ | with_reducible refine ⟨_, _, rfl, ?_⟩))
/-! ### goods, by two words -/
abbrev Gd := Str × Str
def gD (g : Gd) : D := .tuple [.str g.1, .str g.2]
def unG : D → Gd
  | .tuple [.str a, .str b] => (a, b)
  | _ => ("", "")
theorem gD_inj {a b : Gd} (h : gD a = gD b) : a = b := congrArg unG h
def gl (gs : List Gd) : List D := gs.map gD
def unL : D → List Gd
  | .tuple ds => ds.map unG
  | .list ds => ds.map unG
  | _ => []
theorem un_gl : ∀ gs : List Gd, (gl gs).map unG = gs
  | [] => rfl
  | g :: gs => by
    show unG (gD g) :: (gl gs).map unG = g :: gs
    rw [un_gl gs]
    rfl
theorem unL_tup (gs : List Gd) : unL (.tuple (gl gs)) = gs := un_gl gs
theorem unL_lst (gs : List Gd) : unL (.list (gl gs)) = gs := un_gl gs
theorem beq_str (a c : Str) : (a == c) = decide (a = c) := by
  by_cases h : a = c
  · subst h
    simp
  · rw [decide_eq_false h]
    exact beq_eq_false_iff_ne.mpr h
theorem eqv_g (a b : Gd) : PyData.eqv (gD a) (gD b) = decide (a = b) := by
  obtain ⟨a1, a2⟩ := a
  obtain ⟨b1, b2⟩ := b
  simp only [gD, PyData.eqv, PyData.eqvAll, Bool.and_true, beq_str]
  by_cases h1 : a1 = b1
  · by_cases h2 : a2 = b2
    · simp [h1, h2]
    · simp [h1, h2]
  · simp [h1]
theorem any_g (gs : List Gd) (g : Gd) : ((gl gs).any fun z => PyData.eqv z (gD g)) = decide (g ∈ gs) := by
  induction gs with
  | nil => rfl
  | cons a r ih =>
    show (PyData.eqv (gD a) (gD g) || (gl r).any fun z => PyData.eqv z (gD g)) = _
    rw [ih, eqv_g]
    by_cases h : a = g
    · subst h
      simp
    · have h' : ¬ g = a := fun z => h z.symm
      simp [h, h']
theorem eqvL_g : ∀ as bs : List Gd, PyData.eqvAll (gl as) (gl bs) = decide (as = bs)
  | [], [] => rfl
  | [], _ :: _ => rfl
  | _ :: _, [] => rfl
  | a :: as, b :: bs => by
    show (PyData.eqv (gD a) (gD b) && PyData.eqvAll (gl as) (gl bs)) = _
    rw [eqv_g, eqvL_g as bs]
    by_cases h : a = b
    · by_cases h2 : as = bs
      · simp [h, h2]
      · simp [h, h2]
    · simp [h]
theorem eqv_tup (as bs : List Gd) : PyData.eqv (.tuple (gl as)) (.tuple (gl bs)) = decide (as = bs) := by
  rw [← eqvL_g]
  simp only [PyData.eqv]
theorem eqv_lst (as bs : List Gd) : PyData.eqv (.list (gl as)) (.list (gl bs)) = decide (as = bs) := by
  rw [← eqvL_g]
  simp only [PyData.eqv]
theorem toks_g (a b : Gd) (h : PySem.W.keyToks (gD a) = PySem.W.keyToks (gD b)) : a = b := by
  simp [gD, PySem.W.keyToks, PySem.W.keyToksAll] at h
  exact Prod.ext (PySem.W.str_of_cps (by rw [h.1])) (PySem.W.str_of_cps (by rw [h.2]))
def okG (g : Gd) : Prop := Bt 8 g.1 ∧ Bt 8 g.2
theorem g_bd {g : Gd} (h : okG g) : Bd 1 20 1 (gD g) := (bd_tup.mpr (bds_cons (bd_str.mpr h.1) (bds_one (bd_str.mpr h.2)))).mono (Nat.le_refl _) (by decide) (Nat.le_refl 1)
theorem g_fine {g : Gd} (h : okG g) : Fine (gD g) := (g_bd h).fine (by decide) (by decide) (by decide)
theorem bds_map {α : Type} (g : α → D) {k w n : Nat} : ∀ {xs : List α}, (∀ x ∈ xs, Bd k w n (g x)) → Bds k ((w + 1) * xs.length) n (xs.map g)
  | [], _ => bds_nil
  | x :: xs, h => (bds_cons (h x List.mem_cons_self) (bds_map g fun y m => h y (List.mem_cons_of_mem _ m))).mono (Nat.le_refl _) (by rw [List.length_cons, Nat.mul_succ]; omega) (Nat.le_refl _)
theorem gl_bds {gs : List Gd} (h : ∀ g ∈ gs, okG g) : Bds 1 (21 * gs.length) 1 (gl gs) := bds_map gD fun g m => g_bd (h g m)
theorem gl_tup {gs : List Gd} (h : ∀ g ∈ gs, okG g) (n : gs.length ≤ 1000) : Fine (.tuple (gl gs)) := (bd_tup.mpr (gl_bds h)).fine (by decide) (by omega) (by decide)
theorem gl_lst {gs : List Gd} (h : ∀ g ∈ gs, okG g) (n : gs.length ≤ 1000) : Fine (.list (gl gs)) := (bd_lst.mpr (gl_bds h)).fine (by decide) (by omega) (by decide)
theorem gl_len (gs : List Gd) : (gl gs).length = gs.length := List.length_map _
theorem alike_g (a b : Gd) : PySem.W.alike (gD a) (gD b) = true := rfl
theorem gl_alike (gs : List Gd) : PySem.W.AllAlike (gl gs) := fun d hd e he => by
  obtain ⟨a, _, rfl⟩ := List.mem_map.mp hd
  obtain ⟨b, _, rfl⟩ := List.mem_map.mp he
  rfl
theorem gl_sort (gs : List Gd) : PySem.W.Sortable (gl gs) := .inl fun d hd => by
  obtain ⟨a, _, rfl⟩ := List.mem_map.mp hd
  exact ⟨_, _, rfl⟩
theorem gl_dep (gs : List Gd) : ∀ d ∈ gl gs, d.depth ≤ 40 := fun d hd => by
  obtain ⟨a, _, rfl⟩ := List.mem_map.mp hd
  simp [gD, PyData.depth, PyData.depthAll]
/-! in order -/
abbrev gsort (gs : List Gd) : List Gd := ksort gD gs
theorem srt_gl (gs : List Gd) : srtD false (gl gs) = gl (gsort gs) := srt_ksort gD gs
theorem gsort_mem {gs : List Gd} {g : Gd} : g ∈ gsort gs ↔ g ∈ gs := (ksort_perm gD gs).mem_iff
theorem gsort_eq {as bs : List Gd} (h : as.Perm bs) : gsort as = gsort bs := ksort_eq toks_g h
theorem gsort_len (gs : List Gd) : (gsort gs).length = gs.length := (ksort_perm gD gs).length_eq
def sLt (x y : Str) : Prop := x.cps.toList < y.cps.toList
def gLt (a b : Gd) : Prop := PySem.W.dataLt (gD a) (gD b) = true
theorem lt_g {a b : Gd} (h : sLt a.1 b.1 ∨ a.1 = b.1 ∧ sLt a.2 b.2) : gLt a b := by
  obtain ⟨a1, a2⟩ := a
  obtain ⟨b1, b2⟩ := b
  unfold gLt gD
  rw [PySem.W.dataLt_tuple]
  have e1 : PyProof.Rows.itemLt (.inl 1) (.inl 1) = false := by decide
  have e2 : ∀ x y : List Nat, PyProof.Rows.itemLt (.inr x) (.inr y) = decide (x < y) := fun x y => by
    have := PySem.W.dataLt_str ⟨x.toArray⟩ ⟨y.toArray⟩
    simp [PySem.W.dataLt, PySem.W.keyToks, PyProof.Rows.lexLt] at this
    exact this
  simp only [PySem.W.keyToksAll, PySem.W.keyToks, PyProof.Rows.lexLt, List.cons_append, List.nil_append, e1, e2]
  rcases h with h | ⟨rfl, h⟩
  · have h : a1.cps.toList < b1.cps.toList := h
    simp [h]
  · have h : a2.cps.toList < b2.cps.toList := h
    have i : ¬ a1.cps.toList < a1.cps.toList := List.lt_irrefl _
    simp [h, i]
theorem gLt_le {a b : Gd} (h : gLt a b) : PySem.W.dataLe false gD a b = true := by
  rw [PySem.W.dataLe_eq]
  simp only [cond_false, Bool.not_eq_true']
  cases e : PySem.W.dataLt (gD b) (gD a) with
  | false => rfl
  | true =>
    have := PyProof.Rows.lex_trans _ _ _ h e
    rw [PyProof.Rows.lex_irrefl] at this
    cases this
theorem gLt_ne {a b : Gd} (h : gLt a b) : a ≠ b := fun z => by
  subst z
  have : PySem.W.dataLt (gD a) (gD a) = true := h
  unfold PySem.W.dataLt at this
  rw [PyProof.Rows.lex_irrefl] at this
  cases this
theorem gsort_self {gs : List Gd} (h : gs.Pairwise gLt) : gsort gs = gs := ksort_self gD (h.imp gLt_le)
theorem gLt_nodup {gs : List Gd} (h : gs.Pairwise gLt) : gs.Nodup := h.imp gLt_ne
/-! ### a works of words -/
abbrev wk4 (ks cs cr r : List D) : D := .tuple (.tuple ks :: .tuple (.tuple cs :: cr) :: r)
def kindsOf : D → List D
  | .tuple (.tuple ks :: _) => ks
  | _ => []
def copyAsks : D → List D
  | .tuple (_ :: .tuple (.tuple cs :: _) :: _) => cs
  | _ => []
def nameOf : D → Str
  | .tuple (.str x :: _) => x
  | _ => ""
def asksIn : D → List D
  | .tuple (_ :: .tuple qs :: _) => qs
  | _ => []
def names (ks : List D) : List Str := ks.map nameOf
structure AsksOk (ns : List Str) (qs : List D) : Prop where
  len : qs.length ≤ 3
  nd : (qs.map nameOf).Nodup
  of : ∀ q ∈ qs, ∃ x n, q = .tuple [.str x, n] ∧ x ∈ ns
structure PlantOk (ks cs cr r : List D) : Prop where
  n3 : ks.length ≤ 3
  kd : ∀ k ∈ ks, ∃ x qs q, k = .tuple (.str x :: .tuple qs :: q) ∧ AsksOk (names ks) qs
  nm : ∀ x ∈ names ks, Bt 8 x
  srt : (names ks).Pairwise sLt
  cp : AsksOk (names ks) cs
  bd : Bd big 600 6 (wk4 ks cs cr r)
def Plant (d : D) : Prop := ∃ ks cs cr r, d = wk4 ks cs cr r ∧ PlantOk ks cs cr r
def goods (ks : List D) : List Gd := (names ks).map (fun x => (("leaf" : Str), x)) ++ (names ks).map (fun x => (("tool" : Str), x))
def kindAt (ks : List D) (x : Str) : D := (ks.find? fun k => decide (nameOf k = x)).getD .none
def wordsOf (qs : List D) : List Str := qs.map nameOf
def asksFor (ks cs : List D) (g : Gd) : List D := if g.1 = "leaf" then cs else asksIn (kindAt ks g.2)
def straight (ks cs : List D) (g : Gd) : List Gd := gsort ((("leaf" : Str), g.2) :: (wordsOf (asksFor ks cs g)).map fun x => (("tool" : Str), x))
section
variable {ks cs cr r : List D}
theorem bt8 (x : Str) (h : (x.cps.toList.all (fun c => decide (c < 128)) && decide (x.length ≤ 8)) = true := by decide +kernel) : Bt 8 x := by
  simp only [Bool.and_eq_true, decide_eq_true_eq] at h
  have b := bt_lit x h.1
  exact ⟨b.ok, Nat.le_trans b.len h.2⟩
theorem goods_len : (goods ks).length = 2 * ks.length := by
  unfold goods
  rw [List.length_append, List.length_map, List.length_map]
  unfold names
  rw [List.length_map]
  omega
theorem good_is {g : Gd} (h : g ∈ goods ks) : (g.1 = "leaf" ∨ g.1 = "tool") ∧ g.2 ∈ names ks := by
  rcases List.mem_append.mp h with m | m
  · obtain ⟨x, hx, rfl⟩ := List.mem_map.mp m
    exact ⟨.inl rfl, hx⟩
  · obtain ⟨x, hx, rfl⟩ := List.mem_map.mp m
    exact ⟨.inr rfl, hx⟩
theorem leaf_good {x : Str} (h : x ∈ names ks) : (("leaf" : Str), x) ∈ goods ks := List.mem_append_left _ (List.mem_map.mpr ⟨x, h, rfl⟩)
theorem tool_good {x : Str} (h : x ∈ names ks) : (("tool" : Str), x) ∈ goods ks := List.mem_append_right _ (List.mem_map.mpr ⟨x, h, rfl⟩)
theorem PlantOk.okG (p : PlantOk ks cs cr r) {g : Gd} (h : g ∈ goods ks) : okG g := by
  obtain ⟨h1, h2⟩ := good_is h
  refine ⟨?_, p.nm _ h2⟩
  rcases h1 with e | e <;> rw [e] <;> exact bt8 _
theorem PlantOk.sorted (p : PlantOk ks cs cr r) : (goods ks).Pairwise gLt := by
  refine List.pairwise_append.mpr ⟨?_, ?_, ?_⟩
  · exact List.pairwise_map.mpr (p.srt.imp fun {a b} h => lt_g (a := (("leaf" : Str), a)) (b := (("leaf" : Str), b)) (.inr ⟨rfl, h⟩))
  · exact List.pairwise_map.mpr (p.srt.imp fun {a b} h => lt_g (a := (("tool" : Str), a)) (b := (("tool" : Str), b)) (.inr ⟨rfl, h⟩))
  · intro a ha b hb
    obtain ⟨x, _, rfl⟩ := List.mem_map.mp ha
    obtain ⟨y, _, rfl⟩ := List.mem_map.mp hb
    exact lt_g (.inl (by show ("leaf" : Str).cps.toList < ("tool" : Str).cps.toList; decide))
theorem kind_at {x : Str} (h : x ∈ names ks) : ∃ k ∈ ks, kindAt ks x = k ∧ nameOf k = x := by
  unfold kindAt
  rcases e : ks.find? fun k => decide (nameOf k = x) with _ | k
  · obtain ⟨k, mk, ek⟩ := List.mem_map.mp h
    have := List.find?_eq_none.mp e k mk
    exact absurd (decide_eq_true ek) this
  · exact ⟨k, List.mem_of_find?_eq_some e, rfl, of_decide_eq_true (p := nameOf k = x) (List.find?_some (p := fun k => decide (nameOf k = x)) e)⟩
theorem PlantOk.asks (p : PlantOk ks cs cr r) {g : Gd} (h : g ∈ goods ks) : AsksOk (names ks) (asksFor ks cs g) := by
  unfold asksFor
  split
  · exact p.cp
  · obtain ⟨k, mk, e, _⟩ := kind_at (good_is h).2
    rw [e]
    obtain ⟨x, qs, q, rfl, ho⟩ := p.kd k mk
    exact ho
theorem AsksOk.words {ns : List Str} {qs : List D} (h : AsksOk ns qs) {x : Str} (m : x ∈ wordsOf qs) : x ∈ ns := by
  obtain ⟨q, mq, rfl⟩ := List.mem_map.mp m
  obtain ⟨y, n, rfl, hy⟩ := h.of q mq
  exact hy
theorem PlantOk.strt (p : PlantOk ks cs cr r) {g o : Gd} (h : g ∈ goods ks) (m : o ∈ straight ks cs g) : o ∈ goods ks := by
  rcases List.mem_cons.mp (gsort_mem.mp m) with rfl | m
  · exact leaf_good (good_is h).2
  · obtain ⟨x, hx, rfl⟩ := List.mem_map.mp m
    exact tool_good ((p.asks h).words hx)
theorem PlantOk.slen (p : PlantOk ks cs cr r) {g : Gd} (h : g ∈ goods ks) : (straight ks cs g).length ≤ 4 := by
  unfold straight
  rw [gsort_len, List.length_cons, List.length_map]
  unfold wordsOf
  rw [List.length_map]
  have := (p.asks h).len
  omega
end
/-! ### rows that grow, what is closed -/
def within (ks cs : List D) (T : List Gd) (g : Gd) : Prop := ∀ o ∈ straight ks cs g, o ∈ T
instance (ks cs : List D) (T : List Gd) (g : Gd) : Decidable (within ks cs T g) := List.decidableBAll (fun o => o ∈ T) (straight ks cs g)
inductive Grown (ks cs : List D) (S : List Gd) : List Gd → Prop
  | nil : Grown ks cs S []
  | snoc {R : List Gd} {g : Gd} : Grown ks cs S R → g ∈ goods ks → g ∉ R → within ks cs (S ++ R) g → Grown ks cs S (R ++ [g])
def Closed (ks cs : List D) (S R : List Gd) : Prop := ∀ g ∈ goods ks, g ∉ R → ¬ within ks cs (S ++ R) g
section
variable {ks cs : List D} {S R R' : List Gd}
theorem Grown.sub (h : Grown ks cs S R) : ∀ g ∈ R, g ∈ goods ks := by
  induction h with
  | nil => exact fun g m => nomatch m
  | snoc _ hg _ _ ih =>
    intro g m
    rcases List.mem_append.mp m with m | m
    · exact ih g m
    · rw [List.mem_singleton.mp m]
      exact hg
theorem Grown.nodup (h : Grown ks cs S R) : R.Nodup := by
  induction h with
  | nil => exact List.nodup_nil
  | snoc _ _ hn _ ih =>
    refine List.nodup_append.mpr ⟨ih, by simp, fun a ha b hb z => ?_⟩
    rw [List.mem_singleton.mp hb] at z
    exact hn (z ▸ ha)
theorem within_mono {T T' : List Gd} {g : Gd} (h : ∀ o ∈ T, o ∈ T') (w : within ks cs T g) : within ks cs T' g := fun o m => h o (w o m)
theorem Grown.le (h : Grown ks cs S R') (c : Closed ks cs S R) : ∀ g ∈ R', g ∈ R := by
  induction h with
  | nil => exact fun g m => nomatch m
  | snoc _ hg _ hw ih =>
    intro g m
    rcases List.mem_append.mp m with m | m
    · exact ih g m
    · rw [List.mem_singleton.mp m]
      refine Decidable.byContradiction fun z => c _ hg z (within_mono (fun o ho => ?_) hw)
      rcases List.mem_append.mp ho with ho | ho
      · exact List.mem_append_left _ ho
      · exact List.mem_append_right _ (ih o ho)
theorem sub_len : ∀ {as bs : List Gd}, as.Nodup → (∀ a ∈ as, a ∈ bs) → as.length ≤ bs.length
  | [], _, _, _ => Nat.zero_le _
  | a :: as, bs, hn, h => by
    obtain ⟨h1, h2⟩ := List.nodup_cons.mp hn
    have ha := h a List.mem_cons_self
    have := sub_len (bs := bs.erase a) h2 fun x m => (List.mem_erase_of_ne (fun z => h1 (by rw [← z]; exact m))).mpr (h x (List.mem_cons_of_mem _ m))
    rw [List.length_erase_of_mem ha] at this
    have := List.length_pos_of_mem ha
    rw [List.length_cons]
    omega
theorem same_perm {as bs : List Gd} (ha : as.Nodup) (hb : bs.Nodup) (h : ∀ g, g ∈ as ↔ g ∈ bs) : as.Perm bs := by
  rw [List.perm_iff_count]
  intro g
  by_cases m : g ∈ as
  · rw [ha.count, hb.count, if_pos m, if_pos ((h g).mp m)]
  · rw [List.count_eq_zero.mpr m, List.count_eq_zero.mpr fun z => m ((h g).mpr z)]
theorem Grown.perm (h : Grown ks cs S R) (c : Closed ks cs S R) (h' : Grown ks cs S R') (c' : Closed ks cs S R') : R.Perm R' :=
  same_perm h.nodup h'.nodup fun g => ⟨h.le c' g, h'.le c g⟩
theorem Grown.len (h : Grown ks cs S R) : R.length ≤ 2 * ks.length := by
  rw [← goods_len]
  exact sub_len h.nodup h.sub
theorem Grown.at (h : Grown ks cs S R) : ∀ (k : Nat) (g : Gd), R[k]? = some g → g ∉ R.take k ∧ within ks cs (S ++ R.take k) g := by
  induction h with
  | nil => exact fun k g e => by simp at e
  | @snoc R g0 hR _ hn hw ih =>
    intro k g e
    by_cases hk : k < R.length
    · rw [List.getElem?_append_left hk] at e
      rw [List.take_append_of_le_length (Nat.le_of_lt hk)]
      exact ih k g e
    · rw [List.getElem?_append_right (Nat.le_of_not_lt hk)] at e
      have : k = R.length := by
        have := (List.getElem?_eq_some_iff.mp e).1
        rw [List.length_singleton] at this
        omega
      subst this
      rw [Nat.sub_self] at e
      obtain rfl := Option.some.inj e
      rw [List.take_left]
      exact ⟨hn, hw⟩
end
end K09

namespace K09
open PySem L2 RZ DL
/-! the walk by data -/
local macro_rules | `(tactic| walk_at "dl") => `(tactic| first
  | with_reducible first
    | refine sx_seq ?_ | refine sx_if ?_ | refine sx_next ?_
    | refine et_not ?_ | refine et_B ?_ | refine et_test ?_ | refine et_and ?_ | refine et_or ?_ | refine et_yes ?_
    | refine ev_and ?_ | refine ev_or ?_ | refine ev_not ?_ | refine ev_if ?_ | refine ev_chain ?_
    | refine ev_int ?_ | refine ev_bl ?_ | refine ev_str ?_ | refine ev_non ?_ | refine ev_c ?_
    | refine ev_op ?_ | refine ev_un ?_ | refine ev_cb ?_ | refine ev_fn1 ?_ | refine ev_fn2 ?_ | refine ev_sl ?_ | refine eo_none ?_ | refine eo_some ?_ | refine ev_tup ?_
    | refine ea_cons ?_ | refine ea_nil ?_
    | refine ops_ge ?_ | refine ops_le ?_ | refine ops_gt ?_ | refine ops_lt ?_ | refine ops_leS ?_ | refine ops_ltS ?_ | refine ops_add_int ?_ | refine ops_sub ?_ | refine ops_isN ?_ | refine ops_isNot ?_ | refine ops_eq_int ?_ | refine ops_eqS ?_ | refine ops_neS ?_
    | refine cas_len_tup ?_ | refine cas_isi_int ?_ | refine cas_isi_bool ?_ | refine cas_isi_str ?_ | refine cas_isi_tup ?_ | refine cas_isi_lst ?_
    | refine iteT ?_ | refine iteF ?_ | refine and_nols ?_
  | ((with_reducible refine ev_varx ?_); refine ⟨_, rfl, ?_⟩)
  | ((with_reducible refine ops_ix_tupx ?_); first | refine ⟨_, rfl, ?_⟩ | refine ⟨_, atI_nat (j := 0) rfl, ?_⟩ | refine ⟨_, atI_nat (j := 1) rfl, ?_⟩ | refine ⟨_, atI_nat (j := 2) rfl, ?_⟩ | refine ⟨_, atI_nat (j := 3) rfl, ?_⟩ | refine ⟨_, atI_nat (j := 4) rfl, ?_⟩ | refine ⟨_, atI_nat (j := 5) rfl, ?_⟩ | refine ⟨_, atI_nat (j := 6) rfl, ?_⟩)
  | ((with_reducible refine sz_and ?_ ?_); exact rfl)
  | ((with_reducible refine ev_ownx ?_); refine ⟨_, rfl, ?_⟩)
  | ((with_reducible refine ev_refx ?_); refine ⟨_, rfl, ?_⟩)
  | (with_reducible refine sxn_seq ?_) | (with_reducible refine uns_neg ?_) | (with_reducible refine ev_frz (evn_lst ?_)) | (with_reducible refine sls_tup ?_) | (refine ev_revT ?_)
  | ((refine sx_extx ?_); refine ⟨_, rfl, ?_⟩) | ((with_reducible refine ops_add_tup ?_ ?_); exact le_line rfl) | (with_reducible refine cas_listT ?_)
  | ((with_reducible refine ifT ?_ ?_); exact rfl) | ((with_reducible refine ifF ?_ ?_); exact rfl))
local macro_rules | `(tactic| walk_at "go") => `(tactic| repeat (first | walk_at "dl" | with_reducible refine ⟨_, rfl, ?_⟩ | with_reducible refine ⟨_, _, rfl, ?_⟩))
def top (i : Nat) : Stmt := PySem.Challenge.pw_handsmade_k09_whole_rings.main.body.getD i (.Pass ⟨0, 0, 0, 0⟩)
abbrev s_kind_called : Stmt := top 1
theorem sc_kind_called : FnScope ["works", "name", "kind"] ["works", "name"] (defScope s_kind_called) := ⟨rfl, rfl, rfl, by decide +kernel, rfl, by decide +kernel, by decide +kernel⟩
abbrev s_goods_of : Stmt := top 2
theorem sc_goods_of : FnScope ["works", "names", "kind", "what", "name"] ["works"] (defScope s_goods_of) := ⟨rfl, rfl, rfl, by decide +kernel, rfl, by decide +kernel, by decide +kernel⟩
abbrev s_hangs_straight : Stmt := top 4
theorem sc_hangs_straight : FnScope ["works", "good", "what", "name", "asks", "word", "_"] ["works", "good"] (defScope s_hangs_straight) := ⟨rfl, rfl, rfl, by decide +kernel, rfl, by decide +kernel, by decide +kernel⟩
abbrev s_hangs_on : Stmt := top 5
theorem sc_hangs_on : FnScope ["works", "good", "found", "k", "ons", "other"] ["works", "good"] (defScope s_hangs_on) := ⟨rfl, rfl, rfl, by decide +kernel, rfl, by decide +kernel, by decide +kernel⟩
abbrev s_rings_of : Stmt := top 6
theorem sc_rings_of : FnScope ["works", "hung", "rings", "good", "ons", "ring", "other"] ["works"] (defScope s_rings_of) := ⟨rfl, rfl, rfl, by decide +kernel, rfl, by decide +kernel, by decide +kernel⟩
abbrev s_is_number : Stmt := top 12
theorem sc_is_number : FnScope ["thing"] ["thing"] (defScope s_is_number) := ⟨rfl, rfl, rfl, by decide +kernel, rfl, by decide +kernel, by decide +kernel⟩
abbrev s_is_number_from : Stmt := top 13
theorem sc_is_number_from : FnScope ["thing", "least"] ["thing", "least"] (defScope s_is_number_from) := ⟨rfl, rfl, rfl, by decide +kernel, rfl, by decide +kernel, by decide +kernel⟩
abbrev s_is_word : Stmt := top 14
theorem sc_is_word : FnScope ["thing", "sign"] ["thing"] (defScope s_is_word) := ⟨rfl, rfl, rfl, by decide +kernel, rfl, by decide +kernel, by decide +kernel⟩
abbrev s_is_tuple_of : Stmt := top 15
theorem sc_is_tuple_of : FnScope ["thing", "many"] ["thing", "many"] (defScope s_is_tuple_of) := ⟨rfl, rfl, rfl, by decide +kernel, rfl, by decide +kernel, by decide +kernel⟩
abbrev s_is_rising : Stmt := top 16
theorem sc_is_rising : FnScope ["things", "one", "other"] ["things"] (defScope s_is_rising) := ⟨rfl, rfl, rfl, by decide +kernel, rfl, by decide +kernel, by decide +kernel⟩
abbrev s_is_ask : Stmt := top 17
theorem sc_is_ask : FnScope ["thing"] ["thing"] (defScope s_is_ask) := ⟨rfl, rfl, rfl, by decide +kernel, rfl, by decide +kernel, by decide +kernel⟩
abbrev s_is_asks : Stmt := top 18
theorem sc_is_asks : FnScope ["thing", "ask", "word", "_"] ["thing"] (defScope s_is_asks) := ⟨rfl, rfl, rfl, by decide +kernel, rfl, by decide +kernel, by decide +kernel⟩
abbrev s_is_kind : Stmt := top 19
theorem sc_is_kind : FnScope ["thing", "name", "asks", "takes", "beats", "gives", "back"] ["thing"] (defScope s_is_kind) := ⟨rfl, rfl, rfl, by decide +kernel, rfl, by decide +kernel, by decide +kernel⟩
abbrev s_is_copying : Stmt := top 20
theorem sc_is_copying : FnScope ["thing", "asks", "takes", "beats"] ["thing"] (defScope s_is_copying) := ⟨rfl, rfl, rfl, by decide +kernel, rfl, by decide +kernel, by decide +kernel⟩
abbrev s_is_agreeing : Stmt := top 21
theorem sc_is_agreeing : FnScope ["thing", "many", "takes", "beats"] ["thing"] (defScope s_is_agreeing) := ⟨rfl, rfl, rfl, by decide +kernel, rfl, by decide +kernel, by decide +kernel⟩
abbrev s_is_bounds : Stmt := top 22
theorem sc_is_bounds : FnScope ["thing", "least", "uses", "sheets", "bright", "store"] ["thing", "least"] (defScope s_is_bounds) := ⟨rfl, rfl, rfl, by decide +kernel, rfl, by decide +kernel, by decide +kernel⟩
abbrev s_is_spring : Stmt := top 23
theorem sc_is_spring : FnScope ["thing"] ["thing"] (defScope s_is_spring) := ⟨rfl, rfl, rfl, by decide +kernel, rfl, by decide +kernel, by decide +kernel⟩
abbrev s_is_foe : Stmt := top 24
theorem sc_is_foe : FnScope ["thing"] ["thing"] (defScope s_is_foe) := ⟨rfl, rfl, rfl, by decide +kernel, rfl, by decide +kernel, by decide +kernel⟩
abbrev s_is_kinds : Stmt := top 25
theorem sc_is_kinds : FnScope ["thing", "kind"] ["thing"] (defScope s_is_kinds) := ⟨rfl, rfl, rfl, by decide +kernel, rfl, by decide +kernel, by decide +kernel⟩
abbrev s_is_works : Stmt := top 26
theorem sc_is_works : FnScope ["thing", "kinds", "copying", "agreeing", "bounds", "spring", "foe", "benches"] ["thing"] (defScope s_is_works) := ⟨rfl, rfl, rfl, by decide +kernel, rfl, by decide +kernel, by decide +kernel⟩
abbrev s_lacking_ask : Stmt := top 28
theorem sc_lacking_ask : FnScope ["works", "asks", "j", "name", "_"] ["works", "asks"] (defScope s_lacking_ask) := ⟨rfl, rfl, rfl, by decide +kernel, rfl, by decide +kernel, by decide +kernel⟩
abbrev s_lets_works : Stmt := top 29
theorem sc_lets_works : FnScope ["thing", "kinds", "copying", "k", "kind", "j"] ["thing"] (defScope s_lets_works) := ⟨rfl, rfl, rfl, by decide +kernel, rfl, by decide +kernel, by decide +kernel⟩
abbrev s_is_whole : Stmt := top 30
theorem sc_is_whole : FnScope ["thing"] ["thing"] (defScope s_is_whole) := ⟨rfl, rfl, rfl, by decide +kernel, rfl, by decide +kernel, by decide +kernel⟩
abbrev s__law_feed : Stmt := top 32
theorem sc__law_feed : FnScope ["_law_script"] ["_law_script"] (defScope s__law_feed) := ⟨rfl, rfl, rfl, by decide +kernel, rfl, by decide +kernel, by decide +kernel⟩
abbrev s__law_draw : Stmt := top 33
theorem sc__law_draw : FnScope ["_law_feed_here", "_law_many", "_law_figure", "_law_at", "_law_cell", "_law_mixed"] ["_law_feed_here", "_law_many"] (defScope s__law_draw) := ⟨rfl, rfl, rfl, by decide +kernel, rfl, by decide +kernel, by decide +kernel⟩
abbrev s__law_called : Stmt := top 34
theorem sc__law_called : FnScope ["_law_feed_here", "_law_many", "_law_pool", "_law_some", "_law_k"] ["_law_feed_here", "_law_many"] (defScope s__law_called) := ⟨rfl, rfl, rfl, by decide +kernel, rfl, by decide +kernel, by decide +kernel⟩
abbrev s__law_asks : Stmt := top 35
theorem sc__law_asks : FnScope ["_law_feed_here", "_law_words", "_law_found", "_law_word"] ["_law_feed_here", "_law_words"] (defScope s__law_asks) := ⟨rfl, rfl, rfl, by decide +kernel, rfl, by decide +kernel, by decide +kernel⟩
abbrev s__law_made_kind : Stmt := top 36
theorem sc__law_made_kind : FnScope ["_law_feed_here", "_law_word", "_law_words", "_law_cost", "_law_slow", "_law_many"] ["_law_feed_here", "_law_word", "_law_words"] (defScope s__law_made_kind) := ⟨rfl, rfl, rfl, by decide +kernel, rfl, by decide +kernel, by decide +kernel⟩
abbrev s__law_plant : Stmt := top 37
theorem sc__law_plant : FnScope ["_law_feed_here", "_law_words", "_law_strange", "_law_pool", "_law_kinds", "_law_many", "_law_copying", "_law_agreeing", "_law_sheets", "_law_limits", "_law_flow", "_law_foe", "_law_word"] ["_law_feed_here", "_law_words", "_law_strange"] (defScope s__law_plant) := ⟨rfl, rfl, rfl, by decide +kernel, rfl, by decide +kernel, by decide +kernel⟩
abbrev s__law_pen : Stmt := top 38
theorem sc__law_pen : FnScope ["_law_kinds"] [] (defScope s__law_pen) := ⟨rfl, rfl, rfl, by decide +kernel, rfl, by decide +kernel, by decide +kernel⟩
abbrev s__law_by_hand_plants : Stmt := top 39
theorem sc__law_by_hand_plants : FnScope ["_law_pen_here", "_law_ring", "_law_row", "_law_both", "_law_found"] [] (defScope s__law_by_hand_plants) := ⟨rfl, rfl, rfl, by decide +kernel, rfl, by decide +kernel, by decide +kernel⟩
abbrev s__law_hangs_right : Stmt := top 40
theorem sc__law_hangs_right : FnScope ["_law_plant_here", "_law_one", "_law_on", "_law_straight", "_law_every", "_law_other", "_law_third"] ["_law_plant_here", "_law_one"] (defScope s__law_hangs_right) := ⟨rfl, rfl, rfl, by decide +kernel, rfl, by decide +kernel, by decide +kernel⟩
abbrev s__law_rings_right : Stmt := top 41
theorem sc__law_rings_right : FnScope ["_law_plant_here", "_law_rings", "_law_goods", "_law_one", "_law_own", "_law_ring", "_law_on", "_law_there", "_law_k", "_law_mutual", "_law_other"] ["_law_plant_here"] (defScope s__law_rings_right) := ⟨rfl, rfl, rfl, by decide +kernel, rfl, by decide +kernel, by decide +kernel⟩
abbrev s__law_otherwise : Stmt := top 42
theorem sc__law_otherwise : FnScope ["_law_feed_here", "_law_plant_here", "_law_kinds", "_law_kind", "_law_asks_here", "_law_copying", "_law_pair"] ["_law_feed_here", "_law_plant_here"] (defScope s__law_otherwise) := ⟨rfl, rfl, rfl, by decide +kernel, rfl, by decide +kernel, by decide +kernel⟩
abbrev s_law : Stmt := top 43
theorem sc_law : FnScope ["_law_script", "_law_feed_here", "_law_plants", "_law_k", "_law_plant_here", "_law_other", "_law_one"] ["_law_script"] (defScope s_law) := ⟨rfl, rfl, rfl, by decide +kernel, rfl, by decide +kernel, by decide +kernel⟩
structure Txt (mg : Str → Option Value) : Prop where
  b_all : mg "all" = none
  b_bool : mg "bool" = none
  b_enumerate : mg "enumerate" = none
  b_int : mg "int" = none
  b_isinstance : mg "isinstance" = none
  b_len : mg "len" = none
  b_list : mg "list" = none
  b_range : mg "range" = none
  b_set : mg "set" = none
  b_sorted : mg "sorted" = none
  b_str : mg "str" = none
  b_tuple : mg "tuple" = none
  b_zip : mg "zip" = none

theorem eqv_nil {xs : List D} : PyData.eqv (.list xs) (.list []) = xs.isEmpty := by cases xs <;> simp [PyData.eqv, PyData.eqvAll]
theorem eqv_nilT {xs : List D} : PyData.eqv (.tuple xs) (.tuple []) = xs.isEmpty := by cases xs <;> simp [PyData.eqv, PyData.eqvAll]
theorem shaped_list {xs : List D} (h : ∀ x ∈ xs, Fine x) : SeqAt.shaped (.list xs) = true := by
  have h1 : PyData.canLayAll0 xs = true := okDs_lay (okDs_iff.mpr fun x hx => (h x hx).ok)
  have h2 : PyData.depthAll xs ≤ 40 := by
    clear h1
    induction xs with
    | nil => exact Nat.zero_le _
    | cons x xs ih =>
      simp only [PyData.depthAll]
      exact Nat.max_le.mpr ⟨(h x List.mem_cons_self).dep, ih fun y hy => h y (List.mem_cons_of_mem _ hy)⟩
  show ((PyData.list xs).canLay0 && decide ((PyData.list xs).depth ≤ 64)) = true
  simp only [PyData.canLay0, PyData.depth, h1, Bool.true_and]
  exact decide_eq_true (by omega)
theorem shaped_nil : SeqAt.shaped (.list []) = true := by decide +kernel
theorem shaped_nilT : SeqAt.shaped (.tuple []) = true := by decide +kernel
theorem fine_int {i : Int} (h : i.natAbs ≤ 250000) : Fine (.int i) := by
  refine ⟨?_, ?_, ?_⟩
  · simp only [okD]
    exact decide_eq_true (Nat.le_trans h (by decide +kernel))
  · simp only [PyData.weight]
    split
    · exact Nat.zero_le _
    · have : i.natAbs.log2 ≤ i.natAbs := Nat.log2_le_self _
      have h3 : i.natAbs.log2 < 18 := by
        by_cases z : i.natAbs = 0
        · rw [z]
          decide
        · rw [Nat.log2_lt z]
          omega
      omega
  · simp only [PyData.depth]
    decide
theorem cut_to {ds : List D} {i : Nat} (h : i ≤ ds.length) : cutD ds none (some (i : Int)) = ds.take i := by
  have e : HT.sIx ds.length ds.length (some (i : Int)) = i := by
    have z : ¬ (i : Int) < 0 := by omega
    simp [HT.sIx, z, h]
  unfold cutD
  rw [e]
  simp [HT.sIx]
theorem cut_from {ds : List D} {i : Nat} (h : i ≤ ds.length) : cutD ds (some (i : Int)) none = ds.drop i := by
  have e : HT.sIx ds.length 0 (some (i : Int)) = i := by
    have z : ¬ (i : Int) < 0 := by omega
    simp [HT.sIx, z, h]
  unfold cutD
  rw [e]
  exact List.take_of_length_le (by simp [HT.sIx])
theorem bd_small {k n : Nat} {i : Int} (hk : 3 ≤ k) (h0 : 0 ≤ i) (h1 : i < 4) : Bd k 2 n (.int i) := by
  have : i = 0 ∨ i = 1 ∨ i = 2 ∨ i = 3 := by omega
  rcases this with rfl | rfl | rfl | rfl
  all_goals exact ⟨by simp only [okD]; exact decide_eq_true (by omega), by decide, by simp [PyData.depth]⟩
theorem bt2 {k w n : Nat} {x y : D} {a b : Nat} (hx : Bd k a n x) (hy : Bd k b n y) (h : a + b + 2 ≤ w) : Bd k w (n + 1) (.tuple [x, y]) :=
  bd_tup.mpr ((bds_cons hx (bds_one hy)).mono (Nat.le_refl _) (by omega) (Nat.le_refl _))
theorem bt3 {k w n : Nat} {x y z : D} {a b c : Nat} (hx : Bd k a n x) (hy : Bd k b n y) (hz : Bd k c n z) (h : a + b + c + 3 ≤ w) : Bd k w (n + 1) (.tuple [x, y, z]) :=
  bd_tup.mpr ((bds_cons hx (bds_cons hy (bds_one hz))).mono (Nat.le_refl _) (by omega) (Nat.le_refl _))
theorem bd_lit {k n : Nat} (x : Str) (h : (x.cps.toList.all fun c => decide (c < 128)) = true := by decide +kernel) : Bd k x.length n (.str x) := bd_str.mpr (bt_lit x h)
theorem bd_i {k n : Nat} {i : Int} (hk : 15 ≤ k) (h0 : 0 ≤ i) (h1 : i < 16) : Bd k 4 n (.int i) := by
  obtain ⟨j, rfl⟩ := Int.eq_ofNat_of_zero_le h0
  have hj : j < 16 := by omega
  refine ⟨by simp only [okD]; exact decide_eq_true (by omega), ?_, by simp [PyData.depth]⟩
  have all : ∀ j : Fin 16, (PyData.int ((j.val : Nat) : Int)).weight ≤ 4 := by decide +kernel
  exact all ⟨j, hj⟩
abbrev big1 : Nat := 10 ^ 50
theorem w15 : 15 ≤ big1 := by decide
end K09

namespace K09
open PySem L2 RZ DL
/-! the walk by data -/
local macro_rules | `(tactic| walk_at "dl") => `(tactic| first
  | with_reducible first
    | refine sx_seq ?_ | refine sx_if ?_ | refine sx_ret ?_ | refine sx_next ?_ | refine sx_asg ?_
    | refine et_not ?_ | refine et_B ?_ | refine et_test ?_ | refine et_and ?_ | refine et_or ?_ | refine et_yes ?_
    | refine ev_and ?_ | refine ev_or ?_ | refine ev_not ?_ | refine ev_if ?_ | refine ev_chain ?_
    | refine ev_int ?_ | refine ev_bl ?_ | refine ev_str ?_ | refine ev_non ?_ | refine ev_c ?_
    | refine ev_op ?_ | refine ev_un ?_ | refine ev_cb ?_ | refine ev_fn1 ?_ | refine ev_fn2 ?_ | refine ev_sl ?_ | refine eo_none ?_ | refine eo_some ?_ | refine ev_tup ?_
    | refine ea_cons ?_ | refine ea_nil ?_
    | refine ops_ge ?_ | refine ops_le ?_ | refine ops_gt ?_ | refine ops_lt ?_ | refine ops_leS ?_ | refine ops_ltS ?_ | refine ops_add_int ?_ | refine ops_sub ?_ | refine ops_isN ?_ | refine ops_isNot ?_ | refine ops_eq_int ?_ | refine ops_eqS ?_ | refine ops_neS ?_
    | refine cas_len_tup ?_ | refine cas_isi_int ?_ | refine cas_isi_bool ?_ | refine cas_isi_str ?_ | refine cas_isi_tup ?_ | refine cas_isi_lst ?_
    | refine iteT ?_ | refine iteF ?_ | refine and_nols ?_
  | ((with_reducible refine ev_varx ?_); refine ⟨_, rfl, ?_⟩)
  | ((with_reducible refine ops_ix_tupx ?_); first | refine ⟨_, rfl, ?_⟩ | refine ⟨_, atI_nat (j := 0) rfl, ?_⟩ | refine ⟨_, atI_nat (j := 1) rfl, ?_⟩ | refine ⟨_, atI_nat (j := 2) rfl, ?_⟩)
  | ((with_reducible refine sz_and ?_ ?_); exact rfl)
  | ((with_reducible refine ev_ownx ?_); refine ⟨_, rfl, ?_⟩)
  | ((with_reducible refine ev_refx ?_); refine ⟨_, rfl, ?_⟩)
  | ((with_reducible refine ifT ?_ ?_); exact rfl) | ((with_reducible refine ifF ?_ ?_); exact rfl))
local macro_rules | `(tactic| walk_at "go") => `(tactic| repeat (first | walk_at "dl" | with_reducible refine ⟨_, rfl, ?_⟩ | with_reducible refine ⟨_, _, rfl, ?_⟩))
/-! ### drawing -/
def nm : Nm := ⟨"cells", "at", "left", "count", by decide +kernel, by decide +kernel, by decide +kernel, by decide +kernel, by decide +kernel, by decide +kernel⟩
def preDraw (ds : List D) : Prop := ∃ m : Int, ds = [.int m] ∧ 1 ≤ m ∧ m < 2 ^ 30
def postDraw (ds : List D) (d : D) : Prop := ∀ m : Int, ds = [.int m] → ∃ r : Int, d = .int r ∧ 0 ≤ r ∧ r < m
section
variable {Pg : Program} {w : World} {K : PySem.W.Frag} {mg : Str → Option Value} {base : Heap} {f : Addr} {fd : FuncData}
theorem fmod_in {i m : Int} (h : 1 ≤ m) : 0 ≤ i.fmod m ∧ i.fmod m < m := by
  rw [Int.fmod_eq_emod_of_nonneg i (by omega)]
  exact ⟨Int.emod_nonneg _ (by omega), Int.emod_lt_of_pos _ (by omega)⟩
theorem fdiv_nn {i m : Int} (h : 1 ≤ m) (hi : 0 ≤ i) : 0 ≤ i.fdiv m := by
  rw [Int.fdiv_eq_ediv_of_nonneg i (by omega)]
  exact Int.ediv_nonneg hi (by omega)
theorem ok_draw (F : Fun K "_law_draw" "_law_draw" s__law_draw f fd) (T : Txt mg) : FnG Pg w K mg base 1 f fd ["_law_feed_here", "_law_many"] (PmF nm K 1 preDraw postDraw) := by
  have nd := sc__law_draw.nd
  refine fnG_of F sc__law_draw pm_len (fun cdv A ou s H vs Q hgd hr h => ?_)
  have hu := hr.units
  have hu1 : (A.deeper (PyProof.Rows.envOfC "_law_draw" (defScope s__law_draw) s.heap.objs.size f cdv)).units + 1 < cLine := by omega
  refine ⟨_, (pss_cons (ps_dput hu1 (pv 0) pe_str (pe_op (r := rAdd4 K) opAdd (pe_dget hu1 (pv 0) pe_str (fun _ _ => rfl)) pe_int) rfl) (pss_cons (ps_if (pt_cmpR opGt (pe_dget hu1 (pv 0) pe_str (fun _ _ => rfl)) pe_int (nomark _)) (pss_cons (ps_set (i := 2) nd rfl (Or.inl rfl) (pe_op op_modN (pe_dget hu1 (pv 0) pe_str (fun _ _ => rfl)) (pv 1)) (hf := Or.inl rfl)) (pss_cons (ps_dput hu1 (pv 0) pe_str (pe_op op_fdivN (pe_dget hu1 (pv 0) pe_str (fun _ _ => rfl)) (pv 1)) rfl) (pss_one (ps_ret (pv 2))))) pss_nil) (pss_cons (ps_set (i := 3) nd rfl (Or.inl rfl) (pe_dget hu1 (pv 0) pe_str (fun _ _ => rfl)) (hf := Or.inl rfl)) (pss_cons (ps_dput hu1 (pv 0) pe_str (pe_op (r := rAdd4 K) opAdd (pv 3) pe_int) rfl) (pss_cons (ps_set (i := 4) nd rfl (Or.inl rfl) (pe_ifExp (pt_cmpR (r := rNe2 K) (opNe hu) (pe_dget hu1 (pv 0) pe_str (fun _ _ => rfl)) (pe_lst pa_nil) (nomark _)) (pe_ix (r := rIx K) ix_seq (pe_dget hu1 (pv 0) pe_str (fun _ _ => rfl)) (pe_op op_modN (pv 3) (pe_callB (r := rLenA K) call_len (by rfl) T.b_len (by decide +kernel) (pa_cons (pe_dget hu1 (pv 0) pe_str (fun _ _ => rfl)) pa_nil))) (fun _ _ => rfl)) pe_int) (hf := Or.inl rfl)) (pss_cons (ps_if (PW.pt (pw_and (pt_cmpR opGe (pv 4) (pe_op op_pow pe_int pe_int) (nomark _)) (pw_and1 (pt_cmpR opLt (pv 3) (pe_callB (r := rLenA K) call_len (by rfl) T.b_len (by decide +kernel) (pa_cons (pe_dget hu1 (pv 0) pe_str (fun _ _ => rfl)) pa_nil)) (nomark _))))) (pss_cons (ps_dput hu1 (pv 0) pe_str (pe_op op_fdivN (pv 4) (pv 1)) rfl) (pss_one (ps_ret (pe_op op_modN (pv 4) (pv 1))))) pss_nil) (pss_cons (ps_set (i := 5) nd rfl (Or.inl rfl) (pe_op op_modN (pe_op (r := rAdd4 K) opAdd (pe_op (r := rAdd4 K) opAdd (pe_op op_modN (pv 4) pe_int) (pe_op (r := rMul2 K) opMul pe_int (pe_dget hu1 (pv 0) pe_str (fun _ _ => rfl)))) pe_int) pe_int) (hf := Or.inl rfl)) (pss_cons (ps_set (i := 5) nd rfl (Or.inl rfl) (pe_op op_modN (pe_op (r := rAdd4 K) opAdd (pe_op (r := rAdd4 K) opAdd (pe_op (r := rMul2 K) opMul (pv 5) (pv 5)) (pe_op (r := rMul2 K) opMul pe_int (pe_dget hu1 (pv 0) pe_str (fun _ _ => rfl)))) pe_int) pe_int) (hf := Or.inl rfl)) (pss_one (ps_ret (pe_op op_modN (pe_op op_fdivN (pe_op op_modN (pe_op (r := rAdd4 K) opAdd (pe_op (r := rMul2 K) opMul (pv 5) (pv 5)) (pe_op (r := rMul2 K) opMul pe_int (pv 5))) pe_int) pe_int) (pv 1)))))))))))), bodyF (by decide) h fun a l cs F0 ds hl ⟨m, hm, hm1, hm2⟩ => ?_⟩
  subst hm
  change Sx K (feedW nm a l cs) H F0 _ [.rf (.ref a), .dat (.int m), .un, .un, .un, .un] _
  have hm0 : m ≠ 0 := by omega
  have hdv : CDivN 0 m := ⟨hm0, by omega⟩
  walk_at "go"
  refine sx_fput (m := nm) rfl (.inr (.inr rfl)) ?_
  walk_at "go"
  refine ev_fgetI (m := nm) rfl (.inr (.inr rfl)) fun c0 hc0 => ?_
  walk_at "go"
  refine ⟨by omega, ?_⟩
  walk_at "go"
  refine ev_fgetI (m := nm) rfl (.inr (.inl rfl)) fun l0 hl0 => ?_
  walk_at "go"
  refine if2 (fun h1 => ?_) (fun h1 => ?_)
  · walk_at "go"
    refine ev_fgetI (m := nm) rfl (.inr (.inl rfl)) fun l1 hl1 => ?_
    walk_at "go"
    refine ops_mod hm0 ?_
    walk_at "go"
    refine sx_fput (m := nm) rfl (.inr (.inl rfl)) ?_
    walk_at "go"
    refine ev_fgetI (m := nm) rfl (.inr (.inl rfl)) fun l2 hl2 => ?_
    walk_at "go"
    refine ops_fdiv hdv ?_
    walk_at "go"
    refine ⟨fdiv_nn hm1 hl2, ?_⟩
    walk_at "go"
    exact fun m' e => by cases e; exact ⟨_, rfl, fmod_in hm1⟩
  walk_at "go"
  refine ev_fgetI (m := nm) rfl (.inl rfl) fun t0 ht0 => ?_
  walk_at "go"
  refine sx_fput (m := nm) rfl (.inl rfl) ?_
  walk_at "go"
  refine ⟨by omega, ?_⟩
  -- the cell, whatever it is; then the rest
  refine sx_seq (sx_asg (Ev.mono (P := fun s => ∃ v : Int, s = .dat (.int v)) ?_ ?_))
  · walk_at "go"
    refine ev_fgetC (m := nm) rfl ?_
    refine ev_frz (evn_lst ?_)
    walk_at "go"
    refine ops_fne ?_
    refine ⟨_, rfl, if2 (fun h2 => ?_) (fun h2 => ?_)⟩
    · walk_at "go"
      refine ev_fgetC (m := nm) rfl ?_
      walk_at "go"
      refine ev_fgetC (m := nm) rfl ?_
      walk_at "go"
      refine cas_flen ?_
      have hl1 : 1 ≤ (cs.length : Int) := by
        cases cs with
        | nil => cases h2
        | cons c r =>
          rw [List.length_cons]
          omega
      refine ops_mod (by omega) ?_
      have q := fmod_in (i := t0) hl1
      exact ops_fix q.1 q.2 fun v => ⟨v, rfl⟩
    · walk_at "go"
      exact ⟨_, rfl⟩
  rintro s ⟨v, rfl⟩
  refine ⟨trivial, ?_⟩
  walk_at "go"
  refine ops_pow ⟨by decide, by decide, by decide⟩ ?_
  walk_at "go"
  refine if2 (fun h2 => ?_) (fun h2 => ?_)
  · walk_at "go"
    refine ev_fgetC (m := nm) rfl ?_
    walk_at "go"
    refine cas_flen ?_
    walk_at "go"
    refine if2 (fun h3 => ?_) (fun h3 => ?_)
    · walk_at "go"
      refine sx_fput (m := nm) rfl (.inr (.inl rfl)) ?_
      walk_at "go"
      refine ops_fdiv hdv ?_
      walk_at "go"
      have hv : (10 : Int) ^ (18 : Int).toNat ≤ v := of_decide_eq_true h2
      have hv2 : 0 ≤ v := Int.le_trans (by decide) hv
      refine ⟨fdiv_nn hm1 hv2, ?_⟩
      walk_at "go"
      refine ops_mod hm0 ?_
      walk_at "go"
      exact fun m' e => by cases e; exact ⟨_, rfl, fmod_in hm1⟩
    · walk_at "go"
      refine ops_mod (by decide) ?_
      walk_at "go"
      refine ev_fgetI (m := nm) rfl (.inr (.inr rfl)) fun ck hck => ?_
      walk_at "go"
      refine ops_mul (.inl ⟨by decide, by decide⟩) ?_
      walk_at "go"
      refine ops_mod (by decide) ?_
      have b1 := fmod_in (i := (v.fmod 1000000321 + 100043 * ck + 61)) (m := 2147483579) (by decide)
      generalize (v.fmod 1000000321 + 100043 * ck + 61).fmod 2147483579 = z1 at b1 ⊢
      walk_at "go"
      refine ops_mul (.inl ⟨by omega, by omega⟩) ?_
      walk_at "go"
      refine ev_fgetI (m := nm) rfl (.inr (.inr rfl)) fun cl hcl => ?_
      walk_at "go"
      refine ops_mul (.inl ⟨by decide, by decide⟩) ?_
      walk_at "go"
      refine ops_mod (by decide) ?_
      have b2 := fmod_in (i := (z1 * z1 + 2750159 * cl + 73)) (m := 2147483549) (by decide)
      generalize (z1 * z1 + 2750159 * cl + 73).fmod 2147483549 = z2 at b2 ⊢
      walk_at "go"
      refine ops_mul (.inl ⟨by omega, by omega⟩) ?_
      walk_at "go"
      refine ops_mul (.inl ⟨by decide, by decide⟩) ?_
      walk_at "go"
      refine ops_mod (by decide) ?_
      walk_at "go"
      refine ops_fdiv ⟨by decide, by decide⟩ ?_
      walk_at "go"
      refine ops_mod hm0 ?_
      walk_at "go"
      exact fun m' e => by cases e; exact ⟨_, rfl, fmod_in hm1⟩
  · walk_at "go"
    refine ops_mod (by decide) ?_
    walk_at "go"
    refine ev_fgetI (m := nm) rfl (.inr (.inr rfl)) fun ck hck => ?_
    walk_at "go"
    refine ops_mul (.inl ⟨by decide, by decide⟩) ?_
    walk_at "go"
    refine ops_mod (by decide) ?_
    have b1 := fmod_in (i := (v.fmod 1000000321 + 100043 * ck + 61)) (m := 2147483579) (by decide)
    generalize (v.fmod 1000000321 + 100043 * ck + 61).fmod 2147483579 = z1 at b1 ⊢
    walk_at "go"
    refine ops_mul (.inl ⟨by omega, by omega⟩) ?_
    walk_at "go"
    refine ev_fgetI (m := nm) rfl (.inr (.inr rfl)) fun cl hcl => ?_
    walk_at "go"
    refine ops_mul (.inl ⟨by decide, by decide⟩) ?_
    walk_at "go"
    refine ops_mod (by decide) ?_
    have b2 := fmod_in (i := (z1 * z1 + 2750159 * cl + 73)) (m := 2147483549) (by decide)
    generalize (z1 * z1 + 2750159 * cl + 73).fmod 2147483549 = z2 at b2 ⊢
    walk_at "go"
    refine ops_mul (.inl ⟨by omega, by omega⟩) ?_
    walk_at "go"
    refine ops_mul (.inl ⟨by decide, by decide⟩) ?_
    walk_at "go"
    refine ops_mod (by decide) ?_
    walk_at "go"
    refine ops_fdiv ⟨by decide, by decide⟩ ?_
    walk_at "go"
    refine ops_mod hm0 ?_
    walk_at "go"
    exact fun m' e => by cases e; exact ⟨_, rfl, fmod_in hm1⟩
end
end K09

namespace K09
open PySem L2 RZ DL
/-! the walk by data -/
local macro_rules | `(tactic| walk_at "dl") => `(tactic| first
  | with_reducible first
    | refine sx_seq ?_ | refine sx_if ?_ | refine sx_ret ?_ | refine sx_next ?_ | refine sx_asg ?_
    | refine et_not ?_ | refine et_B ?_ | refine et_test ?_ | refine et_and ?_ | refine et_or ?_ | refine et_yes ?_
    | refine ev_and ?_ | refine ev_or ?_ | refine ev_not ?_ | refine ev_if ?_ | refine ev_chain ?_
    | refine ev_int ?_ | refine ev_bl ?_ | refine ev_str ?_ | refine ev_non ?_ | refine ev_c ?_
    | refine ev_op ?_ | refine ev_un ?_ | refine ev_cb ?_ | refine ev_fn1 ?_ | refine ev_fn2 ?_ | refine ev_sl ?_ | refine eo_none ?_ | refine eo_some ?_ | refine ev_tup ?_
    | refine ea_cons ?_ | refine ea_nil ?_
    | refine ops_ge ?_ | refine ops_le ?_ | refine ops_gt ?_ | refine ops_lt ?_ | refine ops_leS ?_ | refine ops_ltS ?_ | refine ops_add_int ?_ | refine ops_sub ?_ | refine ops_isN ?_ | refine ops_isNot ?_ | refine ops_eq_int ?_ | refine ops_eqS ?_ | refine ops_neS ?_
    | refine cas_len_tup ?_ | refine cas_isi_int ?_ | refine cas_isi_bool ?_ | refine cas_isi_str ?_ | refine cas_isi_tup ?_ | refine cas_isi_lst ?_
    | refine iteT ?_ | refine iteF ?_ | refine and_nols ?_
  | ((with_reducible refine ev_varx ?_); refine ⟨_, rfl, ?_⟩)
  | ((with_reducible refine ops_ix_tupx ?_); first | refine ⟨_, rfl, ?_⟩ | refine ⟨_, atI_nat (j := 0) rfl, ?_⟩ | refine ⟨_, atI_nat (j := 1) rfl, ?_⟩ | refine ⟨_, atI_nat (j := 2) rfl, ?_⟩)
  | ((with_reducible refine sz_and ?_ ?_); exact rfl)
  | ((with_reducible refine ev_ownx ?_); refine ⟨_, rfl, ?_⟩)
  | ((with_reducible refine ev_refx ?_); refine ⟨_, rfl, ?_⟩)
  | ((with_reducible refine ifT ?_ ?_); exact rfl) | ((with_reducible refine ifF ?_ ?_); exact rfl))
local macro_rules | `(tactic| walk_at "go") => `(tactic| repeat (first | walk_at "dl" | with_reducible refine ⟨_, rfl, ?_⟩ | with_reducible refine ⟨_, _, rfl, ?_⟩))
abbrev LDraw (Pg : Program) (w : World) (K : PySem.W.Frag) (mg : Str → Option Value) (base : Heap) := Fn Pg w K mg base "_law_draw" 1 ["_law_feed_here", "_law_many"] (PmF nm K 1 preDraw postDraw)
/-- drawing a number below m -/
theorem ev_draw {K : PySem.W.Frag} {H0 : Hp} {ρ : Rho} {P : Sl → Prop} {a l : Addr} {cs : List Int} {t : TA} (h : EvA K (feedW nm a l cs) H0 t ρ fun ss => ∃ m : Int, ss = [.rf (.ref a), .dat (.int m)] ∧ (1 ≤ m ∧ m < 2 ^ 30) ∧ ∀ r : Int, 0 ≤ r → r < m → P (.dat (.int r))) :
    Ev K (feedW nm a l cs) H0 (tFn (PmF nm K 1 preDraw postDraw) t) ρ P := ev_fnF fun σ F H o ho Q q => h σ F H o ho Q fun vs F' H' ss o' st hv ⟨m, e, hm, k⟩ => q vs F' H' ss o' st hv ⟨[.int m], e, rfl, ⟨m, rfl, hm⟩, fun d hd => by
    obtain ⟨r, e, h1, h2⟩ := hd m rfl
    rw [e]
    exact k r h1 h2⟩
end K09

namespace K09
open PySem L2 RZ DL
/-! the walk by data -/
local macro_rules | `(tactic| walk_at "dl") => `(tactic| first
  | with_reducible first
    | refine sx_seq ?_ | refine sx_if ?_ | refine sx_ret ?_ | refine sx_next ?_ | refine sx_asg ?_
    | refine et_not ?_ | refine et_B ?_ | refine et_test ?_ | refine et_and ?_ | refine et_or ?_ | refine et_yes ?_
    | refine ev_and ?_ | refine ev_or ?_ | refine ev_not ?_ | refine ev_if ?_ | refine ev_chain ?_
    | refine ev_int ?_ | refine ev_bl ?_ | refine ev_str ?_ | refine ev_non ?_ | refine ev_c ?_
    | refine ev_op ?_ | refine ev_un ?_ | refine ev_cb ?_ | refine ev_fn1 ?_ | refine ev_fn2 ?_ | refine ev_sl ?_ | refine eo_none ?_ | refine eo_some ?_ | refine ev_tup ?_
    | refine ea_cons ?_ | refine ea_nil ?_
    | refine ops_ge ?_ | refine ops_le ?_ | refine ops_gt ?_ | refine ops_lt ?_ | refine ops_leS ?_ | refine ops_ltS ?_ | refine ops_add_int ?_ | refine ops_sub ?_ | refine ops_isN ?_ | refine ops_isNot ?_ | refine ops_eq_int ?_ | refine ops_eqS ?_ | refine ops_neS ?_
    | refine cas_len_tup ?_ | refine cas_isi_int ?_ | refine cas_isi_bool ?_ | refine cas_isi_str ?_ | refine cas_isi_tup ?_ | refine cas_isi_lst ?_
    | refine iteT ?_ | refine iteF ?_ | refine and_nols ?_
  | ((with_reducible refine ev_varx ?_); refine ⟨_, rfl, ?_⟩)
  | ((with_reducible refine ops_ix_tupx ?_); first | refine ⟨_, rfl, ?_⟩ | refine ⟨_, atI_nat (j := 0) rfl, ?_⟩ | refine ⟨_, atI_nat (j := 1) rfl, ?_⟩ | refine ⟨_, atI_nat (j := 2) rfl, ?_⟩)
  | ((with_reducible refine sz_and ?_ ?_); exact rfl)
  | ((with_reducible refine ev_ownx ?_); refine ⟨_, rfl, ?_⟩)
  | ((with_reducible refine ev_refx ?_); refine ⟨_, rfl, ?_⟩)
  | ((with_reducible refine ifT ?_ ?_); exact rfl) | ((with_reducible refine ifF ?_ ?_); exact rfl))
local macro_rules | `(tactic| walk_at "go") => `(tactic| repeat (first | walk_at "dl" | with_reducible refine ⟨_, rfl, ?_⟩ | with_reducible refine ⟨_, _, rfl, ?_⟩))
/-! ### the source itself -/
def spFeed (K : PySem.W.Frag) : Sp := fun vs H Q _ => ∃ p ns, vs = [.ref p] ∧ SqL K H p (List.map V.int ns) ∧ ∀ (a l : Addr) (H' : Hp) (cs : List Int), (∀ b u, H b = some u → H' b = some u) → H a = none → H l = none → a ≠ l →
  H' a = some (.dK (fdict nm l 0 0 0)) → H' l = some (.lst (cs.map V.int)) → Q (.ref a) H'
section
variable {Pg : Program} {w : World} {K : PySem.W.Frag} {mg : Str → Option Value} {base : Heap} {f : Addr} {fd : FuncData}
theorem ok_feed (F : Fun K "_law_feed" "_law_feed" s__law_feed f fd) (T : Txt mg) : FnG Pg w K mg base 1 f fd ["_law_script"] (spFeed K) := by
  have nd := sc__law_feed.nd
  refine fnG_of F sc__law_feed (fun vs H Q E h => ?_) (fun cdv A ou s H vs Q hgd hr h => ?_)
  · obtain ⟨p, ns, rfl, _⟩ := h
    rfl
  obtain ⟨p, ns, rfl, hS, k⟩ := h
  refine ⟨_, (pss_one (ps_ret (pe_disp (pps_cons pe_str (pe_callTy (r := rListOf K) call_list_of (by rfl) T.b_list (by decide +kernel) (pa_cons (pe_slice (r := rSl3 K) slAny (pv 0) po_none (po_some pe_int)) pa_nil)) (pps_cons pe_str pe_int (pps_cons pe_str pe_int (pps_cons pe_str pe_int pps_nil)))) (by rfl) (by rfl) (fun z => by cases z) (by decide)))), ?_⟩
  intro a ha
  have s0 : Same H (upd H a (.dK [])) := sm_new ha
  refine ⟨.ref p, rfl, 63, rfl, ?_⟩
  refine .inl (.inl ⟨p, _, rfl, sql_mono s0 hS, fun t ht => ?_⟩)
  refine ⟨t, _, rfl, .inl (SqL.of upd_same), fun l hl => ?_⟩
  have na : t ≠ a := fun z => by rw [z, upd_same] at ht; cases ht
  have nt : l ≠ t := fun z => by rw [z, upd_same] at hl; cases hl
  have nl : l ≠ a := fun z => by rw [z, upd_ne na.symm, upd_same] at hl; cases hl
  have hl0 : H l = none := by rw [upd_ne nt, upd_ne nl] at hl; exact hl
  have ht0 : H t = none := by rw [upd_ne na] at ht; exact ht
  have e : cutV (List.map V.int ns) none (some 63) = List.map V.int (cutV (List.map V.int ns) none (some 63) |>.map fun v => match v with | .int i => i | _ => 0) := by
    unfold cutV
    simp [List.map_take, List.map_drop, Function.comp_def]
  refine ⟨by rw [upd_ne nl.symm, upd_ne na.symm, upd_same], fdict nm l 0 0 0, rfl, by show 4 ≤ 15; decide, ?_⟩
  refine k a l _ _ (fun b u eb => ?_) ha hl0 nl.symm upd_same (by rw [upd_ne nl, upd_same]; exact congrArg (fun z => some (HO.lst z)) e)
  have n1 : b ≠ a := fun z => by rw [z, ha] at eb; cases eb
  have n2 : b ≠ l := fun z => by rw [z, hl0] at eb; cases eb
  have n3 : b ≠ t := fun z => by rw [z, ht0] at eb; cases eb
  rw [upd_ne n1, upd_ne n2, upd_ne n3, upd_ne n1]
  exact eb
end
end K09

namespace K09
open PySem L2 RZ DL
/-! the walk by data -/
local macro_rules | `(tactic| walk_at "dl") => `(tactic| first
  | with_reducible first
    | refine sx_seq ?_ | refine sx_if ?_ | refine sx_ret ?_ | refine sx_next ?_ | refine sx_asg ?_
    | refine et_not ?_ | refine et_B ?_ | refine et_test ?_ | refine et_and ?_ | refine et_or ?_ | refine et_yes ?_
    | refine ev_and ?_ | refine ev_or ?_ | refine ev_not ?_ | refine ev_if ?_ | refine ev_chain ?_
    | refine ev_int ?_ | refine ev_bl ?_ | refine ev_str ?_ | refine ev_non ?_ | refine ev_c ?_
    | refine ev_op ?_ | refine ev_un ?_ | refine ev_cb ?_ | refine ev_fn1 ?_ | refine ev_fn2 ?_ | refine ev_sl ?_ | refine eo_none ?_ | refine eo_some ?_ | refine ev_tup ?_
    | refine ea_cons ?_ | refine ea_nil ?_
    | refine ops_ge ?_ | refine ops_le ?_ | refine ops_gt ?_ | refine ops_lt ?_ | refine ops_leS ?_ | refine ops_ltS ?_ | refine ops_add_int ?_ | refine ops_sub ?_ | refine ops_isN ?_ | refine ops_isNot ?_ | refine ops_eq_int ?_ | refine ops_eqS ?_ | refine ops_neS ?_
    | refine cas_len_tup ?_ | refine cas_isi_int ?_ | refine cas_isi_bool ?_ | refine cas_isi_str ?_ | refine cas_isi_tup ?_ | refine cas_isi_lst ?_
    | refine iteT ?_ | refine iteF ?_ | refine and_nols ?_
  | ((with_reducible refine ev_varx ?_); refine ⟨_, rfl, ?_⟩)
  | ((with_reducible refine ops_ix_tupx ?_); first | refine ⟨_, rfl, ?_⟩ | refine ⟨_, atI_nat (j := 0) rfl, ?_⟩ | refine ⟨_, atI_nat (j := 1) rfl, ?_⟩ | refine ⟨_, atI_nat (j := 2) rfl, ?_⟩)
  | ((with_reducible refine sz_and ?_ ?_); exact rfl)
  | ((with_reducible refine ev_ownx ?_); refine ⟨_, rfl, ?_⟩)
  | ((with_reducible refine ev_refx ?_); refine ⟨_, rfl, ?_⟩)
  | ((with_reducible refine ifT ?_ ?_); exact rfl) | ((with_reducible refine ifF ?_ ?_); exact rfl))
local macro_rules | `(tactic| walk_at "go") => `(tactic| repeat (first | walk_at "dl" | with_reducible refine ⟨_, rfl, ?_⟩ | with_reducible refine ⟨_, _, rfl, ?_⟩))
theorem map_era {α β : Type} (f : α → β) : ∀ (n : Nat) (xs : List α), (xs.map f).eraseIdx n = (xs.eraseIdx n).map f
  | _, [] => rfl
  | 0, _ :: _ => rfl
  | n + 1, x :: xs => congrArg (f x :: ·) (map_era f n xs)
theorem era_perm : ∀ {ys : List Str} {n : Nat} (h : n < ys.length), (ys[n] :: ys.eraseIdx n).Perm ys
  | y :: ys, 0, _ => .refl _
  | y :: ys, n + 1, h => (List.Perm.swap y _ _).trans ((era_perm (ys := ys) (n := n) (Nat.lt_of_succ_lt_succ h)).cons y)
theorem str_alike (xs : List Str) : PySem.W.AllAlike (xs.map PyData.str) := fun d hd e he => by
  obtain ⟨a, _, rfl⟩ := List.mem_map.mp hd
  obtain ⟨b, _, rfl⟩ := List.mem_map.mp he
  rfl
theorem str_sort (xs : List Str) : PySem.W.Sortable (xs.map PyData.str) := .inr fun d hd => by
  obtain ⟨a, _, rfl⟩ := List.mem_map.mp hd
  exact ⟨fun z => (nomatch z), fun _ z => (nomatch z)⟩
theorem str_dep (xs : List Str) : ∀ d ∈ xs.map PyData.str, d.depth ≤ 40 := fun d hd => by
  obtain ⟨a, _, rfl⟩ := List.mem_map.mp hd
  simp [PyData.depth]
theorem strict (xs : List Str) (h : xs.Nodup) : (ksort PyData.str xs).Pairwise sLt := by
  have h1 := ksort_le PyData.str xs
  have h2 : (ksort PyData.str xs).Nodup := (ksort_perm PyData.str xs).nodup_iff.mpr h
  refine (List.pairwise_and_iff.mpr ⟨h1, h2⟩).imp fun {a b} ⟨l, n⟩ => ?_
  rw [PySem.W.dataLe_eq] at l
  simp only [cond_false, Bool.not_eq_true', PySem.W.dataLt_str, decide_eq_false_iff_not] at l
  rcases Nat.lt_or_ge 0 1 with _ | _
  · refine Classical.byContradiction fun z => n (PySem.W.str_of_cps (List.le_antisymm (List.not_lt.mp l) (List.not_lt.mp z)))
  · omega
/-- a called name's list: plain short texts -/
def preCalled (ds : List D) : Prop := ∃ m : Int, ds = [.int m] ∧ 1 ≤ m ∧ m ≤ 6
/-- a short word -/
def Wo (x : Str) : Prop := Bt 8 x ∧ K09w.isWord (.str x) = true
def postCalled (ds : List D) (r : D) : Prop := ∃ xs : List Str, r = .list (xs.map .str) ∧ 1 ≤ xs.length ∧ (∀ m : Int, ds = [.int m] → (xs.length : Int) ≤ m) ∧ (∀ x ∈ xs, Wo x) ∧ xs.Pairwise sLt
section
variable {Pg : Program} {w : World} {K : PySem.W.Frag} {mg : Str → Option Value} {base : Heap} {f : Addr} {fd : FuncData}
def pool : List Str := ["a", "cup", "lathe", "pen", "rod", "zzzzzzzz"]
theorem pool_ok : ∀ x ∈ pool, Wo x := by
  have h : pool.all (fun x => ((x.cps.toList.all fun c => decide (c < 128)) && decide (x.length ≤ 8)) && K09w.isWord (.str x)) = true := by decide +kernel
  intro x hx
  have := List.all_eq_true.mp h x hx
  simp only [Bool.and_eq_true, decide_eq_true_eq] at this
  exact ⟨⟨fun c hc => of_decide_eq_true (List.all_eq_true.mp this.1.1 c hc), this.1.2⟩, this.2⟩
/-- some of the pool are taken, the others are left -/
def taken (i : Nat) (acc p : List D) : Prop := ∃ xs ys : List Str, acc = xs.map .str ∧ p = ys.map .str ∧ xs.length = i ∧ ys.length + i = 6 ∧ (∀ x ∈ xs, Wo x) ∧ (∀ y ∈ ys, Wo y) ∧ (xs ++ ys).Nodup
theorem ok_called (F : Fun K "_law_called" "_law_called" s__law_called f fd) (T : Txt mg) (C__law_draw : LDraw Pg w K mg base) : FnG Pg w K mg base 2 f fd ["_law_feed_here", "_law_many"] (PmF nm K 1 preCalled postCalled) := by
  have nd := sc__law_called.nd
  refine fnG_of F sc__law_called pm_len (fun cdv A ou s H vs Q hgd hr h => ?_)
  have hu : (A.deeper (PyProof.Rows.envOfC "_law_called" (defScope s__law_called) s.heap.objs.size f cdv)).units + 64 < cLine := by have := hr.un; omega
  refine ⟨_, (pss_cons (ps_set (i := 2) nd rfl (Or.inr rfl) (pe_lst (pa_cons pe_str (pa_cons pe_str (pa_cons pe_str (pa_cons pe_str (pa_cons pe_str (pa_cons pe_str pa_nil))))))) (hf := Or.inl rfl)) (pss_cons (ps_setLc (i := 3) (own := [("_law_k", 4)]) (g := gName 4) rfl nd rfl rfl (sw_true rfl rfl rfl (by decide +kernel)) (pi_range1 rfl T.b_range (pa_cons (pe_op (r := rAdd4 K) opAdd pe_int (pe_fn C__law_draw hgd (hr.mono (by first | decide | omega)) rfl (pa_cons (pv 0) (pa_cons (pv 1) pa_nil)))) pa_nil)) (blkOk_by (N := ["_law_feed_here", "_law_many", "_law_pool", "_law_some", "_law_k"]) (sc := (defScope s__law_called)) (by decide +kernel)) (fun _ _ _ _ _ => (pg_name (i := 4) nd rfl (Or.inl rfl) (Or.inr rfl))) (fun _ _ _ _ _ => pts_nil) (fun _ _ _ _ _ => (pe_bmK (K := K) rfl PySem.F.plainAttrs_list PySem.F.slot_list_pop PySem.F.type_list_pop mt_popAt (pv 2) (pa_cons (pe_fn C__law_draw hgd (hr.mono (by first | decide | omega)) rfl (pa_cons (pv 0) (pa_cons (pe_callB (r := rLenA K) call_len (by rfl) T.b_len (by decide +kernel) (pa_cons (pv 2) pa_nil)) pa_nil))) pa_nil)))) (pss_one (ps_ret (pe_callB (r := rSrtD K false) (cr_srtD hu) (by rfl) T.b_sorted (by decide +kernel) (pa_cons (pv 3) pa_nil)))))), bodyF (by decide) h fun a l cs F0 ds hl ⟨m, hm, hm1, hm2⟩ => ?_⟩
  subst hm
  change Sx K (feedW nm a l cs) H F0 _ [.rf (.ref a), .dat (.int m), .un, .un, .un] _
  refine sx_seq (sx_asgN (evn_lst (ea_cons (ev_str (ea_cons (ev_str (ea_cons (ev_str (ea_cons (ev_str (ea_cons (ev_str (ea_cons (ev_str (ea_nil ⟨pool.map .str, rfl, le_line rfl, ?_⟩)))))))))))))))
  refine sx_seq (sx_lc2 (j := 2) (p0 := pool.map .str) ?_ (fun ds i acc p => (ds.length ≤ 6 ∧ (ds.length : Int) ≤ m) ∧ 1 ≤ ds.length ∧ taken i acc p) ?_)
  · exact rfl
  refine evi_rng1 ?_
  walk_at "go"
  refine ev_draw ?_
  walk_at "go"
  refine ⟨⟨by omega, by omega⟩, fun r r0 r1 => ?_⟩
  walk_at "go"
  refine ⟨by omega, by omega, ?_, ?_, ?_, ?_⟩
  · rw [rngD_len]
    rw [sizeLine_eq]
    omega
  · exact ⟨⟨by rw [rngD_len]; omega, by rw [rngD_len]; omega⟩, by rw [rngD_len]; omega, [], pool, rfl, rfl, rfl, rfl, fun x hx => (nomatch hx), pool_ok, by decide⟩
  · rintro i d acc p hi ⟨h6, h1, xs, ys, rfl, rfl, hx, hy, bx, byy, nn⟩
    have hlt := (List.getElem?_eq_some_iff.mp hi).1
    have h6' := h6.1
    refine gc_name (by decide) trivial ⟨?_, rfl, ?_⟩
    · intro i hi es
      simp at hi
      subst hi
      intro z
      cases z
    · refine ev2_pop rfl (ev_draw ?_)
      walk_at "go"
      refine cas_len_lst (.inr rfl) ?_
      walk_at "go"
      refine ⟨by rw [List.length_map]; omega, fun q q0 q1 => ?_⟩
      obtain ⟨n, rfl⟩ := Int.eq_ofNat_of_zero_le q0
      rw [List.length_map] at q1
      have hn : n < ys.length := by omega
      refine ⟨n, rfl, by omega, .str ys[n], by simp [hn], _, _, rfl, rfl, h6, h1, xs ++ [ys[n]], ys.eraseIdx n, by simp, ?_, by simp [hx], ?_, ?_, ?_, ?_⟩
      · exact map_era _ _ _
      · rw [List.length_eraseIdx_of_lt hn]
        omega
      · intro x m
        rcases List.mem_append.mp m with m | m
        · exact bx x m
        · simp at m
          subst m
          exact byy _ (List.getElem_mem hn)
      · exact fun y m => byy y (List.mem_of_mem_eraseIdx m)
      · have pm : (xs ++ [ys[n]] ++ ys.eraseIdx n).Perm (xs ++ ys) := by
          rw [List.append_assoc]
          exact List.Perm.append_left xs (era_perm hn)
        exact pm.nodup_iff.mpr nn
  · rintro acc p ⟨h6, h1, xs, ys, rfl, rfl, hx, hy, bx, byy, nn⟩
    walk_at "go"
    have h6' := h6.1
    have hm6 := h6.2
    refine srt_run (.inr (.inr rfl)) (str_alike xs) (str_sort xs) (str_dep xs) ?_
    rw [show srtD false (xs.map PyData.str) = (ksort PyData.str xs).map PyData.str from srt_ksort _ _]
    have hp := ksort_perm PyData.str xs
    exact ⟨_, rfl, _, rfl, by rw [hp.length_eq]; omega, fun m' e => (by cases e; rw [hp.length_eq]; omega), fun x m => bx x (hp.mem_iff.mp m), strict xs (List.nodup_append.mp nn).1⟩
end
end K09

namespace K09
open PySem L2 RZ DL
/-! the walk by data -/
local macro_rules | `(tactic| walk_at "dl") => `(tactic| first
  | with_reducible first
    | refine sx_seq ?_ | refine sx_if ?_ | refine sx_ret ?_ | refine sx_next ?_ | refine sx_asg ?_
    | refine et_not ?_ | refine et_B ?_ | refine et_test ?_ | refine et_and ?_ | refine et_or ?_ | refine et_yes ?_
    | refine ev_and ?_ | refine ev_or ?_ | refine ev_not ?_ | refine ev_if ?_ | refine ev_chain ?_
    | refine ev_int ?_ | refine ev_bl ?_ | refine ev_str ?_ | refine ev_non ?_ | refine ev_c ?_
    | refine ev_op ?_ | refine ev_un ?_ | refine ev_cb ?_ | refine ev_fn1 ?_ | refine ev_fn2 ?_ | refine ev_sl ?_ | refine eo_none ?_ | refine eo_some ?_ | refine ev_tup ?_
    | refine ea_cons ?_ | refine ea_nil ?_
    | refine ops_ge ?_ | refine ops_le ?_ | refine ops_gt ?_ | refine ops_lt ?_ | refine ops_leS ?_ | refine ops_ltS ?_ | refine ops_add_int ?_ | refine ops_sub ?_ | refine ops_isN ?_ | refine ops_isNot ?_ | refine ops_eq_int ?_ | refine ops_eqS ?_ | refine ops_neS ?_
    | refine cas_len_tup ?_ | refine cas_isi_int ?_ | refine cas_isi_bool ?_ | refine cas_isi_str ?_ | refine cas_isi_tup ?_ | refine cas_isi_lst ?_
    | refine iteT ?_ | refine iteF ?_ | refine and_nols ?_
  | ((with_reducible refine ev_varx ?_); refine ⟨_, rfl, ?_⟩)
  | ((with_reducible refine ops_ix_tupx ?_); first | refine ⟨_, rfl, ?_⟩ | refine ⟨_, atI_nat (j := 0) rfl, ?_⟩ | refine ⟨_, atI_nat (j := 1) rfl, ?_⟩ | refine ⟨_, atI_nat (j := 2) rfl, ?_⟩ | refine ⟨_, atI_nat (j := 3) rfl, ?_⟩ | refine ⟨_, atI_nat (j := 4) rfl, ?_⟩ | refine ⟨_, atI_nat (j := 5) rfl, ?_⟩ | refine ⟨_, atI_nat (j := 6) rfl, ?_⟩)
  | ((with_reducible refine sz_and ?_ ?_); exact rfl)
  | ((with_reducible refine ev_ownx ?_); refine ⟨_, rfl, ?_⟩)
  | ((with_reducible refine ev_refx ?_); refine ⟨_, rfl, ?_⟩)
  | ((with_reducible refine ifT ?_ ?_); exact rfl) | ((with_reducible refine ifF ?_ ?_); exact rfl))
local macro_rules | `(tactic| walk_at "go") => `(tactic| repeat (first | walk_at "dl" | with_reducible refine ⟨_, rfl, ?_⟩ | with_reducible refine ⟨_, _, rfl, ?_⟩))
/-! ### drawn works -/
/-- texts, so many at the most -/
theorem strs_inj : ∀ {xs ys : List Str}, xs.map PyData.str = ys.map PyData.str → xs = ys
  | [], [], _ => rfl
  | [], _ :: _, h => nomatch h
  | _ :: _, [], h => nomatch h
  | x :: xs, y :: ys, h => by
    injection h with h1 h2
    injection h1 with h1
    rw [h1, strs_inj h2]
def Wd3 (xs : List Str) : Prop := xs.length ≤ 3 ∧ (∀ x ∈ xs, Wo x) ∧ xs.Pairwise sLt
theorem sl_nodup {xs : List Str} (h : xs.Pairwise sLt) : xs.Nodup := h.imp fun {a b} l e => by
  subst e
  exact List.lt_irrefl _ l
theorem rise_of : ∀ {ys : List Str}, ys.Pairwise sLt → K09w.rise (ys.map .str) = true
  | [], _ => rfl
  | [a], _ => rfl
  | a :: b :: r, h => by
    obtain ⟨h1, h2⟩ := List.pairwise_cons.mp h
    have ih := rise_of h2
    unfold K09w.rise at ih ⊢
    show (K09w.ltD (.str a) (.str b) && (((b :: r).map PyData.str).zip (r.map PyData.str)).all _) = true
    rw [show K09w.ltD (.str a) (.str b) = true from decide_eq_true (h1 b List.mem_cons_self), Bool.true_and]
    exact ih
theorem isNum_of {i : Int} (h : 0 ≤ i) : K09w.isNum (.int i) = true := decide_eq_true h
theorem numFrom_of {i j : Int} (h : 0 ≤ i) (h2 : j ≤ i) : K09w.numFrom (.int i) (.int j) = true := by
  show (decide (0 ≤ i) && decide (j ≤ i)) = true
  rw [decide_eq_true h, decide_eq_true h2]
  rfl
theorem ask_of {x : Str} {i : Int} (h : Wo x) (h1 : 1 ≤ i) : K09w.isAsk (.tuple [.str x, .int i]) = true := by
  show (true && (K09w.isWord (.str x) && K09w.numFrom (.int i) (.int 1))) = true
  rw [h.2, numFrom_of (by omega) h1]
  rfl
theorem asks_fst {es : List D} (h : ∀ q ∈ es, ∃ x n, q = .tuple [.str x, n]) : es.map K09w.fst0 = (es.map nameOf).map .str := by
  rw [List.map_map]
  refine List.map_congr_left fun q m => ?_
  obtain ⟨x, n, rfl⟩ := h q m
  rfl
theorem asks_of2 {es : List D} (h : ∀ q ∈ es, ∃ x n, q = .tuple [.str x, n]) (h1 : es.all K09w.isAsk = true) (h2 : (es.map nameOf).Pairwise sLt) : K09w.isAsks (.tuple es) = true := by
  show (es.all K09w.isAsk && K09w.rise (es.map K09w.fst0)) = true
  rw [h1, asks_fst h, rise_of h2]
  rfl
def preAsks (ds : List D) : Prop := ∃ xs : List Str, ds = [.list (xs.map .str)] ∧ Wd3 xs
def postAsks (ds : List D) (r : D) : Prop := ∀ xs : List Str, ds = [.list (xs.map .str)] → ∃ es, r = .tuple es ∧ AsksOk xs es ∧ Bds big1 39 1 es ∧ K09w.isAsks (.tuple es) = true
def preMade (ds : List D) : Prop := ∃ x, ∃ xs : List Str, ds = [.str x, .list (xs.map .str)] ∧ Wo x ∧ Wd3 xs
def postMade (ds : List D) (r : D) : Prop := ∀ x, ∀ xs : List Str, ds = [.str x, .list (xs.map .str)] → ∃ es q, r = .tuple (.str x :: .tuple es :: q) ∧ AsksOk xs es ∧ Bds big1 75 2 (.str x :: .tuple es :: q) ∧ K09w.isKind r = true
def prePlant (ds : List D) : Prop := ∃ xs : List Str, ds = [.list (xs.map .str), .list []] ∧ Wd3 xs ∧ 1 ≤ xs.length
def Whole (d : D) : Prop := K09w.isTold (K09w.judged d) = true
def postPlant (r : D) : Prop := Plant r ∧ Whole r
abbrev LAsks (Pg : Program) (w : World) (K : PySem.W.Frag) (mg : Str → Option Value) (base : Heap) := Fn Pg w K mg base "_law_asks" 2 ["_law_feed_here", "_law_words"] (PmF nm K 1 preAsks postAsks)
abbrev LMade (Pg : Program) (w : World) (K : PySem.W.Frag) (mg : Str → Option Value) (base : Heap) := Fn Pg w K mg base "_law_made_kind" 3 ["_law_feed_here", "_law_word", "_law_words"] (PmF nm K 2 preMade postMade)
abbrev LPlant (Pg : Program) (w : World) (K : PySem.W.Frag) (mg : Str → Option Value) (base : Heap) := Fn Pg w K mg base "_law_plant" 4 ["_law_feed_here", "_law_words", "_law_strange"] (PmF nm K 2 prePlant fun _ d => postPlant d)
section
variable {Pg : Program} {w : World} {K : PySem.W.Frag} {mg : Str → Option Value} {base : Heap} {f : Addr} {fd : FuncData}
theorem ok_asks (F : Fun K "_law_asks" "_law_asks" s__law_asks f fd) (T : Txt mg) (C__law_draw : LDraw Pg w K mg base) : FnG Pg w K mg base 2 f fd ["_law_feed_here", "_law_words"] (PmF nm K 1 preAsks postAsks) := by
  have nd := sc__law_asks.nd
  refine fnG_of F sc__law_asks pm_len (fun cdv A ou s H vs Q hgd hr h => ?_)
  refine ⟨_, (pss_cons (ps_set (i := 2) nd rfl (Or.inl rfl) (pe_lst pa_nil) (hf := Or.inl rfl)) (pss_cons (ps_for PassesOwn.never rfl (pi_list (pv 1)) (pg_name (i := 3) nd rfl (Or.inl rfl) (Or.inl rfl)) (pss_one (ps_if (pt_cmpR opLt (pe_fn C__law_draw hgd (hr.mono (by first | decide | omega)) rfl (pa_cons (pv 0) (pa_cons pe_int pa_nil))) pe_int (nomark _)) (pss_one (ps_expr (pe_bm PySem.F.plainAttrs_list PySem.F.slot_list_append PySem.F.type_list_append mt_append (pv 2) (pa_cons (pe_tup (pa_cons (pv 3) (pa_cons (pe_op (r := rAdd4 K) opAdd pe_int (pe_fn C__law_draw hgd (hr.mono (by first | decide | omega)) rfl (pa_cons (pv 0) (pa_cons pe_int pa_nil)))) pa_nil))) pa_nil)))) pss_nil))) (pss_one (ps_ret (pe_callTy (r := rTupleOf K) call_tuple_of (by rfl) T.b_tuple (by decide +kernel) (pa_cons (pv 2) pa_nil)))))), bodyF (by decide) h fun a l cs F0 ds hl ⟨xs, hd, hn, hb, hnd⟩ => ?_⟩
  subst hd
  change Sx K (feedW nm a l cs) H F0 _ [.rf (.ref a), .dat (.list (xs.map .str)), .un, .un] _
  refine sx_seq (sx_asgN (evn_lst (ea_nil ⟨[], rfl, le_line rfl, ?_⟩)))
  refine sx_seq (sx_for (fun es i ρ' => es = xs.map .str ∧ ∃ acc s3, ρ' = [.rf (.ref a), .dat (.list (xs.map .str)), .ls acc, s3] ∧ (acc.length ≤ i ∧ (∀ q ∈ acc, ∃ x n, q = .tuple [.str x, n] ∧ x ∈ xs) ∧ (acc.map nameOf).Sublist (xs.take i) ∧ acc.all K09w.isAsk = true) ∧ Bds big1 (13 * i) 1 acc) (evi_list (ev_varx ⟨_, rfl, xs.map .str, rfl, ⟨rfl, [], .un, rfl, ⟨Nat.zero_le _, (fun q m => nomatch m), List.nil_sublist _, rfl⟩, bds_nil⟩, ?_, ?_⟩)))
  · rintro i z ρ' hz ⟨_, acc, s3, rfl, ⟨ja, jb, jc, jd⟩, ha⟩
    have hi : i < 3 := by
      have := (List.getElem?_eq_some_iff.mp hz).1
      rw [List.length_map] at this
      omega
    rw [List.getElem?_map] at hz
    obtain ⟨x, hx0, rfl⟩ : ∃ x, xs[i]? = some x ∧ PyData.str x = z := by
      rcases e : xs[i]? with _ | x
      · rw [e] at hz
        cases hz
      · rw [e] at hz
        exact ⟨x, rfl, Option.some.inj hz⟩
    have hxm : x ∈ xs := List.mem_of_getElem? hx0
    have et : xs.take (i + 1) = xs.take i ++ [x] := by rw [List.take_add_one, hx0]; rfl
    have hal : acc.length ≤ 39 := Nat.le_trans (wt_len acc) (Nat.le_trans ha.wt (by omega))
    refine gs_name trivial ?_
    change Sx K (feedW nm a l cs) H F0 _ [.rf (.ref a), .dat (.list (xs.map .str)), .ls acc, .dat (.str x)] _
    walk_at "go"
    refine ev_draw ?_
    walk_at "go"
    refine ⟨⟨by decide, by decide⟩, fun q q0 q1 => ?_⟩
    walk_at "go"
    refine if2 (fun h1 => ?_) (fun h1 => ?_)
    · refine sx_app rfl (Nat.lt_of_le_of_lt hal (by decide)) ?_
      walk_at "go"
      refine ev_draw ?_
      walk_at "go"
      refine ⟨⟨by decide, by decide⟩, fun r r0 r1 => ?_⟩
      walk_at "go"
      refine ⟨rfl, _, _, rfl, ⟨by rw [List.length_append]; exact Nat.succ_le_succ ja, fun q m => ?_, by rw [List.map_append, et]; exact jc.append (List.Sublist.refl [x]), by rw [List.all_append, jd, List.all_cons, ask_of (hb x hxm) (by omega)]; rfl⟩, ?_⟩
      · rcases List.mem_append.mp m with m | m
        · exact jb q m
        · rw [List.mem_singleton.mp m]
          exact ⟨x, _, rfl, hxm⟩
      have q : Bds big1 13 1 [.tuple [.str x, .int (1 + r)]] := bds_one (bt2 (bd_str.mpr (hb x hxm).1) (bd_small (by decide) (by omega) (by omega)) (by decide))
      exact (bds_app ha q).mono (Nat.le_refl _) (by omega) (Nat.le_refl _)
    · walk_at "go"
      exact ⟨rfl, acc, _, rfl, ⟨Nat.le_succ_of_le ja, jb, jc.trans (by rw [et]; exact List.sublist_append_left _ _), jd⟩, ha.mono (Nat.le_refl _) (by omega) (Nat.le_refl _)⟩
  rintro ρ' ⟨_, acc, s3, rfl, ⟨ja, jb, jc, jd⟩, ha⟩
  rw [List.length_map] at ha ja
  refine sx_ret (ev_cb (ea_cons (ev_own rfl (ea_nil (cas_tuple (.inr (.inr rfl)) ⟨_, rfl, fun ys e => ?_⟩)))))
  injection e with e
  injection e with e
  obtain rfl := strs_inj e
  have js := List.Pairwise.sublist jc (hnd.sublist (List.take_sublist _ xs))
  exact ⟨acc, rfl, ⟨by omega, sl_nodup js, jb⟩, ha.mono (Nat.le_refl _) (by omega) (Nat.le_refl _), asks_of2 (fun q m => let ⟨x, n, e, _⟩ := jb q m; ⟨x, n, e⟩) jd js⟩
theorem ok_made_kind (F : Fun K "_law_made_kind" "_law_made_kind" s__law_made_kind f fd) (T : Txt mg) (C__law_draw : LDraw Pg w K mg base) (C__law_asks : LAsks Pg w K mg base) : FnG Pg w K mg base 3 f fd ["_law_feed_here", "_law_word", "_law_words"] (PmF nm K 2 preMade postMade) := by
  have nd := sc__law_made_kind.nd
  refine fnG_of F sc__law_made_kind pm_len (fun cdv A ou s H vs Q hgd hr h => ?_)
  refine ⟨_, (pss_cons (ps_set (i := 3) nd rfl (Or.inl rfl) (pe_fn C__law_draw hgd (hr.mono (by first | decide | omega)) rfl (pa_cons (pv 0) (pa_cons pe_int pa_nil))) (hf := Or.inl rfl)) (pss_cons (ps_par (i := 4) (j := 5) rfl nd rfl rfl (by decide) rfl rfl (pa_cons (pe_op (r := rAdd4 K) opAdd pe_int (pe_fn C__law_draw hgd (hr.mono (by first | decide | omega)) rfl (pa_cons (pv 0) (pa_cons pe_int pa_nil)))) (pa_cons (pe_op (r := rAdd4 K) opAdd pe_int (pe_fn C__law_draw hgd (hr.mono (by first | decide | omega)) rfl (pa_cons (pv 0) (pa_cons pe_int pa_nil)))) pa_nil)) (by rfl)) (pss_one (ps_ret (pe_tup (pa_cons (pv 1) (pa_cons (pe_fn C__law_asks hgd (hr.mono (by first | decide | omega)) rfl (pa_cons (pv 0) (pa_cons (pv 2) pa_nil))) (pa_cons (pv 3) (pa_cons (pv 4) (pa_cons (pv 5) (pa_cons (pe_fn C__law_draw hgd (hr.mono (by first | decide | omega)) rfl (pa_cons (pv 0) (pa_cons (pe_op (r := rAdd4 K) opAdd (pv 3) pe_int) pa_nil))) pa_nil))))))))))), bodyF (by decide) h fun a l cs F0 ds hl ⟨x, xs, hd, hx, hw⟩ => ?_⟩
  subst hd
  change Sx K (feedW nm a l cs) H F0 _ [.rf (.ref a), .dat (.str x), .dat (.list (xs.map .str)), .un, .un, .un] _
  refine sx_seq (sx_asg (ev_draw ?_))
  walk_at "go"
  refine ⟨⟨by decide, by decide⟩, fun c c0 c1 => ?_⟩
  refine ⟨trivial, ?_⟩
  refine sx_seq (sx_par ?_)
  walk_at "go"
  refine ev_draw ?_
  walk_at "go"
  refine ⟨⟨by decide, by decide⟩, fun g g0 g1 => ?_⟩
  walk_at "go"
  refine ev_draw ?_
  walk_at "go"
  refine ⟨⟨by decide, by decide⟩, fun b b0 b1 => ?_⟩
  walk_at "go"
  refine ev_fnF ?_
  walk_at "go"
  refine ⟨[_], rfl, rfl, ⟨xs, rfl, hw⟩, fun d hd => ?_⟩
  obtain ⟨es, rfl, hao, he, hia⟩ := hd xs rfl
  walk_at "go"
  refine ev_draw ?_
  walk_at "go"
  refine ⟨⟨by omega, by omega⟩, fun q q0 q1 => ?_⟩
  walk_at "go"
  intro x' xs' e
  injection e with e1 e2
  injection e2 with e2
  injection e1 with e1
  injection e2 with e2
  obtain rfl := strs_inj e2
  subst e1
  refine ⟨es, _, rfl, hao, ?_, ?_⟩
  rotate_left
  · show (true && ((K09w.isWord (.str x) && K09w.isAsks (.tuple es)) && (K09w.numFrom (.int (1 + g)) (.int 1) && K09w.numFrom (.int (1 + b)) (.int 1)) && (K09w.isNum (.int c) && (K09w.isNum (.int q) && K09w.leD (.int q) (.int c))))) = true
    rw [hx.2, hia, numFrom_of (by omega) (by omega), numFrom_of (by omega) (by omega), isNum_of c0, isNum_of q0, show K09w.leD (.int q) (.int c) = true from decide_eq_true (by omega)]
    rfl
  have i := fun {i : Int} (h0 : 0 ≤ i) (h1 : i < 16) => bd_i (k := big1) (n := 2) w15 h0 h1
  exact (bds_cons (bd_str.mpr hx.1) (bds_cons (bd_tup.mpr he) (bds_cons (i (i := c) c0 (by omega)) (bds_cons (i (i := 1 + g) (by omega) (by omega)) (bds_cons (i (i := 1 + b) (by omega) (by omega)) (bds_one (i (i := q) q0 (by omega)))))))).mono (Nat.le_refl _) (by decide) (Nat.le_refl _)
end
end K09

namespace K09
open PySem L2 RZ DL
/-! the walk by data -/
local macro_rules | `(tactic| walk_at "dl") => `(tactic| first
  | with_reducible first
    | refine sx_seq ?_ | refine sx_if ?_ | refine sx_ret ?_ | refine sx_next ?_ | refine sx_asg ?_
    | refine et_not ?_ | refine et_B ?_ | refine et_test ?_ | refine et_and ?_ | refine et_or ?_ | refine et_yes ?_
    | refine ev_and ?_ | refine ev_or ?_ | refine ev_not ?_ | refine ev_if ?_ | refine ev_chain ?_
    | refine ev_int ?_ | refine ev_bl ?_ | refine ev_str ?_ | refine ev_non ?_ | refine ev_c ?_
    | refine ev_op ?_ | refine ev_un ?_ | refine ev_cb ?_ | refine ev_fn1 ?_ | refine ev_fn2 ?_ | refine ev_sl ?_ | refine eo_none ?_ | refine eo_some ?_ | refine ev_tup ?_
    | refine ea_cons ?_ | refine ea_nil ?_
    | refine ops_ge ?_ | refine ops_le ?_ | refine ops_gt ?_ | refine ops_lt ?_ | refine ops_leS ?_ | refine ops_ltS ?_ | refine ops_add_int ?_ | refine ops_sub ?_ | refine ops_isN ?_ | refine ops_isNot ?_ | refine ops_eq_int ?_ | refine ops_eqS ?_ | refine ops_neS ?_
    | refine cas_len_tup ?_ | refine cas_isi_int ?_ | refine cas_isi_bool ?_ | refine cas_isi_str ?_ | refine cas_isi_tup ?_ | refine cas_isi_lst ?_
    | refine iteT ?_ | refine iteF ?_ | refine and_nols ?_
  | ((with_reducible refine ev_varx ?_); refine ⟨_, rfl, ?_⟩)
  | ((with_reducible refine ops_ix_tupx ?_); first | refine ⟨_, rfl, ?_⟩ | refine ⟨_, atI_nat (j := 0) rfl, ?_⟩ | refine ⟨_, atI_nat (j := 1) rfl, ?_⟩ | refine ⟨_, atI_nat (j := 2) rfl, ?_⟩ | refine ⟨_, atI_nat (j := 3) rfl, ?_⟩ | refine ⟨_, atI_nat (j := 4) rfl, ?_⟩ | refine ⟨_, atI_nat (j := 5) rfl, ?_⟩ | refine ⟨_, atI_nat (j := 6) rfl, ?_⟩)
  | ((with_reducible refine sz_and ?_ ?_); exact rfl)
  | ((with_reducible refine ev_ownx ?_); refine ⟨_, rfl, ?_⟩)
  | ((with_reducible refine ev_refx ?_); refine ⟨_, rfl, ?_⟩)
  | ((with_reducible refine ifT ?_ ?_); exact rfl) | ((with_reducible refine ifF ?_ ?_); exact rfl))
local macro_rules | `(tactic| walk_at "go") => `(tactic| repeat (first | walk_at "dl" | with_reducible refine ⟨_, rfl, ?_⟩ | with_reducible refine ⟨_, _, rfl, ?_⟩))
theorem ris_le : ∀ (p : Str) (l : List Str), PyProof.Rows.risingS p l = true → ∀ x ∈ l, p.cps.toList ≤ x.cps.toList
  | _, [], _ => fun _ m => nomatch m
  | p, y :: r, h => fun x m => by
    have h : (!PySem.Spec.ltCps y.cps.toList p.cps.toList && PyProof.Rows.risingS y r) = true := h
    rw [Bool.and_eq_true, PyProof.Rows.ltCps_eq, Bool.not_eq_true', decide_eq_false_iff_not] at h
    have h1 := List.not_lt.mp h.1
    rcases List.mem_cons.mp m with rfl | m
    · exact h1
    · exact List.le_trans h1 (ris_le y r h.2 x m)
theorem sorted_pw : ∀ {l : List Str}, PyProof.Rows.sortedS l = true → l.Nodup → l.Pairwise sLt
  | [], _, _ => .nil
  | x :: r, h, nd => by
    obtain ⟨n1, n2⟩ := List.nodup_cons.mp nd
    have hs : PyProof.Rows.sortedS r = true := by
      cases r with
      | nil => rfl
      | cons y t =>
        have h : (!PySem.Spec.ltCps y.cps.toList x.cps.toList && PyProof.Rows.risingS y t) = true := h
        rw [Bool.and_eq_true] at h
        exact h.2
    refine .cons (fun y m => Classical.byContradiction fun z => n1 ?_) (sorted_pw hs n2)
    have e : x = y := PySem.W.str_of_cps (List.le_antisymm (ris_le x r h y m) (List.not_lt.mp z))
    rw [e]
    exact m
/-- nothing lacks -/
theorem lack_none {ks r qs : List D} (hd : ∀ k ∈ ks, ∃ x q, k = .tuple (.str x :: q)) (ha : ∀ q ∈ qs, ∃ x n, q = .tuple [.str x, n] ∧ x ∈ ks.map nameOf) : K09w.lackJ (.tuple (.tuple ks :: r)) qs = none := K09w.fst_none fun j hj => by
  have e : qs.getD j .none = qs[j] := by rw [List.getD_eq_getElem?_getD, List.getElem?_eq_getElem hj]; rfl
  obtain ⟨x, n, e2, hx⟩ := ha _ (List.getElem_mem hj)
  unfold K09w.lackAt
  rw [e, e2]
  show isNone (K09w.calledD _ (.str x)) = false
  unfold K09w.calledD
  obtain ⟨k, mk, ek⟩ := List.mem_map.mp hx
  rcases f : (K09w.kindsOf (.tuple (.tuple ks :: r))).find? (K09w.named (.str x)) with _ | k2
  · exfalso
    have := List.find?_eq_none.mp f k mk
    obtain ⟨y, q, rfl⟩ := hd k mk
    obtain rfl : y = x := ek
    exact this (by show PyData.eqv (.str y) (.str y) = true; simp [PyData.eqv])
  · have m2 := List.mem_of_find?_eq_some f
    obtain ⟨y, q, rfl⟩ := hd k2 m2
    rfl
theorem whole_of {ks es : List D} {xs : List Str} {v1 v2 v3 v4 v5 v6 v7 v8 v9 u1 u2 u3 u4 u5 : Int} (hnm : names ks = xs) (hst : xs.Pairwise sLt) (h1 : 1 ≤ ks.length) (hk : ∀ z ∈ ks, ∃ x qs q, z = .tuple (.str x :: .tuple qs :: q) ∧ AsksOk xs qs ∧ K09w.isKind z = true)
    (he : K09w.isAsks (.tuple es) = true) (hao : AsksOk xs es) (a1 : 0 ≤ v1) (a2 : 0 ≤ v2) (a3 : 0 ≤ v3) (a4 : 0 ≤ v4) (a5 : 0 ≤ v5) (a6 : 0 ≤ v6) (a7 : 0 ≤ v7) (a8 : 0 ≤ v8) (a9 : 0 ≤ v9) (b1 : 0 ≤ u1) (b2 : 0 ≤ u2) (b3 : 0 ≤ u3) (b4 : 0 ≤ u4) (b5 : 0 ≤ u5) :
    K09w.isTold (K09w.judged (wk4 ks es [.int v2, .int (1 + v3)] [.tuple [.int (2 + v1), .int v4, .int (1 + v5)], .tuple [.int (1 + v7), .int (2 + v1 + v6), .int (1 + v8), .int v9], .tuple [.int u1, .int (1 + u2)], .tuple [.int (1 + u3), .int (1 + u4)], .int (1 + u5)])) = true := by
  have k1 : K09w.isKinds (.tuple ks) = true := by
    show (!ks.isEmpty && (ks.all K09w.isKind && K09w.rise (ks.map K09w.fst0))) = true
    have e1 : ks.isEmpty = false := by
      cases ks with
      | nil => simp at h1
      | cons _ _ => rfl
    have e2 : ks.map K09w.fst0 = xs.map .str := by
      rw [← hnm]
      unfold names
      rw [List.map_map]
      refine List.map_congr_left fun z m => ?_
      obtain ⟨x, qs, q, rfl, _⟩ := hk z m
      rfl
    rw [e1, e2, rise_of hst, List.all_eq_true.mpr fun z m => let ⟨_, _, _, _, _, h⟩ := hk z m; h]
    rfl
  have c1 : K09w.isCopying (.tuple [.tuple es, .int v2, .int (1 + v3)]) = true := by
    show (true && (K09w.isAsks (.tuple es) && (K09w.isNum (.int v2) && K09w.numFrom (.int (1 + v3)) (.int 1)))) = true
    rw [he, isNum_of a2, numFrom_of (by omega) (by omega)]
    rfl
  have g1 : K09w.isAgreeing (.tuple [.int (2 + v1), .int v4, .int (1 + v5)]) = true := by
    show (true && (K09w.numFrom (.int (2 + v1)) (.int 2) && (K09w.isNum (.int v4) && K09w.numFrom (.int (1 + v5)) (.int 1)))) = true
    rw [isNum_of a4, numFrom_of (by omega) (by omega), numFrom_of (by omega) (by omega)]
    rfl
  have d1 : K09w.isBounds (.tuple [.int (1 + v7), .int (2 + v1 + v6), .int (1 + v8), .int v9]) (.int (2 + v1)) = true := by
    show (true && ((K09w.numFrom (.int (1 + v7)) (.int 1) && K09w.numFrom (.int (1 + v8)) (.int 1)) && (K09w.numFrom (.int (2 + v1 + v6)) (.int (2 + v1)) && K09w.isNum (.int v9)))) = true
    rw [isNum_of a9, numFrom_of (by omega) (by omega), numFrom_of (by omega) (by omega), numFrom_of (by omega) (by omega)]
    rfl
  have s1 : K09w.isSpring (.tuple [.int u1, .int (1 + u2)]) = true := by
    show (true && (K09w.isNum (.int u1) && K09w.numFrom (.int (1 + u2)) (.int 1))) = true
    rw [isNum_of b1, numFrom_of (by omega) (by omega)]
    rfl
  have f1 : K09w.isFoe (.tuple [.int (1 + u3), .int (1 + u4)]) = true := by
    show (true && (K09w.numFrom (.int (1 + u3)) (.int 1) && K09w.numFrom (.int (1 + u4)) (.int 1))) = true
    rw [numFrom_of (by omega) (by omega), numFrom_of (by omega) (by omega)]
    rfl
  have wk : K09w.isWorks (wk4 ks es [.int v2, .int (1 + v3)] [.tuple [.int (2 + v1), .int v4, .int (1 + v5)], .tuple [.int (1 + v7), .int (2 + v1 + v6), .int (1 + v8), .int v9], .tuple [.int u1, .int (1 + u2)], .tuple [.int (1 + u3), .int (1 + u4)], .int (1 + u5)]) = true := by
    show (true && ((K09w.isKinds (.tuple ks) && (K09w.isCopying (.tuple [.tuple es, .int v2, .int (1 + v3)]) && K09w.isAgreeing (.tuple [.int (2 + v1), .int v4, .int (1 + v5)]))) && (K09w.isBounds (.tuple [.int (1 + v7), .int (2 + v1 + v6), .int (1 + v8), .int v9]) (.int (2 + v1)) && (K09w.isSpring (.tuple [.int u1, .int (1 + u2)]) && (K09w.isFoe (.tuple [.int (1 + u3), .int (1 + u4)]) && K09w.numFrom (.int (1 + u5)) (.int 1)))))) = true
    rw [k1, c1, g1, d1, s1, f1, numFrom_of (by omega) (by omega)]
    rfl
  have hd : ∀ k ∈ ks, ∃ x q, k = .tuple (.str x :: q) := fun k m => let ⟨x, qs, q, e, _⟩ := hk k m; ⟨x, _, e⟩
  have up : ∀ {qs : List D}, AsksOk xs qs → ∀ q ∈ qs, ∃ x n, q = .tuple [.str x, n] ∧ x ∈ ks.map nameOf := fun o q m => by
    obtain ⟨x, n, e, hx⟩ := o.of q m
    rw [← hnm] at hx
    exact ⟨x, n, e, hx⟩
  rw [K09w.judged_ok wk]
  generalize ([.tuple [.int (2 + v1), .int v4, .int (1 + v5)], .tuple [.int (1 + v7), .int (2 + v1 + v6), .int (1 + v8), .int v9], .tuple [.int u1, .int (1 + u2)], .tuple [.int (1 + u3), .int (1 + u4)], .int (1 + u5)] : List D) = r
  unfold K09w.verdict
  have l1 : K09w.lackK (wk4 ks es [.int v2, .int (1 + v3)] r) = none := K09w.fst_none fun j hj => by
    have hj : j < ks.length := hj
    have e : ks.getD j .none = ks[j]'hj := by rw [List.getD_eq_getElem?_getD, List.getElem?_eq_getElem hj]; rfl
    obtain ⟨x, qs, q, e2, o, _⟩ := hk _ (List.getElem_mem hj)
    show (K09w.lackJ (wk4 ks es [.int v2, .int (1 + v3)] r) (K09w.asksOf (ks.getD j .none))).isSome = false
    rw [e, e2, show K09w.asksOf (.tuple (.str x :: .tuple qs :: q)) = qs from rfl, lack_none hd (up o)]
    rfl
  rw [l1]
  show K09w.isTold (match K09w.lackJ (wk4 ks es [.int v2, .int (1 + v3)] r) es with
    | some j => K09w.Verd.no "copying" (.int (j : Int))
    | none => .told) = true
  rw [lack_none hd (up hao)]
  rfl
section
variable {Pg : Program} {w : World} {K : PySem.W.Frag} {mg : Str → Option Value} {base : Heap} {f : Addr} {fd : FuncData}
theorem ok_plant (F : Fun K "_law_plant" "_law_plant" s__law_plant f fd) (T : Txt mg) (C__law_draw : LDraw Pg w K mg base) (C__law_asks : LAsks Pg w K mg base) (C__law_made_kind : LMade Pg w K mg base) :
    FnG Pg w K mg base 4 f fd ["_law_feed_here", "_law_words", "_law_strange"] (PmF nm K 2 prePlant fun _ d => postPlant d) := by
  have nd := sc__law_plant.nd
  refine fnG_of F sc__law_plant pm_len (fun cdv A ou s H vs Q hgd hr h => ?_)
  refine ⟨_, (pss_cons (ps_set (i := 3) nd rfl (Or.inr rfl) (pe_callB (r := rSortedA K) cr_sortedA (by rfl) T.b_sorted (by decide +kernel) (pa_cons (pe_op (r := rAdd4 K) opAdd (pv 1) (pv 2)) pa_nil)) (hf := Or.inl rfl)) (pss_cons (ps_set (i := 4) nd rfl (Or.inl rfl) (pe_callTy (r := rTupleOf K) call_tuple_of (by rfl) T.b_tuple (by decide +kernel) (pa_cons (pe_lc (own := [("_law_word", 12)]) (g := gName 12) rfl nd (pi_list (pv 1)) (blkOk_by (N := ["_law_feed_here", "_law_words", "_law_strange", "_law_pool", "_law_kinds", "_law_many", "_law_copying", "_law_agreeing", "_law_sheets", "_law_limits", "_law_flow", "_law_foe", "_law_word"]) (sc := (defScope s__law_plant)) (by decide +kernel)) (fun _ _ _ _ _ => (pg_name (i := 12) nd rfl (Or.inl rfl) (Or.inr rfl))) (fun _ _ _ _ _ => pts_nil) (fun _ _ _ _ _ => (pe_fn C__law_made_kind hgd (hr.mono (by first | decide | omega)) rfl (pa_cons (pv 0) (pa_cons (pv 12) (pa_cons (pv 3) pa_nil)))))) pa_nil)) (hf := Or.inl rfl)) (pss_cons (ps_set (i := 5) nd rfl (Or.inl rfl) (pe_op (r := rAdd4 K) opAdd pe_int (pe_fn C__law_draw hgd (hr.mono (by first | decide | omega)) rfl (pa_cons (pv 0) (pa_cons pe_int pa_nil)))) (hf := Or.inl rfl)) (pss_cons (ps_set (i := 6) nd rfl (Or.inl rfl) (pe_tup (pa_cons (pe_fn C__law_asks hgd (hr.mono (by first | decide | omega)) rfl (pa_cons (pv 0) (pa_cons (pv 3) pa_nil))) (pa_cons (pe_fn C__law_draw hgd (hr.mono (by first | decide | omega)) rfl (pa_cons (pv 0) (pa_cons pe_int pa_nil))) (pa_cons (pe_op (r := rAdd4 K) opAdd pe_int (pe_fn C__law_draw hgd (hr.mono (by first | decide | omega)) rfl (pa_cons (pv 0) (pa_cons pe_int pa_nil)))) pa_nil)))) (hf := Or.inl rfl)) (pss_cons (ps_set (i := 7) nd rfl (Or.inl rfl) (pe_tup (pa_cons (pv 5) (pa_cons (pe_fn C__law_draw hgd (hr.mono (by first | decide | omega)) rfl (pa_cons (pv 0) (pa_cons pe_int pa_nil))) (pa_cons (pe_op (r := rAdd4 K) opAdd pe_int (pe_fn C__law_draw hgd (hr.mono (by first | decide | omega)) rfl (pa_cons (pv 0) (pa_cons pe_int pa_nil)))) pa_nil)))) (hf := Or.inl rfl)) (pss_cons (ps_set (i := 8) nd rfl (Or.inl rfl) (pe_op (r := rAdd4 K) opAdd (pv 5) (pe_fn C__law_draw hgd (hr.mono (by first | decide | omega)) rfl (pa_cons (pv 0) (pa_cons (pe_op opSub pe_int (pv 5)) pa_nil)))) (hf := Or.inl rfl)) (pss_cons (ps_set (i := 9) nd rfl (Or.inl rfl) (pe_tup (pa_cons (pe_op (r := rAdd4 K) opAdd pe_int (pe_fn C__law_draw hgd (hr.mono (by first | decide | omega)) rfl (pa_cons (pv 0) (pa_cons pe_int pa_nil)))) (pa_cons (pv 8) (pa_cons (pe_op (r := rAdd4 K) opAdd pe_int (pe_fn C__law_draw hgd (hr.mono (by first | decide | omega)) rfl (pa_cons (pv 0) (pa_cons pe_int pa_nil)))) (pa_cons (pe_fn C__law_draw hgd (hr.mono (by first | decide | omega)) rfl (pa_cons (pv 0) (pa_cons pe_int pa_nil))) pa_nil))))) (hf := Or.inl rfl)) (pss_cons (ps_par (i := 10) (j := 11) rfl nd rfl rfl (by decide) rfl rfl (pa_cons (pe_tup (pa_cons (pe_fn C__law_draw hgd (hr.mono (by first | decide | omega)) rfl (pa_cons (pv 0) (pa_cons pe_int pa_nil))) (pa_cons (pe_op (r := rAdd4 K) opAdd pe_int (pe_fn C__law_draw hgd (hr.mono (by first | decide | omega)) rfl (pa_cons (pv 0) (pa_cons pe_int pa_nil)))) pa_nil))) (pa_cons (pe_tup (pa_cons (pe_op (r := rAdd4 K) opAdd pe_int (pe_fn C__law_draw hgd (hr.mono (by first | decide | omega)) rfl (pa_cons (pv 0) (pa_cons pe_int pa_nil)))) (pa_cons (pe_op (r := rAdd4 K) opAdd pe_int (pe_fn C__law_draw hgd (hr.mono (by first | decide | omega)) rfl (pa_cons (pv 0) (pa_cons pe_int pa_nil)))) pa_nil))) pa_nil)) (by rfl)) (pss_one (ps_ret (pe_tup (pa_cons (pv 4) (pa_cons (pv 6) (pa_cons (pv 7) (pa_cons (pv 9) (pa_cons (pv 10) (pa_cons (pv 11) (pa_cons (pe_op (r := rAdd4 K) opAdd pe_int (pe_fn C__law_draw hgd (hr.mono (by first | decide | omega)) rfl (pa_cons (pv 0) (pa_cons pe_int pa_nil)))) pa_nil)))))))))))))))))), bodyF (by decide) h fun a l cs F0 ds hl ⟨xs, hd, ⟨hx3, bx, hst⟩, hx1⟩ => ?_⟩
  have hnd := sl_nodup hst
  subst hd
  change Sx K (feedW nm a l cs) H F0 _ [.rf (.ref a), .dat (.list (xs.map .str)), .dat (.list []), .un, .un, .un, .un, .un, .un, .un, .un, .un, .un] _
  refine sx_seq (sx_asg (Ev.mono (P := fun s => ∃ ms : List Str, s = .dat (.list (ms.map .str)) ∧ Wd3 ms ∧ ∀ x ∈ ms, x ∈ xs) ?_ ?_))
  · walk_at "go"
    refine ops_catF (.inl rfl) (.inl rfl) (big_line (by rw [List.length_map]; show xs.length + 0 ≤ _; omega)) ?_
    refine ea_nil (cas_sortS (ns := xs) (.inl (by rw [List.append_nil])) (by omega) fun ms hp hsr => ?_)
    exact ⟨ms, rfl, ⟨by rw [hp.length_eq]; exact hx3, (fun x m => bx x (hp.mem_iff.mp m)), sorted_pw hsr (hp.nodup_iff.mpr hnd)⟩, fun x m => hp.mem_iff.mp m⟩
  rintro _ ⟨ms, rfl, hw, hmx⟩
  refine ⟨trivial, ?_⟩
  change Sx K (feedW nm a l cs) H F0 _ [.rf (.ref a), .dat (.list (xs.map .str)), .dat (.list []), .dat (.list (ms.map .str)), .un, .un, .un, .un, .un, .un, .un, .un, .un] _
  refine sx_seq (sx_asg (Ev.mono (P := fun s => ∃ ks, s = .dat (.tuple ks) ∧ names ks = xs ∧ (∀ z ∈ ks, ∃ x qs q, z = .tuple (.str x :: .tuple qs :: q) ∧ AsksOk xs qs ∧ K09w.isKind z = true) ∧ Bds big1 288 3 ks) ?_ ?_))
  · refine ev_cb (ea_cons (ev_frz (evn_lc (fun es i acc => es = xs.map .str ∧ Bds big1 (96 * i) 3 acc ∧ names acc = xs.take i ∧ ∀ z ∈ acc, ∃ x qs q, z = .tuple (.str x :: .tuple qs :: q) ∧ AsksOk xs qs ∧ K09w.isKind z = true) (evi_list (ev_varx ⟨_, rfl, xs.map .str, rfl, ?_, ⟨rfl, bds_nil, rfl, fun x m => (nomatch m)⟩, ?_, ?_⟩)))))
    · rw [List.length_map, sizeLine_eq]
      omega
    · rintro i z acc hz ⟨_, ha, hai, hat⟩
      obtain ⟨x, hxm, rfl⟩ := List.mem_map.mp (List.mem_of_getElem? hz)
      refine gc_name (by decide) trivial ?_
      walk_at "go"
      refine ev_fnF ?_
      walk_at "go"
      refine ⟨[_, _], rfl, rfl, ⟨x, ms, rfl, bx x hxm, hw⟩, fun d hd => ?_⟩
      obtain ⟨es, q, rfl, hao, he, hik⟩ := hd x ms rfl
      have hx' : xs[i]? = some x := by
        rw [List.getElem?_map] at hz
        rcases e : xs[i]? with _ | y
        · rw [e] at hz
          cases hz
        · rw [e] at hz
          injection hz with hz
          injection hz with hz
          rw [hz]
      refine ⟨_, rfl, rfl, (bds_app ha (bds_one (bd_tup.mpr he))).mono (Nat.le_refl _) (by omega) (Nat.le_refl _), ?_, fun y m => ?_⟩
      · unfold names at hai ⊢
        rw [List.map_append, hai, List.take_add_one, hx']
        rfl
      · rcases List.mem_append.mp m with m | m
        · exact hat y m
        · rw [List.mem_singleton.mp m]
          exact ⟨x, es, q, rfl, ⟨hao.len, hao.nd, fun q mq => let ⟨y, n, e, hy⟩ := hao.of q mq; ⟨y, n, e, hmx y hy⟩⟩, hik⟩
    · rintro acc ⟨_, ha, hai, hat⟩
      rw [List.length_map] at ha hai
      rw [List.take_length] at hai
      exact ea_nil (cas_tuple (.inr (.inl rfl)) ⟨acc, rfl, hai, hat, ha.mono (Nat.le_refl _) (by omega) (Nat.le_refl _)⟩)
  rintro _ ⟨ks, rfl, hnm, hat, hk⟩
  refine ⟨trivial, ?_⟩
  change Sx K (feedW nm a l cs) H F0 _ [.rf (.ref a), .dat (.list (xs.map .str)), .dat (.list []), .dat (.list (ms.map .str)), .dat (.tuple ks), .un, .un, .un, .un, .un, .un, .un, .un] _
  walk_at "go"
  refine ev_draw ?_
  walk_at "go"
  refine ⟨⟨by decide, by decide⟩, fun v1 v10 v11 => ?_⟩
  walk_at "go"
  refine ev_fnF ?_
  walk_at "go"
  refine ⟨[_], rfl, rfl, ⟨ms, rfl, hw⟩, fun d hd => ?_⟩
  obtain ⟨es, rfl, hao, he, hia⟩ := hd ms rfl
  walk_at "go"
  refine ev_draw ?_
  walk_at "go"
  refine ⟨⟨by decide, by decide⟩, fun v2 v20 v21 => ?_⟩
  walk_at "go"
  refine ev_draw ?_
  walk_at "go"
  refine ⟨⟨by decide, by decide⟩, fun v3 v30 v31 => ?_⟩
  walk_at "go"
  refine ev_draw ?_
  walk_at "go"
  refine ⟨⟨by decide, by decide⟩, fun v4 v40 v41 => ?_⟩
  walk_at "go"
  refine ev_draw ?_
  walk_at "go"
  refine ⟨⟨by decide, by decide⟩, fun v5 v50 v51 => ?_⟩
  walk_at "go"
  refine ev_draw ?_
  walk_at "go"
  refine ⟨⟨by omega, by omega⟩, fun v6 v60 v61 => ?_⟩
  walk_at "go"
  refine ev_draw ?_
  walk_at "go"
  refine ⟨⟨by decide, by decide⟩, fun v7 v70 v71 => ?_⟩
  walk_at "go"
  refine ev_draw ?_
  walk_at "go"
  refine ⟨⟨by decide, by decide⟩, fun v8 v80 v81 => ?_⟩
  walk_at "go"
  refine ev_draw ?_
  walk_at "go"
  refine ⟨⟨by decide, by decide⟩, fun v9 v90 v91 => ?_⟩
  walk_at "go"
  refine sx_par ?_
  walk_at "go"
  refine ev_draw ?_
  walk_at "go"
  refine ⟨⟨by decide, by decide⟩, fun u1 u10 u11 => ?_⟩
  walk_at "go"
  refine ev_draw ?_
  walk_at "go"
  refine ⟨⟨by decide, by decide⟩, fun u2 u20 u21 => ?_⟩
  walk_at "go"
  refine ev_draw ?_
  walk_at "go"
  refine ⟨⟨by decide, by decide⟩, fun u3 u30 u31 => ?_⟩
  walk_at "go"
  refine ev_draw ?_
  walk_at "go"
  refine ⟨⟨by decide, by decide⟩, fun u4 u40 u41 => ?_⟩
  walk_at "go"
  refine ev_draw ?_
  walk_at "go"
  refine ⟨⟨by decide, by decide⟩, fun u5 u50 u51 => ?_⟩
  walk_at "go"
  have up : ∀ {qs : List D}, AsksOk xs qs → AsksOk (names ks) qs := fun h => by rw [hnm]; exact h
  refine ⟨⟨ks, es, _, _, rfl, ⟨by rw [← hnm] at hx3; unfold names at hx3; rwa [List.length_map] at hx3, fun z m => ?_, by rw [hnm]; exact fun x m => (bx x m).1, by rw [hnm]; exact hst, up ⟨hao.len, hao.nd, fun q mq => let ⟨y, n, e, hy⟩ := hao.of q mq; ⟨y, n, e, hmx y hy⟩⟩, ?_⟩⟩, ?_⟩
  rotate_right
  · exact whole_of hnm hst (by rw [← hnm] at hx1; unfold names at hx1; rwa [List.length_map] at hx1) hat hia ⟨hao.len, hao.nd, fun q mq => let ⟨y, n, e, hy⟩ := hao.of q mq; ⟨y, n, e, hmx y hy⟩⟩ v10 v20 v30 v40 v50 v60 v70 v80 v90 u10 u20 u30 u40 u50
  · obtain ⟨x, qs, q, e, ho, _⟩ := hat z m
    exact ⟨x, qs, q, e, up ho⟩
  have i := fun {n : Nat} {i : Int} (h0 : 0 ≤ i) (h1 : i < 16) => bd_i (k := big1) (n := n) w15 h0 h1
  have p1 : Bd big1 288 4 (.tuple ks) := bd_tup.mpr hk
  have p2 := bt3 (w := 80) (bd_tup.mpr he) (i (i := v2) v20 (by omega)) (i (i := 1 + v3) (by omega) (by omega)) (by decide)
  have p3 := bt3 (w := 20) (n := 0) (i (i := 2 + v1) (by omega) (by omega)) (i (i := v4) v40 (by omega)) (i (i := 1 + v5) (by omega) (by omega)) (by decide)
  have p4 : Bd big1 20 1 (.tuple [.int (1 + v7), .int (2 + v1 + v6), .int (1 + v8), .int v9]) := bd_tup.mpr (bds_cons (i (i := 1 + v7) (by omega) (by omega)) (bds_cons (i (i := 2 + v1 + v6) (by omega) (by omega)) (bds_cons (i (i := 1 + v8) (by omega) (by omega)) (bds_one (i (i := v9) v90 (by omega))))))
  have p5 := bt2 (w := 20) (n := 0) (i (i := u1) u10 (by omega)) (i (i := 1 + u2) (by omega) (by omega)) (by decide)
  have p6 := bt2 (w := 20) (n := 0) (i (i := 1 + u3) (by omega) (by omega)) (i (i := 1 + u4) (by omega) (by omega)) (by decide)
  refine Bd.mono (k := big1) (w := 600) (n := 6) ?_ (by decide +kernel) (Nat.le_refl _) (Nat.le_refl _)
  refine bd_tup.mpr ((bds_cons (p1.mono (Nat.le_refl _) (Nat.le_refl _) ?_) (bds_cons (p2.mono (Nat.le_refl _) (Nat.le_refl _) ?_) (bds_cons (p3.mono (Nat.le_refl _) (Nat.le_refl _) ?_) (bds_cons (p4.mono (Nat.le_refl _) (Nat.le_refl _) ?_) (bds_cons (p5.mono (Nat.le_refl _) (Nat.le_refl _) ?_) (bds_cons (p6.mono (Nat.le_refl _) (Nat.le_refl _) ?_) (bds_one (i (i := 1 + u5) (by omega) (by omega)))))))) ).mono (Nat.le_refl _) (by decide) (Nat.le_refl _))
  all_goals decide
end
end K09

namespace K09
open PySem L2 RZ DL
/-! the walk by data -/
local macro_rules | `(tactic| walk_at "dl") => `(tactic| first
  | with_reducible first
    | refine sx_seq ?_ | refine sx_if ?_ | refine sx_next ?_
    | refine et_not ?_ | refine et_B ?_ | refine et_test ?_ | refine et_and ?_ | refine et_or ?_ | refine et_yes ?_
    | refine ev_and ?_ | refine ev_or ?_ | refine ev_not ?_ | refine ev_if ?_ | refine ev_chain ?_
    | refine ev_int ?_ | refine ev_bl ?_ | refine ev_str ?_ | refine ev_non ?_ | refine ev_c ?_
    | refine ev_op ?_ | refine ev_un ?_ | refine ev_cb ?_ | refine ev_fn1 ?_ | refine ev_fn2 ?_ | refine ev_sl ?_ | refine eo_none ?_ | refine eo_some ?_ | refine ev_tup ?_
    | refine ea_cons ?_ | refine ea_nil ?_
    | refine ops_ge ?_ | refine ops_le ?_ | refine ops_gt ?_ | refine ops_lt ?_ | refine ops_leS ?_ | refine ops_ltS ?_ | refine ops_add_int ?_ | refine ops_sub ?_ | refine ops_isN ?_ | refine ops_isNot ?_ | refine ops_eq_int ?_ | refine ops_eqS ?_ | refine ops_neS ?_
    | refine cas_len_tup ?_ | refine cas_isi_int ?_ | refine cas_isi_bool ?_ | refine cas_isi_str ?_ | refine cas_isi_tup ?_ | refine cas_isi_lst ?_
    | refine iteT ?_ | refine iteF ?_ | refine and_nols ?_
  | ((with_reducible refine ev_varx ?_); refine ⟨_, rfl, ?_⟩)
  | ((with_reducible refine ops_ix_tupx ?_); first | refine ⟨_, rfl, ?_⟩ | refine ⟨_, atI_nat (j := 0) rfl, ?_⟩ | refine ⟨_, atI_nat (j := 1) rfl, ?_⟩ | refine ⟨_, atI_nat (j := 2) rfl, ?_⟩ | refine ⟨_, atI_nat (j := 3) rfl, ?_⟩ | refine ⟨_, atI_nat (j := 4) rfl, ?_⟩ | refine ⟨_, atI_nat (j := 5) rfl, ?_⟩ | refine ⟨_, atI_nat (j := 6) rfl, ?_⟩)
  | ((with_reducible refine sz_and ?_ ?_); exact rfl)
  | ((with_reducible refine ev_ownx ?_); refine ⟨_, rfl, ?_⟩)
  | ((with_reducible refine ev_refx ?_); refine ⟨_, rfl, ?_⟩)
  | (with_reducible refine sxn_seq ?_) | (with_reducible refine uns_neg ?_) | (with_reducible refine ev_frz (evn_lst ?_)) | (with_reducible refine sls_tup ?_) | (refine ev_revT ?_)
  | ((refine sx_extx ?_); refine ⟨_, rfl, ?_⟩) | ((with_reducible refine ops_add_tup ?_ ?_); exact le_line rfl) | (with_reducible refine cas_listT ?_)
  | ((with_reducible refine ifT ?_ ?_); exact rfl) | ((with_reducible refine ifF ?_ ?_); exact rfl))
local macro_rules | `(tactic| walk_at "go") => `(tactic| repeat (first | walk_at "dl" | with_reducible refine ⟨_, rfl, ?_⟩ | with_reducible refine ⟨_, _, rfl, ?_⟩))
/-! ### plants by hand -/
def askT (q : Str × Int) : D := .tuple [.str q.1, .int q.2]
def knd (x : Str) (qs : List (Str × Int)) (a b c d : Int) : D := .tuple [.str x, .tuple (qs.map askT), .int a, .int b, .int c, .int d]
def penTail : List D := [.tuple [.int 2, .int 1, .int 1], .tuple [.int 3, .int 3, .int 2, .int 2], .tuple [.int 1, .int 1], .tuple [.int 1, .int 3], .int 1]
def planted (ks : List D) (cs : List (Str × Int)) (a b : Int) : D := .tuple (.tuple ks :: .tuple [.tuple (cs.map askT), .int a, .int b] :: penTail)
def penD : D := planted [knd "pen" [("pen", 1)] 1 1 2 0] [("pen", 1)] 0 1
def ringK : List D := [knd "a" [("cup", 1)] 1 1 1 0, knd "cup" [("rod", 2)] 0 1 1 0, knd "rod" [("a", 1)] 2 1 3 1]
def rowK : List D := [knd "a" [] 1 1 1 0, knd "cup" [("a", 2)] 0 1 1 0, knd "rod" [("a", 1), ("cup", 3)] 2 2 3 1]
def bothK : List D := [knd "a" [("a", 1), ("b", 1)] 1 1 1 0, knd "b" [("a", 1), ("b", 2)] 0 1 1 0]
def handD : List D := [penD, planted ringK [] 0 1, planted ringK [("a", 1)] 0 1, planted rowK [("rod", 1)] 0 1, planted rowK [] 1 2, planted bothK [("a", 1)] 0 1, planted bothK [] 0 1]
def askB (ns : List Str) : D → Bool
  | .tuple [.str x, _] => decide (x ∈ ns)
  | _ => false
def asksB (ns : List Str) (qs : List D) : Bool := (decide (qs.length ≤ 3) && decide ((qs.map nameOf).Nodup)) && qs.all (askB ns)
def kindB (ns : List Str) : D → Bool
  | .tuple (.str _ :: .tuple qs :: _) => asksB ns qs
  | _ => false
instance : DecidableRel sLt := fun x y => inferInstanceAs (Decidable (x.cps.toList < y.cps.toList))
def plantB : D → Bool
  | .tuple (.tuple ks :: .tuple (.tuple cs :: cr) :: r) => decide (ks.length ≤ 3) && ks.all (kindB (names ks)) && ((names ks).all fun x => x.cps.toList.all (fun c => decide (c < 128)) && decide (x.length ≤ 8)) && decide ((names ks).Pairwise sLt) && asksB (names ks) cs
    && okD big (wk4 ks cs cr r) && decide ((wk4 ks cs cr r).weight ≤ 600) && decide ((wk4 ks cs cr r).depth ≤ 6)
  | _ => false
theorem asks_of {ns : List Str} {qs : List D} (h : asksB ns qs = true) : AsksOk ns qs := by
  simp only [asksB, Bool.and_eq_true, decide_eq_true_eq] at h
  refine ⟨h.1.1, h.1.2, fun q m => ?_⟩
  have := List.all_eq_true.mp h.2 q m
  unfold askB at this
  split at this
  · exact ⟨_, _, rfl, of_decide_eq_true this⟩
  · cases this
theorem plant_of {d : D} (h : plantB d = true) : Plant d := by
  unfold plantB at h
  split at h
  · rename_i ks cs cr r
    simp only [Bool.and_eq_true, decide_eq_true_eq] at h
    obtain ⟨⟨⟨⟨⟨⟨⟨h1, h2⟩, h3⟩, h4⟩, h5⟩, h6⟩, h7⟩, h8⟩ := h
    refine ⟨ks, cs, cr, r, rfl, h1, fun k m => ?_, fun x m => ?_, h4, asks_of h5, ⟨h6, h7, h8⟩⟩
    · have := List.all_eq_true.mp h2 k m
      unfold kindB at this
      split at this
      · exact ⟨_, _, _, rfl, asks_of this⟩
      · cases this
    · have := List.all_eq_true.mp h3 x m
      exact bt8 x this
  · cases h
theorem hand_whole : ∀ d ∈ handD, Whole d := fun d m => List.all_eq_true.mp (by decide +kernel : handD.all (fun d => K09w.isTold (K09w.judged d)) = true) d m
theorem hand_ok : ∀ d ∈ handD, Plant d := fun d m => plant_of (List.all_eq_true.mp (by decide +kernel : handD.all plantB = true) d m)
abbrev LPen (Pg : Program) (w : World) (K : PySem.W.Frag) (mg : Str → Option Value) (base : Heap) := Fn Pg w K mg base "_law_pen" 1 [] (Pm K 0 (fun _ _ => True) fun _ _ s => s = .dat penD)
abbrev LHand (Pg : Program) (w : World) (K : PySem.W.Frag) (mg : Str → Option Value) (base : Heap) := Fn Pg w K mg base "_law_by_hand_plants" 2 [] (PmN K 0 (fun _ _ => True) fun L => L = handD)
def preP (d : D) : Prop := Plant d
def goodsV (d : D) : List Gd := goods (kindsOf d)
abbrev LAll (Pg : Program) (w : World) (K : PySem.W.Frag) (mg : Str → Option Value) (base : Heap) := Fn Pg w K mg base "_law_all_goods" 1 ["_law_plant_here"] (Pm1 K Plant fun d => .list (gl (goodsV d)))
section
variable {Pg : Program} {w : World} {K : PySem.W.Frag} {mg : Str → Option Value} {base : Heap} {f : Addr} {fd : FuncData}
theorem ok_pen (F : Fun K "_law_pen" "_law_pen" s__law_pen f fd) (T : Txt mg) : FnG Pg w K mg base 1 f fd [] (Pm K 0 (fun _ _ => True) fun _ _ s => s = .dat penD) := by
  have nd := sc__law_pen.nd
  refine fnG_of F sc__law_pen pm_len (fun cdv A ou s H vs Q hgd hr h => ?_)
  refine ⟨_, (pss_cons (ps_set (i := 0) nd rfl (Or.inl rfl) (pe_tup (pa_cons (pe_tup (pa_cons pe_str (pa_cons (pe_tup (pa_cons (pe_tup (pa_cons pe_str (pa_cons pe_int pa_nil))) pa_nil)) (pa_cons pe_int (pa_cons pe_int (pa_cons pe_int (pa_cons pe_int pa_nil))))))) pa_nil)) (hf := Or.inl rfl)) (pss_one (ps_ret (pe_tup (pa_cons (pv 0) (pa_cons (pe_tup (pa_cons (pe_tup (pa_cons (pe_tup (pa_cons pe_str (pa_cons pe_int pa_nil))) pa_nil)) (pa_cons pe_int (pa_cons pe_int pa_nil)))) (pa_cons (pe_tup (pa_cons pe_int (pa_cons pe_int (pa_cons pe_int pa_nil)))) (pa_cons (pe_tup (pa_cons pe_int (pa_cons pe_int (pa_cons pe_int (pa_cons pe_int pa_nil))))) (pa_cons (pe_tup (pa_cons pe_int (pa_cons pe_int pa_nil))) (pa_cons (pe_tup (pa_cons pe_int (pa_cons pe_int pa_nil))) (pa_cons pe_int pa_nil))))))))))), pm_body (by decide) h fun W F0 ss hl _ => ?_⟩
  match ss, hl with
  | [], _ =>
  change Sx K W H F0 _ [.un] _
  refine sx_seq (sx_asg ?_)
  walk_at "go"
  refine sx_ret ?_
  walk_at "go"
  exact rfl
theorem ok_hand (F : Fun K "_law_by_hand_plants" "_law_by_hand_plants" s__law_by_hand_plants f fd) (T : Txt mg) (C__law_pen : LPen Pg w K mg base) : FnG Pg w K mg base 2 f fd [] (PmN K 0 (fun _ _ => True) fun L => L = handD) := by
  have nd := sc__law_by_hand_plants.nd
  refine fnG_of F sc__law_by_hand_plants pmN_len (fun cdv A ou s H vs Q hgd hr h => ?_)
  refine ⟨_, (pss_cons (ps_set (i := 0) nd rfl (Or.inl rfl) (pe_fn0 C__law_pen hgd (hr.mono (by first | decide | omega)) rfl) (hf := Or.inl rfl)) (pss_cons (ps_set (i := 1) nd rfl (Or.inl rfl) (pe_tup (pa_cons (pe_tup (pa_cons pe_str (pa_cons (pe_tup (pa_cons (pe_tup (pa_cons pe_str (pa_cons pe_int pa_nil))) pa_nil)) (pa_cons pe_int (pa_cons pe_int (pa_cons pe_int (pa_cons pe_int pa_nil))))))) (pa_cons (pe_tup (pa_cons pe_str (pa_cons (pe_tup (pa_cons (pe_tup (pa_cons pe_str (pa_cons pe_int pa_nil))) pa_nil)) (pa_cons pe_int (pa_cons pe_int (pa_cons pe_int (pa_cons pe_int pa_nil))))))) (pa_cons (pe_tup (pa_cons pe_str (pa_cons (pe_tup (pa_cons (pe_tup (pa_cons pe_str (pa_cons pe_int pa_nil))) pa_nil)) (pa_cons pe_int (pa_cons pe_int (pa_cons pe_int (pa_cons pe_int pa_nil))))))) pa_nil)))) (hf := Or.inl rfl)) (pss_cons (ps_set (i := 2) nd rfl (Or.inl rfl) (pe_tup (pa_cons (pe_tup (pa_cons pe_str (pa_cons (pe_tup pa_nil) (pa_cons pe_int (pa_cons pe_int (pa_cons pe_int (pa_cons pe_int pa_nil))))))) (pa_cons (pe_tup (pa_cons pe_str (pa_cons (pe_tup (pa_cons (pe_tup (pa_cons pe_str (pa_cons pe_int pa_nil))) pa_nil)) (pa_cons pe_int (pa_cons pe_int (pa_cons pe_int (pa_cons pe_int pa_nil))))))) (pa_cons (pe_tup (pa_cons pe_str (pa_cons (pe_tup (pa_cons (pe_tup (pa_cons pe_str (pa_cons pe_int pa_nil))) (pa_cons (pe_tup (pa_cons pe_str (pa_cons pe_int pa_nil))) pa_nil))) (pa_cons pe_int (pa_cons pe_int (pa_cons pe_int (pa_cons pe_int pa_nil))))))) pa_nil)))) (hf := Or.inl rfl)) (pss_cons (ps_set (i := 3) nd rfl (Or.inl rfl) (pe_tup (pa_cons (pe_tup (pa_cons pe_str (pa_cons (pe_tup (pa_cons (pe_tup (pa_cons pe_str (pa_cons pe_int pa_nil))) (pa_cons (pe_tup (pa_cons pe_str (pa_cons pe_int pa_nil))) pa_nil))) (pa_cons pe_int (pa_cons pe_int (pa_cons pe_int (pa_cons pe_int pa_nil))))))) (pa_cons (pe_tup (pa_cons pe_str (pa_cons (pe_tup (pa_cons (pe_tup (pa_cons pe_str (pa_cons pe_int pa_nil))) (pa_cons (pe_tup (pa_cons pe_str (pa_cons pe_int pa_nil))) pa_nil))) (pa_cons pe_int (pa_cons pe_int (pa_cons pe_int (pa_cons pe_int pa_nil))))))) pa_nil))) (hf := Or.inl rfl)) (pss_cons (ps_set (i := 4) nd rfl (Or.inl rfl) (pe_lst (pa_cons (pv 0) (pa_cons (pe_op (r := rAdd4 K) opAdd (pe_tup (pa_cons (pv 1) (pa_cons (pe_tup (pa_cons (pe_tup pa_nil) (pa_cons pe_int (pa_cons pe_int pa_nil)))) pa_nil))) (pe_slice (r := rSl3 K) slAny (pv 0) (po_some pe_int) po_none)) (pa_cons (pe_op (r := rAdd4 K) opAdd (pe_tup (pa_cons (pv 1) (pa_cons (pe_tup (pa_cons (pe_tup (pa_cons (pe_tup (pa_cons pe_str (pa_cons pe_int pa_nil))) pa_nil)) (pa_cons pe_int (pa_cons pe_int pa_nil)))) pa_nil))) (pe_slice (r := rSl3 K) slAny (pv 0) (po_some pe_int) po_none)) pa_nil)))) (hf := Or.inl rfl)) (pss_cons (ps_expr (pe_bm PySem.F.plainAttrs_list PySem.F.slot_list_extend PySem.F.type_list_extend mt_extend (pv 4) (pa_cons (pe_lst (pa_cons (pe_op (r := rAdd4 K) opAdd (pe_tup (pa_cons (pv 2) (pa_cons (pe_tup (pa_cons (pe_tup (pa_cons (pe_tup (pa_cons pe_str (pa_cons pe_int pa_nil))) pa_nil)) (pa_cons pe_int (pa_cons pe_int pa_nil)))) pa_nil))) (pe_slice (r := rSl3 K) slAny (pv 0) (po_some pe_int) po_none)) (pa_cons (pe_op (r := rAdd4 K) opAdd (pe_tup (pa_cons (pv 2) (pa_cons (pe_tup (pa_cons (pe_tup pa_nil) (pa_cons pe_int (pa_cons pe_int pa_nil)))) pa_nil))) (pe_slice (r := rSl3 K) slAny (pv 0) (po_some pe_int) po_none)) pa_nil))) pa_nil))) (pss_one (ps_ret (pe_op (r := rAdd4 K) opAdd (pv 4) (pe_lst (pa_cons (pe_op (r := rAdd4 K) opAdd (pe_tup (pa_cons (pv 3) (pa_cons (pe_tup (pa_cons (pe_tup (pa_cons (pe_tup (pa_cons pe_str (pa_cons pe_int pa_nil))) pa_nil)) (pa_cons pe_int (pa_cons pe_int pa_nil)))) pa_nil))) (pe_slice (r := rSl3 K) slAny (pv 0) (po_some pe_int) po_none)) (pa_cons (pe_op (r := rAdd4 K) opAdd (pe_tup (pa_cons (pv 3) (pa_cons (pe_tup (pa_cons (pe_tup pa_nil) (pa_cons pe_int (pa_cons pe_int pa_nil)))) pa_nil))) (pe_slice (r := rSl3 K) slAny (pv 0) (po_some pe_int) po_none)) pa_nil)))))))))))), pmN_body (by decide) h fun W F0 ss hl _ => ?_⟩
  match ss, hl with
  | [], _ =>
  change SxN K W H F0 _ [.un, .un, .un, .un, .un] _
  refine sxn_seq (sx_asg (ev_fn (ea_nil ⟨fun s m => (nomatch m), rfl, trivial, fun s hs => ?_⟩)))
  subst hs
  refine ⟨trivial, ?_⟩
  refine sxn_seq (sx_asg ?_)
  walk_at "go"
  refine sx_asg ?_
  walk_at "go"
  refine sx_asg ?_
  walk_at "go"
  change Sx K W H F0 _ [.dat penD, .dat (.tuple ringK), .dat (.tuple rowK), .dat (.tuple bothK), .un] _
  have tp : penD = .tuple (.tuple [knd "pen" [("pen", 1)] 1 1 2 0] :: .tuple [.tuple [askT ("pen", 1)], .int 0, .int 1] :: penTail) := rfl
  rw [tp]
  refine sx_asgN (evn_lst ?_)
  walk_at "go"
  repeat (refine sls_tup ?_; walk_at "go")
  change SxN K W H F0 _ [.dat penD, .dat (.tuple ringK), .dat (.tuple rowK), .dat (.tuple bothK), .ls [penD, planted ringK [] 0 1, planted ringK [("a", 1)] 0 1, planted rowK [("rod", 1)] 0 1, planted rowK [] 1 2]] _
  rw [tp]
  refine sxn_retE (evn_cat ?_)
  walk_at "go"
  repeat (refine sls_tup ?_; walk_at "go")
  refine ⟨_, _, .inr rfl, .inl rfl, le_line (n := 7) rfl, ?_⟩
  rfl
theorem names_pair (x : Str) {ks cs cr r : List D} (p : PlantOk ks cs cr r) : ks.map (fun k => (PyData.tuple [.str x, .str (nameOf k)])) = gl ((names ks).map fun y => (x, y)) := by
  unfold gl names
  rw [List.map_map, List.map_map]
  rfl
end
/-! ### a stock -/
def postStock (ds : List D) (r : D) : Prop := ∀ d, ds = [d] → ∃ S : List Gd, r = .tuple (gl S) ∧ S.length ≤ 6 ∧ ∀ g ∈ S, g ∈ goodsV d
abbrev LStock (Pg : Program) (w : World) (K : PySem.W.Frag) (mg : Str → Option Value) (base : Heap) := Fn Pg w K mg base "_law_stock" 2 ["_law_feed_here", "_law_plant_here"] (PmF nm K 1 (fun ds => ∃ d, ds = [d] ∧ Plant d) postStock)
section
variable {Pg : Program} {w : World} {K : PySem.W.Frag} {mg : Str → Option Value} {base : Heap} {f : Addr} {fd : FuncData}
end
end K09

namespace K09
open PySem L2 RZ DL
/-! the walk by data -/
local macro_rules | `(tactic| walk_at "dl") => `(tactic| first
  | with_reducible first
    | refine sx_seq ?_ | refine sx_if ?_ | refine sx_next ?_
    | refine et_not ?_ | refine et_B ?_ | refine et_test ?_ | refine et_and ?_ | refine et_or ?_ | refine et_yes ?_
    | refine ev_and ?_ | refine ev_or ?_ | refine ev_not ?_ | refine ev_if ?_ | refine ev_chain ?_
    | refine ev_int ?_ | refine ev_bl ?_ | refine ev_str ?_ | refine ev_non ?_ | refine ev_c ?_
    | refine ev_op ?_ | refine ev_un ?_ | refine ev_cb ?_ | refine ev_fn1 ?_ | refine ev_fn2 ?_ | refine ev_sl ?_ | refine eo_none ?_ | refine eo_some ?_ | refine ev_tup ?_
    | refine ea_cons ?_ | refine ea_nil ?_
    | refine ops_ge ?_ | refine ops_le ?_ | refine ops_gt ?_ | refine ops_lt ?_ | refine ops_leS ?_ | refine ops_ltS ?_ | refine ops_add_int ?_ | refine ops_sub ?_ | refine ops_isN ?_ | refine ops_isNot ?_ | refine ops_eq_int ?_ | refine ops_eqS ?_ | refine ops_neS ?_
    | refine cas_len_tup ?_ | refine cas_isi_int ?_ | refine cas_isi_bool ?_ | refine cas_isi_str ?_ | refine cas_isi_tup ?_ | refine cas_isi_lst ?_
    | refine iteT ?_ | refine iteF ?_ | refine and_nols ?_
  | ((with_reducible refine ev_varx ?_); refine ⟨_, rfl, ?_⟩)
  | ((with_reducible refine ops_ix_tupx ?_); first | refine ⟨_, rfl, ?_⟩ | refine ⟨_, atI_nat (j := 0) rfl, ?_⟩ | refine ⟨_, atI_nat (j := 1) rfl, ?_⟩ | refine ⟨_, atI_nat (j := 2) rfl, ?_⟩ | refine ⟨_, atI_nat (j := 3) rfl, ?_⟩ | refine ⟨_, atI_nat (j := 4) rfl, ?_⟩ | refine ⟨_, atI_nat (j := 5) rfl, ?_⟩ | refine ⟨_, atI_nat (j := 6) rfl, ?_⟩)
  | ((with_reducible refine sz_and ?_ ?_); exact rfl)
  | ((with_reducible refine ev_ownx ?_); refine ⟨_, rfl, ?_⟩)
  | ((with_reducible refine ev_refx ?_); refine ⟨_, rfl, ?_⟩)
  | (with_reducible refine sxn_seq ?_) | (with_reducible refine uns_neg ?_) | (with_reducible refine ev_frz (evn_lst ?_)) | (with_reducible refine sls_tup ?_) | (refine ev_revT ?_)
  | ((refine sx_extx ?_); refine ⟨_, rfl, ?_⟩) | ((with_reducible refine ops_add_tup ?_ ?_); exact le_line rfl) | (with_reducible refine cas_listT ?_)
  | ((with_reducible refine ifT ?_ ?_); exact rfl) | ((with_reducible refine ifF ?_ ?_); exact rfl))
local macro_rules | `(tactic| walk_at "go") => `(tactic| repeat (first | walk_at "dl" | with_reducible refine ⟨_, rfl, ?_⟩ | with_reducible refine ⟨_, _, rfl, ?_⟩))
/-! ### promises of three -/
abbrev Pm3 (K : PySem.W.Frag) (p : D → D → D → Prop) (f : D → D → D → D) : Sp := Pm K 3 (fun _ ss => ∃ d e g, ss = [.dat d, .dat e, .dat g] ∧ p d e g) (fun _ ss s => ∀ d e g, ss = [.dat d, .dat e, .dat g] → s = .dat (f d e g))
section
variable {K : PySem.W.Frag} {W : Wd} {H0 : Hp} {ρ : Rho} {P : Sl → Prop} {t : TA}
theorem ev_fn3 {p : D → D → D → Prop} {f : D → D → D → D} (h : EvA K W H0 t ρ fun ss => ∃ d e g, ss = [.dat d, .dat e, .dat g] ∧ p d e g ∧ P (.dat (f d e g))) : Ev K W H0 (tFn (Pm3 K p f) t) ρ P :=
  ev_fn fun σ F H o ho Q q => h σ F H o ho Q fun vs F' H' ss o' st hv ⟨d, e, g, es, hp, k⟩ => q vs F' H' ss o' st hv (by
    subst es
    exact ⟨by simp [NoLs], rfl, ⟨d, e, g, rfl, hp⟩, fun s hs => by rw [hs d e g rfl]; exact k⟩)
theorem body3 {N : List Str} {ts : TS} {vs : List V} {H : Hp} {Q : VK} {E : XK} {p : D → D → D → Prop} {f : D → D → D → D} (hN : 3 ≤ N.length) (h : Pm3 K p f vs H Q E)
    (b : ∀ (W : Wd) (F : Hp) (d e g : D), p d e g → Sx K W H F ts (.dat d :: .dat e :: .dat g :: List.replicate (N.length - 3) .un) { nx := fun _ => f d e g = .none, rt := fun s => s = .dat (f d e g) }) : ts { nx := fun _ H' => Q .non H', rt := Q } (L2.start N vs) H :=
  pm_body hN h fun W F ss _ ⟨d, d2, d3, e, hp⟩ => by
    subst e
    exact (b W F d d2 d3 hp).mono (fun _ e d' d2' d3' e' => by cases e'; rw [e]) (fun s e d' d2' d3' e' => by cases e'; exact e) (fun _ f => f) fun _ f => f
end
theorem gl_inj {as bs : List Gd} (h : gl as = gl bs) : as = bs := by
  have := congrArg (List.map unG) h
  rwa [un_gl, un_gl] at this
theorem gl_app (as bs : List Gd) : gl (as ++ bs) = gl as ++ gl bs := List.map_append
theorem gl_get {gs : List Gd} {i : Nat} {z : D} (h : (gl gs)[i]? = some z) : ∃ g, gs[i]? = some g ∧ z = gD g := by
  unfold gl at h
  rw [List.getElem?_map] at h
  rcases e : gs[i]? with _ | g
  · rw [e] at h
    cases h
  · rw [e] at h
    exact ⟨g, rfl, (Option.some.inj h).symm⟩
/-! ### the kind of a name, goods, what they hang straight on -/
def strOf : D → Str
  | .str x => x
  | _ => ""
def straightV (d : D) (g : Gd) : List Gd := straight (kindsOf d) (copyAsks d) g
def preK (d e : D) : Prop := Plant d ∧ ∃ x, e = .str x
def preS (d e : D) : Prop := Plant d ∧ ∃ g, e = gD g ∧ g ∈ goodsV d
def preW (d e f : D) : Prop := Plant d ∧ (∃ g, e = gD g ∧ g ∈ goodsV d) ∧ ∃ T : List Gd, (f = .tuple (gl T) ∨ f = .list (gl T)) ∧ (∀ g ∈ T, okG g) ∧ T.length ≤ 100
def withinV (d : D) (T : List Gd) (g : Gd) : Bool := (straightV d g).all fun o => decide (o ∈ T)
abbrev CCalled (Pg : Program) (w : World) (K : PySem.W.Frag) (mg : Str → Option Value) (base : Heap) := Fn Pg w K mg base "kind_called" 1 ["works", "name"] (Pm2 K preK fun d e => kindAt (kindsOf d) (strOf e))
abbrev CGoods (Pg : Program) (w : World) (K : PySem.W.Frag) (mg : Str → Option Value) (base : Heap) := Fn Pg w K mg base "goods_of" 1 ["works"] (Pm1 K Plant fun d => .tuple (gl (goodsV d)))
abbrev CStraight (Pg : Program) (w : World) (K : PySem.W.Frag) (mg : Str → Option Value) (base : Heap) := Fn Pg w K mg base "hangs_straight" 2 ["works", "good"] (Pm2 K preS fun d e => .tuple (gl (straightV d (unG e))))
abbrev CWithin (Pg : Program) (w : World) (K : PySem.W.Frag) (mg : Str → Option Value) (base : Heap) := Fn Pg w K mg base "hangs_within" 3 ["works", "good", "there"] (Pm3 K preW fun d e f => .bool (withinV d (unL f) (unG e)))
theorem find_at {α : Type} {p : α → Bool} : ∀ {l : List α} {i : Nat} {z : α}, l[i]? = some z → p z = true → (∀ j < i, ∀ k, l[j]? = some k → p k = false) → l.find? p = some z
  | [], i, z, h, _, _ => by simp at h
  | a :: l, 0, z, h, hp, _ => by
    obtain rfl := Option.some.inj h
    rw [List.find?_cons, hp]
  | a :: l, i + 1, z, h, hp, hn => by
    rw [List.find?_cons, hn 0 (Nat.succ_pos _) a rfl]
    exact find_at (l := l) (i := i) h hp fun j hj k hk => hn (j + 1) (Nat.succ_lt_succ hj) k hk
theorem find_no {α : Type} {p : α → Bool} {l : List α} (h : ∀ j < l.length, ∀ k, l[j]? = some k → p k = false) : l.find? p = none := by
  rw [List.find?_eq_none]
  intro x hx
  obtain ⟨j, hj⟩ := List.getElem?_of_mem hx
  rw [h j (List.getElem?_eq_some_iff.mp hj).1 x hj]
  exact Bool.false_ne_true
def blk (w : D) (ns : List D) : List D := ns.map fun n => .tuple [w, n]
theorem ifN {A B : Prop} {c : Bool} (e : c = false) (h : B) : if c = true then A else B := by
  rw [e]
  exact h
theorem ifY {A B : Prop} {c : Bool} (e : c = true) (h : A) : if c = true then A else B := by
  rw [e]
  exact h
section
variable {Pg : Program} {w : World} {K : PySem.W.Frag} {mg : Str → Option Value} {base : Heap} {f : Addr} {fd : FuncData}
theorem ok_kind_called (F : Fun K "kind_called" "kind_called" s_kind_called f fd) (T : Txt mg) : FnG Pg w K mg base 1 f fd ["works", "name"] (Pm2 K preK fun d e => kindAt (kindsOf d) (strOf e)) := by
  have nd := sc_kind_called.nd
  refine fnG_of F sc_kind_called pm_len (fun cdv A ou s H vs Q hgd hr h => ?_)
  have hu : (A.deeper (PyProof.Rows.envOfC "kind_called" (defScope s_kind_called) s.heap.objs.size f cdv)).units + 64 < cLine := by have := hr.un; omega
  refine ⟨_, (pss_cons (ps_for PassesOwn.never rfl (pi_tup (pe_ix (r := rIx K) ix_seq (pv 0) pe_int (fun _ _ => rfl))) (pg_name (i := 2) nd rfl (Or.inl rfl) (Or.inl rfl)) (pss_one (ps_if (pt_cmpR (r := rEq2 K) (opEq hu) (pe_ix (r := rIx K) ix_seq (pv 2) pe_int (fun _ _ => rfl)) (pv 1) (nomark _)) (pss_one (ps_ret (pv 2))) pss_nil))) (pss_one (ps_ret pe_non))), body2 (by decide) h fun W F0 d e ⟨⟨ks, cs, cr, r, hd, p⟩, x, he⟩ => ?_⟩
  subst hd he
  change Sx K W H F0 _ [.dat (wk4 ks cs cr r), .dat (.str x), .un] _
  refine sx_seq (sx_for (fun es i ρ' => es = ks ∧ ∃ s2, ρ' = [.dat (wk4 ks cs cr r), .dat (.str x), s2] ∧ ∀ j < i, ∀ k, ks[j]? = some k → decide (nameOf k = x) = false) (evi_tup ?_))
  walk_at "go"
  refine ⟨⟨rfl, _, rfl, fun j h => absurd h (Nat.not_lt_zero _)⟩, ?_, ?_⟩
  · rintro i z ρ' hz ⟨_, s2, rfl, h0⟩
    obtain ⟨y, qs, q, rfl, _⟩ := p.kd z (List.mem_of_getElem? hz)
    refine gs_name trivial ?_
    change Sx K W H F0 _ [.dat (wk4 ks cs cr r), .dat (.str x), .dat (.tuple (.str y :: .tuple qs :: q))] _
    refine sx_if ?_
    walk_at "go"
    refine if2 (fun h1 => ?_) (fun h1 => ?_)
    · refine sx_ret ?_
      walk_at "go"
      show _ = Sl.dat (kindAt ks x)
      rw [kindAt, find_at (p := fun k => decide (nameOf k = x)) hz h1 h0]
      rfl
    · refine sx_next ⟨rfl, _, rfl, fun j hj k hk' => ?_⟩
      by_cases z' : j < i
      · exact h0 j z' k hk'
      · obtain rfl : j = i := by omega
        rw [hz] at hk'
        obtain rfl := Option.some.inj hk'
        exact h1
  · rintro ρ' ⟨_, s2, rfl, h0⟩
    refine sx_ret ?_
    walk_at "go"
    show _ = Sl.dat (kindAt ks x)
    rw [kindAt, find_no (p := fun k => decide (nameOf k = x)) h0]
    rfl
theorem ok_goods_of (F : Fun K "goods_of" "goods_of" s_goods_of f fd) (T : Txt mg) : FnG Pg w K mg base 1 f fd ["works"] (Pm1 K Plant fun d => .tuple (gl (goodsV d))) := by
  have nd := sc_goods_of.nd
  refine fnG_of F sc_goods_of pm_len (fun cdv A ou s H vs Q hgd hr h => ?_)
  have hu : (A.deeper (PyProof.Rows.envOfC "goods_of" (defScope s_goods_of) s.heap.objs.size f cdv)).units + 64 < cLine := by have := hr.un; omega
  refine ⟨_, (pss_cons (ps_set (i := 1) nd rfl (Or.inr rfl) (pe_lc (own := [("kind", 2)]) (g := gName 2) rfl nd (pi_tup (pe_ix (r := rIx K) ix_seq (pv 0) pe_int (fun _ _ => rfl))) (blkOk_by (N := ["works", "names", "kind", "what", "name"]) (sc := (defScope s_goods_of)) (by decide +kernel)) (fun _ _ _ _ _ => (pg_name (i := 2) nd rfl (Or.inl rfl) (Or.inr rfl))) (fun _ _ _ _ _ => pts_nil) (fun _ _ _ _ _ => (pe_ix (r := rIx K) ix_seq (pv 2) pe_int (fun _ _ => rfl)))) (hf := Or.inl rfl)) (pss_one (ps_ret (pe_callTy (r := rTupleOf K) call_tuple_of (by rfl) T.b_tuple (by decide +kernel) (pa_cons (pe_callB (r := rSrtD K false) (cr_srtD hu) (by rfl) T.b_sorted (by decide +kernel) (pa_cons (pe_lc2 (own := [("what", 3), ("name", 4)]) (vs1 := [4]) (g := gName 3) (g1 := gName 4) rfl nd (pi_tup (pe_tup (pa_cons pe_str (pa_cons pe_str pa_nil)))) (blkOk_by (N := ["works", "names", "kind", "what", "name"]) (sc := (defScope s_goods_of)) (by decide +kernel)) (by decide) (fun _ _ _ _ _ => (pg_name (i := 3) nd rfl (Or.inl rfl) (Or.inr rfl))) (fun _ _ _ _ _ => pts_nil) (fun _ _ _ _ _ => (pi_listK (K := K) rfl (pv 1))) (fun _ _ _ _ _ => (pg_name (i := 4) nd rfl (Or.inl rfl) (Or.inr rfl))) (fun _ _ _ _ _ => pts_nil) (fun _ _ _ _ _ => (pe_tup (pa_cons (pv 3) (pa_cons (pv 4) pa_nil))))) pa_nil)) pa_nil))))), body1 (by decide) h fun W F0 d ⟨ks, cs, cr, r, hd, p⟩ => ?_⟩
  subst hd
  have n3 := p.n3
  change Sx K W H F0 _ [.dat (wk4 ks cs cr r), .un, .un, .un, .un] _
  refine sx_seq (sx_asg (ev_frz (evn_mapT (fun k => .str (nameOf k)) (evi_tup ?_))))
  walk_at "go"
  refine ⟨by rw [sizeLine_eq]; omega, fun z hz => ?_, ?_⟩
  · obtain ⟨x, qs, q, rfl, _⟩ := p.kd z hz
    refine gc_name (by decide) trivial ?_
    walk_at "go"
    rfl
  refine ⟨trivial, ?_⟩
  obtain ⟨ns, hns⟩ : ∃ ns : List D, ns = ks.map (fun k => .str (nameOf k)) := ⟨_, rfl⟩
  have ln : ns.length ≤ 3 := by rw [hns, List.length_map]; exact n3
  rw [← hns]
  change Sx K W H F0 _ [.dat (wk4 ks cs cr r), .dat (.list ns), .un, .un, .un] _
  have eg : gl (goods ks) = blk (.str "leaf") ns ++ blk (.str "tool") ns := by
    rw [hns]
    unfold goods gl blk names
    rw [List.map_append, List.map_map, List.map_map, List.map_map, List.map_map, List.map_map, List.map_map]
    rfl
  refine sx_ret (ev_cb (ea_cons (ev_cb (ea_cons (ev_frz (evn_lc2 (fun ds i acc => ds = [.str "leaf", .str "tool"] ∧ acc = (ds.take i).flatMap (fun w => blk w ns) ∧ acc.length ≤ 100 * i) (evi_tup ?_)))))))
  walk_at "go"
  refine ⟨⟨rfl, rfl, Nat.zero_le _⟩, ?_, ?_⟩
  · rintro i z acc hz ⟨_, ha, la⟩
    have hi : i < 2 := (List.getElem?_eq_some_iff.mp hz).1
    refine gc_name (by decide) trivial ?_
    walk_at "go"
    refine ⟨rfl, evi_list (ev_varx ⟨_, rfl, ns, rfl, fun j acc' => acc' = acc ++ blk z (ns.take j) ∧ acc'.length ≤ 100 * i + j, ⟨by simp [blk], by omega⟩, ?_, ?_⟩)⟩
    · rintro j e acc' he ⟨h1, h2⟩
      have hj : j < ns.length := (List.getElem?_eq_some_iff.mp he).1
      refine gc_name (by decide) trivial ?_
      walk_at "go"
      refine ⟨by rw [sizeLine_eq]; omega, ?_, ?_⟩
      · rw [h1, List.take_add_one, he]
        simp [blk]
      · rw [List.length_append, List.length_singleton]
        omega
    · rintro acc' ⟨h1, h2⟩
      refine ⟨rfl, ?_, by omega⟩
      rw [h1, List.take_length, List.take_add_one, hz, List.flatMap_append, ← ha]
      simp
  · rintro acc ⟨_, ha, la⟩
    have e : acc = gl (goods ks) := by
      rw [ha, eg]
      simp
    subst e
    refine ea_nil (srt_run (.inr (.inl rfl)) (gl_alike _) (gl_sort _) (gl_dep _) (ea_nil (cas_tuple (.inr (.inl rfl)) ?_)))
    rw [srt_gl, gsort_self p.sorted]
    rfl
theorem ok_straight (F : Fun K "hangs_straight" "hangs_straight" s_hangs_straight f fd) (T : Txt mg) (C_kind_called : CCalled Pg w K mg base) : FnG Pg w K mg base 2 f fd ["works", "good"] (Pm2 K preS fun d e => .tuple (gl (straightV d (unG e)))) := by
  have nd := sc_hangs_straight.nd
  refine fnG_of F sc_hangs_straight pm_len (fun cdv A ou s H vs Q hgd hr h => ?_)
  have hu : (A.deeper (PyProof.Rows.envOfC "hangs_straight" (defScope s_hangs_straight) s.heap.objs.size f cdv)).units + 64 < cLine := by have := hr.un; omega
  refine ⟨_, (pss_cons (ps_asg (pv 1) (pg_tup (n := 2) rfl (pgs_cons (pg_name (i := 2) nd rfl (Or.inl rfl) (Or.inl rfl)) (pgs_cons (pg_name (i := 3) nd rfl (Or.inl rfl) (Or.inl rfl)) pgs_nil)))) (pss_cons (ps_if (pt_cmpR (r := rEq2 K) (opEq hu) (pv 2) pe_str (nomark _)) (pss_one (ps_set (i := 4) nd rfl (Or.inl rfl) (pe_ix (r := rIx K) ix_seq (pe_ix (r := rIx K) ix_seq (pv 0) pe_int (fun _ _ => rfl)) pe_int (fun _ _ => rfl)) (hf := Or.inl rfl))) (pss_one (ps_set (i := 4) nd rfl (Or.inl rfl) (pe_ix (r := rIx K) ix_seq (pe_fn C_kind_called hgd (hr.mono (by first | decide | omega)) rfl (pa_cons (pv 0) (pa_cons (pv 3) pa_nil))) pe_int (fun _ _ => rfl)) (hf := Or.inl rfl)))) (pss_one (ps_ret (pe_callTy (r := rTupleOf K) call_tuple_of (by rfl) T.b_tuple (by decide +kernel) (pa_cons (pe_callB (r := rSrtD K false) (cr_srtD hu) (by rfl) T.b_sorted (by decide +kernel) (pa_cons (pe_op (r := rAdd4 K) opAdd (pe_lst (pa_cons (pe_tup (pa_cons pe_str (pa_cons (pv 3) pa_nil))) pa_nil)) (pe_lc (own := [("word", 5), ("_", 6)]) (g := (gTup K 2 (gCons (gName 5) (gCons (gName 6) gNil)))) rfl nd (pi_tup (pv 4)) (blkOk_by (N := ["works", "good", "what", "name", "asks", "word", "_"]) (sc := (defScope s_hangs_straight)) (by decide +kernel)) (fun _ _ _ _ _ => (pg_tup (n := 2) rfl (pgs_cons (pg_name (i := 5) nd rfl (Or.inl rfl) (Or.inr rfl)) (pgs_cons (pg_name (i := 6) nd rfl (Or.inl rfl) (Or.inr rfl)) pgs_nil)))) (fun _ _ _ _ _ => pts_nil) (fun _ _ _ _ _ => (pe_tup (pa_cons pe_str (pa_cons (pv 5) pa_nil)))))) pa_nil)) pa_nil)))))), body2 (by decide) h fun W F0 d e ⟨⟨ks, cs, cr, r, hd, p⟩, g, he, hg⟩ => ?_⟩
  subst hd he
  obtain ⟨a, x⟩ := g
  have hg : (a, x) ∈ goods ks := hg
  change Sx K W H F0 _ [.dat (wk4 ks cs cr r), .dat (.tuple [.str a, .str x]), .un, .un, .un, .un, .un] _
  refine sx_seq (sx_asgG (ev_varx ⟨_, rfl, ?_⟩))
  refine gs_tup rfl (gss_cons (gs_name trivial (gss_cons (gs_name trivial (gss_nil ?_)))))
  change Sx K W H F0 _ [.dat (wk4 ks cs cr r), .dat (.tuple [.str a, .str x]), .dat (.str a), .dat (.str x), .un, .un, .un] _
  have ao := p.asks hg
  refine sx_seq (Sx.mono (N := { nx := fun ρ' => ∃ qs, ρ' = [.dat (wk4 ks cs cr r), .dat (.tuple [.str a, .str x]), .dat (.str a), .dat (.str x), .dat (.tuple qs), .un, .un] ∧ qs = asksFor ks cs (a, x), rt := fun _ => False }) (sx_if ?_) ?_ (fun _ z => z.elim) (fun _ z => z.elim) fun _ z => z.elim)
  walk_at "go"
  refine if2 (fun h1 => ?_) (fun h1 => ?_)
  · refine sx_asg ?_
    walk_at "go"
    show cs = asksFor ks cs (a, x)
    unfold asksFor
    rw [if_pos (of_decide_eq_true h1)]
  · refine sx_asg ?_
    walk_at "go"
    refine ⟨⟨⟨ks, cs, cr, r, rfl, p⟩, x, rfl⟩, ?_⟩
    walk_at "go"
    obtain ⟨k, mk, ek, _⟩ := kind_at (good_is hg).2
    rw [show kindsOf (wk4 ks cs cr r) = ks from rfl, show strOf (.str x) = x from rfl]
    have ek : kindAt ks x = k := ek
    obtain ⟨y, qs, q, rfl, _⟩ := p.kd k mk
    rw [ek]
    walk_at "go"
    show qs = asksFor ks cs (a, x)
    unfold asksFor
    rw [if_neg (of_decide_eq_false h1), show ((a, x) : Gd).2 = x from rfl, ek]
    rfl
  rintro ρ' ⟨qs, rfl, hq⟩
  rw [← hq] at ao
  have al := ao.len
  refine sx_ret (ev_cb (ea_cons (ev_cb (ea_cons (ev_op (ev_frz (evn_lst ?_)))))))
  walk_at "go"
  refine ev_frz (evn_mapT (fun q => .tuple [.str "tool", .str (nameOf q)]) (evi_tup ?_))
  walk_at "go"
  refine ⟨by rw [sizeLine_eq]; omega, fun z hz => ?_, ?_⟩
  · obtain ⟨y, n, rfl, _⟩ := ao.of z hz
    refine gc_tup rfl (gcs_cons (gc_name (by decide) trivial (gcs_cons (gc_name (by decide) trivial (gcs_nil ?_)))))
    walk_at "go"
    rfl
  refine ops_catF (.inl rfl) (.inl rfl) (big_line (by rw [List.length_map]; show 1 + qs.length ≤ _; omega)) ?_
  have e1 : ([.tuple [.str "leaf", .str x]] : List D) ++ qs.map (fun q => .tuple [.str "tool", .str (nameOf q)]) = gl ((("leaf" : Str), x) :: (wordsOf qs).map fun y => (("tool" : Str), y)) := by
    unfold gl wordsOf
    rw [List.map_cons, List.map_map, List.map_map]
    rfl
  refine ea_nil (srt_run (ds := gl ((("leaf" : Str), x) :: (wordsOf qs).map fun y => (("tool" : Str), y))) (.inr (.inl (by rw [← e1]))) (gl_alike _) (gl_sort _) (gl_dep _) (ea_nil (cas_tuple (.inr (.inl rfl)) ?_)))
  rw [srt_gl, hq]
  rfl
end
end K09

namespace K09
open PySem L2 RZ DL
/-! the walk by data -/
local macro_rules | `(tactic| walk_at "dl") => `(tactic| first
  | with_reducible first
    | refine sx_seq ?_ | refine sx_if ?_ | refine sx_next ?_
    | refine et_not ?_ | refine et_B ?_ | refine et_test ?_ | refine et_and ?_ | refine et_or ?_ | refine et_yes ?_
    | refine ev_and ?_ | refine ev_or ?_ | refine ev_not ?_ | refine ev_if ?_ | refine ev_chain ?_
    | refine ev_int ?_ | refine ev_bl ?_ | refine ev_str ?_ | refine ev_non ?_ | refine ev_c ?_
    | refine ev_op ?_ | refine ev_un ?_ | refine ev_cb ?_ | refine ev_fn1 ?_ | refine ev_fn2 ?_ | refine ev_sl ?_ | refine eo_none ?_ | refine eo_some ?_ | refine ev_tup ?_
    | refine ea_cons ?_ | refine ea_nil ?_
    | refine ops_ge ?_ | refine ops_le ?_ | refine ops_gt ?_ | refine ops_lt ?_ | refine ops_leS ?_ | refine ops_ltS ?_ | refine ops_add_int ?_ | refine ops_sub ?_ | refine ops_isN ?_ | refine ops_isNot ?_ | refine ops_eq_int ?_ | refine ops_eqS ?_ | refine ops_neS ?_
    | refine cas_len_tup ?_ | refine cas_isi_int ?_ | refine cas_isi_bool ?_ | refine cas_isi_str ?_ | refine cas_isi_tup ?_ | refine cas_isi_lst ?_
    | refine iteT ?_ | refine iteF ?_ | refine and_nols ?_
  | ((with_reducible refine ev_varx ?_); refine ⟨_, rfl, ?_⟩)
  | ((with_reducible refine ops_ix_tupx ?_); first | refine ⟨_, rfl, ?_⟩ | refine ⟨_, atI_nat (j := 0) rfl, ?_⟩ | refine ⟨_, atI_nat (j := 1) rfl, ?_⟩ | refine ⟨_, atI_nat (j := 2) rfl, ?_⟩ | refine ⟨_, atI_nat (j := 3) rfl, ?_⟩ | refine ⟨_, atI_nat (j := 4) rfl, ?_⟩ | refine ⟨_, atI_nat (j := 5) rfl, ?_⟩ | refine ⟨_, atI_nat (j := 6) rfl, ?_⟩)
  | ((with_reducible refine sz_and ?_ ?_); exact rfl)
  | ((with_reducible refine ev_ownx ?_); refine ⟨_, rfl, ?_⟩)
  | ((with_reducible refine ev_refx ?_); refine ⟨_, rfl, ?_⟩)
  | (with_reducible refine sxn_seq ?_) | (with_reducible refine uns_neg ?_) | (with_reducible refine ev_frz (evn_lst ?_)) | (with_reducible refine sls_tup ?_) | (refine ev_revT ?_)
  | ((refine sx_extx ?_); refine ⟨_, rfl, ?_⟩) | ((with_reducible refine ops_add_tup ?_ ?_); exact le_line rfl) | (with_reducible refine cas_listT ?_)
  | ((with_reducible refine ifT ?_ ?_); exact rfl) | ((with_reducible refine ifF ?_ ?_); exact rfl))
local macro_rules | `(tactic| walk_at "go") => `(tactic| repeat (first | walk_at "dl" | with_reducible refine ⟨_, rfl, ?_⟩ | with_reducible refine ⟨_, _, rfl, ?_⟩))
/-! ### all that a good hangs on -/
theorem straight_mem {ks cs : List D} {g o : Gd} : o ∈ straight ks cs g ↔ o = (("leaf" : Str), g.2) ∨ ∃ x ∈ wordsOf (asksFor ks cs g), o = (("tool" : Str), x) := by
  unfold straight
  rw [gsort_mem, List.mem_cons, List.mem_map]
  constructor
  · rintro (h | ⟨x, hx, rfl⟩)
    · exact .inl h
    · exact .inr ⟨x, hx, rfl⟩
  · rintro (h | ⟨x, hx, rfl⟩)
    · exact .inl h
    · exact .inr ⟨x, hx, rfl⟩
theorem PlantOk.snd {ks cs cr r : List D} (p : PlantOk ks cs cr r) {g : Gd} (h : g ∈ goods ks) : (straight ks cs g).Nodup := by
  unfold straight
  refine (ksort_perm gD _).nodup_iff.mpr (List.nodup_cons.mpr ⟨fun m => ?_, ?_⟩)
  · obtain ⟨x, _, e⟩ := List.mem_map.mp m
    exact absurd (congrArg Prod.fst e) (by show ¬ ("tool" : Str) = "leaf"; decide)
  · exact List.pairwise_map.mpr ((p.asks h).nd.imp fun {a b} ne e => ne (congrArg Prod.snd e))
/-- hangs on, straight or by others -/
inductive Reach (ks cs : List D) (g : Gd) : Gd → Prop
  | one {o : Gd} : o ∈ straight ks cs g → Reach ks cs g o
  | more {o q : Gd} : Reach ks cs g o → q ∈ straight ks cs o → Reach ks cs g q
theorem PlantOk.reach {ks cs cr r : List D} (p : PlantOk ks cs cr r) {g o : Gd} (h : g ∈ goods ks) (m : Reach ks cs g o) : o ∈ goods ks := by
  induction m with
  | one m => exact p.strt h m
  | more _ m ih => exact p.strt ih m
theorem Reach.trans {ks cs : List D} {g o q : Gd} (h : Reach ks cs g o) (h' : Reach ks cs o q) : Reach ks cs g q := by
  induction h' with
  | one m => exact .more h m
  | more _ m ih => exact .more ih m
noncomputable instance (ks cs : List D) (g o : Gd) : Decidable (Reach ks cs g o) := Classical.propDecidable _
noncomputable def onV (d : D) (g : Gd) : List Gd := (goodsV d).filter fun o => decide (Reach (kindsOf d) (copyAsks d) g o)
/-- a list of just these -/
structure AllOn (ks cs : List D) (g : Gd) (R : List Gd) : Prop where
  nd : R.Nodup
  of : ∀ o ∈ R, Reach ks cs g o
  st : ∀ o ∈ straight ks cs g, o ∈ R
  cl : ∀ o ∈ R, ∀ q ∈ straight ks cs o, q ∈ R
theorem AllOn.all {ks cs : List D} {g o : Gd} {R : List Gd} (h : AllOn ks cs g R) (m : Reach ks cs g o) : o ∈ R := by
  induction m with
  | one m => exact h.st _ m
  | more _ m ih => exact h.cl _ ih _ m
section
variable {ks cs cr r : List D}
theorem onV_mem (p : PlantOk ks cs cr r) {g o : Gd} (h : g ∈ goods ks) : o ∈ onV (wk4 ks cs cr r) g ↔ Reach ks cs g o := by
  unfold onV
  rw [List.mem_filter]
  exact ⟨fun m => of_decide_eq_true m.2, fun m => ⟨p.reach h m, decide_eq_true m⟩⟩
theorem onV_sorted (p : PlantOk ks cs cr r) (g : Gd) : (onV (wk4 ks cs cr r) g).Pairwise gLt := p.sorted.sublist List.filter_sublist
theorem onV_eq (p : PlantOk ks cs cr r) {g : Gd} (h : g ∈ goods ks) {R : List Gd} (a : AllOn ks cs g R) : gsort R = onV (wk4 ks cs cr r) g := by
  rw [← gsort_self (onV_sorted p g)]
  refine gsort_eq (same_perm a.nd (gLt_nodup (onV_sorted p g)) fun o => ?_)
  rw [onV_mem p h]
  exact ⟨a.of o, a.all⟩
theorem onV_ok (p : PlantOk ks cs cr r) {g o : Gd} (m : o ∈ onV (wk4 ks cs cr r) g) : o ∈ goods ks := (List.mem_filter.mp m).1
theorem onV_len (p : PlantOk ks cs cr r) (g : Gd) : (onV (wk4 ks cs cr r) g).length ≤ 6 := by
  have h1 : (onV (wk4 ks cs cr r) g).length ≤ (goods ks).length := List.length_filter_le _ _
  have h2 : (goods ks).length = 2 * ks.length := goods_len
  have h3 := p.n3
  omega
theorem nodup_six (p : PlantOk ks cs cr r) {R : List Gd} (nd : R.Nodup) (h : ∀ o ∈ R, o ∈ goods ks) : R.length ≤ 6 := by
  have h1 := sub_len nd h
  have h2 : (goods ks).length = 2 * ks.length := goods_len
  have h3 := p.n3
  omega
end
/-! rings -/
noncomputable def ringV (d : D) (g : Gd) : List Gd := (onV d g).filter fun o => decide (g ∈ onV d o)
noncomputable def stepR (d : D) (acc : List (List Gd)) (g : Gd) : List (List Gd) := if g ∈ onV d g ∧ ringV d g ∉ acc then acc ++ [ringV d g] else acc
noncomputable def ringsL (d : D) (gs : List Gd) : List (List Gd) := gs.foldl (stepR d) []
def tD (gs : List Gd) : D := .tuple (gl gs)
theorem tD_inj {a b : List Gd} (h : tD a = tD b) : a = b := by
  injection h with h
  exact gl_inj h
theorem toks_gs : ∀ {as bs : List Gd}, PySem.W.keyToksAll (gl as) = PySem.W.keyToksAll (gl bs) → as = bs
  | [], [], _ => rfl
  | [], b :: bs, h => by
    rw [show gl (b :: bs) = gD b :: gl bs from rfl, PySem.W.toks_all_cons] at h
    simp [gl, PySem.W.keyToksAll] at h
  | a :: as, [], h => by
    rw [show gl (a :: as) = gD a :: gl as from rfl, PySem.W.toks_all_cons] at h
    simp [gl, PySem.W.keyToksAll] at h
  | a :: as, b :: bs, h => by
    rw [show gl (a :: as) = gD a :: gl as from rfl, show gl (b :: bs) = gD b :: gl bs from rfl, PySem.W.toks_all_cons, PySem.W.toks_all_cons] at h
    simp only [gD, PySem.W.keyToks, PySem.W.keyToksAll, List.cons_append, List.nil_append, List.cons.injEq, Sum.inr.injEq, true_and] at h
    obtain ⟨h1, h2, h3⟩ := h
    rw [toks_gs h3, show a = b from Prod.ext (PySem.W.str_of_cps (by first | exact h1 | (rw [h1]))) (PySem.W.str_of_cps (by first | exact h2 | (rw [h2])))]
theorem toks_t (a b : List Gd) (h : PySem.W.keyToks (tD a) = PySem.W.keyToks (tD b)) : a = b := toks_gs (by simpa [tD, PySem.W.keyToks] using h)
def rl (rs : List (List Gd)) : List D := rs.map tD
noncomputable def ringsV (d : D) : List (List Gd) := ksort tD (ringsL d (goodsV d))
theorem ringsL_take (d : D) {gs : List Gd} {i : Nat} {g : Gd} (h : gs[i]? = some g) : ringsL d (gs.take (i + 1)) = stepR d (ringsL d (gs.take i)) g := by
  unfold ringsL
  rw [List.take_add_one, h, List.foldl_append]
  rfl
/-- what a ring is, as far as it is asked -/
def RingOk (d : D) (r : List Gd) : Prop := r ≠ [] ∧ r.length ≤ 6 ∧ ∀ g ∈ r, g ∈ goodsV d
theorem ringsL_ok {ks cs cr r : List D} (p : PlantOk ks cs cr r) {gs : List Gd} (hg : ∀ g ∈ gs, g ∈ goods ks) : ∀ i, i ≤ gs.length → (ringsL (wk4 ks cs cr r) (gs.take i)).length ≤ i ∧ ∀ x ∈ ringsL (wk4 ks cs cr r) (gs.take i), RingOk (wk4 ks cs cr r) x
  | 0, _ => ⟨by simp [ringsL], fun x m => by simp [ringsL] at m⟩
  | i + 1, h => by
    obtain ⟨h1, h2⟩ := ringsL_ok p hg i (by omega)
    have e : gs[i]? = some gs[i] := List.getElem?_eq_getElem h
    rw [ringsL_take _ e]
    unfold stepR
    split
    · rename_i c
      refine ⟨by rw [List.length_append, List.length_singleton]; omega, fun x m => ?_⟩
      rcases List.mem_append.mp m with m | m
      · exact h2 x m
      · rw [List.mem_singleton.mp m]
        refine ⟨fun z => ?_, Nat.le_trans (List.length_filter_le _ _) (onV_len p _), fun g m => onV_ok p (List.mem_filter.mp m).1⟩
        have : gs[i] ∈ ringV (wk4 ks cs cr r) gs[i] := List.mem_filter.mpr ⟨c.1, decide_eq_true c.1⟩
        rw [z] at this
        cases this
    · exact ⟨by omega, h2⟩
theorem eqv_t (a b : List Gd) : PyData.eqv (tD a) (tD b) = decide (a = b) := eqv_tup a b
theorem any_t (rs : List (List Gd)) (r : List Gd) : ((rl rs).any fun z => PyData.eqv z (tD r)) = decide (r ∈ rs) := by
  induction rs with
  | nil => rfl
  | cons a q ih =>
    show (PyData.eqv (tD a) (tD r) || (rl q).any fun z => PyData.eqv z (tD r)) = _
    rw [ih, eqv_t]
    by_cases h : a = r
    · subst h
      simp
    · have h' : ¬ r = a := fun z => h z.symm
      simp [h, h']
theorem alike_gl : ∀ as bs : List Gd, PySem.W.alikeAll (gl as) (gl bs) = true
  | [], bs => by
    cases bs <;> rfl
  | a :: as, [] => rfl
  | a :: as, b :: bs => by
    show (PySem.W.alike (gD a) (gD b) && PySem.W.alikeAll (gl as) (gl bs)) = true
    rw [alike_gl as bs, alike_g]
    rfl
theorem rl_alike (rs : List (List Gd)) : PySem.W.AllAlike (rl rs) := fun d hd e he => by
  obtain ⟨a, _, rfl⟩ := List.mem_map.mp hd
  obtain ⟨b, _, rfl⟩ := List.mem_map.mp he
  show PySem.W.alikeAll (gl a) (gl b) = true
  exact alike_gl a b
theorem rl_sort {rs : List (List Gd)} (h : ∀ x ∈ rs, x ≠ []) : PySem.W.Sortable (rl rs) := .inl fun d hd => by
  obtain ⟨a, m, rfl⟩ := List.mem_map.mp hd
  cases a with
  | nil => exact absurd rfl (h _ m)
  | cons g gs => exact ⟨_, _, rfl⟩
theorem gl_depA : ∀ gs : List Gd, PyData.depthAll (gl gs) ≤ 1
  | [] => Nat.zero_le _
  | g :: gs => by
    show max (PyData.depth (gD g)) (PyData.depthAll (gl gs)) ≤ 1
    have := gl_depA gs
    have e : PyData.depth (gD g) = 1 := by simp [gD, PyData.depth, PyData.depthAll]
    omega
theorem rl_dep (rs : List (List Gd)) : ∀ d ∈ rl rs, d.depth ≤ 40 := fun d hd => by
  obtain ⟨a, _, rfl⟩ := List.mem_map.mp hd
  have := gl_depA a
  show PyData.depthAll (gl a) + 1 ≤ 40
  omega
theorem rl_bds {d : D} (hP : Plant d) {rs : List (List Gd)} (h : ∀ x ∈ rs, RingOk d x) : Bds 1 (128 * rs.length) 2 (rl rs) := by
  obtain ⟨ks, cs, cr, r, rfl, p⟩ := hP
  refine (bds_map (k := 1) (w := 127) (n := 2) tD fun x m => ?_).mono (Nat.le_refl _) (Nat.le_refl _) (Nat.le_refl _)
  obtain ⟨_, l6, of⟩ := h x m
  exact (bd_tup.mpr (gl_bds fun g m => p.okG (of g m))).mono (Nat.le_refl _) (by omega) (Nat.le_refl _)
theorem rl_lst {d : D} (hP : Plant d) {rs : List (List Gd)} (h : ∀ x ∈ rs, RingOk d x) (n : rs.length ≤ 1000) : Fine (.list (rl rs)) := (bd_lst.mpr (rl_bds hP h)).fine (by decide) (by omega) (by decide)
theorem rl_tup {d : D} (hP : Plant d) {rs : List (List Gd)} (h : ∀ x ∈ rs, RingOk d x) (n : rs.length ≤ 1000) : Fine (.tuple (rl rs)) := (bd_tup.mpr (rl_bds hP h)).fine (by decide) (by omega) (by decide)
theorem tD_fine {d : D} (hP : Plant d) {x : List Gd} (h : RingOk d x) : Fine (tD x) := by
  obtain ⟨ks, cs, cr, r, rfl, p⟩ := hP
  exact gl_tup (fun g m => p.okG (h.2.2 g m)) (by have := h.2.1; omega)
theorem srt_rl (rs : List (List Gd)) : srtD false (rl rs) = rl (ksort tD rs) := srt_ksort tD rs
def gK (g : Gd) : List Key := [.inr g.1, .inr g.2]
theorem gK_inj {a b : Gd} (h : gK a = gK b) : a = b := by
  obtain ⟨a1, a2⟩ := a
  obtain ⟨b1, b2⟩ := b
  simp [gK] at h
  exact Prod.ext h.1 h.2
def allD (d : D) : D := .list (gl (goodsV d))
end K09

namespace K09
open PySem L2 RZ DL
/-! the walk by data -/
local macro_rules | `(tactic| walk_at "dl") => `(tactic| first
  | with_reducible first
    | refine sx_seq ?_ | refine sx_if ?_ | refine sx_next ?_
    | refine et_not ?_ | refine et_B ?_ | refine et_test ?_ | refine et_and ?_ | refine et_or ?_ | refine et_yes ?_
    | refine ev_and ?_ | refine ev_or ?_ | refine ev_not ?_ | refine ev_if ?_ | refine ev_chain ?_
    | refine ev_int ?_ | refine ev_bl ?_ | refine ev_str ?_ | refine ev_non ?_ | refine ev_c ?_
    | refine ev_op ?_ | refine ev_un ?_ | refine ev_cb ?_ | refine ev_fn1 ?_ | refine ev_fn2 ?_ | refine ev_sl ?_ | refine eo_none ?_ | refine eo_some ?_ | refine ev_tup ?_
    | refine ea_cons ?_ | refine ea_nil ?_
    | refine ops_ge ?_ | refine ops_le ?_ | refine ops_gt ?_ | refine ops_lt ?_ | refine ops_leS ?_ | refine ops_ltS ?_ | refine ops_add_int ?_ | refine ops_sub ?_ | refine ops_isN ?_ | refine ops_isNot ?_ | refine ops_eq_int ?_ | refine ops_eqS ?_ | refine ops_neS ?_
    | refine cas_len_tup ?_ | refine cas_isi_int ?_ | refine cas_isi_bool ?_ | refine cas_isi_str ?_ | refine cas_isi_tup ?_ | refine cas_isi_lst ?_
    | refine iteT ?_ | refine iteF ?_ | refine and_nols ?_
  | ((with_reducible refine ev_varx ?_); refine ⟨_, rfl, ?_⟩)
  | ((with_reducible refine ops_ix_tupx ?_); first | refine ⟨_, rfl, ?_⟩ | refine ⟨_, atI_nat (j := 0) rfl, ?_⟩ | refine ⟨_, atI_nat (j := 1) rfl, ?_⟩ | refine ⟨_, atI_nat (j := 2) rfl, ?_⟩ | refine ⟨_, atI_nat (j := 3) rfl, ?_⟩ | refine ⟨_, atI_nat (j := 4) rfl, ?_⟩ | refine ⟨_, atI_nat (j := 5) rfl, ?_⟩ | refine ⟨_, atI_nat (j := 6) rfl, ?_⟩)
  | ((with_reducible refine sz_and ?_ ?_); exact rfl)
  | ((with_reducible refine ev_ownx ?_); refine ⟨_, rfl, ?_⟩)
  | ((with_reducible refine ev_refx ?_); refine ⟨_, rfl, ?_⟩)
  | (with_reducible refine sxn_seq ?_) | (with_reducible refine uns_neg ?_) | (with_reducible refine ev_frz (evn_lst ?_)) | (with_reducible refine sls_tup ?_) | (refine ev_revT ?_)
  | ((refine sx_extx ?_); refine ⟨_, rfl, ?_⟩) | ((with_reducible refine ops_add_tup ?_ ?_); exact le_line rfl) | (with_reducible refine cas_listT ?_)
  | ((with_reducible refine ifT ?_ ?_); exact rfl) | ((with_reducible refine ifF ?_ ?_); exact rfl))
local macro_rules | `(tactic| walk_at "go") => `(tactic| repeat (first | walk_at "dl" | with_reducible refine ⟨_, rfl, ?_⟩ | with_reducible refine ⟨_, _, rfl, ?_⟩))
/-! ### what the program says of what hangs on what -/
abbrev COn (Pg : Program) (w : World) (K : PySem.W.Frag) (mg : Str → Option Value) (base : Heap) := Fn Pg w K mg base "hangs_on" 3 ["works", "good"] (Pm2 K preS fun d e => .tuple (gl (onV d (unG e))))
section
variable {Pg : Program} {w : World} {K : PySem.W.Frag} {mg : Str → Option Value} {base : Heap} {f : Addr} {fd : FuncData}
theorem ok_hangs_on (F : Fun K "hangs_on" "hangs_on" s_hangs_on f fd) (T : Txt mg) (C_hangs_straight : CStraight Pg w K mg base) : FnG Pg w K mg base 3 f fd ["works", "good"] (Pm2 K preS fun d e => .tuple (gl (onV d (unG e)))) := by
  have nd := sc_hangs_on.nd
  refine fnG_of F sc_hangs_on pm_len (fun cdv A ou s H vs Q hgd hr h => ?_)
  have hu5 : (A.deeper (PyProof.Rows.envOfC "hangs_on" (defScope s_hangs_on) s.heap.objs.size f cdv)).units + 65 < cLine := by have := hr.un; omega
  have hu : (A.deeper (PyProof.Rows.envOfC "hangs_on" (defScope s_hangs_on) s.heap.objs.size f cdv)).units + 64 < cLine := by omega
  refine ⟨_, (pss_cons (ps_set (i := 2) nd rfl (Or.inl rfl) (pe_callTy (r := rListOf K) call_list_of (by rfl) T.b_list (by decide +kernel) (pa_cons (pe_fn C_hangs_straight hgd (hr.mono (by first | decide | omega)) rfl (pa_cons (pv 0) (pa_cons (pv 1) pa_nil))) pa_nil)) (hf := Or.inl rfl)) (pss_cons (ps_set (i := 3) nd rfl (Or.inl rfl) pe_int (hf := Or.inl rfl)) (pss_cons (ps_while PassesOwn.never (pt_cmpR opLt (pv 3) (pe_callB (r := rLenA K) call_len (by rfl) T.b_len (by decide +kernel) (pa_cons (pv 2) pa_nil)) (nomark _)) (pss_cons (ps_set (i := 4) nd rfl (Or.inl rfl) (pe_fn C_hangs_straight hgd (hr.mono (by first | decide | omega)) rfl (pa_cons (pv 0) (pa_cons (pe_ix (r := rIx K) ix_seq (pv 2) (pv 3) (fun _ _ => rfl)) pa_nil))) (hf := Or.inl rfl)) (pss_cons (ps_for PassesOwn.never rfl (pi_tup (pv 4)) (pg_name (i := 5) nd rfl (Or.inl rfl) (Or.inl rfl)) (pss_one (ps_if (pt_cmpR (r := rNotIn2 K) (opNotIn hu5) (pv 5) (pv 2) (by rfl)) (pss_one (ps_expr (pe_bm PySem.F.plainAttrs_list PySem.F.slot_list_append PySem.F.type_list_append mt_append (pv 2) (pa_cons (pv 5) pa_nil)))) pss_nil))) (pss_one (ps_aug (i := 3) nd rfl (Or.inl rfl) pe_int ip_add))))) (pss_one (ps_ret (pe_callTy (r := rTupleOf K) call_tuple_of (by rfl) T.b_tuple (by decide +kernel) (pa_cons (pe_callB (r := rSrtD K false) (cr_srtD hu) (by rfl) T.b_sorted (by decide +kernel) (pa_cons (pv 2) pa_nil)) pa_nil))))))), body2 (by decide) h fun W F0 d e ⟨⟨ks, cs, cr, r, hd, p⟩, g, he, hg⟩ => ?_⟩
  subst hd he
  have hg : g ∈ goods ks := hg
  have hP : Plant (wk4 ks cs cr r) := ⟨ks, cs, cr, r, rfl, p⟩
  change Sx K W H F0 _ [.dat (wk4 ks cs cr r), .dat (gD g), .un, .un, .un, .un] _
  refine sx_seq (sx_asgN (evn_list (ea_cons (ev_fn2 ?_))))
  walk_at "go"
  refine ⟨⟨hP, g, rfl, hg⟩, ea_nil ⟨_, _, rfl, .inl rfl, ?_⟩⟩
  refine sx_seq (sx_asg (ev_int ⟨trivial, ?_⟩))
  change Sx K W H F0 _ [.dat (wk4 ks cs cr r), .dat (gD g), .ls (gl (straight ks cs g)), .dat (.int ((0 : Nat) : Int)), .un, .un] _
  refine sx_seq (sx_while (fun m ρ' => ∃ (R : List Gd) (k : Nat) (s4 s5 : Sl), ρ' = [.dat (wk4 ks cs cr r), .dat (gD g), .ls (gl R), .dat (.int (k : Int)), s4, s5] ∧ R.Nodup ∧ (∀ o ∈ R, Reach ks cs g o) ∧ (∀ o ∈ straight ks cs g, o ∈ R) ∧ k ≤ R.length ∧
    (∀ j < k, ∀ o, R[j]? = some o → ∀ q ∈ straight ks cs o, q ∈ R) ∧ m = 6 - k) 6 ⟨_, 0, .un, .un, rfl, p.snd hg, fun o m => .one m, fun o m => m, Nat.zero_le _, fun j h => absurd h (Nat.not_lt_zero _), rfl⟩ ?_)
  rintro m ρ' ⟨R, k, s4, s5, rfl, nR, oR, sR, kR, cR, hm⟩
  have gR : ∀ o ∈ R, o ∈ goods ks := fun o m => p.reach hg (oR o m)
  have lR : R.length ≤ 6 := nodup_six p nR gR
  refine et_test (ev_op (ev_varx ⟨_, rfl, ?_⟩))
  walk_at "go"
  refine cas_len_lst (.inr rfl) ?_
  walk_at "go"
  rw [gl_len]
  refine if2 (fun h1 => ?_) (fun h1 => ?_)
  · have h1 : k < R.length := by have := of_decide_eq_true h1; omega
    obtain ⟨o, ho⟩ : ∃ o, R[k]? = some o := ⟨_, List.getElem?_eq_getElem h1⟩
    have mo : o ∈ R := List.mem_of_getElem? ho
    refine sx_seq (sx_asg (ev_fn2 ?_))
    walk_at "go"
    refine ops_ix_lst (.inr rfl) (atI_nat (show (gl R)[k]? = some (gD o) by unfold gl; rw [List.getElem?_map, ho]; rfl)) ?_
    walk_at "go"
    refine ⟨⟨hP, o, rfl, gR o mo⟩, trivial, ?_⟩
    change Sx K W H F0 _ [.dat (wk4 ks cs cr r), .dat (gD g), .ls (gl R), .dat (.int (k : Int)), .dat (.tuple (gl (straight ks cs o))), s5] _
    refine sx_seq (sx_for (fun es i ρ' => es = gl (straight ks cs o) ∧ ∃ (R' : List Gd) (s5 : Sl), ρ' = [.dat (wk4 ks cs cr r), .dat (gD g), .ls (gl R'), .dat (.int (k : Int)), .dat (.tuple (gl (straight ks cs o))), s5] ∧ R'.Nodup ∧ (∀ o ∈ R', Reach ks cs g o) ∧ (∃ E, R' = R ++ E) ∧
      ∀ j < i, ∀ q, (straight ks cs o)[j]? = some q → q ∈ R') (evi_tup (ev_varx ⟨_, rfl, _, rfl, ⟨rfl, R, s5, rfl, nR, oR, ⟨[], (List.append_nil R).symm⟩, fun j h => absurd h (Nat.not_lt_zero _)⟩, ?_, ?_⟩)))
    · rintro i z ρ' hz ⟨_, R', s5, rfl, nR', oR', ⟨E, rfl⟩, cR'⟩
      obtain ⟨q, hq, rfl⟩ := gl_get hz
      have mq : q ∈ straight ks cs o := List.mem_of_getElem? hq
      have gR' : ∀ o ∈ R ++ E, o ∈ goods ks := fun o m => p.reach hg (oR' o m)
      have lR' : (R ++ E).length ≤ 6 := nodup_six p nR' gR'
      refine gs_name trivial ?_
      change Sx K W H F0 _ [.dat (wk4 ks cs cr r), .dat (gD g), .ls (gl (R ++ E)), .dat (.int (k : Int)), .dat (.tuple (gl (straight ks cs o))), .dat (gD q)] _
      refine sx_if (et_test (ev_op (ev_varx ⟨_, rfl, ev_ownx ⟨_, rfl, ops_notin_lst (g_fine (p.okG (p.strt (gR o mo) mq))).shaped (gl_lst (fun x m => p.okG (gR' x m)) (by omega)).shaped (.inr rfl) ⟨_, rfl, ?_⟩⟩⟩)))
      rw [any_g]
      have fin : ∀ R2 : List Gd, R2.Nodup → (∀ o ∈ R2, Reach ks cs g o) → (∃ E, R2 = R ++ E) → (∀ x ∈ R ++ E, x ∈ R2) → q ∈ R2 → gl (straight ks cs o) = gl (straight ks cs o) ∧ ∃ (R' : List Gd) (s5 : Sl), ([.dat (wk4 ks cs cr r), .dat (gD g), .ls (gl R2), .dat (.int (k : Int)), .dat (.tuple (gl (straight ks cs o))), .dat (gD q)] : Rho) = [.dat (wk4 ks cs cr r), .dat (gD g), .ls (gl R'), .dat (.int (k : Int)), .dat (.tuple (gl (straight ks cs o))), s5] ∧ R'.Nodup ∧ (∀ o ∈ R', Reach ks cs g o) ∧ (∃ E, R' = R ++ E) ∧
          ∀ j < i + 1, ∀ q, (straight ks cs o)[j]? = some q → q ∈ R' := fun R2 n2 o2 e2 s2 m2 => ⟨rfl, R2, _, rfl, n2, o2, e2, fun j hj x hx => by
        by_cases z' : j < i
        · exact s2 _ (cR' j z' x hx)
        · obtain rfl : j = i := by omega
          rw [hq] at hx
          obtain rfl := Option.some.inj hx
          exact m2⟩
      refine if2 (fun h2 => ?_) (fun h2 => ?_)
      · have h2 : q ∉ R ++ E := of_decide_eq_false (by simpa only [Bool.not_eq_true'] using h2)
        refine sx_app rfl (by rw [gl_len, sizeLine_eq]; omega) (ev_varx ⟨_, rfl, _, rfl, ?_⟩)
        have eg : gl (R ++ E) ++ [gD q] = gl (R ++ E ++ [q]) := by rw [gl_app (R ++ E)]; rfl
        change _ ∧ ∃ (R' : List Gd) (s5 : Sl), ([.dat (wk4 ks cs cr r), .dat (gD g), .ls (gl (R ++ E) ++ [gD q]), .dat (.int (k : Int)), .dat (.tuple (gl (straight ks cs o))), .dat (gD q)] : Rho) = _ ∧ _
        rw [eg]
        refine fin _ (List.nodup_append.mpr ⟨nR', by simp, fun a ha b hb z => ?_⟩) (fun x m => ?_) ⟨E ++ [q], by rw [List.append_assoc]⟩ (fun x m => List.mem_append_left _ m) (List.mem_append_right _ (List.mem_singleton.mpr rfl))
        · rw [List.mem_singleton.mp hb] at z
          exact h2 (z ▸ ha)
        · rcases List.mem_append.mp m with m | m
          · exact oR' x m
          · rw [List.mem_singleton.mp m]
            exact .more (oR o mo) mq
      · have h2 : q ∈ R ++ E := of_decide_eq_true (by simpa only [Bool.not_eq_false'] using h2)
        exact sx_next (fin _ nR' oR' ⟨E, rfl⟩ (fun x m => m) h2)
    · rintro ρ' ⟨_, R', s5, rfl, nR', oR', ⟨E, rfl⟩, cR'⟩
      refine sx_augI rfl (ev_int ⟨1, rfl, 6 - (k + 1), by omega, R ++ E, k + 1, _, s5, by simp only [Int.natCast_add]; rfl, nR', oR', fun o m => List.mem_append_left _ (sR o m), by rw [List.length_append]; omega, fun j hj x hx y hy => ?_, rfl⟩)
      by_cases z' : j < k
      · rw [List.getElem?_append_left (by omega)] at hx
        exact List.mem_append_left _ (cR j z' x hx y hy)
      · obtain rfl : j = k := by omega
        rw [List.getElem?_append_left h1, ho] at hx
        obtain rfl := Option.some.inj hx
        obtain ⟨i, hi⟩ := List.getElem?_of_mem hy
        refine cR' i ?_ y hi
        rw [gl_len]
        exact (List.getElem?_eq_some_iff.mp hi).1
  · have h1 : R.length ≤ k := by have := of_decide_eq_false h1; omega
    have a : AllOn ks cs g R := ⟨nR, oR, sR, fun o m q mq => by
      obtain ⟨j, hj⟩ := List.getElem?_of_mem m
      exact cR j (by have := (List.getElem?_eq_some_iff.mp hj).1; omega) o hj q mq⟩
    refine sx_ret (ev_cb (ea_cons (ev_cb (ea_cons (ev_ownx ⟨_, rfl, ea_nil (srt_run (.inr (.inr rfl)) (gl_alike R) (gl_sort R) (gl_dep R) (ea_nil (cas_tuple (.inr (.inl rfl)) ?_)))⟩)))))
    rw [srt_gl, onV_eq p hg a]
    rfl
end
end K09

namespace K09
open PySem L2 RZ DL
/-! the walk by data -/
local macro_rules | `(tactic| walk_at "dl") => `(tactic| first
  | with_reducible first
    | refine sx_seq ?_ | refine sx_if ?_ | refine sx_next ?_
    | refine et_not ?_ | refine et_B ?_ | refine et_test ?_ | refine et_and ?_ | refine et_or ?_ | refine et_yes ?_
    | refine ev_and ?_ | refine ev_or ?_ | refine ev_not ?_ | refine ev_if ?_ | refine ev_chain ?_
    | refine ev_int ?_ | refine ev_bl ?_ | refine ev_str ?_ | refine ev_non ?_ | refine ev_c ?_
    | refine ev_op ?_ | refine ev_un ?_ | refine ev_cb ?_ | refine ev_fn1 ?_ | refine ev_fn2 ?_ | refine ev_sl ?_ | refine eo_none ?_ | refine eo_some ?_ | refine ev_tup ?_
    | refine ea_cons ?_ | refine ea_nil ?_
    | refine ops_ge ?_ | refine ops_le ?_ | refine ops_gt ?_ | refine ops_lt ?_ | refine ops_leS ?_ | refine ops_ltS ?_ | refine ops_add_int ?_ | refine ops_sub ?_ | refine ops_isN ?_ | refine ops_isNot ?_ | refine ops_eq_int ?_ | refine ops_eqS ?_ | refine ops_neS ?_
    | refine cas_len_tup ?_ | refine cas_isi_int ?_ | refine cas_isi_bool ?_ | refine cas_isi_str ?_ | refine cas_isi_tup ?_ | refine cas_isi_lst ?_
    | refine iteT ?_ | refine iteF ?_ | refine and_nols ?_
  | ((with_reducible refine ev_varx ?_); refine ⟨_, rfl, ?_⟩)
  | ((with_reducible refine ops_ix_tupx ?_); first | refine ⟨_, rfl, ?_⟩ | refine ⟨_, atI_nat (j := 0) rfl, ?_⟩ | refine ⟨_, atI_nat (j := 1) rfl, ?_⟩ | refine ⟨_, atI_nat (j := 2) rfl, ?_⟩ | refine ⟨_, atI_nat (j := 3) rfl, ?_⟩ | refine ⟨_, atI_nat (j := 4) rfl, ?_⟩ | refine ⟨_, atI_nat (j := 5) rfl, ?_⟩ | refine ⟨_, atI_nat (j := 6) rfl, ?_⟩)
  | ((with_reducible refine sz_and ?_ ?_); exact rfl)
  | ((with_reducible refine ev_ownx ?_); refine ⟨_, rfl, ?_⟩)
  | ((with_reducible refine ev_refx ?_); refine ⟨_, rfl, ?_⟩)
  | (with_reducible refine sxn_seq ?_) | (with_reducible refine uns_neg ?_) | (with_reducible refine ev_frz (evn_lst ?_)) | (with_reducible refine sls_tup ?_) | (refine ev_revT ?_)
  | ((refine sx_extx ?_); refine ⟨_, rfl, ?_⟩) | ((with_reducible refine ops_add_tup ?_ ?_); exact le_line rfl) | (with_reducible refine cas_listT ?_)
  | ((with_reducible refine ifT ?_ ?_); exact rfl) | ((with_reducible refine ifF ?_ ?_); exact rfl))
local macro_rules | `(tactic| walk_at "go") => `(tactic| repeat (first | walk_at "dl" | with_reducible refine ⟨_, rfl, ?_⟩ | with_reducible refine ⟨_, _, rfl, ?_⟩))
/-! ### rings, as the program tells them -/
theorem kv_goods (d : D) (gs : List Gd) : (gl gs).map (fun z => (gK (unG z), (tD (onV d (unG z)) : D))) = gs.map fun g => (gK g, tD (onV d g)) := by
  unfold gl
  rw [List.map_map]
  rfl
theorem kv_nodup {ks cs cr r : List D} (p : PlantOk ks cs cr r) : ((gl (goods ks)).map fun z => gK (unG z)).Nodup := by
  have e : (gl (goods ks)).map (fun z => gK (unG z)) = (goods ks).map gK := by
    unfold gl
    rw [List.map_map]
    rfl
  rw [e]
  exact List.pairwise_map.mpr ((gLt_nodup p.sorted).imp fun {a b} ne e => ne (gK_inj e))
theorem ring_map (d : D) (g : Gd) : ((gl (onV d g)).filter fun z => decide (g ∈ onV d (unG z))).map id = gl (ringV d g) := by
  unfold gl ringV
  rw [List.filter_map, List.map_id]
  rfl
section
variable {Pg : Program} {w : World} {K : PySem.W.Frag} {mg : Str → Option Value} {base : Heap} {f : Addr} {fd : FuncData}
abbrev CRings (Pg : Program) (w : World) (K : PySem.W.Frag) (mg : Str → Option Value) (base : Heap) := Fn Pg w K mg base "rings_of" 4 ["works"] (Pm1 K Plant fun d => .tuple (rl (ringsV d)))
theorem ok_rings_of (F : Fun K "rings_of" "rings_of" s_rings_of f fd) (T : Txt mg) (C_goods_of : CGoods Pg w K mg base) (C_hangs_on : COn Pg w K mg base) : FnG Pg w K mg base 4 f fd ["works"] (Pm1 K Plant fun d => .tuple (rl (ringsV d))) := by
  have nd := sc_rings_of.nd
  refine fnG_of F sc_rings_of pm_len (fun cdv A ou s H vs Q hgd hr h => ?_)
  have hu5 : (A.deeper (PyProof.Rows.envOfC "rings_of" (defScope s_rings_of) s.heap.objs.size f cdv)).units + 65 < cLine := by have := hr.un; omega
  have hu : (A.deeper (PyProof.Rows.envOfC "rings_of" (defScope s_rings_of) s.heap.objs.size f cdv)).units + 64 < cLine := by omega
  have hu1 : (A.deeper (PyProof.Rows.envOfC "rings_of" (defScope s_rings_of) s.heap.objs.size f cdv)).units + 1 < cLine := by omega
  refine ⟨_, (pss_cons (ps_set (i := 1) nd rfl (Or.inr rfl) (pe_lk (pe_dcT (own := [("good", 3)]) (g := gName 3) rfl hu nd (pi_tup (pe_fn C_goods_of hgd (hr.mono (by first | decide | omega)) rfl (pa_cons (pv 0) pa_nil))) (blkOk_by (N := ["works", "hung", "rings", "good", "ons", "ring", "other"]) (sc := (defScope s_rings_of)) (by decide +kernel)) (P := Pg) (w := w) rfl rfl (fun _ _ _ _ _ => (pg_name (i := 3) nd rfl (Or.inl rfl) (Or.inr rfl))) (fun _ _ _ _ _ => pts_nil) (fun _ _ _ _ _ => (pv 3)) (fun _ _ _ _ _ => (pe_fn C_hangs_on hgd (hr.mono (by first | decide | omega)) rfl (pa_cons (pv 0) (pa_cons (pv 3) pa_nil)))))) (hf := Or.inl rfl)) (pss_cons (ps_set (i := 2) nd rfl (Or.inl rfl) (pe_lst pa_nil) (hf := Or.inl rfl)) (pss_cons (ps_for PassesOwn.never rfl (pi_itemsT (P := Pg) (w := w) rfl rfl (pv 1)) (pg_tup (n := 2) rfl (pgs_cons (pg_name (i := 3) nd rfl (Or.inr rfl) (Or.inl rfl)) (pgs_cons (pg_name (i := 4) nd rfl (Or.inl rfl) (Or.inl rfl)) pgs_nil))) (pss_one (ps_if (pt_cmpR (r := rIn2 K) (opIn hu5) (pv 3) (pv 4) (by rfl)) (pss_cons (ps_set (i := 5) nd rfl (Or.inl rfl) (pe_callTy (r := rTupleOf K) call_tuple_of (by rfl) T.b_tuple (by decide +kernel) (pa_cons (pe_lc (own := [("other", 6)]) (g := gName 6) rfl nd (pi_tup (pv 4)) (blkOk_by (N := ["works", "hung", "rings", "good", "ons", "ring", "other"]) (sc := (defScope s_rings_of)) (by decide +kernel)) (fun _ _ _ _ _ => (pg_name (i := 6) nd rfl (Or.inl rfl) (Or.inr rfl))) (fun _ _ _ _ _ => (pts_one (pt_cmpR (r := rIn2 K) (opIn hu5) (pv 3) (pe_dgetO (P := Pg) (w := w) rfl rfl hu1 (pv 1) (pv 6) (fun _ _ => rfl)) (by rfl)))) (fun _ _ _ _ _ => (pv 6))) pa_nil)) (hf := Or.inl rfl)) (pss_one (ps_if (pt_cmpR (r := rNotIn2 K) (opNotIn hu5) (pv 5) (pv 2) (by rfl)) (pss_one (ps_expr (pe_bm PySem.F.plainAttrs_list PySem.F.slot_list_append PySem.F.type_list_append mt_append (pv 2) (pa_cons (pv 5) pa_nil)))) pss_nil))) pss_nil))) (pss_one (ps_ret (pe_callTy (r := rTupleOf K) call_tuple_of (by rfl) T.b_tuple (by decide +kernel) (pa_cons (pe_callB (r := rSrtD K false) (cr_srtD hu) (by rfl) T.b_sorted (by decide +kernel) (pa_cons (pv 2) pa_nil)) pa_nil))))))), body1 (by decide) h fun W F0 d hP => ?_⟩
  obtain ⟨ks, cs, cr, r, rfl, p⟩ := id hP
  obtain ⟨dd, hdd⟩ : ∃ dd, dd = wk4 ks cs cr r := ⟨_, rfl⟩
  have n3 := p.n3
  have gn : (goods ks).length ≤ 6 := by rw [goods_len]; omega
  change Sx K W H F0 _ [.dat (wk4 ks cs cr r), .un, .un, .un, .un, .un, .un] _
  refine sx_dcO (Pg := Pg) (w := w) (evi_tup (ev_fn1 ?_))
  walk_at "go"
  refine ⟨hP, _, rfl, by rw [show (gl (goodsV (wk4 ks cs cr r))).length = (goods ks).length from gl_len _, sizeLine_eq]; omega, fun z => gK (unG z), fun z => tD (onV (wk4 ks cs cr r) (unG z)), kv_nodup p, fun z hz => ?_, fun a => ?_⟩
  · obtain ⟨g, hg, rfl⟩ := List.mem_map.mp hz
    refine gc_name (by decide) trivial ?_
    refine ev_varx ⟨_, rfl, rfl, ev_fn2 ?_⟩
    walk_at "go"
    exact ⟨⟨hP, g, rfl, hg⟩, rfl⟩
  rw [show gl (goodsV (wk4 ks cs cr r)) = gl (goods ks) from rfl, kv_goods]
  change Sx K (dicW K Pg w W a _) H F0 _ [.dat (wk4 ks cs cr r), .rf (.ref a), .un, .un, .un, .un, .un] _
  refine sx_seq (sx_asgN (evn_lst (ea_nil ⟨[], rfl, le_line rfl, ?_⟩)))
  refine sx_seq (sx_for (fun es i ρ' => es = (goods ks).map (fun g => (.tuple [gD g, tD (onV (wk4 ks cs cr r) g)] : D)) ∧ ∃ s3 s4 s5, ρ' = [.dat (wk4 ks cs cr r), .rf (.ref a), .ls (rl (ringsL (wk4 ks cs cr r) ((goods ks).take i))), s3, s4, s5, .un]) (evi_itemsO (ev_refx ⟨_, rfl, rfl, ?_⟩)))
  have ei : ((goods ks).map fun g => (gK g, tD (onV (wk4 ks cs cr r) g))).map (fun p => (PyData.tuple [kD p.1, p.2])) = (goods ks).map (fun g => (.tuple [gD g, tD (onV (wk4 ks cs cr r) g)] : D)) := by
    rw [List.map_map]
    rfl
  rw [ei]
  refine ⟨⟨rfl, _, _, _, rfl⟩, ?_, ?_⟩
  · rintro i z ρ' hz ⟨_, s3, s4, s5, rfl⟩
    rw [List.getElem?_map] at hz
    obtain ⟨g, hg, rfl⟩ : ∃ g, (goods ks)[i]? = some g ∧ PyData.tuple [gD g, tD (onV (wk4 ks cs cr r) g)] = z := by
      rcases e : (goods ks)[i]? with _ | g
      · rw [e] at hz
        cases hz
      · rw [e] at hz
        exact ⟨g, rfl, Option.some.inj hz⟩
    have mg_ : g ∈ goods ks := List.mem_of_getElem? hg
    obtain ⟨lA, okA⟩ := ringsL_ok p (gs := goods ks) (fun g m => m) i (by have := (List.getElem?_eq_some_iff.mp hg).1; omega)
    have gf := (g_fine (p.okG mg_)).shaped
    have hi6 : i < 6 := by have := (List.getElem?_eq_some_iff.mp hg).1; omega
    have onF : ∀ x, Fine (.tuple (gl (onV (wk4 ks cs cr r) x))) := fun x => gl_tup (fun y m => p.okG (onV_ok p m)) (by have := onV_len p x; omega)
    obtain ⟨acc, hacc⟩ : ∃ acc, acc = ringsL (wk4 ks cs cr r) ((goods ks).take i) := ⟨_, rfl⟩
    have next : ∀ (s3 s4 s5 : Sl) (acc' : List (List Gd)), acc' = stepR (wk4 ks cs cr r) acc g → (goods ks).map (fun g => (.tuple [gD g, tD (onV (wk4 ks cs cr r) g)] : D)) = (goods ks).map (fun g => (.tuple [gD g, tD (onV (wk4 ks cs cr r) g)] : D)) ∧
        ∃ t3 t4 t5, ([.dat (wk4 ks cs cr r), .rf (.ref a), .ls (rl acc'), s3, s4, s5, .un] : Rho) = [.dat (wk4 ks cs cr r), .rf (.ref a), .ls (rl (ringsL (wk4 ks cs cr r) ((goods ks).take (i + 1)))), t3, t4, t5, .un] := fun s3 s4 s5 acc' e => ⟨rfl, s3, s4, s5, by rw [e, ringsL_take _ hg, hacc]⟩
    rw [← hacc] at lA okA ⊢
    refine gs_tup rfl (gss_cons (gs_name trivial (gss_cons (gs_name trivial (gss_nil ?_)))))
    change Sx K (dicW K Pg w W a _) H F0 _ [.dat (wk4 ks cs cr r), .rf (.ref a), .ls (rl acc), .dat (gD g), .dat (.tuple (gl (onV (wk4 ks cs cr r) g))), s5, .un] _
    refine sx_if (et_test (ev_op (ev_varx ⟨_, rfl, ev_varx ⟨_, rfl, ops_in_tup gf (onF g).shaped ⟨_, rfl, ?_⟩⟩⟩)))
    rw [any_g]
    refine if2 (fun h1 => ?_) (fun h1 => sx_next (next _ _ _ _ ?_))
    · have h1 : g ∈ onV (wk4 ks cs cr r) g := of_decide_eq_true h1
      refine sx_seq (sx_asg (ev_cb (ea_cons (ev_frz (evn_map (fun z => decide (g ∈ onV (wk4 ks cs cr r) (unG z))) id (evi_tup (ev_varx ⟨_, rfl, _, rfl, by rw [gl_len, sizeLine_eq]; have := onV_len p g; omega, fun z hz => ?_, ?_⟩)))))))
      · obtain ⟨o, ho, rfl⟩ := List.mem_map.mp hz
        refine gc_name (by decide) trivial ?_
        refine et_test (ev_op (ev_varx ⟨_, rfl, ev_dgetO (ev_refx ⟨_, rfl, rfl, ev_varx ⟨_, rfl, gK o, tD (onV (wk4 ks cs cr r) o), rfl, List.mem_map.mpr ⟨o, onV_ok p ho, rfl⟩, ops_in_tup gf (onF o).shaped ?_⟩⟩)⟩))
        rw [any_g]
        exact ⟨_, rfl, rfl, fun _ => ev_varx ⟨_, rfl, rfl⟩⟩
      rw [ring_map]
      refine ea_nil (cas_tuple (.inr (.inl rfl)) ⟨trivial, ?_⟩)
      change Sx K (dicW K Pg w W a _) H F0 _ [.dat (wk4 ks cs cr r), .rf (.ref a), .ls (rl acc), .dat (gD g), .dat (.tuple (gl (onV (wk4 ks cs cr r) g))), .dat (tD (ringV (wk4 ks cs cr r) g)), .un] _
      have rne : ringV (wk4 ks cs cr r) g ≠ [] := fun z => by
        have : g ∈ ringV (wk4 ks cs cr r) g := List.mem_filter.mpr ⟨h1, decide_eq_true h1⟩
        rw [z] at this
        cases this
      have rok : RingOk (wk4 ks cs cr r) (ringV (wk4 ks cs cr r) g) := ⟨rne, Nat.le_trans (List.length_filter_le _ _) (onV_len p _), fun x m => onV_ok p (List.mem_filter.mp m).1⟩
      refine sx_if (et_test (ev_op (ev_varx ⟨_, rfl, ev_ownx ⟨_, rfl, ops_notin_lst (tD_fine hP rok).shaped (rl_lst hP okA (by omega)).shaped (.inr rfl) ⟨_, rfl, ?_⟩⟩⟩)))
      rw [any_t]
      refine if2 (fun h2 => ?_) (fun h2 => sx_next (next _ _ _ _ ?_))
      · have h2 : ringV (wk4 ks cs cr r) g ∉ acc := of_decide_eq_false (by simpa only [Bool.not_eq_true'] using h2)
        refine sx_app rfl (by rw [show (rl acc).length = acc.length from List.length_map _, sizeLine_eq]; omega) (ev_varx ⟨_, rfl, _, rfl, ?_⟩)
        have eg : rl acc ++ [tD (ringV (wk4 ks cs cr r) g)] = rl (acc ++ [ringV (wk4 ks cs cr r) g]) := by unfold rl; rw [List.map_append]; rfl
        change _ ∧ ∃ t3 t4 t5, ([.dat (wk4 ks cs cr r), .rf (.ref a), .ls (rl acc ++ [tD (ringV (wk4 ks cs cr r) g)]), .dat (gD g), .dat (.tuple (gl (onV (wk4 ks cs cr r) g))), .dat (tD (ringV (wk4 ks cs cr r) g)), .un] : Rho) = _
        rw [eg]
        exact next _ _ _ _ (by unfold stepR; rw [if_pos ⟨h1, h2⟩])
      · have h2 : ringV (wk4 ks cs cr r) g ∈ acc := of_decide_eq_true (by simpa only [Bool.not_eq_false'] using h2)
        unfold stepR
        rw [if_neg fun z => z.2 h2]
    · have h1 : g ∉ onV (wk4 ks cs cr r) g := of_decide_eq_false h1
      unfold stepR
      rw [if_neg fun z => h1 z.1]
  · rintro ρ' ⟨_, s3, s4, s5, rfl⟩
    obtain ⟨lA, okA⟩ := ringsL_ok p (gs := goods ks) (fun g m => m) (goods ks).length (Nat.le_refl _)
    rw [List.length_map]
    refine sx_ret (ev_cb (ea_cons (ev_cb (ea_cons (ev_ownx ⟨_, rfl, ea_nil (srt_run (.inr (.inr rfl)) (rl_alike _) (rl_sort fun x m => (okA x m).1) (rl_dep _) (ea_nil (cas_tuple (.inr (.inl rfl)) ?_)))⟩)))))
    rw [srt_rl, List.take_length]
    rfl
end
end K09

namespace K09
open PySem L2 RZ DL
/-! the walk by data -/
local macro_rules | `(tactic| walk_at "dl") => `(tactic| first
  | with_reducible first
    | refine sx_seq ?_ | refine sx_if ?_ | refine sx_next ?_
    | refine et_not ?_ | refine et_B ?_ | refine et_test ?_ | refine et_and ?_ | refine et_or ?_ | refine et_yes ?_
    | refine ev_and ?_ | refine ev_or ?_ | refine ev_not ?_ | refine ev_if ?_ | refine ev_chain ?_
    | refine ev_int ?_ | refine ev_bl ?_ | refine ev_str ?_ | refine ev_non ?_ | refine ev_c ?_
    | refine ev_op ?_ | refine ev_un ?_ | refine ev_cb ?_ | refine ev_fn1 ?_ | refine ev_fn2 ?_ | refine ev_sl ?_ | refine eo_none ?_ | refine eo_some ?_ | refine ev_tup ?_
    | refine ea_cons ?_ | refine ea_nil ?_
    | refine ops_ge ?_ | refine ops_le ?_ | refine ops_gt ?_ | refine ops_lt ?_ | refine ops_leS ?_ | refine ops_ltS ?_ | refine ops_add_int ?_ | refine ops_sub ?_ | refine ops_isN ?_ | refine ops_isNot ?_ | refine ops_eq_int ?_ | refine ops_eqS ?_ | refine ops_neS ?_
    | refine cas_len_tup ?_ | refine cas_isi_int ?_ | refine cas_isi_bool ?_ | refine cas_isi_str ?_ | refine cas_isi_tup ?_ | refine cas_isi_lst ?_
    | refine iteT ?_ | refine iteF ?_ | refine and_nols ?_
  | ((with_reducible refine ev_varx ?_); refine ⟨_, rfl, ?_⟩)
  | ((with_reducible refine ops_ix_tupx ?_); first | refine ⟨_, rfl, ?_⟩ | refine ⟨_, atI_nat (j := 0) rfl, ?_⟩ | refine ⟨_, atI_nat (j := 1) rfl, ?_⟩ | refine ⟨_, atI_nat (j := 2) rfl, ?_⟩ | refine ⟨_, atI_nat (j := 3) rfl, ?_⟩ | refine ⟨_, atI_nat (j := 4) rfl, ?_⟩ | refine ⟨_, atI_nat (j := 5) rfl, ?_⟩ | refine ⟨_, atI_nat (j := 6) rfl, ?_⟩)
  | ((with_reducible refine sz_and ?_ ?_); exact rfl)
  | ((with_reducible refine ev_ownx ?_); refine ⟨_, rfl, ?_⟩)
  | ((with_reducible refine ev_refx ?_); refine ⟨_, rfl, ?_⟩)
  | (with_reducible refine sxn_seq ?_) | (with_reducible refine uns_neg ?_) | (with_reducible refine ev_frz (evn_lst ?_)) | (with_reducible refine sls_tup ?_) | (refine ev_revT ?_)
  | ((refine sx_extx ?_); refine ⟨_, rfl, ?_⟩) | ((with_reducible refine ops_add_tup ?_ ?_); exact le_line rfl) | (with_reducible refine cas_listT ?_)
  | ((with_reducible refine ifT ?_ ?_); exact rfl) | ((with_reducible refine ifF ?_ ?_); exact rfl))
local macro_rules | `(tactic| walk_at "go") => `(tactic| repeat (first | walk_at "dl" | with_reducible refine ⟨_, rfl, ?_⟩ | with_reducible refine ⟨_, _, rfl, ?_⟩))
/-! ### sets of goods, in order -/
def unK : List Key → Gd
  | [.inr a, .inr b] => (a, b)
  | _ => ("", "")
theorem kD_gK (g : Gd) : kD (gK g) = gD g := rfl
theorem goodsV_len {d : D} (hP : Plant d) : (goodsV d).length ≤ 6 := by
  obtain ⟨ks, cs, cr, r, rfl, p⟩ := hP
  have n3 := p.n3
  show (goods ks).length ≤ 6
  rw [goods_len]
  omega
theorem goodsV_ok {d : D} (hP : Plant d) : ∀ g ∈ goodsV d, okG g := fun g m => by
  obtain ⟨ks, cs, cr, r, rfl, p⟩ := hP
  exact p.okG m
theorem goodsV_srt {d : D} (hP : Plant d) : (goodsV d).Pairwise gLt := by
  obtain ⟨ks, cs, cr, r, rfl, p⟩ := hP
  exact p.sorted
def setV (d : D) (xs : List Gd) : List Gd := (goodsV d).filter fun g => decide (g ∈ xs)
theorem setV_srt {d : D} (hP : Plant d) (xs : List Gd) : (setV d xs).Pairwise gLt := (goodsV_srt hP).filter _
theorem setV_sub {d : D} {xs : List Gd} {g : Gd} (h : g ∈ setV d xs) : g ∈ goodsV d ∧ g ∈ xs := by
  obtain ⟨h1, h2⟩ := List.mem_filter.mp h
  exact ⟨h1, of_decide_eq_true h2⟩
theorem setV_mem {d : D} {xs : List Gd} (h : ∀ g ∈ xs, g ∈ goodsV d) {g : Gd} : g ∈ setV d xs ↔ g ∈ xs :=
  ⟨fun m => (setV_sub m).2, fun m => List.mem_filter.mpr ⟨h g m, decide_eq_true m⟩⟩
theorem setV_len {d : D} (hP : Plant d) (xs : List Gd) : (setV d xs).length ≤ 6 := Nat.le_trans (List.length_filter_le _ _) (goodsV_len hP)
theorem gsort_setV {d : D} (hP : Plant d) {zs xs : List Gd} (nd : zs.Nodup) (mem : ∀ g, g ∈ zs ↔ g ∈ xs) (sub : ∀ g ∈ xs, g ∈ goodsV d) : gsort zs = setV d xs := by
  rw [gsort_eq (same_perm nd (gLt_nodup (setV_srt hP xs)) fun g => by rw [mem, setV_mem sub]), gsort_self (setV_srt hP xs)]
theorem gl_near (gs : List Gd) : AllNear (gl gs) := fun a ha b hb => by
  obtain ⟨x, _, rfl⟩ := List.mem_map.mp ha
  obtain ⟨y, _, rfl⟩ := List.mem_map.mp hb
  exact ⟨_, _, _, _, rfl, rfl, rfl, fun _ => rfl⟩
section
variable {K : PySem.W.Frag} {W : Wd} {H0 : Hp} {ρ : Rho} {P : Sl → Prop} {t : TA} {Pg : Program} {w : World}
theorem ev_setG {d : D} (hP : Plant d) (h : EvA K W H0 t ρ fun ss => ∃ s xs, ss = [s] ∧ SqOf s (gl xs) ∧ (∀ g ∈ xs, g ∈ goodsV d) ∧ P (.dat (.list (gl (setV d xs))))) :
    Ev K W H0 (tCB (rSortT Pg w) (tCons (tCB (rSetT K Pg w) t) tNil)) ρ P :=
  ev_srtsetT fun σ F H o ho Q f => h σ F H o ho Q fun vs F' H' ss o' st hv ⟨s, xs, e, q, sub, p⟩ => f vs F' H' ss o' st hv ⟨s, xs.map gK, e, by rw [List.map_map]; exact q, fun M nd hm => by
    have z := nodup_le M ((goodsV d).map gK) nd fun k m => by
      obtain ⟨g, mg, rfl⟩ := List.mem_map.mp (hm k m)
      exact List.mem_map.mpr ⟨g, sub g mg, rfl⟩
    rw [List.length_map] at z
    have := goodsV_len hP
    omega, by rw [List.map_map]; exact gl_near xs, fun ys nd mem => by
    have e1 : ys = (ys.map unK).map gK := by
      rw [List.map_map]
      refine (List.map_id' ys).symm.trans (List.map_congr_left fun y m => ?_)
      obtain ⟨g, _, rfl⟩ := List.mem_map.mp ((mem y).mp m)
      rfl
    generalize ys.map unK = zs at e1
    subst e1
    have e2 : (zs.map gK).map kD = gl zs := by rw [List.map_map]; rfl
    rw [e2, srt_gl, gsort_setV hP (List.Pairwise.of_map gK (fun _ _ ne e => ne (by rw [e])) nd) (fun g => ?_) sub]
    · exact p
    · have z := mem (gK g)
      refine ⟨fun m => ?_, fun m => ?_⟩
      · obtain ⟨g2, m2, e⟩ := List.mem_map.mp (z.mp (List.mem_map.mpr ⟨g, m, rfl⟩))
        rw [← gK_inj e]
        exact m2
      · obtain ⟨g2, m2, e⟩ := List.mem_map.mp (z.mpr (List.mem_map.mpr ⟨g, m, rfl⟩))
        rw [← gK_inj e]
        exact m2⟩
end
theorem no_elem {c : Bool} {A : Prop} (h : c = false) : c = false ∧ (c = true → A) := ⟨h, fun z => by rw [h] at z; cases z⟩
theorem none_left (xs : List D) : (xs.filter fun _ => false).map id = [] := by
  rw [List.filter_eq_nil_iff.mpr (fun _ _ => by simp)]
  rfl
/-! ### all that a good hangs on, looked at -/
theorem onV_iff {d : D} (hP : Plant d) {g o : Gd} (h : g ∈ goodsV d) : o ∈ onV d g ↔ Reach (kindsOf d) (copyAsks d) g o := by
  obtain ⟨ks, cs, cr, r, rfl, p⟩ := hP
  exact onV_mem p h
theorem onV_sub {d : D} {g o : Gd} (m : o ∈ onV d g) : o ∈ goodsV d := (List.mem_filter.mp m).1
theorem onV_six {d : D} (hP : Plant d) (g : Gd) : (onV d g).length ≤ 6 := Nat.le_trans (List.length_filter_le _ _) (goodsV_len hP)
theorem str_sub {d : D} (hP : Plant d) {g o : Gd} (h : g ∈ goodsV d) (m : o ∈ straightV d g) : o ∈ goodsV d := by
  obtain ⟨ks, cs, cr, r, rfl, p⟩ := hP
  exact p.strt h m
theorem str_four {d : D} (hP : Plant d) {g : Gd} (h : g ∈ goodsV d) : (straightV d g).length ≤ 4 := by
  obtain ⟨ks, cs, cr, r, rfl, p⟩ := hP
  exact p.slen h
theorem str_set {d : D} (hP : Plant d) {g : Gd} (h : g ∈ goodsV d) : setV d (straightV d g) = straightV d g := by
  have nd : (straightV d g).Nodup := by
    obtain ⟨ks, cs, cr, r, rfl, p⟩ := hP
    exact p.snd h
  rw [← gsort_setV hP nd (fun _ => Iff.rfl) fun o m => str_sub hP h m]
  unfold straightV straight
  exact gsort_eq (ksort_perm gD _)
theorem str_leaf (d : D) (g : Gd) : (("leaf" : Str), g.2) ∈ straightV d g := straight_mem.mpr (.inl rfl)
theorem reach_split {ks cs : List D} {g o : Gd} (h : Reach ks cs g o) : o ∈ straight ks cs g ∨ ∃ q ∈ straight ks cs g, Reach ks cs q o := by
  induction h with
  | one m => exact .inl m
  | more _ m ih =>
    rcases ih with h | ⟨q, h1, h2⟩
    · exact .inr ⟨_, h, .one m⟩
    · exact .inr ⟨q, h1, .more h2 m⟩
/-- what stands in every one's list -/
noncomputable def everyV (d : D) (g : Gd) (i : Nat) : List Gd := straightV d g ++ ((straightV d g).take i).flatMap (onV d)
theorem every_sub {d : D} (hP : Plant d) {g : Gd} (h : g ∈ goodsV d) (i : Nat) : ∀ o ∈ everyV d g i, o ∈ goodsV d := fun o m => by
  rcases List.mem_append.mp m with m | m
  · exact str_sub hP h m
  · obtain ⟨q, _, m⟩ := List.mem_flatMap.mp m
    exact onV_sub m
theorem every_set {d : D} (hP : Plant d) {g : Gd} (h : g ∈ goodsV d) : setV d (everyV d g (straightV d g).length) = onV d g := by
  unfold setV onV
  refine List.filter_congr fun o _ => decide_eq_decide.mpr ?_
  unfold everyV
  rw [List.take_length, List.mem_append, List.mem_flatMap]
  refine ⟨fun m => ?_, fun m => ?_⟩
  · rcases m with m | ⟨q, h1, m⟩
    · exact .one m
    · exact Reach.trans (.one h1) ((onV_iff hP (str_sub hP h h1)).mp m)
  · rcases reach_split m with m | ⟨q, h1, h2⟩
    · exact .inl m
    · exact .inr ⟨q, h1, (onV_iff hP (str_sub hP h h1)).mpr h2⟩
abbrev LHangs (Pg : Program) (w : World) (K : PySem.W.Frag) (mg : Str → Option Value) (base : Heap) := Fn Pg w K mg base "_law_hangs_right" 4 ["_law_plant_here", "_law_one"] (Pm2 K preS fun _ _ => .bool true)
section
variable {Pg : Program} {w : World} {K : PySem.W.Frag} {mg : Str → Option Value} {base : Heap} {f : Addr} {fd : FuncData}
theorem ok_hangs_right (F : Fun K "_law_hangs_right" "_law_hangs_right" s__law_hangs_right f fd) (T : Txt mg) (C_hangs_on : COn Pg w K mg base) (C_hangs_straight : CStraight Pg w K mg base) : FnG Pg w K mg base 4 f fd ["_law_plant_here", "_law_one"] (Pm2 K preS fun _ _ => .bool true) := by
  have nd := sc__law_hangs_right.nd
  refine fnG_of F sc__law_hangs_right pm_len (fun cdv A ou s H vs Q hgd hr h => ?_)
  have hu : (A.deeper (PyProof.Rows.envOfC "_law_hangs_right" (defScope s__law_hangs_right) s.heap.objs.size f cdv)).units + 64 < cLine := by have := hr.un; omega
  have hu5 : (A.deeper (PyProof.Rows.envOfC "_law_hangs_right" (defScope s__law_hangs_right) s.heap.objs.size f cdv)).units + 65 < cLine := by have := hr.un; omega
  refine ⟨_, (pss_cons (ps_asg (pe_tup (pa_cons (pe_fn C_hangs_on hgd (hr.mono (by first | decide | omega)) rfl (pa_cons (pv 0) (pa_cons (pv 1) pa_nil))) (pa_cons (pe_fn C_hangs_straight hgd (hr.mono (by first | decide | omega)) rfl (pa_cons (pv 0) (pa_cons (pv 1) pa_nil))) pa_nil))) (pg_tup (n := 2) rfl (pgs_cons (pg_name (i := 2) nd rfl (Or.inr rfl) (Or.inl rfl)) (pgs_cons (pg_name (i := 3) nd rfl (Or.inl rfl) (Or.inl rfl)) pgs_nil)))) (pss_cons (ps_set (i := 4) nd rfl (Or.inl rfl) (pe_callTy (r := rListOf K) call_list_of (by rfl) T.b_list (by decide +kernel) (pa_cons (pv 3) pa_nil)) (hf := Or.inl rfl)) (pss_cons (ps_for PassesOwn.never rfl (pi_tup (pv 3)) (pg_name (i := 5) nd rfl (Or.inl rfl) (Or.inl rfl)) (pss_one (ps_expr (pe_bm PySem.F.plainAttrs_list PySem.F.slot_list_extend PySem.F.type_list_extend mt_extendT (pv 4) (pa_cons (pe_fn C_hangs_on hgd (hr.mono (by first | decide | omega)) rfl (pa_cons (pv 0) (pa_cons (pv 5) pa_nil))) pa_nil))))) (pss_cons (ps_if (PW.pt (pw_or (pt_cmpR (r := rNe2 K) (opNe hu) (pe_callTy (r := rTupleOf K) call_tuple_of (by rfl) T.b_tuple (by decide +kernel) (pa_cons (pe_callB (r := rSortT Pg w) (cr_sortT rfl hu) (by rfl) T.b_sorted (by decide +kernel) (pa_cons (pe_callTy (r := rSetT K Pg w) (cr_setT rfl hu) (by rfl) T.b_set (by decide +kernel) (pa_cons (pv 4) pa_nil)) pa_nil)) pa_nil)) (pv 2) (nomark _)) (pw_or1 (pt_cmpR (r := rNotIn2 K) (opNotIn hu5) (pe_tup (pa_cons pe_str (pa_cons (pe_ix (r := rIx K) ix_seq (pv 1) pe_int (fun _ _ => rfl)) pa_nil))) (pv 3) (by rfl))))) (pss_one (ps_ret pe_bl)) pss_nil) (pss_cons (ps_for PassesOwn.never rfl (pi_tup (pv 2)) (pg_name (i := 5) nd rfl (Or.inl rfl) (Or.inl rfl)) (pss_one (ps_if (pt_cmpR (r := rNe2 K) (opNe hu) (pe_lc (own := [("_law_third", 6)]) (g := gName 6) rfl nd (pi_tup (pe_fn C_hangs_on hgd (hr.mono (by first | decide | omega)) rfl (pa_cons (pv 0) (pa_cons (pv 5) pa_nil)))) (blkOk_by (N := ["_law_plant_here", "_law_one", "_law_on", "_law_straight", "_law_every", "_law_other", "_law_third"]) (sc := (defScope s__law_hangs_right)) (by decide +kernel)) (fun _ _ _ _ _ => (pg_name (i := 6) nd rfl (Or.inl rfl) (Or.inr rfl))) (fun _ _ _ _ _ => (pts_one (pt_cmpR (r := rNotIn2 K) (opNotIn hu5) (pv 6) (pv 2) (by rfl)))) (fun _ _ _ _ _ => (pv 6))) (pe_lst pa_nil) (nomark _)) (pss_one (ps_ret pe_bl)) pss_nil))) (pss_one (ps_ret (pe_cmpR (r := rEq2 K) (opEq hu) (pe_callTy (r := rListOf K) call_list_of (by rfl) T.b_list (by decide +kernel) (pa_cons (pv 3) pa_nil)) (pe_callB (r := rSortT Pg w) (cr_sortT rfl hu) (by rfl) T.b_sorted (by decide +kernel) (pa_cons (pe_callTy (r := rSetT K Pg w) (cr_setT rfl hu) (by rfl) T.b_set (by decide +kernel) (pa_cons (pv 3) pa_nil)) pa_nil)) (nomark _))))))))), body2 (by decide) h fun W F0 d e ⟨hP, g, he, hg⟩ => ?_⟩
  subst he
  have okV := goodsV_ok hP
  have n6 := onV_six hP
  have s4 := str_four hP hg
  have okS : ∀ o ∈ straightV d g, okG o := fun o m => okV o (str_sub hP hg m)
  have okO : ∀ q, ∀ o ∈ onV d q, okG o := fun q o m => okV o (onV_sub m)
  change Sx K W H F0 _ [.dat d, .dat (gD g), .un, .un, .un, .un, .un] _
  refine sx_seq (sx_asgG (ev_tup (ea_cons (ev_fn2 ?_))))
  walk_at "go"
  refine ⟨⟨hP, g, rfl, hg⟩, ?_⟩
  refine ea_cons (ev_fn2 ?_)
  walk_at "go"
  refine ⟨⟨hP, g, rfl, hg⟩, ea_nil ⟨_, rfl, le_line rfl, ?_⟩⟩
  rw [show unG (gD g) = g from rfl]
  refine gs_tup rfl (gss_cons (gs_name trivial (gss_cons (gs_name trivial (gss_nil ?_)))))
  change Sx K W H F0 _ [.dat d, .dat (gD g), .dat (.tuple (gl (onV d g))), .dat (.tuple (gl (straightV d g))), .un, .un, .un] _
  refine sx_seq (sx_asgN (evn_list (ea_cons (ev_varx ⟨_, rfl, ea_nil ⟨_, gl (straightV d g), rfl, .inl rfl, ?_⟩⟩))))
  refine sx_seq (sx_for (fun es i ρ' => es = gl (straightV d g) ∧ ∃ s5, ρ' = [.dat d, .dat (gD g), .dat (.tuple (gl (onV d g))), .dat (.tuple (gl (straightV d g))), .ls (gl (everyV d g i)), s5, .un] ∧ (everyV d g i).length ≤ 4 + 6 * i) (evi_tup (ev_varx ⟨_, rfl, _, rfl, ⟨rfl, .un, ?_, ?_⟩, ?_, ?_⟩)))
  · unfold everyV
    rw [List.take_zero, List.flatMap_nil, List.append_nil]
    rfl
  · unfold everyV
    rw [List.take_zero, List.flatMap_nil, List.append_nil]
    omega
  · rintro i z ρ' hz ⟨_, s5, rfl, le⟩
    obtain ⟨o, ho, rfl⟩ := gl_get hz
    have om := List.mem_of_getElem? ho
    have hi : i < 4 := by
      have := (List.getElem?_eq_some_iff.mp ho).1
      omega
    have e1 : everyV d g (i + 1) = everyV d g i ++ onV d o := by
      unfold everyV
      rw [List.take_add_one, ho, List.flatMap_append, List.append_assoc]
      simp
    have n6o := n6 o
    refine gs_name trivial ?_
    change Sx K W H F0 _ [.dat d, .dat (gD g), .dat (.tuple (gl (onV d g))), .dat (.tuple (gl (straightV d g))), .ls (gl (everyV d g i)), .dat (gD o), .un] _
    refine sx_extT (ds := gl (everyV d g i)) rfl (ev_fn2 ?_)
    walk_at "go"
    refine ⟨⟨hP, o, rfl, str_sub hP hg om⟩, _, rfl, by rw [gl_len, gl_len, show unG (gD o) = o from rfl, sizeLine_eq]; omega, rfl, .dat (gD o), ?_, ?_⟩
    · rw [show unG (gD o) = o from rfl, ← gl_app, ← e1]
      rfl
    · rw [e1, List.length_append]
      omega
  rintro ρ' ⟨_, s5, rfl, le⟩
  rw [gl_len] at le ⊢
  refine sx_seq (sx_if (et_or (et_test (ev_op (ev_cb (ea_cons (ev_setG hP (ea_cons (ev_own rfl (ea_nil ⟨_, _, rfl, .inr (.inr rfl), every_sub hP hg _, ?_⟩)))))))))) 
  rw [every_set hP hg]
  refine ea_nil (cas_tuple (.inr (.inl rfl)) (ev_varx ⟨_, rfl, ops_ne (gl_tup (okO g) (by have := n6 g; omega)).shaped (gl_tup (okO g) (by have := n6 g; omega)).shaped ⟨_, rfl, ifN (by rw [eqv_tup, decide_eq_true rfl]; rfl) ?_⟩⟩))
  refine et_test (ev_op (ev_tup (ea_cons (ev_str (ea_cons (ev_op (ev_varx ⟨_, rfl, ev_int (ops_ix_tup (d := .str g.2) (atI_nat (j := 1) rfl) (ea_nil ⟨_, rfl, le_line rfl, ?_⟩))⟩)))))))
  refine ev_varx ⟨_, rfl, ops_notin_tup (d := gD (("leaf" : Str), g.2)) (g_fine (okS _ (str_leaf d g))).shaped (gl_tup okS (by omega)).shaped ⟨_, rfl, ?_⟩⟩
  rw [any_g, decide_eq_true (str_leaf d g)]
  refine ifN rfl (sx_next ?_)
  refine sx_seq (sx_for (fun es i ρ' => es = gl (onV d g) ∧ ∃ s5, ρ' = [.dat d, .dat (gD g), .dat (.tuple (gl (onV d g))), .dat (.tuple (gl (straightV d g))), .ls (gl (everyV d g (straightV d g).length)), s5, .un]) (evi_tup (ev_varx ⟨_, rfl, _, rfl, ⟨rfl, _, rfl⟩, ?_, ?_⟩)))
  · rintro i z ρ' hz ⟨_, s5, rfl⟩
    obtain ⟨o, ho, rfl⟩ := gl_get hz
    have om := List.mem_of_getElem? ho
    have og := onV_sub om
    refine gs_name trivial ?_
    change Sx K W H F0 _ [.dat d, .dat (gD g), .dat (.tuple (gl (onV d g))), .dat (.tuple (gl (straightV d g))), .ls (gl (everyV d g (straightV d g).length)), .dat (gD o), .un] _
    refine sx_if (et_test (ev_op (ev_frz (evn_map (fun _ => false) id (evi_tup (ev_fn2 ?_))))))
    walk_at "go"
    refine ⟨⟨hP, o, rfl, og⟩, _, rfl, by rw [gl_len, show unG (gD o) = o from rfl, sizeLine_eq]; have := n6 o; omega, fun z hz => ?_, ?_⟩
    · obtain ⟨q, hq, rfl⟩ := List.mem_map.mp hz
      have hq : q ∈ onV d o := hq
      refine gc_name (by decide) trivial ?_
      refine et_test (ev_op (ev_varx ⟨_, rfl, ev_varx ⟨_, rfl, ops_notin_tup (g_fine (okO o q hq)).shaped (gl_tup (okO g) (by have := n6 g; omega)).shaped ⟨_, rfl, ?_⟩⟩⟩))
      rw [any_g, decide_eq_true ((onV_iff hP hg).mpr (Reach.trans ((onV_iff hP hg).mp om) ((onV_iff hP og).mp hq)))]
      exact no_elem rfl
    rw [none_left]
    exact ev_frz (evn_lst (ea_nil ⟨[], rfl, le_line rfl, ops_ne shaped_nil shaped_nil ⟨_, rfl, ifN rfl (sx_next ⟨rfl, _, rfl⟩)⟩⟩))
  rintro ρ' ⟨_, s5, rfl⟩
  refine sx_ret (ev_op (ev_frz (evn_list (ea_cons (ev_varx ⟨_, rfl, ea_nil ⟨_, gl (straightV d g), rfl, .inl rfl, ?_⟩⟩)))))
  refine ev_setG hP (ea_cons (ev_varx ⟨_, rfl, ea_nil ⟨_, straightV d g, rfl, .inl rfl, fun o m => str_sub hP hg m, ?_⟩⟩))
  rw [str_set hP hg]
  refine ops_eq (gl_lst okS (by omega)).shaped (gl_lst okS (by omega)).shaped ?_
  rw [eqv_lst, decide_eq_true rfl]
end
end K09

namespace K09
open PySem L2 RZ DL
/-! the walk by data -/
local macro_rules | `(tactic| walk_at "dl") => `(tactic| first
  | with_reducible first
    | refine sx_seq ?_ | refine sx_if ?_ | refine sx_next ?_
    | refine et_not ?_ | refine et_B ?_ | refine et_test ?_ | refine et_and ?_ | refine et_or ?_ | refine et_yes ?_
    | refine ev_and ?_ | refine ev_or ?_ | refine ev_not ?_ | refine ev_if ?_ | refine ev_chain ?_
    | refine ev_int ?_ | refine ev_bl ?_ | refine ev_str ?_ | refine ev_non ?_ | refine ev_c ?_
    | refine ev_op ?_ | refine ev_un ?_ | refine ev_cb ?_ | refine ev_fn1 ?_ | refine ev_fn2 ?_ | refine ev_sl ?_ | refine eo_none ?_ | refine eo_some ?_ | refine ev_tup ?_
    | refine ea_cons ?_ | refine ea_nil ?_
    | refine ops_ge ?_ | refine ops_le ?_ | refine ops_gt ?_ | refine ops_lt ?_ | refine ops_leS ?_ | refine ops_ltS ?_ | refine ops_add_int ?_ | refine ops_sub ?_ | refine ops_isN ?_ | refine ops_isNot ?_ | refine ops_eq_int ?_ | refine ops_eqS ?_ | refine ops_neS ?_
    | refine cas_len_tup ?_ | refine cas_isi_int ?_ | refine cas_isi_bool ?_ | refine cas_isi_str ?_ | refine cas_isi_tup ?_ | refine cas_isi_lst ?_
    | refine iteT ?_ | refine iteF ?_ | refine and_nols ?_
  | ((with_reducible refine ev_varx ?_); refine ⟨_, rfl, ?_⟩)
  | ((with_reducible refine ops_ix_tupx ?_); first | refine ⟨_, rfl, ?_⟩ | refine ⟨_, atI_nat (j := 0) rfl, ?_⟩ | refine ⟨_, atI_nat (j := 1) rfl, ?_⟩ | refine ⟨_, atI_nat (j := 2) rfl, ?_⟩ | refine ⟨_, atI_nat (j := 3) rfl, ?_⟩ | refine ⟨_, atI_nat (j := 4) rfl, ?_⟩ | refine ⟨_, atI_nat (j := 5) rfl, ?_⟩ | refine ⟨_, atI_nat (j := 6) rfl, ?_⟩)
  | ((with_reducible refine sz_and ?_ ?_); exact rfl)
  | ((with_reducible refine ev_ownx ?_); refine ⟨_, rfl, ?_⟩)
  | ((with_reducible refine ev_refx ?_); refine ⟨_, rfl, ?_⟩)
  | (with_reducible refine sxn_seq ?_) | (with_reducible refine uns_neg ?_) | (with_reducible refine ev_frz (evn_lst ?_)) | (with_reducible refine sls_tup ?_) | (refine ev_revT ?_)
  | ((refine sx_extx ?_); refine ⟨_, rfl, ?_⟩) | ((with_reducible refine ops_add_tup ?_ ?_); exact le_line rfl) | (with_reducible refine cas_listT ?_)
  | ((with_reducible refine ifT ?_ ?_); exact rfl) | ((with_reducible refine ifF ?_ ?_); exact rfl))
local macro_rules | `(tactic| walk_at "go") => `(tactic| repeat (first | walk_at "dl" | with_reducible refine ⟨_, rfl, ?_⟩ | with_reducible refine ⟨_, _, rfl, ?_⟩))
/-! ### rings, looked at -/
section
variable {d : D} {g h o : Gd}
theorem ringV_mem : o ∈ ringV d g ↔ o ∈ onV d g ∧ g ∈ onV d o := by
  unfold ringV
  rw [List.mem_filter, decide_eq_true_eq]
theorem fold_rings (d : D) : ∀ (gs : List Gd) (acc : List (List Gd)), acc.Nodup → (gs.foldl (stepR d) acc).Nodup ∧ ∀ x, x ∈ gs.foldl (stepR d) acc ↔ x ∈ acc ∨ ∃ g ∈ gs, g ∈ onV d g ∧ x = ringV d g
  | [], acc, nd => ⟨nd, fun x => by simp⟩
  | g :: gs, acc, nd => by
    have st : (stepR d acc g).Nodup ∧ ∀ x, x ∈ stepR d acc g ↔ x ∈ acc ∨ (g ∈ onV d g ∧ x = ringV d g) := by
      unfold stepR
      by_cases c : g ∈ onV d g ∧ ringV d g ∉ acc
      · rw [if_pos c]
        refine ⟨List.nodup_append.mpr ⟨nd, by simp, fun a ha b hb z => ?_⟩, fun x => ?_⟩
        · rw [List.mem_singleton.mp hb] at z
          exact c.2 (z ▸ ha)
        · rw [List.mem_append, List.mem_singleton]
          exact or_congr_right ⟨fun e => ⟨c.1, e⟩, fun e => e.2⟩
      · rw [if_neg c]
        refine ⟨nd, fun x => ⟨.inl, fun m => m.elim id fun ⟨h1, h2⟩ => ?_⟩⟩
        rw [h2]
        exact Classical.byContradiction fun z => c ⟨h1, z⟩
    obtain ⟨h1, h2⟩ := fold_rings d gs (stepR d acc g) st.1
    refine ⟨h1, fun x => ?_⟩
    rw [List.foldl_cons, h2 x, st.2 x, or_assoc]
    refine or_congr_right ⟨fun m => ?_, fun ⟨q, mq, r⟩ => ?_⟩
    · rcases m with m | ⟨q, mq, r⟩
      · exact ⟨g, List.mem_cons_self, m⟩
      · exact ⟨q, List.mem_cons_of_mem _ mq, r⟩
    · rcases List.mem_cons.mp mq with rfl | mq
      · exact .inl r
      · exact .inr ⟨q, mq, r⟩
theorem rings_mem {x : List Gd} : x ∈ ringsV d ↔ ∃ g ∈ goodsV d, g ∈ onV d g ∧ x = ringV d g := by
  unfold ringsV
  rw [(ksort_perm tD _).mem_iff]
  unfold ringsL
  rw [(fold_rings d (goodsV d) [] List.nodup_nil).2 x]
  simp
theorem rings_nd : (ringsV d).Nodup := (ksort_perm tD _).nodup_iff.mpr (fold_rings d (goodsV d) [] List.nodup_nil).1
theorem rings_lt : (ringsV d).Pairwise fun a b => PySem.W.dataLt (tD a) (tD b) = true := by
  have h1 : (ringsV d).Pairwise fun a b => PySem.W.dataLe false tD a b = true := ksort_le tD _
  have h2 : (ringsV d).Pairwise fun a b => a ≠ b := rings_nd
  refine (List.pairwise_and_iff.mpr ⟨h1, h2⟩).imp fun {a b} ⟨l, n⟩ => ?_
  rw [PySem.W.dataLe_eq] at l
  simp only [cond_false, Bool.not_eq_true'] at l
  cases e : PySem.W.dataLt (tD a) (tD b) with
  | true => rfl
  | false =>
    exfalso
    exact n (toks_t a b (PyProof.Rows.lex_total _ _ e l))
/-! classes -/
variable (hP : Plant d)
include hP
theorem on_same (hg : g ∈ goodsV d) (hh : h ∈ ringV d g) : onV d h = onV d g := by
  obtain ⟨h1, h2⟩ := ringV_mem.mp hh
  have hG := onV_sub h1
  have r1 := (onV_iff hP hg).mp h1
  have r2 := (onV_iff hP hG).mp h2
  unfold onV
  exact List.filter_congr fun o _ => decide_eq_decide.mpr ⟨fun m => Reach.trans r1 m, fun m => Reach.trans r2 m⟩
theorem ring_same (hg : g ∈ goodsV d) (hh : h ∈ ringV d g) : ringV d h = ringV d g := by
  obtain ⟨h1, h2⟩ := ringV_mem.mp hh
  have hG := onV_sub h1
  have r1 := (onV_iff hP hg).mp h1
  have r2 := (onV_iff hP hG).mp h2
  unfold ringV
  rw [on_same hP hg hh]
  refine List.filter_congr fun o mo => decide_eq_decide.mpr ?_
  have oG := onV_sub mo
  rw [onV_iff hP oG, onV_iff hP oG]
  exact ⟨fun m => Reach.trans m r2, fun m => Reach.trans m r1⟩
theorem ring_self (hg : g ∈ goodsV d) (hh : h ∈ ringV d g) : h ∈ onV d h := by
  obtain ⟨h1, h2⟩ := ringV_mem.mp hh
  have hG := onV_sub h1
  exact (onV_iff hP hG).mpr (Reach.trans ((onV_iff hP hG).mp h2) ((onV_iff hP hg).mp h1))
theorem in_ring {r : List Gd} (hr : r ∈ ringsV d) (ho : o ∈ goodsV d) : o ∈ r ↔ o ∈ onV d o ∧ r = ringV d o := by
  obtain ⟨g, hg, hgg, rfl⟩ := rings_mem.mp hr
  exact ⟨fun m => ⟨ring_self hP hg m, (ring_same hP hg m).symm⟩, fun ⟨m, e⟩ => by rw [e]; exact ringV_mem.mpr ⟨m, m⟩⟩
theorem own_len (ho : o ∈ goodsV d) : ((ringsV d).filter fun r => decide (o ∈ r)).length = if o ∈ onV d o then 1 else 0 := by
  by_cases m : o ∈ onV d o
  · rw [if_pos m]
    have e : ((ringsV d).filter fun r => decide (o ∈ r)) = (ringsV d).filter fun r => r == ringV d o := List.filter_congr fun r mr => by
      rw [Bool.eq_iff_iff, decide_eq_true_eq, beq_iff_eq, in_ring hP mr ho]
      exact ⟨fun x => x.2, fun x => ⟨m, x⟩⟩
    rw [e, ← List.countP_eq_length_filter]
    show (ringsV d).count (ringV d o) = 1
    rw [rings_nd.count, if_pos (rings_mem.mpr ⟨o, ho, m, rfl⟩)]
  · rw [if_neg m, List.length_eq_zero_iff, List.filter_eq_nil_iff]
    intro r mr z
    exact m ((in_ring hP mr ho).mp (of_decide_eq_true z)).1
theorem leaf_self (ho : o ∈ goodsV d) (hl : o.1 = "leaf") : o ∈ onV d o := by
  obtain ⟨x, y⟩ := o
  obtain rfl : x = "leaf" := hl
  exact (onV_iff hP ho).mpr (.one (str_leaf d (("leaf" : Str), y)))
/-- all of a ring, or none -/
theorem there_all {r : List Gd} (hr : r ∈ ringsV d) (ho : o ∈ goodsV d) : (r.filter fun q => decide (q ∈ onV d o)) = [] ∨ (r.filter fun q => decide (q ∈ onV d o)) = r := by
  obtain ⟨g, hg, hgg, rfl⟩ := rings_mem.mp hr
  by_cases c : ∃ q ∈ ringV d g, q ∈ onV d o
  · obtain ⟨q, m1, m2⟩ := c
    right
    refine List.filter_eq_self.mpr fun x mx => decide_eq_true ?_
    have qG := onV_sub m2
    have r1 : x ∈ onV d q := by rw [on_same hP hg m1]; exact (ringV_mem.mp mx).1
    exact (onV_iff hP ho).mpr (Reach.trans ((onV_iff hP ho).mp m2) ((onV_iff hP qG).mp r1))
  · left
    exact List.filter_eq_nil_iff.mpr fun q m z => c ⟨q, m, of_decide_eq_true z⟩
theorem ring_first {r : List Gd} (hr : r ∈ ringsV d) : ∃ q t, r = q :: t ∧ q ∈ goodsV d ∧ (∀ o ∈ r, onV d o = onV d q) ∧ ((goodsV d).filter fun o => decide (o ∈ onV d q) && decide (q ∈ onV d o)) = r := by
  obtain ⟨g, hg, hgg, e⟩ := rings_mem.mp hr
  have gm : g ∈ r := by rw [e]; exact ringV_mem.mpr ⟨hgg, hgg⟩
  cases r with
  | nil => cases gm
  | cons q t =>
    have qr : q ∈ ringV d g := by rw [← e]; exact List.mem_cons_self
    have qG := onV_sub (ringV_mem.mp qr).1
    refine ⟨q, t, rfl, qG, fun o m => ?_, ?_⟩
    · rw [on_same hP hg qr]
      exact on_same hP hg (by rw [← e]; exact m)
    · rw [e, ← ring_same hP hg qr]
      unfold ringV onV
      rw [List.filter_filter]
      refine List.filter_congr fun o mo => ?_
      rw [Bool.eq_iff_iff]
      simp only [Bool.and_eq_true, decide_eq_true_eq, List.mem_filter]
      exact ⟨fun ⟨m1, m2⟩ => ⟨m2, m1.2⟩, fun ⟨m1, m2⟩ => ⟨⟨mo, m2⟩, m1⟩⟩
end
end K09

namespace K09
open PySem L2 RZ DL
/-! the walk by data -/
local macro_rules | `(tactic| walk_at "dl") => `(tactic| first
  | with_reducible first
    | refine sx_seq ?_ | refine sx_if ?_ | refine sx_next ?_
    | refine et_not ?_ | refine et_B ?_ | refine et_test ?_ | refine et_and ?_ | refine et_or ?_ | refine et_yes ?_
    | refine ev_and ?_ | refine ev_or ?_ | refine ev_not ?_ | refine ev_if ?_ | refine ev_chain ?_
    | refine ev_int ?_ | refine ev_bl ?_ | refine ev_str ?_ | refine ev_non ?_ | refine ev_c ?_
    | refine ev_op ?_ | refine ev_un ?_ | refine ev_cb ?_ | refine ev_fn1 ?_ | refine ev_fn2 ?_ | refine ev_sl ?_ | refine eo_none ?_ | refine eo_some ?_ | refine ev_tup ?_
    | refine ea_cons ?_ | refine ea_nil ?_
    | refine ops_ge ?_ | refine ops_le ?_ | refine ops_gt ?_ | refine ops_lt ?_ | refine ops_leS ?_ | refine ops_ltS ?_ | refine ops_add_int ?_ | refine ops_sub ?_ | refine ops_isN ?_ | refine ops_isNot ?_ | refine ops_eq_int ?_ | refine ops_eqS ?_ | refine ops_neS ?_
    | refine cas_len_tup ?_ | refine cas_isi_int ?_ | refine cas_isi_bool ?_ | refine cas_isi_str ?_ | refine cas_isi_tup ?_ | refine cas_isi_lst ?_
    | refine iteT ?_ | refine iteF ?_ | refine and_nols ?_
  | ((with_reducible refine ev_varx ?_); refine ⟨_, rfl, ?_⟩)
  | ((with_reducible refine ops_ix_tupx ?_); first | refine ⟨_, rfl, ?_⟩ | refine ⟨_, atI_nat (j := 0) rfl, ?_⟩ | refine ⟨_, atI_nat (j := 1) rfl, ?_⟩ | refine ⟨_, atI_nat (j := 2) rfl, ?_⟩ | refine ⟨_, atI_nat (j := 3) rfl, ?_⟩ | refine ⟨_, atI_nat (j := 4) rfl, ?_⟩ | refine ⟨_, atI_nat (j := 5) rfl, ?_⟩ | refine ⟨_, atI_nat (j := 6) rfl, ?_⟩)
  | ((with_reducible refine sz_and ?_ ?_); exact rfl)
  | ((with_reducible refine ev_ownx ?_); refine ⟨_, rfl, ?_⟩)
  | ((with_reducible refine ev_refx ?_); refine ⟨_, rfl, ?_⟩)
  | (with_reducible refine sxn_seq ?_) | (with_reducible refine uns_neg ?_) | (with_reducible refine ev_frz (evn_lst ?_)) | (with_reducible refine sls_tup ?_) | (refine ev_revT ?_)
  | ((refine sx_extx ?_); refine ⟨_, rfl, ?_⟩) | ((with_reducible refine ops_add_tup ?_ ?_); exact le_line rfl) | (with_reducible refine cas_listT ?_)
  | ((with_reducible refine ifT ?_ ?_); exact rfl) | ((with_reducible refine ifF ?_ ?_); exact rfl))
local macro_rules | `(tactic| walk_at "go") => `(tactic| repeat (first | walk_at "dl" | with_reducible refine ⟨_, rfl, ?_⟩ | with_reducible refine ⟨_, _, rfl, ?_⟩))
/-! ### rings: the law's look -/
theorem ringsV_ok {d : D} (hP : Plant d) : (ringsV d).length ≤ 6 ∧ ∀ x ∈ ringsV d, RingOk d x := by
  obtain ⟨ks, cs, cr, r, rfl, p⟩ := hP
  have gn : (goods ks).length ≤ 6 := by rw [goods_len]; have := p.n3; omega
  obtain ⟨h1, h2⟩ := ringsL_ok p (gs := goods ks) (fun g m => m) (goods ks).length (Nat.le_refl _)
  rw [List.take_length] at h1 h2
  have pm := ksort_perm tD (ringsL (wk4 ks cs cr r) (goods ks))
  refine ⟨?_, fun x m => h2 x (pm.mem_iff.mp m)⟩
  have : (ringsV (wk4 ks cs cr r)).length = (ringsL (wk4 ks cs cr r) (goods ks)).length := pm.length_eq
  omega
theorem rl_get {rs : List (List Gd)} {i : Nat} {z : D} (h : (rl rs)[i]? = some z) : ∃ r, rs[i]? = some r ∧ z = tD r := by
  unfold rl at h
  rw [List.getElem?_map] at h
  rcases e : rs[i]? with _ | r
  · rw [e] at h
    cases h
  · rw [e] at h
    exact ⟨r, rfl, (Option.some.inj h).symm⟩
theorem rl_len (rs : List (List Gd)) : (rl rs).length = rs.length := List.length_map _
theorem eqv_nums (a b : Nat) : PyData.eqv (.int (a : Int)) (.int (b : Int)) = decide (a = b) := by
  simp only [PyData.eqv]
  rw [Bool.eq_iff_iff, beq_iff_eq, decide_eq_true_eq]
  omega
abbrev LRingsR (Pg : Program) (w : World) (K : PySem.W.Frag) (mg : Str → Option Value) (base : Heap) := Fn Pg w K mg base "_law_rings_right" 5 ["_law_plant_here"] (Pm1 K Plant fun _ => .bool true)
section
variable {Pg : Program} {w : World} {K : PySem.W.Frag} {mg : Str → Option Value} {base : Heap} {f : Addr} {fd : FuncData}
theorem ok_rings_right (F : Fun K "_law_rings_right" "_law_rings_right" s__law_rings_right f fd) (T : Txt mg) (C_rings_of : CRings Pg w K mg base) (C_goods_of : CGoods Pg w K mg base) (C_hangs_on : COn Pg w K mg base) : FnG Pg w K mg base 5 f fd ["_law_plant_here"] (Pm1 K Plant fun _ => .bool true) := by
  have nd := sc__law_rings_right.nd
  refine fnG_of F sc__law_rings_right pm_len (fun cdv A ou s H vs Q hgd hr h => ?_)
  have hu : (A.deeper (PyProof.Rows.envOfC "_law_rings_right" (defScope s__law_rings_right) s.heap.objs.size f cdv)).units + 64 < cLine := by have := hr.un; omega
  have hu5 : (A.deeper (PyProof.Rows.envOfC "_law_rings_right" (defScope s__law_rings_right) s.heap.objs.size f cdv)).units + 65 < cLine := by have := hr.un; omega
  refine ⟨_, (pss_cons (ps_asg (pe_tup (pa_cons (pe_fn C_rings_of hgd (hr.mono (by first | decide | omega)) rfl (pa_cons (pv 0) pa_nil)) (pa_cons (pe_fn C_goods_of hgd (hr.mono (by first | decide | omega)) rfl (pa_cons (pv 0) pa_nil)) pa_nil))) (pg_tup (n := 2) rfl (pgs_cons (pg_name (i := 1) nd rfl (Or.inr rfl) (Or.inl rfl)) (pgs_cons (pg_name (i := 2) nd rfl (Or.inl rfl) (Or.inl rfl)) pgs_nil)))) (pss_cons (ps_for PassesOwn.never rfl (pi_tup (pv 2)) (pg_name (i := 3) nd rfl (Or.inr rfl) (Or.inl rfl)) (pss_cons (ps_setLc (i := 4) (own := [("_law_ring", 5)]) (g := gName 5) rfl nd rfl rfl (sw_true rfl rfl rfl (by decide +kernel)) (pi_tup (pv 1)) (blkOk_by (N := ["_law_plant_here", "_law_rings", "_law_goods", "_law_one", "_law_own", "_law_ring", "_law_on", "_law_there", "_law_k", "_law_mutual", "_law_other"]) (sc := (defScope s__law_rings_right)) (by decide +kernel)) (fun _ _ _ _ _ => (pg_name (i := 5) nd rfl (Or.inl rfl) (Or.inr rfl))) (fun _ _ _ _ _ => (pts_one (pt_cmpR (r := rIn2 K) (opIn hu5) (pv 3) (pv 5) (by rfl)))) (fun _ _ _ _ _ => (pv 5))) (pss_cons (ps_if (PW.pt (pw_or (pt_cmpR (r := rNe2 K) (opNe hu) (pe_callB (r := rLenA K) call_len (by rfl) T.b_len (by decide +kernel) (pa_cons (pv 4) pa_nil)) (pe_callTy call_int1 (by rfl) T.b_int (by decide +kernel) (pa_cons (pe_cmpR (r := rIn2 K) (opIn hu5) (pv 3) (pe_fn C_hangs_on hgd (hr.mono (by first | decide | omega)) rfl (pa_cons (pv 0) (pa_cons (pv 3) pa_nil))) (by rfl)) pa_nil)) (nomark _)) (pw_or1 (PW.pt (pw_and (pt_cmpR (r := rEq2 K) (opEq hu) (pe_ix (r := rIx K) ix_seq (pv 3) pe_int (fun _ _ => rfl)) pe_str (nomark _)) (pw_and1 (pt_cmpR (r := rEq2 K) (opEq hu) (pv 4) (pe_lst pa_nil) (nomark _)))))))) (pss_one (ps_ret pe_bl)) pss_nil) (pss_one (ps_for PassesOwn.never rfl (pi_tup (pv 1)) (pg_name (i := 5) nd rfl (Or.inl rfl) (Or.inl rfl)) (pss_cons (ps_set (i := 6) nd rfl (Or.inr rfl) (pe_fn C_hangs_on hgd (hr.mono (by first | decide | omega)) rfl (pa_cons (pv 0) (pa_cons (pv 3) pa_nil))) (hf := Or.inl rfl)) (pss_cons (ps_setLc (i := 7) (own := [("_law_other", 10)]) (g := gName 10) rfl nd rfl rfl (sw_true rfl rfl rfl (by decide +kernel)) (pi_tup (pv 5)) (blkOk_by (N := ["_law_plant_here", "_law_rings", "_law_goods", "_law_one", "_law_own", "_law_ring", "_law_on", "_law_there", "_law_k", "_law_mutual", "_law_other"]) (sc := (defScope s__law_rings_right)) (by decide +kernel)) (fun _ _ _ _ _ => (pg_name (i := 10) nd rfl (Or.inl rfl) (Or.inr rfl))) (fun _ _ _ _ _ => (pts_one (pt_cmpR (r := rIn2 K) (opIn hu5) (pv 10) (pv 6) (by rfl)))) (fun _ _ _ _ _ => (pv 10))) (pss_cons (ps_if (PW.pt (pw_and (pt_cmpR (r := rNe2 K) (opNe hu) (pv 7) (pe_lst pa_nil) (nomark _)) (pw_and1 (pt_cmpR (r := rNe2 K) (opNe hu) (pv 7) (pe_callTy (r := rListOf K) call_list_of (by rfl) T.b_list (by decide +kernel) (pa_cons (pv 5) pa_nil)) (nomark _))))) (pss_one (ps_ret pe_bl)) pss_nil) (pss_one (ps_if (PW.pt (pw_and (pt_cmpR (r := rIn2 K) (opIn hu5) (pv 3) (pv 5) (by rfl)) (pw_and1 (pt_cmpR (r := rNe2 K) (opNe hu) (pv 6) (pe_fn C_hangs_on hgd (hr.mono (by first | decide | omega)) rfl (pa_cons (pv 0) (pa_cons (pe_ix (r := rIx K) ix_seq (pv 5) pe_int (fun _ _ => rfl)) pa_nil))) (nomark _))))) (pss_one (ps_ret pe_bl)) pss_nil)))))))))) (pss_cons (ps_for PassesOwn.never rfl (pi_range1 rfl T.b_range (pa_cons (pe_callB (r := rLenA K) call_len (by rfl) T.b_len (by decide +kernel) (pa_cons (pv 1) pa_nil)) pa_nil)) (pg_name (i := 8) nd rfl (Or.inr rfl) (Or.inl rfl)) (pss_cons (ps_setLc (i := 9) (own := [("_law_one", 3)]) (g := gName 3) rfl nd rfl rfl (sw_true rfl rfl rfl (by decide +kernel)) (pi_tup (pv 2)) (blkOk_by (N := ["_law_plant_here", "_law_rings", "_law_goods", "_law_one", "_law_own", "_law_ring", "_law_on", "_law_there", "_law_k", "_law_mutual", "_law_other"]) (sc := (defScope s__law_rings_right)) (by decide +kernel)) (fun _ _ _ _ _ => (pg_name (i := 3) nd rfl (Or.inl rfl) (Or.inr rfl))) (fun _ _ _ _ _ => (pts_one (PW.pt (pw_and (pt_cmpR (r := rIn2 K) (opIn hu5) (pv 3) (pe_fn C_hangs_on hgd (hr.mono (by first | decide | omega)) rfl (pa_cons (pv 0) (pa_cons (pe_ix (r := rIx K) ix_seq (pe_ix (r := rIx K) ix_seq (pv 1) (pv 8) (fun _ _ => rfl)) pe_int (fun _ _ => rfl)) pa_nil))) (by rfl)) (pw_and1 (pt_cmpR (r := rIn2 K) (opIn hu5) (pe_ix (r := rIx K) ix_seq (pe_ix (r := rIx K) ix_seq (pv 1) (pv 8) (fun _ _ => rfl)) pe_int (fun _ _ => rfl)) (pe_fn C_hangs_on hgd (hr.mono (by first | decide | omega)) rfl (pa_cons (pv 0) (pa_cons (pv 3) pa_nil))) (by rfl))))))) (fun _ _ _ _ _ => (pv 3))) (pss_one (ps_if (PW.pt (pw_or (pt_cmpR (r := rNe2 K) (opNe hu) (pe_callTy (r := rListOf K) call_list_of (by rfl) T.b_list (by decide +kernel) (pa_cons (pe_ix (r := rIx K) ix_seq (pv 1) (pv 8) (fun _ _ => rfl)) pa_nil)) (pv 9) (nomark _)) (pw_or1 (PW.pt (pw_and (pt_cmpR opGt (pv 8) pe_int (nomark _)) (pw_and1 (pt_cmpR (r := rLeD K) (opLeD hu) (pe_ix (r := rIx K) ix_seq (pv 1) (pv 8) (fun _ _ => rfl)) (pe_ix (r := rIx K) ix_seq (pv 1) (pe_op opSub (pv 8) pe_int) (fun _ _ => rfl)) (nomark _)))))))) (pss_one (ps_ret pe_bl)) pss_nil)))) (pss_one (ps_ret pe_bl))))), body1 (by decide) h fun W F0 d hP => ?_⟩
  have okV := goodsV_ok hP
  have n6 := onV_six hP
  have gn := goodsV_len hP
  have okO : ∀ q, ∀ o ∈ onV d q, okG o := fun q o m => okV o (onV_sub m)
  obtain ⟨r6, rOk⟩ := ringsV_ok hP
  have shO : ∀ q, SeqAt.shaped (.tuple (gl (onV d q))) = true := fun q => (gl_tup (okO q) (by have := n6 q; omega)).shaped
  change Sx K W H F0 _ [.dat d, .un, .un, .un, .un, .un, .un, .un, .un, .un, .un] _
  refine sx_seq (sx_asgG (ev_tup (ea_cons (ev_fn1 ?_))))
  walk_at "go"
  refine ⟨hP, ea_cons (ev_fn1 ?_)⟩
  walk_at "go"
  refine ⟨hP, ea_nil ⟨_, rfl, le_line rfl, ?_⟩⟩
  obtain ⟨R, hR⟩ : ∃ R, R = ringsV d := ⟨_, rfl⟩
  rw [← hR] at r6 rOk ⊢
  have inR : ∀ r ∈ R, r ∈ ringsV d := fun r m => by rw [← hR]; exact m
  refine gs_tup rfl (gss_cons (gs_name trivial (gss_cons (gs_name trivial (gss_nil ?_)))))
  change Sx K W H F0 _ [.dat d, .dat (.tuple (rl R)), .dat (.tuple (gl (goodsV d))), .un, .un, .un, .un, .un, .un, .un, .un] _
  refine sx_seq (sx_for (fun es i ρ' => es = gl (goodsV d) ∧ ∃ s3 s4 s5 s6 s7, ρ' = [.dat d, .dat (.tuple (rl R)), .dat (.tuple (gl (goodsV d))), s3, s4, s5, s6, s7, .un, .un, .un]) (evi_tup (ev_varx ⟨_, rfl, _, rfl, ⟨rfl, _, _, _, _, _, rfl⟩, ?_, ?_⟩)))
  · rintro i z ρ' hz ⟨_, s3, s4, s5, s6, s7, rfl⟩
    obtain ⟨g, hg, rfl⟩ := gl_get hz
    have gm : g ∈ goodsV d := List.mem_of_getElem? hg
    have gf := (g_fine (okV g gm)).shaped
    refine gs_name trivial ?_
    change Sx K W H F0 _ [.dat d, .dat (.tuple (rl R)), .dat (.tuple (gl (goodsV d))), .dat (gD g), s4, s5, s6, s7, .un, .un, .un] _
    refine sx_seq (sx_asg (ev_frz (evn_map (fun z => decide (g ∈ unL z)) id (evi_tup (ev_varx ⟨_, rfl, _, rfl, by rw [rl_len, sizeLine_eq]; omega, fun z hz => ?_, ?_⟩)))))
    · obtain ⟨r, mr, rfl⟩ := List.mem_map.mp hz
      obtain ⟨_, l6, sub⟩ := rOk r mr
      refine gc_name (by decide) trivial ?_
      refine et_test (ev_op (ev_varx ⟨_, rfl, ev_varx ⟨_, rfl, ops_in_tup gf (gl_tup (fun o m => okV o (sub o m)) (by omega)).shaped ⟨_, rfl, ?_⟩⟩⟩))
      rw [any_g]
      exact ⟨by rw [show unL (tD r) = r from unL_tup r], fun _ => ev_varx ⟨_, rfl, rfl⟩⟩
    have em : ((rl R).filter fun z => decide (g ∈ unL z)).map id = rl (R.filter fun r => decide (g ∈ r)) := by
      unfold rl
      rw [List.filter_map, List.map_id]
      congr 1
      refine List.filter_congr fun r _ => ?_
      show decide (g ∈ unL (tD r)) = _
      rw [show unL (tD r) = r from unL_tup r]
    rw [em]
    have ol : (R.filter fun r => decide (g ∈ r)).length = if g ∈ onV d g then 1 else 0 := by rw [hR]; exact own_len hP gm
    obtain ⟨Ow, hOw⟩ : ∃ Ow, Ow = R.filter fun r => decide (g ∈ r) := ⟨_, rfl⟩
    have okOw : ∀ x ∈ Ow, RingOk d x := fun x m => rOk x (by rw [hOw] at m; exact (List.mem_filter.mp m).1)
    have lOw : Ow.length ≤ 6 := by rw [hOw]; exact Nat.le_trans (List.length_filter_le _ _) r6
    rw [← hOw] at ol ⊢
    refine ⟨trivial, ?_⟩
    change Sx K W H F0 _ [.dat d, .dat (.tuple (rl R)), .dat (.tuple (gl (goodsV d))), .dat (gD g), .dat (.list (rl Ow)), s5, s6, s7, .un, .un, .un] _
    refine sx_seq (sx_if (et_or (et_test (ev_op (ev_cb (ea_cons (ev_varx ⟨_, rfl, ea_nil (cas_len_lst (.inl rfl) ?_)⟩)))))))
    refine ev_cb (ea_cons (ev_op (ev_varx ⟨_, rfl, ev_fn2 ?_⟩)))
    walk_at "go"
    refine ⟨⟨hP, g, rfl, gm⟩, ops_in_tup gf (shO g) (ea_nil (cas_int1b ?_))⟩
    rw [rl_len, any_g]
    have e1 : (if decide (g ∈ onV d (unG (gD g))) = true then (1 : Int) else 0) = (Ow.length : Int) := by
      rw [show unG (gD g) = g from rfl, ol]
      by_cases m : g ∈ onV d g <;> simp [m]
    rw [e1]
    refine ops_ne (shaped_int _) (shaped_int _) ⟨_, rfl, ifN (by simp [PyData.eqv]) ?_⟩
    refine EvT.mono (PB := fun c => c = false) ?_ fun c e => ?_
    · refine et_and (et_test (ev_op (ev_op (ev_varx ⟨_, rfl, ev_int (ops_ix_tup (d := .str g.1) (atI_nat (j := 0) rfl) (ev_str (ops_eqS ⟨_, rfl, ?_⟩)))⟩))))
      refine if2 (fun hl => ?_) (fun _ => rfl)
      have ms := leaf_self hP gm (of_decide_eq_true hl)
      rw [if_pos ms] at ol
      refine et_test (ev_op (ev_varx ⟨_, rfl, ev_frz (evn_lst (ea_nil ⟨[], rfl, le_line rfl, ops_eq (rl_lst hP okOw (by omega)).shaped shaped_nil ⟨_, rfl, ?_⟩⟩))⟩))
      rw [eqv_nil]
      cases Ow with
      | nil => cases ol
      | cons _ _ => rfl
    subst e
    refine ifN rfl (sx_next ?_)
    refine sx_for (fun es i ρ' => es = rl R ∧ ∃ s5 s6 s7, ρ' = [.dat d, .dat (.tuple (rl R)), .dat (.tuple (gl (goodsV d))), .dat (gD g), .dat (.list (rl Ow)), s5, s6, s7, .un, .un, .un]) (evi_tup (ev_varx ⟨_, rfl, _, rfl, ⟨rfl, _, _, _, rfl⟩, ?_, ?_⟩))
    · rintro j z ρ' hz ⟨_, s5, s6, s7, rfl⟩
      obtain ⟨r, hr, rfl⟩ := rl_get hz
      have mr := List.mem_of_getElem? hr
      obtain ⟨rn, l6, sub⟩ := rOk r mr
      obtain ⟨q, t, er, qG, same, mutual_⟩ := ring_first hP (inR r mr)
      have okr : ∀ o ∈ r, okG o := fun o m => okV o (sub o m)
      have shr : SeqAt.shaped (.tuple (gl r)) = true := (gl_tup okr (by omega)).shaped
      refine gs_name trivial ?_
      change Sx K W H F0 _ [.dat d, .dat (.tuple (rl R)), .dat (.tuple (gl (goodsV d))), .dat (gD g), .dat (.list (rl Ow)), .dat (.tuple (gl r)), s6, s7, .un, .un, .un] _
      refine sx_seq (sx_asg (ev_fn2 ?_))
      walk_at "go"
      refine ⟨⟨hP, g, rfl, gm⟩, trivial, ?_⟩
      rw [show unG (gD g) = g from rfl]
      change Sx K W H F0 _ [.dat d, .dat (.tuple (rl R)), .dat (.tuple (gl (goodsV d))), .dat (gD g), .dat (.list (rl Ow)), .dat (.tuple (gl r)), .dat (.tuple (gl (onV d g))), s7, .un, .un, .un] _
      refine sx_seq (sx_asg (ev_frz (evn_map (fun z => decide (unG z ∈ onV d g)) id (evi_tup (ev_varx ⟨_, rfl, _, rfl, by rw [gl_len, sizeLine_eq]; omega, fun z hz => ?_, ?_⟩)))))
      · obtain ⟨o, mo, rfl⟩ := List.mem_map.mp hz
        refine gc_name (by decide) trivial ?_
        refine et_test (ev_op (ev_varx ⟨_, rfl, ev_varx ⟨_, rfl, ops_in_tup (g_fine (okr o mo)).shaped (shO g) ⟨_, rfl, ?_⟩⟩⟩))
        rw [any_g]
        exact ⟨rfl, fun _ => ev_varx ⟨_, rfl, rfl⟩⟩
      have em2 : ((gl r).filter fun z => decide (unG z ∈ onV d g)).map id = gl (r.filter fun o => decide (o ∈ onV d g)) := by
        unfold gl
        rw [List.filter_map, List.map_id]
        rfl
      rw [em2]
      have al := there_all hP (inR r mr) gm
      obtain ⟨Th, hTh⟩ : ∃ Th, Th = r.filter fun o => decide (o ∈ onV d g) := ⟨_, rfl⟩
      have okTh : ∀ o ∈ Th, okG o := fun o m => okr o (by rw [hTh] at m; exact (List.mem_filter.mp m).1)
      have lTh : Th.length ≤ 6 := by rw [hTh]; exact Nat.le_trans (List.length_filter_le _ _) l6
      rw [← hTh] at al ⊢
      refine ⟨trivial, ?_⟩
      change Sx K W H F0 _ [.dat d, .dat (.tuple (rl R)), .dat (.tuple (gl (goodsV d))), .dat (gD g), .dat (.list (rl Ow)), .dat (.tuple (gl r)), .dat (.tuple (gl (onV d g))), .dat (.list (gl Th)), .un, .un, .un] _
      refine sx_seq (sx_if (EvT.mono (PB := fun c => c = false) ?_ fun c e => ?_))
      · refine et_and (et_test (ev_op (ev_varx ⟨_, rfl, ev_frz (evn_lst (ea_nil ⟨[], rfl, le_line rfl, ops_ne (gl_lst okTh (by omega)).shaped shaped_nil ⟨_, rfl, ?_⟩⟩))⟩)))
        rw [eqv_nil]
        refine if2 (fun h1 => ?_) (fun _ => rfl)
        refine et_test (ev_op (ev_varx ⟨_, rfl, ev_frz (evn_list (ea_cons (ev_varx ⟨_, rfl, ea_nil ⟨_, gl r, rfl, .inl rfl, ?_⟩⟩)))⟩))
        refine ops_ne (gl_lst okTh (by omega)).shaped (gl_lst okr (by omega)).shaped ⟨_, rfl, ?_⟩
        rw [eqv_lst]
        rcases al with al | al
        · rw [al] at h1
          cases h1
        · rw [decide_eq_true al]
          rfl
      subst e
      refine ifN rfl (sx_next ?_)
      refine sx_if (EvT.mono (PB := fun c => c = false) ?_ fun c e => ?_)
      · refine et_and (et_test (ev_op (ev_varx ⟨_, rfl, ev_varx ⟨_, rfl, ops_in_tup gf shr ⟨_, rfl, ?_⟩⟩⟩)))
        rw [any_g]
        refine if2 (fun h1 => ?_) (fun _ => rfl)
        have eo := same g (of_decide_eq_true h1)
        refine et_test (ev_op (ev_varx ⟨_, rfl, ev_fn2 (ea_cons (ev_varx ⟨_, rfl, ea_cons (ev_op (ev_varx ⟨_, rfl, ev_int (ops_ix_tup (d := gD q) (atI_nat (j := 0) (by rw [er]; rfl)) (ea_nil ⟨_, _, rfl, ⟨hP, q, rfl, qG⟩, ?_⟩))⟩))⟩))⟩))
        refine ops_ne (shO g) (shO q) ⟨_, rfl, ?_⟩
        rw [show unG (gD q) = q from rfl, eqv_tup, eo, decide_eq_true rfl]
        rfl
      subst e
      exact ifN rfl (sx_next ⟨rfl, _, _, _, rfl⟩)
    · rintro ρ' ⟨_, s5, s6, s7, rfl⟩
      exact ⟨rfl, _, _, _, _, _, rfl⟩
  rintro ρ' ⟨_, s3, s4, s5, s6, s7, rfl⟩
  refine sx_seq (sx_for (fun es i ρ' => ∃ s3 s8 s9, ρ' = [.dat d, .dat (.tuple (rl R)), .dat (.tuple (gl (goodsV d))), s3, s4, s5, s6, s7, s8, s9, .un]) (evi_rng1 (ea_cons (ev_cb (ea_cons (ev_varx ⟨_, rfl, ea_nil (cas_len_tup ?_)⟩))))))
  rw [rl_len]
  refine ea_nil ⟨_, rfl, by omega, by omega, ⟨_, _, _, rfl⟩, ?_, ?_⟩
  · rintro k z ρ' hz ⟨s3, s8, s9, rfl⟩
    have hk : k < R.length := by
      have := (List.getElem?_eq_some_iff.mp hz).1
      rw [rngD_len] at this
      omega
    rw [rngD_get (by omega), Int.zero_add] at hz
    obtain rfl := Option.some.inj hz
    obtain ⟨r, hr⟩ : ∃ r, R[k]? = some r := ⟨_, List.getElem?_eq_getElem hk⟩
    have hr2 : (rl R)[k]? = some (tD r) := by
      unfold rl
      rw [List.getElem?_map, hr]
      rfl
    have mr := List.mem_of_getElem? hr
    obtain ⟨rn, l6, sub⟩ := rOk r mr
    obtain ⟨q, t, er, qG, same, mutual_⟩ := ring_first hP (inR r mr)
    have okr : ∀ o ∈ r, okG o := fun o m => okV o (sub o m)
    have qf := (g_fine (okV q qG)).shaped
    have q0 : (gl r)[0]? = some (gD q) := by rw [er]; rfl
    refine gs_name trivial ?_
    change Sx K W H F0 _ [.dat d, .dat (.tuple (rl R)), .dat (.tuple (gl (goodsV d))), s3, s4, s5, s6, s7, .dat (.int (k : Int)), s9, .un] _
    refine sx_seq (sx_asg (ev_frz (evn_map (fun z => decide (unG z ∈ onV d q) && decide (q ∈ onV d (unG z))) id (evi_tup (ev_varx ⟨_, rfl, _, rfl, by rw [gl_len, sizeLine_eq]; omega, fun z hz => ?_, ?_⟩)))))
    · obtain ⟨o, mo, rfl⟩ := List.mem_map.mp hz
      have of := (g_fine (okV o mo)).shaped
      have fin : ∀ {c : Bool} {A : Prop}, c = (decide (o ∈ onV d q) && decide (q ∈ onV d o)) → A → c = (decide (unG (gD o) ∈ onV d q) && decide (q ∈ onV d (unG (gD o)))) ∧ (c = true → A) := fun h a => ⟨h, fun _ => a⟩
      refine gc_name (by decide) trivial ?_
      refine et_and (et_test (ev_op (ev_varx ⟨_, rfl, ev_fn2 (ea_cons (ev_varx ⟨_, rfl, ea_cons (ev_op (ev_op (ev_varx ⟨_, rfl, ev_varx ⟨_, rfl, ops_ix_tup (d := tD r) (atI_nat hr2) ?_⟩⟩)))⟩))⟩)))
      refine ev_int (ops_ix_tup (d := gD q) (atI_nat (j := 0) q0) (ea_nil ⟨_, _, rfl, ⟨hP, q, rfl, qG⟩, ops_in_tup of (shO q) ⟨_, rfl, ?_⟩⟩))
      rw [any_g, show unG (gD q) = q from rfl]
      refine if2 (fun h1 => ?_) (fun h1 => fin (by rw [h1]; rfl) (ev_varx ⟨_, rfl, rfl⟩))
      refine et_test (ev_op (ev_op (ev_op (ev_varx ⟨_, rfl, ev_varx ⟨_, rfl, ops_ix_tup (d := tD r) (atI_nat hr2) ?_⟩⟩))))
      refine ev_int (ops_ix_tup (d := gD q) (atI_nat (j := 0) q0) (ev_fn2 (ea_cons (ev_varx ⟨_, rfl, ea_cons (ev_varx ⟨_, rfl, ea_nil ⟨_, _, rfl, ⟨hP, o, rfl, mo⟩, ops_in_tup qf (shO o) ⟨_, rfl, ?_⟩⟩⟩)⟩))))
      rw [any_g, show unG (gD o) = o from rfl]
      exact fin (by rw [h1]; rfl) (ev_varx ⟨_, rfl, rfl⟩)
    have em3 : ((gl (goodsV d)).filter fun z => decide (unG z ∈ onV d q) && decide (q ∈ onV d (unG z))).map id = gl r := by
      rw [← mutual_]
      unfold gl
      rw [List.filter_map, List.map_id]
      rfl
    rw [em3]
    refine ⟨trivial, ?_⟩
    change Sx K W H F0 _ [.dat d, .dat (.tuple (rl R)), .dat (.tuple (gl (goodsV d))), s3, s4, s5, s6, s7, .dat (.int (k : Int)), .dat (.list (gl r)), .un] _
    refine sx_if (EvT.mono (PB := fun c => c = false) ?_ fun c e => ?_)
    · refine et_or (et_test (ev_op (ev_frz (evn_list (ea_cons (ev_op (ev_varx ⟨_, rfl, ev_varx ⟨_, rfl, ops_ix_tup (d := tD r) (atI_nat hr2) (ea_nil ⟨_, gl r, rfl, .inl rfl, ?_⟩)⟩⟩)))))))
      refine ev_varx ⟨_, rfl, ops_ne (gl_lst okr (by omega)).shaped (gl_lst okr (by omega)).shaped ⟨_, rfl, ifN (by rw [eqv_lst, decide_eq_true rfl]; rfl) ?_⟩⟩
      refine et_and (et_test ?_)
      walk_at "go"
      refine if2 (fun h1 => ?_) (fun _ => rfl)
      have h1 := of_decide_eq_true h1
      refine et_test (ev_op (ev_op (ev_varx ⟨_, rfl, ev_varx ⟨_, rfl, ops_ix_tup (d := tD r) (atI_nat hr2) ?_⟩⟩)))
      refine ev_op (ev_varx ⟨_, rfl, ?_⟩)
      walk_at "go"
      have hk1 : k - 1 < R.length := by omega
      obtain ⟨r1, e1⟩ : ∃ r1, r1 = R[k - 1] := ⟨_, rfl⟩
      have hr1 : R[k - 1]? = some r1 := by rw [e1]; exact List.getElem?_eq_getElem hk1
      have hr3 : (rl R)[k - 1]? = some (tD r1) := by
        unfold rl
        rw [List.getElem?_map, hr1]
        rfl
      have lt : PySem.W.dataLt (tD r1) (tD r) = true := by
        have pw : R.Pairwise fun a b => PySem.W.dataLt (tD a) (tD b) = true := by rw [hR]; exact rings_lt
        have := List.pairwise_iff_getElem.mp pw (k - 1) k hk1 hk (by omega)
        rw [← e1] at this
        rwa [Option.some.inj ((List.getElem?_eq_getElem hk).symm.trans hr)] at this
      rw [show (k : Int) - 1 = ((k - 1 : Nat) : Int) by omega]
      refine ops_ix_tup (d := tD r1) (atI_nat hr3) (ops_leD (rl_alike R _ (List.mem_of_getElem? hr2) _ (List.mem_of_getElem? hr3)) (fun z => nomatch z) (Nat.le_trans (rl_dep R _ (List.mem_of_getElem? hr2)) (by decide)) ⟨_, rfl, ?_⟩)
      rw [lt]
      rfl
    subst e
    exact ifN rfl (sx_next ⟨_, _, _, rfl⟩)
  · rintro ρ' ⟨s3, s8, s9, rfl⟩
    exact sx_ret (ev_bl rfl)
end
end K09

namespace K09
open PySem L2 RZ DL
/-! the walk by data -/
local macro_rules | `(tactic| walk_at "dl") => `(tactic| first
  | with_reducible first
    | refine sx_seq ?_ | refine sx_if ?_ | refine sx_next ?_
    | refine et_not ?_ | refine et_B ?_ | refine et_test ?_ | refine et_and ?_ | refine et_or ?_ | refine et_yes ?_
    | refine ev_and ?_ | refine ev_or ?_ | refine ev_not ?_ | refine ev_if ?_ | refine ev_chain ?_
    | refine ev_int ?_ | refine ev_bl ?_ | refine ev_str ?_ | refine ev_non ?_ | refine ev_c ?_
    | refine ev_op ?_ | refine ev_un ?_ | refine ev_cb ?_ | refine ev_fn1 ?_ | refine ev_fn2 ?_ | refine ev_sl ?_ | refine eo_none ?_ | refine eo_some ?_ | refine ev_tup ?_
    | refine ea_cons ?_ | refine ea_nil ?_
    | refine ops_ge ?_ | refine ops_le ?_ | refine ops_gt ?_ | refine ops_lt ?_ | refine ops_leS ?_ | refine ops_ltS ?_ | refine ops_add_int ?_ | refine ops_sub ?_ | refine ops_isN ?_ | refine ops_isNot ?_ | refine ops_eq_int ?_ | refine ops_eqS ?_ | refine ops_neS ?_
    | refine cas_len_tup ?_ | refine cas_isi_int ?_ | refine cas_isi_bool ?_ | refine cas_isi_str ?_ | refine cas_isi_tup ?_ | refine cas_isi_lst ?_
    | refine iteT ?_ | refine iteF ?_ | refine and_nols ?_
  | ((with_reducible refine ev_varx ?_); refine ⟨_, rfl, ?_⟩)
  | ((with_reducible refine ops_ix_tupx ?_); first | refine ⟨_, rfl, ?_⟩ | refine ⟨_, atI_nat (j := 0) rfl, ?_⟩ | refine ⟨_, atI_nat (j := 1) rfl, ?_⟩ | refine ⟨_, atI_nat (j := 2) rfl, ?_⟩ | refine ⟨_, atI_nat (j := 3) rfl, ?_⟩ | refine ⟨_, atI_nat (j := 4) rfl, ?_⟩ | refine ⟨_, atI_nat (j := 5) rfl, ?_⟩ | refine ⟨_, atI_nat (j := 6) rfl, ?_⟩)
  | ((with_reducible refine sz_and ?_ ?_); exact rfl)
  | ((with_reducible refine ev_ownx ?_); refine ⟨_, rfl, ?_⟩)
  | ((with_reducible refine ev_refx ?_); refine ⟨_, rfl, ?_⟩)
  | (with_reducible refine sxn_seq ?_) | (with_reducible refine uns_neg ?_) | (with_reducible refine ev_frz (evn_lst ?_)) | (with_reducible refine sls_tup ?_) | (refine ev_revT ?_)
  | ((refine sx_extx ?_); refine ⟨_, rfl, ?_⟩) | ((with_reducible refine ops_add_tup ?_ ?_); exact le_line rfl) | (with_reducible refine cas_listT ?_)
  | ((with_reducible refine ifT ?_ ?_); exact rfl) | ((with_reducible refine ifF ?_ ?_); exact rfl))
local macro_rules | `(tactic| walk_at "go") => `(tactic| repeat (first | walk_at "dl" | with_reducible refine ⟨_, rfl, ?_⟩ | with_reducible refine ⟨_, _, rfl, ?_⟩))
/-! ### the same works with other numbers -/
/-- asks of the same words -/
structure LikeA (ns : List Str) (qs qs' : List D) : Prop where
  nm : qs'.map nameOf = qs.map nameOf
  of : ∀ a ∈ qs', ∃ x n, a = .tuple [.str x, n] ∧ x ∈ ns
def LikeK (ns : List Str) (k k' : D) : Prop := ∃ x qs qs' q q', k = .tuple (.str x :: .tuple qs :: q) ∧ k' = .tuple (.str x :: .tuple qs' :: q') ∧ LikeA ns qs qs'
structure Like (d r : D) : Prop where
  plant : Plant r
  goods : goodsV r = goodsV d
  str : ∀ g, straightV r g = straightV d g
theorem Like.on {d r : D} (l : Like d r) (hd : Plant d) {g : Gd} (hg : g ∈ goodsV d) : onV r g = onV d g := by
  have e : ∀ o, Reach (kindsOf r) (copyAsks r) g o ↔ Reach (kindsOf d) (copyAsks d) g o := fun o => by
    constructor
    · intro m
      induction m with
      | one m => exact .one (by have := l.str g; unfold straightV at this; rw [← this]; exact m)
      | @more a b _ m ih => exact .more ih (by have := l.str a; unfold straightV at this; rw [← this]; exact m)
    · intro m
      induction m with
      | one m => exact .one (by have := l.str g; unfold straightV at this; rw [this]; exact m)
      | @more a b _ m ih => exact .more ih (by have := l.str a; unfold straightV at this; rw [this]; exact m)
  unfold onV
  rw [l.goods]
  exact List.filter_congr fun o _ => decide_eq_decide.mpr (e o)
theorem Like.rings {d r : D} (l : Like d r) (hd : Plant d) : ringsV r = ringsV d := by
  have rg : ∀ g ∈ goodsV d, ringV r g = ringV d g := fun g hg => by
    unfold ringV
    rw [l.on hd hg]
    exact List.filter_congr fun o mo => by rw [l.on hd (onV_sub mo)]
  have go : ∀ (gs : List Gd) (acc : List (List Gd)), (∀ g ∈ gs, g ∈ goodsV d) → gs.foldl (stepR r) acc = gs.foldl (stepR d) acc := by
    intro gs
    induction gs with
    | nil => exact fun _ _ => rfl
    | cons g gs ih =>
      intro acc h
      have hg := h g List.mem_cons_self
      have st : stepR r acc g = stepR d acc g := by
        unfold stepR
        rw [rg g hg, l.on hd hg]
      rw [List.foldl_cons, List.foldl_cons, st]
      exact ih _ fun x m => h x (List.mem_cons_of_mem _ m)
  unfold ringsV ringsL
  rw [l.goods, go _ _ fun g m => m]
theorem paired_names {ns : List Str} : ∀ {ks ks' : List D}, Paired (LikeK ns) ks ks' → names ks' = names ks
  | _, _, .nil => rfl
  | _, _, .cons h t => by
    obtain ⟨x, qs, qs', q, q', rfl, rfl, _⟩ := h
    have ih := paired_names t
    unfold names at ih ⊢
    rw [List.map_cons, List.map_cons, ih]
    rfl
theorem paired_at {ns : List Str} (x : Str) : ∀ {ks ks' : List D}, Paired (LikeK ns) ks ks' → wordsOf (asksIn (kindAt ks' x)) = wordsOf (asksIn (kindAt ks x))
  | _, _, .nil => rfl
  | _, _, .cons (a := k) (b := k') h t => by
    have ih := paired_at x t
    obtain ⟨y, qs, qs', q, q', rfl, rfl, l⟩ := h
    unfold kindAt at ih ⊢
    by_cases e : y = x
    · rw [List.find?_cons_of_pos (by simp [nameOf, e]), List.find?_cons_of_pos (by simp [nameOf, e])]
      exact l.nm
    · rw [List.find?_cons_of_neg (by simp [nameOf, e]), List.find?_cons_of_neg (by simp [nameOf, e])]
      exact ih
theorem paired_mem {α β : Type} {R : α → β → Prop} : ∀ {as : List α} {bs : List β}, Paired R as bs → ∀ b ∈ bs, ∃ a ∈ as, R a b
  | _, _, .nil, _, m => nomatch m
  | _, _, .cons h t, b, m => by
    rcases List.mem_cons.mp m with rfl | m
    · exact ⟨_, List.mem_cons_self, h⟩
    · obtain ⟨a, ma, r⟩ := paired_mem t b m
      exact ⟨a, List.mem_cons_of_mem _ ma, r⟩
theorem asks_new {ns : List Str} {qs qs' : List D} (h : AsksOk ns qs) (l : LikeA ns qs qs') : AsksOk ns qs' := by
  refine ⟨?_, by rw [l.nm]; exact h.nd, l.of⟩
  have e := congrArg List.length l.nm
  rw [List.length_map, List.length_map] at e
  rw [e]
  exact h.len
/-- it is a plant like the first -/
theorem like_of {ks cs cr r ks' cs' cr' r' : List D} (p : PlantOk ks cs cr r) (h : Paired (LikeK (names ks)) ks ks') (l : LikeA (names ks) cs cs') (bd : Bd big 600 6 (wk4 ks' cs' cr' r')) : Like (wk4 ks cs cr r) (wk4 ks' cs' cr' r') := by
  have nm := paired_names h
  refine ⟨⟨ks', cs', cr', r', rfl, ⟨?_, fun k m => ?_, by rw [nm]; exact p.nm, by rw [nm]; exact p.srt, by rw [nm]; exact asks_new p.cp l, bd⟩⟩, ?_, fun g => ?_⟩
  · rw [← Paired.length h]
    exact p.n3
  · obtain ⟨k0, m0, x, qs, qs', q, q', e0, rfl, la⟩ := paired_mem h k m
    obtain ⟨x2, qs2, q2, e2, o⟩ := p.kd k0 m0
    rw [e0] at e2
    injection e2 with e2
    injection e2 with _ e2
    injection e2 with e2 _
    injection e2 with e2
    subst e2
    exact ⟨x, qs', q', rfl, by rw [nm]; exact asks_new o la⟩
  · show goods ks' = goods ks
    unfold goods
    rw [nm]
  · show straight ks' cs' g = straight ks cs g
    unfold straight
    have e : wordsOf (asksFor ks' cs' g) = wordsOf (asksFor ks cs g) := by
      unfold asksFor
      by_cases c : g.1 = "leaf"
      · rw [if_pos c, if_pos c]
        exact l.nm
      · rw [if_neg c, if_neg c]
        exact paired_at g.2 h
    rw [e]
end K09

namespace K09
open PySem L2 RZ DL
/-! the walk by data -/
local macro_rules | `(tactic| walk_at "dl") => `(tactic| first
  | with_reducible first
    | refine sx_seq ?_ | refine sx_if ?_ | refine sx_next ?_
    | refine et_not ?_ | refine et_B ?_ | refine et_test ?_ | refine et_and ?_ | refine et_or ?_ | refine et_yes ?_
    | refine ev_and ?_ | refine ev_or ?_ | refine ev_not ?_ | refine ev_if ?_ | refine ev_chain ?_
    | refine ev_int ?_ | refine ev_bl ?_ | refine ev_str ?_ | refine ev_non ?_ | refine ev_c ?_
    | refine ev_op ?_ | refine ev_un ?_ | refine ev_cb ?_ | refine ev_fn1 ?_ | refine ev_fn2 ?_ | refine ev_sl ?_ | refine eo_none ?_ | refine eo_some ?_ | refine ev_tup ?_
    | refine ea_cons ?_ | refine ea_nil ?_
    | refine ops_ge ?_ | refine ops_le ?_ | refine ops_gt ?_ | refine ops_lt ?_ | refine ops_leS ?_ | refine ops_ltS ?_ | refine ops_add_int ?_ | refine ops_sub ?_ | refine ops_isN ?_ | refine ops_isNot ?_ | refine ops_eq_int ?_ | refine ops_eqS ?_ | refine ops_neS ?_
    | refine cas_len_tup ?_ | refine cas_isi_int ?_ | refine cas_isi_bool ?_ | refine cas_isi_str ?_ | refine cas_isi_tup ?_ | refine cas_isi_lst ?_
    | refine iteT ?_ | refine iteF ?_ | refine and_nols ?_
  | ((with_reducible refine ev_varx ?_); refine ⟨_, rfl, ?_⟩)
  | ((with_reducible refine ops_ix_tupx ?_); first | refine ⟨_, rfl, ?_⟩ | refine ⟨_, atI_nat (j := 0) rfl, ?_⟩ | refine ⟨_, atI_nat (j := 1) rfl, ?_⟩ | refine ⟨_, atI_nat (j := 2) rfl, ?_⟩ | refine ⟨_, atI_nat (j := 3) rfl, ?_⟩ | refine ⟨_, atI_nat (j := 4) rfl, ?_⟩ | refine ⟨_, atI_nat (j := 5) rfl, ?_⟩ | refine ⟨_, atI_nat (j := 6) rfl, ?_⟩)
  | ((with_reducible refine sz_and ?_ ?_); exact rfl)
  | ((with_reducible refine ev_ownx ?_); refine ⟨_, rfl, ?_⟩)
  | ((with_reducible refine ev_refx ?_); refine ⟨_, rfl, ?_⟩)
  | (with_reducible refine sxn_seq ?_) | (with_reducible refine uns_neg ?_) | (with_reducible refine ev_frz (evn_lst ?_)) | (with_reducible refine sls_tup ?_) | (refine ev_revT ?_)
  | ((refine sx_extx ?_); refine ⟨_, rfl, ?_⟩) | ((with_reducible refine ops_add_tup ?_ ?_); exact le_line rfl) | (with_reducible refine cas_listT ?_)
  | ((with_reducible refine ifT ?_ ?_); exact rfl) | ((with_reducible refine ifF ?_ ?_); exact rfl))
local macro_rules | `(tactic| walk_at "go") => `(tactic| repeat (first | walk_at "dl" | with_reducible refine ⟨_, rfl, ?_⟩ | with_reducible refine ⟨_, _, rfl, ?_⟩))
abbrev LOther (Pg : Program) (w : World) (K : PySem.W.Frag) (mg : Str → Option Value) (base : Heap) := Fn Pg w K mg base "_law_otherwise" 2 ["_law_feed_here", "_law_plant_here"] (PmF nm K 1 (fun ds => ∃ d, ds = [d] ∧ Plant d) fun ds r => ∀ d, ds = [d] → Like d r)
section
variable {Pg : Program} {w : World} {K : PySem.W.Frag} {mg : Str → Option Value} {base : Heap} {f : Addr} {fd : FuncData}
theorem ok_otherwise (F : Fun K "_law_otherwise" "_law_otherwise" s__law_otherwise f fd) (T : Txt mg) (C__law_draw : LDraw Pg w K mg base) : FnG Pg w K mg base 2 f fd ["_law_feed_here", "_law_plant_here"] (PmF nm K 1 (fun ds => ∃ d, ds = [d] ∧ Plant d) fun ds r => ∀ d, ds = [d] → Like d r) := by
  have nd := sc__law_otherwise.nd
  refine fnG_of F sc__law_otherwise pm_len (fun cdv A ou s H vs Q hgd hr h => ?_)
  have hu : (A.deeper (PyProof.Rows.envOfC "_law_otherwise" (defScope s__law_otherwise) s.heap.objs.size f cdv)).units + 64 < cLine := by have := hr.un; omega
  refine ⟨_, (pss_cons (ps_set (i := 2) nd rfl (Or.inl rfl) (pe_lst pa_nil) (hf := Or.inl rfl)) (pss_cons (ps_for PassesOwn.never rfl (pi_tup (pe_ix (r := rIx K) ix_seq (pv 1) pe_int (fun _ _ => rfl))) (pg_name (i := 3) nd rfl (Or.inl rfl) (Or.inl rfl)) (pss_cons (ps_set (i := 4) nd rfl (Or.inl rfl) (pe_callTy (r := rTupleOf K) call_tuple_of (by rfl) T.b_tuple (by decide +kernel) (pa_cons (pe_lc (own := [("_law_pair", 6)]) (g := gName 6) rfl nd (pi_tup (pe_ix (r := rIx K) ix_seq (pv 3) pe_int (fun _ _ => rfl))) (blkOk_by (N := ["_law_feed_here", "_law_plant_here", "_law_kinds", "_law_kind", "_law_asks_here", "_law_copying", "_law_pair"]) (sc := (defScope s__law_otherwise)) (by decide +kernel)) (fun _ _ _ _ _ => (pg_name (i := 6) nd rfl (Or.inl rfl) (Or.inr rfl))) (fun _ _ _ _ _ => pts_nil) (fun _ _ _ _ _ => (pe_tup (pa_cons (pe_ix (r := rIx K) ix_seq (pv 6) pe_int (fun _ _ => rfl)) (pa_cons (pe_op (r := rAdd4 K) opAdd pe_int (pe_fn C__law_draw hgd (hr.mono (by first | decide | omega)) rfl (pa_cons (pv 0) (pa_cons pe_int pa_nil)))) pa_nil))))) pa_nil)) (hf := Or.inl rfl)) (pss_one (ps_expr (pe_bm PySem.F.plainAttrs_list PySem.F.slot_list_append PySem.F.type_list_append mt_append (pv 2) (pa_cons (pe_tup (pa_cons (pe_ix (r := rIx K) ix_seq (pv 3) pe_int (fun _ _ => rfl)) (pa_cons (pv 4) (pa_cons (pe_fn C__law_draw hgd (hr.mono (by first | decide | omega)) rfl (pa_cons (pv 0) (pa_cons pe_int pa_nil))) (pa_cons (pe_op (r := rAdd4 K) opAdd pe_int (pe_fn C__law_draw hgd (hr.mono (by first | decide | omega)) rfl (pa_cons (pv 0) (pa_cons pe_int pa_nil)))) (pa_cons (pe_op (r := rAdd4 K) opAdd pe_int (pe_fn C__law_draw hgd (hr.mono (by first | decide | omega)) rfl (pa_cons (pv 0) (pa_cons pe_int pa_nil)))) (pa_cons pe_int pa_nil))))))) pa_nil)))))) (pss_cons (ps_set (i := 5) nd rfl (Or.inl rfl) (pe_tup (pa_cons (pe_callTy (r := rTupleOf K) call_tuple_of (by rfl) T.b_tuple (by decide +kernel) (pa_cons (pe_lc (own := [("_law_pair", 6)]) (g := gName 6) rfl nd (pi_tup (pe_ix (r := rIx K) ix_seq (pe_ix (r := rIx K) ix_seq (pv 1) pe_int (fun _ _ => rfl)) pe_int (fun _ _ => rfl))) (blkOk_by (N := ["_law_feed_here", "_law_plant_here", "_law_kinds", "_law_kind", "_law_asks_here", "_law_copying", "_law_pair"]) (sc := (defScope s__law_otherwise)) (by decide +kernel)) (fun _ _ _ _ _ => (pg_name (i := 6) nd rfl (Or.inl rfl) (Or.inr rfl))) (fun _ _ _ _ _ => pts_nil) (fun _ _ _ _ _ => (pe_tup (pa_cons (pe_ix (r := rIx K) ix_seq (pv 6) pe_int (fun _ _ => rfl)) (pa_cons (pe_op (r := rAdd4 K) opAdd pe_int (pe_fn C__law_draw hgd (hr.mono (by first | decide | omega)) rfl (pa_cons (pv 0) (pa_cons pe_int pa_nil)))) pa_nil))))) pa_nil)) (pa_cons (pe_fn C__law_draw hgd (hr.mono (by first | decide | omega)) rfl (pa_cons (pv 0) (pa_cons pe_int pa_nil))) (pa_cons pe_int pa_nil)))) (hf := Or.inl rfl)) (pss_one (ps_ret (pe_tup (pa_cons (pe_callTy (r := rTupleOf K) call_tuple_of (by rfl) T.b_tuple (by decide +kernel) (pa_cons (pv 2) pa_nil)) (pa_cons (pv 5) (pa_cons (pe_tup (pa_cons pe_int (pa_cons (pe_fn C__law_draw hgd (hr.mono (by first | decide | omega)) rfl (pa_cons (pv 0) (pa_cons pe_int pa_nil))) (pa_cons pe_int pa_nil)))) (pa_cons (pe_tup (pa_cons pe_int (pa_cons pe_int (pa_cons pe_int (pa_cons (pe_fn C__law_draw hgd (hr.mono (by first | decide | omega)) rfl (pa_cons (pv 0) (pa_cons pe_int pa_nil))) pa_nil))))) (pa_cons (pe_tup (pa_cons pe_int (pa_cons pe_int pa_nil))) (pa_cons (pe_tup (pa_cons pe_int (pa_cons pe_int pa_nil))) (pa_cons pe_int pa_nil))))))))))))), bodyF (by decide) h fun a l cs0 F0 ds hl ⟨d, hd, hP⟩ => ?_⟩
  subst hd
  obtain ⟨ks, cs, cr, r, rfl, p⟩ := hP
  have n3 := p.n3
  have c3 := p.cp.len
  have bi := fun {n : Nat} {i : Int} (h0 : 0 ≤ i) (h1 : i < 16) => bd_i (k := big1) (n := n) w15 h0 h1
  -- one comprehension of asks
  let JA : List D → List D → Nat → List D → Prop := fun qs es i acc => es = qs ∧ acc.map nameOf = (qs.take i).map nameOf ∧ (∀ b ∈ acc, ∃ x n, b = .tuple [.str x, n] ∧ x ∈ names ks) ∧ Bds big1 (13 * i) 1 acc
  have stepA : ∀ {qs : List D} {i : Nat} {x : Str} {n : D} {acc : List D} {v : Int}, qs[i]? = some (.tuple [.str x, n]) → x ∈ names ks → 0 ≤ v → v < 3 → JA qs qs i acc → JA qs qs (i + 1) (acc ++ [.tuple [.str x, .int (1 + v)]]) := by
    rintro qs i x n acc v e hx v0 v1 ⟨_, j1, j2, j3⟩
    refine ⟨rfl, ?_, fun b m => ?_, ?_⟩
    · rw [List.map_append, j1, List.take_add_one, e, List.map_append]
      rfl
    · rcases List.mem_append.mp m with m | m
      · exact j2 b m
      · rw [List.mem_singleton.mp m]
        exact ⟨x, _, rfl, hx⟩
    · have q : Bds big1 13 1 [.tuple [.str x, .int (1 + v)]] := bds_one (bt2 (bd_str.mpr (p.nm x hx)) (bd_small (by decide) (by omega) (by omega)) (by decide))
      exact (bds_app j3 q).mono (Nat.le_refl _) (by omega) (Nat.le_refl _)
  have endA : ∀ {qs acc : List D}, qs.length ≤ 3 → JA qs qs qs.length acc → LikeA (names ks) qs acc ∧ Bds big1 39 1 acc := by
    rintro qs acc q3 ⟨_, j1, j2, j3⟩
    rw [List.take_length] at j1
    exact ⟨⟨j1, j2⟩, j3.mono (Nat.le_refl _) (by omega) (Nat.le_refl _)⟩
  change Sx K (feedW nm a l cs0) H F0 _ [.rf (.ref a), .dat (wk4 ks cs cr r), .un, .un, .un, .un, .un] _
  refine sx_seq (sx_asgN (evn_lst (ea_nil ⟨[], rfl, le_line rfl, ?_⟩)))
  refine sx_seq (sx_for (fun es i ρ' => es = ks ∧ ∃ acc s3 s4, ρ' = [.rf (.ref a), .dat (wk4 ks cs cr r), .ls acc, s3, s4, .un, .un] ∧ Paired (LikeK (names ks)) (ks.take i) acc ∧ Bds big1 (96 * i) 3 acc) (evi_tup (ev_op (ev_varx ⟨_, rfl, ev_int (ops_ix_tup (d := .tuple ks) (atI_nat (j := 0) rfl) ⟨_, rfl, ⟨rfl, [], _, _, rfl, by rw [List.take_zero]; exact .nil, bds_nil⟩, ?_, ?_⟩)⟩))))
  · rintro i z ρ' hz ⟨_, acc, s3, s4, rfl, pr, ba⟩
    have zm := List.mem_of_getElem? hz
    obtain ⟨x, qs, q, rfl, ho⟩ := p.kd z zm
    have q3 := ho.len
    have hi : i < 3 := by
      have := (List.getElem?_eq_some_iff.mp hz).1
      omega
    have la : acc.length ≤ 3 := by rw [← Paired.length pr, List.length_take]; omega
    have xm : x ∈ names ks := List.mem_map.mpr ⟨_, zm, rfl⟩
    refine gs_name trivial ?_
    change Sx K (feedW nm a l cs0) H F0 _ [.rf (.ref a), .dat (wk4 ks cs cr r), .ls acc, .dat (.tuple (.str x :: .tuple qs :: q)), s4, .un, .un] _
    refine sx_seq (sx_asg (ev_cb (ea_cons (ev_frz (evn_lc (JA qs) (evi_tup (ev_op (ev_varx ⟨_, rfl, ev_int (ops_ix_tup (d := .tuple qs) (atI_nat (j := 1) rfl) ⟨_, rfl, by rw [sizeLine_eq]; omega, ⟨rfl, rfl, fun b m => (nomatch m), bds_nil⟩, ?_, ?_⟩)⟩))))))))
    · rintro j z acc2 hz2 J
      obtain ⟨y, n, rfl, ym⟩ := ho.of z (List.mem_of_getElem? hz2)
      refine gc_name (by decide) trivial ?_
      walk_at "go"
      change Ev K (feedW nm a l cs0) H _ [.rf (.ref a), .dat (wk4 ks cs cr r), .ls acc, .dat (.tuple (.str x :: .tuple qs :: q)), s4, .un, .dat (.tuple [.str y, n])] _
      refine ev_draw ?_
      walk_at "go"
      refine ⟨⟨by decide, by decide⟩, fun v v0 v1 => ?_⟩
      exact ops_add_int (ea_nil ⟨_, rfl, le_line rfl, _, rfl, stepA hz2 ym v0 v1 J⟩)
    · intro acc2 J
      obtain ⟨lA, bA⟩ := endA q3 J
      refine ea_nil (cas_tuple (.inr (.inl rfl)) ⟨trivial, ?_⟩)
      change Sx K (feedW nm a l cs0) H F0 _ [.rf (.ref a), .dat (wk4 ks cs cr r), .ls acc, .dat (.tuple (.str x :: .tuple qs :: q)), .dat (.tuple acc2), .un, .un] _
      refine sx_app (ds := acc) rfl (by rw [sizeLine_eq]; omega) ?_
      walk_at "go"
      refine ev_draw ?_
      walk_at "go"
      refine ⟨⟨by decide, by decide⟩, fun v1 v10 v11 => ?_⟩
      walk_at "go"
      refine ev_draw ?_
      walk_at "go"
      refine ⟨⟨by decide, by decide⟩, fun v2 v20 v21 => ?_⟩
      walk_at "go"
      refine ev_draw ?_
      walk_at "go"
      refine ⟨⟨by decide, by decide⟩, fun v3 v30 v31 => ?_⟩
      walk_at "go"
      refine ⟨rfl, acc ++ [.tuple [.str x, .tuple acc2, .int v1, .int (1 + v2), .int (1 + v3), .int 0]], _, _, rfl, ?_, ?_⟩
      · rw [List.take_add_one, hz]
        exact paired_snoc pr ⟨x, qs, acc2, q, _, rfl, rfl, lA⟩
      · have he : Bds big1 75 2 [.str x, .tuple acc2, .int v1, .int (1 + v2), .int (1 + v3), .int 0] :=
          (bds_cons (bd_str.mpr (p.nm x xm)) (bds_cons (bd_tup.mpr bA) (bds_cons (bi (i := v1) v10 (by omega)) (bds_cons (bi (i := 1 + v2) (by omega) (by omega)) (bds_cons (bi (i := 1 + v3) (by omega) (by omega)) (bds_one (bi (i := 0) (by omega) (by omega)))))))).mono (Nat.le_refl _) (by decide) (Nat.le_refl _)
        exact (bds_app ba (bds_one (bd_tup.mpr he))).mono (Nat.le_refl _) (by omega) (Nat.le_refl _)
  rintro ρ' ⟨_, acc, s3, s4, rfl, pr, ba⟩
  rw [List.take_length] at pr
  have la : acc.length ≤ 3 := by rw [← Paired.length pr]; omega
  refine sx_seq (sx_asg (ev_tup (ea_cons (ev_cb (ea_cons (ev_frz (evn_lc (JA cs) (evi_tup (ev_op (ev_op (ev_varx ⟨_, rfl, ev_int ?_⟩)))))))))))
  refine ops_ix_tup (d := .tuple (.tuple cs :: cr)) (atI_nat (j := 1) rfl) (ev_int ?_)
  refine ops_ix_tup (d := .tuple cs) (atI_nat (j := 0) rfl) ⟨_, rfl, by rw [sizeLine_eq]; omega, ⟨rfl, rfl, fun b m => (nomatch m), bds_nil⟩, ?_, ?_⟩
  · rintro j z acc2 hz2 J
    obtain ⟨y, n, rfl, ym⟩ := p.cp.of z (List.mem_of_getElem? hz2)
    refine gc_name (by decide) trivial ?_
    walk_at "go"
    change Ev K (feedW nm a l cs0) H _ [.rf (.ref a), .dat (wk4 ks cs cr r), .ls acc, s3, s4, .un, .dat (.tuple [.str y, n])] _
    refine ev_draw ?_
    walk_at "go"
    refine ⟨⟨by decide, by decide⟩, fun v v0 v1 => ?_⟩
    exact ops_add_int (ea_nil ⟨_, rfl, le_line rfl, _, rfl, stepA hz2 ym v0 v1 J⟩)
  intro acc2 J
  obtain ⟨lA, bA⟩ := endA c3 J
  refine ea_nil (cas_tuple (.inr (.inl rfl)) ?_)
  refine ea_cons (ev_draw ?_)
  walk_at "go"
  refine ⟨⟨by decide, by decide⟩, fun u1 u10 u11 => ?_⟩
  walk_at "go"
  change Sx K (feedW nm a l cs0) H F0 _ [.rf (.ref a), .dat (wk4 ks cs cr r), .ls acc, s3, s4, .dat (.tuple [.tuple acc2, .int u1, .int 1]), .un] _
  refine sx_ret (ev_tup (ea_cons (ev_cb (ea_cons (ev_own rfl (ea_nil (cas_tuple (.inr (.inr rfl)) ?_)))))))
  walk_at "go"
  refine ev_draw ?_
  walk_at "go"
  refine ⟨⟨by decide, by decide⟩, fun u2 u20 u21 => ?_⟩
  walk_at "go"
  refine ev_draw ?_
  walk_at "go"
  refine ⟨⟨by decide, by decide⟩, fun u3 u30 u31 => ?_⟩
  walk_at "go"
  intro d e
  obtain rfl := (List.cons.inj e).1
  refine like_of p pr lA ?_
  have p1 : Bd big1 288 4 (.tuple acc) := (bd_tup.mpr ba).mono (Nat.le_refl _) (by omega) (Nat.le_refl _)
  have p2 := bt3 (w := 80) (bd_tup.mpr bA) (bi (i := u1) u10 (by omega)) (bi (i := 1) (by omega) (by omega)) (by decide)
  have p3 := bt3 (w := 20) (n := 0) (bi (i := 2) (by omega) (by omega)) (bi (i := u2) u20 (by omega)) (bi (i := 2) (by omega) (by omega)) (by decide)
  have p4 : Bd big1 20 1 (.tuple [.int 1, .int 2, .int 1, .int u3]) := bd_tup.mpr (bds_cons (bi (i := 1) (by omega) (by omega)) (bds_cons (bi (i := 2) (by omega) (by omega)) (bds_cons (bi (i := 1) (by omega) (by omega)) (bds_one (bi (i := u3) u30 (by omega))))))
  have p5 := bt2 (w := 20) (n := 0) (bi (i := 0) (by omega) (by omega)) (bi (i := 4) (by omega) (by omega)) (by decide)
  have p6 := bt2 (w := 20) (n := 0) (bi (i := 2) (by omega) (by omega)) (bi (i := 8) (by omega) (by omega)) (by decide)
  refine Bd.mono (k := big1) (w := 600) (n := 6) ?_ (by decide +kernel) (Nat.le_refl _) (Nat.le_refl _)
  refine bd_tup.mpr ((bds_cons (p1.mono (Nat.le_refl _) (Nat.le_refl _) ?_) (bds_cons (p2.mono (Nat.le_refl _) (Nat.le_refl _) ?_) (bds_cons (p3.mono (Nat.le_refl _) (Nat.le_refl _) ?_) (bds_cons (p4.mono (Nat.le_refl _) (Nat.le_refl _) ?_) (bds_cons (p5.mono (Nat.le_refl _) (Nat.le_refl _) ?_) (bds_cons (p6.mono (Nat.le_refl _) (Nat.le_refl _) ?_) (bds_one (bi (i := 2) (by omega) (by omega)))))))) ).mono (Nat.le_refl _) (by decide) (Nat.le_refl _))
  all_goals decide
end
end K09

namespace K09
open PySem L2 RZ DL
/-! the walk by data -/
local macro_rules | `(tactic| walk_at "dl") => `(tactic| first
  | with_reducible first
    | refine sx_seq ?_ | refine sx_if ?_ | refine sx_next ?_
    | refine et_not ?_ | refine et_B ?_ | refine et_test ?_ | refine et_and ?_ | refine et_or ?_ | refine et_yes ?_
    | refine ev_and ?_ | refine ev_or ?_ | refine ev_not ?_ | refine ev_if ?_ | refine ev_chain ?_
    | refine ev_int ?_ | refine ev_bl ?_ | refine ev_str ?_ | refine ev_non ?_ | refine ev_c ?_
    | refine ev_op ?_ | refine ev_un ?_ | refine ev_cb ?_ | refine ev_fn1 ?_ | refine ev_fn2 ?_ | refine ev_sl ?_ | refine eo_none ?_ | refine eo_some ?_ | refine ev_tup ?_
    | refine ea_cons ?_ | refine ea_nil ?_
    | refine ops_ge ?_ | refine ops_le ?_ | refine ops_gt ?_ | refine ops_lt ?_ | refine ops_leS ?_ | refine ops_ltS ?_ | refine ops_add_int ?_ | refine ops_sub ?_ | refine ops_isN ?_ | refine ops_isNot ?_ | refine ops_eq_int ?_ | refine ops_eqS ?_ | refine ops_neS ?_
    | refine cas_len_tup ?_ | refine cas_isi_int ?_ | refine cas_isi_bool ?_ | refine cas_isi_str ?_ | refine cas_isi_tup ?_ | refine cas_isi_lst ?_
    | refine iteT ?_ | refine iteF ?_ | refine and_nols ?_
  | ((with_reducible refine ev_varx ?_); refine ⟨_, rfl, ?_⟩)
  | ((with_reducible refine ops_ix_tupx ?_); first | refine ⟨_, rfl, ?_⟩ | refine ⟨_, atI_nat (j := 0) rfl, ?_⟩ | refine ⟨_, atI_nat (j := 1) rfl, ?_⟩ | refine ⟨_, atI_nat (j := 2) rfl, ?_⟩ | refine ⟨_, atI_nat (j := 3) rfl, ?_⟩ | refine ⟨_, atI_nat (j := 4) rfl, ?_⟩ | refine ⟨_, atI_nat (j := 5) rfl, ?_⟩ | refine ⟨_, atI_nat (j := 6) rfl, ?_⟩)
  | ((with_reducible refine sz_and ?_ ?_); exact rfl)
  | ((with_reducible refine ev_ownx ?_); refine ⟨_, rfl, ?_⟩)
  | ((with_reducible refine ev_refx ?_); refine ⟨_, rfl, ?_⟩)
  | (with_reducible refine sxn_seq ?_) | (with_reducible refine uns_neg ?_) | (with_reducible refine ev_frz (evn_lst ?_)) | (with_reducible refine sls_tup ?_) | (refine ev_revT ?_)
  | ((refine sx_extx ?_); refine ⟨_, rfl, ?_⟩) | ((with_reducible refine ops_add_tup ?_ ?_); exact le_line rfl) | (with_reducible refine cas_listT ?_)
  | ((with_reducible refine ifT ?_ ?_); exact rfl) | ((with_reducible refine ifF ?_ ?_); exact rfl))
local macro_rules | `(tactic| walk_at "go") => `(tactic| repeat (first | walk_at "dl" | with_reducible refine ⟨_, rfl, ?_⟩ | with_reducible refine ⟨_, _, rfl, ?_⟩))
/-! ### the law -/
structure Calls (Pg : Program) (w : World) (K : PySem.W.Frag) (mg : Str → Option Value) (base : Heap) : Prop where
  c1 : Fn Pg w K mg base "_law_feed" 1 ["_law_script"] (spFeed K)
  c2 : LHand Pg w K mg base
  c3 : LPlant Pg w K mg base
  c4 : Fn Pg w K mg base "_law_called" 2 ["_law_feed_here", "_law_many"] (PmF nm K 1 preCalled postCalled)
  c5 : K09w.CWhole Pg w K mg base
  c6 : LRingsR Pg w K mg base
  c7 : LOther Pg w K mg base
  c8 : CGoods Pg w K mg base
  c9 : LHangs Pg w K mg base
  c10 : COn Pg w K mg base
  c11 : CStraight Pg w K mg base
  c12 : CRings Pg w K mg base
def spLaw (K : PySem.W.Frag) : Sp := fun vs H Q _ => ∃ p ns, vs = [.ref p] ∧ SqL K H p (List.map V.int ns) ∧ ∀ H', Q (.bl true) H'
theorem gname_go {i : Nat} {v : V} {σ : L2.St} {H : Hp} {Q : L2.St → Hp → Prop} (h : Q (σ.set i (some v)) H) : gName i v σ H Q := h
section
variable {Pg : Program} {w : World} {K : PySem.W.Frag} {mg : Str → Option Value} {base : Heap} {f : Addr} {fd : FuncData}
theorem ok_law (F : Fun K "law" "law" s_law f fd) (T : Txt mg) (C : Calls Pg w K mg base) : FnG Pg w K mg base 10 f fd ["_law_script"] (spLaw K) := by
  obtain ⟨C__law_feed, C__law_by_hand_plants, C__law_plant, C__law_called, C_is_whole, C__law_rings_right, C__law_otherwise, C_goods_of, C__law_hangs_right, C_hangs_on, C_hangs_straight, C_rings_of⟩ := C
  have nd := sc_law.nd
  refine fnG_of F sc_law (fun vs H Q E h => ?_) (fun cdv A ou s H vs Q hgd hr h => ?_)
  · obtain ⟨p, ns, rfl, _⟩ := h
    rfl
  obtain ⟨p, ns, rfl, hS, k⟩ := h
  have hu : (A.deeper (PyProof.Rows.envOfC "law" (defScope s_law) s.heap.objs.size f cdv)).units + 64 < cLine := by have := hr.un; omega
  refine ⟨_, (pss_cons (ps_set (i := 1) nd rfl (Or.inl rfl) (pe_fn C__law_feed hgd (hr.mono (by first | decide | omega)) rfl (pa_cons (pv 0) pa_nil)) (hf := Or.inl rfl)) (pss_cons (ps_set (i := 2) nd rfl (Or.inl rfl) (pe_fn0 C__law_by_hand_plants hgd (hr.mono (by first | decide | omega)) rfl) (hf := Or.inl rfl)) (pss_cons (ps_for PassesOwn.never rfl (pi_range1 rfl T.b_range (pa_cons pe_int pa_nil)) (pg_name (i := 3) nd rfl (Or.inl rfl) (Or.inl rfl)) (pss_one (ps_expr (pe_bm PySem.F.plainAttrs_list PySem.F.slot_list_append PySem.F.type_list_append mt_append (pv 2) (pa_cons (pe_fn C__law_plant hgd (hr.mono (by first | decide | omega)) rfl (pa_cons (pv 1) (pa_cons (pe_fn C__law_called hgd (hr.mono (by first | decide | omega)) rfl (pa_cons (pv 1) (pa_cons pe_int pa_nil))) (pa_cons (pe_lst pa_nil) pa_nil)))) pa_nil))))) (pss_cons (ps_for PassesOwn.never rfl (pi_list (pv 2)) (pg_name (i := 4) nd rfl (Or.inl rfl) (Or.inl rfl)) (pss_cons (ps_if (PW.pt (pw_or (pt_cmpR (r := rNotB) op_notBl (pe_fn C_is_whole hgd (hr.mono (by first | decide | omega)) rfl (pa_cons (pv 4) pa_nil)) pe_bl (nomark _)) (pw_or1 (pt_not (pt_val (pe_fn C__law_rings_right hgd (hr.mono (by first | decide | omega)) rfl (pa_cons (pv 4) pa_nil))))))) (pss_one (ps_ret pe_bl)) pss_nil) (pss_cons (ps_set (i := 5) nd rfl (Or.inl rfl) (pe_fn C__law_otherwise hgd (hr.mono (by first | decide | omega)) rfl (pa_cons (pv 1) (pa_cons (pv 4) pa_nil))) (hf := Or.inl rfl)) (pss_cons (ps_for PassesOwn.never rfl (pi_tup (pe_fn C_goods_of hgd (hr.mono (by first | decide | omega)) rfl (pa_cons (pv 4) pa_nil))) (pg_name (i := 6) nd rfl (Or.inl rfl) (Or.inl rfl)) (pss_cons (ps_if (PW.pt (pw_or (pt_not (pt_val (pe_fn C__law_hangs_right hgd (hr.mono (by first | decide | omega)) rfl (pa_cons (pv 4) (pa_cons (pv 6) pa_nil))))) (pw_or1 (pt_cmpR (r := rNe2 K) (opNe hu) (pe_fn C_hangs_on hgd (hr.mono (by first | decide | omega)) rfl (pa_cons (pv 5) (pa_cons (pv 6) pa_nil))) (pe_fn C_hangs_on hgd (hr.mono (by first | decide | omega)) rfl (pa_cons (pv 4) (pa_cons (pv 6) pa_nil))) (nomark _))))) (pss_one (ps_ret pe_bl)) pss_nil) (pss_one (ps_if (pt_cmpR (r := rNe2 K) (opNe hu) (pe_fn C_hangs_straight hgd (hr.mono (by first | decide | omega)) rfl (pa_cons (pv 5) (pa_cons (pv 6) pa_nil))) (pe_fn C_hangs_straight hgd (hr.mono (by first | decide | omega)) rfl (pa_cons (pv 4) (pa_cons (pv 6) pa_nil))) (nomark _)) (pss_one (ps_ret pe_bl)) pss_nil)))) (pss_one (ps_if (pt_cmpR (r := rNe2 K) (opNe hu) (pe_fn C_rings_of hgd (hr.mono (by first | decide | omega)) rfl (pa_cons (pv 5) pa_nil)) (pe_fn C_rings_of hgd (hr.mono (by first | decide | omega)) rfl (pa_cons (pv 4) pa_nil)) (nomark _)) (pss_one (ps_ret pe_bl)) pss_nil)))))) (pss_one (ps_ret pe_bl)))))), ?_⟩
  refine ⟨.ref p, rfl, p, ns, rfl, hS, fun a l Ha cs keep ha hl hal ea el => ?_⟩
  have o0 : Ok (feedW nm a l cs) (fun _ => none) Ha := by
    refine ⟨fun b u e => (by cases e), fun b hz => ⟨rfl, ?_⟩, ⟨0, 0, 0, ea, el, by decide, by decide, by decide⟩⟩
    rcases hz with rfl | rfl
    · rw [ea]
      exact fun z => nomatch z
    · rw [el]
      exact fun z => nomatch z
  have b0 : Holds K (feedW nm a l cs) Ha (L2.start ["_law_script", "_law_feed_here", "_law_plants", "_law_k", "_law_plant_here", "_law_other", "_law_one"] [.ref p]) (fun _ => none) Ha ([.rf (.ref p)] ++ List.replicate 6 .un) :=
    holds_start (F := fun _ => none) (H := Ha) (ss := [.rf (.ref p)]) (.cons rfl .nil) (by simp [NoLs]) (Nat.le_of_ble_eq_true rfl)
  have b1 := b0.set (i := 1) (v := .ref a) (s := .rf (.ref a)) rfl trivial
  refine gname_go ?_
  dsimp only
  refine sx_anew (W := feedW nm a l cs) (K := K) (N := { nx := fun _ => False, rt := fun s => s = .dat (.bool true) }) o0 b1 (DL.Step.refl o0) ?_ (fun _ _ _ _ _ z => z.elim) (fun v F' H' s o hv e => ?_) (fun _ z => z) (fun _ z => z)
  · change Sx K (feedW nm a l cs) Ha (fun _ => none) _ [.rf (.ref p), .rf (.ref a), .un, .un, .un, .un, .un] _
    generalize Ha = H0
    refine sx_seq (sx_asgN (evn_fn (ea_nil ⟨fun s m => (nomatch m), rfl, trivial, ?_⟩)))
    rintro _ rfl
    change Sx K (feedW nm a l cs) H0 (fun _ => none) _ [.rf (.ref p), .rf (.ref a), .ls handD, .un, .un, .un, .un] _
    refine sx_seq (sx_for (fun ds i ρ' => ds = rngD 0 10 ∧ ∃ acc s3, ρ' = [.rf (.ref p), .rf (.ref a), .ls acc, s3, .un, .un, .un] ∧ acc.length = 7 + i ∧ ∀ d ∈ acc, Plant d ∧ Whole d) (evi_rng1 ?_))
    walk_at "go"
    refine ⟨by decide, by decide, ⟨rfl, handD, _, rfl, rfl, fun d m => ⟨hand_ok d m, hand_whole d m⟩⟩, ?_, ?_⟩
    · rintro i d ρ' hd ⟨_, acc, s3, rfl, la, hacc⟩
      have hi : i < 10 := by
        have := (List.getElem?_eq_some_iff.mp hd).1
        rwa [rngD_len] at this
      refine gs_name trivial ?_
      change Sx K (feedW nm a l cs) H0 (fun _ => none) _ [.rf (.ref p), .rf (.ref a), .ls acc, .dat d, .un, .un, .un] _
      refine sx_app rfl (by rw [sizeLine_eq]; omega) (ev_fnF (ea_cons (ev_ref rfl (ea_cons (ev_fnF ?_)))))
      walk_at "go"
      refine ⟨[_], rfl, rfl, ⟨3, rfl, by decide, by decide⟩, ?_⟩
      rintro _ ⟨xs, rfl, x1, x3, xb, xs_⟩
      have x3 := x3 3 rfl
      refine ea_cons (ev_frz (evn_lst (ea_nil ⟨[], rfl, le_line rfl, ?_⟩)))
      refine ea_nil ⟨[_, _], rfl, rfl, ⟨xs, rfl, ⟨by omega, xb, xs_⟩, x1⟩, fun d2 hd2 => ?_⟩
      refine ⟨_, rfl, rfl, _, _, rfl, by rw [List.length_append, la]; rfl, fun z m => ?_⟩
      rcases List.mem_append.mp m with m | m
      · exact hacc z m
      · rw [List.mem_singleton.mp m]
        exact hd2
    rintro ρ' ⟨_, L, s3, rfl, la, hL⟩
    refine sx_frz (i := 2) rfl ?_
    change Sx K (feedW nm a l cs) H0 (fun _ => none) _ [.rf (.ref p), .rf (.ref a), .dat (.list L), s3, .un, .un, .un] _
    refine sx_seq (sx_for (fun es i ρ' => es = L ∧ ∃ s4 s5 s6, ρ' = [.rf (.ref p), .rf (.ref a), .dat (.list L), s3, s4, s5, s6]) (evi_list (ev_varx ⟨_, rfl, L, rfl, ⟨rfl, _, _, _, rfl⟩, ?_, ?_⟩)))
    · rintro i d ρ' hz ⟨_, s4, s5, s6, rfl⟩
      obtain ⟨hP, hW⟩ := hL d (List.mem_of_getElem? hz)
      have gn := goodsV_len hP
      have okV := goodsV_ok hP
      have n6 := onV_six hP
      have pf : Fine d := by
        obtain ⟨ks, cs, cr, r, rfl, p⟩ := hP
        exact p.bd.fine (by decide) (by decide) (by decide)
      refine gs_name trivial ?_
      change Sx K (feedW nm a l cs) H0 (fun _ => none) _ [.rf (.ref p), .rf (.ref a), .dat (.list L), s3, .dat d, s5, s6] _
      refine sx_seq (sx_if (et_or (et_test (ev_op (ev_fn1 ?_)))))
      walk_at "go"
      refine ⟨pf, ?_⟩
      refine ev_bl (ops_notB ⟨_, rfl, ?_⟩)
      rw [show K09w.isTold (K09w.judged d) = true from hW]
      refine ifN rfl (et_not (et_B (ev_fn1 ?_)))
      walk_at "go"
      refine ⟨hP, _, rfl, ifN rfl (sx_next ?_)⟩
      refine sx_seq (sx_asg (ev_fnF ?_))
      walk_at "go"
      refine ⟨[d], rfl, rfl, ⟨d, rfl, hP⟩, fun r hr => ?_⟩
      have lk := hr d rfl
      have hP2 := lk.plant
      refine ⟨trivial, ?_⟩
      change Sx K (feedW nm a l cs) H0 (fun _ => none) _ [.rf (.ref p), .rf (.ref a), .dat (.list L), s3, .dat d, .dat r, s6] _
      refine sx_seq (sx_for (fun es i ρ' => es = gl (goodsV d) ∧ ∃ s6, ρ' = [.rf (.ref p), .rf (.ref a), .dat (.list L), s3, .dat d, .dat r, s6]) (evi_tup (ev_fn1 ?_)))
      walk_at "go"
      refine ⟨hP, _, rfl, ⟨rfl, _, rfl⟩, ?_, ?_⟩
      · rintro j z ρ' hz ⟨_, s6, rfl⟩
        obtain ⟨g, hg, rfl⟩ := gl_get hz
        have gm : g ∈ goodsV d := List.mem_of_getElem? hg
        have gm2 : g ∈ goodsV r := by rw [lk.goods]; exact gm
        have s4 := str_four hP gm
        have shO : SeqAt.shaped (.tuple (gl (onV d g))) = true := (gl_tup (fun o m => okV o (onV_sub m)) (by have := n6 g; omega)).shaped
        have shS : SeqAt.shaped (.tuple (gl (straightV d g))) = true := (gl_tup (fun o m => okV o (str_sub hP gm m)) (by omega)).shaped
        refine gs_name trivial ?_
        change Sx K (feedW nm a l cs) H0 (fun _ => none) _ [.rf (.ref p), .rf (.ref a), .dat (.list L), s3, .dat d, .dat r, .dat (gD g)] _
        refine sx_seq (sx_if (et_or (et_not (et_B (ev_fn2 ?_)))))
        walk_at "go"
        refine ⟨⟨hP, g, rfl, gm⟩, _, rfl, ifN rfl (et_test (ev_op (ev_fn2 ?_)))⟩
        walk_at "go"
        refine ⟨⟨hP2, g, rfl, gm2⟩, ev_fn2 ?_⟩
        walk_at "go"
        refine ⟨⟨hP, g, rfl, gm⟩, ?_⟩
        rw [show unG (gD g) = g from rfl, lk.on hP gm]
        refine ops_ne shO shO ⟨_, rfl, ifN (by rw [eqv_tup, decide_eq_true rfl]; rfl) (sx_next ?_)⟩
        refine sx_if (et_test (ev_op (ev_fn2 ?_)))
        walk_at "go"
        refine ⟨⟨hP2, g, rfl, gm2⟩, ev_fn2 ?_⟩
        walk_at "go"
        refine ⟨⟨hP, g, rfl, gm⟩, ?_⟩
        rw [show unG (gD g) = g from rfl, lk.str g]
        exact ops_ne shS shS ⟨_, rfl, ifN (by rw [eqv_tup, decide_eq_true rfl]; rfl) (sx_next ⟨rfl, _, rfl⟩)⟩
      · rintro ρ' ⟨_, s6, rfl⟩
        obtain ⟨r6, rOk⟩ := ringsV_ok hP
        have shR : SeqAt.shaped (.tuple (rl (ringsV d))) = true := (rl_tup hP rOk (by omega)).shaped
        refine sx_if (et_test (ev_op (ev_fn1 ?_)))
        walk_at "go"
        refine ⟨hP2, ev_fn1 ?_⟩
        walk_at "go"
        refine ⟨hP, ?_⟩
        rw [lk.rings hP]
        refine ops_ne shR shR ⟨_, rfl, ifN ?_ (sx_next ⟨rfl, _, _, _, rfl⟩)⟩
        have : PyData.eqv (.tuple (rl (ringsV d))) (.tuple (rl (ringsV d))) = true := by
          show PyData.eqvAll (rl (ringsV d)) (rl (ringsV d)) = true
          have go : ∀ rs : List (List Gd), PyData.eqvAll (rl rs) (rl rs) = true := by
            intro rs
            induction rs with
            | nil => rfl
            | cons x rs ih =>
              show (PyData.eqv (tD x) (tD x) && PyData.eqvAll (rl rs) (rl rs)) = true
              rw [eqv_t, decide_eq_true rfl, ih]
              rfl
          exact go _
        rw [this]
        rfl
    · rintro ρ' ⟨_, s4, s5, s6, rfl⟩
      exact sx_ret (ev_bl rfl)
  · subst e
    rw [vok_bool hv]
    exact k _
end
end K09

namespace K09
open PySem L2 RZ DL
/-! ### the error's __init__ -/
def initOf (st : Stmt) : Stmt := match st with
  | .ClassDef _ _ _ body _ _ _ _ _ _ _ => body.getD 0 (.Pass ⟨0, 0, 0, 0⟩)
  | _ => .Pass ⟨0, 0, 0, 0⟩
abbrev s_NoWorks : Stmt := initOf (top 10)
theorem sc_NoWorks : FnScope ["self", "word", "at"] ["self", "word", "at"] (defScope s_NoWorks) := ⟨rfl, rfl, rfl, by decide +kernel, rfl, by decide +kernel, by decide +kernel⟩
section
variable {Pg : Program} {w : World} {K : PySem.W.Frag} {mg : Str → Option Value} {base : Heap} {f : Addr} {fd : FuncData}
theorem ok_NoWorks (F : Fun K "__init__" "NoWorks.__init__" s_NoWorks f fd) : FnOk Pg w K mg base CX0 1 f fd ["self", "word", "at"] (initSp K "word" "at") := by
  have nd := sc_NoWorks.nd
  refine F.ok sc_NoWorks (fun vs H Q E h => ?_) (fun cdv A ou s H vs Q E hr h => ?_)
  · obtain ⟨a, C, x, y, rfl, _⟩ := h
    rfl
  obtain ⟨a, C, x, y, rfl, hC, h1, h2, ha, k⟩ := h
  refine ⟨_, (pss_cons (ps_ost (pv 0) (pv 1)) (pss_one (ps_ost (pv 0) (pv 2)))), ?_⟩
  refine ⟨x, rfl, .ref a, rfl, a, C, rfl, hC, h1, .inl ⟨ha, fun d hd hda => ?_⟩⟩
  refine ⟨y, rfl, .ref a, rfl, a, C, rfl, hC, h2, .inr ⟨d, _, upd_same, ?_, Nat.le_of_ble_eq_true rfl, k d hd hda⟩⟩
  rw [upd_ne hda, upd_same]
end
end K09
namespace K09
open PySem L2 RZ DL PySem.Spec PyProof.Rows
/-! ### what the top has written, the head -/
theorem exm_self {K : PySem.W.Frag} {S : Addr} (a : PySem.W.subIn K (.ref S) (.type "BaseException") = some true) (b : PySem.W.isClsIn K S = true) (c : PySem.W.typeIn K (.ref S) = some (.type "type")) (d : PySem.W.subIn K (.ref S) (.ref S) = some true) :
    PySem.W.exmOne K (.ref S) (.ref S) = some true := by
  have b' : (PySem.W.clsIn K S).isSome = true := b
  unfold PySem.W.exmOne PySem.W.kitCls
  simp [a, b', c, d]

section
variable {K : PySem.W.Frag} {f : Addr} {fd : FuncData}
theorem bounds_k1 (F : Fun K "is_bounds" "is_bounds" s_is_bounds f fd) : KBn K fd ["thing", "least"] 1 ["least"] (fun us ws => us ++ ws) (fun vs zs => vs ++ zs) := by
  obtain ⟨oc, od, kV, doc, pm, an, cdv, ct, osl, rfl, lk, hcd⟩ := F.ex
  exact ⟨fun s us ws _ h1 h2 => match us, ws, h1, h2 with
    | [u], [v], _, _ => .of_eq rfl, fun r1 r2 => r1.append r2⟩
end
theorem all_mk {l : PySem.W.OpenLaw} {w : World} {K : PySem.W.Frag} {h : Heap} {mg : Str → Option Value} {fa : Addr} (X : K.In h) (G : h.Ns mainGlobals mg) (hfa : mg "law" = some (.ref fa))
    {f1 f2 f3 f4 f5 f6 f7 f8 f9 f10 f11 f12 f13 f14 f15 f16 f17 f18 f19 f20 f21 f22 f23 f24 f25 f26 f27 f28 f29 f30 f31 f32 f33 f34 f35 : Addr}
    {od1 an1 od2 an2 od3 an3 od4 an4 od5 an5 od6 an6 od7 an7 od8 an8 od9 an9 od10 an10 od11 an11 od12 an12 od13 an13 od14 an14 od15 an15 od16 an16 od17 an17 od18 an18 od19 an19 od20 an20 od21 an21 od22 an22 od23 an23 od24 an24 od25 an25 od26 an26 od27 an27 od28 an28 od29 an29 od30 an30 od31 an31 od32 an32 od33 an33 od34 an34 od35 an35 : Option Addr} {sl1 sl2 sl3 sl4 sl5 sl6 sl7 sl8 sl9 sl10 sl11 sl12 sl13 sl14 sl15 sl16 sl17 sl18 sl19 sl20 sl21 sl22 sl23 sl24 sl25 sl26 sl27 sl28 sl29 sl30 sl31 sl32 sl33 sl34 sl35 : Array (Option Value)}
    {oc1 kV1 dc1 pm1 cd1 ct1 oc2 kV2 dc2 pm2 cd2 ct2 oc3 kV3 dc3 pm3 cd3 ct3 oc4 kV4 dc4 pm4 cd4 ct4 oc5 kV5 dc5 pm5 cd5 ct5 oc6 kV6 dc6 pm6 cd6 ct6 oc7 kV7 dc7 pm7 cd7 ct7 oc8 kV8 dc8 pm8 cd8 ct8 oc9 kV9 dc9 pm9 cd9 ct9 oc10 kV10 dc10 pm10 cd10 ct10 oc11 kV11 dc11 pm11 cd11 ct11 oc12 kV12 dc12 pm12 cd12 ct12 oc13 kV13 dc13 pm13 cd13 ct13 oc14 kV14 dc14 pm14 cd14 ct14 oc15 kV15 dc15 pm15 cd15 ct15 oc16 dc16 pm16 cd16 ct16 oc17 kV17 dc17 pm17 cd17 ct17 oc18 kV18 dc18 pm18 cd18 ct18 oc19 kV19 dc19 pm19 cd19 ct19 oc20 kV20 dc20 pm20 cd20 ct20 oc21 kV21 dc21 pm21 cd21 ct21 oc22 kV22 dc22 pm22 cd22 ct22 oc23 kV23 dc23 pm23 cd23 ct23 oc24 kV24 dc24 pm24 cd24 ct24 oc25 kV25 dc25 pm25 cd25 ct25 oc26 kV26 dc26 pm26 cd26 ct26 oc27 kV27 dc27 pm27 cd27 ct27 oc28 kV28 dc28 pm28 cd28 ct28 oc29 kV29 dc29 pm29 cd29 ct29 oc30 kV30 dc30 pm30 cd30 ct30 oc31 kV31 dc31 pm31 cd31 ct31 oc32 kV32 dc32 pm32 cd32 ct32 oc33 kV33 dc33 pm33 cd33 ct33 oc34 kV34 dc34 pm34 cd34 ct34 oc35 kV35 dc35 pm35 cd35 ct35 : Value}
    {kd16 : Addr}
    (a1 : PySem.W.nsIn K mainGlobals "kind_called" = some (some (.ref f1))) (l1 : K.lookup f1 = some ⟨oc1, od1, .func (PySem.W.fnOf "kind_called" "kind_called" (defArgs s_kind_called) (defBody s_kind_called) (defScope s_kind_called) .none kV1 dc1 pm1 an1 cd1 ct1), sl1⟩) (c1 : PySem.W.codeIn K cd1 "kind_called" = true) (k1 : PySem.W.keepIn K (.ref f1) = true)
    (a2 : PySem.W.nsIn K mainGlobals "goods_of" = some (some (.ref f2))) (l2 : K.lookup f2 = some ⟨oc2, od2, .func (PySem.W.fnOf "goods_of" "goods_of" (defArgs s_goods_of) (defBody s_goods_of) (defScope s_goods_of) .none kV2 dc2 pm2 an2 cd2 ct2), sl2⟩) (c2 : PySem.W.codeIn K cd2 "goods_of" = true) (k2 : PySem.W.keepIn K (.ref f2) = true)
    (a3 : PySem.W.nsIn K mainGlobals "hangs_straight" = some (some (.ref f3))) (l3 : K.lookup f3 = some ⟨oc3, od3, .func (PySem.W.fnOf "hangs_straight" "hangs_straight" (defArgs s_hangs_straight) (defBody s_hangs_straight) (defScope s_hangs_straight) .none kV3 dc3 pm3 an3 cd3 ct3), sl3⟩) (c3 : PySem.W.codeIn K cd3 "hangs_straight" = true) (k3 : PySem.W.keepIn K (.ref f3) = true)
    (a4 : PySem.W.nsIn K mainGlobals "hangs_on" = some (some (.ref f4))) (l4 : K.lookup f4 = some ⟨oc4, od4, .func (PySem.W.fnOf "hangs_on" "hangs_on" (defArgs s_hangs_on) (defBody s_hangs_on) (defScope s_hangs_on) .none kV4 dc4 pm4 an4 cd4 ct4), sl4⟩) (c4 : PySem.W.codeIn K cd4 "hangs_on" = true) (k4 : PySem.W.keepIn K (.ref f4) = true)
    (a5 : PySem.W.nsIn K mainGlobals "rings_of" = some (some (.ref f5))) (l5 : K.lookup f5 = some ⟨oc5, od5, .func (PySem.W.fnOf "rings_of" "rings_of" (defArgs s_rings_of) (defBody s_rings_of) (defScope s_rings_of) .none kV5 dc5 pm5 an5 cd5 ct5), sl5⟩) (c5 : PySem.W.codeIn K cd5 "rings_of" = true) (k5 : PySem.W.keepIn K (.ref f5) = true)
    (a6 : PySem.W.nsIn K mainGlobals "is_number" = some (some (.ref f6))) (l6 : K.lookup f6 = some ⟨oc6, od6, .func (PySem.W.fnOf "is_number" "is_number" (defArgs s_is_number) (defBody s_is_number) (defScope s_is_number) .none kV6 dc6 pm6 an6 cd6 ct6), sl6⟩) (c6 : PySem.W.codeIn K cd6 "is_number" = true) (k6 : PySem.W.keepIn K (.ref f6) = true)
    (a7 : PySem.W.nsIn K mainGlobals "is_number_from" = some (some (.ref f7))) (l7 : K.lookup f7 = some ⟨oc7, od7, .func (PySem.W.fnOf "is_number_from" "is_number_from" (defArgs s_is_number_from) (defBody s_is_number_from) (defScope s_is_number_from) .none kV7 dc7 pm7 an7 cd7 ct7), sl7⟩) (c7 : PySem.W.codeIn K cd7 "is_number_from" = true) (k7 : PySem.W.keepIn K (.ref f7) = true)
    (a8 : PySem.W.nsIn K mainGlobals "is_word" = some (some (.ref f8))) (l8 : K.lookup f8 = some ⟨oc8, od8, .func (PySem.W.fnOf "is_word" "is_word" (defArgs s_is_word) (defBody s_is_word) (defScope s_is_word) .none kV8 dc8 pm8 an8 cd8 ct8), sl8⟩) (c8 : PySem.W.codeIn K cd8 "is_word" = true) (k8 : PySem.W.keepIn K (.ref f8) = true)
    (a9 : PySem.W.nsIn K mainGlobals "is_tuple_of" = some (some (.ref f9))) (l9 : K.lookup f9 = some ⟨oc9, od9, .func (PySem.W.fnOf "is_tuple_of" "is_tuple_of" (defArgs s_is_tuple_of) (defBody s_is_tuple_of) (defScope s_is_tuple_of) .none kV9 dc9 pm9 an9 cd9 ct9), sl9⟩) (c9 : PySem.W.codeIn K cd9 "is_tuple_of" = true) (k9 : PySem.W.keepIn K (.ref f9) = true)
    (a10 : PySem.W.nsIn K mainGlobals "is_rising" = some (some (.ref f10))) (l10 : K.lookup f10 = some ⟨oc10, od10, .func (PySem.W.fnOf "is_rising" "is_rising" (defArgs s_is_rising) (defBody s_is_rising) (defScope s_is_rising) .none kV10 dc10 pm10 an10 cd10 ct10), sl10⟩) (c10 : PySem.W.codeIn K cd10 "is_rising" = true) (k10 : PySem.W.keepIn K (.ref f10) = true)
    (a11 : PySem.W.nsIn K mainGlobals "is_ask" = some (some (.ref f11))) (l11 : K.lookup f11 = some ⟨oc11, od11, .func (PySem.W.fnOf "is_ask" "is_ask" (defArgs s_is_ask) (defBody s_is_ask) (defScope s_is_ask) .none kV11 dc11 pm11 an11 cd11 ct11), sl11⟩) (c11 : PySem.W.codeIn K cd11 "is_ask" = true) (k11 : PySem.W.keepIn K (.ref f11) = true)
    (a12 : PySem.W.nsIn K mainGlobals "is_asks" = some (some (.ref f12))) (l12 : K.lookup f12 = some ⟨oc12, od12, .func (PySem.W.fnOf "is_asks" "is_asks" (defArgs s_is_asks) (defBody s_is_asks) (defScope s_is_asks) .none kV12 dc12 pm12 an12 cd12 ct12), sl12⟩) (c12 : PySem.W.codeIn K cd12 "is_asks" = true) (k12 : PySem.W.keepIn K (.ref f12) = true)
    (a13 : PySem.W.nsIn K mainGlobals "is_kind" = some (some (.ref f13))) (l13 : K.lookup f13 = some ⟨oc13, od13, .func (PySem.W.fnOf "is_kind" "is_kind" (defArgs s_is_kind) (defBody s_is_kind) (defScope s_is_kind) .none kV13 dc13 pm13 an13 cd13 ct13), sl13⟩) (c13 : PySem.W.codeIn K cd13 "is_kind" = true) (k13 : PySem.W.keepIn K (.ref f13) = true)
    (a14 : PySem.W.nsIn K mainGlobals "is_copying" = some (some (.ref f14))) (l14 : K.lookup f14 = some ⟨oc14, od14, .func (PySem.W.fnOf "is_copying" "is_copying" (defArgs s_is_copying) (defBody s_is_copying) (defScope s_is_copying) .none kV14 dc14 pm14 an14 cd14 ct14), sl14⟩) (c14 : PySem.W.codeIn K cd14 "is_copying" = true) (k14 : PySem.W.keepIn K (.ref f14) = true)
    (a15 : PySem.W.nsIn K mainGlobals "is_agreeing" = some (some (.ref f15))) (l15 : K.lookup f15 = some ⟨oc15, od15, .func (PySem.W.fnOf "is_agreeing" "is_agreeing" (defArgs s_is_agreeing) (defBody s_is_agreeing) (defScope s_is_agreeing) .none kV15 dc15 pm15 an15 cd15 ct15), sl15⟩) (c15 : PySem.W.codeIn K cd15 "is_agreeing" = true) (k15 : PySem.W.keepIn K (.ref f15) = true)
    (a16 : PySem.W.nsIn K mainGlobals "is_bounds" = some (some (.ref f16))) (l16 : K.lookup f16 = some ⟨oc16, od16, .func (PySem.W.fnOf "is_bounds" "is_bounds" (defArgs s_is_bounds) (defBody s_is_bounds) (defScope s_is_bounds) .none (.ref kd16) dc16 pm16 an16 cd16 ct16), sl16⟩) (c16 : PySem.W.codeIn K cd16 "is_bounds" = true) (k16 : PySem.W.keepIn K (.ref f16) = true)
    (a17 : PySem.W.nsIn K mainGlobals "is_spring" = some (some (.ref f17))) (l17 : K.lookup f17 = some ⟨oc17, od17, .func (PySem.W.fnOf "is_spring" "is_spring" (defArgs s_is_spring) (defBody s_is_spring) (defScope s_is_spring) .none kV17 dc17 pm17 an17 cd17 ct17), sl17⟩) (c17 : PySem.W.codeIn K cd17 "is_spring" = true) (k17 : PySem.W.keepIn K (.ref f17) = true)
    (a18 : PySem.W.nsIn K mainGlobals "is_foe" = some (some (.ref f18))) (l18 : K.lookup f18 = some ⟨oc18, od18, .func (PySem.W.fnOf "is_foe" "is_foe" (defArgs s_is_foe) (defBody s_is_foe) (defScope s_is_foe) .none kV18 dc18 pm18 an18 cd18 ct18), sl18⟩) (c18 : PySem.W.codeIn K cd18 "is_foe" = true) (k18 : PySem.W.keepIn K (.ref f18) = true)
    (a19 : PySem.W.nsIn K mainGlobals "is_kinds" = some (some (.ref f19))) (l19 : K.lookup f19 = some ⟨oc19, od19, .func (PySem.W.fnOf "is_kinds" "is_kinds" (defArgs s_is_kinds) (defBody s_is_kinds) (defScope s_is_kinds) .none kV19 dc19 pm19 an19 cd19 ct19), sl19⟩) (c19 : PySem.W.codeIn K cd19 "is_kinds" = true) (k19 : PySem.W.keepIn K (.ref f19) = true)
    (a20 : PySem.W.nsIn K mainGlobals "is_works" = some (some (.ref f20))) (l20 : K.lookup f20 = some ⟨oc20, od20, .func (PySem.W.fnOf "is_works" "is_works" (defArgs s_is_works) (defBody s_is_works) (defScope s_is_works) .none kV20 dc20 pm20 an20 cd20 ct20), sl20⟩) (c20 : PySem.W.codeIn K cd20 "is_works" = true) (k20 : PySem.W.keepIn K (.ref f20) = true)
    (a21 : PySem.W.nsIn K mainGlobals "lacking_ask" = some (some (.ref f21))) (l21 : K.lookup f21 = some ⟨oc21, od21, .func (PySem.W.fnOf "lacking_ask" "lacking_ask" (defArgs s_lacking_ask) (defBody s_lacking_ask) (defScope s_lacking_ask) .none kV21 dc21 pm21 an21 cd21 ct21), sl21⟩) (c21 : PySem.W.codeIn K cd21 "lacking_ask" = true) (k21 : PySem.W.keepIn K (.ref f21) = true)
    (a22 : PySem.W.nsIn K mainGlobals "lets_works" = some (some (.ref f22))) (l22 : K.lookup f22 = some ⟨oc22, od22, .func (PySem.W.fnOf "lets_works" "lets_works" (defArgs s_lets_works) (defBody s_lets_works) (defScope s_lets_works) .none kV22 dc22 pm22 an22 cd22 ct22), sl22⟩) (c22 : PySem.W.codeIn K cd22 "lets_works" = true) (k22 : PySem.W.keepIn K (.ref f22) = true)
    (a23 : PySem.W.nsIn K mainGlobals "is_whole" = some (some (.ref f23))) (l23 : K.lookup f23 = some ⟨oc23, od23, .func (PySem.W.fnOf "is_whole" "is_whole" (defArgs s_is_whole) (defBody s_is_whole) (defScope s_is_whole) .none kV23 dc23 pm23 an23 cd23 ct23), sl23⟩) (c23 : PySem.W.codeIn K cd23 "is_whole" = true) (k23 : PySem.W.keepIn K (.ref f23) = true)
    (a24 : PySem.W.nsIn K mainGlobals "_law_feed" = some (some (.ref f24))) (l24 : K.lookup f24 = some ⟨oc24, od24, .func (PySem.W.fnOf "_law_feed" "_law_feed" (defArgs s__law_feed) (defBody s__law_feed) (defScope s__law_feed) .none kV24 dc24 pm24 an24 cd24 ct24), sl24⟩) (c24 : PySem.W.codeIn K cd24 "_law_feed" = true) (k24 : PySem.W.keepIn K (.ref f24) = true)
    (a25 : PySem.W.nsIn K mainGlobals "_law_draw" = some (some (.ref f25))) (l25 : K.lookup f25 = some ⟨oc25, od25, .func (PySem.W.fnOf "_law_draw" "_law_draw" (defArgs s__law_draw) (defBody s__law_draw) (defScope s__law_draw) .none kV25 dc25 pm25 an25 cd25 ct25), sl25⟩) (c25 : PySem.W.codeIn K cd25 "_law_draw" = true) (k25 : PySem.W.keepIn K (.ref f25) = true)
    (a26 : PySem.W.nsIn K mainGlobals "_law_called" = some (some (.ref f26))) (l26 : K.lookup f26 = some ⟨oc26, od26, .func (PySem.W.fnOf "_law_called" "_law_called" (defArgs s__law_called) (defBody s__law_called) (defScope s__law_called) .none kV26 dc26 pm26 an26 cd26 ct26), sl26⟩) (c26 : PySem.W.codeIn K cd26 "_law_called" = true) (k26 : PySem.W.keepIn K (.ref f26) = true)
    (a27 : PySem.W.nsIn K mainGlobals "_law_asks" = some (some (.ref f27))) (l27 : K.lookup f27 = some ⟨oc27, od27, .func (PySem.W.fnOf "_law_asks" "_law_asks" (defArgs s__law_asks) (defBody s__law_asks) (defScope s__law_asks) .none kV27 dc27 pm27 an27 cd27 ct27), sl27⟩) (c27 : PySem.W.codeIn K cd27 "_law_asks" = true) (k27 : PySem.W.keepIn K (.ref f27) = true)
    (a28 : PySem.W.nsIn K mainGlobals "_law_made_kind" = some (some (.ref f28))) (l28 : K.lookup f28 = some ⟨oc28, od28, .func (PySem.W.fnOf "_law_made_kind" "_law_made_kind" (defArgs s__law_made_kind) (defBody s__law_made_kind) (defScope s__law_made_kind) .none kV28 dc28 pm28 an28 cd28 ct28), sl28⟩) (c28 : PySem.W.codeIn K cd28 "_law_made_kind" = true) (k28 : PySem.W.keepIn K (.ref f28) = true)
    (a29 : PySem.W.nsIn K mainGlobals "_law_plant" = some (some (.ref f29))) (l29 : K.lookup f29 = some ⟨oc29, od29, .func (PySem.W.fnOf "_law_plant" "_law_plant" (defArgs s__law_plant) (defBody s__law_plant) (defScope s__law_plant) .none kV29 dc29 pm29 an29 cd29 ct29), sl29⟩) (c29 : PySem.W.codeIn K cd29 "_law_plant" = true) (k29 : PySem.W.keepIn K (.ref f29) = true)
    (a30 : PySem.W.nsIn K mainGlobals "_law_pen" = some (some (.ref f30))) (l30 : K.lookup f30 = some ⟨oc30, od30, .func (PySem.W.fnOf "_law_pen" "_law_pen" (defArgs s__law_pen) (defBody s__law_pen) (defScope s__law_pen) .none kV30 dc30 pm30 an30 cd30 ct30), sl30⟩) (c30 : PySem.W.codeIn K cd30 "_law_pen" = true) (k30 : PySem.W.keepIn K (.ref f30) = true)
    (a31 : PySem.W.nsIn K mainGlobals "_law_by_hand_plants" = some (some (.ref f31))) (l31 : K.lookup f31 = some ⟨oc31, od31, .func (PySem.W.fnOf "_law_by_hand_plants" "_law_by_hand_plants" (defArgs s__law_by_hand_plants) (defBody s__law_by_hand_plants) (defScope s__law_by_hand_plants) .none kV31 dc31 pm31 an31 cd31 ct31), sl31⟩) (c31 : PySem.W.codeIn K cd31 "_law_by_hand_plants" = true) (k31 : PySem.W.keepIn K (.ref f31) = true)
    (a32 : PySem.W.nsIn K mainGlobals "_law_hangs_right" = some (some (.ref f32))) (l32 : K.lookup f32 = some ⟨oc32, od32, .func (PySem.W.fnOf "_law_hangs_right" "_law_hangs_right" (defArgs s__law_hangs_right) (defBody s__law_hangs_right) (defScope s__law_hangs_right) .none kV32 dc32 pm32 an32 cd32 ct32), sl32⟩) (c32 : PySem.W.codeIn K cd32 "_law_hangs_right" = true) (k32 : PySem.W.keepIn K (.ref f32) = true)
    (a33 : PySem.W.nsIn K mainGlobals "_law_rings_right" = some (some (.ref f33))) (l33 : K.lookup f33 = some ⟨oc33, od33, .func (PySem.W.fnOf "_law_rings_right" "_law_rings_right" (defArgs s__law_rings_right) (defBody s__law_rings_right) (defScope s__law_rings_right) .none kV33 dc33 pm33 an33 cd33 ct33), sl33⟩) (c33 : PySem.W.codeIn K cd33 "_law_rings_right" = true) (k33 : PySem.W.keepIn K (.ref f33) = true)
    (a34 : PySem.W.nsIn K mainGlobals "_law_otherwise" = some (some (.ref f34))) (l34 : K.lookup f34 = some ⟨oc34, od34, .func (PySem.W.fnOf "_law_otherwise" "_law_otherwise" (defArgs s__law_otherwise) (defBody s__law_otherwise) (defScope s__law_otherwise) .none kV34 dc34 pm34 an34 cd34 ct34), sl34⟩) (c34 : PySem.W.codeIn K cd34 "_law_otherwise" = true) (k34 : PySem.W.keepIn K (.ref f34) = true)
    (a35 : PySem.W.nsIn K mainGlobals "law" = some (some (.ref f35))) (l35 : K.lookup f35 = some ⟨oc35, od35, .func (PySem.W.fnOf "law" "law" (defArgs s_law) (defBody s_law) (defScope s_law) .none kV35 dc35 pm35 an35 cd35 ct35), sl35⟩) (c35 : PySem.W.codeIn K cd35 "law" = true) (k35 : PySem.W.keepIn K (.ref f35) = true)
    {C fI : Addr} {nmX : Str} {qX : Str} {NX : Addr} {bsX bmX : List Value} {snX : List Str} {subX : List Value} {abX : Bool} {colX : Option Bool} {ddX : Option Addr} {m0X m1X m2X m3X m5X : Option Value}
    {odI anI : Option Addr} {slI : Array (Option Value)} {ocI kVI dcI pmI cdI ctI : Value}
    (aX : PySem.W.nsIn K mainGlobals "NoWorks" = some (some (.ref C)))
    (lX : K.lookup C = some (excClassObj nmX qX C NX bsX bmX true snX subX abX colX ddX m0X m1X m2X m3X m5X "ValueError.__new__")) (vX : PySem.HandSPX.refsVE bmX = true)
    (sX : PySem.W.findIn K (.ref C) "__setattr__" = some (some (.builtin "object.__setattr__"))) (eX : PySem.W.subIn K (.ref C) (.type "BaseException") = some true) (tX : PySem.W.typeIn K (.ref C) = some (.type "type")) (kX : PySem.W.keepIn K (.ref C) = true)
    (iX : PySem.W.isClsIn K C = true) (uX : PySem.W.subIn K (.ref C) (.ref C) = some true)
    (n1X : PySem.W.findIn K (.ref C) "word" = some none) (n2X : PySem.W.findIn K (.ref C) "at" = some none)
    (aI : PySem.W.findIn K (.ref C) "__init__" = some (some (.ref fI))) (tI : PySem.W.typeIn K (.ref fI) = some (.type "function"))
    (lI : K.lookup fI = some ⟨ocI, odI, .func (PySem.W.fnOf "__init__" "NoWorks.__init__" (defArgs s_NoWorks) (defBody s_NoWorks) (defScope s_NoWorks) .none kVI dcI pmI anI cdI ctI), slI⟩) (cI : PySem.W.codeIn K cdI "NoWorks.__init__" = true) (kI : PySem.W.keepIn K (.ref fI) = true)
    (z_all : PySem.W.nsIn K mainGlobals "all" = some none) (z_bool : PySem.W.nsIn K mainGlobals "bool" = some none) (z_enumerate : PySem.W.nsIn K mainGlobals "enumerate" = some none) (z_int : PySem.W.nsIn K mainGlobals "int" = some none) (z_isinstance : PySem.W.nsIn K mainGlobals "isinstance" = some none) (z_len : PySem.W.nsIn K mainGlobals "len" = some none) (z_list : PySem.W.nsIn K mainGlobals "list" = some none) (z_range : PySem.W.nsIn K mainGlobals "range" = some none) (z_set : PySem.W.nsIn K mainGlobals "set" = some none) (z_sorted : PySem.W.nsIn K mainGlobals "sorted" = some none) (z_str : PySem.W.nsIn K mainGlobals "str" = some none) (z_tuple : PySem.W.nsIn K mainGlobals "tuple" = some none) (z_zip : PySem.W.nsIn K mainGlobals "zip" = some none) :
    ∃ fd : FuncData, (∀ (s : Shared) (v : Value), BindsTo s fd ⟨[v], []⟩ [("_law_script", v)]) ∧ ∀ base : Heap, K.In base → base.Ns mainGlobals mg → FnG l.prog w K mg base 10 fa fd ["_law_script"] (spLaw K) := by
  have e := hfa.symm.trans (PySem.W.mg_of X G a35)
  cases e
  have T : Txt mg := ⟨PySem.W.mg_none_of X G z_all, PySem.W.mg_none_of X G z_bool, PySem.W.mg_none_of X G z_enumerate, PySem.W.mg_none_of X G z_int, PySem.W.mg_none_of X G z_isinstance, PySem.W.mg_none_of X G z_len, PySem.W.mg_none_of X G z_list, PySem.W.mg_none_of X G z_range, PySem.W.mg_none_of X G z_set, PySem.W.mg_none_of X G z_sorted, PySem.W.mg_none_of X G z_str, PySem.W.mg_none_of X G z_tuple, PySem.W.mg_none_of X G z_zip⟩
  have F1 := fun_mk (st := s_kind_called) l1 c1 k1
  have b1 := F1.binds (ps := ["works", "name"]) fun _ _ _ _ _ _ us hl => match us, hl with | [_, _], _ => rfl
  have m1 := PySem.W.mg_of X G a1
  have F2 := fun_mk (st := s_goods_of) l2 c2 k2
  have b2 := F2.binds (ps := ["works"]) fun _ _ _ _ _ _ us hl => match us, hl with | [_], _ => rfl
  have m2 := PySem.W.mg_of X G a2
  have F3 := fun_mk (st := s_hangs_straight) l3 c3 k3
  have b3 := F3.binds (ps := ["works", "good"]) fun _ _ _ _ _ _ us hl => match us, hl with | [_, _], _ => rfl
  have m3 := PySem.W.mg_of X G a3
  have F4 := fun_mk (st := s_hangs_on) l4 c4 k4
  have b4 := F4.binds (ps := ["works", "good"]) fun _ _ _ _ _ _ us hl => match us, hl with | [_, _], _ => rfl
  have m4 := PySem.W.mg_of X G a4
  have F5 := fun_mk (st := s_rings_of) l5 c5 k5
  have b5 := F5.binds (ps := ["works"]) fun _ _ _ _ _ _ us hl => match us, hl with | [_], _ => rfl
  have m5 := PySem.W.mg_of X G a5
  have F6 := fun_mk (st := s_is_number) l6 c6 k6
  have b6 := F6.binds (ps := ["thing"]) fun _ _ _ _ _ _ us hl => match us, hl with | [_], _ => rfl
  have m6 := PySem.W.mg_of X G a6
  have F7 := fun_mk (st := s_is_number_from) l7 c7 k7
  have b7 := F7.binds (ps := ["thing", "least"]) fun _ _ _ _ _ _ us hl => match us, hl with | [_, _], _ => rfl
  have m7 := PySem.W.mg_of X G a7
  have F8 := fun_mk (st := s_is_word) l8 c8 k8
  have b8 := F8.binds (ps := ["thing"]) fun _ _ _ _ _ _ us hl => match us, hl with | [_], _ => rfl
  have m8 := PySem.W.mg_of X G a8
  have F9 := fun_mk (st := s_is_tuple_of) l9 c9 k9
  have b9 := F9.binds (ps := ["thing", "many"]) fun _ _ _ _ _ _ us hl => match us, hl with | [_, _], _ => rfl
  have m9 := PySem.W.mg_of X G a9
  have F10 := fun_mk (st := s_is_rising) l10 c10 k10
  have b10 := F10.binds (ps := ["things"]) fun _ _ _ _ _ _ us hl => match us, hl with | [_], _ => rfl
  have m10 := PySem.W.mg_of X G a10
  have F11 := fun_mk (st := s_is_ask) l11 c11 k11
  have b11 := F11.binds (ps := ["thing"]) fun _ _ _ _ _ _ us hl => match us, hl with | [_], _ => rfl
  have m11 := PySem.W.mg_of X G a11
  have F12 := fun_mk (st := s_is_asks) l12 c12 k12
  have b12 := F12.binds (ps := ["thing"]) fun _ _ _ _ _ _ us hl => match us, hl with | [_], _ => rfl
  have m12 := PySem.W.mg_of X G a12
  have F13 := fun_mk (st := s_is_kind) l13 c13 k13
  have b13 := F13.binds (ps := ["thing"]) fun _ _ _ _ _ _ us hl => match us, hl with | [_], _ => rfl
  have m13 := PySem.W.mg_of X G a13
  have F14 := fun_mk (st := s_is_copying) l14 c14 k14
  have b14 := F14.binds (ps := ["thing"]) fun _ _ _ _ _ _ us hl => match us, hl with | [_], _ => rfl
  have m14 := PySem.W.mg_of X G a14
  have F15 := fun_mk (st := s_is_agreeing) l15 c15 k15
  have b15 := F15.binds (ps := ["thing"]) fun _ _ _ _ _ _ us hl => match us, hl with | [_], _ => rfl
  have m15 := PySem.W.mg_of X G a15
  have F16 := fun_mk (st := s_is_bounds) l16 c16 k16
  have m16 := PySem.W.mg_of X G a16
  have F17 := fun_mk (st := s_is_spring) l17 c17 k17
  have b17 := F17.binds (ps := ["thing"]) fun _ _ _ _ _ _ us hl => match us, hl with | [_], _ => rfl
  have m17 := PySem.W.mg_of X G a17
  have F18 := fun_mk (st := s_is_foe) l18 c18 k18
  have b18 := F18.binds (ps := ["thing"]) fun _ _ _ _ _ _ us hl => match us, hl with | [_], _ => rfl
  have m18 := PySem.W.mg_of X G a18
  have F19 := fun_mk (st := s_is_kinds) l19 c19 k19
  have b19 := F19.binds (ps := ["thing"]) fun _ _ _ _ _ _ us hl => match us, hl with | [_], _ => rfl
  have m19 := PySem.W.mg_of X G a19
  have F20 := fun_mk (st := s_is_works) l20 c20 k20
  have b20 := F20.binds (ps := ["thing"]) fun _ _ _ _ _ _ us hl => match us, hl with | [_], _ => rfl
  have m20 := PySem.W.mg_of X G a20
  have F21 := fun_mk (st := s_lacking_ask) l21 c21 k21
  have b21 := F21.binds (ps := ["works", "asks"]) fun _ _ _ _ _ _ us hl => match us, hl with | [_, _], _ => rfl
  have m21 := PySem.W.mg_of X G a21
  have F22 := fun_mk (st := s_lets_works) l22 c22 k22
  have b22 := F22.binds (ps := ["thing"]) fun _ _ _ _ _ _ us hl => match us, hl with | [_], _ => rfl
  have m22 := PySem.W.mg_of X G a22
  have F23 := fun_mk (st := s_is_whole) l23 c23 k23
  have b23 := F23.binds (ps := ["thing"]) fun _ _ _ _ _ _ us hl => match us, hl with | [_], _ => rfl
  have m23 := PySem.W.mg_of X G a23
  have F24 := fun_mk (st := s__law_feed) l24 c24 k24
  have b24 := F24.binds (ps := ["_law_script"]) fun _ _ _ _ _ _ us hl => match us, hl with | [_], _ => rfl
  have m24 := PySem.W.mg_of X G a24
  have F25 := fun_mk (st := s__law_draw) l25 c25 k25
  have b25 := F25.binds (ps := ["_law_feed_here", "_law_many"]) fun _ _ _ _ _ _ us hl => match us, hl with | [_, _], _ => rfl
  have m25 := PySem.W.mg_of X G a25
  have F26 := fun_mk (st := s__law_called) l26 c26 k26
  have b26 := F26.binds (ps := ["_law_feed_here", "_law_many"]) fun _ _ _ _ _ _ us hl => match us, hl with | [_, _], _ => rfl
  have m26 := PySem.W.mg_of X G a26
  have F27 := fun_mk (st := s__law_asks) l27 c27 k27
  have b27 := F27.binds (ps := ["_law_feed_here", "_law_words"]) fun _ _ _ _ _ _ us hl => match us, hl with | [_, _], _ => rfl
  have m27 := PySem.W.mg_of X G a27
  have F28 := fun_mk (st := s__law_made_kind) l28 c28 k28
  have b28 := F28.binds (ps := ["_law_feed_here", "_law_word", "_law_words"]) fun _ _ _ _ _ _ us hl => match us, hl with | [_, _, _], _ => rfl
  have m28 := PySem.W.mg_of X G a28
  have F29 := fun_mk (st := s__law_plant) l29 c29 k29
  have b29 := F29.binds (ps := ["_law_feed_here", "_law_words", "_law_strange"]) fun _ _ _ _ _ _ us hl => match us, hl with | [_, _, _], _ => rfl
  have m29 := PySem.W.mg_of X G a29
  have F30 := fun_mk (st := s__law_pen) l30 c30 k30
  have b30 := F30.binds (ps := []) fun _ _ _ _ _ _ us hl => match us, hl with | [], _ => rfl
  have m30 := PySem.W.mg_of X G a30
  have F31 := fun_mk (st := s__law_by_hand_plants) l31 c31 k31
  have b31 := F31.binds (ps := []) fun _ _ _ _ _ _ us hl => match us, hl with | [], _ => rfl
  have m31 := PySem.W.mg_of X G a31
  have F32 := fun_mk (st := s__law_hangs_right) l32 c32 k32
  have b32 := F32.binds (ps := ["_law_plant_here", "_law_one"]) fun _ _ _ _ _ _ us hl => match us, hl with | [_, _], _ => rfl
  have m32 := PySem.W.mg_of X G a32
  have F33 := fun_mk (st := s__law_rings_right) l33 c33 k33
  have b33 := F33.binds (ps := ["_law_plant_here"]) fun _ _ _ _ _ _ us hl => match us, hl with | [_], _ => rfl
  have m33 := PySem.W.mg_of X G a33
  have F34 := fun_mk (st := s__law_otherwise) l34 c34 k34
  have b34 := F34.binds (ps := ["_law_feed_here", "_law_plant_here"]) fun _ _ _ _ _ _ us hl => match us, hl with | [_, _], _ => rfl
  have m34 := PySem.W.mg_of X G a34
  have F35 := fun_mk (st := s_law) l35 c35 k35
  have b35 := F35.binds (ps := ["_law_script"]) fun _ _ _ _ _ _ us hl => match us, hl with | [_], _ => rfl
  have m35 := PySem.W.mg_of X G a35
  have FI := fun_mk (st := s_NoWorks) lI cI kI
  have bI := FI.binds (ps := ["self", "word", "at"]) fun _ _ _ _ _ _ us hl => match us, hl with | [_, _, _], _ => rfl
  have EX : ∀ (w : World) (base : Heap), Exc2 l.prog w K mg base "NoWorks" C "word" "at" := fun w base => ⟨⟨⟨nmX, qX, NX, bsX, bmX, snX, subX, abX, colX, ddX, m0X, m1X, m2X, m3X, m5X, lX, vX⟩, sX, eX, tX, kX⟩, ⟨_, _, aI, tI, ok_NoWorks FI, bI⟩, PySem.W.mg_of X G aX, n1X, n2X, exm_self eX iX tX uX⟩
  have TW : K09w.Txt mg := ⟨T.b_all, T.b_bool, T.b_enumerate, T.b_int, T.b_isinstance, T.b_len, T.b_list, T.b_range, T.b_set, T.b_sorted, T.b_str, T.b_tuple, T.b_zip⟩
  refine ⟨PySem.W.fnOf "law" "law" (defArgs s_law) (defBody s_law) (defScope s_law) .none kV35 dc35 pm35 an35 cd35 ct35, fun s v => .of_eq rfl, fun base _ _ => ?_⟩
  have G1 := ok_kind_called (Pg := l.prog) (w := w) (mg := mg) (base := base) F1 T
  have C1 : Fn l.prog w K mg base "kind_called" 1 ["works", "name"] _ := ⟨_, _, G1, m1, k1, b1⟩
  have G2 := ok_goods_of (Pg := l.prog) (w := w) (mg := mg) (base := base) F2 T
  have C2 : Fn l.prog w K mg base "goods_of" 1 ["works"] _ := ⟨_, _, G2, m2, k2, b2⟩
  have G3 := ok_straight (Pg := l.prog) (w := w) (mg := mg) (base := base) F3 T C1
  have C3 : Fn l.prog w K mg base "hangs_straight" 2 ["works", "good"] _ := ⟨_, _, G3, m3, k3, b3⟩
  have G4 := ok_hangs_on (Pg := l.prog) (w := w) (mg := mg) (base := base) F4 T C3
  have C4 : Fn l.prog w K mg base "hangs_on" 3 ["works", "good"] _ := ⟨_, _, G4, m4, k4, b4⟩
  have G5 := ok_rings_of (Pg := l.prog) (w := w) (mg := mg) (base := base) F5 T C2 C4
  have C5 : Fn l.prog w K mg base "rings_of" 4 ["works"] _ := ⟨_, _, G5, m5, k5, b5⟩
  have G6 := K09w.ok_is_number (Pg := l.prog) (w := w) (mg := mg) (base := base) F6 TW
  have C6 : Fn l.prog w K mg base "is_number" 1 ["thing"] _ := ⟨_, _, G6, m6, k6, b6⟩
  have G7 := K09w.ok_is_number_from (Pg := l.prog) (w := w) (mg := mg) (base := base) F7 TW C6
  have C7 : Fn l.prog w K mg base "is_number_from" 2 ["thing", "least"] _ := ⟨_, _, G7, m7, k7, b7⟩
  have G8 := K09w.ok_is_word (Pg := l.prog) (w := w) (mg := mg) (base := base) F8 TW
  have C8 : Fn l.prog w K mg base "is_word" 1 ["thing"] _ := ⟨_, _, G8, m8, k8, b8⟩
  have G9 := K09w.ok_is_tuple_of (Pg := l.prog) (w := w) (mg := mg) (base := base) F9 TW
  have C9 : Fn l.prog w K mg base "is_tuple_of" 1 ["thing", "many"] _ := ⟨_, _, G9, m9, k9, b9⟩
  have G10 := K09w.ok_is_rising (Pg := l.prog) (w := w) (mg := mg) (base := base) F10 TW
  have C10 : Fn l.prog w K mg base "is_rising" 1 ["things"] _ := ⟨_, _, G10, m10, k10, b10⟩
  have G11 := K09w.ok_is_ask (Pg := l.prog) (w := w) (mg := mg) (base := base) F11 TW C9 C8 C7
  have C11 : Fn l.prog w K mg base "is_ask" 3 ["thing"] _ := ⟨_, _, G11, m11, k11, b11⟩
  have G12 := K09w.ok_is_asks (Pg := l.prog) (w := w) (mg := mg) (base := base) F12 TW C11 C10
  have C12 : Fn l.prog w K mg base "is_asks" 4 ["thing"] _ := ⟨_, _, G12, m12, k12, b12⟩
  have G13 := K09w.ok_is_kind (Pg := l.prog) (w := w) (mg := mg) (base := base) F13 TW C9 C8 C6 C7 C12
  have C13 : Fn l.prog w K mg base "is_kind" 5 ["thing"] _ := ⟨_, _, G13, m13, k13, b13⟩
  have G14 := K09w.ok_is_copying (Pg := l.prog) (w := w) (mg := mg) (base := base) F14 TW C9 C6 C7 C12
  have C14 : Fn l.prog w K mg base "is_copying" 5 ["thing"] _ := ⟨_, _, G14, m14, k14, b14⟩
  have G15 := K09w.ok_is_agreeing (Pg := l.prog) (w := w) (mg := mg) (base := base) F15 TW C9 C6 C7
  have C15 : Fn l.prog w K mg base "is_agreeing" 3 ["thing"] _ := ⟨_, _, G15, m15, k15, b15⟩
  have G16 := K09w.ok_is_bounds (Pg := l.prog) (w := w) (mg := mg) (base := base) F16 TW C9 C6 C7
  have G17 := K09w.ok_is_spring (Pg := l.prog) (w := w) (mg := mg) (base := base) F17 TW C9 C6 C7
  have C17 : Fn l.prog w K mg base "is_spring" 3 ["thing"] _ := ⟨_, _, G17, m17, k17, b17⟩
  have G18 := K09w.ok_is_foe (Pg := l.prog) (w := w) (mg := mg) (base := base) F18 TW C9 C7
  have C18 : Fn l.prog w K mg base "is_foe" 3 ["thing"] _ := ⟨_, _, G18, m18, k18, b18⟩
  have G19 := K09w.ok_is_kinds (Pg := l.prog) (w := w) (mg := mg) (base := base) F19 TW C13 C10
  have C19 : Fn l.prog w K mg base "is_kinds" 6 ["thing"] _ := ⟨_, _, G19, m19, k19, b19⟩
  have G20 := K09w.ok_is_works (Pg := l.prog) (w := w) (mg := mg) (base := base) F20 TW C9 C7 C19 C14 C15 ⟨_, _, _, G16, m16, k16, bounds_k1 F16⟩ C17 C18
  have C20 : Fn l.prog w K mg base "is_works" 7 ["thing"] _ := ⟨_, _, G20, m20, k20, b20⟩
  have G21 := K09w.ok_lacking_ask (Pg := l.prog) (w := w) (mg := mg) (base := base) F21 TW ⟨_, _, K09w.ok_kind_called (Pg := l.prog) (w := w) (mg := mg) (base := base) F1 TW, m1, k1, b1⟩
  have C21 : Fn l.prog w K mg base "lacking_ask" 2 ["works", "asks"] _ := ⟨_, _, G21, m21, k21, b21⟩
  have G22 := K09w.ok_lets (Pg := l.prog) (w := w) (mg := mg) (base := base) F22 TW (EX w base) C20 C21
  have C22 : FnX l.prog w K mg base "lets_works" 8 ["thing"] _ := ⟨_, _, G22, m22, k22, b22⟩
  have G23 := K09w.ok_is_whole (Pg := l.prog) (w := w) (mg := mg) (base := base) F23 TW (EX w base) C22
  have C23 : Fn l.prog w K mg base "is_whole" 9 ["thing"] _ := ⟨_, _, G23, m23, k23, b23⟩
  have G24 := ok_feed (Pg := l.prog) (w := w) (mg := mg) (base := base) F24 T
  have C24 : Fn l.prog w K mg base "_law_feed" 1 ["_law_script"] _ := ⟨_, _, G24, m24, k24, b24⟩
  have G25 := ok_draw (Pg := l.prog) (w := w) (mg := mg) (base := base) F25 T
  have C25 : Fn l.prog w K mg base "_law_draw" 1 ["_law_feed_here", "_law_many"] _ := ⟨_, _, G25, m25, k25, b25⟩
  have G26 := ok_called (Pg := l.prog) (w := w) (mg := mg) (base := base) F26 T C25
  have C26 : Fn l.prog w K mg base "_law_called" 2 ["_law_feed_here", "_law_many"] _ := ⟨_, _, G26, m26, k26, b26⟩
  have G27 := ok_asks (Pg := l.prog) (w := w) (mg := mg) (base := base) F27 T C25
  have C27 : Fn l.prog w K mg base "_law_asks" 2 ["_law_feed_here", "_law_words"] _ := ⟨_, _, G27, m27, k27, b27⟩
  have G28 := ok_made_kind (Pg := l.prog) (w := w) (mg := mg) (base := base) F28 T C25 C27
  have C28 : Fn l.prog w K mg base "_law_made_kind" 3 ["_law_feed_here", "_law_word", "_law_words"] _ := ⟨_, _, G28, m28, k28, b28⟩
  have G29 := ok_plant (Pg := l.prog) (w := w) (mg := mg) (base := base) F29 T C25 C27 C28
  have C29 : Fn l.prog w K mg base "_law_plant" 4 ["_law_feed_here", "_law_words", "_law_strange"] _ := ⟨_, _, G29, m29, k29, b29⟩
  have G30 := ok_pen (Pg := l.prog) (w := w) (mg := mg) (base := base) F30 T
  have C30 : Fn l.prog w K mg base "_law_pen" 1 [] _ := ⟨_, _, G30, m30, k30, b30⟩
  have G31 := ok_hand (Pg := l.prog) (w := w) (mg := mg) (base := base) F31 T C30
  have C31 : Fn l.prog w K mg base "_law_by_hand_plants" 2 [] _ := ⟨_, _, G31, m31, k31, b31⟩
  have G32 := ok_hangs_right (Pg := l.prog) (w := w) (mg := mg) (base := base) F32 T C4 C3
  have C32 : Fn l.prog w K mg base "_law_hangs_right" 4 ["_law_plant_here", "_law_one"] _ := ⟨_, _, G32, m32, k32, b32⟩
  have G33 := ok_rings_right (Pg := l.prog) (w := w) (mg := mg) (base := base) F33 T C5 C2 C4
  have C33 : Fn l.prog w K mg base "_law_rings_right" 5 ["_law_plant_here"] _ := ⟨_, _, G33, m33, k33, b33⟩
  have G34 := ok_otherwise (Pg := l.prog) (w := w) (mg := mg) (base := base) F34 T C25
  have C34 : Fn l.prog w K mg base "_law_otherwise" 2 ["_law_feed_here", "_law_plant_here"] _ := ⟨_, _, G34, m34, k34, b34⟩
  exact ok_law F35 T ⟨C24, C31, C29, C26, C23, C33, C34, C2, C32, C4, C3, C5⟩
theorem walk {l : PySem.W.OpenLaw} {q : Program} {loose : List Str} {XP : (Str → Option Value) → Heap → Prop} {YP : World → Heap → Prop} {d : DefRec} {K : Params → PySem.W.Frag} (hn : l.most = some 63) (hdf : d.params.defaults = []) (hY : ∀ (w : World) (h : Heap), YP w h → (K w.params).In h)
    (F : ∀ (w : World) (mg : Str → Option Value) (fa : Addr) (h : Heap), (K w.params).In h → h.Ns mainGlobals mg → mg d.name = some (.ref fa) → ∃ fd : FuncData, (∀ (s : Shared) (u : Value), BindsTo s fd ⟨[u], []⟩ [("_law_script", u)]) ∧
      ∀ base : Heap, (K w.params).In base → base.Ns mainGlobals mg → FnG l.prog w (K w.params) mg base 10 fa fd ["_law_script"] (spLaw (K w.params))) :
    PySem.W.WalkO q loose XP YP l.row.toRowW d [] (fun f vs => PySem.call f vs) :=
  told_walk (n := 63) (k := 10) (x := "_law_script") (sp := spLaw) hn (by decide) hdf ⟨rfl, by decide, by decide⟩ hY F fun K H p zs _ h => ⟨p, zs, rfl, h, fun _ => rfl⟩
end K09

open PySem PySem.W PyProof.Rows in
set_option maxRecDepth 100000 in
set_option maxHeartbeats 0 in
theorem PySem.Challenge.cw_handsmade_k09_whole_rings_holds : PySem.Challenge.rw_handsmade_k09_whole_rings.Holds := by
  w_on; o_law; k_head; (case hw => w_witness2)
  k_fill
  refine K09.walk (l := PySem.Challenge.rw_handsmade_k09_whole_rings) rfl rfl (fun w h Y => PySem.W.kIn_of Y) ?F
  case F =>
    intro w mg fa h KX G hmg
    refine' K09.all_mk KX G hmg ?a1 ?l1 ?c1 ?k1 ?a2 ?l2 ?c2 ?k2 ?a3 ?l3 ?c3 ?k3 ?a4 ?l4 ?c4 ?k4 ?a5 ?l5 ?c5 ?k5 ?a6 ?l6 ?c6 ?k6 ?a7 ?l7 ?c7 ?k7 ?a8 ?l8 ?c8 ?k8 ?a9 ?l9 ?c9 ?k9 ?a10 ?l10 ?c10 ?k10 ?a11 ?l11 ?c11 ?k11 ?a12 ?l12 ?c12 ?k12 ?a13 ?l13 ?c13 ?k13 ?a14 ?l14 ?c14 ?k14 ?a15 ?l15 ?c15 ?k15 ?a16 ?l16 ?c16 ?k16 ?a17 ?l17 ?c17 ?k17 ?a18 ?l18 ?c18 ?k18 ?a19 ?l19 ?c19 ?k19 ?a20 ?l20 ?c20 ?k20 ?a21 ?l21 ?c21 ?k21 ?a22 ?l22 ?c22 ?k22 ?a23 ?l23 ?c23 ?k23 ?a24 ?l24 ?c24 ?k24 ?a25 ?l25 ?c25 ?k25 ?a26 ?l26 ?c26 ?k26 ?a27 ?l27 ?c27 ?k27 ?a28 ?l28 ?c28 ?k28 ?a29 ?l29 ?c29 ?k29 ?a30 ?l30 ?c30 ?k30 ?a31 ?l31 ?c31 ?k31 ?a32 ?l32 ?c32 ?k32 ?a33 ?l33 ?c33 ?k33 ?a34 ?l34 ?c34 ?k34 ?a35 ?l35 ?c35 ?k35 ?aX ?lX ?vX ?sX ?eX ?tX ?kX ?iX ?uX ?n1X ?n2X ?aI ?tI ?lI ?cI ?kI ?z_all ?z_bool ?z_enumerate ?z_int ?z_isinstance ?z_len ?z_list ?z_range ?z_set ?z_sorted ?z_str ?z_tuple ?z_zip
    (case a1 => k_is)
    (case l1 => k_is)
    (case c1 => k_is)
    (case k1 => k_is)
    (case a2 => k_is)
    (case l2 => k_is)
    (case c2 => k_is)
    (case k2 => k_is)
    (case a3 => k_is)
    (case l3 => k_is)
    (case c3 => k_is)
    (case k3 => k_is)
    (case a4 => k_is)
    (case l4 => k_is)
    (case c4 => k_is)
    (case k4 => k_is)
    (case a5 => k_is)
    (case l5 => k_is)
    (case c5 => k_is)
    (case k5 => k_is)
    (case a6 => k_is)
    (case l6 => k_is)
    (case c6 => k_is)
    (case k6 => k_is)
    (case a7 => k_is)
    (case l7 => k_is)
    (case c7 => k_is)
    (case k7 => k_is)
    (case a8 => k_is)
    (case l8 => k_is)
    (case c8 => k_is)
    (case k8 => k_is)
    (case a9 => k_is)
    (case l9 => k_is)
    (case c9 => k_is)
    (case k9 => k_is)
    (case a10 => k_is)
    (case l10 => k_is)
    (case c10 => k_is)
    (case k10 => k_is)
    (case a11 => k_is)
    (case l11 => k_is)
    (case c11 => k_is)
    (case k11 => k_is)
    (case a12 => k_is)
    (case l12 => k_is)
    (case c12 => k_is)
    (case k12 => k_is)
    (case a13 => k_is)
    (case l13 => k_is)
    (case c13 => k_is)
    (case k13 => k_is)
    (case a14 => k_is)
    (case l14 => k_is)
    (case c14 => k_is)
    (case k14 => k_is)
    (case a15 => k_is)
    (case l15 => k_is)
    (case c15 => k_is)
    (case k15 => k_is)
    (case a16 => k_is)
    (case l16 => k_is)
    (case c16 => k_is)
    (case k16 => k_is)
    (case a17 => k_is)
    (case l17 => k_is)
    (case c17 => k_is)
    (case k17 => k_is)
    (case a18 => k_is)
    (case l18 => k_is)
    (case c18 => k_is)
    (case k18 => k_is)
    (case a19 => k_is)
    (case l19 => k_is)
    (case c19 => k_is)
    (case k19 => k_is)
    (case a20 => k_is)
    (case l20 => k_is)
    (case c20 => k_is)
    (case k20 => k_is)
    (case a21 => k_is)
    (case l21 => k_is)
    (case c21 => k_is)
    (case k21 => k_is)
    (case a22 => k_is)
    (case l22 => k_is)
    (case c22 => k_is)
    (case k22 => k_is)
    (case a23 => k_is)
    (case l23 => k_is)
    (case c23 => k_is)
    (case k23 => k_is)
    (case a24 => k_is)
    (case l24 => k_is)
    (case c24 => k_is)
    (case k24 => k_is)
    (case a25 => k_is)
    (case l25 => k_is)
    (case c25 => k_is)
    (case k25 => k_is)
    (case a26 => k_is)
    (case l26 => k_is)
    (case c26 => k_is)
    (case k26 => k_is)
    (case a27 => k_is)
    (case l27 => k_is)
    (case c27 => k_is)
    (case k27 => k_is)
    (case a28 => k_is)
    (case l28 => k_is)
    (case c28 => k_is)
    (case k28 => k_is)
    (case a29 => k_is)
    (case l29 => k_is)
    (case c29 => k_is)
    (case k29 => k_is)
    (case a30 => k_is)
    (case l30 => k_is)
    (case c30 => k_is)
    (case k30 => k_is)
    (case a31 => k_is)
    (case l31 => k_is)
    (case c31 => k_is)
    (case k31 => k_is)
    (case a32 => k_is)
    (case l32 => k_is)
    (case c32 => k_is)
    (case k32 => k_is)
    (case a33 => k_is)
    (case l33 => k_is)
    (case c33 => k_is)
    (case k33 => k_is)
    (case a34 => k_is)
    (case l34 => k_is)
    (case c34 => k_is)
    (case k34 => k_is)
    (case a35 => k_is)
    (case l35 => k_is)
    (case c35 => k_is)
    (case k35 => k_is)
    (case aX => k_is)
    (case lX => k_is)
    (case vX => decide +kernel)
    (case sX => k_is)
    (case eX => k_is)
    (case tX => k_is)
    (case kX => k_is)
    (case iX => k_is)
    (case uX => first | rfl | k_is)
    (case n1X => k_is)
    (case n2X => k_is)
    (case aI => k_is)
    (case tI => k_is)
    (case lI => k_is)
    (case cI => k_is)
    (case kI => k_is)
    (case z_all => k_is)
    (case z_bool => k_is)
    (case z_enumerate => k_is)
    (case z_int => k_is)
    (case z_isinstance => k_is)
    (case z_len => k_is)
    (case z_list => k_is)
    (case z_range => k_is)
    (case z_set => k_is)
    (case z_sorted => k_is)
    (case z_str => k_is)
    (case z_tuple => k_is)
    (case z_zip => k_is)
