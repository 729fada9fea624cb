import PyProof.Rows.All
import Wide.All
import OpenK.AllK
import Wide.FinOn
import HandS.Base
import HandS.Call
import HandS.List
import HandS.Comp
import HandS.Words
import HandS.Dict
import HandS.Codes
import HandS.Iter
import HandS.Walk
import HandS.Zip
import HandS.More
import HandS.IsInst
import HandS.Deep
import HandS.TupAny
import HandS.Style
import KE.GoesEnum
import KE.GoesNew
import HandS.ForMost
import HandS.ForExc
import HandS.TupSets
import HandS.Wide
import HandS.Strs
import HandS.DictComp
import HandS.Defaults
import KE.GoesMore
import KE.GoesZip
import KE.KDictCopyH
import KE.KDictOf
import KE.KTupSum
import KE.KDictZip
import KE.KRevSl
import PySem.Challenge.RW_zipslack_k04_gaps_and_pairs
set_option Elab.async false
set_option linter.all false
set_option maxRecDepth 100000
set_option maxHeartbeats 4000000
namespace Zs
open PySem PySem.Spec PyProof.Rows L2
/-! ### a layer over data: what nobody changes is a datum, what is changed is an object of one's own, known by its number -/
inductive Dv where
  | d (x : PyData)
  | r (k : Nat)
  | o (A : V → Hp → Prop)
  | p (x : PyData)
inductive Ct where
  | lst (xs : List Dv)
  | dT (f : List Key → Option Dv) (n : Nat)
  | dK (f : Key → Option Dv) (n : Nat)
  | ext (B : HO → Prop)
abbrev Sl := List (Option Dv)
abbrev Mm := List Ct
/-- the heap without the objects at φ -/
def mask (φ : List Addr) (H : Hp) : Hp := fun b => if b ∈ φ then none else H b
theorem mask_of {φ : List Addr} {H : Hp} {b : Addr} {o : HO} (n : b ∉ φ) (h : H b = some o) : mask φ H b = some o := by
  unfold mask
  rw [if_neg n]
  exact h
theorem of_mask {φ : List Addr} {H : Hp} {b : Addr} {o : HO} (h : mask φ H b = some o) : b ∉ φ ∧ H b = some o := by
  unfold mask at h
  by_cases m : b ∈ φ
  · rw [if_pos m] at h
    cases h
  · rw [if_neg m] at h
    exact ⟨m, h⟩
theorem mask_same (φ : List Addr) (H : Hp) : Same (mask φ H) H := fun _ _ h => (of_mask h).2
theorem Same.mask {φ : List Addr} {H H' : Hp} (s : Same H H') : Same (Zs.mask φ H) (Zs.mask φ H') := fun b o h => mask_of (of_mask h).1 (s _ _ (of_mask h).2)
theorem seqT_same {K : PySem.W.Frag} {p : Addr} {H H' : Hp} {xs : List V} (x : Same H H') (h : SqT K H p xs) : SqT K H' p xs := by
  rcases h with (h | ⟨o, h⟩) | h
  · exact .inl (.inl (x _ _ h))
  · exact .inl (.inr ⟨o, x _ _ h⟩)
  · exact .inr h
theorem new_same {H : Hp} {p : Addr} {o : HO} (h : H p = none) : Same H (upd H p o) := fun b x e => by
  rw [upd_ne (ne_of_none e h)]
  exact e
mutual
theorem dp_same {K : PySem.W.Frag} {H H' : Hp} (x : Same H H') : ∀ {v : V} {d : PyData}, Dp K H v d → Dp K H' v d
  | _, _, .non => .non
  | _, _, .bl b => .bl b
  | _, _, .int i => .int i
  | _, _, .str y => .str y
  | _, _, .lst s r => .lst (x.seq s) (dpAll_same x r)
  | _, _, .tup s r => .tup (seqT_same x s) (dpAll_same x r)
theorem dpAll_same {K : PySem.W.Frag} {H H' : Hp} (x : Same H H') : ∀ {vs : List V} {ds : List PyData}, DpAll K H vs ds → DpAll K H' vs ds
  | _, _, .nil => .nil
  | _, _, .cons a r => .cons (dp_same x a) (dpAll_same x r)
end
/-! data whose flat tuples are tracked: such tuples may be keys -/
def flatN : List V → Bool
  | [] => false
  | xs => xs.all fun v => match v with | .int _ => true | .str _ => true | _ => false
mutual
inductive Dq (K : PySem.W.Frag) (H : Hp) : V → PyData → Prop
  | non : Dq K H .non .none
  | bl (b : Bool) : Dq K H (.bl b) (.bool b)
  | int (i : Int) : Dq K H (.int i) (.int i)
  | str (x : Str) : Dq K H (.str x) (.str x)
  | lst {a : Addr} {xs : List V} {ds : List PyData} : SqL K H a xs → DqAll K H xs ds → Dq K H (.ref a) (.list ds)
  | tup {a : Addr} {xs : List V} {ds : List PyData} : SqT K H a xs → (flatN xs = true → H a = some (.tup xs)) → DqAll K H xs ds → Dq K H (.ref a) (.tuple ds)
inductive DqAll (K : PySem.W.Frag) (H : Hp) : List V → List PyData → Prop
  | nil : DqAll K H [] []
  | cons {v : V} {vs : List V} {d : PyData} {ds : List PyData} : Dq K H v d → DqAll K H vs ds → DqAll K H (v :: vs) (d :: ds)
end
mutual
theorem dq_same {K : PySem.W.Frag} {H H' : Hp} (x : Same H H') : ∀ {v : V} {d : PyData}, Dq K H v d → Dq K H' v d
  | _, _, .non => .non
  | _, _, .bl b => .bl b
  | _, _, .int i => .int i
  | _, _, .str y => .str y
  | _, _, .lst s r => .lst (x.seq s) (dqAll_same x r)
  | _, _, .tup s f r => .tup (seqT_same x s) (fun z => x _ _ (f z)) (dqAll_same x r)
theorem dqAll_same {K : PySem.W.Frag} {H H' : Hp} (x : Same H H') : ∀ {vs : List V} {ds : List PyData}, DqAll K H vs ds → DqAll K H' vs ds
  | _, _, .nil => .nil
  | _, _, .cons a r => .cons (dq_same x a) (dqAll_same x r)
end
mutual
theorem dq_dp {K : PySem.W.Frag} {H : Hp} : ∀ {v : V} {d : PyData}, Dq K H v d → Dp K H v d
  | _, _, .non => .non
  | _, _, .bl b => .bl b
  | _, _, .int i => .int i
  | _, _, .str y => .str y
  | _, _, .lst s r => .lst s (dqAll_dp r)
  | _, _, .tup s _ r => .tup s (dqAll_dp r)
theorem dqAll_dp {K : PySem.W.Frag} {H : Hp} : ∀ {vs : List V} {ds : List PyData}, DqAll K H vs ds → DpAll K H vs ds
  | _, _, .nil => .nil
  | _, _, .cons a r => .cons (dq_dp a) (dqAll_dp r)
end
/-- a step: own objects may change, new ones may come; all else stays -/
structure Stp (φ : List Addr) (H : Hp) (φ' : List Addr) (H' : Hp) : Prop where
  pre : ∃ χ, φ' = φ ++ χ
  new : ∀ b ∈ φ', b ∈ φ ∨ H b = none
  kept : ∀ b o, b ∉ φ → H b = some o → H' b = some o
theorem Stp.refl (φ : List Addr) (H : Hp) : Stp φ H φ H := ⟨⟨[], by simp⟩, fun _ h => .inl h, fun _ _ _ h => h⟩
theorem Stp.of {φ : List Addr} {H H' : Hp} (s : Same H H') : Stp φ H φ H' := ⟨⟨[], by simp⟩, fun _ h => .inl h, fun b o _ h => s b o h⟩
theorem Stp.trans {φ φ1 φ2 : List Addr} {H H1 H2 : Hp} (a : Stp φ H φ1 H1) (b : Stp φ1 H1 φ2 H2) : Stp φ H φ2 H2 := by
  obtain ⟨χ, rfl⟩ := a.pre
  obtain ⟨χ', rfl⟩ := b.pre
  refine ⟨⟨χ ++ χ', by simp⟩, fun c m => ?_, fun c o n h => ?_⟩
  · rcases b.new c m with h | h
    · exact a.new c h
    · by_cases z : c ∈ φ
      · exact .inl z
      · refine .inr ?_
        cases q : H c with
        | none => rfl
        | some o =>
          rw [a.kept c o z q] at h
          cases h
  · refine b.kept c o (fun m => ?_) (a.kept c o n h)
    rcases a.new c m with z | z
    · exact n z
    · rw [z] at h
      cases h
theorem Stp.same {φ φ' : List Addr} {H H' : Hp} (s : Stp φ H φ' H') (ψ : List Addr) : Same (Zs.mask (φ ++ ψ) H) (Zs.mask (φ' ++ ψ) H') := fun b o h => by
  obtain ⟨n, e⟩ := of_mask h
  have n1 : b ∉ φ := fun z => n (List.mem_append_left _ z)
  refine mask_of (fun m => ?_) (s.kept b o n1 e)
  rcases List.mem_append.mp m with z | z
  · rcases s.new b z with y | y
    · exact n1 y
    · rw [y] at e
      cases e
  · exact n (List.mem_append_right _ z)
/-! ### what stands for what -/
def RepV (K : PySem.W.Frag) (φ ψ : List Addr) (H : Hp) (v : V) : Dv → Prop
  | .d x => Dp K (mask (φ ++ ψ) H) v x
  | .r k => ∃ a, φ[k]? = some a ∧ v = .ref a
  | .o A => A v (mask (φ ++ ψ) H) ∧ ∀ H1 H2, Same H1 H2 → A v H1 → A v H2
  | .p x => Dq K (mask (φ ++ ψ) H) v x
abbrev RepVs (K : PySem.W.Frag) (φ ψ : List Addr) (H : Hp) : List V → List Dv → Prop := Paired (RepV K φ ψ H)
/-- a table of values is one of data -/
structure RepT (K : PySem.W.Frag) (φ ψ : List Addr) (H : Hp) {κ : Type} (g : κ → Option V) (f : κ → Option Dv) : Prop where
  no : ∀ k, f k = none → g k = none
  yes : ∀ k y, f k = some y → ∃ u, g k = some u ∧ RepV K φ ψ H u y
def RepC (K : PySem.W.Frag) (φ ψ : List Addr) (H : Hp) (a : Addr) : Ct → Prop
  | .lst xs => ∃ vs, H a = some (.lst vs) ∧ RepVs K φ ψ H vs xs
  | .dT f n => ∃ ws : List (List Key × V), H a = some (.dT ws) ∧ ws.length ≤ n ∧ RepT K φ ψ H (valV ws) f
  | .dK f n => ∃ ws : List (Key × V), H a = some (.dK ws) ∧ ws.length ≤ n ∧ RepT K φ ψ H (valV ws) f
  | .ext B => ∃ o, H a = some o ∧ B o
structure RepM (K : PySem.W.Frag) (φ ψ : List Addr) (H : Hp) (M : Mm) : Prop where
  nd : φ.Nodup
  len : φ.length = M.length
  at_ : ∀ (k : Nat) (a : Addr) (c : Ct), φ[k]? = some a → M[k]? = some c → RepC K φ ψ H a c
  hid : ∀ b ∈ ψ, ∃ o, H b = some o
  dis : ∀ b ∈ φ, b ∉ ψ
def RepS (K : PySem.W.Frag) (φ ψ : List Addr) (H : Hp) (σ : L2.St) (sl : Sl) : Prop := σ.length = sl.length ∧ ∀ (i : Nat) (x : Dv), sl[i]? = some (some x) → ∃ v, σ[i]? = some (some v) ∧ RepV K φ ψ H v x
section
variable {K : PySem.W.Frag} {φ φ' ψ : List Addr} {H H' : Hp} {σ : L2.St} {sl : Sl} {M M' : Mm} {v : V} {x : Dv} {a : Addr} {c : Ct}
theorem RepV.stp (s : Stp φ H φ' H') (h : RepV K φ ψ H v x) : RepV K φ' ψ H' v x := by
  cases x with
  | d y => exact dp_same (s.same ψ) h
  | r k =>
    obtain ⟨b, e, z⟩ := h
    obtain ⟨χ, rfl⟩ := s.pre
    exact ⟨b, by rw [List.getElem?_append_left (List.getElem?_eq_some_iff.mp e).1]; exact e, z⟩
  | o A => exact ⟨h.2 _ _ (s.same ψ) h.1, h.2⟩
  | p y => exact dq_same (s.same ψ) h
theorem RepVs.stp (s : Stp φ H φ' H') {vs : List V} {xs : List Dv} (h : RepVs K φ ψ H vs xs) : RepVs K φ' ψ H' vs xs := Paired.mono (fun _ _ z => RepV.stp s z) h
theorem RepT.stp {κ : Type} {g : κ → Option V} {f : κ → Option Dv} (s : Stp φ H φ' H') (h : RepT K φ ψ H g f) : RepT K φ' ψ H' g f := ⟨h.no, fun k y e => by
  obtain ⟨u, eu, r⟩ := h.yes k y e
  exact ⟨u, eu, r.stp s⟩⟩
theorem RepS.stp (s : Stp φ H φ' H') (h : RepS K φ ψ H σ sl) : RepS K φ' ψ H' σ sl := ⟨h.1, fun i x e => by
  obtain ⟨v, a, b⟩ := h.2 i x e
  exact ⟨v, a, b.stp s⟩⟩
theorem repC_some (h : RepC K φ ψ H a c) : ∃ o, H a = some o := by
  cases c with
  | lst xs => obtain ⟨vs, e, _⟩ := h; exact ⟨_, e⟩
  | dT f n => obtain ⟨vs, e, _⟩ := h; exact ⟨_, e⟩
  | dK f n => obtain ⟨vs, e, _⟩ := h; exact ⟨_, e⟩
  | ext B => obtain ⟨o, e, _⟩ := h; exact ⟨_, e⟩
/-- a content whose own object is as it was -/
theorem repC_stp (s : Stp φ H φ' H') (e : ∀ o, H a = some o → H' a = some o) (h : RepC K φ ψ H a c) : RepC K φ' ψ H' a c := by
  cases c with
  | lst xs => obtain ⟨vs, z, r⟩ := h; exact ⟨vs, e _ z, r.stp s⟩
  | dT f n => obtain ⟨vs, z, l, r⟩ := h; exact ⟨vs, e _ z, l, r.stp s⟩
  | dK f n => obtain ⟨vs, z, l, r⟩ := h; exact ⟨vs, e _ z, l, r.stp s⟩
  | ext B => obtain ⟨o, z, r⟩ := h; exact ⟨o, e _ z, r⟩
theorem RepM.own (h : RepM K φ ψ H M) (m : a ∈ φ) : ∃ o, H a = some o := by
  obtain ⟨k, l, e⟩ := List.getElem_of_mem m
  have l2 : k < M.length := by rw [← h.len]; exact l
  exact repC_some (h.at_ k a M[k] (by rw [List.getElem?_eq_getElem l, e]) (List.getElem?_eq_getElem l2))
theorem RepM.fresh (h : RepM K φ ψ H M) (n : H a = none) : a ∉ φ ++ ψ := fun m => by
  rcases List.mem_append.mp m with z | z
  · obtain ⟨o, e⟩ := h.own z
    rw [n] at e
    cases e
  · obtain ⟨o, e⟩ := h.hid a z
    rw [n] at e
    cases e
/-- nothing changes, new things may come -/
theorem RepM.same (h : RepM K φ ψ H M) (s : Same H H') : RepM K φ ψ H' M := ⟨h.nd, h.len, fun k a c e1 e2 => repC_stp (.of s) (fun o z => s _ _ z) (h.at_ k a c e1 e2), fun b m => by
  obtain ⟨o, e⟩ := h.hid b m
  exact ⟨o, s _ _ e⟩, h.dis⟩
theorem RepM.get (h : RepM K φ ψ H M) {k : Nat} (e : M[k]? = some c) : ∃ a, φ[k]? = some a ∧ RepC K φ ψ H a c := by
  have l : k < φ.length := by rw [h.len]; exact (List.getElem?_eq_some_iff.mp e).1
  exact ⟨φ[k], List.getElem?_eq_getElem l, h.at_ k _ c (List.getElem?_eq_getElem l) e⟩
/-- the k-th object is changed -/
theorem RepM.set (h : RepM K φ ψ H M) {k : Nat} {o : HO} (ea : φ[k]? = some a) (r : RepC K φ ψ (upd H a o) a c) : Stp φ H φ (upd H a o) ∧ RepM K φ ψ (upd H a o) (M.set k c) := by
  have lk : k < φ.length := (List.getElem?_eq_some_iff.mp ea).1
  have ma : a ∈ φ := List.mem_of_getElem? ea
  have nh := h.dis a ma
  have st : Stp φ H φ (upd H a o) := ⟨⟨[], by simp⟩, fun _ z => .inl z, fun b u n e => by
    rw [upd_ne (fun z => n (by rw [z]; exact ma))]
    exact e⟩
  refine ⟨st, h.nd, by rw [List.length_set]; exact h.len, fun j b c' eb ec => ?_, fun b m => ?_, h.dis⟩
  · by_cases e : k = j
    · subst e
      have := Option.some.inj (ea.symm.trans eb)
      subst this
      rw [List.getElem?_set_self (by rw [← h.len]; exact lk)] at ec
      have := Option.some.inj ec
      subst this
      exact r
    · rw [List.getElem?_set_ne e] at ec
      have nb : b ≠ a := fun z => by
        subst z
        have l2 := (List.getElem?_eq_some_iff.mp eb)
        obtain ⟨l2, e2⟩ := l2
        obtain ⟨l1, e1⟩ := List.getElem?_eq_some_iff.mp ea
        exact e ((List.getElem_inj h.nd).mp (e1.trans e2.symm))
      exact repC_stp st (fun u z => by rw [upd_ne nb]; exact z) (h.at_ j b c' eb ec)
  · obtain ⟨u, e⟩ := h.hid b m
    exact ⟨u, by rw [upd_ne (fun z => nh (by rw [← z]; exact m))]; exact e⟩
/-- a new object of one's own -/
theorem RepM.push (h : RepM K φ ψ H M) {o : HO} (n : H a = none) (r : RepC K (φ ++ [a]) ψ (upd H a o) a c) : Stp φ H (φ ++ [a]) (upd H a o) ∧ RepM K (φ ++ [a]) ψ (upd H a o) (M ++ [c]) := by
  have st : Stp φ H (φ ++ [a]) (upd H a o) := ⟨⟨[a], rfl⟩, fun b z => by
    rcases List.mem_append.mp z with y | y
    · exact .inl y
    · rw [List.mem_singleton.mp y]
      exact .inr n, fun b u _ e => new_same n _ _ e⟩
  have na : a ∉ φ := fun z => h.fresh n (List.mem_append_left _ z)
  refine ⟨st, ?_, by rw [List.length_append, List.length_append, h.len]; rfl, fun j b c' eb ec => ?_, fun b m => ?_, fun b m mb => ?_⟩
  · rw [List.nodup_append]
    exact ⟨h.nd, by simp, fun x hx y hy e => na (by rw [← List.mem_singleton.mp hy, ← e]; exact hx)⟩
  · rcases Nat.lt_or_ge j φ.length with l | l
    · rw [List.getElem?_append_left l] at eb
      rw [List.getElem?_append_left (by rw [← h.len]; exact l)] at ec
      exact repC_stp st (fun u z => new_same n _ _ z) (h.at_ j b c' eb ec)
    · have l2 : j = φ.length := by
        have := (List.getElem?_eq_some_iff.mp eb).1
        rw [List.length_append] at this
        have e1 : ([a] : List Addr).length = 1 := rfl
        omega
      subst l2
      rw [List.getElem?_append_right (Nat.le_refl _), Nat.sub_self] at eb
      rw [h.len, List.getElem?_append_right (Nat.le_refl _), Nat.sub_self] at ec
      have e1 := Option.some.inj eb
      have e2 := Option.some.inj ec
      subst e1
      subst e2
      exact r
  · obtain ⟨u, e⟩ := h.hid b m
    exact ⟨u, new_same n _ _ e⟩
  · rcases List.mem_append.mp m with y | y
    · exact h.dis b y mb
    · rw [List.mem_singleton.mp y] at mb
      exact h.fresh n (List.mem_append_right _ mb)
end
/-! ### what is to be shown of a term: by data alone -/
def Pk (K : PySem.W.Frag) (φ ψ : List Addr) (H : Hp) (Φ : Dv → Mm → Prop) (Q : VK) : Prop := ∀ v d φ' H' M', Stp φ H φ' H' → RepM K φ' ψ H' M' → RepV K φ' ψ H' v d → Φ d M' → Q v H'
def ExD (K : PySem.W.Frag) (te : TE) (sl : Sl) (M : Mm) (Φ : Dv → Mm → Prop) : Prop := ∀ (φ ψ : List Addr) (σ : L2.St) (H : Hp) (Q : VK), RepM K φ ψ H M → RepS K φ ψ H σ sl → Pk K φ ψ H Φ Q → te σ H Q
def TtD (K : PySem.W.Frag) (tt : TT) (sl : Sl) (M : Mm) (Φ : Bool → Mm → Prop) : Prop := ∀ (φ ψ : List Addr) (σ : L2.St) (H : Hp) (Q : Bool → Hp → Prop), RepM K φ ψ H M → RepS K φ ψ H σ sl → (∀ b φ' H' M', Stp φ H φ' H' → RepM K φ' ψ H' M' → Φ b M' → Q b H') → tt σ H Q
def AxD (K : PySem.W.Frag) (ta : TA) (sl : Sl) (M : Mm) (Φ : List Dv → Mm → Prop) : Prop := ∀ (φ ψ : List Addr) (σ : L2.St) (H : Hp) (Q : List V → Hp → Prop), RepM K φ ψ H M → RepS K φ ψ H σ sl → (∀ vs ds φ' H' M', Stp φ H φ' H' → RepM K φ' ψ H' M' → RepVs K φ' ψ H' vs ds → Φ ds M' → Q vs H') → ta σ H Q
def OpD (K : PySem.W.Frag) (r : R2) (x y : Dv) (M : Mm) (Φ : Dv → Mm → Prop) : Prop := ∀ (φ ψ : List Addr) (H : Hp) (v u : V) (Q : VK), RepM K φ ψ H M → RepV K φ ψ H v x → RepV K φ ψ H u y → Pk K φ ψ H Φ Q → r v u H Q
def UnD (K : PySem.W.Frag) (r : V → Hp → VK → Prop) (x : Dv) (M : Mm) (Φ : Dv → Mm → Prop) : Prop := ∀ (φ ψ : List Addr) (H : Hp) (v : V) (Q : VK), RepM K φ ψ H M → RepV K φ ψ H v x → Pk K φ ψ H Φ Q → r v H Q
def CaD (K : PySem.W.Frag) (r : List V → Hp → VK → Prop) (xs : List Dv) (M : Mm) (Φ : Dv → Mm → Prop) : Prop := ∀ (φ ψ : List Addr) (H : Hp) (vs : List V) (Q : VK), RepM K φ ψ H M → RepVs K φ ψ H vs xs → Pk K φ ψ H Φ Q → r vs H Q
section
variable {K : PySem.W.Frag} {sl : Sl} {M : Mm} {Φ : Dv → Mm → Prop} {φ φ' ψ : List Addr} {H H' : Hp} {Q : VK}
theorem Pk.stp (p : Pk K φ ψ H Φ Q) (s : Stp φ H φ' H') : Pk K φ' ψ H' Φ Q := fun v d φ2 H2 M2 s2 m r f => p v d φ2 H2 M2 (s.trans s2) m r f
theorem Pk.here (p : Pk K φ ψ H Φ Q) (m : RepM K φ ψ H M) {v : V} {x : Dv} (r : RepV K φ ψ H v x) (f : Φ x M) : Q v H := p v x φ H M (.refl _ _) m r f
theorem Pk.grown (p : Pk K φ ψ H Φ Q) (m : RepM K φ ψ H M) (s : Same H H') {v : V} {x : Dv} (r : RepV K φ ψ H' v x) (f : Φ x M) : Q v H' := p v x φ H' M (.of s) (m.same s) r f
theorem ex_var {i : Nat} {x : Dv} (e : sl[i]? = some (some x)) (f : Φ x M) : ExD K (tVar i) sl M Φ := fun φ ψ σ H Q m s p => by
  obtain ⟨v, ev, r⟩ := s.2 i x e
  exact ⟨v, ev, p.here m r f⟩
theorem ex_int {i : Int} (f : Φ (.d (.int i)) M) : ExD K (tC (.int i)) sl M Φ := fun φ ψ σ H Q m s p => p.here m (x := .d (.int i)) (.int i) f
theorem ex_bl {b : Bool} (f : Φ (.d (.bool b)) M) : ExD K (tC (.bl b)) sl M Φ := fun φ ψ σ H Q m s p => p.here m (x := .d (.bool b)) (.bl b) f
theorem ex_str {t : Str} (f : Φ (.d (.str t)) M) : ExD K (tC (.str t)) sl M Φ := fun φ ψ σ H Q m s p => p.here m (x := .d (.str t)) (.str t) f
theorem ex_non (f : Φ (.d .none) M) : ExD K (tC .non) sl M Φ := fun φ ψ σ H Q m s p => p.here m (x := .d .none) .non f
theorem ex_op {r : R2} {ta tb : TE} (h : ExD K ta sl M fun x M1 => ExD K tb sl M1 fun y M2 => OpD K r x y M2 Φ) : ExD K (tOp r ta tb) sl M Φ := fun φ ψ σ H Q m s p =>
  h φ ψ σ H _ m s fun v x φ1 H1 M1 s1 m1 r1 h1 => h1 φ1 ψ σ H1 _ m1 (s.stp s1) fun u y φ2 H2 M2 s2 m2 r2 h2 => h2 φ2 ψ H2 v u Q m2 (r1.stp s2) r2 (p.stp (s1.trans s2))
theorem ex_un {r : V → Hp → VK → Prop} {ta : TE} (h : ExD K ta sl M fun x M1 => UnD K r x M1 Φ) : ExD K (tUn r ta) sl M Φ := fun φ ψ σ H Q m s p =>
  h φ ψ σ H _ m s fun v x φ1 H1 M1 s1 m1 r1 h1 => h1 φ1 ψ H1 v Q m1 r1 (p.stp s1)
theorem ax_nil {Φ : List Dv → Mm → Prop} (f : Φ [] M) : AxD K tNil sl M Φ := fun φ ψ σ H Q m s p => p [] [] φ H M (.refl _ _) m .nil f
theorem ax_cons {Φ : List Dv → Mm → Prop} {ta : TE} {tr : TA} (h : ExD K ta sl M fun x M1 => AxD K tr sl M1 fun xs M2 => Φ (x :: xs) M2) : AxD K (tCons ta tr) sl M Φ := fun φ ψ σ H Q m s p =>
  h φ ψ σ H _ m s fun v x φ1 H1 M1 s1 m1 r1 h1 => h1 φ1 ψ σ H1 _ m1 (s.stp s1) fun vs xs φ2 H2 M2 s2 m2 r2 h2 => p _ _ φ2 H2 M2 (s1.trans s2) m2 (.cons (r1.stp s2) r2) h2
theorem ex_cb {r : List V → Hp → VK → Prop} {t : TA} (h : AxD K t sl M fun xs M1 => CaD K r xs M1 Φ) : ExD K (tCB r t) sl M Φ := fun φ ψ σ H Q m s p =>
  h φ ψ σ H _ m s fun vs xs φ1 H1 M1 s1 m1 r1 h1 => h1 φ1 ψ H1 vs Q m1 r1 (p.stp s1)
/-! tests -/
theorem tt_test {te : TE} {Φ : Bool → Mm → Prop} (h : ExD K te sl M fun x M1 => ∃ b, x = .d (.bool b) ∧ Φ b M1) : TtD K (tTest te) sl M Φ := fun φ ψ σ H Q m s p =>
  h φ ψ σ H _ m s fun v x φ1 H1 M1 s1 m1 r1 h1 => by
    obtain ⟨b, rfl, f⟩ := h1
    cases (show Dp K _ v (.bool b) from r1)
    exact ⟨b, rfl, p b φ1 H1 M1 s1 m1 f⟩
theorem tt_B {te : TE} {Φ : Bool → Mm → Prop} (h : ExD K te sl M fun x M1 => ∃ b, x = .d (.bool b) ∧ Φ b M1) : TtD K (tB te) sl M Φ := fun φ ψ σ H Q m s p =>
  h φ ψ σ H _ m s fun v x φ1 H1 M1 s1 m1 r1 h1 => by
    obtain ⟨b, rfl, f⟩ := h1
    cases (show Dp K _ v (.bool b) from r1)
    exact ⟨b, rfl, p b φ1 H1 M1 s1 m1 f⟩
theorem tt_and {t u : TT} {Φ : Bool → Mm → Prop} (h : TtD K t sl M fun b M1 => if b = true then TtD K u sl M1 Φ else Φ false M1) : TtD K (tAnd t u) sl M Φ := fun φ ψ σ H Q m s p =>
  h φ ψ σ H _ m s fun b φ1 H1 M1 s1 m1 h1 => by
    cases b with
    | true => exact h1 φ1 ψ σ H1 Q m1 (s.stp s1) fun b φ2 H2 M2 s2 m2 f => p b φ2 H2 M2 (s1.trans s2) m2 f
    | false => exact p false φ1 H1 M1 s1 m1 h1
theorem tt_or {t u : TT} {Φ : Bool → Mm → Prop} (h : TtD K t sl M fun b M1 => if b = true then Φ true M1 else TtD K u sl M1 Φ) : TtD K (tOr t u) sl M Φ := fun φ ψ σ H Q m s p =>
  h φ ψ σ H _ m s fun b φ1 H1 M1 s1 m1 h1 => by
    cases b with
    | false => exact h1 φ1 ψ σ H1 Q m1 (s.stp s1) fun b φ2 H2 M2 s2 m2 f => p b φ2 H2 M2 (s1.trans s2) m2 f
    | true => exact p true φ1 H1 M1 s1 m1 h1
theorem tt_not {t : TT} {Φ : Bool → Mm → Prop} (h : TtD K t sl M fun b M1 => Φ (!b) M1) : TtD K (tNot t) sl M Φ := fun φ ψ σ H Q m s p => h φ ψ σ H _ m s fun b φ1 H1 M1 s1 m1 h1 => p (!b) φ1 H1 M1 s1 m1 h1
theorem tt_yes {Φ : Bool → Mm → Prop} (f : Φ true M) : TtD K tYes sl M Φ := fun φ ψ σ H Q m s p => p true φ H M (.refl _ _) m f
theorem ex_andV {ta tb : TE} (h : ExD K ta sl M fun x M1 => ∃ b, x = .d (.bool b) ∧ if b = true then ExD K tb sl M1 Φ else Φ (.d (.bool false)) M1) : ExD K (tAndV ta tb) sl M Φ := fun φ ψ σ H Q m s p =>
  h φ ψ σ H _ m s fun v x φ1 H1 M1 s1 m1 r1 h1 => by
    obtain ⟨b, rfl, f⟩ := h1
    cases (show Dp K _ v (.bool b) from r1)
    refine ⟨b, rfl, ?_⟩
    cases b with
    | true => exact f φ1 ψ σ H1 Q m1 (s.stp s1) (p.stp s1)
    | false => exact (p.stp s1).here m1 (x := .d (.bool false)) (.bl false) f
theorem ex_orV {ta tb : TE} (h : ExD K ta sl M fun x M1 => ∃ b, x = .d (.bool b) ∧ if b = true then Φ (.d (.bool true)) M1 else ExD K tb sl M1 Φ) : ExD K (tOrV ta tb) sl M Φ := fun φ ψ σ H Q m s p =>
  h φ ψ σ H _ m s fun v x φ1 H1 M1 s1 m1 r1 h1 => by
    obtain ⟨b, rfl, f⟩ := h1
    cases (show Dp K _ v (.bool b) from r1)
    refine ⟨b, rfl, ?_⟩
    cases b with
    | false => exact f φ1 ψ σ H1 Q m1 (s.stp s1) (p.stp s1)
    | true => exact (p.stp s1).here m1 (x := .d (.bool true)) (.bl true) f
theorem ex_notV {ta : TE} (h : ExD K ta sl M fun x M1 => ∃ b, x = .d (.bool b) ∧ Φ (.d (.bool !b)) M1) : ExD K (tNotV ta) sl M Φ := fun φ ψ σ H Q m s p =>
  h φ ψ σ H _ m s fun v x φ1 H1 M1 s1 m1 r1 h1 => by
    obtain ⟨b, rfl, f⟩ := h1
    cases (show Dp K _ v (.bool b) from r1)
    exact ⟨b, rfl, (p.stp s1).here m1 (x := .d (.bool !b)) (.bl _) f⟩
theorem ex_if {t : TT} {ta tb : TE} (h : TtD K t sl M fun b M1 => if b = true then ExD K ta sl M1 Φ else ExD K tb sl M1 Φ) : ExD K (tIf t ta tb) sl M Φ := fun φ ψ σ H Q m s p =>
  h φ ψ σ H _ m s fun b φ1 H1 M1 s1 m1 h1 => by
    cases b with
    | true => exact h1 φ1 ψ σ H1 Q m1 (s.stp s1) (p.stp s1)
    | false => exact h1 φ1 ψ σ H1 Q m1 (s.stp s1) (p.stp s1)
/-- x is None, of a datum -/
def isNon : PyData → Bool
  | .none => true
  | _ => false
theorem isNon_of {v : V} {d : PyData} (h : Dp K H v d) : isNon d = decide (v = .non) := by cases h <;> rfl
theorem ex_isN {ta : TE} (h : ExD K ta sl M fun x M1 => ∃ d, x = .d d ∧ Φ (.d (.bool (isNon d))) M1) : ExD K (tIsN ta) sl M Φ := fun φ ψ σ H Q m s p =>
  h φ ψ σ H _ m s fun v x φ1 H1 M1 s1 m1 r1 h1 => by
    obtain ⟨d, rfl, f⟩ := h1
    rw [isNon_of (show Dp K _ v d from r1)] at f
    exact (p.stp s1).here m1 (x := .d (.bool (decide (v = .non)))) (.bl _) f
theorem ex_notN {ta : TE} (h : ExD K ta sl M fun x M1 => ∃ d, x = .d d ∧ Φ (.d (.bool (!isNon d))) M1) : ExD K (tNotN ta) sl M Φ := fun φ ψ σ H Q m s p =>
  h φ ψ σ H _ m s fun v x φ1 H1 M1 s1 m1 r1 h1 => by
    obtain ⟨d, rfl, f⟩ := h1
    rw [isNon_of (show Dp K _ v d from r1)] at f
    exact (p.stp s1).here m1 (x := .d (.bool !decide (v = .non))) (.bl _) f
theorem ex_chain {r r' : R2} {ta tb tc : TE} (h : ExD K ta sl M fun x M1 => ExD K tb sl M1 fun y M2 => OpD K r x y M2 fun z M3 => ∃ b, z = .d (.bool b) ∧ if b = true then ExD K tc sl M3 fun w M4 => OpD K r' y w M4 Φ else Φ (.d (.bool false)) M3) : ExD K (tChain r r' ta tb tc) sl M Φ := fun φ ψ σ H Q m s p =>
  h φ ψ σ H _ m s fun v x φ1 H1 M1 s1 m1 r1 h1 => h1 φ1 ψ σ H1 _ m1 (s.stp s1) fun u y φ2 H2 M2 s2 m2 r2 h2 => h2 φ2 ψ H2 v u _ m2 (r1.stp s2) r2 fun z dz φ3 H3 M3 s3 m3 r3 h3 => by
    obtain ⟨b, rfl, f⟩ := h3
    cases (show Dp K _ z (.bool b) from r3)
    refine ⟨b, rfl, ?_⟩
    have s13 := (s1.trans s2).trans s3
    cases b with
    | true => exact f φ3 ψ σ H3 _ m3 (s.stp s13) fun w dw φ4 H4 M4 s4 m4 r4 h4 => h4 φ4 ψ H4 u w Q m4 ((r2.stp s3).stp s4) r4 (p.stp (s13.trans s4))
    | false => exact (p.stp s13).here m3 (x := .d (.bool false)) (.bl false) f
end
end Zs
namespace Zs
open PySem PySem.Spec PyProof.Rows L2
/-! ### later on -/
structure Ltr (φ ψ : List Addr) (H : Hp) (φ' ψ' : List Addr) (H' : Hp) : Prop where
  pre : ∃ χ, φ' = φ ++ χ
  same : Same (mask (φ ++ ψ) H) (mask (φ' ++ ψ') H')
section
variable {K : PySem.W.Frag} {φ φ' φ2 ψ ψ' ψ2 : List Addr} {H H' H2 : Hp} {σ : L2.St} {sl : Sl} {M M' : Mm} {v : V} {x : Dv} {a : Addr} {c : Ct}
theorem Stp.ltr (s : Stp φ H φ' H') : Ltr φ ψ H φ' ψ H' := ⟨s.pre, s.same ψ⟩
theorem Ltr.refl : Ltr φ ψ H φ ψ H := ⟨⟨[], by simp⟩, .refl _⟩
theorem Ltr.trans (a : Ltr φ ψ H φ' ψ' H') (b : Ltr φ' ψ' H' φ2 ψ2 H2) : Ltr φ ψ H φ2 ψ2 H2 := by
  obtain ⟨χ, rfl⟩ := a.pre
  obtain ⟨χ', rfl⟩ := b.pre
  exact ⟨⟨χ ++ χ', by simp⟩, a.same.trans b.same⟩
theorem RepV.ltr (s : Ltr φ ψ H φ' ψ' H') (h : RepV K φ ψ H v x) : RepV K φ' ψ' H' v x := by
  cases x with
  | d y => exact dp_same s.same h
  | r k =>
    obtain ⟨b, e, z⟩ := h
    obtain ⟨χ, rfl⟩ := s.pre
    exact ⟨b, by rw [List.getElem?_append_left (List.getElem?_eq_some_iff.mp e).1]; exact e, z⟩
  | o A => exact ⟨h.2 _ _ s.same h.1, h.2⟩
  | p y => exact dq_same s.same h
/-- an object that is new is hidden -/
theorem Ltr.hide {o : HO} (n : H a = none) : Ltr φ ψ H φ (a :: ψ) (upd H a o) := ⟨⟨[], by simp⟩, fun b u e => by
  obtain ⟨n1, e1⟩ := of_mask e
  refine mask_of (fun m => ?_) (new_same n _ _ e1)
  rcases List.mem_append.mp m with z | z
  · exact n1 (List.mem_append_left _ z)
  · rcases List.mem_cons.mp z with z | z
    · rw [z, n] at e1
      cases e1
    · exact n1 (List.mem_append_right _ z)⟩
theorem Ltr.show : Ltr φ (a :: ψ) H φ ψ H := ⟨⟨[], by simp⟩, fun b u e => by
  obtain ⟨n1, e1⟩ := of_mask e
  refine mask_of (fun m => n1 ?_) e1
  rcases List.mem_append.mp m with z | z
  · exact List.mem_append_left _ z
  · exact List.mem_append_right _ (List.mem_cons_of_mem _ z)⟩
/-- a hidden object is written -/
theorem Ltr.wrh {o : HO} (m : a ∈ ψ) : Ltr φ ψ H φ ψ (upd H a o) := ⟨⟨[], by simp⟩, fun b u e => by
  obtain ⟨n1, e1⟩ := of_mask e
  refine mask_of n1 ?_
  rw [upd_ne (fun z => n1 (List.mem_append_right _ (by rw [z]; exact m)))]
  exact e1⟩
theorem RepT.ltr {κ : Type} {g : κ → Option V} {f : κ → Option Dv} (s : Ltr φ ψ H φ' ψ' H') (h : RepT K φ ψ H g f) : RepT K φ' ψ' H' g f := ⟨h.no, fun k y e => by
  obtain ⟨u, eu, r⟩ := h.yes k y e
  exact ⟨u, eu, RepV.ltr s r⟩⟩
theorem repC_ltr (s : Ltr φ ψ H φ' ψ' H') (e : ∀ o, H a = some o → H' a = some o) (h : RepC K φ ψ H a c) : RepC K φ' ψ' H' a c := by
  cases c with
  | lst xs => obtain ⟨vs, z, r⟩ := h; exact ⟨vs, e _ z, Paired.mono (fun _ _ y => RepV.ltr s y) r⟩
  | dT f n => obtain ⟨vs, z, l, r⟩ := h; exact ⟨vs, e _ z, l, r.ltr s⟩
  | dK f n => obtain ⟨vs, z, l, r⟩ := h; exact ⟨vs, e _ z, l, r.ltr s⟩
  | ext B => obtain ⟨o, z, r⟩ := h; exact ⟨o, e _ z, r⟩
theorem RepS.ltr (s : Ltr φ ψ H φ' ψ' H') (h : RepS K φ ψ H σ sl) : RepS K φ' ψ' H' σ sl := ⟨h.1, fun i x e => by
  obtain ⟨v, a, b⟩ := h.2 i x e
  exact ⟨v, a, RepV.ltr s b⟩⟩
theorem RepM.hide {o : HO} (h : RepM K φ ψ H M) (n : H a = none) : RepM K φ (a :: ψ) (upd H a o) M := ⟨h.nd, h.len, fun k b c e1 e2 => repC_ltr (.hide n) (fun u z => new_same n _ _ z) (h.at_ k b c e1 e2), fun b m => by
  rcases List.mem_cons.mp m with z | z
  · exact ⟨o, by rw [z]; exact upd_same⟩
  · obtain ⟨u, e⟩ := h.hid b z
    exact ⟨u, new_same n _ _ e⟩, fun b m mb => by
  rcases List.mem_cons.mp mb with z | z
  · rw [z] at m
    exact h.fresh n (List.mem_append_left _ m)
  · exact h.dis b m z⟩
theorem RepM.show (h : RepM K φ (a :: ψ) H M) : RepM K φ ψ H M := ⟨h.nd, h.len, fun k b c e1 e2 => repC_ltr .show (fun u z => z) (h.at_ k b c e1 e2), fun b m => h.hid b (List.mem_cons_of_mem _ m), fun b m mb => h.dis b m (List.mem_cons_of_mem _ mb)⟩
theorem RepM.wrh {o : HO} (h : RepM K φ ψ H M) (m : a ∈ ψ) (n : a ∉ φ) : RepM K φ ψ (upd H a o) M := ⟨h.nd, h.len, fun k b c e1 e2 => repC_ltr (.wrh m) (fun u z => by rw [upd_ne (fun y => n (by rw [← y]; exact List.mem_of_getElem? e1))]; exact z) (h.at_ k b c e1 e2), fun b mb => by
  by_cases e : b = a
  · exact ⟨o, by rw [e]; exact upd_same⟩
  · obtain ⟨u, z⟩ := h.hid b mb
    exact ⟨u, by rw [upd_ne e]; exact z⟩, h.dis⟩
end
/-! ### lists, tuples -/
section
variable {K : PySem.W.Frag} {φ φ' ψ : List Addr} {H H' : Hp} {sl : Sl} {M : Mm} {Φ : Dv → Mm → Prop} {v : V}
theorem repVs_d : ∀ {ds : List PyData} {vs : List V}, DpAll K (mask (φ ++ ψ) H) vs ds → RepVs K φ ψ H vs (ds.map .d)
  | _, _, .nil => .nil
  | _, _, .cons a r => .cons a (repVs_d r)
theorem of_repVs_d : ∀ {ds : List PyData} {vs : List V}, RepVs K φ ψ H vs (ds.map .d) → DpAll K (mask (φ ++ ψ) H) vs ds
  | [], _, .nil => .nil
  | _ :: _, _, .cons a r => .cons a (of_repVs_d r)
/-- x is the list xs, its own or a datum -/
def LsD (M : Mm) (x : Dv) (xs : List Dv) : Prop := (∃ ds, x = .d (.list ds) ∧ xs = ds.map .d) ∨ ∃ k, x = .r k ∧ M[k]? = some (.lst xs)
theorem lsD {ds : List PyData} : LsD M (.d (.list ds)) (ds.map .d) := .inl ⟨ds, rfl, rfl⟩
theorem lsR {k : Nat} {xs : List Dv} (h : M[k]? = some (.lst xs)) : LsD M (.r k) xs := .inr ⟨k, rfl, h⟩
theorem LsD.sq {x : Dv} {xs : List Dv} (l : LsD M x xs) (m : RepM K φ ψ H M) (r : RepV K φ ψ H v x) : ∃ a vs, v = .ref a ∧ SqL K H a vs ∧ RepVs K φ ψ H vs xs := by
  rcases l with ⟨ds, rfl, rfl⟩ | ⟨k, rfl, e⟩
  · cases (show Dp K _ v (.list ds) from r) with
    | lst s h => exact ⟨_, _, rfl, (mask_same _ _).seq s, repVs_d h⟩
  · obtain ⟨a, ea, rfl⟩ := r
    obtain ⟨vs, z, q⟩ := m.at_ k a _ ea e
    exact ⟨a, vs, rfl, .inl (.inl z), q⟩
theorem tupD {ds : List PyData} (r : RepV K φ ψ H v (.d (.tuple ds))) : ∃ a vs, v = .ref a ∧ SqT K H a vs ∧ RepVs K φ ψ H vs (ds.map .d) := by
  cases (show Dp K _ v (.tuple ds) from r) with
  | tup s h => exact ⟨_, _, rfl, seqT_same (mask_same _ _) s, repVs_d h⟩
theorem new_tup (m : RepM K φ ψ H M) {p : Addr} {vs : List V} {ds : List PyData} (n : H p = none) (h : RepVs K φ ψ H vs (ds.map .d)) : RepV K φ ψ (upd H p (.tup vs)) (.ref p) (.d (.tuple ds)) :=
  show Dp K _ _ _ from .tup (.inl (.inl (mask_of (m.fresh n) upd_same))) (dpAll_same (Same.mask (new_same n)) (of_repVs_d h))
theorem new_lst (m : RepM K φ ψ H M) {p : Addr} {vs : List V} {ds : List PyData} (n : H p = none) (h : RepVs K φ ψ H vs (ds.map .d)) : RepV K φ ψ (upd H p (.lst vs)) (.ref p) (.d (.list ds)) :=
  show Dp K _ _ _ from .lst (.inl (.inl (mask_of (m.fresh n) upd_same))) (dpAll_same (Same.mask (new_same n)) (of_repVs_d h))
theorem repVs_at : ∀ {vs : List V} {xs : List Dv} {i : Nat} {x : Dv}, RepVs K φ ψ H vs xs → xs[i]? = some x → ∃ v, vs[i]? = some v ∧ RepV K φ ψ H v x
  | _, _, _, _, .nil, h => by simp at h
  | _, _, 0, x, .cons a r, h => by
    have e := Option.some.inj h
    subst e
    exact ⟨_, rfl, a⟩
  | _, _, i + 1, x, .cons a r, h => repVs_at (i := i) r (by simpa using h)
theorem repVs_tA {vs : List V} {xs : List Dv} {i : Nat} {v : V} (h : RepVs K φ ψ H vs xs) (e : vs[i]? = some v) : ∃ x, xs[i]? = some x ∧ RepV K φ ψ H v x := by
  have l : i < xs.length := by rw [← h.length]; exact (List.getElem?_eq_some_iff.mp e).1
  obtain ⟨u, eu, r⟩ := repVs_at h (List.getElem?_eq_getElem l)
  have := Option.some.inj (eu.symm.trans e)
  subst this
  exact ⟨_, List.getElem?_eq_getElem l, r⟩
theorem repVs_ix {vs : List V} {xs : List Dv} {i : Int} {x : Dv} (h : RepVs K φ ψ H vs xs) (e : atI xs i = some x) : ∃ v, atI vs i = some v ∧ RepV K φ ψ H v x := by
  unfold atI at e ⊢
  rw [h.length]
  cases q : ixN xs.length i with
  | none => rw [q] at e; cases e
  | some j =>
    rw [q] at e
    exact repVs_at h e
theorem repVs_app : ∀ {vs ws : List V} {xs ys : List Dv}, RepVs K φ ψ H vs xs → RepVs K φ ψ H ws ys → RepVs K φ ψ H (vs ++ ws) (xs ++ ys)
  | _, _, _, _, .nil, s => s
  | _, _, _, _, .cons a r, s => .cons a (repVs_app r s)
theorem repVs_set {v : V} {x : Dv} (h : RepV K φ ψ H v x) : ∀ {vs : List V} {xs : List Dv} (i : Nat), RepVs K φ ψ H vs xs → RepVs K φ ψ H (vs.set i v) (xs.set i x)
  | _, _, _, .nil => .nil
  | _, _, 0, .cons _ r => .cons h r
  | _, _, i + 1, .cons a r => .cons a (repVs_set h i r)
theorem repVs_take : ∀ {vs : List V} {xs : List Dv} (n : Nat), RepVs K φ ψ H vs xs → RepVs K φ ψ H (vs.take n) (xs.take n)
  | _, _, 0, _ => .nil
  | _, _, _ + 1, .nil => .nil
  | _, _, n + 1, .cons a r => .cons a (repVs_take n r)
theorem repVs_drop : ∀ {vs : List V} {xs : List Dv} (n : Nat), RepVs K φ ψ H vs xs → RepVs K φ ψ H (vs.drop n) (xs.drop n)
  | _, _, 0, r => r
  | _, _, _ + 1, .nil => .nil
  | _, _, n + 1, .cons _ r => repVs_drop n r
def cutD {α : Type} (xs : List α) (lo hi : Option Int) : List α := (xs.drop (HT.sIx xs.length 0 lo)).take (HT.sIx xs.length xs.length hi - HT.sIx xs.length 0 lo)
theorem repVs_cut {vs : List V} {xs : List Dv} (lo hi : Option Int) (h : RepVs K φ ψ H vs xs) : RepVs K φ ψ H (cutV vs lo hi) (cutD xs lo hi) := by
  unfold cutV cutD
  rw [h.length]
  exact repVs_take _ (repVs_drop _ h)
theorem cutD_map {α β : Type} (f : α → β) (xs : List α) (lo hi : Option Int) : cutD (xs.map f) lo hi = (cutD xs lo hi).map f := by
  unfold cutD
  rw [List.length_map, List.map_take, List.map_drop]
/-! expressions -/
/-- data in place of the values -/
def dsOf : List Dv → Option (List PyData)
  | [] => some []
  | .d x :: r => (dsOf r).map (x :: ·)
  | _ :: _ => none
theorem dsOf_map : ∀ {xs : List Dv} {ds : List PyData}, dsOf xs = some ds → xs = ds.map .d
  | [], ds, h => by cases h; rfl
  | .d x :: r, ds, h => by
    cases q : dsOf r with
    | none => simp [dsOf, q] at h
    | some es =>
      simp [dsOf, q] at h
      subst h
      rw [List.map_cons, dsOf_map q]
  | .r _ :: _, _, h => by cases h
  | .o _ :: _, _, h => by cases h
  | .p _ :: _, _, h => by cases h
theorem dsOf_of (ds : List PyData) : dsOf (ds.map .d) = some ds := by
  induction ds with
  | nil => rfl
  | cons x r ih => simp [dsOf, ih]
theorem ex_tup {t : TA} (h : AxD K t sl M fun xs M1 => ∃ ds, dsOf xs = some ds ∧ ds.length ≤ 1000 ∧ Φ (.d (.tuple ds)) M1) : ExD K (tTup t) sl M Φ := fun φ ψ σ H Q m s p =>
  h φ ψ σ H _ m s fun vs xs φ1 H1 M1 s1 m1 r1 h1 => by
    obtain ⟨ds, e, l, f⟩ := h1
    rw [dsOf_map e] at r1
    have len : vs.length = ds.length := by rw [r1.length, List.length_map]
    exact ⟨by rw [len]; exact Nat.le_of_lt (small1000 l), fun q n => (p.stp s1).grown m1 (new_same n) (new_tup m1 n r1) f⟩
theorem ex_lst {t : TA} (h : AxD K t sl M fun xs M1 => ∃ ds, dsOf xs = some ds ∧ ds.length ≤ 1000 ∧ Φ (.d (.list ds)) M1) : ExD K (tLst t) sl M Φ := fun φ ψ σ H Q m s p =>
  h φ ψ σ H _ m s fun vs xs φ1 H1 M1 s1 m1 r1 h1 => by
    obtain ⟨ds, e, l, f⟩ := h1
    rw [dsOf_map e] at r1
    have len : vs.length = ds.length := by rw [r1.length, List.length_map]
    exact ⟨by rw [len]; exact Nat.le_of_lt (small1000 l), fun q n => (p.stp s1).grown m1 (new_same n) (new_lst m1 n r1) f⟩
/-- a new list of one's own -/
theorem ex_own {t : TA} (h : AxD K t sl M fun xs M1 => xs.length ≤ 1000 ∧ Φ (.r M1.length) (M1 ++ [.lst xs])) : ExD K (tLst t) sl M Φ := fun φ ψ σ H Q m s p =>
  h φ ψ σ H _ m s fun vs xs φ1 H1 M1 s1 m1 r1 h1 => by
    obtain ⟨l, f⟩ := h1
    refine ⟨by rw [r1.length]; exact Nat.le_of_lt (small1000 l), fun q n => ?_⟩
    have st : Stp φ1 H1 (φ1 ++ [q]) (upd H1 q (.lst vs)) := ⟨⟨[q], rfl⟩, fun b z => by
      rcases List.mem_append.mp z with y | y
      · exact .inl y
      · rw [List.mem_singleton.mp y]
        exact .inr n, fun b u _ e => new_same n _ _ e⟩
    obtain ⟨s2, m2⟩ := m1.push (c := .lst xs) (o := .lst vs) n ⟨vs, upd_same, RepVs.stp st r1⟩
    exact p _ (.r M1.length) _ _ _ (s1.trans s2) m2 ⟨q, by rw [← m1.len, List.getElem?_append_right (Nat.le_refl _), Nat.sub_self]; rfl, rfl⟩ f
theorem ex_g {u : V} {x : PyData} (e : ∀ H, Dp K H u x) (f : Φ (.d x) M) : ExD K (tC u) sl M Φ := fun φ ψ σ H Q m s p => p.here m (x := .d x) (e _) f
/-- a class as a value -/
def tyv (u : V) : Dv := .o fun v _ => v = u
theorem ex_ty {n : String} (f : Φ (tyv (.ty n)) M) : ExD K (tC (.ty n)) sl M Φ := fun φ ψ σ H Q m s p => p.here m (x := tyv (.ty n)) ⟨rfl, fun _ _ _ h => h⟩ f
/-! operators -/
theorem od_add {i j : Int} (f : Φ (.d (.int (i + j))) M) : OpD K (rI0 fun i j => .int (i + j)) (.d (.int i)) (.d (.int j)) M Φ := fun φ ψ H v u Q m r1 r2 p => by
  cases (show Dp K _ v (.int i) from r1)
  cases (show Dp K _ u (.int j) from r2)
  exact ⟨i, j, rfl, rfl, p.here m (x := .d (.int (i + j))) (.int _) f⟩
theorem od_sub {i j : Int} (f : Φ (.d (.int (i - j))) M) : OpD K (rI0 fun i j => .int (i - j)) (.d (.int i)) (.d (.int j)) M Φ := fun φ ψ H v u Q m r1 r2 p => by
  cases (show Dp K _ v (.int i) from r1)
  cases (show Dp K _ u (.int j) from r2)
  exact ⟨i, j, rfl, rfl, p.here m (x := .d (.int (i - j))) (.int _) f⟩
theorem od_mul {i j : Int} (c : CMul i j) (f : Φ (.d (.int (i * j))) M) : OpD K (rI CMul fun i j => .int (i * j)) (.d (.int i)) (.d (.int j)) M Φ := fun φ ψ H v u Q m r1 r2 p => by
  cases (show Dp K _ v (.int i) from r1)
  cases (show Dp K _ u (.int j) from r2)
  exact ⟨i, j, rfl, rfl, c, p.here m (x := .d (.int (i * j))) (.int _) f⟩
theorem od_fdiv {i j : Int} (c : CDiv i j) (f : Φ (.d (.int (i / j))) M) : OpD K (rI CDiv fun i j => .int (i / j)) (.d (.int i)) (.d (.int j)) M Φ := fun φ ψ H v u Q m r1 r2 p => by
  cases (show Dp K _ v (.int i) from r1)
  cases (show Dp K _ u (.int j) from r2)
  exact ⟨i, j, rfl, rfl, c, p.here m (x := .d (.int (i / j))) (.int _) f⟩
theorem od_mod {i j : Int} (c : 0 < j) (f : Φ (.d (.int (i % j))) M) : OpD K (rI (fun _ j => 0 < j) fun i j => .int (i % j)) (.d (.int i)) (.d (.int j)) M Φ := fun φ ψ H v u Q m r1 r2 p => by
  cases (show Dp K _ v (.int i) from r1)
  cases (show Dp K _ u (.int j) from r2)
  exact ⟨i, j, rfl, rfl, c, p.here m (x := .d (.int (i % j))) (.int _) f⟩
theorem od_lt {i j : Int} (f : Φ (.d (.bool (decide (i < j)))) M) : OpD K (rI0 fun i j => .bl (decide (i < j))) (.d (.int i)) (.d (.int j)) M Φ := fun φ ψ H v u Q m r1 r2 p => by
  cases (show Dp K _ v (.int i) from r1)
  cases (show Dp K _ u (.int j) from r2)
  exact ⟨i, j, rfl, rfl, p.here m (x := .d (.bool _)) (.bl _) f⟩
theorem od_le {i j : Int} (f : Φ (.d (.bool (decide (i ≤ j)))) M) : OpD K (rI0 fun i j => .bl (decide (i ≤ j))) (.d (.int i)) (.d (.int j)) M Φ := fun φ ψ H v u Q m r1 r2 p => by
  cases (show Dp K _ v (.int i) from r1)
  cases (show Dp K _ u (.int j) from r2)
  exact ⟨i, j, rfl, rfl, p.here m (x := .d (.bool _)) (.bl _) f⟩
theorem od_gt {i j : Int} (f : Φ (.d (.bool (decide (j < i)))) M) : OpD K (rI0 fun i j => .bl (decide (j < i))) (.d (.int i)) (.d (.int j)) M Φ := fun φ ψ H v u Q m r1 r2 p => by
  cases (show Dp K _ v (.int i) from r1)
  cases (show Dp K _ u (.int j) from r2)
  exact ⟨i, j, rfl, rfl, p.here m (x := .d (.bool _)) (.bl _) f⟩
theorem od_ge {i j : Int} (f : Φ (.d (.bool (decide (j ≤ i)))) M) : OpD K (rI0 fun i j => .bl (decide (j ≤ i))) (.d (.int i)) (.d (.int j)) M Φ := fun φ ψ H v u Q m r1 r2 p => by
  cases (show Dp K _ v (.int i) from r1)
  cases (show Dp K _ u (.int j) from r2)
  exact ⟨i, j, rfl, rfl, p.here m (x := .d (.bool _)) (.bl _) f⟩
theorem od_eqI {i j : Int} (f : Φ (.d (.bool (decide (i = j)))) M) : OpD K rEq (.d (.int i)) (.d (.int j)) M Φ := fun φ ψ H v u Q m r1 r2 p => by
  cases (show Dp K _ v (.int i) from r1)
  cases (show Dp K _ u (.int j) from r2)
  have e : decide (V.int i = V.int j) = decide (i = j) := decide_eq_decide.mpr ⟨fun h => by injection h, fun h => by rw [h]⟩
  exact ⟨rfl, by rw [e]; exact p.here m (x := .d (.bool _)) (.bl _) f⟩
theorem od_neI {i j : Int} (f : Φ (.d (.bool (!decide (i = j)))) M) : OpD K rNe (.d (.int i)) (.d (.int j)) M Φ := fun φ ψ H v u Q m r1 r2 p => by
  cases (show Dp K _ v (.int i) from r1)
  cases (show Dp K _ u (.int j) from r2)
  have e : decide (V.int i = V.int j) = decide (i = j) := decide_eq_decide.mpr ⟨fun h => by injection h, fun h => by rw [h]⟩
  exact ⟨rfl, by rw [e]; exact p.here m (x := .d (.bool _)) (.bl _) f⟩
theorem od_eqS {i j : Str} (f : Φ (.d (.bool (decide (i = j)))) M) : OpD K rEq (.d (.str i)) (.d (.str j)) M Φ := fun φ ψ H v u Q m r1 r2 p => by
  cases (show Dp K _ v (.str i) from r1)
  cases (show Dp K _ u (.str j) from r2)
  have e : decide (V.str i = V.str j) = decide (i = j) := decide_eq_decide.mpr ⟨fun h => by injection h, fun h => by rw [h]⟩
  exact ⟨rfl, by rw [e]; exact p.here m (x := .d (.bool _)) (.bl _) f⟩
theorem od_neS {i j : Str} (f : Φ (.d (.bool (!decide (i = j)))) M) : OpD K rNe (.d (.str i)) (.d (.str j)) M Φ := fun φ ψ H v u Q m r1 r2 p => by
  cases (show Dp K _ v (.str i) from r1)
  cases (show Dp K _ u (.str j) from r2)
  have e : decide (V.str i = V.str j) = decide (i = j) := decide_eq_decide.mpr ⟨fun h => by injection h, fun h => by rw [h]⟩
  exact ⟨rfl, by rw [e]; exact p.here m (x := .d (.bool _)) (.bl _) f⟩
theorem ud_neg {i : Int} (f : Φ (.d (.int (-i))) M) : UnD K (rU fun i => .int (-i)) (.d (.int i)) M Φ := fun φ ψ H v Q m r1 p => by
  cases (show Dp K _ v (.int i) from r1)
  exact ⟨i, rfl, p.here m (x := .d (.int (-i))) (.int _) f⟩
/-- == of data -/
theorem od_eqD {x y : PyData} (a : SeqAt.shaped x = true) (b : SeqAt.shaped y = true) (f : Φ (.d (.bool (PyData.eqv x y))) M) : OpD K (rEqD K) (.d x) (.d y) M Φ := fun φ ψ H v u Q m r1 r2 p =>
  ⟨x, y, dp_same (mask_same _ _) r1, dp_same (mask_same _ _) r2, a, b, p.here m (x := .d (.bool _)) (.bl _) f⟩
theorem od_neD {x y : PyData} (a : SeqAt.shaped x = true) (b : SeqAt.shaped y = true) (f : Φ (.d (.bool (!PyData.eqv x y))) M) : OpD K (rNeD K) (.d x) (.d y) M Φ := fun φ ψ H v u Q m r1 r2 p =>
  ⟨x, y, dp_same (mask_same _ _) r1, dp_same (mask_same _ _) r2, a, b, p.here m (x := .d (.bool _)) (.bl _) f⟩
/-- t[i], xs[i] -/
theorem od_ixT {ds : List PyData} {i : Int} {x : PyData} (e : atI ds i = some x) (f : Φ (.d x) M) : OpD K (rIxT K) (.d (.tuple ds)) (.d (.int i)) M Φ := fun φ ψ H v u Q m r1 r2 p => by
  obtain ⟨a, vs, rfl, sq, rs⟩ := tupD r1
  cases (show Dp K _ u (.int i) from r2)
  have e2 : atI (ds.map Dv.d) i = some (.d x) := by
    unfold atI at e ⊢
    rw [List.length_map]
    cases q : ixN ds.length i with
    | none => rw [q] at e; cases e
    | some j =>
      rw [q] at e
      show (ds.map Dv.d)[j]? = _
      rw [List.getElem?_map, show ds[j]? = some x from e]
      rfl
  obtain ⟨w, ew, rw_⟩ := repVs_ix rs e2
  exact ⟨a, vs, i, w, rfl, rfl, sq, ew, p.here m rw_ f⟩
theorem od_ixL {l : Dv} {xs : List Dv} {i : Int} {x : Dv} (ls : LsD M l xs) (e : atI xs i = some x) (f : Φ x M) : OpD K (rIxL K) l (.d (.int i)) M Φ := fun φ ψ H v u Q m r1 r2 p => by
  obtain ⟨a, vs, rfl, sq, rs⟩ := ls.sq m r1
  cases (show Dp K _ u (.int i) from r2)
  obtain ⟨w, ew, rw_⟩ := repVs_ix rs e
  exact ⟨a, vs, i, w, rfl, rfl, sq, ew, p.here m rw_ f⟩
theorem od_ixsT {ds : List PyData} {i : Int} {x : PyData} (e : atI ds i = some x) (f : Φ (.d x) M) : OpD K (rIx K) (.d (.tuple ds)) (.d (.int i)) M Φ := fun φ ψ H v u Q m r1 r2 p => .inr (.inl (od_ixT e f φ ψ H v u Q m r1 r2 p))
theorem od_ixsL {l : Dv} {xs : List Dv} {i : Int} {x : Dv} (ls : LsD M l xs) (e : atI xs i = some x) (f : Φ x M) : OpD K (rIx K) l (.d (.int i)) M Φ := fun φ ψ H v u Q m r1 r2 p => .inl (od_ixL ls e f φ ψ H v u Q m r1 r2 p)
/-- len -/
abbrev rLenA (K : PySem.W.Frag) : List V → Hp → VK → Prop := fun xs H Q => ∃ p ys, xs = [.ref p] ∧ (SqL K H p ys ∨ SqT K H p ys) ∧ Q (.int ys.length) H
theorem cd_lenT {ds : List PyData} (f : Φ (.d (.int ds.length)) M) : CaD K (rLenA K) [.d (.tuple ds)] M Φ := fun φ ψ H vs Q m r p => by
  cases r with | cons r t => ?_
  cases t
  obtain ⟨a, ws, rfl, sq, rs⟩ := tupD r
  have l : ws.length = ds.length := by rw [rs.length, List.length_map]
  exact ⟨a, ws, rfl, .inr sq, by rw [l]; exact p.here m (x := .d (.int ds.length)) (.int _) f⟩
theorem cd_lenL {l : Dv} {xs : List Dv} (ls : LsD M l xs) (f : Φ (.d (.int xs.length)) M) : CaD K (rLenA K) [l] M Φ := fun φ ψ H vs Q m r p => by
  cases r with | cons r t => ?_
  cases t
  obtain ⟨a, ws, rfl, sq, rs⟩ := ls.sq m r
  exact ⟨a, ws, rfl, .inl sq, by rw [rs.length]; exact p.here m (x := .d (.int xs.length)) (.int _) f⟩
/-- tuple(list), tuple(tuple), list(..) -/
abbrev rTupA (K : PySem.W.Frag) : List V → Hp → VK → Prop := fun xs H Q => ∃ p ys, xs = [.ref p] ∧ ((SqL K H p ys ∧ ∀ l, H l = none → Q (.ref l) (upd H l (.tup ys))) ∨ (SqT K H p ys ∧ Q (.ref p) H))
abbrev rLstA (K : PySem.W.Frag) : List V → Hp → VK → Prop := fun xs H Q => ∃ p ys, xs = [.ref p] ∧ (SqL K H p ys ∨ SqT K H p ys) ∧ ∀ l, H l = none → Q (.ref l) (upd H l (.lst ys))
theorem cd_tupL {l : Dv} {xs : List Dv} {ds : List PyData} (ls : LsD M l xs) (e : dsOf xs = some ds) (f : Φ (.d (.tuple ds)) M) : CaD K (rTupA K) [l] M Φ := fun φ ψ H vs Q m r p => by
  cases r with | cons r t => ?_
  cases t
  obtain ⟨a, ws, rfl, sq, rs⟩ := ls.sq m r
  rw [dsOf_map e] at rs
  exact ⟨a, ws, rfl, .inl ⟨sq, fun l n => p.grown m (new_same n) (new_tup m n rs) f⟩⟩
theorem cd_tupT {ds : List PyData} (f : Φ (.d (.tuple ds)) M) : CaD K (rTupA K) [.d (.tuple ds)] M Φ := fun φ ψ H vs Q m r p => by
  cases r with | cons r t => ?_
  cases t
  obtain ⟨a, ws, rfl, sq, rs⟩ := tupD r
  exact ⟨a, ws, rfl, .inr ⟨sq, p.here m r f⟩⟩
/-- list(x): a new list of one's own -/
theorem cd_lstO {x : Dv} {xs : List Dv} (h : (∃ ds, x = .d (.tuple ds) ∧ xs = ds.map .d) ∨ LsD M x xs) (f : Φ (.r M.length) (M ++ [.lst xs])) : CaD K (rLstA K) [x] M Φ := fun φ ψ H vs Q m r p => by
  cases r with | cons r t => ?_
  cases t
  obtain ⟨a, ws, rfl, sq, rs⟩ : ∃ a ws, _ = V.ref a ∧ (SqL K H a ws ∨ SqT K H a ws) ∧ RepVs K φ ψ H ws xs := by
    rcases h with ⟨ds, rfl, rfl⟩ | h
    · obtain ⟨a, ws, e, sq, rs⟩ := tupD r
      exact ⟨a, ws, e, .inr sq, rs⟩
    · obtain ⟨a, ws, e, sq, rs⟩ := h.sq m r
      exact ⟨a, ws, e, .inl sq, rs⟩
  refine ⟨a, ws, rfl, sq, fun q n => ?_⟩
  have st : Stp φ H (φ ++ [q]) (upd H q (.lst ws)) := ⟨⟨[q], rfl⟩, fun b z => by
    rcases List.mem_append.mp z with y | y
    · exact .inl y
    · rw [List.mem_singleton.mp y]
      exact .inr n, fun b u _ e => new_same n _ _ e⟩
  obtain ⟨s2, m2⟩ := m.push (c := .lst xs) (o := .lst ws) n ⟨ws, upd_same, RepVs.stp st rs⟩
  exact p _ (.r M.length) _ _ _ s2 m2 ⟨q, by rw [← m.len, List.getElem?_append_right (Nat.le_refl _), Nat.sub_self]; rfl, rfl⟩ f
theorem cd_lstD {x : Dv} {xs : List Dv} {es : List PyData} (h : (∃ ds, x = .d (.tuple ds) ∧ xs = ds.map .d) ∨ LsD M x xs) (e : dsOf xs = some es) (f : Φ (.d (.list es)) M) : CaD K (rLstA K) [x] M Φ := fun φ ψ H vs Q m r p => by
  cases r with | cons r t => ?_
  cases t
  obtain ⟨a, ws, rfl, sq, rs⟩ : ∃ a ws, _ = V.ref a ∧ (SqL K H a ws ∨ SqT K H a ws) ∧ RepVs K φ ψ H ws xs := by
    rcases h with ⟨ds, rfl, rfl⟩ | h
    · obtain ⟨a, ws, e, sq, rs⟩ := tupD r
      exact ⟨a, ws, e, .inr sq, rs⟩
    · obtain ⟨a, ws, e, sq, rs⟩ := h.sq m r
      exact ⟨a, ws, e, .inl sq, rs⟩
  rw [dsOf_map e] at rs
  exact ⟨a, ws, rfl, sq, fun q n => p.grown m (new_same n) (new_lst m n rs) f⟩
/-- all, any -/
theorem cd_all {bs : List Bool} (f : Φ (.d (.bool (bs.all id))) M) : CaD K (rAll K) [.d (.list (bs.map .bool))] M Φ := fun φ ψ H vs Q m r p => by
  cases r with | cons r t => ?_
  cases t
  obtain ⟨a, ws, rfl, sq, rs⟩ := (lsD (M := M)).sq m r
  have e : ws = bs.map V.bl := by
    clear r sq p f
    induction bs generalizing ws with
    | nil => cases rs; rfl
    | cons b bs ih =>
      cases rs with | cons h t => ?_
      cases (show Dp K _ _ (.bool b) from h)
      rw [ih _ t]
      rfl
  subst e
  exact ⟨a, bs, rfl, sq, p.here m (x := .d (.bool _)) (.bl _) f⟩
theorem cd_any {bs : List Bool} (f : Φ (.d (.bool (bs.any id))) M) : CaD K (rAny K) [.d (.list (bs.map .bool))] M Φ := fun φ ψ H vs Q m r p => by
  cases r with | cons r t => ?_
  cases t
  obtain ⟨a, ws, rfl, sq, rs⟩ := (lsD (M := M)).sq m r
  have e : ws = bs.map V.bl := by
    clear r sq p f
    induction bs generalizing ws with
    | nil => cases rs; rfl
    | cons b bs ih =>
      cases rs with | cons h t => ?_
      cases (show Dp K _ _ (.bool b) from h)
      rw [ih _ t]
      rfl
  subst e
  exact ⟨a, bs, rfl, sq, p.here m (x := .d (.bool _)) (.bl _) f⟩
/-- slices -/
def SlD (K : PySem.W.Frag) (r : V → Option Int → Option Int → Hp → VK → Prop) (x : Dv) (lo hi : Option Int) (M : Mm) (Φ : Dv → Mm → Prop) : Prop := ∀ (φ ψ : List Addr) (H : Hp) (v : V) (Q : VK), RepM K φ ψ H M → RepV K φ ψ H v x → Pk K φ ψ H Φ Q → r v lo hi H Q
def ToD (K : PySem.W.Frag) (to : TO) (sl : Sl) (M : Mm) (Φ : Option Int → Mm → Prop) : Prop := ∀ (φ ψ : List Addr) (σ : L2.St) (H : Hp) (Q : Option Int → Hp → Prop), RepM K φ ψ H M → RepS K φ ψ H σ sl → (∀ b φ' H' M', Stp φ H φ' H' → RepM K φ' ψ H' M' → Φ b M' → Q b H') → to σ H Q
theorem to_none {Φ : Option Int → Mm → Prop} (f : Φ none M) : ToD K tNoPart sl M Φ := fun φ ψ σ H Q m s p => p none φ H M (.refl _ _) m f
theorem to_some {Φ : Option Int → Mm → Prop} {te : TE} (h : ExD K te sl M fun x M1 => ∃ i, x = .d (.int i) ∧ Φ (some i) M1) : ToD K (tPart te) sl M Φ := fun φ ψ σ H Q m s p =>
  h φ ψ σ H _ m s fun v x φ1 H1 M1 s1 m1 r1 h1 => by
    obtain ⟨i, rfl, f⟩ := h1
    cases (show Dp K _ v (.int i) from r1)
    exact ⟨i, rfl, p _ φ1 H1 M1 s1 m1 f⟩
theorem ex_sl {r : V → Option Int → Option Int → Hp → VK → Prop} {te : TE} {tl th : TO} (h : ExD K te sl M fun x M1 => ToD K tl sl M1 fun lo M2 => ToD K th sl M2 fun hi M3 => SlD K r x lo hi M3 Φ) : ExD K (tSl r te tl th) sl M Φ := fun φ ψ σ H Q m s p =>
  h φ ψ σ H _ m s fun v x φ1 H1 M1 s1 m1 r1 h1 => h1 φ1 ψ σ H1 _ m1 (s.stp s1) fun lo φ2 H2 M2 s2 m2 h2 => h2 φ2 ψ σ H2 _ m2 ((s.stp s1).stp s2) fun hi φ3 H3 M3 s3 m3 h3 => h3 φ3 ψ H3 v Q m3 ((r1.stp s2).stp s3) (p.stp ((s1.trans s2).trans s3))
theorem sd_list {l : Dv} {xs : List Dv} {lo hi : Option Int} {ds : List PyData} (ls : LsD M l xs) (e : dsOf (cutD xs lo hi) = some ds) (f : Φ (.d (.list ds)) M) : SlD K (rSlL K) l lo hi M Φ := fun φ ψ H v Q m r p => by
  obtain ⟨a, ws, rfl, sq, rs⟩ := ls.sq m r
  have rc := repVs_cut lo hi rs
  rw [dsOf_map e] at rc
  exact ⟨a, ws, rfl, sq, fun q n => p.grown m (new_same n) (new_lst m n rc) f⟩
/-! statements -/
structure EndD where
  nx : Sl → Mm → Prop
  rt : Dv → Mm → Prop
  bk : Sl → Mm → Prop := fun _ _ => False
  ct : Sl → Mm → Prop := fun _ _ => False
structure FitD (K : PySem.W.Frag) (φ ψ : List Addr) (H : Hp) (E : EndD) (D : Ends) : Prop where
  nx : ∀ φ' H' σ sl M, Stp φ H φ' H' → RepM K φ' ψ H' M → RepS K φ' ψ H' σ sl → E.nx sl M → D.nx σ H'
  rt : ∀ φ' H' v x M, Stp φ H φ' H' → RepM K φ' ψ H' M → RepV K φ' ψ H' v x → E.rt x M → D.rt v H'
  bk : ∀ φ' H' σ sl M, Stp φ H φ' H' → RepM K φ' ψ H' M → RepS K φ' ψ H' σ sl → E.bk sl M → D.bk σ H'
  ct : ∀ φ' H' σ sl M, Stp φ H φ' H' → RepM K φ' ψ H' M → RepS K φ' ψ H' σ sl → E.ct sl M → D.ct σ H'
def StD (K : PySem.W.Frag) (ts : TS) (sl : Sl) (M : Mm) (E : EndD) : Prop := ∀ (φ ψ : List Addr) (σ : L2.St) (H : Hp) (D : Ends), RepM K φ ψ H M → RepS K φ ψ H σ sl → FitD K φ ψ H E D → ts D σ H
def GtD (K : PySem.W.Frag) (g : TG) (x : Dv) (sl : Sl) (M : Mm) (Ψ : Sl → Mm → Prop) : Prop := ∀ (φ ψ : List Addr) (σ : L2.St) (H : Hp) (v : V) (Q : L2.St → Hp → Prop), RepM K φ ψ H M → RepS K φ ψ H σ sl → RepV K φ ψ H v x →
  (∀ φ' H' σ' sl' M', Stp φ H φ' H' → RepM K φ' ψ H' M' → RepS K φ' ψ H' σ' sl' → Ψ sl' M' → Q σ' H') → g v σ H Q
def GsD (K : PySem.W.Frag) (g : TGs) (xs : List Dv) (sl : Sl) (M : Mm) (Ψ : Sl → Mm → Prop) : Prop := ∀ (φ ψ : List Addr) (σ : L2.St) (H : Hp) (vs : List V) (Q : L2.St → Hp → Prop), RepM K φ ψ H M → RepS K φ ψ H σ sl → RepVs K φ ψ H vs xs →
  (∀ φ' H' σ' sl' M', Stp φ H φ' H' → RepM K φ' ψ H' M' → RepS K φ' ψ H' σ' sl' → Ψ sl' M' → Q σ' H') → g vs σ H Q
end
section
variable {K : PySem.W.Frag} {φ φ' ψ : List Addr} {H H' : Hp} {sl : Sl} {M : Mm} {nx : Sl → Mm → Prop} {rt : Dv → Mm → Prop} {bk ct : Sl → Mm → Prop} {Ψ : Sl → Mm → Prop}
theorem FitD.stp {E : EndD} {D : Ends} (s : Stp φ H φ' H') (f : FitD K φ ψ H E D) : FitD K φ' ψ H' E D :=
  ⟨fun φ2 H2 σ sl M s2 => f.nx φ2 H2 σ sl M (s.trans s2), fun φ2 H2 v x M s2 => f.rt φ2 H2 v x M (s.trans s2), fun φ2 H2 σ sl M s2 => f.bk φ2 H2 σ sl M (s.trans s2), fun φ2 H2 σ sl M s2 => f.ct φ2 H2 σ sl M (s.trans s2)⟩
theorem RepS.set {σ : L2.St} {i : Nat} {v : V} {x : Dv} (h : RepS K φ ψ H σ sl) (r : RepV K φ ψ H v x) : RepS K φ ψ H (σ.set i (some v)) (sl.set i (some x)) := by
  refine ⟨by rw [List.length_set, List.length_set]; exact h.1, fun j y e => ?_⟩
  by_cases z : i = j
  · subst z
    have l : i < sl.length := by
      have := (List.getElem?_eq_some_iff.mp e).1
      rwa [List.length_set] at this
    rw [List.getElem?_set_self l] at e
    have := Option.some.inj (Option.some.inj e)
    subst this
    exact ⟨v, List.getElem?_set_self (by rw [h.1]; exact l), r⟩
  · rw [List.getElem?_set_ne z] at e ⊢
    exact h.2 j y e
theorem gd_name {i : Nat} {x : Dv} (f : Ψ (sl.set i (some x)) M) : GtD K (gName i) x sl M Ψ := fun φ ψ σ H v Q m s r p => p φ H _ _ M (.refl _ _) m (s.set r) f
theorem gs_nil (f : Ψ sl M) : GsD K gNil [] sl M Ψ := fun φ ψ σ H vs Q m s r p => by
  cases r
  exact ⟨rfl, p φ H σ sl M (.refl _ _) m s f⟩
theorem gs_cons {t : TG} {u : TGs} {x : Dv} {xs : List Dv} (h : GtD K t x sl M fun sl1 M1 => GsD K u xs sl1 M1 Ψ) : GsD K (gCons t u) (x :: xs) sl M Ψ := fun φ ψ σ H vs Q m s r p => by
  cases r with | cons r t => ?_
  exact ⟨_, _, rfl, h φ ψ σ H _ _ m s r fun φ1 H1 σ1 sl1 M1 s1 m1 r1 h1 => h1 φ1 ψ σ1 H1 _ Q m1 r1 (RepVs.stp s1 t) fun φ2 H2 σ2 sl2 M2 s2 => p φ2 H2 σ2 sl2 M2 (s1.trans s2)⟩
theorem gd_tup {n : Nat} {t : TGs} {ds : List PyData} (e : ds.length = n) (h : GsD K t (ds.map .d) sl M Ψ) : GtD K (gTup K n t) (.d (.tuple ds)) sl M Ψ := fun φ ψ σ H v Q m s r p => by
  obtain ⟨a, ws, rfl, sq, rs⟩ := tupD r
  exact ⟨a, ws, rfl, sq, by rw [rs.length, List.length_map]; exact e, h φ ψ σ H ws Q m s rs p⟩
theorem st_next (f : nx sl M) : StD K tNext sl M ⟨nx, rt, bk, ct⟩ := fun φ ψ σ H D m s F => F.nx φ H σ sl M (.refl _ _) m s f
theorem st_seq {t u : TS} (h : StD K t sl M ⟨fun sl' M' => StD K u sl' M' ⟨nx, rt, bk, ct⟩, rt, bk, ct⟩) : StD K (tSeq t u) sl M ⟨nx, rt, bk, ct⟩ := fun φ ψ σ H D m s F =>
  h φ ψ σ H _ m s ⟨fun φ1 H1 σ1 sl1 M1 s1 m1 r1 h1 => h1 φ1 ψ σ1 H1 D m1 r1 (F.stp s1), F.rt, F.bk, F.ct⟩
/-- ways are joined: what holds behind the first part -/
theorem st_cut {t u : TS} (W : Sl → Mm → Prop) (h : StD K t sl M ⟨W, rt, bk, ct⟩) (q : ∀ sl' M', W sl' M' → StD K u sl' M' ⟨nx, rt, bk, ct⟩) : StD K (C8.tCut t u) sl M ⟨nx, rt, bk, ct⟩ := fun φ ψ σ H D m s F =>
  ⟨fun σ' H' => ∃ φ' sl' M', Stp φ H φ' H' ∧ RepM K φ' ψ H' M' ∧ RepS K φ' ψ H' σ' sl' ∧ W sl' M', h φ ψ σ H _ m s ⟨fun φ1 H1 σ1 sl1 M1 s1 m1 r1 h1 => ⟨φ1, sl1, M1, s1, m1, r1, h1⟩, F.rt, F.bk, F.ct⟩,
    fun σ' H' ⟨φ', sl', M', s1, m1, r1, w⟩ => q sl' M' w φ' ψ σ' H' D m1 r1 (F.stp s1)⟩
theorem st_drop {te : TE} (h : ExD K te sl M fun _ M1 => nx sl M1) : StD K (tDrop te) sl M ⟨nx, rt, bk, ct⟩ := fun φ ψ σ H D m s F => h φ ψ σ H _ m s fun v x φ1 H1 M1 s1 m1 r1 h1 => F.nx φ1 H1 σ sl M1 s1 m1 (s.stp s1) h1
theorem st_ret {te : TE} (h : ExD K te sl M rt) : StD K (tRet te) sl M ⟨nx, rt, bk, ct⟩ := fun φ ψ σ H D m s F => h φ ψ σ H _ m s fun v x φ1 H1 M1 s1 m1 r1 h1 => F.rt φ1 H1 v x M1 s1 m1 r1 h1
theorem st_retN (f : rt (.d .none) M) : StD K tRetN sl M ⟨nx, rt, bk, ct⟩ := fun φ ψ σ H D m s F => F.rt φ H .non (.d .none) M (.refl _ _) m .non f
theorem st_if {c : TT} {t u : TS} (h : TtD K c sl M fun b M1 => if b = true then StD K t sl M1 ⟨nx, rt, bk, ct⟩ else StD K u sl M1 ⟨nx, rt, bk, ct⟩) : StD K (tIfS c t u) sl M ⟨nx, rt, bk, ct⟩ := fun φ ψ σ H D m s F =>
  h φ ψ σ H _ m s fun b φ1 H1 M1 s1 m1 h1 => by
    cases b with
    | true => exact h1 φ1 ψ σ H1 D m1 (s.stp s1) (F.stp s1)
    | false => exact h1 φ1 ψ σ H1 D m1 (s.stp s1) (F.stp s1)
theorem st_asg {te : TE} {g : TG} (h : ExD K te sl M fun x M1 => GtD K g x sl M1 nx) : StD K (tAsg te g) sl M ⟨nx, rt, bk, ct⟩ := fun φ ψ σ H D m s F =>
  h φ ψ σ H _ m s fun v x φ1 H1 M1 s1 m1 r1 h1 => h1 φ1 ψ σ H1 v _ m1 (s.stp s1) r1 fun φ2 H2 σ2 sl2 M2 s2 m2 r2 f => F.nx φ2 H2 σ2 sl2 M2 (s1.trans s2) m2 r2 f
theorem st_par {i j : Nat} {ta : TA} (h : AxD K ta sl M fun xs M1 => ∃ x y, xs = [x, y] ∧ nx ((sl.set i (some x)).set j (some y)) M1) : StD K (tPar i j ta) sl M ⟨nx, rt, bk, ct⟩ := fun φ ψ σ H D m s F =>
  h φ ψ σ H _ m s fun vs xs φ1 H1 M1 s1 m1 r1 h1 => by
    obtain ⟨x, y, rfl, f⟩ := h1
    cases r1 with | cons ra t => ?_
    cases t with | cons rb t => ?_
    cases t
    exact ⟨_, _, rfl, F.nx φ1 H1 _ _ M1 s1 m1 (((s.stp s1).set ra).set rb) f⟩
theorem st_augI {i : Nat} {te : TE} {f : Int → Int → Int} {a : Int} (e : sl[i]? = some (some (.d (.int a)))) (h : ExD K te sl M fun y M1 => ∃ b, y = .d (.int b) ∧ nx (sl.set i (some (.d (.int (f a b))))) M1) : StD K (tAug i te (ipI f)) sl M ⟨nx, rt, bk, ct⟩ := fun φ ψ σ H D m s F => by
  obtain ⟨v, ev, r⟩ := s.2 i _ e
  cases (show Dp K _ v (.int a) from r)
  refine ⟨.int a, ev, h φ ψ σ H _ m s fun u y φ1 H1 M1 s1 m1 r1 h1 => ?_⟩
  obtain ⟨b, rfl, g⟩ := h1
  cases (show Dp K _ u (.int b) from r1)
  exact ⟨a, b, rfl, rfl, F.nx φ1 H1 _ _ M1 s1 m1 ((s.stp s1).set (x := .d (.int (f a b))) (.int _)) g⟩
theorem st_break (f : bk sl M) : StD K tBreak sl M ⟨nx, rt, bk, ct⟩ := fun φ ψ σ H D m s F => F.bk φ H σ sl M (.refl _ _) m s f
theorem st_cont (f : ct sl M) : StD K tCont sl M ⟨nx, rt, bk, ct⟩ := fun φ ψ σ H D m s F => F.ct φ H σ sl M (.refl _ _) m s f
end
end Zs
namespace Zs
open PySem PySem.Spec PyProof.Rows L2
theorem small6 {n : Nat} (h : n ≤ 1000000) : n < sizeLine := Nat.lt_of_le_of_lt h (by decide)
/-! ### what is walked: the items, told from the start; G: what must stay so of one's own objects -/
def WkD (K : PySem.W.Frag) (φ1 ψ1 : List Addr) (H1 : Hp) (J : It) (xs : List Dv) (G : Mm → Prop) : Prop := ∀ φ ψ H M, Ltr φ1 ψ1 H1 φ ψ H → RepM K φ ψ H M → G M →
  (∀ i, i < xs.length → J.go i H) ∧ J.stop xs.length H ∧ ∀ i x v H', xs[i]? = some x → J.yld i H v H' → Same H H' ∧ RepV K φ ψ H' v x
def ItD (K : PySem.W.Frag) (wi : TI) (sl : Sl) (M : Mm) (Ψ : List Dv → (Mm → Prop) → Mm → Prop) : Prop := ∀ (φ ψ : List Addr) (σ : L2.St) (H : Hp) (R : It → Hp → Prop), RepM K φ ψ H M → RepS K φ ψ H σ sl →
  (∀ J xs G φ' H' M', Stp φ H φ' H' → RepM K φ' ψ H' M' → WkD K φ' ψ H' J xs G → Ψ xs G M' → R J H') → wi σ H R
section
variable {K : PySem.W.Frag} {sl : Sl} {M : Mm} {Ψ : List Dv → (Mm → Prop) → Mm → Prop}
theorem it_tup {tl : TE} (h : ExD K tl sl M fun x M1 => ∃ ds, x = .d (.tuple ds) ∧ Ψ (ds.map .d) (fun _ => True) M1) : ItD K (iTup K tl) sl M Ψ := fun φ ψ σ H R m s p =>
  h φ ψ σ H _ m s fun v x φ1 H1 M1 s1 m1 r1 h1 => by
    obtain ⟨ds, rfl, f⟩ := h1
    obtain ⟨a, vs, rfl, sq, rs⟩ := tupD r1
    refine ⟨a, rfl, ⟨vs, sq⟩, p _ _ _ φ1 H1 M1 s1 m1 (fun φ ψ H M l m _ => ?_) f⟩
    obtain ⟨a', vs', e, sq', rs'⟩ := tupD (RepV.ltr l r1)
    injection e with e
    subst e
    have len := rs'.length
    rw [List.length_map] at len
    have wk := walk_tup (K := K) (a := a) (xs := vs')
    refine ⟨fun i hi => wk.goes i H (by rw [List.length_map] at hi; omega) sq', by rw [List.length_map, ← len]; exact wk.stops H sq', fun i x v H' ex y => ?_⟩
    have hi : i < vs'.length := by
      have := (List.getElem?_eq_some_iff.mp ex).1
      rw [List.length_map] at this
      omega
    obtain ⟨rfl, ev⟩ := wk.yields i H v H' hi sq' y
    obtain ⟨x', ex', r⟩ := repVs_tA rs' ev
    have := Option.some.inj (ex'.symm.trans ex)
    subst this
    exact ⟨.refl _, r⟩
theorem it_list {tl : TE} (h : ExD K tl sl M fun x M1 => ∃ xs, LsD M1 x xs ∧ Ψ xs (fun M => LsD M x xs) M1) : ItD K (iList K tl) sl M Ψ := fun φ ψ σ H R m s p =>
  h φ ψ σ H _ m s fun v x φ1 H1 M1 s1 m1 r1 h1 => by
    obtain ⟨xs, ls, f⟩ := h1
    obtain ⟨a, vs, rfl, sq, rs⟩ := ls.sq m1 r1
    refine ⟨a, rfl, ⟨vs, sq⟩, p _ _ _ φ1 H1 M1 s1 m1 (fun φ ψ H M l m g => ?_) f⟩
    obtain ⟨a', vs', e, sq', rs'⟩ := LsD.sq g m (RepV.ltr l r1)
    injection e with e
    subst e
    have len := rs'.length
    have wk := walk_list (K := K) (a := a) (xs := vs')
    refine ⟨fun i hi => wk.goes i H (by omega) sq', by rw [← len]; exact wk.stops H sq', fun i x v H' ex y => ?_⟩
    have hi : i < vs'.length := by
      have := (List.getElem?_eq_some_iff.mp ex).1
      omega
    obtain ⟨rfl, ev⟩ := wk.yields i H v H' hi sq' y
    obtain ⟨x', ex', r⟩ := repVs_tA rs' ev
    have := Option.some.inj (ex'.symm.trans ex)
    subst this
    exact ⟨.refl _, r⟩
def rngD (lo : Int) (n : Nat) : List Dv := (List.range n).map fun i : Nat => .d (.int (lo + (i : Nat)))
theorem wk_range {φ ψ : List Addr} {H : Hp} {lo : Int} {n : Nat} : WkD K φ ψ H (Itr lo n) (rngD lo n) fun _ => True := fun φ ψ H M l m _ => by
  have len : (rngD lo n).length = n := by unfold rngD; rw [List.length_map, List.length_range]
  refine ⟨fun i hi => by rw [len] at hi; exact hi, by rw [len]; exact Nat.le_refl _, fun i x v H' ex y => ?_⟩
  obtain ⟨rfl, rfl⟩ := y
  refine ⟨.refl _, ?_⟩
  have hi := (List.getElem?_eq_some_iff.mp ex).1
  rw [len] at hi
  unfold rngD at ex
  rw [List.getElem?_map, List.getElem?_range hi] at ex
  have := Option.some.inj ex
  subst this
  exact Dp.int _
theorem it_rng1 {ta : TA} (h : AxD K ta sl M fun xs M1 => ∃ j : Int, xs = [.d (.int j)] ∧ -(2 ^ 62) ≤ j ∧ j < 2 ^ 62 ∧ Ψ (rngD 0 j.toNat) (fun _ => True) M1) : ItD K (iRng1 ta) sl M Ψ := fun φ ψ σ H R m s p =>
  h φ ψ σ H _ m s fun vs xs φ1 H1 M1 s1 m1 r1 h1 => by
    obtain ⟨j, rfl, b1, b2, f⟩ := h1
    cases r1 with | cons r t => ?_
    cases t
    cases (show Dp K _ _ (.int j) from r)
    exact ⟨j, rfl, b1, b2, p _ _ _ φ1 H1 M1 s1 m1 wk_range f⟩
theorem it_rng2 {ta : TA} (h : AxD K ta sl M fun xs M1 => ∃ i j : Int, xs = [.d (.int i), .d (.int j)] ∧ (-(2 ^ 62) ≤ i ∧ i < 2 ^ 62 ∧ -(2 ^ 62) ≤ j ∧ j < 2 ^ 62) ∧ Ψ (rngD i (j - i).toNat) (fun _ => True) M1) : ItD K (iRng2 ta) sl M Ψ := fun φ ψ σ H R m s p =>
  h φ ψ σ H _ m s fun vs xs φ1 H1 M1 s1 m1 r1 h1 => by
    obtain ⟨i, j, rfl, b, f⟩ := h1
    cases r1 with | cons r t => ?_
    cases t with | cons r2 t => ?_
    cases t
    cases (show Dp K _ _ (.int i) from r)
    cases (show Dp K _ _ (.int j) from r2)
    exact ⟨i, j, rfl, b, p _ _ _ φ1 H1 M1 s1 m1 wk_range f⟩
/-- pairs, each a new tuple -/
def pairD (xs ys : List PyData) : List Dv := List.zipWith (fun x y => Dv.d (.tuple [x, y])) xs ys
theorem pairD_at {xs ys : List PyData} {i : Nat} {x : Dv} (h : (pairD xs ys)[i]? = some x) : ∃ a b, xs[i]? = some a ∧ ys[i]? = some b ∧ x = .d (.tuple [a, b]) := by
  unfold pairD at h
  rw [List.getElem?_zipWith] at h
  cases ea : xs[i]? with
  | none => rw [ea] at h; cases h
  | some a =>
    cases eb : ys[i]? with
    | none => rw [ea, eb] at h; cases h
    | some b =>
      rw [ea, eb] at h
      exact ⟨a, b, rfl, rfl, (Option.some.inj h).symm⟩
theorem ypair {φ ψ : List Addr} {H H' : Hp} (m : RepM K φ ψ H M) {i : Nat} {v : V} {ws us : Nat → Option V} {a b : PyData} (y : YPair ws us i H v H') (ha : ∀ w, ws i = some w → RepV K φ ψ H w (.d a)) (hb : ∀ w, us i = some w → RepV K φ ψ H w (.d b)) : Same H H' ∧ RepV K φ ψ H' v (.d (.tuple [a, b])) := by
  obtain ⟨T, x, y, rfl, n, rfl, e1, e2⟩ := y
  exact ⟨new_same n, new_tup m n (ds := [a, b]) (.cons (ha x e1) (.cons (hb y e2) .nil))⟩
theorem repVs_tD {φ ψ : List Addr} {H : Hp} {vs : List V} {ds : List PyData} {i : Nat} {w : V} {a : PyData} (h : RepVs K φ ψ H vs (ds.map .d)) (e : vs[i]? = some w) (ea : ds[i]? = some a) : RepV K φ ψ H w (.d a) := by
  obtain ⟨x, ex, r⟩ := repVs_tA h e
  rw [List.getElem?_map, ea] at ex
  have := Option.some.inj ex
  subst this
  exact r
/-- zip of two data, both lists or both tuples -/
theorem it_zipA {ta : TA} (h : AxD K ta sl M fun xs M1 => ∃ ds es, (xs = [.d (.list ds), .d (.list es)] ∨ xs = [.d (.tuple ds), .d (.tuple es)]) ∧ Ψ (pairD ds es) (fun _ => True) M1) : ItD K (RZ.iZipA K ta) sl M Ψ := fun φ ψ σ H R m s p =>
  h φ ψ σ H _ m s fun vs xs φ1 H1 M1 s1 m1 r1 h1 => by
    obtain ⟨ds, es, hx, f⟩ := h1
    have plen : (pairD ds es).length = min ds.length es.length := by unfold pairD; rw [List.length_zipWith]
    rcases hx with rfl | rfl
    · cases r1 with | cons ra t => ?_
      cases t with | cons rb t => ?_
      cases t
      obtain ⟨a, ws, rfl, sqa, rsa⟩ := (lsD (M := M1)).sq m1 ra
      obtain ⟨b, us, rfl, sqb, rsb⟩ := (lsD (M := M1)).sq m1 rb
      refine ⟨a, b, ws, us, rfl, .inl ⟨sqa, sqb, p _ _ _ φ1 H1 M1 s1 m1 (fun φ ψ H M l m _ => ?_) f⟩⟩
      obtain ⟨a', ws', e, sqa', rsa'⟩ := (lsD (M := M)).sq m (RepV.ltr l ra)
      injection e with e
      subst e
      obtain ⟨b', us', e, sqb', rsb'⟩ := (lsD (M := M)).sq m (RepV.ltr l rb)
      injection e with e
      subst e
      have la := rsa'.length
      have lb := rsb'.length
      rw [List.length_map] at la lb
      have wk := walk_zip (K := K) (a := a) (b := b) (xs := ws') (ys := us') (n := (pairD ds es).length) (by rw [plen, la, lb])
      refine ⟨fun i hi => wk.goes i H hi ⟨sqa', sqb'⟩, wk.stops H ⟨sqa', sqb'⟩, fun i x v H' ex y => ?_⟩
      obtain ⟨da, db, ea, eb, rfl⟩ := pairD_at ex
      exact ypair m (wk.yields i H v H' (List.getElem?_eq_some_iff.mp ex).1 ⟨sqa', sqb'⟩ y) (fun w z => repVs_tD rsa' z ea) (fun w z => repVs_tD rsb' z eb)
    · cases r1 with | cons ra t => ?_
      cases t with | cons rb t => ?_
      cases t
      obtain ⟨a, ws, rfl, sqa, rsa⟩ := tupD ra
      obtain ⟨b, us, rfl, sqb, rsb⟩ := tupD rb
      refine ⟨a, b, ws, us, rfl, .inr ⟨sqa, sqb, p _ _ _ φ1 H1 M1 s1 m1 (fun φ ψ H M l m _ => ?_) f⟩⟩
      obtain ⟨a', ws', e, sqa', rsa'⟩ := tupD (RepV.ltr l ra)
      injection e with e
      subst e
      obtain ⟨b', us', e, sqb', rsb'⟩ := tupD (RepV.ltr l rb)
      injection e with e
      subst e
      have la := rsa'.length
      have lb := rsb'.length
      rw [List.length_map] at la lb
      refine ⟨fun i hi => ?_, ?_, fun i x v H' ex y => ?_⟩
      · have h1 : i < ws'.length := by omega
        have h2 : i < us'.length := by omega
        exact ⟨ws', us', ws'[i], us'[i], sqa', sqb', List.getElem?_eq_getElem h1, List.getElem?_eq_getElem h2⟩
      · exact ⟨ws', us', sqa', sqb', by omega⟩
      · obtain ⟨da, db, ea, eb, rfl⟩ := pairD_at ex
        obtain ⟨T, w1, w2, rfl, n, rfl, e1, e2⟩ := y
        exact ypair (ws := fun i => ws'[i]?) (us := fun i => us'[i]?) m (i := i) (v := .ref T) ⟨T, w1, w2, rfl, n, rfl, e1 _ sqa', e2 _ sqb'⟩ (fun w z => repVs_tD rsa' z ea) (fun w z => repVs_tD rsb' z eb)
end
/-! ### for -/
section
variable {K : PySem.W.Frag} {sl : Sl} {M : Mm} {nx : Sl → Mm → Prop} {rt : Dv → Mm → Prop} {bk ct : Sl → Mm → Prop}
theorem st_for {wi : TI} {g : TG} {tb : TS} (h : ItD K wi sl M fun xs G M1 => ∃ I : Nat → Sl → Mm → Prop, I 0 sl M1 ∧ (∀ i sl' M', I i sl' M' → G M') ∧
    (∀ i x sl' M', xs[i]? = some x → I i sl' M' → GtD K g x sl' M' fun sl2 M2 => StD K tb sl2 M2 ⟨I (i + 1), rt, nx, I (i + 1)⟩) ∧ ∀ sl' M', I xs.length sl' M' → nx sl' M') : StD K (tFor wi g tb) sl M ⟨nx, rt, bk, ct⟩ := fun φ ψ σ H D m s F =>
  h φ ψ σ H _ m s fun J xs G φ1 H1 M1 s1 m1 wk h1 => by
    obtain ⟨I, i0, ig, turn, done⟩ := h1
    refine ⟨fun i n σ' H' => i + n = xs.length ∧ ∃ φ' sl' M', Stp φ1 H1 φ' H' ∧ RepM K φ' ψ H' M' ∧ RepS K φ' ψ H' σ' sl' ∧ I i sl' M', ⟨xs.length, Nat.zero_add _, φ1, sl, M1, .refl _ _, m1, s.stp s1, i0⟩, ?_⟩
    rintro i n σ' H' ⟨sum, φ', sl', M', st, m', s', inv⟩
    obtain ⟨go, stop, yld⟩ := wk φ' ψ H' M' st.ltr m' (ig i sl' M' inv)
    cases n with
    | zero =>
      have e : i = xs.length := sum
      subst e
      exact .inl ⟨stop, F.nx φ' H' σ' sl' M' (s1.trans st) m' s' (done sl' M' inv)⟩
    | succ n =>
      have hi : i < xs.length := by omega
      refine .inr ⟨go i hi, fun σ2 H2 => ∃ φ2 sl2 M2, Stp φ1 H1 φ2 H2 ∧ RepM K φ2 ψ H2 M2 ∧ RepS K φ2 ψ H2 σ2 sl2 ∧ I (i + 1) sl2 M2, fun σ2 H2 z => ⟨n, Nat.lt_succ_self n, by omega, z⟩, fun v H2 y => ?_⟩
      obtain ⟨sm, rv⟩ := yld i xs[i] v H2 (List.getElem?_eq_getElem hi) y
      have st2 : Stp φ' H' φ' H2 := .of sm
      refine turn i xs[i] sl' M' (List.getElem?_eq_getElem hi) inv φ' ψ σ' H2 v _ (m'.same sm) (s'.stp st2) rv fun φ3 H3 σ3 sl3 M3 st3 m3 s3 b3 => b3 φ3 ψ σ3 H3 _ m3 s3 ?_
      have sall : Stp φ1 H1 φ3 H3 := (st.trans st2).trans st3
      exact ⟨fun φ4 H4 σ4 sl4 M4 st4 m4 s4 i4 => ⟨φ4, sl4, M4, sall.trans st4, m4, s4, i4⟩, fun φ4 H4 v4 x4 M4 st4 m4 r4 f4 => F.rt φ4 H4 v4 x4 M4 ((s1.trans sall).trans st4) m4 r4 f4,
        fun φ4 H4 σ4 sl4 M4 st4 m4 s4 f4 => F.nx φ4 H4 σ4 sl4 M4 ((s1.trans sall).trans st4) m4 s4 f4, fun φ4 H4 σ4 sl4 M4 st4 m4 s4 i4 => ⟨φ4, sl4, M4, sall.trans st4, m4, s4, i4⟩⟩
/-- while: by an invariant and a measure -/
theorem st_while {c : TT} {tb : TS} (I : Sl → Mm → Prop) (μ : Sl → Mm → Nat) (i0 : I sl M) (turn : ∀ sl' M', I sl' M' → TtD K c sl' M' fun b M2 => if b = true then StD K tb sl' M2 ⟨fun sl2 M3 => I sl2 M3 ∧ μ sl2 M3 < μ sl' M', rt, nx, fun sl2 M3 => I sl2 M3 ∧ μ sl2 M3 < μ sl' M'⟩ else nx sl' M2) :
    StD K (tWhile c tb) sl M ⟨nx, rt, bk, ct⟩ := fun φ ψ σ H D m s F => by
  refine ⟨fun n σ' H' => ∃ φ' sl' M', Stp φ H φ' H' ∧ RepM K φ' ψ H' M' ∧ RepS K φ' ψ H' σ' sl' ∧ I sl' M' ∧ n = μ sl' M', ⟨_, φ, sl, M, .refl _ _, m, s, i0, rfl⟩, ?_⟩
  rintro n σ' H' ⟨φ', sl', M', st, m', s', inv, rfl⟩
  refine turn sl' M' inv φ' ψ σ' H' _ m' s' fun b φ2 H2 M2 st2 m2 h2 => ?_
  cases b with
  | false => exact F.nx φ2 H2 σ' sl' M2 (st.trans st2) m2 (s'.stp st2) h2
  | true =>
    refine ⟨fun σ3 H3 => ∃ φ3 sl3 M3, Stp φ H φ3 H3 ∧ RepM K φ3 ψ H3 M3 ∧ RepS K φ3 ψ H3 σ3 sl3 ∧ I sl3 M3 ∧ μ sl3 M3 < μ sl' M', fun σ3 H3 ⟨φ3, sl3, M3, a, b, c, d, e⟩ => ⟨_, e, φ3, sl3, M3, a, b, c, d, rfl⟩, ?_⟩
    have sall := st.trans st2
    exact h2 φ2 ψ σ' H2 _ m2 (s'.stp st2) ⟨fun φ4 H4 σ4 sl4 M4 st4 m4 s4 i4 => ⟨φ4, sl4, M4, sall.trans st4, m4, s4, i4.1, i4.2⟩, fun φ4 H4 v4 x4 M4 st4 m4 r4 f4 => F.rt φ4 H4 v4 x4 M4 (sall.trans st4) m4 r4 f4,
      fun φ4 H4 σ4 sl4 M4 st4 m4 s4 f4 => F.nx φ4 H4 σ4 sl4 M4 (sall.trans st4) m4 s4 f4, fun φ4 H4 σ4 sl4 M4 st4 m4 s4 i4 => ⟨φ4, sl4, M4, sall.trans st4, m4, s4, i4.1, i4.2⟩⟩
end
/-! ### comprehensions -/
/-- a target that stores into the slots vs alone -/
def GtW (g : TG) (vs : List Nat) : Prop := ∀ v σ H Q, g v σ H Q → g v σ H fun σ2 H2 => wipe σ2 vs = wipe σ vs ∧ Q σ2 H2
def GsW (g : TGs) (vs : List Nat) : Prop := ∀ us σ H Q, g us σ H Q → g us σ H fun σ2 H2 => wipe σ2 vs = wipe σ vs ∧ Q σ2 H2
theorem set_swap {α : Type} (xs : List α) (i j : Nat) (a b : α) (h : i ≠ j) : (xs.set i a).set j b = (xs.set j b).set i a := List.set_comm a b h
theorem wipe_setZ {i : Nat} {x : Option V} : ∀ {vs : List Nat} {σ : L2.St}, i ∈ vs → wipe (σ.set i x) vs = wipe σ vs
  | v :: vs, σ, m => by
    show (wipe (σ.set i x) vs).set v none = (wipe σ vs).set v none
    by_cases e : i ∈ vs
    · rw [wipe_setZ e]
    · have z : i = v := by
        rcases List.mem_cons.mp m with z | z
        · exact z
        · exact absurd z e
      subst z
      have out : ∀ (us : List Nat), i ∉ us → wipe (σ.set i x) us = (wipe σ us).set i x := by
        intro us
        induction us with
        | nil => intro _; rfl
        | cons u us ih =>
          intro n
          have n1 : i ≠ u := fun z => n (by rw [z]; exact List.mem_cons_self ..)
          have n2 : i ∉ us := fun z => n (List.mem_cons_of_mem _ z)
          show (wipe (σ.set i x) us).set u none = ((wipe σ us).set u none).set i x
          rw [ih n2, set_swap _ i u _ _ n1]
      rw [out vs e, List.set_set]
theorem gw_name {i : Nat} {vs : List Nat} (h : i ∈ vs) : GtW (gName i) vs := fun v σ H Q q => ⟨wipe_setZ h, q⟩
theorem gw_nil {vs : List Nat} : GsW gNil vs := fun us σ H Q q => ⟨q.1, rfl, q.2⟩
def Mono1 (g : TG) : Prop := ∀ v σ H Q Q', (∀ σ' H', Q σ' H' → Q' σ' H') → g v σ H Q → g v σ H Q'
def Mono2 (g : TGs) : Prop := ∀ v σ H Q Q', (∀ σ' H', Q σ' H' → Q' σ' H') → g v σ H Q → g v σ H Q'
theorem gm_name {i : Nat} : Mono1 (gName i) := fun v σ H Q Q' f q => f _ _ q
theorem gm_nil : Mono2 gNil := fun us σ H Q Q' f q => ⟨q.1, f _ _ q.2⟩
theorem gm_cons {t : TG} {u : TGs} (a : Mono1 t) (b : Mono2 u) : Mono2 (gCons t u) := fun us σ H Q Q' f ⟨v, r, e, q⟩ => ⟨v, r, e, a v σ H _ _ (fun σ' H' z => b r σ' H' _ _ f z) q⟩
theorem gm_tup {K : PySem.W.Frag} {n : Nat} {t : TGs} (a : Mono2 t) : Mono1 (gTup K n t) := fun v σ H Q Q' f ⟨p, xs, e, sq, l, q⟩ => ⟨p, xs, e, sq, l, a xs σ H _ _ f q⟩
theorem gw_cons {t : TG} {u : TGs} {vs : List Nat} (mt : Mono1 t) (mu : Mono2 u) (a : GtW t vs) (b : GsW u vs) : GsW (gCons t u) vs := fun us σ H Q ⟨v, r, e, q⟩ =>
  ⟨v, r, e, mt v σ H _ _ (fun σ1 H1 z => mu r σ1 H1 _ _ (fun σ2 H2 y => ⟨y.1.trans z.1, y.2⟩) (b r σ1 H1 _ z.2)) (a v σ H _ q)⟩
theorem gw_tup {K : PySem.W.Frag} {n : Nat} {t : TGs} {vs : List Nat} (a : GsW t vs) : GtW (gTup K n t) vs := fun v σ H Q ⟨p, xs, e, sq, l, q⟩ => ⟨p, xs, e, sq, l, a xs σ H _ q⟩
def wipeD (sl : Sl) : List Nat → Sl
  | [] => sl
  | v :: vs => (wipeD sl vs).set v none
section
variable {K : PySem.W.Frag} {sl : Sl} {M : Mm} {Φ : Dv → Mm → Prop} {φ ψ : List Addr} {H : Hp}
theorem RepS.none {σ : L2.St} {i : Nat} (h : RepS K φ ψ H σ sl) : RepS K φ ψ H (σ.set i Option.none) (sl.set i Option.none) := by
  refine ⟨by rw [List.length_set, List.length_set]; exact h.1, fun j y e => ?_⟩
  by_cases z : i = j
  · subst z
    have l : i < sl.length := by
      have := (List.getElem?_eq_some_iff.mp e).1
      rwa [List.length_set] at this
    rw [List.getElem?_set_self l] at e
    cases e
  · rw [List.getElem?_set_ne z] at e ⊢
    exact h.2 j y e
theorem RepS.wipe {σ : L2.St} (h : RepS K φ ψ H σ sl) : ∀ vs : List Nat, RepS K φ ψ H (L2.wipe σ vs) (wipeD sl vs)
  | [] => h
  | v :: vs => (RepS.wipe h vs).none
theorem wipe_outZ {i : Nat} {x : Option V} : ∀ (us : List Nat) (σ : L2.St), i ∉ us → L2.wipe (σ.set i x) us = (L2.wipe σ us).set i x
  | [], _, _ => rfl
  | u :: us, σ, n => by
    have n1 : i ≠ u := fun z => n (by rw [z]; exact List.mem_cons_self ..)
    have n2 : i ∉ us := fun z => n (List.mem_cons_of_mem _ z)
    show (L2.wipe (σ.set i x) us).set u Option.none = ((L2.wipe σ us).set u Option.none).set i x
    rw [wipe_outZ us σ n2, set_swap _ i u _ _ n1]
theorem wipe_wipeZ {σ : L2.St} : ∀ vs : List Nat, L2.wipe (L2.wipe σ vs) vs = L2.wipe σ vs
  | [] => rfl
  | v :: vs => by
    show (L2.wipe ((L2.wipe σ vs).set v Option.none) vs).set v Option.none = (L2.wipe σ vs).set v Option.none
    by_cases e : v ∈ vs
    · rw [wipe_setZ e, wipe_wipeZ vs]
    · rw [wipe_outZ vs _ e, wipe_wipeZ vs, List.set_set]
/-- [e for x in it if t]: the acc are data; one's own objects stay in number -/
theorem ex_lc {wi : TI} {g : TG} {tt : TT} {te : TE} {vs : List Nat} (mg : Mono1 g) (gw : GtW g vs) (h : ItD K wi sl M fun xs G M1 => ∃ I : Nat → List PyData → Mm → Prop, xs.length ≤ 1000000 ∧ I 0 [] M1 ∧ (∀ i acc M', I i acc M' → G M' ∧ acc.length ≤ i) ∧
    (∀ i x acc M', xs[i]? = some x → I i acc M' → GtD K g x (wipeD sl vs) M' fun sl2 M2 => TtD K tt sl2 M2 fun b M3 => if b = true then ExD K te sl2 M3 fun y M4 => ∃ d, y = .d d ∧ I (i + 1) (acc ++ [d]) M4 else I (i + 1) acc M3) ∧
    ∀ acc M', I xs.length acc M' → Φ (.d (.list acc)) M') : ExD K (tLc wi g tt te vs) sl M Φ := fun φ ψ σ H Q m s p =>
  h φ ψ σ H _ m s fun J xs G φ1 H1 M1 s1 m1 wk h1 => by
    obtain ⟨I, small, i0, ig, turn, done⟩ := h1
    intro D nD
    have nDφ : D ∉ φ1 := fun z => m1.fresh nD (List.mem_append_left _ z)
    -- the list at D is hidden
    refine ⟨fun i n H' => i + n = xs.length ∧ ∃ φ' M' acc ws, Ltr φ1 ψ H1 φ' (D :: ψ) H' ∧ RepM K φ' (D :: ψ) H' M' ∧ D ∉ φ' ∧ H' D = some (.lst ws) ∧ RepVs K φ' (D :: ψ) H' ws (acc.map .d) ∧ Stp φ1 H1 φ' H' ∧ I i acc M',
      ⟨xs.length, Nat.zero_add _, φ1, M1, [], [], .hide nD, m1.hide nD, nDφ, upd_same, .nil, .of (new_same nD), i0⟩, ?_⟩
    rintro i n H' ⟨sum, φ', M', acc, ws, lt, m', nD', eD, rs, stH, inv⟩
    obtain ⟨go, stop, yld⟩ := wk φ' (D :: ψ) H' M' lt m' (ig i acc M' inv).1
    cases n with
    | zero =>
      have e : i = xs.length := sum
      subst e
      refine .inl ⟨stop, p _ (.d (.list acc)) φ' H' M' (s1.trans stH) m'.show ?_ (done acc M' inv)⟩
      have nDm : D ∉ φ' ++ ψ := fun z => by
        rcases List.mem_append.mp z with y | y
        · exact nD' y
        · exact m1.fresh nD (List.mem_append_right _ y)
      exact show Dp K _ _ _ from .lst (.inl (.inl (mask_of nDm eD))) (of_repVs_d (Paired.mono (fun _ _ y => RepV.ltr .show y) rs))
    | succ n =>
      have hi : i < xs.length := by omega
      refine .inr ⟨go i hi, fun H2 => ∃ φ2 M2 acc2 ws2, Ltr φ1 ψ H1 φ2 (D :: ψ) H2 ∧ RepM K φ2 (D :: ψ) H2 M2 ∧ D ∉ φ2 ∧ H2 D = some (.lst ws2) ∧ RepVs K φ2 (D :: ψ) H2 ws2 (acc2.map .d) ∧ Stp φ1 H1 φ2 H2 ∧ I (i + 1) acc2 M2, fun H2 z => ⟨n, Nat.lt_succ_self n, by omega, z⟩, fun v H2 y => ?_⟩
      obtain ⟨sm, rv⟩ := yld i xs[i] v H2 (List.getElem?_eq_getElem hi) y
      have st2 : Stp φ' H' φ' H2 := .of sm
      have sW : RepS K φ' (D :: ψ) H2 (L2.wipe σ vs) (wipeD sl vs) := ((((s.stp s1).ltr lt).stp st2)).wipe vs
      have tg := turn i xs[i] acc M' (List.getElem?_eq_getElem hi) inv φ' (D :: ψ) (L2.wipe σ vs) H2 v (fun σ2 H3 => tt σ2 H3 fun b H4 => if b = true then te σ2 H4 fun y H5 => ∃ acc, H5 D = some (.lst acc) ∧ acc.length < sizeLine ∧
        (∃ φ2 M2 acc2 ws2, Ltr φ1 ψ H1 φ2 (D :: ψ) (upd H5 D (.lst (acc ++ [y]))) ∧ RepM K φ2 (D :: ψ) (upd H5 D (.lst (acc ++ [y]))) M2 ∧ D ∉ φ2 ∧ (upd H5 D (.lst (acc ++ [y]))) D = some (.lst ws2) ∧ RepVs K φ2 (D :: ψ) (upd H5 D (.lst (acc ++ [y]))) ws2 (acc2.map .d) ∧ Stp φ1 H1 φ2 (upd H5 D (.lst (acc ++ [y]))) ∧ I (i + 1) acc2 M2)
        else (∃ φ2 M2 acc2 ws2, Ltr φ1 ψ H1 φ2 (D :: ψ) H4 ∧ RepM K φ2 (D :: ψ) H4 M2 ∧ D ∉ φ2 ∧ H4 D = some (.lst ws2) ∧ RepVs K φ2 (D :: ψ) H4 ws2 (acc2.map .d) ∧ Stp φ1 H1 φ2 H4 ∧ I (i + 1) acc2 M2)) (m'.same sm) sW rv ?_
      · refine mg _ _ _ _ _ (fun σ2 H3 z => ⟨z.1.trans (wipe_wipeZ vs), z.2⟩) (gw _ _ _ _ tg)
      · intro φ3 H3 σ3 sl3 M3 st3 m3 s3 b3
        refine b3 φ3 (D :: ψ) σ3 H3 _ m3 s3 fun b φ4 H4 M4 st4 m4 b4 => ?_
        have s24 := (st2.trans st3).trans st4
        have eD4 : H4 D = some (.lst ws) := s24.kept D _ nD' eD
        have nD4 : D ∉ φ4 := fun z => by
          rcases s24.new D z with y | y
          · exact nD' y
          · rw [eD] at y
            cases y
        cases b with
        | false => exact ⟨φ4, M4, acc, ws, lt.trans s24.ltr, m4, nD4, eD4, RepVs.stp s24 rs, stH.trans s24, b4⟩
        | true =>
          refine b4 φ4 (D :: ψ) σ3 H4 _ m4 (s3.stp st4) fun y5 x5 φ5 H5 M5 st5 m5 r5 f5 => ?_
          obtain ⟨d, rfl, inv5⟩ := f5
          have s25 := s24.trans st5
          have eD5 : H5 D = some (.lst ws) := s25.kept D _ nD' eD
          have nD5 : D ∉ φ5 := fun z => by
            rcases s25.new D z with y | y
            · exact nD' y
            · rw [eD] at y
              cases y
          have lw : ws.length = acc.length := by rw [rs.length, List.length_map]
          have la := (ig i acc M' inv).2
          have mD : D ∈ D :: ψ := List.mem_cons_self ..
          refine ⟨ws, eD5, small6 (by omega), φ5, M5, acc ++ [d], ws ++ [y5], (lt.trans s25.ltr).trans (.wrh mD), m5.wrh mD nD5, nD5, upd_same, ?_, ?_, inv5⟩
          · rw [List.map_append]
            exact repVs_app (Paired.mono (fun _ _ z => RepV.ltr (.wrh mD) z) (RepVs.stp s25 rs)) (.cons (RepV.ltr (.wrh mD) r5) .nil)
          · have sa := stH.trans s25
            refine ⟨sa.pre, sa.new, fun b o nb e => ?_⟩
            rw [upd_ne (fun z => by rw [z, nD] at e; cases e)]
            exact sa.kept b o nb e
end
end Zs
namespace Zs
open PySem PySem.Spec PyProof.Rows L2
/-! ### changes of one's own lists -/
section
variable {K : PySem.W.Frag} {sl : Sl} {M : Mm} {Φ : Dv → Mm → Prop} {Ψ : Sl → Mm → Prop} {nx : Sl → Mm → Prop} {rt : Dv → Mm → Prop} {bk ct : Sl → Mm → Prop}
def MtD (K : PySem.W.Frag) (T : String) (r : V → List V → Hp → VK → Prop) (x : Dv) (t : TA) (sl : Sl) (M : Mm) (Φ : Dv → Mm → Prop) : Prop := ∀ (φ ψ : List Addr) (σ : L2.St) (H : Hp) (v : V) (Q : VK), RepM K φ ψ H M → RepS K φ ψ H σ sl → RepV K φ ψ H v x → Pk K φ ψ H Φ Q → tyV K T v H ∧ t σ H fun xs H2 => r v xs H2 Q
theorem ex_bm {T : String} {r : V → List V → Hp → VK → Prop} {to : TE} {t : TA} (h : ExD K to sl M fun x M1 => MtD K T r x t sl M1 Φ) : ExD K (tBM K T r to t) sl M Φ := fun φ ψ σ H Q m s p =>
  h φ ψ σ H _ m s fun v x φ1 H1 M1 s1 m1 r1 h1 => h1 φ1 ψ σ H1 v Q m1 (s.stp s1) r1 (p.stp s1)
/-- a new content of the k-th object -/
theorem own_wr {φ ψ : List Addr} {H : Hp} {k : Nat} {a : Addr} {vs : List V} {xs : List Dv} (m : RepM K φ ψ H M) (ea : φ[k]? = some a) (rs : RepVs K φ ψ H vs xs) : Stp φ H φ (upd H a (.lst vs)) ∧ RepM K φ ψ (upd H a (.lst vs)) (M.set k (.lst xs)) := by
  have ma : a ∈ φ := List.mem_of_getElem? ea
  have st : Stp φ H φ (upd H a (.lst vs)) := ⟨⟨[], by simp⟩, fun _ z => .inl z, fun b u n e => by
    rw [upd_ne (fun z => n (by rw [z]; exact ma))]
    exact e⟩
  exact m.set ea ⟨vs, upd_same, RepVs.stp st rs⟩
theorem own_at {φ ψ : List Addr} {H : Hp} {k : Nat} {v : V} {xs : List Dv} (m : RepM K φ ψ H M) (r : RepV K φ ψ H v (.r k)) (e : M[k]? = some (.lst xs)) : ∃ a vs, v = .ref a ∧ φ[k]? = some a ∧ H a = some (.lst vs) ∧ RepVs K φ ψ H vs xs := by
  obtain ⟨a, ea, rfl⟩ := r
  obtain ⟨vs, z, q⟩ := m.at_ k a _ ea e
  exact ⟨a, vs, rfl, ea, z, q⟩
theorem md_append {k : Nat} {t : TA} {xs0 : List Dv} (e0 : M[k]? = some (.lst xs0)) (h : AxD K t sl M fun ys M2 => ∃ y xs, ys = [y] ∧ M2[k]? = some (.lst xs) ∧ xs.length < 1000000 ∧ Φ (.d .none) (M2.set k (.lst (xs ++ [y])))) : MtD K "list" rAppend (.r k) t sl M Φ := fun φ ψ σ H v Q m s r p => by
  obtain ⟨a, vs, rfl, ea, z, _⟩ := own_at m r e0
  refine ⟨.inl ⟨rfl, vs, .inl (.inl z)⟩, h φ ψ σ H _ m s fun ys xs1 φ1 H1 M1 s1 m1 r1 h1 => ?_⟩
  obtain ⟨y, xs, rfl, e, l, f⟩ := h1
  cases r1 with | cons ry t => ?_
  cases t
  obtain ⟨a', vs', ez, ea', z', rs⟩ := own_at m1 (RepV.stp s1 r) e
  injection ez with ez
  subst ez
  obtain ⟨s2, m2⟩ := own_wr m1 ea' (repVs_app rs (.cons ry .nil))
  exact ⟨a, vs', _, rfl, rfl, z', by rw [rs.length]; exact small6 (by omega), p _ (.d .none) φ1 _ _ (s1.trans s2) m2 .non f⟩
def rInsA : V → List V → Hp → VK → Prop := fun x vs H Q => ∃ (l : Addr) (xs : List V) (i : Int) (y : V), x = .ref l ∧ vs = [.int i, y] ∧ H l = some (.lst xs) ∧ xs.length < sizeLine ∧ 0 ≤ i ∧ i < 2 ^ 63 ∧ Q .non (upd H l (.lst (xs.take i.toNat ++ y :: xs.drop i.toNat)))
/-- xs[i] = e -/
theorem gd_subL {to ti : TE} {y : Dv} (h : ExD K to sl M fun o M1 => ExD K ti sl M1 fun i M2 => ∃ k n j xs, o = .r k ∧ i = .d (.int n) ∧ M2[k]? = some (.lst xs) ∧ ixN xs.length n = some j ∧ Ψ sl (M2.set k (.lst (xs.set j y)))) : GtD K (gSub to ti rSetL) y sl M Ψ := fun φ ψ σ H v Q m s r p =>
  h φ ψ σ H _ m s fun o xo φ1 H1 M1 s1 m1 r1 h1 => h1 φ1 ψ σ H1 _ m1 (s.stp s1) fun i xi φ2 H2 M2 s2 m2 r2 h2 => by
    obtain ⟨k, n, j, xs, rfl, rfl, e, hj, f⟩ := h2
    have s12 := s1.trans s2
    obtain ⟨a, vs, rfl, ea, z, rs⟩ := own_at m2 (RepV.stp s2 r1) e
    cases (show Dp K _ _ (.int n) from r2)
    obtain ⟨s3, m3⟩ := own_wr m2 ea (repVs_set (RepV.stp s12 r) j rs)
    exact ⟨a, vs, n, j, rfl, rfl, z, by rw [rs.length]; exact hj, p φ2 _ σ sl _ (s12.trans s3) m3 (s.stp (s12.trans s3)) f⟩
/-- xs[i] += e -/
def rGetLi : V → V → Hp → VK → Prop := fun x y H Q => ∃ (p : Addr) (xs : List V) (j : Nat) (v : V), x = .ref p ∧ y = .int (j : Nat) ∧ H p = some (.lst xs) ∧ xs[j]? = some v ∧ Q v H
theorem pget_listI {X : Cx} : PGet X rGetLi := by
  rintro pins s σ H o k ov kv Q inv ro rk ⟨p, xs, j, v, rfl, rfl, at_, hj, q⟩
  cases ro
  obtain ⟨tk, rfl⟩ := rk
  obtain ⟨its, rel, there, few⟩ := inv.list (.inl (.inl at_))
  obtain ⟨u, atu, ru⟩ := rel.get hj
  have small : j < its.length := (List.getElem?_eq_some_iff.mp atu).1
  have line := line63
  have long := rel.length
  exact wpAny_getItem_list there.isList (by omega) (by omega) (by simpa using atu) ⟨v, H, inv, ru, q⟩
theorem st_augL {to ti te : TE} {f : Int → Int → Int} (h : ExD K to sl M fun o M1 => ExD K ti sl M1 fun i M2 => ∃ (k j : Nat) (xs : List Dv) (a : Int), o = .r k ∧ i = .d (.int (j : Nat)) ∧ M2[k]? = some (.lst xs) ∧ xs[j]? = some (.d (.int a)) ∧
    ExD K te sl M2 fun y M3 => ∃ b ys, y = .d (.int b) ∧ M3[k]? = some (.lst ys) ∧ j < ys.length ∧ nx sl (M3.set k (.lst (ys.set j (.d (.int (f a b))))))) : StD K (tAugS to ti te rGetLi (ipI f) rSetL) sl M ⟨nx, rt, bk, ct⟩ := fun φ ψ σ H D m s F =>
  h φ ψ σ H _ m s fun o xo φ1 H1 M1 s1 m1 r1 h1 => h1 φ1 ψ σ H1 _ m1 (s.stp s1) fun i xi φ2 H2 M2 s2 m2 r2 h2 => by
    obtain ⟨k, j, xs, a, rfl, rfl, e, ej, h3⟩ := h2
    have s12 := s1.trans s2
    obtain ⟨ad, vs, rfl, ea, z, rs⟩ := own_at m2 (RepV.stp s2 r1) e
    cases (show Dp K _ _ (.int (j : Nat)) from r2)
    obtain ⟨v, ev, rv⟩ := repVs_at rs ej
    cases (show Dp K _ _ (.int a) from rv)
    refine ⟨ad, vs, j, .int a, rfl, rfl, z, ev, h3 φ2 ψ σ H2 _ m2 (s.stp s12) fun u y φ3 H3 M3 s3 m3 r3 h4 => ?_⟩
    obtain ⟨b, ys, rfl, e3, lj, f3⟩ := h4
    cases (show Dp K _ _ (.int b) from r3)
    obtain ⟨ad', vs', ez, ea', z', rs'⟩ := own_at m3 (RepV.stp s3 (RepV.stp s2 r1)) e3
    injection ez with ez
    subst ez
    obtain ⟨s4, m4⟩ := own_wr m3 ea' (repVs_set (x := .d (.int (f a b))) (v := .int (f a b)) (.int _) j rs')
    have s14 := (s12.trans s3).trans s4
    exact ⟨a, b, rfl, rfl, ad, vs', (j : Int), j, rfl, rfl, z', by rw [rs'.length]; unfold ixN; rw [if_pos (by omega), if_pos (by omega), Int.toNat_natCast], F.nx φ3 _ σ sl _ s14 m4 (s.stp s14) f3⟩
end
/-! ### defs: their promises by data -/
abbrev SpD := List Dv → Mm → (Dv → Mm → Prop) → Prop
def toSp (K : PySem.W.Frag) (sp : SpD) : Sp := fun vs H Q _ => ∃ φ ψ M ds Φ, RepM K φ ψ H M ∧ RepVs K φ ψ H vs ds ∧ sp ds M Φ ∧ Pk K φ ψ H Φ Q
def startD (N : List Str) (ds : List Dv) : Sl := ds.map some ++ List.replicate (N.length - ds.length) none
/-- what has no number, or one below n -/
def Dv.lt (n : Nat) : Dv → Prop
  | .r k => k < n
  | _ => True
def Ct.lt (n : Nat) : Ct → Prop
  | .lst xs => ∀ x ∈ xs, x.lt n
  | .dT f _ => ∀ k y, f k = some y → y.lt n
  | .dK f _ => ∀ k y, f k = some y → y.lt n
  | .ext _ => True
/-- a dict of data that nobody changes, its keys tuples -/
def DctA (K : PySem.W.Frag) (f : List Key → Option PyData) (v : V) (H : Hp) : Prop := ∃ a ws, v = .ref a ∧ H a = some (.dT ws) ∧ (∀ k, f k = none → valV ws k = none) ∧ ∀ k d, f k = some d → ∃ u, valV ws k = some u ∧ Dp K H u d
theorem DctA.mono {K : PySem.W.Frag} {f : List Key → Option PyData} {v : V} {H1 H2 : Hp} (s : Same H1 H2) (h : DctA K f v H1) : DctA K f v H2 := by
  obtain ⟨a, ws, rfl, e, n, t⟩ := h
  refine ⟨a, ws, rfl, s _ _ e, n, fun k d q => ?_⟩
  obtain ⟨u, eu, du⟩ := t k d q
  exact ⟨u, eu, dp_same s du⟩
def dctv (K : PySem.W.Frag) (f : List Key → Option PyData) : Dv := .o (DctA K f)
/-- what is handed out: objects above n are let go; one of them, a list of data, may be the answer -/
def Out (K : PySem.W.Frag) (n : Nat) (Φ : Dv → Mm → Prop) : Dv → Mm → Prop := fun x M' => n ≤ M'.length ∧ (∀ c ∈ M'.take n, c.lt n) ∧ ((x.lt n ∧ Φ x (M'.take n)) ∨ (∃ k xs ds, x = .r k ∧ n ≤ k ∧ M'[k]? = some (.lst xs) ∧ dsOf xs = some ds ∧ Φ (.d (.list ds)) (M'.take n)) ∨ ∃ k f n' g, x = .r k ∧ n ≤ k ∧ M'[k]? = some (.dT f n') ∧ (∀ key, f key = (g key).map .d) ∧ Φ (dctv K g) (M'.take n))
section
variable {K : PySem.W.Frag} {φ φ' ψ : List Addr} {H H' : Hp} {M M' : Mm} {Φ : Dv → Mm → Prop} {Q : VK} {n : Nat}
theorem Ltr.drop : Ltr (φ.take n) (φ.drop n ++ ψ) H φ ψ H := ⟨⟨φ.drop n, (List.take_append_drop n φ).symm⟩, fun b o e => by
  obtain ⟨m, h⟩ := of_mask e
  refine mask_of (fun z => m ?_) h
  rw [← List.append_assoc, List.take_append_drop]
  exact z⟩
theorem Ltr.undrop {φ : List Addr} : Same (mask (φ ++ ψ) H) (mask (φ.take n ++ ψ) H) := fun b o e => by
  obtain ⟨m, h⟩ := of_mask e
  refine mask_of (fun z => m ?_) h
  rcases List.mem_append.mp z with y | y
  · exact List.mem_append_left _ (List.mem_of_mem_take y)
  · exact List.mem_append_right _ y
theorem repV_take {v : V} {x : Dv} (l : x.lt n) (h : RepV K φ ψ H v x) : RepV K (φ.take n) ψ H v x := by
  cases x with
  | d y => exact dp_same Ltr.undrop h
  | r k =>
    obtain ⟨a, e, z⟩ := h
    exact ⟨a, by rw [List.getElem?_take_of_lt l]; exact e, z⟩
  | o A => exact ⟨h.2 _ _ Ltr.undrop h.1, h.2⟩
  | p y => exact dq_same Ltr.undrop h
theorem repVs_takeφ : ∀ {vs : List V} {xs : List Dv}, (∀ x ∈ xs, x.lt n) → RepVs K φ ψ H vs xs → RepVs K (φ.take n) ψ H vs xs
  | _, _, _, .nil => .nil
  | _, _, l, .cons a r => .cons (repV_take (l _ (List.mem_cons_self ..)) a) (repVs_takeφ (fun x m => l x (List.mem_cons_of_mem _ m)) r)
theorem RepT.take {κ : Type} {g : κ → Option V} {f : κ → Option Dv} (l : ∀ k y, f k = some y → y.lt n) (h : RepT K φ ψ H g f) : RepT K (φ.take n) ψ H g f := ⟨h.no, fun k y e => by
  obtain ⟨u, eu, r⟩ := h.yes k y e
  exact ⟨u, eu, repV_take (l k y e) r⟩⟩
theorem RepM.take (m : RepM K φ ψ H M') (l : n ≤ M'.length) (lt : ∀ c ∈ M'.take n, c.lt n) : RepM K (φ.take n) ψ H (M'.take n) := by
  refine ⟨m.nd.sublist (List.take_sublist ..), by rw [List.length_take, List.length_take, m.len], fun k a c e1 e2 => ?_, m.hid, fun b z => m.dis b (List.mem_of_mem_take z)⟩
  have hk : k < n := by
    have := (List.getElem?_eq_some_iff.mp e2).1
    rw [List.length_take] at this
    omega
  have lc := lt c (List.mem_of_getElem? e2)
  rw [List.getElem?_take_of_lt hk] at e1 e2
  have rc := m.at_ k a c e1 e2
  cases c with
  | lst xs => obtain ⟨vs, z, r⟩ := rc; exact ⟨vs, z, repVs_takeφ lc r⟩
  | dT f m => obtain ⟨vs, z, l, r⟩ := rc; exact ⟨vs, z, l, r.take lc⟩
  | dK f m => obtain ⟨vs, z, l, r⟩ := rc; exact ⟨vs, z, l, r.take lc⟩
  | ext B => exact rc
theorem own_out {χ : List Addr} {a : Addr} {k : Nat} (m : RepM K (φ ++ χ) ψ H M') (hn : φ.length = n) (lk : n ≤ k) (ea : (φ ++ χ)[k]? = some a) : a ∉ φ ++ ψ := fun y => by
  rcases List.mem_append.mp y with y | y
  · obtain ⟨j, lj, ej⟩ := List.getElem_of_mem y
    have e1 : (φ ++ χ)[j]? = some a := by rw [List.getElem?_append_left lj, List.getElem?_eq_getElem lj, ej]
    obtain ⟨l1, e1⟩ := List.getElem?_eq_some_iff.mp e1
    obtain ⟨l2, e2⟩ := List.getElem?_eq_some_iff.mp ea
    have := (List.getElem_inj m.nd).mp (e1.trans e2.symm)
    omega
  · exact m.dis a (List.mem_of_getElem? ea) y
theorem out_pk (p : Pk K φ ψ H Φ Q) (hn : φ.length = n) : Pk K φ ψ H (Out K n Φ) Q := fun v x φ' H' M' s m r f => by
  obtain ⟨l, lt, f⟩ := f
  obtain ⟨χ, rfl⟩ := s.pre
  have et : (φ ++ χ).take n = φ := by rw [← hn, List.take_left]
  have mt := m.take l lt
  rw [et] at mt
  have st : Stp φ H φ H' := ⟨⟨[], by simp⟩, fun _ z => .inl z, s.kept⟩
  have sm : Same (mask ((φ ++ χ) ++ ψ) H') (mask (φ ++ ψ) H') := by
    have := Ltr.undrop (ψ := ψ) (H := H') (n := n) (φ := φ ++ χ)
    rw [et] at this
    exact this
  rcases f with ⟨lx, f⟩ | ⟨k, xs, ds, rfl, lk, ek, ed, f⟩ | ⟨k, f0, n', g, rfl, lk, ek, ed, f⟩
  · have rt := repV_take lx r
    rw [et] at rt
    exact p v x φ H' _ st mt rt f
  · obtain ⟨a, vs, rfl, ea, z, rs⟩ := own_at m r ek
    rw [dsOf_map ed] at rs
    refine p _ (.d (.list ds)) φ H' _ st mt ?_ f
    exact show Dp K _ _ _ from .lst (.inl (.inl (mask_of (own_out m hn lk ea) z))) (dpAll_same sm (of_repVs_d rs))
  · obtain ⟨a, ea, rfl⟩ := r
    obtain ⟨ws, z, lw, rt⟩ := m.at_ k a _ ea ek
    refine p _ (dctv K g) φ H' _ st mt ⟨⟨a, ws, rfl, mask_of (own_out m hn lk ea) z, fun key e => rt.no key (by rw [ed, e]; rfl), fun key d e => ?_⟩, fun _ _ s h => h.mono s⟩ f
    obtain ⟨u, eu, ru⟩ := rt.yes key (.d d) (by rw [ed, e]; rfl)
    exact ⟨u, eu, dp_same sm ru⟩
theorem repS_start {N : List Str} {vs : List V} {ds : List Dv} (h : RepVs K φ ψ H vs ds) : RepS K φ ψ H (start N vs) (startD N ds) := by
  have l := h.length
  refine ⟨by unfold L2.start startD; simp [l], fun i x e => ?_⟩
  unfold startD at e
  unfold L2.start
  rcases Nat.lt_or_ge i ds.length with hi | hi
  · rw [List.getElem?_append_left (by rw [List.length_map]; exact hi), List.getElem?_map] at e
    cases q : ds[i]? with
    | none => rw [q] at e; cases e
    | some y =>
      rw [q] at e
      have := Option.some.inj (Option.some.inj e)
      subst this
      obtain ⟨v, ev, r⟩ := repVs_at h q
      exact ⟨v, by rw [List.getElem?_append_left (by rw [List.length_map, l]; exact hi), List.getElem?_map, ev]; rfl, r⟩
  · rw [List.getElem?_append_right (by rw [List.length_map]; exact hi)] at e
    have := List.mem_of_getElem? e
    have := (List.mem_replicate.mp this).2
    cases this
end
section
variable {P : Program} {w : World} {K : PySem.W.Frag} {mg : Str → Option Value} {base : Heap}
/-- a def that lets go what it made, up to its answer -/
theorem fn_d {x qual : Str} {st : Stmt} {f : Addr} {fd : FuncData} {N ps : List Str} {k : Nat} {sp : SpD} (F : Fun K x qual st f fd) (S : FnScope N ps (defScope st)) (len : ∀ ds M Φ, sp ds M Φ → ds.length = ps.length)
    (body : ∀ (cdv : Value) (A : Around) (outer : List Env) (s : Shared) (H : Hp) (E : XK), Room k (A.deeper (envOfC qual (defScope st) s.heap.objs.size f cdv)) → ∀ ds M Φ, sp ds M Φ →
      ∃ t, PSs (cxOf CX0 P w K mg base N qual (defScope st) f cdv A outer s H E).nox (defBody st) t ∧ StD K t (startD N ds) M { nx := fun _ M' => Out K M.length Φ (.d .none) M', rt := Out K M.length Φ }) : FnOk P w K mg base CX0 (k + 1) f fd ps (toSp K sp) := by
  refine F.ok S (fun vs H Q E h => ?_) (fun cdv A outer s H vs Q E hr h => ?_)
  · obtain ⟨φ, ψ, M, ds, Φ, m, r, h, p⟩ := h
    rw [r.length]
    exact len ds M Φ h
  · obtain ⟨φ, ψ, M, ds, Φ, m, r, h, p⟩ := h
    obtain ⟨t, ht, q⟩ := body cdv A outer s H E hr ds M Φ h
    have po := out_pk p m.len
    refine ⟨t, ht, q φ ψ _ H _ m (repS_start r) ⟨fun φ' H' σ sl M' s' m' r' f' => po _ (.d .none) φ' H' M' s' m' .non f', fun φ' H' v x M' s' m' r' f' => po v x φ' H' M' s' m' r' f', fun _ _ _ _ _ _ _ _ z => z, fun _ _ _ _ _ _ _ _ z => z⟩⟩
/-- a def that hands out what it made -/
theorem fn_d0 {x qual : Str} {st : Stmt} {f : Addr} {fd : FuncData} {N ps : List Str} {k : Nat} {sp : SpD} (F : Fun K x qual st f fd) (S : FnScope N ps (defScope st)) (len : ∀ ds M Φ, sp ds M Φ → ds.length = ps.length)
    (body : ∀ (cdv : Value) (A : Around) (outer : List Env) (s : Shared) (H : Hp) (E : XK), Room k (A.deeper (envOfC qual (defScope st) s.heap.objs.size f cdv)) → ∀ ds M Φ, sp ds M Φ →
      ∃ t, PSs (cxOf CX0 P w K mg base N qual (defScope st) f cdv A outer s H E).nox (defBody st) t ∧ StD K t (startD N ds) M { nx := fun _ M' => Φ (.d .none) M', rt := Φ }) : FnOk P w K mg base CX0 (k + 1) f fd ps (toSp K sp) := by
  refine F.ok S (fun vs H Q E h => ?_) (fun cdv A outer s H vs Q E hr h => ?_)
  · obtain ⟨φ, ψ, M, ds, Φ, m, r, h, p⟩ := h
    rw [r.length]
    exact len ds M Φ h
  · obtain ⟨φ, ψ, M, ds, Φ, m, r, h, p⟩ := h
    obtain ⟨t, ht, q⟩ := body cdv A outer s H E hr ds M Φ h
    refine ⟨t, ht, q φ ψ _ H _ m (repS_start r) ⟨fun φ' H' σ sl M' s' m' r' f' => p _ (.d .none) φ' H' M' s' m' .non f', fun φ' H' v x M' s' m' r' f' => p v x φ' H' M' s' m' r' f', fun _ _ _ _ _ _ _ _ z => z, fun _ _ _ _ _ _ _ _ z => z⟩⟩
end
/-! ### calls -/
def Dv.pure : Dv → Prop
  | .r _ => False
  | _ => True
section
variable {K : PySem.W.Frag} {sl : Sl} {M : Mm} {Φ : Dv → Mm → Prop}
/-- a call of a def to which no object of one's own is given -/
theorem ex_call {sp : SpD} {E : XK} {t : TA} (h : AxD K t sl M fun xs M1 => (∀ x ∈ xs, x.pure) ∧ sp xs [] fun y M2 => M2 = [] ∧ y.pure ∧ Φ y M1) : ExD K (tCall (toSp K sp) [] E t) sl M Φ := fun φ ψ σ H Q m s p =>
  h φ ψ σ H _ m s fun vs xs φ1 H1 M1 s1 m1 r1 h1 => by
    obtain ⟨pu, h2⟩ := h1
    have dn : ∀ {v : V} {x : Dv}, x.pure → RepV K φ1 ψ H1 v x → RepV K [] (φ1 ++ ψ) H1 v x := fun {v x} px r => by
      cases x with
      | d y => exact r
      | r k => exact px.elim
      | o A => exact r
      | p y => exact r
    have dns : ∀ {vs : List V} {xs : List Dv}, (∀ x ∈ xs, x.pure) → RepVs K φ1 ψ H1 vs xs → RepVs K [] (φ1 ++ ψ) H1 vs xs := fun {vs xs} px r => by
      induction r with
      | nil => exact .nil
      | cons a _ ih => exact .cons (dn (px _ (List.mem_cons_self ..)) a) (ih fun x mx => px x (List.mem_cons_of_mem _ mx))
    rw [List.append_nil]
    refine ⟨[], φ1 ++ ψ, [], xs, _, ⟨List.nodup_nil, rfl, fun k a c e _ => by simp at e, fun b mb => ?_, fun b mb => by simp at mb⟩, dns pu r1, h2, fun v y φ2 H2 M2 s2 m2 r2 f2 => ?_⟩
    · rcases List.mem_append.mp mb with z | z
      · exact m1.own z
      · exact m1.hid b z
    · obtain ⟨rfl, py, f⟩ := f2
      have e2 : φ2 = [] := List.length_eq_zero_iff.mp m2.len
      subst e2
      have sm : Same H1 H2 := fun b o e => s2.kept b o (by simp) e
      refine (p.stp s1).grown m1 sm (x := y) ?_ f
      cases y with
      | d z => exact r2
      | r k => exact py.elim
      | o A => exact r2
      | p z => exact r2
end
end Zs
namespace Zs
open PySem PySem.Spec PyProof.Rows L2
/-! ### data -/
def tyD : PyData → String
  | .none => "NoneType"
  | .bool _ => "bool"
  | .int _ => "int"
  | .str _ => "str"
  | .list _ => "list"
  | .tuple _ => "tuple"
  | .dict _ => "dict"
theorem ty_of {K : PySem.W.Frag} {H : Hp} {v : V} {d : PyData} (h : Dp K H v d) : TyX K H v (.type (tyD d)) := by
  cases h with
  | non => exact .base .non
  | bl b => exact .base (.bl b)
  | int i => exact .base (.int i)
  | str x => exact .base (.str x)
  | lst s _ =>
    rcases s with (s | ⟨o, s⟩) | ⟨o, its, n, e, c, _⟩
    · exact .base (.lst s)
    · exact .base (.frz s)
    · exact .kList e c
  | tup s _ =>
    rcases s with (s | ⟨o, s⟩) | ⟨o, its, n, e, c, _⟩
    · exact .base (.tup s)
    · exact .fTuple s
    · exact .kTuple e c
mutual
theorem Dp.same {K : PySem.W.Frag} {H H' : Hp} (x : Same H H') : ∀ {v : V} {d : PyData}, Dp K H v d → Dp K H' v d
  | _, _, .non => .non
  | _, _, .bl b => .bl b
  | _, _, .int i => .int i
  | _, _, .str y => .str y
  | _, _, .lst s r => .lst (x.seq s) (DpAll.same x r)
  | _, _, .tup s r => .tup (seqT_same x s) (DpAll.same x r)
theorem DpAll.same {K : PySem.W.Frag} {H H' : Hp} (x : Same H H') : ∀ {vs : List V} {ds : List PyData}, DpAll K H vs ds → DpAll K H' vs ds
  | _, _, .nil => .nil
  | _, _, .cons a r => .cons (Dp.same x a) (DpAll.same x r)
end
theorem DpAll.len {K : PySem.W.Frag} {H : Hp} : ∀ {vs : List V} {ds : List PyData}, DpAll K H vs ds → vs.length = ds.length
  | _, _, .nil => rfl
  | _, _, .cons _ r => by rw [List.length_cons, List.length_cons, DpAll.len r]
theorem DpAll.get {K : PySem.W.Frag} {H : Hp} : ∀ {vs : List V} {ds : List PyData} {i : Nat} {v : V}, DpAll K H vs ds → vs[i]? = some v → ∃ d, ds[i]? = some d ∧ Dp K H v d
  | _, _, _, _, .nil, h => by simp at h
  | _, _, 0, v, .cons (d := d) a r, h => by
    have e := Option.some.inj h
    subst e
    exact ⟨d, rfl, a⟩
  | _, _, i + 1, v, .cons a r, h => DpAll.get (i := i) r h
def isIntD : PyData → Bool
  | .int _ => true
  | _ => false
def isTupD : PyData → Bool
  | .tuple _ => true
  | _ => false
def isBoolD : PyData → Bool
  | .bool _ => true
  | _ => false
def intBtw (lo hi : Int) : PyData → Bool
  | .int i => decide (lo ≤ i) && decide (i ≤ hi)
  | _ => false
def tupBtw (lo hi : Int) : PyData → Bool
  | .tuple ds => decide (lo ≤ (ds.length : Int)) && decide ((ds.length : Int) ≤ hi)
  | _ => false
def intTup (n : Int) : PyData → Bool
  | .tuple ds => decide ((ds.length : Int) = n) && ds.all isIntD
  | _ => false
theorem isi_int {K : PySem.W.Frag} {H : Hp} {v : V} {d : PyData} (h : Dp K H v d) : ∃ b, PySem.W.kitOne K (.type (tyD d)) (.type "int") = some b ∧ (b = true → (isIntD d = true ∨ isBoolD d = true)) ∧ (b = false → isIntD d = false) ∧ (isIntD d = true → b = true) := by
  cases h
  · exact ⟨false, kit_ty (show kitB "NoneType" "int" = some false by decide +kernel), fun e => (by cases e), fun _ => rfl, fun e => (by cases e)⟩
  · exact ⟨true, kit_ty (show kitB "bool" "int" = some true by decide +kernel), fun _ => .inr rfl, fun e => (by cases e), fun e => (by cases e)⟩
  · exact ⟨true, kit_ty (show kitB "int" "int" = some true by decide +kernel), fun _ => .inl rfl, fun e => (by cases e), fun _ => rfl⟩
  · exact ⟨false, kit_ty (show kitB "str" "int" = some false by decide +kernel), fun e => (by cases e), fun _ => rfl, fun e => (by cases e)⟩
  · exact ⟨false, kit_ty (show kitB "list" "int" = some false by decide +kernel), fun e => (by cases e), fun _ => rfl, fun e => (by cases e)⟩
  · exact ⟨false, kit_ty (show kitB "tuple" "int" = some false by decide +kernel), fun e => (by cases e), fun _ => rfl, fun e => (by cases e)⟩
theorem isi_bool {K : PySem.W.Frag} {H : Hp} {v : V} {d : PyData} (h : Dp K H v d) : PySem.W.kitOne K (.type (tyD d)) (.type "bool") = some (isBoolD d) := by
  cases h
  · exact kit_ty (show kitB "NoneType" "bool" = some false by decide +kernel)
  · exact kit_ty (show kitB "bool" "bool" = some true by decide +kernel)
  · exact kit_ty (show kitB "int" "bool" = some false by decide +kernel)
  · exact kit_ty (show kitB "str" "bool" = some false by decide +kernel)
  · exact kit_ty (show kitB "list" "bool" = some false by decide +kernel)
  · exact kit_ty (show kitB "tuple" "bool" = some false by decide +kernel)
theorem isi_tup {K : PySem.W.Frag} {H : Hp} {v : V} {d : PyData} (h : Dp K H v d) : PySem.W.kitOne K (.type (tyD d)) (.type "tuple") = some (isTupD d) := by
  cases h
  · exact kit_ty (show kitB "NoneType" "tuple" = some false by decide +kernel)
  · exact kit_ty (show kitB "bool" "tuple" = some false by decide +kernel)
  · exact kit_ty (show kitB "int" "tuple" = some false by decide +kernel)
  · exact kit_ty (show kitB "str" "tuple" = some false by decide +kernel)
  · exact kit_ty (show kitB "list" "tuple" = some false by decide +kernel)
  · exact kit_ty (show kitB "tuple" "tuple" = some true by decide +kernel)
theorem u65 {A : Around} {k : Nat} (r : Room k A) : A.units + 65 < cLine := by have := r.un; omega
section
variable {X : Cx}
def rInDT (K : PySem.W.Frag) : R2 := fun x y H Q => ∃ d ds, Dp K H x d ∧ Dp K H y (.tuple ds) ∧ SeqAt.shaped d = true ∧ SeqAt.shaped (.tuple ds) = true ∧ Q (.bl (ds.any fun z => PyData.eqv z d)) H
def rNotInDT (K : PySem.W.Frag) : R2 := fun x y H Q => ∃ d ds, Dp K H x d ∧ Dp K H y (.tuple ds) ∧ SeqAt.shaped d = true ∧ SeqAt.shaped (.tuple ds) = true ∧ Q (.bl (!ds.any fun z => PyData.eqv z d)) H
theorem room_sh {A : Around} {n : Nat} {d : PyData} (h : SeqAt.shaped d = true) (hu : A.units + 65 < cLine) : A.units + 1 + min n d.depth < cLine := by
  have h1 := SeqAt.depth_of_shaped h
  have h2 : min n d.depth ≤ d.depth := Nat.min_le_right _ _
  omega
theorem op_inDT (hu : X.A.units + 65 < cLine) : OpR X (compareOp .In) (rInDT X.K) := by
  rintro pins s σ H x y v u Q I rx ry ⟨d, ds, hd, he, sd, se, q⟩
  obtain ⟨as, r1⟩ := Dp.reads I _ x v hd rx
  obtain ⟨bs, r2⟩ := Dp.reads I _ y u he ry
  exact SeqAt.in_tuple_reads r2 r1 (SeqAt.canLay_of_shaped se) (SeqAt.canLay_of_shaped sd) (room_sh sd hu) ⟨.bl _, H, I, rfl, q⟩
theorem op_notInDT (hu : X.A.units + 65 < cLine) : OpR X (compareOp .NotIn) (rNotInDT X.K) := by
  rintro pins s σ H x y v u Q I rx ry ⟨d, ds, hd, he, sd, se, q⟩
  obtain ⟨as, r1⟩ := Dp.reads I _ x v hd rx
  obtain ⟨bs, r2⟩ := Dp.reads I _ y u he ry
  exact SeqAt.notIn_tuple_reads r2 r1 (SeqAt.canLay_of_shaped se) (SeqAt.canLay_of_shaped sd) (room_sh sd hu) ⟨.bl _, H, I, rfl, q⟩
end
/-- data of at most m items in each row, at most n deep -/
inductive Gd (m : Nat) : Nat → PyData → Prop where
  | none {n : Nat} : Gd m n .none
  | bool {n : Nat} (b : Bool) : Gd m n (.bool b)
  | int {n : Nat} (i : Int) : Gd m n (.int i)
  | str {n : Nat} {x : Str} (h : PyData.canLay0 (.str x) = true) : Gd m n (.str x)
  | list {n : Nat} {ds : List PyData} (h : ds.length ≤ m) (a : ∀ d ∈ ds, Gd m n d) : Gd m (n + 1) (.list ds)
  | tuple {n : Nat} {ds : List PyData} (h : ds.length ≤ m) (a : ∀ d ∈ ds, Gd m n d) : Gd m (n + 1) (.tuple ds)
theorem Gd.mono {m m' : Nat} (hm : m ≤ m') {n : Nat} {d : PyData} (h : Gd m n d) : ∀ {n' : Nat}, n ≤ n' → Gd m' n' d := by
  induction h with
  | none => intro n' _; exact .none
  | bool b => intro n' _; exact .bool b
  | int i => intro n' _; exact .int i
  | str h => intro n' _; exact .str h
  | list h a ih =>
    intro n' hn
    obtain ⟨k, rfl⟩ : ∃ k, n' = k + 1 := ⟨n' - 1, by omega⟩
    exact .list (by omega) fun d hd => ih d hd (by omega)
  | tuple h a ih =>
    intro n' hn
    obtain ⟨k, rfl⟩ : ∃ k, n' = k + 1 := ⟨n' - 1, by omega⟩
    exact .tuple (by omega) fun d hd => ih d hd (by omega)
theorem lay_all : ∀ {ds : List PyData}, (∀ d ∈ ds, d.canLay0 = true) → PyData.canLayAll0 ds = true
  | [], _ => by simp [PyData.canLayAll0]
  | d :: ds, h => by
    have h1 := h d (List.mem_cons_self ..)
    have h2 := lay_all (ds := ds) fun x hx => h x (List.mem_cons_of_mem _ hx)
    simp [PyData.canLayAll0, h1, h2]
theorem depth_all {n : Nat} : ∀ {ds : List PyData}, (∀ d ∈ ds, d.depth ≤ n) → PyData.depthAll ds ≤ n
  | [], _ => by simp [PyData.depthAll]
  | d :: ds, h => by
    have h1 := h d (List.mem_cons_self ..)
    have h2 := depth_all (ds := ds) fun x hx => h x (List.mem_cons_of_mem _ hx)
    simp only [PyData.depthAll]
    omega
theorem Gd.lay {m n : Nat} {d : PyData} (h : Gd m n d) : d.canLay0 = true ∧ d.depth ≤ n := by
  induction h with
  | none => exact ⟨by simp [PyData.canLay0], by simp [PyData.depth]⟩
  | bool b => exact ⟨by simp [PyData.canLay0], by simp [PyData.depth]⟩
  | int i => exact ⟨by simp [PyData.canLay0], by simp [PyData.depth]⟩
  | str h => exact ⟨h, by simp [PyData.depth]⟩
  | list h a ih =>
    refine ⟨by simp only [PyData.canLay0]; exact lay_all fun d hd => (ih d hd).1, ?_⟩
    have := depth_all fun d hd => (ih d hd).2
    simp only [PyData.depth]
    omega
  | tuple h a ih =>
    refine ⟨by simp only [PyData.canLay0]; exact lay_all fun d hd => (ih d hd).1, ?_⟩
    have := depth_all fun d hd => (ih d hd).2
    simp only [PyData.depth]
    omega
theorem Gd.shaped {m n : Nat} {d : PyData} (h : Gd m n d) (hn : n ≤ 64) : SeqAt.shaped d = true := by
  show (d.canLay0 && decide (d.depth ≤ 64)) = true
  rw [h.lay.1, decide_eq_true (by have := h.lay.2; omega)]
  rfl
theorem Gd.len {m n : Nat} {ds : List PyData} (h : Gd m n (.tuple ds)) : ds.length ≤ m := by
  cases h with
  | tuple h a => exact h
theorem Gd.all {m n : Nat} {ds : List PyData} (h : Gd m (n + 1) (.tuple ds)) : ∀ d ∈ ds, Gd m n d := by
  cases h with
  | tuple h a => exact a
theorem Gd.up {m n : Nat} {d : PyData} (h : Gd m n d) : Gd m (n + 1) d := h.mono (Nat.le_refl _) (Nat.le_succ _)
/-! ### further rules of the data layer -/
def rIsX : R2 := fun x y H Q => ∃ b, y = .bl b ∧ Q (.bl (decide (x = .bl b))) H
def rNotX : R2 := fun x y H Q => ∃ b, y = .bl b ∧ Q (.bl (!decide (x = .bl b))) H
theorem beq_bool {x : V} {v : Value} {b : Bool} (r : RelV x v) : (v == Value.bool b) = decide (x = .bl b) := by
  cases x with
  | bl a =>
    cases (show v = Value.bool a from r)
    cases a <;> cases b <;> rfl
  | non => cases (show v = Value.none from r); rfl
  | int i => obtain ⟨t, rfl⟩ := r; rfl
  | str i => obtain ⟨t, rfl⟩ := r; rfl
  | byt i => obtain ⟨t, rfl⟩ := r; rfl
  | flt i => obtain ⟨t, rfl⟩ := r; rfl
  | ref a => cases (show v = Value.ref a from r); rfl
  | ty a => cases (show v = Value.type a from r); rfl
theorem plain_bool {x : V} {v : Value} {b : Bool} (r : RelV x v) : plainIs v (Value.bool b) = true := by
  cases x with
  | bl a => cases (show v = Value.bool a from r); rfl
  | non => cases (show v = Value.none from r); rfl
  | int i => obtain ⟨t, rfl⟩ := r; rfl
  | str i => obtain ⟨t, rfl⟩ := r; rfl
  | byt i => obtain ⟨t, rfl⟩ := r; rfl
  | flt i => obtain ⟨t, rfl⟩ := r; rfl
  | ref a => cases (show v = Value.ref a from r); rfl
  | ty a => cases (show v = Value.type a from r); rfl
theorem op_isX {X : Cx} : OpR X (compareOp .Is) rIsX := by
  rintro pins s σ H x y v u Q I rx ry ⟨b, rfl, q⟩
  cases (show u = Value.bool b from ry)
  exact wpAny_is_plain (plain_bool rx) ⟨.bl _, H, I, by rw [beq_bool rx]; rfl, q⟩
theorem op_notX {X : Cx} : OpR X (compareOp .IsNot) rNotX := by
  rintro pins s σ H x y v u Q I rx ry ⟨b, rfl, q⟩
  cases (show u = Value.bool b from ry)
  exact wpAny_isNot_plain (plain_bool rx) ⟨.bl _, H, I, by rw [beq_bool rx]; rfl, q⟩
/-- a datum is the bool b -/
def isB (b : Bool) : PyData → Bool
  | .bool a => decide (a = b)
  | _ => false
theorem isB_of {K : PySem.W.Frag} {H : Hp} {v : V} {d : PyData} {b : Bool} (h : Dp K H v d) : isB b d = decide (v = .bl b) := by
  cases h with
  | bl a =>
    show decide (a = b) = decide (V.bl a = V.bl b)
    exact decide_eq_decide.mpr ⟨fun h => by rw [h], fun h => by injection h⟩
  | _ => rfl
def isIB (d : PyData) : Bool := isIntD d || isBoolD d
def isStrD : PyData → Bool
  | .str _ => true
  | _ => false
def isLstD : PyData → Bool
  | .list _ => true
  | _ => false
theorem kit_int : ∀ d : PyData, kitB (tyD d) "int" = some (isIB d)
  | .none => (show kitB "NoneType" "int" = some false by decide +kernel)
  | .bool _ => (show kitB "bool" "int" = some true by decide +kernel)
  | .int _ => (show kitB "int" "int" = some true by decide +kernel)
  | .str _ => (show kitB "str" "int" = some false by decide +kernel)
  | .list _ => (show kitB "list" "int" = some false by decide +kernel)
  | .tuple _ => (show kitB "tuple" "int" = some false by decide +kernel)
  | .dict _ => (show kitB "dict" "int" = some false by decide +kernel)
theorem kit_tup : ∀ d : PyData, kitB (tyD d) "tuple" = some (isTupD d)
  | .none => (show kitB "NoneType" "tuple" = some false by decide +kernel)
  | .bool _ => (show kitB "bool" "tuple" = some false by decide +kernel)
  | .int _ => (show kitB "int" "tuple" = some false by decide +kernel)
  | .str _ => (show kitB "str" "tuple" = some false by decide +kernel)
  | .list _ => (show kitB "list" "tuple" = some false by decide +kernel)
  | .tuple _ => (show kitB "tuple" "tuple" = some true by decide +kernel)
  | .dict _ => (show kitB "dict" "tuple" = some false by decide +kernel)
theorem kit_str : ∀ d : PyData, kitB (tyD d) "str" = some (isStrD d)
  | .none => (show kitB "NoneType" "str" = some false by decide +kernel)
  | .bool _ => (show kitB "bool" "str" = some false by decide +kernel)
  | .int _ => (show kitB "int" "str" = some false by decide +kernel)
  | .str _ => (show kitB "str" "str" = some true by decide +kernel)
  | .list _ => (show kitB "list" "str" = some false by decide +kernel)
  | .tuple _ => (show kitB "tuple" "str" = some false by decide +kernel)
  | .dict _ => (show kitB "dict" "str" = some false by decide +kernel)
theorem kit_lst : ∀ d : PyData, kitB (tyD d) "list" = some (isLstD d)
  | .none => (show kitB "NoneType" "list" = some false by decide +kernel)
  | .bool _ => (show kitB "bool" "list" = some false by decide +kernel)
  | .int _ => (show kitB "int" "list" = some false by decide +kernel)
  | .str _ => (show kitB "str" "list" = some false by decide +kernel)
  | .list _ => (show kitB "list" "list" = some true by decide +kernel)
  | .tuple _ => (show kitB "tuple" "list" = some false by decide +kernel)
  | .dict _ => (show kitB "dict" "list" = some false by decide +kernel)
section
variable {K : PySem.W.Frag} {sl : Sl} {M : Mm} {Φ : Dv → Mm → Prop}
theorem od_isX {d : PyData} {b : Bool} (f : Φ (.d (.bool (isB b d))) M) : OpD K rIsX (.d d) (.d (.bool b)) M Φ := fun φ ψ H v u Q m r1 r2 p => by
  cases (show Dp K _ u (.bool b) from r2)
  rw [isB_of (show Dp K _ v d from r1)] at f
  exact ⟨b, rfl, p.here m (x := .d (.bool _)) (.bl _) f⟩
theorem od_notX {d : PyData} {b : Bool} (f : Φ (.d (.bool (!isB b d))) M) : OpD K rNotX (.d d) (.d (.bool b)) M Φ := fun φ ψ H v u Q m r1 r2 p => by
  cases (show Dp K _ u (.bool b) from r2)
  rw [isB_of (show Dp K _ v d from r1)] at f
  exact ⟨b, rfl, p.here m (x := .d (.bool _)) (.bl _) f⟩
theorem cd_isi {n : String} {d : PyData} {b : Bool} (e : kitB (tyD d) n = some b) (f : Φ (.d (.bool b)) M) : CaD K (rIsi K) [.d d, tyv (.ty n)] M Φ := fun φ ψ H vs Q m r p => by
  cases r with | cons r1 t => ?_
  cases t with | cons r2 t => ?_
  cases t
  obtain ⟨z, _⟩ := r2
  subst z
  exact ⟨_, .ty n, _, _, b, rfl, .ty n, ty_of (dp_same (mask_same _ _) r1), kit_ty e, p.here m (x := .d (.bool b)) (.bl b) f⟩
theorem cd_isiInt {d : PyData} (f : Φ (.d (.bool (isIB d))) M) : CaD K (rIsi K) [.d d, tyv (.ty "int")] M Φ := cd_isi (kit_int d) f
theorem cd_isiTup {d : PyData} (f : Φ (.d (.bool (isTupD d))) M) : CaD K (rIsi K) [.d d, tyv (.ty "tuple")] M Φ := cd_isi (kit_tup d) f
theorem cd_isiStr {d : PyData} (f : Φ (.d (.bool (isStrD d))) M) : CaD K (rIsi K) [.d d, tyv (.ty "str")] M Φ := cd_isi (kit_str d) f
theorem cd_isiLst {d : PyData} (f : Φ (.d (.bool (isLstD d))) M) : CaD K (rIsi K) [.d d, tyv (.ty "list")] M Φ := cd_isi (kit_lst d) f
theorem od_inDT {d : PyData} {ds : List PyData} (a : SeqAt.shaped d = true) (b : SeqAt.shaped (.tuple ds) = true) (f : Φ (.d (.bool (ds.any fun z => PyData.eqv z d))) M) : OpD K (rInDT K) (.d d) (.d (.tuple ds)) M Φ := fun φ ψ H v u Q m r1 r2 p =>
  ⟨d, ds, dp_same (mask_same _ _) r1, dp_same (mask_same _ _) r2, a, b, p.here m (x := .d (.bool _)) (.bl _) f⟩
theorem od_notInDT {d : PyData} {ds : List PyData} (a : SeqAt.shaped d = true) (b : SeqAt.shaped (.tuple ds) = true) (f : Φ (.d (.bool (!ds.any fun z => PyData.eqv z d))) M) : OpD K (rNotInDT K) (.d d) (.d (.tuple ds)) M Φ := fun φ ψ H v u Q m r1 r2 p =>
  ⟨d, ds, dp_same (mask_same _ _) r1, dp_same (mask_same _ _) r2, a, b, p.here m (x := .d (.bool _)) (.bl _) f⟩
/-- in, of plain values in a tuple of such -/
theorem flat_of {φ ψ : List Addr} {H : Hp} : ∀ {vs : List V} {is : List Int}, RepVs K φ ψ H vs (is.map fun i => .d (.int i)) → vs = is.map V.int
  | _, [], .nil => rfl
  | _, i :: is, .cons a r => by
    cases (show Dp K _ _ (.int i) from a)
    rw [flat_of r]
    rfl
theorem od_catT {xs ys : List PyData} (l : xs.length + ys.length ≤ 1000000) (f : Φ (.d (.tuple (xs ++ ys))) M) : OpD K (rCatA K) (.d (.tuple xs)) (.d (.tuple ys)) M Φ := fun φ ψ H v u Q m r1 r2 p => by
  obtain ⟨a, vs, rfl, sqa, rsa⟩ := tupD r1
  obtain ⟨b, us, rfl, sqb, rsb⟩ := tupD r2
  have la : vs.length = xs.length := by rw [rsa.length, List.length_map]
  have lb : us.length = ys.length := by rw [rsb.length, List.length_map]
  refine ⟨a, b, vs, us, rfl, rfl, sqa, sqb, Nat.le_of_lt (small6 (by omega)), fun e => ?_, fun _ e => ?_, fun _ _ q n => ?_⟩
  · have : xs = [] := List.length_eq_zero_iff.mp (by rw [← la, e]; rfl)
    subst this
    exact p.here m r2 f
  · have : ys = [] := List.length_eq_zero_iff.mp (by rw [← lb, e]; rfl)
    subst this
    rw [List.append_nil] at f
    exact p.here m r1 f
  · exact p.grown m (new_same n) (new_tup m n (by rw [List.map_append]; exact repVs_app rsa rsb)) f
theorem sd_tupA {ds : List PyData} {lo hi : Option Int} (f : Φ (.d (.tuple (cutD ds lo hi))) M) : SlD K (rSlA K) (.d (.tuple ds)) lo hi M Φ := fun φ ψ H v Q m r p => by
  obtain ⟨a, vs, rfl, sq, rs⟩ := tupD r
  have la : vs.length = ds.length := by rw [rs.length, List.length_map]
  refine ⟨a, vs, rfl, sq, fun e => ?_, fun _ q n => ?_⟩
  · rw [la] at e
    have z : cutD ds lo hi = ds := by
      unfold cutD
      rw [e.1, e.2, List.drop_zero, Nat.sub_zero, List.take_length]
    rw [z] at f
    exact p.here m r f
  · have rc := repVs_cut lo hi rs
    rw [cutD_map] at rc
    exact p.grown m (new_same n) (new_tup m n rc) f
/-- the truth of a list, a tuple, an int -/
theorem tt_truT {ta : TE} {Φ : Bool → Mm → Prop} (h : ExD K ta sl M fun x M1 => ∃ ds, x = .d (.tuple ds) ∧ Φ (!ds.isEmpty) M1) : TtD K (fun σ H Q => ta σ H fun x H' => ∃ k, TruV K x H' k ∧ Q k H') sl M Φ := fun φ ψ σ H Q m s p =>
  h φ ψ σ H _ m s fun v x φ1 H1 M1 s1 m1 r1 h1 => by
    obtain ⟨ds, rfl, f⟩ := h1
    obtain ⟨a, vs, rfl, sq, rs⟩ := tupD r1
    have e : (!ds.isEmpty) = !vs.isEmpty := by
      cases ds with
      | nil => cases rs; rfl
      | cons d ds => cases rs; rfl
    rw [e] at f
    exact ⟨_, .inr (.inl ⟨vs, sq, rfl⟩), p _ φ1 H1 M1 s1 m1 f⟩
theorem tt_truL {ta : TE} {Φ : Bool → Mm → Prop} (h : ExD K ta sl M fun x M1 => ∃ xs, LsD M1 x xs ∧ Φ (!xs.isEmpty) M1) : TtD K (fun σ H Q => ta σ H fun x H' => ∃ k, TruV K x H' k ∧ Q k H') sl M Φ := fun φ ψ σ H Q m s p =>
  h φ ψ σ H _ m s fun v x φ1 H1 M1 s1 m1 r1 h1 => by
    obtain ⟨xs, ls, f⟩ := h1
    obtain ⟨a, vs, rfl, sq, rs⟩ := ls.sq m1 r1
    have e : (!xs.isEmpty) = !vs.isEmpty := by
      cases xs with
      | nil => cases rs; rfl
      | cons d ds => cases rs; rfl
    rw [e] at f
    exact ⟨_, .inl ⟨vs, sq, rfl⟩, p _ φ1 H1 M1 s1 m1 f⟩
theorem cd_max2 {i j : Int} (f : Φ (.d (.int (if j > i then j else i))) M) : CaD K (fun xs H Q => ∃ i j, xs = [.int i, .int j] ∧ Q (.int (if j > i then j else i)) H) [.d (.int i), .d (.int j)] M Φ := fun φ ψ H vs Q m r p => by
  cases r with | cons r1 t => ?_
  cases t with | cons r2 t => ?_
  cases t
  cases (show Dp K _ _ (.int i) from r1)
  cases (show Dp K _ _ (.int j) from r2)
  exact ⟨i, j, rfl, p.here m (x := .d (.int _)) (.int _) f⟩
theorem cd_min2 {i j : Int} (f : Φ (.d (.int (if j < i then j else i))) M) : CaD K (fun xs H Q => ∃ i j, xs = [.int i, .int j] ∧ Q (.int (if j < i then j else i)) H) [.d (.int i), .d (.int j)] M Φ := fun φ ψ H vs Q m r p => by
  cases r with | cons r1 t => ?_
  cases t with | cons r2 t => ?_
  cases t
  cases (show Dp K _ _ (.int i) from r1)
  cases (show Dp K _ _ (.int j) from r2)
  exact ⟨i, j, rfl, p.here m (x := .d (.int _)) (.int _) f⟩
theorem cd_abs {i : Int} (f : Φ (.d (.int (if i < 0 then -i else i))) M) : CaD K (fun xs H Q => ∃ i, xs = [.int i] ∧ Q (.int (if i < 0 then -i else i)) H) [.d (.int i)] M Φ := fun φ ψ H vs Q m r p => by
  cases r with | cons r1 t => ?_
  cases t
  cases (show Dp K _ _ (.int i) from r1)
  exact ⟨i, rfl, p.here m (x := .d (.int _)) (.int _) f⟩
end
/-! ### rules with K told -/
section
variable {X : Cx} {K : PySem.W.Frag}
theorem pg_tupK {es : List Expr} {k n : Nat} {pos : Pos} {t : TGs} (e : X.K = K) (calm : X.calm = true) (h : PGs X es t) (len : (assignEach es X.env).length = n := by rfl) (star : (assignEach es X.env).findIdx? (·.1) = none := by rfl) : PG X (.Tuple es k pos) (gTup K n t) := by
  subst e
  exact pg_tup calm h len star
theorem pt_truthK {a : Expr} {ta : TE} (e : X.K = K) (ha : PE X a ta) (he : ∀ whole, isTrue a X.env whole = (do let v ← whole; standAt a.pos; holding [v] (truthy v))) :
    PT X a (fun σ H Q => ta σ H fun x H' => ∃ k, TruV K x H' k ∧ Q k H') := by
  subst e
  exact pt_truth ha he
end
end Zs
namespace Zs
open PySem PySem.Spec PyProof.Rows L2
section
variable {K : PySem.W.Frag} {sl : Sl} {M : Mm} {Φ : Dv → Mm → Prop}
theorem take_snoc {α : Type} {xs : List α} {i : Nat} {x : α} (h : xs[i]? = some x) : xs.take (i + 1) = xs.take i ++ [x] := by
  obtain ⟨l, e⟩ := List.getElem?_eq_some_iff.mp h
  rw [List.take_succ, h]
  rfl
theorem map2_at {α : Type} {f : α → PyData} {rs : List α} {i : Nat} {x : Dv} (h : ((rs.map f).map Dv.d)[i]? = some x) : ∃ r, rs[i]? = some r ∧ x = .d (f r) := by
  rw [List.getElem?_map, List.getElem?_map] at h
  cases e : rs[i]? with
  | none => rw [e] at h; cases h
  | some r => rw [e] at h; exact ⟨r, rfl, (Option.some.inj h).symm⟩
theorem gs_consM {Ψ : Sl → Mm → Prop} {t : TG} {u : TGs} {x : PyData} {xs : List PyData} (h : GtD K t (.d x) sl M fun sl1 M1 => GsD K u (xs.map .d) sl1 M1 Ψ) : GsD K (gCons t u) ((x :: xs).map .d) sl M Ψ := gs_cons h
theorem gs_nilM {Ψ : Sl → Mm → Prop} (f : Ψ sl M) : GsD K gNil (([] : List PyData).map .d) sl M Ψ := gs_nil f
theorem cd_tupD {ds : List PyData} (f : Φ (.d (.tuple ds)) M) : CaD K (rTupA K) [.d (.list ds)] M Φ := cd_tupL lsD (dsOf_of ds) f
theorem cd_lenD {ds : List PyData} (f : Φ (.d (.int ds.length)) M) : CaD K (rLenA K) [.d (.list ds)] M Φ := cd_lenL lsD (by rw [List.length_map]; exact f)
/-- the answer, where nothing was given and nothing is kept -/
theorem out_0 {x : Dv} {M' : Mm} (p : x.pure) (f : Φ x []) : Out K 0 Φ x M' := ⟨Nat.zero_le _, by simp, .inl ⟨by cases x <;> first | trivial | exact p.elim, by simpa using f⟩⟩
theorem out_L {k : Nat} {xs : List Dv} {ds : List PyData} {M' : Mm} (e : M'[k]? = some (.lst xs)) (d : dsOf xs = some ds) (f : Φ (.d (.list ds)) []) : Out K 0 Φ (.r k) M' := ⟨Nat.zero_le _, by simp, .inr (.inl ⟨k, xs, ds, rfl, Nat.zero_le _, e, d, by simpa using f⟩)⟩
theorem out_T {k n : Nat} {f0 : List Key → Option Dv} {g : List Key → Option PyData} {M' : Mm} (e : M'[k]? = some (.dT f0 n)) (d : ∀ key, f0 key = (g key).map .d) (f : Φ (dctv K g) []) : Out K 0 Φ (.r k) M' := ⟨Nat.zero_le _, by simp, .inr (.inr ⟨k, f0, n, g, rfl, Nat.zero_le _, e, d, by simpa using f⟩)⟩
/-- a comprehension without a test, nothing changed: the items one by one -/
theorem ex_lcE {wi : TI} {g : TG} {tt : TT} {te : TE} {vs : List Nat} (mg : Mono1 g) (gw : GtW g vs) (h : ItD K wi sl M fun xs G M1 => ∃ es : List PyData, es.length = xs.length ∧ es.length ≤ 1000000 ∧ G M1 ∧
    (∀ (i : Nat) (x : Dv), xs[i]? = some x → GtD K g x (wipeD sl vs) M1 fun sl2 M2 => TtD K tt sl2 M2 fun b M3 => b = true ∧ ExD K te sl2 M3 fun y M4 => ∃ e, es[i]? = some e ∧ y = .d e ∧ M4 = M1) ∧ Φ (.d (.list es)) M1) : ExD K (tLc wi g tt te vs) sl M Φ := by
  refine ex_lc mg gw fun φ ψ σ H R m s p => h φ ψ σ H R m s fun J xs G φ' H' M' s' m' wk h' => p J xs G φ' H' M' s' m' wk ?_
  obtain ⟨es, len, few, g0, turn, q⟩ := h'
  refine ⟨fun i acc M2 => M2 = M' ∧ acc = es.take i, by omega, ⟨rfl, rfl⟩, ?_, ?_, ?_⟩
  · rintro i acc M2 ⟨rfl, rfl⟩
    exact ⟨g0, by rw [List.length_take]; omega⟩
  · rintro i x acc M2 hx ⟨rfl, rfl⟩
    intro φ1 ψ1 σ1 H1 v1 Q1 m1 s1 r1 p1
    refine turn i x hx φ1 ψ1 σ1 H1 v1 Q1 m1 s1 r1 fun φ2 H2 σ2 sl2 M2 st2 m2 s2 t2 => p1 φ2 H2 σ2 sl2 M2 st2 m2 s2 fun φ3 ψ3 σ3 H3 Q3 m3 s3 p3 => t2 φ3 ψ3 σ3 H3 Q3 m3 s3 fun b φ4 H4 M4 st4 m4 b4 => p3 b φ4 H4 M4 st4 m4 ?_
    obtain ⟨rfl, e4⟩ := b4
    rw [if_pos rfl]
    intro φ5 ψ5 σ5 H5 Q5 m5 s5 p5
    refine e4 φ5 ψ5 σ5 H5 Q5 m5 s5 fun v6 x6 φ6 H6 M6 st6 m6 r6 f6 => p5 v6 x6 φ6 H6 M6 st6 m6 r6 ?_
    obtain ⟨e, he, rfl, rfl⟩ := f6
    exact ⟨e, rfl, rfl, (take_snoc he).symm⟩
  · rintro acc M2 ⟨rfl, rfl⟩
    rw [← len, List.take_length]
    exact q
/-- with a test: the items for which it holds -/
theorem ex_lcF {wi : TI} {g : TG} {tt : TT} {te : TE} {vs : List Nat} (mg : Mono1 g) (gw : GtW g vs) (h : ItD K wi sl M fun xs G M1 => ∃ es : List (Option PyData), es.length = xs.length ∧ es.length ≤ 1000000 ∧ G M1 ∧
    (∀ (i : Nat) (x : Dv), xs[i]? = some x → GtD K g x (wipeD sl vs) M1 fun sl2 M2 => TtD K tt sl2 M2 fun b M3 => if b = true then ExD K te sl2 M3 fun y M4 => ∃ e, es[i]? = some (some e) ∧ y = .d e ∧ M4 = M1 else es[i]? = some none ∧ M3 = M1) ∧ Φ (.d (.list (es.filterMap id))) M1) : ExD K (tLc wi g tt te vs) sl M Φ := by
  refine ex_lc mg gw fun φ ψ σ H R m s p => h φ ψ σ H R m s fun J xs G φ' H' M' s' m' wk h' => p J xs G φ' H' M' s' m' wk ?_
  obtain ⟨es, len, few, g0, turn, q⟩ := h'
  refine ⟨fun i acc M2 => M2 = M' ∧ acc = (es.take i).filterMap id, by omega, ⟨rfl, rfl⟩, ?_, ?_, ?_⟩
  · rintro i acc M2 ⟨rfl, rfl⟩
    refine ⟨g0, Nat.le_trans (List.length_filterMap_le _ _) ?_⟩
    rw [List.length_take]
    omega
  · rintro i x acc M2 hx ⟨rfl, rfl⟩
    intro φ1 ψ1 σ1 H1 v1 Q1 m1 s1 r1 p1
    refine turn i x hx φ1 ψ1 σ1 H1 v1 Q1 m1 s1 r1 fun φ2 H2 σ2 sl2 M2 st2 m2 s2 t2 => p1 φ2 H2 σ2 sl2 M2 st2 m2 s2 fun φ3 ψ3 σ3 H3 Q3 m3 s3 p3 => t2 φ3 ψ3 σ3 H3 Q3 m3 s3 fun b φ4 H4 M4 st4 m4 b4 => p3 b φ4 H4 M4 st4 m4 ?_
    cases b with
    | true =>
      rw [if_pos rfl] at b4 ⊢
      intro φ5 ψ5 σ5 H5 Q5 m5 s5 p5
      refine b4 φ5 ψ5 σ5 H5 Q5 m5 s5 fun v6 x6 φ6 H6 M6 st6 m6 r6 f6 => p5 v6 x6 φ6 H6 M6 st6 m6 r6 ?_
      obtain ⟨e, he, rfl, rfl⟩ := f6
      refine ⟨e, rfl, rfl, ?_⟩
      rw [take_snoc he, List.filterMap_append]
      rfl
    | false =>
      rw [if_neg Bool.false_ne_true] at b4 ⊢
      obtain ⟨he, rfl⟩ := b4
      refine ⟨rfl, ?_⟩
      rw [take_snoc he, List.filterMap_append]
      simp
  · rintro acc M2 ⟨rfl, rfl⟩
    rw [← len, List.take_length]
    exact q
end
end Zs
namespace Zs
open PySem PySem.Spec PyProof.Rows L2
theorem rng_at {lo : Int} {n i : Nat} {x : Dv} (h : (rngD lo n)[i]? = some x) : i < n ∧ x = .d (.int (lo + (i : Nat))) := by
  have hi := (List.getElem?_eq_some_iff.mp h).1
  unfold rngD at h hi
  rw [List.length_map, List.length_range] at hi
  rw [List.getElem?_map, List.getElem?_range hi] at h
  exact ⟨hi, (Option.some.inj h).symm⟩
theorem rng0_at {n i : Nat} {x : Dv} (h : (rngD 0 n)[i]? = some x) : i < n ∧ x = .d (.int (i : Nat)) := by
  obtain ⟨a, b⟩ := rng_at h
  rw [Int.zero_add] at b
  exact ⟨a, b⟩
end Zs
namespace Zs
open PySem PySem.Spec PyProof.Rows L2
section
variable {K : PySem.W.Frag} {sl : Sl} {M : Mm} {Φ : Dv → Mm → Prop}
/-! ### displays of data -/
def AdD (K : PySem.W.Frag) (ta : TA) (sl : Sl) (M : Mm) (Φ : List PyData → Mm → Prop) : Prop := AxD K ta sl M fun xs M1 => ∃ ds, xs = ds.map .d ∧ Φ ds M1
theorem ad_nil {Φ : List PyData → Mm → Prop} (f : Φ [] M) : AdD K tNil sl M Φ := ax_nil ⟨[], rfl, f⟩
theorem ad_cons {Φ : List PyData → Mm → Prop} {ta : TE} {tr : TA} (h : ExD K ta sl M fun x M1 => ∃ d, x = .d d ∧ AdD K tr sl M1 fun ds M2 => Φ (d :: ds) M2) : AdD K (tCons ta tr) sl M Φ :=
  ax_cons fun φ ψ σ H Q m s p => h φ ψ σ H Q m s fun v x φ1 H1 M1 s1 m1 r1 h1 => p v x φ1 H1 M1 s1 m1 r1 fun φ2 ψ2 σ2 H2 Q2 m2 s2 p2 => by
    obtain ⟨d, rfl, h2⟩ := h1
    refine h2 φ2 ψ2 σ2 H2 Q2 m2 s2 fun vs xs φ3 H3 M3 s3 m3 r3 h3 => p2 vs xs φ3 H3 M3 s3 m3 r3 ?_
    obtain ⟨ds, rfl, f⟩ := h3
    exact ⟨d :: ds, rfl, f⟩
theorem ex_tupD {t : TA} (h : AdD K t sl M fun ds M1 => Nat.ble ds.length 1000 = true ∧ Φ (.d (.tuple ds)) M1) : ExD K (tTup t) sl M Φ :=
  ex_tup fun φ ψ σ H Q m s p => h φ ψ σ H Q m s fun vs xs φ1 H1 M1 s1 m1 r1 h1 => p vs xs φ1 H1 M1 s1 m1 r1 (by
    obtain ⟨ds, rfl, l, f⟩ := h1
    exact ⟨ds, dsOf_of ds, Nat.le_of_ble_eq_true l, f⟩)
theorem ex_lstD {t : TA} (h : AdD K t sl M fun ds M1 => Nat.ble ds.length 1000 = true ∧ Φ (.d (.list ds)) M1) : ExD K (tLst t) sl M Φ :=
  ex_lst fun φ ψ σ H Q m s p => h φ ψ σ H Q m s fun vs xs φ1 H1 M1 s1 m1 r1 h1 => p vs xs φ1 H1 M1 s1 m1 r1 (by
    obtain ⟨ds, rfl, l, f⟩ := h1
    exact ⟨ds, dsOf_of ds, Nat.le_of_ble_eq_true l, f⟩)
end
end Zs
namespace Zs
open PySem PySem.Spec PyProof.Rows L2
/-! ### data whose flat tuples are tracked -/
section
variable {K : PySem.W.Frag} {sl : Sl} {M : Mm} {Φ : Dv → Mm → Prop} {Ψ : Sl → Mm → Prop} {φ ψ : List Addr} {H : Hp} {v : V}
theorem rep_pd {x : PyData} (h : RepV K φ ψ H v (.p x)) : RepV K φ ψ H v (.d x) := dq_dp h
/-- read as a plain datum -/
theorem ex_varP {i : Nat} {x : PyData} (e : sl[i]? = some (some (.p x))) (f : Φ (.d x) M) : ExD K (tVar i) sl M Φ := fun φ ψ σ H Q m s p => by
  obtain ⟨v, ev, r⟩ := s.2 i _ e
  exact ⟨v, ev, p.here m (rep_pd r) f⟩
theorem repVs_p : ∀ {ds : List PyData} {vs : List V}, DqAll K (mask (φ ++ ψ) H) vs ds → RepVs K φ ψ H vs (ds.map .p)
  | _, _, .nil => .nil
  | _, _, .cons a r => .cons a (repVs_p r)
theorem of_repVs_p : ∀ {ds : List PyData} {vs : List V}, RepVs K φ ψ H vs (ds.map .p) → DqAll K (mask (φ ++ ψ) H) vs ds
  | [], _, .nil => .nil
  | _ :: _, _, .cons a r => .cons a (of_repVs_p r)
theorem tupP {ds : List PyData} (r : RepV K φ ψ H v (.p (.tuple ds))) : ∃ a vs, v = .ref a ∧ SqT K H a vs ∧ RepVs K φ ψ H vs (ds.map .p) := by
  cases (show Dq K _ v (.tuple ds) from r) with
  | tup s f h => exact ⟨_, _, rfl, seqT_same (mask_same _ _) s, repVs_p h⟩
theorem new_tupP (m : RepM K φ ψ H M) {p : Addr} {vs : List V} {ds : List PyData} (n : H p = none) (h : RepVs K φ ψ H vs (ds.map .p)) : RepV K φ ψ (upd H p (.tup vs)) (.ref p) (.p (.tuple ds)) :=
  show Dq K _ _ _ from .tup (.inl (.inl (mask_of (m.fresh n) upd_same))) (fun _ => mask_of (m.fresh n) upd_same) (dqAll_same (Same.mask (new_same n)) (of_repVs_p h))
theorem gd_tupP {n : Nat} {t : TGs} {ds : List PyData} (e : ds.length = n) (h : GsD K t (ds.map .p) sl M Ψ) : GtD K (gTup K n t) (.p (.tuple ds)) sl M Ψ := fun φ ψ σ H v Q m s r p => by
  obtain ⟨a, ws, rfl, sq, rs⟩ := tupP r
  exact ⟨a, ws, rfl, sq, by rw [rs.length, List.length_map]; exact e, h φ ψ σ H ws Q m s rs p⟩
theorem gs_consP {t : TG} {u : TGs} {x : PyData} {xs : List PyData} (h : GtD K t (.p x) sl M fun sl1 M1 => GsD K u (xs.map .p) sl1 M1 Ψ) : GsD K (gCons t u) ((x :: xs).map .p) sl M Ψ := gs_cons h
theorem gs_nilP (f : Ψ sl M) : GsD K gNil (([] : List PyData).map .p) sl M Ψ := gs_nil f
theorem map2_atP {α : Type} {f : α → PyData} {rs : List α} {i : Nat} {x : Dv} (h : ((rs.map f).map Dv.p)[i]? = some x) : ∃ r, rs[i]? = some r ∧ x = .p (f r) := by
  rw [List.getElem?_map, List.getElem?_map] at h
  cases e : rs[i]? with
  | none => rw [e] at h; cases h
  | some r => rw [e] at h; exact ⟨r, rfl, (Option.some.inj h).symm⟩
/-- over a tuple in a slot -/
theorem it_tupP {i : Nat} {ds : List PyData} {Ψ : List Dv → (Mm → Prop) → Mm → Prop} (e : sl[i]? = some (some (.p (.tuple ds)))) (f : Ψ (ds.map .p) (fun _ => True) M) : ItD K (iTup K (tVar i)) sl M Ψ := fun φ ψ σ H R m s p => by
  obtain ⟨v, ev, r1⟩ := s.2 i _ e
  obtain ⟨a, vs, rfl, sq, rs⟩ := tupP r1
  refine ⟨.ref a, ev, a, rfl, ⟨vs, sq⟩, p _ _ _ φ H M (.refl _ _) m (fun φ ψ H M l m _ => ?_) f⟩
  obtain ⟨a', vs', e, sq', rs'⟩ := tupP (RepV.ltr l r1)
  injection e with e
  subst e
  have len := rs'.length
  rw [List.length_map] at len
  have wk := walk_tup (K := K) (a := a) (xs := vs')
  refine ⟨fun i hi => wk.goes i H (by rw [List.length_map] at hi; omega) sq', by rw [List.length_map, ← len]; exact wk.stops H sq', fun i x v H' ex y => ?_⟩
  have hi : i < vs'.length := by
    have := (List.getElem?_eq_some_iff.mp ex).1
    rw [List.length_map] at this
    omega
  obtain ⟨rfl, ev⟩ := wk.yields i H v H' hi sq' y
  obtain ⟨x', ex', r⟩ := repVs_tA rs' ev
  have := Option.some.inj (ex'.symm.trans ex)
  subst this
  exact ⟨.refl _, r⟩
end
end Zs
namespace Zs
open PySem PySem.Spec PyProof.Rows L2
/-! ### walks whose items are new tuples, from GoesN -/
abbrev GoGives (J : It) (i : Nat) (H : Hp) (s : Shared) (v : Value) (h₂ : Heap) : Prop :=
  ∃ (T : Addr) (xs : List V) (vals : Array Value), v = .ref T ∧ s.heap.objs.size ≤ T ∧ h₂.IsTuple T vals ∧ Vals xs vals.toList ∧ xs.length ≤ sizeLine ∧ J.yld i H (.ref T) (upd H T (.tup xs))
theorem turn_of {P : Program} {w : World} {K : PySem.W.Frag} {tg : Expr} {J : It} {fp : List Addr} {it : Addr} {tn : Nat → Heap → Prop} (mem : it ∈ fp)
    (obj : ∀ i h, tn i h → ∀ b ∈ fp, ∃ o, h.get? b = some o ∧ ∀ v, o.data ≠ .cell v)
    (keep : ∀ i h h', tn i h → (∀ b ∈ fp, ∀ o, h.get? b = some o → h'.get? b = some o) → tn i h')
    (go : ∀ (X : Cx), X.prog = P → X.w = w → X.K = K → X.calm = true → ∀ (i : Nat) (pins : List (Addr × Obj)) (s : Shared) (σ : L2.St) (H : Hp), Inv X pins σ H s → tn i s.heap → J.go i H →
      ∃ (n : Nat) (Y : Nat → Heap → Value → Heap → Prop) (S : Nat → Heap → Prop) (fp' : List Addr), GoesN P w X.A tg it fp' fp n Y S ∧ i < n ∧ S i s.heap ∧ (∀ h₂, S (i + 1) h₂ → tn (i + 1) h₂) ∧ ∀ v h₂, Y i s.heap v h₂ → GoGives J i H s v h₂)
    (fin : ∀ (X : Cx), X.prog = P → X.w = w → X.K = K → X.calm = true → ∀ (i : Nat) (pins : List (Addr × Obj)) (s : Shared) (σ : L2.St) (H : Hp) (E : Value → Shared → Prop), Inv X pins σ H s → (∀ b ∈ fp, FpOk X pins H b) → tn i s.heap → J.stop i H →
      wpAny (model P w) X.A (pyNext (.ref it)) (fun r s1 => r = none ∧ Inv X pins σ H s1) E s)
    (self : ∀ (A : Around) (i : Nat) (s : Shared) (Q : Value → Shared → Prop) (E : Value → Shared → Prop), tn i s.heap → Q (.ref it) s → wpAny (model P w) A (pyIter (.ref it)) Q E s) : Turn P w K tg J fp it tn := by
  refine ⟨mem, obj, keep, ?_, fin, self⟩
  intro X eP ew eK calm i pins s σ H E inv ok tni goi
  obtain ⟨n, Y, S, fp', W, lt, si, next, gives⟩ := go X eP ew eK calm i pins s σ H inv tni goi
  refine W.goes i s (fun u s2 => ∃ x H', Inv X pins σ H' s2 ∧ RelV x u ∧ J.yld i H x H' ∧ tn (i + 1) s2.heap ∧ ∀ b ∈ fp, H' b = none) E lt si fun v h₂ tk y s2 kept _ => ?_
  obtain ⟨T, xs, vals, rfl, new, tup, rel, len, yld⟩ := gives v h₂ y
  subst eP ew
  have good : ObjOk X.prog X.w (upd H T (.tup xs)) h₂ T (.tup xs) := ⟨len, vals.toList, rel, by rw [Array.toArray_toList]; exact tup⟩
  refine ⟨.ref T, _, inv.turnedNew (t' := tk) kept ok new good, rfl, yld, next h₂ s2, fun b inFp => ?_⟩
  obtain ⟨ob, there, _⟩ := obj i _ tni b inFp
  rw [upd_ne (Nat.ne_of_lt (Nat.lt_of_lt_of_le (Heap.lt_size there) new))]
  exact (ok b inFp).1
/-! ### enumerate over a tuple -/
/-- the tuple at a, each item in a new pair with its place -/
def IteT (K : PySem.W.Frag) (a : Addr) : It where
  go i H := ∃ (xs : List V) (x : V), SqT K H a xs ∧ xs[i]? = some x
  yld i H v H' := ∃ T x, v = .ref T ∧ H T = none ∧ H' = upd H T (.tup [.int (i : Nat), x]) ∧ ∀ xs, SqT K H a xs → xs[i]? = some x
  stop i H := ∃ xs : List V, SqT K H a xs ∧ xs.length = i
/-- enumerate and its tuple's iterator at the i-th item -/
abbrev EnumAt (a e it : Addr) (i : Nat) (h : Heap) : Prop := ((∃ old, IsEnum h e it (0 + (i : Int)) old) ∧ h.IsTupleIter it a i) ∧ e ≠ it ∧ e ≠ a ∧ a ≠ it
theorem turn_enumT {P : Program} {w : World} {K : PySem.W.Frag} {elts : List Expr} {kk : Nat} {tpos : Pos} (a e it : Addr) : Turn P w K (.Tuple elts kk tpos) (IteT K a) [e, it] e (EnumAt a e it) := by
  refine turn_of (by simp) ?_ ?_ ?_ ?_ ?_
  · rintro i h ⟨⟨⟨old, en⟩, ⟨o, at_, _, data⟩⟩, _⟩ b hb
    rcases (show b = e ∨ b = it by simpa using hb) with rfl | rfl
    · exact ⟨_, en, fun v z => nomatch z⟩
    · refine ⟨o, at_, fun v z => ?_⟩
      rw [data] at z
      cases z
  · rintro i h h' ⟨⟨⟨old, en⟩, ti⟩, apart⟩ kept
    exact ⟨⟨⟨old, kept e (by simp) _ en⟩, ti.at fun o at_ => kept it (by simp) o at_⟩, apart⟩
  · rintro X rfl rfl rfl calm i pins s σ H inv ⟨⟨en, ti⟩, ei, ea, ai⟩ ⟨xs, x, sq, atx⟩
    obtain ⟨its, rel, tup, len⟩ := inv.tuple sq
    obtain ⟨u, atu, rxu⟩ := rel.get atx
    have lt : i < its.toArray.size := by
      have z := (List.getElem?_eq_some_iff.mp atu).1
      simpa using z
    refine ⟨_, _, _, _, GoesN.enumFrom 0 (Draws.tuple (A := X.A.in1) (inv.ok.hd calm) it a ai its.toArray) e ei (by simp [ei, ea]) (by simp), lt, ⟨en, ti, tup⟩, fun h₂ z => ⟨⟨z.1, z.2.1⟩, ei, ea, ai⟩, ?_⟩
    rintro v h₂ ⟨T, t, y, rfl, new, aty, tupT⟩
    have yu : y = u := Option.some.inj (aty.symm.trans (by simpa using atu))
    subst yu
    refine ⟨T, [.int (i : Nat), x], _, rfl, new, tupT, .cons ⟨t, ?_⟩ (.cons rxu .nil), by show 2 ≤ sizeLine; decide, T, x, rfl, inv.hok.fresh new, rfl, fun ys sq' => ?_⟩
    · rw [Int.zero_add]
    · rw [inv.tuple_inj sq' sq]
      exact atx
  · rintro X rfl rfl rfl calm i pins s σ H E inv ok ⟨⟨⟨old, en⟩, ti⟩, ei, ea, ai⟩ ⟨xs, sq, full⟩
    obtain ⟨its, rel, tup, len⟩ := inv.tuple sq
    obtain ⟨n1, n2, n3, n4, n5, n6⟩ := ok it (by simp)
    have size : its.toArray.size = i := by
      have z := rel.length
      simp
      omega
    refine wpAny_pyNext_enum_endD (Draws.tuple (A := X.A.in1) (inv.ok.hd calm) it a ai its.toArray) en ⟨?_, tup⟩ fun h₂ kept => ⟨rfl, inv.turned (t' := s.toks) kept n1 n2 n4 n5 n6⟩
    rw [size]
    exact ti
  · rintro A i s Q E ⟨⟨⟨old, en⟩, _⟩, _⟩ q
    exact wpAny_pyIter_enum en q
/-- enumerate(v): what it makes -/
theorem enum_makes {v : Value} {o : Obj} {pre : Heap → Prop} (B : Begins v o pre) :
    Meets (Builtin.«enumerate.__new__» ⟨[.type "enumerate", v], []⟩) (fun _ R s => pre s.heap ∧
      R (.ok (.ret (.ref (s.heap.push o).objs.size))) { s with heap := (s.heap.push o).push { cls := .type "enumerate", data := .fields #[.none, .bool false, .ref s.heap.objs.size, rawInt 0, .none, .none] } }) := by
  refine .of_wp fun prog w A R s ⟨holds, done⟩ => ?_
  obtain ⟨hp, gens, drawn, toks, os⟩ := s
  have under := sub_enumerate
  have iter : ∀ {B' : Around} {E : Value → Shared → Prop} {Q : Value → Shared → Prop}, Q (.ref hp.objs.size) ⟨hp.push o, gens, drawn, toks, os⟩ → wpAny (model prog w) B' (pyIter v) Q E ⟨hp, gens, drawn, toks, os⟩ := fun q => B.iter prog w _ _ ⟨hp, gens, drawn, toks, os⟩ _ holds q
  wp_walk using iter
  refine wpAny_stack_any fun frames => wpAny_pure ?_
  split
  · rename_i cl _ _ _ _ _
    cases (cl == Value.type "enumerate") <;> (wp_walk using iter; exact ⟨_, rfl, done⟩)
  · wp_walk using iter
    exact ⟨_, rfl, done⟩
theorem call_enum1 {prog : Program} {w : World} {A : Around} {E : Value → Shared → Prop} {s : Shared} {v : Value} {o : Obj} {pre : Heap → Prop} {Q : Value → Shared → Prop} (B : Begins v o pre) (holds : pre s.heap)
    (q : ∀ h₂, IsEnum h₂ (s.heap.objs.size + 1) s.heap.objs.size 0 .none → h₂.get? s.heap.objs.size = some o → (∀ b u, s.heap.get? b = some u → h₂.get? b = some u) → Q (.ref (s.heap.objs.size + 1)) { s with heap := h₂ }) :
    wpAny (model prog w) A (call (.type "enumerate") [v]) Q E s := by
  refine callType_new F.called_enumerate (by decide) (F.typeCall_enumerate_1 _) (F.newCall_enumerate_1 _) (fun ob => F.args_object_init_2 ob _) F.entry_enumerate_new (enum_makes B) ⟨holds, ?_⟩
  have size1 : (s.heap.push o).objs.size = s.heap.objs.size + 1 := by rw [Heap.size_push]
  have made := Heap.get?_push_size (s.heap.push o) (o := { cls := .type "enumerate", data := .fields #[.none, .bool false, .ref s.heap.objs.size, rawInt 0, .none, .none] }) rfl
  show _ ∧ _
  rw [size1] at made ⊢
  exact ⟨⟨_, made, rfl⟩, q _ made (Heap.get?_push_of_some _ (Heap.get?_push_size _ B.free)) fun b u z => Heap.get?_push_of_some _ (Heap.get?_push_of_some _ z)⟩
def iEnumT (K : PySem.W.Frag) (ta : TA) : TI := fun σ H R => ta σ H fun vs H1 => ∃ a xs, vs = [.ref a] ∧ SqT K H1 a xs ∧ R (IteT K a) H1
theorem pi_enumT {X : Cx} {e : Expr} {ta : TA} {p pos tpos : Pos} {elts : List Expr} {kk : Nat} (hg : Gl X "enumerate") (hm : X.mg "enumerate" = none) (ha : PA X [e] ta) (star : starEach [e] X.env = [(false, eval e X.env)] := by rfl) :
    PI X (.Tuple elts kk tpos) (.Call (.Name "enumerate" p) [e] [] pos) (iEnumT X.K ta) := by
  constructor
  intro pins s σ H R inv read
  refine Call_ (ld_blt inv hg hm boot_enumerate (PyProof.Rows.callWith_type1 (thn (ha.run pos pins s σ H _ inv read) ?_) star rfl))
  rintro us s1 ⟨vs, H1, inv1, rel1, a, xs, rfl, sq, rest⟩
  rw [Vals.ref1 rel1]
  obtain ⟨its, rel, tup, len⟩ := inv1.tuple sq
  have below : a < s1.heap.objs.size := tup.lt
  refine call_enum1 (begins_tuple a its.toArray) tup fun h₂ en iterAt kept => wpAny_pyIter_enum en ?_
  refine ⟨s1.heap.objs.size + 1, [s1.heap.objs.size + 1, s1.heap.objs.size], _, _, H1, rfl, inv1.kept (t' := s1.toks) kept, turn_enumT a (s1.heap.objs.size + 1) s1.heap.objs.size, ⟨⟨⟨.none, en⟩, _, iterAt, rfl, rfl⟩, Nat.succ_ne_self _, Nat.ne_of_gt (Nat.lt_succ_of_lt below), Nat.ne_of_lt below⟩, fun b hb => ?_, rest⟩
  have large : s1.heap.objs.size ≤ b := by
    rcases (show b = s1.heap.objs.size + 1 ∨ b = s1.heap.objs.size by simpa using hb) with rfl | rfl
    · exact Nat.le_succ _
    · exact Nat.le_refl _
  exact inv1.fpOk large (inv1.hok.fresh large)
/-- for i, x in enumerate(t): the loop, by an invariant of its turns -/
theorem for_enumT {K : PySem.W.Frag} {a : Addr} {xs : List V} {g : TG} {tb : TS} {D : Ends} {σ₀ : L2.St} {H₀ : Hp} (Pv : Nat → L2.St → Hp → Prop) (start : Pv 0 σ₀ H₀) (stays : ∀ i σ H, i ≤ xs.length → Pv i σ H → SqT K H a xs)
    (turn : ∀ i x σ H T, xs[i]? = some x → Pv i σ H → H T = none → g (.ref T) σ (upd H T (.tup [.int (i : Nat), x])) fun σ2 H2 => tb { D with nx := Pv (i + 1), ct := Pv (i + 1), bk := D.nx } σ2 H2) (after : ∀ σ H, Pv xs.length σ H → D.nx σ H) :
    ∃ W : Nat → Nat → L2.St → Hp → Prop, (∃ m, W 0 m σ₀ H₀) ∧ ∀ i m σ H, W i m σ H → ((IteT K a).stop i H ∧ D.nx σ H) ∨
      ((IteT K a).go i H ∧ ∃ N : L2.St → Hp → Prop, (∀ σ' H', N σ' H' → ∃ m', m' < m ∧ W (i + 1) m' σ' H') ∧ ∀ x H', (IteT K a).yld i H x H' → g x σ H' fun σ2 H2 => tb { D with nx := N, ct := N, bk := D.nx } σ2 H2) := by
  refine ⟨fun i m σ H => i + m = xs.length ∧ Pv i σ H, ⟨xs.length, Nat.zero_add _, start⟩, ?_⟩
  rintro i m σ H ⟨sum, inv⟩
  have sq := stays i σ H (by omega) inv
  cases m with
  | zero =>
    have full : xs.length = i := sum.symm
    refine .inl ⟨⟨xs, sq, full⟩, after σ H ?_⟩
    rw [full]
    exact inv
  | succ m =>
    have lt : i < xs.length := by omega
    refine .inr ⟨⟨xs, xs[i], sq, List.getElem?_eq_getElem lt⟩, Pv (i + 1), fun σ' H' z => ⟨m, Nat.lt_succ_self m, by omega, z⟩, ?_⟩
    rintro x H' ⟨T, y, rfl, fresh, rfl, at_⟩
    exact turn i y σ H T (at_ xs sq) inv fresh
end Zs
namespace Zs
open PySem PySem.Spec PyProof.Rows L2
section
variable {K : PySem.W.Frag} {sl : Sl} {M : Mm} {Φ : Dv → Mm → Prop} {Ψ : List Dv → (Mm → Prop) → Mm → Prop} {nx : Sl → Mm → Prop} {rt : Dv → Mm → Prop} {bk ct : Sl → Mm → Prop}
/-! ### enumerate over a tuple of data -/
def enumD (ds : List PyData) : List Dv := (List.range ds.length).map fun i : Nat => .d (.tuple [.int (i : Nat), ds.getD i .none])
def enumP (ds : List PyData) : List Dv := (List.range ds.length).map fun i : Nat => .p (.tuple [.int (i : Nat), ds.getD i .none])
theorem enumD_at {ds : List PyData} {i : Nat} {x : Dv} (h : (enumD ds)[i]? = some x) : ∃ y, ds[i]? = some y ∧ x = .d (.tuple [.int (i : Nat), y]) := by
  have hi := (List.getElem?_eq_some_iff.mp h).1
  unfold enumD at h hi
  rw [List.length_map, List.length_range] at hi
  rw [List.getElem?_map, List.getElem?_range hi] at h
  refine ⟨ds[i], List.getElem?_eq_getElem hi, ?_⟩
  have this := Option.some.inj h
  rw [← this]
  show Dv.d (.tuple [.int (i : Nat), ds.getD i .none]) = _
  rw [List.getD_eq_getElem?_getD, List.getElem?_eq_getElem hi]
  rfl
theorem enumP_at {ds : List PyData} {i : Nat} {x : Dv} (h : (enumP ds)[i]? = some x) : ∃ y, ds[i]? = some y ∧ x = .p (.tuple [.int (i : Nat), y]) := by
  have hi := (List.getElem?_eq_some_iff.mp h).1
  unfold enumP at h hi
  rw [List.length_map, List.length_range] at hi
  rw [List.getElem?_map, List.getElem?_range hi] at h
  refine ⟨ds[i], List.getElem?_eq_getElem hi, ?_⟩
  have this := Option.some.inj h
  rw [← this]
  show Dv.p (.tuple [.int (i : Nat), ds.getD i .none]) = _
  rw [List.getD_eq_getElem?_getD, List.getElem?_eq_getElem hi]
  rfl
theorem enumD_len (ds : List PyData) : (enumD ds).length = ds.length := by unfold enumD; simp
theorem enumP_len (ds : List PyData) : (enumP ds).length = ds.length := by unfold enumP; simp
theorem enumD_map {α : Type} {f : α → PyData} {rs : List α} {i : Nat} {x : Dv} (h : (enumD (rs.map f))[i]? = some x) : ∃ r, rs[i]? = some r ∧ x = .d (.tuple [.int (i : Nat), f r]) := by
  obtain ⟨y, e, rfl⟩ := enumD_at h
  rw [List.getElem?_map] at e
  cases q : rs[i]? with
  | none => rw [q] at e; cases e
  | some r => rw [q] at e; exact ⟨r, rfl, by rw [← Option.some.inj e]⟩
theorem enumP_map {α : Type} {f : α → PyData} {rs : List α} {i : Nat} {x : Dv} (h : (enumP (rs.map f))[i]? = some x) : ∃ r, rs[i]? = some r ∧ x = .p (.tuple [.int (i : Nat), f r]) := by
  obtain ⟨y, e, rfl⟩ := enumP_at h
  rw [List.getElem?_map] at e
  cases q : rs[i]? with
  | none => rw [q] at e; cases e
  | some r => rw [q] at e; exact ⟨r, rfl, by rw [← Option.some.inj e]⟩
theorem it_enumT {ta : TA} (h : AxD K ta sl M fun xs M1 => ∃ ds, xs = [.d (.tuple ds)] ∧ Ψ (enumD ds) (fun _ => True) M1) : ItD K (iEnumT K ta) sl M Ψ := fun φ ψ σ H R m s p =>
  h φ ψ σ H _ m s fun vs xs φ1 H1 M1 s1 m1 r1 h1 => by
    obtain ⟨ds, rfl, f⟩ := h1
    cases r1 with | cons r t => ?_
    cases t
    obtain ⟨a, ws, rfl, sq, rs⟩ := tupD r
    refine ⟨a, ws, rfl, sq, p _ _ _ φ1 H1 M1 s1 m1 (fun φ ψ H M l m _ => ?_) f⟩
    obtain ⟨a', ws', e, sq', rs'⟩ := tupD (RepV.ltr l r)
    injection e with e
    subst e
    have len := rs'.length
    rw [List.length_map] at len
    refine ⟨fun i hi => ?_, ⟨ws', sq', by rw [enumD_len]; exact len⟩, fun i x v H' ex y => ?_⟩
    · rw [enumD_len, ← len] at hi
      exact ⟨ws', ws'[i], sq', List.getElem?_eq_getElem hi⟩
    · obtain ⟨d, ed, rfl⟩ := enumD_at ex
      obtain ⟨T, w1, rfl, n, rfl, e1⟩ := y
      exact ⟨new_same n, new_tup m n (ds := [.int (i : Nat), d]) (.cons (.int _) (.cons (repVs_tD rs' (e1 ws' sq') ed) .nil))⟩
theorem it_enumP {j : Nat} {ds : List PyData} (e : sl[j]? = some (some (.p (.tuple ds)))) (f : Ψ (enumP ds) (fun _ => True) M) : ItD K (iEnumT K (tCons (tVar j) tNil)) sl M Ψ := fun φ ψ σ H R m s p => by
  obtain ⟨v, ev, r⟩ := s.2 j _ e
  obtain ⟨a, ws, rfl, sq, rs⟩ := tupP r
  refine ⟨.ref a, ev, a, ws, rfl, sq, p _ _ _ φ H M (.refl _ _) m (fun φ ψ H M l m _ => ?_) f⟩
  obtain ⟨a', ws', e, sq', rs'⟩ := tupP (RepV.ltr l r)
  injection e with e
  subst e
  have len := rs'.length
  rw [List.length_map] at len
  refine ⟨fun i hi => ?_, ⟨ws', sq', by rw [enumP_len]; exact len⟩, fun i x v H' ex y => ?_⟩
  · rw [enumP_len, ← len] at hi
    exact ⟨ws', ws'[i], sq', List.getElem?_eq_getElem hi⟩
  · obtain ⟨d, ed, rfl⟩ := enumP_at ex
    obtain ⟨T, w1, rfl, n, rfl, e1⟩ := y
    obtain ⟨x', ex', rx⟩ := repVs_tA rs' (e1 ws' sq')
    rw [List.getElem?_map, ed] at ex'
    have := Option.some.inj ex'
    subst this
    exact ⟨new_same n, new_tupP m n (ds := [.int (i : Nat), d]) (.cons (show Dq K _ _ _ from .int _) (.cons rx .nil))⟩
/-! ### dicts of one's own -/
def putD {κ : Type} [DecidableEq κ] (f : κ → Option Dv) (k : κ) (y : Dv) : κ → Option Dv := fun j => if j = k then some y else f j
theorem RepT.put {φ ψ : List Addr} {H : Hp} {κ : Type} [DecidableEq κ] {ws : List (κ × V)} {f : κ → Option Dv} {k : κ} {u : V} {y : Dv} (h : RepT K φ ψ H (valV ws) f) (r : RepV K φ ψ H u y) : RepT K φ ψ H (valV (putK ws k u)) (putD f k y) := by
  refine ⟨fun j e => ?_, fun j z e => ?_⟩
  · unfold putD at e
    rw [valV_put]
    by_cases q : j = k
    · rw [if_pos q] at e; cases e
    · rw [if_neg q] at e ⊢
      exact h.no j e
  · unfold putD at e
    rw [valV_put]
    by_cases q : j = k
    · rw [if_pos q] at e ⊢
      have := Option.some.inj e
      subst this
      exact ⟨u, rfl, r⟩
    · rw [if_neg q] at e ⊢
      exact h.yes j z e
theorem ex_dnewT (f : Φ (.r M.length) (M ++ [.dT (fun _ => none) 0])) : ExD K tDNewT sl M Φ := fun φ ψ σ H Q m s p q n => by
  obtain ⟨s2, m2⟩ := m.push (c := .dT (fun _ => none) 0) (o := .dT []) n ⟨[], upd_same, Nat.le_refl _, fun _ _ => rfl, fun _ _ e => by cases e⟩
  exact p _ (.r M.length) _ _ _ s2 m2 ⟨q, by rw [← m.len, List.getElem?_append_right (Nat.le_refl _), Nat.sub_self]; rfl, rfl⟩ f
theorem own_wrT {φ ψ : List Addr} {H : Hp} {k n : Nat} {a : Addr} {ws : List (List Key × V)} {f : List Key → Option Dv} (m : RepM K φ ψ H M) (ea : φ[k]? = some a) (l : ws.length ≤ n) (rs : RepT K φ ψ H (valV ws) f) : Stp φ H φ (upd H a (.dT ws)) ∧ RepM K φ ψ (upd H a (.dT ws)) (M.set k (.dT f n)) := by
  have ma : a ∈ φ := List.mem_of_getElem? ea
  have st : Stp φ H φ (upd H a (.dT ws)) := ⟨⟨[], by simp⟩, fun _ z => .inl z, fun b u n e => by
    rw [upd_ne (fun z => n (by rw [z]; exact ma))]
    exact e⟩
  exact m.set ea ⟨ws, upd_same, l, rs.stp st⟩
def keyD : Key → PyData
  | .inl i => .int i
  | .inr x => .str x
theorem key_plain {φ ψ : List Addr} {H : Hp} {v : V} {ks : List Key} (ne : ks ≠ []) (r : RepV K φ ψ H v (.p (.tuple (ks.map keyD)))) : ∃ b, v = .ref b ∧ H b = some (.tup (ks.map kV)) := by
  cases (show Dq K _ v (.tuple (ks.map keyD)) from r) with
  | tup s f h =>
    rename_i a xs
    have e : xs = ks.map kV ∧ (ks ≠ [] → flatN xs = true) := by
      clear s f r
      have aux : ∀ (ks : List Key) (xs : List V), DqAll K (mask (φ ++ ψ) H) xs (ks.map keyD) → xs = ks.map kV ∧ xs.all (fun v => match v with | .int _ => true | .str _ => true | _ => false) = true := by
        intro ks
        induction ks with
        | nil => intro xs h; cases h; exact ⟨rfl, rfl⟩
        | cons k ks ih =>
          intro xs h
          cases h with | cons h1 h2 => ?_
          obtain ⟨e1, e2⟩ := ih _ h2
          cases k with
          | inl i => cases (show Dq K _ _ (.int i) from h1); exact ⟨by rw [e1]; rfl, by rw [List.all_cons, e2]; rfl⟩
          | inr i => cases (show Dq K _ _ (.str i) from h1); exact ⟨by rw [e1]; rfl, by rw [List.all_cons, e2]; rfl⟩
      obtain ⟨e1, e2⟩ := aux ks xs h
      refine ⟨e1, fun ne => ?_⟩
      cases xs with
      | nil => cases ks with
        | nil => exact absurd rfl ne
        | cons _ _ => cases e1
      | cons x xs => exact e2
    refine ⟨a, rfl, ?_⟩
    rw [← e.1]
    exact (of_mask (f (e.2 ne))).2
/-- d[x] = e, the key in a slot -/
theorem st_dputV {td tv : TE} {j : Nat} {ks : List Key} (ej : sl[j]? = some (some (.p (.tuple (ks.map keyD))))) (ne : ks ≠ []) (h : ExD K tv sl M fun y M1 => ExD K td sl M1 fun x M2 => ∃ k f n, x = .r k ∧ M2[k]? = some (.dT f n) ∧ n < 1000000 ∧ nx sl (M2.set k (.dT (putD f ks y) (n + 1)))) : StD K (sDPut td (tVar j) tv) sl M ⟨nx, rt, bk, ct⟩ := fun φ ψ σ H D m s F =>
  h φ ψ σ H _ m s fun u y φ1 H1 M1 s1 m1 r1 h1 => h1 φ1 ψ σ H1 _ m1 (s.stp s1) fun v x φ2 H2 M2 s2 m2 r2 h2 => by
    obtain ⟨k, f, n, rfl, ek, few, q⟩ := h2
    have s12 := s1.trans s2
    obtain ⟨w, ew, rw_⟩ := (s.stp s12).2 j _ ej
    obtain ⟨b, rfl, eb⟩ := key_plain ne rw_
    obtain ⟨a, ea, rfl⟩ := r2
    obtain ⟨ws, z, l, rt⟩ := m2.at_ k a _ ea ek
    obtain ⟨s3, m3⟩ := own_wrT (n := n + 1) m2 ea (by have := length_putK ws ks u; omega) (rt.put (k := ks) (RepV.stp s2 r1))
    exact ⟨.ref b, ew, a, _, rfl, DPut.t z eb (small6 (by omega)), F.nx φ2 _ σ sl _ (s12.trans s3) m3 (s.stp (s12.trans s3)) q⟩
/-- d[(a, b)] -/
theorem ex_dgetP {td : TE} {t : TA} (h : ExD K td sl M fun x M1 => ∃ f, x = dctv K f ∧ AxD K t sl M1 fun ys M2 => ∃ i j d, ys = [.d (.int i), .d (.int j)] ∧ f [Sum.inl i, Sum.inl j] = some d ∧ Φ (.d d) M2) : ExD K (tDGet td (tTup t)) sl M Φ := fun φ ψ σ H Q m s p =>
  h φ ψ σ H _ m s fun v x φ1 H1 M1 s1 m1 r1 h1 => by
    obtain ⟨f, rfl, h2⟩ := h1
    refine h2 φ1 ψ σ H1 _ m1 (s.stp s1) fun vs ys φ2 H2 M2 s2 m2 r2 h3 => ?_
    obtain ⟨i, j, d, rfl, ef, q⟩ := h3
    cases r2 with | cons ri t2 => ?_
    cases t2 with | cons rj t2 => ?_
    cases t2
    cases (show Dp K _ _ (.int i) from ri)
    cases (show Dp K _ _ (.int j) from rj)
    refine ⟨by show 2 ≤ sizeLine; decide, fun b nb => ?_⟩
    obtain ⟨dA, dm⟩ := RepV.stp s2 r1
    obtain ⟨a, kvs, rfl, ea, no, tab⟩ := dA
    obtain ⟨u, eu, du⟩ := tab _ _ ef
    have ea2 : H2 a = some (.dT kvs) := (of_mask ea).2
    refine ⟨a, u, rfl, ?_, ((p.stp s1).stp s2).grown m2 (new_same nb) (x := .d d) (dp_same (Same.mask (new_same nb)) du) q⟩
    rw [← eu]
    exact DGet.t (k := [Sum.inl i, Sum.inl j]) (new_same nb _ _ ea2) upd_same
end
end Zs
namespace Zs
open PySem PySem.Spec PyProof.Rows L2
/-! ### numbers -/
def CPowW (i j : Int) : Prop := 0 ≤ j ∧ (Builtin.Int.intBits i : Int) * j ≤ 2 ^ 27
theorem op_powW {X : Cx} : OpR X (binaryOp .Pow) (rI CPowW fun i j => .int (i ^ j.toNat)) := opI fun _ _ _ _ _ _ _ hc q => pow_int hc.1 hc.2 q
theorem bits_of {i : Int} {b : Nat} (h : i.natAbs < 2 ^ b) : Builtin.Int.intBits i ≤ b := intBits_le h
theorem powW_of {i j : Int} {b : Nat} (h : i.natAbs < 2 ^ b) (h0 : 0 ≤ j) (hj : (b : Int) * j ≤ 2 ^ 27) : CPowW i j := by
  refine ⟨h0, Int.le_trans ?_ hj⟩
  have := bits_of h
  exact Int.mul_le_mul_of_nonneg_right (by omega) h0
/-! ### heaps -/
theorem same_upd {H : Hp} {p : Addr} {o : HO} (h : H p = none) : Same H (upd H p o) := fun b x e => by
  rw [upd_ne (ne_of_none e h)]
  exact e
/-- all but what stands at a is as it was -/
def But (a : Addr) (H H' : Hp) : Prop := ∀ b o, b ≠ a → H b = some o → H' b = some o
theorem But.refl (a : Addr) (H : Hp) : But a H H := fun _ _ _ h => h
theorem But.trans {a : Addr} {H H1 H2 : Hp} (x : But a H H1) (y : But a H1 H2) : But a H H2 := fun b o n h => y b o n (x b o n h)
theorem But.of {a : Addr} {H H' : Hp} (x : Same H H') : But a H H' := fun b o _ h => x b o h
theorem But.wr {a : Addr} {H : Hp} {o : HO} : But a H (upd H a o) := fun b x n h => by rw [upd_ne n]; exact h
theorem But.new {a p : Addr} {H H' : Hp} {o : HO} (x : But a H H') (h : H' p = none) : But a H (upd H' p o) := x.trans (.of (same_upd h))
theorem But.seqT {K : PySem.W.Frag} {a p : Addr} {H H' : Hp} {xs ys : List V} (x : But a H H') (ha : H a = some (.lst ys)) (h : SqT K H p xs) : SqT K H' p xs := by
  rcases h with (h | ⟨o, h⟩) | h
  · exact .inl (.inl (x _ _ (ne_of h ha (by intro z; cases z)) h))
  · exact .inl (.inr ⟨o, x _ _ (ne_of h ha (by intro z; cases z)) h⟩)
  · exact .inr h
theorem But.seqL {K : PySem.W.Frag} {a p : Addr} {H H' : Hp} {xs : List V} (x : But a H H') (n : p ≠ a) (h : SqL K H p xs) : SqL K H' p xs := by
  rcases h with (h | ⟨o, h⟩) | h
  · exact .inl (.inl (x _ _ n h))
  · exact .inl (.inr ⟨o, x _ _ n h⟩)
  · exact .inr h
theorem same_seqT {K : PySem.W.Frag} {p : Addr} {H H' : Hp} {xs : List V} (x : Same H H') (h : SqT K H p xs) : SqT K H' p xs := by
  rcases h with (h | ⟨o, h⟩) | h
  · exact .inl (.inl (x _ _ h))
  · exact .inl (.inr ⟨o, x _ _ h⟩)
  · exact .inr h
/-! ### a def by its name -/
structure Cal (P : Program) (w : World) (K : PySem.W.Frag) (mg : Str → Option Value) (base : Heap) (CX : CXT) (k : Nat) (x : Str) (ps : List Str) (sp : Sp) : Prop where
  ex : ∃ (f : Addr) (fd : FuncData), mg x = some (.ref f) ∧ PySem.W.keepIn K (.ref f) = true ∧ Binds K fd ps [] ∧ FnOk P w K mg base CX k f fd ps sp
theorem Cal.mono {P : Program} {w : World} {K : PySem.W.Frag} {mg : Str → Option Value} {base : Heap} {CX : CXT} {j k : Nat} {x : Str} {ps : List Str} {sp : Sp} (C : Cal P w K mg base CX j x ps sp) (h : j ≤ k) : Cal P w K mg base CX k x ps sp := by
  obtain ⟨f, fd, a, b, c, d⟩ := C.ex
  exact ⟨f, fd, a, b, c, d.mono h⟩
/-- a call's first argument is a plain one; so are the others -/
abbrev Plain1 (X : Cx) (e : Expr) (es : List Expr) : Prop := starEach (e :: es) X.env = (false, eval e X.env) :: starEach es X.env
abbrev PlainR (X : Cx) (pos : Pos) (es : List Expr) : Prop := (backTo pos (starEach es X.env)).any (·.1) = false
theorem pe_cal {X : Cx} {CX : CXT} {k : Nat} {ps : List Str} {sp : Sp} {E : XK} {x : Str} {p pos : Pos} {e : Expr} {es : List Expr} {t : TA} (C : Cal X.prog X.w X.K X.mg X.base CX k x ps sp) (hr : Room k X.A) (hx : Passes CX X E) (hg : Gl X x)
    (args : PA X (e :: es) t) (own : (x == ("__debug__" : Str)) = false := by decide) (one : Plain1 X e es := by rfl) (rest : PlainR X pos es := by rfl) : PE X (.Call (.Name x p) (e :: es) [] pos) (tCall sp [] E t) := by
  obtain ⟨f, fd, named, held, binds, keeps⟩ := C.ex
  exact pe_call keeps hr hg named held binds .nil hx args own one rest
theorem pe_cal0 {X : Cx} {CX : CXT} {k : Nat} {ps : List Str} {sp : Sp} {E : XK} {x : Str} {p pos : Pos} (C : Cal X.prog X.w X.K X.mg X.base CX k x ps sp) (hr : Room k X.A) (hx : Passes CX X E) (hg : Gl X x)
    (hdb : (x == ("__debug__" : Str)) = false := by decide) : PE X (.Call (.Name x p) [] [] pos) (tCall sp [] E tNil) := by
  obtain ⟨f, fd, hm, hk, hb, F⟩ := C.ex
  exact pe_call0 F hr hg hm hk hb .nil hx hdb
/-- built-in names that the text leaves alone -/
structure Bl (mg : Str → Option Value) : Prop where
  len_ : mg "len" = none
  abs_ : mg "abs" = none
  int_ : mg "int" = none
  max_ : mg "max" = none
  min_ : mg "min" = none
  range_ : mg "range" = none
  isinstance_ : mg "isinstance" = none
  bool_ : mg "bool" = none
  tuple_ : mg "tuple" = none
  list_ : mg "list" = none
  all_ : mg "all" = none
  enumerate_ : mg "enumerate" = none
  set_ : mg "set" = none
  zip_ : mg "zip" = none
  any_ : mg "any" = none
  sorted_ : mg "sorted" = none
  dict_ : mg "dict" = none
/-! ### the source of drawn numbers -/
def Src (H : Hp) (a : Addr) (n : Nat) : Prop := ∃ (x b : Int) (c : Nat), H a = some (.lst [.int x, .int b, .int (c : Int)]) ∧ 0 ≤ x ∧ 0 ≤ b ∧ b < 2 ^ 62 ∧ c ≤ n
theorem Src.mono {H : Hp} {a : Addr} {n m : Nat} (h : Src H a n) (l : n ≤ m) : Src H a m := by
  obtain ⟨x, b, c, e, h0, h1, h2, h3⟩ := h
  exact ⟨x, b, c, e, h0, h1, h2, Nat.le_trans h3 l⟩
theorem Src.same {H H' : Hp} {a : Addr} {n : Nat} (h : Src H a n) (s : Same H H') : Src H' a n := by
  obtain ⟨x, b, c, e, r⟩ := h
  exact ⟨x, b, c, s _ _ e, r⟩
theorem Src.lst {H : Hp} {a : Addr} {n : Nat} (h : Src H a n) : ∃ ys, H a = some (.lst ys) := by
  obtain ⟨x, b, c, e, _⟩ := h
  exact ⟨_, e⟩
end Zs
namespace Zs
open PySem PySem.Spec PyProof.Rows L2
def topS (i : Nat) : Stmt := PySem.Challenge.pw_zipslack_k04_gaps_and_pairs.main.body.getD i (.Pass ⟨0, 0, 0, 0⟩)
abbrev sDraw : Stmt := topS 43
theorem scDraw : FnScope ["_law_source_here", "_law_often", "_law_digit", "_law_primes", "_law_turn", "_law_base", "_law_found"] ["_law_source_here", "_law_often"] (defScope sDraw) := ⟨rfl, rfl, rfl, by decide +kernel, rfl, by decide +kernel, by decide +kernel⟩
abbrev sSrc : Stmt := topS 42
theorem scSrc : FnScope ["_law_script", "_law_at", "_law_cell", "_law_far"] ["_law_script", "_law_at"] (defScope sSrc) := ⟨rfl, rfl, rfl, by decide +kernel, rfl, by decide +kernel, by decide +kernel⟩
section
variable {P : Program} {w : World} {K : PySem.W.Frag} {mg : Str → Option Value} {base : Heap}
/-! ### _law_draw -/
def spDraw : Sp := fun vs H Q _ => ∃ (a : Addr) (m : Int) (n : Nat), vs = [.ref a, .int m] ∧ Src H a n ∧ n < 2 ^ 20 ∧ 0 < m ∧ m < 2 ^ 30 ∧
  ∀ (r : Int) (H' : Hp), 0 ≤ r → r < m → But a H H' → Src H' a (n + 1) → Q (.int r) H'
theorem primes_at {p : List V} (hp : p = [.int 2147483647, .int 2147483629, .int 2147483587, .int 2147483579, .int 2147483563, .int 2147483549, .int 2147483543, .int 2147483497]) {i : Int} (h0 : 0 ≤ i) (h1 : i < 8) :
    ∃ q : Int, atI p i = some (.int q) ∧ 0 < q ∧ q < 2 ^ 31 := by
  subst hp
  have h : i = 0 ∨ i = 1 ∨ i = 2 ∨ i = 3 ∨ i = 4 ∨ i = 5 ∨ i = 6 ∨ i = 7 := by omega
  rcases h with rfl | rfl | rfl | rfl | rfl | rfl | rfl | rfl
  all_goals exact ⟨_, rfl, by decide, by decide⟩
theorem ok_draw {f : Addr} {fd : FuncData} {k : Nat} (F : Fun K "_law_draw" "_law_draw" sDraw f fd) : FnOk P w K mg base CX0 (k + 1) f fd ["_law_source_here", "_law_often"] spDraw := by
  refine F.ok scDraw (fun vs H Q E h => ?_) (fun cdv A outer s H vs Q E hr h => ?_)
  · obtain ⟨a, m, n, rfl, _⟩ := h
    rfl
  · obtain ⟨a, m, n, rfl, ⟨x, b, c, ea, x0, b0, b1, hc⟩, hn, m0, m1, q⟩ := h
    refine ⟨_, (pss_cons (ps_if (pt_cmpR op_gt (pe_ix ix_list (pv 0) pe_int (fun _ _ => rfl)) pe_int (nomark _))
        (pss_cons (ps_set (i := 2) scDraw.nd rfl (Or.inl rfl) (pe_op op_mod (pe_ix ix_list (pv 0) pe_int (fun _ _ => rfl)) (pv 1)))
        (pss_cons (ps_asg (pe_op op_fdiv (pe_ix ix_list (pv 0) pe_int (fun _ _ => rfl)) (pv 1)) (pg_sub (pv 0) pe_int set_list))
        (pss_one (ps_ret (pv 2)))))
        pss_nil)
      (pss_cons (ps_set (i := 3) scDraw.nd rfl (Or.inl rfl) (pe_tup (pa_cons pe_int (pa_cons pe_int (pa_cons pe_int (pa_cons pe_int (pa_cons pe_int (pa_cons pe_int (pa_cons pe_int (pa_cons pe_int pa_nil))))))))))
      (pss_cons (ps_asg (pe_op op_add (pe_ix ix_list (pv 0) pe_int (fun _ _ => rfl)) pe_int) (pg_sub (pv 0) pe_int set_list))
      (pss_cons (ps_set (i := 4) scDraw.nd rfl (Or.inl rfl) (pe_ix ix_list (pv 0) pe_int (fun _ _ => rfl)))
      (pss_cons (ps_set (i := 5) scDraw.nd rfl (Or.inl rfl) (pe_op op_add (pe_op op_add (pe_op op_mul (pe_ix ix_list (pv 0) pe_int (fun _ _ => rfl)) (pe_op op_add (pe_op op_mul pe_int (pv 4)) pe_int)) (pe_op op_mul (pe_op op_mul pe_int (pv 4)) (pv 4))) pe_int))
      (pss_cons (ps_set (i := 6) scDraw.nd rfl (Or.inl rfl) (pe_op op_mod (pe_op op_powW (pv 5) pe_int) (pe_ix ix_tup (pv 3) (pe_op op_mod (pv 4) pe_int) (fun _ _ => rfl))))
      (pss_one (ps_ret (pe_op op_mod (pe_op op_fdiv (pe_op op_mod (pe_op op_mul (pv 6) (pe_op op_add (pe_op op_fdiv (pv 6) pe_int) pe_int)) (pe_ix ix_tup (pv 3) (pe_op op_mod (pe_op op_add (pv 4) pe_int) pe_int) (fun _ _ => rfl))) pe_int) (pv 1)))))))))), ?_⟩
    have sa : SqL K H a [.int x, .int b, .int (c : Int)] := .inl (.inl ea)
    refine ⟨.ref a, rfl, a, _, 0, _, rfl, rfl, sa, atI_nat (j := 0) rfl, x, 0, rfl, rfl, _, rfl, ite2 (fun e => ?_) (fun e => ?_)⟩
    · have e1 : 0 < x := of_decide_eq_true e
      refine ⟨.ref a, rfl, a, _, 0, _, rfl, rfl, sa, atI_nat (j := 0) rfl, .int m, rfl, x, m, rfl, rfl, m0, ?_⟩
      refine ⟨.ref a, rfl, a, _, 0, _, rfl, rfl, sa, atI_nat (j := 0) rfl, .int m, rfl, x, m, rfl, rfl, ⟨m0, m1⟩, ?_⟩
      refine ⟨.ref a, rfl, a, _, 0, 0, rfl, rfl, ea, rfl, ?_⟩
      refine ⟨_, rfl, q (x % m) _ (Int.emod_nonneg _ (by omega)) (Int.emod_lt_of_pos _ m0) .wr ⟨x / m, b, c, upd_same, Int.ediv_nonneg x0 (by omega), b0, b1, by omega⟩⟩
    · refine ⟨by show 8 ≤ sizeLine; decide, fun p np => ?_⟩
      have nap : a ≠ p := ne_of_none ea np
      have ea1 : (upd H p (.tup [.int 2147483647, .int 2147483629, .int 2147483587, .int 2147483579, .int 2147483563, .int 2147483549, .int 2147483543, .int 2147483497])) a = some (.lst [.int x, .int b, .int (c : Int)]) := by
        rw [upd_ne nap]; exact ea
      generalize hH1 : upd H p (.tup [.int 2147483647, .int 2147483629, .int 2147483587, .int 2147483579, .int 2147483563, .int 2147483549, .int 2147483543, .int 2147483497]) = H1 at ea1
      have ep1 : H1 p = some (.tup [.int 2147483647, .int 2147483629, .int 2147483587, .int 2147483579, .int 2147483563, .int 2147483549, .int 2147483543, .int 2147483497]) := by rw [← hH1]; exact upd_same
      have b01 : But a H H1 := by rw [← hH1]; exact .of (same_upd np)
      have sa1 : SqL K H1 a [.int x, .int b, .int (c : Int)] := .inl (.inl ea1)
      refine ⟨.ref a, rfl, a, _, 2, _, rfl, rfl, sa1, atI_nat (j := 2) rfl, _, _, rfl, rfl, .ref a, rfl, a, _, 2, 2, rfl, rfl, ea1, rfl, ?_⟩
      generalize hH2 : upd H1 a (.lst ([V.int x, V.int b, V.int (c : Int)].set 2 (.int ((c : Int) + 1)))) = H2
      have ea2 : H2 a = some (.lst [.int x, .int b, .int ((c : Int) + 1)]) := by rw [← hH2]; exact upd_same
      have ep2 : H2 p = some (.tup [.int 2147483647, .int 2147483629, .int 2147483587, .int 2147483579, .int 2147483563, .int 2147483549, .int 2147483543, .int 2147483497]) := by rw [← hH2, upd_ne nap.symm]; exact ep1
      have b02 : But a H H2 := b01.trans (by rw [← hH2]; exact .wr)
      have sa2 : SqL K H2 a [.int x, .int b, .int ((c : Int) + 1)] := .inl (.inl ea2)
      have sp2 : SqT K H2 p [.int 2147483647, .int 2147483629, .int 2147483587, .int 2147483579, .int 2147483563, .int 2147483549, .int 2147483543, .int 2147483497] := .inl (.inl ep2)
      have hc2 : (c : Int) < 2 ^ 20 := by omega
      obtain ⟨p1, a1, p10, p11⟩ := primes_at rfl (i := ((c : Int) + 1) % 8) (by omega) (by omega)
      obtain ⟨p2, a2, p20, p21⟩ := primes_at rfl (i := ((c : Int) + 1 + 5) % 8) (by omega) (by omega)
      -- turn, base
      refine ⟨.ref a, rfl, a, _, 2, _, rfl, rfl, sa2, atI_nat (j := 2) rfl, ?_⟩
      have hb1 : b * (2 * ((c : Int) + 1) + 3) < 2 ^ 62 * 2 ^ 22 := by
        have h1 : b * (2 * ((c : Int) + 1) + 3) ≤ b * 2 ^ 22 := Int.mul_le_mul_of_nonneg_left (by omega) b0
        have h2 : b * 2 ^ 22 < 2 ^ 62 * 2 ^ 22 := Int.mul_lt_mul_of_pos_right b1 (by decide)
        omega
      have hb0 : 0 ≤ b * (2 * ((c : Int) + 1) + 3) := Int.mul_nonneg b0 (by omega)
      have ht1 : 6317 * ((c : Int) + 1) * ((c : Int) + 1) ≤ 6317 * 2 ^ 21 * 2 ^ 21 := by
        have h1 : 6317 * ((c : Int) + 1) ≤ 6317 * 2 ^ 21 := by omega
        have h2 : 6317 * ((c : Int) + 1) * ((c : Int) + 1) ≤ 6317 * 2 ^ 21 * ((c : Int) + 1) := Int.mul_le_mul_of_nonneg_right h1 (by omega)
        have h3 : 6317 * 2 ^ 21 * ((c : Int) + 1) ≤ 6317 * 2 ^ 21 * 2 ^ 21 := Int.mul_le_mul_of_nonneg_left (by omega) (by decide)
        omega
      have ht0 : 0 ≤ 6317 * ((c : Int) + 1) * ((c : Int) + 1) := Int.mul_nonneg (by omega) (by omega)
      refine ⟨.ref a, rfl, a, _, 1, _, rfl, rfl, sa2, atI_nat (j := 1) rfl, .int ((c : Int) + 1), rfl, 2, _, rfl, rfl, .inl ⟨by decide, by decide⟩, 2 * ((c : Int) + 1), 3, rfl, rfl, b, 2 * ((c : Int) + 1) + 3, rfl, rfl, .inr ⟨by omega, by omega⟩, ?_⟩
      refine ⟨.int ((c : Int) + 1), rfl, 6317, _, rfl, rfl, .inl ⟨by decide, by decide⟩, .int ((c : Int) + 1), rfl, 6317 * ((c : Int) + 1), (c : Int) + 1, rfl, rfl, .inr ⟨by omega, by omega⟩, _, _, rfl, rfl, _, 71, rfl, rfl, ?_⟩
      obtain ⟨B, hB⟩ : ∃ B : Int, b * (2 * ((c : Int) + 1) + 3) + 6317 * ((c : Int) + 1) * ((c : Int) + 1) + 71 = B := ⟨_, rfl⟩
      have hBb : B.natAbs < 2 ^ 100 := by omega
      -- found
      refine ⟨.int B, by rw [← hB]; rfl, B, 3, rfl, rfl, powW_of hBb (by decide) (by decide), .ref p, rfl, .int ((c : Int) + 1), rfl, _, 8, rfl, rfl, (by show (0 : Int) < 8; decide), p, _, _, _, rfl, rfl, sp2, a1, B ^ (Int.toNat 3), p1, rfl, rfl, p10, ?_⟩
      obtain ⟨fo, hF⟩ : ∃ fo : Int, B ^ (Int.toNat 3) % p1 = fo := ⟨_, rfl⟩
      have f0 : 0 ≤ fo := by rw [← hF]; exact Int.emod_nonneg _ (by omega)
      have f1 : fo < 2 ^ 31 := by
        have := Int.emod_lt_of_pos (B ^ (Int.toNat 3)) p10
        omega
      have g0 : 0 ≤ fo / 4093 := Int.ediv_nonneg f0 (by decide)
      have g1 : fo / 4093 ≤ fo := Int.ediv_le_self _ f0
      -- the answer
      refine ⟨.int fo, by rw [← hF]; rfl, .int fo, by rw [← hF]; rfl, fo, 4093, rfl, rfl, ⟨by decide, by decide⟩, fo / 4093, 23, rfl, rfl, fo, fo / 4093 + 23, rfl, rfl, .inl ⟨by omega, by omega⟩, ?_⟩
      refine ⟨.ref p, rfl, .int ((c : Int) + 1), rfl, _, 5, rfl, rfl, (c : Int) + 1 + 5, 8, rfl, rfl, (by show (0 : Int) < 8; decide), p, _, _, _, rfl, rfl, sp2, a2, fo * (fo / 4093 + 23), p2, rfl, rfl, p20, _, 16, rfl, rfl, ⟨by decide, by decide⟩, .int m, rfl, _, m, rfl, rfl, m0, ?_⟩
      exact q _ H2 (Int.emod_nonneg _ (by omega)) (Int.emod_lt_of_pos _ m0) b02 ⟨x, b, c + 1, by rw [ea2]; rfl, x0, b0, b1, by omega⟩
theorem cal_draw {f : Addr} {fd : FuncData} (F : Fun K "_law_draw" "_law_draw" sDraw f fd) (g : mg "_law_draw" = some (.ref f)) : Cal P w K mg base CX0 1 "_law_draw" ["_law_source_here", "_law_often"] spDraw :=
  ⟨f, fd, g, F.kp, F.binds (ps := ["_law_source_here", "_law_often"]) fun _ _ _ _ _ _ us hl => match us, hl with | [_, _], _ => rfl, ok_draw F⟩
/-! ### _law_source -/
def spSrc (K : PySem.W.Frag) : Sp := fun vs H Q _ => ∃ (l : Addr) (ns : List Int) (i : Nat), vs = [.ref l, .int (i : Int)] ∧ SqL K H l (ns.map V.int) ∧ i ≤ 63 ∧
  ∀ (p : Addr) (H' : Hp), H p = none → Same H H' → Src H' p 0 → Q (.ref p) H'
theorem src_end {i cell : Int} (h0 : 0 ≤ i) (h1 : i ≤ 63) : 0 ≤ cell % 1000000000000000009 + 8821 * i * i + 57 * i + 5 ∧ cell % 1000000000000000009 + 8821 * i * i + 57 * i + 5 < 2 ^ 62 := by
  have e0 : 0 ≤ cell % 1000000000000000009 := Int.emod_nonneg _ (by decide)
  have e1 : cell % 1000000000000000009 < 1000000000000000009 := Int.emod_lt_of_pos _ (by decide)
  have m0 : 0 ≤ 8821 * i * i := Int.mul_nonneg (by omega) h0
  have m1 : 8821 * i * i ≤ 8821 * 63 * 63 := by
    have a1 : 8821 * i * i ≤ 8821 * 63 * i := Int.mul_le_mul_of_nonneg_right (by omega) h0
    omega
  omega
theorem ok_src {f : Addr} {fd : FuncData} {k : Nat} (T : Bl mg) (F : Fun K "_law_source" "_law_source" sSrc f fd) : FnOk P w K mg base CX0 (k + 1) f fd ["_law_script", "_law_at"] (spSrc K) := by
  refine F.ok scSrc (fun vs H Q E h => ?_) (fun cdv A outer s H vs Q E hr h => ?_)
  · obtain ⟨a, m, n, rfl, _⟩ := h
    rfl
  · obtain ⟨l, ns, i, rfl, hS, hi, q⟩ := h
    refine ⟨_, (pss_cons (ps_set (i := 2) scSrc.nd rfl (Or.inl rfl) pe_int)
      (pss_cons (ps_if (pt_cmpR op_lt (pv 1) (pe_callB call_len_seq (by rfl) T.len_ PySem.boot_len (pa_cons (pv 0) pa_nil)) (nomark _))
        (pss_one (ps_set (i := 2) scSrc.nd rfl (Or.inl rfl) (pe_ix ix_list (pv 0) (pv 1) (fun _ _ => rfl))))
        pss_nil)
      (pss_cons (ps_set (i := 3) scSrc.nd rfl (Or.inl rfl) (pe_callB call_abs (by rfl) T.abs_ (by decide +kernel) (pa_cons (pv 2) pa_nil)))
      (pss_one (ps_ret (pe_lst (pa_cons (pe_op op_mul (pv 3) (pe_callTy call_int1 (by rfl) T.int_ (by decide +kernel) (pa_cons (pe_cmpR op_ge (pv 3) (pe_op op_powW pe_int pe_int) (nomark _)) pa_nil))) (pa_cons (pe_op op_add (pe_op op_add (pe_op op_add (pe_op op_mod (pv 2) pe_int) (pe_op op_mul (pe_op op_mul pe_int (pv 1)) (pv 1))) (pe_op op_mul pe_int (pv 1))) pe_int) (pa_cons pe_int pa_nil))))))))), ?_⟩
    refine ⟨.int (i : Int), rfl, .ref l, rfl, l, _, rfl, .inl hS, _, _, rfl, rfl, _, rfl, ite2 (fun e => ?_) (fun e => ?_)⟩
    · have e1 : i < ns.length := by
        have := of_decide_eq_true e
        rw [List.length_map] at this
        omega
      have g : (ns.map V.int)[i]? = some (.int ns[i]) := by
        rw [List.getElem?_map, List.getElem?_eq_getElem e1]
        rfl
      refine ⟨.ref l, rfl, .int (i : Int), rfl, l, _, _, _, rfl, rfl, hS, atI_nat g, ?_⟩
      refine ⟨.int ns[i], rfl, _, rfl, ?_⟩
      obtain ⟨far, hfar⟩ : ∃ far : Int, (if ns[i] < 0 then -ns[i] else ns[i]) = far := ⟨_, rfl⟩
      have f0 : 0 ≤ far := by
        rw [← hfar]
        split <;> omega
      refine ⟨.int far, by rw [← hfar]; rfl, .int far, by rw [← hfar]; rfl, 10, 18, rfl, rfl, powW_of (b := 4) (by decide) (by decide) (by decide), far, _, rfl, rfl, .inr ⟨_, rfl, far, _, rfl, rfl, .inr ?_, ?_⟩⟩
      · split <;> exact ⟨by decide, by decide⟩
      refine ⟨.int ns[i], rfl, ns[i], 1000000000000000009, rfl, rfl, (by show (0 : Int) < 1000000000000000009; decide), .int (i : Int), rfl, 8821, _, rfl, rfl, .inl ⟨by decide, by decide⟩, .int (i : Int), rfl, 8821 * (i : Int), (i : Int), rfl, rfl, .inr ⟨by omega, by omega⟩, _, _, rfl, rfl,
        .int (i : Int), rfl, 57, _, rfl, rfl, .inl ⟨by decide, by decide⟩, _, _, rfl, rfl, _, 5, rfl, rfl, ?_⟩
      refine ⟨by show 3 ≤ sizeLine; decide, fun p np => q p _ np (same_upd np) ⟨_, _, 0, upd_same, ?_, (src_end (by omega) (by omega)).1, (src_end (by omega) (by omega)).2, Nat.le_refl _⟩⟩
      exact Int.mul_nonneg f0 (by split <;> decide)
    · refine ⟨.int 0, rfl, _, rfl, ?_⟩
      refine ⟨.int 0, rfl, .int 0, rfl, 10, 18, rfl, rfl, powW_of (b := 4) (by decide) (by decide) (by decide), 0, _, rfl, rfl, .inr ⟨_, rfl, 0, _, rfl, rfl, .inl ⟨by decide, by decide⟩, ?_⟩⟩
      refine ⟨.int 0, rfl, 0, 1000000000000000009, rfl, rfl, (by show (0 : Int) < 1000000000000000009; decide), .int (i : Int), rfl, 8821, _, rfl, rfl, .inl ⟨by decide, by decide⟩, .int (i : Int), rfl, 8821 * (i : Int), (i : Int), rfl, rfl, .inr ⟨by omega, by omega⟩, _, _, rfl, rfl,
        .int (i : Int), rfl, 57, _, rfl, rfl, .inl ⟨by decide, by decide⟩, _, _, rfl, rfl, _, 5, rfl, rfl, ?_⟩
      refine ⟨by show 3 ≤ sizeLine; decide, fun p np => q p _ np (same_upd np) ⟨_, _, 0, upd_same, ?_, (src_end (by omega) (by omega)).1, (src_end (by omega) (by omega)).2, Nat.le_refl _⟩⟩
      exact Int.mul_nonneg (by decide) (by split <;> decide)
end
end Zs
namespace Zs
open PySem PySem.Spec PyProof.Rows L2
abbrev sChoice : Stmt := topS 44
theorem scChoice : FnScope ["_law_source_here", "_law_some"] ["_law_source_here", "_law_some"] (defScope sChoice) := ⟨rfl, rfl, rfl, by decide +kernel, rfl, by decide +kernel, by decide +kernel⟩
abbrev sRows : Stmt := topS 45
theorem scRows : FnScope ["_law_source_here", "_law_most", "_law_max_teeth", "_law_zip_count", "_law_sorts", "_law_rings", "_law_k", "_law_sort", "_law_feet", "_law_number", "_law_side", "_law_home"] ["_law_source_here", "_law_most", "_law_max_teeth", "_law_zip_count"] (defScope sRows) := ⟨rfl, rfl, rfl, by decide +kernel, rfl, by decide +kernel, by decide +kernel⟩
/-! ### rules with K told, for the blocks of comprehensions -/
section
variable {X : Cx} {K : PySem.W.Frag}
theorem ix_listK (h : X.K = K) : IxR X (rIxL K) := by subst h; exact ix_list
theorem ix_tupK (h : X.K = K) : IxR X (rIxT K) := by subst h; exact ix_tup
theorem op_catAK (h : X.K = K) : OpR X (binaryOp .Add) (rCatA K) := by subst h; exact op_catA
def rLenQ (K : PySem.W.Frag) : List V → Hp → VK → Prop := fun xs H Q => ∃ p ys, xs = [.ref p] ∧ (SqL K H p ys ∨ SqT K H p ys) ∧ Q (.int ys.length) H
theorem call_lenK (h : X.K = K) : CallR X (.builtin "len") (rLenQ K) := by subst h; exact call_len_seq
def rTupQ (K : PySem.W.Frag) : List V → Hp → VK → Prop := fun xs H Q => ∃ p ys, xs = [.ref p] ∧ ((SqL K H p ys ∧ ∀ l, H l = none → Q (.ref l) (upd H l (.tup ys))) ∨ (SqT K H p ys ∧ Q (.ref p) H))
theorem call_tupleK (h : X.K = K) : CallR X (.type "tuple") (rTupQ K) := by subst h; exact call_tuple_of
def rTupF (K : PySem.W.Frag) : List V → Hp → VK → Prop := fun xs H Q => ∃ p ys, xs = [.ref p] ∧ SqL K H p ys ∧ ∀ (l : Addr) (o : Obj), o.dict = none → H l = none → Q (.ref l) (upd H l (.frz o (.tup ys)))
theorem call_tupleF (h : X.K = K) : CallR X (.type "tuple") (rTupF K) := by
  subst h
  rintro pins s σ H xs us Q inv vals ⟨p, ys, rfl, sq, q⟩
  rw [Vals.ref1 vals]
  obtain ⟨its, items, list, fits⟩ := inv.list sq
  have count : its.toArray.size ≤ sizeLine := by
    rw [List.size_toArray, ← items.length]
    exact fits
  refine call_tuple_list list.isList ?_ count
  intro heap kept
  have before := inv.kept (t' := s.toks) kept
  have free := before.hok.fresh (Nat.le_refl heap.objs.size)
  have known : ObjOk X.prog X.w (upd H heap.objs.size (.frz { cls := .type "tuple", data := .seq its.toArray } (.tup ys))) (heap.push { cls := .type "tuple", data := .seq its.toArray }) heap.objs.size (.frz { cls := .type "tuple", data := .seq its.toArray } (.tup ys)) :=
    ⟨Heap.get?_push_size _ rfl, fits, its, items, IsTup.new _ _⟩
  exact ⟨.ref heap.objs.size, _, before.laid (t' := s.toks) (fun _ _ at_ => Heap.get?_push_of_some _ at_) (Nat.le_refl _) known, rfl, q _ _ rfl free⟩
theorem call_isiK' (h : X.K = K) : CallR X (.builtin "isinstance") (rIsi K) := by subst h; exact call_isi
theorem pi_listK {tg l : Expr} {tl : TE} (h : X.K = K) (hl : PE X l tl) : PI X tg l (iList K tl) := by subst h; exact pi_list hl
theorem pi_tupK {tg l : Expr} {tl : TE} (h : X.K = K) (hl : PE X l tl) : PI X tg l (iTup K tl) := by subst h; exact pi_tup hl
theorem pe_fldK {e : Expr} {f : Str} {pos : Pos} {ta : TE} (h : X.K = K) (he : PE X e ta) (hb : attributeBase e f X.env (eval e X.env) = eval e X.env) : PE X (.Attribute e f pos) (tFld K ta f) := by subst h; exact pe_fld he hb
end
/-! ### further heaps -/
theorem But.wrNew {a p : Addr} {H H' : Hp} {o : HO} (x : But a H H') (h : H p = none) : But a H (upd H' p o) := fun b u n e => by
  rw [upd_ne (ne_of_none e h)]
  exact x b u n e
theorem But.none {a p : Addr} {H H' : Hp} (x : But a H H') (n : p ≠ a) (h : H' p = Option.none) : H p = Option.none := by
  cases q : H p with
  | none => rfl
  | some o =>
    rw [x p o n q] at h
    cases h
def sortS (b : Bool) : Str := if b then "ring" else "line"
abbrev Hd := Bool × Int
abbrev Foot := Int × Int
structure Row where
  ring : Bool
  teeth : Int
  feet : List Foot
/-- a tuple of two whole numbers -/
def TupF (H : Hp) (t : Addr) (x : Foot) : Prop := H t = some (.tup [.int x.1, .int x.2])
def TupH (H : Hp) (t : Addr) (x : Hd) : Prop := H t = some (.tup [.str (sortS x.1), .int x.2])
/-- a tuple of feet -/
def FzT (H : Hp) (t : Addr) (ys : List V) : Prop := ∃ o : Obj, o.dict = none ∧ H t = some (.frz o (.tup ys))
theorem FzT.sq {K : PySem.W.Frag} {H : Hp} {t : Addr} {ys : List V} (h : FzT H t ys) : SqT K H t ys := by
  obtain ⟨o, _, e⟩ := h
  exact .inl (.inr ⟨o, e⟩)
def TupFs (H : Hp) (t : Addr) (xs : List Foot) : Prop := ∃ ts : List Addr, FzT H t (ts.map V.ref) ∧ Paired (TupF H) ts xs
def LstFs (H : Hp) (t : Addr) (xs : List Foot) : Prop := ∃ ts : List Addr, H t = some (.lst (ts.map V.ref)) ∧ Paired (TupF H) ts xs
def TupR (H : Hp) (t : Addr) (r : Row) : Prop := ∃ f : Addr, H t = some (.tup [.str (sortS r.ring), .int r.teeth, .ref f]) ∧ TupFs H f r.feet
def TupRs (H : Hp) (t : Addr) (rs : List Row) : Prop := ∃ ts : List Addr, H t = some (.tup (ts.map V.ref)) ∧ Paired (TupR H) ts rs
/-- tuples stay -/
def TpO : HO → Prop
  | .tup _ => True
  | .frz _ (.tup _) => True
  | _ => False
structure Tp (H H' : Hp) : Prop where
  ok : ∀ b u, H b = some u → TpO u → H' b = some u
instance {H H' : Hp} : CoeFun (Tp H H') (fun _ => ∀ b xs, H b = some (.tup xs) → H' b = some (.tup xs)) := ⟨fun x b xs e => x.ok b _ e trivial⟩
theorem Tp.refl (H : Hp) : Tp H H := ⟨fun _ _ h _ => h⟩
theorem Tp.trans {H H1 H2 : Hp} (x : Tp H H1) (y : Tp H1 H2) : Tp H H2 := ⟨fun b u h o => y.ok b u (x.ok b u h o) o⟩
theorem Tp.of {H H' : Hp} (x : Same H H') : Tp H H' := ⟨fun b u h _ => x b _ h⟩
theorem But.tp {a : Addr} {H H' : Hp} (x : But a H H') {ys : List V} (h : H a = some (.lst ys)) : Tp H H' := ⟨fun b u e o => x b _ (ne_of e h (by intro z; subst z; exact o)) e⟩
theorem Tp.wr {H : Hp} {p : Addr} {ys : List V} {o : HO} (h : H p = some (.lst ys)) : Tp H (upd H p o) := ⟨fun b u e ok => by
  rw [upd_ne (ne_of e h (by intro z; subst z; exact ok))]
  exact e⟩
theorem Tp.new {H : Hp} {p : Addr} {o : HO} (h : H p = none) : Tp H (upd H p o) := .of (same_upd h)
theorem TupFs.tp {H H' : Hp} {t : Addr} {xs : List Foot} (h : TupFs H t xs) (x : Tp H H') : TupFs H' t xs := by
  obtain ⟨ts, ⟨o, d, e⟩, r⟩ := h
  exact ⟨ts, ⟨o, d, x.ok _ _ e trivial⟩, Paired.mono (fun _ _ z => x _ _ z) r⟩
theorem FzT.tp {H H' : Hp} {t : Addr} {ys : List V} (h : FzT H t ys) (x : Tp H H') : FzT H' t ys := by
  obtain ⟨o, d, e⟩ := h
  exact ⟨o, d, x.ok _ _ e trivial⟩
theorem TupR.tp {H H' : Hp} {t : Addr} {r : Row} (h : TupR H t r) (x : Tp H H') : TupR H' t r := by
  obtain ⟨f, e, q⟩ := h
  exact ⟨f, x _ _ e, q.tp x⟩
theorem TupRs.tp {H H' : Hp} {t : Addr} {rs : List Row} (h : TupRs H t rs) (x : Tp H H') : TupRs H' t rs := by
  obtain ⟨ts, e, r⟩ := h
  exact ⟨ts, x _ _ e, Paired.mono (fun _ _ z => z.tp x) r⟩
section
variable {P : Program} {w : World} {K : PySem.W.Frag} {mg : Str → Option Value} {base : Heap}
/-! ### _law_choice -/
def spChoice (K : PySem.W.Frag) : Sp := fun vs H Q _ => ∃ (a l : Addr) (xs : List V) (n : Nat), vs = [.ref a, .ref l] ∧ Src H a n ∧ n < 2 ^ 20 ∧ l ≠ a ∧ SqL K H l xs ∧ 0 < xs.length ∧ xs.length < 2 ^ 30 ∧
  ∀ (j : Nat) (x : V) (H' : Hp), xs[j]? = some x → But a H H' → Src H' a (n + 1) → Q x H'
theorem ok_choice {f : Addr} {fd : FuncData} (T : Bl mg) (F : Fun K "_law_choice" "_law_choice" sChoice f fd) (cDraw : Cal P w K mg base CX0 1 "_law_draw" ["_law_source_here", "_law_often"] spDraw) : FnOk P w K mg base CX0 2 f fd ["_law_source_here", "_law_some"] (spChoice K) := by
  refine F.ok scChoice (fun vs H Q E h => ?_) (fun cdv A outer s H vs Q E hr h => ?_)
  · obtain ⟨a, l, xs, n, rfl, _⟩ := h
    rfl
  · obtain ⟨a, l, xs, n, rfl, hs, hn, hla, hl, h0, h1, q⟩ := h
    refine ⟨_, (pss_one (ps_ret (pe_ix ix_list (pv 1) (pe_cal cDraw (hr.mono (by decide)) pass0 (by rfl) (pa_cons (pv 0) (pa_cons (pe_callB call_len_seq (by rfl) T.len_ PySem.boot_len (pa_cons (pv 1) pa_nil)) pa_nil))) (fun _ _ => rfl)))), ?_⟩
    refine ⟨.ref l, rfl, .ref a, rfl, .ref l, rfl, l, xs, rfl, .inl hl, a, (xs.length : Int), n, rfl, hs, hn, by omega, by omega, fun r H' r0 r1 hb hs' => ?_⟩
    obtain ⟨j, rfl⟩ := Int.eq_ofNat_of_zero_le r0
    have hj : j < xs.length := by omega
    exact ⟨l, xs, (j : Int), xs[j], rfl, rfl, hb.seqL hla hl, atI_nat (List.getElem?_eq_getElem hj), q j _ H' (List.getElem?_eq_getElem hj) hb hs'⟩
theorem cal_choice {f : Addr} {fd : FuncData} (T : Bl mg) (F : Fun K "_law_choice" "_law_choice" sChoice f fd) (cDraw : Cal P w K mg base CX0 1 "_law_draw" ["_law_source_here", "_law_often"] spDraw) (g : mg "_law_choice" = some (.ref f)) : Cal P w K mg base CX0 2 "_law_choice" ["_law_source_here", "_law_some"] (spChoice K) :=
  ⟨f, fd, g, F.kp, F.binds (ps := ["_law_source_here", "_law_some"]) fun _ _ _ _ _ _ us hl => match us, hl with | [_, _], _ => rfl, ok_choice T F cDraw⟩
end
end Zs
namespace Zs
open PySem PySem.Spec PyProof.Rows L2
/-! ### what _law_rows gives -/
def allFeet (n : Nat) : List Foot := (List.range n).flatMap fun (z : Nat) => [((z : Int), 0), ((z : Int), 1)]
theorem allFeet_succ (n : Nat) : allFeet (n + 1) = allFeet n ++ [((n : Int), 0), ((n : Int), 1)] := by
  unfold allFeet
  rw [List.range_succ, List.flatMap_append]
  rfl
structure RowsOk (most mt : Int) (zc : Nat) (rs : List Row) : Prop where
  pos : 1 ≤ rs.length
  few : (rs.length : Int) ≤ most
  rings : rs.countP (·.ring) ≤ 2
  teeth : ∀ r ∈ rs, 1 ≤ r.teeth ∧ r.teeth ≤ mt
  feet : (rs.flatMap (·.feet)).Perm (allFeet zc)
def spRows : Sp := fun vs H Q _ => ∃ (a : Addr) (most mt : Int) (zc n : Nat), vs = [.ref a, .int most, .int mt, .int (zc : Int)] ∧ 1 ≤ most ∧ most ≤ 6 ∧ 1 ≤ mt ∧ mt ≤ 24 ∧ zc ≤ 8 ∧ Src H a n ∧ n + 60 < 2 ^ 20 ∧
  ∀ (p : Addr) (H' : Hp) (rs : List Row), But a H H' → Src H' a (n + 60) → TupRs H' p rs → RowsOk most mt zc rs → Q (.ref p) H'
theorem sort_of {j : Nat} {x : V} (h : ([.str "line", .str "line", .str "ring"] : List V)[j]? = some x) : ∃ b, x = .str (sortS b) := by
  match j, h with
  | 0, h => exact ⟨false, (Option.some.inj h).symm⟩
  | 1, h => exact ⟨false, (Option.some.inj h).symm⟩
  | 2, h => exact ⟨true, (Option.some.inj h).symm⟩
  | j + 3, h => simp at h
theorem nodup_snoc {α : Type} {l : List α} {x : α} (h : l.Nodup) (n : x ∉ l) : (l ++ [x]).Nodup := by
  rw [List.nodup_append]
  refine ⟨h, by simp, fun a ha b hb e => ?_⟩
  rw [List.mem_singleton.mp hb] at e
  exact n (e ▸ ha)
theorem sort_int (b : Bool) : (if decide (V.str (sortS b) = V.str "ring") = true then (1 : Int) else 0) = if b then 1 else 0 := by
  cases b <;> decide +kernel

theorem flat_ins {x : Foot} {i : Nat} : ∀ {ft : List (List Foot)} {j : Nat} {l : List Foot}, ft[j]? = some l → (ft.set j (l.take i ++ [x] ++ l.drop i)).flatten.Perm (x :: ft.flatten)
  | [], j, l, h => by simp at h
  | k :: r, 0, l, h => by
    have e : k = l := Option.some.inj h
    subst e
    show ((k.take i ++ [x] ++ k.drop i) ++ r.flatten).Perm (x :: (k ++ r.flatten))
    have h1 : (k.take i ++ [x] ++ k.drop i).Perm (x :: k) := by
      have h2 : (k.take i ++ [x] ++ k.drop i).Perm (x :: (k.take i ++ k.drop i)) := by
        rw [List.append_assoc]
        exact List.perm_middle
      rw [List.take_append_drop] at h2
      exact h2
    exact h1.append_right _
  | k :: r, j + 1, l, h => by
    show (k ++ (r.set j (l.take i ++ [x] ++ l.drop i)).flatten).Perm (x :: (k ++ r.flatten))
    have ih := flat_ins (x := x) (i := i) (ft := r) (j := j) (l := l) h
    exact (ih.append_left k).trans List.perm_middle
theorem paired_take {α β : Type} {F : α → β → Prop} : ∀ {l : List α} {m : List β} (i : Nat), Paired F l m → Paired F (l.take i) (m.take i)
  | _, _, 0, _ => .nil
  | _, _, _ + 1, .nil => .nil
  | _, _, i + 1, .cons r t => .cons r (paired_take i t)
theorem paired_drop {α β : Type} {F : α → β → Prop} : ∀ {l : List α} {m : List β} (i : Nat), Paired F l m → Paired F (l.drop i) (m.drop i)
  | _, _, 0, r => r
  | _, _, _ + 1, .nil => .nil
  | _, _, i + 1, .cons _ t => paired_drop i t
theorem paired_app {α β : Type} {F : α → β → Prop} : ∀ {l l' : List α} {m m' : List β}, Paired F l m → Paired F l' m' → Paired F (l ++ l') (m ++ m')
  | _, _, _, _, .nil, s => s
  | _, _, _, _, .cons r t, s => .cons r (paired_app t s)
theorem paired_get {α β : Type} {F : α → β → Prop} : ∀ {l : List α} {m : List β} {i : Nat} {x : α}, Paired F l m → l[i]? = some x → ∃ y, m[i]? = some y ∧ F x y
  | _, _, _, _, .nil, h => by simp at h
  | _, _, 0, x, .cons (b := b) r t, h => by
    have e := Option.some.inj h
    subst e
    exact ⟨b, rfl, r⟩
  | _, _, i + 1, x, .cons r t, h => paired_get (i := i) t h
/-- the lists of feet while they are filled -/
structure FS (H : Hp) (a S D : Addr) (fs : List Addr) : Prop where
  nd : fs.Nodup
  fa : ∀ f ∈ fs, f ≠ a ∧ f ≠ S ∧ f ≠ D ∧ H f = none
  hS : H S = none
  hD : H D = none
  Sa : S ≠ a
  Da : D ≠ a
structure FI (H H6 : Hp) (a S D : Addr) (ts fs : List Addr) (hs : List Hd) (ft : List (List Foot)) (done : List Foot) (m : Nat) : Prop where
  but : But a H H6
  src : Src H6 a m
  eS : H6 S = some (.lst (ts.map V.ref))
  tu : Paired (TupH H6) ts hs
  eD : H6 D = some (.lst (fs.map V.ref))
  len : ft.length = fs.length
  at_ : ∀ (j : Nat) (f : Addr) (l : List Foot), fs[j]? = some f → ft[j]? = some l → LstFs H6 f l
  perm : ft.flatten.Perm done
theorem FI.go {H H6 H7 : Hp} {a S D : Addr} {ts fs : List Addr} {hs : List Hd} {ft : List (List Foot)} {done : List Foot} {m m' : Nat} (x : FI H H6 a S D ts fs hs ft done m) (z : FS H a S D fs) (b : But a H6 H7) (s : Src H7 a m') : FI H H7 a S D ts fs hs ft done m' := by
  obtain ⟨ys, ea⟩ := x.src.lst
  have tp := b.tp ea
  refine ⟨x.but.trans b, s, b _ _ z.Sa x.eS, Paired.mono (fun _ _ y => tp _ _ y) x.tu, b _ _ z.Da x.eD, x.len, fun j f l hf hl => ?_, x.perm⟩
  obtain ⟨us, e, r⟩ := x.at_ j f l hf hl
  exact ⟨us, b _ _ (z.fa f (List.mem_of_getElem? hf)).1 e, Paired.mono (fun _ _ y => tp _ _ y) r⟩
theorem FI.ins {H H6 : Hp} {a S D t f : Addr} {ts fs us : List Addr} {hs : List Hd} {ft : List (List Foot)} {done : List Foot} {m i j : Nat} {l : List Foot} {y : Foot} (x : FI H H6 a S D ts fs hs ft done m) (z : FS H a S D fs)
    (hf : fs[j]? = some f) (hl : ft[j]? = some l) (nt : H6 t = none) (ef : H6 f = some (.lst (us.map V.ref))) (pr : Paired (TupF H6) us l) :
    FI H (upd (upd H6 t (.tup [.int y.1, .int y.2])) f (.lst ((us.map V.ref).take i ++ [.ref t] ++ (us.map V.ref).drop i))) a S D ts fs hs (ft.set j (l.take i ++ [y] ++ l.drop i)) (done ++ [y]) m := by
  obtain ⟨fa, fS, fD, fn⟩ := z.fa f (List.mem_of_getElem? hf)
  have ef' : (upd H6 t (.tup [.int y.1, .int y.2])) f = some (.lst (us.map V.ref)) := by rw [upd_ne (ne_of_none ef nt)]; exact ef
  have tf : t ≠ f := (ne_of_none ef nt).symm
  have tp : Tp H6 (upd (upd H6 t (.tup [.int y.1, .int y.2])) f (.lst ((us.map V.ref).take i ++ [.ref t] ++ (us.map V.ref).drop i))) := (Tp.new nt).trans (Tp.wr ef')
  have keep : ∀ b o, b ≠ f → H6 b = some o → (upd (upd H6 t (.tup [.int y.1, .int y.2])) f (.lst ((us.map V.ref).take i ++ [.ref t] ++ (us.map V.ref).drop i))) b = some o := fun b o n e => by
    rw [upd_ne n, upd_ne (ne_of_none e nt)]; exact e
  refine ⟨(x.but.new nt).wrNew fn, ?_, keep _ _ fS.symm x.eS, Paired.mono (fun _ _ q => tp _ _ q) x.tu, keep _ _ fD.symm x.eD, by rw [List.length_set]; exact x.len, fun j2 f2 l2 h1 h2 => ?_, ?_⟩
  · obtain ⟨x1, b1, c1, e, r⟩ := x.src
    exact ⟨x1, b1, c1, keep _ _ fa.symm e, r⟩
  · by_cases hj : j2 = j
    · subst hj
      have e1 : f2 = f := Option.some.inj (h1.symm.trans hf)
      subst e1
      have hlt : j2 < ft.length := (List.getElem?_eq_some_iff.mp hl).1
      rw [List.getElem?_set_self hlt] at h2
      have e2 := Option.some.inj h2
      subst e2
      refine ⟨us.take i ++ [t] ++ us.drop i, by rw [upd_same, List.map_append, List.map_append, List.map_take, List.map_drop]; rfl, ?_⟩
      refine paired_app (paired_app (paired_take i (Paired.mono (fun _ _ q => tp _ _ q) pr)) (.cons ?_ .nil)) (paired_drop i (Paired.mono (fun _ _ q => tp _ _ q) pr))
      show _ = _
      rw [upd_ne tf, upd_same]
    · have hne : f2 ≠ f := fun e => hj (nd_ix z.nd h1 (e ▸ hf))
      rw [List.getElem?_set_ne (Ne.symm hj)] at h2
      obtain ⟨us2, e, r⟩ := x.at_ j2 f2 l2 h1 h2
      exact ⟨us2, keep _ _ hne e, Paired.mono (fun _ _ q => tp _ _ q) r⟩
  · exact (flat_ins hl).trans (((x.perm.cons y)).trans (List.perm_append_singleton y done).symm)
theorem allFeet_len : ∀ n, (allFeet n).length = 2 * n
  | 0 => rfl
  | n + 1 => by
    rw [allFeet_succ, List.length_append, allFeet_len n]
    show 2 * n + 2 = 2 * (n + 1)
    omega
theorem take_succ_of {α : Type} {l : List α} {e : Nat} {x : α} (h : l[e]? = some x) : l.take (e + 1) = l.take e ++ [x] := by
  rw [List.take_add_one, h]
  rfl
theorem zip_count : ∀ (hs : List Hd) (ft : List (List Foot)), ft.length = hs.length → (List.zipWith (fun (h : Hd) (l : List Foot) => (⟨h.1, h.2, l⟩ : Row)) hs ft).countP (·.ring) = hs.countP (·.1)
  | [], _, _ => by simp
  | _ :: _, [], e => by simp at e
  | h :: hs, l :: ft, e => by
    have ih := zip_count hs ft (by simpa using e)
    rw [List.zipWith_cons_cons, List.countP_cons, List.countP_cons, ih]
theorem zip_mem : ∀ (hs : List Hd) (ft : List (List Foot)) (r : Row), r ∈ List.zipWith (fun (h : Hd) (l : List Foot) => (⟨h.1, h.2, l⟩ : Row)) hs ft → ∃ h ∈ hs, r.teeth = h.2
  | [], _, r, h => by simp at h
  | _ :: _, [], r, h => by simp at h
  | h :: hs, l :: ft, r, hm => by
    rw [List.zipWith_cons_cons] at hm
    rcases List.mem_cons.mp hm with e | hm
    · exact ⟨h, List.mem_cons_self .., by rw [e]⟩
    · obtain ⟨h', m, e⟩ := zip_mem hs ft r hm
      exact ⟨h', List.mem_cons_of_mem _ m, e⟩
theorem zip_flat : ∀ (hs : List Hd) (ft : List (List Foot)), ft.length = hs.length → (List.zipWith (fun (h : Hd) (l : List Foot) => (⟨h.1, h.2, l⟩ : Row)) hs ft).flatMap (·.feet) = ft.flatten
  | [], [], _ => rfl
  | [], _ :: _, e => by simp at e
  | _ :: _, [], e => by simp at e
  | h :: hs, l :: ft, e => by
    have ih := zip_flat hs ft (by simpa using e)
    rw [List.zipWith_cons_cons, List.flatMap_cons, List.flatten_cons, ih]
theorem flat_len {l : List Foot} : ∀ {ft : List (List Foot)} {j : Nat}, ft[j]? = some l → l.length ≤ ft.flatten.length
  | [], j, h => by simp at h
  | k :: r, 0, h => by
    have e : k = l := Option.some.inj h
    subst e
    rw [List.flatten_cons, List.length_append]
    omega
  | k :: r, j + 1, h => by
    have ih := flat_len (l := l) (ft := r) (j := j) h
    rw [List.flatten_cons, List.length_append]
    omega
section
variable {P : Program} {w : World} {K : PySem.W.Frag} {mg : Str → Option Value} {base : Heap}
set_option maxHeartbeats 400000 in
theorem ok_rows {f : Addr} {fd : FuncData} (T : Bl mg) (F : Fun K "_law_rows" "_law_rows" sRows f fd) (cDraw : Cal P w K mg base CX0 1 "_law_draw" ["_law_source_here", "_law_often"] spDraw) (cChoice : Cal P w K mg base CX0 2 "_law_choice" ["_law_source_here", "_law_some"] (spChoice K)) : FnOk P w K mg base CX0 3 f fd ["_law_source_here", "_law_most", "_law_max_teeth", "_law_zip_count"] spRows := by
  refine F.ok scRows (fun vs H Q E h => ?_) (fun cdv A outer s H vs Q E hr h => ?_)
  · obtain ⟨a, most, mt, zc, n, rfl, _⟩ := h
    rfl
  · obtain ⟨a, most, mt, zc, n, rfl, m1, m6, t1, t24, z8, hs, hn, q⟩ := h
    obtain ⟨ys, ea⟩ := hs.lst
    refine ⟨_, (pss_cons (ps_asg (pe_tup (pa_cons (pe_lst pa_nil) (pa_cons pe_int pa_nil))) (pg_tup rfl (pgs_cons (pg_name (i := 4) scRows.nd rfl (Or.inr rfl)) (pgs_cons (pg_name (i := 5) scRows.nd rfl (Or.inl rfl)) pgs_nil))))
      (pss_cons (ps_for PassesOwn.never rfl (pi_range1 (by rfl) T.range_ (pa_cons (pe_op op_add pe_int (pe_cal cDraw (hr.mono (by decide)) pass0 (by rfl) (pa_cons (pv 0) (pa_cons (pv 1) pa_nil)))) pa_nil)) (pg_name (i := 6) scRows.nd rfl (Or.inl rfl))
        (pss_cons (ps_set (i := 7) scRows.nd rfl (Or.inl rfl) (pe_cal cChoice (hr.mono (by decide)) pass0 (by rfl) (pa_cons (pv 0) (pa_cons (pe_lst (pa_cons pe_str (pa_cons pe_str (pa_cons pe_str pa_nil)))) pa_nil))))
        (C8.pss_cut (ps_if (pt_cmpR op_eq (pv 5) pe_int (nomark _))
          (pss_one (ps_set (i := 7) scRows.nd rfl (Or.inl rfl) pe_str))
          pss_nil)
        (pss_cons (ps_set (i := 5) scRows.nd rfl (Or.inl rfl) (pe_op op_add (pv 5) (pe_callTy call_int1 (by rfl) T.int_ (by decide +kernel) (pa_cons (pe_cmpR op_eq (pv 7) pe_str (nomark _)) pa_nil))))
        (pss_one (ps_expr (pe_bm PySem.F.plainAttrs_list PySem.F.slot_list_append PySem.F.type_list_append mt_append (pv 4) (pa_cons (pe_tup (pa_cons (pv 7) (pa_cons (pe_op op_add pe_int (pe_callB (call_max2 rfl) (by rfl) T.max_ (by decide +kernel) (pa_cons (pe_cal cDraw (hr.mono (by decide)) pass0 (by rfl) (pa_cons (pv 0) (pa_cons (pv 2) pa_nil))) (pa_cons (pe_cal cDraw (hr.mono (by decide)) pass0 (by rfl) (pa_cons (pv 0) (pa_cons (pv 2) pa_nil))) pa_nil)))) pa_nil))) pa_nil))))))))
      (pss_cons (ps_set (i := 8) scRows.nd rfl (Or.inr rfl) (pe_lc (own := [("_law_sort", 7)]) (g := gName 7) (by rfl) scRows.nd (pi_list (pv 4)) (blkOk_by (own := [("_law_sort", 7)]) (N := ["_law_source_here", "_law_most", "_law_max_teeth", "_law_zip_count", "_law_sorts", "_law_rings", "_law_k", "_law_sort", "_law_feet", "_law_number", "_law_side", "_law_home"]) (sc := defScope sRows) (by decide +kernel)) (fun _ _ _ _ _ => (pg_name (i := 7) scRows.nd rfl (Or.inl rfl))) (fun _ _ _ _ _ => pts_nil) (fun _ _ _ _ _ => (pe_lst pa_nil))))
      (pss_cons (ps_for PassesOwn.never rfl (pi_range1 (by rfl) T.range_ (pa_cons (pv 3) pa_nil)) (pg_name (i := 9) scRows.nd rfl (Or.inl rfl))
        (pss_one (ps_for PassesOwn.never rfl (pi_tup (pe_tup (pa_cons pe_int (pa_cons pe_int pa_nil)))) (pg_name (i := 10) scRows.nd rfl (Or.inl rfl))
          (pss_cons (ps_set (i := 11) scRows.nd rfl (Or.inl rfl) (pe_cal cChoice (hr.mono (by decide)) pass0 (by rfl) (pa_cons (pv 0) (pa_cons (pv 8) pa_nil))))
          (pss_one (ps_expr (pe_bm PySem.F.plainAttrs_list PySem.F.slot_list_insert PySem.F.type_list_insert mt_insert (pv 11) (pa_cons (pe_cal cDraw (hr.mono (by decide)) pass0 (by rfl) (pa_cons (pv 0) (pa_cons (pe_op op_add (pe_callB call_len_seq (by rfl) T.len_ PySem.boot_len (pa_cons (pv 11) pa_nil)) pe_int) pa_nil))) (pa_cons (pe_tup (pa_cons (pv 9) (pa_cons (pv 10) pa_nil))) pa_nil)))))))))
      (pss_one (ps_ret (pe_callTy call_tuple_of (by rfl) T.tuple_ (by decide +kernel) (pa_cons (pe_lc (own := [("_law_k", 6)]) (g := gName 6) (by rfl) scRows.nd (pi_range1 (by rfl) T.range_ (pa_cons (pe_callB call_len_seq (by rfl) T.len_ PySem.boot_len (pa_cons (pv 4) pa_nil)) pa_nil)) (blkOk_by (own := [("_law_k", 6)]) (N := ["_law_source_here", "_law_most", "_law_max_teeth", "_law_zip_count", "_law_sorts", "_law_rings", "_law_k", "_law_sort", "_law_feet", "_law_number", "_law_side", "_law_home"]) (sc := defScope sRows) (by decide +kernel)) (fun _ _ _ _ _ => (pg_name (i := 6) scRows.nd rfl (Or.inl rfl))) (fun _ _ _ _ _ => pts_nil) (fun _ _ _ _ _ => (pe_op (op_catAK (K := K) rfl) (pe_ix (ix_listK (K := K) rfl) (pv 4) (pv 6) (fun _ _ => rfl)) (pe_tup (pa_cons (pe_callTy (T := "tuple") (call_tupleF (K := K) rfl) (by rfl) T.tuple_ (by decide +kernel) (pa_cons (pe_ix (ix_listK (K := K) rfl) (pv 8) (pv 6) (fun _ _ => rfl)) pa_nil)) pa_nil))))) pa_nil)))))))), ?_⟩
    refine ⟨Nat.zero_le _, fun S nS => ?_⟩
    refine ⟨by show 2 ≤ sizeLine; decide, fun T0 nT0 => ⟨T0, [.ref S, .int 0], rfl, .inl (.inl upd_same), rfl, .ref S, [.int 0], rfl, .int 0, [], rfl, rfl, ?_⟩⟩
    have b0 : But a H (upd (upd H S (.lst [])) T0 (.tup [.ref S, .int 0])) := .of ((same_upd nS).trans (same_upd nT0))
    have eS : (upd (upd H S (.lst [])) T0 (.tup [.ref S, .int 0])) S = some (.lst []) := by
      rw [upd_ne (ne_of_none upd_same nT0), upd_same]
    have nSa : S ≠ a := (ne_of_none ea nS).symm
    have s0 : Src (upd (upd H S (.lst [])) T0 (.tup [.ref S, .int 0])) a n := hs.same ((same_upd nS).trans (same_upd nT0))
    generalize (upd (upd H S (.lst [])) T0 (.tup [.ref S, .int 0])) = H0 at b0 eS s0 ⊢
    -- range(1 + draw)
    refine ⟨.ref a, rfl, .int most, rfl, a, most, n, rfl, s0, by omega, by omega, by omega, fun r H1 r0 r1 hb1 hs1 => ?_⟩
    have eS1 : H1 S = some (.lst []) := hb1 _ _ nSa eS
    have b1 : But a H H1 := b0.trans hb1
    clear hb1 s0 eS b0
    refine ⟨1, r, rfl, rfl, 1 + r, rfl, by omega, by omega, ?_⟩
    refine for_range (fun i σ H2 => ∃ (ts : List Addr) (hs : List Hd) (rg : Nat) (kv sv : Option V), σ = [some (.ref a), some (.int most), some (.int mt), some (.int (zc : Int)), some (.ref S), some (.int (rg : Int)), kv, sv, none, none, none, none] ∧
      But a H H2 ∧ Src H2 a (n + 1 + 3 * i) ∧ H2 S = some (.lst (ts.map V.ref)) ∧ Paired (TupH H2) ts hs ∧ hs.length = i ∧ (∀ h ∈ hs, 1 ≤ h.2 ∧ h.2 ≤ mt) ∧ rg = hs.countP (·.1) ∧ rg ≤ 2)
      ⟨[], [], 0, none, none, rfl, b1, hs1, eS1, .nil, rfl, by simp, rfl, by omega⟩ (fun i σ H2 hi hv => ?_) (fun σ H2 hv => ?_)
    · obtain ⟨ts, hs2, rg, kv, sv, rfl, b2, s2, eS2, pr, hl, ht, hrg, hrg2⟩ := hv
      obtain ⟨ys2, ea2⟩ := s2.lst
      have hi6 : i < 6 := by omega
      refine ⟨.ref a, rfl, by show 3 ≤ sizeLine; decide, fun L nL => ?_⟩
      have nLa : L ≠ a := (ne_of_none ea2 nL).symm
      have ea2' : (upd H2 L (.lst [.str "line", .str "line", .str "ring"])) a = some (.lst ys2) := by rw [upd_ne nLa.symm]; exact ea2
      refine ⟨a, L, [.str "line", .str "line", .str "ring"], n + 1 + 3 * i, rfl, s2.same (same_upd nL), by omega, nLa, .inl (.inl upd_same), by decide, by decide, fun j x H3 hx hb3 hs3 => ?_⟩
      have tp3 : Tp H2 H3 := (Tp.new nL).trans (hb3.tp ea2')
      have eS3 : H3 S = some (.lst (ts.map V.ref)) := hb3 _ _ nSa (by rw [upd_ne (ne_of_none eS2 nL)]; exact eS2)
      have b3 : But a H H3 := (b2.new nL).trans hb3
      have pr3 : Paired (TupH H3) ts hs2 := Paired.mono (fun _ _ z => tp3 _ _ z) pr
      obtain ⟨b, rfl⟩ := sort_of hx
      clear hb3 hx ea2' nLa nL
      -- if rings == 2
      refine ⟨fun σ' H' => H' = H3 ∧ ∃ b : Bool, (b = true → rg < 2) ∧ σ' = [some (.ref a), some (.int most), some (.int mt), some (.int (zc : Int)), some (.ref S), some (.int (rg : Int)), some (.int (0 + i)), some (.str (sortS b)), none, none, none, none], ?_, ?_⟩
      · refine ⟨.int (rg : Int), rfl, rfl, _, rfl, ite2 (fun e => ?_) (fun e => ?_)⟩
        · exact ⟨rfl, false, (fun z => by cases z), rfl⟩
        · refine ⟨rfl, b, fun _ => ?_, rfl⟩
          have e1 : ¬ (V.int (rg : Int) = V.int 2) := fun z => e (decide_eq_true z)
          have e2 : rg ≠ 2 := fun z => e1 (by rw [z]; rfl)
          omega
      · rintro σ' H' ⟨rfl, b, hb, rfl⟩
        refine ⟨.int (rg : Int), rfl, .str (sortS b), rfl, rfl, .inr ⟨_, rfl, _, _, rfl, rfl, ?_⟩⟩
        rw [sort_int b]
        refine ⟨.ref S, rfl, .inl ⟨rfl, _, .inl (.inl eS3)⟩, .str (sortS b), rfl, .ref a, rfl, .int mt, rfl, a, mt, n + 1 + 3 * i + 1, rfl, hs3, by omega, by omega, by omega, fun r1 H4 r10 r11 hb4 hs4 => ?_⟩
        obtain ⟨ys3, ea3⟩ := hs3.lst
        refine ⟨.ref a, rfl, .int mt, rfl, a, mt, n + 1 + 3 * i + 1 + 1, rfl, hs4, by omega, by omega, by omega, fun r2 H5 r20 r21 hb5 hs5 => ?_⟩
        obtain ⟨ys4, ea4⟩ := hs4.lst
        have hb35 : But a H' H5 := hb4.trans hb5
        have tp5 : Tp H' H5 := hb35.tp ea3
        obtain ⟨mx, hmx⟩ : ∃ mx : Int, (if r2 > r1 then r2 else r1) = mx := ⟨_, rfl⟩
        have mx0 : 0 ≤ mx ∧ mx < mt := by
          rw [← hmx]
          split <;> exact ⟨by omega, by omega⟩
        refine ⟨r1, r2, rfl, ?_⟩
        rw [hmx]
        refine ⟨1, mx, rfl, rfl, by show 2 ≤ sizeLine; decide, fun t nt => ?_⟩
        have eS5 : (upd H5 t (.tup [.str (sortS b), .int (1 + mx)])) S = some (.lst (ts.map V.ref)) := by
          have z : H5 S = some (.lst (ts.map V.ref)) := hb35 _ _ nSa eS3
          rw [upd_ne (ne_of_none z nt)]; exact z
        refine ⟨S, _, _, rfl, rfl, eS5, ?_, ?_⟩
        · rw [List.length_map, pr.length, hl]
          exact small1000 (by omega)
        · refine ⟨ts ++ [t], hs2 ++ [(b, 1 + mx)], rg + (if b then 1 else 0), some (.int (0 + i)), some (.str (sortS b)), ?_, ?_, ?_, ?_, ?_, ?_, ?_, ?_, ?_⟩
          · cases b <;> rfl
          · exact ((b3.trans hb35).new nt).wrNew nS
          · have z := hs5.same (same_upd (o := .tup [.str (sortS b), .int (1 + mx)]) nt)
            obtain ⟨x, y, c, e, r⟩ := z
            exact ⟨x, y, c, by rw [upd_ne nSa.symm]; exact e, r.1, r.2.1, r.2.2.1, by have := r.2.2.2; omega⟩
          · rw [upd_same, List.map_append]; rfl
          · have tp6 : Tp H5 (upd (upd H5 t (.tup [.str (sortS b), .int (1 + mx)])) S (.lst (ts.map V.ref ++ [.ref t]))) := (Tp.new nt).trans (Tp.wr eS5)
            refine (Paired.mono (fun _ _ z => (tp5.trans tp6) _ _ z) pr3).snoc ?_
            show _ = _
            rw [upd_ne (show t ≠ S from fun z => by rw [z, upd_same] at eS5; cases eS5), upd_same]
          · rw [List.length_append, hl]; rfl
          · intro h hm
            rcases List.mem_append.mp hm with hm | hm
            · exact ht h hm
            · rw [List.mem_singleton.mp hm]
              exact ⟨by show 1 ≤ 1 + mx; omega, by show 1 + mx ≤ mt; omega⟩
          · rw [hrg, List.countP_append]; cases b <;> rfl
          · cases b with
            | false => exact hrg2
            | true => have := hb rfl; show rg + 1 ≤ 2; omega
    · obtain ⟨ts, hs2, rg, kv, sv, rfl, b2, s2, eS2, pr, hl, ht, hrg, hrg2⟩ := hv
      have hlen : hs2.length ≤ 6 := by omega
      have hlen1 : 1 ≤ hs2.length := by omega
      -- feet = [[] for sort in sorts]
      refine ⟨.ref S, rfl, S, rfl, ⟨_, .inl (.inl eS2)⟩, fun D nD => ?_⟩
      refine lc_list (K := K) (a := S) (xs := ts.map V.ref) (fun j H5 => ∃ fs : List Addr, fs.length = j ∧ fs.Nodup ∧ Same H2 H5 ∧ H5 D = some (.lst (fs.map V.ref)) ∧ ∀ f ∈ fs, H5 f = some (.lst []) ∧ H2 f = none ∧ f ≠ D)
        ⟨[], rfl, List.nodup_nil, same_upd nD, upd_same, by simp⟩ (fun j H5 _ hv => ?_) (fun j x H5 hx hv => ?_) (fun H5 hv => ?_)
      · obtain ⟨fs, _, _, sm, _⟩ := hv
        exact .inl (.inl (sm _ _ eS2))
      · obtain ⟨fs, hfl, nd, sm, eD, hf⟩ := hv
        have hj : j < 6 := by
          have := (List.getElem?_eq_some_iff.mp hx).1
          rw [List.length_map, pr.length] at this
          omega
        refine ⟨rfl, Nat.zero_le _, fun g ng => ⟨fs.map V.ref, ?_, ?_, fs ++ [g], ?_, ?_, ?_, ?_, ?_⟩⟩
        · rw [upd_ne (ne_of_none eD ng)]; exact eD
        · rw [List.length_map, hfl]; exact small1000 (by omega)
        · rw [List.length_append, hfl]; rfl
        · exact nodup_snoc nd fun z => by have := (hf g z).1; rw [ng] at this; cases this
        · intro b o e
          have e1 := sm b o e
          rw [upd_ne (show b ≠ D from ne_of_none e nD), upd_ne (ne_of_none e1 ng)]; exact e1
        · rw [upd_same, List.map_append]; rfl
        · intro f hm
          rcases List.mem_append.mp hm with hm | hm
          · obtain ⟨e1, e2, e3⟩ := hf f hm
            refine ⟨?_, e2, e3⟩
            rw [upd_ne e3, upd_ne (ne_of_none e1 ng)]; exact e1
          · rw [List.mem_singleton.mp hm]
            have e3 : g ≠ D := (ne_of_none eD ng).symm
            refine ⟨?_, sm.free ng, e3⟩
            rw [upd_ne e3, upd_same]
      · obtain ⟨fs, hfl, nd, sm, eD, hf⟩ := hv
        have hS0 : H S = none := nS
        obtain ⟨ys2, ea2⟩ := s2.lst
        have hDa : D ≠ a := (ne_of_none ea2 nD).symm
        have hDn : H D = none := b2.none hDa nD
        have z : FS H a S D fs := by
          refine ⟨nd, fun f hm => ?_, nS, hDn, nSa, hDa⟩
          obtain ⟨e1, e2, e3⟩ := hf f hm
          have fa : f ≠ a := (ne_of_none ea2 e2).symm
          exact ⟨fa, (ne_of_none eS2 e2).symm, e3, b2.none fa e2⟩
        have hfsl : fs.length ≤ 6 := by rw [hfl, List.length_map, pr.length]; exact hlen
        have hfsl1 : 1 ≤ fs.length := by rw [hfl, List.length_map, pr.length]; exact hlen1
        have fi0 : FI H H5 a S D ts fs hs2 (List.replicate fs.length []) (allFeet 0) (n + 19) := by
          refine ⟨b2.trans (.of sm), (s2.same sm).mono (by omega), sm _ _ eS2, Paired.mono (fun _ _ y => sm _ _ y) pr, eD, List.length_replicate, fun j f l h1 h2 => ?_, ?_⟩
          · have e2 : l = [] := by
              have := List.mem_of_getElem? h2
              exact (List.mem_replicate.mp this).2
            subst e2
            exact ⟨[], (hf f (List.mem_of_getElem? h1)).1, .nil⟩
          · have : (List.replicate fs.length ([] : List Foot)).flatten = [] := by simp
            rw [this]
            exact .refl _
        -- for number in range(zip_count)
        refine ⟨.int (zc : Int), rfl, (zc : Int), rfl, by omega, by omega, ?_⟩
        refine for_range (n := zc) (fun i σ H6 => ∃ (ft : List (List Foot)) (nv sv' hv : Option V), σ = [some (.ref a), some (.int most), some (.int mt), some (.int (zc : Int)), some (.ref S), some (.int (rg : Int)), kv, sv, some (.ref D), nv, sv', hv] ∧
          FI H H6 a S D ts fs hs2 ft (allFeet i) (n + 19 + 4 * i)) ⟨_, none, none, none, rfl, fi0⟩ (fun i σ H6 hi hv => ?_) (fun σ H6 hv => ?_)
        · obtain ⟨ft, nv, sv', hv, rfl, fi⟩ := hv
          -- for side in (0, 1)
          refine ⟨by show 2 ≤ sizeLine; decide, fun P0 nP0 => ⟨P0, rfl, ⟨_, .inl (.inl upd_same)⟩, ?_⟩⟩
          have fi1 : FI H (upd H6 P0 (.tup [.int 0, .int 1])) a S D ts fs hs2 ft (allFeet i) (n + 19 + 4 * i) := fi.go z (.of (same_upd nP0)) (fi.src.same (same_upd nP0))
          refine for_tup (K := K) (xs := [.int 0, .int 1]) (fun e σ H7 => ∃ (ft : List (List Foot)) (sv' hv : Option V), σ = [some (.ref a), some (.int most), some (.int mt), some (.int (zc : Int)), some (.ref S), some (.int (rg : Int)), kv, sv, some (.ref D), some (.int (0 + (i : Int))), sv', hv] ∧
            H7 P0 = some (.tup [.int 0, .int 1]) ∧ FI H H7 a S D ts fs hs2 ft (allFeet i ++ ([((i : Int), 0), ((i : Int), 1)] : List Foot).take e) (n + 19 + 4 * i + 2 * e)) ⟨ft, sv', hv, rfl, upd_same, by rw [List.take_zero, List.append_nil]; exact fi1⟩ (fun e σ H7 _ hv => ?_) (fun e x σ H7 hx hv => ?_) (fun σ H7 hv => ?_)
          · obtain ⟨_, _, _, _, eP, _⟩ := hv
            exact .inl (.inl eP)
          · obtain ⟨ft, sv', hv, rfl, eP, fi⟩ := hv
            have he : e < 2 := (List.getElem?_eq_some_iff.mp hx).1
            obtain ⟨x, rfl, hxf⟩ : ∃ y : Int, x = .int y ∧ ([((i : Int), 0), ((i : Int), 1)] : List Foot)[e]? = some ((i : Int), y) := by
              match e, hx with
              | 0, hx => exact ⟨0, (Option.some.inj hx).symm, rfl⟩
              | 1, hx => exact ⟨1, (Option.some.inj hx).symm, rfl⟩
            -- home = choice(feet)
            refine ⟨.ref a, rfl, .ref D, rfl, a, D, fs.map V.ref, n + 19 + 4 * i + 2 * e, rfl, fi.src, by omega, hDa, .inl (.inl fi.eD), by rw [List.length_map]; omega, by rw [List.length_map]; omega, fun j v H8 hj hb8 hs8 => ?_⟩
            obtain ⟨f, hf8, rfl⟩ : ∃ f, fs[j]? = some f ∧ v = .ref f := by
              rw [List.getElem?_map] at hj
              cases e8 : fs[j]? with
              | none => rw [e8] at hj; cases hj
              | some f => rw [e8] at hj; exact ⟨f, rfl, (Option.some.inj hj).symm⟩
            have fi8 := fi.go z hb8 hs8
            obtain ⟨l, hl8⟩ : ∃ l, ft[j]? = some l := ⟨_, List.getElem?_eq_getElem (by rw [fi.len]; exact (List.getElem?_eq_some_iff.mp hf8).1)⟩
            obtain ⟨us, ef8, pr8⟩ := fi8.at_ j f l hf8 hl8
            have hll : l.length ≤ 16 := by
              have h1 := flat_len hl8
              have h2 := fi8.perm.length_eq
              have h3 : (allFeet i ++ ([((i : Int), 0), ((i : Int), 1)] : List Foot).take e).length ≤ 16 := by
                rw [List.length_append, allFeet_len, List.length_take]
                have : ([((i : Int), 0), ((i : Int), 1)] : List Foot).length = 2 := rfl
                omega
              omega
            have hul : us.length ≤ 16 := by rw [pr8.length]; exact hll
            -- home.insert(draw(len(home) + 1), (number, side))
            refine ⟨.ref f, rfl, .inl ⟨rfl, _, .inl (.inl ef8)⟩, .ref a, rfl, .ref f, rfl, f, _, rfl, .inl (.inl (.inl ef8)), _, 1, rfl, rfl, a, ((us.map V.ref).length : Int) + 1, n + 19 + 4 * i + 2 * e + 1, rfl, fi8.src, by omega, by omega, ?_, fun r H9 r0 r1 hb9 hs9 => ?_⟩
            · rw [List.length_map]; omega
            · have fi9 := fi8.go z hb9 hs9
              have fa : f ≠ a := (z.fa f (List.mem_of_getElem? hf8)).1
              have ef9 : H9 f = some (.lst (us.map V.ref)) := hb9 _ _ fa ef8
              obtain ⟨ys8, ea8⟩ := fi8.src.lst
              have pr9 : Paired (TupF H9) us l := Paired.mono (fun _ _ y => (hb9.tp ea8) _ _ y) pr8
              refine ⟨.int (0 + (i : Int)), rfl, .int x, rfl, by show 2 ≤ sizeLine; decide, fun t nt => ⟨f, us.map V.ref, r, .ref t, rfl, rfl, ?_, ?_, r0, by rw [List.length_map] at r1; omega, ?_⟩⟩
              · rw [upd_ne (ne_of_none ef9 nt)]; exact ef9
              · rw [List.length_map]; exact small1000 (by omega)
              · have e0 : (0 : Int) + (i : Int) = (i : Int) := by omega
                refine ⟨ft.set j (l.take r.toNat ++ [((i : Int), x)] ++ l.drop r.toNat), some (.int x), some (.ref f), rfl, ?_, ?_⟩
                · have eP9 : H9 P0 = some (.tup [.int 0, .int 1]) := (hb9.tp ea8) _ _ ((hb8.tp (fi.src.lst.choose_spec)) _ _ eP)
                  rw [upd_ne (show P0 ≠ f from ne_of eP9 ef9 (by intro z; cases z)), upd_ne (ne_of_none eP9 nt)]; exact eP9
                · have fin := fi9.ins (y := ((i : Int), x)) (i := r.toNat) z hf8 hl8 nt ef9 pr9
                  have ee : allFeet i ++ ([((i : Int), 0), ((i : Int), 1)] : List Foot).take (e + 1) = allFeet i ++ ([((i : Int), 0), ((i : Int), 1)] : List Foot).take e ++ [((i : Int), x)] := by rw [take_succ_of hxf, List.append_assoc]
                  rw [ee, e0]
                  exact ⟨fin.but, fin.src.mono (by omega), fin.eS, fin.tu, fin.eD, fin.len, fin.at_, fin.perm⟩
          · obtain ⟨ft, sv', hv, rfl, eP, fi⟩ := hv
            refine ⟨ft, _, sv', hv, rfl, ?_⟩
            rw [allFeet_succ]
            exact ⟨fi.but, fi.src.mono (by show n + 19 + 4 * i + 2 * 2 ≤ _; omega), fi.eS, fi.tu, fi.eD, fi.len, fi.at_, fi.perm⟩
        · obtain ⟨ft, nv, sv', hv, rfl, fi⟩ := hv
          have tsl : ts.length = hs2.length := pr.length
          have hfl2 : fs.length = hs2.length := by rw [hfl, List.length_map, tsl]
          have ftl : ft.length = hs2.length := by rw [fi.len, hfl2]
          obtain ⟨rows, hrows⟩ : ∃ rows : List Row, List.zipWith (fun (h : Hd) (l : List Foot) => (⟨h.1, h.2, l⟩ : Row)) hs2 ft = rows := ⟨_, rfl⟩
          have rl : rows.length = hs2.length := by rw [← hrows, List.length_zipWith, ftl, Nat.min_self]
          have hS6 : SqL K H6 S (ts.map V.ref) := .inl (.inl fi.eS)
          refine ⟨.ref S, rfl, S, _, rfl, .inl hS6, ((ts.map V.ref).length : Int), rfl, by rw [List.length_map]; omega, by rw [List.length_map]; omega, fun D2 nD2 => ?_⟩
          have en : (ts.map V.ref).length = hs2.length := by rw [List.length_map, tsl]
          refine lc_range (lo := 0) (n := (ts.map V.ref).length) (fun k H7 => ∃ rts : List Addr, Same H6 H7 ∧ H7 D2 = some (.lst (rts.map V.ref)) ∧ Paired (TupR H7) rts (rows.take k)) ⟨[], same_upd nD2, upd_same, by rw [List.take_zero]; exact .nil⟩ (fun k H7 hk hv => ?_) (fun H7 hv => ?_)
          · obtain ⟨rts, sm7, eD2, pr7⟩ := hv
            have hk1 : k < ts.length := by omega
            have hk2 : k < fs.length := by omega
            have hk3 : k < ft.length := by omega
            have g1 : (ts.map V.ref)[k]? = some (.ref ts[k]) := by rw [List.getElem?_map, List.getElem?_eq_getElem hk1]; rfl
            have g2 : (fs.map V.ref)[k]? = some (.ref fs[k]) := by rw [List.getElem?_map, List.getElem?_eq_getElem hk2]; rfl
            obtain ⟨h, eh, et⟩ := paired_get fi.tu (List.getElem?_eq_getElem hk1)
            obtain ⟨us, eu, pu⟩ := fi.at_ k _ _ (List.getElem?_eq_getElem hk2) (List.getElem?_eq_getElem hk3)
            have er : rows[k]? = some ⟨h.1, h.2, ft[k]⟩ := by
              rw [← hrows, List.getElem?_zipWith, eh, List.getElem?_eq_getElem hk3]
            have rtl : rts.length = k := by
              rw [pr7.length, List.length_take, rl]
              omega
            refine ⟨rfl, ⟨.ref S, rfl, .int (0 + (k : Int)), rfl, S, _, _, _, rfl, rfl, sm7.seq hS6, at_of (by omega) g1, ?_⟩⟩
            refine ⟨.ref D, rfl, .int (0 + (k : Int)), rfl, D, _, _, _, rfl, rfl, sm7.seq (.inl (.inl fi.eD)), at_of (by omega) g2, ?_⟩
            refine ⟨fs[k], _, rfl, sm7.seq (.inl (.inl eu)), fun u ob hob nu => ?_⟩
            refine ⟨by show 1 ≤ sizeLine; decide, fun v nv => ?_⟩
            have et7 : H7 ts[k] = some (.tup [.str (sortS h.1), .int h.2]) := sm7 _ _ et
            have sm8 : Same H7 (upd (upd H7 u (.frz ob (.tup (us.map V.ref)))) v (.tup [.ref u])) := (same_upd nu).trans (same_upd nv)
            refine ⟨ts[k], v, [.str (sortS h.1), .int h.2], [.ref u], rfl, rfl, .inl (.inl (sm8 _ _ et7)), .inl (.inl upd_same), by show 3 ≤ sizeLine; decide, fun e => (by cases e), fun _ e => (by cases e), fun _ _ p np => ?_⟩
            have sm9 : Same H7 (upd (upd (upd H7 u (.frz ob (.tup (us.map V.ref)))) v (.tup [.ref u])) p (.tup [.str (sortS h.1), .int h.2, .ref u])) := sm8.trans (same_upd np)
            have eu9 : (upd (upd (upd H7 u (.frz ob (.tup (us.map V.ref)))) v (.tup [.ref u])) p (.tup [.str (sortS h.1), .int h.2, .ref u])) u = some (.frz ob (.tup (us.map V.ref))) := by
              have z1 : (upd H7 u (.frz ob (.tup (us.map V.ref)))) u = some (.frz ob (.tup (us.map V.ref))) := upd_same
              have z2 := same_upd (o := .tup [.ref u]) nv _ _ z1
              exact same_upd (o := .tup [.str (sortS h.1), .int h.2, .ref u]) np _ _ z2
            have ep9 : (upd (upd (upd H7 u (.frz ob (.tup (us.map V.ref)))) v (.tup [.ref u])) p (.tup [.str (sortS h.1), .int h.2, .ref u])) p = some (.tup [.str (sortS h.1), .int h.2, .ref u]) := upd_same
            have eD9 := sm9 _ _ eD2
            refine ⟨rts.map V.ref, eD9, by rw [List.length_map, rtl]; exact small1000 (by omega), rts ++ [p], ?_, ?_, ?_⟩
            · intro b o e
              rw [upd_ne (ne_of_none e nD2)]
              exact sm9 _ _ (sm7 _ _ e)
            · rw [upd_same, List.map_append]; rfl
            · rw [take_succ_of er]
              have tpw := Tp.wr (o := .lst (rts.map V.ref ++ [.ref p])) eD9
              refine (Paired.mono (fun _ _ y => (y.tp (.of sm9)).tp tpw) pr7).snoc ⟨u, tpw _ _ ep9, us, ⟨ob, hob, tpw.ok _ _ eu9 trivial⟩, Paired.mono (fun _ _ y => tpw _ _ (sm9 _ _ (sm7 _ _ y))) pu⟩
          · obtain ⟨rts, sm7, eD2, pr7⟩ := hv
            rw [en, ← rl, List.take_length] at pr7
            refine ⟨D2, _, rfl, .inl ⟨.inl (.inl eD2), fun p np => ?_⟩⟩
            refine q p _ rows ((fi.but.trans (.of sm7)).new np) (((fi.src.same sm7).same (same_upd np)).mono (by omega)) ⟨rts, upd_same, Paired.mono (fun _ _ y => y.tp (.new np)) pr7⟩ ⟨by omega, ?_, ?_, ?_, ?_⟩
            · rw [rl]; omega
            · rw [← hrows, zip_count hs2 ft (by omega)]
              omega
            · intro r hr
              rw [← hrows] at hr
              obtain ⟨h, hm, e⟩ := zip_mem hs2 ft r hr
              rw [e]
              exact ht h hm
            · rw [← hrows, zip_flat hs2 ft (by omega)]
              exact fi.perm
theorem cal_rows {f : Addr} {fd : FuncData} (T : Bl mg) (F : Fun K "_law_rows" "_law_rows" sRows f fd) (cDraw : Cal P w K mg base CX0 1 "_law_draw" ["_law_source_here", "_law_often"] spDraw) (cChoice : Cal P w K mg base CX0 2 "_law_choice" ["_law_source_here", "_law_some"] (spChoice K)) (g : mg "_law_rows" = some (.ref f)) :
    Cal P w K mg base CX0 3 "_law_rows" ["_law_source_here", "_law_most", "_law_max_teeth", "_law_zip_count"] spRows :=
  ⟨f, fd, g, F.kp, F.binds (ps := ["_law_source_here", "_law_most", "_law_max_teeth", "_law_zip_count"]) fun _ _ _ _ _ _ us hl => match us, hl with | [_, _, _, _], _ => rfl, ok_rows T F cDraw cChoice⟩
end
end Zs
namespace Zs
open PySem PySem.Spec PyProof.Rows L2
abbrev sCloth : Stmt := topS 46
theorem scCloth : FnScope ["_law_source_here", "_law_max_rows", "_law_max_teeth", "_law_zip_count", "_law_many", "_law_ways", "_law_number", "_law_way"] ["_law_source_here", "_law_max_rows", "_law_max_teeth", "_law_zip_count"] (defScope sCloth) := ⟨rfl, rfl, rfl, by decide +kernel, rfl, by decide +kernel, by decide +kernel⟩
def dirS (b : Bool) : Str := if b then "reversed" else "parallel"
abbrev Zp := Bool × Int
def TupZ (H : Hp) (t : Addr) (x : Zp) : Prop := H t = some (.tup [.str (dirS x.1), .int x.2])
def TupZs (H : Hp) (t : Addr) (zs : List Zp) : Prop := ∃ ts : List Addr, H t = some (.tup (ts.map V.ref)) ∧ Paired (TupZ H) ts zs
theorem TupZs.tp {H H' : Hp} {t : Addr} {rs : List Zp} (h : TupZs H t rs) (x : Tp H H') : TupZs H' t rs := by
  obtain ⟨ts, e, r⟩ := h
  exact ⟨ts, x _ _ e, Paired.mono (fun _ _ z => x _ _ z) r⟩
theorem dir_of {j : Nat} {x : V} (h : ([.str "parallel", .str "reversed"] : List V)[j]? = some x) : ∃ b, x = .str (dirS b) := by
  match j, h with
  | 0, h => exact ⟨false, (Option.some.inj h).symm⟩
  | 1, h => exact ⟨true, (Option.some.inj h).symm⟩
  | j + 2, h => simp at h
def spCloth : Sp := fun vs H Q _ => ∃ (a : Addr) (most mt : Int) (zc n : Nat), vs = [.ref a, .int most, .int mt, .int (zc : Int)] ∧ 1 ≤ most ∧ most ≤ 6 ∧ 1 ≤ mt ∧ mt ≤ 24 ∧ zc ≤ 8 ∧ Src H a n ∧ n + 100 < 2 ^ 20 ∧
  ∀ (p r z : Addr) (H' : Hp) (rs : List Row) (zs : List Zp), But a H H' → Src H' a (n + 100) → H' p = some (.tup [.ref r, .ref z]) → TupRs H' r rs → TupZs H' z zs → zs.length ≤ zc → (∀ x ∈ zs, x.2 = 0) → RowsOk most mt zs.length rs → Q (.ref p) H'
section
variable {P : Program} {w : World} {K : PySem.W.Frag} {mg : Str → Option Value} {base : Heap}
set_option maxHeartbeats 400000 in
theorem ok_cloth {f : Addr} {fd : FuncData} (T : Bl mg) (F : Fun K "_law_cloth" "_law_cloth" sCloth f fd) (cDraw : Cal P w K mg base CX0 1 "_law_draw" ["_law_source_here", "_law_often"] spDraw) (cChoice : Cal P w K mg base CX0 2 "_law_choice" ["_law_source_here", "_law_some"] (spChoice K))
    (cRows : Cal P w K mg base CX0 3 "_law_rows" ["_law_source_here", "_law_most", "_law_max_teeth", "_law_zip_count"] spRows) : FnOk P w K mg base CX0 4 f fd ["_law_source_here", "_law_max_rows", "_law_max_teeth", "_law_zip_count"] spCloth := by
  refine F.ok scCloth (fun vs H Q E h => ?_) (fun cdv A outer s H vs Q E hr h => ?_)
  · obtain ⟨a, most, mt, zc, n, rfl, _⟩ := h
    rfl
  · obtain ⟨a, most, mt, zc, n, rfl, m1, m6, t1, t24, z8, hs, hn, q⟩ := h
    obtain ⟨ys, ea⟩ := hs.lst
    refine ⟨_, (pss_cons (ps_set (i := 4) scCloth.nd rfl (Or.inl rfl) (pe_cal cDraw (hr.mono (by decide)) pass0 (by rfl) (pa_cons (pv 0) (pa_cons (pe_op op_add (pv 3) pe_int) pa_nil))))
      (C8.pss_cut (ps_if (pt_cmpR op_eq (pv 4) pe_int (nomark _))
        (pss_one (ps_set (i := 4) scCloth.nd rfl (Or.inl rfl) (pe_cal cDraw (hr.mono (by decide)) pass0 (by rfl) (pa_cons (pv 0) (pa_cons (pe_op op_add (pv 3) pe_int) pa_nil)))))
        pss_nil)
      (pss_cons (ps_setLc (i := 5) (own := [("_law_number", 6)]) (g := gName 6) (by rfl) scCloth.nd rfl rfl (sw_true rfl rfl rfl (by decide +kernel)) (pi_range1 (by rfl) T.range_ (pa_cons (pv 4) pa_nil)) (blkOk_by (own := [("_law_number", 6)]) (N := ["_law_source_here", "_law_max_rows", "_law_max_teeth", "_law_zip_count", "_law_many", "_law_ways", "_law_number", "_law_way"]) (sc := defScope sCloth) (by decide +kernel)) (fun _ _ _ _ _ => (pg_name (i := 6) scCloth.nd rfl (Or.inl rfl))) (fun _ _ _ _ _ => pts_nil) (fun _ _ _ _ _ => (pe_cal cChoice (hr.mono (by decide)) pass0 (by rfl) (pa_cons (pv 0) (pa_cons (pe_lst (pa_cons pe_str (pa_cons pe_str pa_nil))) pa_nil)))))
      (pss_one (ps_ret (pe_tup (pa_cons (pe_cal cRows (hr.mono (by decide)) pass0 (by rfl) (pa_cons (pv 0) (pa_cons (pv 1) (pa_cons (pv 2) (pa_cons (pv 4) pa_nil))))) (pa_cons (pe_callTy call_tuple_of (by rfl) T.tuple_ (by decide +kernel) (pa_cons (pe_lc (own := [("_law_way", 7)]) (g := gName 7) (by rfl) scCloth.nd (pi_list (pv 5)) (blkOk_by (own := [("_law_way", 7)]) (N := ["_law_source_here", "_law_max_rows", "_law_max_teeth", "_law_zip_count", "_law_many", "_law_ways", "_law_number", "_law_way"]) (sc := defScope sCloth) (by decide +kernel)) (fun _ _ _ _ _ => (pg_name (i := 7) scCloth.nd rfl (Or.inl rfl))) (fun _ _ _ _ _ => pts_nil) (fun _ _ _ _ _ => (pe_tup (pa_cons (pv 7) (pa_cons pe_int pa_nil))))) pa_nil)) pa_nil)))))))), ?_⟩
    refine ⟨.ref a, rfl, .int (zc : Int), rfl, (zc : Int), 1, rfl, rfl, a, (zc : Int) + 1, n, rfl, hs, by omega, by omega, by omega, fun r1 H1 r10 r11 hb1 hs1 => ?_⟩
    refine ⟨fun σ' H' => But a H H' ∧ Src H' a (n + 2) ∧ ∃ many : Nat, many ≤ zc ∧ σ' = [some (.ref a), some (.int most), some (.int mt), some (.int (zc : Int)), some (.int (many : Int)), none, none, none], ?_, ?_⟩
    · refine ⟨.int r1, rfl, rfl, _, rfl, ite2 (fun e => ?_) (fun e => ?_)⟩
      · refine ⟨.ref a, rfl, .int (zc : Int), rfl, (zc : Int), 1, rfl, rfl, a, (zc : Int) + 1, n + 1, rfl, hs1, by omega, by omega, by omega, fun r2 H2 r20 r21 hb2 hs2 => ?_⟩
        obtain ⟨k, rfl⟩ := Int.eq_ofNat_of_zero_le r20
        exact ⟨hb1.trans hb2, hs2, k, by omega, rfl⟩
      · obtain ⟨k, rfl⟩ := Int.eq_ofNat_of_zero_le r10
        exact ⟨hb1, hs1.mono (by omega), k, by omega, rfl⟩
    · rintro σ' H2 ⟨b2, s2, many, hm, rfl⟩
      clear hb1 hs1
      refine ⟨.int (many : Int), rfl, (many : Int), rfl, by omega, by omega, fun D nD => ?_⟩
      have nDa : D ≠ a := by
        obtain ⟨y2, e2⟩ := s2.lst
        exact (ne_of_none e2 nD).symm
      refine lc_range (lo := 0) (n := many) (fun k H3 => ∃ bs : List Bool, bs.length = k ∧ But a H H3 ∧ Src H3 a (n + 2 + k) ∧ H3 D = some (.lst (bs.map fun b => V.str (dirS b))))
        ⟨[], rfl, b2.new nD, s2.same (same_upd nD), upd_same⟩ (fun k H3 hk hv => ?_) (fun H3 hv => ?_)
      · obtain ⟨bs, hl, b3, s3, eD⟩ := hv
        refine ⟨rfl, .ref a, rfl, by show 2 ≤ sizeLine; decide, fun L nL => ?_⟩
        have nLa : L ≠ a := by
          obtain ⟨y2, e2⟩ := s3.lst
          exact (ne_of_none e2 nL).symm
        refine ⟨a, L, [.str "parallel", .str "reversed"], n + 2 + k, rfl, s3.same (same_upd nL), by omega, nLa, .inl (.inl upd_same), by decide, by decide, fun j x H4 hx hb4 hs4 => ?_⟩
        obtain ⟨b, rfl⟩ := dir_of hx
        have eD4 : H4 D = some (.lst (bs.map fun b => V.str (dirS b))) := hb4 _ _ nDa (by rw [upd_ne (ne_of_none eD nL)]; exact eD)
        refine ⟨_, eD4, by rw [List.length_map, hl]; exact small1000 (by omega), bs ++ [b], by rw [List.length_append, hl]; rfl, ?_, ?_, ?_⟩
        · exact ((b3.new nL).trans hb4).wrNew (b2.none nDa nD)
        · obtain ⟨x1, y1, c1, e, rr⟩ := hs4
          exact ⟨x1, y1, c1, by rw [upd_ne nDa.symm]; exact e, rr.1, rr.2.1, rr.2.2.1, by have := rr.2.2.2; omega⟩
        · rw [upd_same, List.map_append]; rfl
      · obtain ⟨bs, hl, b3, s3, eD⟩ := hv
        -- rows
        refine ⟨.ref a, rfl, .int most, rfl, .int mt, rfl, .int (many : Int), rfl, a, most, mt, many, n + 2 + many, rfl, m1, m6, t1, t24, by omega, s3, by omega, fun rp H4 rs hb4 hs4 hrs hok => ?_⟩
        have eD4 : H4 D = some (.lst (bs.map fun b => V.str (dirS b))) := hb4 _ _ nDa eD
        -- zips
        refine ⟨.ref D, rfl, D, rfl, ⟨_, .inl (.inl eD4)⟩, fun D2 nD2 => ?_⟩
        refine lc_list (K := K) (a := D) (xs := bs.map fun b => V.str (dirS b)) (fun k H5 => ∃ ts : List Addr, Same H4 H5 ∧ H5 D2 = some (.lst (ts.map V.ref)) ∧ Paired (TupZ H5) ts ((bs.take k).map fun b => (b, 0)))
          ⟨[], same_upd nD2, upd_same, by rw [List.take_zero]; exact .nil⟩ (fun k H5 _ hv => ?_) (fun k x H5 hx hv => ?_) (fun H5 hv => ?_)
        · obtain ⟨ts, sm, _⟩ := hv
          exact .inl (.inl (sm _ _ eD4))
        · obtain ⟨ts, sm, eD2, pr⟩ := hv
          obtain ⟨b, hb, rfl⟩ : ∃ b, bs[k]? = some b ∧ x = .str (dirS b) := by
            rw [List.getElem?_map] at hx
            cases e : bs[k]? with
            | none => rw [e] at hx; cases hx
            | some b => rw [e] at hx; exact ⟨b, rfl, (Option.some.inj hx).symm⟩
          have hkl : k < bs.length := (List.getElem?_eq_some_iff.mp hb).1
          have tl : ts.length ≤ k := by
            rw [pr.length, List.length_map, List.length_take]
            omega
          refine ⟨rfl, .str (dirS b), rfl, by show 2 ≤ sizeLine; decide, fun t nt => ?_⟩
          have eD5 := same_upd (o := .tup [.str (dirS b), .int 0]) nt _ _ eD2
          have tpw := Tp.wr (o := .lst (ts.map V.ref ++ [.ref t])) eD5
          refine ⟨_, eD5, by rw [List.length_map]; exact small1000 (by omega), ts ++ [t], ?_, ?_, ?_⟩
          · intro b' o e
            rw [upd_ne (ne_of_none e nD2)]
            exact same_upd nt _ _ (sm _ _ e)
          · rw [upd_same, List.map_append]; rfl
          · rw [take_succ_of hb, List.map_append]
            exact (Paired.mono (fun _ _ y => tpw _ _ (same_upd nt _ _ y)) pr).snoc (tpw _ _ upd_same)
        · obtain ⟨ts, sm, eD2, pr⟩ := hv
          rw [List.length_map, List.take_length] at pr
          refine ⟨D2, _, rfl, .inl ⟨.inl (.inl eD2), fun z nz => ?_⟩⟩
          refine ⟨by show 2 ≤ sizeLine; decide, fun p np => ?_⟩
          have sm2 : Same H4 (upd (upd H5 z (.tup (ts.map V.ref))) p (.tup [.ref rp, .ref z])) := (sm.trans (same_upd nz)).trans (same_upd np)
          have zl : (bs.map fun b => ((b, 0) : Zp)).length = many := by rw [List.length_map, hl]
          refine q p rp z _ rs (bs.map fun b => (b, 0)) ((b3.trans hb4).trans (.of sm2)) ((hs4.same sm2).mono (by omega)) upd_same (hrs.tp (.of sm2)) ⟨ts, ?_, ?_⟩ (by omega) ?_ (by rw [zl]; exact hok)
          · exact same_upd np _ _ upd_same
          · exact Paired.mono (fun _ _ y => same_upd np _ _ (same_upd nz _ _ y)) pr
          · intro x hx
            obtain ⟨b, _, e⟩ := List.mem_map.mp hx
            rw [← e]
theorem cal_cloth {f : Addr} {fd : FuncData} (T : Bl mg) (F : Fun K "_law_cloth" "_law_cloth" sCloth f fd) (cDraw : Cal P w K mg base CX0 1 "_law_draw" ["_law_source_here", "_law_often"] spDraw) (cChoice : Cal P w K mg base CX0 2 "_law_choice" ["_law_source_here", "_law_some"] (spChoice K))
    (cRows : Cal P w K mg base CX0 3 "_law_rows" ["_law_source_here", "_law_most", "_law_max_teeth", "_law_zip_count"] spRows) (g : mg "_law_cloth" = some (.ref f)) :
    Cal P w K mg base CX0 4 "_law_cloth" ["_law_source_here", "_law_max_rows", "_law_max_teeth", "_law_zip_count"] spCloth :=
  ⟨f, fd, g, F.kp, F.binds (ps := ["_law_source_here", "_law_max_rows", "_law_max_teeth", "_law_zip_count"]) fun _ _ _ _ _ _ us hl => match us, hl with | [_, _, _, _], _ => rfl, ok_cloth T F cDraw cChoice cRows⟩
end
end Zs
namespace Zs
open PySem PySem.Spec PyProof.Rows L2
abbrev sInt : Stmt := topS 14
theorem scInt : FnScope ["value"] ["value"] (defScope sInt) := ⟨rfl, rfl, rfl, by decide +kernel, rfl, by decide +kernel, by decide +kernel⟩
abbrev sIntB : Stmt := topS 15
theorem scIntB : FnScope ["value", "low", "high"] ["value", "low", "high"] (defScope sIntB) := ⟨rfl, rfl, rfl, by decide +kernel, rfl, by decide +kernel, by decide +kernel⟩
abbrev sTupB : Stmt := topS 16
theorem scTupB : FnScope ["value", "low", "high"] ["value", "low", "high"] (defScope sTupB) := ⟨rfl, rfl, rfl, by decide +kernel, rfl, by decide +kernel, by decide +kernel⟩
abbrev sIntT : Stmt := topS 17
theorem scIntT : FnScope ["value", "size", "part"] ["value", "size"] (defScope sIntT) := ⟨rfl, rfl, rfl, by decide +kernel, rfl, by decide +kernel, by decide +kernel⟩
section
variable {P : Program} {w : World} {K : PySem.W.Frag} {mg : Str → Option Value} {base : Heap}
def sp1 (K : PySem.W.Frag) (g : PyData → Bool) : Sp := fun vs H Q _ => ∃ (v : V) (d : PyData), vs = [v] ∧ Dp K H v d ∧ Q (.bl (g d)) H
theorem ok_int {f : Addr} {fd : FuncData} (T : Bl mg) (F : Fun K "is_integer" "is_integer" sInt f fd) : FnOk P w K mg base CX0 1 f fd ["value"] (sp1 K isIntD) := by
  refine F.ok scInt (fun vs H Q E h => ?_) (fun cdv A outer s H vs Q E hr h => ?_)
  · obtain ⟨v, d, rfl, _⟩ := h
    rfl
  · obtain ⟨v, d, rfl, hd, q⟩ := h
    refine ⟨_, (pss_one (ps_ret (pe_and (pe_callB call_isi (by rfl) T.isinstance_ (by decide +kernel) (pa_cons (pv 0) (pa_cons (pe_bltn (v := .ty "int") (by rfl) T.int_ (by decide +kernel) rfl) pa_nil))) (pe_and (pe_cmpR op_notX (pv 0) pe_bl (nomark _)) (pe_one (pe_cmpR op_notX (pv 0) pe_bl (nomark _))))))), ?_⟩
    obtain ⟨b, hb, b1, b2, b3⟩ := isi_int hd
    refine ⟨v, rfl, v, .ty "int", _, _, b, rfl, .ty _, ty_of hd, hb, b, rfl, ite2 (fun e => ?_) (fun e => ?_)⟩
    · refine ⟨v, rfl, true, rfl, _, rfl, ?_⟩
      cases hd with
      | bl c =>
        cases c with
        | true => exact iteF q
        | false => exact iteT ⟨.bl false, rfl, false, rfl, q⟩
      | int i => exact iteT ⟨.int i, rfl, false, rfl, q⟩
      | _ => rcases b1 e with z | z <;> cases z
    · have e2 : b = false := by cases b <;> first | rfl | exact absurd rfl e
      rw [b2 e2] at q
      exact q
theorem cal_int {f : Addr} {fd : FuncData} (T : Bl mg) (F : Fun K "is_integer" "is_integer" sInt f fd) (g : mg "is_integer" = some (.ref f)) : Cal P w K mg base CX0 1 "is_integer" ["value"] (sp1 K isIntD) :=
  ⟨f, fd, g, F.kp, F.binds (ps := ["value"]) fun _ _ _ _ _ _ us hl => match us, hl with | [_], _ => rfl, ok_int T F⟩
def sp3 (K : PySem.W.Frag) (g : Int → Int → PyData → Bool) : Sp := fun vs H Q _ => ∃ (v : V) (d : PyData) (lo hi : Int), vs = [v, .int lo, .int hi] ∧ Dp K H v d ∧ Q (.bl (g lo hi d)) H
theorem ok_intB {f : Addr} {fd : FuncData} (T : Bl mg) (F : Fun K "is_integer_between" "is_integer_between" sIntB f fd) (cInt : Cal P w K mg base CX0 1 "is_integer" ["value"] (sp1 K isIntD)) : FnOk P w K mg base CX0 2 f fd ["value", "low", "high"] (sp3 K intBtw) := by
  refine F.ok scIntB (fun vs H Q E h => ?_) (fun cdv A outer s H vs Q E hr h => ?_)
  · obtain ⟨v, d, lo, hi, rfl, _⟩ := h
    rfl
  · obtain ⟨v, d, lo, hi, rfl, hd, q⟩ := h
    refine ⟨_, (pss_one (ps_ret (pe_and (pe_cal cInt (hr.mono (by decide)) pass0 (by rfl) (pa_cons (pv 0) pa_nil)) (pe_one (pe_chain op_le op_le (pv 1) (pv 0) (pv 2)))))), ?_⟩
    refine ⟨v, rfl, v, d, rfl, hd, _, rfl, ite2 (fun e => ?_) (fun e => ?_)⟩
    · cases hd <;> first | cases e | skip
      rename_i i
      refine ⟨.int lo, rfl, .int i, rfl, lo, i, rfl, rfl, _, rfl, ite2 (fun e1 => ?_) (fun e1 => ?_)⟩
      · refine ⟨.int hi, rfl, i, hi, rfl, rfl, ?_⟩
        have e2 : intBtw lo hi (.int i) = decide (i ≤ hi) := by
          show (decide (lo ≤ i) && decide (i ≤ hi)) = _
          rw [e1, Bool.true_and]
        rw [e2] at q
        exact q
      · have e2 : intBtw lo hi (.int i) = false := by
          show (decide (lo ≤ i) && decide (i ≤ hi)) = _
          have : decide (lo ≤ i) = false := by
            cases z : decide (lo ≤ i) <;> first | rfl | exact absurd z e1
          rw [this, Bool.false_and]
        rw [e2] at q
        exact q
    · have e2 : intBtw lo hi d = false := by
        cases d <;> first | rfl | exact absurd rfl e
      rw [e2] at q
      exact q
theorem cal_intB {f : Addr} {fd : FuncData} (T : Bl mg) (F : Fun K "is_integer_between" "is_integer_between" sIntB f fd) (cInt : Cal P w K mg base CX0 1 "is_integer" ["value"] (sp1 K isIntD)) (g : mg "is_integer_between" = some (.ref f)) : Cal P w K mg base CX0 2 "is_integer_between" ["value", "low", "high"] (sp3 K intBtw) :=
  ⟨f, fd, g, F.kp, F.binds (ps := ["value", "low", "high"]) fun _ _ _ _ _ _ us hl => match us, hl with | [_, _, _], _ => rfl, ok_intB T F cInt⟩
theorem ok_tupB {f : Addr} {fd : FuncData} (T : Bl mg) (F : Fun K "is_tuple_between" "is_tuple_between" sTupB f fd) : FnOk P w K mg base CX0 1 f fd ["value", "low", "high"] (sp3 K tupBtw) := by
  refine F.ok scTupB (fun vs H Q E h => ?_) (fun cdv A outer s H vs Q E hr h => ?_)
  · obtain ⟨v, d, lo, hi, rfl, _⟩ := h
    rfl
  · obtain ⟨v, d, lo, hi, rfl, hd, q⟩ := h
    refine ⟨_, (pss_one (ps_ret (pe_and (pe_callB call_isi (by rfl) T.isinstance_ (by decide +kernel) (pa_cons (pv 0) (pa_cons (pe_bltn (v := .ty "tuple") (by rfl) T.tuple_ (by decide +kernel) rfl) pa_nil))) (pe_one (pe_chain op_le op_le (pv 1) (pe_callB call_len_seq (by rfl) T.len_ PySem.boot_len (pa_cons (pv 0) pa_nil)) (pv 2)))))), ?_⟩
    refine ⟨v, rfl, v, .ty "tuple", _, _, _, rfl, .ty _, ty_of hd, isi_tup hd, _, rfl, ite2 (fun e => ?_) (fun e => ?_)⟩
    · cases hd <;> first | cases e | skip
      rename_i a xs ds hs ha
      have el : (xs.length : Int) = (ds.length : Int) := by rw [DpAll.len ha]
      refine ⟨.int lo, rfl, .ref a, rfl, a, xs, rfl, .inr hs, lo, (xs.length : Int), rfl, rfl, _, rfl, ite2 (fun e1 => ?_) (fun e1 => ?_)⟩
      · refine ⟨.int hi, rfl, _, hi, rfl, rfl, ?_⟩
        have e2 : tupBtw lo hi (.tuple ds) = decide ((xs.length : Int) ≤ hi) := by
          show (decide (lo ≤ (ds.length : Int)) && decide ((ds.length : Int) ≤ hi)) = _
          rw [← el, e1, Bool.true_and]
        rw [e2] at q
        exact q
      · have e2 : tupBtw lo hi (.tuple ds) = false := by
          show (decide (lo ≤ (ds.length : Int)) && decide ((ds.length : Int) ≤ hi)) = _
          have : decide (lo ≤ (xs.length : Int)) = false := by
            cases z : decide (lo ≤ (xs.length : Int)) <;> first | rfl | exact absurd z e1
          rw [← el, this, Bool.false_and]
        rw [e2] at q
        exact q
    · have e2 : tupBtw lo hi d = false := by
        cases d <;> first | rfl | exact absurd rfl e
      have e3 : isTupD d = false := by cases z : isTupD d <;> first | rfl | exact absurd z e
      rw [e2] at q
      exact q
theorem cal_tupB {f : Addr} {fd : FuncData} (T : Bl mg) (F : Fun K "is_tuple_between" "is_tuple_between" sTupB f fd) (g : mg "is_tuple_between" = some (.ref f)) : Cal P w K mg base CX0 1 "is_tuple_between" ["value", "low", "high"] (sp3 K tupBtw) :=
  ⟨f, fd, g, F.kp, F.binds (ps := ["value", "low", "high"]) fun _ _ _ _ _ _ us hl => match us, hl with | [_, _, _], _ => rfl, ok_tupB T F⟩
end
end Zs
namespace Zs
open PySem PySem.Spec PyProof.Rows L2
abbrev sIsRow : Stmt := topS 33
theorem scIsRow : FnScope ["value", "sort", "teeth", "feet", "foot"] ["value"] (defScope sIsRow) := ⟨rfl, rfl, rfl, by decide +kernel, rfl, by decide +kernel, by decide +kernel⟩
abbrev sIsZip : Stmt := topS 34
theorem scIsZip : FnScope ["value", "direction", "minimum"] ["value"] (defScope sIsZip) := ⟨rfl, rfl, rfl, by decide +kernel, rfl, by decide +kernel, by decide +kernel⟩
/-- the module's constants -/
structure Cst (K : PySem.W.Frag) (mg : Str → Option Value) (aS aD aI : Addr) : Prop where
  sorts : mg "SORTS" = some (.ref aS)
  dirs : mg "DIRECTIONS" = some (.ref aD)
  sides : mg "SIDES" = some (.ref aI)
  sortsK : ∀ H, SqT K H aS [.str "line", .str "ring"]
  dirsK : ∀ H, SqT K H aD [.str "parallel", .str "reversed"]
  sidesK : ∀ H, SqT K H aI [.int 0, .int 1]
  teeth : ∃ u, mg "MOST_TEETH" = some u ∧ RelV (.int 24) u
  rows : ∃ u, mg "MOST_ROWS" = some u ∧ RelV (.int 6) u
  rings : ∃ u, mg "MOST_RINGS" = some u ∧ RelV (.int 2) u
  zips : ∃ u, mg "MOST_ZIPS" = some u ∧ RelV (.int 8) u
  mini : ∃ u, mg "MOST_MINIMUM" = some u ∧ RelV (.int 24) u
def sortD : PyData → Bool
  | .str x => decide (x = "line") || decide (x = "ring")
  | _ => false
def dirD : PyData → Bool
  | .str x => decide (x = "parallel") || decide (x = "reversed")
  | _ => false
def feetD : PyData → Bool
  | .tuple fs => fs.all (intTup 2)
  | _ => false
def isRowD : PyData → Bool
  | .tuple [s, t, f] => sortD s && intBtw 1 24 t && feetD f
  | _ => false
def isZipD : PyData → Bool
  | .tuple [d, m] => dirD d && intBtw 0 24 m
  | _ => false
theorem any_sort {a b : Str} (d : PyData) : (([.str a, .str b] : List PyData).any fun z => PyData.eqv z d) = match d with
    | .str x => decide (x = a) || decide (x = b)
    | _ => false := by
  cases d <;> simp [List.any, PyData.eqv]
  rename_i x
  have h1 : (a == x) = decide (x = a) := by
    by_cases e : x = a
    · subst e; simp
    · rw [decide_eq_false e]; exact beq_eq_false_iff_ne.mpr (Ne.symm e)
  have h2 : (b == x) = decide (x = b) := by
    by_cases e : x = b
    · subst e; simp
    · rw [decide_eq_false e]; exact beq_eq_false_iff_ne.mpr (Ne.symm e)
  rw [h1, h2]
theorem any_sortD (d : PyData) : (([.str "line", .str "ring"] : List PyData).any fun z => PyData.eqv z d) = sortD d := by
  rw [any_sort]; cases d <;> rfl
theorem any_dirD (d : PyData) : (([.str "parallel", .str "reversed"] : List PyData).any fun z => PyData.eqv z d) = dirD d := by
  rw [any_sort]; cases d <;> rfl
section
variable {P : Program} {w : World} {K : PySem.W.Frag} {mg : Str → Option Value} {base : Heap} {aS aD aI : Addr}
def sp2 (K : PySem.W.Frag) (g : Int → PyData → Bool) : Sp := fun vs H Q _ => ∃ (v : V) (d : PyData) (n : Int), vs = [v, .int n] ∧ Dp K H v d ∧ Gd 1000 50 d ∧ ∀ H', Same H H' → Q (.bl (g n d)) H'
theorem tupBtw_nn (n : Int) (ds : List PyData) : tupBtw n n (.tuple ds) = decide ((ds.length : Int) = n) := by
  show (decide (n ≤ (ds.length : Int)) && decide ((ds.length : Int) ≤ n)) = _
  by_cases e : (ds.length : Int) = n
  · rw [decide_eq_true e, decide_eq_true (by omega), decide_eq_true (by omega)]; rfl
  · rw [decide_eq_false e]
    by_cases e1 : n ≤ (ds.length : Int)
    · rw [decide_eq_false (show ¬ (ds.length : Int) ≤ n by omega), Bool.and_false]
    · rw [decide_eq_false e1, Bool.false_and]
theorem ok_intT {f : Addr} {fd : FuncData} (T : Bl mg) (F : Fun K "is_integer_tuple" "is_integer_tuple" sIntT f fd) (cInt : Cal P w K mg base CX0 1 "is_integer" ["value"] (sp1 K isIntD)) (cTupB : Cal P w K mg base CX0 1 "is_tuple_between" ["value", "low", "high"] (sp3 K tupBtw)) :
    FnOk P w K mg base CX0 2 f fd ["value", "size"] (sp2 K intTup) := by
  refine F.ok scIntT (fun vs H Q E h => ?_) (fun cdv A outer s H vs Q E hr h => ?_)
  · obtain ⟨v, d, n, rfl, _⟩ := h
    rfl
  · obtain ⟨v, d, n, rfl, hd, hg, q⟩ := h
    refine ⟨_, (pss_one (ps_ret (pe_and (pe_cal cTupB (hr.mono (by decide)) pass0 (by rfl) (pa_cons (pv 0) (pa_cons (pv 1) (pa_cons (pv 1) pa_nil)))) (pe_one (pe_callB (cr_all rfl) (by rfl) T.all_ (by decide +kernel) (pa_cons (pe_lc (own := [("part", 2)]) (g := gName 2) (by rfl) scIntT.nd (pi_tup (pv 0)) (blkOk_by (own := [("part", 2)]) (N := ["value", "size", "part"]) (sc := defScope sIntT) (by decide +kernel)) (fun _ _ _ _ _ => (pg_name (i := 2) scIntT.nd rfl (Or.inl rfl))) (fun _ _ _ _ _ => pts_nil) (fun _ _ _ _ _ => (pe_cal cInt (hr.mono (by decide)) pass0 (by rfl) (pa_cons (pv 2) pa_nil)))) pa_nil)))))), ?_⟩
    refine ⟨v, rfl, .int n, rfl, .int n, rfl, v, d, n, n, rfl, hd, _, rfl, ite2 (fun e => ?_) (fun e => ?_)⟩
    · cases hd <;> first | cases e | skip
      rename_i a xs ds hs ha
      rw [tupBtw_nn] at e
      refine ⟨.ref a, rfl, a, rfl, ⟨_, hs⟩, fun D nD => ?_⟩
      refine lc_tup (K := K) (a := a) (xs := xs) (fun j H1 => Same H H1 ∧ H1 D = some (.lst (((ds.take j).map isIntD).map V.bl))) ⟨same_upd nD, upd_same⟩ (fun j H1 _ hv => same_seqT hv.1 hs) (fun j x H1 hx hv => ?_) (fun H1 hv => ?_)
      · obtain ⟨sm, eD⟩ := hv
        obtain ⟨d, hdj, hdx⟩ := DpAll.get ha hx
        have hj : j < ds.length := (List.getElem?_eq_some_iff.mp hdj).1
        refine ⟨rfl, x, rfl, x, d, rfl, Dp.same sm hdx, _, eD, ?_, ?_, ?_⟩
        · rw [List.length_map, List.length_map, List.length_take]
          have := hg.len
          exact small1000 (by omega)
        · intro b o e
          rw [upd_ne (ne_of_none e nD)]
          exact sm _ _ e
        · rw [upd_same, take_succ_of hdj, List.map_append, List.map_append]; rfl
      · obtain ⟨sm, eD⟩ := hv
        refine ⟨D, _, rfl, .inl (.inl eD), ?_⟩
        have e2 : intTup n (.tuple ds) = List.all ((ds.take xs.length).map isIntD) id := by
          rw [DpAll.len ha, List.take_length]
          show (decide ((ds.length : Int) = n) && ds.all isIntD) = _
          rw [e, Bool.true_and, List.all_map]
          rfl
        rw [← e2]
        exact q H1 sm
    · have e2 : intTup n d = false := by
        cases d <;> first | rfl | skip
        rename_i ds
        rw [tupBtw_nn] at e
        show (decide ((ds.length : Int) = n) && ds.all isIntD) = false
        have : decide ((ds.length : Int) = n) = false := by cases z : decide ((ds.length : Int) = n) <;> first | rfl | exact absurd z e
        rw [this, Bool.false_and]
      have q1 := q H (.refl H)
      rw [e2] at q1
      exact q1
theorem cal_intT {f : Addr} {fd : FuncData} (T : Bl mg) (F : Fun K "is_integer_tuple" "is_integer_tuple" sIntT f fd) (cInt : Cal P w K mg base CX0 1 "is_integer" ["value"] (sp1 K isIntD)) (cTupB : Cal P w K mg base CX0 1 "is_tuple_between" ["value", "low", "high"] (sp3 K tupBtw)) (g : mg "is_integer_tuple" = some (.ref f)) :
    Cal P w K mg base CX0 2 "is_integer_tuple" ["value", "size"] (sp2 K intTup) :=
  ⟨f, fd, g, F.kp, F.binds (ps := ["value", "size"]) fun _ _ _ _ _ _ us hl => match us, hl with | [_, _], _ => rfl, ok_intT T F cInt cTupB⟩
def spB (K : PySem.W.Frag) (g : PyData → Bool) : Sp := fun vs H Q _ => ∃ (v : V) (d : PyData), vs = [v] ∧ Dp K H v d ∧ Gd 1000 50 d ∧ ∀ H', Same H H' → Q (.bl (g d)) H'
theorem dp_sorts {H : Hp} (C : Cst K mg aS aD aI) : Dp K H (.ref aS) (.tuple [.str "line", .str "ring"]) := .tup (C.sortsK H) (.cons (.str _) (.cons (.str _) .nil))
theorem dp_dirs {H : Hp} (C : Cst K mg aS aD aI) : Dp K H (.ref aD) (.tuple [.str "parallel", .str "reversed"]) := .tup (C.dirsK H) (.cons (.str _) (.cons (.str _) .nil))
theorem ok_isRow {f : Addr} {fd : FuncData} (T : Bl mg) (C : Cst K mg aS aD aI) (F : Fun K "is_row" "is_row" sIsRow f fd) (cTupB : Cal P w K mg base CX0 1 "is_tuple_between" ["value", "low", "high"] (sp3 K tupBtw)) (cIntB : Cal P w K mg base CX0 2 "is_integer_between" ["value", "low", "high"] (sp3 K intBtw))
    (cIntT : Cal P w K mg base CX0 2 "is_integer_tuple" ["value", "size"] (sp2 K intTup)) : FnOk P w K mg base CX0 3 f fd ["value"] (spB K isRowD) := by
  refine F.ok scIsRow (fun vs H Q E h => ?_) (fun cdv A outer s H vs Q E hr h => ?_)
  · obtain ⟨v, d, rfl, _⟩ := h
    rfl
  · obtain ⟨v, d, rfl, hd, hg, q⟩ := h
    refine ⟨_, (pss_cons (ps_if (pt_not (pt_val (pe_cal cTupB (hr.mono (by decide)) pass0 (by rfl) (pa_cons (pv 0) (pa_cons pe_int (pa_cons pe_int pa_nil))))))
        (pss_one (ps_ret pe_bl))
        pss_nil)
      (pss_cons (ps_asg (pv 0) (pg_tup rfl (pgs_cons (pg_name (i := 1) scIsRow.nd rfl (Or.inl rfl)) (pgs_cons (pg_name (i := 2) scIsRow.nd rfl (Or.inl rfl)) (pgs_cons (pg_name (i := 3) scIsRow.nd rfl (Or.inl rfl)) pgs_nil)))))
      (pss_cons (ps_if (pw_or (pt_cmpR (op_notInDT (u65 hr)) (pv 1) (pe_glob (v := .ref aS) (by rfl) C.sorts rfl) rfl) (pw_or1 (pt_not (pt_val (pe_cal cIntB (hr.mono (by decide)) pass0 (by rfl) (pa_cons (pv 2) (pa_cons pe_int (pa_cons (C8.pe_gc (by rfl) C.teeth) pa_nil)))))))).pt
        (pss_one (ps_ret pe_bl))
        pss_nil)
      (pss_one (ps_ret (pe_and (pe_callB call_isi (by rfl) T.isinstance_ (by decide +kernel) (pa_cons (pv 3) (pa_cons (pe_bltn (v := .ty "tuple") (by rfl) T.tuple_ (by decide +kernel) rfl) pa_nil))) (pe_one (pe_callB (cr_all rfl) (by rfl) T.all_ (by decide +kernel) (pa_cons (pe_lc (own := [("foot", 4)]) (g := gName 4) (by rfl) scIsRow.nd (pi_tup (pv 3)) (blkOk_by (own := [("foot", 4)]) (N := ["value", "sort", "teeth", "feet", "foot"]) (sc := defScope sIsRow) (by decide +kernel)) (fun _ _ _ _ _ => (pg_name (i := 4) scIsRow.nd rfl (Or.inl rfl))) (fun _ _ _ _ _ => pts_nil) (fun _ _ _ _ _ => (pe_cal cIntT (hr.mono (by decide)) pass0 (by rfl) (pa_cons (pv 4) (pa_cons pe_int pa_nil))))) pa_nil))))))))), ?_⟩
    refine ⟨v, rfl, v, d, 3, 3, rfl, hd, _, rfl, ite2 (fun e => ?_) (fun e => ?_)⟩
    · have e2 : isRowD d = false := by
        cases d <;> first | rfl | skip
        rename_i ds
        rw [tupBtw_nn] at e
        match ds, e with
        | [], _ => rfl
        | [_], _ => rfl
        | [_, _], _ => rfl
        | [_, _, _], e => simp at e
        | _ :: _ :: _ :: _ :: _, _ => rfl
      have q1 := q H (.refl H)
      rw [e2] at q1
      exact q1
    · have e1 : tupBtw 3 3 d = true := by cases z : tupBtw 3 3 d <;> first | rfl | (rw [z] at e; exact absurd rfl e)
      cases hd <;> first | cases e1 | skip
      rename_i a xs ds hs ha
      rw [tupBtw_nn] at e1
      have e3 : ds.length = 3 := by have := of_decide_eq_true e1; omega
      cases hg with | tuple hg1 hg2 => ?_
      cases ha with
      | nil => cases e3
      | cons da ha =>
        cases ha with
        | nil => cases e3
        | cons db ha =>
          cases ha with
          | nil => cases e3
          | cons dc ha =>
            cases ha with
            | cons _ _ => simp at e3
            | nil =>
              rename_i v1 d1 v2 d2 v3 d3
              have g1 := hg2 d1 (by simp)
              have g3 := hg2 d3 (by simp)
              refine ⟨.ref a, rfl, a, [v1, v2, v3], rfl, hs, rfl, v1, [v2, v3], rfl, v2, [v3], rfl, v3, [], rfl, rfl, ?_⟩
              refine ⟨v1, rfl, d1, _, da, dp_sorts C, g1.shaped (by decide), by decide +kernel, _, rfl, ?_⟩
              rw [any_sortD]
              cases s1 : sortD d1 with
              | false =>
                refine iteT (iteT ?_)
                have e2 : isRowD (.tuple [d1, d2, d3]) = false := by show (sortD d1 && intBtw 1 24 d2 && feetD d3) = false; rw [s1]; rfl
                have q1 := q H (.refl H)
                rw [e2] at q1
                exact q1
              | true =>
                refine iteF ?_
                refine ⟨v2, rfl, v2, d2, 1, 24, rfl, db, _, rfl, ?_⟩
                cases s2 : intBtw 1 24 d2 with
                | false =>
                  refine iteT ?_
                  have e2 : isRowD (.tuple [d1, d2, d3]) = false := by show (sortD d1 && intBtw 1 24 d2 && feetD d3) = false; rw [s1, s2]; rfl
                  have q1 := q H (.refl H)
                  rw [e2] at q1
                  exact q1
                | true =>
                  refine iteF ?_
                  have e2 : isRowD (.tuple [d1, d2, d3]) = feetD d3 := by show (sortD d1 && intBtw 1 24 d2 && feetD d3) = feetD d3; rw [s1, s2]; rfl
                  rw [e2] at q
                  refine ⟨v3, rfl, v3, .ty "tuple", _, _, _, rfl, .ty _, ty_of dc, isi_tup dc, _, rfl, ?_⟩
                  cases s3 : isTupD d3 with
                  | false =>
                    refine iteF ?_
                    have e4 : feetD d3 = false := by cases d3 <;> first | rfl | cases s3
                    have q1 := q H (.refl H)
                    rw [e4] at q1
                    exact q1
                  | true =>
                    refine iteT ?_
                    cases dc <;> first | cases s3 | skip
                    rename_i a3 xs3 fs hs3 ha3
                    refine ⟨.ref a3, rfl, a3, rfl, ⟨_, hs3⟩, fun D nD => ?_⟩
                    refine lc_tup (K := K) (a := a3) (xs := xs3) (fun j H1 => Same H H1 ∧ H1 D = some (.lst (((fs.take j).map (intTup 2)).map V.bl))) ⟨same_upd nD, upd_same⟩ (fun j H1 _ hv => same_seqT hv.1 hs3) (fun j x H1 hx hv => ?_) (fun H1 hv => ?_)
                    · obtain ⟨sm, eD⟩ := hv
                      obtain ⟨d, hdj, hdx⟩ := DpAll.get ha3 hx
                      cases g3 with | tuple g31 g32 => ?_
                      refine ⟨rfl, x, rfl, x, d, 2, rfl, Dp.same sm hdx, (g32 d (List.mem_of_getElem? hdj)).up.up, fun H2 sm2 => ⟨_, sm2 _ _ eD, ?_, ?_, ?_⟩⟩
                      · rw [List.length_map, List.length_map, List.length_take]
                        exact small1000 (by omega)
                      · intro b o e
                        rw [upd_ne (ne_of_none e nD)]
                        exact sm2 _ _ (sm _ _ e)
                      · rw [upd_same, take_succ_of hdj, List.map_append, List.map_append]; rfl
                    · obtain ⟨sm, eD⟩ := hv
                      refine ⟨D, _, rfl, .inl (.inl eD), ?_⟩
                      have e5 : feetD (.tuple fs) = List.all ((fs.take xs3.length).map (intTup 2)) id := by
                        rw [DpAll.len ha3, List.take_length, List.all_map]
                        rfl
                      rw [← e5]
                      exact q H1 sm
theorem cal_isRow {f : Addr} {fd : FuncData} (T : Bl mg) (C : Cst K mg aS aD aI) (F : Fun K "is_row" "is_row" sIsRow f fd) (cTupB : Cal P w K mg base CX0 1 "is_tuple_between" ["value", "low", "high"] (sp3 K tupBtw)) (cIntB : Cal P w K mg base CX0 2 "is_integer_between" ["value", "low", "high"] (sp3 K intBtw))
    (cIntT : Cal P w K mg base CX0 2 "is_integer_tuple" ["value", "size"] (sp2 K intTup)) (g : mg "is_row" = some (.ref f)) : Cal P w K mg base CX0 3 "is_row" ["value"] (spB K isRowD) :=
  ⟨f, fd, g, F.kp, F.binds (ps := ["value"]) fun _ _ _ _ _ _ us hl => match us, hl with | [_], _ => rfl, ok_isRow T C F cTupB cIntB cIntT⟩
theorem ok_isZip {f : Addr} {fd : FuncData} (C : Cst K mg aS aD aI) (F : Fun K "is_zip" "is_zip" sIsZip f fd) (cTupB : Cal P w K mg base CX0 1 "is_tuple_between" ["value", "low", "high"] (sp3 K tupBtw)) (cIntB : Cal P w K mg base CX0 2 "is_integer_between" ["value", "low", "high"] (sp3 K intBtw)) :
    FnOk P w K mg base CX0 3 f fd ["value"] (spB K isZipD) := by
  refine F.ok scIsZip (fun vs H Q E h => ?_) (fun cdv A outer s H vs Q E hr h => ?_)
  · obtain ⟨v, d, rfl, _⟩ := h
    rfl
  · obtain ⟨v, d, rfl, hd, hg, q⟩ := h
    have q0 := q H (.refl H)
    clear q
    refine ⟨_, (pss_cons (ps_if (pt_not (pt_val (pe_cal cTupB (hr.mono (by decide)) pass0 (by rfl) (pa_cons (pv 0) (pa_cons pe_int (pa_cons pe_int pa_nil))))))
        (pss_one (ps_ret pe_bl))
        pss_nil)
      (pss_cons (ps_asg (pv 0) (pg_tup rfl (pgs_cons (pg_name (i := 1) scIsZip.nd rfl (Or.inl rfl)) (pgs_cons (pg_name (i := 2) scIsZip.nd rfl (Or.inl rfl)) pgs_nil))))
      (pss_one (ps_ret (pe_and (pe_cmpR (op_inDT (u65 hr)) (pv 1) (pe_glob (v := .ref aD) (by rfl) C.dirs rfl) rfl) (pe_one (pe_cal cIntB (hr.mono (by decide)) pass0 (by rfl) (pa_cons (pv 2) (pa_cons pe_int (pa_cons (C8.pe_gc (by rfl) C.mini) pa_nil)))))))))), ?_⟩
    refine ⟨v, rfl, v, d, 2, 2, rfl, hd, _, rfl, ite2 (fun e => ?_) (fun e => ?_)⟩
    · have e2 : isZipD d = false := by
        cases d <;> first | rfl | skip
        rename_i ds
        rw [tupBtw_nn] at e
        match ds, e with
        | [], _ => rfl
        | [_], _ => rfl
        | [_, _], e => simp at e
        | _ :: _ :: _ :: _, _ => rfl
      rw [e2] at q0
      exact q0
    · have e1 : tupBtw 2 2 d = true := by cases z : tupBtw 2 2 d <;> first | rfl | (rw [z] at e; exact absurd rfl e)
      cases hd <;> first | cases e1 | skip
      rename_i a xs ds hs ha
      rw [tupBtw_nn] at e1
      have e3 : ds.length = 2 := by have := of_decide_eq_true e1; omega
      cases hg with | tuple hg1 hg2 => ?_
      cases ha with
      | nil => cases e3
      | cons da ha =>
        cases ha with
        | nil => cases e3
        | cons db ha =>
          cases ha with
          | cons _ _ => simp at e3
          | nil =>
            rename_i v1 d1 v2 d2
            have g1 := hg2 d1 (by simp)
            refine ⟨.ref a, rfl, a, [v1, v2], rfl, hs, rfl, v1, [v2], rfl, v2, [], rfl, rfl, ?_⟩
            refine ⟨v1, rfl, d1, _, da, dp_dirs C, g1.shaped (by decide), by decide +kernel, _, rfl, ?_⟩
            rw [any_dirD]
            cases s1 : dirD d1 with
            | false =>
              refine iteF ?_
              have e2 : isZipD (.tuple [d1, d2]) = false := by show (dirD d1 && intBtw 0 24 d2) = false; rw [s1]; rfl
              rw [e2] at q0
              exact q0
            | true =>
              refine iteT ?_
              have e2 : isZipD (.tuple [d1, d2]) = intBtw 0 24 d2 := by show (dirD d1 && intBtw 0 24 d2) = intBtw 0 24 d2; rw [s1]; rfl
              rw [e2] at q0
              exact ⟨v2, rfl, v2, d2, 0, 24, rfl, db, q0⟩
theorem cal_isZip {f : Addr} {fd : FuncData} (C : Cst K mg aS aD aI) (F : Fun K "is_zip" "is_zip" sIsZip f fd) (cTupB : Cal P w K mg base CX0 1 "is_tuple_between" ["value", "low", "high"] (sp3 K tupBtw)) (cIntB : Cal P w K mg base CX0 2 "is_integer_between" ["value", "low", "high"] (sp3 K intBtw)) (g : mg "is_zip" = some (.ref f)) :
    Cal P w K mg base CX0 3 "is_zip" ["value"] (spB K isZipD) :=
  ⟨f, fd, g, F.kp, F.binds (ps := ["value"]) fun _ _ _ _ _ _ us hl => match us, hl with | [_], _ => rfl, ok_isZip C F cTupB cIntB⟩
end
end Zs
namespace Zs
open PySem PySem.Spec PyProof.Rows L2
/-! ### sets of tuples of ints: k in s, without adding -/
section
variable {P : Program} {w : World} {A : Around} {E : Value → Shared → Prop} {s : Shared} {a x : Addr} {L : List (Addr × List Int)} {es : Array (Int × Value)} {ep : Nat} {t : SetTable} {k : List Int}
/-- the c-th place of the way of a hash through a table -/
abbrev stp (m : Nat) (h : Int) (c : Nat) : SetTable.Probe := nth m (runAt m (SetTable.bits h % (m + 1)) (SetTable.bits h)) c
theorem stp_plain (m : Nat) (h : Int) (c : Nat) : (stp m h c).dummy = none := by
  induction c with
  | zero => rfl
  | succ c ih =>
    show (nth _ _ (c + 1)).dummy = none
    rw [nth_succ]
    unfold adv
    split <;> exact ih
theorem look_from (R : SetTR P w s.heap a L es ep t) (isx : IsT P w s.heap k x) (room : A.units < cLine) {Z : Nat} (short : Z < 10 * SetTable.turns t.mask) (endZ : way t.mask (thash P w k) Z ∉ t.place.toList)
    (before : ∀ c, c < Z → way t.mask (thash P w k) c ∈ t.place.toList) {Q : SetFound → Shared → Prop} (yes : ∀ i, k ∈ L.map (·.2) → Q (.there (some i)) s) (no : k ∉ L.map (·.2) → Q (.free (way t.mask (thash P w k) Z) false) s) :
    ∀ (fuel c : Nat) (stand : Option SetTable.Probe), stand.getD (t.probeStart (thash P w k)) = stp t.mask (thash P w k) c → c ≤ Z → Z - c < fuel →
      (∀ (i : Nat) p, L[i]? = some p → p.2 = k → ∃ d, c ≤ d ∧ d < Z ∧ t.place.toList[i]? = some (way t.mask (thash P w k) d)) → wpAny (model P w) A (setSearchFrom a (.ref x) (thash P w k) false fuel stand) Q E s := by
  intro fuel
  induction fuel with
  | zero => intro c stand _ _ lt _; omega
  | succ fuel again =>
    intro c stand here cZ lt where_
    obtain ⟨ob, atA, exact_, data⟩ := R.ob
    have shift : ∀ q, nth t.mask (stp t.mask (thash P w k) c) q = stp t.mask (thash P w k) (c + q) := fun q => (nth_add t.mask c _ q).symm
    have shiftJ : ∀ q, (nth t.mask (stp t.mask (thash P w k) c) q).j = way t.mask (thash P w k) (c + q) := fun q => congrArg SetTable.Probe.j (shift q)
    have hashOf : ∀ (i : Nat) p, L[i]? = some p → ((es[i]?.map (·.1)).getD 0) = thash P w p.2 := fun i p z => by
      rw [R.entry z]
      rfl
    rw [setSearchFrom_succ]
    refine wpAny_bind (wpAny_setState_of atA data R.fits ?_)
    dsimp only
    refine wp_if_neg R.gw ?_
    try refine wpAny_bind (wpAny_pure ?_)
    rcases go_spec t R.tab.ris R.tab.dm (fun i => (es[i]?.map (·.1)).getD 0) (thash P w k) (10 * SetTable.turns t.mask) (Z - c) _ (stp_plain t.mask (thash P w k) c) (by omega)
        (fun q lq => by rw [shiftJ]; exact before (c + q) (by omega)) (by rw [shiftJ, show c + (Z - c) = Z by omega]; exact endZ) with ⟨q, i, lq, ati, same, fresh, met⟩ | ⟨fresh, met⟩
    · have met' : t.probe (fun i => (es[i]?.map (·.1)).getD 0) (thash P w k) (stand.getD (t.probeStart (thash P w k))) = some (.candidate (way t.mask (thash P w k) (c + q)) i (stp t.mask (thash P w k) (c + (q + 1)))) := by
        rw [here, ← shiftJ, ← shift]
        exact met
      rw [met']
      dsimp only
      rw [shiftJ] at ati
      have inL : i < L.length := by
        have z1 := (List.getElem?_eq_some_iff.mp ati).1
        have z2 := R.tab.sz
        rw [List.length_map] at z2
        rw [Array.length_toList, z2] at z1
        exact z1
      obtain ⟨p, atp⟩ : ∃ p, L[i]? = some p := ⟨_, List.getElem?_eq_getElem inL⟩
      have memp : p ∈ L := List.mem_of_getElem? atp
      have live : t.slot (way t.mask (thash P w k) (c + q)) = .live i := slot_live R.tab.ris ati
      have onward : wpAny (model P w) A (searchRest a (.ref x) (thash P w k) false fuel es t (way t.mask (thash P w k) (c + q)) i (stp t.mask (thash P w k) (c + (q + 1)))) Q E s := by
        unfold searchRest
        rw [R.entry atp]
        dsimp only
        refine wpAny_bind (wpAny_holding (wpAny_eqBool_tuple room (R.tup p memp) isx ?_))
        refine wpAny_bind (wpAny_setState_of atA data R.fits ?_)
        dsimp only
        refine wp_if_neg (by simp) ?_
        try refine wpAny_bind (wpAny_pure ?_)
        rw [sameMem]
        dsimp only
        simp only [if_true, live, R.entry atp]
        refine wpAny_bind (wpAny_isSame_ref_self (wpAny_bind (wpAny_pure ?_)))
        simp only [if_true]
        by_cases eq : p.2 = k
        · refine wp_if_pos (by simp [eq]) (wpAny_pure (yes i ?_))
          exact List.mem_map.mpr ⟨p, memp, eq⟩
        · refine wp_if_neg (by simp [eq]) ?_
          refine again (c + (q + 1)) _ rfl (by omega) (by omega) fun j r atr er => ?_
          obtain ⟨d, d1, d2, d3⟩ := where_ j r atr er
          refine ⟨d, ?_, d2, d3⟩
          rcases Nat.lt_trichotomy d (c + q) with z | z | z
          · exact absurd ((hashOf j r atr).trans (congrArg (thash P w) er)) (fresh (d - c) j (by omega) (by rw [shiftJ, show c + (d - c) = d by omega]; exact d3))
          · rw [z] at d3
            have both := slot_live R.tab.ris d3
            rw [live] at both
            injection both with both
            rw [← both, atp] at atr
            exact absurd ((congrArg Prod.snd (Option.some.inj atr)).trans er) eq
          · omega
      cases led : t.led with
      | true =>
        refine wp_if_neg (by simp) ?_
        try refine wpAny_bind (wpAny_pure ?_)
        exact onward
      | false =>
        refine wp_if_pos (by simp) (wpAny_bind (seen_tup isx (fun y memy => ?_) (wp_if_neg (by decide) ?_)))
        · obtain ⟨e, mem1, rfl⟩ := List.mem_map.mp memy
          have mem2 : e ∈ es.toList := by
            have z : e ∈ es ∧ e.1 = thash P w k := by simpa using mem1
            simpa using z.1
          rw [R.rows] at mem2
          obtain ⟨r, memr, rfl⟩ := List.mem_map.mp mem2
          exact ⟨r.2, r.1, rfl, R.tup r memr⟩
        · try refine wpAny_bind (wpAny_pure ?_)
          exact onward
    · have met' : t.probe (fun i => (es[i]?.map (·.1)).getD 0) (thash P w k) (stand.getD (t.probeStart (thash P w k))) = some (.empty (way t.mask (thash P w k) Z) none) := by
        have z : (nth t.mask (stp t.mask (thash P w k) c) (Z - c)).j = way t.mask (thash P w k) Z := by rw [shiftJ, show c + (Z - c) = Z by omega]
        rw [here, ← z]
        exact met
      rw [met']
      dsimp only
      refine wpAny_pure (no fun memk => ?_)
      obtain ⟨r, memr, er⟩ := List.mem_map.mp memk
      obtain ⟨j, lj, ej⟩ := List.getElem_of_mem memr
      have atr : L[j]? = some r := by rw [List.getElem?_eq_getElem lj, ej]
      obtain ⟨d, d1, d2, d3⟩ := where_ j r atr er
      exact fresh (d - c) j (by omega) (by rw [shiftJ, show c + (d - c) = d by omega]; exact d3) ((hashOf j r atr).trans (congrArg (thash P w) er))
/-- is the tuple k in the set: the search as «in» asks for it -/
theorem find_tup (R : SetTR P w s.heap a L es ep t) (isx : IsT P w s.heap k x) (room : A.units < cLine) {Q : Option Nat → Shared → Prop} (yes : ∀ i, k ∈ L.map (·.2) → Q (some i) s) (no : k ∉ L.map (·.2) → Q none s) :
    wpAny (model P w) A (setFind a (.ref x) (thash P w k)) Q E s := by
  obtain ⟨ob, atA, exact_, data⟩ := R.ob
  have size := R.room
  obtain ⟨Z, short, endZ, before⟩ := R.tab.first (by rw [List.length_map]; omega) (thash P w k)
  have few : Z < 100000 := by
    have z : 10 * SetTable.turns t.mask ≤ 1420 := by
      unfold SetTable.turns
      rcases R.tab.mok with e | e | e <;> omega
    omega
  unfold setFind
  rw [show (100000 : Nat) = 99999 + 1 from rfl]
  unfold setFindIn
  refine wpAny_bind (wpAny_setState_of atA data R.fits ?_)
  dsimp only
  refine wp_if_neg (by simp [byScan, Value.scannable]) ?_
  try refine wpAny_bind (wpAny_pure ?_)
  unfold setSearch
  refine wpAny_bind (look_from (Q := fun r s' => wpAny (model P w) A (match r with | .there i => pure i | .free .. => pure none) Q E s') R isx room short endZ before (fun i z => wpAny_pure (yes i z)) (fun z => wpAny_pure (no z)) 100000 0 none rfl (Nat.zero_le _) (by omega) fun i p atp ep' => ?_)
  have ati : (L.map fun p => thash P w p.2)[i]? = some (thash P w k) := by
    rw [List.getElem?_map, atp, ← ep']
    rfl
  have lt : i < t.place.toList.length := by
    have z1 := (List.getElem?_eq_some_iff.mp atp).1
    have z2 := R.tab.sz
    rw [List.length_map] at z2
    rw [Array.length_toList]
    omega
  have atj := List.getElem?_eq_getElem lt
  obtain ⟨c, lc, ec⟩ := R.tab.before endZ ati atj
  exact ⟨c, Nat.zero_le _, lc, by rw [atj, ec]⟩
theorem in_setT (R : SetTR P w s.heap a L es ep t) (isx : IsT P w s.heap k x) (room : A.units + 1 < cLine) {Q : Value → Shared → Prop} (q : ∀ tk, Q (.bool (decide (k ∈ L.map (·.2)))) { s with toks := tk }) :
    wpAny (model P w) A (compareOp .In (.ref x) (.ref a)) Q E s := by
  obtain ⟨ob, atA, exact_, data⟩ := R.ob
  have isSet : s.TypeIs (.ref a) "set" := ⟨ob, atA, exact_.1⟩
  show wpAny _ _ (do return .bool (← contains (.ref a) (.ref x))) Q E s
  refine wpAny_bind ?_
  unfold contains
  try with_reducible refine wpAny_holding ?_
  refine wpAny_bind (wpAny_specialOf isSet F.slot_set_contains.lookup ?_)
  have named : ¬ (some (Value.builtin "set.__contains__") == some Value.none) = true := by
    rw [beq_builtin_none]
    decide
  refine wp_if_neg named ?_
  refine wpAny_bind (wpAny_callSpecialUnlessNone?_slot (name := Str.ofString "__contains__") isSet F.slot_set_contains (wpAny_call_entry F.slot_set_contains isSet entry_set_contains ?_ (F.args_set_contains_2 _ _)))
  simp only [Builtin.«frozenset.__contains__», Builtin.Frozenset.oneOther, Builtin.Frozenset.addrOf, Builtin.Frozenset.withSetAsKey, setContains, List.isEmpty_nil, bind_assoc]
  refine wpAny_bind (wpAny_pure ?_)
  try dsimp only
  refine wpAny_bind (wpAny_pure ?_)
  try dsimp only
  refine wpAny_bind (wpAny_tryCatch (wpAny_holding (wpAny_bind (wpAny_pyHash_tuple (by show A.units + 1 < cLine; exact room) isx ?_))))
  refine wpAny_bind (find_tup (s := { s with toks := s.toks + (k.length + 1) }) R isx (by show A.units + 1 < cLine; exact room) (fun i z => wpAny_pure ?_) (fun z => wpAny_pure ?_))
  · show wpAny _ _ (ret (Value.bool true)) _ _ _
    refine wpAny_pure ⟨_, rfl, wpAny_truthy_bool (wpAny_pure ?_)⟩
    have z' := q (s.toks + (k.length + 1))
    rw [decide_eq_true z] at z'
    exact z'
  · show wpAny _ _ (ret (Value.bool false)) _ _ _
    refine wpAny_pure ⟨_, rfl, wpAny_truthy_bool (wpAny_pure ?_)⟩
    have z' := q (s.toks + (k.length + 1))
    rw [decide_eq_false z] at z'
    exact z'
/-- s.add(t), t a tuple that isn't in it yet -/
theorem add_setT (R : SetTR P w s.heap a L es ep t) (isx : IsT P w s.heap k x) (room : A.units + 1 < cLine) (few : L.length + 1 < 64) (new : k ∉ L.map (·.2)) {Q : Value → Shared → Prop}
    (q : ∀ h₂ tk L₂, Heap.SameBut a s.heap h₂ → SetT0 P w h₂ a L₂ → L₂.Perm ((x, k) :: L) → Q .none { s with heap := h₂, toks := tk }) :
    wpAny (model P w) A (call (.builtin "set.add") [.ref a, .ref x]) Q E s := by
  obtain ⟨ob, atA, exact_, data⟩ := R.ob
  have isSet : s.TypeIs (.ref a) "set" := ⟨ob, atA, exact_.1⟩
  refine wpAny_call_entry F.slot_set_add isSet F.entry_set_add ?_ (F.args_set_add_2 _ _)
  simp only [Builtin.«set.add», Builtin.Frozenset.oneOther, Builtin.Frozenset.addrOf, setAdd, List.isEmpty_nil, bind_assoc]
  refine wpAny_bind (wpAny_pure ?_)
  try dsimp only
  refine wpAny_bind (wpAny_pure ?_)
  try dsimp only
  refine wpAny_bind (wpAny_holding (wpAny_bind (wpAny_pyHash_tuple (by show A.units + 1 < cLine; exact room) isx ?_)))
  refine add_at (s := { s with toks := s.toks + (k.length + 1) }) R isx (by show A.units + 1 < cLine; exact room) few fun b h₂ L₂ es₂ ep₂ t₂ kept R₂ _ perm => ?_
  show wpAny _ _ (ret Value.none) _ _ _
  exact wpAny_pure ⟨_, rfl, q h₂ _ L₂ kept R₂.t0 (perm new)⟩
end
section
variable {X : Cx}
/-- the set at a, with its tuples, is read -/
theorem setT_get {pins : List (Addr × Obj)} {σ : L2.St} {H : Hp} {s : Shared} {a : Addr} {L : List (Addr × List Int)} (I : Inv X pins σ H s) (ha : H a = some (SetTO X.prog X.w a L)) (ht : ∀ p ∈ L, SqT X.K H p.1 (p.2.map V.int)) :
    ∃ es ep t, SetTR X.prog X.w s.heap a L es ep t := by
  have z : SetT0 X.prog X.w s.heap a L := (I.hok a _ ha).1
  exact z.full fun p hp => I.isT (ht p hp)
def rSetT0 (P : Program) (w : World) : List V → Hp → VK → Prop := fun xs H Q => xs = [] ∧ ∀ p, H p = none → Q (.ref p) (upd H p (SetTO P w p []))
theorem cr_setT0 : CallR X (.type "set") (rSetT0 X.prog X.w) := by
  rintro pins s σ H xs us Q I rel ⟨rfl, q⟩
  cases rel
  refine setR_new fun _ => ?_
  have made : SetT0 X.prog X.w _ s.heap.objs.size [] := (setTR_fresh (P := X.prog) (w := X.w) (Heap.get?_push_size s.heap rfl)).t0
  exact ⟨.ref _, _, I.laid (t' := s.toks) (fun b u z => Heap.get?_push_of_some _ z) (Nat.le_refl _) (setTO_new made), rfl, q _ (I.hok.fresh (Nat.le_refl _))⟩
/-- t in s -/
def rInT (K : PySem.W.Frag) (P : Program) (w : World) : R2 := fun x y H Q => ∃ (t a : Addr) (k : List Int) (L : List (Addr × List Int)), x = .ref t ∧ y = .ref a ∧ SqT K H t (k.map V.int) ∧ H a = some (SetTO P w a L) ∧ (∀ p ∈ L, SqT K H p.1 (p.2.map V.int)) ∧ Q (.bl (decide (k ∈ L.map (·.2)))) H
theorem op_inT (room : X.A.units + 1 < cLine) : OpR X (compareOp .In) (rInT X.K X.prog X.w) := by
  rintro pins s σ H x y v u Q I rx ry ⟨t, a, k, L, rfl, rfl, sq, ha, ht, q⟩
  cases rx
  cases ry
  obtain ⟨es, ep, tb, R⟩ := setT_get I ha ht
  exact in_setT R (I.isT sq) room fun tk => ⟨.bl _, H, I.tok _, rfl, q⟩
/-- s.add(t) -/
def rAddT (K : PySem.W.Frag) (P : Program) (w : World) : V → List V → Hp → VK → Prop := fun x xs H Q => ∃ (t a : Addr) (k : List Int) (L : List (Addr × List Int)), x = .ref a ∧ xs = [.ref t] ∧ SqT K H t (k.map V.int) ∧ H a = some (SetTO P w a L) ∧
  (∀ p ∈ L, SqT K H p.1 (p.2.map V.int)) ∧ L.length + 1 < 64 ∧ k ∉ L.map (·.2) ∧ ∀ L₂, L₂.Perm ((t, k) :: L) → Q .non (upd H a (SetTO P w a L₂))
theorem mt_addT (room : X.A.units + 1 < cLine) : MtR X "set.add" (rAddT X.K X.prog X.w) := by
  rintro pins s σ H x xs v us Q I rx rxs ⟨t, a, k, L, rfl, rfl, sq, ha, ht, few, new, q⟩
  cases rx
  rw [Vals.ref1 rxs]
  obtain ⟨es, ep, tb, R⟩ := setT_get I ha ht
  refine add_setT R (I.isT sq) room few new fun h₂ tk L₂ kept made perm => ?_
  have there : ∃ u, h₂.get? a = some u := by
    obtain ⟨_, _, _, ⟨o, z, _⟩, _⟩ := made.ex
    exact ⟨o, z⟩
  exact ⟨.non, _, I.write (e := a) (t' := tk) (by rw [ha]; trivial) (.inl rfl) (fun b u nb z => (kept.2 b nb).trans z) there (setTO_new made), rfl, q L₂ perm⟩
def tAddT (K : PySem.W.Frag) (P : Program) (w : World) (to : TE) (t : TA) : TE := fun σ H Q => to σ H fun x H1 => (∃ a L, x = V.ref a ∧ H1 a = some (SetTO P w a L)) ∧ t σ H1 fun xs H2 => rAddT K P w x xs H2 Q
theorem pe_addT {o e : Expr} {es : List Expr} {to : TE} {t : TA} {apos cpos : Pos} (room : X.A.units + 1 < cLine) (ho : PE X o to) (ha : PA X (e :: es) t) (hbase : attributeBase o "add" X.env (eval o X.env) = eval o X.env := by rfl)
    (hfew : ((backTo cpos (starEach (e :: es) X.env)).all (fun x => !x.1) && (backToKw cpos (keywordEach [] X.env)).all (fun x => x.1.isSome) && decide ((e :: es).length + ([] : List Keyword).length + (if ([] : List Keyword).isEmpty then 0 else 1) < 30)) = true := by rfl)
    (hline : (apos.endLine == cpos.line) = true := by rfl) (star : starEach (e :: es) X.env = (false, eval e X.env) :: starEach es X.env := by rfl) (plain : (backTo cpos (starEach es X.env)).any (·.1) = false := by rfl) :
    PE X (.Call (.Attribute o "add" apos) (e :: es) [] cpos) (tAddT X.K X.prog X.w to t) := by
  constructor
  intro pins s σ H Q I read
  refine wpAny_Call_method_late hbase hfew hline rfl (thn (ho.run pins s σ H _ I read) ?_)
  rintro v s1 ⟨x, H1, I1, r1, ⟨a, L, rfl, at_⟩, q1⟩
  cases r1
  obtain ⟨_, _, _, ⟨ob, there, isSet, _⟩, _⟩ := SetT0.ex (I1.hok a _ at_).1
  refine ⟨"set", "set.add", F.plainAttrs_set, F.slot_set_add, F.type_set_add, ⟨ob, there, isSet.1⟩, ?_, ?_⟩
  · rintro b ⟨⟩
    exact ⟨ob, there, isSet.2.1⟩
  · have args := ha.run cpos pins s1 σ H1 _ I1 q1
    rw [star] at args ⊢
    refine Calls.callWith_builtin (by show (false || (backTo cpos (starEach es X.env)).any (·.1)) = false; rw [plain]; rfl) (Calls.evalArgs_plain (thn args ?_))
    rintro us s2 ⟨vs, H2, I2, r2, q2⟩
    exact mt_addT room pins s2 σ H2 (.ref a) vs (.ref a) us Q I2 rfl r2 q2
/-- len(s) -/
theorem call_lenT : CallR X (.builtin "len") (fun xs H Q => ∃ (a : Addr) (L : List (Addr × List Int)), xs = [.ref a] ∧ H a = some (SetTO X.prog X.w a L) ∧ (∀ p ∈ L, SqT X.K H p.1 (p.2.map V.int)) ∧ Q (.int L.length) H) := by
  rintro pins s σ H xs us Q I rel ⟨a, L, rfl, at_, ht, q⟩
  rw [Vals.ref1 rel]
  obtain ⟨es, ep, tb, R⟩ := setT_get I at_ ht
  obtain ⟨ob, there, isSet, data⟩ := R.ob
  have size := R.size
  have few := R.few
  refine call_len_set there isSet data R.fits (by omega) ⟨.int (L.length : Nat), H, I.tok _, ⟨_, by rw [size]⟩, q⟩
end
end Zs
namespace Zs
open PySem PySem.Spec PyProof.Rows L2
/-! ### {k: v for .. in .. for .. in ..}, nothing raised, keys tuples -/
abbrev Dc2 (kx vx t0 i0 t1 i1 : Expr) (sc : Scope) (p : Pos) : Expr := .DictComp kx vx [⟨t0, i0, [], 0⟩, ⟨t1, i1, [], 0⟩] sc p
abbrev Nev : Value → Shared → Prop := fun _ _ => False
theorem nev {α : Type} {M : Model} {A : Around} {x : Sem α} {Q Q' : α → Shared → Prop} {E : Value → Shared → Prop} {s : Shared} (h : wpAny M A x Q Nev s) (f : ∀ a s', Q a s' → Q' a s') : wpAny M A x Q' E s :=
  wpAny_mono h f fun _ _ z => z.elim
section
variable {prog : Program} {w : World} {A : Around} {R : Result → Shared → Prop} {s : Shared} {kx vx t0 i0 t1 i1 : Expr} {sc : Scope} {p : Pos} {it : Value} {D : Addr} {env : Env}
theorem dc2_out (fold : ∀ x, foldedSetIterable i1 env x = pure x) (I : Nat → Shared → Prop)
    (turn : ∀ n s, I n s → wpAny (model prog w) A (pyNext it) (fun r s1 => (r = none ∧ R (.ok .next) s1) ∨ ∃ v, r = some v ∧ wpAny (model prog w) A (letOwnedTupleGo t0 it v) (fun _ s2 => wpAny (model prog w) A (assign t0 env v) (fun _ s3 =>
      wpAny (model prog w) A (eval i1 env) (fun x s4 => wpAny (model prog w) A (pyIter x) (fun it1 s5 => codeAny (model prog w) A (.compStart (Dc2 kx vx t0 i0 t1 i1 sc p) 1 it1 (.ref D) env)
        (fun r s6 => (∃ fl, r = .ok fl) ∧ ∃ m, m < n ∧ I m s6) s5) Nev s4) Nev s3) Nev s2) Nev s1) Nev s) (n : Nat) (h : I n s) : codeAny (model prog w) A (.compLoop (Dc2 kx vx t0 i0 t1 i1 sc p) 0 it (.ref D) env) R s := by
  refine codeAny_loop rfl I (fun n s hI => ?_) n h
  show wpAny _ A ((compTurn (Dc2 kx vx t0 i0 t1 i1 sc p) 0 it (.ref D) env).onRaise _) _ _ s
  refine wpAny_noted ?_
  show wpAny _ _ (standAt _ >>= _) _ _ s
  refine wpAny_bind (wpAny_standAt (wpAny_bind (nev (turn n s hI) ?_)))
  rintro r s1 (⟨rfl, done⟩ | ⟨v, rfl, next⟩)
  · exact wpAny_pure done
  · refine wpAny_bind (nev next fun _ s2 next => wpAny_bind (nev next fun _ s3 next => ?_))
    refine wpAny_bind (wpAny_pure (wpAny_bind (nev next fun x s4 next => wpAny_bind (wpAny_standAt (wpAny_bind (wpAny_of_eq (fold x) (wpAny_bind (wpAny_holding (nev next fun it1 s5 next => ?_)))))))))
    refine wpAny_bind (wpAny_runOwn ?_)
    rw [Around.mark_none]
    refine codeAny_mono next ?_
    rintro r s6 ⟨⟨fl, rfl⟩, more⟩
    first
      | exact wpAny_pure ⟨rfl, more⟩
      | exact wpAny_bind (wpAny_pure (wpAny_pure ⟨rfl, more⟩))
theorem dc2_in (I : Nat → Shared → Prop)
    (turn : ∀ n s, I n s → wpAny (model prog w) A (pyNext it) (fun r s1 => (r = none ∧ R (.ok .next) s1) ∨ ∃ v, r = some v ∧ wpAny (model prog w) A (letOwnedTupleGo t1 it v) (fun _ s2 => wpAny (model prog w) A (assign t1 env v) (fun _ s3 =>
      wpAny (model prog w) A (eval kx env) (fun k s4 => wpAny (model prog w) A (eval vx env) (fun y s5 => wpAny (model prog w) A (dictSet D k y) (fun _ s6 => ∃ m, m < n ∧ I m s6) Nev s5) Nev s4) Nev s3) Nev s2) Nev s1) Nev s) (n : Nat) (h : I n s) :
    codeAny (model prog w) A (.compLoop (Dc2 kx vx t0 i0 t1 i1 sc p) 1 it (.ref D) env) R s := by
  refine codeAny_loop rfl I (fun n s hI => ?_) n h
  show wpAny _ A ((compTurn (Dc2 kx vx t0 i0 t1 i1 sc p) 1 it (.ref D) env).onRaise _) _ _ s
  refine wpAny_noted ?_
  show wpAny _ _ (standAt _ >>= _) _ _ s
  refine wpAny_bind (wpAny_standAt (wpAny_bind (nev (turn n s hI) ?_)))
  rintro r s1 (⟨rfl, done⟩ | ⟨v, rfl, next⟩)
  · exact wpAny_pure done
  · refine wpAny_bind (nev next fun _ s2 next => wpAny_bind (nev next fun _ s3 next => ?_))
    refine wpAny_bind (wpAny_pure (wpAny_bind (wpAny_bind (nev next fun k s4 next => wpAny_bind (wpAny_holding (nev next fun y s5 next => wpAny_bind (wpAny_standAt (wpAny_holding (nev next fun _ s6 more => ?_)))))))))
    exact wpAny_pure ⟨rfl, more⟩
theorem dc2_start (loop : codeAny (model prog w) A (.compLoop (Dc2 kx vx t0 i0 t1 i1 sc p) 1 it (.ref D) env) R s)
    (loop' : wpAny (model prog w) A (pyIter it) (fun it2 s2 => codeAny (model prog w) A (.compLoop (Dc2 kx vx t0 i0 t1 i1 sc p) 1 it2 (.ref D) env) R s2) Nev s) : codeAny (model prog w) A (.compStart (Dc2 kx vx t0 i0 t1 i1 sc p) 1 it (.ref D) env) R s := by
  refine codeAny_of_tree ?_
  show wpAny _ _ ((compStart (Dc2 kx vx t0 i0 t1 i1 sc p) 1 it (.ref D) env).onRaise _) _ _ s
  refine wpAny_notedAt ?_
  unfold compStart
  show wpAny _ _ (ask >>= _) _ _ s
  refine wpAny_bind (wpAny_askSetting (wpAny_ite ?_))
  split
  · exact wpAny_bind (wpAny_pure (wpAny_pure ⟨rfl, loop⟩))
  · refine wpAny_bind (wpAny_rule ?_)
    show wpAny _ _ (standAt _ >>= _) _ _ s
    exact wpAny_bind (wpAny_standAt (wpAny_bind (nev loop' fun it2 s2 l2 => wpAny_pure ⟨rfl, l2⟩)))
end
section
variable {X : Cx}
/-- the dict D at the key tuple b is set by a comprehension -/
theorem dT_set {pins : List (Addr × Obj)} {σ : L2.St} {H : Hp} {s : Shared} {E : Value → Shared → Prop} {D b : Addr} {kvs : List (List Key × V)} {k : List Key} {y : V} {r : Value} {Q : Unit → Shared → Prop} (room : X.A.units + 1 < cLine) (I : Inv X pins σ H s) (atD : H D = some (.dT kvs))
    (atb : H b = some (.tup (k.map kV))) (few : kvs.length < sizeLine) (ry : RelV y r) (q : ∀ s2, Inv X pins σ (upd H D (.dT (putK kvs k y))) s2 → Q () s2) : wpAny (model X.prog X.w) X.A (dictSet D (.ref b) r) Q E s := by
  obtain ⟨len, notSys, xs, rel, dict⟩ := dt_of I.hok atD
  have lenx : xs.length ≤ sizeLine := by rw [← Paired.length rel]; exact len
  have lenp : (putK kvs k y).length ≤ sizeLine := by have z := length_putK kvs k y; omega
  refine wpAny_dictSet_heap (hsz := lenx) (show X.A.units < cLine by omega) (key_of I.hok atb) dict fun h₂ dict₂ kept => q _ ?_
  obtain ⟨ob, es, ep, z1, z2, z3, z4, _, z5⟩ := dict₂
  refine d_write I (by rw [atD]; trivial) kept ⟨ob, z1⟩ ⟨lenp, notSys, _, (rel.put k atb ry).keeps fun c ys z => ?_, ob, es, ep, z1, z2, z3, z4, z5⟩
  rw [upd_ne (ne_of z atD (fun z => nomatch z))]
  exact z
/-- {k: v for tg in iter for tg1 in iter1}: D the new dict; behind the first target the second walk, from whose end Nx is reached. vs: the block's names, vs1: those of the second target -/
def tDc2 (wi : TI) (g : TG) (wi1 : TI) (g1 : TG) (tk tv : TE) (vs vs1 : List Nat) : TE := fun σ H Q => wi σ H fun J H1 => ∀ D, H1 D = none → ∃ W : Nat → Nat → Hp → Prop, (∃ m, W 0 m (upd H1 D (.dT []))) ∧ ∀ i m H, W i m H → (J.stop i H ∧ Q (.ref D) H) ∨
  (J.go i H ∧ ∃ Nx : Hp → Prop, (∀ H', Nx H' → ∃ m', m' < m ∧ W (i + 1) m' H') ∧ ∀ x H', J.yld i H x H' → g x (wipe σ vs) H' fun σ2 H2 => wipe σ2 vs = wipe σ vs ∧ wi1 σ2 H2 fun J1 H4 => ∃ W1 : Nat → Nat → Hp → Prop, (∃ m, W1 0 m H4) ∧
    ∀ j k H, W1 j k H → (J1.stop j H ∧ Nx H) ∨ (J1.go j H ∧ ∃ Nx1 : Hp → Prop, (∀ H', Nx1 H' → ∃ k', k' < k ∧ W1 (j + 1) k' H') ∧ ∀ x H', J1.yld j H x H' → g1 x (wipe σ2 vs1) H' fun σ3 H5 => wipe σ3 vs1 = wipe σ2 vs1 ∧
      tk σ3 H5 fun y H6 => tv σ3 H6 fun z H7 => ∃ (kvs : List (List Key × V)) (key : List Key) (b : Addr), y = .ref b ∧ H7 b = some (.tup (key.map kV)) ∧ H7 D = some (.dT kvs) ∧ kvs.length < sizeLine ∧ Nx1 (upd H7 D (.dT (putK kvs key z)))))
/-- what a block of a comprehension is over -/
abbrev AllBlk (X : Cx) (sc : Scope) (F : Cx → Prop) : Prop := ∀ (s : Shared) (H : Hp) (C : Addr) (cl : List (Str × Addr)) (fp : List Addr), F (X.blk s H sc (compEnvC sc cl C X.env) fp)
theorem pe_dc2 {kx vx tg iter tg1 iter1 : Expr} {sc : Scope} {own : List (Str × Nat)} {vs1 : List Nat} {pos : Pos} {wi wi1 : TI} {g g1 : TG} {tk tv : TE} (room : X.A.units + 1 < cLine) (calm : X.calm = true) (nd : X.N.Nodup) (ok : BlkOk X.N X.env.scope sc own) (own1 : ∀ i ∈ vs1, i ∈ own.map (·.2))
    (walk : PI X tg iter wi) (goal : AllBlk X sc fun Y => PG Y tg g) (walk1 : AllBlk X sc fun Y => PI Y tg1 iter1 wi1) (goal1 : AllBlk X sc fun Y => PG Y tg1 g1) (key : AllBlk X sc fun Y => PE Y kx tk) (val : AllBlk X sc fun Y => PE Y vx tv)
    (fold : ∀ x, foldedSetIterable iter X.env x = pure x := by intro _; rfl) (fold1 : ∀ env x, foldedSetIterable iter1 env x = pure x := by intro _ _; rfl) :
    PE X (Dc2 kx vx tg iter tg1 iter1 sc pos) (tDc2 wi g wi1 g1 tk tv (own.map (·.2)) vs1) := by
  constructor
  intro pins s σ H Q I read
  rw [arm_eval_DictComp]
  have cells : ∀ y ∈ sc.names, y.2 = .free → ∃ c, X.env.cells.lookup y.1 = some c := fun y my fr => (ok.free y my fr).elim (fun z => I.ok.has _ (.inl z)) (fun z => I.ok.has _ (.inr z))
  refine wpAny_comprehension_free (use := none) rfl fold (closure_ok cells) ok.kind (fun y my z => by rw [ok.uniq y my, z]) (thn (walk.run pins s σ H _ I read) fun xv s1 hx => thn hx ?_)
  rintro itv s2 ⟨it, fp, tn, J, H2, rfl, I2, T, at2, ok2, q⟩
  refine wpAny_newObj_type (newEnv_comp ?_)
  have freshD : H2 s2.heap.objs.size = none := I2.hok.fresh (Nat.le_refl _)
  obtain ⟨W, ⟨m0, w0⟩, turn⟩ := q _ freshD
  obtain ⟨D, eD⟩ : ∃ D, s2.heap.objs.size = D := ⟨_, rfl⟩
  obtain ⟨s3, e3⟩ : ∃ s3 : Shared, { s2 with heap := s2.heap.push { cls := .type "dict", data := .dict #[] } } = s3 := ⟨_, rfl⟩
  obtain ⟨H3, eH3⟩ : ∃ H3, upd H2 D (.dT []) = H3 := ⟨_, rfl⟩
  have I3 : Inv X pins σ H3 s3 := by
    rw [← e3, ← eH3, ← eD]
    exact I2.laid (t' := s2.toks) (fun b o z => Heap.get?_push_of_some _ z) (Nat.le_refl _) (dt_empty s2.heap I2.big)
  have keep3 : ∀ b o, s2.heap.get? b = some o → s3.heap.get? b = some o := fun b o z => by rw [← e3]; exact Heap.get?_push_of_some _ z
  have ok3 : ∀ b ∈ fp, FpOk X pins H3 b ∧ b < s3.heap.objs.size := fun b mb => by
    obtain ⟨o, z, _⟩ := T.obj _ _ at2 b mb
    have lt := Heap.lt_size z
    refine ⟨⟨?_, (ok2 b mb).2⟩, Heap.lt_size (keep3 b o z)⟩
    rw [← eH3, ← eD, upd_ne (Nat.ne_of_lt lt)]
    exact (ok2 b mb).1
  have at3 : tn 0 s3.heap := T.keep _ _ _ at2 fun b _ o z => keep3 b o z
  have I4 := block_start I3 ok nd ok3
  obtain ⟨cl, ecl⟩ : ∃ cl, cellsFrom (s3.heap.objs.size + 1) sc.names (cloFrom X.env.cells sc.names []) = cl := ⟨_, rfl⟩
  rw [ecl] at I4
  have pg := goal s3 H3 s3.heap.objs.size cl fp
  have pg1 := goal1 s3 H3 s3.heap.objs.size cl fp
  have pw1 := walk1 s3 H3 s3.heap.objs.size cl fp
  have pk := key s3 H3 s3.heap.objs.size cl fp
  have pv := val s3 H3 s3.heap.objs.size cl fp
  obtain ⟨ce, ece⟩ : ∃ ce, compEnvC sc cl s3.heap.objs.size X.env = ce := ⟨_, rfl⟩
  have locals : ce.locals = s3.heap.objs.size := by rw [← ece]; rfl
  obtain ⟨s4, e4⟩ : ∃ s4 : Shared, { s3 with heap := pushCells (s3.heap.push { cls := .type "dict", data := .dict #[] }) sc.names } = s4 := ⟨_, rfl⟩
  suffices go : codeAny (model X.prog X.w) X.A (.compStart (Dc2 kx vx tg iter tg1 iter1 sc pos) 0 (.ref it) (.ref D) ce) (compPost (model X.prog X.w) X.A X.xe none (EP X pins σ Q) (.ref D) s3.heap.objs.size) s4 by
    rw [← e4, ← ece, ← ecl, ← e3, ← eD] at go
    exact go
  rw [ece] at I4 pg pg1 pw1 pk pv
  rw [e4] at I4
  rw [eD, eH3] at w0
  rw [eD] at turn
  obtain ⟨Y, eY⟩ : ∃ Y, X.blk s3 H3 sc ce fp = Y := ⟨_, rfl⟩
  have yP : Y.prog = X.prog := by rw [← eY]
  have yw : Y.w = X.w := by rw [← eY]
  have yK : Y.K = X.K := by rw [← eY]
  have yA : Y.A = X.A := by rw [← eY]
  have yc : Y.calm = true := by rw [← eY]; exact calm
  have at4 : tn 0 s4.heap := T.keep _ _ _ at3 fun b _ o z => by rw [← e4]; exact pushCells_keeps _ _ _ _ (Heap.get?_push_of_some _ z)
  have none4 : ∀ b ∈ fp, H3 b = none := fun b mb => (ok3 b mb).1.1
  have okY : ∀ {σ' : L2.St} {H' : Hp} {s' : Shared}, Inv Y [] σ' H' s' → (∀ b ∈ fp, H' b = none) → ∀ b ∈ fp, FpOk Y [] H' b := fun {σ' H' s'} I' hn b mb => by
    subst eY
    exact ⟨hn b mb, (I'.ok.exf b mb).1, I'.ok.exfs b mb, .inl mb, fun x c z => (I'.ok.exf b mb).2 x c z, fun pp hp => absurd (show pp ∈ ([] : List (Addr × Obj)) ++ [] from hp) (by simp)⟩
  have loop : codeAny (model X.prog X.w) X.A (.compLoop (Dc2 kx vx tg iter tg1 iter1 sc pos) 0 (.ref it) (.ref D) ce) (compPost (model X.prog X.w) X.A X.xe none (EP X pins σ Q) (.ref D) s3.heap.objs.size) s4 := by
    refine dc2_out (fold1 ce) (fun n s' => ∃ i H', Inv Y [] (wipe σ (own.map (·.2))) H' s' ∧ tn i s'.heap ∧ (∀ b ∈ fp, H' b = none) ∧ W i n H') ?_ m0 ⟨0, H3, by rw [← eY]; exact I4, at4, none4, w0⟩
    rintro n s5 ⟨i, H5, I5, at5, none5, w5⟩
    rcases turn i n H5 w5 with ⟨stop, qq⟩ | ⟨goi, Nx, toNx, step⟩
    · have done := T.done Y yP yw yK yc i [] s5 _ H5 Nev I5 (okY I5 none5) at5 stop
      rw [yA] at done
      refine nev done ?_
      rintro r s6 ⟨rfl, I6⟩
      refine .inl ⟨rfl, ?_⟩
      subst eY
      have I7 : Inv X pins σ H5 s6 := I3.call' (ch := fp) I6.os I6.base I6.hok I6.bare fun b mb => ⟨(ok3 b mb).1.2.2.2.1, (ok3 b mb).1.2.1, (ok3 b mb).1.2.2.2.2.1, (ok3 b mb).1.2.2.2.2.2⟩
      have freeC : H5 s3.heap.objs.size = none := by
        have z : H5 ce.locals = none := I6.free
        rwa [locals] at z
      obtain ⟨m, names, _⟩ := I6.loc
      have names : s6.heap.Ns ce.locals m := names
      rw [locals] at names
      obtain ⟨n1, n2, n3, n4, n5, n6⟩ := I3.fpOk (Nat.le_refl _) freeC
      exact ⟨m, names, fun h₂ kept => ⟨.ref D, H5, I7.turned (t' := s6.toks) (fun b o nb z => (kept.2 b nb).trans z) n1 n2 n4 n5 n6, rfl, qq⟩⟩
    · have item := T.item Y yP yw yK yc i [] s5 _ H5 Nev I5 (okY I5 none5) at5 goi
      rw [yA] at item
      refine nev item ?_
      rintro r s6 ⟨u, rfl, rest⟩
      refine .inr ⟨u, rfl, nev rest ?_⟩
      rintro _ s7 ⟨x, H7, I7, rx, y7, at7, none7⟩
      have I7p := I7.pinned (okY I7 none7) (T.obj _ _ at7)
      subst eY
      refine nev (pg.run _ s7 _ H7 x u _ I7p rx (step x H7 y7)) ?_
      rintro _ s8 ⟨σ8, H8, I8, wip8, q8⟩
      refine nev (pw1.run _ s8 σ8 H8 _ I8 q8) fun xv s9 inner => nev inner ?_
      rintro itv s10 ⟨it1, fp1, tn1, J1, H10, rfl, I10, T1, at10, ok10, W1, ⟨m1, w1⟩, turn1⟩
      -- the first walk's next turn, from slots that know what the block knew
      have next : ∀ {s' : Shared} {H' : Hp}, Inv (X.blk s3 H3 sc ce fp) ([] ++ pinsAt fp s7.heap) (wipe σ8 vs1) H' s' → Nx H' → ∃ m, m < n ∧ ∃ i H', Inv (X.blk s3 H3 sc ce fp) [] (wipe σ (own.map (·.2))) H' s' ∧ tn i s'.heap ∧ (∀ b ∈ fp, H' b = none) ∧ W i m H' := fun {s' H'} I' nx => by
        obtain ⟨m', lt, w'⟩ := toNx H' nx
        have pinned : ∀ b ∈ fp, ∀ o, s7.heap.get? b = some o → s'.heap.get? b = some o ∧ H' b = none := fun b mb o z => by
          have z' := I'.pin (b, o) (List.mem_append_right _ (List.mem_append_right _ (mem_pinsAt mb z)))
          exact ⟨z'.1, z'.2.1⟩
        refine ⟨m', lt, i + 1, H', (I'.unpinned (pins := [])).weak ?_ ?_, T.keep _ _ _ at7 fun b mb o z => (pinned b mb o z).1, fun b mb => ?_, w'⟩
        · rw [← wip8, wipe_length, wipe_length]
        · intro j v z
          rw [← wip8] at z
          obtain ⟨z1, z2⟩ := wipe_some z
          rw [wipe_out fun z3 => z2 (own1 j z3)]
          exact z1
        · obtain ⟨o, z, _⟩ := T.obj _ _ at7 b mb
          exact (pinned b mb o z).2
      have ok11 : ∀ {H' : Hp}, (∀ b ∈ fp1, H' b = none) → ∀ b ∈ fp1, FpOk (X.blk s3 H3 sc ce fp) ([] ++ pinsAt fp s7.heap) H' b := fun hn b mb => ⟨hn b mb, (ok10 b mb).2⟩
      have loop1 : codeAny (model X.prog X.w) X.A (.compLoop (Dc2 kx vx tg iter tg1 iter1 sc pos) 1 (.ref it1) (.ref D) ce) (fun r s6 => (∃ fl, r = .ok fl) ∧ ∃ m, m < n ∧ ∃ i H', Inv (X.blk s3 H3 sc ce fp) [] (wipe σ (own.map (·.2))) H' s6 ∧ tn i s6.heap ∧ (∀ b ∈ fp, H' b = none) ∧ W i m H') s10 := by
        refine dc2_in (fun k s' => ∃ j H', Inv (X.blk s3 H3 sc ce fp) ([] ++ pinsAt fp s7.heap) (wipe σ8 vs1) H' s' ∧ tn1 j s'.heap ∧ (∀ b ∈ fp1, H' b = none) ∧ W1 j k H') ?_ m1 ⟨0, H10, I10.weak (wipe_length _ _) (fun j v z => (wipe_some z).1), at10, fun b mb => (ok10 b mb).1, w1⟩
        rintro k s11 ⟨j, H11, I11, at11, none11, w11⟩
        rcases turn1 j k H11 w11 with ⟨stop1, nx⟩ | ⟨go1, Nx1, toNx1, step1⟩
        · refine nev (T1.done (X.blk s3 H3 sc ce fp) rfl rfl rfl calm j _ s11 (wipe σ8 vs1) H11 Nev I11 (ok11 none11) at11 stop1) ?_
          rintro r s12 ⟨rfl, I12⟩
          exact .inl ⟨rfl, ⟨_, rfl⟩, next I12 nx⟩
        · refine nev (T1.item (X.blk s3 H3 sc ce fp) rfl rfl rfl calm j _ s11 (wipe σ8 vs1) H11 Nev I11 (ok11 none11) at11 go1) ?_
          rintro r s12 ⟨u1, rfl, rest1⟩
          refine .inr ⟨u1, rfl, nev rest1 ?_⟩
          rintro _ s13 ⟨x1, H13, I13, rx1, y13, at13, none13⟩
          have I13p := I13.pinned (ok11 none13) (T1.obj _ _ at13)
          refine nev (pg1.run _ s13 _ H13 x1 u1 _ I13p rx1 (step1 x1 H13 y13)) ?_
          rintro _ s14 ⟨σ14, H14, I14, wip14, q14⟩
          refine nev (pk.run _ s14 σ14 H14 _ I14 q14) ?_
          rintro kv s15 ⟨yk, H15, I15, rk, q15⟩
          refine nev (pv.run _ s15 σ14 H15 _ I15 q15) ?_
          rintro vv s16 ⟨yv, H16, I16, rv, kvs, ky, b, rfl, atb, atD, few, nx1⟩
          cases rk
          refine dT_set (X := X.blk s3 H3 sc ce fp) room I16 atD atb few rv fun s17 I17 => ?_
          obtain ⟨k', lt, w'⟩ := toNx1 _ nx1
          have pinned : ∀ c ∈ fp1, ∀ o, s13.heap.get? c = some o → s17.heap.get? c = some o ∧ (upd H16 D (.dT (putK kvs ky yv))) c = none := fun c mc o z => by
            have z' := I17.pin (c, o) (List.mem_append_right _ (List.mem_append_right _ (mem_pinsAt mc z)))
            exact ⟨z'.1, z'.2.1⟩
          refine ⟨k', lt, j + 1, _, I17.unpinned.weak ?_ ?_, T1.keep _ _ _ at13 fun c mc o z => (pinned c mc o z).1, fun c mc => ?_, w'⟩
          · rw [← wip14, wipe_length]
          · intro i v z
            rw [← wip14] at z
            exact (wipe_some z).1
          · obtain ⟨o, z, _⟩ := T1.obj _ _ at13 c mc
            exact (pinned c mc o z).2
      exact dc2_start loop1 (T1.self X.A 0 _ _ _ at10 loop1)
  exact codeAny_compStart_dict loop (T.self X.A 0 _ _ _ at4 loop)
end
end Zs
namespace Zs
open PySem PySem.Spec PyProof.Rows L2
abbrev sChR : Stmt := topS 35
theorem scChR : FnScope ["rows", "rings", "index", "row"] ["rows"] (defScope sChR) := ⟨rfl, rfl, rfl, by decide +kernel, rfl, by decide +kernel, by decide +kernel⟩
abbrev sChZ : Stmt := topS 36
theorem scChZ : FnScope ["zips", "index", "entry"] ["zips"] (defScope sChZ) := ⟨rfl, rfl, rfl, by decide +kernel, rfl, by decide +kernel, by decide +kernel⟩
abbrev sChF : Stmt := topS 37
theorem scChF : FnScope ["rows", "zips", "placed", "index", "row", "number", "side", "known"] ["rows", "zips"] (defScope sChF) := ⟨rfl, rfl, rfl, by decide +kernel, rfl, by decide +kernel, by decide +kernel⟩
/-! ### a cloth that is one -/
structure ClothOk (rs : List Row) (zs : List Zp) : Prop where
  pos : 1 ≤ rs.length
  few : rs.length ≤ 6
  rings : rs.countP (·.ring) ≤ 2
  teeth : ∀ r ∈ rs, 1 ≤ r.teeth ∧ r.teeth ≤ 24
  zips : zs.length ≤ 8
  mins : ∀ z ∈ zs, 0 ≤ z.2 ∧ z.2 ≤ 24
  feet : (rs.flatMap (·.feet)).Perm (allFeet zs.length)
abbrev footD (x : Foot) : PyData := .tuple [.int x.1, .int x.2]
abbrev rowD (r : Row) : PyData := .tuple [.str (sortS r.ring), .int r.teeth, .tuple (r.feet.map footD)]
abbrev zipD (z : Zp) : PyData := .tuple [.str (dirS z.1), .int z.2]
theorem dp_list {K : PySem.W.Frag} {H : Hp} {α : Type} {F : Addr → α → Prop} {f : α → PyData} (h : ∀ t x, F t x → Dp K H (.ref t) (f x)) : ∀ {ts : List Addr} {xs : List α}, Paired F ts xs → DpAll K H (ts.map V.ref) (xs.map f)
  | _, _, .nil => .nil
  | _, _, .cons r t => .cons (h _ _ r) (dp_list h t)
theorem dp_foot {K : PySem.W.Frag} {H : Hp} {t : Addr} {x : Foot} (h : TupF H t x) : Dp K H (.ref t) (footD x) := .tup (.inl (.inl h)) (.cons (.int _) (.cons (.int _) .nil))
theorem dp_feet {K : PySem.W.Frag} {H : Hp} {t : Addr} {xs : List Foot} (h : TupFs H t xs) : Dp K H (.ref t) (.tuple (xs.map footD)) := by
  obtain ⟨ts, e, r⟩ := h
  exact .tup e.sq (dp_list (fun _ _ z => dp_foot z) r)
theorem dp_row {K : PySem.W.Frag} {H : Hp} {t : Addr} {r : Row} (h : TupR H t r) : Dp K H (.ref t) (rowD r) := by
  obtain ⟨f, e, q⟩ := h
  exact .tup (.inl (.inl e)) (.cons (.str _) (.cons (.int _) (.cons (dp_feet q) .nil)))
theorem dp_rows {K : PySem.W.Frag} {H : Hp} {t : Addr} {rs : List Row} (h : TupRs H t rs) : Dp K H (.ref t) (.tuple (rs.map rowD)) := by
  obtain ⟨ts, e, r⟩ := h
  exact .tup (.inl (.inl e)) (dp_list (fun _ _ z => dp_row z) r)
theorem dp_zip {K : PySem.W.Frag} {H : Hp} {t : Addr} {z : Zp} (h : TupZ H t z) : Dp K H (.ref t) (zipD z) := .tup (.inl (.inl h)) (.cons (.str _) (.cons (.int _) .nil))
/-- zips, in a tuple that may be the module's own -/
def TupZk (K : PySem.W.Frag) (H : Hp) (t : Addr) (zs : List Zp) : Prop := ∃ ts : List Addr, SqT K H t (ts.map V.ref) ∧ Paired (TupZ H) ts zs
theorem TupZs.k {K : PySem.W.Frag} {H : Hp} {t : Addr} {zs : List Zp} (h : TupZs H t zs) : TupZk K H t zs := by
  obtain ⟨ts, e, r⟩ := h
  exact ⟨ts, .inl (.inl e), r⟩
theorem TupZk.same {K : PySem.W.Frag} {H H' : Hp} {t : Addr} {zs : List Zp} (h : TupZk K H t zs) (s : Same H H') : TupZk K H' t zs := by
  obtain ⟨ts, e, r⟩ := h
  exact ⟨ts, same_seqT s e, Paired.mono (fun _ _ z => s _ _ z) r⟩
theorem dp_zips {K : PySem.W.Frag} {H : Hp} {t : Addr} {zs : List Zp} (h : TupZk K H t zs) : Dp K H (.ref t) (.tuple (zs.map zipD)) := by
  obtain ⟨ts, e, r⟩ := h
  exact .tup e (dp_list (fun _ _ z => dp_zip z) r)
theorem lay_sort (b : Bool) : PyData.canLay0 (.str (sortS b)) = true := by cases b <;> decide +kernel
theorem lay_dir (b : Bool) : PyData.canLay0 (.str (dirS b)) = true := by cases b <;> decide +kernel
theorem gd_row {r : Row} (h : r.feet.length ≤ 16) : Gd 1000 3 (rowD r) := by
  refine .tuple (by simp) fun d hd => ?_
  rcases (show d = .str (sortS r.ring) ∨ d = .int r.teeth ∨ d = .tuple (r.feet.map footD) by simpa using hd) with rfl | rfl | rfl
  · exact .str (lay_sort _)
  · exact .int _
  · refine .tuple (by rw [List.length_map]; omega) fun d hd => ?_
    obtain ⟨x, _, rfl⟩ := List.mem_map.mp hd
    refine .tuple (by simp) fun d hd => ?_
    rcases (show d = .int x.1 ∨ d = .int x.2 by simpa using hd) with rfl | rfl <;> exact .int _
theorem gd_zip (z : Zp) : Gd 1000 1 (zipD z) := by
  refine .tuple (by simp) fun d hd => ?_
  rcases (show d = .str (dirS z.1) ∨ d = .int z.2 by simpa using hd) with rfl | rfl
  · exact .str (lay_dir _)
  · exact .int _
theorem row_ok {r : Row} (h : 1 ≤ r.teeth ∧ r.teeth ≤ 24) : isRowD (rowD r) = true := by
  have h1 : sortD (.str (sortS r.ring)) = true := by cases r.ring <;> decide +kernel
  have h2 : intBtw 1 24 (.int r.teeth) = true := by show (decide _ && decide _) = true; rw [decide_eq_true h.1, decide_eq_true h.2]; rfl
  have h3 : feetD (.tuple (r.feet.map footD)) = true := by
    show (r.feet.map footD).all (intTup 2) = true
    rw [List.all_map, List.all_eq_true]
    intro x _
    rfl
  show (sortD _ && intBtw 1 24 _ && feetD _) = true
  rw [h1, h2, h3]
  rfl
theorem zip_ok {z : Zp} (h : 0 ≤ z.2 ∧ z.2 ≤ 24) : isZipD (zipD z) = true := by
  have h1 : dirD (.str (dirS z.1)) = true := by cases z.1 <;> decide +kernel
  have h2 : intBtw 0 24 (.int z.2) = true := by show (decide _ && decide _) = true; rw [decide_eq_true h.1, decide_eq_true h.2]; rfl
  show (dirD _ && intBtw 0 24 _) = true
  rw [h1, h2]
  rfl
theorem feet_of : ∀ {rs : List Row} {r : Row}, r ∈ rs → r.feet.length ≤ (rs.flatMap (·.feet)).length
  | [], _, h => by cases h
  | x :: rs, r, h => by
    rw [List.flatMap_cons, List.length_append]
    rcases List.mem_cons.mp h with e | h
    · rw [e]; omega
    · have := feet_of h
      omega
theorem ClothOk.flen {rs : List Row} {zs : List Zp} (c : ClothOk rs zs) : ∀ r ∈ rs, r.feet.length ≤ 16 := fun r hr => by
  have h1 := feet_of hr
  have h2 := c.feet.length_eq
  rw [allFeet_len] at h2
  have := c.zips
  omega
theorem countP_take_le {rs : List Row} (i : Nat) : (rs.take i).countP (·.ring) ≤ rs.countP (·.ring) := (List.take_sublist i rs).countP_le
section
variable {P : Program} {w : World} {K : PySem.W.Frag} {mg : Str → Option Value} {base : Heap} {aS aD aI : Addr}
def spChR : Sp := fun vs H Q _ => ∃ (r : Addr) (rs : List Row) (zs : List Zp), vs = [.ref r] ∧ TupRs H r rs ∧ ClothOk rs zs ∧ ∀ H', Same H H' → Q .non H'
theorem ok_chR {f : Addr} {fd : FuncData} (T : Bl mg) (C : Cst K mg aS aD aI) (F : Fun K "check_rows" "check_rows" sChR f fd) (cTupB : Cal P w K mg base CX0 1 "is_tuple_between" ["value", "low", "high"] (sp3 K tupBtw)) (cIsRow : Cal P w K mg base CX0 3 "is_row" ["value"] (spB K isRowD)) :
    FnOk P w K mg base CX0 4 f fd ["rows"] spChR := by
  refine F.ok scChR (fun vs H Q E h => ?_) (fun cdv A outer s H vs Q E hr h => ?_)
  · obtain ⟨r, rs, zs, rfl, _⟩ := h
    rfl
  · obtain ⟨r, rs, zs, rfl, hrs, c, q⟩ := h
    refine ⟨_, (pss_cons (ps_if (pt_not (pt_val (pe_cal cTupB (hr.mono (by decide)) pass0 (by rfl) (pa_cons (pv 0) (pa_cons pe_int (pa_cons (C8.pe_gc (by rfl) C.rows) pa_nil))))))
        (pss_one ps_never)
        pss_nil)
      (pss_cons (ps_set (i := 1) scChR.nd rfl (Or.inl rfl) pe_int)
      (pss_one (ps_for PassesOwn.never rfl (pi_enumT (by rfl) T.enumerate_ (pa_cons (pv 0) pa_nil)) (pg_tup rfl (pgs_cons (pg_name (i := 2) scChR.nd rfl (Or.inl rfl)) (pgs_cons (pg_name (i := 3) scChR.nd rfl (Or.inl rfl)) pgs_nil)))
        (pss_cons (ps_if (pt_not (pt_val (pe_cal cIsRow (hr.mono (by decide)) pass0 (by rfl) (pa_cons (pv 3) pa_nil))))
          (pss_one ps_never)
          pss_nil)
        (C8.pss_cut (ps_if (pt_cmpR op_eq (pe_ix ix_tup (pv 3) pe_int (fun _ _ => rfl)) pe_str (nomark _))
          (pss_one (ps_aug (i := 1) scChR.nd rfl (Or.inl rfl) pe_int ip_add))
          pss_nil)
        (pss_one (ps_if (pt_cmpR op_gt (pv 1) (C8.pe_gc (by rfl) C.rings) (nomark _))
          (pss_one ps_never)
          pss_nil)))))))), ?_⟩
    have e1 : tupBtw 1 6 (.tuple (rs.map rowD)) = true := by
      have h1 := c.pos
      have h2 := c.few
      show (decide (1 ≤ ((rs.map rowD).length : Int)) && decide (((rs.map rowD).length : Int) ≤ 6)) = true
      rw [List.length_map, decide_eq_true (by omega), decide_eq_true (by omega)]
      rfl
    refine ⟨.ref r, rfl, .ref r, _, 1, 6, rfl, dp_rows hrs, _, rfl, ?_⟩
    rw [e1]
    refine iteF ?_
    obtain ⟨ts, er, pr⟩ := hrs
    have sq : SqT K H r (ts.map V.ref) := .inl (.inl er)
    refine ⟨.ref r, rfl, r, _, rfl, sq, ?_⟩
    refine for_enumT (K := K) (a := r) (xs := ts.map V.ref) (fun i σ H1 => Same H H1 ∧ ∃ (k : Nat) (x y : Option V), k = (rs.take i).countP (·.ring) ∧ σ = [some (.ref r), some (.int (k : Int)), x, y]) ⟨.refl H, 0, none, none, by rw [List.take_zero]; rfl, rfl⟩
      (fun i σ H1 _ hv => same_seqT hv.1 sq) (fun i v σ H1 T0 hv0 hv nT0 => ?_) (fun σ H1 hv => q H1 hv.1)
    obtain ⟨sm, k, x, y, hk, rfl⟩ := hv
    obtain ⟨t, ht, rfl⟩ : ∃ t, ts[i]? = some t ∧ v = .ref t := by
      rw [List.getElem?_map] at hv0
      cases e : ts[i]? with
      | none => rw [e] at hv0; cases hv0
      | some t => rw [e] at hv0; exact ⟨t, rfl, (Option.some.inj hv0).symm⟩
    obtain ⟨ro, hro, htr⟩ := paired_get pr ht
    have mem := List.mem_of_getElem? hro
    have sm2 : Same H (upd H1 T0 (.tup [.int (i : Nat), .ref t])) := sm.trans (same_upd nT0)
    refine ⟨T0, _, rfl, .inl (.inl upd_same), rfl, .int (i : Nat), [.ref t], rfl, .ref t, [], rfl, rfl, ?_⟩
    refine ⟨.ref t, rfl, .ref t, rowD ro, rfl, dp_row (htr.tp (.of sm2)), (gd_row (c.flen ro mem)).mono (Nat.le_refl _) (by decide), fun H2 sm3 => ⟨_, rfl, ?_⟩⟩
    rw [row_ok (c.teeth ro mem)]
    refine iteF ?_
    have sm4 : Same H H2 := sm2.trans sm3
    obtain ⟨fo, etr, _⟩ := htr.tp (.of sm4)
    refine ⟨fun σ' H' => H' = H2 ∧ ∃ x y : Option V, σ' = [some (.ref r), some (.int (((rs.take (i + 1)).countP (·.ring) : Nat) : Int)), x, y], ?_, ?_⟩
    · refine ⟨.ref t, rfl, t, _, 0, .str (sortS ro.ring), rfl, rfl, .inl (.inl etr), atI_nat (j := 0) rfl, rfl, _, rfl, ?_⟩
      rw [take_succ_of hro, List.countP_append]
      cases er2 : ro.ring with
      | true =>
        rw [show decide (V.str (sortS true) = V.str "ring") = true by decide +kernel]
        refine iteT ⟨_, rfl, _, _, rfl, rfl, rfl, some (.int (i : Nat)), some (.ref t), ?_⟩
        rw [hk]
        have : [ro].countP (·.ring) = 1 := by rw [List.countP_singleton, er2]; rfl
        rw [this]
        rfl
      | false =>
        rw [show decide (V.str (sortS false) = V.str "ring") = false by decide +kernel]
        refine iteF ⟨rfl, some (.int (i : Nat)), some (.ref t), ?_⟩
        have : [ro].countP (·.ring) = 0 := by rw [List.countP_singleton, er2]; rfl
        rw [hk, this, Nat.add_zero]
        rfl
    · rintro σ' H' ⟨rfl, x, y, rfl⟩
      have le := countP_take_le (rs := rs) (i + 1)
      have le2 := c.rings
      refine ⟨_, rfl, _, _, rfl, rfl, _, rfl, ?_⟩
      rw [show decide (((rs.take (i + 1)).countP (·.ring) : Nat) > (2 : Int)) = false from decide_eq_false (by omega)]
      exact iteF ⟨sm4, _, x, y, rfl, rfl⟩
theorem cal_chR {f : Addr} {fd : FuncData} (T : Bl mg) (C : Cst K mg aS aD aI) (F : Fun K "check_rows" "check_rows" sChR f fd) (cTupB : Cal P w K mg base CX0 1 "is_tuple_between" ["value", "low", "high"] (sp3 K tupBtw)) (cIsRow : Cal P w K mg base CX0 3 "is_row" ["value"] (spB K isRowD)) (g : mg "check_rows" = some (.ref f)) :
    Cal P w K mg base CX0 4 "check_rows" ["rows"] spChR := ⟨f, fd, g, F.kp, F.binds (ps := ["rows"]) fun _ _ _ _ _ _ us hl => match us, hl with | [_], _ => rfl, ok_chR T C F cTupB cIsRow⟩
def spChZ (K : PySem.W.Frag) : Sp := fun vs H Q _ => ∃ (z : Addr) (zs : List Zp), vs = [.ref z] ∧ TupZk K H z zs ∧ zs.length ≤ 8 ∧ (∀ x ∈ zs, 0 ≤ x.2 ∧ x.2 ≤ 24) ∧ ∀ H', Same H H' → Q .non H'
theorem ok_chZ {f : Addr} {fd : FuncData} (T : Bl mg) (C : Cst K mg aS aD aI) (F : Fun K "check_zips" "check_zips" sChZ f fd) (cTupB : Cal P w K mg base CX0 1 "is_tuple_between" ["value", "low", "high"] (sp3 K tupBtw)) (cIsZip : Cal P w K mg base CX0 3 "is_zip" ["value"] (spB K isZipD)) :
    FnOk P w K mg base CX0 4 f fd ["zips"] (spChZ K) := by
  refine F.ok scChZ (fun vs H Q E h => ?_) (fun cdv A outer s H vs Q E hr h => ?_)
  · obtain ⟨r, rs, rfl, _⟩ := h
    rfl
  · obtain ⟨r, zs, rfl, hzs, few, mins, q⟩ := h
    refine ⟨_, (pss_cons (ps_if (pt_not (pt_val (pe_cal cTupB (hr.mono (by decide)) pass0 (by rfl) (pa_cons (pv 0) (pa_cons pe_int (pa_cons (C8.pe_gc (by rfl) C.zips) pa_nil))))))
        (pss_one ps_never)
        pss_nil)
      (pss_one (ps_for PassesOwn.never rfl (pi_enumT (by rfl) T.enumerate_ (pa_cons (pv 0) pa_nil)) (pg_tup rfl (pgs_cons (pg_name (i := 1) scChZ.nd rfl (Or.inl rfl)) (pgs_cons (pg_name (i := 2) scChZ.nd rfl (Or.inl rfl)) pgs_nil)))
        (pss_one (ps_if (pt_not (pt_val (pe_cal cIsZip (hr.mono (by decide)) pass0 (by rfl) (pa_cons (pv 2) pa_nil))))
          (pss_one ps_never)
          pss_nil))))), ?_⟩
    have e1 : tupBtw 0 8 (.tuple (zs.map zipD)) = true := by
      show (decide (0 ≤ ((zs.map zipD).length : Int)) && decide (((zs.map zipD).length : Int) ≤ 8)) = true
      rw [List.length_map, decide_eq_true (by omega), decide_eq_true (by omega)]
      rfl
    refine ⟨.ref r, rfl, .ref r, _, 0, 8, rfl, dp_zips hzs, _, rfl, ?_⟩
    rw [e1]
    refine iteF ?_
    obtain ⟨ts, er, pr⟩ := hzs
    have sq : SqT K H r (ts.map V.ref) := er
    refine ⟨.ref r, rfl, r, _, rfl, sq, ?_⟩
    refine for_enumT (K := K) (a := r) (xs := ts.map V.ref) (fun i σ H1 => Same H H1 ∧ ∃ (x y : Option V), σ = [some (.ref r), x, y]) ⟨.refl H, none, none, rfl⟩
      (fun i σ H1 _ hv => same_seqT hv.1 sq) (fun i v σ H1 T0 hv0 hv nT0 => ?_) (fun σ H1 hv => q H1 hv.1)
    obtain ⟨sm, x, y, rfl⟩ := hv
    obtain ⟨t, ht, rfl⟩ : ∃ t, ts[i]? = some t ∧ v = .ref t := by
      rw [List.getElem?_map] at hv0
      cases e : ts[i]? with
      | none => rw [e] at hv0; cases hv0
      | some t => rw [e] at hv0; exact ⟨t, rfl, (Option.some.inj hv0).symm⟩
    obtain ⟨zo, hzo, htz⟩ := paired_get pr ht
    have mem := List.mem_of_getElem? hzo
    have sm2 : Same H (upd H1 T0 (.tup [.int (i : Nat), .ref t])) := sm.trans (same_upd nT0)
    refine ⟨T0, _, rfl, .inl (.inl upd_same), rfl, .int (i : Nat), [.ref t], rfl, .ref t, [], rfl, rfl, ?_⟩
    refine ⟨.ref t, rfl, .ref t, zipD zo, rfl, dp_zip (sm2 _ _ htz), (gd_zip zo).mono (Nat.le_refl _) (by decide), fun H2 sm3 => ⟨_, rfl, ?_⟩⟩
    rw [zip_ok (mins zo mem)]
    exact iteF ⟨sm2.trans sm3, _, _, rfl⟩
theorem cal_chZ {f : Addr} {fd : FuncData} (T : Bl mg) (C : Cst K mg aS aD aI) (F : Fun K "check_zips" "check_zips" sChZ f fd) (cTupB : Cal P w K mg base CX0 1 "is_tuple_between" ["value", "low", "high"] (sp3 K tupBtw)) (cIsZip : Cal P w K mg base CX0 3 "is_zip" ["value"] (spB K isZipD)) (g : mg "check_zips" = some (.ref f)) :
    Cal P w K mg base CX0 4 "check_zips" ["zips"] (spChZ K) := ⟨f, fd, g, F.kp, F.binds (ps := ["zips"]) fun _ _ _ _ _ _ us hl => match us, hl with | [_], _ => rfl, ok_chZ T C F cTupB cIsZip⟩
end
end Zs
namespace Zs
open PySem PySem.Spec PyProof.Rows L2
/-! ### feet, each once -/
def pairL (x : Foot) : List Int := [x.1, x.2]
theorem pairL_inj {x y : Foot} (h : pairL x = pairL y) : x = y := by
  obtain ⟨a, b⟩ := x
  obtain ⟨c, d⟩ := y
  have h1 : [a, b] = [c, d] := h
  simp at h1
  rw [h1.1, h1.2]
theorem mem_allFeet {n : Nat} {x : Foot} : x ∈ allFeet n ↔ (0 ≤ x.1 ∧ x.1 < n) ∧ (x.2 = 0 ∨ x.2 = 1) := by
  obtain ⟨a, b⟩ := x
  unfold allFeet
  simp only [List.mem_flatMap, List.mem_range, List.mem_cons, Prod.mk.injEq, List.not_mem_nil, or_false]
  constructor
  · rintro ⟨z, hz, ⟨rfl, rfl⟩ | ⟨rfl, rfl⟩⟩
    · exact ⟨⟨by omega, by omega⟩, .inl rfl⟩
    · exact ⟨⟨by omega, by omega⟩, .inr rfl⟩
  · rintro ⟨⟨h0, h1⟩, h2⟩
    refine ⟨a.toNat, by omega, ?_⟩
    have e : ((a.toNat : Nat) : Int) = a := Int.toNat_of_nonneg h0
    rcases h2 with rfl | rfl
    · exact .inl ⟨e.symm, rfl⟩
    · exact .inr ⟨e.symm, rfl⟩
theorem nodup_allFeet : ∀ n, (allFeet n).Nodup
  | 0 => List.nodup_nil
  | n + 1 => by
    rw [allFeet_succ, List.nodup_append]
    refine ⟨nodup_allFeet n, by simp, fun x hx y hy e => ?_⟩
    subst e
    have h := (mem_allFeet.mp hx).1.2
    rcases (show x = ((n : Int), 0) ∨ x = ((n : Int), 1) by simpa using hy) with rfl | rfl
    · exact absurd h (by show ¬ (n : Int) < n; omega)
    · exact absurd h (by show ¬ (n : Int) < n; omega)
theorem flat_split {rs : List Row} {i : Nat} {r : Row} (h : rs[i]? = some r) : rs.flatMap (·.feet) = (rs.take i).flatMap (·.feet) ++ (r.feet ++ (rs.drop (i + 1)).flatMap (·.feet)) := by
  obtain ⟨hi, e⟩ := List.getElem?_eq_some_iff.mp h
  have z : rs = rs.take i ++ (r :: rs.drop (i + 1)) := by
    rw [← e, ← List.drop_eq_getElem_cons hi, List.take_append_drop]
  exact (congrArg (List.flatMap fun r : Row => r.feet) z).trans (by rw [List.flatMap_append, List.flatMap_cons])
/-- the feet met so far -/
def metF (rs : List Row) (i j : Nat) : List Foot := (rs.take i).flatMap (·.feet) ++ ((rs[i]?.map (·.feet)).getD []).take j
theorem met_zero (rs : List Row) (i : Nat) : metF rs i 0 = (rs.take i).flatMap (·.feet) := by
  unfold metF
  rw [List.take_zero, List.append_nil]
theorem met_full {rs : List Row} {i : Nat} {r : Row} (h : rs[i]? = some r) : metF rs i r.feet.length = metF rs (i + 1) 0 := by
  rw [met_zero, take_succ_of h, List.flatMap_append]
  unfold metF
  rw [h]
  show _ ++ r.feet.take r.feet.length = _
  rw [List.take_length]
  simp
theorem met_next {rs : List Row} {i j : Nat} {r : Row} {x : Foot} (h : rs[i]? = some r) (hx : r.feet[j]? = some x) : metF rs i (j + 1) = metF rs i j ++ [x] := by
  unfold metF
  rw [h]
  show _ ++ r.feet.take (j + 1) = _ ++ r.feet.take j ++ _
  rw [take_succ_of hx, List.append_assoc]
theorem met_sub {rs : List Row} {i j : Nat} {r : Row} (h : rs[i]? = some r) : (metF rs i j).Sublist (rs.flatMap (·.feet)) := by
  rw [flat_split h]
  unfold metF
  rw [h]
  refine List.Sublist.append (List.Sublist.refl _) ?_
  exact (List.take_sublist j r.feet).trans (List.sublist_append_left _ _)
theorem tp_set {P : Program} {w : World} {H : Hp} {a : Addr} {L : List (Addr × List Int)} {o : HO} (h : H a = some (SetTO P w a L)) : Tp H (upd H a o) := ⟨fun b u e ok => by
  rw [upd_ne (ne_of e h (fun z => by subst z; exact ok))]
  exact e⟩
section
variable {P : Program} {w : World} {K : PySem.W.Frag} {mg : Str → Option Value} {base : Heap} {aS aD aI : Addr}
/-- the set of feet met -/
structure Placed (P : Program) (w : World) (H0 H : Hp) (a : Addr) (F : List Foot) : Prop where
  ex : ∃ L : List (Addr × List Int), H a = some (SetTO P w a L) ∧ (∀ p ∈ L, H p.1 = some (.tup (p.2.map V.int))) ∧ (L.map (·.2)).Perm (F.map pairL)
  same : Same H0 H
  new : H0 a = none
theorem Placed.go {H0 H H' : Hp} {a : Addr} {F : List Foot} (x : Placed P w H0 H a F) (s : Same H H') : Placed P w H0 H' a F := by
  obtain ⟨L, ha, ht, pm⟩ := x.ex
  exact ⟨⟨L, s _ _ ha, fun p hp => s _ _ (ht p hp), pm⟩, x.same.trans s, x.new⟩
def spChF (K : PySem.W.Frag) : Sp := fun vs H Q _ => ∃ (r z : Addr) (rs : List Row) (zs : List Zp), vs = [.ref r, .ref z] ∧ TupRs H r rs ∧ TupZk K H z zs ∧ ClothOk rs zs ∧ ∀ H', Same H H' → Q .non H'
theorem in_sides {s : Int} (h : s = 0 ∨ s = 1) : inV (.int s) [.int 0, .int 1] = true := by
  rcases h with rfl | rfl <;> decide +kernel
theorem ok_chF {f : Addr} {fd : FuncData} (T : Bl mg) (C : Cst K mg aS aD aI) (F : Fun K "check_feet" "check_feet" sChF f fd) : FnOk P w K mg base CX0 1 f fd ["rows", "zips"] (spChF K) := by
  refine F.ok scChF (fun vs H Q E h => ?_) (fun cdv A outer s H vs Q E hr h => ?_)
  · obtain ⟨r, z, rs, zs, rfl, _⟩ := h
    rfl
  · obtain ⟨r, z, rs, zs, rfl, hrs, hzs, c, q⟩ := h
    refine ⟨_, (pss_cons (ps_set (i := 2) scChF.nd rfl (Or.inl rfl) (pe_callTy0 cr_setT0 (by rfl) T.set_ (by decide +kernel)))
      (pss_cons (ps_for PassesOwn.never rfl (pi_enumT (by rfl) T.enumerate_ (pa_cons (pv 0) pa_nil)) (pg_tup rfl (pgs_cons (pg_name (i := 3) scChF.nd rfl (Or.inl rfl)) (pgs_cons (pg_name (i := 4) scChF.nd rfl (Or.inl rfl)) pgs_nil)))
        (pss_one (ps_for PassesOwn.never rfl (pi_tup (pe_ix ix_tup (pv 4) pe_int (fun _ _ => rfl))) (pg_tup rfl (pgs_cons (pg_name (i := 5) scChF.nd rfl (Or.inl rfl)) (pgs_cons (pg_name (i := 6) scChF.nd rfl (Or.inl rfl)) pgs_nil)))
          (pss_cons (ps_set (i := 7) scChF.nd rfl (Or.inl rfl) (pe_and (pe_chain op_le op_lt pe_int (pv 5) (pe_callB call_len_seq (by rfl) T.len_ PySem.boot_len (pa_cons (pv 1) pa_nil))) (pe_one (pe_cmpR op_in_seq (pv 6) (pe_glob (v := .ref aI) (by rfl) C.sides rfl) rfl))))
          (pss_cons (ps_if (pw_or (pt_not (pt_val (pv 7))) (pw_or1 (pt_cmpR (op_inT (hu_of hr)) (pe_tup (pa_cons (pv 5) (pa_cons (pv 6) pa_nil))) (pv 2) rfl))).pt
            (pss_one ps_never)
            pss_nil)
          (pss_one (ps_expr (pe_addT (hu_of hr) (pv 2) (pa_cons (pe_tup (pa_cons (pv 5) (pa_cons (pv 6) pa_nil))) pa_nil)))))))))
      (pss_one (ps_if (pt_cmpR op_lt (pe_callB call_lenT (by rfl) T.len_ PySem.boot_len (pa_cons (pv 2) pa_nil)) (pe_op op_mul (pe_callB call_len_seq (by rfl) T.len_ PySem.boot_len (pa_cons (pe_glob (v := .ref aI) (by rfl) C.sides rfl) pa_nil)) (pe_callB call_len_seq (by rfl) T.len_ PySem.boot_len (pa_cons (pv 1) pa_nil))) (nomark _))
        (pss_one ps_never)
        pss_nil)))), ?_⟩
    obtain ⟨ts, er, pr⟩ := hrs
    obtain ⟨tz, ez, pz⟩ := hzs
    have sq : SqT K H r (ts.map V.ref) := .inl (.inl er)
    have zq : SqT K H z (tz.map V.ref) := ez
    have tzl : (tz.map V.ref).length = zs.length := by rw [List.length_map, pz.length]
    refine ⟨rfl, fun a na => ?_⟩
    have p0 : Placed P w H (upd H a (SetTO P w a [])) a (metF rs 0 0) := ⟨⟨[], upd_same, by simp, by rw [met_zero]; exact .refl _⟩, same_upd na, na⟩
    refine ⟨.ref r, rfl, r, _, rfl, same_seqT p0.same sq, ?_⟩
    refine for_enumT (K := K) (a := r) (xs := ts.map V.ref) (fun i σ H1 => Placed P w H H1 a (metF rs i 0) ∧ ∃ x3 x4 x5 x6 x7 : Option V, σ = [some (.ref r), some (.ref z), some (.ref a), x3, x4, x5, x6, x7]) ⟨p0, none, none, none, none, none, rfl⟩
      (fun i σ H1 _ hv => same_seqT hv.1.same sq) (fun i v σ H1 T0 hv0 hv nT0 => ?_) (fun σ H1 hv => ?_)
    · obtain ⟨pl, x3, x4, x5, x6, x7, rfl⟩ := hv
      obtain ⟨t, ht, rfl⟩ : ∃ t, ts[i]? = some t ∧ v = .ref t := by
        rw [List.getElem?_map] at hv0
        cases e : ts[i]? with
        | none => rw [e] at hv0; cases hv0
        | some t => rw [e] at hv0; exact ⟨t, rfl, (Option.some.inj hv0).symm⟩
      obtain ⟨ro, hro, htr⟩ := paired_get pr ht
      have pl2 := pl.go (same_upd (o := .tup [.int (i : Nat), .ref t]) nT0)
      obtain ⟨fo, etr, us, euf, puf⟩ := htr.tp (.of pl2.same)
      refine ⟨T0, _, rfl, .inl (.inl upd_same), rfl, .int (i : Nat), [.ref t], rfl, .ref t, [], rfl, rfl, ?_⟩
      generalize upd H1 T0 (.tup [.int (i : Nat), .ref t]) = H2 at pl2 etr euf puf ⊢
      have uq : SqT K H2 fo (us.map V.ref) := euf.sq
      refine ⟨.ref t, rfl, t, _, 2, .ref fo, rfl, rfl, .inl (.inl etr), atI_nat (j := 2) rfl, fo, rfl, ⟨_, uq⟩, ?_⟩
      refine for_tup (K := K) (xs := us.map V.ref) (fun j σ H3 => Placed P w H H3 a (metF rs i j) ∧ Tp H2 H3 ∧ ∃ x5 x6 x7 : Option V, σ = [some (.ref r), some (.ref z), some (.ref a), some (.int (i : Nat)), some (.ref t), x5, x6, x7]) ⟨pl2, .refl _, x5, x6, x7, rfl⟩
        (fun j σ H3 _ hv => (euf.tp hv.2.1).sq) (fun j v σ H3 hv0 hv => ?_) (fun σ H3 hv => ?_)
      · obtain ⟨pl3, tp3, x5, x6, x7, rfl⟩ := hv
        obtain ⟨u, hu, rfl⟩ : ∃ u, us[j]? = some u ∧ v = .ref u := by
          rw [List.getElem?_map] at hv0
          cases e : us[j]? with
          | none => rw [e] at hv0; cases hv0
          | some u => rw [e] at hv0; exact ⟨u, rfl, (Option.some.inj hv0).symm⟩
        obtain ⟨x, hx, tx⟩ := paired_get puf hu
        have tx3 : H3 u = some (.tup [.int x.1, .int x.2]) := tp3 _ _ tx
        have memx : x ∈ rs.flatMap (·.feet) := by
          rw [flat_split hro]
          exact List.mem_append_right _ (List.mem_append_left _ (List.mem_of_getElem? hx))
        obtain ⟨⟨x0, x1⟩, xs⟩ := mem_allFeet.mp (c.feet.mem_iff.mp memx)
        refine ⟨u, _, rfl, .inl (.inl tx3), rfl, .int x.1, [.int x.2], rfl, .int x.2, [], rfl, rfl, ?_⟩
        -- known
        refine ⟨.int x.1, rfl, 0, x.1, rfl, rfl, _, rfl, ?_⟩
        rw [decide_eq_true x0]
        refine iteT ⟨.ref z, rfl, z, _, rfl, .inr (same_seqT pl3.same zq), x.1, _, rfl, rfl, _, rfl, ?_⟩
        rw [show decide (x.1 < ((tz.map V.ref).length : Int)) = true from decide_eq_true (by rw [tzl]; exact x1)]
        refine iteT ⟨.int x.2, rfl, aI, _, rfl, .inr (C.sidesK _), rfl, by decide +kernel, ?_⟩
        rw [show (if false then !inV (.int x.2) [.int 0, .int 1] else inV (.int x.2) [.int 0, .int 1]) = true from in_sides xs]
        -- not known or in placed
        refine ⟨.bl true, rfl, _, rfl, iteF ?_⟩
        refine ⟨.int x.1, rfl, .int x.2, rfl, by show 2 ≤ sizeLine; decide, fun T1 nT1 => ?_⟩
        have pl4 := pl3.go (same_upd (o := .tup [.int x.1, .int x.2]) nT1)
        obtain ⟨L, eL, tL, pm⟩ := pl4.ex
        have nodupF : (metF rs i (j + 1)).Nodup := (met_sub hro).nodup (c.feet.nodup_iff.mpr (nodup_allFeet _))
        rw [met_next hro hx] at nodupF
        have notIn : pairL x ∉ L.map (·.2) := fun hm => by
          obtain ⟨y, hy, e⟩ := List.mem_map.mp (pm.mem_iff.mp hm)
          have e2 := pairL_inj e
          subst e2
          exact (List.nodup_append.mp nodupF).2.2 y hy y (List.mem_singleton.mpr rfl) rfl
        refine ⟨.ref a, rfl, T1, a, pairL x, L, rfl, rfl, .inl (.inl upd_same), eL, fun p hp => .inl (.inl (tL p hp)), _, rfl, ?_⟩
        rw [decide_eq_false notIn]
        refine iteF ?_
        -- placed.add
        refine ⟨.ref a, rfl, ⟨a, L, rfl, eL⟩, .int x.1, rfl, .int x.2, rfl, by show 2 ≤ sizeLine; decide, fun T2 nT2 => ?_⟩
        have pl5 := pl4.go (same_upd (o := .tup [.int x.1, .int x.2]) nT2)
        have sm5 := same_upd (o := .tup [.int x.1, .int x.2]) nT2
        have lenL : L.length ≤ 16 := by
          have h1 : (L.map (·.2)).length = (metF rs i j).length := by rw [pm.length_eq, List.length_map]
          have h2 := (met_sub (j := j) hro).length_le
          have h3 := c.feet.length_eq
          rw [allFeet_len] at h3
          rw [List.length_map] at h1
          have := c.zips
          omega
        refine ⟨T2, a, pairL x, L, rfl, rfl, .inl (.inl upd_same), sm5 _ _ eL, fun p hp => .inl (.inl (sm5 _ _ (tL p hp))), by omega, notIn, fun L2 pm2 => ?_⟩
        have eT2 : ((upd (upd H3 T1 (.tup [.int x.1, .int x.2])) T2 (.tup [.int x.1, .int x.2]))) T2 = some (.tup [.int x.1, .int x.2]) := upd_same
        have tpw := tp_set (o := SetTO P w a L2) (sm5 _ _ eL)
        refine ⟨⟨⟨L2, upd_same, fun p hp => ?_, ?_⟩, fun b o e => ?_, pl.new⟩, ⟨fun b ys e ok => ?_⟩, some (.int x.1), some (.int x.2), some (.bl true), rfl⟩
        · rcases List.mem_cons.mp (pm2.mem_iff.mp hp) with rfl | hp
          · exact tpw _ _ eT2
          · exact tpw _ _ (sm5 _ _ (tL p hp))
        · rw [met_next hro hx, List.map_append]
          refine (pm2.map (·.2)).trans ?_
          show (pairL x :: L.map (·.2)).Perm _
          exact (pm.cons _).trans (List.perm_append_singleton _ _).symm
        · rw [upd_ne (ne_of_none e pl.new)]
          exact pl5.same _ _ e
        · exact tpw.ok _ _ (sm5 _ _ (same_upd nT1 _ _ (tp3.ok _ _ e ok))) ok
      · obtain ⟨pl3, tp3, x5, x6, x7, rfl⟩ := hv
        have e : (us.map V.ref).length = ro.feet.length := by rw [List.length_map, puf.length]
        rw [e, met_full hro] at pl3
        exact ⟨pl3, _, _, x5, x6, x7, rfl⟩
    · obtain ⟨pl, x3, x4, x5, x6, x7, rfl⟩ := hv
      obtain ⟨L, eL, tL, pm⟩ := pl.ex
      have eF : metF rs (ts.map V.ref).length 0 = rs.flatMap (·.feet) := by
        rw [met_zero, List.length_map, pr.length, List.take_length]
      rw [eF] at pm
      have lenL : L.length = 2 * zs.length := by
        have h1 : (L.map (·.2)).length = _ := pm.length_eq
        rw [List.length_map, List.length_map, c.feet.length_eq, allFeet_len] at h1
        exact h1
      refine ⟨.ref a, rfl, a, L, rfl, eL, fun p hp => .inl (.inl (tL p hp)), aI, _, rfl, .inr (C.sidesK _), .ref z, rfl, z, _, rfl, .inr (same_seqT pl.same zq), _, _, rfl, rfl, .inl ⟨by decide, by decide⟩, _, _, rfl, rfl, _, rfl, ?_⟩
      rw [show decide ((L.length : Int) < (([.int 0, .int 1] : List V).length : Int) * ((tz.map V.ref).length : Int)) = false from decide_eq_false (by rw [tzl, lenL]; show ¬ ((2 * zs.length : Nat) : Int) < 2 * (zs.length : Int); omega)]
      exact iteF (q H1 pl.same)
theorem cal_chF {f : Addr} {fd : FuncData} (T : Bl mg) (C : Cst K mg aS aD aI) (F : Fun K "check_feet" "check_feet" sChF f fd) (g : mg "check_feet" = some (.ref f)) : Cal P w K mg base CX0 1 "check_feet" ["rows", "zips"] (spChF K) :=
  ⟨f, fd, g, F.kp, F.binds (ps := ["rows", "zips"]) fun _ _ _ _ _ _ us hl => match us, hl with | [_, _], _ => rfl, ok_chF T C F⟩
end
end Zs
namespace Zs
open PySem PySem.Spec PyProof.Rows L2
local macro_rules | `(tactic| walk_at "z1") => `(tactic| first
  | (with_reducible refine' st_seq ?_) | (with_reducible refine' st_asg ?_) | (with_reducible refine' st_ret ?_) | (with_reducible refine' st_drop ?_) | (with_reducible refine' st_if ?_) | (with_reducible refine' st_next ?_) | (with_reducible refine' st_retN ?_) | (with_reducible refine' st_par ?_) | (with_reducible refine' st_break ?_) | (with_reducible refine' st_cont ?_)
  | ((with_reducible refine' st_augI ?h1 ?_); (case h1 => rfl))
  | (with_reducible refine' gd_name ?_) | ((with_reducible refine' gd_tup ?h1 ?_); (case h1 => rfl)) | ((with_reducible refine' gd_tupP ?h1 ?_); (case h1 => rfl)) | (with_reducible refine' gs_consP ?_) | (with_reducible refine' gs_nilP ?_) | (with_reducible refine' gs_consM ?_) | (with_reducible refine' gs_nilM ?_) | (with_reducible refine' gs_cons ?_) | (with_reducible refine' gs_nil ?_)
  | ((with_reducible refine' ex_varP ?h1 ?_); (case h1 => rfl)) | ((with_reducible refine' ex_var ?h1 ?_); (case h1 => rfl)) | (with_reducible refine' ex_int ?_) | (with_reducible refine' ex_bl ?_) | (with_reducible refine' ex_str ?_) | (with_reducible refine' ex_non ?_) | (with_reducible refine' ex_ty ?_)
  | (with_reducible refine' ex_op ?_) | (with_reducible refine' ex_un ?_) | (with_reducible refine' ex_cb ?_) | (with_reducible refine' ex_tupD ?_) | (with_reducible refine' ex_call ?_) | (with_reducible refine' ex_if ?_) | (with_reducible refine' ex_andV ?_) | (with_reducible refine' ex_orV ?_) | (with_reducible refine' ex_notV ?_) | (with_reducible refine' ex_isN ?_) | (with_reducible refine' ex_notN ?_) | (with_reducible refine' ex_chain ?_) | (with_reducible refine' ex_sl ?_) | (with_reducible refine' ex_bm ?_) | ((with_reducible refine' md_append ?h1 ?_); (case h1 => rfl))
  | (with_reducible refine' ad_cons ?_) | (with_reducible refine' ad_nil ?_) | (with_reducible refine' ax_cons ?_) | (with_reducible refine' ax_nil ?_) | (with_reducible refine' to_none ?_) | (with_reducible refine' to_some ?_)
  | (with_reducible refine' tt_test ?_) | (with_reducible refine' tt_B ?_) | (with_reducible refine' tt_and ?_) | (with_reducible refine' tt_or ?_) | (with_reducible refine' tt_not ?_) | (with_reducible refine' tt_yes ?_) | (with_reducible refine' tt_truT ?_)
  | (with_reducible refine' od_add ?_) | (with_reducible refine' od_sub ?_) | (with_reducible refine' od_lt ?_) | (with_reducible refine' od_le ?_) | (with_reducible refine' od_gt ?_) | (with_reducible refine' od_ge ?_) | (with_reducible refine' od_eqI ?_) | (with_reducible refine' od_neI ?_) | (with_reducible refine' od_eqS ?_) | (with_reducible refine' od_neS ?_) | (with_reducible refine' ud_neg ?_)
  | (with_reducible refine' od_isX ?_) | (with_reducible refine' od_notX ?_) | (with_reducible refine' cd_isiInt ?_) | (with_reducible refine' cd_isiTup ?_) | (with_reducible refine' cd_isiStr ?_) | (with_reducible refine' cd_isiLst ?_)
  | (with_reducible refine' cd_lenT ?_) | (with_reducible refine' cd_tupT ?_) | (with_reducible refine' cd_tupD ?_) | (with_reducible refine' cd_lenD ?_) | (with_reducible refine' cd_all ?_) | (with_reducible refine' cd_any ?_) | (with_reducible refine' cd_max2 ?_) | (with_reducible refine' cd_min2 ?_) | (with_reducible refine' cd_abs ?_) | (with_reducible refine' sd_tupA ?_)
  | ((with_reducible refine' it_tupP ?h1 ?_); (case h1 => rfl)) | ((with_reducible refine' it_enumP ?h1 ?_); (case h1 => rfl)) | (with_reducible refine' it_enumT ?_) | (with_reducible refine' ex_dnewT ?_) | (with_reducible refine' ex_dgetP ?_) | (with_reducible refine' it_tup ?_) | (with_reducible refine' it_rng1 ?_) | (with_reducible refine' it_rng2 ?_)
  | (refine' ⟨_, rfl, ?_⟩) | (refine' ⟨rfl, ?_⟩))
local macro_rules | `(tactic| walk_at "z") => `(tactic| repeat (walk_at "z1"))
local macro_rules | `(tactic| walk_at "gm") => `(tactic| (repeat (first | exact gm_name | exact gm_nil | refine gm_tup ?_ | refine gm_cons ?_ ?_)))
local macro_rules | `(tactic| walk_at "gw") => `(tactic| (repeat (first | exact gw_nil | exact gw_name (by simp) | refine gw_tup ?_ | (refine gw_cons (by walk_at "gm") (by walk_at "gm") ?_ ?_))))
abbrev sTL : Stmt := topS 23
theorem scTL : FnScope ["rows", "sort", "teeth", "feet"] ["rows"] (defScope sTL) := ⟨rfl, rfl, rfl, by decide +kernel, rfl, by decide +kernel, by decide +kernel⟩
section
variable {P : Program} {w : World} {K : PySem.W.Frag} {mg : Str → Option Value} {base : Heap}
def turnI (r : Row) : Int := if r.ring && !r.feet.isEmpty then r.teeth else 0
/-- a promise of one answer: the arguments as P says, no object given -/
def spF (A : List Dv → Dv → Prop) : SpD := fun ds M Φ => M = [] ∧ ∃ y, A ds y ∧ Φ y []
def isRingS (r : Row) : Bool := r.ring
theorem sort_ring (b : Bool) : decide (sortS b = ("ring" : Str)) = b := by cases b <;> decide +kernel
abbrev rowsD (rs : List Row) : PyData := .tuple (rs.map rowD)
def spTL : SpD := spF fun ds y => ∃ rs : List Row, ds = [.d (rowsD rs)] ∧ rs.length ≤ 1000 ∧ y = .d (.tuple (rs.map fun r => .int (turnI r)))
theorem ok_tl {f : Addr} {fd : FuncData} (T : Bl mg) (F : Fun K "turn_lengths" "turn_lengths" sTL f fd) : FnOk P w K mg base CX0 1 f fd ["rows"] (toSp K spTL) := by
  refine fn_d F scTL (fun ds M Φ h => ?_) (fun cdv A outer s H E hr ds M Φ h => ?_)
  · obtain ⟨_, y, ⟨rs, rfl, _⟩, _⟩ := h
    rfl
  · obtain ⟨rfl, y, ⟨rs, rfl, few, rfl⟩, q⟩ := h
    refine ⟨_, (pss_one (ps_ret (pe_callTy call_tuple_of (by rfl) T.tuple_ (by decide +kernel) (pa_cons (pe_lc (own := [("sort", 1), ("teeth", 2), ("feet", 3)]) (by rfl) scTL.nd (pi_tup (pv 0)) (blkOk_by (own := [("sort", 1), ("teeth", 2), ("feet", 3)]) (N := ["rows", "sort", "teeth", "feet"]) (sc := defScope sTL) (by decide +kernel)) (fun _ _ _ _ _ => (pg_tupK (K := K) (n := 3) rfl rfl (pgs_cons (pg_name (i := 1) scTL.nd rfl (Or.inl rfl)) (pgs_cons (pg_name (i := 2) scTL.nd rfl (Or.inl rfl)) (pgs_cons (pg_name (i := 3) scTL.nd rfl (Or.inl rfl)) pgs_nil))))) (fun _ _ _ _ _ => pts_nil) (fun _ _ _ _ _ => (pe_ifExp (pw_and (pt_cmpR op_eq (pv 1) pe_str (nomark _)) (pw_and1 (pt_truthK (K := K) rfl (pv 3) (fun _ => rfl)))).pt (pv 2) pe_int))) pa_nil)))), ?_⟩
    try dsimp only [cxOf, Cx.nox, Cx.wish]
    walk_at "z"
    refine ex_lcE (by walk_at "gm") (by walk_at "gw") ?_
    walk_at "z"
    refine ⟨rs.map fun r => .int (turnI r), by simp, by simp; omega, trivial, fun i x hx => ?_, ?_⟩
    · obtain ⟨r, hr, rfl⟩ := map2_at hx
      walk_at "z"
      rw [sort_ring]
      have e : (rs.map fun r => PyData.int (turnI r))[i]? = some (.int (turnI r)) := by rw [List.getElem?_map, hr]; rfl
      cases er : r.ring with
      | false =>
        refine iteF ?_
        refine iteF ?_
        walk_at "z"
        refine ⟨_, e, ?_, rfl⟩
        unfold turnI
        rw [er]
        rfl
      | true =>
        refine iteT ?_
        walk_at "z"
        cases ef : r.feet with
        | nil =>
          refine iteF ?_
          walk_at "z"
          refine ⟨_, e, ?_, rfl⟩
          unfold turnI
          rw [er, ef]
          rfl
        | cons a b =>
          refine iteT ?_
          walk_at "z"
          refine ⟨_, e, ?_, rfl⟩
          unfold turnI
          rw [er, ef]
          rfl
    · walk_at "z"
      exact out_0 trivial q
theorem cal_tl {f : Addr} {fd : FuncData} (T : Bl mg) (F : Fun K "turn_lengths" "turn_lengths" sTL f fd) (g : mg "turn_lengths" = some (.ref f)) : Cal P w K mg base CX0 1 "turn_lengths" ["rows"] (toSp K spTL) :=
  ⟨f, fd, g, F.kp, F.binds (ps := ["rows"]) fun _ _ _ _ _ _ us hl => match us, hl with | [_], _ => rfl, ok_tl T F⟩
end
def keyF (x : Foot) : List Key := [Sum.inl x.1, Sum.inl x.2]
theorem keyF_inj {x y : Foot} (h : keyF x = keyF y) : x = y := by
  obtain ⟨a, b⟩ := x
  obtain ⟨c, d⟩ := y
  have h1 : ([Sum.inl a, Sum.inl b] : List Key) = [Sum.inl c, Sum.inl d] := h
  simp at h1
  rw [h1.1, h1.2]
abbrev sBN : Stmt := topS 21
theorem scBN : FnScope ["found", "count", "number"] ["found", "count"] (defScope sBN) := ⟨rfl, rfl, rfl, by decide +kernel, rfl, by decide +kernel, by decide +kernel⟩
abbrev sGS : Stmt := topS 22
theorem scGS : FnScope ["zips", "gaps_by_foot", "found", "direction", "minimum", "below0", "above0", "below1", "above1"] ["zips", "gaps_by_foot"] (defScope sGS) := ⟨rfl, rfl, rfl, by decide +kernel, rfl, by decide +kernel, by decide +kernel⟩
section
variable {P : Program} {w : World} {K : PySem.W.Frag} {mg : Str → Option Value} {base : Heap}
/-- for each zip what is told of its two feet -/
abbrev byNum (g : Foot → PyData) (n : Nat) : PyData := .tuple ((List.range n).map fun i => .tuple [g ((i : Nat), 0), g ((i : Nat), 1)])
def spBN (K : PySem.W.Frag) : SpD := spF fun ds y => ∃ (f : List Key → Option PyData) (g : Foot → PyData) (n : Nat), ds = [dctv K f, .d (.int (n : Nat))] ∧ n ≤ 1000 ∧ (∀ i : Nat, i < n → f (keyF ((i : Nat), 0)) = some (g ((i : Nat), 0)) ∧ f (keyF ((i : Nat), 1)) = some (g ((i : Nat), 1))) ∧ y = .d (byNum g n)
theorem ok_bn {f : Addr} {fd : FuncData} (T : Bl mg) (F : Fun K "by_number" "by_number" sBN f fd) : FnOk P w K mg base CX0 1 f fd ["found", "count"] (toSp K (spBN K)) := by
  refine fn_d F scBN (fun ds M Φ h => ?_) (fun cdv A outer s H E hr ds M Φ h => ?_)
  · obtain ⟨_, y, ⟨_, _, _, rfl, _⟩, _⟩ := h
    rfl
  · obtain ⟨rfl, y, ⟨ft, g, n, rfl, few, tab, rfl⟩, q⟩ := h
    refine ⟨_, (pss_one (ps_ret (pe_callTy call_tuple_of (by rfl) T.tuple_ (by decide +kernel) (pa_cons (pe_lc (own := [("number", 2)]) (g := gName 2) (by rfl) scBN.nd (pi_range1 (by rfl) T.range_ (pa_cons (pv 1) pa_nil)) (blkOk_by (own := [("number", 2)]) (N := ["found", "count", "number"]) (sc := defScope sBN) (by decide +kernel)) (fun _ _ _ _ _ => (pg_name (i := 2) scBN.nd rfl (Or.inl rfl))) (fun _ _ _ _ _ => pts_nil) (fun _ _ _ _ _ => (pe_tup (pa_cons (pe_dget (hu_of hr) (pv 0) (pe_tup (pa_cons (pv 2) (pa_cons pe_int pa_nil))) (fun _ _ => rfl)) (pa_cons (pe_dget (hu_of hr) (pv 0) (pe_tup (pa_cons (pv 2) (pa_cons pe_int pa_nil))) (fun _ _ => rfl)) pa_nil))))) pa_nil)))), ?_⟩
    try dsimp only [cxOf, Cx.nox, Cx.wish]
    walk_at "z"
    refine ex_lcE (by walk_at "gm") (by walk_at "gw") ?_
    walk_at "z"
    refine ⟨by omega, by omega, (List.range n).map fun i => .tuple [g ((i : Nat), 0), g ((i : Nat), 1)], by simp [rngD], by simp; omega, trivial, fun i x hx => ?_, ?_⟩
    · obtain ⟨hi, rfl⟩ := rng0_at hx
      rw [Int.toNat_natCast] at hi
      walk_at "z"
      refine ⟨_, _, _, rfl, (tab i hi).1, ?_⟩
      walk_at "z"
      refine ⟨_, _, _, rfl, (tab i hi).2, ?_⟩
      walk_at "z"
      refine ⟨_, ?_, rfl, rfl⟩
      rw [List.getElem?_map, List.getElem?_range hi]
      rfl
    · walk_at "z"
      exact out_0 trivial q
theorem cal_bn {f : Addr} {fd : FuncData} (T : Bl mg) (F : Fun K "by_number" "by_number" sBN f fd) (g : mg "by_number" = some (.ref f)) : Cal P w K mg base CX0 1 "by_number" ["found", "count"] (toSp K (spBN K)) :=
  ⟨f, fd, g, F.kp, F.binds (ps := ["found", "count"]) fun _ _ _ _ _ _ us hl => match us, hl with | [_, _], _ => rfl, ok_bn T F⟩
/-- the gaps beside the two sliders of a zip -/
abbrev prI (p : Int × Int) : PyData := .tuple [.int p.1, .int p.2]
abbrev gapsBF (g : Foot → Int × Int) (i : Nat) : PyData := .tuple [prI (g ((i : Nat), 0)), prI (g ((i : Nat), 1))]
/-- end 0 at side 0 low; at side 1 low, or high if the zip is reversed -/
def sldG (g : Foot → Int × Int) (rev : Bool) (i : Nat) (e : Bool) : Int × Int :=
  if e then ((g ((i : Nat), 0)).2, if rev then (g ((i : Nat), 1)).1 else (g ((i : Nat), 1)).2) else ((g ((i : Nat), 0)).1, if rev then (g ((i : Nat), 1)).2 else (g ((i : Nat), 1)).1)
abbrev sldD (g : Foot → Int × Int) (rev : Bool) (i : Nat) : PyData := .tuple [prI (sldG g rev i false), prI (sldG g rev i true)]
def sldL (g : Foot → Int × Int) (zs : List Zp) : List PyData := (List.range zs.length).map fun i => sldD g ((zs.getD i (false, 0)).1) i
theorem sldL_at {g : Foot → Int × Int} {zs : List Zp} {i : Nat} {z : Zp} (h : zs[i]? = some z) : (sldL g zs)[i]? = some (sldD g z.1 i) := by
  unfold sldL
  rw [List.getElem?_map, List.getElem?_range (List.getElem?_eq_some_iff.mp h).1]
  show some (sldD g (zs.getD i (false, 0)).1 i) = _
  rw [List.getD_eq_getElem?_getD, h]
  rfl
theorem dir_rev (b : Bool) : decide (dirS b = ("reversed" : Str)) = b := by cases b <;> decide +kernel
def spGS : SpD := spF fun ds y => ∃ (g : Foot → Int × Int) (zs : List Zp), ds = [.d (.tuple (zs.map zipD)), .d (.tuple ((List.range zs.length).map (gapsBF g)))] ∧ zs.length ≤ 1000 ∧ y = .d (.tuple (sldL g zs))
theorem pair_at2 {α β : Type} {fa : α → PyData} {fb : β → PyData} {as : List α} {bs : List β} {i : Nat} {x : Dv} (h : (pairD (as.map fa) (bs.map fb))[i]? = some x) : ∃ a b, as[i]? = some a ∧ bs[i]? = some b ∧ x = .d (.tuple [fa a, fb b]) := by
  obtain ⟨a, b, ea, eb, rfl⟩ := pairD_at h
  rw [List.getElem?_map] at ea eb
  cases qa : as[i]? with
  | none => rw [qa] at ea; cases ea
  | some a' =>
    cases qb : bs[i]? with
    | none => rw [qb] at eb; cases eb
    | some b' =>
      rw [qa] at ea
      rw [qb] at eb
      have e1 := Option.some.inj ea
      have e2 := Option.some.inj eb
      subst e1
      subst e2
      exact ⟨a', b', rfl, rfl, rfl⟩
theorem ok_gs {f : Addr} {fd : FuncData} (T : Bl mg) (F : Fun K "gaps_of_sliders" "gaps_of_sliders" sGS f fd) : FnOk P w K mg base CX0 1 f fd ["zips", "gaps_by_foot"] (toSp K spGS) := by
  refine fn_d F scGS (fun ds M Φ h => ?_) (fun cdv A outer s H E hr ds M Φ h => ?_)
  · obtain ⟨_, y, ⟨_, _, rfl, _⟩, _⟩ := h
    rfl
  · obtain ⟨rfl, y, ⟨g, zs, rfl, few, rfl⟩, q⟩ := h
    refine ⟨_, (pss_cons (ps_set (i := 2) scGS.nd rfl (Or.inl rfl) (pe_lst pa_nil))
      (pss_cons (ps_for PassesOwn.never rfl (RZ.pi_zipA (by rfl) T.zip_ (pa_cons (pv 0) (pa_cons (pv 1) pa_nil))) (pg_tup rfl (pgs_cons (pg_tup rfl (pgs_cons (pg_name (i := 3) scGS.nd rfl (Or.inl rfl)) (pgs_cons (pg_name (i := 4) scGS.nd rfl (Or.inl rfl)) pgs_nil))) (pgs_cons (pg_tup rfl (pgs_cons (pg_tup rfl (pgs_cons (pg_name (i := 5) scGS.nd rfl (Or.inl rfl)) (pgs_cons (pg_name (i := 6) scGS.nd rfl (Or.inl rfl)) pgs_nil))) (pgs_cons (pg_tup rfl (pgs_cons (pg_name (i := 7) scGS.nd rfl (Or.inl rfl)) (pgs_cons (pg_name (i := 8) scGS.nd rfl (Or.inl rfl)) pgs_nil))) pgs_nil))) pgs_nil)))
        (pss_one (ps_if (pt_cmpR op_eq (pv 3) pe_str (nomark _))
          (pss_one (ps_expr (pe_bm PySem.F.plainAttrs_list PySem.F.slot_list_append PySem.F.type_list_append mt_append (pv 2) (pa_cons (pe_tup (pa_cons (pe_tup (pa_cons (pv 5) (pa_cons (pv 8) pa_nil))) (pa_cons (pe_tup (pa_cons (pv 6) (pa_cons (pv 7) pa_nil))) pa_nil))) pa_nil))))
          (pss_one (ps_expr (pe_bm PySem.F.plainAttrs_list PySem.F.slot_list_append PySem.F.type_list_append mt_append (pv 2) (pa_cons (pe_tup (pa_cons (pe_tup (pa_cons (pv 5) (pa_cons (pv 7) pa_nil))) (pa_cons (pe_tup (pa_cons (pv 6) (pa_cons (pv 8) pa_nil))) pa_nil))) pa_nil)))))))
      (pss_one (ps_ret (pe_callTy call_tuple_of (by rfl) T.tuple_ (by decide +kernel) (pa_cons (pv 2) pa_nil)))))), ?_⟩
    try dsimp only [cxOf, Cx.nox, Cx.wish]
    walk_at "z"
    refine ex_own ?_
    walk_at "z"
    refine ⟨by simp, ?_⟩
    walk_at "z"
    refine st_for ?_
    refine it_zipA ?_
    walk_at "z"
    refine ⟨_, _, .inr rfl, fun i sl' M' => ∃ x3 x4 x5 x6 x7 x8 : Option Dv, sl' = [some (.d (.tuple (zs.map zipD))), some (.d (.tuple ((List.range zs.length).map (gapsBF g)))), some (.r 0), x3, x4, x5, x6, x7, x8] ∧ M' = [.lst (((sldL g zs).take i).map .d)], ⟨none, none, none, none, none, none, rfl, rfl⟩, fun _ _ _ _ => trivial, ?_, ?_⟩
    · rintro i x sl' M' hx ⟨x3, x4, x5, x6, x7, x8, rfl, rfl⟩
      obtain ⟨z, j, hz, hj, rfl⟩ := pair_at2 hx
      have ej : j = i := by
        rw [List.getElem?_range (List.getElem?_eq_some_iff.mp hz).1] at hj
        exact (Option.some.inj hj).symm
      subst ej
      walk_at "z"
      rw [dir_rev]
      have es := sldL_at (g := g) hz
      have ll : (sldL g zs).length = zs.length := by unfold sldL; simp
      cases er : z.1 with
      | true =>
        refine iteT ?_
        walk_at "z"
        refine ⟨_, _, rfl, rfl, by rw [List.length_map, List.length_take]; omega, _, _, _, _, _, _, rfl, ?_⟩
        rw [take_snoc es, List.map_append, er]
        rfl
      | false =>
        refine iteF ?_
        walk_at "z"
        refine ⟨_, _, rfl, rfl, by rw [List.length_map, List.length_take]; omega, _, _, _, _, _, _, rfl, ?_⟩
        rw [take_snoc es, List.map_append, er]
        rfl
    · rintro sl' M' ⟨x3, x4, x5, x6, x7, x8, rfl, rfl⟩
      have ll : (sldL g zs).length = (pairD (zs.map zipD) ((List.range zs.length).map (gapsBF g))).length := by unfold sldL pairD; simp
      rw [← ll, List.take_length]
      walk_at "z"
      exact cd_tupL (lsR rfl) (dsOf_of _) (out_0 trivial q)
theorem cal_gs {f : Addr} {fd : FuncData} (T : Bl mg) (F : Fun K "gaps_of_sliders" "gaps_of_sliders" sGS f fd) (g : mg "gaps_of_sliders" = some (.ref f)) : Cal P w K mg base CX0 1 "gaps_of_sliders" ["zips", "gaps_by_foot"] (toSp K spGS) :=
  ⟨f, fd, g, F.kp, F.binds (ps := ["zips", "gaps_by_foot"]) fun _ _ _ _ _ _ us hl => match us, hl with | [_, _], _ => rfl, ok_gs T F⟩
end
end Zs
namespace Zs
open PySem PySem.Spec PyProof.Rows L2
local macro_rules | `(tactic| walk_at "z1") => `(tactic| first
  | (with_reducible refine' st_seq ?_) | (with_reducible refine' st_asg ?_) | (with_reducible refine' st_ret ?_) | (with_reducible refine' st_drop ?_) | (with_reducible refine' st_if ?_) | (with_reducible refine' st_next ?_) | (with_reducible refine' st_retN ?_) | (with_reducible refine' st_par ?_) | (with_reducible refine' st_break ?_) | (with_reducible refine' st_cont ?_)
  | ((with_reducible refine' st_augI ?h1 ?_); (case h1 => rfl))
  | (with_reducible refine' gd_name ?_) | ((with_reducible refine' gd_tup ?h1 ?_); (case h1 => rfl)) | ((with_reducible refine' gd_tupP ?h1 ?_); (case h1 => rfl)) | (with_reducible refine' gs_consP ?_) | (with_reducible refine' gs_nilP ?_) | (with_reducible refine' gs_consM ?_) | (with_reducible refine' gs_nilM ?_) | (with_reducible refine' gs_cons ?_) | (with_reducible refine' gs_nil ?_)
  | ((with_reducible refine' ex_varP ?h1 ?_); (case h1 => rfl)) | ((with_reducible refine' ex_var ?h1 ?_); (case h1 => rfl)) | (with_reducible refine' ex_int ?_) | (with_reducible refine' ex_bl ?_) | (with_reducible refine' ex_str ?_) | (with_reducible refine' ex_non ?_) | (with_reducible refine' ex_ty ?_)
  | (with_reducible refine' ex_op ?_) | (with_reducible refine' ex_un ?_) | (with_reducible refine' ex_cb ?_) | (with_reducible refine' ex_tupD ?_) | (with_reducible refine' ex_call ?_) | (with_reducible refine' ex_if ?_) | (with_reducible refine' ex_andV ?_) | (with_reducible refine' ex_orV ?_) | (with_reducible refine' ex_notV ?_) | (with_reducible refine' ex_isN ?_) | (with_reducible refine' ex_notN ?_) | (with_reducible refine' ex_chain ?_) | (with_reducible refine' ex_sl ?_) | (with_reducible refine' ex_bm ?_) | ((with_reducible refine' md_append ?h1 ?_); (case h1 => rfl))
  | (with_reducible refine' ad_cons ?_) | (with_reducible refine' ad_nil ?_) | (with_reducible refine' ax_cons ?_) | (with_reducible refine' ax_nil ?_) | (with_reducible refine' to_none ?_) | (with_reducible refine' to_some ?_)
  | (with_reducible refine' tt_test ?_) | (with_reducible refine' tt_B ?_) | (with_reducible refine' tt_and ?_) | (with_reducible refine' tt_or ?_) | (with_reducible refine' tt_not ?_) | (with_reducible refine' tt_yes ?_) | (with_reducible refine' tt_truT ?_)
  | (with_reducible refine' od_add ?_) | (with_reducible refine' od_sub ?_) | (with_reducible refine' od_lt ?_) | (with_reducible refine' od_le ?_) | (with_reducible refine' od_gt ?_) | (with_reducible refine' od_ge ?_) | (with_reducible refine' od_eqI ?_) | (with_reducible refine' od_neI ?_) | (with_reducible refine' od_eqS ?_) | (with_reducible refine' od_neS ?_) | (with_reducible refine' ud_neg ?_)
  | (with_reducible refine' od_isX ?_) | (with_reducible refine' od_notX ?_) | (with_reducible refine' cd_isiInt ?_) | (with_reducible refine' cd_isiTup ?_) | (with_reducible refine' cd_isiStr ?_) | (with_reducible refine' cd_isiLst ?_)
  | (with_reducible refine' cd_lenT ?_) | (with_reducible refine' cd_tupT ?_) | (with_reducible refine' cd_tupD ?_) | (with_reducible refine' cd_lenD ?_) | (with_reducible refine' cd_all ?_) | (with_reducible refine' cd_any ?_) | (with_reducible refine' cd_max2 ?_) | (with_reducible refine' cd_min2 ?_) | (with_reducible refine' cd_abs ?_) | (with_reducible refine' sd_tupA ?_)
  | ((with_reducible refine' it_tupP ?h1 ?_); (case h1 => rfl)) | ((with_reducible refine' it_enumP ?h1 ?_); (case h1 => rfl)) | (with_reducible refine' it_enumT ?_) | (with_reducible refine' ex_dnewT ?_) | (with_reducible refine' ex_dgetP ?_) | (with_reducible refine' it_tup ?_) | (with_reducible refine' it_rng1 ?_) | (with_reducible refine' it_rng2 ?_)
  | (refine' ⟨_, rfl, ?_⟩) | (refine' ⟨rfl, ?_⟩))
local macro_rules | `(tactic| walk_at "z") => `(tactic| repeat (walk_at "z1"))
local macro_rules | `(tactic| walk_at "gm") => `(tactic| (repeat (first | exact gm_name | exact gm_nil | refine gm_tup ?_ | refine gm_cons ?_ ?_)))
local macro_rules | `(tactic| walk_at "gw") => `(tactic| (repeat (first | exact gw_nil | exact gw_name (by simp) | refine gw_tup ?_ | (refine gw_cons (by walk_at "gm") (by walk_at "gm") ?_ ?_))))
/-! ### where a foot is -/
theorem feet_place : ∀ {rs : List Row} {i i' j j' : Nat} {r r' : Row} {x : Foot}, (rs.flatMap (·.feet)).Nodup → rs[i]? = some r → r.feet[j]? = some x → rs[i']? = some r' → r'.feet[j']? = some x → i = i' ∧ j = j'
  | [], _, _, _, _, _, _, _, _, h, _, _, _ => by simp at h
  | a :: rs, 0, 0, j, j', r, r', x, nd, h, hx, h', hx' => by
    have e := Option.some.inj h
    have e' := Option.some.inj h'
    subst e
    subst e'
    rw [List.flatMap_cons, List.nodup_append] at nd
    exact ⟨rfl, nd_ix nd.1 hx hx'⟩
  | a :: rs, 0, i' + 1, j, j', r, r', x, nd, h, hx, h', hx' => by
    have e := Option.some.inj h
    subst e
    rw [List.flatMap_cons, List.nodup_append] at nd
    have h2 : rs[i']? = some r' := by simpa using h'
    exact absurd rfl (nd.2.2 x (List.mem_of_getElem? hx) x (List.mem_flatMap.mpr ⟨r', List.mem_of_getElem? h2, List.mem_of_getElem? hx'⟩))
  | a :: rs, i + 1, 0, j, j', r, r', x, nd, h, hx, h', hx' => by
    have e := Option.some.inj h'
    subst e
    rw [List.flatMap_cons, List.nodup_append] at nd
    have h2 : rs[i]? = some r := by simpa using h
    exact absurd rfl (nd.2.2 x (List.mem_of_getElem? hx') x (List.mem_flatMap.mpr ⟨r, List.mem_of_getElem? h2, List.mem_of_getElem? hx⟩))
  | a :: rs, i + 1, i' + 1, j, j', r, r', x, nd, h, hx, h', hx' => by
    rw [List.flatMap_cons, List.nodup_append] at nd
    obtain ⟨e1, e2⟩ := feet_place (rs := rs) nd.2.1 (by simpa using h) hx (by simpa using h') hx'
    exact ⟨by omega, e2⟩
def fidx : List Foot → Foot → Option Nat
  | [], _ => none
  | y :: ys, x => if y = x then some 0 else (fidx ys x).map (· + 1)
def posF : List Row → Foot → Option (Nat × Nat)
  | [], _ => none
  | r :: rs, x => match fidx r.feet x with
    | some j => some (0, j)
    | none => (posF rs x).map fun p => (p.1 + 1, p.2)
theorem fidx_mem : ∀ {ys : List Foot} {x : Foot} {j : Nat}, fidx ys x = some j → ys[j]? = some x
  | [], _, _, h => by cases h
  | y :: ys, x, j, h => by
    unfold fidx at h
    by_cases e : y = x
    · rw [if_pos e] at h
      have := Option.some.inj h
      subst this
      rw [e]
      rfl
    · rw [if_neg e] at h
      cases q : fidx ys x with
      | none => rw [q] at h; cases h
      | some k =>
        rw [q] at h
        have := Option.some.inj h
        subst this
        exact fidx_mem (ys := ys) q
theorem fidx_none : ∀ {ys : List Foot} {x : Foot}, fidx ys x = none → x ∉ ys
  | [], _, _, m => by cases m
  | y :: ys, x, h, m => by
    unfold fidx at h
    by_cases e : y = x
    · rw [if_pos e] at h; cases h
    · rw [if_neg e] at h
      cases q : fidx ys x with
      | none =>
        rcases List.mem_cons.mp m with z | z
        · exact e z.symm
        · exact fidx_none q z
      | some k => rw [q] at h; cases h
theorem posF_mem : ∀ {rs : List Row} {x : Foot} {p : Nat × Nat}, posF rs x = some p → ∃ r, rs[p.1]? = some r ∧ r.feet[p.2]? = some x
  | [], _, _, h => by cases h
  | r :: rs, x, p, h => by
    unfold posF at h
    cases q : fidx r.feet x with
    | some j =>
      rw [q] at h
      have := Option.some.inj h
      subst this
      exact ⟨r, rfl, fidx_mem q⟩
    | none =>
      rw [q] at h
      cases q2 : posF rs x with
      | none => rw [q2] at h; cases h
      | some p' =>
        rw [q2] at h
        have := Option.some.inj h
        subst this
        exact posF_mem (rs := rs) q2
theorem posF_none : ∀ {rs : List Row} {x : Foot}, posF rs x = none → x ∉ rs.flatMap (·.feet)
  | [], _, _, m => by simp at m
  | r :: rs, x, h, m => by
    unfold posF at h
    rw [List.flatMap_cons] at m
    cases q : fidx r.feet x with
    | some j => rw [q] at h; cases h
    | none =>
      rw [q] at h
      cases q2 : posF rs x with
      | some p' => rw [q2] at h; cases h
      | none =>
        rcases List.mem_append.mp m with z | z
        · exact fidx_none q z
        · exact posF_none q2 z
theorem posF_some {rs : List Row} {i j : Nat} {r : Row} {x : Foot} (nd : (rs.flatMap (·.feet)).Nodup) (hr : rs[i]? = some r) (hx : r.feet[j]? = some x) : posF rs x = some (i, j) := by
  cases q : posF rs x with
  | none => exact absurd (List.mem_flatMap.mpr ⟨r, List.mem_of_getElem? hr, List.mem_of_getElem? hx⟩) (posF_none q)
  | some p =>
    obtain ⟨r', hr', hx'⟩ := posF_mem q
    obtain ⟨e1, e2⟩ := feet_place nd hr hx hr' hx'
    rw [show p = (i, j) from Prod.ext e1.symm e2.symm]
/-! ### tables by foot -/
def footOf : List Key → Option Foot
  | [.inl a, .inl b] => some (a, b)
  | _ => none
theorem footOf_key (x : Foot) : footOf (keyF x) = some x := rfl
theorem key_footOf : ∀ {k : List Key} {x : Foot}, footOf k = some x → k = keyF x
  | [.inl a, .inl b], x, h => by
    have := Option.some.inj h
    subst this
    rfl
/-- the table, filled up to the j-th foot of the i-th row -/
def fT (rs : List Row) (g : Nat → Nat → PyData) (i j : Nat) : List Key → Option Dv := fun k => match footOf k with
  | none => none
  | some x => match posF rs x with
    | none => none
    | some p => if p.1 < i ∨ (p.1 = i ∧ p.2 < j) then some (.d (g p.1 p.2)) else none
def tabP (rs : List Row) (g : Nat → Nat → PyData) : List Key → Option PyData := fun k => match footOf k with
  | none => none
  | some x => (posF rs x).map fun p => g p.1 p.2
theorem tabP_at {rs : List Row} {g : Nat → Nat → PyData} {i j : Nat} {r : Row} {x : Foot} (nd : (rs.flatMap (·.feet)).Nodup) (hr : rs[i]? = some r) (hx : r.feet[j]? = some x) : tabP rs g (keyF x) = some (g i j) := by
  unfold tabP
  rw [footOf_key]
  show (posF rs x).map _ = _
  rw [posF_some nd hr hx]
  rfl
theorem fT_zero (rs : List Row) (g : Nat → Nat → PyData) : (fun _ => none) = fT rs g 0 0 := by
  funext k
  unfold fT
  cases footOf k with
  | none => rfl
  | some x =>
    dsimp only
    cases posF rs x with
    | none => rfl
    | some p =>
      dsimp only
      rw [if_neg (by omega)]
theorem fT_put {rs : List Row} {g : Nat → Nat → PyData} {i j : Nat} {r : Row} {x : Foot} (nd : (rs.flatMap (·.feet)).Nodup) (hr : rs[i]? = some r) (hx : r.feet[j]? = some x) : putD (fT rs g i j) (keyF x) (.d (g i j)) = fT rs g i (j + 1) := by
  funext k
  unfold putD
  by_cases e : k = keyF x
  · subst e
    rw [if_pos rfl]
    unfold fT
    rw [footOf_key]
    dsimp only
    rw [posF_some nd hr hx]
    dsimp only
    rw [if_pos (by omega)]
  · rw [if_neg e]
    unfold fT
    cases q : footOf k with
    | none => rfl
    | some y =>
      dsimp only
      cases q2 : posF rs y with
      | none => rfl
      | some p =>
        dsimp only
        have np : ¬ (p.1 = i ∧ p.2 = j) := fun z => e (by
          obtain ⟨r', hr', hx'⟩ := posF_mem q2
          rw [z.1, hr] at hr'
          have := Option.some.inj hr'
          subst this
          rw [z.2, hx] at hx'
          have := Option.some.inj hx'
          subst this
          exact key_footOf q)
        by_cases c : p.1 < i ∨ (p.1 = i ∧ p.2 < j)
        · rw [if_pos c, if_pos (by omega)]
        · rw [if_neg c, if_neg (by omega)]
theorem fT_next {rs : List Row} {g : Nat → Nat → PyData} {i : Nat} {r : Row} (hr : rs[i]? = some r) : fT rs g i r.feet.length = fT rs g (i + 1) 0 := by
  funext k
  unfold fT
  cases q : footOf k with
  | none => rfl
  | some y =>
    dsimp only
    cases q2 : posF rs y with
    | none => rfl
    | some p =>
      dsimp only
      obtain ⟨r', hr', hx'⟩ := posF_mem q2
      have lx := (List.getElem?_eq_some_iff.mp hx').1
      by_cases c : p.1 = i
      · rw [c, hr] at hr'
        have := Option.some.inj hr'
        subst this
        rw [if_pos (by omega), if_pos (by omega)]
      · by_cases c2 : p.1 < i
        · rw [if_pos (by omega), if_pos (by omega)]
        · rw [if_neg (by omega), if_neg (by omega)]
theorem fT_all (rs : List Row) (g : Nat → Nat → PyData) (k : List Key) : fT rs g rs.length 0 k = (tabP rs g k).map .d := by
  unfold fT tabP
  cases q : footOf k with
  | none => rfl
  | some y =>
    dsimp only
    cases q2 : posF rs y with
    | none => rfl
    | some p =>
      dsimp only
      obtain ⟨r', hr', _⟩ := posF_mem q2
      have lx := (List.getElem?_eq_some_iff.mp hr').1
      rw [if_pos (by omega)]
      rfl
/-! ### gaps_of_feet -/
def gs (rs : List Row) (i : Nat) : Nat := ((rs.take i).map fun r => r.feet.length + 1).sum
theorem gs_succ {rs : List Row} {i : Nat} {r : Row} (h : rs[i]? = some r) : gs rs (i + 1) = gs rs i + (r.feet.length + 1) := by
  unfold gs
  rw [take_snoc h, List.map_append, List.sum_append]
  simp
def rowAt (rs : List Row) (i : Nat) : Row := rs.getD i ⟨false, 1, []⟩
theorem rowAt_of {rs : List Row} {i : Nat} {r : Row} (h : rs[i]? = some r) : rowAt rs i = r := by
  unfold rowAt
  rw [List.getD_eq_getElem?_getD, h]
  rfl
/-- the numbers of the gaps below and above the j-th foot of the i-th row -/
def gapP (rs : List Row) (i j : Nat) : Int × Int := ((gs rs i : Nat) + (if (rowAt rs i).ring && j == 0 then ((rowAt rs i).feet.length : Nat) else j : Nat), (gs rs i : Nat) + (j : Nat) + 1)
abbrev sGF : Stmt := topS 19
theorem scGF : FnScope ["rows", "found", "start", "sort", "teeth", "feet", "at", "foot", "below"] ["rows"] (defScope sGF) := ⟨rfl, rfl, rfl, by decide +kernel, rfl, by decide +kernel, by decide +kernel⟩
section
variable {P : Program} {w : World} {K : PySem.W.Frag} {mg : Str → Option Value} {base : Heap}
structure RwOk (rs : List Row) : Prop where
  few : rs.length ≤ 6
  feet : ∀ r ∈ rs, r.feet.length ≤ 16
  nd : (rs.flatMap (·.feet)).Nodup
def spGF (K : PySem.W.Frag) : SpD := spF fun ds y => ∃ rs : List Row, ds = [.p (rowsD rs)] ∧ RwOk rs ∧ y = dctv K (tabP rs fun i j => prI (gapP rs i j))
theorem ok_gf {f : Addr} {fd : FuncData} (T : Bl mg) (F : Fun K "gaps_of_feet" "gaps_of_feet" sGF f fd) : FnOk P w K mg base CX0 1 f fd ["rows"] (toSp K (spGF K)) := by
  refine fn_d F scGF (fun ds M Φ h => ?_) (fun cdv A outer s H E hr ds M Φ h => ?_)
  · obtain ⟨_, y, ⟨_, rfl, _⟩, _⟩ := h
    rfl
  · obtain ⟨rfl, y, ⟨rs, rfl, ok, rfl⟩, q⟩ := h
    refine ⟨_, (pss_cons (ps_set (i := 1) scGF.nd rfl (Or.inl rfl) pe_dnewT)
      (pss_cons (ps_set (i := 2) scGF.nd rfl (Or.inl rfl) pe_int)
      (pss_cons (ps_for PassesOwn.never rfl (pi_tup (pv 0)) (pg_tup rfl (pgs_cons (pg_name (i := 3) scGF.nd rfl (Or.inl rfl)) (pgs_cons (pg_name (i := 4) scGF.nd rfl (Or.inl rfl)) (pgs_cons (pg_name (i := 5) scGF.nd rfl (Or.inl rfl)) pgs_nil))))
        (pss_cons (ps_for PassesOwn.never rfl (pi_enumT (by rfl) T.enumerate_ (pa_cons (pv 5) pa_nil)) (pg_tup rfl (pgs_cons (pg_name (i := 6) scGF.nd rfl (Or.inl rfl)) (pgs_cons (pg_name (i := 7) scGF.nd rfl (Or.inl rfl)) pgs_nil)))
          (pss_cons (ps_set (i := 8) scGF.nd rfl (Or.inl rfl) (pe_ifExp (pw_and (pt_cmpR op_eq (pv 3) pe_str (nomark _)) (pw_and1 (pt_cmpR op_eq (pv 6) pe_int (nomark _)))).pt (pe_callB call_len_seq (by rfl) T.len_ PySem.boot_len (pa_cons (pv 5) pa_nil)) (pv 6)))
          (pss_one (ps_dput (hu_of hr) (pv 1) (pv 7) (pe_tup (pa_cons (pe_op op_add (pv 2) (pv 8)) (pa_cons (pe_op op_add (pe_op op_add (pv 2) (pv 6)) pe_int) pa_nil))) rfl))))
        (pss_one (ps_aug (i := 2) scGF.nd rfl (Or.inl rfl) (pe_op op_add (pe_callB call_len_seq (by rfl) T.len_ PySem.boot_len (pa_cons (pv 5) pa_nil)) pe_int) ip_add))))
      (pss_one (ps_ret (pv 1)))))), ?_⟩
    try dsimp only [cxOf, Cx.nox, Cx.wish]
    walk_at "z"
    refine st_for ?_
    walk_at "z"
    refine ⟨fun i sl' M' => ∃ x3 x4 x5 x6 x7 x8 : Option Dv, sl' = [some (.p (rowsD rs)), some (.r 0), some (.d (.int (gs rs i : Nat))), x3, x4, x5, x6, x7, x8] ∧ ∃ n, n ≤ 17 * i ∧ M' = [.dT (fT rs (fun i j => prI (gapP rs i j)) i 0) n], ⟨none, none, none, none, none, none, rfl, 0, by omega, ?_⟩, fun _ _ _ _ => trivial, ?_, ?_⟩
    · rw [← fT_zero]
      rfl
    · rintro i x sl' M' hx ⟨x3, x4, x5, x6, x7, x8, rfl, n, hn, rfl⟩
      obtain ⟨r, hr, rfl⟩ := map2_atP hx
      have fl := ok.feet r (List.mem_of_getElem? hr)
      have il := (List.getElem?_eq_some_iff.mp hr).1
      have few := ok.few
      walk_at "z"
      refine st_for ?_
      walk_at "z"
      refine ⟨fun j sl' M' => ∃ x6 x7 x8 : Option Dv, sl' = [some (.p (rowsD rs)), some (.r 0), some (.d (.int (gs rs i : Nat))), some (.p (.str (sortS r.ring))), some (.p (.int r.teeth)), some (.p (.tuple (r.feet.map footD))), x6, x7, x8] ∧ ∃ n, n ≤ 17 * i + j ∧ M' = [.dT (fT rs (fun i j => prI (gapP rs i j)) i j) n], ⟨x6, x7, x8, rfl, n, by omega, rfl⟩, fun _ _ _ _ => trivial, ?_, ?_⟩
      · rintro j x sl' M' hx2 ⟨x6, x7, x8, rfl, n, hn, rfl⟩
        obtain ⟨ft, hft, rfl⟩ := enumP_map hx2
        have jl := (List.getElem?_eq_some_iff.mp hft).1
        walk_at "z"
        rw [sort_ring]
        cases er : r.ring with
        | false =>
          have eg : prI (gapP rs i j) = .tuple [.int ((gs rs i : Nat) + (j : Nat)), .int ((gs rs i : Nat) + (j : Nat) + 1)] := by unfold gapP; rw [rowAt_of hr, er]; rfl
          refine iteF ?_
          refine iteF ?_
          walk_at "z"
          refine st_dputV (ks := keyF ft) rfl (by simp [keyF]) ?_
          walk_at "z"
          refine ⟨_, _, _, rfl, rfl, by omega, _, _, _, rfl, n + 1, by omega, ?_⟩
          rw [← fT_put ok.nd hr hft, eg]
          rfl
        | true =>
          refine iteT ?_
          walk_at "z"
          by_cases j0 : j = 0
          · subst j0
            have eg : prI (gapP rs i 0) = .tuple [.int ((gs rs i : Nat) + (r.feet.length : Nat)), .int ((gs rs i : Nat) + ((0 : Nat) : Int) + 1)] := by unfold gapP; rw [rowAt_of hr, er]; rfl
            rw [show decide (((0 : Nat) : Int) = 0) = true from rfl]
            refine iteT ?_
            walk_at "z"
            rw [List.length_map]
            refine st_dputV (ks := keyF ft) rfl (by simp [keyF]) ?_
            walk_at "z"
            refine ⟨_, _, _, rfl, rfl, by omega, _, _, _, rfl, n + 1, by omega, ?_⟩
            rw [← fT_put ok.nd hr hft, eg]
            rfl
          · have eg : prI (gapP rs i j) = .tuple [.int ((gs rs i : Nat) + (j : Nat)), .int ((gs rs i : Nat) + (j : Nat) + 1)] := by
              unfold gapP
              rw [rowAt_of hr, er, show (true && (j == 0)) = false by simp [j0]]
              rfl
            rw [show decide ((j : Int) = 0) = false from decide_eq_false (by omega)]
            refine iteF ?_
            walk_at "z"
            refine st_dputV (ks := keyF ft) rfl (by simp [keyF]) ?_
            walk_at "z"
            refine ⟨_, _, _, rfl, rfl, by omega, _, _, _, rfl, n + 1, by omega, ?_⟩
            rw [← fT_put ok.nd hr hft, eg]
            rfl
      · rintro sl' M' ⟨x6, x7, x8, rfl, n, hn, rfl⟩
        rw [enumP_len, List.length_map] at hn ⊢
        walk_at "z"
        rw [show ((gs rs i : Nat) : Int) + (((r.feet.map footD).length : Nat) + 1) = ((gs rs (i + 1) : Nat) : Int) by rw [gs_succ hr, List.length_map]; omega]
        exact ⟨_, _, _, _, _, _, rfl, n, by omega, by rw [fT_next hr]⟩
    · rintro sl' M' ⟨x3, x4, x5, x6, x7, x8, rfl, n, hn, rfl⟩
      walk_at "z"
      refine out_T rfl (fun key => ?_) q
      rw [List.length_map, List.length_map]
      exact fT_all rs _ key
theorem cal_gf {f : Addr} {fd : FuncData} (T : Bl mg) (F : Fun K "gaps_of_feet" "gaps_of_feet" sGF f fd) (g : mg "gaps_of_feet" = some (.ref f)) : Cal P w K mg base CX0 1 "gaps_of_feet" ["rows"] (toSp K (spGF K)) :=
  ⟨f, fd, g, F.kp, F.binds (ps := ["rows"]) fun _ _ _ _ _ _ us hl => match us, hl with | [_], _ => rfl, ok_gf T F⟩
end
end Zs
namespace Zs
open PySem PySem.Spec PyProof.Rows L2
local macro_rules | `(tactic| walk_at "z1") => `(tactic| first
  | (with_reducible refine' st_seq ?_) | (with_reducible refine' st_asg ?_) | (with_reducible refine' st_ret ?_) | (with_reducible refine' st_drop ?_) | (with_reducible refine' st_if ?_) | (with_reducible refine' st_next ?_) | (with_reducible refine' st_retN ?_) | (with_reducible refine' st_par ?_) | (with_reducible refine' st_break ?_) | (with_reducible refine' st_cont ?_)
  | ((with_reducible refine' st_augI ?h1 ?_); (case h1 => rfl))
  | (with_reducible refine' gd_name ?_) | ((with_reducible refine' gd_tup ?h1 ?_); (case h1 => rfl)) | ((with_reducible refine' gd_tupP ?h1 ?_); (case h1 => rfl)) | (with_reducible refine' gs_consP ?_) | (with_reducible refine' gs_nilP ?_) | (with_reducible refine' gs_consM ?_) | (with_reducible refine' gs_nilM ?_) | (with_reducible refine' gs_cons ?_) | (with_reducible refine' gs_nil ?_)
  | ((with_reducible refine' ex_varP ?h1 ?_); (case h1 => rfl)) | ((with_reducible refine' ex_var ?h1 ?_); (case h1 => rfl)) | (with_reducible refine' ex_int ?_) | (with_reducible refine' ex_bl ?_) | (with_reducible refine' ex_str ?_) | (with_reducible refine' ex_non ?_) | (with_reducible refine' ex_ty ?_)
  | (with_reducible refine' ex_op ?_) | (with_reducible refine' ex_un ?_) | (with_reducible refine' ex_cb ?_) | (with_reducible refine' ex_tupD ?_) | (with_reducible refine' ex_call ?_) | (with_reducible refine' ex_if ?_) | (with_reducible refine' ex_andV ?_) | (with_reducible refine' ex_orV ?_) | (with_reducible refine' ex_notV ?_) | (with_reducible refine' ex_isN ?_) | (with_reducible refine' ex_notN ?_) | (with_reducible refine' ex_chain ?_) | (with_reducible refine' ex_sl ?_) | (with_reducible refine' ex_bm ?_) | ((with_reducible refine' md_append ?h1 ?_); (case h1 => rfl))
  | (with_reducible refine' ad_cons ?_) | (with_reducible refine' ad_nil ?_) | (with_reducible refine' ax_cons ?_) | (with_reducible refine' ax_nil ?_) | (with_reducible refine' to_none ?_) | (with_reducible refine' to_some ?_)
  | (with_reducible refine' tt_test ?_) | (with_reducible refine' tt_B ?_) | (with_reducible refine' tt_and ?_) | (with_reducible refine' tt_or ?_) | (with_reducible refine' tt_not ?_) | (with_reducible refine' tt_yes ?_) | (with_reducible refine' tt_truT ?_)
  | (with_reducible refine' od_add ?_) | (with_reducible refine' od_sub ?_) | (with_reducible refine' od_lt ?_) | (with_reducible refine' od_le ?_) | (with_reducible refine' od_gt ?_) | (with_reducible refine' od_ge ?_) | (with_reducible refine' od_eqI ?_) | (with_reducible refine' od_neI ?_) | (with_reducible refine' od_eqS ?_) | (with_reducible refine' od_neS ?_) | (with_reducible refine' ud_neg ?_)
  | (with_reducible refine' od_isX ?_) | (with_reducible refine' od_notX ?_) | (with_reducible refine' cd_isiInt ?_) | (with_reducible refine' cd_isiTup ?_) | (with_reducible refine' cd_isiStr ?_) | (with_reducible refine' cd_isiLst ?_)
  | (with_reducible refine' cd_lenT ?_) | (with_reducible refine' cd_tupT ?_) | (with_reducible refine' cd_tupD ?_) | (with_reducible refine' cd_lenD ?_) | (with_reducible refine' cd_all ?_) | (with_reducible refine' cd_any ?_) | (with_reducible refine' cd_max2 ?_) | (with_reducible refine' cd_min2 ?_) | (with_reducible refine' cd_abs ?_) | (with_reducible refine' sd_tupA ?_)
  | ((with_reducible refine' it_tupP ?h1 ?_); (case h1 => rfl)) | ((with_reducible refine' it_enumP ?h1 ?_); (case h1 => rfl)) | (with_reducible refine' it_enumT ?_) | (with_reducible refine' ex_dnewT ?_) | (with_reducible refine' ex_dgetP ?_) | (with_reducible refine' it_tup ?_) | (with_reducible refine' it_rng1 ?_) | (with_reducible refine' it_rng2 ?_)
  | (refine' ⟨_, rfl, ?_⟩) | (refine' ⟨rfl, ?_⟩))
local macro_rules | `(tactic| walk_at "z") => `(tactic| repeat (walk_at "z1"))
local macro_rules | `(tactic| walk_at "gm") => `(tactic| (repeat (first | exact gm_name | exact gm_nil | refine gm_tup ?_ | refine gm_cons ?_ ?_)))
local macro_rules | `(tactic| walk_at "gw") => `(tactic| (repeat (first | exact gw_nil | exact gw_name (by simp) | refine gw_tup ?_ | (refine gw_cons (by walk_at "gm") (by walk_at "gm") ?_ ?_))))
/-! ### neighbours_of_feet -/
theorem cut_last {α : Type} (xs : List α) : cutD xs (some (-1)) none = xs.drop (xs.length - 1) := by
  unfold cutD
  rw [HT.sIx_none]
  have e : HT.sIx xs.length 0 (some (-1)) = xs.length - 1 := by
    unfold HT.sIx
    simp
    omega
  rw [e]
  exact List.take_of_length_le (by rw [List.length_drop]; omega)
theorem cut_first {α : Type} (xs : List α) : cutD xs none (some 1) = xs.take 1 := by
  unfold cutD
  rw [HT.sIx_none, show HT.sIx xs.length xs.length (some 1) = min 1 xs.length from HT.sIx_nat xs.length xs.length 1, List.drop_zero, Nat.sub_zero]
  cases xs with
  | nil => rfl
  | cons x r => rw [show min 1 (x :: r).length = 1 by rw [List.length_cons]; omega]
abbrev feetL (r : Row) : List PyData := r.feet.map footD
def aroundL (r : Row) : List PyData := if r.ring then (feetL r).drop ((feetL r).length - 1) ++ feetL r ++ (feetL r).take 1 else [.none] ++ feetL r ++ [.none]
theorem around_len {r : Row} (h : r.feet ≠ []) : (aroundL r).length = r.feet.length + 2 := by
  have : 0 < r.feet.length := List.length_pos_iff.mpr h
  unfold aroundL feetL
  split <;> simp <;> omega
def nbD (rs : List Row) (i j : Nat) : PyData := .tuple [(aroundL (rowAt rs i)).getD j .none, (aroundL (rowAt rs i)).getD (j + 2) .none]
theorem atI_getD {ds : List PyData} {j : Nat} (h : j < ds.length) : atI ds (j : Nat) = some (ds.getD j .none) := atI_nat (by rw [List.getD_eq_getElem?_getD, List.getElem?_eq_getElem h]; rfl)
abbrev sNF : Stmt := topS 20
theorem scNF : FnScope ["rows", "found", "sort", "teeth", "feet", "around", "at", "foot"] ["rows"] (defScope sNF) := ⟨rfl, rfl, rfl, by decide +kernel, rfl, by decide +kernel, by decide +kernel⟩
section
variable {P : Program} {w : World} {K : PySem.W.Frag} {mg : Str → Option Value} {base : Heap}
def spNF (K : PySem.W.Frag) : SpD := spF fun ds y => ∃ rs : List Row, ds = [.p (rowsD rs)] ∧ RwOk rs ∧ y = dctv K (tabP rs (nbD rs))
theorem ok_nf {f : Addr} {fd : FuncData} (T : Bl mg) (F : Fun K "neighbours_of_feet" "neighbours_of_feet" sNF f fd) : FnOk P w K mg base CX0 1 f fd ["rows"] (toSp K (spNF K)) := by
  refine fn_d F scNF (fun ds M Φ h => ?_) (fun cdv A outer s H E hr ds M Φ h => ?_)
  · obtain ⟨_, y, ⟨_, rfl, _⟩, _⟩ := h
    rfl
  · obtain ⟨rfl, y, ⟨rs, rfl, ok, rfl⟩, q⟩ := h
    refine ⟨_, (pss_cons (ps_set (i := 1) scNF.nd rfl (Or.inl rfl) pe_dnewT)
      (pss_cons (ps_for PassesOwn.never rfl (pi_tup (pv 0)) (pg_tup rfl (pgs_cons (pg_name (i := 2) scNF.nd rfl (Or.inl rfl)) (pgs_cons (pg_name (i := 3) scNF.nd rfl (Or.inl rfl)) (pgs_cons (pg_name (i := 4) scNF.nd rfl (Or.inl rfl)) pgs_nil))))
        (pss_cons (ps_set (i := 5) scNF.nd rfl (Or.inl rfl) (pe_ifExp (pt_cmpR op_eq (pv 2) pe_str (nomark _)) (pe_op op_catA (pe_op op_catA (pe_slice sl_tupA (pv 4) (po_some (pe_un un_neg pe_int)) po_none) (pv 4)) (pe_slice sl_tupA (pv 4) po_none (po_some pe_int))) (pe_op op_catA (pe_op op_catA (pe_tup (pa_cons pe_non pa_nil)) (pv 4)) (pe_tup (pa_cons pe_non pa_nil)))))
        (pss_one (ps_for PassesOwn.never rfl (pi_enumT (by rfl) T.enumerate_ (pa_cons (pv 4) pa_nil)) (pg_tup rfl (pgs_cons (pg_name (i := 6) scNF.nd rfl (Or.inl rfl)) (pgs_cons (pg_name (i := 7) scNF.nd rfl (Or.inl rfl)) pgs_nil)))
          (pss_one (ps_dput (hu_of hr) (pv 1) (pv 7) (pe_tup (pa_cons (pe_ix ix_tup (pv 5) (pv 6) (fun _ _ => rfl)) (pa_cons (pe_ix ix_tup (pv 5) (pe_op op_add (pv 6) pe_int) (fun _ _ => rfl)) pa_nil))) rfl))))))
      (pss_one (ps_ret (pv 1))))), ?_⟩
    try dsimp only [cxOf, Cx.nox, Cx.wish]
    walk_at "z"
    refine st_for ?_
    walk_at "z"
    refine ⟨fun i sl' M' => ∃ x2 x3 x4 x5 x6 x7 : Option Dv, sl' = [some (.p (rowsD rs)), some (.r 0), x2, x3, x4, x5, x6, x7] ∧ ∃ n, n ≤ 17 * i ∧ M' = [.dT (fT rs (nbD rs) i 0) n], ⟨none, none, none, none, none, none, rfl, 0, by omega, ?_⟩, fun _ _ _ _ => trivial, ?_, ?_⟩
    · rw [← fT_zero]
      rfl
    · rintro i x sl' M' hx ⟨x2, x3, x4, x5, x6, x7, rfl, n, hn, rfl⟩
      obtain ⟨r, hr, rfl⟩ := map2_atP hx
      have fl := ok.feet r (List.mem_of_getElem? hr)
      have il := (List.getElem?_eq_some_iff.mp hr).1
      have few := ok.few
      walk_at "z"
      rw [sort_ring]
      have rest : ∀ x6 x7 : Option Dv, StD K (tFor (iEnumT K (tCons (tVar 4) tNil)) (gTup K 2 (gCons (gName 6) (gCons (gName 7) gNil))) (sDPut (tVar 1) (tVar 7) (tTup (tCons (tOp (rIxT K) (tVar 5) (tVar 6)) (tCons (tOp (rIxT K) (tVar 5) (tOp (rI0 fun i j => V.int (i + j)) (tVar 6) (tC (V.int 2)))) tNil)))))
          [some (.p (rowsD rs)), some (.r 0), some (.p (.str (sortS r.ring))), some (.p (.int r.teeth)), some (.p (.tuple (r.feet.map footD))), some (.d (.tuple (aroundL r))), x6, x7] [.dT (fT rs (nbD rs) i 0) n]
          ⟨fun sl' M' => ∃ x2 x3 x4 x5 x6 x7 : Option Dv, sl' = [some (.p (rowsD rs)), some (.r 0), x2, x3, x4, x5, x6, x7] ∧ ∃ n, n ≤ 17 * (i + 1) ∧ M' = [.dT (fT rs (nbD rs) (i + 1) 0) n], Out K 0 Φ, fun sl' M' => StD K (tRet (tVar 1)) sl' M' ⟨fun _ M' => Out K 0 Φ (.d .none) M', Out K 0 Φ, fun _ _ => False, fun _ _ => False⟩, fun sl' M' => ∃ x2 x3 x4 x5 x6 x7 : Option Dv, sl' = [some (.p (rowsD rs)), some (.r 0), x2, x3, x4, x5, x6, x7] ∧ ∃ n, n ≤ 17 * (i + 1) ∧ M' = [.dT (fT rs (nbD rs) (i + 1) 0) n]⟩ := by
        intro x6 x7
        refine st_for ?_
        walk_at "z"
        refine ⟨fun j sl' M' => ∃ x6 x7 : Option Dv, sl' = [some (.p (rowsD rs)), some (.r 0), some (.p (.str (sortS r.ring))), some (.p (.int r.teeth)), some (.p (.tuple (r.feet.map footD))), some (.d (.tuple (aroundL r))), x6, x7] ∧ ∃ n, n ≤ 17 * i + j ∧ M' = [.dT (fT rs (nbD rs) i j) n], ⟨x6, x7, rfl, n, by omega, rfl⟩, fun _ _ _ _ => trivial, ?_, ?_⟩
        · rintro j x sl' M' hx2 ⟨x6, x7, rfl, n, hn, rfl⟩
          obtain ⟨ft, hft, rfl⟩ := enumP_map hx2
          have jl := (List.getElem?_eq_some_iff.mp hft).1
          have al := around_len (r := r) (fun z => by rw [z] at jl; simp at jl)
          walk_at "z"
          refine st_dputV (ks := keyF ft) rfl (by simp [keyF]) ?_
          walk_at "z"
          refine od_ixT (atI_getD (by omega)) ?_
          walk_at "z"
          refine od_ixT (atI_getD (ds := aroundL r) (j := j + 2) (by omega)) ?_
          walk_at "z"
          refine ⟨_, _, _, rfl, rfl, by omega, _, _, rfl, n + 1, by omega, ?_⟩
          rw [← fT_put ok.nd hr hft]
          unfold nbD
          rw [rowAt_of hr]
          rfl
        · rintro sl' M' ⟨x6, x7, rfl, n, hn, rfl⟩
          rw [enumP_len, List.length_map] at hn ⊢
          exact ⟨_, _, _, _, _, _, rfl, n, by omega, by rw [fT_next hr]⟩
      cases er : r.ring with
      | true =>
        refine iteT ?_
        walk_at "z"
        rw [cut_last]
        refine od_catT (by rw [List.length_drop, List.length_map]; omega) ?_
        walk_at "z"
        rw [cut_first]
        refine od_catT (by rw [List.length_append, List.length_drop, List.length_take, List.length_map]; omega) ?_
        walk_at "z"
        have rr := rest x6 x7
        rw [show aroundL r = (feetL r).drop ((feetL r).length - 1) ++ feetL r ++ (feetL r).take 1 by unfold aroundL; rw [er]; rfl, er] at rr
        exact rr
      | false =>
        refine iteF ?_
        walk_at "z"
        refine od_catT (by rw [List.length_map]; simp; omega) ?_
        walk_at "z"
        refine od_catT (by simp; omega) ?_
        walk_at "z"
        have rr := rest x6 x7
        rw [show aroundL r = [.none] ++ feetL r ++ [.none] by unfold aroundL; rw [er]; rfl, er] at rr
        exact rr
    · rintro sl' M' ⟨x2, x3, x4, x5, x6, x7, rfl, n, hn, rfl⟩
      walk_at "z"
      refine out_T rfl (fun key => ?_) q
      rw [List.length_map, List.length_map]
      exact fT_all rs _ key
theorem cal_nf {f : Addr} {fd : FuncData} (T : Bl mg) (F : Fun K "neighbours_of_feet" "neighbours_of_feet" sNF f fd) (g : mg "neighbours_of_feet" = some (.ref f)) : Cal P w K mg base CX0 1 "neighbours_of_feet" ["rows"] (toSp K (spNF K)) :=
  ⟨f, fd, g, F.kp, F.binds (ps := ["rows"]) fun _ _ _ _ _ _ us hl => match us, hl with | [_], _ => rfl, ok_nf T F⟩
end
end Zs
namespace Zs
open PySem PySem.Spec PyProof.Rows L2
local macro_rules | `(tactic| walk_at "z1") => `(tactic| first
  | (with_reducible refine' st_seq ?_) | (with_reducible refine' st_asg ?_) | (with_reducible refine' st_ret ?_) | (with_reducible refine' st_drop ?_) | (with_reducible refine' st_if ?_) | (with_reducible refine' st_next ?_) | (with_reducible refine' st_retN ?_) | (with_reducible refine' st_par ?_) | (with_reducible refine' st_break ?_) | (with_reducible refine' st_cont ?_)
  | ((with_reducible refine' st_augI ?h1 ?_); (case h1 => rfl))
  | (with_reducible refine' gd_name ?_) | ((with_reducible refine' gd_tup ?h1 ?_); (case h1 => rfl)) | ((with_reducible refine' gd_tupP ?h1 ?_); (case h1 => rfl)) | (with_reducible refine' gs_consP ?_) | (with_reducible refine' gs_nilP ?_) | (with_reducible refine' gs_consM ?_) | (with_reducible refine' gs_nilM ?_) | (with_reducible refine' gs_cons ?_) | (with_reducible refine' gs_nil ?_)
  | ((with_reducible refine' ex_varP ?h1 ?_); (case h1 => rfl)) | ((with_reducible refine' ex_var ?h1 ?_); (case h1 => rfl)) | (with_reducible refine' ex_int ?_) | (with_reducible refine' ex_bl ?_) | (with_reducible refine' ex_str ?_) | (with_reducible refine' ex_non ?_) | (with_reducible refine' ex_ty ?_)
  | (with_reducible refine' ex_op ?_) | (with_reducible refine' ex_un ?_) | (with_reducible refine' ex_cb ?_) | (with_reducible refine' ex_tupD ?_) | (with_reducible refine' ex_call ?_) | (with_reducible refine' ex_if ?_) | (with_reducible refine' ex_andV ?_) | (with_reducible refine' ex_orV ?_) | (with_reducible refine' ex_notV ?_) | (with_reducible refine' ex_isN ?_) | (with_reducible refine' ex_notN ?_) | (with_reducible refine' ex_chain ?_) | (with_reducible refine' ex_sl ?_) | (with_reducible refine' ex_bm ?_) | ((with_reducible refine' md_append ?h1 ?_); (case h1 => rfl))
  | (with_reducible refine' ad_cons ?_) | (with_reducible refine' ad_nil ?_) | (with_reducible refine' ax_cons ?_) | (with_reducible refine' ax_nil ?_) | (with_reducible refine' to_none ?_) | (with_reducible refine' to_some ?_)
  | (with_reducible refine' tt_test ?_) | (with_reducible refine' tt_B ?_) | (with_reducible refine' tt_and ?_) | (with_reducible refine' tt_or ?_) | (with_reducible refine' tt_not ?_) | (with_reducible refine' tt_yes ?_) | (with_reducible refine' tt_truT ?_)
  | (with_reducible refine' od_add ?_) | (with_reducible refine' od_sub ?_) | (with_reducible refine' od_lt ?_) | (with_reducible refine' od_le ?_) | (with_reducible refine' od_gt ?_) | (with_reducible refine' od_ge ?_) | (with_reducible refine' od_eqI ?_) | (with_reducible refine' od_neI ?_) | (with_reducible refine' od_eqS ?_) | (with_reducible refine' od_neS ?_) | (with_reducible refine' ud_neg ?_)
  | (with_reducible refine' od_isX ?_) | (with_reducible refine' od_notX ?_) | (with_reducible refine' cd_isiInt ?_) | (with_reducible refine' cd_isiTup ?_) | (with_reducible refine' cd_isiStr ?_) | (with_reducible refine' cd_isiLst ?_)
  | (with_reducible refine' cd_lenT ?_) | (with_reducible refine' cd_tupT ?_) | (with_reducible refine' cd_tupD ?_) | (with_reducible refine' cd_lenD ?_) | (with_reducible refine' cd_all ?_) | (with_reducible refine' cd_any ?_) | (with_reducible refine' cd_max2 ?_) | (with_reducible refine' cd_min2 ?_) | (with_reducible refine' cd_abs ?_) | (with_reducible refine' sd_tupA ?_)
  | ((with_reducible refine' it_tupP ?h1 ?_); (case h1 => rfl)) | ((with_reducible refine' it_enumP ?h1 ?_); (case h1 => rfl)) | (with_reducible refine' it_enumT ?_) | (with_reducible refine' ex_dnewT ?_) | (with_reducible refine' ex_dgetP ?_) | (with_reducible refine' it_tup ?_) | (with_reducible refine' it_rng1 ?_) | (with_reducible refine' it_rng2 ?_)
  | (refine' ⟨_, rfl, ?_⟩) | (refine' ⟨rfl, ?_⟩))
local macro_rules | `(tactic| walk_at "z") => `(tactic| repeat (walk_at "z1"))
local macro_rules | `(tactic| walk_at "gm") => `(tactic| (repeat (first | exact gm_name | exact gm_nil | refine gm_tup ?_ | refine gm_cons ?_ ?_)))
local macro_rules | `(tactic| walk_at "gw") => `(tactic| (repeat (first | exact gw_nil | exact gw_name (by simp) | refine gw_tup ?_ | (refine gw_cons (by walk_at "gm") (by walk_at "gm") ?_ ?_))))
abbrev sCI : Stmt := inClass (topS 40) 0
theorem scCI : FnScope ["self", "rows", "zips", "index", "row", "foot", "direction", "minimum"] ["self", "rows", "zips"] (defScope sCI) := ⟨rfl, rfl, rfl, by decide +kernel, rfl, by decide +kernel, by decide +kernel⟩
/-! ### what stays when an object gets a field -/
mutual
theorem dp_ins {K : PySem.W.Frag} {H H' : Hp} {p C dx : Addr} {ws : List (Str × V)} (hp : H p = some (.ins C dx ws)) (x : But p H H') : ∀ {v : V} {d : PyData}, Dp K H v d → Dp K H' v d
  | _, _, .non => .non
  | _, _, .bl b => .bl b
  | _, _, .int i => .int i
  | _, _, .str y => .str y
  | _, _, .lst s r => .lst (by
      rcases s with (h | ⟨o, h⟩) | h
      · exact .inl (.inl (x _ _ (ne_of h hp (by intro z; cases z)) h))
      · exact .inl (.inr ⟨o, x _ _ (ne_of h hp (by intro z; cases z)) h⟩)
      · exact .inr h) (dpAll_ins hp x r)
  | _, _, .tup s r => .tup (by
      rcases s with (h | ⟨o, h⟩) | h
      · exact .inl (.inl (x _ _ (ne_of h hp (by intro z; cases z)) h))
      · exact .inl (.inr ⟨o, x _ _ (ne_of h hp (by intro z; cases z)) h⟩)
      · exact .inr h) (dpAll_ins hp x r)
theorem dpAll_ins {K : PySem.W.Frag} {H H' : Hp} {p C dx : Addr} {ws : List (Str × V)} (hp : H p = some (.ins C dx ws)) (x : But p H H') : ∀ {vs : List V} {ds : List PyData}, DpAll K H vs ds → DpAll K H' vs ds
  | _, _, .nil => .nil
  | _, _, .cons a r => .cons (dp_ins hp x a) (dpAll_ins hp x r)
end
mutual
theorem dq_ins {K : PySem.W.Frag} {H H' : Hp} {p C dx : Addr} {ws : List (Str × V)} (hp : H p = some (.ins C dx ws)) (x : But p H H') : ∀ {v : V} {d : PyData}, Dq K H v d → Dq K H' v d
  | _, _, .non => .non
  | _, _, .bl b => .bl b
  | _, _, .int i => .int i
  | _, _, .str y => .str y
  | _, _, .lst s r => .lst (by
      rcases s with (h | ⟨o, h⟩) | h
      · exact .inl (.inl (x _ _ (ne_of h hp (by intro z; cases z)) h))
      · exact .inl (.inr ⟨o, x _ _ (ne_of h hp (by intro z; cases z)) h⟩)
      · exact .inr h) (dqAll_ins hp x r)
  | _, _, .tup s f r => .tup (by
      rcases s with (h | ⟨o, h⟩) | h
      · exact .inl (.inl (x _ _ (ne_of h hp (by intro z; cases z)) h))
      · exact .inl (.inr ⟨o, x _ _ (ne_of h hp (by intro z; cases z)) h⟩)
      · exact .inr h) (fun z => x _ _ (ne_of (f z) hp (by intro z; cases z)) (f z)) (dqAll_ins hp x r)
theorem dqAll_ins {K : PySem.W.Frag} {H H' : Hp} {p C dx : Addr} {ws : List (Str × V)} (hp : H p = some (.ins C dx ws)) (x : But p H H') : ∀ {vs : List V} {ds : List PyData}, DqAll K H vs ds → DqAll K H' vs ds
  | _, _, .nil => .nil
  | _, _, .cons a r => .cons (dq_ins hp x a) (dqAll_ins hp x r)
end
structure Stb (A : V → Hp → Prop) : Prop where
  same : ∀ v H H', Same H H' → A v H → A v H'
  ins : ∀ v H H' p C dx ws, H p = some (.ins C dx ws) → But p H H' → A v H → A v H'
theorem stb_dp {K : PySem.W.Frag} (d : PyData) : Stb fun u H => Dp K H u d := ⟨fun _ _ _ s h => dp_same s h, fun _ _ _ _ _ _ _ e b h => dp_ins e b h⟩
theorem stb_dq {K : PySem.W.Frag} (d : PyData) : Stb fun u H => Dq K H u d := ⟨fun _ _ _ s h => dq_same s h, fun _ _ _ _ _ _ _ e b h => dq_ins e b h⟩
theorem stb_dct {K : PySem.W.Frag} (f : List Key → Option PyData) : Stb (DctA K f) := ⟨fun _ _ _ s h => h.mono s, fun v H H' p C dx ws e b h => by
  obtain ⟨a, us, rfl, ea, no, yes⟩ := h
  refine ⟨a, us, rfl, b _ _ (ne_of ea e (by intro z; cases z)) ea, no, fun k d q => ?_⟩
  obtain ⟨u, eu, du⟩ := yes k d q
  exact ⟨u, eu, dp_ins e b du⟩⟩
/-- the fields of an object -/
def Flds (H : Hp) (ws : List (Str × V)) (L : List (Str × (V → Hp → Prop))) : Prop := ∀ q ∈ L, ∃ u, ws.lookup q.1 = some u ∧ q.2 u H
theorem Flds.same {H H' : Hp} {ws : List (Str × V)} {L : List (Str × (V → Hp → Prop))} (st : ∀ q ∈ L, Stb q.2) (s : Same H H') (h : Flds H ws L) : Flds H' ws L := fun q m => by
  obtain ⟨u, e, a⟩ := h q m
  exact ⟨u, e, (st q m).same _ _ _ s a⟩
theorem Flds.put {H : Hp} {p C dx : Addr} {f : Str} {y : V} {A : V → Hp → Prop} {ws : List (Str × V)} {L : List (Str × (V → Hp → Prop))} (st : ∀ q ∈ L, Stb q.2) (sa : Stb A) (hp : H p = some (.ins C dx ws)) (nf : f ∉ L.map (·.1)) (h : Flds H ws L) (a : A y H) :
    Flds (upd H p (.ins C dx (putF f y ws))) (putF f y ws) ((f, A) :: L) := fun q m => by
  rcases List.mem_cons.mp m with rfl | m
  · exact ⟨y, by rw [lookup_putF, if_pos rfl], sa.ins _ _ _ _ _ _ _ hp .wr a⟩
  · obtain ⟨u, e, b⟩ := h q m
    exact ⟨u, by rw [lookup_putF, if_neg (fun z => nf (List.mem_map.mpr ⟨q, m, z⟩))]; exact e, (st q m).ins _ _ _ _ _ _ _ hp .wr b⟩
theorem len_putF (f : Str) (v : V) : ∀ fs : List (Str × V), (putF f v fs).length ≤ fs.length + 1
  | [] => Nat.le_refl _
  | (g, x) :: r => by
    have ih := len_putF f v r
    unfold putF
    split
    · exact Nat.le_succ _
    · exact Nat.succ_le_succ ih
/-! ### Cloth -/
/-- what is told of a foot by its place -/
def ofPos {α : Type} (rs : List Row) (g : Nat → Nat → α) (d : α) (x : Foot) : α := match posF rs x with
  | some p => g p.1 p.2
  | none => d
def gapF (rs : List Row) : Foot → Int × Int := ofPos rs (gapP rs) (0, 0)
def nbF (rs : List Row) : Foot → PyData := ofPos rs (nbD rs) .none
def facI (z : Zp) : Int := if z.1 then -1 else 1
abbrev minsD (zs : List Zp) : PyData := .tuple (zs.map fun z => .int z.2)
abbrev facsD (zs : List Zp) : PyData := .tuple (zs.map fun z => .int (facI z))
abbrev turnsD (rs : List Row) : PyData := .tuple (rs.map fun r => .int (turnI r))
abbrev nbsD (rs : List Row) (n : Nat) : PyData := byNum (nbF rs) n
abbrev gfD (rs : List Row) (n : Nat) : PyData := .tuple ((List.range n).map (gapsBF (gapF rs)))
abbrev gslD (rs : List Row) (zs : List Zp) : PyData := .tuple (sldL (gapF rs) zs)
def rowT (rs : List Row) : List Key → Option PyData := tabP rs fun i _ => .int (i : Nat)
abbrev zipsD (zs : List Zp) : PyData := .tuple (zs.map zipD)
def clothL (K : PySem.W.Frag) (rs : List Row) (zs : List Zp) : List (Str × (V → Hp → Prop)) :=
  [("gaps_by_slider", fun u H => Dp K H u (gslD rs zs)), ("gaps_by_foot", fun u H => Dp K H u (gfD rs zs.length)), ("neighbours", fun u H => Dp K H u (nbsD rs zs.length)), ("turns", fun u H => Dp K H u (turnsD rs)), ("facings", fun u H => Dp K H u (facsD zs)),
   ("minimums", fun u H => Dp K H u (minsD zs)), ("row_by_foot", DctA K (rowT rs)), ("zip_tuples", fun u H => Dp K H u (zipsD zs)), ("row_tuples", fun u H => Dq K H u (rowsD rs))]
theorem clothL_stb (K : PySem.W.Frag) (rs : List Row) (zs : List Zp) : ∀ q ∈ clothL K rs zs, Stb q.2 := by
  intro q m
  unfold clothL at m
  simp only [List.mem_cons, List.not_mem_nil, or_false] at m
  rcases m with rfl | rfl | rfl | rfl | rfl | rfl | rfl | rfl | rfl
  all_goals first | exact stb_dp _ | exact stb_dq _ | exact stb_dct _
def namesC : List Str := ["row_tuples", "zip_tuples", "row_by_foot", "minimums", "facings", "turns", "neighbours", "gaps_by_foot", "gaps_by_slider"]
def ClothA (K : PySem.W.Frag) (C : Addr) (rs : List Row) (zs : List Zp) (v : V) (H : Hp) : Prop := ∃ p dx ws, v = .ref p ∧ H p = some (.ins C dx ws) ∧ Flds H ws (clothL K rs zs) ∧ ∀ m, m ∉ namesC → ws.lookup m = none
theorem ClothA.mono {K : PySem.W.Frag} {C : Addr} {rs : List Row} {zs : List Zp} {v : V} {H H' : Hp} (s : Same H H') (h : ClothA K C rs zs v H) : ClothA K C rs zs v H' := by
  obtain ⟨p, dx, ws, rfl, e, f, n⟩ := h
  exact ⟨p, dx, ws, rfl, s _ _ e, f.same (clothL_stb K rs zs) s, n⟩
def clv (K : PySem.W.Frag) (C : Addr) (rs : List Row) (zs : List Zp) : Dv := .o (ClothA K C rs zs)
/-- the class as the top has made it -/
structure ClsC (K : PySem.W.Frag) (mg : Str → Option Value) (C : Addr) : Prop where
  cl : Cls K C
  no : ∀ f ∈ namesC, NoAttr K C f
  mgC : mg "Cloth" = some (.ref C)
/-- the rows of the feet met so far -/
def eT (rs : List Row) (i j : Nat) (k : List Key) : Option V := (fT rs (fun i _ => .int (i : Nat)) i j k).bind fun y => match y with
  | .d (.int n) => some (.int n)
  | _ => none
theorem eT_zero (rs : List Row) (k : List Key) : eT rs 0 0 k = none := by
  unfold eT
  rw [← fT_zero]
  rfl
theorem eT_put {rs : List Row} {i j : Nat} {r : Row} {x : Foot} (nd : (rs.flatMap (·.feet)).Nodup) (hr : rs[i]? = some r) (hx : r.feet[j]? = some x) (k : List Key) : eT rs i (j + 1) k = if k = keyF x then some (.int (i : Nat)) else eT rs i j k := by
  unfold eT
  rw [← fT_put nd hr hx]
  unfold putD
  by_cases e : k = keyF x
  · rw [if_pos e, if_pos e]; rfl
  · rw [if_neg e, if_neg e]
theorem eT_next {rs : List Row} {i : Nat} {r : Row} (hr : rs[i]? = some r) : eT rs i r.feet.length = eT rs (i + 1) 0 := by
  unfold eT
  rw [fT_next hr]
def Held (rs : List Row) (i j : Nat) (kvs : List (List Key × V)) : Prop := kvs.length ≤ 17 * i + j ∧ ∀ k, valV kvs k = eT rs i j k
theorem Held.put {rs : List Row} {i j : Nat} {kvs : List (List Key × V)} {ro : Row} {x : Foot} (h : Held rs i j kvs) (nd : (rs.flatMap (·.feet)).Nodup) (hr : rs[i]? = some ro) (hx : ro.feet[j]? = some x) : Held rs i (j + 1) (putK kvs (keyF x) (.int (i : Nat))) := by
  refine ⟨by have := length_putK kvs (keyF x) (.int (i : Nat)); have := h.1; omega, fun k => ?_⟩
  rw [valV_put, eT_put nd hr hx, h.2]
theorem Held.next {rs : List Row} {i : Nat} {kvs : List (List Key × V)} {ro : Row} (h : Held rs i ro.feet.length kvs) (hr : rs[i]? = some ro) (hl : ro.feet.length ≤ 16) : Held rs (i + 1) 0 kvs := by
  refine ⟨by have := h.1; omega, fun k => ?_⟩
  rw [← eT_next hr]
  exact h.2 k
theorem Held.dct {K : PySem.W.Frag} {H : Hp} {rs : List Row} {kvs : List (List Key × V)} {D : Addr} (h : Held rs rs.length 0 kvs) (e : H D = some (.dT kvs)) : DctA K (rowT rs) (.ref D) H := by
  refine ⟨D, kvs, rfl, e, fun k q => ?_, fun k d q => ?_⟩
  · rw [h.2]
    unfold eT
    rw [fT_all, show tabP rs (fun i _ => PyData.int (i : Nat)) k = none from q]
    rfl
  · rw [h.2]
    unfold eT
    rw [fT_all, show tabP rs (fun i _ => PyData.int (i : Nat)) k = some d from q]
    unfold rowT tabP at q
    cases q1 : footOf k with
    | none => rw [q1] at q; cases q
    | some x =>
      rw [q1] at q
      dsimp only at q
      cases q2 : posF rs x with
      | none => rw [q2] at q; cases q
      | some p =>
        rw [q2] at q
        have := Option.some.inj q
        subst this
        exact ⟨_, rfl, .int _⟩
/-! ### from the heap to data and back -/
theorem mask_nil (H : Hp) : mask ([] ++ []) H = H := by
  funext b
  unfold mask
  simp
theorem repM0 (K : PySem.W.Frag) (H : Hp) : RepM K [] [] H [] := ⟨List.nodup_nil, rfl, fun k a c e _ => by simp at e, fun b m => by simp at m, fun b m => by simp at m⟩
section
variable {K : PySem.W.Frag} {φ ψ : List Addr} {H : Hp} {σ : L2.St} {sl : Sl}
theorem repS_nil : RepS K φ ψ H [] [] := ⟨rfl, fun i x e => by simp at e⟩
theorem repS_skip {x : Option V} (h : RepS K φ ψ H σ sl) : RepS K φ ψ H (x :: σ) (none :: sl) := ⟨by rw [List.length_cons, List.length_cons, h.1], fun i y e => by
  cases i with
  | zero => cases e
  | succ i => exact h.2 i y (by simpa using e)⟩
theorem repS_val {v : V} {x : Dv} (r : RepV K φ ψ H v x) (h : RepS K φ ψ H σ sl) : RepS K φ ψ H (some v :: σ) (some x :: sl) := ⟨by rw [List.length_cons, List.length_cons, h.1], fun i y e => by
  cases i with
  | zero =>
    have := Option.some.inj (Option.some.inj e)
    subst this
    exact ⟨v, rfl, r⟩
  | succ i => exact h.2 i y (by simpa using e)⟩
theorem rep_d0 {v : V} {x : PyData} (h : Dp K H v x) : RepV K [] [] H v (.d x) := by
  show Dp K (mask ([] ++ []) H) v x
  rw [mask_nil]
  exact h
theorem rep_p0 {v : V} {x : PyData} (h : Dq K H v x) : RepV K [] [] H v (.p x) := by
  show Dq K (mask ([] ++ []) H) v x
  rw [mask_nil]
  exact h
theorem of_d0 {v : V} {x : PyData} (h : RepV K [] [] H v (.d x)) : Dp K H v x := dp_same (mask_same _ _) h
theorem rep_o0 {v : V} {A : V → Hp → Prop} (m : ∀ H1 H2, Same H1 H2 → A v H1 → A v H2) (h : A v H) : RepV K [] [] H v (.o A) := by
  refine ⟨?_, m⟩
  rw [mask_nil]
  exact h
theorem stp0 {φ' : List Addr} {H H' : Hp} (s : Stp [] H φ' H') : Same H H' := fun b o e => s.kept b o (by simp) e
/-- self.f = e, e by data -/
theorem fldD {mg : Str → Option Value} {C p dx : Addr} {ws : List (Str × V)} {tv : TE} {f : Str} {D : Ends} {y : Dv} (G : ∀ f ∈ namesC, NoAttr K C f) (cl : Cls K C) (hf : f ∈ namesC) (s : RepS K [] [] H σ sl) (e0 : σ[0]? = some (some (.ref p))) (hp : H p = some (.ins C dx ws)) (l : ws.length < 1000)
    (h : ExD K tv sl [] fun y' M => y' = y ∧ M = []) (k : ∀ v H', Same H H' → RepV K [] [] H' v y → D.nx σ (upd H' p (.ins C dx (putF f v ws)))) : sFld K (tVar 0) tv f D σ H :=
  h [] [] σ H _ (repM0 K H) s fun v y' φ' H' M' st m r q => by
    obtain ⟨rfl, rfl⟩ := q
    have e : φ' = [] := List.length_eq_zero_iff.mp m.len
    subst e
    exact ⟨.ref p, e0, p, C, dx, ws, rfl, stp0 st _ _ hp, cl, G f hf, l, k v H' (stp0 st) r⟩
theorem fldDs {mg : Str → Option Value} {C p dx : Addr} {ws : List (Str × V)} {tv : TE} {u : TS} {f : Str} {D : Ends} {y : Dv} (G : ∀ f ∈ namesC, NoAttr K C f) (cl : Cls K C) (hf : f ∈ namesC) (s : RepS K [] [] H σ sl) (e0 : σ[0]? = some (some (.ref p))) (hp : H p = some (.ins C dx ws)) (l : ws.length < 1000)
    (h : ExD K tv sl [] fun y' M => y' = y ∧ M = []) (k : ∀ v H', Same H H' → RepV K [] [] H' v y → u D σ (upd H' p (.ins C dx (putF f v ws)))) : tSeq (sFld K (tVar 0) tv f) u D σ H := fldD (mg := mg) G cl hf s e0 hp l h k
end
theorem dq_feet {K : PySem.W.Frag} {H : Hp} {t : Addr} {xs : List Foot} (h : TupFs H t xs) : Dq K H (.ref t) (.tuple (xs.map footD)) := by
  obtain ⟨ts, e, r⟩ := h
  refine .tup e.sq (fun z => ?_) ?_
  · cases ts with
    | nil => cases z
    | cons a ts => cases z
  · clear e
    induction r with
    | nil => exact .nil
    | cons a _ ih => exact .cons (.tup (.inl (.inl a)) (fun _ => a) (.cons (.int _) (.cons (.int _) .nil))) ih
theorem dq_row {K : PySem.W.Frag} {H : Hp} {t : Addr} {r : Row} (h : TupR H t r) : Dq K H (.ref t) (rowD r) := by
  obtain ⟨f, e, q⟩ := h
  exact .tup (.inl (.inl e)) (fun _ => e) (.cons (.str _) (.cons (.int _) (.cons (dq_feet q) .nil)))
theorem dq_rows {K : PySem.W.Frag} {H : Hp} {t : Addr} {rs : List Row} (h : TupRs H t rs) : Dq K H (.ref t) (rowsD rs) := by
  obtain ⟨ts, e, r⟩ := h
  refine .tup (.inl (.inl e)) (fun _ => e) ?_
  clear e
  induction r with
  | nil => exact .nil
  | cons a _ ih => exact .cons (dq_row a) ih
theorem ClothOk.rw {rs : List Row} {zs : List Zp} (c : ClothOk rs zs) : RwOk rs := ⟨c.few, c.flen, c.feet.nodup_iff.mpr (nodup_allFeet _)⟩
theorem TupZk.ins {K : PySem.W.Frag} {H H' : Hp} {p C dx z : Addr} {zs : List Zp} (h : TupZk K H z zs) (hp : H p = some (.ins C dx [])) (k : ∀ b o, H b = some o → b ≠ p → H' b = some o) : TupZk K H' z zs := by
  have bt : But p H H' := fun b o n e => k b o e n
  obtain ⟨ts, e, r⟩ := h
  refine ⟨ts, ?_, Paired.mono (fun _ _ y => bt _ _ (ne_of y hp (by intro z; cases z)) y) r⟩
  rcases e with (h | ⟨o, h⟩) | h
  · exact .inl (.inl (bt _ _ (ne_of h hp (by intro z; cases z)) h))
  · exact .inl (.inr ⟨o, bt _ _ (ne_of h hp (by intro z; cases z)) h⟩)
  · exact .inr h
/-- each foot of a zip has its place -/
theorem ClothOk.placed {rs : List Row} {zs : List Zp} (c : ClothOk rs zs) {i : Nat} (h : i < zs.length) {s : Int} (hs : s = 0 ∨ s = 1) : ∃ p, posF rs ((i : Nat), s) = some p := by
  cases q : posF rs ((i : Nat), s) with
  | some p => exact ⟨p, rfl⟩
  | none => exact absurd (c.feet.mem_iff.mpr (mem_allFeet.mpr ⟨⟨by show (0 : Int) ≤ (i : Int); omega, by show (i : Int) < zs.length; omega⟩, hs⟩)) (posF_none q)
theorem tabP_of {rs : List Row} {α : Type} {g : Nat → Nat → α} {e : α → PyData} {d : α} {x : Foot} {p : Nat × Nat} (h : posF rs x = some p) : tabP rs (fun i j => e (g i j)) (keyF x) = some (e (ofPos rs g d x)) := by
  unfold tabP ofPos
  rw [footOf_key]
  dsimp only
  rw [h]
  rfl
theorem pu1 {a : Dv} (h : a.pure) : ∀ x ∈ [a], x.pure := fun x m => by rw [List.mem_singleton.mp m]; exact h
theorem pu2 {a b : Dv} (h : a.pure) (h2 : b.pure) : ∀ x ∈ [a, b], x.pure := fun x m => by
  rcases List.mem_cons.mp m with rfl | m
  · exact h
  · exact pu1 h2 x m
theorem pu3 {a b c : Dv} (h : a.pure) (h2 : b.pure) (h3 : c.pure) : ∀ x ∈ [a, b, c], x.pure := fun x m => by
  rcases List.mem_cons.mp m with rfl | m
  · exact h
  · exact pu2 h2 h3 x m
theorem pu4 {a b c d : Dv} (h : a.pure) (h2 : b.pure) (h3 : c.pure) (h4 : d.pure) : ∀ x ∈ [a, b, c, d], x.pure := fun x m => by
  rcases List.mem_cons.mp m with rfl | m
  · exact h
  · exact pu3 h2 h3 h4 x m
/-- a cloth on its way: its fields so far -/
structure Stg (K : PySem.W.Frag) (C p dx : Addr) (H : Hp) (rs : List Row) (zs : List Zp) (r z : Addr) (H' : Hp) (ws : List (Str × V)) (L : List (Str × (V → Hp → Prop))) (n : Nat) : Prop where
  hp : H' p = some (.ins C dx ws)
  fs : Flds H' ws L
  st : ∀ q ∈ L, Stb q.2
  nn : ∀ m, m ∉ namesC → ws.lookup m = none
  ln : ws.length ≤ n
  rD : Dq K H' (.ref r) (rowsD rs)
  zD : Dp K H' (.ref z) (zipsD zs)
  kp : ∀ b o, H b = some o → b ≠ p → H' b = some o
theorem Stg.step {K : PySem.W.Frag} {C p dx : Addr} {H H1 H2 : Hp} {rs : List Row} {zs : List Zp} {r z : Addr} {ws : List (Str × V)} {L : List (Str × (V → Hp → Prop))} {n : Nat} {f : Str} {v : V} {A : V → Hp → Prop} (g : Stg K C p dx H rs zs r z H1 ws L n) (sm : Same H1 H2) (sa : Stb A) (hf : f ∈ namesC) (nf : f ∉ L.map (·.1)) (a : A v H2) :
    Stg K C p dx H rs zs r z (upd H2 p (.ins C dx (putF f v ws))) (putF f v ws) ((f, A) :: L) (n + 1) := by
  have hp2 := sm _ _ g.hp
  refine ⟨upd_same, (g.fs.same g.st sm).put g.st sa hp2 nf a, fun q m => ?_, fun m hm => ?_, Nat.le_trans (len_putF _ _ _) (Nat.succ_le_succ g.ln), dq_ins hp2 .wr (dq_same sm g.rD), dp_ins hp2 .wr (dp_same sm g.zD), fun b o e nb => ?_⟩
  · rcases List.mem_cons.mp m with rfl | m
    · exact sa
    · exact g.st q m
  · rw [lookup_putF, if_neg (fun z => hm (by rw [z]; exact hf))]
    exact g.nn m hm
  · rw [upd_ne nb]
    exact sm _ _ (g.kp b o e nb)
/-- o.f, by what is told of o -/
theorem ex_fldO {K : PySem.W.Frag} {sl : Sl} {M : Mm} {Φ : Dv → Mm → Prop} {C : Addr} {ta : TE} {f : Str} (cl : Cls K C) (no : NoAttr K C f) (h : ExD K ta sl M fun x M1 => ∃ A y, x = .o A ∧ (∀ v H, A v H → ∃ p dx ws u, v = .ref p ∧ H p = some (.ins C dx ws) ∧ ws.lookup f = some u ∧ RepV K [] [] H u y) ∧ y.pure ∧ Φ y M1) : ExD K (tFld K ta f) sl M Φ := fun φ ψ σ H Q m s p =>
  h φ ψ σ H _ m s fun v x φ1 H1 M1 s1 m1 r1 h1 => by
    obtain ⟨A, y, rfl, au, py, f1⟩ := h1
    obtain ⟨q, dx, ws, u, rfl, e, lk, ry⟩ := au v _ r1.1
    refine ⟨q, C, dx, ws, u, rfl, (of_mask e).2, cl, no, lk, (p.stp s1).here m1 (x := y) ?_ f1⟩
    cases y with
    | d z =>
      have : Dp K (mask ([] ++ []) (mask (φ1 ++ ψ) H1)) u z := ry
      rw [mask_nil] at this
      exact this
    | r k => exact py.elim
    | o B =>
      obtain ⟨b1, b2⟩ := (show B u (mask ([] ++ []) (mask (φ1 ++ ψ) H1)) ∧ _ from ry)
      rw [mask_nil] at b1
      exact ⟨b1, b2⟩
    | p z =>
      have : Dq K (mask ([] ++ []) (mask (φ1 ++ ψ) H1)) u z := ry
      rw [mask_nil] at this
      exact this
section
variable {P : Program} {w : World} {K : PySem.W.Frag} {mg : Str → Option Value} {base : Heap} {aS aD aI C : Addr}
def spCI (K : PySem.W.Frag) (C : Addr) : Sp := fun vs H Q _ => ∃ (p dx r z : Addr) (rs : List Row) (zs : List Zp), vs = [.ref p, .ref r, .ref z] ∧ H p = some (.ins C dx []) ∧ TupRs H r rs ∧ TupZk K H z zs ∧ ClothOk rs zs ∧
  ∀ H', (∀ b o, H b = some o → b ≠ p → H' b = some o) → ClothA K C rs zs (.ref p) H' → Q .non H'
set_option maxHeartbeats 800000 in
theorem ok_ci {f : Addr} {fd : FuncData} {dvs : List V} (T : Bl mg) (G : ClsC K mg C) (F : FunD K "__init__" "Cloth.__init__" (defArgs sCI) (defBody sCI) (defScope sCI) dvs [] f fd) (cChR : Cal P w K mg base CX0 4 "check_rows" ["rows"] spChR) (cChZ : Cal P w K mg base CX0 4 "check_zips" ["zips"] (spChZ K)) (cChF : Cal P w K mg base CX0 1 "check_feet" ["rows", "zips"] (spChF K))
    (cTL : Cal P w K mg base CX0 1 "turn_lengths" ["rows"] (toSp K spTL)) (cBN : Cal P w K mg base CX0 1 "by_number" ["found", "count"] (toSp K (spBN K))) (cNF : Cal P w K mg base CX0 1 "neighbours_of_feet" ["rows"] (toSp K (spNF K))) (cGF : Cal P w K mg base CX0 1 "gaps_of_feet" ["rows"] (toSp K (spGF K))) (cGS : Cal P w K mg base CX0 1 "gaps_of_sliders" ["zips", "gaps_by_foot"] (toSp K spGS)) :
    FnOk P w K mg base CX0 5 f fd ["self", "rows", "zips"] (spCI K C) := by
  refine F.ok scCI (fun vs H Q E h => ?_) (fun cdv A outer s H vs Q E hr h => ?_)
  · obtain ⟨p, dx, r, z, rs, zs, rfl, _⟩ := h
    rfl
  · obtain ⟨p, dx, r, z, rs, zs, rfl, hp, hrs, hzs, c, q⟩ := h
    suffices goal : ∃ t, PSs (cxOf CX0 P w K mg base ["self", "rows", "zips", "index", "row", "foot", "direction", "minimum"] "Cloth.__init__" (defScope sCI) f cdv A outer s H E).nox (defBody sCI) t ∧ t { nx := fun _ H' => Q .non H', rt := Q } (start ["self", "rows", "zips", "index", "row", "foot", "direction", "minimum"] [.ref p, .ref r, .ref z]) H by
      obtain ⟨t, h1, h2⟩ := goal
      exact ⟨t, h1.nox, h2⟩
    refine ⟨_, (pss_cons (ps_expr (pe_cal cChR (hr.mono (by decide)) pass0 (by rfl) (pa_cons (pv 1) pa_nil)))
      (pss_cons (ps_expr (pe_cal cChZ (hr.mono (by decide)) pass0 (by rfl) (pa_cons (pv 2) pa_nil)))
      (pss_cons (ps_expr (pe_cal cChF (hr.mono (by decide)) pass0 (by rfl) (pa_cons (pv 1) (pa_cons (pv 2) pa_nil))))
      (pss_cons (ps_fld (pv 0) (pv 1) rfl)
      (pss_cons (ps_fld (pv 0) (pv 2) rfl)
      (pss_cons (ps_fld (pv 0) (pe_dc2 (own := [("index", 3), ("row", 4), ("foot", 5)]) (vs1 := [5]) (hu_of hr) rfl scCI.nd (blkOk_by (own := [("index", 3), ("row", 4), ("foot", 5)]) (N := ["self", "rows", "zips", "index", "row", "foot", "direction", "minimum"]) (sc := defScope sCI) (by decide +kernel)) (by decide) (pi_enumT (by rfl) T.enumerate_ (pa_cons (pv 1) pa_nil)) (fun _ _ _ _ _ => pg_tupK (K := K) (n := 2) rfl rfl (pgs_cons (pg_name (i := 3) scCI.nd rfl (Or.inl rfl)) (pgs_cons (pg_name (i := 4) scCI.nd rfl (Or.inl rfl)) pgs_nil))) (fun _ _ _ _ _ => pi_tupK (K := K) rfl (pe_ix (ix_tupK (K := K) rfl) (pv 4) pe_int (fun _ _ => rfl))) (fun _ _ _ _ _ => pg_name (i := 5) scCI.nd rfl (Or.inl rfl)) (fun _ _ _ _ _ => pv 5) (fun _ _ _ _ _ => pv 3)) rfl)
      (pss_cons (ps_fld (pv 0) (pe_callTy call_tuple_of (by rfl) T.tuple_ (by decide +kernel) (pa_cons (pe_lc (own := [("direction", 6), ("minimum", 7)]) (by rfl) scCI.nd (pi_tup (pv 2)) (blkOk_by (own := [("direction", 6), ("minimum", 7)]) (N := ["self", "rows", "zips", "index", "row", "foot", "direction", "minimum"]) (sc := defScope sCI) (by decide +kernel)) (fun _ _ _ _ _ => (pg_tupK (K := K) (n := 2) rfl rfl (pgs_cons (pg_name (i := 6) scCI.nd rfl (Or.inl rfl)) (pgs_cons (pg_name (i := 7) scCI.nd rfl (Or.inl rfl)) pgs_nil)))) (fun _ _ _ _ _ => pts_nil) (fun _ _ _ _ _ => (pv 7))) pa_nil)) rfl)
      (pss_cons (ps_fld (pv 0) (pe_callTy call_tuple_of (by rfl) T.tuple_ (by decide +kernel) (pa_cons (pe_lc (own := [("direction", 6), ("minimum", 7)]) (by rfl) scCI.nd (pi_tup (pv 2)) (blkOk_by (own := [("direction", 6), ("minimum", 7)]) (N := ["self", "rows", "zips", "index", "row", "foot", "direction", "minimum"]) (sc := defScope sCI) (by decide +kernel)) (fun _ _ _ _ _ => (pg_tupK (K := K) (n := 2) rfl rfl (pgs_cons (pg_name (i := 6) scCI.nd rfl (Or.inl rfl)) (pgs_cons (pg_name (i := 7) scCI.nd rfl (Or.inl rfl)) pgs_nil)))) (fun _ _ _ _ _ => pts_nil) (fun _ _ _ _ _ => (pe_ifExp (pt_cmpR op_eq (pv 6) pe_str (nomark _)) (pe_un un_neg pe_int) pe_int))) pa_nil)) rfl)
      (pss_cons (ps_fld (pv 0) (pe_cal cTL (hr.mono (by decide)) pass0 (by rfl) (pa_cons (pv 1) pa_nil)) rfl)
      (pss_cons (ps_fld (pv 0) (pe_cal cBN (hr.mono (by decide)) pass0 (by rfl) (pa_cons (pe_cal cNF (hr.mono (by decide)) pass0 (by rfl) (pa_cons (pv 1) pa_nil)) (pa_cons (pe_callB call_len_seq (by rfl) T.len_ PySem.boot_len (pa_cons (pv 2) pa_nil)) pa_nil))) rfl)
      (pss_cons (ps_fld (pv 0) (pe_cal cBN (hr.mono (by decide)) pass0 (by rfl) (pa_cons (pe_cal cGF (hr.mono (by decide)) pass0 (by rfl) (pa_cons (pv 1) pa_nil)) (pa_cons (pe_callB call_len_seq (by rfl) T.len_ PySem.boot_len (pa_cons (pv 2) pa_nil)) pa_nil))) rfl)
      (pss_one (ps_fld (pv 0) (pe_cal cGS (hr.mono (by decide)) pass0 (by rfl) (pa_cons (pv 2) (pa_cons (pe_fld (pv 0) rfl) pa_nil))) rfl))))))))))))), ?_⟩
    refine ⟨.ref r, rfl, r, rs, zs, rfl, hrs, c, fun H1 sm1 => ?_⟩
    refine ⟨.ref z, rfl, z, zs, rfl, hzs.same sm1, c.zips, c.mins, fun H2 sm2 => ?_⟩
    have sm02 := sm1.trans sm2
    refine ⟨.ref r, rfl, .ref z, rfl, r, z, rs, zs, rfl, hrs.tp (.of sm02), hzs.same sm02, c, fun H3 sm3 => ?_⟩
    have sm := sm02.trans sm3
    refine ⟨.ref r, rfl, .ref p, rfl, p, C, dx, [], rfl, sm _ _ hp, G.cl, (G.no _ (by decide +kernel)), by decide, ?_⟩
    refine ⟨.ref z, rfl, .ref p, rfl, p, C, dx, _, rfl, upd_same, G.cl, (G.no _ (by decide +kernel)), Nat.lt_of_le_of_lt (len_putF _ _ _) (by decide), ?_⟩
    obtain ⟨H4, eH4⟩ : ∃ H4, upd (upd H3 p (.ins C dx (putF "row_tuples" (.ref r) []))) p (.ins C dx (putF "zip_tuples" (.ref z) (putF "row_tuples" (.ref r) []))) = H4 := ⟨_, rfl⟩
    have ep4 : H4 p = some (.ins C dx (putF "zip_tuples" (.ref z) (putF "row_tuples" (.ref r) []))) := by rw [← eH4]; exact upd_same
    have k4 : ∀ b o, H b = some o → b ≠ p → H4 b = some o := fun b o e n => by rw [← eH4, upd_ne n, upd_ne n]; exact sm _ _ e
    have tp4 : Tp H H4 := ⟨fun b u e ok => k4 b _ e (ne_of e hp (by intro y; subst y; exact ok))⟩
    rw [eH4]
    obtain ⟨ts, er, pr⟩ := hrs.tp tp4
    have sq : SqT K H4 r (ts.map V.ref) := .inl (.inl er)
    have ndF : (rs.flatMap (·.feet)).Nodup := c.feet.nodup_iff.mpr (nodup_allFeet _)
    have tsl : ts.length = rs.length := pr.length
    -- the dict
    refine ⟨.ref r, rfl, r, _, rfl, sq, fun D nD => ?_⟩
    refine ⟨fun i m H5 => i + m = rs.length ∧ Same H4 H5 ∧ ∃ kvs, H5 D = some (.dT kvs) ∧ Held rs i 0 kvs, ⟨rs.length, by omega, same_upd nD, [], upd_same, ⟨by simp, fun k => by rw [eT_zero]; rfl⟩⟩, ?_⟩
    rintro i m H5 ⟨sum, sm5, kvs, eD, held⟩
    cases m with
    | zero =>
      refine .inl ⟨⟨_, same_seqT sm5 sq, by rw [List.length_map, tsl]; omega⟩, ?_⟩
      have ei : i = rs.length := by omega
      subst ei
      have hws : ((putF "zip_tuples" (.ref z) (putF "row_tuples" (.ref r) [])) : List (Str × V)).length ≤ 2 := Nat.le_trans (len_putF _ _ _) (Nat.succ_le_succ (len_putF _ _ _))
      refine ⟨.ref p, rfl, p, C, dx, _, rfl, sm5 _ _ ep4, G.cl, (G.no _ (by decide +kernel)), by omega, ?_⟩
      have ep5 := sm5 _ _ ep4
      have tp5 : Tp H H5 := tp4.trans (.of sm5)
      have g0 : Stg K C p dx H rs zs r z H5 (putF "zip_tuples" (.ref z) (putF "row_tuples" (.ref r) [])) [("zip_tuples", fun u H => Dp K H u (zipsD zs)), ("row_tuples", fun u H => Dq K H u (rowsD rs))] 2 := by
        have zD : Dp K H5 (.ref z) (zipsD zs) := dp_same sm5 (dp_zips (hzs.ins hp k4))
        have rD : Dq K H5 (.ref r) (rowsD rs) := dq_rows (hrs.tp tp5)
        refine ⟨ep5, ?_, ?_, fun m hm => ?_, hws, rD, zD, fun b o e nb => sm5 _ _ (k4 b o e nb)⟩
        · intro q m
          simp only [List.mem_cons, List.not_mem_nil, or_false] at m
          rcases m with rfl | rfl
          · exact ⟨.ref z, by rw [lookup_putF, if_pos rfl], zD⟩
          · exact ⟨.ref r, by rw [lookup_putF, if_neg (show ¬ (("row_tuples" : Str) = "zip_tuples") by decide +kernel), lookup_putF, if_pos rfl], rD⟩
        · intro q m
          simp only [List.mem_cons, List.not_mem_nil, or_false] at m
          rcases m with rfl | rfl
          · exact stb_dp _
          · exact stb_dq _
        · rw [lookup_putF, if_neg (fun z => hm (by rw [z]; decide +kernel)), lookup_putF, if_neg (fun z => hm (by rw [z]; decide +kernel))]
          rfl
      have g1 := g0.step (f := "row_by_foot") (.refl H5) (stb_dct (K := K) (rowT rs)) (by decide +kernel) (show ("row_by_foot" : Str) ∉ (["zip_tuples", "row_tuples"] : List Str) by decide +kernel) (held.dct eD)
      generalize upd H5 p (.ins C dx (putF "row_by_foot" (.ref D) (putF "zip_tuples" (.ref z) (putF "row_tuples" (.ref r) [])))) = H6 at g1 ⊢
      have reps : ∀ {H' : Hp}, Dq K H' (.ref r) (rowsD rs) → Dp K H' (.ref z) (zipsD zs) → RepS K [] [] H' (L2.start ["self", "rows", "zips", "index", "row", "foot", "direction", "minimum"] [.ref p, .ref r, .ref z]) [none, some (.p (rowsD rs)), some (.d (zipsD zs)), none, none, none, none, none] :=
        fun {H'} a b => repS_skip (repS_val (rep_p0 a) (repS_val (rep_d0 b) (repS_skip (repS_skip (repS_skip (repS_skip (repS_skip repS_nil)))))))
      have zl : zs.length ≤ 8 := c.zips
      have rl : rs.length ≤ 6 := c.few
      dsimp only [cxOf, Cx.nox, Cx.wish]
      -- minimums
      refine fldDs (mg := mg) (f := "minimums") (y := .d (minsD zs)) G.no G.cl (by decide +kernel) (reps g1.rD g1.zD) rfl g1.hp (by have := g1.ln; omega) ?_ (fun v7 H7 sm7 r7 => ?_)
      · walk_at "z"
        refine ex_lcE (by walk_at "gm") (by walk_at "gw") ?_
        walk_at "z"
        refine ⟨zs.map fun z => .int z.2, by simp, by simp; omega, trivial, fun i x hx => ?_, ?_⟩
        · obtain ⟨zi, hz, rfl⟩ := map2_at hx
          walk_at "z"
          exact ⟨_, by rw [List.getElem?_map, hz]; rfl, rfl, rfl⟩
        · walk_at "z"
          exact rfl
      have g2 := g1.step (f := "minimums") sm7 (stb_dp (K := K) (minsD zs)) (by decide +kernel) (show ("minimums" : Str) ∉ (["row_by_foot", "zip_tuples", "row_tuples"] : List Str) by decide +kernel) (of_d0 r7)
      -- facings
      refine fldDs (mg := mg) (f := "facings") (y := .d (facsD zs)) G.no G.cl (by decide +kernel) (reps g2.rD g2.zD) rfl g2.hp (by have := g2.ln; omega) ?_ (fun v8 H8 sm8 r8 => ?_)
      · walk_at "z"
        refine ex_lcE (by walk_at "gm") (by walk_at "gw") ?_
        walk_at "z"
        refine ⟨zs.map fun z => .int (facI z), by simp, by simp; omega, trivial, fun i x hx => ?_, ?_⟩
        · obtain ⟨zi, hz, rfl⟩ := map2_at hx
          walk_at "z"
          rw [dir_rev]
          cases ez : zi.1 with
          | true =>
            refine iteT ?_
            walk_at "z"
            exact ⟨_, by rw [List.getElem?_map, hz]; rfl, by show _ = Dv.d (.int (facI zi)); unfold facI; rw [ez]; rfl, rfl⟩
          | false =>
            refine iteF ?_
            walk_at "z"
            exact ⟨_, by rw [List.getElem?_map, hz]; rfl, by show _ = Dv.d (.int (facI zi)); unfold facI; rw [ez]; rfl, rfl⟩
        · walk_at "z"
          exact rfl
      have g3 := g2.step (f := "facings") sm8 (stb_dp (K := K) (facsD zs)) (by decide +kernel) (show ("facings" : Str) ∉ (["minimums", "row_by_foot", "zip_tuples", "row_tuples"] : List Str) by decide +kernel) (of_d0 r8)
      -- turns
      refine fldDs (mg := mg) (f := "turns") (y := .d (turnsD rs)) G.no G.cl (by decide +kernel) (reps g3.rD g3.zD) rfl g3.hp (by have := g3.ln; omega) ?_ (fun v9 H9 sm9 r9 => ?_)
      · walk_at "z"
        · exact pu1 trivial
        refine ⟨_, ⟨rs, rfl, by omega, rfl⟩, rfl, trivial, rfl, rfl⟩
      have g4 := g3.step (f := "turns") sm9 (stb_dp (K := K) (turnsD rs)) (by decide +kernel) (show ("turns" : Str) ∉ (["facings", "minimums", "row_by_foot", "zip_tuples", "row_tuples"] : List Str) by decide +kernel) (of_d0 r9)
      -- neighbours
      refine fldDs (mg := mg) (f := "neighbours") (y := .d (nbsD rs zs.length)) G.no G.cl (by decide +kernel) (reps g4.rD g4.zD) rfl g4.hp (by have := g4.ln; omega) ?_ (fun v10 H10 sm10 r10 => ?_)
      · refine ex_call ?_
        refine ax_cons ?_
        refine ex_call ?_
        refine ax_cons ?_
        refine ex_var rfl ?_
        refine ax_nil ?_
        refine ⟨pu1 trivial, rfl, _, ⟨rs, rfl, c.rw, rfl⟩, rfl, trivial, ?_⟩
        walk_at "z"
        · exact pu2 trivial trivial
        rw [List.length_map]
        refine ⟨_, ⟨_, nbF rs, zs.length, rfl, by omega, fun i hi => ⟨?_, ?_⟩, rfl⟩, rfl, trivial, rfl, rfl⟩
        · obtain ⟨p0, hp0⟩ := c.placed hi (s := 0) (.inl rfl)
          exact tabP_of (e := id) (d := PyData.none) hp0
        · obtain ⟨p0, hp0⟩ := c.placed hi (s := 1) (.inr rfl)
          exact tabP_of (e := id) (d := PyData.none) hp0
      have g5 := g4.step (f := "neighbours") sm10 (stb_dp (K := K) (nbsD rs zs.length)) (by decide +kernel) (show ("neighbours" : Str) ∉ (["turns", "facings", "minimums", "row_by_foot", "zip_tuples", "row_tuples"] : List Str) by decide +kernel) (of_d0 r10)
      -- gaps_by_foot
      refine fldDs (mg := mg) (f := "gaps_by_foot") (y := .d (gfD rs zs.length)) G.no G.cl (by decide +kernel) (reps g5.rD g5.zD) rfl g5.hp (by have := g5.ln; omega) ?_ (fun v11 H11 sm11 r11 => ?_)
      · refine ex_call ?_
        refine ax_cons ?_
        refine ex_call ?_
        refine ax_cons ?_
        refine ex_var rfl ?_
        refine ax_nil ?_
        refine ⟨pu1 trivial, rfl, _, ⟨rs, rfl, c.rw, rfl⟩, rfl, trivial, ?_⟩
        walk_at "z"
        · exact pu2 trivial trivial
        rw [List.length_map]
        refine ⟨_, ⟨_, fun x => prI (gapF rs x), zs.length, rfl, by omega, fun i hi => ⟨?_, ?_⟩, rfl⟩, rfl, trivial, rfl, rfl⟩
        · obtain ⟨p0, hp0⟩ := c.placed hi (s := 0) (.inl rfl)
          exact tabP_of (e := prI) (d := ((0, 0) : Int × Int)) hp0
        · obtain ⟨p0, hp0⟩ := c.placed hi (s := 1) (.inr rfl)
          exact tabP_of (e := prI) (d := ((0, 0) : Int × Int)) hp0
      have g6 := g5.step (f := "gaps_by_foot") sm11 (stb_dp (K := K) (gfD rs zs.length)) (by decide +kernel) (show ("gaps_by_foot" : Str) ∉ (["neighbours", "turns", "facings", "minimums", "row_by_foot", "zip_tuples", "row_tuples"] : List Str) by decide +kernel) (of_d0 r11)
      -- gaps_by_slider
      refine fldD (mg := mg) (f := "gaps_by_slider") (y := .d (gslD rs zs)) (sl := [some (.o fun v H => ∃ p dx ws u, v = .ref p ∧ H p = some (.ins C dx ws) ∧ ws.lookup ("gaps_by_foot" : Str) = some u ∧ RepV K [] [] H u (.d (gfD rs zs.length))), some (.p (rowsD rs)), some (.d (zipsD zs)), none, none, none, none, none]) G.no G.cl (by decide +kernel) ?_ rfl g6.hp (by have := g6.ln; omega) ?_ (fun v12 H12 sm12 r12 => ?_)
      · refine repS_val (rep_o0 (fun H1 H2 s h => ?_) ?_) (repS_val (rep_p0 g6.rD) (repS_val (rep_d0 g6.zD) (repS_skip (repS_skip (repS_skip (repS_skip (repS_skip repS_nil)))))))
        · obtain ⟨p', dx', ws', u', e1, e2, e3, e4⟩ := h
          exact ⟨p', dx', ws', u', e1, s _ _ e2, e3, rep_d0 (dp_same s (of_d0 e4))⟩
        · obtain ⟨u', e1, e2⟩ := g6.fs ("gaps_by_foot", fun u H => Dp K H u (gfD rs zs.length)) (List.mem_cons_self ..)
          exact ⟨p, dx, _, u', rfl, g6.hp, e1, rep_d0 e2⟩
      · refine ex_call ?_
        refine ax_cons ?_
        walk_at "z"
        refine ex_fldO G.cl (G.no _ (by decide +kernel)) ?_
        refine ex_var rfl ?_
        refine ⟨_, _, rfl, fun v H h => h, trivial, ?_⟩
        walk_at "z"
        · exact pu2 trivial trivial
        refine ⟨_, ⟨gapF rs, zs, rfl, by omega, rfl⟩, rfl, trivial, rfl, rfl⟩
      have g7 := g6.step (f := "gaps_by_slider") sm12 (stb_dp (K := K) (gslD rs zs)) (by decide +kernel) (show ("gaps_by_slider" : Str) ∉ (["gaps_by_foot", "neighbours", "turns", "facings", "minimums", "row_by_foot", "zip_tuples", "row_tuples"] : List Str) by decide +kernel) (of_d0 r12)
      exact q _ g7.kp ⟨p, dx, _, rfl, g7.hp, g7.fs, g7.nn⟩
    | succ m =>
      have hi : i < ts.length := by omega
      have hir : i < rs.length := by omega
      refine .inr ⟨⟨_, _, same_seqT sm5 sq, List.getElem?_eq_getElem (by rw [List.length_map]; exact hi)⟩, fun H6 => Same H4 H6 ∧ ∃ kvs, H6 D = some (.dT kvs) ∧ Held rs (i + 1) 0 kvs, fun H' z => ⟨m, Nat.lt_succ_self m, by omega, z⟩, ?_⟩
      rintro x H6 ⟨T0, y, rfl, nT0, rfl, aty⟩
      have ey : y = .ref ts[i] := Option.some.inj ((aty _ (same_seqT sm5 sq)).symm.trans (by rw [List.getElem?_map, List.getElem?_eq_getElem hi]; rfl))
      subst ey
      obtain ⟨ro, hro, htr⟩ := paired_get pr (List.getElem?_eq_getElem hi)
      have sm6 : Same H4 (upd H5 T0 (.tup [.int (i : Nat), .ref ts[i]])) := sm5.trans (same_upd nT0)
      obtain ⟨fo, etr, us, euf, puf⟩ := htr.tp (.of sm6)
      have eD6 : (upd H5 T0 (.tup [.int (i : Nat), .ref ts[i]])) D = some (.dT kvs) := same_upd nT0 _ _ eD
      refine ⟨T0, _, rfl, .inl (.inl upd_same), rfl, .int (i : Nat), [.ref ts[i]], rfl, .ref ts[i], [], rfl, rfl, rfl, ?_⟩
      generalize upd H5 T0 (.tup [.int (i : Nat), .ref ts[i]]) = H6 at sm6 etr euf puf eD6 ⊢
      have uq : SqT K H6 fo (us.map V.ref) := euf.sq
      have usl : us.length = ro.feet.length := puf.length
      have fl16 := c.flen ro (List.mem_of_getElem? hro)
      refine ⟨.ref ts[i], rfl, ts[i], _, 2, .ref fo, rfl, rfl, .inl (.inl etr), atI_nat (j := 2) rfl, fo, rfl, ⟨_, uq⟩, ?_⟩
      refine ⟨fun j k H7 => j + k = us.length ∧ Same H4 H7 ∧ Tp H6 H7 ∧ ∃ kvs, H7 D = some (.dT kvs) ∧ Held rs i j kvs, ⟨us.length, by omega, sm6, .refl _, kvs, eD6, held⟩, ?_⟩
      rintro j k H7 ⟨sum7, sm7, tp7, kvs7, eD7, held7⟩
      have uq7 : SqT K H7 fo (us.map V.ref) := (euf.tp tp7).sq
      cases k with
      | zero =>
        have ej : j = ro.feet.length := by omega
        subst ej
        exact .inl ⟨⟨_, uq7, by rw [List.length_map, usl]; omega⟩, sm7, kvs7, eD7, held7.next hro fl16⟩
      | succ k =>
        have hj : j < us.length := by omega
        have aj : (us.map V.ref)[j]? = some (.ref us[j]) := by rw [List.getElem?_map, List.getElem?_eq_getElem hj]; rfl
        refine .inr ⟨⟨_, _, uq7, aj⟩, fun H8 => Same H4 H8 ∧ Tp H6 H8 ∧ ∃ kvs, H8 D = some (.dT kvs) ∧ Held rs i (j + 1) kvs, fun H' z => ⟨k, Nat.lt_succ_self k, by omega, z⟩, ?_⟩
        rintro x H8 ⟨rfl, atx⟩
        have ex : x = .ref us[j] := Option.some.inj ((atx _ uq7).symm.trans aj)
        subst ex
        obtain ⟨ft, hft, tf⟩ := paired_get puf (List.getElem?_eq_getElem hj)
        have tf8 : H8 us[j] = some (.tup ((keyF ft).map kV)) := tp7 _ _ tf
        refine ⟨rfl, .ref us[j], rfl, .int (i : Nat), rfl, kvs7, keyF ft, us[j], rfl, tf8, eD7, ?_, ?_, ?_, _, upd_same, held7.put ndF hro hft⟩
        · have := held7.1
          have := c.few
          exact small1000 (by omega)
        · intro b o e
          rw [upd_ne (ne_of_none e nD)]
          exact sm7 _ _ e
        · refine ⟨fun b u e ok => ?_⟩
          rw [upd_ne (ne_of (tp7.ok _ _ e ok) eD7 (by intro y; subst y; exact ok))]
          exact tp7.ok _ _ e ok
end
end Zs
namespace Zs
open PySem PySem.Spec PyProof.Rows L2
local macro_rules | `(tactic| walk_at "z1") => `(tactic| first
  | (with_reducible refine' st_seq ?_) | (with_reducible refine' st_asg ?_) | (with_reducible refine' st_ret ?_) | (with_reducible refine' st_drop ?_) | (with_reducible refine' st_if ?_) | (with_reducible refine' st_next ?_) | (with_reducible refine' st_retN ?_) | (with_reducible refine' st_par ?_) | (with_reducible refine' st_break ?_) | (with_reducible refine' st_cont ?_)
  | ((with_reducible refine' st_augI ?h1 ?_); (case h1 => rfl))
  | (with_reducible refine' gd_name ?_) | ((with_reducible refine' gd_tup ?h1 ?_); (case h1 => rfl)) | ((with_reducible refine' gd_tupP ?h1 ?_); (case h1 => rfl)) | (with_reducible refine' gs_consP ?_) | (with_reducible refine' gs_nilP ?_) | (with_reducible refine' gs_consM ?_) | (with_reducible refine' gs_nilM ?_) | (with_reducible refine' gs_cons ?_) | (with_reducible refine' gs_nil ?_)
  | ((with_reducible refine' ex_varP ?h1 ?_); (case h1 => rfl)) | ((with_reducible refine' ex_var ?h1 ?_); (case h1 => rfl)) | (with_reducible refine' ex_int ?_) | (with_reducible refine' ex_bl ?_) | (with_reducible refine' ex_str ?_) | (with_reducible refine' ex_non ?_) | (with_reducible refine' ex_ty ?_)
  | (with_reducible refine' ex_op ?_) | (with_reducible refine' ex_un ?_) | (with_reducible refine' ex_cb ?_) | (with_reducible refine' ex_tupD ?_) | (with_reducible refine' ex_call ?_) | (with_reducible refine' ex_if ?_) | (with_reducible refine' ex_andV ?_) | (with_reducible refine' ex_orV ?_) | (with_reducible refine' ex_notV ?_) | (with_reducible refine' ex_isN ?_) | (with_reducible refine' ex_notN ?_) | (with_reducible refine' ex_chain ?_) | (with_reducible refine' ex_sl ?_) | (with_reducible refine' ex_bm ?_) | ((with_reducible refine' md_append ?h1 ?_); (case h1 => rfl))
  | (with_reducible refine' ad_cons ?_) | (with_reducible refine' ad_nil ?_) | (with_reducible refine' ax_cons ?_) | (with_reducible refine' ax_nil ?_) | (with_reducible refine' to_none ?_) | (with_reducible refine' to_some ?_)
  | (with_reducible refine' tt_test ?_) | (with_reducible refine' tt_B ?_) | (with_reducible refine' tt_and ?_) | (with_reducible refine' tt_or ?_) | (with_reducible refine' tt_not ?_) | (with_reducible refine' tt_yes ?_) | (with_reducible refine' tt_truT ?_)
  | (with_reducible refine' od_add ?_) | (with_reducible refine' od_sub ?_) | (with_reducible refine' od_lt ?_) | (with_reducible refine' od_le ?_) | (with_reducible refine' od_gt ?_) | (with_reducible refine' od_ge ?_) | (with_reducible refine' od_eqI ?_) | (with_reducible refine' od_neI ?_) | (with_reducible refine' od_eqS ?_) | (with_reducible refine' od_neS ?_) | (with_reducible refine' ud_neg ?_)
  | (with_reducible refine' od_isX ?_) | (with_reducible refine' od_notX ?_) | (with_reducible refine' cd_isiInt ?_) | (with_reducible refine' cd_isiTup ?_) | (with_reducible refine' cd_isiStr ?_) | (with_reducible refine' cd_isiLst ?_)
  | (with_reducible refine' cd_lenT ?_) | (with_reducible refine' cd_tupT ?_) | (with_reducible refine' cd_tupD ?_) | (with_reducible refine' cd_lenD ?_) | (with_reducible refine' cd_all ?_) | (with_reducible refine' cd_any ?_) | (with_reducible refine' cd_max2 ?_) | (with_reducible refine' cd_min2 ?_) | (with_reducible refine' cd_abs ?_) | (with_reducible refine' sd_tupA ?_)
  | ((with_reducible refine' it_tupP ?h1 ?_); (case h1 => rfl)) | ((with_reducible refine' it_enumP ?h1 ?_); (case h1 => rfl)) | (with_reducible refine' it_enumT ?_) | (with_reducible refine' ex_dnewT ?_) | (with_reducible refine' ex_dgetP ?_) | (with_reducible refine' it_tup ?_) | (with_reducible refine' it_rng1 ?_) | (with_reducible refine' it_rng2 ?_)
  | (refine' ⟨_, rfl, ?_⟩) | (refine' ⟨rfl, ?_⟩))
local macro_rules | `(tactic| walk_at "z") => `(tactic| repeat (walk_at "z1"))
local macro_rules | `(tactic| walk_at "gm") => `(tactic| (repeat (first | exact gm_name | exact gm_nil | refine gm_tup ?_ | refine gm_cons ?_ ?_)))
local macro_rules | `(tactic| walk_at "gw") => `(tactic| (repeat (first | exact gw_nil | exact gw_name (by simp) | refine gw_tup ?_ | (refine gw_cons (by walk_at "gm") (by walk_at "gm") ?_ ?_))))
/-! ### placements -/
abbrev P3 := Int × Int × Int
def TupPs (K : PySem.W.Frag) (H : Hp) (v : Addr) (ps : List P3) : Prop := ∃ ts : List Addr, SqT K H v (ts.map V.ref) ∧ Paired (fun t (p : P3) => SqT K H t [.int p.1, .int p.2.1, .int p.2.2]) ts ps
theorem TupPs.same {K : PySem.W.Frag} {H H' : Hp} {v : Addr} {ps : List P3} (h : TupPs K H v ps) (s : Same H H') : TupPs K H' v ps := by
  obtain ⟨ts, e, r⟩ := h
  exact ⟨ts, same_seqT s e, Paired.mono (fun _ _ z => same_seqT s z) r⟩
def at3 (ps : List P3) (i : Int) : P3 := ps.getD i.toNat (0, 0, 0)
def lowAt (ps : List P3) (x : Foot) : Int := if x.2 = 0 then (at3 ps x.1).1 else (at3 ps x.1).2.1
def manyAt (ps : List P3) (x : Foot) : Int := (at3 ps x.1).2.2
def highAt (ps : List P3) (x : Foot) : Int := lowAt ps x + manyAt ps x
def FootIn (n : Nat) (x : Foot) : Prop := (0 ≤ x.1 ∧ x.1 < n) ∧ (x.2 = 0 ∨ x.2 = 1)
theorem look {K : PySem.W.Frag} {H : Hp} {v : Addr} {ps : List P3} {x : Foot} (h : TupPs K H v ps) (hx : FootIn ps.length x) : ∃ (xs : List V) (t : Addr) (ys : List V), SqT K H v xs ∧ atI xs x.1 = some (.ref t) ∧ SqT K H t ys ∧ atI ys x.2 = some (.int (lowAt ps x)) ∧ atI ys 2 = some (.int (manyAt ps x)) := by
  obtain ⟨ts, e, r⟩ := h
  obtain ⟨⟨h0, h1⟩, hs⟩ := hx
  obtain ⟨j, hj⟩ := Int.eq_ofNat_of_zero_le h0
  have hl : j < ps.length := by omega
  have hl2 : j < ts.length := by rw [r.length]; exact hl
  obtain ⟨p, hp, sq⟩ := paired_get r (List.getElem?_eq_getElem hl2)
  have e3 : at3 ps x.1 = p := by
    unfold at3
    rw [hj, Int.toNat_natCast, List.getD_eq_getElem?_getD, hp]
    rfl
  refine ⟨_, ts[j], _, e, ?_, sq, ?_, ?_⟩
  · rw [hj]
    exact atI_nat (by rw [List.getElem?_map, List.getElem?_eq_getElem hl2]; rfl)
  · unfold lowAt
    rw [e3]
    rcases hs with e | e
    · rw [e, if_pos rfl]
      exact atI_nat (j := 0) rfl
    · rw [e, if_neg (by decide)]
      exact atI_nat (j := 1) rfl
  · unfold manyAt
    rw [e3]
    exact atI_nat (j := 2) rfl
/-! ### gaps -/
def lowsL (r : Row) (ps : List P3) : List Int := r.feet.map (lowAt ps)
def highsL (r : Row) (ps : List P3) : List Int := r.feet.map (highAt ps)
def endsL (r : Row) (ps : List P3) : List Int := if r.ring then (lowsL r ps).drop 1 ++ [(lowsL r ps).headD 0 + r.teeth] else lowsL r ps ++ [r.teeth]
def startsL (r : Row) (ps : List P3) : List Int := if r.ring then highsL r ps else 0 :: highsL r ps
def gapsL (r : Row) (ps : List P3) : List Int := if r.ring && r.feet.isEmpty then [r.teeth] else List.zipWith (fun s e => e - s) (startsL r ps) (endsL r ps)
theorem cut_one (xs : List V) : cutV xs (some 1) none = xs.drop 1 := by
  unfold cutV
  rw [HT.sIx_none, show HT.sIx xs.length 0 (some 1) = min 1 xs.length from HT.sIx_nat xs.length 0 1]
  cases xs with
  | nil => rfl
  | cons x r =>
    have e : min 1 (x :: r).length = 1 := by rw [List.length_cons]; omega
    rw [e]
    exact List.take_of_length_le (by rw [List.length_drop]; omega)
theorem ends_len (r : Row) (ps : List P3) (h : ¬ (r.ring = true ∧ r.feet = [])) : (endsL r ps).length = (startsL r ps).length := by
  unfold endsL startsL lowsL highsL
  cases e : r.ring with
  | true =>
    rw [if_pos rfl, if_pos rfl, List.length_append, List.length_drop, List.length_map, List.length_map]
    have : 0 < r.feet.length := List.length_pos_iff.mpr fun z => h ⟨e, z⟩
    show r.feet.length - 1 + 1 = r.feet.length
    omega
  | false =>
    rw [if_neg (by decide), if_neg (by decide)]
    simp
/-! ### fits_row -/
def fitsB (r : Row) (ps : List P3) : Bool := (if r.ring && !r.feet.isEmpty then decide (0 ≤ (lowsL r ps).headD 0) && decide ((lowsL r ps).headD 0 < r.teeth) else true) && (gapsL r ps).all fun g => decide (g ≥ 0)
abbrev p3D (p : P3) : PyData := .tuple [.int p.1, .int p.2.1, .int p.2.2]
def tripD : PyData → Option P3
  | .tuple [.int a, .int b, .int c] => some (a, b, c)
  | _ => none
def tripsL : List PyData → Option (List P3)
  | [] => some []
  | d :: ds => match tripD d, tripsL ds with
    | some p, some ps => some (p :: ps)
    | _, _ => none
def tripsD : PyData → Option (List P3)
  | .tuple ds => tripsL ds
  | _ => none
def isStateB (rs : List Row) (zs : List Zp) (d : PyData) : Bool := match tripsD d with
  | some ps => decide (ps.length = zs.length) && ((List.zipWith (fun (p : P3) (z : Zp) => decide (z.2 ≤ p.2.2)) ps zs).all id && rs.all fun r => fitsB r ps)
  | none => false
theorem trip_of (d : PyData) : (∃ p, tripD d = some p ∧ d = p3D p ∧ intTup 3 d = true) ∨ (tripD d = none ∧ intTup 3 d = false) := by
  unfold tripD
  split
  · rename_i a b c
    exact .inl ⟨(a, b, c), rfl, rfl, rfl⟩
  · rename_i h
    refine .inr ⟨rfl, ?_⟩
    cases d <;> first | rfl | skip
    rename_i ds
    show (decide ((ds.length : Int) = 3) && ds.all isIntD) = false
    match ds, h with
    | [], _ => rfl
    | [_], _ => rfl
    | [_, _], _ => rfl
    | [x, y, z], h =>
      cases x <;> cases y <;> cases z <;> first | rfl | (exact absurd rfl (h _ _ _))
    | _ :: _ :: _ :: _ :: _, _ => simp; omega
theorem trips_of : ∀ ds : List PyData, (∃ ps, tripsL ds = some ps ∧ ds = ps.map p3D ∧ ds.all (intTup 3) = true) ∨ (tripsL ds = none ∧ ds.all (intTup 3) = false)
  | [] => .inl ⟨[], rfl, rfl, rfl⟩
  | d :: ds => by
    rcases trip_of d with ⟨p, e1, e2, e3⟩ | ⟨e1, e2⟩
    · rcases trips_of ds with ⟨ps, f1, f2, f3⟩ | ⟨f1, f2⟩
      · refine .inl ⟨p :: ps, ?_, ?_, ?_⟩
        · show (match tripD d, tripsL ds with | some p, some ps => some (p :: ps) | _, _ => none) = _
          rw [e1, f1]
        · rw [List.map_cons, ← e2, ← f2]
        · rw [List.all_cons, e3, f3]; rfl
      · refine .inr ⟨?_, ?_⟩
        · show (match tripD d, tripsL ds with | some p, some ps => some (p :: ps) | _, _ => none) = _
          rw [e1, f1]
        · rw [List.all_cons, f2, Bool.and_false]
    · refine .inr ⟨?_, ?_⟩
      · show (match tripD d, tripsL ds with | some p, some ps => some (p :: ps) | _, _ => none) = _
        rw [e1]
      · rw [List.all_cons, e2, Bool.false_and]
theorem any_all : ∀ (ps : List P3) (zs : List Zp), (List.zipWith (fun (p : P3) (z : Zp) => decide (p.2.2 < z.2)) ps zs).any id = !(List.zipWith (fun (p : P3) (z : Zp) => decide (z.2 ≤ p.2.2)) ps zs).all id
  | [], _ => by simp
  | _ :: _, [] => by simp
  | p :: ps, z :: zs => by
    rw [List.zipWith_cons_cons, List.zipWith_cons_cons, List.any_cons, List.all_cons, any_all ps zs, Bool.not_and]
    have e : decide (p.2.2 < z.2) = !decide (z.2 ≤ p.2.2) := by
      by_cases h : p.2.2 < z.2
      · rw [decide_eq_true h, decide_eq_false (show ¬ z.2 ≤ p.2.2 by omega)]; rfl
      · rw [decide_eq_false h, decide_eq_true (show z.2 ≤ p.2.2 by omega)]; rfl
    show (decide (p.2.2 < z.2) || _) = (!decide (z.2 ≤ p.2.2) || _)
    rw [e]
theorem trips_map (ps : List P3) : tripsL (ps.map p3D) = some ps := by
  induction ps with
  | nil => rfl
  | cons p ps ih =>
    show (match tripD (p3D p), tripsL (ps.map p3D) with | some p, some ps => some (p :: ps) | _, _ => none) = _
    rw [ih]
    rfl
theorem ps_all {K : PySem.W.Frag} {H : Hp} : ∀ {ps : List P3} {xs : List V}, DpAll K H xs (ps.map p3D) → ∃ ts : List Addr, xs = ts.map V.ref ∧ Paired (fun t (p : P3) => SqT K H t [.int p.1, .int p.2.1, .int p.2.2]) ts ps
  | [], _, .nil => ⟨[], rfl, .nil⟩
  | p :: ps, _, .cons h t => by
    obtain ⟨ts, e, r⟩ := ps_all t
    cases h with
    | tup sq ha =>
      rename_i a xs1
      cases ha with | cons h1 ha => ?_
      cases ha with | cons h2 ha => ?_
      cases ha with | cons h3 ha => ?_
      cases ha
      cases h1
      cases h2
      cases h3
      exact ⟨a :: ts, by rw [e]; rfl, .cons sq r⟩
theorem ps_of {K : PySem.W.Frag} {H : Hp} {v : Addr} {ps : List P3} (h : Dp K H (.ref v) (.tuple (ps.map p3D))) : TupPs K H v ps := by
  cases h with
  | tup sq ha =>
    obtain ⟨ts, rfl, r⟩ := ps_all ha
    exact ⟨ts, sq, r⟩
theorem ClothOk.footIn {rs : List Row} {zs : List Zp} (c : ClothOk rs zs) {r : Row} (hr : r ∈ rs) : ∀ x ∈ r.feet, FootIn zs.length x := fun x hx => by
  obtain ⟨⟨a, b⟩, s⟩ := mem_allFeet.mp (c.feet.mem_iff.mp (List.mem_flatMap.mpr ⟨r, hr, hx⟩))
  exact ⟨⟨a, b⟩, s⟩
/-! ### the cloth's fields and methods, by data -/
section
variable {K : PySem.W.Frag} {sl : Sl} {M : Mm} {Φ : Dv → Mm → Prop} {C : Addr}
theorem clothA_fld {rs : List Row} {zs : List Zp} {q : Str × (V → Hp → Prop)} (mq : q ∈ clothL K rs zs) {v : V} {H : Hp} (h : ClothA K C rs zs v H) : ∃ p dx ws u, v = .ref p ∧ H p = some (.ins C dx ws) ∧ ws.lookup q.1 = some u ∧ q.2 u H := by
  obtain ⟨p, dx, ws, rfl, e, f, n⟩ := h
  obtain ⟨u, e1, e2⟩ := f q mq
  exact ⟨p, dx, ws, u, rfl, e, e1, e2⟩
theorem ex_clD {ta : TE} {f : Str} {d : List Row → List Zp → PyData} (cl : Cls K C) (no : NoAttr K C f) (mq : ∀ rs zs, (f, fun (u : V) (H : Hp) => Dp K H u (d rs zs)) ∈ clothL K rs zs) (h : ExD K ta sl M fun x M1 => ∃ rs zs, x = clv K C rs zs ∧ Φ (.d (d rs zs)) M1) : ExD K (tFld K ta f) sl M Φ :=
  ex_fldO cl no fun φ ψ σ H Q m s p => h φ ψ σ H Q m s fun v x φ1 H1 M1 s1 m1 r1 h1 => by
    obtain ⟨rs, zs, e, h2⟩ := h1
    exact p v x φ1 H1 M1 s1 m1 r1 ⟨ClothA K C rs zs, .d (d rs zs), e, fun v H a => by
      obtain ⟨q, dx, ws, u, e1, e2, e3, e4⟩ := clothA_fld (mq rs zs) a
      exact ⟨q, dx, ws, u, e1, e2, e3, rep_d0 e4⟩, trivial, h2⟩
theorem ex_clT {ta : TE} {f : Str} {g : List Row → List Key → Option PyData} (cl : Cls K C) (no : NoAttr K C f) (mq : ∀ rs zs, (f, DctA K (g rs)) ∈ clothL K rs zs) (h : ExD K ta sl M fun x M1 => ∃ rs zs, x = clv K C rs zs ∧ Φ (dctv K (g rs)) M1) : ExD K (tFld K ta f) sl M Φ :=
  ex_fldO cl no fun φ ψ σ H Q m s p => h φ ψ σ H Q m s fun v x φ1 H1 M1 s1 m1 r1 h1 => by
    obtain ⟨rs, zs, e, h2⟩ := h1
    exact p v x φ1 H1 M1 s1 m1 r1 ⟨ClothA K C rs zs, dctv K (g rs), e, fun v H a => by
      obtain ⟨q, dx, ws, u, e1, e2, e3, e4⟩ := clothA_fld (mq rs zs) a
      exact ⟨q, dx, ws, u, e1, e2, e3, rep_o0 (fun _ _ s h => h.mono s) e4⟩, trivial, h2⟩
variable {rs : List Row} {zs : List Zp} {ta : TE} {mg : Str → Option Value}
theorem ex_min (G : ClsC K mg C) (h : ExD K ta sl M fun x M1 => ∃ rs zs, x = clv K C rs zs ∧ Φ (.d (minsD zs)) M1) : ExD K (tFld K ta "minimums") sl M Φ := ex_clD (d := fun rs zs => minsD zs) G.cl (G.no _ (by decide +kernel)) (fun rs zs => by unfold clothL; simp) h
theorem ex_fac (G : ClsC K mg C) (h : ExD K ta sl M fun x M1 => ∃ rs zs, x = clv K C rs zs ∧ Φ (.d (facsD zs)) M1) : ExD K (tFld K ta "facings") sl M Φ := ex_clD (d := fun rs zs => facsD zs) G.cl (G.no _ (by decide +kernel)) (fun rs zs => by unfold clothL; simp) h
theorem ex_trn (G : ClsC K mg C) (h : ExD K ta sl M fun x M1 => ∃ rs zs, x = clv K C rs zs ∧ Φ (.d (turnsD rs)) M1) : ExD K (tFld K ta "turns") sl M Φ := ex_clD (d := fun rs zs => turnsD rs) G.cl (G.no _ (by decide +kernel)) (fun rs zs => by unfold clothL; simp) h
theorem ex_nbs (G : ClsC K mg C) (h : ExD K ta sl M fun x M1 => ∃ rs zs, x = clv K C rs zs ∧ Φ (.d (nbsD rs zs.length)) M1) : ExD K (tFld K ta "neighbours") sl M Φ := ex_clD (d := fun rs zs => nbsD rs zs.length) G.cl (G.no _ (by decide +kernel)) (fun rs zs => by unfold clothL; simp) h
theorem ex_gbf (G : ClsC K mg C) (h : ExD K ta sl M fun x M1 => ∃ rs zs, x = clv K C rs zs ∧ Φ (.d (gfD rs zs.length)) M1) : ExD K (tFld K ta "gaps_by_foot") sl M Φ := ex_clD (d := fun rs zs => gfD rs zs.length) G.cl (G.no _ (by decide +kernel)) (fun rs zs => by unfold clothL; simp) h
theorem ex_gbs (G : ClsC K mg C) (h : ExD K ta sl M fun x M1 => ∃ rs zs, x = clv K C rs zs ∧ Φ (.d (gslD rs zs)) M1) : ExD K (tFld K ta "gaps_by_slider") sl M Φ := ex_clD (d := fun rs zs => gslD rs zs) G.cl (G.no _ (by decide +kernel)) (fun rs zs => by unfold clothL; simp) h
theorem ex_zts (G : ClsC K mg C) (h : ExD K ta sl M fun x M1 => ∃ rs zs, x = clv K C rs zs ∧ Φ (.d (zipsD zs)) M1) : ExD K (tFld K ta "zip_tuples") sl M Φ := ex_clD (d := fun rs zs => zipsD zs) G.cl (G.no _ (by decide +kernel)) (fun rs zs => by unfold clothL; simp) h
theorem ex_rbf (G : ClsC K mg C) (h : ExD K ta sl M fun x M1 => ∃ rs zs, x = clv K C rs zs ∧ Φ (dctv K (rowT rs)) M1) : ExD K (tFld K ta "row_by_foot") sl M Φ := ex_clT G.cl (G.no _ (by decide +kernel)) (fun rs zs => by unfold clothL; simp) h
theorem ex_rts (G : ClsC K mg C) (h : ExD K ta sl M fun x M1 => ∃ rs zs, x = clv K C rs zs ∧ Φ (.p (rowsD rs)) M1) : ExD K (tFld K ta "row_tuples") sl M Φ :=
  ex_fldO G.cl (G.no _ (by decide +kernel)) fun φ ψ σ H Q m s p => h φ ψ σ H Q m s fun v x φ1 H1 M1 s1 m1 r1 h1 => by
    obtain ⟨rs, zs, e, h2⟩ := h1
    exact p v x φ1 H1 M1 s1 m1 r1 ⟨ClothA K C rs zs, .p (rowsD rs), e, fun v H a => by
      obtain ⟨q, dx, ws, u, e1, e2, e3, e4⟩ := clothA_fld (q := ("row_tuples", fun u H => Dq K H u (rowsD rs))) (by unfold clothL; simp) a
      exact ⟨q, dx, ws, u, e1, e2, e3, rep_p0 e4⟩, trivial, h2⟩
/-- a method of a cloth -/
theorem ex_meth {m : Str} {sp : SpD} {E : XK} {t : TA} (nm : m ∉ namesC) (h : ExD K ta sl M fun x M1 => ∃ rs zs, x = clv K C rs zs ∧ AxD K t sl M1 fun ys M2 => (∀ y ∈ ys, y.pure) ∧ sp (clv K C rs zs :: ys) [] fun y M3 => M3 = [] ∧ y.pure ∧ Φ y M2) : ExD K (tMeth C m (toSp K sp) [] E ta t) sl M Φ := fun φ ψ σ H Q mm s p =>
  h φ ψ σ H _ mm s fun v x φ1 H1 M1 s1 m1 r1 h1 => by
    obtain ⟨rs, zs, rfl, h2⟩ := h1
    obtain ⟨q, dx, ws, rfl, e, f, n⟩ := r1.1
    refine ⟨q, dx, ws, rfl, (of_mask e).2, n m nm, h2 φ1 ψ σ H1 _ m1 (s.stp s1) fun vs ys φ2 H2 M2 s2 m2 r2 h3 => ?_⟩
    obtain ⟨pu, h4⟩ := h3
    have dn : ∀ {v : V} {x : Dv}, x.pure → RepV K φ2 ψ H2 v x → RepV K [] (φ2 ++ ψ) H2 v x := fun {v x} px r => by
      cases x with
      | d y => exact r
      | r k => exact px.elim
      | o A => exact r
      | p y => exact r
    have dns : ∀ {vs : List V} {xs : List Dv}, (∀ x ∈ xs, x.pure) → RepVs K φ2 ψ H2 vs xs → RepVs K [] (φ2 ++ ψ) H2 vs xs := fun {vs xs} px r => by
      induction r with
      | nil => exact .nil
      | cons a _ ih => exact .cons (dn (px _ (List.mem_cons_self ..)) a) (ih fun x mx => px x (List.mem_cons_of_mem _ mx))
    rw [List.append_nil]
    refine ⟨[], φ2 ++ ψ, [], clv K C rs zs :: ys, _, ⟨List.nodup_nil, rfl, fun k a c e _ => by simp at e, fun b mb => ?_, fun b mb => by simp at mb⟩, .cons (dn trivial (RepV.stp s2 r1)) (dns pu r2), h4, fun v y φ3 H3 M3 s3 m3 r3 f3 => ?_⟩
    · rcases List.mem_append.mp mb with z | z
      · exact m2.own z
      · exact m2.hid b z
    · obtain ⟨rfl, py, f⟩ := f3
      have e2 : φ3 = [] := List.length_eq_zero_iff.mp m3.len
      subst e2
      have sm : Same H2 H3 := fun b o e => s3.kept b o (by simp) e
      refine ((p.stp s1).stp s2).grown m2 sm (x := y) ?_ f
      cases y with
      | d z => exact r3
      | r k => exact py.elim
      | o A => exact r3
      | p z => exact r3
end
abbrev sCR : Stmt := inClass (topS 40) 5
theorem scCR : FnScope ["self"] ["self"] (defScope sCR) := ⟨rfl, rfl, rfl, by decide +kernel, rfl, by decide +kernel, by decide +kernel⟩
abbrev sCZ : Stmt := inClass (topS 40) 6
theorem scCZ : FnScope ["self"] ["self"] (defScope sCZ) := ⟨rfl, rfl, rfl, by decide +kernel, rfl, by decide +kernel, by decide +kernel⟩
section
variable {P : Program} {w : World} {K : PySem.W.Frag} {mg : Str → Option Value} {base : Heap} {C : Addr}
def spMR (K : PySem.W.Frag) (C : Addr) : SpD := spF fun ds y => ∃ rs zs, ds = [clv K C rs zs] ∧ y = .p (rowsD rs)
def spMRd (K : PySem.W.Frag) (C : Addr) : SpD := spF fun ds y => ∃ rs zs, ds = [clv K C rs zs] ∧ y = .d (rowsD rs)
def spMZ (K : PySem.W.Frag) (C : Addr) : SpD := spF fun ds y => ∃ rs zs, ds = [clv K C rs zs] ∧ y = .d (zipsD zs)
theorem ok_mr {f : Addr} {fd : FuncData} (G : ClsC K mg C) (F : Fun K "rows" "Cloth.rows" sCR f fd) : FnOk P w K mg base CX0 1 f fd ["self"] (toSp K (spMR K C)) := by
  refine fn_d F scCR (fun ds M Φ h => ?_) (fun cdv A outer s H E hr ds M Φ h => ?_)
  · obtain ⟨_, y, ⟨_, _, rfl, _⟩, _⟩ := h
    rfl
  · obtain ⟨rfl, y, ⟨rs, zs, rfl, rfl⟩, q⟩ := h
    refine ⟨_, (pss_one (ps_ret (pe_fld (pv 0) rfl))), ?_⟩
    try dsimp only [cxOf, Cx.nox, Cx.wish]
    refine st_ret (ex_rts G (ex_var rfl ⟨rs, zs, rfl, out_0 trivial q⟩))
theorem ok_mrd {f : Addr} {fd : FuncData} (G : ClsC K mg C) (F : Fun K "rows" "Cloth.rows" sCR f fd) : FnOk P w K mg base CX0 1 f fd ["self"] (toSp K (spMRd K C)) := by
  refine (ok_mr (P := P) (w := w) (base := base) G F).imp fun vs H Q E h => ?_
  obtain ⟨φ, ψ, M, ds, Φ, m, r, ⟨rfl, y, ⟨rs, zs, rfl, rfl⟩, q⟩, p⟩ := h
  refine ⟨φ, ψ, [], _, fun y M => y = .p (rowsD rs) ∧ M = [], m, r, ⟨rfl, _, ⟨rs, zs, rfl, rfl⟩, rfl, rfl⟩, fun v d φ' H' M' s m' r' f' => ?_⟩
  obtain ⟨rfl, rfl⟩ := f'
  exact p v (.d (rowsD rs)) φ' H' [] s m' (rep_pd r') q
theorem ok_mz {f : Addr} {fd : FuncData} (G : ClsC K mg C) (F : Fun K "zips" "Cloth.zips" sCZ f fd) : FnOk P w K mg base CX0 1 f fd ["self"] (toSp K (spMZ K C)) := by
  refine fn_d F scCZ (fun ds M Φ h => ?_) (fun cdv A outer s H E hr ds M Φ h => ?_)
  · obtain ⟨_, y, ⟨_, _, rfl, _⟩, _⟩ := h
    rfl
  · obtain ⟨rfl, y, ⟨rs, zs, rfl, rfl⟩, q⟩ := h
    refine ⟨_, (pss_one (ps_ret (pe_fld (pv 0) rfl))), ?_⟩
    try dsimp only [cxOf, Cx.nox, Cx.wish]
    refine st_ret (ex_zts G (ex_var rfl ⟨rs, zs, rfl, out_0 trivial q⟩))
end
/-- the class with its methods -/
structure MC (P : Program) (w : World) (K : PySem.W.Frag) (mg : Str → Option Value) (base : Heap) (C fR fZ : Addr) (dR dZ : FuncData) : Prop where
  cls : ClsC K mg C
  mR : Meth K C "rows" fR
  okR : FnOk P w K mg base CX0 1 fR dR ["self"] (toSp K (spMRd K C))
  bR : Binds K dR ["self"] []
  mZ : Meth K C "zips" fZ
  okZ : FnOk P w K mg base CX0 1 fZ dZ ["self"] (toSp K (spMZ K C))
  bZ : Binds K dZ ["self"] []
section
variable {P : Program} {w : World} {K : PySem.W.Frag} {sl : Sl} {M : Mm} {Φ : Dv → Mm → Prop} {C : Addr} {rs : List Row} {zs : List Zp} {ta : TE} {E : XK}
theorem ex_rows (h : ExD K ta sl M fun x M1 => ∃ rs zs, x = clv K C rs zs ∧ Φ (.d (rowsD rs)) M1) : ExD K (tMeth C "rows" (toSp K (spMRd K C)) [] E ta tNil) sl M Φ :=
  ex_meth (by decide +kernel) fun φ ψ σ H Q m s p => h φ ψ σ H Q m s fun v x φ1 H1 M1 s1 m1 r1 h1 => by
    obtain ⟨rs, zs, e, h2⟩ := h1
    exact p v x φ1 H1 M1 s1 m1 r1 ⟨rs, zs, e, ax_nil ⟨by simp, rfl, _, ⟨rs, zs, rfl, rfl⟩, rfl, trivial, h2⟩⟩
theorem ex_zips (h : ExD K ta sl M fun x M1 => ∃ rs zs, x = clv K C rs zs ∧ Φ (.d (zipsD zs)) M1) : ExD K (tMeth C "zips" (toSp K (spMZ K C)) [] E ta tNil) sl M Φ :=
  ex_meth (by decide +kernel) fun φ ψ σ H Q m s p => h φ ψ σ H Q m s fun v x φ1 H1 M1 s1 m1 r1 h1 => by
    obtain ⟨rs, zs, e, h2⟩ := h1
    exact p v x φ1 H1 M1 s1 m1 r1 ⟨rs, zs, e, ax_nil ⟨by simp, rfl, _, ⟨rs, zs, rfl, rfl⟩, rfl, trivial, h2⟩⟩
end
end Zs
set_option maxHeartbeats 400000
namespace Zs
open PySem PySem.Spec PyProof.Rows L2
local macro_rules | `(tactic| walk_at "z1") => `(tactic| first
  | (with_reducible refine' st_seq ?_) | (with_reducible refine' st_asg ?_) | (with_reducible refine' st_ret ?_) | (with_reducible refine' st_drop ?_) | (with_reducible refine' st_if ?_) | (with_reducible refine' st_next ?_) | (with_reducible refine' st_retN ?_) | (with_reducible refine' st_par ?_) | (with_reducible refine' st_break ?_) | (with_reducible refine' st_cont ?_)
  | ((with_reducible refine' st_augI ?h1 ?_); (case h1 => rfl))
  | (with_reducible refine' gd_name ?_) | ((with_reducible refine' gd_tup ?h1 ?_); (case h1 => rfl)) | ((with_reducible refine' gd_tupP ?h1 ?_); (case h1 => rfl)) | (with_reducible refine' gs_consP ?_) | (with_reducible refine' gs_nilP ?_) | (with_reducible refine' gs_consM ?_) | (with_reducible refine' gs_nilM ?_) | (with_reducible refine' gs_cons ?_) | (with_reducible refine' gs_nil ?_)
  | ((with_reducible refine' ex_varP ?h1 ?_); (case h1 => rfl)) | ((with_reducible refine' ex_var ?h1 ?_); (case h1 => rfl)) | (with_reducible refine' ex_int ?_) | (with_reducible refine' ex_bl ?_) | (with_reducible refine' ex_str ?_) | (with_reducible refine' ex_non ?_) | (with_reducible refine' ex_ty ?_)
  | (with_reducible refine' ex_op ?_) | (with_reducible refine' ex_un ?_) | (with_reducible refine' ex_cb ?_) | (with_reducible refine' ex_tupD ?_) | (with_reducible refine' ex_call ?_) | (with_reducible refine' ex_if ?_) | (with_reducible refine' ex_andV ?_) | (with_reducible refine' ex_orV ?_) | (with_reducible refine' ex_notV ?_) | (with_reducible refine' ex_isN ?_) | (with_reducible refine' ex_notN ?_) | (with_reducible refine' ex_chain ?_) | (with_reducible refine' ex_sl ?_) | (with_reducible refine' ex_bm ?_) | ((with_reducible refine' md_append ?h1 ?_); (case h1 => rfl))
  | (with_reducible refine' ad_cons ?_) | (with_reducible refine' ad_nil ?_) | (with_reducible refine' ax_cons ?_) | (with_reducible refine' ax_nil ?_) | (with_reducible refine' to_none ?_) | (with_reducible refine' to_some ?_)
  | (with_reducible refine' tt_test ?_) | (with_reducible refine' tt_B ?_) | (with_reducible refine' tt_and ?_) | (with_reducible refine' tt_or ?_) | (with_reducible refine' tt_not ?_) | (with_reducible refine' tt_yes ?_) | (with_reducible refine' tt_truT ?_)
  | (with_reducible refine' od_add ?_) | (with_reducible refine' od_sub ?_) | (with_reducible refine' od_lt ?_) | (with_reducible refine' od_le ?_) | (with_reducible refine' od_gt ?_) | (with_reducible refine' od_ge ?_) | (with_reducible refine' od_eqI ?_) | (with_reducible refine' od_neI ?_) | (with_reducible refine' od_eqS ?_) | (with_reducible refine' od_neS ?_) | (with_reducible refine' ud_neg ?_)
  | (with_reducible refine' od_isX ?_) | (with_reducible refine' od_notX ?_) | (with_reducible refine' cd_isiInt ?_) | (with_reducible refine' cd_isiTup ?_) | (with_reducible refine' cd_isiStr ?_) | (with_reducible refine' cd_isiLst ?_)
  | (with_reducible refine' cd_lenT ?_) | (with_reducible refine' cd_tupT ?_) | (with_reducible refine' cd_tupD ?_) | (with_reducible refine' cd_lenD ?_) | (with_reducible refine' cd_all ?_) | (with_reducible refine' cd_any ?_) | (with_reducible refine' cd_max2 ?_) | (with_reducible refine' cd_min2 ?_) | (with_reducible refine' cd_abs ?_) | (with_reducible refine' sd_tupA ?_)
  | ((with_reducible refine' it_tupP ?h1 ?_); (case h1 => rfl)) | ((with_reducible refine' it_enumP ?h1 ?_); (case h1 => rfl)) | (with_reducible refine' it_enumT ?_) | (with_reducible refine' ex_dnewT ?_) | (with_reducible refine' ex_dgetP ?_) | (with_reducible refine' it_tup ?_) | (with_reducible refine' it_rng1 ?_) | (with_reducible refine' it_rng2 ?_)
  | (refine' ⟨_, rfl, ?_⟩) | (refine' ⟨rfl, ?_⟩))
local macro_rules | `(tactic| walk_at "z") => `(tactic| repeat (walk_at "z1"))
local macro_rules | `(tactic| walk_at "gm") => `(tactic| (repeat (first | exact gm_name | exact gm_nil | refine gm_tup ?_ | refine gm_cons ?_ ?_)))
local macro_rules | `(tactic| walk_at "gw") => `(tactic| (repeat (first | exact gw_nil | exact gw_name (by simp) | refine gw_tup ?_ | (refine gw_cons (by walk_at "gm") (by walk_at "gm") ?_ ?_))))
local macro_rules | `(tactic| walk_at "y1") => `(tactic| first | (walk_at "z1") | ((with_reducible refine' ex_min ?h1 ?_); (case h1 => assumption)) | ((with_reducible refine' ex_fac ?h1 ?_); (case h1 => assumption)) | ((with_reducible refine' ex_trn ?h1 ?_); (case h1 => assumption)) | ((with_reducible refine' ex_nbs ?h1 ?_); (case h1 => assumption)) | ((with_reducible refine' ex_gbf ?h1 ?_); (case h1 => assumption)) | ((with_reducible refine' ex_gbs ?h1 ?_); (case h1 => assumption)) | ((with_reducible refine' ex_rbf ?h1 ?_); (case h1 => assumption)) | (with_reducible refine' ex_rows ?_) | (with_reducible refine' ex_zips ?_) | (with_reducible refine' it_zipA ?_) | (refine' ⟨_, _, (rfl : clv _ _ _ _ = clv _ _ _ _), ?_⟩))
local macro_rules | `(tactic| walk_at "y") => `(tactic| repeat (walk_at "y1"))
abbrev sHE : Stmt := topS 6
theorem scHE : FnScope ["cloth", "value", "entry", "minimum", "low0", "low1", "count"] ["cloth", "value"] (defScope sHE) := ⟨rfl, rfl, rfl, by decide +kernel, rfl, by decide +kernel, by decide +kernel⟩
def entB (zs : List Zp) (d : PyData) : Bool := match tripsD d with
  | some ps => decide (ps.length = zs.length) && (List.zipWith (fun (p : P3) (z : Zp) => decide (z.2 ≤ p.2.2)) ps zs).all id
  | none => false
theorem entB_iff {zs : List Zp} {ds : List PyData} : entB zs (.tuple ds) = true ↔ ds.length = zs.length ∧ ∀ (j : Nat) (e : PyData), ds[j]? = some e → ∃ p z, e = p3D p ∧ zs[j]? = some z ∧ z.2 ≤ p.2.2 := by
  have unf : entB zs (.tuple ds) = match tripsL ds with
    | some ps => decide (ps.length = zs.length) && (List.zipWith (fun (p : P3) (z : Zp) => decide (z.2 ≤ p.2.2)) ps zs).all id
    | none => false := rfl
  rw [unf]
  rcases trips_of ds with ⟨ps, f1, f2, f3⟩ | ⟨f1, f2⟩
  · rw [f1]
    dsimp only
    have hl : ds.length = ps.length := by rw [f2, List.length_map]
    rw [Bool.and_eq_true, decide_eq_true_iff, List.all_eq_true]
    constructor
    · rintro ⟨el, ha⟩
      refine ⟨by omega, fun j e he => ?_⟩
      rw [f2, List.getElem?_map] at he
      cases q : ps[j]? with
      | none => rw [q] at he; cases he
      | some p =>
        rw [q] at he
        have lz : j < zs.length := by have := (List.getElem?_eq_some_iff.mp q).1; omega
        refine ⟨p, zs[j], (Option.some.inj he).symm, List.getElem?_eq_getElem lz, ?_⟩
        have := ha (decide (zs[j].2 ≤ p.2.2)) (List.mem_of_getElem? (i := j) (by rw [List.getElem?_zipWith, q, List.getElem?_eq_getElem lz]))
        exact of_decide_eq_true this
    · rintro ⟨el, ha⟩
      refine ⟨by omega, fun b hb => ?_⟩
      obtain ⟨j, hj⟩ := List.mem_iff_getElem?.mp hb
      rw [List.getElem?_zipWith] at hj
      cases q : ps[j]? with
      | none => rw [q] at hj; cases hj
      | some p =>
        cases q2 : zs[j]? with
        | none => rw [q, q2] at hj; cases hj
        | some z =>
          rw [q, q2] at hj
          obtain ⟨p', z', e1, e2, e3⟩ := ha j (p3D p) (by rw [f2, List.getElem?_map, q]; rfl)
          have hp : p' = p := by
            have : p3D p = p3D p' := e1
            simp only [p3D, PyData.tuple.injEq, List.cons.injEq, PyData.int.injEq, and_true] at this
            exact Prod.ext this.1.symm (Prod.ext this.2.1.symm this.2.2.symm)
          have hz := Option.some.inj (q2.symm.trans e2)
          subst hp
          subst hz
          have := Option.some.inj hj
          rw [← this]
          exact decide_eq_true e3
  · rw [f1]
    constructor
    · intro h; cases h
    · rintro ⟨el, ha⟩
      have : ds.all (intTup 3) = true := by
        rw [List.all_eq_true]
        intro e he
        obtain ⟨j, hj⟩ := List.mem_iff_getElem?.mp he
        obtain ⟨p, z, rfl, _⟩ := ha j e hj
        rfl
      rw [f2] at this
      cases this
theorem isIB_of {d : PyData} (h : isIB d = true) : (∃ i, d = .int i) ∨ ∃ b, d = .bool b := by
  cases d with
  | int i => exact .inl ⟨i, rfl⟩
  | bool b => exact .inr ⟨b, rfl⟩
  | _ => cases h
theorem triI (x : PyData) : (∃ i, x = .int i) ∨ (∃ b, x = .bool b) ∨ isIB x = false := by
  cases x with
  | int i => exact .inl ⟨i, rfl⟩
  | bool b => exact .inr (.inl ⟨b, rfl⟩)
  | _ => exact .inr (.inr rfl)
theorem len3 {α : Type} {l : List α} (h : l.length = 3) : ∃ a b c, l = [a, b, c] := by
  match l, h with
  | [a, b, c], _ => exact ⟨a, b, c, rfl⟩
local macro_rules | `(tactic| walk_at "hF") => `(tactic| (refine iteF ?_; walk_at "y"))
local macro_rules | `(tactic| walk_at "hT") => `(tactic| (refine iteT ?_; walk_at "y"))
local macro_rules | `(tactic| walk_at "hR") => `(tactic| (try (refine iteT ?_; walk_at "y")))
section
variable {P : Program} {w : World} {K : PySem.W.Frag} {mg : Str → Option Value} {base : Heap} {C fR fZ : Addr} {dR dZ : FuncData}
def spHE (K : PySem.W.Frag) (C : Addr) : SpD := spF fun ds y => ∃ rs zs d, ds = [clv K C rs zs, .d d] ∧ zs.length ≤ 8 ∧ y = .d (.bool (entB zs d))
theorem ok_he {f : Addr} {fd : FuncData} (T : Bl mg) (G : ClsC K mg C) (F : Fun K "has_entries" "has_entries" sHE f fd) : FnOk P w K mg base CX0 1 f fd ["cloth", "value"] (toSp K (spHE K C)) := by
  refine fn_d F scHE (fun ds M Φ h => ?_) (fun cdv A outer s H E hr ds M Φ h => ?_)
  · obtain ⟨_, y, ⟨_, _, _, rfl, _⟩, _⟩ := h
    rfl
  · obtain ⟨rfl, y, ⟨rs, zs, d, rfl, few, rfl⟩, q⟩ := h
    refine ⟨_, (pss_cons (ps_if (pw_or (pt_not (pt_val (pe_callB call_isi (by rfl) T.isinstance_ (by decide +kernel) (pa_cons (pv 1) (pa_cons (pe_bltn (v := .ty "tuple") (by rfl) T.tuple_ (by decide +kernel) rfl) pa_nil))))) (pw_or1 (pt_cmpR op_ne (pe_callB call_len_seq (by rfl) T.len_ PySem.boot_len (pa_cons (pv 1) pa_nil)) (pe_callB call_len_seq (by rfl) T.len_ PySem.boot_len (pa_cons (pe_fld (pv 0) rfl) pa_nil)) (nomark _)))).pt
        (pss_one (ps_ret pe_bl))
        pss_nil)
      (pss_cons (ps_for PassesOwn.never rfl (RZ.pi_zipA (by rfl) T.zip_ (pa_cons (pv 1) (pa_cons (pe_fld (pv 0) rfl) pa_nil))) (pg_tup rfl (pgs_cons (pg_name (i := 2) scHE.nd rfl (Or.inl rfl)) (pgs_cons (pg_name (i := 3) scHE.nd rfl (Or.inl rfl)) pgs_nil)))
        (pss_cons (ps_if (pw_or (pt_not (pt_val (pe_callB call_isi (by rfl) T.isinstance_ (by decide +kernel) (pa_cons (pv 2) (pa_cons (pe_bltn (v := .ty "tuple") (by rfl) T.tuple_ (by decide +kernel) rfl) pa_nil))))) (pw_or1 (pt_cmpR op_ne (pe_callB call_len_seq (by rfl) T.len_ PySem.boot_len (pa_cons (pv 2) pa_nil)) pe_int (nomark _)))).pt
          (pss_one (ps_ret pe_bl))
          pss_nil)
        (pss_cons (ps_asg (pv 2) (pg_tup rfl (pgs_cons (pg_name (i := 4) scHE.nd rfl (Or.inl rfl)) (pgs_cons (pg_name (i := 5) scHE.nd rfl (Or.inl rfl)) (pgs_cons (pg_name (i := 6) scHE.nd rfl (Or.inl rfl)) pgs_nil)))))
        (pss_cons (ps_if (pw_or (pt_not (pt_val (pe_callB call_isi (by rfl) T.isinstance_ (by decide +kernel) (pa_cons (pv 4) (pa_cons (pe_bltn (v := .ty "int") (by rfl) T.int_ (by decide +kernel) rfl) pa_nil))))) (pw_or (pt_not (pt_val (pe_callB call_isi (by rfl) T.isinstance_ (by decide +kernel) (pa_cons (pv 5) (pa_cons (pe_bltn (v := .ty "int") (by rfl) T.int_ (by decide +kernel) rfl) pa_nil))))) (pw_or1 (pt_not (pt_val (pe_callB call_isi (by rfl) T.isinstance_ (by decide +kernel) (pa_cons (pv 6) (pa_cons (pe_bltn (v := .ty "int") (by rfl) T.int_ (by decide +kernel) rfl) pa_nil)))))))).pt
          (pss_one (ps_ret pe_bl))
          pss_nil)
        (pss_cons (ps_if (pw_or (pt_cmpR op_isX (pv 4) pe_bl (nomark _)) (pw_or (pt_cmpR op_isX (pv 4) pe_bl (nomark _)) (pw_or (pt_cmpR op_isX (pv 5) pe_bl (nomark _)) (pw_or (pt_cmpR op_isX (pv 5) pe_bl (nomark _)) (pw_or (pt_cmpR op_isX (pv 6) pe_bl (nomark _)) (pw_or1 (pt_cmpR op_isX (pv 6) pe_bl (nomark _)))))))).pt
          (pss_one (ps_ret pe_bl))
          pss_nil)
        (pss_one (ps_if (pt_cmpR op_lt (pv 6) (pv 3) (nomark _))
          (pss_one (ps_ret pe_bl))
          pss_nil)))))))
      (pss_one (ps_ret pe_bl)))), ?_⟩
    try dsimp only [cxOf, Cx.nox, Cx.wish]
    walk_at "y"
    cases d with
    | tuple ds =>
      refine iteF ?_
      walk_at "y"
      rw [List.length_map]
      by_cases el : ds.length = zs.length
      · rw [show (!decide ((ds.length : Int) = (zs.length : Int))) = false by simp [el]]
        refine iteF ?_
        walk_at "y"
        refine st_for ?_
        walk_at "y"
        refine ⟨_, _, .inr rfl, fun j sl' M' => ∃ x2 x3 x4 x5 x6 : Option Dv, sl' = [some (clv K C rs zs), some (.d (.tuple ds)), x2, x3, x4, x5, x6] ∧ M' = [] ∧ ∀ (i : Nat) (e : PyData), i < j → ds[i]? = some e → ∃ p z, e = p3D p ∧ zs[i]? = some z ∧ z.2 ≤ p.2.2, ⟨none, none, none, none, none, rfl, rfl, by omega⟩, fun _ _ _ _ => trivial, ?_, ?_⟩
        · rintro j x sl' M' hx ⟨x2, x3, x4, x5, x6, rfl, rfl, good⟩
          obtain ⟨e, m, he, hm, rfl⟩ := pairD_at hx
          rw [List.getElem?_map] at hm
          obtain ⟨z, hz, rfl⟩ : ∃ z, zs[j]? = some z ∧ PyData.int z.2 = m := by
            cases q : zs[j]? with
            | none => rw [q] at hm; cases hm
            | some z => rw [q] at hm; exact ⟨z, rfl, Option.some.inj hm⟩
          have bad : (¬ ∃ p z', e = p3D p ∧ zs[j]? = some z' ∧ z'.2 ≤ p.2.2) → entB zs (.tuple ds) = false := fun nb => by
            cases q : entB zs (.tuple ds) with
            | false => rfl
            | true => exact absurd ((entB_iff.mp q).2 j e he) nb
          have no : (¬ ∃ p z', e = p3D p ∧ zs[j]? = some z' ∧ z'.2 ≤ p.2.2) → Φ (.d (.bool false)) [] := fun nb => by
            have := bad nb
            rw [this] at q
            exact q
          walk_at "y"
          cases e with
          | tuple es =>
            refine iteF ?_
            walk_at "y"
            by_cases l3 : es.length = 3
            · obtain ⟨a, b, c, rfl⟩ := len3 l3
              refine iteF ?_
              walk_at "y"
              cases ha : isIB a with
              | false =>
                walk_at "hT"
                walk_at "hR"
                exact out_0 trivial (no (by rintro ⟨p, z', e1, _⟩; simp only [p3D, PyData.tuple.injEq, List.cons.injEq, and_true] at e1; rw [e1.1] at ha; cases ha))
              | true =>
              walk_at "hF"
              cases hb : isIB b with
              | false =>
                walk_at "hT"
                walk_at "hR"
                exact out_0 trivial (no (by rintro ⟨p, z', e1, _⟩; simp only [p3D, PyData.tuple.injEq, List.cons.injEq, and_true] at e1; rw [e1.2.1] at hb; cases hb))
              | true =>
              walk_at "hF"
              cases hc : isIB c with
              | false =>
                walk_at "hT"
                walk_at "hR"
                exact out_0 trivial (no (by rintro ⟨p, z', e1, _⟩; simp only [p3D, PyData.tuple.injEq, List.cons.injEq, and_true] at e1; rw [e1.2.2] at hc; cases hc))
              | true =>
              walk_at "hF"
              rcases isIB_of ha with ⟨i0, rfl⟩ | ⟨b0, rfl⟩
              · walk_at "hF"
                walk_at "hF"
                rcases isIB_of hb with ⟨i1, rfl⟩ | ⟨b1, rfl⟩
                · walk_at "hF"
                  walk_at "hF"
                  rcases isIB_of hc with ⟨i2, rfl⟩ | ⟨b2, rfl⟩
                  · walk_at "hF"
                    walk_at "hF"
                    by_cases lt : i2 < z.2
                    · rw [decide_eq_true lt]
                      walk_at "hT"
                      exact out_0 trivial (no (by
                        rintro ⟨p, z', e1, e2, e3⟩
                        simp only [p3D, PyData.tuple.injEq, List.cons.injEq, PyData.int.injEq, and_true] at e1
                        have := Option.some.inj (hz.symm.trans e2)
                        subst this
                        omega))
                    · rw [decide_eq_false lt]
                      walk_at "hF"
                      refine ⟨_, _, _, _, _, rfl, rfl, fun i e' hi he' => ?_⟩
                      by_cases ij : i = j
                      · subst ij
                        have := Option.some.inj (he.symm.trans he')
                        subst this
                        exact ⟨(i0, i1, i2), z, rfl, hz, Int.not_lt.mp lt⟩
                      · exact good i e' (by omega) he'
                  · have nb : Φ (.d (.bool false)) [] := no (by rintro ⟨p, z', e1, _⟩; simp [p3D] at e1)
                    cases b2 with
                    | false =>
                      walk_at "hF"
                      walk_at "hT"
                      walk_at "hR"
                      exact out_0 trivial nb
                    | true =>
                      walk_at "hT"
                      walk_at "hR"
                      exact out_0 trivial nb
                · have nb : Φ (.d (.bool false)) [] := no (by rintro ⟨p, z', e1, _⟩; simp [p3D] at e1)
                  cases b1 with
                  | false =>
                    walk_at "hF"
                    walk_at "hT"
                    walk_at "hR"
                    exact out_0 trivial nb
                  | true =>
                    walk_at "hT"
                    walk_at "hR"
                    exact out_0 trivial nb
              · have nb : Φ (.d (.bool false)) [] := no (by rintro ⟨p, z', e1, _⟩; simp [p3D] at e1)
                cases b0 with
                | false =>
                  walk_at "hF"
                  walk_at "hT"
                  walk_at "hR"
                  exact out_0 trivial nb
                | true =>
                  walk_at "hT"
                  walk_at "hR"
                  exact out_0 trivial nb
            · rw [show (!decide ((es.length : Int) = 3)) = true by simp; omega]
              refine iteT ?_
              walk_at "y"
              exact out_0 trivial (no (by rintro ⟨p, z', e1, _⟩; simp only [p3D, PyData.tuple.injEq] at e1; rw [e1] at l3; exact l3 rfl))
          | _ =>
            refine iteT ?_
            refine iteT ?_
            walk_at "y"
            exact out_0 trivial (no (by rintro ⟨p, z', e1, _⟩; simp [p3D] at e1))
        · rintro sl' M' ⟨x2, x3, x4, x5, x6, rfl, rfl, good⟩
          have e1 : entB zs (.tuple ds) = true := entB_iff.mpr ⟨el, fun j e he => good j e (by
            have := (List.getElem?_eq_some_iff.mp he).1
            unfold pairD
            rw [List.length_zipWith, List.length_map]
            omega) he⟩
          rw [e1] at q
          walk_at "y"
          exact out_0 trivial q
      · have e1 : entB zs (.tuple ds) = false := by
          cases z : entB zs (.tuple ds) with
          | false => rfl
          | true => exact absurd (entB_iff.mp z).1 el
        rw [show (!decide ((ds.length : Int) = (zs.length : Int))) = true by simp; omega]
        rw [e1] at q
        refine iteT ?_
        walk_at "y"
        exact out_0 trivial q
    | _ =>
      refine iteT ?_
      refine iteT ?_
      walk_at "y"
      exact out_0 trivial q
end
end Zs
set_option maxHeartbeats 1000000
namespace Zs
open PySem PySem.Spec PyProof.Rows L2
local macro_rules | `(tactic| walk_at "z1") => `(tactic| first
  | (with_reducible refine' st_seq ?_) | (with_reducible refine' st_asg ?_) | (with_reducible refine' st_ret ?_) | (with_reducible refine' st_drop ?_) | (with_reducible refine' st_if ?_) | (with_reducible refine' st_next ?_) | (with_reducible refine' st_retN ?_) | (with_reducible refine' st_par ?_) | (with_reducible refine' st_break ?_) | (with_reducible refine' st_cont ?_)
  | ((with_reducible refine' st_augI ?h1 ?_); (case h1 => rfl))
  | (with_reducible refine' gd_name ?_) | ((with_reducible refine' gd_tup ?h1 ?_); (case h1 => rfl)) | ((with_reducible refine' gd_tupP ?h1 ?_); (case h1 => rfl)) | (with_reducible refine' gs_consP ?_) | (with_reducible refine' gs_nilP ?_) | (with_reducible refine' gs_consM ?_) | (with_reducible refine' gs_nilM ?_) | (with_reducible refine' gs_cons ?_) | (with_reducible refine' gs_nil ?_)
  | ((with_reducible refine' ex_varP ?h1 ?_); (case h1 => rfl)) | ((with_reducible refine' ex_var ?h1 ?_); (case h1 => rfl)) | (with_reducible refine' ex_int ?_) | (with_reducible refine' ex_bl ?_) | (with_reducible refine' ex_str ?_) | (with_reducible refine' ex_non ?_) | (with_reducible refine' ex_ty ?_)
  | (with_reducible refine' ex_op ?_) | (with_reducible refine' ex_un ?_) | (with_reducible refine' ex_cb ?_) | (with_reducible refine' ex_tupD ?_) | (with_reducible refine' ex_call ?_) | (with_reducible refine' ex_if ?_) | (with_reducible refine' ex_andV ?_) | (with_reducible refine' ex_orV ?_) | (with_reducible refine' ex_notV ?_) | (with_reducible refine' ex_isN ?_) | (with_reducible refine' ex_notN ?_) | (with_reducible refine' ex_chain ?_) | (with_reducible refine' ex_sl ?_) | (with_reducible refine' ex_bm ?_) | ((with_reducible refine' md_append ?h1 ?_); (case h1 => rfl))
  | (with_reducible refine' ad_cons ?_) | (with_reducible refine' ad_nil ?_) | (with_reducible refine' ax_cons ?_) | (with_reducible refine' ax_nil ?_) | (with_reducible refine' to_none ?_) | (with_reducible refine' to_some ?_)
  | (with_reducible refine' tt_test ?_) | (with_reducible refine' tt_B ?_) | (with_reducible refine' tt_and ?_) | (with_reducible refine' tt_or ?_) | (with_reducible refine' tt_not ?_) | (with_reducible refine' tt_yes ?_) | (with_reducible refine' tt_truT ?_)
  | (with_reducible refine' od_add ?_) | (with_reducible refine' od_sub ?_) | (with_reducible refine' od_lt ?_) | (with_reducible refine' od_le ?_) | (with_reducible refine' od_gt ?_) | (with_reducible refine' od_ge ?_) | (with_reducible refine' od_eqI ?_) | (with_reducible refine' od_neI ?_) | (with_reducible refine' od_eqS ?_) | (with_reducible refine' od_neS ?_) | (with_reducible refine' ud_neg ?_)
  | (with_reducible refine' od_isX ?_) | (with_reducible refine' od_notX ?_) | (with_reducible refine' cd_isiInt ?_) | (with_reducible refine' cd_isiTup ?_) | (with_reducible refine' cd_isiStr ?_) | (with_reducible refine' cd_isiLst ?_)
  | (with_reducible refine' cd_lenT ?_) | (with_reducible refine' cd_tupT ?_) | (with_reducible refine' cd_tupD ?_) | (with_reducible refine' cd_lenD ?_) | (with_reducible refine' cd_all ?_) | (with_reducible refine' cd_any ?_) | (with_reducible refine' cd_max2 ?_) | (with_reducible refine' cd_min2 ?_) | (with_reducible refine' cd_abs ?_) | (with_reducible refine' sd_tupA ?_)
  | ((with_reducible refine' it_tupP ?h1 ?_); (case h1 => rfl)) | ((with_reducible refine' it_enumP ?h1 ?_); (case h1 => rfl)) | (with_reducible refine' it_enumT ?_) | (with_reducible refine' ex_dnewT ?_) | (with_reducible refine' ex_dgetP ?_) | (with_reducible refine' it_tup ?_) | (with_reducible refine' it_rng1 ?_) | (with_reducible refine' it_rng2 ?_)
  | (refine' ⟨_, rfl, ?_⟩) | (refine' ⟨rfl, ?_⟩))
local macro_rules | `(tactic| walk_at "z") => `(tactic| repeat (walk_at "z1"))
local macro_rules | `(tactic| walk_at "gm") => `(tactic| (repeat (first | exact gm_name | exact gm_nil | refine gm_tup ?_ | refine gm_cons ?_ ?_)))
local macro_rules | `(tactic| walk_at "gw") => `(tactic| (repeat (first | exact gw_nil | exact gw_name (by simp) | refine gw_tup ?_ | (refine gw_cons (by walk_at "gm") (by walk_at "gm") ?_ ?_))))
local macro_rules | `(tactic| walk_at "y1") => `(tactic| first | (walk_at "z1") | ((with_reducible refine' ex_min ?h1 ?_); (case h1 => assumption)) | ((with_reducible refine' ex_fac ?h1 ?_); (case h1 => assumption)) | ((with_reducible refine' ex_trn ?h1 ?_); (case h1 => assumption)) | ((with_reducible refine' ex_nbs ?h1 ?_); (case h1 => assumption)) | ((with_reducible refine' ex_gbf ?h1 ?_); (case h1 => assumption)) | ((with_reducible refine' ex_gbs ?h1 ?_); (case h1 => assumption)) | ((with_reducible refine' ex_rbf ?h1 ?_); (case h1 => assumption)) | (with_reducible refine' ex_rows ?_) | (with_reducible refine' ex_zips ?_) | (with_reducible refine' it_zipA ?_) | (refine' ⟨_, _, (rfl : clv _ _ _ _ = clv _ _ _ _), ?_⟩))
local macro_rules | `(tactic| walk_at "y") => `(tactic| repeat (walk_at "y1"))
/-! ### the gaps of a row by their numbers -/
def at0 (r : Row) (ps : List P3) : Int := if r.ring && !r.feet.isEmpty then (lowsL r ps).headD 0 else 0
def scanG (ps : List P3) : Int → List Foot → List Int
  | _, [] => []
  | a, x :: f => (lowAt ps x - a) :: scanG ps (highAt ps x) f
def finG (ps : List P3) : Int → List Foot → Int
  | a, [] => a
  | _, x :: f => finG ps (highAt ps x) f
def rowN (r : Row) (ps : List P3) : List Int := scanG ps (at0 r ps) r.feet ++ [at0 r ps + r.teeth - finG ps (at0 r ps) r.feet]
def okRow (r : Row) (ps : List P3) : Bool := (if r.ring && !r.feet.isEmpty then decide (0 ≤ at0 r ps) && decide (at0 r ps < r.teeth) else true) && (rowN r ps).all fun g => decide (g ≥ 0)
theorem scan_zip (ps : List P3) (e : Int) : ∀ (f : List Foot) (a : Int), scanG ps a f ++ [e - finG ps a f] = List.zipWith (fun s e => e - s) (a :: f.map (highAt ps)) (f.map (lowAt ps) ++ [e])
  | [], a => rfl
  | x :: f, a => by
    show (lowAt ps x - a) :: (scanG ps (highAt ps x) f ++ [e - finG ps (highAt ps x) f]) = _
    rw [scan_zip ps e f (highAt ps x)]
    rfl
theorem rowN_gaps (r : Row) (ps : List P3) : rowN r ps = if r.ring && !r.feet.isEmpty then 0 :: gapsL r ps else gapsL r ps := by
  unfold rowN at0 gapsL startsL endsL lowsL highsL
  cases er : r.ring with
  | false =>
    show scanG ps 0 r.feet ++ [0 + r.teeth - finG ps 0 r.feet] = List.zipWith _ (0 :: r.feet.map (highAt ps)) (r.feet.map (lowAt ps) ++ [r.teeth])
    rw [← scan_zip, Int.zero_add]
  | true =>
    cases ef : r.feet with
    | nil =>
      show [0 + r.teeth - 0] = [r.teeth]
      rw [Int.zero_add, Int.sub_zero]
    | cons x f =>
      show (lowAt ps x - lowAt ps x) :: (scanG ps (highAt ps x) f ++ [lowAt ps x + r.teeth - finG ps (highAt ps x) f]) = 0 :: List.zipWith _ (highAt ps x :: f.map (highAt ps)) (f.map (lowAt ps) ++ [lowAt ps x + r.teeth])
      rw [scan_zip, Int.sub_self]
theorem okRow_fits (r : Row) (ps : List P3) : okRow r ps = fitsB r ps := by
  unfold okRow fitsB
  rw [rowN_gaps]
  unfold at0
  cases (r.ring && !r.feet.isEmpty) with
  | false => rfl
  | true =>
    show ((decide (0 ≤ (lowsL r ps).headD 0) && decide ((lowsL r ps).headD 0 < r.teeth)) && ((decide ((0 : Int) ≥ 0)) && _)) = _
    rw [show decide ((0 : Int) ≥ 0) = true from rfl, Bool.true_and]
    rfl
def numG (rs : List Row) (ps : List P3) : List Int := rs.flatMap fun r => rowN r ps
def gapsDd (rs : List Row) (zs : List Zp) (d : PyData) : PyData := match tripsD d with
  | some ps => if isStateB rs zs d then .list ((numG rs ps).map .int) else .none
  | none => .none
theorem state_ent (rs : List Row) (zs : List Zp) (d : PyData) : isStateB rs zs d = (entB zs d && (match tripsD d with | some ps => rs.all (fun r => okRow r ps) | none => false)) := by
  unfold isStateB entB
  cases tripsD d with
  | none => rfl
  | some ps =>
    dsimp only
    rw [Bool.and_assoc]
    simp only [okRow_fits]
theorem ent_of {zs : List Zp} {d : PyData} (h : entB zs d = true) : ∃ ps : List P3, d = .tuple (ps.map p3D) ∧ tripsD d = some ps ∧ ps.length = zs.length := by
  unfold entB at h
  cases e : tripsD d with
  | none => rw [e] at h; cases h
  | some ps =>
    rw [e] at h
    dsimp only at h
    rw [Bool.and_eq_true, decide_eq_true_iff] at h
    cases d with
    | tuple ds =>
      rcases trips_of ds with ⟨ps', f1, f2, f3⟩ | ⟨f1, f2⟩
      · have : ps' = ps := Option.some.inj (f1.symm.trans e)
        subst this
        exact ⟨ps', by rw [f2], rfl, h.1⟩
      · have : (none : Option (List P3)) = some ps := f1.symm.trans e
        cases this
    | _ => cases e
theorem scan_take (ps : List P3) : ∀ (f : List Foot) (a : Int) (j : Nat) (x : Foot), f[j]? = some x → scanG ps a (f.take (j + 1)) = scanG ps a (f.take j) ++ [lowAt ps x - finG ps a (f.take j)]
  | [], _, _, _, h => by cases h
  | y :: f, a, 0, x, h => by
    have : y = x := by simpa using h
    subst this
    rfl
  | y :: f, a, j + 1, x, h => by
    show _ :: scanG ps (highAt ps y) (f.take (j + 1)) = _ :: (scanG ps (highAt ps y) (f.take j) ++ _)
    rw [scan_take ps f _ j x (by simpa using h)]
    rfl
theorem fin_take (ps : List P3) : ∀ (f : List Foot) (a : Int) (j : Nat) (x : Foot), f[j]? = some x → finG ps a (f.take (j + 1)) = highAt ps x
  | [], _, _, _, h => by cases h
  | y :: f, a, 0, x, h => by
    have : y = x := by simpa using h
    subst this
    rfl
  | y :: f, a, j + 1, x, h => by
    show finG ps (highAt ps y) (f.take (j + 1)) = _
    exact fin_take ps f _ j x (by simpa using h)
theorem ix_ent {ps : List P3} {x : Foot} (hx : FootIn ps.length x) : atI (ps.map p3D) x.1 = some (p3D (at3 ps x.1)) := by
  obtain ⟨⟨h0, h1⟩, hs⟩ := hx
  obtain ⟨j, hj⟩ := Int.eq_ofNat_of_zero_le h0
  have hl : j < ps.length := by omega
  unfold at3
  rw [hj, Int.toNat_natCast, List.getD_eq_getElem?_getD, List.getElem?_eq_getElem hl]
  exact atI_nat (by rw [List.getElem?_map, List.getElem?_eq_getElem hl]; rfl)
theorem ix_low {n : Nat} {ps : List P3} {x : Foot} (hx : FootIn n x) : atI [PyData.int (at3 ps x.1).1, .int (at3 ps x.1).2.1, .int (at3 ps x.1).2.2] x.2 = some (.int (lowAt ps x)) := by
  unfold lowAt
  rcases hx.2 with e | e
  · rw [e, if_pos rfl]
    exact atI_nat (j := 0) rfl
  · rw [e, if_neg (by decide)]
    exact atI_nat (j := 1) rfl
theorem ix_many {ps : List P3} {x : Foot} : atI [PyData.int (at3 ps x.1).1, .int (at3 ps x.1).2.1, .int (at3 ps x.1).2.2] 2 = some (.int (manyAt ps x)) := atI_nat (j := 2) rfl
theorem scan_len (ps : List P3) : ∀ (f : List Foot) (a : Int), (scanG ps a f).length = f.length
  | [], _ => rfl
  | x :: f, a => by show (scanG ps _ f).length + 1 = f.length + 1; rw [scan_len ps f]
theorem num_len (ps : List P3) : ∀ rs : List Row, (numG rs ps).length = (rs.flatMap (·.feet)).length + rs.length
  | [] => rfl
  | r :: rs => by
    show (rowN r ps ++ numG rs ps).length = (r.feet ++ rs.flatMap (·.feet)).length + (rs.length + 1)
    rw [List.length_append, num_len ps rs, List.length_append]
    unfold rowN
    rw [List.length_append, scan_len, List.length_singleton]
    omega
theorem num_take {rs : List Row} {ps : List P3} {i : Nat} {r : Row} (h : rs[i]? = some r) : numG (rs.take (i + 1)) ps = numG (rs.take i) ps ++ rowN r ps := by
  unfold numG
  rw [List.take_add_one, h, List.flatMap_append]
  simp
theorem feet_len_all (n : Nat) : (allFeet n).length = 2 * n := by
  have h : ∀ l : List Nat, (l.map fun _ => 2).sum = 2 * l.length := fun l => by
    induction l with
    | nil => rfl
    | cons a l ih => rw [List.map_cons, List.sum_cons, ih, List.length_cons]; omega
  unfold allFeet
  simp
  rw [h, List.length_range]
theorem num_few {rs : List Row} {zs : List Zp} (ok : ClothOk rs zs) (ps : List P3) : (numG rs ps).length ≤ 22 := by
  rw [num_len, ok.feet.length_eq, feet_len_all]
  have := ok.zips
  have := ok.few
  omega
theorem num_few_take {rs : List Row} {zs : List Zp} (ok : ClothOk rs zs) (ps : List P3) {i : Nat} {r : Row} (h : rs[i]? = some r) : (numG (rs.take i) ps).length + (rowN r ps).length ≤ 22 := by
  have := num_few ok ps
  have e : numG rs ps = numG (rs.take (i + 1)) ps ++ numG (rs.drop (i + 1)) ps := by
    unfold numG
    rw [← List.flatMap_append, List.take_append_drop]
  rw [e, num_take h, List.length_append, List.length_append] at this
  omega
theorem row_few {r : Row} {ps : List P3} : (rowN r ps).length = r.feet.length + 1 := by
  unfold rowN
  rw [List.length_append, scan_len, List.length_singleton]
theorem scan_mem {ps : List P3} {r : Row} {j : Nat} {x : Foot} (h : r.feet[j]? = some x) : lowAt ps x - finG ps (at0 r ps) (r.feet.take j) ∈ rowN r ps := by
  unfold rowN
  refine List.mem_append_left _ ?_
  have e := scan_take ps r.feet (at0 r ps) j x h
  have : lowAt ps x - finG ps (at0 r ps) (r.feet.take j) ∈ scanG ps (at0 r ps) (r.feet.take (j + 1)) := by rw [e]; simp
  clear e
  generalize at0 r ps = a at *
  generalize lowAt ps x - _ = y at *
  generalize r.feet = f at *
  clear h
  have sub : ∀ (f : List Foot) (a : Int) (k : Nat), y ∈ scanG ps a (f.take k) → y ∈ scanG ps a f := fun f => by
    induction f with
    | nil => intro a k h; rwa [List.take_nil] at h
    | cons z f ih =>
      intro a k h
      cases k with
      | zero => cases h
      | succ k =>
        have h1 : y ∈ (lowAt ps z - a) :: scanG ps (highAt ps z) (f.take k) := h
        rcases List.mem_cons.mp h1 with rfl | h2
        · exact List.mem_cons_self ..
        · exact List.mem_cons_of_mem _ (ih _ _ h2)
  exact sub _ _ _ this
theorem okRow_bad {r : Row} {ps : List P3} {y : Int} (m : y ∈ rowN r ps) (h : y < 0) : okRow r ps = false := by
  cases z : okRow r ps with
  | false => rfl
  | true =>
    unfold okRow at z
    rw [Bool.and_eq_true] at z
    have := of_decide_eq_true (List.all_eq_true.mp z.2 y m)
    omega
theorem dsOf_ints (l : List Int) : dsOf (l.map fun g => Dv.d (.int g)) = some (l.map .int) := by
  have := dsOf_of (l.map PyData.int)
  rw [List.map_map] at this
  exact this
abbrev sFG : Stmt := topS 7
theorem scFG : FnScope ["cloth", "value", "found", "sort", "teeth", "feet", "at", "number", "side", "end", "entry", "low"] ["cloth", "value"] (defScope sFG) := ⟨rfl, rfl, rfl, by decide +kernel, rfl, by decide +kernel, by decide +kernel⟩
local macro_rules | `(tactic| walk_at "hF") => `(tactic| (refine iteF ?_; walk_at "y"))
local macro_rules | `(tactic| walk_at "hT") => `(tactic| (refine iteT ?_; walk_at "y"))
section
variable {P : Program} {w : World} {K : PySem.W.Frag} {mg : Str → Option Value} {base : Heap} {C fR fZ : Addr} {dR dZ : FuncData}
theorem cal_he {f : Addr} {fd : FuncData} (T : Bl mg) (G : ClsC K mg C) (F : Fun K "has_entries" "has_entries" sHE f fd) (g : mg "has_entries" = some (.ref f)) : Cal P w K mg base CX0 1 "has_entries" ["cloth", "value"] (toSp K (spHE K C)) :=
  ⟨f, fd, g, F.kp, F.binds (ps := ["cloth", "value"]) fun _ _ _ _ _ _ us hl => match us, hl with | [_, _], _ => rfl, ok_he T G F⟩
def spFG (K : PySem.W.Frag) (C : Addr) : SpD := spF fun ds y => ∃ rs zs d, ds = [clv K C rs zs, .d d] ∧ ClothOk rs zs ∧ y = .d (gapsDd rs zs d)
theorem ok_fg {f : Addr} {fd : FuncData} (T : Bl mg) (M : MC P w K mg base C fR fZ dR dZ) (cHE : Cal P w K mg base CX0 1 "has_entries" ["cloth", "value"] (toSp K (spHE K C))) (F : Fun K "find_gaps" "find_gaps" sFG f fd) : FnOk P w K mg base CX0 2 f fd ["cloth", "value"] (toSp K (spFG K C)) := by
  refine fn_d F scFG (fun ds M Φ h => ?_) (fun cdv A outer s H E hr ds M Φ h => ?_)
  · obtain ⟨_, y, ⟨_, _, _, rfl, _⟩, _⟩ := h
    rfl
  · obtain ⟨rfl, y, ⟨rs, zs, d, rfl, ok, rfl⟩, q⟩ := h
    refine ⟨_, (pss_cons (ps_if (pt_not (pt_val (pe_cal cHE (hr.mono (by decide)) pass0 (by rfl) (pa_cons (pv 0) (pa_cons (pv 1) pa_nil)))))
        (pss_one (ps_ret pe_non))
        pss_nil)
      (pss_cons (ps_set (i := 2) scFG.nd rfl (Or.inl rfl) (pe_lst pa_nil))
      (pss_cons (ps_for PassesOwn.never rfl (pi_tup (pe_meth0 (pv 0) M.cls.cl M.mR M.okR (hr.mono (by decide)) M.bR .nil pass0)) (pg_tup rfl (pgs_cons (pg_name (i := 3) scFG.nd rfl (Or.inl rfl)) (pgs_cons (pg_name (i := 4) scFG.nd rfl (Or.inl rfl)) (pgs_cons (pg_name (i := 5) scFG.nd rfl (Or.inl rfl)) pgs_nil))))
        (pss_cons (ps_set (i := 6) scFG.nd rfl (Or.inl rfl) pe_int)
        (C8.pss_cut (ps_if (pw_and (pt_cmpR op_eq (pv 3) pe_str (nomark _)) (pw_and1 (pt_truthK (K := K) rfl (pv 5) (fun _ => rfl)))).pt
          (pss_cons (ps_asg (pe_ix ix_tup (pv 5) pe_int (fun _ _ => rfl)) (pg_tup rfl (pgs_cons (pg_name (i := 7) scFG.nd rfl (Or.inl rfl)) (pgs_cons (pg_name (i := 8) scFG.nd rfl (Or.inl rfl)) pgs_nil))))
          (pss_cons (ps_set (i := 6) scFG.nd rfl (Or.inl rfl) (pe_ix ix_tup (pe_ix ix_tup (pv 1) (pv 7) (fun _ _ => rfl)) (pv 8) (fun _ _ => rfl)))
          (pss_one (ps_if (pt_not (pt_chain op_le op_lt pe_int (pv 6) (pv 4)))
            (pss_one (ps_ret pe_non))
            pss_nil))))
          pss_nil)
        (pss_cons (ps_set (i := 9) scFG.nd rfl (Or.inl rfl) (pe_op op_add (pv 6) (pv 4)))
        (pss_cons (ps_for PassesOwn.never rfl (pi_tup (pv 5)) (pg_tup rfl (pgs_cons (pg_name (i := 7) scFG.nd rfl (Or.inl rfl)) (pgs_cons (pg_name (i := 8) scFG.nd rfl (Or.inl rfl)) pgs_nil)))
          (pss_cons (ps_set (i := 10) scFG.nd rfl (Or.inl rfl) (pe_ix ix_tup (pv 1) (pv 7) (fun _ _ => rfl)))
          (pss_cons (ps_set (i := 11) scFG.nd rfl (Or.inl rfl) (pe_ix ix_tup (pv 10) (pv 8) (fun _ _ => rfl)))
          (pss_cons (ps_if (pt_cmpR op_lt (pv 11) (pv 6) (nomark _))
            (pss_one (ps_ret pe_non))
            pss_nil)
          (pss_cons (ps_expr (pe_bm PySem.F.plainAttrs_list PySem.F.slot_list_append PySem.F.type_list_append mt_append (pv 2) (pa_cons (pe_op op_sub (pv 11) (pv 6)) pa_nil)))
          (pss_one (ps_set (i := 6) scFG.nd rfl (Or.inl rfl) (pe_op op_add (pv 11) (pe_ix ix_tup (pv 10) pe_int (fun _ _ => rfl))))))))))
        (pss_cons (ps_if (pt_cmpR op_gt (pv 6) (pv 9) (nomark _))
          (pss_one (ps_ret pe_non))
          pss_nil)
        (pss_one (ps_expr (pe_bm PySem.F.plainAttrs_list PySem.F.slot_list_append PySem.F.type_list_append mt_append (pv 2) (pa_cons (pe_op op_sub (pv 9) (pv 6)) pa_nil))))))))))
      (pss_one (ps_ret (pv 2)))))), ?_⟩
    try dsimp only [cxOf, Cx.nox, Cx.wish]
    walk_at "y"
    · exact pu2 trivial trivial
    refine ⟨_, ⟨rs, zs, d, rfl, ok.zips, rfl⟩, rfl, trivial, _, rfl, ?_⟩
    have st := state_ent rs zs d
    cases he : entB zs d with
    | false =>
      rw [he, Bool.false_and] at st
      have e0 : gapsDd rs zs d = .none := by unfold gapsDd; rw [st]; cases tripsD d <;> rfl
      rw [e0] at q
      walk_at "hT"
      exact out_0 trivial q
    | true =>
      obtain ⟨ps, rfl, et, el⟩ := ent_of he
      rw [he, Bool.true_and, et] at st
      dsimp only at st
      have bad : rs.all (fun r => okRow r ps) = false → Φ (.d .none) [] := fun hb => by
        have e0 : gapsDd rs zs (.tuple (ps.map p3D)) = .none := by unfold gapsDd; rw [et, st, hb]; rfl
        rw [e0] at q
        exact q
      walk_at "hF"
      refine ex_own (ax_nil ⟨by decide, ?_⟩)
      walk_at "y"
      refine st_for ?_
      walk_at "y"
      refine ⟨fun i sl' M' => ∃ x3 x4 x5 x6 x7 x8 x9 x10 x11 : Option Dv, sl' = [some (clv K C rs zs), some (.d (.tuple (ps.map p3D))), some (.r 0), x3, x4, x5, x6, x7, x8, x9, x10, x11] ∧ M' = [.lst ((numG (rs.take i) ps).map fun g => .d (.int g))] ∧ (rs.take i).all (fun r => okRow r ps) = true, ⟨none, none, none, none, none, none, none, none, none, rfl, rfl, by simp⟩, fun _ _ _ _ => trivial, ?_, ?_⟩
      · rintro i x sl' M' hx ⟨x3, x4, x5, x6, x7, x8, x9, x10, x11, rfl, rfl, good⟩
        obtain ⟨r, hr, rfl⟩ := map2_at hx
        have rm := List.mem_of_getElem? hr
        have fin := ok.footIn rm
        have badr : okRow r ps = false → Φ (.d .none) [] := fun hb => bad (by
          cases z : rs.all (fun r => okRow r ps) with
          | false => rfl
          | true => rw [List.all_eq_true.mp z r rm] at hb; cases hb)
        walk_at "y"
        refine st_cut (fun sl' M' => ∃ x7 x8 : Option Dv, sl' = [some (clv K C rs zs), some (.d (.tuple (ps.map p3D))), some (.r 0), some (.d (.str (sortS r.ring))), some (.d (.int r.teeth)), some (.d (.tuple (r.feet.map footD))), some (.d (.int (at0 r ps))), x7, x8, x9, x10, x11] ∧ M' = [.lst ((numG (rs.take i) ps).map fun g => .d (.int g))] ∧ (if r.ring && !r.feet.isEmpty then decide (0 ≤ at0 r ps) && decide (at0 r ps < r.teeth) else true) = true) ?_ ?_
        · walk_at "y"
          rw [sort_ring]
          cases er : r.ring with
          | false =>
            have e0 : at0 r ps = 0 := by unfold at0; rw [er]; rfl
            walk_at "hF"
            walk_at "hF"
            exact ⟨_, _, by rw [e0]; rfl, rfl, by simp⟩
          | true =>
            walk_at "hT"
            cases ef : r.feet with
            | nil =>
              have e0 : at0 r ps = 0 := by unfold at0; rw [ef, Bool.and_comm]; rfl
              walk_at "hF"
              exact ⟨_, _, by rw [e0]; rfl, rfl, by simp⟩
            | cons x f =>
              have e0 : at0 r ps = lowAt ps x := by unfold at0 lowsL; rw [er, ef]; rfl
              have fx : FootIn ps.length x := by rw [el]; exact fin x (by rw [ef]; exact List.mem_cons_self ..)
              walk_at "hT"
              refine od_ixT (atI_nat (j := 0) rfl) ?_
              walk_at "y"
              refine od_ixT (ix_ent fx) ?_
              walk_at "y"
              refine od_ixT (ix_low fx) ?_
              walk_at "y"
              by_cases c0 : 0 ≤ lowAt ps x
              · rw [decide_eq_true c0]
                walk_at "hT"
                by_cases c1 : lowAt ps x < r.teeth
                · rw [decide_eq_true c1]
                  walk_at "hF"
                  exact ⟨_, _, by rw [e0]; rfl, rfl, by rw [e0, decide_eq_true c0, decide_eq_true c1]; simp⟩
                · rw [decide_eq_false c1]
                  walk_at "hT"
                  refine out_0 trivial (badr ?_)
                  unfold okRow
                  rw [er, ef, e0, decide_eq_false c1]
                  simp
              · rw [decide_eq_false c0]
                walk_at "hF"
                walk_at "hT"
                refine out_0 trivial (badr ?_)
                unfold okRow
                rw [er, ef, e0, decide_eq_false c0]
                simp
        · rintro sl' M' ⟨x7, x8, rfl, rfl, okA⟩
          walk_at "y"
          refine st_for ?_
          walk_at "y"
          refine ⟨fun j sl' M' => ∃ x7 x8 x10 x11 : Option Dv, sl' = [some (clv K C rs zs), some (.d (.tuple (ps.map p3D))), some (.r 0), some (.d (.str (sortS r.ring))), some (.d (.int r.teeth)), some (.d (.tuple (r.feet.map footD))), some (.d (.int (finG ps (at0 r ps) (r.feet.take j)))), x7, x8, some (.d (.int (at0 r ps + r.teeth))), x10, x11] ∧ M' = [.lst ((numG (rs.take i) ps ++ scanG ps (at0 r ps) (r.feet.take j)).map fun g => .d (.int g))] ∧ (scanG ps (at0 r ps) (r.feet.take j)).all (fun g => decide (g ≥ 0)) = true, ⟨_, _, _, _, rfl, by simp [scanG], by simp [scanG]⟩, fun _ _ _ _ => trivial, ?_, ?_⟩
          · rintro j x sl' M' hx2 ⟨x7, x8, x10, x11, rfl, rfl, okS⟩
            obtain ⟨ft, hft, rfl⟩ := map2_at hx2
            have fx : FootIn ps.length ft := by rw [el]; exact fin ft (List.mem_of_getElem? hft)
            have jl := (List.getElem?_eq_some_iff.mp hft).1
            have nf := num_few_take ok ps hr
            rw [row_few] at nf
            walk_at "y"
            refine od_ixT (ix_ent fx) ?_
            walk_at "y"
            refine od_ixT (ix_low fx) ?_
            walk_at "y"
            by_cases lt : lowAt ps ft < finG ps (at0 r ps) (r.feet.take j)
            · rw [decide_eq_true lt]
              walk_at "hT"
              exact out_0 trivial (badr (okRow_bad (scan_mem hft) (by omega)))
            · rw [decide_eq_false lt]
              walk_at "hF"
              refine ⟨_, _, rfl, rfl, ?_, ?_⟩
              · rw [List.length_map, List.length_append, scan_len, List.length_take]; omega
              walk_at "y"
              refine od_ixT ix_many ?_
              walk_at "y"
              dsimp only
              rw [fin_take ps r.feet _ j ft hft, scan_take ps r.feet _ j ft hft]
              refine ⟨_, _, _, _, rfl, by simp, ?_⟩
              rw [List.all_append, okS]
              simp
              omega
          · rintro sl' M' ⟨x7, x8, x10, x11, rfl, rfl, okS⟩
            rw [List.length_map, List.length_map, List.take_length] at *
            walk_at "y"
            have nf := num_few_take ok ps hr
            rw [row_few] at nf
            by_cases lt : at0 r ps + r.teeth < finG ps (at0 r ps) r.feet
            · rw [decide_eq_true lt]
              walk_at "hT"
              exact out_0 trivial (badr (okRow_bad (y := at0 r ps + r.teeth - finG ps (at0 r ps) r.feet) (by unfold rowN; simp) (by omega)))
            · rw [decide_eq_false lt]
              walk_at "hF"
              refine ⟨_, _, rfl, rfl, ?_, ?_⟩
              · rw [List.length_map, List.length_append, scan_len]; omega
              walk_at "y"
              refine ⟨_, _, _, _, _, _, _, _, _, rfl, ?_, ?_⟩
              · rw [num_take hr]; unfold rowN; simp
              · rw [List.take_add_one, hr, List.all_append, good]
                have : okRow r ps = true := by
                  unfold okRow rowN
                  rw [okA, List.all_append, okS]
                  simp
                  omega
                simp [this]
      · rintro sl' M' ⟨x3, x4, x5, x6, x7, x8, x9, x10, x11, rfl, rfl, good⟩
        rw [List.length_map, List.length_map, List.take_length] at *
        walk_at "y"
        have e0 : gapsDd rs zs (.tuple (ps.map p3D)) = .list ((numG rs ps).map .int) := by unfold gapsDd; rw [et, st, good]; rfl
        rw [e0] at q
        exact out_L rfl (dsOf_ints _) q
end
end Zs
namespace Zs
open PySem PySem.Spec PyProof.Rows L2
local macro_rules | `(tactic| walk_at "z1") => `(tactic| first
  | (with_reducible refine' st_seq ?_) | (with_reducible refine' st_asg ?_) | (with_reducible refine' st_ret ?_) | (with_reducible refine' st_drop ?_) | (with_reducible refine' st_if ?_) | (with_reducible refine' st_next ?_) | (with_reducible refine' st_retN ?_) | (with_reducible refine' st_par ?_) | (with_reducible refine' st_break ?_) | (with_reducible refine' st_cont ?_)
  | ((with_reducible refine' st_augI ?h1 ?_); (case h1 => rfl))
  | (with_reducible refine' gd_name ?_) | ((with_reducible refine' gd_tup ?h1 ?_); (case h1 => rfl)) | ((with_reducible refine' gd_tupP ?h1 ?_); (case h1 => rfl)) | (with_reducible refine' gs_consP ?_) | (with_reducible refine' gs_nilP ?_) | (with_reducible refine' gs_consM ?_) | (with_reducible refine' gs_nilM ?_) | (with_reducible refine' gs_cons ?_) | (with_reducible refine' gs_nil ?_)
  | ((with_reducible refine' ex_varP ?h1 ?_); (case h1 => rfl)) | ((with_reducible refine' ex_var ?h1 ?_); (case h1 => rfl)) | (with_reducible refine' ex_int ?_) | (with_reducible refine' ex_bl ?_) | (with_reducible refine' ex_str ?_) | (with_reducible refine' ex_non ?_) | (with_reducible refine' ex_ty ?_)
  | (with_reducible refine' ex_op ?_) | (with_reducible refine' ex_un ?_) | (with_reducible refine' ex_cb ?_) | (with_reducible refine' ex_tupD ?_) | (with_reducible refine' ex_call ?_) | (with_reducible refine' ex_if ?_) | (with_reducible refine' ex_andV ?_) | (with_reducible refine' ex_orV ?_) | (with_reducible refine' ex_notV ?_) | (with_reducible refine' ex_isN ?_) | (with_reducible refine' ex_notN ?_) | (with_reducible refine' ex_chain ?_) | (with_reducible refine' ex_sl ?_) | (with_reducible refine' ex_bm ?_) | ((with_reducible refine' md_append ?h1 ?_); (case h1 => rfl))
  | (with_reducible refine' ad_cons ?_) | (with_reducible refine' ad_nil ?_) | (with_reducible refine' ax_cons ?_) | (with_reducible refine' ax_nil ?_) | (with_reducible refine' to_none ?_) | (with_reducible refine' to_some ?_)
  | (with_reducible refine' tt_test ?_) | (with_reducible refine' tt_B ?_) | (with_reducible refine' tt_and ?_) | (with_reducible refine' tt_or ?_) | (with_reducible refine' tt_not ?_) | (with_reducible refine' tt_yes ?_) | (with_reducible refine' tt_truT ?_)
  | (with_reducible refine' od_add ?_) | (with_reducible refine' od_sub ?_) | (with_reducible refine' od_lt ?_) | (with_reducible refine' od_le ?_) | (with_reducible refine' od_gt ?_) | (with_reducible refine' od_ge ?_) | (with_reducible refine' od_eqI ?_) | (with_reducible refine' od_neI ?_) | (with_reducible refine' od_eqS ?_) | (with_reducible refine' od_neS ?_) | (with_reducible refine' ud_neg ?_)
  | (with_reducible refine' od_isX ?_) | (with_reducible refine' od_notX ?_) | (with_reducible refine' cd_isiInt ?_) | (with_reducible refine' cd_isiTup ?_) | (with_reducible refine' cd_isiStr ?_) | (with_reducible refine' cd_isiLst ?_)
  | (with_reducible refine' cd_lenT ?_) | (with_reducible refine' cd_tupT ?_) | (with_reducible refine' cd_tupD ?_) | (with_reducible refine' cd_lenD ?_) | (with_reducible refine' cd_all ?_) | (with_reducible refine' cd_any ?_) | (with_reducible refine' cd_max2 ?_) | (with_reducible refine' cd_min2 ?_) | (with_reducible refine' cd_abs ?_) | (with_reducible refine' sd_tupA ?_)
  | ((with_reducible refine' it_tupP ?h1 ?_); (case h1 => rfl)) | ((with_reducible refine' it_enumP ?h1 ?_); (case h1 => rfl)) | (with_reducible refine' it_enumT ?_) | (with_reducible refine' ex_dnewT ?_) | (with_reducible refine' ex_dgetP ?_) | (with_reducible refine' it_tup ?_) | (with_reducible refine' it_rng1 ?_) | (with_reducible refine' it_rng2 ?_)
  | (refine' ⟨_, rfl, ?_⟩) | (refine' ⟨rfl, ?_⟩))
local macro_rules | `(tactic| walk_at "z") => `(tactic| repeat (walk_at "z1"))
local macro_rules | `(tactic| walk_at "gm") => `(tactic| (repeat (first | exact gm_name | exact gm_nil | refine gm_tup ?_ | refine gm_cons ?_ ?_)))
local macro_rules | `(tactic| walk_at "gw") => `(tactic| (repeat (first | exact gw_nil | exact gw_name (by simp) | refine gw_tup ?_ | (refine gw_cons (by walk_at "gm") (by walk_at "gm") ?_ ?_))))
local macro_rules | `(tactic| walk_at "y1") => `(tactic| first | (walk_at "z1") | ((with_reducible refine' ex_min ?h1 ?_); (case h1 => assumption)) | ((with_reducible refine' ex_fac ?h1 ?_); (case h1 => assumption)) | ((with_reducible refine' ex_trn ?h1 ?_); (case h1 => assumption)) | ((with_reducible refine' ex_nbs ?h1 ?_); (case h1 => assumption)) | ((with_reducible refine' ex_gbf ?h1 ?_); (case h1 => assumption)) | ((with_reducible refine' ex_gbs ?h1 ?_); (case h1 => assumption)) | ((with_reducible refine' ex_rbf ?h1 ?_); (case h1 => assumption)) | (with_reducible refine' ex_rows ?_) | (with_reducible refine' ex_zips ?_) | (with_reducible refine' it_zipA ?_) | (refine' ⟨_, _, (rfl : clv _ _ _ _ = clv _ _ _ _), ?_⟩))
local macro_rules | `(tactic| walk_at "y") => `(tactic| repeat (walk_at "y1"))
/-! ### data of tuples only: no list on it can change -/
inductive TD : PyData → Prop
  | non : TD .none
  | bl (b : Bool) : TD (.bool b)
  | int (i : Int) : TD (.int i)
  | str (s : Str) : TD (.str s)
  | tup {ds : List PyData} : (∀ d ∈ ds, TD d) → TD (.tuple ds)
theorem dp_but {K : PySem.W.Frag} {H H' : Hp} {a : Addr} {ys : List V} (ha : H a = some (.lst ys)) (b : But a H H') {d : PyData} (t : TD d) : ∀ {v : V}, Dp K H v d → Dp K H' v d := by
  induction t with
  | non => intro v h; cases h; exact .non
  | bl x => intro v h; cases h; exact .bl x
  | int x => intro v h; cases h; exact .int x
  | str x => intro v h; cases h; exact .str x
  | tup _ ih =>
    intro v h
    cases h with
    | tup sq al =>
      refine .tup (b.seqT ha sq) ?_
      have : ∀ {vs : List V} {ds : List PyData}, (∀ d ∈ ds, ∀ {v : V}, Dp K H v d → Dp K H' v d) → DpAll K H vs ds → DpAll K H' vs ds := fun {vs ds} => by
        induction ds generalizing vs with
        | nil => intro _ al; cases al; exact .nil
        | cons d ds ih2 =>
          intro f al
          cases al with | cons h t => exact .cons (f d (List.mem_cons_self ..) h) (ih2 (fun d m => f d (List.mem_cons_of_mem _ m)) t)
      exact this ih al
theorem dq_but {K : PySem.W.Frag} {H H' : Hp} {a : Addr} {ys : List V} (ha : H a = some (.lst ys)) (b : But a H H') {d : PyData} (t : TD d) : ∀ {v : V}, Dq K H v d → Dq K H' v d := by
  induction t with
  | non => intro v h; cases h; exact .non
  | bl x => intro v h; cases h; exact .bl x
  | int x => intro v h; cases h; exact .int x
  | str x => intro v h; cases h; exact .str x
  | tup _ ih =>
    intro v h
    cases h with
    | tup sq fl al =>
      refine .tup (b.seqT ha sq) (fun z => b _ _ (ne_of (fl z) ha (by intro z; cases z)) (fl z)) ?_
      have : ∀ {vs : List V} {ds : List PyData}, (∀ d ∈ ds, ∀ {v : V}, Dq K H v d → Dq K H' v d) → DqAll K H vs ds → DqAll K H' vs ds := fun {vs ds} => by
        induction ds generalizing vs with
        | nil => intro _ al; cases al; exact .nil
        | cons d ds ih2 =>
          intro f al
          cases al with | cons h t => exact .cons (f d (List.mem_cons_self ..) h) (ih2 (fun d m => f d (List.mem_cons_of_mem _ m)) t)
      exact this ih al
theorem td_map {α : Type} {f : α → PyData} {l : List α} (h : ∀ x, TD (f x)) : TD (.tuple (l.map f)) := .tup fun d m => by
  obtain ⟨x, _, rfl⟩ := List.mem_map.mp m
  exact h x
theorem td_two {x y : PyData} (a : TD x) (b : TD y) : TD (.tuple [x, y]) := .tup fun d m => by
  simp only [List.mem_cons, List.not_mem_nil, or_false] at m
  rcases m with rfl | rfl
  · exact a
  · exact b
theorem td_three {x y z : PyData} (a : TD x) (b : TD y) (c : TD z) : TD (.tuple [x, y, z]) := .tup fun d m => by
  simp only [List.mem_cons, List.not_mem_nil, or_false] at m
  rcases m with rfl | rfl | rfl
  · exact a
  · exact b
  · exact c
theorem td_pr (p : Int × Int) : TD (prI p) := td_two (.int _) (.int _)
theorem td_foot (x : Foot) : TD (footD x) := td_two (.int _) (.int _)
theorem td_row (r : Row) : TD (rowD r) := td_three (.str _) (.int _) (td_map td_foot)
theorem td_getD {l : List PyData} (h : ∀ d ∈ l, TD d) (j : Nat) : TD (l.getD j .none) := by
  rw [List.getD_eq_getElem?_getD]
  cases e : l[j]? with
  | none => exact .non
  | some d => exact h d (List.mem_of_getElem? e)
theorem td_around (r : Row) : ∀ d ∈ aroundL r, TD d := by
  unfold aroundL
  intro d m
  have ft : ∀ d ∈ feetL r, TD d := fun d m => by
    unfold feetL at m
    obtain ⟨x, _, rfl⟩ := List.mem_map.mp m
    exact td_foot x
  split at m
  · rcases List.mem_append.mp m with m | m
    · rcases List.mem_append.mp m with m | m
      · exact ft d (List.mem_of_mem_drop m)
      · exact ft d m
    · exact ft d (List.mem_of_mem_take m)
  · rcases List.mem_append.mp m with m | m
    · rcases List.mem_append.mp m with m | m
      · rw [List.mem_singleton.mp m]; exact .non
      · exact ft d m
    · rw [List.mem_singleton.mp m]; exact .non
theorem td_nb (rs : List Row) (x : Foot) : TD (nbF rs x) := by
  unfold nbF ofPos
  split
  · exact td_two (td_getD (td_around _) _) (td_getD (td_around _) _)
  · exact .non
theorem ClothA.but {K : PySem.W.Frag} {C a : Addr} {rs : List Row} {zs : List Zp} {v : V} {H H' : Hp} {ys : List V} (h : ClothA K C rs zs v H) (ha : H a = some (.lst ys)) (b : But a H H') : ClothA K C rs zs v H' := by
  obtain ⟨p, dx, ws, rfl, e, f, n⟩ := h
  refine ⟨p, dx, ws, rfl, b _ _ (ne_of e ha (by intro z; cases z)) e, fun q m => ?_, n⟩
  obtain ⟨u, e1, e2⟩ := f q m
  refine ⟨u, e1, ?_⟩
  unfold clothL at m
  simp only [List.mem_cons, List.not_mem_nil, or_false] at m
  rcases m with rfl | rfl | rfl | rfl | rfl | rfl | rfl | rfl | rfl
  · exact dp_but ha b (.tup fun d m => by
      unfold sldL at m
      obtain ⟨i, _, rfl⟩ := List.mem_map.mp m
      exact td_two (td_pr _) (td_pr _)) e2
  · exact dp_but ha b (td_map fun i => td_two (td_pr _) (td_pr _)) e2
  · exact dp_but ha b (td_map fun i => td_two (td_nb _ _) (td_nb _ _)) e2
  · exact dp_but ha b (td_map fun i => .int _) e2
  · exact dp_but ha b (td_map fun i => .int _) e2
  · exact dp_but ha b (td_map fun i => .int _) e2
  · obtain ⟨x, us, rfl, ea, no, yes⟩ := e2
    refine ⟨x, us, rfl, b _ _ (ne_of ea ha (by intro z; cases z)) ea, no, fun k d q => ?_⟩
    obtain ⟨u, eu, du⟩ := yes k d q
    refine ⟨u, eu, dp_but ha b ?_ du⟩
    unfold rowT tabP at q
    split at q
    · cases q
    · rename_i x _
      cases z : posF rs x with
      | none => rw [z] at q; cases q
      | some p => rw [z] at q; cases q; exact .int _
  · exact dp_but ha b (td_map fun i => td_two (.str _) (.int _)) e2
  · exact dq_but ha b (td_map td_row) e2
theorem gaps_none (rs : List Row) (zs : List Zp) (d : PyData) : (isStateB rs zs d = true ∧ ∃ l, gapsDd rs zs d = .list l) ∨ (isStateB rs zs d = false ∧ gapsDd rs zs d = .none) := by
  unfold gapsDd
  cases e : tripsD d with
  | none => exact .inr ⟨by unfold isStateB; rw [e], rfl⟩
  | some ps =>
    dsimp only
    cases z : isStateB rs zs d with
    | false => exact .inr ⟨rfl, rfl⟩
    | true => exact .inl ⟨rfl, _, rfl⟩
abbrev sIS : Stmt := topS 5
theorem scIS : FnScope ["cloth", "value"] ["cloth", "value"] (defScope sIS) := ⟨rfl, rfl, rfl, by decide +kernel, rfl, by decide +kernel, by decide +kernel⟩
section
variable {P : Program} {w : World} {K : PySem.W.Frag} {mg : Str → Option Value} {base : Heap} {C fR fZ : Addr} {dR dZ : FuncData}
theorem cal_fg {f : Addr} {fd : FuncData} (T : Bl mg) (M : MC P w K mg base C fR fZ dR dZ) (cHE : Cal P w K mg base CX0 1 "has_entries" ["cloth", "value"] (toSp K (spHE K C))) (F : Fun K "find_gaps" "find_gaps" sFG f fd) (g : mg "find_gaps" = some (.ref f)) : Cal P w K mg base CX0 2 "find_gaps" ["cloth", "value"] (toSp K (spFG K C)) :=
  ⟨f, fd, g, F.kp, F.binds (ps := ["cloth", "value"]) fun _ _ _ _ _ _ us hl => match us, hl with | [_, _], _ => rfl, ok_fg T M cHE F⟩
def spISd (K : PySem.W.Frag) (C : Addr) : SpD := spF fun ds y => ∃ rs zs d, ds = [clv K C rs zs, .d d] ∧ ClothOk rs zs ∧ y = .d (.bool (isStateB rs zs d))
theorem ok_isd {f : Addr} {fd : FuncData} (T : Bl mg) (cFG : Cal P w K mg base CX0 2 "find_gaps" ["cloth", "value"] (toSp K (spFG K C))) (F : Fun K "is_state" "is_state" sIS f fd) : FnOk P w K mg base CX0 3 f fd ["cloth", "value"] (toSp K (spISd K C)) := by
  refine fn_d F scIS (fun ds M Φ h => ?_) (fun cdv A outer s H E hr ds M Φ h => ?_)
  · obtain ⟨_, y, ⟨_, _, _, rfl, _⟩, _⟩ := h
    rfl
  · obtain ⟨rfl, y, ⟨rs, zs, d, rfl, ok, rfl⟩, q⟩ := h
    refine ⟨_, (pss_one (ps_ret (pe_cmp (pc_notN (pe_cal cFG (hr.mono (by decide)) pass0 (by rfl) (pa_cons (pv 0) (pa_cons (pv 1) pa_nil)))) rfl))), ?_⟩
    try dsimp only [cxOf, Cx.nox, Cx.wish]
    walk_at "y"
    · exact pu2 trivial trivial
    refine ⟨_, ⟨rs, zs, d, rfl, ok, rfl⟩, rfl, trivial, ?_⟩
    walk_at "y"
    rcases gaps_none rs zs d with ⟨e1, l, e2⟩ | ⟨e1, e2⟩
    · rw [e1] at q
      rw [e2]
      exact out_0 trivial q
    · rw [e1] at q
      rw [e2]
      exact out_0 trivial q
def spIS (K : PySem.W.Frag) (C : Addr) : Sp := fun vs H Q _ => ∃ (p : Addr) (rs : List Row) (zs : List Zp) (v : V) (d : PyData), vs = [.ref p, v] ∧ ClothA K C rs zs (.ref p) H ∧ ClothOk rs zs ∧ Dp K H v d ∧
  ∀ H', Same H H' → Q (.bl (isStateB rs zs d)) H'
theorem ok_is {f : Addr} {fd : FuncData} (h : FnOk P w K mg base CX0 3 f fd ["cloth", "value"] (toSp K (spISd K C))) : FnOk P w K mg base CX0 3 f fd ["cloth", "value"] (spIS K C) :=
  h.imp fun vs H Q E h => by
    obtain ⟨p, rs, zs, v, d, rfl, hc, ok, hd, q⟩ := h
    refine ⟨[], [], [], [clv K C rs zs, .d d], fun y M => y = .d (.bool (isStateB rs zs d)) ∧ M = [], repM0 K H, .cons (rep_o0 (fun _ _ s h => h.mono s) hc) (.cons (rep_d0 hd) .nil), ⟨rfl, _, ⟨rs, zs, d, rfl, ok, rfl⟩, rfl, rfl⟩, fun v y φ' H' M' s m r h => ?_⟩
    obtain ⟨rfl, rfl⟩ := h
    have e : φ' = [] := List.length_eq_zero_iff.mp m.len
    subst e
    have := of_d0 r
    cases this
    exact q H' (stp0 s)
theorem cal_is {f : Addr} {fd : FuncData} (T : Bl mg) (cFG : Cal P w K mg base CX0 2 "find_gaps" ["cloth", "value"] (toSp K (spFG K C))) (F : Fun K "is_state" "is_state" sIS f fd) (g : mg "is_state" = some (.ref f)) : Cal P w K mg base CX0 3 "is_state" ["cloth", "value"] (spIS K C) :=
  ⟨f, fd, g, F.kp, F.binds (ps := ["cloth", "value"]) fun _ _ _ _ _ _ us hl => match us, hl with | [_, _], _ => rfl, ok_is (ok_isd T cFG F)⟩
end
end Zs
namespace Zs
open PySem PySem.Spec PyProof.Rows L2
theorem u64 {A : Around} {k : Nat} (r : Room k A) : A.units + 64 < cLine := by have := r.un; omega
/-! ### a row's places, one after the other -/
def chk (ps : List P3) : List Foot → Int → Int → Bool
  | [], place, most => decide (most - place ≥ 0)
  | x :: xs, place, most => decide (lowAt ps x - place ≥ 0) && chk ps xs (highAt ps x) most
theorem chk_zip (ps : List P3) (most : Int) : ∀ (xs : List Foot) (place : Int), (List.zipWith (fun s e => e - s) (place :: xs.map (highAt ps)) (xs.map (lowAt ps) ++ [most])).all (fun g => decide (g ≥ 0)) = chk ps xs place most
  | [], place => by
    show (decide (most - place ≥ 0) && true) = _
    rw [Bool.and_true]
    rfl
  | x :: xs, place => by
    show (decide (lowAt ps x - place ≥ 0) && (List.zipWith (fun s e => e - s) (highAt ps x :: xs.map (highAt ps)) (xs.map (lowAt ps) ++ [most])).all (fun g => decide (g ≥ 0))) = _
    rw [chk_zip ps most xs]
    rfl
theorem fits_line {r : Row} {ps : List P3} (h : r.ring = false) : fitsB r ps = chk ps r.feet 0 r.teeth := by
  unfold fitsB gapsL startsL endsL lowsL highsL
  rw [h]
  exact chk_zip ps r.teeth r.feet 0
theorem fits_ring {r : Row} {ps : List P3} {x : Foot} {xs : List Foot} (h : r.ring = true) (hf : r.feet = x :: xs) : fitsB r ps = ((decide (0 ≤ lowAt ps x) && decide (lowAt ps x < r.teeth)) && chk ps xs (highAt ps x) (lowAt ps x + r.teeth)) := by
  unfold fitsB gapsL startsL endsL lowsL highsL
  rw [h, hf]
  show ((decide (0 ≤ lowAt ps x) && decide (lowAt ps x < r.teeth)) && (List.zipWith (fun s e => e - s) (highAt ps x :: xs.map (highAt ps)) (xs.map (lowAt ps) ++ [lowAt ps x + r.teeth])).all (fun g => decide (g ≥ 0))) = _
  rw [chk_zip]
theorem fits_bare {r : Row} {ps : List P3} (h : r.ring = true) (hf : r.feet = []) : fitsB r ps = decide (r.teeth ≥ 0) := by
  unfold fitsB gapsL
  rw [h, hf]
  show (true && (decide (r.teeth ≥ 0) && true)) = _
  rw [Bool.and_true, Bool.true_and]
section
variable {K : PySem.W.Frag}
theorem state_tup {rs : List Row} {zs : List Zp} {ds : List PyData} : isStateB rs zs (.tuple ds) = match tripsL ds with
    | some ps => decide (ps.length = zs.length) && ((List.zipWith (fun (p : P3) (z : Zp) => decide (z.2 ≤ p.2.2)) ps zs).all id && rs.all fun r => fitsB r ps)
    | none => false := rfl
theorem trips_bad {d : PyData} : ∀ {ds : List PyData} {i : Nat}, ds[i]? = some d → tripD d = none → tripsL ds = none
  | [], _, h, _ => by simp at h
  | e :: ds, 0, h, hd => by
    have e1 := Option.some.inj h
    subst e1
    show (match tripD e, tripsL ds with | some p, some ps => some (p :: ps) | _, _ => none) = none
    rw [hd]
  | e :: ds, i + 1, h, hd => by
    have ih := trips_bad (ds := ds) (i := i) h hd
    show (match tripD e, tripsL ds with | some p, some ps => some (p :: ps) | _, _ => none) = none
    rw [ih]
    cases tripD e <;> rfl
theorem trips_get {p : P3} : ∀ {ds : List PyData} {ps : List P3} {i : Nat} {d : PyData}, tripsL ds = some ps → ds[i]? = some d → tripD d = some p → ps[i]? = some p := by
  intro ds ps i d h hd hp
  rcases trips_of ds with ⟨ps', f1, f2, _⟩ | ⟨f1, _⟩
  · have e := Option.some.inj (f1.symm.trans h)
    subst e
    subst f2
    rw [List.getElem?_map] at hd
    cases e : ps'[i]? with
    | none => rw [e] at hd; cases hd
    | some q =>
      rw [e] at hd
      have e2 := Option.some.inj hd
      rw [← e2] at hp
      exact hp
  · rw [f1] at h; cases h
theorem zip_bad : ∀ {ps : List P3} {zs : List Zp} {i : Nat} {p : P3} {z : Zp}, ps[i]? = some p → zs[i]? = some z → p.2.2 < z.2 → (List.zipWith (fun (p : P3) (z : Zp) => decide (z.2 ≤ p.2.2)) ps zs).all id = false
  | [], _, _, _, _, h, _, _ => by simp at h
  | _ :: _, [], _, _, _, _, h, _ => by simp at h
  | a :: ps, b :: zs, 0, p, z, h, h', hl => by
    have e1 := Option.some.inj h
    have e2 := Option.some.inj h'
    subst e1
    subst e2
    rw [List.zipWith_cons_cons, List.all_cons]
    show (decide (b.2 ≤ a.2.2) && _) = false
    rw [decide_eq_false (by omega), Bool.false_and]
  | a :: ps, b :: zs, i + 1, p, z, h, h', hl => by
    have ih := zip_bad (ps := ps) (zs := zs) (i := i) (by simpa using h) (by simpa using h') hl
    rw [List.zipWith_cons_cons, List.all_cons, ih, Bool.and_false]
theorem zip_good : ∀ {ps : List P3} {zs : List Zp}, (∀ (i : Nat) (p : P3) (z : Zp), ps[i]? = some p → zs[i]? = some z → z.2 ≤ p.2.2) → (List.zipWith (fun (p : P3) (z : Zp) => decide (z.2 ≤ p.2.2)) ps zs).all id = true
  | [], _, _ => by simp
  | _ :: _, [], _ => by simp
  | a :: ps, b :: zs, h => by
    have ih := zip_good (ps := ps) (zs := zs) fun i p z h1 h2 => h (i + 1) p z (by simpa using h1) (by simpa using h2)
    rw [List.zipWith_cons_cons, List.all_cons, ih, Bool.and_true]
    exact decide_eq_true (h 0 a b rfl rfl)
end
end Zs
namespace Zs
open PySem PySem.Spec PyProof.Rows L2
/-! ### zip of a tuple with a list -/
theorem turn_sub {P : Program} {w : World} {K : PySem.W.Frag} {tg : Expr} {J : It} {fp : List Addr} {it : Addr} {tn : Nat → Heap → Prop} (mem : it ∈ fp)
    (obj : ∀ i h, tn i h → ∀ b ∈ fp, ∃ o, h.get? b = some o ∧ ∀ v, o.data ≠ .cell v)
    (keep : ∀ i h h', tn i h → (∀ b ∈ fp, ∀ o, h.get? b = some o → h'.get? b = some o) → tn i h')
    (go : ∀ (X : Cx), X.prog = P → X.w = w → X.K = K → X.calm = true → ∀ (i : Nat) (pins : List (Addr × Obj)) (s : Shared) (σ : L2.St) (H : Hp), Inv X pins σ H s → tn i s.heap → J.go i H →
      ∃ (n : Nat) (Y : Nat → Heap → Value → Heap → Prop) (S : Nat → Heap → Prop) (fp' wr : List Addr), GoesN P w X.A tg it fp' wr n Y S ∧ (∀ b ∈ wr, b ∈ fp) ∧ i < n ∧ S i s.heap ∧ (∀ h₂, S (i + 1) h₂ → tn (i + 1) h₂) ∧ ∀ v h₂, Y i s.heap v h₂ → GoGives J i H s v h₂)
    (fin : ∀ (X : Cx), X.prog = P → X.w = w → X.K = K → X.calm = true → ∀ (i : Nat) (pins : List (Addr × Obj)) (s : Shared) (σ : L2.St) (H : Hp) (E : Value → Shared → Prop), Inv X pins σ H s → (∀ b ∈ fp, FpOk X pins H b) → tn i s.heap → J.stop i H →
      wpAny (model P w) X.A (pyNext (.ref it)) (fun r s1 => r = none ∧ Inv X pins σ H s1) E s)
    (self : ∀ (A : Around) (i : Nat) (s : Shared) (Q : Value → Shared → Prop) (E : Value → Shared → Prop), tn i s.heap → Q (.ref it) s → wpAny (model P w) A (pyIter (.ref it)) Q E s) : Turn P w K tg J fp it tn := by
  refine ⟨mem, obj, keep, ?_, fin, self⟩
  intro X eP ew eK calm i pins s σ H E inv ok tni goi
  obtain ⟨n, Y, S, fp', wr, W, sub, lt, si, next, gives⟩ := go X eP ew eK calm i pins s σ H inv tni goi
  refine W.goes i s (fun u s2 => ∃ x H', Inv X pins σ H' s2 ∧ RelV x u ∧ J.yld i H x H' ∧ tn (i + 1) s2.heap ∧ ∀ b ∈ fp, H' b = none) E lt si fun v h₂ tk y s2 kept _ => ?_
  obtain ⟨T, xs, vals, rfl, new, tup, rel, len, yld⟩ := gives v h₂ y
  subst eP ew
  have good : ObjOk X.prog X.w (upd H T (.tup xs)) h₂ T (.tup xs) := ⟨len, vals.toList, rel, by rw [Array.toArray_toList]; exact tup⟩
  refine ⟨.ref T, _, inv.turnedNew (t' := tk) (fun b o out at_ => kept b o (fun inWr => out (sub b inWr)) at_) ok new good, rfl, yld, next h₂ s2, fun b inFp => ?_⟩
  obtain ⟨ob, there, _⟩ := obj i _ tni b inFp
  rw [upd_ne (Nat.ne_of_lt (Nat.lt_of_lt_of_le (Heap.lt_size there) new))]
  exact (ok b inFp).1
/-- the tuple at a, the list at b, their items in new pairs -/
def ItzM (K : PySem.W.Frag) (a b : Addr) : It where
  go i H := ∃ (xs ys : List V) (x y : V), SqT K H a xs ∧ SqL K H b ys ∧ xs[i]? = some x ∧ ys[i]? = some y
  yld i H v H' := ∃ T x y, v = .ref T ∧ H T = none ∧ H' = upd H T (.tup [x, y]) ∧ (∀ xs, SqT K H a xs → xs[i]? = some x) ∧ ∀ ys, SqL K H b ys → ys[i]? = some y
  stop i H := ∃ xs ys : List V, SqT K H a xs ∧ SqL K H b ys ∧ xs.length = i ∧ ys.length = i
abbrev ZipAt (a b z TI TO i1 i2 : Addr) (i : Nat) (h : Heap) : Prop := (IsZip h z TI TO .none ∧ IsTupOf2 h TI (.ref i1) (.ref i2) ∧ (∃ x y, IsTupOf2 h TO x y) ∧ h.IsTupleIter i1 a i ∧ h.IsListIter i2 b i)
theorem turn_zipM {P : Program} {w : World} {K : PySem.W.Frag} {elts : List Expr} {kk : Nat} {tpos : Pos} {a b z TI TO i1 i2 : Addr} (D : ZipSep2 z TI TO i1 i2 [i1, a] [i2, b]) (ai : a ≠ i1) (bi : b ≠ i2) :
    Turn P w K (.Tuple elts kk tpos) (ItzM K a b) [z, TI, TO, i1, i2] z (ZipAt a b z TI TO i1 i2) := by
  refine turn_sub (by simp) ?_ ?_ ?_ ?_ ?_
  · rintro i h ⟨hz, hTI, ⟨x, y, hTO⟩, ⟨o1, e1, _, d1⟩, ⟨o2, e2, _, d2⟩⟩ c hc
    rcases (show c = z ∨ c = TI ∨ c = TO ∨ c = i1 ∨ c = i2 by simpa using hc) with rfl | rfl | rfl | rfl | rfl
    · exact ⟨_, hz, fun v q => nomatch q⟩
    · exact ⟨_, hTI, fun v q => nomatch q⟩
    · exact ⟨_, hTO, fun v q => nomatch q⟩
    · exact ⟨o1, e1, fun v q => by rw [d1] at q; cases q⟩
    · exact ⟨o2, e2, fun v q => by rw [d2] at q; cases q⟩
  · rintro i h h' ⟨hz, hTI, ⟨x, y, hTO⟩, h1, h2⟩ k
    have zip' := k z (by simp) _ hz
    have ins' := k TI (by simp) _ hTI
    have out' := k TO (by simp) _ hTO
    have it1' := h1.at fun o at_ => k i1 (by simp) o at_
    have it2' := h2.at fun o at_ => k i2 (by simp) o at_
    exact ⟨zip', ins', ⟨x, y, out'⟩, it1', it2'⟩
  · rintro X rfl rfl rfl calm i pins s σ H inv ⟨hz, hTI, hTO, h1, h2⟩ ⟨xs, ys, x, y, sq, sl, atx, aty⟩
    obtain ⟨its, rel, tup, len⟩ := inv.tuple sq
    obtain ⟨its2, rel2, lst, len2⟩ := inv.list sl
    obtain ⟨u, atu, rxu⟩ := rel.get atx
    obtain ⟨v, atv, ryv⟩ := rel2.get aty
    have lt1 : i < its.toArray.size := by simpa using (List.getElem?_eq_some_iff.mp atu).1
    have lt2 : i < its2.toArray.size := by simpa using (List.getElem?_eq_some_iff.mp atv).1
    refine ⟨_, _, _, _, _, GoesN.zip2 D (Draws.tuple (A := X.A.in1) (inv.ok.hd calm) i1 a ai its.toArray) (Draws.list (A := X.A.in1) (inv.ok.hd calm) i2 b bi its2.toArray), ?_, ?_, ⟨hz, hTI, hTO, ⟨h1, tup⟩, ⟨h2, lst.isList⟩⟩, fun h₂ z => ⟨z.1, z.2.1, z.2.2.1, z.2.2.2.1.1, z.2.2.2.2.1⟩, ?_⟩
    · intro c hc
      rcases (show c = z ∨ c = TO ∨ c = i1 ∨ c = i2 by simpa using hc) with rfl | rfl | rfl | rfl <;> simp
    · exact Nat.lt_min.mpr ⟨lt1, lt2⟩
    rintro v' h₂ ⟨T, p, q, rfl, new, atp, atq, tupT⟩
    have pu : p = u := Option.some.inj (atp.symm.trans (by simpa using atu))
    have qv : q = v := Option.some.inj (atq.symm.trans (by simpa using atv))
    subst pu qv
    refine ⟨T, [x, y], _, rfl, new, tupT, .cons rxu (.cons ryv .nil), by show 2 ≤ sizeLine; decide, T, x, y, rfl, inv.hok.fresh new, rfl, fun zs sq' => ?_, fun zs sl' => ?_⟩
    · rw [inv.tuple_inj sq' sq]
      exact atx
    · rw [inv.list_inj sl' sl]
      exact aty
  · rintro X rfl rfl rfl calm i pins s σ H E inv ok ⟨hz, hTI, ⟨x0, y0, hTO⟩, h1, h2⟩ ⟨xs, ys, sq, sl, full1, full2⟩
    obtain ⟨its, rel, tup, len⟩ := inv.tuple sq
    obtain ⟨its2, rel2, lst, len2⟩ := inv.list sl
    have size1 : its.toArray.size = i := by
      have z := rel.length
      simp
      omega
    have size2 : its2.toArray.size = i := by
      have z := rel2.length
      simp
      omega
    exact wpAny_pyNext_zipD2_end D (Draws.tuple (A := X.A.in1) (inv.ok.hd calm) i1 a ai its.toArray) (Draws.list (A := X.A.in1) (inv.ok.hd calm) i2 b bi its2.toArray) hz hTI hTO ⟨h1, tup⟩ ⟨h2, lst.isList⟩ (by omega) (by omega) (.inl size1.symm) fun h' tk hk => ⟨rfl, inv.turnedL (t' := tk) (ch := [z, TI, TO, i1, i2]) (fun c o hb q =>
      hk c o (fun q' => hb (by simp [q'])) (fun q' => hb (by simp [q'])) (fun q' => hb (by simp [q'])) (fun q' => hb (by simp [q'])) q) ok⟩
  · rintro A i s Q E ⟨hz, _⟩ q
    exact wpAny_pyIter_zip hz q
def iZipM (K : PySem.W.Frag) (ta : TA) : TI := fun σ H R => ta σ H fun vs H1 => ∃ a b xs ys, vs = [.ref a, .ref b] ∧ SqT K H1 a xs ∧ SqL K H1 b ys ∧ R (ItzM K a b) H1
theorem pi_zipM {X : Cx} {e e2 : Expr} {ta : TA} {p pos tpos : Pos} {elts : List Expr} {kk : Nat} (hg : Gl X "zip") (hm : X.mg "zip" = none) (ha : PA X [e, e2] ta)
    (one : Plain1 X e [e2] := by rfl) (two : PlainR X pos [e2] := by rfl) : PI X (.Tuple elts kk tpos) (.Call (.Name "zip" p) [e, e2] [] pos) (iZipM X.K ta) := by
  constructor
  intro pins s σ H R inv read
  have args := ha.run pos pins s σ H _ inv read
  refine Call_ (ld_blt inv hg hm PyProof.Rows.boot_zip (PyProof.Rows.callWith_type1 (thn args ?_) one two))
  rintro us s1 ⟨vs, H1, I1, rel1, a, b, xs, ys, rfl, sq, sl, rest⟩
  have two_refs : us = [Value.ref a, Value.ref b] := by
    cases rel1 with | cons ra rb => ?_
    cases ra
    rw [Vals.ref1 rb]
  subst two_refs
  obtain ⟨its, rel, tup, len⟩ := I1.tuple sq
  obtain ⟨its2, rel2, lst, len2⟩ := I1.list sl
  have la : a < s1.heap.objs.size := tup.lt
  have lb : b < s1.heap.objs.size := lst.lt
  refine zip_begins2 (begins_tuple a its.toArray) (begins_list b its2.toArray) tup lst.isList fun h' hz hTI hTO g1 g2 hsz kept => wpAny_pyIter_zip hz ?_
  refine ⟨s1.heap.objs.size + 4, [s1.heap.objs.size + 4, s1.heap.objs.size + 2, s1.heap.objs.size + 3, s1.heap.objs.size, s1.heap.objs.size + 1], _, _, H1, rfl, I1.kept (t' := s1.toks) kept, turn_zipM (zip_sep2 (fun c hc => by rw [List.mem_singleton.mp hc]; exact la) (fun c hc => by rw [List.mem_singleton.mp hc]; exact lb)) (Nat.ne_of_lt la) (Nat.ne_of_lt (Nat.lt_succ_of_lt lb)), ⟨hz, hTI, ⟨_, _, hTO⟩, ⟨_, g1, rfl, rfl⟩, ⟨_, g2, rfl, rfl⟩⟩, fun c hcm => ?_, rest⟩
  have large : s1.heap.objs.size ≤ c := by
    rcases (show c = s1.heap.objs.size + 4 ∨ c = s1.heap.objs.size + 2 ∨ c = s1.heap.objs.size + 3 ∨ c = s1.heap.objs.size ∨ c = s1.heap.objs.size + 1 by simpa using hcm) with rfl | rfl | rfl | rfl | rfl
    all_goals first | exact Nat.le_refl _ | exact Nat.le_add_right _ _
  exact I1.fpOk large (I1.hok.fresh large)
theorem for_zipM {K : PySem.W.Frag} {a b : Addr} {xs ys : List V} {g : TG} {tb : TS} {D : Ends} {σ₀ : L2.St} {H₀ : Hp} (hl : xs.length = ys.length) (Pv : Nat → L2.St → Hp → Prop) (start : Pv 0 σ₀ H₀) (stays : ∀ i σ H, i ≤ xs.length → Pv i σ H → SqT K H a xs ∧ SqL K H b ys)
    (turn : ∀ i x y σ H T, xs[i]? = some x → ys[i]? = some y → Pv i σ H → H T = none → g (.ref T) σ (upd H T (.tup [x, y])) fun σ2 H2 => tb { D with nx := Pv (i + 1), ct := Pv (i + 1), bk := D.nx } σ2 H2) (after : ∀ σ H, Pv xs.length σ H → D.nx σ H) :
    ∃ W : Nat → Nat → L2.St → Hp → Prop, (∃ m, W 0 m σ₀ H₀) ∧ ∀ i m σ H, W i m σ H → ((ItzM K a b).stop i H ∧ D.nx σ H) ∨
      ((ItzM K a b).go i H ∧ ∃ N : L2.St → Hp → Prop, (∀ σ' H', N σ' H' → ∃ m', m' < m ∧ W (i + 1) m' σ' H') ∧ ∀ x H', (ItzM K a b).yld i H x H' → g x σ H' fun σ2 H2 => tb { D with nx := N, ct := N, bk := D.nx } σ2 H2) := by
  refine ⟨fun i m σ H => i + m = xs.length ∧ Pv i σ H, ⟨xs.length, Nat.zero_add _, start⟩, ?_⟩
  rintro i m σ H ⟨sum, inv⟩
  obtain ⟨sq, sl⟩ := stays i σ H (by omega) inv
  cases m with
  | zero =>
    have full : xs.length = i := sum.symm
    refine .inl ⟨⟨xs, ys, sq, sl, full, by omega⟩, after σ H ?_⟩
    rw [full]
    exact inv
  | succ m =>
    have lt : i < xs.length := by omega
    have lt2 : i < ys.length := by omega
    refine .inr ⟨⟨xs, ys, xs[i], ys[i], sq, sl, List.getElem?_eq_getElem lt, List.getElem?_eq_getElem lt2⟩, Pv (i + 1), fun σ' H' z => ⟨m, Nat.lt_succ_self m, by omega, z⟩, ?_⟩
    rintro x H' ⟨T, x1, y1, rfl, fresh, rfl, at1, at2⟩
    exact turn i x1 y1 σ H T (at1 xs sq) (at2 ys sl) inv fresh
/-! ### t.index(x), by data -/
section
variable {X : Cx}
theorem reads_get {h : Heap} : ∀ {ds : List PyData} {vs : List Value} {as : List Addr}, ReadsAll h vs ds as → PyData.canLayAll0 ds = true → ∀ {m : Nat} {v : Value}, vs[m]? = some v → ∃ d, ds[m]? = some d ∧ SeqAt.readOf h v = d
  | [], _, _, r, _, m, v, e => by cases r; simp at e
  | d :: ds, _, _, r, lay, m, v, e => by
    have lay' : d.canLay0 = true ∧ PyData.canLayAll0 ds = true := by simpa [PyData.canLayAll0] using lay
    cases r with
    | cons r1 r2 =>
      cases m with
      | zero =>
        have e1 := Option.some.inj e
        subst e1
        exact ⟨d, rfl, SeqAt.readOf_eq lay'.1 r1⟩
      | succ m => exact reads_get r2 lay'.2 (m := m) (by simpa using e)
def rIdxD (K : PySem.W.Frag) : V → List V → Hp → VK → Prop := fun x xs H Q => ∃ (p : Addr) (y : V) (d : PyData) (ds : List PyData) (j : Nat), x = .ref p ∧ xs = [y] ∧ Dp K H y d ∧ Dp K H (.ref p) (.tuple ds) ∧ SeqAt.shaped d = true ∧ SeqAt.shaped (.tuple ds) = true ∧
  (∃ e, ds[j]? = some e ∧ PyData.eqv e d = true) ∧ (∀ m e, m < j → ds[m]? = some e → PyData.eqv e d = false) ∧ Q (.int (j : Nat)) H
theorem mt_idxD (hu : X.A.units + 65 < cLine) : MtR X "tuple.index" (rIdxD X.K) := by
  rintro pins s σ H x xs v us Q I rx rs ⟨p, y, d, ds, j, rfl, rfl, hd, he, sd, se, ⟨ej, hj, hit⟩, hno, q⟩
  cases rx
  cases rs with | cons ry rr => ?_
  cases rr
  rename_i u
  obtain ⟨as, r1⟩ := Dp.reads I _ y u hd ry
  obtain ⟨bs, r2⟩ := Dp.reads I _ (.ref p) (.ref p) he rfl
  cases r2 with
  | tuple h1 h2 h3 h4 =>
    rename_i o its n
    obtain ⟨cls, dd, dt, sl⟩ := o
    simp only at h2 h3
    subst h2
    subst h3
    have lay := SeqAt.canLay_of_shaped se
    have layA : PyData.canLayAll0 ds = true := by simpa [PyData.canLay0] using lay
    have room : X.A.units + 1 + min (PyData.depthAll ds) d.depth < cLine := room_sh sd hu
    have hl : its.size = ds.length := by
      have e := congrArg List.length (SeqAt.readsAll_map ds _ _ layA h4)
      simpa using e
    have hj' : j < its.size := by rw [hl]; exact (List.getElem?_eq_some_iff.mp hj).1
    refine call_meets PySem.F.slot_tuple_index ⟨_, h1, rfl⟩ PySem.F.entry_tuple_index (PySem.F.args_tuple_index_2 _ _) (TI.tuple_indexAt p its n dd sl u (fun z => PyData.eqv (SeqAt.readOf s.heap z) d) j hj' ?_ ?_)
      ⟨h1, SeqAt.items_eqAt h4 r1 layA (SeqAt.canLay_of_shaped sd) room, ⟨.int (j : Nat), H, I.tok _, ⟨_, rfl⟩, q⟩⟩
    · obtain ⟨e, e1, e2⟩ := reads_get h4 layA (m := j) (v := its[j]) (by rw [Array.getElem?_toList]; exact Array.getElem?_eq_getElem hj')
      show PyData.eqv (SeqAt.readOf s.heap its[j]) d = true
      rw [e2, Option.some.inj (e1.symm.trans hj)]
      exact hit
    · intro m hm lt
      obtain ⟨e, e1, e2⟩ := reads_get h4 layA (m := m) (v := its[m]) (by rw [Array.getElem?_toList]; exact Array.getElem?_eq_getElem hm)
      show PyData.eqv (SeqAt.readOf s.heap its[m]) d = false
      rw [e2]
      exact hno m e lt e1
end
/-! ### dict(d), keys that are feet -/
def hF (x : Foot) : Int := reduceHash (Builtin.Tuple.tupleHashOf [hashInt x.1, hashInt x.2])
theorem hash_foot {P : Program} {w : World} (x : Foot) : (tupleKind (mixKind P w)).hash (keyF x) = hF x := rfl
theorem hF_nodup : ((allFeet 8).map hF).Nodup := by decide +kernel
theorem hF_inj {x y : Foot} (hx : FootIn 8 x) (hy : FootIn 8 y) (e : hF x = hF y) : x = y := by
  have mx : x ∈ allFeet 8 := mem_allFeet.mpr hx
  have my : y ∈ allFeet 8 := mem_allFeet.mpr hy
  obtain ⟨i, hi, ei⟩ := List.getElem_of_mem mx
  obtain ⟨j, hj, ej⟩ := List.getElem_of_mem my
  have h1 : ((allFeet 8).map hF)[i]? = some (hF x) := by rw [List.getElem?_map, List.getElem?_eq_getElem hi, ei]; rfl
  have h2 : ((allFeet 8).map hF)[j]? = some (hF x) := by rw [List.getElem?_map, List.getElem?_eq_getElem hj, ej, e]; rfl
  have e2 := nd_ix hF_nodup h1 h2
  subst e2
  rw [← ei, ← ej]
def rDictT : List V → Hp → VK → Prop := fun xs H Q => ∃ (a : Addr) (kvs : List (List Key × V)), xs = [.ref a] ∧ H a = some (.dT kvs) ∧ (∀ kv ∈ kvs, ∃ x, FootIn 8 x ∧ kv.1 = keyF x) ∧ ∀ p, H p = none → Q (.ref p) (upd H p (.dT kvs))
theorem kt_keys {H : Hp} {kvs : List (List Key × V)} {xs : List (List Key × Addr × Value)} (r : KT H kvs xs) : kvs.map (·.1) = xs.map (·.1) := by
  induction r with
  | nil => rfl
  | cons h t ih => rw [List.map_cons, List.map_cons, ih, h.1]
section
variable {X : Cx}
theorem call_dictT (room : X.A.units + 2 < cLine) : CallR X (.type "dict") rDictT := by
  rintro pins s σ H xs us Q I rel ⟨a, kvs, rfl, ha, hk, q⟩
  rw [Vals.ref1 rel]
  obtain ⟨len, notSys, ys, kt, dict⟩ := dt_of I.hok ha
  have yl : ys.length ≤ sizeLine := by rw [← Paired.length kt]; exact len
  have born := kt_code_dict_new (prog := X.prog) (w := X.w) (A := X.A.in1) (E := X.xe) (s := s) (.ref a) (Q₁ := fun v t => v = .ref s.heap.objs.size ∧ t = { s with heap := s.heap.push { cls := .type "dict", data := .dict #[] } }) ⟨rfl, rfl⟩
  refine callType_codes F.kt_called_dict (F.kt_typeCall_dict_1 _) F.entry_dict_init born ?_
  rintro _ _ ⟨rfl, rfl⟩
  have old : ∀ b o, s.heap.get? b = some o → (s.heap.push { cls := .type "dict", data := .dict #[] }).get? b = some o := fun b o e => Heap.get?_push_of_some _ e
  have new : (s.heap.push { cls := .type "dict", data := .dict #[] }).DictOfH (tupleKind (mixKind X.prog X.w)) s.heap.objs.size [] := Heap.DictOfH.new s.heap
  have isK : ∀ y ∈ ys, (tupleKind (mixKind X.prog X.w)).is (s.heap.push { cls := .type "dict", data := .dict #[] }) y.1 y.2.1 := fun y hy => by
    obtain ⟨_, _, _, _, _, _, _, his, _⟩ := id dict
    obtain ⟨o, its, n, h1, h2, h3, h4⟩ := his y hy
    exact ⟨o, its, n, old _ _ h1, h2, h3, h4⟩
  have dict1 := dict.at' (fun o e => old _ _ e) isK
  have apart : s.heap.objs.size ≠ a := fun e => absurd dict.lt_size (by rw [← e]; exact Nat.lt_irrefl _)
  have types : ∀ y ∈ ys, Shared.TypeIs { s with heap := s.heap.push { cls := .type "dict", data := .dict #[] } } (.ref y.2.1) "tuple" := fun y hy => by
    obtain ⟨o, its, n, h1, h2, _⟩ := isK y hy
    exact ⟨o, h1, h2⟩
  have hashes : (ys.map fun y => (tupleKind (mixKind X.prog X.w)).hash y.1).Nodup := by
    have keys : kvs.map (·.1) = ys.map (·.1) := kt_keys kt
    have nd := dict.nodup
    have e : (ys.map fun y => (tupleKind (mixKind X.prog X.w)).hash y.1) = (ys.map (·.1)).map (tupleKind (mixKind X.prog X.w)).hash := by rw [List.map_map]; rfl
    rw [e, ← keys]
    rw [← keys] at nd
    refine List.pairwise_map.mpr (List.Pairwise.imp_of_mem ?_ nd)
    intro k k' hk1 hk2 ne e2
    obtain ⟨kv, h1, rfl⟩ := List.mem_map.mp hk1
    obtain ⟨kv', h2, rfl⟩ := List.mem_map.mp hk2
    obtain ⟨x, fx, ex⟩ := hk kv h1
    obtain ⟨x', fx', ex'⟩ := hk kv' h2
    rw [ex, ex'] at ne
    rw [ex, ex', hash_foot, hash_foot] at e2
    exact ne (by rw [hF_inj fx fx' e2])
  refine ⟨new.typeIs, F.args_dict_init_2 _ _, ?_⟩
  unfold Builtin.«dict.__init__»
  refine wpAny_bind ?_
  unfold Builtin.Dict.selfAndRest
  refine wpAny_bind (wpAny_notOrdered_dict new.typeIs ?_)
  refine wpAny_pure (a := (s.heap.objs.size, [Value.ref a])) ?_
  show wpAny _ _ (Builtin.Dict.updateFrom "dict.__init__" s.heap.objs.size (.ref a) [] .none) _ _ _
  refine updateFrom_dictH (A := X.A.in1) (.none) (show X.A.in1.in1.units < cLine from room) apart notSys new dict1 (.inr ⟨types, hashes⟩) (by simpa using yl) fun h' d1 d2 but => ?_
  rw [storedAllH_nil_of_nodup ys dict.nodup] at d1
  have kept : ∀ b o, s.heap.get? b = some o → h'.get? b = some o := fun b o e => (but.2 b (Nat.ne_of_lt (Heap.lt_size e))).trans (old b o e)
  have fresh := I.hok.fresh (Nat.le_refl s.heap.objs.size)
  obtain ⟨ob, es, ep, z1, z2, z3, z4, _, z5⟩ := d1
  refine ⟨rfl, .ref s.heap.objs.size, upd H s.heap.objs.size (.dT kvs), I.laid (a := s.heap.objs.size) (o := .dT kvs) (t' := s.toks) kept (Nat.le_refl _) ⟨len, beq_eq_false_iff_ne.mpr (Ne.symm (Nat.ne_of_lt I.big)), ys, kt.keeps fun b zs e => ?_, ob, es, ep, z1, z2, z3, z4, z5⟩, rfl, q _ fresh⟩
  exact same_upd fresh _ _ e
end
end Zs
namespace Zs
open PySem PySem.Spec PyProof.Rows L2
abbrev sEdge : Stmt := topS 49
theorem scEdge : FnScope ["_law_layout", "_law_row", "_law_there", "_law_up", "_law_sort", "_law_teeth", "_law_feet", "_law_foot", "_law_turns", "_law_more"] ["_law_layout", "_law_row", "_law_there", "_law_up"] (defScope sEdge) := ⟨rfl, rfl, rfl, by decide +kernel, rfl, by decide +kernel, by decide +kernel⟩
abbrev sGap : Stmt := topS 50
theorem scGap : FnScope ["_law_layout", "_law_foot", "_law_up", "_law_at", "_law_row", "_law_k", "_law_low", "_law_high", "_law_spot"] ["_law_layout", "_law_foot", "_law_up"] (defScope sGap) := ⟨rfl, rfl, rfl, by decide +kernel, rfl, by decide +kernel, by decide +kernel⟩
abbrev sUp : Stmt := topS 51
theorem scUp : FnScope ["_law_layout", "_law_number", "_law_side", "_law_end"] ["_law_layout", "_law_number", "_law_side", "_law_end"] (defScope sUp) := ⟨rfl, rfl, rfl, by decide +kernel, rfl, by decide +kernel, by decide +kernel⟩
abbrev sLegal : Stmt := topS 52
theorem scLegal : FnScope ["_law_layout", "_law_move", "_law_word", "_law_number", "_law_one", "_law_other"] ["_law_layout", "_law_move"] (defScope sLegal) := ⟨rfl, rfl, rfl, by decide +kernel, rfl, by decide +kernel, by decide +kernel⟩
abbrev sPerf : Stmt := topS 53
theorem scPerf : FnScope ["_law_layout", "_law_move", "_law_word", "_law_number", "_law_more", "_law_side"] ["_law_layout", "_law_move"] (defScope sPerf) := ⟨rfl, rfl, rfl, by decide +kernel, rfl, by decide +kernel, by decide +kernel⟩
/-! ### layouts -/
def layK (r z d m : Addr) : List (Key × V) := mergeK [] [(Sum.inr "rows", .ref r), (Sum.inr "zips", .ref z), (Sum.inr "lows", .ref d), (Sum.inr "many", .ref m)]
abbrev kS (x : Str) : Key := Sum.inr x
theorem layK_eq (r z d m : Addr) : layK r z d m = putK (putK (putK (putK [] (kS "rows") (.ref r)) (kS "zips") (.ref z)) (kS "lows") (.ref d)) (kS "many") (.ref m) := rfl
theorem nk1 : ¬ (kS "rows" = kS "zips") := by decide +kernel
theorem nk2 : ¬ (kS "rows" = kS "lows") := by decide +kernel
theorem nk3 : ¬ (kS "rows" = kS "many") := by decide +kernel
theorem nk4 : ¬ (kS "zips" = kS "lows") := by decide +kernel
theorem nk5 : ¬ (kS "zips" = kS "many") := by decide +kernel
theorem nk6 : ¬ (kS "lows" = kS "many") := by decide +kernel
theorem lay_rows (r z d m : Addr) : valV (layK r z d m) (kS "rows") = some (.ref r) := by
  rw [layK_eq, valV_put, if_neg nk3, valV_put, if_neg nk2, valV_put, if_neg nk1, valV_put, if_pos rfl]
theorem lay_zips (r z d m : Addr) : valV (layK r z d m) (kS "zips") = some (.ref z) := by
  rw [layK_eq, valV_put, if_neg nk5, valV_put, if_neg nk4, valV_put, if_pos rfl]
theorem lay_lows (r z d m : Addr) : valV (layK r z d m) (kS "lows") = some (.ref d) := by
  rw [layK_eq, valV_put, if_neg nk6, valV_put, if_pos rfl]
theorem lay_many (r z d m : Addr) : valV (layK r z d m) (kS "many") = some (.ref m) := by
  rw [layK_eq, valV_put, if_pos rfl]
def manyL (n : Nat) (mn : Int → Int) : List V := (List.range n).map fun i => V.int (mn (i : Nat))
def Lows (H : Hp) (d : Addr) (n : Nat) (lo : Foot → Int) : Prop := ∃ kvs : List (List Key × V), H d = some (.dT kvs) ∧ kvs.length ≤ 16 ∧ (∀ kv ∈ kvs, ∃ x, FootIn 8 x ∧ kv.1 = keyF x) ∧ ∀ x, FootIn n x → valV kvs (keyF x) = some (.int (lo x))
structure Lay (H : Hp) (L r z d m : Addr) (n : Nat) (lo : Foot → Int) (mn : Int → Int) : Prop where
  at_ : H L = some (.dK (layK r z d m))
  lows : Lows H d n lo
  many : H m = some (.lst (manyL n mn))
section
variable {H H' : Hp} {L r z d m : Addr} {n : Nat} {lo : Foot → Int} {mn : Int → Int}
theorem Lows.same (h : Lows H d n lo) (s : Same H H') : Lows H' d n lo := by
  obtain ⟨kvs, a, b⟩ := h
  exact ⟨kvs, s _ _ a, b⟩
theorem Lay.same (h : Lay H L r z d m n lo mn) (s : Same H H') : Lay H' L r z d m n lo mn := ⟨s _ _ h.at_, h.lows.same s, s _ _ h.many⟩
theorem Lay.dRows (h : Lay H L r z d m n lo mn) : DGet H L (.str "rows") (some (.ref r)) := by have e := DGet.k (k := kS "rows") h.at_; rw [lay_rows] at e; exact e
theorem Lay.dZips (h : Lay H L r z d m n lo mn) : DGet H L (.str "zips") (some (.ref z)) := by have e := DGet.k (k := kS "zips") h.at_; rw [lay_zips] at e; exact e
theorem Lay.dLows (h : Lay H L r z d m n lo mn) : DGet H L (.str "lows") (some (.ref d)) := by have e := DGet.k (k := kS "lows") h.at_; rw [lay_lows] at e; exact e
theorem Lay.dMany (h : Lay H L r z d m n lo mn) : DGet H L (.str "many") (some (.ref m)) := by have e := DGet.k (k := kS "many") h.at_; rw [lay_many] at e; exact e
theorem Lay.low (h : Lay H L r z d m n lo mn) {t : Addr} {x : Foot} (ht : TupF H t x) (hx : FootIn n x) : DGet H d (.ref t) (some (.int (lo x))) := by
  obtain ⟨kvs, a, _, _, c⟩ := h.lows
  have e := DGet.t (k := keyF x) a (show H t = some (.tup ((keyF x).map kV)) from ht)
  rw [c x hx] at e
  exact e
theorem many_at {i : Int} (h0 : 0 ≤ i) (h1 : i < n) : atI (manyL n mn) i = some (.int (mn i)) := by
  obtain ⟨j, rfl⟩ := Int.eq_ofNat_of_zero_le h0
  refine atI_nat ?_
  unfold manyL
  rw [List.getElem?_map, List.getElem?_range (by omega)]
  rfl
end
section
variable {X : Cx}
def tIdxD (K : PySem.W.Frag) (to : TE) (t : TA) : TE := fun σ H Q => to σ H fun x H1 => (∃ a ys, x = V.ref a ∧ FzT H1 a ys) ∧ t σ H1 fun xs H2 => rIdxD K x xs H2 Q
theorem pe_idxD {o e : Expr} {es : List Expr} {to : TE} {t : TA} {apos cpos : Pos} (room : X.A.units + 65 < cLine) (ho : PE X o to) (ha : PA X (e :: es) t) (hbase : attributeBase o "index" X.env (eval o X.env) = eval o X.env := by rfl)
    (hfew : ((backTo cpos (starEach (e :: es) X.env)).all (fun x => !x.1) && (backToKw cpos (keywordEach [] X.env)).all (fun x => x.1.isSome) && decide ((e :: es).length + ([] : List Keyword).length + (if ([] : List Keyword).isEmpty then 0 else 1) < 30)) = true := by rfl)
    (hline : (apos.endLine == cpos.line) = true := by rfl) (star : starEach (e :: es) X.env = (false, eval e X.env) :: starEach es X.env := by rfl) (plain : (backTo cpos (starEach es X.env)).any (·.1) = false := by rfl) :
    PE X (.Call (.Attribute o "index" apos) (e :: es) [] cpos) (tIdxD X.K to t) := by
  constructor
  intro pins s σ H Q I read
  refine wpAny_Call_method_late hbase hfew hline rfl (thn (ho.run pins s σ H _ I read) ?_)
  rintro v s1 ⟨x, H1, I1, r1, ⟨a, ys, rfl, ob, free, at_⟩, q1⟩
  cases r1
  obtain ⟨there, _, its, _, ⟨ob2, there2, isTup, _⟩⟩ := I1.hok a _ at_
  have same : ob2 = ob := Option.some.inj (there2.symm.trans there)
  subst same
  refine ⟨"tuple", "tuple.index", F.plainAttrs_tuple, F.slot_tuple_index, F.type_tuple_index, ⟨ob2, there, isTup⟩, ?_, ?_⟩
  · rintro b ⟨⟩
    exact ⟨ob2, there, free⟩
  · have args := ha.run cpos pins s1 σ H1 _ I1 q1
    rw [star] at args ⊢
    refine Calls.callWith_builtin (by show (false || (backTo cpos (starEach es X.env)).any (·.1)) = false; rw [plain]; rfl) (Calls.evalArgs_plain (thn args ?_))
    rintro us s2 ⟨vs, H2, I2, r2, q2⟩
    exact mt_idxD room pins s2 σ H2 (.ref a) vs (.ref a) us Q I2 rfl r2 q2
end
/-! ### edges and gaps -/
def hi (lo : Foot → Int) (mn : Int → Int) (x : Foot) : Int := lo x + mn x.1
def edgeV (ro : Row) (lo : Foot → Int) (mn : Int → Int) (t : Int) (up : Bool) : Int :=
  if ro.ring = false ∧ ¬ (0 ≤ t ∧ t < ro.feet.length) then (if up then ro.teeth else 0)
  else (if up then lo (ro.feet.getD (t % ro.feet.length).toNat (0, 0)) else hi lo mn (ro.feet.getD (t % ro.feet.length).toNat (0, 0))) + t / ro.feet.length * ro.teeth
section
variable {P : Program} {w : World} {K : PySem.W.Frag} {mg : Str → Option Value} {base : Heap}
def spEdge : Sp := fun vs H Q _ => ∃ (L t r z d m : Addr) (n : Nat) (lo : Foot → Int) (mn : Int → Int) (ro : Row) (th : Int) (up : Bool), vs = [.ref L, .ref t, .int th, .bl up] ∧ Lay H L r z d m n lo mn ∧ TupR H t ro ∧ (∀ x ∈ ro.feet, FootIn n x) ∧ 0 < ro.feet.length ∧ ro.feet.length ≤ 16 ∧ 1 ≤ ro.teeth ∧ ro.teeth ≤ 24 ∧ Q (.int (edgeV ro lo mn th up)) H
set_option maxHeartbeats 800000 in
theorem ok_edge {f : Addr} {fd : FuncData} (T : Bl mg) (F : Fun K "_law_edge" "_law_edge" sEdge f fd) : FnOk P w K mg base CX0 1 f fd ["_law_layout", "_law_row", "_law_there", "_law_up"] spEdge := by
  refine F.ok scEdge (fun vs H Q E h => ?_) (fun cdv A outer s H vs Q E hr h => ?_)
  · obtain ⟨L, t, r, z, d, m, n, lo, mn, ro, th, up, rfl, _⟩ := h
    rfl
  · obtain ⟨L, t, r, z, d, m, n, lo, mn, ro, th, up, rfl, lay, ⟨fo, et, us, eu, pu⟩, hin, k0, k16, t1, t24, q⟩ := h
    refine ⟨_, (pss_cons (ps_asg (pv 1) (pg_tup rfl (pgs_cons (pg_name (i := 4) scEdge.nd rfl (Or.inl rfl)) (pgs_cons (pg_name (i := 5) scEdge.nd rfl (Or.inl rfl)) (pgs_cons (pg_name (i := 6) scEdge.nd rfl (Or.inl rfl)) pgs_nil)))))
      (C8.pss_cut (ps_if (pw_and (pt_cmpR op_eq (pv 4) pe_str (nomark _)) (pw_and1 (pt_not (pt_chain op_le op_lt pe_int (pv 2) (pe_callB call_len_seq (by rfl) T.len_ PySem.boot_len (pa_cons (pv 6) pa_nil)))))).pt
        (pss_one (ps_ret (pe_op op_mul (pv 5) (pe_callTy call_int1 (by rfl) T.int_ (by decide +kernel) (pa_cons (pv 3) pa_nil)))))
        pss_nil)
      (pss_cons (ps_par (i := 7) (j := 8) rfl scEdge.nd rfl rfl (by decide) rfl rfl (pa_cons (pe_ix ix_tup (pv 6) (pe_op op_mod (pv 2) (pe_callB call_len_seq (by rfl) T.len_ PySem.boot_len (pa_cons (pv 6) pa_nil))) (fun _ _ => rfl)) (pa_cons (pe_op op_fdiv (pv 2) (pe_callB call_len_seq (by rfl) T.len_ PySem.boot_len (pa_cons (pv 6) pa_nil))) pa_nil)) rfl)
      (pss_cons (ps_set (i := 9) scEdge.nd rfl (Or.inl rfl) (pe_op op_mul (pe_ix ix_list (pe_dget (hu_of hr) (pv 0) pe_str (fun _ _ => rfl)) (pe_ix ix_tup (pv 7) pe_int (fun _ _ => rfl)) (fun _ _ => rfl)) (pe_callTy call_int1 (by rfl) T.int_ (by decide +kernel) (pa_cons (pe_not (pv 3)) pa_nil))))
      (pss_one (ps_ret (pe_op op_add (pe_op op_add (pe_dget (hu_of hr) (pe_dget (hu_of hr) (pv 0) pe_str (fun _ _ => rfl)) (pv 7) (fun _ _ => rfl)) (pv 9)) (pe_op op_mul (pv 8) (pv 5))))))))), ?_⟩
    have usl : us.length = ro.feet.length := pu.length
    have ul : ((us.map V.ref).length : Int) = (ro.feet.length : Int) := by rw [List.length_map, usl]
    have uq : SqT K H fo (us.map V.ref) := eu.sq
    refine ⟨.ref t, rfl, t, _, rfl, .inl (.inl et), rfl, .str (sortS ro.ring), _, rfl, .int ro.teeth, _, rfl, .ref fo, [], rfl, rfl, ?_⟩
    have main : ¬ (ro.ring = false ∧ ¬ (0 ≤ th ∧ th < ro.feet.length)) → Q (.int ((if up then lo (ro.feet.getD (th % ro.feet.length).toNat (0, 0)) else hi lo mn (ro.feet.getD (th % ro.feet.length).toNat (0, 0))) + th / ro.feet.length * ro.teeth)) H := fun h => by
      unfold edgeV at q
      rw [if_neg h] at q
      exact q
    have out : (ro.ring = false ∧ ¬ (0 ≤ th ∧ th < ro.feet.length)) → Q (.int (ro.teeth * (if up then 1 else 0))) H := fun h => by
      unfold edgeV at q
      rw [if_pos h] at q
      have e : ro.teeth * (if up then 1 else 0) = (if up then ro.teeth else 0) := by cases up <;> simp
      rw [e]
      exact q
    refine ⟨fun σ' H' => H' = H ∧ ¬ (ro.ring = false ∧ ¬ (0 ≤ th ∧ th < ro.feet.length)) ∧ σ' = [some (.ref L), some (.ref t), some (.int th), some (.bl up), some (.str (sortS ro.ring)), some (.int ro.teeth), some (.ref fo), none, none, none], ?_, ?_⟩
    · refine ⟨.str (sortS ro.ring), rfl, rfl, _, rfl, ?_⟩
      cases er : ro.ring with
      | true =>
        rw [show decide (V.str (sortS true) = V.str "line") = false by decide +kernel]
        exact iteF (iteF ⟨rfl, fun h => absurd h.1 (by decide), rfl⟩)
      | false =>
        rw [show decide (V.str (sortS false) = V.str "line") = true by decide +kernel]
        have out2 : ¬ (0 ≤ th ∧ th < ro.feet.length) → Q (.int (ro.teeth * (if up then 1 else 0))) H := fun h => out ⟨er, h⟩
        refine iteT ⟨.int th, rfl, 0, th, rfl, rfl, _, rfl, ?_⟩
        by_cases h0 : 0 ≤ th
        · rw [decide_eq_true h0]
          refine iteT ⟨.ref fo, rfl, fo, _, rfl, .inr uq, th, _, rfl, rfl, _, rfl, ?_⟩
          by_cases h1 : th < ro.feet.length
          · rw [show decide (th < ((us.map V.ref).length : Int)) = true from decide_eq_true (by rw [ul]; exact h1)]
            exact iteF ⟨rfl, fun h => h.2 ⟨h0, h1⟩, rfl⟩
          · rw [show decide (th < ((us.map V.ref).length : Int)) = false from decide_eq_false (by rw [ul]; exact h1)]
            exact iteT ⟨.int ro.teeth, rfl, .bl up, rfl, .inr ⟨up, rfl, ro.teeth, _, rfl, rfl, .inl ⟨by omega, by omega⟩, out2 fun h => h1 h.2⟩⟩
        · rw [decide_eq_false h0]
          exact iteF ⟨_, rfl, iteT ⟨.int ro.teeth, rfl, .bl up, rfl, .inr ⟨up, rfl, ro.teeth, _, rfl, rfl, .inl ⟨by omega, by omega⟩, out2 fun h => h0 h.1⟩⟩⟩
    · rintro σ' H' ⟨rfl, hne, rfl⟩
      have q1 := main hne
      have e0 : 0 ≤ th % (ro.feet.length : Int) := Int.emod_nonneg _ (by omega)
      have e1 : th % (ro.feet.length : Int) < ro.feet.length := Int.emod_lt_of_pos _ (by omega)
      obtain ⟨j, hj⟩ := Int.eq_ofNat_of_zero_le e0
      have hjl : j < us.length := by omega
      obtain ⟨x, hx, tx⟩ := paired_get pu (List.getElem?_eq_getElem hjl)
      have ex : ro.feet.getD (th % (ro.feet.length : Int)).toNat (0, 0) = x := by
        rw [hj, Int.toNat_natCast, List.getD_eq_getElem?_getD, hx]
        rfl
      rw [ex] at q1
      have fx := hin x (List.mem_of_getElem? hx)
      refine ⟨.ref fo, rfl, .int th, rfl, .ref fo, rfl, fo, _, rfl, .inr uq, th, _, rfl, rfl, by rw [ul]; omega, fo, _, _, .ref us[j], rfl, rfl, uq, by rw [ul, hj]; exact atI_nat (by rw [List.getElem?_map, List.getElem?_eq_getElem hjl]; rfl), ?_⟩
      refine ⟨.int th, rfl, .ref fo, rfl, fo, _, rfl, .inr uq, th, _, rfl, rfl, ⟨by rw [ul]; omega, by rw [ul]; omega⟩, .ref us[j], _, rfl, ?_⟩
      refine ⟨.ref L, rfl, L, .ref m, rfl, lay.dMany, .ref us[j], rfl, us[j], _, 0, .int x.1, rfl, rfl, .inl (.inl tx), atI_nat (j := 0) rfl, m, _, x.1, _, rfl, rfl, .inl (.inl lay.many), many_at fx.1.1 fx.1.2, .bl up, rfl, up, rfl, .inr ⟨!up, rfl, mn x.1, _, rfl, rfl, .inr ?_, ?_⟩⟩
      · cases up <;> exact ⟨by decide, by decide⟩
      refine ⟨.ref L, rfl, L, .ref d, rfl, lay.dLows, .ref us[j], rfl, d, _, rfl, lay.low tx fx, _, rfl, lo x, _, rfl, rfl, .int (th / ((us.map V.ref).length : Int)), rfl, .int ro.teeth, rfl, _, _, rfl, rfl, .inr ⟨by omega, by omega⟩, _, _, rfl, rfl, ?_⟩
      rw [ul]
      have e2 : (if up = true then lo x else hi lo mn x) = lo x + mn x.1 * (if (!up) = true then 1 else 0) := by
        unfold hi
        cases up <;> simp
      rw [e2] at q1
      exact q1
theorem cal_edge {f : Addr} {fd : FuncData} (T : Bl mg) (F : Fun K "_law_edge" "_law_edge" sEdge f fd) (g : mg "_law_edge" = some (.ref f)) : Cal P w K mg base CX0 1 "_law_edge" ["_law_layout", "_law_row", "_law_there", "_law_up"] spEdge :=
  ⟨f, fd, g, F.kp, F.binds (ps := ["_law_layout", "_law_row", "_law_there", "_law_up"]) fun _ _ _ _ _ _ us hl => match us, hl with | [_, _, _, _], _ => rfl, ok_edge T F⟩
end
end Zs
namespace Zs
open PySem PySem.Spec PyProof.Rows L2
structure RowsFit (n : Nat) (rs : List Row) : Prop where
  nd : (rs.flatMap (·.feet)).Nodup
  teeth : ∀ ro ∈ rs, 1 ≤ ro.teeth ∧ ro.teeth ≤ 24
  flen : ∀ ro ∈ rs, ro.feet.length ≤ 16
  foot : ∀ ro ∈ rs, ∀ x ∈ ro.feet, FootIn n x
  all : ∀ x, FootIn n x → ∃ (i : Nat) (ro : Row) (j : Nat), rs[i]? = some ro ∧ ro.feet[j]? = some x
  zips : n ≤ 8
theorem eqv_foot (y x : Foot) : PyData.eqv (footD y) (footD x) = decide (y = x) := by
  obtain ⟨a, b⟩ := y
  obtain ⟨c, d⟩ := x
  simp [footD, PyData.eqv, PyData.eqvAll]
  rfl
theorem any_foot (x : Foot) : ∀ xs : List Foot, ((xs.map footD).any fun z => PyData.eqv z (footD x)) = decide (x ∈ xs)
  | [] => by simp
  | y :: xs => by
    rw [List.map_cons, List.any_cons, eqv_foot, any_foot x xs]
    by_cases e : y = x
    · subst e
      simp
    · rw [decide_eq_false e, Bool.false_or]
      by_cases h : x ∈ xs
      · rw [decide_eq_true h, decide_eq_true (List.mem_cons_of_mem _ h)]
      · rw [decide_eq_false h, decide_eq_false fun z => by
          rcases List.mem_cons.mp z with z | z
          · exact e z.symm
          · exact h z]
def gid (ro : Row) (j : Nat) (up : Bool) : Int := if up then (j : Int) else if ro.ring then ((j : Int) - 1) % (ro.feet.length : Int) else (j : Int) - 1
def gsz (ro : Row) (lo : Foot → Int) (mn : Int → Int) (j : Nat) (x : Foot) (up : Bool) : Int := if up then edgeV ro lo mn ((j : Int) + 1) true - hi lo mn x else lo x - edgeV ro lo mn ((j : Int) - 1) false
theorem gd_foot (x : Foot) : Gd 1000 1 (footD x) := by
  refine .tuple (by simp) fun d hd => ?_
  rcases (show d = .int x.1 ∨ d = .int x.2 by simpa using hd) with rfl | rfl <;> exact .int _
theorem gd_feet {xs : List Foot} (h : xs.length ≤ 16) : Gd 1000 2 (.tuple (xs.map footD)) := by
  refine .tuple (by rw [List.length_map]; omega) fun d hd => ?_
  obtain ⟨x, _, rfl⟩ := List.mem_map.mp hd
  exact gd_foot x
section
variable {P : Program} {w : World} {K : PySem.W.Frag} {mg : Str → Option Value} {base : Heap}
def spGap (K : PySem.W.Frag) : Sp := fun vs H Q _ => ∃ (L fo r z d m : Addr) (n : Nat) (lo : Foot → Int) (mn : Int → Int) (rs : List Row) (x : Foot) (up : Bool) (i j : Nat) (ro : Row), vs = [.ref L, .ref fo, .bl up] ∧ Lay H L r z d m n lo mn ∧ TupRs H r rs ∧ RowsFit n rs ∧ TupF H fo x ∧ rs[i]? = some ro ∧ ro.feet[j]? = some x ∧
  ∀ (p : Addr) (H' : Hp), Same H H' → H' p = some (.tup [.int (i : Nat), .int (gid ro j up), .int (gsz ro lo mn j x up)]) → Q (.ref p) H'
set_option maxHeartbeats 800000 in
theorem ok_gap {f : Addr} {fd : FuncData} (T : Bl mg) (F : Fun K "_law_gap" "_law_gap" sGap f fd) (cEdge : Cal P w K mg base CX0 1 "_law_edge" ["_law_layout", "_law_row", "_law_there", "_law_up"] spEdge) : FnOk P w K mg base CX0 2 f fd ["_law_layout", "_law_foot", "_law_up"] (spGap K) := by
  refine F.ok scGap (fun vs H Q E h => ?_) (fun cdv A outer s H vs Q E hr h => ?_)
  · obtain ⟨L, fo, r, z, d, m, n, lo, mn, rs, x, up, i, j, ro, rfl, _⟩ := h
    rfl
  · obtain ⟨L, fo, r, z, d, m, n, lo, mn, rs, x, up, i, j, ro, rfl, lay, hrs, fit, tx, hro, hx, q⟩ := h
    refine ⟨_, (pss_cons (ps_for PassesOwn.never rfl (pi_enumT (by rfl) T.enumerate_ (pa_cons (pe_dget (hu_of hr) (pv 0) pe_str (fun _ _ => rfl)) pa_nil)) (pg_tup rfl (pgs_cons (pg_name (i := 3) scGap.nd rfl (Or.inl rfl)) (pgs_cons (pg_name (i := 4) scGap.nd rfl (Or.inl rfl)) pgs_nil)))
        (pss_one (ps_if (pt_cmpR (op_inDT (u65 hr)) (pv 1) (pe_ix ix_tup (pv 4) pe_int (fun _ _ => rfl)) rfl)
          (pss_cons (ps_par (i := 5) (j := 6) rfl scGap.nd rfl rfl (by decide) rfl rfl (pa_cons (pe_idxD (u65 hr) (pe_ix ix_tup (pv 4) pe_int (fun _ _ => rfl)) (pa_cons (pv 1) pa_nil)) (pa_cons (pe_dget (hu_of hr) (pe_dget (hu_of hr) (pv 0) pe_str (fun _ _ => rfl)) (pv 1) (fun _ _ => rfl)) pa_nil)) rfl)
          (pss_cons (ps_if (pt_val (pv 2))
            (pss_cons (ps_set (i := 7) scGap.nd rfl (Or.inl rfl) (pe_op op_add (pv 6) (pe_ix ix_list (pe_dget (hu_of hr) (pv 0) pe_str (fun _ _ => rfl)) (pe_ix ix_tup (pv 1) pe_int (fun _ _ => rfl)) (fun _ _ => rfl))))
            (pss_one (ps_ret (pe_tup (pa_cons (pv 3) (pa_cons (pv 5) (pa_cons (pe_op op_sub (pe_cal cEdge (hr.mono (by decide)) pass0 (by rfl) (pa_cons (pv 0) (pa_cons (pv 4) (pa_cons (pe_op op_add (pv 5) pe_int) (pa_cons (pv 2) pa_nil))))) (pv 7)) pa_nil)))))))
            pss_nil)
          (pss_cons (ps_set (i := 8) scGap.nd rfl (Or.inl rfl) (pe_op op_sub (pv 5) pe_int))
          (C8.pss_cut (ps_if (pt_cmpR op_eq (pe_ix ix_tup (pv 4) pe_int (fun _ _ => rfl)) pe_str (nomark _))
            (pss_one (ps_set (i := 8) scGap.nd rfl (Or.inl rfl) (pe_op op_mod (pv 8) (pe_callB call_len_seq (by rfl) T.len_ PySem.boot_len (pa_cons (pe_ix ix_tup (pv 4) pe_int (fun _ _ => rfl)) pa_nil)))))
            pss_nil)
          (pss_one (ps_ret (pe_tup (pa_cons (pv 3) (pa_cons (pv 8) (pa_cons (pe_op op_sub (pv 6) (pe_cal cEdge (hr.mono (by decide)) pass0 (by rfl) (pa_cons (pv 0) (pa_cons (pv 4) (pa_cons (pe_op op_sub (pv 5) pe_int) (pa_cons (pv 2) pa_nil)))))) pa_nil))))))))))
          pss_nil)))
      (pss_one (ps_ret pe_non))), ?_⟩
    obtain ⟨ts, er, pr⟩ := id hrs
    have rq : SqT K H r (ts.map V.ref) := .inl (.inl er)
    have il : i < ts.length := by rw [pr.length]; exact (List.getElem?_eq_some_iff.mp hro).1
    have fx : FootIn n x := fit.foot ro (List.mem_of_getElem? hro) x (List.mem_of_getElem? hx)
    refine ⟨.ref L, rfl, L, .ref r, rfl, lay.dRows, r, _, rfl, rq, ?_⟩
    refine for_enumT (K := K) (a := r) (xs := ts.map V.ref) (fun i' σ H1 => Same H H1 ∧ i' ≤ i ∧ ∃ x3 x4 : Option V, σ = [some (.ref L), some (.ref fo), some (.bl up), x3, x4, none, none, none, none]) ⟨.refl H, Nat.zero_le _, none, none, rfl⟩ (fun i' σ H1 _ hv => same_seqT hv.1 rq) (fun i' v σ H1 T0 hv0 hv nT => ?_) (fun σ H1 hv => ?_)
    · obtain ⟨sm, hi', x3, x4, rfl⟩ := hv
      obtain ⟨t, ht, rfl⟩ : ∃ t, ts[i']? = some t ∧ v = .ref t := by
        rw [List.getElem?_map] at hv0
        cases e : ts[i']? with
        | none => rw [e] at hv0; cases hv0
        | some t => rw [e] at hv0; exact ⟨t, rfl, (Option.some.inj hv0).symm⟩
      obtain ⟨ro2, hro2, htr⟩ := paired_get pr ht
      have sm2 : Same H (upd H1 T0 (.tup [.int (i' : Nat), .ref t])) := sm.trans (same_upd nT)
      have htr2 := htr.tp (.of sm2)
      have tx2 : TupF (upd H1 T0 (.tup [.int (i' : Nat), .ref t])) fo x := sm2 _ _ tx
      have lay2 := lay.same sm2
      refine ⟨T0, _, rfl, .inl (.inl upd_same), rfl, .int (i' : Nat), [.ref t], rfl, .ref t, [], rfl, rfl, ?_⟩
      generalize upd H1 T0 (.tup [.int (i' : Nat), .ref t]) = H2 at sm2 htr2 tx2 lay2 ⊢
      obtain ⟨fe, et, us, eu, pu⟩ := id htr2
      have mem2 := List.mem_of_getElem? hro2
      have tq : SqT K H2 t [.str (sortS ro2.ring), .int ro2.teeth, .ref fe] := .inl (.inl et)
      have g16 := fit.flen ro2 mem2
      refine ⟨.ref fo, rfl, .ref t, rfl, t, _, 2, .ref fe, rfl, rfl, tq, atI_nat (j := 2) rfl, footD x, ro2.feet.map footD, dp_foot tx2, dp_feet ⟨us, eu, pu⟩, (gd_foot x).shaped (by decide), (gd_feet g16).shaped (by decide), _, rfl, ?_⟩
      rw [any_foot]
      by_cases hm : x ∈ ro2.feet
      · rw [decide_eq_true hm]
        refine iteT ?_
        obtain ⟨j2, hj2l, hj2⟩ := List.getElem_of_mem hm
        have hx2 : ro2.feet[j2]? = some x := by rw [List.getElem?_eq_getElem hj2l, hj2]
        obtain ⟨ei, ej⟩ := feet_place fit.nd hro hx hro2 hx2
        subst ei
        subst ej
        have e2 := Option.some.inj (hro.symm.trans hro2)
        subst e2
        clear hx2 hj2 hro2
        have ndr : ro.feet.Nodup := by
          have z := fit.nd
          rw [flat_split hro] at z
          exact (List.nodup_append.mp (List.nodup_append.mp z).2.1).1
        refine ⟨.ref t, rfl, t, _, 2, .ref fe, rfl, rfl, tq, atI_nat (j := 2) rfl, ⟨fe, _, rfl, eu⟩, .ref fo, rfl, fe, .ref fo, footD x, ro.feet.map footD, j, rfl, rfl, dp_foot tx2, dp_feet ⟨us, eu, pu⟩, (gd_foot x).shaped (by decide), (gd_feet g16).shaped (by decide), ⟨footD x, by rw [List.getElem?_map, hx]; rfl, by rw [eqv_foot]; exact decide_eq_true rfl⟩, ?_, ?_⟩
        · intro k e lt he
          rw [List.getElem?_map] at he
          cases ek : ro.feet[k]? with
          | none => rw [ek] at he; cases he
          | some y =>
            rw [ek] at he
            have e3 := Option.some.inj he
            rw [← e3, eqv_foot]
            refine decide_eq_false fun e4 => ?_
            subst e4
            have := nd_ix ndr ek hx
            omega
        refine ⟨.ref L, rfl, L, .ref d, rfl, lay2.dLows, .ref fo, rfl, d, _, rfl, lay2.low tx2 fx, .int (j : Nat), .int (lo x), rfl, ?_⟩
        have k0 : 0 < ro.feet.length := by omega
        have te := fit.teeth ro mem2
        refine ⟨.bl up, rfl, up, rfl, ?_⟩
        cases up with
        | true =>
          refine iteT ?_
          refine ⟨.int (lo x), rfl, .ref L, rfl, L, .ref m, rfl, lay2.dMany, .ref fo, rfl, fo, _, 0, .int x.1, rfl, rfl, .inl (.inl tx2), atI_nat (j := 0) rfl, m, _, x.1, _, rfl, rfl, .inl (.inl lay2.many), many_at fx.1.1 fx.1.2, _, _, rfl, rfl, ?_⟩
          refine ⟨.int (i : Nat), rfl, .int (j : Nat), rfl, .ref L, rfl, .ref t, rfl, .int (j : Nat), rfl, _, 1, rfl, rfl, .bl true, rfl, L, t, r, z, d, m, n, lo, mn, ro, (j : Int) + 1, true, rfl, lay2, htr2, fit.foot ro mem2, k0, g16, te.1, te.2, .int (lo x + mn x.1), rfl, _, _, rfl, rfl, by show 3 ≤ sizeLine; decide, fun p np => q p _ (sm2.trans (same_upd np)) upd_same⟩
        | false =>
          refine iteF ?_
          refine ⟨.int (j : Nat), rfl, _, 1, rfl, rfl, ?_⟩
          refine ⟨fun σ' H' => H' = H2 ∧ σ' = [some (.ref L), some (.ref fo), some (.bl false), some (.int (i : Nat)), some (.ref t), some (.int (j : Nat)), some (.int (lo x)), none, some (.int (gid ro j false))], ?_, ?_⟩
          · refine ⟨.ref t, rfl, t, _, 0, .str (sortS ro.ring), rfl, rfl, tq, atI_nat (j := 0) rfl, rfl, _, rfl, ?_⟩
            cases er2 : ro.ring with
            | true =>
              rw [show decide (V.str (sortS true) = V.str "ring") = true by decide +kernel]
              refine iteT ⟨.int ((j : Int) - 1), rfl, .ref t, rfl, t, _, 2, .ref fe, rfl, rfl, tq, atI_nat (j := 2) rfl, fe, _, rfl, .inr eu.sq, _, _, rfl, rfl, ?_, rfl, ?_⟩
              · show (0 : Int) < ((us.map V.ref).length : Int)
                rw [List.length_map, pu.length]
                omega
              · show _ = _
                unfold gid
                rw [er2, if_neg (by decide), if_pos rfl, List.length_map, pu.length]
                rfl
            | false =>
              rw [show decide (V.str (sortS false) = V.str "ring") = false by decide +kernel]
              refine iteF ⟨rfl, ?_⟩
              unfold gid
              rw [er2, if_neg (by decide), if_neg (by decide)]
              rfl
          · rintro σ' H' ⟨rfl, rfl⟩
            exact ⟨.int (i : Nat), rfl, .int (gid ro j false), rfl, .int (lo x), rfl, .ref L, rfl, .ref t, rfl, .int (j : Nat), rfl, _, 1, rfl, rfl, .bl false, rfl, L, t, r, z, d, m, n, lo, mn, ro, (j : Int) - 1, false, rfl, lay2, htr2, fit.foot ro mem2, k0, g16, te.1, te.2, _, _, rfl, rfl, by show 3 ≤ sizeLine; decide, fun p np => q p _ (sm2.trans (same_upd np)) upd_same⟩
      · rw [decide_eq_false hm]
        refine iteF ⟨sm2, ?_, _, _, rfl⟩
        rcases Nat.lt_or_ge i' i with h | h
        · exact h
        · have e : i' = i := by omega
          subst e
          have e2 := Option.some.inj (hro.symm.trans hro2)
          subst e2
          exact absurd (List.mem_of_getElem? hx) hm
    · obtain ⟨sm, hi', _⟩ := hv
      rw [List.length_map] at hi'
      omega
theorem cal_gap {f : Addr} {fd : FuncData} (T : Bl mg) (F : Fun K "_law_gap" "_law_gap" sGap f fd) (cEdge : Cal P w K mg base CX0 1 "_law_edge" ["_law_layout", "_law_row", "_law_there", "_law_up"] spEdge) (g : mg "_law_gap" = some (.ref f)) : Cal P w K mg base CX0 2 "_law_gap" ["_law_layout", "_law_foot", "_law_up"] (spGap K) :=
  ⟨f, fd, g, F.kp, F.binds (ps := ["_law_layout", "_law_foot", "_law_up"]) fun _ _ _ _ _ _ us hl => match us, hl with | [_, _, _], _ => rfl, ok_gap T F cEdge⟩
end
end Zs
namespace Zs
open PySem PySem.Spec PyProof.Rows L2
/-! ### moves -/
inductive Mv where
  | close (n e : Int)
  | opn (n e : Int)
  | slip (n s d : Int)
def mvV : Mv → List V
  | .close n e => [.str "close", .int n, .int e]
  | .opn n e => [.str "open", .int n, .int e]
  | .slip n s d => [.str "slip", .int n, .int s, .int d]
def MvOk (k : Nat) : Mv → Prop
  | .close n e => (0 ≤ n ∧ n < k) ∧ (e = 0 ∨ e = 1)
  | .opn n e => (0 ≤ n ∧ n < k) ∧ (e = 0 ∨ e = 1)
  | .slip n s d => (0 ≤ n ∧ n < k) ∧ (s = 0 ∨ s = 1) ∧ (d = -1 ∨ d = 1)
def revAt (zs : List Zp) (n : Int) : Bool := (zs.getD n.toNat (false, 0)).1
def minAt (zs : List Zp) (n : Int) : Int := (zs.getD n.toNat (false, 0)).2
def isUp (rev : Bool) (side e : Int) : Bool := decide (decide (e = 1) = (decide (side = 0) || !rev))
theorem zip_at {H : Hp} {z : Addr} {zs : List Zp} {n : Int} (h : TupZs H z zs) (h0 : 0 ≤ n) (h1 : n < zs.length) : ∃ (ys : List V) (t : Addr), H z = some (.tup ys) ∧ atI ys n = some (.ref t) ∧ H t = some (.tup [.str (dirS (revAt zs n)), .int (minAt zs n)]) := by
  obtain ⟨ts, e, r⟩ := h
  obtain ⟨j, rfl⟩ := Int.eq_ofNat_of_zero_le h0
  have hl : j < ts.length := by rw [r.length]; omega
  obtain ⟨zz, hz, tz⟩ := paired_get r (List.getElem?_eq_getElem hl)
  refine ⟨_, ts[j], e, atI_nat (by rw [List.getElem?_map, List.getElem?_eq_getElem hl]; rfl), ?_⟩
  unfold revAt minAt
  rw [Int.toNat_natCast, List.getD_eq_getElem?_getD, hz]
  exact tz
theorem zips_sub {H H' : Hp} {z : Addr} {zs : List Zp} (h : TupZs H z zs) (s : Same H H') : TupZs H' z zs := h.tp (.of s)
section
variable {P : Program} {w : World} {K : PySem.W.Frag} {mg : Str → Option Value} {base : Heap}
def spUp : Sp := fun vs H Q _ => ∃ (L r z d m : Addr) (n : Nat) (lo : Foot → Int) (mn : Int → Int) (zs : List Zp) (nu side e : Int), vs = [.ref L, .int nu, .int side, .int e] ∧ Lay H L r z d m n lo mn ∧ TupZs H z zs ∧ 0 ≤ nu ∧ nu < zs.length ∧ Q (.bl (isUp (revAt zs nu) side e)) H
theorem ok_up {f : Addr} {fd : FuncData} (F : Fun K "_law_is_upper" "_law_is_upper" sUp f fd) : FnOk P w K mg base CX0 1 f fd ["_law_layout", "_law_number", "_law_side", "_law_end"] spUp := by
  refine F.ok scUp (fun vs H Q E h => ?_) (fun cdv A outer s H vs Q E hr h => ?_)
  · obtain ⟨L, r, z, d, m, n, lo, mn, zs, nu, side, e, rfl, _⟩ := h
    rfl
  · obtain ⟨L, r, z, d, m, n, lo, mn, zs, nu, side, e, rfl, lay, hz, n0, n1, q⟩ := h
    refine ⟨_, (pss_one (ps_ret (pe_cmpR op_eq (pe_cmpR op_eq (pv 3) pe_int (nomark _)) (pe_or (pe_cmpR op_eq (pv 2) pe_int (nomark _)) (pe_one (pe_cmpR op_eq (pe_ix ix_tup (pe_ix ix_tup (pe_dget (hu_of hr) (pv 0) pe_str (fun _ _ => rfl)) (pv 1) (fun _ _ => rfl)) pe_int (fun _ _ => rfl)) pe_str (nomark _)))) (nomark _)))), ?_⟩
    obtain ⟨ys, t, e1, e2, e3⟩ := zip_at hz n0 n1
    have ve : ∀ i j : Int, decide (V.int i = V.int j) = decide (i = j) := fun i j => by
      by_cases h : i = j
      · rw [h, decide_eq_true rfl, decide_eq_true rfl]
      · rw [decide_eq_false h, decide_eq_false fun z => h (V.int.inj z)]
    have vb : ∀ a b : Bool, decide (V.bl a = V.bl b) = decide (a = b) := fun a b => by
      by_cases h : a = b
      · rw [h, decide_eq_true rfl, decide_eq_true rfl]
      · rw [decide_eq_false h, decide_eq_false fun z => h (V.bl.inj z)]
    have vs : ∀ b : Bool, decide (V.str (dirS b) = V.str "parallel") = !b := fun b => by cases b <;> decide +kernel
    refine ⟨.int e, rfl, rfl, .int side, rfl, rfl, _, rfl, ?_⟩
    rw [ve, ve]
    by_cases hs : side = 0
    · rw [decide_eq_true hs]
      refine iteT ⟨rfl, ?_⟩
      rw [vb]
      unfold isUp at q
      rw [decide_eq_true hs, Bool.true_or] at q
      exact q
    · rw [decide_eq_false hs]
      refine iteF ⟨.ref L, rfl, L, .ref z, rfl, lay.dZips, .int nu, rfl, z, _, _, _, rfl, rfl, .inl (.inl e1), e2, t, _, 0, _, rfl, rfl, .inl (.inl e3), atI_nat (j := 0) rfl, rfl, rfl, ?_⟩
      rw [vs, vb]
      unfold isUp at q
      rw [decide_eq_false hs, Bool.false_or] at q
      exact q
theorem cal_up {f : Addr} {fd : FuncData} (F : Fun K "_law_is_upper" "_law_is_upper" sUp f fd) (g : mg "_law_is_upper" = some (.ref f)) : Cal P w K mg base CX0 1 "_law_is_upper" ["_law_layout", "_law_number", "_law_side", "_law_end"] spUp :=
  ⟨f, fd, g, F.kp, F.binds (ps := ["_law_layout", "_law_number", "_law_side", "_law_end"]) fun _ _ _ _ _ _ us hl => match us, hl with | [_, _, _, _], _ => rfl, ok_up F⟩
/-! ### _law_is_legal -/
def AtF (rs : List Row) (x : Foot) (i : Nat) (ro : Row) (j : Nat) : Prop := rs[i]? = some ro ∧ ro.feet[j]? = some x
def Legal (rs : List Row) (zs : List Zp) (lo : Foot → Int) (mn : Int → Int) : Mv → Prop
  | .opn n _ => mn n > minAt zs n
  | .slip n s d => mn n = 0 ∧ ∃ i ro j, AtF rs (n, s) i ro j ∧ gsz ro lo mn j (n, s) (decide (d = 1)) > 0
  | .close n e => ∃ i0 ro0 j0 i1 ro1 j1, AtF rs (n, 0) i0 ro0 j0 ∧ AtF rs (n, 1) i1 ro1 j1 ∧
      ((i0 = i1 ∧ gid ro0 j0 (decide (e = 1)) = gid ro1 j1 (isUp (revAt zs n) 1 e) ∧ gsz ro0 lo mn j0 (n, 0) (decide (e = 1)) > 1) ∨
        (¬ (i0 = i1 ∧ gid ro0 j0 (decide (e = 1)) = gid ro1 j1 (isUp (revAt zs n) 1 e)) ∧ gsz ro0 lo mn j0 (n, 0) (decide (e = 1)) > 0 ∧ gsz ro1 lo mn j1 (n, 1) (isUp (revAt zs n) 1 e) > 0))
theorem close_iff {rs : List Row} {zs : List Zp} {lo : Foot → Int} {mn : Int → Int} {n e : Int} {i i1 j j1 : Nat} {ro ro1 : Row} (nd : (rs.flatMap (·.feet)).Nodup) (hi : rs[i]? = some ro) (hj : ro.feet[j]? = some (n, 0)) (hi1 : rs[i1]? = some ro1) (hj1 : ro1.feet[j1]? = some (n, 1)) :
    Legal rs zs lo mn (.close n e) ↔ ((i = i1 ∧ gid ro j (decide (e = 1)) = gid ro1 j1 (isUp (revAt zs n) 1 e)) ∧ gsz ro lo mn j (n, 0) (decide (e = 1)) > 1) ∨
      (¬ (i = i1 ∧ gid ro j (decide (e = 1)) = gid ro1 j1 (isUp (revAt zs n) 1 e)) ∧ gsz ro lo mn j (n, 0) (decide (e = 1)) > 0 ∧ gsz ro1 lo mn j1 (n, 1) (isUp (revAt zs n) 1 e) > 0) := by
  constructor
  · rintro ⟨i', ro', j', i2, ro2, j2, ⟨a, b⟩, ⟨a2, b2⟩, h⟩
    obtain ⟨rfl, rfl⟩ := feet_place nd hi hj a b
    obtain ⟨rfl, rfl⟩ := feet_place nd hi1 hj1 a2 b2
    obtain rfl := Option.some.inj (hi.symm.trans a)
    obtain rfl := Option.some.inj (hi1.symm.trans a2)
    rcases h with ⟨h1, h2, h3⟩ | h
    · exact .inl ⟨⟨h1, h2⟩, h3⟩
    · exact .inr h
  · rintro (⟨⟨h1, h2⟩, h3⟩ | h)
    · exact ⟨i, ro, j, i1, ro1, j1, ⟨hi, hj⟩, ⟨hi1, hj1⟩, .inl ⟨h1, h2, h3⟩⟩
    · exact ⟨i, ro, j, i1, ro1, j1, ⟨hi, hj⟩, ⟨hi1, hj1⟩, .inr h⟩
def spLegal (K : PySem.W.Frag) : Sp := fun vs H Q _ => ∃ (L r z d m t : Addr) (n : Nat) (lo : Foot → Int) (mn : Int → Int) (rs : List Row) (zs : List Zp) (mv : Mv), vs = [.ref L, .ref t] ∧ Lay H L r z d m n lo mn ∧ TupRs H r rs ∧ TupZs H z zs ∧ zs.length = n ∧ RowsFit n rs ∧ H t = some (.tup (mvV mv)) ∧ MvOk n mv ∧
  ∀ (b : Bool) (H' : Hp), Same H H' → (b = true ↔ Legal rs zs lo mn mv) → Q (.bl b) H'
theorem cut2 (a b c : V) : cutV [a, b, c] none (some 2) = [a, b] := rfl
theorem nw : ∀ x : Str, x = "close" ∨ x = "slip" → decide (V.str x = V.str "open") = false := by
  rintro x (rfl | rfl) <;> decide +kernel
theorem dec_int (i j : Int) : decide (V.int i = V.int j) = decide (i = j) := by
  by_cases h : i = j
  · rw [h, decide_eq_true rfl, decide_eq_true rfl]
  · rw [decide_eq_false h, decide_eq_false fun z => h (V.int.inj z)]
set_option maxHeartbeats 800000 in
theorem ok_legal {f : Addr} {fd : FuncData} (F : Fun K "_law_is_legal" "_law_is_legal" sLegal f fd) (cGap : Cal P w K mg base CX0 2 "_law_gap" ["_law_layout", "_law_foot", "_law_up"] (spGap K)) (cUp : Cal P w K mg base CX0 1 "_law_is_upper" ["_law_layout", "_law_number", "_law_side", "_law_end"] spUp) :
    FnOk P w K mg base CX0 3 f fd ["_law_layout", "_law_move"] (spLegal K) := by
  refine F.ok scLegal (fun vs H Q E h => ?_) (fun cdv A outer s H vs Q E hr h => ?_)
  · obtain ⟨L, r, z, d, m, t, n, lo, mn, rs, zs, mv, rfl, _⟩ := h
    rfl
  · obtain ⟨L, r, z, d, m, t, n, lo, mn, rs, zs, mv, rfl, lay, hrs, hzs, zl, fit, et, ok, q⟩ := h
    refine ⟨_, (pss_cons (ps_par (i := 2) (j := 3) rfl scLegal.nd rfl rfl (by decide) rfl rfl (pa_cons (pe_ix ix_tup (pv 1) pe_int (fun _ _ => rfl)) (pa_cons (pe_ix ix_tup (pv 1) pe_int (fun _ _ => rfl)) pa_nil)) rfl)
      (pss_cons (ps_if (pt_cmpR op_eq (pv 2) pe_str (nomark _))
        (pss_one (ps_ret (pe_cmpR op_gt (pe_ix ix_list (pe_dget (hu_of hr) (pv 0) pe_str (fun _ _ => rfl)) (pv 3) (fun _ _ => rfl)) (pe_ix ix_tup (pe_ix ix_tup (pe_dget (hu_of hr) (pv 0) pe_str (fun _ _ => rfl)) (pv 3) (fun _ _ => rfl)) pe_int (fun _ _ => rfl)) (nomark _))))
        pss_nil)
      (pss_cons (ps_if (pt_cmpR op_eq (pv 2) pe_str (nomark _))
        (pss_one (ps_ret (pe_and (pe_cmpR op_eq (pe_ix ix_list (pe_dget (hu_of hr) (pv 0) pe_str (fun _ _ => rfl)) (pv 3) (fun _ _ => rfl)) pe_int (nomark _)) (pe_one (pe_cmpR op_gt (pe_ix ix_tup (pe_cal cGap (hr.mono (by decide)) pass0 (by rfl) (pa_cons (pv 0) (pa_cons (pe_tup (pa_cons (pv 3) (pa_cons (pe_ix ix_tup (pv 1) pe_int (fun _ _ => rfl)) pa_nil))) (pa_cons (pe_cmpR op_eq (pe_ix ix_tup (pv 1) pe_int (fun _ _ => rfl)) pe_int (nomark _)) pa_nil)))) pe_int (fun _ _ => rfl)) pe_int (nomark _))))))
        pss_nil)
      (pss_cons (ps_set (i := 4) scLegal.nd rfl (Or.inl rfl) (pe_cal cGap (hr.mono (by decide)) pass0 (by rfl) (pa_cons (pv 0) (pa_cons (pe_tup (pa_cons (pv 3) (pa_cons pe_int pa_nil))) (pa_cons (pe_cmpR op_eq (pe_ix ix_tup (pv 1) pe_int (fun _ _ => rfl)) pe_int (nomark _)) pa_nil)))))
      (pss_cons (ps_set (i := 5) scLegal.nd rfl (Or.inl rfl) (pe_cal cGap (hr.mono (by decide)) pass0 (by rfl) (pa_cons (pv 0) (pa_cons (pe_tup (pa_cons (pv 3) (pa_cons pe_int pa_nil))) (pa_cons (pe_cal cUp (hr.mono (by decide)) pass0 (by rfl) (pa_cons (pv 0) (pa_cons (pv 3) (pa_cons pe_int (pa_cons (pe_ix ix_tup (pv 1) pe_int (fun _ _ => rfl)) pa_nil))))) pa_nil)))))
      (pss_cons (ps_if (pt_cmpR (op_eqD (u64 hr)) (pe_slice sl_tupA (pv 4) po_none (po_some pe_int)) (pe_slice sl_tupA (pv 5) po_none (po_some pe_int)) (nomark _))
        (pss_one (ps_ret (pe_cmpR op_gt (pe_ix ix_tup (pv 4) pe_int (fun _ _ => rfl)) pe_int (nomark _))))
        pss_nil)
      (pss_one (ps_ret (pe_and (pe_cmpR op_gt (pe_ix ix_tup (pv 4) pe_int (fun _ _ => rfl)) pe_int (nomark _)) (pe_one (pe_cmpR op_gt (pe_ix ix_tup (pv 5) pe_int (fun _ _ => rfl)) pe_int (nomark _)))))))))))), ?_⟩
    have tq : SqT K H t (mvV mv) := .inl (.inl et)
    cases mv with
    | opn nu e =>
      obtain ⟨⟨n0, n1⟩, _⟩ := ok
      obtain ⟨ys, tz, e1, e2, e3⟩ := zip_at hzs n0 (by rw [zl]; exact n1)
      refine ⟨.ref t, rfl, t, _, 0, .str "open", rfl, rfl, tq, atI_nat (j := 0) rfl, .ref t, rfl, t, _, 1, .int nu, rfl, rfl, tq, atI_nat (j := 1) rfl, .str "open", .int nu, rfl, ?_⟩
      refine ⟨.str "open", rfl, rfl, _, rfl, ?_⟩
      rw [show decide (V.str "open" = V.str "open") = true by decide +kernel]
      refine iteT ⟨.ref L, rfl, L, .ref m, rfl, lay.dMany, .int nu, rfl, m, _, nu, _, rfl, rfl, .inl (.inl lay.many), many_at n0 n1, ?_⟩
      refine ⟨.ref L, rfl, L, .ref z, rfl, lay.dZips, .int nu, rfl, z, _, nu, _, rfl, rfl, .inl (.inl e1), e2, tz, _, 1, _, rfl, rfl, .inl (.inl e3), atI_nat (j := 1) rfl, _, _, rfl, rfl, ?_⟩
      exact q _ H (.refl H) ⟨fun h => show mn nu > minAt zs nu from of_decide_eq_true h, fun h => decide_eq_true (show mn nu > minAt zs nu from h)⟩
    | slip nu s d2 =>
      obtain ⟨⟨n0, n1⟩, hs, hd⟩ := ok
      refine ⟨.ref t, rfl, t, _, 0, .str "slip", rfl, rfl, tq, atI_nat (j := 0) rfl, .ref t, rfl, t, _, 1, .int nu, rfl, rfl, tq, atI_nat (j := 1) rfl, .str "slip", .int nu, rfl, ?_⟩
      refine ⟨.str "slip", rfl, rfl, _, rfl, ?_⟩
      rw [nw "slip" (.inr rfl)]
      refine iteF ⟨.str "slip", rfl, rfl, _, rfl, ?_⟩
      rw [show decide (V.str "slip" = V.str "slip") = true by decide +kernel]
      refine iteT ⟨.ref L, rfl, L, .ref m, rfl, lay.dMany, .int nu, rfl, m, _, nu, _, rfl, rfl, .inl (.inl lay.many), many_at n0 n1, rfl, _, rfl, ?_⟩
      rw [dec_int]
      by_cases h0 : mn nu = 0
      · rw [decide_eq_true h0]
        have fx : FootIn n (nu, s) := ⟨⟨n0, n1⟩, hs⟩
        obtain ⟨i, ro, j, hi, hj⟩ := fit.all _ fx
        refine iteT ⟨.ref L, rfl, .int nu, rfl, .ref t, rfl, t, _, 2, .int s, rfl, rfl, tq, atI_nat (j := 2) rfl, by show 2 ≤ sizeLine; decide, fun k nk => ?_⟩
        have sk := same_upd (o := .tup [.int nu, .int s]) nk
        refine ⟨.ref t, rfl, t, _, 3, .int d2, rfl, rfl, same_seqT sk tq, atI_nat (j := 3) rfl, rfl, ?_⟩
        refine ⟨L, k, r, z, d, m, n, lo, mn, rs, (nu, s), _, i, j, ro, rfl, lay.same sk, hrs.tp (.of sk), fit, upd_same, hi, hj, fun p H1 s1 ep => ?_⟩
        refine ⟨p, _, 2, _, rfl, rfl, .inl (.inl ep), atI_nat (j := 2) rfl, _, _, rfl, rfl, ?_⟩
        refine q _ H1 (sk.trans s1) ?_
        rw [dec_int]
        refine ⟨fun h => ⟨h0, i, ro, j, ⟨hi, hj⟩, of_decide_eq_true h⟩, fun h => ?_⟩
        obtain ⟨_, i', ro', j', ⟨hi', hj'⟩, pos⟩ := h
        obtain ⟨rfl, rfl⟩ := feet_place fit.nd hi hj hi' hj'
        obtain rfl := Option.some.inj (hi.symm.trans hi')
        exact decide_eq_true pos
      · rw [decide_eq_false h0]
        exact iteF (q false H (.refl H) ⟨fun h => (nomatch h), fun h => absurd h.1 h0⟩)
    | close nu e =>
      obtain ⟨⟨n0, n1⟩, he⟩ := ok
      refine ⟨.ref t, rfl, t, _, 0, .str "close", rfl, rfl, tq, atI_nat (j := 0) rfl, .ref t, rfl, t, _, 1, .int nu, rfl, rfl, tq, atI_nat (j := 1) rfl, .str "close", .int nu, rfl, ?_⟩
      refine ⟨.str "close", rfl, rfl, _, rfl, ?_⟩
      rw [nw "close" (.inl rfl)]
      refine iteF ⟨.str "close", rfl, rfl, _, rfl, ?_⟩
      rw [show decide (V.str "close" = V.str "slip") = false by decide +kernel]
      refine iteF ?_
      have fx : FootIn n (nu, 0) := ⟨⟨n0, n1⟩, .inl rfl⟩
      have fx1 : FootIn n (nu, 1) := ⟨⟨n0, n1⟩, .inr rfl⟩
      obtain ⟨i, ro, j, hi, hj⟩ := fit.all _ fx
      obtain ⟨i1, ro1, j1, hi1, hj1⟩ := fit.all _ fx1
      refine ⟨.ref L, rfl, .int nu, rfl, by show 2 ≤ sizeLine; decide, fun k nk => ?_⟩
      have sk := same_upd (o := .tup [.int nu, .int 0]) nk
      refine ⟨.ref t, rfl, t, _, 2, .int e, rfl, rfl, same_seqT sk tq, atI_nat (j := 2) rfl, rfl, ?_⟩
      refine ⟨L, k, r, z, d, m, n, lo, mn, rs, (nu, 0), _, i, j, ro, rfl, lay.same sk, hrs.tp (.of sk), fit, upd_same, hi, hj, fun p H1 s1 ep => ?_⟩
      rw [dec_int] at ep
      have s01 := sk.trans s1
      clear sk s1
      refine ⟨.ref L, rfl, .int nu, rfl, by show 2 ≤ sizeLine; decide, fun k2 nk2 => ?_⟩
      have sk2 := same_upd (o := .tup [.int nu, .int 1]) nk2
      have s02 := s01.trans sk2
      refine ⟨.ref L, rfl, .int nu, rfl, .ref t, rfl, t, _, 2, .int e, rfl, rfl, same_seqT s02 tq, atI_nat (j := 2) rfl, L, r, z, d, m, n, lo, mn, zs, nu, 1, e, rfl, lay.same s02, hzs.tp (.of s02), n0, by rw [zl]; exact n1, ?_⟩
      refine ⟨L, k2, r, z, d, m, n, lo, mn, rs, (nu, 1), _, i1, j1, ro1, rfl, lay.same s02, hrs.tp (.of s02), fit, upd_same, hi1, hj1, fun p1 H2 s2 ep1 => ?_⟩
      have s03 := s02.trans s2
      have ep2 := s2 _ _ (sk2 _ _ ep)
      refine ⟨.ref p, rfl, 2, rfl, p, _, rfl, .inl (.inl ep2), fun h => absurd h.2 (show ¬ HT.sIx 3 3 (some 2) = 3 by decide), fun _ c nc => ?_⟩
      have sc := same_upd (o := .tup [.int (i : Nat), .int (gid ro j (decide (e = 1)))]) nc
      refine ⟨.ref p1, rfl, 2, rfl, p1, _, rfl, .inl (.inl (sc _ _ ep1)), fun h => absurd h.2 (show ¬ HT.sIx 3 3 (some 2) = 3 by decide), fun _ c1 nc1 => ?_⟩
      have sc1 := same_upd (o := .tup [.int (i1 : Nat), .int (gid ro1 j1 (isUp (revAt zs nu) 1 e))]) nc1
      have ec := sc1 _ _ (upd_same (H := H2) (a := c) (o := .tup [.int (i : Nat), .int (gid ro j (decide (e = 1)))]))
      have s04 := (s03.trans sc).trans sc1
      have ep3 := sc1 _ _ (sc _ _ ep2)
      have ep4 := sc1 _ _ (sc _ _ ep1)
      refine ⟨footD ((i : Int), gid ro j (decide (e = 1))), footD ((i1 : Int), gid ro1 j1 (isUp (revAt zs nu) 1 e)), .tup (.inl (.inl ec)) (.cons (.int _) (.cons (.int _) .nil)), .tup (.inl (.inl upd_same)) (.cons (.int _) (.cons (.int _) .nil)), (gd_foot _).shaped (by decide), (gd_foot _).shaped (by decide), _, rfl, ?_⟩
      rw [eqv_foot]
      by_cases same : ((i : Int), gid ro j (decide (e = 1))) = ((i1 : Int), gid ro1 j1 (isUp (revAt zs nu) 1 e))
      · rw [decide_eq_true same]
        have e1 : i = i1 := by have := congrArg Prod.fst same; simp at this; omega
        have e2 : gid ro j (decide (e = 1)) = gid ro1 j1 (isUp (revAt zs nu) 1 e) := congrArg Prod.snd same
        refine iteT ⟨.ref p, rfl, p, _, 2, _, rfl, rfl, .inl (.inl ep3), atI_nat (j := 2) rfl, _, _, rfl, rfl, ?_⟩
        refine q _ _ s04 (Iff.trans ?_ (close_iff fit.nd hi hj hi1 hj1).symm)
        exact ⟨fun h => .inl ⟨⟨e1, e2⟩, of_decide_eq_true h⟩, fun h => h.elim (fun h => decide_eq_true h.2) fun h => absurd ⟨e1, e2⟩ h.1⟩
      · rw [decide_eq_false same]
        have ns : ¬ (i = i1 ∧ gid ro j (decide (e = 1)) = gid ro1 j1 (isUp (revAt zs nu) 1 e)) := fun h => same (by rw [h.1, h.2])
        refine iteF ⟨.ref p, rfl, p, _, 2, _, rfl, rfl, .inl (.inl ep3), atI_nat (j := 2) rfl, _, _, rfl, rfl, _, rfl, ?_⟩
        by_cases hg : gsz ro lo mn j (nu, 0) (decide (e = 1)) > 0
        · rw [decide_eq_true hg]
          refine iteT ⟨.ref p1, rfl, p1, _, 2, _, rfl, rfl, .inl (.inl ep4), atI_nat (j := 2) rfl, _, _, rfl, rfl, ?_⟩
          refine q _ _ s04 (Iff.trans ?_ (close_iff fit.nd hi hj hi1 hj1).symm)
          exact ⟨fun h => .inr ⟨ns, hg, of_decide_eq_true h⟩, fun h => h.elim (fun h => absurd h.1 ns) fun h => decide_eq_true h.2.2⟩
        · rw [decide_eq_false hg]
          refine iteF (q false _ s04 (Iff.trans ?_ (close_iff fit.nd hi hj hi1 hj1).symm))
          exact ⟨fun h => (nomatch h), fun h => h.elim (fun h => absurd h.1 ns) fun h => absurd h.2.1 hg⟩
theorem cal_legal {f : Addr} {fd : FuncData} (F : Fun K "_law_is_legal" "_law_is_legal" sLegal f fd) (cGap : Cal P w K mg base CX0 2 "_law_gap" ["_law_layout", "_law_foot", "_law_up"] (spGap K)) (cUp : Cal P w K mg base CX0 1 "_law_is_upper" ["_law_layout", "_law_number", "_law_side", "_law_end"] spUp) (g : mg "_law_is_legal" = some (.ref f)) :
    Cal P w K mg base CX0 3 "_law_is_legal" ["_law_layout", "_law_move"] (spLegal K) :=
  ⟨f, fd, g, F.kp, F.binds (ps := ["_law_layout", "_law_move"]) fun _ _ _ _ _ _ us hl => match us, hl with | [_, _], _ => rfl, ok_legal F cGap cUp⟩
end
/-! ### writing a layout -/
theorem putK_len {kvs : List (List Key × V)} {k : List Key} {v y : V} (h : valV kvs k = some y) : (putK kvs k v).length = kvs.length := by
  unfold putK
  rw [valV_any, h]
  show (if true = true then _ else _ : List (List Key × V)).length = _
  rw [if_pos rfl, List.length_map]
theorem putK_mem {kvs : List (List Key × V)} {k : List Key} {v : V} {kv : List Key × V} (h : kv ∈ putK kvs k v) : kv.1 = k ∨ ∃ kv' ∈ kvs, kv'.1 = kv.1 := by
  unfold putK at h
  split at h
  · obtain ⟨kv', h1, h2⟩ := List.mem_map.mp h
    refine .inr ⟨kv', h1, ?_⟩
    rw [← h2]
    split <;> rfl
  · rcases List.mem_append.mp h with h | h
    · exact .inr ⟨kv, h, rfl⟩
    · rw [List.mem_singleton.mp h]
      exact .inl rfl
theorem FootIn.mono {n k : Nat} {x : Foot} (h : FootIn n x) (l : n ≤ k) : FootIn k x := ⟨⟨h.1.1, by have := h.1.2; omega⟩, h.2⟩
def setLo (lo : Foot → Int) (x : Foot) (v : Int) : Foot → Int := fun y => if y = x then v else lo y
theorem Lows.put {H H' : Hp} {d : Addr} {n : Nat} {lo : Foot → Int} {x : Foot} {b : Addr} {v : Int} (h : Lows H d n lo) (s : Same H H') (hx : FootIn n x) (n8 : n ≤ 8) (hb : H' b = some (.tup [.int x.1, .int x.2])) :
    ∃ H2, DPut H' d (.ref b) (.int v) H2 ∧ Lows H2 d n (setLo lo x v) ∧ (∀ c o, c ≠ d → H' c = some o → H2 c = some o) := by
  obtain ⟨kvs, hd, l16, keys, vals⟩ := h
  have hd' := s _ _ hd
  refine ⟨_, DPut.t (k := keyF x) (v := .int v) hd' (show H' b = some (.tup ((keyF x).map kV)) from hb) (small1000 (by omega)), ⟨_, upd_same, ?_, ?_, ?_⟩, fun c o ne e => by rw [upd_ne ne]; exact e⟩
  · rw [putK_len (vals x hx)]
    exact l16
  · intro kv hkv
    rcases putK_mem hkv with e | ⟨kv', h1, e⟩
    · exact ⟨x, hx.mono n8, e⟩
    · rw [← e]
      exact keys kv' h1
  · intro y hy
    rw [valV_put]
    unfold setLo
    by_cases e : y = x
    · subst e
      rw [if_pos rfl, if_pos rfl]
    · rw [if_neg (fun z => e (keyF_inj z)), if_neg e]
      exact vals y hy
theorem Lows.ext {H : Hp} {d : Addr} {n : Nat} {lo lo' : Foot → Int} (h : Lows H d n lo) (e : ∀ x, FootIn n x → lo x = lo' x) : Lows H d n lo' := by
  obtain ⟨kvs, a, b, c, v⟩ := h
  exact ⟨kvs, a, b, c, fun x hx => by rw [v x hx, e x hx]⟩
def setMn (mn : Int → Int) (k v : Int) : Int → Int := fun i => if i = k then v else mn i
theorem many_set {n : Nat} {mn : Int → Int} {k v : Int} (h0 : 0 ≤ k) (h1 : k < n) : (manyL n mn).set k.toNat (.int v) = manyL n (setMn mn k v) := by
  unfold manyL setMn
  refine List.ext_getElem? fun i => ?_
  rw [List.getElem?_set]
  by_cases hi : i < n
  · rw [List.getElem?_map, List.getElem?_map, List.getElem?_range hi]
    by_cases e : k.toNat = i
    · rw [if_pos e, if_pos (by rw [List.length_map, List.length_range]; omega)]
      have : ((i : Nat) : Int) = k := by omega
      show _ = some (V.int (if ((i : Nat) : Int) = k then v else mn i))
      rw [if_pos this]
    · rw [if_neg e]
      have : ¬ ((i : Nat) : Int) = k := by omega
      show some (V.int (mn i)) = some (V.int (if ((i : Nat) : Int) = k then v else mn i))
      rw [if_neg this]
  · have e1 : ((List.range n).map fun i => V.int (mn (i : Nat)))[i]? = none := List.getElem?_eq_none (by rw [List.length_map, List.length_range]; omega)
    have e2 : ((List.range n).map fun i => V.int (if ((i : Nat) : Int) = k then v else mn i))[i]? = none := List.getElem?_eq_none (by rw [List.length_map, List.length_range]; omega)
    rw [e2, if_neg (by omega)]
    exact e1
theorem manyL_len (n : Nat) (mn : Int → Int) : (manyL n mn).length = n := by
  unfold manyL
  rw [List.length_map, List.length_range]
theorem ixN_of {n : Nat} {k : Int} (h0 : 0 ≤ k) (h1 : k < n) : ixN n k = some k.toNat := by
  unfold ixN
  rw [if_pos h0, if_pos h1]
def loP (zs : List Zp) (lo : Foot → Int) : Mv → Foot → Int
  | .slip n s d => setLo lo (n, s) (lo (n, s) + d)
  | .close n e => fun y => if y.1 = n ∧ isUp (revAt zs n) y.2 e = false then lo y - 1 else lo y
  | .opn n e => fun y => if y.1 = n ∧ isUp (revAt zs n) y.2 e = false then lo y - -1 else lo y
def mnP (mn : Int → Int) : Mv → Int → Int
  | .slip _ _ _ => mn
  | .close n _ => setMn mn n (mn n + 1)
  | .opn n _ => setMn mn n (mn n + -1)
section
variable {P : Program} {w : World} {K : PySem.W.Frag} {mg : Str → Option Value} {base : Heap}
def spPerf : Sp := fun vs H Q _ => ∃ (L r z d m t : Addr) (n : Nat) (lo : Foot → Int) (mn : Int → Int) (zs : List Zp) (mv : Mv), vs = [.ref L, .ref t] ∧ Lay H L r z d m n lo mn ∧ TupZs H z zs ∧ zs.length = n ∧ n ≤ 8 ∧ H t = some (.tup (mvV mv)) ∧ MvOk n mv ∧
  ∀ H' : Hp, (∀ b o, b ≠ d → b ≠ m → H b = some o → H' b = some o) → Lay H' L r z d m n (loP zs lo mv) (mnP mn mv) → Q .non H'
set_option maxHeartbeats 800000 in
theorem ok_perf {f : Addr} {fd : FuncData} (F : Fun K "_law_perform" "_law_perform" sPerf f fd) (cUp : Cal P w K mg base CX0 1 "_law_is_upper" ["_law_layout", "_law_number", "_law_side", "_law_end"] spUp) :
    FnOk P w K mg base CX0 2 f fd ["_law_layout", "_law_move"] spPerf := by
  refine F.ok scPerf (fun vs H Q E h => ?_) (fun cdv A outer s H vs Q E hr h => ?_)
  · obtain ⟨L, r, z, d, m, t, n, lo, mn, zs, mv, rfl, _⟩ := h
    rfl
  · obtain ⟨L, r, z, d, m, t, n, lo, mn, zs, mv, rfl, lay, hzs, zl, n8, et, ok, q⟩ := h
    refine ⟨_, (pss_cons (ps_par (i := 2) (j := 3) rfl scPerf.nd rfl rfl (by decide) rfl rfl (pa_cons (pe_ix ix_tup (pv 1) pe_int (fun _ _ => rfl)) (pa_cons (pe_ix ix_tup (pv 1) pe_int (fun _ _ => rfl)) pa_nil)) rfl)
      (pss_one (ps_if (pt_cmpR op_eq (pv 2) pe_str (nomark _))
        (pss_one (ps_dput (hu_of hr) (pe_dget (hu_of hr) (pv 0) pe_str (fun _ _ => rfl)) (pe_tup (pa_cons (pv 3) (pa_cons (pe_ix ix_tup (pv 1) pe_int (fun _ _ => rfl)) pa_nil))) (pe_op op_add (pe_dget (hu_of hr) (pe_dget (hu_of hr) (pv 0) pe_str (fun _ _ => rfl)) (pe_tup (pa_cons (pv 3) (pa_cons (pe_ix ix_tup (pv 1) pe_int (fun _ _ => rfl)) pa_nil))) (fun _ _ => rfl)) (pe_ix ix_tup (pv 1) pe_int (fun _ _ => rfl))) rfl))
        (pss_cons (ps_set (i := 4) scPerf.nd rfl (Or.inl rfl) (pe_ifExp (pt_cmpR op_eq (pv 2) pe_str (nomark _)) pe_int (pe_un un_neg pe_int)))
        (pss_cons (ps_asg (pe_op op_add (pe_ix ix_list (pe_dget (hu_of hr) (pv 0) pe_str (fun _ _ => rfl)) (pv 3) (fun _ _ => rfl)) (pv 4)) (pg_sub (pe_dget (hu_of hr) (pv 0) pe_str (fun _ _ => rfl)) (pv 3) set_list))
        (pss_one (ps_for PassesOwn.never rfl (pi_tup (pe_tup (pa_cons pe_int (pa_cons pe_int pa_nil)))) (pg_name (i := 5) scPerf.nd rfl (Or.inl rfl))
          (pss_one (ps_if (pt_not (pt_val (pe_cal cUp (hr.mono (by decide)) pass0 (by rfl) (pa_cons (pv 0) (pa_cons (pv 3) (pa_cons (pv 5) (pa_cons (pe_ix ix_tup (pv 1) pe_int (fun _ _ => rfl)) pa_nil)))))))
            (pss_one (ps_dput (hu_of hr) (pe_dget (hu_of hr) (pv 0) pe_str (fun _ _ => rfl)) (pe_tup (pa_cons (pv 3) (pa_cons (pv 5) pa_nil))) (pe_op op_sub (pe_dget (hu_of hr) (pe_dget (hu_of hr) (pv 0) pe_str (fun _ _ => rfl)) (pe_tup (pa_cons (pv 3) (pa_cons (pv 5) pa_nil))) (fun _ _ => rfl)) (pv 4)) rfl))
            pss_nil))))))))), ?_⟩
    have tq : SqT K H t (mvV mv) := .inl (.inl et)
    obtain ⟨kvs0, hd0, _⟩ := lay.lows
    have Ld : L ≠ d := ne_of lay.at_ hd0 (by intro z; cases z)
    have Lm : L ≠ m := ne_of lay.at_ lay.many (by intro z; cases z)
    have md : m ≠ d := ne_of lay.many hd0 (by intro z; cases z)
    cases mv with
    | slip nu s d2 =>
      obtain ⟨⟨n0, n1⟩, hs, hd⟩ := ok
      have fx : FootIn n (nu, s) := ⟨⟨n0, n1⟩, hs⟩
      refine ⟨.ref t, rfl, t, _, 0, .str "slip", rfl, rfl, tq, atI_nat (j := 0) rfl, .ref t, rfl, t, _, 1, .int nu, rfl, rfl, tq, atI_nat (j := 1) rfl, .str "slip", .int nu, rfl, ?_⟩
      refine ⟨.str "slip", rfl, rfl, _, rfl, ?_⟩
      rw [show decide (V.str "slip" = V.str "slip") = true by decide +kernel]
      refine iteT ⟨.ref L, rfl, L, .ref d, rfl, lay.dLows, .int nu, rfl, .ref t, rfl, t, _, 2, .int s, rfl, rfl, tq, atI_nat (j := 2) rfl, by show 2 ≤ sizeLine; decide, fun k nk => ?_⟩
      have sk := same_upd (o := .tup [.int nu, .int s]) nk
      have lay1 := lay.same sk
      refine ⟨d, .int (lo (nu, s)), rfl, lay1.low (show TupF (upd H k (.tup [.int nu, .int s])) k (nu, s) from upd_same) fx, .ref t, rfl, t, _, 3, .int d2, rfl, rfl, same_seqT sk tq, atI_nat (j := 3) rfl, _, _, rfl, rfl, ?_⟩
      refine ⟨.ref L, rfl, L, .ref d, rfl, lay1.dLows, .int nu, rfl, .ref t, rfl, t, _, 2, .int s, rfl, rfl, same_seqT sk tq, atI_nat (j := 2) rfl, by show 2 ≤ sizeLine; decide, fun k2 nk2 => ?_⟩
      have sk2 := same_upd (o := .tup [.int nu, .int s]) nk2
      have s02 := sk.trans sk2
      obtain ⟨H2, put, lows2, keep2⟩ := lay.lows.put (v := lo (nu, s) + d2) s02 fx n8 (show (upd (upd H k (.tup [.int nu, .int s])) k2 (.tup [.int nu, .int s])) k2 = some (.tup [.int nu, .int s]) from upd_same)
      refine ⟨d, H2, rfl, put, q H2 (fun b o nd _ e => keep2 b o nd (s02 _ _ e)) ⟨keep2 _ _ Ld (s02 _ _ lay.at_), lows2, keep2 _ _ md (s02 _ _ lay.many)⟩⟩
    | close nu e =>
      obtain ⟨⟨n0, n1⟩, he⟩ := ok
      refine ⟨.ref t, rfl, t, _, 0, .str "close", rfl, rfl, tq, atI_nat (j := 0) rfl, .ref t, rfl, t, _, 1, .int nu, rfl, rfl, tq, atI_nat (j := 1) rfl, .str "close", .int nu, rfl, ?_⟩
      refine ⟨.str "close", rfl, rfl, _, rfl, ?_⟩
      rw [show decide (V.str "close" = V.str "slip") = false by decide +kernel]
      refine iteF ⟨.str "close", rfl, rfl, _, rfl, ?_⟩
      rw [show decide (V.str "close" = V.str "close") = true by decide +kernel]
      refine iteT ?_
      refine ⟨.ref L, rfl, L, .ref m, rfl, lay.dMany, .int nu, rfl, m, _, nu, _, rfl, rfl, .inl (.inl lay.many), many_at n0 n1, .int (1), rfl, _, _, rfl, rfl, ?_⟩
      refine ⟨.ref L, rfl, L, .ref m, rfl, lay.dMany, .int nu, rfl, m, _, nu, nu.toNat, rfl, rfl, lay.many, by rw [manyL_len]; exact ixN_of n0 n1, ?_⟩
      rw [many_set n0 n1]
      refine ⟨by show 2 ≤ sizeLine; decide, fun T2 nT2 => ⟨T2, rfl, ⟨_, .inl (.inl upd_same)⟩, ?_⟩⟩
      have em1 : (upd H m (.lst (manyL n (setMn mn nu (mn nu + (1)))))) m = some (.lst (manyL n (setMn mn nu (mn nu + (1))))) := upd_same
      have T2m : T2 ≠ m := (ne_of_none em1 nT2).symm
      have nT2H : H T2 = none := by rw [← nT2, upd_ne T2m]
      have T2d : T2 ≠ d := (ne_of_none hd0 nT2H).symm
      refine for_tup (K := K) (xs := [.int 0, .int 1]) (fun k σ H3 => (∃ x5 : Option V, σ = [some (.ref L), some (.ref t), some (.str "close"), some (.int nu), some (.int (1)), x5]) ∧ (∀ b o, b ≠ d → b ≠ m → H b = some o → H3 b = some o) ∧ H3 T2 = some (.tup [.int 0, .int 1]) ∧
        H3 m = some (.lst (manyL n (setMn mn nu (mn nu + (1))))) ∧ Lows H3 d n (fun y => if y.1 = nu ∧ isUp (revAt zs nu) y.2 e = false ∧ y.2 < (k : Int) then lo y - (1) else lo y)) ?_ (fun k σ H3 _ hv => .inl (.inl hv.2.2.1)) (fun k x σ H3 hx hv => ?_) (fun σ H3 hv => ?_)
      · refine ⟨⟨none, rfl⟩, fun b o nd nm e => ?_, upd_same, ?_, ?_⟩
        · rw [upd_ne (ne_of_none e nT2H), upd_ne nm]; exact e
        · exact same_upd nT2 _ _ em1
        · obtain ⟨kvs, a1, a2, a3, a4⟩ := lay.lows
          refine ⟨kvs, by rw [upd_ne T2d.symm, upd_ne md.symm]; exact a1, a2, a3, fun y hy => ?_⟩
          rw [a4 y hy]
          try dsimp only
          rw [if_neg]
          rintro ⟨_, _, h⟩
          rcases hy.2 with e | e <;> rw [e] at h <;> exact absurd h (by decide)
      · obtain ⟨⟨x5, rfl⟩, keep, eT, em, lw⟩ := hv
        have hk : x = .int (k : Nat) ∧ k < 2 := by
          match k, hx with
          | 0, hx => exact ⟨(Option.some.inj hx).symm, by omega⟩
          | 1, hx => exact ⟨(Option.some.inj hx).symm, by omega⟩
          | k + 2, hx => simp at hx
        obtain ⟨rfl, k2⟩ := hk
        have tp3 : Tp H H3 := ⟨fun b u e ok => keep b u (ne_of e hd0 (by intro z; subst z; exact ok)) (ne_of e lay.many (by intro z; subst z; exact ok)) e⟩
        have lay3 : Lay H3 L r z d m n _ _ := ⟨keep _ _ Ld Lm lay.at_, lw, em⟩
        have et3 := tp3 _ _ et
        have tq3 : SqT K H3 t (mvV (.close nu e)) := .inl (.inl et3)
        have fk : FootIn n (nu, ((k : Nat) : Int)) := ⟨⟨n0, n1⟩, by show ((k : Nat) : Int) = 0 ∨ ((k : Nat) : Int) = 1; omega⟩
        refine ⟨.ref L, rfl, .int nu, rfl, .int (k : Nat), rfl, .ref t, rfl, t, _, 2, .int e, rfl, rfl, tq3, atI_nat (j := 2) rfl, L, r, z, d, m, n, _, _, zs, nu, _, e, rfl, lay3, hzs.tp tp3, n0, by rw [zl]; exact n1, _, rfl, ?_⟩
        cases eu : isUp (revAt zs nu) ((k : Nat) : Int) e with
        | true =>
          refine iteF ⟨⟨_, rfl⟩, keep, eT, em, lw.ext fun y hy => ?_⟩
          try dsimp only
          by_cases hc : y.1 = nu ∧ isUp (revAt zs nu) y.2 e = false ∧ y.2 < (k : Int)
          · rw [if_pos hc, if_pos ⟨hc.1, hc.2.1, by have := hc.2.2; omega⟩]
          · rw [if_neg hc, if_neg]
            rintro ⟨h1, h2, h3⟩
            refine hc ⟨h1, h2, ?_⟩
            have h4 : y.2 ≠ ((k : Nat) : Int) := fun z => by rw [z, eu] at h2; cases h2
            omega
        | false =>
          refine iteT ⟨.ref L, rfl, L, .ref d, rfl, lay3.dLows, .int nu, rfl, .int (k : Nat), rfl, by show 2 ≤ sizeLine; decide, fun k1 nk1 => ?_⟩
          have sk := same_upd (o := .tup [.int nu, .int (k : Nat)]) nk1
          have lay4 := lay3.same sk
          refine ⟨d, _, rfl, lay4.low (show TupF (upd H3 k1 (.tup [.int nu, .int (k : Nat)])) k1 (nu, ((k : Nat) : Int)) from upd_same) fk, .int (1), rfl, _, _, rfl, rfl, ?_⟩
          refine ⟨.ref L, rfl, L, .ref d, rfl, lay4.dLows, .int nu, rfl, .int (k : Nat), rfl, by show 2 ≤ sizeLine; decide, fun k3 nk3 => ?_⟩
          have sk2 := same_upd (o := .tup [.int nu, .int (k : Nat)]) nk3
          have s02 := sk.trans sk2
          obtain ⟨H4, put, lows4, keep4⟩ := lw.put s02 fk n8 (show (upd (upd H3 k1 (.tup [.int nu, .int (k : Nat)])) k3 (.tup [.int nu, .int (k : Nat)])) k3 = some (.tup [.int nu, .int (k : Nat)]) from upd_same)
          refine ⟨d, H4, rfl, put, ⟨_, rfl⟩, fun b o nd nm eb => keep4 b o nd (s02 _ _ (keep b o nd nm eb)), keep4 _ _ T2d (s02 _ _ eT), keep4 _ _ md (s02 _ _ em), lows4.ext fun y hy => ?_⟩
          unfold setLo
          try dsimp only
          by_cases ey : y = (nu, ((k : Nat) : Int))
          · subst ey
            rw [if_pos rfl, if_neg (fun h => by have := h.2.2; omega), if_pos ⟨rfl, eu, by show ((k : Nat) : Int) < ((k + 1 : Nat) : Int); omega⟩]
          · rw [if_neg ey]
            by_cases hc : y.1 = nu ∧ isUp (revAt zs nu) y.2 e = false ∧ y.2 < (k : Int)
            · rw [if_pos hc, if_pos ⟨hc.1, hc.2.1, by have := hc.2.2; omega⟩]
            · rw [if_neg hc, if_neg]
              rintro ⟨h1, h2, h3⟩
              refine hc ⟨h1, h2, ?_⟩
              have h4 : y.2 ≠ ((k : Nat) : Int) := fun z => ey (by obtain ⟨y1, y2⟩ := y; simp at h1 z; rw [h1, z])
              omega
      · obtain ⟨⟨x5, rfl⟩, keep, eT, em, lw⟩ := hv
        refine q H3 keep ⟨keep _ _ Ld Lm lay.at_, lw.ext fun y hy => ?_, em⟩
        try dsimp only
        show _ = if y.1 = nu ∧ isUp (revAt zs nu) y.2 e = false then lo y - (1) else lo y
        by_cases hc : y.1 = nu ∧ isUp (revAt zs nu) y.2 e = false
        · rw [if_pos hc, if_pos ⟨hc.1, hc.2, by show y.2 < ((2 : Nat) : Int); rcases hy.2 with e | e <;> rw [e] <;> decide⟩]
        · rw [if_neg hc, if_neg fun h => hc ⟨h.1, h.2.1⟩]
    | opn nu e =>
      obtain ⟨⟨n0, n1⟩, he⟩ := ok
      refine ⟨.ref t, rfl, t, _, 0, .str "open", rfl, rfl, tq, atI_nat (j := 0) rfl, .ref t, rfl, t, _, 1, .int nu, rfl, rfl, tq, atI_nat (j := 1) rfl, .str "open", .int nu, rfl, ?_⟩
      refine ⟨.str "open", rfl, rfl, _, rfl, ?_⟩
      rw [show decide (V.str "open" = V.str "slip") = false by decide +kernel]
      refine iteF ⟨.str "open", rfl, rfl, _, rfl, ?_⟩
      rw [show decide (V.str "open" = V.str "close") = false by decide +kernel]
      refine iteF ⟨1, rfl, ?_⟩
      refine ⟨.ref L, rfl, L, .ref m, rfl, lay.dMany, .int nu, rfl, m, _, nu, _, rfl, rfl, .inl (.inl lay.many), many_at n0 n1, .int (-1), rfl, _, _, rfl, rfl, ?_⟩
      refine ⟨.ref L, rfl, L, .ref m, rfl, lay.dMany, .int nu, rfl, m, _, nu, nu.toNat, rfl, rfl, lay.many, by rw [manyL_len]; exact ixN_of n0 n1, ?_⟩
      rw [many_set n0 n1]
      refine ⟨by show 2 ≤ sizeLine; decide, fun T2 nT2 => ⟨T2, rfl, ⟨_, .inl (.inl upd_same)⟩, ?_⟩⟩
      have em1 : (upd H m (.lst (manyL n (setMn mn nu (mn nu + (-1)))))) m = some (.lst (manyL n (setMn mn nu (mn nu + (-1))))) := upd_same
      have T2m : T2 ≠ m := (ne_of_none em1 nT2).symm
      have nT2H : H T2 = none := by rw [← nT2, upd_ne T2m]
      have T2d : T2 ≠ d := (ne_of_none hd0 nT2H).symm
      refine for_tup (K := K) (xs := [.int 0, .int 1]) (fun k σ H3 => (∃ x5 : Option V, σ = [some (.ref L), some (.ref t), some (.str "open"), some (.int nu), some (.int (-1)), x5]) ∧ (∀ b o, b ≠ d → b ≠ m → H b = some o → H3 b = some o) ∧ H3 T2 = some (.tup [.int 0, .int 1]) ∧
        H3 m = some (.lst (manyL n (setMn mn nu (mn nu + (-1))))) ∧ Lows H3 d n (fun y => if y.1 = nu ∧ isUp (revAt zs nu) y.2 e = false ∧ y.2 < (k : Int) then lo y - (-1) else lo y)) ?_ (fun k σ H3 _ hv => .inl (.inl hv.2.2.1)) (fun k x σ H3 hx hv => ?_) (fun σ H3 hv => ?_)
      · refine ⟨⟨none, rfl⟩, fun b o nd nm e => ?_, upd_same, ?_, ?_⟩
        · rw [upd_ne (ne_of_none e nT2H), upd_ne nm]; exact e
        · exact same_upd nT2 _ _ em1
        · obtain ⟨kvs, a1, a2, a3, a4⟩ := lay.lows
          refine ⟨kvs, by rw [upd_ne T2d.symm, upd_ne md.symm]; exact a1, a2, a3, fun y hy => ?_⟩
          rw [a4 y hy]
          try dsimp only
          rw [if_neg]
          rintro ⟨_, _, h⟩
          rcases hy.2 with e | e <;> rw [e] at h <;> exact absurd h (by decide)
      · obtain ⟨⟨x5, rfl⟩, keep, eT, em, lw⟩ := hv
        have hk : x = .int (k : Nat) ∧ k < 2 := by
          match k, hx with
          | 0, hx => exact ⟨(Option.some.inj hx).symm, by omega⟩
          | 1, hx => exact ⟨(Option.some.inj hx).symm, by omega⟩
          | k + 2, hx => simp at hx
        obtain ⟨rfl, k2⟩ := hk
        have tp3 : Tp H H3 := ⟨fun b u e ok => keep b u (ne_of e hd0 (by intro z; subst z; exact ok)) (ne_of e lay.many (by intro z; subst z; exact ok)) e⟩
        have lay3 : Lay H3 L r z d m n _ _ := ⟨keep _ _ Ld Lm lay.at_, lw, em⟩
        have et3 := tp3 _ _ et
        have tq3 : SqT K H3 t (mvV (.opn nu e)) := .inl (.inl et3)
        have fk : FootIn n (nu, ((k : Nat) : Int)) := ⟨⟨n0, n1⟩, by show ((k : Nat) : Int) = 0 ∨ ((k : Nat) : Int) = 1; omega⟩
        refine ⟨.ref L, rfl, .int nu, rfl, .int (k : Nat), rfl, .ref t, rfl, t, _, 2, .int e, rfl, rfl, tq3, atI_nat (j := 2) rfl, L, r, z, d, m, n, _, _, zs, nu, _, e, rfl, lay3, hzs.tp tp3, n0, by rw [zl]; exact n1, _, rfl, ?_⟩
        cases eu : isUp (revAt zs nu) ((k : Nat) : Int) e with
        | true =>
          refine iteF ⟨⟨_, rfl⟩, keep, eT, em, lw.ext fun y hy => ?_⟩
          try dsimp only
          by_cases hc : y.1 = nu ∧ isUp (revAt zs nu) y.2 e = false ∧ y.2 < (k : Int)
          · rw [if_pos hc, if_pos ⟨hc.1, hc.2.1, by have := hc.2.2; omega⟩]
          · rw [if_neg hc, if_neg]
            rintro ⟨h1, h2, h3⟩
            refine hc ⟨h1, h2, ?_⟩
            have h4 : y.2 ≠ ((k : Nat) : Int) := fun z => by rw [z, eu] at h2; cases h2
            omega
        | false =>
          refine iteT ⟨.ref L, rfl, L, .ref d, rfl, lay3.dLows, .int nu, rfl, .int (k : Nat), rfl, by show 2 ≤ sizeLine; decide, fun k1 nk1 => ?_⟩
          have sk := same_upd (o := .tup [.int nu, .int (k : Nat)]) nk1
          have lay4 := lay3.same sk
          refine ⟨d, _, rfl, lay4.low (show TupF (upd H3 k1 (.tup [.int nu, .int (k : Nat)])) k1 (nu, ((k : Nat) : Int)) from upd_same) fk, .int (-1), rfl, _, _, rfl, rfl, ?_⟩
          refine ⟨.ref L, rfl, L, .ref d, rfl, lay4.dLows, .int nu, rfl, .int (k : Nat), rfl, by show 2 ≤ sizeLine; decide, fun k3 nk3 => ?_⟩
          have sk2 := same_upd (o := .tup [.int nu, .int (k : Nat)]) nk3
          have s02 := sk.trans sk2
          obtain ⟨H4, put, lows4, keep4⟩ := lw.put s02 fk n8 (show (upd (upd H3 k1 (.tup [.int nu, .int (k : Nat)])) k3 (.tup [.int nu, .int (k : Nat)])) k3 = some (.tup [.int nu, .int (k : Nat)]) from upd_same)
          refine ⟨d, H4, rfl, put, ⟨_, rfl⟩, fun b o nd nm eb => keep4 b o nd (s02 _ _ (keep b o nd nm eb)), keep4 _ _ T2d (s02 _ _ eT), keep4 _ _ md (s02 _ _ em), lows4.ext fun y hy => ?_⟩
          unfold setLo
          try dsimp only
          by_cases ey : y = (nu, ((k : Nat) : Int))
          · subst ey
            rw [if_pos rfl, if_neg (fun h => by have := h.2.2; omega), if_pos ⟨rfl, eu, by show ((k : Nat) : Int) < ((k + 1 : Nat) : Int); omega⟩]
          · rw [if_neg ey]
            by_cases hc : y.1 = nu ∧ isUp (revAt zs nu) y.2 e = false ∧ y.2 < (k : Int)
            · rw [if_pos hc, if_pos ⟨hc.1, hc.2.1, by have := hc.2.2; omega⟩]
            · rw [if_neg hc, if_neg]
              rintro ⟨h1, h2, h3⟩
              refine hc ⟨h1, h2, ?_⟩
              have h4 : y.2 ≠ ((k : Nat) : Int) := fun z => ey (by obtain ⟨y1, y2⟩ := y; simp at h1 z; rw [h1, z])
              omega
      · obtain ⟨⟨x5, rfl⟩, keep, eT, em, lw⟩ := hv
        refine q H3 keep ⟨keep _ _ Ld Lm lay.at_, lw.ext fun y hy => ?_, em⟩
        try dsimp only
        show _ = if y.1 = nu ∧ isUp (revAt zs nu) y.2 e = false then lo y - (-1) else lo y
        by_cases hc : y.1 = nu ∧ isUp (revAt zs nu) y.2 e = false
        · rw [if_pos hc, if_pos ⟨hc.1, hc.2, by show y.2 < ((2 : Nat) : Int); rcases hy.2 with e | e <;> rw [e] <;> decide⟩]
        · rw [if_neg hc, if_neg fun h => hc ⟨h.1, h.2.1⟩]
theorem cal_perf {f : Addr} {fd : FuncData} (F : Fun K "_law_perform" "_law_perform" sPerf f fd) (cUp : Cal P w K mg base CX0 1 "_law_is_upper" ["_law_layout", "_law_number", "_law_side", "_law_end"] spUp) (g : mg "_law_perform" = some (.ref f)) :
    Cal P w K mg base CX0 2 "_law_perform" ["_law_layout", "_law_move"] spPerf :=
  ⟨f, fd, g, F.kp, F.binds (ps := ["_law_layout", "_law_move"]) fun _ _ _ _ _ _ us hl => match us, hl with | [_, _], _ => rfl, ok_perf F cUp⟩
end
end Zs
namespace Zs
open PySem PySem.Spec PyProof.Rows L2
/-! ### gaps by their numbers -/
def outR (ro : Row) (t : Int) : Prop := ro.ring = false ∧ ¬ (0 ≤ t ∧ t < ro.feet.length)
instance (ro : Row) (t : Int) : Decidable (outR ro t) := by unfold outR; infer_instance
def footAt (ro : Row) (t : Int) : Foot := ro.feet.getD (t % ro.feet.length).toNat (0, 0)
def gapI (ro : Row) (lo : Foot → Int) (mn : Int → Int) (g : Int) : Int := edgeV ro lo mn (g + 1) true - edgeV ro lo mn g false
def okG (ro : Row) (g : Int) : Prop := (if ro.ring then 0 else -1) ≤ g ∧ g < ro.feet.length
theorem edge_t {ro : Row} {lo : Foot → Int} {mn : Int → Int} {t : Int} : edgeV ro lo mn t true = if outR ro t then ro.teeth else lo (footAt ro t) + t / ro.feet.length * ro.teeth := rfl
theorem edge_f {ro : Row} {lo : Foot → Int} {mn : Int → Int} {t : Int} : edgeV ro lo mn t false = if outR ro t then 0 else hi lo mn (footAt ro t) + t / ro.feet.length * ro.teeth := rfl
theorem foot_ix {ro : Row} {t : Int} {x : Foot} {j : Nat} (h0 : 0 ≤ t) (e : t = (j : Nat)) (hx : ro.feet[j]? = some x) : footAt ro t = x ∧ t / ro.feet.length = 0 ∧ ¬ outR ro t := by
  have hj : j < ro.feet.length := (List.getElem?_eq_some_iff.mp hx).1
  have e1 : t % (ro.feet.length : Int) = t := Int.emod_eq_of_lt h0 (by omega)
  refine ⟨?_, Int.ediv_eq_zero_of_lt h0 (by omega), fun h => h.2 ⟨h0, by omega⟩⟩
  unfold footAt
  rw [e1, e, Int.toNat_natCast, List.getD_eq_getElem?_getD, hx]
  rfl
theorem edge_lo {ro : Row} {lo : Foot → Int} {mn : Int → Int} {x : Foot} {j : Nat} (hx : ro.feet[j]? = some x) : edgeV ro lo mn (j : Nat) true = lo x := by
  obtain ⟨e1, e2, e3⟩ := foot_ix (t := (j : Nat)) (by omega) rfl hx
  rw [edge_t, if_neg e3, e1, e2]
  omega
theorem edge_hi {ro : Row} {lo : Foot → Int} {mn : Int → Int} {x : Foot} {j : Nat} (hx : ro.feet[j]? = some x) : edgeV ro lo mn (j : Nat) false = hi lo mn x := by
  obtain ⟨e1, e2, e3⟩ := foot_ix (t := (j : Nat)) (by omega) rfl hx
  rw [edge_f, if_neg e3, e1, e2]
  omega
/-- the edge above the last foot -/
theorem edge_top {ro : Row} {lo : Foot → Int} {mn : Int → Int} (h : ro.ring = false) : edgeV ro lo mn (ro.feet.length : Nat) true = ro.teeth := by
  rw [edge_t, if_pos ⟨h, fun z => by omega⟩]
theorem edge_topR {ro : Row} {lo : Foot → Int} {mn : Int → Int} {x : Foot} (h : ro.ring = true) (hx : ro.feet[0]? = some x) : edgeV ro lo mn (ro.feet.length : Nat) true = lo x + ro.teeth := by
  have k0 : 0 < ro.feet.length := (List.getElem?_eq_some_iff.mp hx).1
  have e1 : footAt ro (ro.feet.length : Nat) = x := by
    unfold footAt
    rw [Int.emod_self, List.getD_eq_getElem?_getD]
    show (ro.feet[0]?).getD _ = _
    rw [hx]
    rfl
  rw [edge_t, if_neg (fun z : outR ro _ => absurd (h.symm.trans z.1) (by decide)), e1, Int.ediv_self (by omega)]
  omega
theorem edge_bot {ro : Row} {lo : Foot → Int} {mn : Int → Int} (h : ro.ring = false) : edgeV ro lo mn (-1) false = 0 := by
  rw [edge_f, if_pos ⟨h, fun z => by omega⟩]
theorem neg_mod {k : Int} (h : 0 < k) : (-1) % k = k - 1 ∧ (-1) / k = -1 := by
  have h1 := Int.emod_add_mul_ediv (-1) k
  have h2 := Int.emod_nonneg (-1) (show k ≠ 0 by omega)
  have h3 := Int.emod_lt_of_pos (-1) h
  have h4 : (-1) / k = -1 := by
    have := Int.ediv_emod_unique (a := -1) (b := k) (r := k - 1) (q := -1) h
    exact (this.mpr ⟨by rw [Int.mul_comm]; omega, by omega, by omega⟩).1
  refine ⟨?_, h4⟩
  rw [h4] at h1
  omega
theorem edge_botR {ro : Row} {lo : Foot → Int} {mn : Int → Int} {x : Foot} {j : Nat} (h : ro.ring = true) (hx : ro.feet[j]? = some x) (hj : j + 1 = ro.feet.length) : edgeV ro lo mn (-1) false = hi lo mn x - ro.teeth := by
  have k0 : 0 < (ro.feet.length : Int) := by omega
  obtain ⟨m1, m2⟩ := neg_mod k0
  have e1 : footAt ro (-1) = x := by
    unfold footAt
    rw [m1, show (ro.feet.length : Int) - 1 = ((j : Nat) : Int) by omega, Int.toNat_natCast, List.getD_eq_getElem?_getD, hx]
    rfl
  rw [edge_f, if_neg (fun z : outR ro _ => absurd (h.symm.trans z.1) (by decide)), e1, m2]
  omega
/-- the gap beside a foot, by its number -/
theorem gsz_id {ro : Row} {lo : Foot → Int} {mn : Int → Int} {x : Foot} {j : Nat} {up : Bool} (hx : ro.feet[j]? = some x) : gsz ro lo mn j x up = gapI ro lo mn (gid ro j up) := by
  have hj : j < ro.feet.length := (List.getElem?_eq_some_iff.mp hx).1
  unfold gsz gapI gid
  cases up with
  | true =>
    rw [if_pos rfl, if_pos rfl, edge_hi hx]
  | false =>
    rw [if_neg (by decide), if_neg (by decide)]
    cases er : ro.ring with
    | false =>
      rw [if_neg (by decide), show (j : Int) - 1 + 1 = ((j : Nat) : Int) by omega, edge_lo hx]
    | true =>
      rw [if_pos rfl]
      cases j with
      | zero =>
        have k0 : 0 < (ro.feet.length : Int) := by omega
        obtain ⟨y, hy⟩ : ∃ y, ro.feet[ro.feet.length - 1]? = some y := ⟨_, List.getElem?_eq_getElem (by omega)⟩
        show lo x - edgeV ro lo mn (0 - 1) false = edgeV ro lo mn ((0 - 1) % (ro.feet.length : Int) + 1) true - edgeV ro lo mn ((0 - 1) % (ro.feet.length : Int)) false
        rw [show (0 : Int) - 1 = -1 by rfl, (neg_mod k0).1, show (ro.feet.length : Int) - 1 + 1 = ((ro.feet.length : Nat) : Int) by omega, edge_topR er hx, show (ro.feet.length : Int) - 1 = ((ro.feet.length - 1 : Nat) : Int) by omega, edge_hi hy, edge_botR er hy (by omega)]
        omega
      | succ j =>
        have e : (((j + 1 : Nat) : Int) - 1) % (ro.feet.length : Int) = ((j + 1 : Nat) : Int) - 1 := Int.emod_eq_of_lt (by omega) (by omega)
        rw [e, show ((j + 1 : Nat) : Int) - 1 + 1 = ((j + 1 : Nat) : Int) by omega, edge_lo hx]
theorem gid_ok {ro : Row} {x : Foot} {j : Nat} {up : Bool} (hx : ro.feet[j]? = some x) : okG ro (gid ro j up) := by
  have hj : j < ro.feet.length := (List.getElem?_eq_some_iff.mp hx).1
  unfold okG gid
  cases er : ro.ring with
  | true =>
    cases up with
    | true => exact ⟨by show (0 : Int) ≤ (j : Int); omega, by show (j : Int) < _; omega⟩
    | false => exact ⟨Int.emod_nonneg _ (by omega), Int.emod_lt_of_pos _ (by omega)⟩
  | false =>
    cases up with
    | true => exact ⟨by show (-1 : Int) ≤ (j : Int); omega, by show (j : Int) < _; omega⟩
    | false => exact ⟨by show (-1 : Int) ≤ (j : Int) - 1; omega, by show (j : Int) - 1 < _; omega⟩
theorem low_foot {ro : Row} {g : Int} (h : okG ro g) (n : ¬ outR ro g) : ∃ j : Nat, ro.feet[j]? = some (footAt ro g) ∧ gid ro j true = g := by
  have g0 : 0 ≤ g := by
    unfold okG at h
    cases er : ro.ring with
    | true => rw [er, if_pos rfl] at h; exact h.1
    | false =>
      rcases (show g < 0 ∨ 0 ≤ g by omega) with z | z
      · exact absurd ⟨er, fun y => by omega⟩ n
      · exact z
  obtain ⟨j, rfl⟩ := Int.eq_ofNat_of_zero_le g0
  have hj : j < ro.feet.length := by have := h.2; omega
  have hx : ro.feet[j]? = some ro.feet[j] := List.getElem?_eq_getElem hj
  refine ⟨j, ?_, by unfold gid; rw [if_pos rfl]⟩
  rw [(foot_ix (t := (j : Nat)) (by omega) rfl hx).1, hx]
theorem high_foot {ro : Row} {g : Int} (h : okG ro g) (n : ¬ outR ro (g + 1)) : ∃ j : Nat, ro.feet[j]? = some (footAt ro (g + 1)) ∧ gid ro j false = g := by
  have g0 : 0 ≤ g + 1 := by
    unfold okG at h
    split at h <;> omega
  rcases (show g + 1 < ro.feet.length ∨ (ro.feet.length : Int) ≤ g + 1 by omega) with l | l
  · obtain ⟨j, hj⟩ := Int.eq_ofNat_of_zero_le g0
    have hjl : j < ro.feet.length := by omega
    have hx : ro.feet[j]? = some ro.feet[j] := List.getElem?_eq_getElem hjl
    refine ⟨j, by rw [(foot_ix g0 hj hx).1, hx], ?_⟩
    unfold gid
    rw [if_neg (by decide), show (j : Int) - 1 = g by omega]
    split
    · rename_i er
      unfold okG at h
      rw [er, if_pos rfl] at h
      exact Int.emod_eq_of_lt h.1 h.2
    · rfl
  · have er : ro.ring = true := by
      cases er : ro.ring with
      | true => rfl
      | false => exact absurd ⟨er, fun z => by omega⟩ n
    have eg : g + 1 = (ro.feet.length : Int) := by have := h.2; omega
    have h1 := h.1
    rw [er, if_pos rfl] at h1
    have k0 : 0 < ro.feet.length := by omega
    have hx : ro.feet[0]? = some ro.feet[0] := List.getElem?_eq_getElem k0
    refine ⟨0, ?_, ?_⟩
    · have e1 : footAt ro (g + 1) = ro.feet[0] := by
        unfold footAt
        rw [eg, Int.emod_self, List.getD_eq_getElem?_getD]
        show (ro.feet[0]?).getD _ = _
        rw [hx]
        rfl
      rw [e1, hx]
    · unfold gid
      rw [if_neg (by decide), er, if_pos rfl]
      show (0 - 1 : Int) % (ro.feet.length : Int) = g
      rw [show (0 : Int) - 1 = -1 by rfl, (neg_mod (by omega)).1]
      omega
/-- how a gap changes -/
theorem gap_step {ro : Row} {lo lo' : Foot → Int} {mn mn' : Int → Int} {g : Int} : gapI ro lo' mn' g = gapI ro lo mn g + (if outR ro (g + 1) then 0 else lo' (footAt ro (g + 1)) - lo (footAt ro (g + 1))) - (if outR ro g then 0 else hi lo' mn' (footAt ro g) - hi lo mn (footAt ro g)) := by
  unfold gapI
  rw [edge_t, edge_t, edge_f, edge_f]
  split <;> split <;> omega
/-! ### what holds of a layout -/
structure Fine (n : Nat) (rs : List Row) (lo : Foot → Int) (mn : Int → Int) : Prop where
  gap : ∀ ro ∈ rs, ∀ g, okG ro g → 0 ≤ gapI ro lo mn g
  many : ∀ i : Int, 0 ≤ i → i < n → 0 ≤ mn i
theorem up0 (rev : Bool) (e : Int) : isUp rev 0 e = decide (e = 1) := by
  unfold isUp
  rw [decide_eq_true (rfl : (0 : Int) = 0), Bool.true_or]
  by_cases h : e = 1
  · rw [decide_eq_true h]; rfl
  · rw [decide_eq_false h]; rfl
/-- the gaps beside the feet of a zip, as the law of closing knows them -/
theorem close_gaps {rs : List Row} {zs : List Zp} {lo : Foot → Int} {mn : Int → Int} {n e : Int} (nd : (rs.flatMap (·.feet)).Nodup) (h : Legal rs zs lo mn (.close n e)) {i j : Nat} {ro : Row} {s : Int} (hs : s = 0 ∨ s = 1) (hi : rs[i]? = some ro) (hj : ro.feet[j]? = some (n, s)) :
    0 < gapI ro lo mn (gid ro j (isUp (revAt zs n) s e)) := by
  obtain ⟨i0, ro0, j0, i1, ro1, j1, ⟨a0, b0⟩, ⟨a1, b1⟩, hg⟩ := h
  rcases hs with rfl | rfl
  · obtain ⟨rfl, rfl⟩ := feet_place nd hi hj a0 b0
    obtain rfl := Option.some.inj (hi.symm.trans a0)
    rw [up0, ← gsz_id hj]
    rcases hg with ⟨_, _, h⟩ | ⟨_, h, _⟩ <;> omega
  · obtain ⟨rfl, rfl⟩ := feet_place nd hi hj a1 b1
    obtain rfl := Option.some.inj (hi.symm.trans a1)
    rcases hg with ⟨e1, e2, h⟩ | ⟨_, _, h⟩
    · subst e1
      obtain rfl := Option.some.inj (hi.symm.trans a0)
      rw [gsz_id b0, e2] at h
      omega
    · rw [gsz_id hj] at h
      omega
theorem close_two {rs : List Row} {zs : List Zp} {lo : Foot → Int} {mn : Int → Int} {n e : Int} (nd : (rs.flatMap (·.feet)).Nodup) (h : Legal rs zs lo mn (.close n e)) {i j j' : Nat} {ro : Row} (hi : rs[i]? = some ro) (hj : ro.feet[j]? = some (n, 0)) (hj' : ro.feet[j']? = some (n, 1))
    (same : gid ro j (isUp (revAt zs n) 0 e) = gid ro j' (isUp (revAt zs n) 1 e)) : 1 < gapI ro lo mn (gid ro j (isUp (revAt zs n) 0 e)) := by
  obtain ⟨i0, ro0, j0, i1, ro1, j1, ⟨a0, b0⟩, ⟨a1, b1⟩, hg⟩ := h
  obtain ⟨rfl, rfl⟩ := feet_place nd hi hj a0 b0
  obtain rfl := Option.some.inj (hi.symm.trans a0)
  obtain ⟨rfl, rfl⟩ := feet_place nd hi hj' a1 b1
  obtain rfl := Option.some.inj (hi.symm.trans a1)
  rw [up0] at same ⊢
  rcases hg with ⟨_, _, h⟩ | ⟨hn, _⟩
  · rw [gsz_id hj] at h
    exact h
  · exact absurd ⟨rfl, same⟩ hn
theorem slip_lo {zs : List Zp} {lo : Foot → Int} {nu s d : Int} (y : Foot) : loP zs lo (.slip nu s d) y - lo y = if y = (nu, s) then d else 0 := by
  show setLo lo (nu, s) (lo (nu, s) + d) y - lo y = _
  unfold setLo
  split
  · rename_i e; rw [e]; omega
  · omega
theorem slip_hi {zs : List Zp} {lo : Foot → Int} {mn : Int → Int} {nu s d : Int} (y : Foot) : hi (loP zs lo (.slip nu s d)) (mnP mn (.slip nu s d)) y - hi lo mn y = if y = (nu, s) then d else 0 := by
  have := slip_lo (zs := zs) (lo := lo) (nu := nu) (s := s) (d := d) y
  show loP zs lo (.slip nu s d) y + mn y.1 - (lo y + mn y.1) = _
  omega
theorem close_lo {zs : List Zp} {lo : Foot → Int} {nu e : Int} (y : Foot) : loP zs lo (.close nu e) y - lo y = if y.1 = nu ∧ isUp (revAt zs nu) y.2 e = false then -1 else 0 := by
  show (if y.1 = nu ∧ isUp (revAt zs nu) y.2 e = false then lo y - 1 else lo y) - lo y = _
  split <;> omega
theorem close_hi {zs : List Zp} {lo : Foot → Int} {mn : Int → Int} {nu e : Int} (y : Foot) : hi (loP zs lo (.close nu e)) (mnP mn (.close nu e)) y - hi lo mn y = if y.1 = nu ∧ isUp (revAt zs nu) y.2 e = true then 1 else 0 := by
  show (if y.1 = nu ∧ isUp (revAt zs nu) y.2 e = false then lo y - 1 else lo y) + (if y.1 = nu then mn nu + 1 else mn y.1) - (lo y + mn y.1) = _
  by_cases h : y.1 = nu
  · cases hu : isUp (revAt zs nu) y.2 e with
    | true =>
      rw [if_neg (fun z => absurd z.2 (by decide)), if_pos h, if_pos ⟨h, rfl⟩, h]
      omega
    | false =>
      rw [if_pos ⟨h, rfl⟩, if_pos h, if_neg (fun z => absurd z.2 (by decide)), h]
      omega
  · rw [if_neg (fun z => h z.1), if_neg h, if_neg (fun z => h z.1)]
    omega
theorem open_lo {zs : List Zp} {lo : Foot → Int} {nu e : Int} (y : Foot) : 0 ≤ loP zs lo (.opn nu e) y - lo y := by
  show 0 ≤ (if y.1 = nu ∧ isUp (revAt zs nu) y.2 e = false then lo y - -1 else lo y) - lo y
  split <;> omega
theorem open_hi {zs : List Zp} {lo : Foot → Int} {mn : Int → Int} {nu e : Int} (y : Foot) : hi (loP zs lo (.opn nu e)) (mnP mn (.opn nu e)) y - hi lo mn y ≤ 0 := by
  show (if y.1 = nu ∧ isUp (revAt zs nu) y.2 e = false then lo y - -1 else lo y) + (if y.1 = nu then mn nu + -1 else mn y.1) - (lo y + mn y.1) ≤ 0
  by_cases h : y.1 = nu
  · rw [if_pos h, h]
    split <;> omega
  · rw [if_neg (fun z => h z.1), if_neg h]
    omega
theorem Fine.move {n : Nat} {rs : List Row} {zs : List Zp} {lo : Foot → Int} {mn : Int → Int} {mv : Mv} (fit : RowsFit n rs) (f : Fine n rs lo mn) (ok : MvOk n mv) (mins : ∀ i, 0 ≤ minAt zs i) (h : Legal rs zs lo mn mv) : Fine n rs (loP zs lo mv) (mnP mn mv) := by
  constructor
  · intro ro hro g hg
    obtain ⟨i, hil, hie⟩ := List.getElem_of_mem hro
    have hr : rs[i]? = some ro := by rw [List.getElem?_eq_getElem hil, hie]
    have base := f.gap ro hro g hg
    rw [gap_step (lo := lo) (mn := mn)]
    cases mv with
    | slip nu s d =>
      obtain ⟨_, hs, hd⟩ := ok
      obtain ⟨m0, i0, ro0, j0, ⟨a0, b0⟩, pos⟩ := h
      rw [gsz_id b0] at pos
      rw [slip_lo, slip_hi]
      have lowC : ¬ outR ro g → footAt ro g = (nu, s) → d = 1 → 0 < gapI ro lo mn g := fun no e hd1 => by
        obtain ⟨j, hj, hgid⟩ := low_foot hg no
        rw [e] at hj
        obtain ⟨rfl, rfl⟩ := feet_place fit.nd hr hj a0 b0
        obtain rfl := Option.some.inj (hr.symm.trans a0)
        rw [hd1, show decide ((1 : Int) = 1) = true from rfl, hgid] at pos
        exact pos
      have highC : ¬ outR ro (g + 1) → footAt ro (g + 1) = (nu, s) → d = -1 → 0 < gapI ro lo mn g := fun no e hd1 => by
        obtain ⟨j, hj, hgid⟩ := high_foot hg no
        rw [e] at hj
        obtain ⟨rfl, rfl⟩ := feet_place fit.nd hr hj a0 b0
        obtain rfl := Option.some.inj (hr.symm.trans a0)
        rw [hd1, show decide ((-1 : Int) = 1) = false from rfl, hgid] at pos
        exact pos
      by_cases o1 : outR ro (g + 1)
      · rw [if_pos o1]
        by_cases o0 : outR ro g
        · rw [if_pos o0]; omega
        · rw [if_neg o0]
          by_cases e0 : footAt ro g = (nu, s)
          · rw [if_pos e0]
            rcases hd with hd | hd
            · omega
            · have := lowC o0 e0 hd; omega
          · rw [if_neg e0]; omega
      · rw [if_neg o1]
        by_cases o0 : outR ro g
        · rw [if_pos o0]
          by_cases e1 : footAt ro (g + 1) = (nu, s)
          · rw [if_pos e1]
            rcases hd with hd | hd
            · have := highC o1 e1 hd; omega
            · omega
          · rw [if_neg e1]; omega
        · rw [if_neg o0]
          by_cases e1 : footAt ro (g + 1) = (nu, s)
          · rw [if_pos e1]
            by_cases e0 : footAt ro g = (nu, s)
            · rw [if_pos e0]; omega
            · rw [if_neg e0]
              rcases hd with hd | hd
              · have := highC o1 e1 hd; omega
              · omega
          · rw [if_neg e1]
            by_cases e0 : footAt ro g = (nu, s)
            · rw [if_pos e0]
              rcases hd with hd | hd
              · omega
              · have := lowC o0 e0 hd; omega
            · rw [if_neg e0]; omega
    | close nu e =>
      rw [close_lo, close_hi]
      have side : ∀ {j : Nat} {y : Foot}, ro.feet[j]? = some y → y.2 = 0 ∨ y.2 = 1 := fun hj => (fit.foot ro hro _ (List.mem_of_getElem? hj)).2
      have one : ∀ {j : Nat} {y : Foot}, ro.feet[j]? = some y → y.1 = nu → gid ro j (isUp (revAt zs nu) y.2 e) = g → 0 < gapI ro lo mn g := fun {j y} hj hy hgid => by
        obtain ⟨y1, y2⟩ := y
        have e1 : y1 = nu := hy
        subst e1
        have z := close_gaps fit.nd h (side hj) hr hj
        rw [hgid] at z
        exact z
      have A : (if outR ro (g + 1) then (0 : Int) else if (footAt ro (g + 1)).1 = nu ∧ isUp (revAt zs nu) (footAt ro (g + 1)).2 e = false then -1 else 0) = 0 ∨ ((if outR ro (g + 1) then (0 : Int) else if (footAt ro (g + 1)).1 = nu ∧ isUp (revAt zs nu) (footAt ro (g + 1)).2 e = false then -1 else 0) = -1 ∧ ∃ (j : Nat) (y : Foot), ro.feet[j]? = some y ∧ y.1 = nu ∧ isUp (revAt zs nu) y.2 e = false ∧ gid ro j false = g) := by
        by_cases o1 : outR ro (g + 1)
        · exact .inl (by rw [if_pos o1])
        · by_cases c1 : (footAt ro (g + 1)).1 = nu ∧ isUp (revAt zs nu) (footAt ro (g + 1)).2 e = false
          · obtain ⟨j, hj, hgid⟩ := high_foot hg o1
            exact .inr ⟨by rw [if_neg o1, if_pos c1], j, _, hj, c1.1, c1.2, hgid⟩
          · exact .inl (by rw [if_neg o1, if_neg c1])
      have B : (if outR ro g then (0 : Int) else if (footAt ro g).1 = nu ∧ isUp (revAt zs nu) (footAt ro g).2 e = true then 1 else 0) = 0 ∨ ((if outR ro g then (0 : Int) else if (footAt ro g).1 = nu ∧ isUp (revAt zs nu) (footAt ro g).2 e = true then 1 else 0) = 1 ∧ ∃ (j : Nat) (y : Foot), ro.feet[j]? = some y ∧ y.1 = nu ∧ isUp (revAt zs nu) y.2 e = true ∧ gid ro j true = g) := by
        by_cases o1 : outR ro g
        · exact .inl (by rw [if_pos o1])
        · by_cases c1 : (footAt ro g).1 = nu ∧ isUp (revAt zs nu) (footAt ro g).2 e = true
          · obtain ⟨j, hj, hgid⟩ := low_foot hg o1
            exact .inr ⟨by rw [if_neg o1, if_pos c1], j, _, hj, c1.1, c1.2, hgid⟩
          · exact .inl (by rw [if_neg o1, if_neg c1])
      rcases A with a | ⟨a, j1, ⟨y1, s1⟩, hj1, hy1, hu1, hg1⟩
      · rcases B with b | ⟨b, j0, ⟨y0, s0⟩, hj0, hy0, hu0, hg0⟩
        · rw [a, b]; omega
        · have := one hj0 hy0 (by rw [hu0]; exact hg0)
          rw [a, b]; omega
      · rcases B with b | ⟨b, j0, ⟨y0, s0⟩, hj0, hy0, hu0, hg0⟩
        · have := one hj1 hy1 (by rw [hu1]; exact hg1)
          rw [a, b]; omega
        · have t1 : s1 = 0 ∨ s1 = 1 := side hj1
          have t0 : s0 = 0 ∨ s0 = 1 := side hj0
          have e1 : y1 = nu := hy1
          have e0 : y0 = nu := hy0
          subst e1
          subst e0
          have u1 : isUp (revAt zs y0) s1 e = false := hu1
          have u0 : isUp (revAt zs y0) s0 e = true := hu0
          have two : 1 < gapI ro lo mn g := by
            rcases t1 with rfl | rfl
            · rcases t0 with rfl | rfl
              · rw [u0] at u1; cases u1
              · have z := close_two fit.nd h hr hj1 hj0 (by rw [u1, u0, hg1, hg0])
                rw [u1, hg1] at z
                exact z
            · rcases t0 with rfl | rfl
              · have z := close_two fit.nd h hr hj0 hj1 (by rw [u1, u0, hg1, hg0])
                rw [u0, hg0] at z
                exact z
              · rw [u0] at u1; cases u1
          rw [a, b]; omega
    | opn nu e =>
      have h1 := open_lo (zs := zs) (lo := lo) (nu := nu) (e := e) (footAt ro (g + 1))
      have h0 := open_hi (zs := zs) (lo := lo) (mn := mn) (nu := nu) (e := e) (footAt ro g)
      by_cases o1 : outR ro (g + 1)
      · rw [if_pos o1]
        by_cases o0 : outR ro g
        · rw [if_pos o0]; omega
        · rw [if_neg o0]; omega
      · rw [if_neg o1]
        by_cases o0 : outR ro g
        · rw [if_pos o0]; omega
        · rw [if_neg o0]; omega
  · intro i h0 h1
    have b := f.many i h0 h1
    cases mv with
    | slip nu s d => exact b
    | close nu e =>
      show 0 ≤ (if i = nu then mn nu + 1 else mn i)
      split
      · rename_i e1; rw [e1] at b; omega
      · exact b
    | opn nu e =>
      show 0 ≤ (if i = nu then mn nu + -1 else mn i)
      have m := mins nu
      have g : mn nu > minAt zs nu := h
      split
      · omega
      · exact b
end Zs
namespace Zs
open PySem PySem.Spec PyProof.Rows L2
/-! ### rows whose places stand in order -/
structure RowIs (ro : Row) (lo : Foot → Int) (mn : Int → Int) : Prop where
  step : ∀ (j : Nat) (x y : Foot), ro.feet[j]? = some x → ro.feet[j + 1]? = some y → hi lo mn x ≤ lo y
  first : ro.ring = false → ∀ x, ro.feet[0]? = some x → 0 ≤ lo x
  last : ro.ring = false → ∀ (j : Nat) (x : Foot), ro.feet[j]? = some x → j + 1 = ro.feet.length → hi lo mn x ≤ ro.teeth
  round : ro.ring = true → ∀ (x0 : Foot) (j : Nat) (x : Foot), ro.feet[0]? = some x0 → ro.feet[j]? = some x → j + 1 = ro.feet.length → hi lo mn x ≤ lo x0 + ro.teeth
theorem row_is {ro : Row} {lo : Foot → Int} {mn : Int → Int} (h : ∀ g, okG ro g → 0 ≤ gapI ro lo mn g) : RowIs ro lo mn := by
  have at_ : ∀ (j : Nat) (x : Foot), ro.feet[j]? = some x → 0 ≤ edgeV ro lo mn ((j : Int) + 1) true - hi lo mn x := fun j x hx => by
    have hj : j < ro.feet.length := (List.getElem?_eq_some_iff.mp hx).1
    have z := h (j : Nat) ⟨by split <;> omega, by omega⟩
    unfold gapI at z
    rw [edge_hi hx] at z
    exact z
  refine ⟨fun j x y hx hy => ?_, fun er x hx => ?_, fun er j x hx hj => ?_, fun er x0 j x hx0 hx hj => ?_⟩
  · have z := at_ j x hx
    rw [show (j : Int) + 1 = ((j + 1 : Nat) : Int) by omega, edge_lo hy] at z
    omega
  · have z := h (-1) ⟨by rw [er]; decide, by omega⟩
    unfold gapI at z
    rw [show (-1 : Int) + 1 = ((0 : Nat) : Int) by rfl, edge_lo hx, edge_bot er] at z
    omega
  · have z := at_ j x hx
    rw [show (j : Int) + 1 = ((ro.feet.length : Nat) : Int) by omega, edge_top er] at z
    omega
  · have z := at_ j x hx
    rw [show (j : Int) + 1 = ((ro.feet.length : Nat) : Int) by omega, edge_topR er hx0] at z
    omega
theorem row_gap {ro : Row} {lo : Foot → Int} {mn : Int → Int} (t1 : 1 ≤ ro.teeth) (r : RowIs ro lo mn) : ∀ g, okG ro g → 0 ≤ gapI ro lo mn g := by
  intro g hg
  rcases (show g < 0 ∨ 0 ≤ g by omega) with hn | h0
  · have er : ro.ring = false := by
      cases er : ro.ring with
      | false => rfl
      | true =>
        have := hg.1
        rw [er, if_pos rfl] at this
        omega
    have e : g = -1 := by
      have := hg.1
      rw [er, if_neg (by decide)] at this
      omega
    subst e
    unfold gapI
    rw [edge_bot er]
    cases hf : ro.feet[0]? with
    | some x =>
      rw [show (-1 : Int) + 1 = ((0 : Nat) : Int) by rfl, edge_lo hf]
      have := r.first er x hf
      omega
    | none =>
      have k0 : ro.feet.length = 0 := by
        have := List.getElem?_eq_none_iff.mp hf
        omega
      rw [show (-1 : Int) + 1 = ((ro.feet.length : Nat) : Int) by rw [k0]; rfl, edge_top er]
      omega
  · obtain ⟨j, rfl⟩ := Int.eq_ofNat_of_zero_le h0
    have hj : j < ro.feet.length := by have := hg.2; omega
    have hx : ro.feet[j]? = some ro.feet[j] := List.getElem?_eq_getElem hj
    unfold gapI
    rw [edge_hi hx]
    by_cases hl : j + 1 < ro.feet.length
    · have hy : ro.feet[j + 1]? = some ro.feet[j + 1] := List.getElem?_eq_getElem hl
      rw [show (j : Int) + 1 = ((j + 1 : Nat) : Int) by omega, edge_lo hy]
      have := r.step j _ _ hx hy
      omega
    · have e : j + 1 = ro.feet.length := by omega
      rw [show (j : Int) + 1 = ((ro.feet.length : Nat) : Int) by omega]
      cases er : ro.ring with
      | false =>
        rw [edge_top er]
        have := r.last er j _ hx e
        omega
      | true =>
        have h0 : ro.feet[0]? = some ro.feet[0] := List.getElem?_eq_getElem (by omega)
        rw [edge_topR er h0]
        have := r.round er _ j _ h0 hx e
        omega
theorem RowIs.shift {ro : Row} {lo lo' : Foot → Int} {mn : Int → Int} {b : Int} (r : RowIs ro lo mn) (h : ∀ x ∈ ro.feet, lo' x = lo x - b) (hb : ro.ring = false → b = 0) : RowIs ro lo' mn := by
  have hl : ∀ {j : Nat} {x : Foot}, ro.feet[j]? = some x → lo' x = lo x - b := fun hx => h _ (List.mem_of_getElem? hx)
  have hh : ∀ {j : Nat} {x : Foot}, ro.feet[j]? = some x → hi lo' mn x = hi lo mn x - b := fun hx => by
    have := hl hx
    unfold hi
    omega
  refine ⟨fun j x y hx hy => ?_, fun er x hx => ?_, fun er j x hx hj => ?_, fun er x0 j x hx0 hx hj => ?_⟩
  · have := r.step j x y hx hy
    rw [hh hx, hl hy]
    omega
  · have := r.first er x hx
    rw [hl hx, hb er]
    omega
  · have := r.last er j x hx hj
    rw [hh hx, hb er]
    omega
  · have := r.round er x0 j x hx0 hx hj
    rw [hh hx, hl hx0]
    omega
theorem RowIs.mono {ro : Row} {lo : Foot → Int} {mn : Int → Int} (r : RowIs ro lo mn) (pos : ∀ x ∈ ro.feet, 0 ≤ mn x.1) : ∀ (d j : Nat) (x y : Foot), ro.feet[j]? = some x → ro.feet[j + d]? = some y → lo x ≤ lo y
  | 0, j, x, y, hx, hy => by
    rw [Option.some.inj (hx.symm.trans hy)]
    omega
  | d + 1, j, x, y, hx, hy => by
    have hl : j + (d + 1) < ro.feet.length := (List.getElem?_eq_some_iff.mp hy).1
    have hz : ro.feet[j + 1]? = some ro.feet[j + 1] := List.getElem?_eq_getElem (by omega)
    have h1 := r.step j x _ hx hz
    have h2 := RowIs.mono r pos d (j + 1) _ y hz (by rw [show j + 1 + d = j + (d + 1) by omega]; exact hy)
    have h3 := pos x (List.mem_of_getElem? hx)
    unfold hi at h1
    omega
theorem RowIs.many {ro : Row} {lo : Foot → Int} {mn : Int → Int} (r : RowIs ro lo mn) (pos : ∀ x ∈ ro.feet, 0 ≤ mn x.1) {x : Foot} (hx : x ∈ ro.feet) : mn x.1 ≤ ro.teeth := by
  obtain ⟨j, hj, e⟩ := List.getElem_of_mem hx
  have hx : ro.feet[j]? = some x := by rw [List.getElem?_eq_getElem hj, e]
  have k0 : 0 < ro.feet.length := by omega
  have h0 : ro.feet[0]? = some ro.feet[0] := List.getElem?_eq_getElem k0
  have hl : ro.feet[ro.feet.length - 1]? = some ro.feet[ro.feet.length - 1] := List.getElem?_eq_getElem (by omega)
  have m0 := r.mono pos j 0 _ x h0 (by rw [Nat.zero_add]; exact hx)
  have up : hi lo mn x ≤ hi lo mn ro.feet[ro.feet.length - 1] := by
    by_cases e : j + 1 = ro.feet.length
    · have : j = ro.feet.length - 1 := by omega
      subst this
      rw [Option.some.inj (hx.symm.trans hl)]
      omega
    · have hz : ro.feet[j + 1]? = some ro.feet[j + 1] := List.getElem?_eq_getElem (by omega)
      have h1 := r.step j x _ hx hz
      have h2 := r.mono pos (ro.feet.length - 1 - (j + 1)) (j + 1) _ _ hz (by rw [show j + 1 + (ro.feet.length - 1 - (j + 1)) = ro.feet.length - 1 by omega]; exact hl)
      have h3 := pos _ (List.mem_of_getElem? hl)
      unfold hi at *
      omega
  cases er : ro.ring with
  | false =>
    have h1 := r.first er _ h0
    have h2 := r.last er _ _ hl (by omega)
    unfold hi at *
    omega
  | true =>
    have h2 := r.round er _ _ _ h0 hl (by omega)
    unfold hi at *
    omega
/-! ### the state of a layout -/
def psOf (n : Nat) (lo : Foot → Int) (mn : Int → Int) : List P3 := (List.range n).map fun i => (lo ((i : Nat), 0), lo ((i : Nat), 1), mn (i : Nat))
theorem psOf_len (n : Nat) (lo : Foot → Int) (mn : Int → Int) : (psOf n lo mn).length = n := by
  unfold psOf
  rw [List.length_map, List.length_range]
theorem at_ps {n : Nat} {lo : Foot → Int} {mn : Int → Int} {i : Int} (h0 : 0 ≤ i) (h1 : i < n) : at3 (psOf n lo mn) i = (lo (i, 0), lo (i, 1), mn i) := by
  obtain ⟨j, rfl⟩ := Int.eq_ofNat_of_zero_le h0
  unfold at3 psOf
  rw [Int.toNat_natCast, List.getD_eq_getElem?_getD, List.getElem?_map, List.getElem?_range (by omega)]
  rfl
theorem low_ps {n : Nat} {lo : Foot → Int} {mn : Int → Int} {x : Foot} (h : FootIn n x) : lowAt (psOf n lo mn) x = lo x ∧ highAt (psOf n lo mn) x = hi lo mn x := by
  obtain ⟨a, b⟩ := x
  have e := at_ps (lo := lo) (mn := mn) h.1.1 h.1.2
  have e1 : lowAt (psOf n lo mn) (a, b) = lo (a, b) := by
    unfold lowAt
    rw [e]
    rcases h.2 with hb | hb
    · have hb : b = 0 := hb
      subst hb
      rfl
    · have hb : b = 1 := hb
      subst hb
      rfl
  refine ⟨e1, ?_⟩
  unfold highAt manyAt hi
  rw [e1, e]
theorem chk_of (ps : List P3) (most : Int) : ∀ (xs : List Foot) (place : Int), (∀ x, xs[0]? = some x → place ≤ lowAt ps x) → (∀ (j : Nat) (x y : Foot), xs[j]? = some x → xs[j + 1]? = some y → highAt ps x ≤ lowAt ps y) → (∀ (j : Nat) (x : Foot), xs[j]? = some x → j + 1 = xs.length → highAt ps x ≤ most) → (xs = [] → place ≤ most) → chk ps xs place most = true
  | [], place, _, _, _, h => decide_eq_true (by have := h rfl; omega)
  | x :: xs, place, h0, h1, h2, _ => by
    show (decide (lowAt ps x - place ≥ 0) && chk ps xs (highAt ps x) most) = true
    rw [decide_eq_true (by have := h0 x rfl; omega), Bool.true_and]
    refine chk_of ps most xs _ (fun y hy => h1 0 x y rfl (by simpa using hy)) (fun j a b ha hb => h1 (j + 1) a b (by simpa using ha) (by simpa using hb)) (fun j a ha hl => h2 (j + 1) a (by simpa using ha) (by rw [List.length_cons]; omega)) fun e => ?_
    subst e
    exact h2 0 x rfl rfl
theorem fits_of {ro : Row} {n : Nat} {lo : Foot → Int} {mn : Int → Int} (t1 : 1 ≤ ro.teeth) (foot : ∀ x ∈ ro.feet, FootIn n x) (r : RowIs ro lo mn) (nrm : ro.ring = true → ∀ x, ro.feet[0]? = some x → 0 ≤ lo x ∧ lo x < ro.teeth) : fitsB ro (psOf n lo mn) = true := by
  have hl : ∀ {j : Nat} {x : Foot}, ro.feet[j]? = some x → lowAt (psOf n lo mn) x = lo x := fun hx => (low_ps (foot _ (List.mem_of_getElem? hx))).1
  have hh : ∀ {j : Nat} {x : Foot}, ro.feet[j]? = some x → highAt (psOf n lo mn) x = hi lo mn x := fun hx => (low_ps (foot _ (List.mem_of_getElem? hx))).2
  cases er : ro.ring with
  | false =>
    rw [fits_line er]
    refine chk_of _ _ _ _ (fun x hx => ?_) (fun j x y hx hy => ?_) (fun j x hx hj => ?_) fun _ => by omega
    · rw [hl hx]; exact r.first er x hx
    · rw [hh hx, hl hy]; exact r.step j x y hx hy
    · rw [hh hx]; exact r.last er j x hx hj
  | true =>
    cases ef : ro.feet with
    | nil =>
      rw [fits_bare er ef]
      exact decide_eq_true (by omega)
    | cons x xs =>
      have h0 : ro.feet[0]? = some x := by rw [ef]; rfl
      have sh : ∀ {j : Nat} {y : Foot}, xs[j]? = some y → ro.feet[j + 1]? = some y := fun h => by rw [ef]; simpa using h
      obtain ⟨n0, n1⟩ := nrm er x h0
      rw [fits_ring er ef, hl h0, decide_eq_true n0, decide_eq_true n1]
      show chk _ xs _ _ = true
      refine chk_of _ _ _ _ (fun y hy => ?_) (fun j a b ha hb => ?_) (fun j a ha hj => ?_) fun e => ?_
      · rw [hh h0, hl (sh hy)]; exact r.step 0 x y h0 (sh hy)
      · rw [hh (sh ha), hl (sh hb)]; exact r.step (j + 1) a b (sh ha) (sh hb)
      · rw [hh (sh ha)]; exact r.round er x (j + 1) a h0 (sh ha) (by rw [ef, List.length_cons]; omega)
      · rw [hh h0]; exact r.round er x 0 x h0 h0 (by rw [ef, e]; rfl)
end Zs
namespace Zs
open PySem PySem.Spec PyProof.Rows L2
abbrev sOL : Stmt := topS 47
theorem scOL : FnScope ["_law_source_here", "_law_spec", "_law_lows", "_law_sort", "_law_teeth", "_law_feet", "_law_begin", "_law_far", "_law_places", "_law_foot", "_law_place", "_law_one"] ["_law_source_here", "_law_spec"] (defScope sOL) := ⟨rfl, rfl, rfl, by decide +kernel, rfl, by decide +kernel, by decide +kernel⟩
theorem hu2 {A : Around} {k : Nat} (r : Room k A) : A.units + 2 < cLine := by have := r.un; omega
theorem place_fun : ∀ (xs : List Foot) (ns : List Int) (lo : Foot → Int), xs.Nodup → ∃ lo' : Foot → Int, (∀ (j : Nat) (x : Foot), xs[j]? = some x → lo' x = ns.getD j 0) ∧ ∀ y, y ∉ xs → lo' y = lo y
  | [], ns, lo, _ => ⟨lo, fun j x h => by simp at h, fun y _ => rfl⟩
  | x :: xs, ns, lo, nd => by
    obtain ⟨lo', h1, h2⟩ := place_fun xs ns.tail lo (List.nodup_cons.mp nd).2
    refine ⟨setLo lo' x (ns.getD 0 0), fun j y hy => ?_, fun y hy => ?_⟩
    · cases j with
      | zero =>
        have e : x = y := Option.some.inj hy
        subst e
        unfold setLo
        rw [if_pos rfl]
      | succ j =>
        have hy2 : xs[j]? = some y := by simpa using hy
        have ne : y ≠ x := fun e => (List.nodup_cons.mp nd).1 (e ▸ List.mem_of_getElem? hy2)
        unfold setLo
        rw [if_neg ne, h1 j y hy2]
        cases ns <;> rfl
    · have h3 : y ≠ x := fun e => hy (e ▸ List.mem_cons_self ..)
      unfold setLo
      rw [if_neg h3]
      exact h2 y fun z => hy (List.mem_cons_of_mem _ z)
def Zm : Int → Int := fun _ => 0
theorem hi_Zm (lo : Foot → Int) (x : Foot) : hi lo Zm x = lo x := by
  unfold hi Zm
  omega
/-- places of one row -/
structure PlOk (ro : Row) (b : Int) (ms : List Int) : Prop where
  len : ms.length = ro.feet.length
  up : ms.Pairwise (· ≤ ·)
  btw : ∀ v ∈ ms, b ≤ v ∧ v ≤ b + ro.teeth
  line : ro.ring = false → b = 0
  ring : ro.ring = true → ∀ v, ms[0]? = some v → v = b
theorem PlOk.row {ro : Row} {b : Int} {ms : List Int} {lo : Foot → Int} (h : PlOk ro b ms) (hl : ∀ (j : Nat) (x : Foot), ro.feet[j]? = some x → lo x = ms.getD j 0) : RowIs ro lo Zm := by
  have at_ : ∀ (j : Nat) (x : Foot), ro.feet[j]? = some x → ∃ v, ms[j]? = some v ∧ lo x = v := fun j x hx => by
    have hj : j < ms.length := by rw [h.len]; exact (List.getElem?_eq_some_iff.mp hx).1
    exact ⟨ms[j], List.getElem?_eq_getElem hj, by rw [hl j x hx, List.getD_eq_getElem?_getD, List.getElem?_eq_getElem hj]; rfl⟩
  refine ⟨fun j x y hx hy => ?_, fun er x hx => ?_, fun er j x hx hj => ?_, fun er x0 j x hx0 hx hj => ?_⟩
  · obtain ⟨v, hv, ev⟩ := at_ j x hx
    obtain ⟨u, hu, eu⟩ := at_ (j + 1) y hy
    obtain ⟨hj, e1⟩ := List.getElem?_eq_some_iff.mp hv
    obtain ⟨hj2, e2⟩ := List.getElem?_eq_some_iff.mp hu
    rw [hi_Zm, ev, eu, ← e1, ← e2]
    exact List.pairwise_iff_getElem.mp h.up j (j + 1) hj hj2 (by omega)
  · obtain ⟨v, hv, ev⟩ := at_ 0 x hx
    have := (h.btw v (List.mem_of_getElem? hv)).1
    rw [h.line er] at this
    omega
  · obtain ⟨v, hv, ev⟩ := at_ j x hx
    have := (h.btw v (List.mem_of_getElem? hv)).2
    rw [h.line er] at this
    rw [hi_Zm]
    omega
  · obtain ⟨v, hv, ev⟩ := at_ j x hx
    obtain ⟨u, hu, eu⟩ := at_ 0 x0 hx0
    have h1 := (h.btw v (List.mem_of_getElem? hv)).2
    have h2 := h.ring er u hu
    rw [hi_Zm]
    omega
theorem pw_set {b : Int} : ∀ {ms : List Int}, ms.Pairwise (· ≤ ·) → (∀ v ∈ ms, b ≤ v) → (ms.set 0 b).Pairwise (· ≤ ·)
  | [], _, _ => List.Pairwise.nil
  | v :: ms, h, hb => by
    rw [List.set_cons_zero]
    exact List.pairwise_cons.mpr ⟨fun u hu => hb u (List.mem_cons_of_mem _ hu), (List.pairwise_cons.mp h).2⟩
theorem eqv_ints (ns : List Int) : PyData.eqv (.list (ns.map PyData.int)) (.list []) = ns.isEmpty := by
  cases ns <;> simp [PyData.eqv, PyData.eqvAll]
theorem dp_ints {K : PySem.W.Frag} {H : Hp} {p : Addr} {ns : List Int} (h : H p = some (.lst (ns.map V.int))) : Dp K H (.ref p) (.list (ns.map PyData.int)) := by
  refine .lst (.inl (.inl h)) ?_
  have : ∀ ns : List Int, DpAll K H (ns.map V.int) (ns.map PyData.int) := fun ns => by
    induction ns with
    | nil => exact .nil
    | cons n ns ih => exact .cons (.int n) ih
  exact this ns
theorem gd_ints {ns : List Int} (h : ns.length ≤ 16) : Gd 1000 1 (.list (ns.map PyData.int)) := by
  refine .list (by rw [List.length_map]; omega) fun d hd => ?_
  obtain ⟨i, _, rfl⟩ := List.mem_map.mp hd
  exact .int i
/-- the dict of the layout while it is filled -/
structure Fill (rs : List Row) (H : Hp) (D : Addr) (M : List Foot) (lo : Foot → Int) : Prop where
  ex : ∃ kvs : List (List Key × V), H D = some (.dT kvs) ∧ kvs.length ≤ M.length ∧ (∀ kv ∈ kvs, ∃ x, FootIn 8 x ∧ kv.1 = keyF x) ∧ ∀ x ∈ M, valV kvs (keyF x) = some (.int (lo x))
theorem Fill.same {rs : List Row} {H H' : Hp} {D : Addr} {M : List Foot} {lo : Foot → Int} (h : Fill rs H D M lo) (e : ∀ o, H D = some o → H' D = some o) : Fill rs H' D M lo := by
  obtain ⟨kvs, a, b⟩ := h.ex
  exact ⟨kvs, e _ a, b⟩
theorem Fill.congr {rs : List Row} {H : Hp} {D : Addr} {M : List Foot} {lo lo' : Foot → Int} (h : Fill rs H D M lo) (e : ∀ x ∈ M, lo x = lo' x) : Fill rs H D M lo' := by
  obtain ⟨kvs, a, b, c, v⟩ := h.ex
  exact ⟨kvs, a, b, c, fun x hx => by rw [v x hx, e x hx]⟩
theorem Fill.put {rs : List Row} {H H' : Hp} {D t : Addr} {M : List Foot} {lo : Foot → Int} {x : Foot} (h : Fill rs H D M lo) (e : ∀ o, H D = some o → H' D = some o) (hm : M.length ≤ 16) (ht : H' t = some (.tup [.int x.1, .int x.2])) (fx : FootIn 8 x) (nx : x ∉ M) :
    ∃ H2, DPut H' D (.ref t) (.int (lo x)) H2 ∧ Fill rs H2 D (M ++ [x]) lo ∧ ∃ o, H2 = upd H' D o := by
  obtain ⟨kvs, hd, l, keys, vals⟩ := h.ex
  have hd' := e _ hd
  refine ⟨_, DPut.t (k := keyF x) (v := .int (lo x)) hd' (show H' t = some (.tup ((keyF x).map kV)) from ht) (small1000 (by omega)), ⟨_, upd_same, ?_, ?_, ?_⟩, _, rfl⟩
  · have := length_putK kvs (keyF x) (.int (lo x))
    rw [List.length_append]
    show _ ≤ M.length + 1
    omega
  · intro kv hkv
    rcases putK_mem hkv with e | ⟨kv', h1, e⟩
    · exact ⟨x, fx, e⟩
    · rw [← e]
      exact keys kv' h1
  · intro y hy
    rw [valV_put]
    by_cases e : y = x
    · subst e
      rw [if_pos rfl]
    · rw [if_neg (fun z => e (keyF_inj z))]
      rcases List.mem_append.mp hy with hy | hy
      · exact vals y hy
      · exact absurd (List.mem_singleton.mp hy) e
section
variable {P : Program} {w : World} {K : PySem.W.Frag} {mg : Str → Option Value} {base : Heap}
def spOL : Sp := fun vs H Q _ => ∃ (a sp r z : Addr) (n : Nat) (rs : List Row) (zs : List Zp), vs = [.ref a, .ref sp] ∧ Src H a n ∧ n + 120 < 2 ^ 20 ∧ H sp = some (.tup [.ref r, .ref z]) ∧ TupRs H r rs ∧ TupZs H z zs ∧ RowsFit zs.length rs ∧ rs.length ≤ 6 ∧ (rs.flatMap (·.feet)).length ≤ 16 ∧
  ∀ (L d m : Addr) (H' : Hp) (lo : Foot → Int), But a H H' → Src H' a (n + 120) → H L = none → H d = none → H m = none → Lay H' L r z d m zs.length lo Zm → (∀ ro ∈ rs, RowIs ro lo Zm) → Q (.ref L) H'
set_option maxHeartbeats 1600000 in
theorem ok_ol {f : Addr} {fd : FuncData} (T : Bl mg) (F : Fun K "_law_open_layout" "_law_open_layout" sOL f fd) (cDraw : Cal P w K mg base CX0 1 "_law_draw" ["_law_source_here", "_law_often"] spDraw) : FnOk P w K mg base CX0 2 f fd ["_law_source_here", "_law_spec"] spOL := by
  refine F.ok scOL (fun vs H Q E h => ?_) (fun cdv A outer s H vs Q E hr h => ?_)
  · obtain ⟨a, sp, r, z, n, rs, zs, rfl, _⟩ := h
    rfl
  · obtain ⟨a, sp, r, z, n, rs, zs, rfl, hs, hn, esp, hrs, hzs, fit, r6, f16, q⟩ := h
    obtain ⟨ys, ea⟩ := hs.lst
    refine ⟨_, (pss_cons (ps_set (i := 2) scOL.nd rfl (Or.inl rfl) pe_dnewT)
      (pss_cons (ps_for PassesOwn.never rfl (pi_tup (pe_ix ix_tup (pv 1) pe_int (fun _ _ => rfl))) (pg_tup rfl (pgs_cons (pg_name (i := 3) scOL.nd rfl (Or.inl rfl)) (pgs_cons (pg_name (i := 4) scOL.nd rfl (Or.inr rfl)) (pgs_cons (pg_name (i := 5) scOL.nd rfl (Or.inl rfl)) pgs_nil))))
        (pss_cons (ps_asg (pe_tup (pa_cons pe_int (pa_cons (pv 4) pa_nil))) (pg_tup rfl (pgs_cons (pg_name (i := 6) scOL.nd rfl (Or.inr rfl)) (pgs_cons (pg_name (i := 7) scOL.nd rfl (Or.inl rfl)) pgs_nil))))
        (C8.pss_cut (ps_if (pt_cmpR op_eq (pv 3) pe_str (nomark _))
          (pss_one (ps_set (i := 6) scOL.nd rfl (Or.inr rfl) (pe_cal cDraw (hr.mono (by decide)) pass0 (by rfl) (pa_cons (pv 0) (pa_cons (pv 4) pa_nil)))))
          pss_nil)
        (pss_cons (ps_set (i := 8) scOL.nd rfl (Or.inl rfl) (pe_callB cr_sorted (by rfl) T.sorted_ (by decide +kernel) (pa_cons (pe_lc (own := [("_law_foot", 9)]) (g := gName 9) (by rfl) scOL.nd (pi_tup (pv 5)) (blkOk_by (own := [("_law_foot", 9)]) (N := ["_law_source_here", "_law_spec", "_law_lows", "_law_sort", "_law_teeth", "_law_feet", "_law_begin", "_law_far", "_law_places", "_law_foot", "_law_place", "_law_one"]) (sc := defScope sOL) (by decide +kernel)) (fun _ _ _ _ _ => (pg_name (i := 9) scOL.nd rfl (Or.inl rfl))) (fun _ _ _ _ _ => pts_nil) (fun _ _ _ _ _ => (pe_op op_add (pv 6) (pe_cal cDraw (hr.mono (by decide)) pass0 (by rfl) (pa_cons (pv 0) (pa_cons (pe_op op_add (pv 4) pe_int) pa_nil)))))) pa_nil)))
        (C8.pss_cut (ps_if (pw_and (pt_cmpR op_eq (pv 3) pe_str (nomark _)) (pw_and1 (pt_cmpR (op_neD (u64 hr)) (pv 8) (pe_lst pa_nil) (nomark _)))).pt
          (pss_one (ps_asg (pv 6) (pg_sub (pv 8) pe_int set_list)))
          pss_nil)
        (pss_one (ps_for PassesOwn.never rfl (pi_zipM (by rfl) T.zip_ (pa_cons (pv 5) (pa_cons (pv 8) pa_nil))) (pg_tup rfl (pgs_cons (pg_name (i := 9) scOL.nd rfl (Or.inl rfl)) (pgs_cons (pg_name (i := 10) scOL.nd rfl (Or.inl rfl)) pgs_nil)))
          (pss_one (ps_dput (hu_of hr) (pv 2) (pv 9) (pv 10) rfl)))))))))
      (pss_one (ps_ret (pe_disp (pps_cons pe_str (pe_ix ix_tup (pv 1) pe_int (fun _ _ => rfl)) (pps_cons pe_str (pe_ix ix_tup (pv 1) pe_int (fun _ _ => rfl)) (pps_cons pe_str (pv 2) (pps_cons pe_str (pe_lc (own := [("_law_one", 11)]) (g := gName 11) (by rfl) scOL.nd (pi_tup (pe_ix ix_tup (pv 1) pe_int (fun _ _ => rfl))) (blkOk_by (own := [("_law_one", 11)]) (N := ["_law_source_here", "_law_spec", "_law_lows", "_law_sort", "_law_teeth", "_law_feet", "_law_begin", "_law_far", "_law_places", "_law_foot", "_law_place", "_law_one"]) (sc := defScope sOL) (by decide +kernel)) (fun _ _ _ _ _ => (pg_name (i := 11) scOL.nd rfl (Or.inl rfl))) (fun _ _ _ _ _ => pts_nil) (fun _ _ _ _ _ => pe_int)) pps_nil)))) rfl rfl (by simp) (by decide)))))), ?_⟩
    intro D nD
    have nDa : D ≠ a := (ne_of_none ea nD).symm
    obtain ⟨ts, er, pr⟩ := id hrs
    have rq : SqT K H r (ts.map V.ref) := .inl (.inl er)
    have s0 := same_upd (o := .dT []) nD
    refine ⟨.ref sp, rfl, sp, _, 0, .ref r, rfl, rfl, .inl (.inl (s0 _ _ esp)), atI_nat (j := 0) rfl, r, rfl, ⟨_, same_seqT s0 rq⟩, ?_⟩
    refine for_tup (K := K) (xs := ts.map V.ref) (fun i σ H1 => But a H H1 ∧ Src H1 a (n + 17 * i) ∧ (∃ lo, Fill rs H1 D (metF rs i 0) lo ∧ ∀ (i' : Nat) (ro : Row), i' < i → rs[i']? = some ro → RowIs ro lo Zm) ∧ ∃ x3 x4 x5 x6 x7 x8 x9 x10 : Option V, σ = [some (.ref a), some (.ref sp), some (.ref D), x3, x4, x5, x6, x7, x8, x9, x10, none])
      ⟨.of s0, hs.same s0, ⟨fun _ => 0, ⟨[], upd_same, Nat.zero_le _, by simp, fun x hx => ?_⟩, fun i' ro h => by omega⟩, none, none, none, none, none, none, none, none, rfl⟩ (fun i σ H1 _ hv => hv.1.seqT ea rq) (fun i v σ H1 hv0 hv => ?_) (fun σ H1 hv => ?_)
    · rw [met_zero] at hx
      simp at hx
    · obtain ⟨b1, s1, ⟨lo, fill, rows⟩, x3, x4, x5, x6, x7, x8, x9, x10, rfl⟩ := hv
      obtain ⟨t, ht, rfl⟩ : ∃ t, ts[i]? = some t ∧ v = .ref t := by
        rw [List.getElem?_map] at hv0
        cases e : ts[i]? with
        | none => rw [e] at hv0; cases hv0
        | some t => rw [e] at hv0; exact ⟨t, rfl, (Option.some.inj hv0).symm⟩
      obtain ⟨ro, hro, htr⟩ := paired_get pr ht
      have mem := List.mem_of_getElem? hro
      have hi6 : i < 6 := by have := (List.getElem?_eq_some_iff.mp hro).1; omega
      have te := fit.teeth ro mem
      have fl := fit.flen ro mem
      obtain ⟨fo, et, us, eu, pu⟩ := htr.tp (b1.tp ea)
      have usl : us.length = ro.feet.length := pu.length
      refine ⟨t, _, rfl, .inl (.inl et), rfl, .str (sortS ro.ring), _, rfl, .int ro.teeth, _, rfl, .ref fo, [], rfl, rfl, ?_⟩
      refine ⟨.int ro.teeth, rfl, by show 2 ≤ sizeLine; decide, fun T0 nT0 => ⟨T0, _, rfl, .inl (.inl upd_same), rfl, .int 0, _, rfl, .int ro.teeth, [], rfl, rfl, ?_⟩⟩
      have sT := same_upd (o := .tup [.int 0, .int ro.teeth]) nT0
      have fill2 : Fill rs (upd H1 T0 (.tup [.int 0, .int ro.teeth])) D (metF rs i 0) lo := fill.same fun o e => sT _ _ e
      have b2 : But a H (upd H1 T0 (.tup [.int 0, .int ro.teeth])) := b1.trans (.of sT)
      have s2 := s1.same sT
      have eu2 := eu.tp (.of sT)
      have pu2 : Paired (TupF (upd H1 T0 (.tup [.int 0, .int ro.teeth]))) us ro.feet := Paired.mono (fun _ _ z => sT _ _ z) pu
      generalize upd H1 T0 (.tup [.int 0, .int ro.teeth]) = H2 at fill2 b2 s2 eu2 pu2 ⊢
      -- begin
      refine ⟨fun σ' H' => But a H2 H' ∧ Src H' a (n + 17 * i + 1) ∧ ∃ b : Int, (ro.ring = false → b = 0) ∧ σ' = [some (.ref a), some (.ref sp), some (.ref D), some (.str (sortS ro.ring)), some (.int ro.teeth), some (.ref fo), some (.int b), some (.int ro.teeth), x8, x9, x10, none], ?_, ?_⟩
      · refine ⟨.str (sortS ro.ring), rfl, rfl, _, rfl, ?_⟩
        cases er2 : ro.ring with
        | false =>
          rw [show decide (V.str (sortS false) = V.str "ring") = false by decide +kernel]
          exact iteF ⟨.refl _ _, s2.mono (by omega), 0, fun _ => rfl, rfl⟩
        | true =>
          rw [show decide (V.str (sortS true) = V.str "ring") = true by decide +kernel]
          exact iteT ⟨.ref a, rfl, .int ro.teeth, rfl, a, ro.teeth, n + 17 * i, rfl, s2, by omega, by omega, by omega, fun b H3 _ _ hb3 hs3 => ⟨hb3, hs3, b, (fun z => by cases z), rfl⟩⟩
      · rintro σ' H3 ⟨b3, s3, b, hb, rfl⟩
        obtain ⟨ys2, ea2⟩ := s2.lst
        have tp3 := b3.tp ea2
        have eu3 := eu2.tp tp3
        have pu3 : Paired (TupF H3) us ro.feet := Paired.mono (fun _ _ z => tp3 _ _ z) pu2
        have fill3 : Fill rs H3 D (metF rs i 0) lo := fill2.same fun o e => b3 _ _ nDa e
        have bH3 := b2.trans b3
        clear fill2 eu2 pu2 tp3 b3
        obtain ⟨ys3, ea3⟩ := s3.lst
        refine ⟨.ref fo, rfl, fo, rfl, ⟨_, eu3.sq⟩, fun C nC => ?_⟩
        have nCa : C ≠ a := (ne_of_none ea3 nC).symm
        refine lc_tup (K := K) (a := fo) (xs := us.map V.ref) (fun j H4 => But a H3 H4 ∧ Src H4 a (n + 17 * i + 1 + j) ∧ ∃ ns : List Int, H4 C = some (.lst (ns.map V.int)) ∧ ns.length = j ∧ ∀ v ∈ ns, b ≤ v ∧ v ≤ b + ro.teeth) ⟨.of (same_upd nC), s3.same (same_upd nC), [], upd_same, rfl, by simp⟩
          (fun j H4 _ hv => hv.1.seqT ea3 eu3.sq) (fun j x H4 hx hv => ?_) (fun H4 hv => ?_)
        · obtain ⟨b4, s4, ns, eC, nl, btw⟩ := hv
          have hj : j < us.length := by
            have := (List.getElem?_eq_some_iff.mp hx).1
            rw [List.length_map] at this
            exact this
          refine ⟨rfl, .int b, rfl, .ref a, rfl, .int ro.teeth, rfl, ro.teeth, 1, rfl, rfl, a, ro.teeth + 1, n + 17 * i + 1 + j, rfl, s4, by omega, by omega, by omega, fun rr H5 r0 r1 hb5 hs5 => ⟨b, rr, rfl, rfl, _, hb5 _ _ nCa eC, by rw [List.length_map, nl]; exact small1000 (by omega), ?_, ?_, ns ++ [b + rr], ?_, ?_, ?_⟩⟩
          · exact (b4.trans hb5).wrNew nC
          · obtain ⟨x1, y1, c1, e, rr⟩ := hs5
            exact ⟨x1, y1, c1, by rw [upd_ne nCa.symm]; exact e, rr.1, rr.2.1, rr.2.2.1, by have := rr.2.2.2; omega⟩
          · rw [upd_same, List.map_append]; rfl
          · rw [List.length_append, nl]; rfl
          · intro v hv
            rcases List.mem_append.mp hv with hv | hv
            · exact btw v hv
            · rw [List.mem_singleton.mp hv]
              exact ⟨by omega, by omega⟩
        · obtain ⟨b4, s4, ns, eC, nl, btw⟩ := hv
          rw [List.length_map, usl] at nl s4
          refine ⟨C, ns, rfl, .inl (.inl eC), by omega, fun ns' p perm pw np => ?_⟩
          have sp5 := same_upd (o := .lst (ns'.map V.int)) np
          have b5 : But a H3 (upd H4 p (.lst (ns'.map V.int))) := b4.trans (.of sp5)
          have s5 := s4.same sp5
          have ep : (upd H4 p (.lst (ns'.map V.int))) p = some (.lst (ns'.map V.int)) := upd_same
          have nl' : ns'.length = ro.feet.length := by rw [perm.length_eq, nl]
          have btw' : ∀ v ∈ ns', b ≤ v ∧ v ≤ b + ro.teeth := fun v hv => btw v (perm.mem_iff.mp hv)
          obtain ⟨ys4, ea4⟩ := s4.lst
          have npa : p ≠ a := (ne_of_none ea4 np).symm
          have np3 : H3 p = none := b4.none npa np
          generalize upd H4 p (.lst (ns'.map V.int)) = H5 at b5 s5 ep ⊢
          refine ⟨fun σ' H' => But a H3 H' ∧ Src H' a (n + 17 * i + 17) ∧ (∃ ms, H' p = some (.lst (ms.map V.int)) ∧ PlOk ro b ms) ∧ σ' = [some (.ref a), some (.ref sp), some (.ref D), some (.str (sortS ro.ring)), some (.int ro.teeth), some (.ref fo), some (.int b), some (.int ro.teeth), some (.ref p), x9, x10, none], ?_, ?_⟩
          · refine ⟨.str (sortS ro.ring), rfl, rfl, _, rfl, ?_⟩
            cases er2 : ro.ring with
            | false =>
              rw [show decide (V.str (sortS false) = V.str "ring") = false by decide +kernel]
              exact iteF (iteF ⟨b5, s5.mono (by omega), ⟨ns', ep, nl', pw, btw', hb, fun z => absurd (er2.symm.trans z) (by decide)⟩, rfl⟩)
            | true =>
              rw [show decide (V.str (sortS true) = V.str "ring") = true by decide +kernel]
              refine iteT ⟨.ref p, rfl, Nat.zero_le _, fun e0 ne0 => ?_⟩
              have se := same_upd (o := .lst []) ne0
              refine ⟨.list (ns'.map PyData.int), .list [], dp_ints (se _ _ ep), .lst (.inl (.inl upd_same)) .nil, (gd_ints (by omega)).shaped (by decide), by decide +kernel, _, rfl, ?_⟩
              rw [eqv_ints]
              have ep6 := se _ _ ep
              have b6 := b5.trans (But.of (a := a) se)
              have s6 := s5.same se
              generalize upd H5 e0 (.lst []) = H6 at ep6 b6 s6 ⊢
              cases hns : ns' with
              | nil =>
                subst hns
                exact iteF ⟨b6, s6.mono (by omega), ⟨[], ep6, nl', pw, btw', hb, fun _ v h => by simp at h⟩, rfl⟩
              | cons v0 vr =>
                refine iteT ⟨.int b, rfl, .ref p, rfl, p, ns'.map V.int, 0, 0, rfl, rfl, ep6, ?_, ?_⟩
                · rw [List.length_map, hns]
                  exact ixN_of (by omega) (by rw [List.length_cons]; omega)
                · have e1 : (ns'.map V.int).set 0 (.int b) = (ns'.set 0 b).map V.int := by rw [hns]; rfl
                  rw [e1]
                  refine ⟨b6.wrNew np3, ?_, ⟨ns'.set 0 b, upd_same, by rw [List.length_set]; exact nl', pw_set pw fun v hv => (btw' v hv).1, fun v hv => ?_, hb, fun _ v hv => ?_⟩, rfl⟩
                  · obtain ⟨x1, y1, c1, e, rr⟩ := s6
                    exact ⟨x1, y1, c1, by rw [upd_ne npa.symm]; exact e, rr.1, rr.2.1, rr.2.2.1, by have := rr.2.2.2; omega⟩
                  · rcases List.mem_or_eq_of_mem_set hv with h | h
                    · exact btw' v h
                    · rw [h]
                      exact ⟨by omega, by omega⟩
                  · rw [hns] at hv
                    exact (Option.some.inj hv).symm
          · rintro σ' H6 ⟨b6, s6, ⟨ms, ep6, pl⟩, rfl⟩
            have ndr : ro.feet.Nodup := by
              have zz := fit.nd
              rw [flat_split hro] at zz
              exact (List.nodup_append.mp (List.nodup_append.mp zz).2.1).1
            obtain ⟨lo', hl1, hl2⟩ := place_fun ro.feet ms lo ndr
            have apart : ∀ x ∈ metF rs i 0, x ∉ ro.feet := fun x hx hx2 => by
              rw [met_zero] at hx
              have zz := fit.nd
              rw [flat_split hro] at zz
              exact (List.nodup_append.mp zz).2.2 x hx x (List.mem_append_left _ hx2) rfl
            have fill6 : Fill rs H6 D (metF rs i 0) lo' := (fill3.same fun o e => b6 _ _ nDa e).congr fun x hx => (hl2 x (apart x hx)).symm
            have tp6 := b6.tp ea3
            have eu6 := eu3.tp tp6
            have pu6 : Paired (TupF H6) us ro.feet := Paired.mono (fun _ _ z => tp6 _ _ z) pu3
            obtain ⟨kv6, eD6, _⟩ := fill6.ex
            have pD : p ≠ D := ne_of ep6 eD6 (by intro z; cases z)
            have aD : a ≠ D := nDa.symm
            have msl : (us.map V.ref).length = (ms.map V.int).length := by rw [List.length_map, List.length_map, usl, pl.len]
            refine ⟨.ref fo, rfl, .ref p, rfl, fo, p, _, _, rfl, eu6.sq, .inl (.inl ep6), ?_⟩
            refine for_zipM (K := K) (a := fo) (b := p) msl (fun j σ H7 => (∀ c o, c ≠ D → H6 c = some o → H7 c = some o) ∧ Fill rs H7 D (metF rs i j) lo' ∧ ∃ y9 y10 : Option V, σ = [some (.ref a), some (.ref sp), some (.ref D), some (.str (sortS ro.ring)), some (.int ro.teeth), some (.ref fo), some (.int b), some (.int ro.teeth), some (.ref p), y9, y10, none])
              ⟨fun _ _ _ e => e, fill6, x9, x10, rfl⟩ (fun j σ H7 _ hv => ?_) (fun j x y σ H7 T1 hx hy hv nT1 => ?_) (fun σ H7 hv => ?_)
            · obtain ⟨o, od, eo⟩ := eu6
              exact ⟨.inl (.inr ⟨o, hv.1 _ _ (ne_of eo eD6 (by intro z; cases z)) eo⟩), .inl (.inl (hv.1 _ _ pD ep6))⟩
            · obtain ⟨keep, fill7, y9, y10, rfl⟩ := hv
              obtain ⟨u, hu, rfl⟩ : ∃ u, us[j]? = some u ∧ x = .ref u := by
                rw [List.getElem?_map] at hx
                cases e : us[j]? with
                | none => rw [e] at hx; cases hx
                | some u => rw [e] at hx; exact ⟨u, rfl, (Option.some.inj hx).symm⟩
              obtain ⟨k, hk, rfl⟩ : ∃ k, ms[j]? = some k ∧ y = .int k := by
                rw [List.getElem?_map] at hy
                cases e : ms[j]? with
                | none => rw [e] at hy; cases hy
                | some u => rw [e] at hy; exact ⟨u, rfl, (Option.some.inj hy).symm⟩
              obtain ⟨x, hx2, tx⟩ := paired_get pu6 hu
              have lx : lo' x = k := by rw [hl1 j x hx2, List.getD_eq_getElem?_getD, hk]; rfl
              have s1T := same_upd (o := .tup [.ref u, .int k]) nT1
              have tx7 : H7 u = some (.tup [.int x.1, .int x.2]) := keep _ _ (ne_of tx eD6 (by intro z; cases z)) tx
              have memx : x ∈ ro.feet := List.mem_of_getElem? hx2
              have fx : FootIn 8 x := (fit.foot ro mem x memx).mono fit.zips
              have nodupF : (metF rs i (j + 1)).Nodup := (met_sub hro).nodup fit.nd
              rw [met_next hro hx2] at nodupF
              have notIn : x ∉ metF rs i j := fun hm => (List.nodup_append.mp nodupF).2.2 x hm x (List.mem_singleton.mpr rfl) rfl
              obtain ⟨H8, put, fill8, o8, e8⟩ := fill7.put (t := u) (fun o e => s1T _ _ e) (Nat.le_trans (met_sub (j := j) hro).length_le f16) (s1T _ _ tx7) fx notIn
              rw [lx] at put
              refine ⟨T1, _, rfl, .inl (.inl upd_same), rfl, .ref u, [.int k], rfl, .int k, [], rfl, rfl, ?_⟩
              refine ⟨.int k, rfl, .ref D, rfl, .ref u, rfl, D, H8, rfl, put, fun c o nc e => ?_, ?_, _, _, rfl⟩
              · rw [e8, upd_ne nc]
                exact s1T _ _ (keep c o nc e)
              · rw [met_next hro hx2]
                exact fill8
            · obtain ⟨keep, fill7, y9, y10, rfl⟩ := hv
              rw [List.length_map, usl, met_full hro] at fill7
              have b67 : But a H H7 := fun c o nc e => by
                have h6 := (bH3.trans b6) c o nc e
                exact keep c o (ne_of_none e nD) h6
              refine ⟨b67, ?_, ⟨lo', fill7, fun i' ro' hlt hro' => ?_⟩, _, _, _, _, _, _, _, _, rfl⟩
              · obtain ⟨x1, y1, c1, e, rr⟩ := s6
                exact ⟨x1, y1, c1, keep _ _ aD e, rr.1, rr.2.1, rr.2.2.1, by have := rr.2.2.2; omega⟩
              · by_cases e : i' = i
                · subst e
                  obtain rfl := Option.some.inj (hro.symm.trans hro')
                  exact pl.row hl1
                · refine (rows i' ro' (by omega) hro').shift (b := 0) (fun x hx => ?_) fun _ => rfl
                  have nx : x ∉ ro.feet := fun hx2 => by
                    obtain ⟨j1, hj1, e1⟩ := List.getElem_of_mem hx
                    obtain ⟨j2, hj2, e2⟩ := List.getElem_of_mem hx2
                    exact e (feet_place fit.nd hro' (show ro'.feet[j1]? = some x by rw [List.getElem?_eq_getElem hj1, e1]) hro (show ro.feet[j2]? = some x by rw [List.getElem?_eq_getElem hj2, e2])).1
                  rw [hl2 x nx]
                  omega
    · obtain ⟨b1, s1, ⟨lo, fill, rows⟩, x3, x4, x5, x6, x7, x8, x9, x10, rfl⟩ := hv
      have eF : metF rs (ts.map V.ref).length 0 = rs.flatMap (·.feet) := by
        rw [met_zero, List.length_map, pr.length, List.take_length]
      rw [eF] at fill
      rw [List.length_map, pr.length] at s1 rows
      intro L nL
      have sL := same_upd (o := .dK []) nL
      have bL := b1.trans (But.of (a := a) sL)
      have esp1 := bL.tp ea _ _ esp
      have zq : ∃ tz, H z = some (.tup (tz.map V.ref)) ∧ Paired (TupZ H) tz zs := hzs
      obtain ⟨tz, ez, pz⟩ := zq
      have ez1 := bL.tp ea _ _ ez
      have eL1 : (upd H1 L (.dK [])) L = some (.dK []) := upd_same
      have fillL : Fill rs (upd H1 L (.dK [])) D (rs.flatMap (·.feet)) lo := fill.same fun o e => sL _ _ e
      have sLs := s1.same sL
      obtain ⟨ys1, ea1⟩ := s1.lst
      have nLa : L ≠ a := (ne_of_none ea1 nL).symm
      have nLH : H L = none := b1.none nLa nL
      generalize upd H1 L (.dK []) = H2 at bL esp1 ez1 eL1 fillL sLs ⊢
      refine ⟨.ref sp, rfl, sp, _, 0, .ref r, rfl, rfl, .inl (.inl esp1), atI_nat (j := 0) rfl, .ref sp, rfl, sp, _, 1, .ref z, rfl, rfl, .inl (.inl esp1), atI_nat (j := 1) rfl, .ref D, rfl, ?_⟩
      refine ⟨.ref sp, rfl, sp, _, 1, .ref z, rfl, rfl, .inl (.inl esp1), atI_nat (j := 1) rfl, z, rfl, ⟨_, .inl (.inl ez1)⟩, fun C nC => ?_⟩
      have zs8 := fit.zips
      refine lc_tup (K := K) (a := z) (xs := tz.map V.ref) (fun j H3 => Same H2 H3 ∧ H3 C = some (.lst (manyL j Zm))) ⟨same_upd nC, upd_same⟩ (fun j H3 _ hv => .inl (.inl (hv.1 _ _ ez1))) (fun j x H3 hx hv => ?_) (fun H3 hv => ?_)
      · obtain ⟨s3, eC⟩ := hv
        have hj : j < tz.length := by
          have := (List.getElem?_eq_some_iff.mp hx).1
          rw [List.length_map] at this
          exact this
        rw [pz.length] at hj
        refine ⟨rfl, _, eC, by rw [manyL_len]; exact small1000 (by omega), fun c o e => ?_, ?_⟩
        · rw [upd_ne (ne_of_none e nC)]
          exact s3 _ _ e
        · rw [upd_same]
          unfold manyL
          rw [List.range_succ, List.map_append]
          rfl
      · obtain ⟨s3, eC⟩ := hv
        rw [List.length_map, pz.length] at eC
        have eL3 := s3 _ _ eL1
        refine ⟨eL3, [(Sum.inr "rows", .ref r), (Sum.inr "zips", .ref z), (Sum.inr "lows", .ref D), (Sum.inr "many", .ref C)], rfl, by show 4 ≤ 15; decide, ?_⟩
        have nCa : C ≠ a := by
          obtain ⟨y, e⟩ := sLs.lst
          exact (ne_of_none e nC).symm
        have nCH : H C = none := bL.none nCa nC
        have bF : But a H (upd H3 L (.dK (layK r z D C))) := (bL.trans (.of s3)).wrNew nLH
        refine q L D C _ lo bF ?_ nLH nD nCH ⟨upd_same, ?_, ?_⟩ fun ro hro => ?_
        · obtain ⟨x1, y1, c1, e, rr⟩ := sLs.same s3
          exact ⟨x1, y1, c1, by rw [upd_ne nLa.symm]; exact e, rr.1, rr.2.1, rr.2.2.1, by have := rr.2.2.2; omega⟩
        · obtain ⟨kvs, a1, a2, a3, a4⟩ := fillL.ex
          have nDL : D ≠ L := ne_of a1 eL1 (by intro z; cases z)
          refine ⟨kvs, by rw [upd_ne nDL]; exact s3 _ _ a1, by omega, a3, fun x hx => a4 x ?_⟩
          obtain ⟨i, ro, j, h1, h2⟩ := fit.all x hx
          exact List.mem_flatMap.mpr ⟨ro, List.mem_of_getElem? h1, List.mem_of_getElem? h2⟩
        · rw [upd_ne (ne_of eC eL3 (by intro z; cases z))]
          exact eC
        · obtain ⟨i, hil, hie⟩ := List.getElem_of_mem hro
          exact rows i ro hil (by rw [List.getElem?_eq_getElem hil, hie])
theorem cal_ol {f : Addr} {fd : FuncData} (T : Bl mg) (F : Fun K "_law_open_layout" "_law_open_layout" sOL f fd) (cDraw : Cal P w K mg base CX0 1 "_law_draw" ["_law_source_here", "_law_often"] spDraw) (g : mg "_law_open_layout" = some (.ref f)) : Cal P w K mg base CX0 2 "_law_open_layout" ["_law_source_here", "_law_spec"] spOL :=
  ⟨f, fd, g, F.kp, F.binds (ps := ["_law_source_here", "_law_spec"]) fun _ _ _ _ _ _ us hl => match us, hl with | [_, _], _ => rfl, ok_ol T F cDraw⟩
end
end Zs
namespace Zs
open PySem PySem.Spec PyProof.Rows L2
abbrev sSt : Stmt := topS 48
theorem scSt : FnScope ["_law_layout", "_law_lows", "_law_found", "_law_sort", "_law_teeth", "_law_feet", "_law_back", "_law_foot", "_law_number", "_law_many"] ["_law_layout"] (defScope sSt) := ⟨rfl, rfl, rfl, by decide +kernel, rfl, by decide +kernel, by decide +kernel⟩
theorem eqv_feet (xs : List Foot) : PyData.eqv (.tuple (xs.map footD)) (.tuple []) = xs.isEmpty := by
  cases xs <;> simp [PyData.eqv, PyData.eqvAll]
/-- the rows' places, each row moved as a whole -/
def Moved (ro : Row) (lo lo' : Foot → Int) : Prop := ∃ b : Int, (∀ x ∈ ro.feet, lo' x = lo x - b) ∧ (ro.ring = false → b = 0) ∧ (ro.ring = true → ∀ x, ro.feet[0]? = some x → 0 ≤ lo' x ∧ lo' x < ro.teeth)
theorem div_norm {v t : Int} (h : 1 ≤ t) : 0 ≤ v - v / t * t ∧ v - v / t * t < t := by
  have h1 := Int.emod_add_mul_ediv v t
  have h2 := Int.emod_nonneg v (show t ≠ 0 by omega)
  have h3 := Int.emod_lt_of_pos v (show 0 < t by omega)
  rw [Int.mul_comm] at h1
  omega
section
variable {P : Program} {w : World} {K : PySem.W.Frag} {mg : Str → Option Value} {base : Heap}
def spSt (K : PySem.W.Frag) : Sp := fun vs H Q _ => ∃ (L r z d m : Addr) (n : Nat) (lo : Foot → Int) (mn : Int → Int) (rs : List Row), vs = [.ref L] ∧ Lay H L r z d m n lo mn ∧ TupRs H r rs ∧ RowsFit n rs ∧
  ∀ (p : Addr) (H' : Hp) (lo' : Foot → Int), Same H H' → (∀ ro ∈ rs, Moved ro lo lo') → TupPs K H' p (psOf n lo' mn) → Q (.ref p) H'
set_option maxHeartbeats 1600000 in
theorem ok_st {f : Addr} {fd : FuncData} (T : Bl mg) (F : Fun K "_law_state" "_law_state" sSt f fd) : FnOk P w K mg base CX0 1 f fd ["_law_layout"] (spSt K) := by
  refine F.ok scSt (fun vs H Q E h => ?_) (fun cdv A outer s H vs Q E hr h => ?_)
  · obtain ⟨L, r, z, d, m, n, lo, mn, rs, rfl, _⟩ := h
    rfl
  · obtain ⟨L, r, z, d, m, n, lo, mn, rs, rfl, lay, hrs, fit, q⟩ := h
    refine ⟨_, (pss_cons (ps_par (i := 1) (j := 2) rfl scSt.nd rfl rfl (by decide) rfl rfl (pa_cons (pe_callTy (call_dictT (hu2 hr)) (by rfl) T.dict_ (by decide +kernel) (pa_cons (pe_dget (hu_of hr) (pv 0) pe_str (fun _ _ => rfl)) pa_nil)) (pa_cons (pe_lst pa_nil) pa_nil)) rfl)
      (pss_cons (ps_for PassesOwn.never rfl (pi_tup (pe_dget (hu_of hr) (pv 0) pe_str (fun _ _ => rfl))) (pg_tup rfl (pgs_cons (pg_name (i := 3) scSt.nd rfl (Or.inl rfl)) (pgs_cons (pg_name (i := 4) scSt.nd rfl (Or.inl rfl)) (pgs_cons (pg_name (i := 5) scSt.nd rfl (Or.inl rfl)) pgs_nil))))
        (pss_one (ps_if (pw_and (pt_cmpR op_eq (pv 3) pe_str (nomark _)) (pw_and1 (pt_cmpR (op_neD (u64 hr)) (pv 5) (pe_tup pa_nil) (nomark _)))).pt
          (pss_cons (ps_set (i := 6) scSt.nd rfl (Or.inl rfl) (pe_op op_mul (pe_op op_fdiv (pe_dget (hu_of hr) (pv 1) (pe_ix ix_tup (pv 5) pe_int (fun _ _ => rfl)) (fun _ _ => rfl)) (pv 4)) (pv 4)))
          (pss_one (ps_for PassesOwn.never rfl (pi_tup (pv 5)) (pg_name (i := 7) scSt.nd rfl (Or.inl rfl))
            (pss_one (ps_dput (hu_of hr) (pv 1) (pv 7) (pe_op op_sub (pe_dget (hu_of hr) (pv 1) (pv 7) (fun _ _ => rfl)) (pv 6)) rfl)))))
          pss_nil)))
      (pss_cons (ps_for PassesOwn.never rfl (pi_enum (by rfl) T.enumerate_ (pa_cons (pe_dget (hu_of hr) (pv 0) pe_str (fun _ _ => rfl)) pa_nil)) (pg_tup rfl (pgs_cons (pg_name (i := 8) scSt.nd rfl (Or.inl rfl)) (pgs_cons (pg_name (i := 9) scSt.nd rfl (Or.inl rfl)) pgs_nil)))
        (pss_one (ps_expr (pe_bm PySem.F.plainAttrs_list PySem.F.slot_list_append PySem.F.type_list_append mt_append (pv 2) (pa_cons (pe_tup (pa_cons (pe_dget (hu_of hr) (pv 1) (pe_tup (pa_cons (pv 8) (pa_cons pe_int pa_nil))) (fun _ _ => rfl)) (pa_cons (pe_dget (hu_of hr) (pv 1) (pe_tup (pa_cons (pv 8) (pa_cons pe_int pa_nil))) (fun _ _ => rfl)) (pa_cons (pv 9) pa_nil)))) pa_nil)))))
      (pss_one (ps_ret (pe_callTy call_tuple_of (by rfl) T.tuple_ (by decide +kernel) (pa_cons (pv 2) pa_nil))))))), ?_⟩
    obtain ⟨kvs, ed, l16, keys, vals⟩ := id lay.lows
    refine ⟨.ref L, rfl, L, .ref d, rfl, lay.dLows, d, kvs, rfl, ed, keys, fun d2 nd2 => ?_⟩
    refine ⟨Nat.zero_le _, fun fl nfl => ?_⟩
    refine ⟨.ref d2, .ref fl, rfl, ?_⟩
    have sm0 : Same H (upd (upd H d2 (.dT kvs)) fl (.lst [])) := (same_upd nd2).trans (same_upd nfl)
    have ed2 : (upd (upd H d2 (.dT kvs)) fl (.lst [])) d2 = some (.dT kvs) := same_upd nfl _ _ upd_same
    have efl : (upd (upd H d2 (.dT kvs)) fl (.lst [])) fl = some (.lst []) := upd_same
    have nflH : H fl = none := by
      cases hh : H fl with
      | none => rfl
      | some o => rw [same_upd nd2 _ _ hh] at nfl; cases nfl
    have d2fl : d2 ≠ fl := ne_of ed2 efl (by intro z; cases z)
    generalize upd (upd H d2 (.dT kvs)) fl (.lst []) = H0 at sm0 ed2 efl ⊢
    have lw0 : Lows H0 d2 n lo := ⟨kvs, ed2, l16, keys, vals⟩
    obtain ⟨ts, er, pr⟩ := id hrs
    have rq : SqT K H r (ts.map V.ref) := .inl (.inl er)
    refine ⟨.ref L, rfl, L, .ref r, rfl, (lay.same sm0).dRows, r, rfl, ⟨_, same_seqT sm0 rq⟩, ?_⟩
    refine for_tup (K := K) (xs := ts.map V.ref) (fun i σ H1 => Same H H1 ∧ H1 fl = some (.lst []) ∧ (∃ lo1, Lows H1 d2 n lo1 ∧ (∀ (i' : Nat) (ro : Row), i' < i → rs[i']? = some ro → Moved ro lo lo1) ∧ ∀ (i' : Nat) (ro : Row), i ≤ i' → rs[i']? = some ro → ∀ x ∈ ro.feet, lo1 x = lo x) ∧
      ∃ x3 x4 x5 x6 x7 : Option V, σ = [some (.ref L), some (.ref d2), some (.ref fl), x3, x4, x5, x6, x7, none, none]) ⟨sm0, efl, ⟨lo, lw0, fun i' ro h => by omega, fun _ _ _ _ _ _ => rfl⟩, none, none, none, none, none, rfl⟩
      (fun i σ H1 _ hv => same_seqT hv.1 rq) (fun i v σ H1 hv0 hv => ?_) (fun σ H1 hv => ?_)
    · obtain ⟨sm, efl1, ⟨lo1, lw, done, todo⟩, x3, x4, x5, x6, x7, rfl⟩ := hv
      obtain ⟨t, ht, rfl⟩ : ∃ t, ts[i]? = some t ∧ v = .ref t := by
        rw [List.getElem?_map] at hv0
        cases e : ts[i]? with
        | none => rw [e] at hv0; cases hv0
        | some t => rw [e] at hv0; exact ⟨t, rfl, (Option.some.inj hv0).symm⟩
      obtain ⟨ro, hro, htr⟩ := paired_get pr ht
      have mem := List.mem_of_getElem? hro
      have te := fit.teeth ro mem
      have fl16 := fit.flen ro mem
      obtain ⟨fo, et, us, eu, pu⟩ := htr.tp (.of sm)
      have usl : us.length = ro.feet.length := pu.length
      have other : ∀ (i' : Nat) (ro' : Row), i' ≠ i → rs[i']? = some ro' → ∀ x ∈ ro'.feet, x ∉ ro.feet := fun i' ro' ne hro' x hx hx2 => by
        obtain ⟨j1, hj1, e1⟩ := List.getElem_of_mem hx
        obtain ⟨j2, hj2, e2⟩ := List.getElem_of_mem hx2
        exact ne (feet_place fit.nd hro' (show ro'.feet[j1]? = some x by rw [List.getElem?_eq_getElem hj1, e1]) hro (show ro.feet[j2]? = some x by rw [List.getElem?_eq_getElem hj2, e2])).1
      refine ⟨t, _, rfl, .inl (.inl et), rfl, .str (sortS ro.ring), _, rfl, .int ro.teeth, _, rfl, .ref fo, [], rfl, rfl, ?_⟩
      -- what stays as it is
      have stay : (ro.ring = false ∨ ro.feet = []) → (∀ (i' : Nat) (ro : Row), i' < i + 1 → rs[i']? = some ro → Moved ro lo lo1) ∧ ∀ (i' : Nat) (ro : Row), i + 1 ≤ i' → rs[i']? = some ro → ∀ x ∈ ro.feet, lo1 x = lo x := fun hc => by
        refine ⟨fun i' ro' hlt hro' => ?_, fun i' ro' hle hro' => todo i' ro' (by omega) hro'⟩
        by_cases e : i' = i
        · subst e
          obtain rfl := Option.some.inj (hro.symm.trans hro')
          refine ⟨0, fun x hx => by rw [todo _ _ (Nat.le_refl _) hro x hx]; omega, fun _ => rfl, fun er2 x hx => ?_⟩
          rcases hc with h | h
          · rw [h] at er2; cases er2
          · rw [h] at hx; cases hx
        · exact done i' ro' (by omega) hro'
      refine ⟨.str (sortS ro.ring), rfl, rfl, _, rfl, ?_⟩
      cases er2 : ro.ring with
      | false =>
        rw [show decide (V.str (sortS false) = V.str "ring") = false by decide +kernel]
        obtain ⟨k1, k2⟩ := stay (.inl er2)
        exact iteF (iteF ⟨sm, efl1, ⟨lo1, lw, k1, k2⟩, _, _, _, _, _, rfl⟩)
      | true =>
        rw [show decide (V.str (sortS true) = V.str "ring") = true by decide +kernel]
        refine iteT ⟨.ref fo, rfl, Nat.zero_le _, fun z0 nz0 => ?_⟩
        have sz := same_upd (o := .tup []) nz0
        have sm2 := sm.trans sz
        refine ⟨.tuple (ro.feet.map footD), .tuple [], dp_feet ⟨us, eu.tp (.of sz), Paired.mono (fun _ _ y => sz _ _ y) pu⟩, .tup (.inl (.inl upd_same)) .nil, (gd_feet fl16).shaped (by decide), by decide +kernel, _, rfl, ?_⟩
        rw [eqv_feet]
        have lw2 := lw.same sz
        have efl2 := sz _ _ efl1
        have eu2 := eu.tp (.of sz)
        have pu2 : Paired (TupF (upd H1 z0 (.tup []))) us ro.feet := Paired.mono (fun _ _ y => sz _ _ y) pu
        generalize upd H1 z0 (.tup []) = H2 at sm2 lw2 efl2 eu2 pu2 ⊢
        cases ef : ro.feet with
        | nil =>
          obtain ⟨k1, k2⟩ := stay (.inr ef)
          exact iteF ⟨sm2, efl2, ⟨lo1, lw2, k1, k2⟩, _, _, _, _, _, rfl⟩
        | cons f0 frest =>
          refine iteT ?_
          have h0 : ro.feet[0]? = some f0 := by rw [ef]; rfl
          have hul : 0 < us.length := by rw [usl, ef, List.length_cons]; omega
          have u0 : us[0]? = some us[0] := List.getElem?_eq_getElem hul
          obtain ⟨f0', hf0', tf0⟩ := paired_get pu2 u0
          obtain rfl := Option.some.inj (hf0'.symm.trans h0)
          have fin : ∀ x ∈ ro.feet, FootIn n x := fit.foot ro mem
          have lowOf : ∀ {H' : Hp} {lo'' : Foot → Int} {u : Addr} {x : Foot}, Lows H' d2 n lo'' → TupF H' u x → FootIn n x → DGet H' d2 (.ref u) (some (.int (lo'' x))) := fun {H' lo'' u x} hL hu hx => by
            obtain ⟨kv, a1, _, _, a4⟩ := hL
            have e := DGet.t (k := keyF x) a1 (show H' u = some (.tup ((keyF x).map kV)) from hu)
            rw [a4 x hx] at e
            exact e
          obtain ⟨back, hback⟩ : ∃ b : Int, lo1 f0' / ro.teeth * ro.teeth = b := ⟨_, rfl⟩
          refine ⟨.ref d2, rfl, .ref fo, rfl, fo, _, 0, .ref us[0], rfl, rfl, eu2.sq, atI_nat (by rw [List.getElem?_map, u0]; rfl), d2, _, rfl, lowOf lw2 tf0 (fin _ (List.mem_of_getElem? h0)), .int ro.teeth, rfl, _, _, rfl, rfl, ⟨by omega, by omega⟩, .int ro.teeth, rfl, _, _, rfl, rfl, .inr ⟨by omega, by omega⟩, ?_⟩
          show gName 6 (V.int (lo1 f0' / ro.teeth * ro.teeth)) _ _ _
          rw [hback]
          refine ⟨.ref fo, rfl, fo, rfl, ⟨_, eu2.sq⟩, ?_⟩
          refine for_tup (K := K) (xs := us.map V.ref) (fun j σ H3 => Same H H3 ∧ H3 fl = some (.lst []) ∧ Lows H3 d2 n (fun y => if y ∈ ro.feet.take j then lo1 y - back else lo1 y) ∧ FzT H3 fo (us.map V.ref) ∧ Paired (TupF H3) us ro.feet ∧
            ∃ x7 : Option V, σ = [some (.ref L), some (.ref d2), some (.ref fl), some (.str (sortS true)), some (.int ro.teeth), some (.ref fo), some (.int back), x7, none, none]) ⟨sm2, efl2, lw2.ext fun x _ => by rw [List.take_zero, if_neg (by simp)], eu2, pu2, x7, rfl⟩
            (fun j σ H3 _ hv => FzT.sq hv.2.2.2.1) (fun j v σ H3 hv0 hv => ?_) (fun σ H3 hv => ?_)
          · obtain ⟨sm3, efl3, lw3, eu3, pu3, y7, rfl⟩ := hv
            obtain ⟨u, hu, rfl⟩ : ∃ u, us[j]? = some u ∧ v = .ref u := by
              rw [List.getElem?_map] at hv0
              cases e : us[j]? with
              | none => rw [e] at hv0; cases hv0
              | some u => rw [e] at hv0; exact ⟨u, rfl, (Option.some.inj hv0).symm⟩
            obtain ⟨x, hx, tx⟩ := paired_get pu3 hu
            have fx := fin x (List.mem_of_getElem? hx)
            have ndr : ro.feet.Nodup := by
              have zz := fit.nd
              rw [flat_split hro] at zz
              exact (List.nodup_append.mp (List.nodup_append.mp zz).2.1).1
            have notIn : x ∉ ro.feet.take j := fun hm => by
              obtain ⟨k, hk, e⟩ := List.getElem_of_mem hm
              rw [List.length_take] at hk
              have e2 : ro.feet[k]? = some x := by
                rw [List.getElem_take] at e
                rw [List.getElem?_eq_getElem (by omega), e]
              have := nd_ix ndr e2 hx
              omega
            obtain ⟨H4, put, lw4, keep4⟩ := lw3.put (v := lo1 x - back) (.refl H3) fx fit.zips tx
            obtain ⟨kv3, ed3, _⟩ := id lw3
            have dg := lowOf lw3 tx fx
            try dsimp only at dg
            rw [if_neg notIn] at dg
            refine ⟨.ref d2, rfl, .ref u, rfl, d2, .int (lo1 x), rfl, dg, .int back, rfl, _, _, rfl, rfl, .ref d2, rfl, .ref u, rfl, d2, H4, rfl, put, fun b o e => ?_, keep4 _ _ d2fl.symm efl3, lw4.ext fun y hy => ?_, ?_, ?_, _, rfl⟩
            · exact keep4 b o (ne_of_none e nd2) (sm3 _ _ e)
            · unfold setLo
              try dsimp only
              rw [take_succ_of hx]
              by_cases ey : y = x
              · subst ey
                rw [if_pos rfl, if_pos (List.mem_append_right _ (List.mem_singleton.mpr rfl))]
              · rw [if_neg ey]
                by_cases hm : y ∈ ro.feet.take j
                · rw [if_pos hm, if_pos (List.mem_append_left _ hm)]
                · rw [if_neg hm, if_neg fun h => by
                    rcases List.mem_append.mp h with h | h
                    · exact hm h
                    · exact ey (List.mem_singleton.mp h)]
            · obtain ⟨o, od, eo⟩ := eu3
              exact ⟨o, od, keep4 _ _ (ne_of eo ed3 (by intro z; cases z)) eo⟩
            · exact Paired.mono (fun _ _ z => keep4 _ _ (ne_of z ed3 (by intro z; cases z)) z) pu3
          · obtain ⟨sm3, efl3, lw3, eu3, pu3, y7, rfl⟩ := hv
            rw [List.length_map, usl, List.take_length] at lw3
            refine ⟨sm3, efl3, ⟨_, lw3, fun i' ro' hlt hro' => ?_, fun i' ro' hle hro' x hx => ?_⟩, _, _, _, _, _, rfl⟩
            · by_cases e : i' = i
              · subst e
                obtain rfl := Option.some.inj (hro.symm.trans hro')
                refine ⟨back, fun x hx => ?_, fun h => absurd (er2.symm.trans h) (by decide), fun _ x hx => ?_⟩
                · try dsimp only
                  rw [if_pos hx, todo _ _ (Nat.le_refl _) hro x hx]
                · obtain rfl := Option.some.inj (h0.symm.trans hx)
                  try dsimp only
                  rw [if_pos (List.mem_of_getElem? h0), ← hback]
                  exact div_norm te.1
              · obtain ⟨b, a1, a2, a3⟩ := done i' ro' (by omega) hro'
                have same : ∀ x ∈ ro'.feet, (if x ∈ ro.feet then lo1 x - back else lo1 x) = lo1 x := fun x hx => if_neg (other i' ro' e hro' x hx)
                refine ⟨b, fun x hx => ?_, a2, fun h x hx => ?_⟩
                · try dsimp only
                  rw [same x hx]
                  exact a1 x hx
                · try dsimp only
                  rw [same x (List.mem_of_getElem? hx)]
                  exact a3 h x hx
            · try dsimp only
              rw [if_neg (other i' ro' (by omega) hro' x hx)]
              exact todo i' ro' (by omega) hro' x hx
    · obtain ⟨sm, efl1, ⟨lo1, lw, done, todo⟩, x3, x4, x5, x6, x7, rfl⟩ := hv
      rw [List.length_map, pr.length] at done
      have all : ∀ ro ∈ rs, Moved ro lo lo1 := fun ro hro => by
        obtain ⟨i, hil, hie⟩ := List.getElem_of_mem hro
        exact done i ro hil (by rw [List.getElem?_eq_getElem hil, hie])
      have lay1 := lay.same sm
      have n8 := fit.zips
      have nflL : fl ≠ m := fun e => by rw [e, lay.many] at nflH; cases nflH
      refine ⟨.ref L, rfl, L, .ref m, rfl, lay1.dMany, m, _, rfl, .inl (.inl lay1.many), ?_⟩
      refine for_it (walk_enum (K := K) (a := m) (xs := manyL n mn)) (fun i σ H2 => Same H H2 ∧ Lows H2 d2 n lo1 ∧ (∃ tl : List Addr, H2 fl = some (.lst (tl.map V.ref)) ∧ Paired (fun t (p : P3) => H2 t = some (.tup [.int p.1, .int p.2.1, .int p.2.2])) tl ((psOf n lo1 mn).take i)) ∧
        ∃ x3 x4 x5 x6 x7 x8 x9 : Option V, σ = [some (.ref L), some (.ref d2), some (.ref fl), x3, x4, x5, x6, x7, x8, x9]) ⟨sm, lw, ⟨[], efl1, by rw [List.take_zero]; exact .nil⟩, _, _, _, _, _, _, _, rfl⟩ (fun i σ H2 _ hv => .inl (.inl (hv.1 _ _ lay.many))) (fun i x σ H2 H3 hi hv hy => ?_) (fun σ H2 hv => ?_)
      · obtain ⟨sm2, lw2, ⟨tl, efl2, prl⟩, y3, y4, y5, y6, y7, y8, y9, rfl⟩ := hv
        obtain ⟨T0, k, v, rfl, nT, rfl, hk, hv⟩ := hy
        rw [manyL_len] at hi
        obtain rfl := Option.some.inj hk
        have ev : v = .int (mn (i : Nat)) := by
          have h1 : (manyL n mn)[i]? = some v := hv
          unfold manyL at h1
          rw [List.getElem?_map, List.getElem?_range hi] at h1
          exact (Option.some.inj h1).symm
        subst ev
        have fa : FootIn n ((i : Nat), 0) := ⟨⟨by show (0 : Int) ≤ (i : Nat); omega, by show ((i : Nat) : Int) < n; omega⟩, .inl rfl⟩
        have fb : FootIn n ((i : Nat), 1) := ⟨⟨by show (0 : Int) ≤ (i : Nat); omega, by show ((i : Nat) : Int) < n; omega⟩, .inr rfl⟩
        have lowOf : ∀ {H' : Hp} {lo'' : Foot → Int} {u : Addr} {x : Foot}, Lows H' d2 n lo'' → TupF H' u x → FootIn n x → DGet H' d2 (.ref u) (some (.int (lo'' x))) := fun {H' lo'' u x} hL hu hx => by
          obtain ⟨kv, a1, _, _, a4⟩ := hL
          have e := DGet.t (k := keyF x) a1 (show H' u = some (.tup ((keyF x).map kV)) from hu)
          rw [a4 x hx] at e
          exact e
        have sT := same_upd (o := .tup [.int (i : Nat), .int (mn (i : Nat))]) nT
        refine ⟨T0, _, rfl, .inl (.inl upd_same), rfl, .int (i : Nat), [.int (mn (i : Nat))], rfl, .int (mn (i : Nat)), [], rfl, rfl, ?_⟩
        have lw3 := lw2.same sT
        have efl3 := sT _ _ efl2
        have sm3 := sm2.trans sT
        have prl3 : Paired (fun t (p : P3) => (upd H2 T0 (.tup [.int (i : Nat), .int (mn (i : Nat))])) t = some (.tup [.int p.1, .int p.2.1, .int p.2.2])) tl ((psOf n lo1 mn).take i) := Paired.mono (fun _ _ y => sT _ _ y) prl
        generalize upd H2 T0 (.tup [.int (i : Nat), .int (mn (i : Nat))]) = H3 at lw3 efl3 sm3 prl3 ⊢
        refine ⟨.ref fl, rfl, .inl ⟨rfl, _, .inl (.inl efl3)⟩, .ref d2, rfl, .int (i : Nat), rfl, by show 2 ≤ sizeLine; decide, fun k1 nk1 => ?_⟩
        have sk1 := same_upd (o := .tup [.int (i : Nat), .int 0]) nk1
        refine ⟨d2, _, rfl, lowOf (lw3.same sk1) (x := ((i : Nat), 0)) upd_same fa, .ref d2, rfl, .int (i : Nat), rfl, by show 2 ≤ sizeLine; decide, fun k2 nk2 => ?_⟩
        have sk2 := same_upd (o := .tup [.int (i : Nat), .int 1]) nk2
        have s13 := sk1.trans sk2
        refine ⟨d2, _, rfl, lowOf (lw3.same s13) (x := ((i : Nat), 1)) upd_same fb, .int (mn (i : Nat)), rfl, by show 3 ≤ sizeLine; decide, fun k3 nk3 => ?_⟩
        have sk3 := same_upd (o := .tup [.int (lo1 ((i : Nat), 0)), .int (lo1 ((i : Nat), 1)), .int (mn (i : Nat))]) nk3
        have s14 := s13.trans sk3
        have efl4 := s14 _ _ efl3
        have tll : tl.length ≤ n := by
          rw [prl.length, List.length_take, psOf_len]
          omega
        have tpw := Tp.wr (o := .lst (tl.map V.ref ++ [.ref k3])) efl4
        refine ⟨fl, _, _, rfl, rfl, efl4, by rw [List.length_map]; exact small1000 (by omega), fun b o e => ?_, ?_, ⟨tl ++ [k3], by rw [upd_same, List.map_append]; rfl, ?_⟩, _, _, _, _, _, _, _, rfl⟩
        · rw [upd_ne (ne_of_none e nflH)]
          exact s14 _ _ (sm3 _ _ e)
        · obtain ⟨kv, a1, a2⟩ := lw3
          exact ⟨kv, by rw [upd_ne d2fl]; exact s14 _ _ a1, a2⟩
        · have hp : (psOf n lo1 mn)[i]? = some (lo1 ((i : Nat), 0), lo1 ((i : Nat), 1), mn (i : Nat)) := by
            unfold psOf
            rw [List.getElem?_map, List.getElem?_range hi]
            rfl
          rw [take_succ_of hp]
          exact (Paired.mono (fun _ _ y => tpw _ _ (s14 _ _ y)) prl3).snoc (tpw _ _ upd_same)
      · obtain ⟨sm2, lw2, ⟨tl, efl2, prl⟩, y3, y4, y5, y6, y7, y8, y9, rfl⟩ := hv
        rw [manyL_len, List.take_of_length_le (by rw [psOf_len]; omega)] at prl
        refine ⟨.ref fl, rfl, fl, _, rfl, .inl ⟨.inl (.inl efl2), fun p np => ?_⟩⟩
        refine q p _ lo1 (sm2.trans (same_upd np)) all ⟨tl, .inl (.inl upd_same), Paired.mono (fun _ _ y => .inl (.inl (same_upd np _ _ y))) prl⟩
theorem cal_st {f : Addr} {fd : FuncData} (T : Bl mg) (F : Fun K "_law_state" "_law_state" sSt f fd) (g : mg "_law_state" = some (.ref f)) : Cal P w K mg base CX0 1 "_law_state" ["_law_layout"] (spSt K) :=
  ⟨f, fd, g, F.kp, F.binds (ps := ["_law_layout"]) fun _ _ _ _ _ _ us hl => match us, hl with | [_], _ => rfl, ok_st T F⟩
end
end Zs
namespace Zs
open PySem PySem.Spec PyProof.Rows L2
abbrev sDM : Stmt := topS 54
theorem scDM : FnScope ["_law_source_here", "_law_layout", "_law_often", "_law_done", "_law_turn", "_law_number", "_law_way", "_law_move"] ["_law_source_here", "_law_layout", "_law_often"] (defScope sDM) := ⟨rfl, rfl, rfl, by decide +kernel, rfl, by decide +kernel, by decide +kernel⟩
abbrev sWM : Stmt := topS 55
theorem scWM : FnScope ["_law_source_here", "_law_spec", "_law_layout", "_law_odds", "_law_found", "_law_number", "_law_way", "_law_tied", "_law_many", "_law_most"] ["_law_source_here", "_law_spec", "_law_layout", "_law_odds"] (defScope sWM) := ⟨rfl, rfl, rfl, by decide +kernel, rfl, by decide +kernel, by decide +kernel⟩
/-- all but what stands at three places is as it was -/
def But3 (a d m : Addr) (H H' : Hp) : Prop := ∀ b o, b ≠ a → b ≠ d → b ≠ m → H b = some o → H' b = some o
theorem But3.go {a d m : Addr} {H H' H2 : Hp} (x : But3 a d m H H') (y : But a H' H2) : But3 a d m H H2 := fun b o n1 n2 n3 e => y b o n1 (x b o n1 n2 n3 e)
theorem But3.same {a d m : Addr} {H H' H2 : Hp} (x : But3 a d m H H') (y : Same H' H2) : But3 a d m H H2 := fun b o n1 n2 n3 e => y b o (x b o n1 n2 n3 e)
theorem Lay.but {a : Addr} {H H' : Hp} {L r z d m : Addr} {n : Nat} {lo : Foot → Int} {mn : Int → Int} {ys : List V} (h : Lay H L r z d m n lo mn) (ha : H a = some (.lst ys)) (ma : m ≠ a) (b : But a H H') : Lay H' L r z d m n lo mn := by
  obtain ⟨kvs, e, rest⟩ := h.lows
  exact ⟨b _ _ (ne_of h.at_ ha (by intro z; cases z)) h.at_, ⟨kvs, b _ _ (ne_of e ha (by intro z; cases z)) e, rest⟩, b _ _ ma h.many⟩
theorem But3.tp {a d m : Addr} {H H' : Hp} {L r z : Addr} {n : Nat} {lo : Foot → Int} {mn : Int → Int} {ys : List V} (x : But3 a d m H H') (h : Lay H L r z d m n lo mn) (ha : H a = some (.lst ys)) : Tp H H' := by
  obtain ⟨kvs, e, _⟩ := h.lows
  exact ⟨fun b u eb ok => x b u (ne_of eb ha (by intro z; subst z; exact ok)) (ne_of eb e (by intro z; subst z; exact ok)) (ne_of eb h.many (by intro z; subst z; exact ok)) eb⟩
theorem eqv_zips (zs : List Zp) : PyData.eqv (.tuple (zs.map zipD)) (.tuple []) = zs.isEmpty := by
  cases zs <;> simp [PyData.eqv, PyData.eqvAll]
theorem gd_zips {zs : List Zp} (h : zs.length ≤ 8) : Gd 1000 2 (.tuple (zs.map zipD)) := by
  refine .tuple (by rw [List.length_map]; omega) fun d hd => ?_
  obtain ⟨x, _, rfl⟩ := List.mem_map.mp hd
  exact gd_zip x
section
variable {P : Program} {w : World} {K : PySem.W.Frag} {mg : Str → Option Value} {base : Heap}
def spDM (K : PySem.W.Frag) : Sp := fun vs H Q _ => ∃ (a L r z d m : Addr) (k of_ n : Nat) (lo : Foot → Int) (mn : Int → Int) (rs : List Row) (zs : List Zp), vs = [.ref a, .ref L, .int (of_ : Nat)] ∧ Src H a k ∧ of_ ≤ 200 ∧ k + 1000 < 2 ^ 20 ∧ Lay H L r z d m n lo mn ∧ m ≠ a ∧ TupRs H r rs ∧ TupZs H z zs ∧ zs.length = n ∧ RowsFit n rs ∧ (∀ i, 0 ≤ minAt zs i) ∧ Fine n rs lo mn ∧
  ∀ (v : V) (H' : Hp) (lo' : Foot → Int) (mn' : Int → Int), But3 a d m H H' → Src H' a (k + 800) → Lay H' L r z d m n lo' mn' → Fine n rs lo' mn' → Q v H'
set_option maxHeartbeats 1600000 in
theorem ok_dm {f : Addr} {fd : FuncData} (T : Bl mg) (F : Fun K "_law_drawn_moves" "_law_drawn_moves" sDM f fd) (cDraw : Cal P w K mg base CX0 1 "_law_draw" ["_law_source_here", "_law_often"] spDraw) (cLegal : Cal P w K mg base CX0 3 "_law_is_legal" ["_law_layout", "_law_move"] (spLegal K)) (cPerf : Cal P w K mg base CX0 2 "_law_perform" ["_law_layout", "_law_move"] spPerf) :
    FnOk P w K mg base CX0 4 f fd ["_law_source_here", "_law_layout", "_law_often"] (spDM K) := by
  refine F.ok scDM (fun vs H Q E h => ?_) (fun cdv A outer s H vs Q E hr h => ?_)
  · obtain ⟨a, L, r, z, d, m, k, of_, n, lo, mn, rs, zs, rfl, _⟩ := h
    rfl
  · obtain ⟨a, L, r, z, d, m, k, of_, n, lo, mn, rs, zs, rfl, hs, h200, hk, lay, ma, hrs, hzs, zl, fit, mins, fine, q⟩ := h
    obtain ⟨ys, ea⟩ := hs.lst
    refine ⟨_, (pss_cons (ps_set (i := 3) scDM.nd rfl (Or.inl rfl) (pe_lst pa_nil))
      (pss_cons (ps_for PassesOwn.never rfl (pi_range1 (by rfl) T.range_ (pa_cons (pe_op op_mul (pv 2) (pe_callTy call_int1 (by rfl) T.int_ (by decide +kernel) (pa_cons (pe_cmpR (op_neD (u64 hr)) (pe_dget (hu_of hr) (pv 1) pe_str (fun _ _ => rfl)) (pe_tup pa_nil) (nomark _)) pa_nil))) pa_nil)) (pg_name (i := 4) scDM.nd rfl (Or.inl rfl))
        (pss_cons (ps_par (i := 5) (j := 6) rfl scDM.nd rfl rfl (by decide) rfl rfl (pa_cons (pe_cal cDraw (hr.mono (by decide)) pass0 (by rfl) (pa_cons (pv 0) (pa_cons (pe_callB call_len_seq (by rfl) T.len_ PySem.boot_len (pa_cons (pe_dget (hu_of hr) (pv 1) pe_str (fun _ _ => rfl)) pa_nil)) pa_nil))) (pa_cons (pe_cal cDraw (hr.mono (by decide)) pass0 (by rfl) (pa_cons (pv 0) (pa_cons pe_int pa_nil))) pa_nil)) rfl)
        (pss_cons (ps_set (i := 7) scDM.nd rfl (Or.inl rfl) (pe_tup (pa_cons pe_str (pa_cons (pv 5) (pa_cons (pe_op op_mod (pv 6) pe_int) pa_nil)))))
        (C8.pss_cut (ps_if (pt_cmpR op_eq (pv 6) pe_int (nomark _))
          (pss_one (ps_set (i := 7) scDM.nd rfl (Or.inl rfl) (pe_tup (pa_cons pe_str (pa_cons (pv 5) (pa_cons (pe_cal cDraw (hr.mono (by decide)) pass0 (by rfl) (pa_cons (pv 0) (pa_cons pe_int pa_nil))) pa_nil))))))
          pss_nil)
        (C8.pss_cut (ps_if (pt_cmpR op_gt (pv 6) pe_int (nomark _))
          (pss_one (ps_set (i := 7) scDM.nd rfl (Or.inl rfl) (pe_tup (pa_cons pe_str (pa_cons (pv 5) (pa_cons (pe_cal cDraw (hr.mono (by decide)) pass0 (by rfl) (pa_cons (pv 0) (pa_cons pe_int pa_nil))) (pa_cons (pe_ix ix_list (pe_lst (pa_cons (pe_un un_neg pe_int) (pa_cons pe_int pa_nil))) (pe_cal cDraw (hr.mono (by decide)) pass0 (by rfl) (pa_cons (pv 0) (pa_cons pe_int pa_nil))) (fun _ _ => rfl)) pa_nil)))))))
          pss_nil)
        (pss_one (ps_if (pt_val (pe_cal cLegal (hr.mono (by decide)) pass0 (by rfl) (pa_cons (pv 1) (pa_cons (pv 7) pa_nil))))
          (pss_cons (ps_expr (pe_cal cPerf (hr.mono (by decide)) pass0 (by rfl) (pa_cons (pv 1) (pa_cons (pv 7) pa_nil))))
          (pss_one (ps_expr (pe_bm PySem.F.plainAttrs_list PySem.F.slot_list_append PySem.F.type_list_append mt_append (pv 3) (pa_cons (pv 7) pa_nil)))))
          pss_nil)))))))
      (pss_one (ps_ret (pv 3))))), ?_⟩
    refine ⟨Nat.zero_le _, fun dl ndl => ?_⟩
    have sdl := same_upd (o := .lst []) ndl
    have dla : dl ≠ a := (ne_of_none ea ndl).symm
    have dlm : dl ≠ m := (ne_of_none lay.many ndl).symm
    have dld : dl ≠ d := by
      obtain ⟨kv, e, _⟩ := lay.lows
      exact (ne_of_none e ndl).symm
    refine ⟨.int (of_ : Nat), rfl, .ref L, rfl, L, .ref z, rfl, (lay.same sdl).dZips, Nat.zero_le _, fun z0 nz0 => ?_⟩
    have sz := same_upd (o := .tup []) nz0
    have s0 := sdl.trans sz
    refine ⟨.tuple (zs.map zipD), .tuple [], dp_zips (hzs.tp (.of s0)).k, .tup (.inl (.inl upd_same)) .nil, (gd_zips (by have := fit.zips; omega)).shaped (by decide), by decide +kernel, ?_⟩
    rw [eqv_zips]
    have ed0 : (upd (upd H dl (.lst [])) z0 (.tup [])) dl = some (.lst []) := sz _ _ upd_same
    generalize upd (upd H dl (.lst [])) z0 (.tup []) = H0 at s0 ed0 ⊢
    refine .inr ⟨_, rfl, ?_⟩
    obtain ⟨c, hc, c0⟩ : ∃ c : Nat, (if (!zs.isEmpty) = true then (1 : Int) else 0) = (c : Nat) ∧ c ≤ 1 ∧ (c = 1 → zs ≠ []) := by
      cases zs with
      | nil => exact ⟨0, rfl, by omega, fun h => by cases h⟩
      | cons x xs => exact ⟨1, rfl, by omega, fun _ h => by cases h⟩
    rw [hc]
    have hmul : ((of_ : Nat) : Int) * (c : Nat) = ((of_ * c : Nat) : Int) := by rw [Int.natCast_mul]
    have hle : of_ * c ≤ 200 := by
      rcases (show c = 0 ∨ c = 1 by omega) with rfl | rfl <;> omega
    refine ⟨_, _, rfl, rfl, .inr ⟨by omega, by omega⟩, ((of_ * c : Nat) : Int), by rw [← hmul], by omega, by omega, ?_⟩
    refine for_range (n := of_ * c) (fun i σ H1 => But3 a d m H H1 ∧ Src H1 a (k + 4 * i) ∧ (∃ lo1 mn1, Lay H1 L r z d m n lo1 mn1 ∧ Fine n rs lo1 mn1) ∧ (∃ ds : List V, H1 dl = some (.lst ds) ∧ ds.length ≤ i) ∧ ∃ x4 x5 x6 x7 : Option V, σ = [some (.ref a), some (.ref L), some (.int (of_ : Nat)), some (.ref dl), x4, x5, x6, x7])
      ⟨fun b o _ _ _ e => s0 _ _ e, hs.same s0, ⟨lo, mn, lay.same s0, fine⟩, ⟨[], ed0, Nat.le_refl _⟩, none, none, none, none, rfl⟩ (fun i σ H1 hi hv => ?_) (fun σ H1 hv => ?_)
    · obtain ⟨b1, s1, ⟨lo1, mn1, lay1, fine1⟩, ⟨ds, edl, dsl⟩, x4, x5, x6, x7, rfl⟩ := hv
      have c1 : c = 1 := by
        rcases (show c = 0 ∨ c = 1 by omega) with rfl | rfl
        · omega
        · rfl
      have zne := c0.2 c1
      have n0 : 0 < n := by rw [← zl]; exact List.length_pos_iff.mpr zne
      have n8 := fit.zips
      have tp1 := b1.tp lay ea
      obtain ⟨ys1, ea1⟩ := s1.lst
      obtain ⟨tz, ez, pz⟩ := hzs.tp tp1
      have tzl : ((tz.map V.ref).length : Int) = n := by rw [List.length_map, pz.length, zl]
      -- number, way
      refine ⟨.ref a, rfl, .ref L, rfl, L, .ref z, rfl, lay1.dZips, z, _, rfl, .inr (.inl (.inl ez)), a, _, k + 4 * i, rfl, s1, by omega, by rw [tzl]; omega, by rw [tzl]; omega, fun nu H2 u0 u1 hb2 hs2 => ?_⟩
      rw [tzl] at u1
      refine ⟨.ref a, rfl, a, 8, k + 4 * i + 1, rfl, hs2, by omega, by decide, by decide, fun way H3 w0 w1 hb3 hs3 => ?_⟩
      refine ⟨.int nu, .int way, rfl, ?_⟩
      have b13 := hb2.trans hb3
      have lay3 := lay1.but ea1 ma b13
      have b3 := b1.go b13
      have edl3 := b13 _ _ dla edl
      clear hb2 hb3 hs2 b13
      refine ⟨.int nu, rfl, .int way, rfl, way, 2, rfl, rfl, (by show (0 : Int) < 2; decide), by show 3 ≤ sizeLine; decide, fun t0 nt0 => ?_⟩
      have st0 := same_upd (o := .tup [.str "close", .int nu, .int (way % 2)]) nt0
      have et0 : (upd H3 t0 (.tup [.str "close", .int nu, .int (way % 2)])) t0 = some (.tup (mvV (.close nu (way % 2)))) := upd_same
      have ok0 : MvOk n (.close nu (way % 2)) := ⟨⟨u0, u1⟩, by omega⟩
      have lay4 := lay3.same st0
      have b4 := b3.same st0
      have edl4 := st0 _ _ edl3
      have hs4 := hs3.same st0
      generalize upd H3 t0 (.tup [.str "close", .int nu, .int (way % 2)]) = H4 at et0 lay4 b4 edl4 hs4 ⊢
      clear lay3 b3 edl3 st0 hs3
      obtain ⟨ys4, ea4⟩ := hs4.lst
      -- open
      refine ⟨fun σ' H' => But3 a d m H H' ∧ Src H' a (k + 4 * i + 3) ∧ Lay H' L r z d m n lo1 mn1 ∧ H' dl = some (.lst ds) ∧ (∃ t mv, H' t = some (.tup (mvV mv)) ∧ MvOk n mv ∧ (way > 5 → Src H' a (k + 4 * i + 2)) ∧ σ' = [some (.ref a), some (.ref L), some (.int (of_ : Nat)), some (.ref dl), some (.int (0 + (i : Int))), some (.int nu), some (.int way), some (.ref t)]), ?_, ?_⟩
      · refine ⟨.int way, rfl, rfl, _, rfl, ite2 (fun e => ?_) (fun e => ?_)⟩
        · have e5 : way = 5 := by have := of_decide_eq_true e; exact V.int.inj this
          refine ⟨.int nu, rfl, .ref a, rfl, a, 2, k + 4 * i + 2, rfl, hs4, by omega, by decide, by decide, fun e2 H5 h0 h1 hb5 hs5 => ⟨by show 3 ≤ sizeLine; decide, fun t1 nt1 => ?_⟩⟩
          have st1 := same_upd (o := .tup [.str "open", .int nu, .int e2]) nt1
          refine ⟨(b4.go hb5).same st1, (hs5.same st1).mono (by omega), (lay4.but ea4 ma hb5).same st1, st1 _ _ (hb5 _ _ dla edl4), t1, .opn nu e2, upd_same, ⟨⟨u0, u1⟩, by omega⟩, fun h => by omega, rfl⟩
        · exact ⟨b4, hs4.mono (by omega), lay4, edl4, t0, _, et0, ok0, fun _ => hs4, rfl⟩
      · rintro σ' H5 ⟨b5, s5, lay5, edl5, t5, mv5, et5, ok5, src5, rfl⟩
        -- slip
        refine ⟨fun σ' H' => But3 a d m H H' ∧ Src H' a (k + 4 * i + 4) ∧ Lay H' L r z d m n lo1 mn1 ∧ H' dl = some (.lst ds) ∧ (∃ t mv, H' t = some (.tup (mvV mv)) ∧ MvOk n mv ∧ σ' = [some (.ref a), some (.ref L), some (.int (of_ : Nat)), some (.ref dl), some (.int (0 + (i : Int))), some (.int nu), some (.int way), some (.ref t)]), ?_, ?_⟩
        · refine ⟨.int way, rfl, way, 5, rfl, rfl, _, rfl, ite2 (fun e => ?_) (fun e => ?_)⟩
          · have w5 : way > 5 := of_decide_eq_true e
            have s5' := src5 w5
            obtain ⟨ys5, ea5⟩ := s5'.lst
            refine ⟨.int nu, rfl, .ref a, rfl, a, 2, k + 4 * i + 2, rfl, s5', by omega, by decide, by decide, fun sd H6 h0 h1 hb6 hs6 => ?_⟩
            refine ⟨1, rfl, by show 2 ≤ sizeLine; decide, fun l6 nl6 => ?_⟩
            have sl6 := same_upd (o := .lst [.int (-1), .int 1]) nl6
            obtain ⟨ys6, ea6⟩ := hs6.lst
            have l6a : l6 ≠ a := (ne_of_none ea6 nl6).symm
            have hs6' := hs6.same sl6
            have ea6' := sl6 _ _ ea6
            refine ⟨.ref a, rfl, a, 2, k + 4 * i + 3, rfl, hs6', by omega, by decide, by decide, fun dd H7 g0 g1 hb7 hs7 => ?_⟩
            obtain ⟨dv, hdv, hdd⟩ : ∃ dv : Int, atI ([.int (-1), .int 1] : List V) dd = some (.int dv) ∧ (dv = -1 ∨ dv = 1) := by
              rcases (show dd = 0 ∨ dd = 1 by omega) with rfl | rfl
              · exact ⟨-1, atI_nat (j := 0) rfl, .inl rfl⟩
              · exact ⟨1, atI_nat (j := 1) rfl, .inr rfl⟩
            refine ⟨l6, _, dd, _, rfl, rfl, .inl (.inl (hb7 _ _ l6a upd_same)), hdv, by show 4 ≤ sizeLine; decide, fun t8 nt8 => ?_⟩
            have st8 := same_upd (o := .tup [.str "slip", .int nu, .int sd, .int dv]) nt8
            have bb := (((b5.go hb6).same sl6).go hb7).same st8
            refine ⟨bb, (hs7.same st8).mono (by omega), ((((lay5.but ea5 ma hb6).same sl6).but ea6' ma hb7).same st8), st8 _ _ (hb7 _ _ dla (sl6 _ _ (hb6 _ _ dla edl5))), t8, .slip nu sd dv, upd_same, ⟨⟨u0, u1⟩, by omega, hdd⟩, rfl⟩
          · exact ⟨b5, s5.mono (by omega), lay5, edl5, t5, mv5, et5, ok5, rfl⟩
        · rintro σ' H6 ⟨b6, s6, lay6, edl6, t6, mv, et6, ok6, rfl⟩
          have tp6 := b6.tp lay ea
          refine ⟨.ref L, rfl, .ref t6, rfl, L, r, z, d, m, t6, n, lo1, mn1, rs, zs, mv, rfl, lay6, hrs.tp tp6, hzs.tp tp6, zl, fit, et6, ok6, fun b H7 s7 leg => ⟨b, rfl, ?_⟩⟩
          have b7 := b6.same s7
          cases b with
          | false => exact iteF ⟨b7, (s6.same s7).mono (by omega), ⟨lo1, mn1, lay6.same s7, fine1⟩, ⟨ds, s7 _ _ edl6, by omega⟩, _, _, _, _, rfl⟩
          | true =>
            refine iteT ⟨.ref L, rfl, .ref t6, rfl, L, r, z, d, m, t6, n, lo1, mn1, zs, mv, rfl, lay6.same s7, (hzs.tp tp6).tp (.of s7), zl, n8, s7 _ _ et6, ok6, fun H8 keep8 lay8 => ?_⟩
            have b8 : But3 a d m H H8 := fun b o n1 n2 n3 e => keep8 b o n2 n3 (b7 b o n1 n2 n3 e)
            have edl8 := keep8 _ _ dld dlm (s7 _ _ edl6)
            obtain ⟨x1, y1, cc1, e8, rr⟩ := s6.same s7
            have a_d : a ≠ d := by
              obtain ⟨kv, e, _⟩ := lay.lows
              exact ne_of ea e (by intro z; cases z)
            have ea8 := keep8 _ _ a_d ma.symm e8
            refine ⟨.ref dl, rfl, .inl ⟨rfl, _, .inl (.inl edl8)⟩, .ref t6, rfl, dl, ds, _, rfl, rfl, edl8, small1000 (by omega), ?_⟩
            have nL : L ≠ dl := ne_of lay8.at_ edl8 (by intro z; cases z)
            obtain ⟨kv8, ed8, rest8⟩ := lay8.lows
            refine ⟨fun b o n1 n2 n3 e => ?_, ⟨x1, y1, cc1, by rw [upd_ne dla.symm]; exact ea8, rr.1, rr.2.1, rr.2.2.1, by have := rr.2.2.2; omega⟩, ⟨_, _, ⟨by rw [upd_ne nL]; exact lay8.at_, ⟨kv8, by rw [upd_ne dld.symm]; exact ed8, rest8⟩, by rw [upd_ne dlm.symm]; exact lay8.many⟩, fine1.move fit ok6 mins (leg.mp rfl)⟩, ⟨_, upd_same, by rw [List.length_append]; show ds.length + 1 ≤ i + 1; omega⟩, _, _, _, _, rfl⟩
            rw [upd_ne (ne_of_none e ndl)]
            exact b8 b o n1 n2 n3 e
    · obtain ⟨b1, s1, ⟨lo1, mn1, lay1, fine1⟩, _, x4, x5, x6, x7, rfl⟩ := hv
      exact ⟨.ref dl, rfl, q _ H1 lo1 mn1 b1 (s1.mono (by omega)) lay1 fine1⟩
theorem cal_dm {f : Addr} {fd : FuncData} (T : Bl mg) (F : Fun K "_law_drawn_moves" "_law_drawn_moves" sDM f fd) (cDraw : Cal P w K mg base CX0 1 "_law_draw" ["_law_source_here", "_law_often"] spDraw) (cLegal : Cal P w K mg base CX0 3 "_law_is_legal" ["_law_layout", "_law_move"] (spLegal K)) (cPerf : Cal P w K mg base CX0 2 "_law_perform" ["_law_layout", "_law_move"] spPerf) (g : mg "_law_drawn_moves" = some (.ref f)) :
    Cal P w K mg base CX0 4 "_law_drawn_moves" ["_law_source_here", "_law_layout", "_law_often"] (spDM K) :=
  ⟨f, fd, g, F.kp, F.binds (ps := ["_law_source_here", "_law_layout", "_law_often"]) fun _ _ _ _ _ _ us hl => match us, hl with | [_, _, _], _ => rfl, ok_dm T F cDraw cLegal cPerf⟩
end
end Zs
namespace Zs
open PySem PySem.Spec PyProof.Rows L2
abbrev sPair : Stmt := topS 56
theorem scPair : FnScope ["_law_source_here", "_law_max_rows", "_law_max_teeth", "_law_zip_count", "_law_odds", "_law_spec", "_law_layout"] ["_law_source_here", "_law_max_rows", "_law_max_teeth", "_law_zip_count", "_law_odds"] (defScope sPair) := ⟨rfl, rfl, rfl, by decide +kernel, rfl, by decide +kernel, by decide +kernel⟩
abbrev sSize : Stmt := topS 57
theorem scSize : FnScope ["_law_source_here", "_law_odds", "_law_max_rows", "_law_max_teeth"] ["_law_source_here", "_law_odds"] (defScope sSize) := ⟨rfl, rfl, rfl, by decide +kernel, rfl, by decide +kernel, by decide +kernel⟩
section
variable {P : Program} {w : World} {K : PySem.W.Frag} {mg : Str → Option Value} {base : Heap}
def spWM : Sp := fun vs H Q _ => ∃ (a sp L r z d m : Addr) (k n : Nat) (lo : Foot → Int) (mn : Int → Int) (zs : List Zp), vs = [.ref a, .ref sp, .ref L, .int 2] ∧ Src H a k ∧ k + 20 < 2 ^ 20 ∧ H sp = some (.tup [.ref r, .ref z]) ∧ Lay H L r z d m n lo mn ∧ m ≠ a ∧ TupZs H z zs ∧ zs.length = n ∧ n ≤ 8 ∧ (∀ i : Int, 0 ≤ i → i < n → 0 ≤ mn i ∧ mn i ≤ 24) ∧
  ∀ (p z2 : Addr) (H' : Hp) (zs2 : List Zp), But a H H' → Src H' a (k + 16) → H' p = some (.tup [.ref r, .ref z2]) → TupZs H' z2 zs2 → zs2.length = n → (∀ (i : Nat) (x : Zp), zs2[i]? = some x → 0 ≤ x.2 ∧ x.2 ≤ mn (i : Nat)) → Q (.ref p) H'
set_option maxHeartbeats 800000 in
theorem ok_wm {f : Addr} {fd : FuncData} (T : Bl mg) (F : Fun K "_law_with_minimums" "_law_with_minimums" sWM f fd) (cDraw : Cal P w K mg base CX0 1 "_law_draw" ["_law_source_here", "_law_often"] spDraw) :
    FnOk P w K mg base CX0 2 f fd ["_law_source_here", "_law_spec", "_law_layout", "_law_odds"] spWM := by
  refine F.ok scWM (fun vs H Q E h => ?_) (fun cdv A outer s H vs Q E hr h => ?_)
  · obtain ⟨a, sp, L, r, z, d, m, k, n, lo, mn, zs, rfl, _⟩ := h
    rfl
  · obtain ⟨a, sp, L, r, z, d, m, k, n, lo, mn, zs, rfl, hs, hk, esp, lay, ma, hzs, zl, n8, bnd, q⟩ := h
    obtain ⟨ys, ea⟩ := hs.lst
    refine ⟨_, (pss_cons (ps_set (i := 4) scWM.nd rfl (Or.inl rfl) (pe_lst pa_nil))
      (pss_cons (ps_for PassesOwn.never rfl (pi_enumT (by rfl) T.enumerate_ (pa_cons (pe_ix ix_tup (pv 1) pe_int (fun _ _ => rfl)) pa_nil)) (pg_tup rfl (pgs_cons (pg_name (i := 5) scWM.nd rfl (Or.inl rfl)) (pgs_cons (pg_tup rfl (pgs_cons (pg_name (i := 6) scWM.nd rfl (Or.inl rfl)) (pgs_cons (pg_name (i := 7) scWM.nd rfl (Or.inl rfl)) pgs_nil))) pgs_nil)))
        (pss_cons (ps_set (i := 8) scWM.nd rfl (Or.inl rfl) (pe_ix ix_list (pe_dget (hu_of hr) (pv 2) pe_str (fun _ _ => rfl)) (pv 5) (fun _ _ => rfl)))
        (pss_cons (ps_set (i := 9) scWM.nd rfl (Or.inl rfl) pe_int)
        (C8.pss_cut (ps_if (pw_and (pt_cmpR op_gt (pv 8) pe_int (nomark _)) (pw_and1 (pt_cmpR op_eq (pe_cal cDraw (hr.mono (by decide)) pass0 (by rfl) (pa_cons (pv 0) (pa_cons (pv 3) pa_nil))) pe_int (nomark _)))).pt
          (pss_one (ps_set (i := 9) scWM.nd rfl (Or.inl rfl) (pe_op op_add pe_int (pe_cal cDraw (hr.mono (by decide)) pass0 (by rfl) (pa_cons (pv 0) (pa_cons (pv 8) pa_nil))))))
          pss_nil)
        (pss_one (ps_expr (pe_bm PySem.F.plainAttrs_list PySem.F.slot_list_append PySem.F.type_list_append mt_append (pv 4) (pa_cons (pe_tup (pa_cons (pv 6) (pa_cons (pv 9) pa_nil))) pa_nil))))))))
      (pss_one (ps_ret (pe_tup (pa_cons (pe_ix ix_tup (pv 1) pe_int (fun _ _ => rfl)) (pa_cons (pe_callTy call_tuple_of (by rfl) T.tuple_ (by decide +kernel) (pa_cons (pv 4) pa_nil)) pa_nil))))))), ?_⟩
    refine ⟨Nat.zero_le _, fun fl nfl => ?_⟩
    have sf := same_upd (o := .lst []) nfl
    have fla : fl ≠ a := (ne_of_none ea nfl).symm
    obtain ⟨tz, ez, pz⟩ := id hzs
    have zq : SqT K H z (tz.map V.ref) := .inl (.inl ez)
    refine ⟨.ref sp, rfl, sp, _, 1, .ref z, rfl, rfl, .inl (.inl (sf _ _ esp)), atI_nat (j := 1) rfl, z, _, rfl, same_seqT sf zq, ?_⟩
    refine for_enumT (K := K) (a := z) (xs := tz.map V.ref) (fun i σ H1 => But a H H1 ∧ Src H1 a (k + 2 * i) ∧ (∃ (tl : List Addr) (zs2 : List Zp), H1 fl = some (.lst (tl.map V.ref)) ∧ Paired (TupZ H1) tl zs2 ∧ zs2.length = i ∧ ∀ (j : Nat) (x : Zp), zs2[j]? = some x → 0 ≤ x.2 ∧ x.2 ≤ mn (j : Nat)) ∧
      ∃ x5 x6 x7 x8 x9 : Option V, σ = [some (.ref a), some (.ref sp), some (.ref L), some (.int 2), some (.ref fl), x5, x6, x7, x8, x9]) ⟨.of sf, hs.same sf, ⟨[], [], upd_same, .nil, rfl, fun j x h => by simp at h⟩, none, none, none, none, none, rfl⟩
      (fun i σ H1 _ hv => hv.1.seqT ea zq) (fun i v σ H1 T0 hv0 hv nT => ?_) (fun σ H1 hv => ?_)
    · obtain ⟨b1, s1, ⟨tl, zs2, efl, prl, zl2, good⟩, x5, x6, x7, x8, x9, rfl⟩ := hv
      obtain ⟨t, ht, rfl⟩ : ∃ t, tz[i]? = some t ∧ v = .ref t := by
        rw [List.getElem?_map] at hv0
        cases e : tz[i]? with
        | none => rw [e] at hv0; cases hv0
        | some t => rw [e] at hv0; exact ⟨t, rfl, (Option.some.inj hv0).symm⟩
      obtain ⟨zz, hzz, tzz⟩ := paired_get pz ht
      have hi : i < n := by rw [← zl]; exact (List.getElem?_eq_some_iff.mp hzz).1
      obtain ⟨mn0, mn24⟩ := bnd (i : Nat) (by omega) (by omega)
      have sT := same_upd (o := .tup [.int (i : Nat), .ref t]) nT
      have b2 := b1.trans (But.of (a := a) sT)
      have s2 := s1.same sT
      have lay2 := lay.but ea ma b2
      have tt2 : (upd H1 T0 (.tup [.int (i : Nat), .ref t])) t = some (.tup [.str (dirS zz.1), .int zz.2]) := b2.tp ea _ _ tzz
      have efl2 := sT _ _ efl
      have prl2 : Paired (TupZ (upd H1 T0 (.tup [.int (i : Nat), .ref t]))) tl zs2 := Paired.mono (fun _ _ y => sT _ _ y) prl
      refine ⟨T0, _, rfl, .inl (.inl upd_same), rfl, .int (i : Nat), [.ref t], rfl, .ref t, [], rfl, t, _, rfl, .inl (.inl tt2), rfl, .str (dirS zz.1), [.int zz.2], rfl, .int zz.2, [], rfl, rfl, rfl, ?_⟩
      generalize upd H1 T0 (.tup [.int (i : Nat), .ref t]) = H2 at b2 s2 lay2 tt2 efl2 prl2 ⊢
      obtain ⟨ys2, ea2⟩ := s2.lst
      refine ⟨.ref L, rfl, L, .ref m, rfl, lay2.dMany, .int (i : Nat), rfl, m, _, (i : Nat), _, rfl, rfl, .inl (.inl lay2.many), many_at (by omega) (by omega), ?_⟩
      refine ⟨fun σ' H' => But a H2 H' ∧ Src H' a (k + 2 * i + 2) ∧ ∃ mo : Int, (0 ≤ mo ∧ mo ≤ mn (i : Nat)) ∧ σ' = [some (.ref a), some (.ref sp), some (.ref L), some (.int 2), some (.ref fl), some (.int (i : Nat)), some (.str (dirS zz.1)), some (.int zz.2), some (.int (mn (i : Nat))), some (.int mo)], ?_, ?_⟩
      · refine ⟨.int (mn (i : Nat)), rfl, _, 0, rfl, rfl, _, rfl, ?_⟩
        by_cases h0 : mn (i : Nat) > 0
        · rw [decide_eq_true h0]
          refine iteT ⟨.ref a, rfl, .int 2, rfl, a, 2, k + 2 * i, rfl, s2, by omega, by decide, by decide, fun rr H3 _ _ hb3 hs3 => ⟨rfl, _, rfl, ite2 (fun e => ?_) (fun e => ?_)⟩⟩
          · refine ⟨.ref a, rfl, .int (mn (i : Nat)), rfl, a, mn (i : Nat), k + 2 * i + 1, rfl, hs3, by omega, by omega, by omega, fun r2 H4 r0 r1 hb4 hs4 => ⟨1, r2, rfl, rfl, hb3.trans hb4, hs4, 1 + r2, ⟨by omega, by omega⟩, rfl⟩⟩
          · exact ⟨hb3, hs3.mono (by omega), 0, ⟨Int.le_refl _, mn0⟩, rfl⟩
        · rw [decide_eq_false h0]
          exact iteF (iteF ⟨.refl _ _, s2.mono (by omega), 0, ⟨Int.le_refl _, mn0⟩, rfl⟩)
      · rintro σ' H3 ⟨b3, s3, mo, hmo, rfl⟩
        have efl3 := b3 _ _ fla efl2
        have tp3 := b3.tp ea2
        refine ⟨.ref fl, rfl, .inl ⟨rfl, _, .inl (.inl efl3)⟩, .str (dirS zz.1), rfl, .int mo, rfl, by show 2 ≤ sizeLine; decide, fun t4 nt4 => ?_⟩
        have st4 := same_upd (o := .tup [.str (dirS zz.1), .int mo]) nt4
        have efl4 := st4 _ _ efl3
        have tll : tl.length = i := by rw [prl.length, zl2]
        have tpw := Tp.wr (o := .lst (tl.map V.ref ++ [.ref t4])) efl4
        refine ⟨fl, _, _, rfl, rfl, efl4, by rw [List.length_map, tll]; exact small1000 (by omega), ((b2.trans b3).trans (.of st4)).wrNew nfl, ?_, ⟨tl ++ [t4], zs2 ++ [(zz.1, mo)], by rw [upd_same, List.map_append]; rfl, ?_, by rw [List.length_append, zl2]; rfl, fun j x hx => ?_⟩, _, _, _, _, _, rfl⟩
        · obtain ⟨x1, y1, c1, e, rr⟩ := s3.same st4
          exact ⟨x1, y1, c1, by rw [upd_ne fla.symm]; exact e, rr.1, rr.2.1, rr.2.2.1, by have := rr.2.2.2; omega⟩
        · exact (Paired.mono (fun _ _ y => tpw _ _ (st4 _ _ (tp3 _ _ y))) prl2).snoc (tpw _ _ upd_same)
        · rcases Nat.lt_or_ge j zs2.length with hj | hj
          · rw [List.getElem?_append_left hj] at hx
            exact good j x hx
          · rw [List.getElem?_append_right hj] at hx
            have ej : j - zs2.length = 0 := by
              rcases Nat.eq_zero_or_pos (j - zs2.length) with e | e
              · exact e
              · rw [List.getElem?_eq_none (by rw [List.length_singleton]; omega)] at hx
                cases hx
            rw [ej] at hx
            obtain rfl := Option.some.inj hx
            have : j = i := by omega
            subst this
            exact hmo
    · obtain ⟨b1, s1, ⟨tl, zs2, efl, prl, zl2, good⟩, x5, x6, x7, x8, x9, rfl⟩ := hv
      rw [List.length_map, pz.length, zl] at s1 zl2
      have esp1 := b1.tp ea _ _ esp
      refine ⟨.ref sp, rfl, sp, _, 0, .ref r, rfl, rfl, .inl (.inl esp1), atI_nat (j := 0) rfl, .ref fl, rfl, fl, _, rfl, .inl ⟨.inl (.inl efl), fun z2 nz2 => ⟨by show 2 ≤ sizeLine; decide, fun p np => ?_⟩⟩⟩
      have s2 := (same_upd (o := .tup (tl.map V.ref)) nz2).trans (same_upd (o := .tup [.ref r, .ref z2]) np)
      exact q p z2 _ zs2 (b1.trans (.of s2)) ((s1.same s2).mono (by omega)) upd_same ⟨tl, same_upd np _ _ upd_same, Paired.mono (fun _ _ y => s2 _ _ y) prl⟩ zl2 good
theorem cal_wm {f : Addr} {fd : FuncData} (T : Bl mg) (F : Fun K "_law_with_minimums" "_law_with_minimums" sWM f fd) (cDraw : Cal P w K mg base CX0 1 "_law_draw" ["_law_source_here", "_law_often"] spDraw) (g : mg "_law_with_minimums" = some (.ref f)) :
    Cal P w K mg base CX0 2 "_law_with_minimums" ["_law_source_here", "_law_spec", "_law_layout", "_law_odds"] spWM :=
  ⟨f, fd, g, F.kp, F.binds (ps := ["_law_source_here", "_law_spec", "_law_layout", "_law_odds"]) fun _ _ _ _ _ _ us hl => match us, hl with | [_, _, _, _], _ => rfl, ok_wm T F cDraw⟩
end
end Zs
namespace Zs
open PySem PySem.Spec PyProof.Rows L2
theorem RowsOk.cloth {most mt : Int} {rs : List Row} {zs : List Zp} (h : RowsOk most mt zs.length rs) (h6 : most ≤ 6) (h24 : mt ≤ 24) (h8 : zs.length ≤ 8) (mins : ∀ z ∈ zs, 0 ≤ z.2 ∧ z.2 ≤ 24) : ClothOk rs zs :=
  ⟨h.pos, by have := h.few; omega, h.rings, fun r hr => ⟨(h.teeth r hr).1, by have := (h.teeth r hr).2; omega⟩, h8, mins, h.feet⟩
theorem ClothOk.fit {rs : List Row} {zs : List Zp} (c : ClothOk rs zs) : RowsFit zs.length rs := by
  refine ⟨c.feet.nodup_iff.mpr (nodup_allFeet _), c.teeth, fun ro h => c.flen ro h, fun ro h => c.footIn h, fun x hx => ?_, c.zips⟩
  obtain ⟨ro, h1, h2⟩ := List.mem_flatMap.mp (c.feet.mem_iff.mpr (mem_allFeet.mpr hx))
  obtain ⟨i, hi, ei⟩ := List.getElem_of_mem h1
  obtain ⟨j, hj, ej⟩ := List.getElem_of_mem h2
  exact ⟨i, ro, j, by rw [List.getElem?_eq_getElem hi, ei], by rw [List.getElem?_eq_getElem hj, ej]⟩
theorem ClothOk.feet16 {rs : List Row} {zs : List Zp} (c : ClothOk rs zs) : (rs.flatMap (·.feet)).length ≤ 16 := by
  rw [c.feet.length_eq, allFeet_len]
  have := c.zips
  omega
theorem ClothOk.mins' {rs : List Row} {zs zs2 : List Zp} (c : ClothOk rs zs) (l : zs2.length = zs.length) (mins : ∀ z ∈ zs2, 0 ≤ z.2 ∧ z.2 ≤ 24) : ClothOk rs zs2 :=
  ⟨c.pos, c.few, c.rings, c.teeth, by rw [l]; exact c.zips, mins, by rw [l]; exact c.feet⟩
theorem min_zero {zs : List Zp} (h : ∀ x ∈ zs, x.2 = 0) (i : Int) : 0 ≤ minAt zs i := by
  unfold minAt
  rw [List.getD_eq_getElem?_getD]
  cases e : zs[i.toNat]? with
  | none => exact Int.le_refl _
  | some x =>
    show 0 ≤ x.2
    rw [h x (List.mem_of_getElem? e)]
    exact Int.le_refl _
theorem Fine.le24 {n : Nat} {rs : List Row} {lo : Foot → Int} {mn : Int → Int} (fit : RowsFit n rs) (f : Fine n rs lo mn) (i : Int) (h0 : 0 ≤ i) (h1 : i < n) : 0 ≤ mn i ∧ mn i ≤ 24 := by
  refine ⟨f.many i h0 h1, ?_⟩
  obtain ⟨a, ro, j, h2, h3⟩ := fit.all (i, 0) ⟨⟨h0, h1⟩, .inl rfl⟩
  have mem := List.mem_of_getElem? h2
  have r := row_is (f.gap ro mem)
  have := r.many (fun x hx => f.many x.1 (fit.foot ro mem x hx).1.1 (fit.foot ro mem x hx).1.2) (List.mem_of_getElem? h3)
  have t := (fit.teeth ro mem).2
  show mn (i, (0 : Int)).1 ≤ 24
  omega
theorem state_good {n : Nat} {rs : List Row} {zs : List Zp} {lo lo' : Foot → Int} {mn : Int → Int} (zl : zs.length = n) (fit : RowsFit n rs) (f : Fine n rs lo mn) (mv : ∀ ro ∈ rs, Moved ro lo lo') (le : ∀ (i : Nat) (x : Zp), zs[i]? = some x → 0 ≤ x.2 ∧ x.2 ≤ mn (i : Nat)) :
    isStateB rs zs (.tuple ((psOf n lo' mn).map p3D)) = true := by
  rw [state_tup, trips_map]
  show (decide ((psOf n lo' mn).length = zs.length) && _) = true
  rw [decide_eq_true (by rw [psOf_len, zl]), Bool.true_and, zip_good, Bool.true_and]
  · refine List.all_eq_true.mpr fun ro hro => ?_
    obtain ⟨b, b1, b2, b3⟩ := mv ro hro
    exact fits_of (fit.teeth ro hro).1 (fit.foot ro hro) ((row_is (f.gap ro hro)).shift b1 b2) b3
  · intro i p x hp hx
    have hi : i < n := by rw [← zl]; exact (List.getElem?_eq_some_iff.mp hx).1
    unfold psOf at hp
    rw [List.getElem?_map, List.getElem?_range hi] at hp
    rw [← Option.some.inj hp]
    exact (le i x hx).2
section
variable {P : Program} {w : World} {K : PySem.W.Frag} {mg : Str → Option Value} {base : Heap}
def PairOut (K : PySem.W.Frag) (a : Addr) (k : Nat) (H : Hp) (Q : VK) : Prop := ∀ (p sp v r z : Addr) (H' : Hp) (rs : List Row) (zs : List Zp) (ps : List P3), But a H H' → Src H' a k → H' p = some (.tup [.ref sp, .ref v]) → H' sp = some (.tup [.ref r, .ref z]) → TupRs H' r rs → TupZs H' z zs → ClothOk rs zs → TupPs K H' v ps → ps.length = zs.length → isStateB rs zs (.tuple (ps.map p3D)) = true → Q (.ref p) H'
def spPair (K : PySem.W.Frag) : Sp := fun vs H Q _ => ∃ (a : Addr) (most mt : Int) (zc k : Nat), vs = [.ref a, .int most, .int mt, .int (zc : Nat), .int 2] ∧ 1 ≤ most ∧ most ≤ 6 ∧ 1 ≤ mt ∧ mt ≤ 24 ∧ zc ≤ 8 ∧ Src H a k ∧ k + 3000 < 2 ^ 20 ∧ PairOut K a (k + 1200) H Q
set_option maxHeartbeats 800000 in
theorem ok_pair {f : Addr} {fd : FuncData} (F : Fun K "_law_drawn_pair" "_law_drawn_pair" sPair f fd) (cDraw : Cal P w K mg base CX0 1 "_law_draw" ["_law_source_here", "_law_often"] spDraw) (cCloth : Cal P w K mg base CX0 4 "_law_cloth" ["_law_source_here", "_law_max_rows", "_law_max_teeth", "_law_zip_count"] spCloth)
    (cOL : Cal P w K mg base CX0 2 "_law_open_layout" ["_law_source_here", "_law_spec"] spOL) (cDM : Cal P w K mg base CX0 4 "_law_drawn_moves" ["_law_source_here", "_law_layout", "_law_often"] (spDM K)) (cWM : Cal P w K mg base CX0 2 "_law_with_minimums" ["_law_source_here", "_law_spec", "_law_layout", "_law_odds"] spWM) (cSt : Cal P w K mg base CX0 1 "_law_state" ["_law_layout"] (spSt K)) :
    FnOk P w K mg base CX0 5 f fd ["_law_source_here", "_law_max_rows", "_law_max_teeth", "_law_zip_count", "_law_odds"] (spPair K) := by
  refine F.ok scPair (fun vs H Q E h => ?_) (fun cdv A outer s H vs Q E hr h => ?_)
  · obtain ⟨a, most, mt, zc, k, rfl, _⟩ := h
    rfl
  · obtain ⟨a, most, mt, zc, k, rfl, m1, m6, t1, t24, z8, hs, hk, q⟩ := h
    obtain ⟨ys, ea⟩ := hs.lst
    refine ⟨_, (pss_cons (ps_set (i := 5) scPair.nd rfl (Or.inl rfl) (pe_cal cCloth (hr.mono (by decide)) pass0 (by rfl) (pa_cons (pv 0) (pa_cons (pv 1) (pa_cons (pv 2) (pa_cons (pv 3) pa_nil))))))
      (pss_cons (ps_set (i := 6) scPair.nd rfl (Or.inl rfl) (pe_cal cOL (hr.mono (by decide)) pass0 (by rfl) (pa_cons (pv 0) (pa_cons (pv 5) pa_nil))))
      (pss_cons (ps_expr (pe_cal cDM (hr.mono (by decide)) pass0 (by rfl) (pa_cons (pv 0) (pa_cons (pv 6) (pa_cons (pe_op op_add (pv 2) (pe_cal cDraw (hr.mono (by decide)) pass0 (by rfl) (pa_cons (pv 0) (pa_cons (pe_op op_add pe_int (pe_op op_mul pe_int (pv 2))) pa_nil)))) pa_nil)))))
      (pss_cons (ps_set (i := 5) scPair.nd rfl (Or.inl rfl) (pe_cal cWM (hr.mono (by decide)) pass0 (by rfl) (pa_cons (pv 0) (pa_cons (pv 5) (pa_cons (pv 6) (pa_cons (pv 4) pa_nil))))))
      (pss_one (ps_ret (pe_tup (pa_cons (pv 5) (pa_cons (pe_cal cSt (hr.mono (by decide)) pass0 (by rfl) (pa_cons (pv 6) pa_nil)) pa_nil))))))))), ?_⟩
    refine ⟨.ref a, rfl, .int most, rfl, .int mt, rfl, .int (zc : Nat), rfl, a, most, mt, zc, k, rfl, m1, m6, t1, t24, z8, hs, by omega, fun p0 r z H1 rs zs b1 s1 ep0 hrs hzs zl zero ok => ?_⟩
    have c0 : ClothOk rs zs := ok.cloth m6 t24 (by omega) fun x hx => by rw [zero x hx]; exact ⟨by omega, by omega⟩
    have fit := c0.fit
    have n8 := fit.zips
    obtain ⟨ys1, ea1⟩ := s1.lst
    refine ⟨.ref a, rfl, .ref p0, rfl, a, p0, r, z, k + 100, rs, zs, rfl, s1, by omega, ep0, hrs, hzs, fit, c0.few, c0.feet16, fun L d m H2 lo b2 s2 nL nd nm lay rows => ?_⟩
    have ma : m ≠ a := (ne_of_none ea1 nm).symm
    have fine0 : Fine zs.length rs lo Zm := ⟨fun ro hro => row_gap (fit.teeth ro hro).1 (rows ro hro), fun i _ _ => Int.le_refl _⟩
    obtain ⟨ys2, ea2⟩ := s2.lst
    have tp2 := b2.tp ea1
    refine ⟨.ref a, rfl, .ref L, rfl, .int mt, rfl, .ref a, rfl, .int mt, rfl, 6, mt, rfl, rfl, .inl ⟨by decide, by decide⟩, 1, 6 * mt, rfl, rfl, a, 1 + 6 * mt, k + 100 + 120, rfl, s2, by omega, by omega, by omega, fun rr H3 r0 r1 hb3 hs3 => ?_⟩
    obtain ⟨of_, hof⟩ := Int.eq_ofNat_of_zero_le (show 0 ≤ mt + rr by omega)
    have tp3 := hb3.tp ea2
    refine ⟨mt, rr, rfl, rfl, a, L, r, z, d, m, k + 100 + 120 + 1, of_, zs.length, lo, Zm, rs, zs, by rw [← hof]; rfl, hs3, by omega, by omega, lay.but ea2 ma hb3, ma, (hrs.tp tp2).tp tp3, (hzs.tp tp2).tp tp3, rfl, fit, min_zero zero, fine0, fun v4 H4 lo4 mn4 b4 s4 lay4 fine4 => ?_⟩
    have b24 : But3 a d m H2 H4 := fun b o n1 n2 n3 e => b4 b o n1 n2 n3 (hb3 b o n1 e)
    have b14 : But a H1 H4 := fun b o n1 e => b24 b o n1 (ne_of_none e nd) (ne_of_none e nm) (b2 b o n1 e)
    have tp4 := b14.tp ea1
    obtain ⟨ys4, ea4⟩ := s4.lst
    refine ⟨.ref a, rfl, .ref p0, rfl, .ref L, rfl, .int 2, rfl, a, p0, L, r, z, d, m, k + 100 + 120 + 1 + 800, zs.length, lo4, mn4, zs, rfl, s4, by omega, tp4 _ _ ep0, lay4, ma, hzs.tp tp4, rfl, n8, fine4.le24 fit, fun p5 z5 H5 zs5 b5 s5 ep5 hz5 zl5 le5 => ?_⟩
    have tp5 := b5.tp ea4
    refine ⟨.ref p5, rfl, .ref L, rfl, L, r, z, d, m, zs.length, lo4, mn4, rs, rfl, lay4.but ea4 ma b5, (hrs.tp tp4).tp tp5, fit, fun p6 H6 lo6 s6 mv6 hps6 => ⟨by show 2 ≤ sizeLine; decide, fun p7 np7 => ?_⟩⟩
    have s7 := same_upd (o := .tup [.ref p5, .ref p6]) np7
    have s67 := s6.trans s7
    have tp67 : Tp H5 _ := .of s67
    have c5 : ClothOk rs zs5 := c0.mins' zl5 fun x hx => by
      obtain ⟨i, hi, ei⟩ := List.getElem_of_mem hx
      have hx2 : zs5[i]? = some x := by rw [List.getElem?_eq_getElem hi, ei]
      have h1 := le5 i x hx2
      have h2 := fine4.le24 fit (i : Nat) (by omega) (by omega)
      exact ⟨h1.1, by omega⟩
    have fit5 : RowsFit zs5.length rs := by rw [zl5]; exact fit
    refine q p7 p5 p6 r z5 _ rs zs5 _ (((b1.trans b14).trans b5).trans (.of s67)) ((s5.same s67).mono (by omega)) upd_same (s67 _ _ ep5) (((hrs.tp tp4).tp tp5).tp tp67) (hz5.tp tp67) c5 (hps6.same s7) (by rw [psOf_len, zl5]) ?_
    exact state_good zl5 fit fine4 mv6 le5
theorem cal_pair {f : Addr} {fd : FuncData} (F : Fun K "_law_drawn_pair" "_law_drawn_pair" sPair f fd) (cDraw : Cal P w K mg base CX0 1 "_law_draw" ["_law_source_here", "_law_often"] spDraw) (cCloth : Cal P w K mg base CX0 4 "_law_cloth" ["_law_source_here", "_law_max_rows", "_law_max_teeth", "_law_zip_count"] spCloth)
    (cOL : Cal P w K mg base CX0 2 "_law_open_layout" ["_law_source_here", "_law_spec"] spOL) (cDM : Cal P w K mg base CX0 4 "_law_drawn_moves" ["_law_source_here", "_law_layout", "_law_often"] (spDM K)) (cWM : Cal P w K mg base CX0 2 "_law_with_minimums" ["_law_source_here", "_law_spec", "_law_layout", "_law_odds"] spWM) (cSt : Cal P w K mg base CX0 1 "_law_state" ["_law_layout"] (spSt K)) (g : mg "_law_drawn_pair" = some (.ref f)) :
    Cal P w K mg base CX0 5 "_law_drawn_pair" ["_law_source_here", "_law_max_rows", "_law_max_teeth", "_law_zip_count", "_law_odds"] (spPair K) :=
  ⟨f, fd, g, F.kp, F.binds (ps := ["_law_source_here", "_law_max_rows", "_law_max_teeth", "_law_zip_count", "_law_odds"]) fun _ _ _ _ _ _ us hl => match us, hl with | [_, _, _, _, _], _ => rfl, ok_pair F cDraw cCloth cOL cDM cWM cSt⟩
def spSize (K : PySem.W.Frag) : Sp := fun vs H Q _ => ∃ (a : Addr) (k : Nat), vs = [.ref a, .int 2] ∧ Src H a k ∧ k + 4000 < 2 ^ 20 ∧ PairOut K a (k + 1300) H Q
theorem two_of {x : V} {i j : Int} {n : Nat} (h : ([.int i, .int j] : List V)[n]? = some x) : x = .int i ∨ x = .int j := by
  match n, h with
  | 0, h => exact .inl (Option.some.inj h).symm
  | 1, h => exact .inr (Option.some.inj h).symm
  | n + 2, h => simp at h
theorem ok_size {f : Addr} {fd : FuncData} (F : Fun K "_law_any_size" "_law_any_size" sSize f fd) (cChoice : Cal P w K mg base CX0 2 "_law_choice" ["_law_source_here", "_law_some"] (spChoice K)) (cPair : Cal P w K mg base CX0 5 "_law_drawn_pair" ["_law_source_here", "_law_max_rows", "_law_max_teeth", "_law_zip_count", "_law_odds"] (spPair K)) :
    FnOk P w K mg base CX0 6 f fd ["_law_source_here", "_law_odds"] (spSize K) := by
  refine F.ok scSize (fun vs H Q E h => ?_) (fun cdv A outer s H vs Q E hr h => ?_)
  · obtain ⟨a, k, rfl, _⟩ := h
    rfl
  · obtain ⟨a, k, rfl, hs, hk, q⟩ := h
    refine ⟨_, (pss_cons (ps_par (i := 2) (j := 3) rfl scSize.nd rfl rfl (by decide) rfl rfl (pa_cons (pe_cal cChoice (hr.mono (by decide)) pass0 (by rfl) (pa_cons (pv 0) (pa_cons (pe_lst (pa_cons pe_int (pa_cons pe_int pa_nil))) pa_nil))) (pa_cons (pe_cal cChoice (hr.mono (by decide)) pass0 (by rfl) (pa_cons (pv 0) (pa_cons (pe_lst (pa_cons pe_int (pa_cons pe_int pa_nil))) pa_nil))) pa_nil)) rfl)
      (pss_one (ps_ret (pe_cal cPair (hr.mono (by decide)) pass0 (by rfl) (pa_cons (pv 0) (pa_cons (pv 2) (pa_cons (pv 3) (pa_cons (pe_cal cChoice (hr.mono (by decide)) pass0 (by rfl) (pa_cons (pv 0) (pa_cons (pe_lst (pa_cons pe_int (pa_cons pe_int pa_nil))) pa_nil))) (pa_cons (pv 1) pa_nil))))))))), ?_⟩
    obtain ⟨ys, ea⟩ := hs.lst
    refine ⟨.ref a, rfl, by show 2 ≤ sizeLine; decide, fun l1 n1 => ?_⟩
    have s1 := same_upd (o := .lst [.int 2, .int 6]) n1
    refine ⟨a, l1, [.int 2, .int 6], k, rfl, hs.same s1, by omega, (ne_of_none ea n1).symm, .inl (.inl upd_same), by decide, by decide, fun j1 x1 H1 hx1 b1 hs1 => ?_⟩
    obtain ⟨ys1, ea1⟩ := hs1.lst
    refine ⟨.ref a, rfl, by show 2 ≤ sizeLine; decide, fun l2 n2 => ?_⟩
    have s2 := same_upd (o := .lst [.int 4, .int 24]) n2
    refine ⟨a, l2, [.int 4, .int 24], k + 1, rfl, hs1.same s2, by omega, (ne_of_none ea1 n2).symm, .inl (.inl upd_same), by decide, by decide, fun j2 x2 H2 hx2 b2 hs2 => ?_⟩
    obtain ⟨ys2, ea2⟩ := hs2.lst
    obtain ⟨most, rfl, hm⟩ : ∃ most : Int, x1 = .int most ∧ (1 ≤ most ∧ most ≤ 6) := by
      rcases two_of hx1 with rfl | rfl
      · exact ⟨2, rfl, by omega, by omega⟩
      · exact ⟨6, rfl, by omega, by omega⟩
    obtain ⟨mt, rfl, ht⟩ : ∃ mt : Int, x2 = .int mt ∧ (1 ≤ mt ∧ mt ≤ 24) := by
      rcases two_of hx2 with rfl | rfl
      · exact ⟨4, rfl, by omega, by omega⟩
      · exact ⟨24, rfl, by omega, by omega⟩
    refine ⟨.int most, .int mt, rfl, ?_⟩
    refine ⟨.ref a, rfl, .int most, rfl, .int mt, rfl, .ref a, rfl, by show 2 ≤ sizeLine; decide, fun l3 n3 => ?_⟩
    have s3 := same_upd (o := .lst [.int 3, .int 8]) n3
    refine ⟨a, l3, [.int 3, .int 8], k + 1 + 1, rfl, hs2.same s3, by omega, (ne_of_none ea2 n3).symm, .inl (.inl upd_same), by decide, by decide, fun j3 x3 H3 hx3 b3 hs3 => ?_⟩
    obtain ⟨zc, rfl, hz⟩ : ∃ zc : Nat, x3 = .int (zc : Nat) ∧ zc ≤ 8 := by
      rcases two_of hx3 with rfl | rfl
      · exact ⟨3, rfl, by omega⟩
      · exact ⟨8, rfl, by omega⟩
    have bb : But a H H3 := (((But.of s1).trans b1).trans ((But.of s2).trans b2)).trans ((But.of s3).trans b3)
    refine ⟨.int 2, rfl, a, most, mt, zc, k + 1 + 1 + 1, rfl, hm.1, hm.2, ht.1, ht.2, hz, hs3, by omega, fun p sp v r z H' rs zs ps b s e1 e2 e3 e4 e5 e6 e7 e8 => ?_⟩
    exact q p sp v r z H' rs zs ps (bb.trans b) (s.mono (by omega)) e1 e2 e3 e4 e5 e6 e7 e8
theorem cal_size {f : Addr} {fd : FuncData} (F : Fun K "_law_any_size" "_law_any_size" sSize f fd) (cChoice : Cal P w K mg base CX0 2 "_law_choice" ["_law_source_here", "_law_some"] (spChoice K)) (cPair : Cal P w K mg base CX0 5 "_law_drawn_pair" ["_law_source_here", "_law_max_rows", "_law_max_teeth", "_law_zip_count", "_law_odds"] (spPair K)) (g : mg "_law_any_size" = some (.ref f)) :
    Cal P w K mg base CX0 6 "_law_any_size" ["_law_source_here", "_law_odds"] (spSize K) :=
  ⟨f, fd, g, F.kp, F.binds (ps := ["_law_source_here", "_law_odds"]) fun _ _ _ _ _ _ us hl => match us, hl with | [_, _], _ => rfl, ok_size F cChoice cPair⟩
end
end Zs
namespace Zs
open PySem PySem.Spec PyProof.Rows L2
/-! ### sum of a tuple of whole numbers -/
section
variable {X : Cx}
def rSumT (K : PySem.W.Frag) : List V → Hp → VK → Prop := fun vs H Q => ∃ (t : Addr) (ns : List Int), vs = [V.ref t] ∧ SqT K H t (ns.map V.int) ∧ Q (.int ns.sum) H
theorem cr_sumT (calm : X.calm = true) : CallR X (.builtin "sum") (rSumT X.K) := by
  rintro pins s σ H vs us Q inv vals ⟨t, ns, rfl, sq, q⟩
  obtain ⟨its, items, tup, fits⟩ := inv.tuple sq
  rw [Vals.ref1 vals]
  obtain ⟨prs, hp⟩ := (intsAre_of items).allInts.items
  have nums : numsOf (intItems prs).toList = ns := by rw [← hp]; exact (intsAre_of items).numsOf
  rw [nums_intItems] at nums
  have tup2 : s.heap.IsTuple t (intItems prs) := by rw [← hp]; exact tup
  refine PySem.W.ktm_sumG (inv.ok.hd calm) tup2 fun h' tk t' kept => ?_
  rw [preSum_eq, List.take_of_length_le (by simp), nums]
  exact ⟨.int ns.sum, H, inv.kept kept, ⟨t', rfl⟩, q⟩
/-! ### xs[::-1] -/
def tBack (K : PySem.W.Frag) (te : TE) (ts : TO) : TE := fun σ H Q => te σ H fun x H1 => ts σ H1 fun o H2 => o = some (-1) ∧ ∃ a xs, x = .ref a ∧ SqL K H2 a xs ∧ ∀ p, H2 p = none → Q (.ref p) (upd H2 p (.lst xs.reverse))
theorem vals_back : ∀ {xs : List V} {us : List Value}, Vals xs us → Vals xs.reverse us.reverse
  | _, _, .nil => .nil
  | _, _, .cons h t => by
    rw [List.reverse_cons, List.reverse_cons]
    exact paired_app (vals_back t) (.cons h .nil)
theorem part_none {pins : List (Addr × Obj)} {s : Shared} {Q : Value → Shared → Prop} (q : Q .none s) : wpAny (model X.prog X.w) X.A (evalPart none X.env) Q X.xe s := by
  rw [evalPart_none]
  exact wpAny_pure q
theorem pe_back {e st : Expr} {te : TE} {ts : TO} {p2 pos : Pos} (he : PE X e te) (hs : PO X (some st) ts) : PE X (.Subscript e (.Slice none none (some st) p2) pos) (tBack X.K te ts) := by
  constructor
  intro pins s σ H Q inv read
  refine Subscript_ (thn (he.run pins s σ H _ inv read) ?_)
  rintro v s1 ⟨x, H1, I1, r1, q1⟩
  refine wpAny_Slice (part_none (pins := pins) (part_none (pins := pins) (thn (hs.run pins s1 σ H1 _ I1 q1) ?_)))
  rintro vk s3 ⟨o, H3, I3, pk, rfl, a, xs, rfl, sq, q⟩
  cases r1
  have I4 : Inv X pins σ H3 { s3 with heap := s3.heap.push { cls := .type "slice", data := .fields #[.none, .none, vk] } } := I3.kept (t' := s3.toks) fun b u at_ => Heap.get?_push_of_some _ at_
  obtain ⟨its, items, list, fits⟩ := I4.list sq
  refine tail_any (ops := [.ref a, .ref s3.heap.objs.size]) (T := "list") list.isList.typeIs slot_list_getitem.lookup ?_ (by with_unfolding_all rfl)
  refine wpAny_getItem_list_slice list.isList (Heap.IsSliceOf.new ..) .none .none pk (by decide) ?_ (by rw [List.size_toArray, ← items.length]; exact fits)
  rw [PySem.W.krv_pick]
  exact ⟨.ref _, _, I4.lnew (t' := s3.toks) (vals_back items) (by rw [List.length_reverse]; exact fits), rfl, q _ (I4.hok.fresh (Nat.le_refl _))⟩
/-! ### list(zip(xs, ys)) of two lists -/
abbrev PrV (H : Hp) (t : Addr) (q : V × V) : Prop := H t = some (.tup [q.1, q.2])
/-- a zip over two lists after i of its turns; the pair that it gave last is still held -/
structure ZS (h : Heap) (H : Hp) (z TI TO i1 i2 a b : Addr) (i : Nat) : Prop where
  out : (IsZip h z TI TO .none ∧ ∃ p q, IsPair h TO p q) ∨ ∃ T f u, IsZipHeld h z TI TO T f ∧ H T = some (.tup u)
  ins : IsPair h TI (.ref i1) (.ref i2)
  it1 : h.IsListIter i1 a i
  it2 : h.IsListIter i2 b i
  low : ∀ c ∈ [z, TI, TO, i1, i2], c < h.objs.size
theorem five {z TI TO i1 i2 c : Addr} (n1 : c ≠ z) (n2 : c ≠ TI) (n3 : c ≠ TO) (n4 : c ≠ i1) (n5 : c ≠ i2) : c ∉ [z, TI, TO, i1, i2] := by
  intro m
  rcases (show c = z ∨ c = TI ∨ c = TO ∨ c = i1 ∨ c = i2 by simpa using m) with e | e | e | e | e
  · exact n1 e
  · exact n2 e
  · exact n3 e
  · exact n4 e
  · exact n5 e
theorem ne5 {z TI TO i1 i2 c : Addr} (m : c ∉ [z, TI, TO, i1, i2]) : c ≠ z ∧ c ≠ TI ∧ c ≠ TO ∧ c ≠ i1 ∧ c ≠ i2 := by
  simpa using m
theorem zs_next {A : Around} {E : Value → Shared → Prop} {pins : List (Addr × Obj)} {σ : L2.St} {H : Hp} {s : Shared} {z TI TO i1 i2 a b : Addr} {i : Nat} {xs ys : List V} {x y : V} (D : ZipApart z TI TO i1 i2 a b) (I : Inv X pins σ H s) (Z : ZS s.heap H z TI TO i1 i2 a b i)
    (ok : ∀ c ∈ [z, TI, TO, i1, i2], FpOk X pins H c) (sa : SqL X.K H a xs) (sb : SqL X.K H b ys) (hx : xs[i]? = some x) (hy : ys[i]? = some y) {Q : Option Value → Shared → Prop}
    (q : ∀ s' T, H T = none → T ∉ [z, TI, TO, i1, i2] → Inv X pins σ (upd H T (.tup [x, y])) s' → ZS s'.heap (upd H T (.tup [x, y])) z TI TO i1 i2 a b (i + 1) → Q (some (.ref T)) s') : wpAny (model X.prog X.w) A (pyNext (.ref z)) Q E s := by
  obtain ⟨its, rel, la, _⟩ := I.list sa
  obtain ⟨its2, rel2, lb, _⟩ := I.list sb
  obtain ⟨u, hu, ru⟩ := paired_get rel hx
  obtain ⟨v, hv, rv⟩ := paired_get rel2 hy
  have nT : H s.heap.objs.size = none := I.hok.fresh (Nat.le_refl _)
  have off : s.heap.objs.size ∉ [z, TI, TO, i1, i2] := fun m => Nat.lt_irrefl _ (Z.low _ m)
  have hu' : its.toArray[i]? = some u := by rw [List.getElem?_toArray]; exact hu
  have hv' : its2.toArray[i]? = some v := by rw [List.getElem?_toArray]; exact hv
  have fin : ∀ h' : Heap, (IsZipHeld h' z TI TO s.heap.objs.size false ∨ ∃ T f w, IsZipHeld h' z TI TO T f ∧ H T = some (.tup w)) → h'.IsListIter i1 a (i + 1) → h'.IsListIter i2 b (i + 1) → IsPair h' s.heap.objs.size u v → h'.objs.size = s.heap.objs.size + 1 →
      (∀ c o, c ∉ [z, TI, TO, i1, i2] → s.heap.get? c = some o → h'.get? c = some o) → IsPair h' TI (.ref i1) (.ref i2) → Q (some (.ref s.heap.objs.size)) { s with heap := h' } := by
    intro h' zp j1 j2 pr sz kept ins
    refine q { s with heap := h' } s.heap.objs.size nT off (I.turnedNew (t' := s.toks) kept ok (Nat.le_refl _) ⟨by show 2 ≤ sizeLine; decide, [u, v], .cons ru (.cons rv .nil), _, pr, rfl, _, rfl⟩) ⟨?_, ins, j1, j2, fun c m => ?_⟩
    · rcases zp with e | ⟨T, f, w, e, t⟩
      · exact .inr ⟨_, _, _, e, upd_same⟩
      · exact .inr ⟨T, f, w, e, by rw [upd_ne (ne_of_none t nT)]; exact t⟩
    · show c < h'.objs.size
      rw [sz]
      exact Nat.lt_succ_of_lt (Z.low c m)
  rcases Z.out with ⟨free, p0, q0, hTO⟩ | ⟨T, f, w, held, t⟩
  · refine wpAny_pyNext_zip_item D free Z.ins hTO Z.it1 Z.it2 la.isList lb.isList hu' hv' fun h' e1 e2 e3 e4 e5 e6 kept => ?_
    refine fin h' (.inl e1) e3 e4 e5 e6 (fun c o m => ?_) (kept _ _ D.TIz D.TITO D.TIi1 D.TIi2 Z.ins)
    obtain ⟨n1, n2, n3, n4, n5⟩ := ne5 m
    exact kept c o n1 n3 n4 n5
  · obtain ⟨_, _, _, oT, eT, _⟩ := I.hok T _ t
    refine wpAny_pyNext_zip_item_held D held eT Z.ins Z.it1 Z.it2 la.isList lb.isList hu' hv' fun h' e1 e3 e4 e5 e6 kept => ?_
    refine fin h' (.inr ⟨T, true, w, e1, t⟩) e3 e4 e5 e6 (fun c o m => ?_) (kept _ _ D.TIz D.TIi1 D.TIi2 Z.ins)
    obtain ⟨n1, n2, n3, n4, n5⟩ := ne5 m
    exact kept c o n1 n4 n5
theorem zs_end {A : Around} {E : Value → Shared → Prop} {pins : List (Addr × Obj)} {σ : L2.St} {H : Hp} {s : Shared} {z TI TO i1 i2 a b : Addr} {i : Nat} {xs ys : List V} (calm : A.handled = none) (D : ZipApart z TI TO i1 i2 a b) (I : Inv X pins σ H s) (Z : ZS s.heap H z TI TO i1 i2 a b i)
    (ok : ∀ c ∈ [z, TI, TO, i1, i2], FpOk X pins H c) (sa : SqL X.K H a xs) (sb : SqL X.K H b ys) (hx : xs.length ≤ i) {Q : Option Value → Shared → Prop}
    (q : ∀ s', Inv X pins σ H s' → Q none s') : wpAny (model X.prog X.w) A (pyNext (.ref z)) Q E s := by
  obtain ⟨its, rel, la, _⟩ := I.list sa
  obtain ⟨its2, rel2, lb, _⟩ := I.list sb
  have over : its.toArray[i]? = none ∨ its2.toArray[i]? = none := .inl (by rw [List.getElem?_toArray]; exact List.getElem?_eq_none (by rw [← rel.length]; exact hx))
  rcases Z.out with ⟨free, p0, q0, hTO⟩ | ⟨T, f, w, held, t⟩
  · refine wpAny_pyNext_zip_end calm D free Z.ins hTO Z.it1 Z.it2 la.isList lb.isList over fun h' kept => q _ (I.turnedL (t' := s.toks) (ch := [z, TI, TO, i1, i2]) (fun c o m => ?_) ok)
    obtain ⟨n1, n2, n3, n4, n5⟩ := ne5 m
    exact kept c o n1 n3 n4 n5
  · obtain ⟨_, _, _, oT, eT, _⟩ := I.hok T _ t
    refine wpAny_pyNext_zip_end_held calm D held eT Z.ins Z.it1 Z.it2 la.isList lb.isList over fun h' kept => q _ (I.turnedL (t' := s.toks) (ch := [z, TI, TO, i1, i2]) (fun c o m => ?_) ok)
    obtain ⟨n1, n2, n3, n4, n5⟩ := ne5 m
    exact kept c o n1 n4 n5
theorem zs_loop {A : Around} {R : Result → Shared → Prop} {pins : List (Addr × Obj)} {σ : L2.St} {z TI TO i1 i2 a b S : Addr} {xs ys : List V} (calm : A.in1.handled = none) (D : ZipApart z TI TO i1 i2 a b) (len : xs.length = ys.length) (fits : xs.length ≤ sizeLine) (aS : a ≠ S) (bS : b ≠ S) (H0 : Hp) :
    ∀ (k i : Nat) (s : Shared) (H : Hp) (ts : List Addr), i + k = xs.length → Inv X pins σ H s → ZS s.heap H z TI TO i1 i2 a b i → (∀ c ∈ [z, TI, TO, i1, i2], FpOk X pins H c) → SqL X.K H a xs → SqL X.K H b ys → H S = some (.lst (ts.map V.ref)) → Paired (PrV H) ts ((xs.zip ys).take i) → (∀ c, H c = none → H0 c = none) → (∀ t ∈ ts, H0 t = none) →
      (∀ s' H' ts', Inv X pins σ H' s' → (∀ c o, c ≠ S → H c = some o → H' c = some o) → H' S = some (.lst (ts'.map V.ref)) → Paired (PrV H') ts' (xs.zip ys) → (∀ t ∈ ts', H0 t = none) → R (.ok (.ret .none)) s') →
      codeAny (model X.prog X.w) A (.builtin "list.extend.loop" ⟨[.ref S, .ref z, .none], []⟩) R s := by
  intro k
  induction k with
  | zero =>
    intro i s H ts sum I Z ok sa sb hS pr off0 nts done
    refine codeAny_builtin PySem.F.entry_extend_loop ?_
    rw [Around.under_plainId PySem.F.plain_extend_loop]
    have all : (xs.zip ys).take i = xs.zip ys := List.take_of_length_le (by rw [List.length_zip]; omega)
    refine wpAny_bind (m := pyNext (.ref z)) (zs_end calm D I Z ok sa sb (by omega) fun s' I' => wpAny_pure ?_)
    exact done s' H ts I' (fun c o _ e => e) hS (by rw [all] at pr; exact pr) nts
  | succ k ih =>
    intro i s H ts sum I Z ok sa sb hS pr off0 nts done
    refine codeAny_builtin PySem.F.entry_extend_loop ?_
    rw [Around.under_plainId PySem.F.plain_extend_loop]
    have l1 : i < xs.length := by omega
    have l2 : i < ys.length := by omega
    have hz : (xs.zip ys)[i]? = some (xs[i], ys[i]) := by
      rw [List.getElem?_zip_eq_some]
      exact ⟨List.getElem?_eq_getElem l1, List.getElem?_eq_getElem l2⟩
    refine wpAny_bind (m := pyNext (.ref z)) (zs_next D I Z ok sa sb (List.getElem?_eq_getElem l1) (List.getElem?_eq_getElem l2) fun s1 T nT offT I1 Z1 => ?_)
    have ST : S ≠ T := ne_of_none hS nT
    have hS1 : (upd H T (.tup [xs[i], ys[i]])) S = some (.lst (ts.map V.ref)) := by rw [upd_ne ST]; exact hS
    obtain ⟨z1, its, n, rel, il, eS⟩ := I1.lstM hS1
    have tl : ts.length = i := by
      rw [pr.length, List.length_take, List.length_zip]
      omega
    have sizes : its.length = i := by rw [← il, List.length_map, tl]
    refine wpAny_bind (m := updateSeq S fun arr => arr.push (.ref T)) (wpAny_updateSeq eS rfl (wpAny_pure ⟨plainId_quiet PySem.F.plain_extend_loop _, ?_⟩) (by rw [List.size_toArray]; omega) (by show (its.toArray.push (.ref T)).size ≤ sizeLine + 1; rw [Array.size_push, List.size_toArray]; omega))
    have I2 := I1.lset (f := fun arr => arr.push (.ref T)) (its' := its ++ [.ref T]) (ys := (ts ++ [T]).map V.ref) (t' := s1.toks) hS1 eS (by simp) (by rw [List.map_append]; exact paired_app rel (.cons rfl .nil)) (by rw [List.length_map, List.length_append, tl]; show i + 1 ≤ sizeLine; omega)
    have keep : ∀ c o, c ≠ S → H c = some o → (upd (upd H T (.tup [xs[i], ys[i]])) S (.lst ((ts ++ [T]).map V.ref))) c = some o := fun c o n e => by rw [upd_ne n, upd_ne (ne_of_none e nT)]; exact e
    have eT : (upd (upd H T (.tup [xs[i], ys[i]])) S (.lst ((ts ++ [T]).map V.ref))) T = some (.tup [xs[i], ys[i]]) := by rw [upd_ne ST.symm, upd_same]
    have offS : S ∉ [z, TI, TO, i1, i2] := fun m => by
      have := (ok S m).1
      rw [hS] at this
      cases this
    have old : ∀ c o, c ≠ S → s1.heap.get? c = some o → (s1.heap.update S (Obj.mapSeq fun arr => arr.push (.ref T))).get? c = some o := fun c o n e => (Heap.get?_update_other _ _ (Ne.symm n)).trans e
    obtain ⟨m1, m2, m3, m4, m5⟩ := ne5 offS
    refine ih (i + 1) _ _ (ts ++ [T]) (by omega) I2 ⟨?_, old _ _ m2.symm Z1.ins, Z1.it1.at fun o e => old _ o m4.symm e, Z1.it2.at fun o e => old _ o m5.symm e, fun c m => ?_⟩ (fun c m => ⟨?_, (ok c m).2⟩) ?_ ?_ upd_same ?_ ?_ ?_ fun s' H' ts' I' kp e1 e2 e3 => done s' H' ts' I' (fun c o n e => kp c o n (keep c o n e)) e1 e2 e3
    · rcases Z1.out with ⟨e, p0, q0, e2⟩ | ⟨T2, f, u, e, t⟩
      · exact .inl ⟨old _ _ m1.symm e, p0, q0, old _ _ m3.symm e2⟩
      · refine .inr ⟨T2, f, u, old _ _ m1.symm e, ?_⟩
        rw [upd_ne (ne_of t hS1 (by intro z; cases z))]
        exact t
    · show c < (s1.heap.update S _).objs.size
      rw [Heap.size_update]
      exact Z1.low c m
    · have nc : c ≠ S := fun e => offS (e ▸ m)
      have nc2 : c ≠ T := fun e => offT (e ▸ m)
      rw [upd_ne nc, upd_ne nc2]
      exact (ok c m).1
    · rcases sa with (h | ⟨o, h⟩) | h
      · exact .inl (.inl (keep _ _ aS h))
      · exact .inl (.inr ⟨o, keep _ _ aS h⟩)
      · exact .inr h
    · rcases sb with (h | ⟨o, h⟩) | h
      · exact .inl (.inl (keep _ _ bS h))
      · exact .inl (.inr ⟨o, keep _ _ bS h⟩)
      · exact .inr h
    · rw [take_succ_of hz]
      exact paired_app (Paired.mono (fun t w e => keep t _ (ne_of e hS (by intro z; cases z)) e) pr) (.cons eT .nil)
    · intro c hc
      refine off0 c ?_
      by_cases cS : c = S
      · rw [cS, upd_same] at hc
        cases hc
      · rw [upd_ne cS] at hc
        by_cases cT : c = T
        · rw [cT, upd_same] at hc
          cases hc
        · rw [upd_ne cT] at hc
          exact hc
    · intro t mt
      rcases List.mem_append.mp mt with z | z
      · exact nts t z
      · rw [List.mem_singleton.mp z]
        exact off0 T nT
theorem zip_len : typeLookup (.type "zip") "__len__" = pure none := am_miss_of_fast (by decide +kernel)
theorem zip_hint : typeLookup (.type "zip") "__length_hint__" = pure none := am_miss_of_fast (by decide +kernel)
def tLz (K : PySem.W.Frag) (ta : TA) : TE := fun σ H Q => ta σ H fun vs H1 => ∃ a b xs ys, vs = [V.ref a, V.ref b] ∧ SqL K H1 a xs ∧ SqL K H1 b ys ∧ xs.length = ys.length ∧
  ∀ (l : Addr) (ts : List Addr) (H' : Hp), Same H1 H' → H1 l = none → H' l = some (.lst (ts.map V.ref)) → Paired (PrV H') ts (xs.zip ys) → (∀ t ∈ ts, H1 t = none) → Q (.ref l) H'
theorem zip_room {A : Around} {E : Value → Shared → Prop} {s : Shared} {z : Addr} {Q : Bool → Shared → Prop} (type : s.TypeIs (.ref z) "zip") (q : Q true s) : wpAny (model X.prog X.w) A (Builtin.List.listLengthHint (.ref z)) Q E s := by
  unfold Builtin.List.listLengthHint
  refine wpAny_bind (wpAny_specialOf type zip_len ?_)
  refine wpAny_bind (m := specialOf (.ref z) (Str.ofString "__length_hint__")) (wpAny_specialOf type zip_hint ?_)
  exact wpAny_pure q
/-- the list takes all that a zip gives -/
theorem zs_extend {A : Around} {R : Result → Shared → Prop} {E : Value → Shared → Prop} {pins : List (Addr × Obj)} {σ : L2.St} {z TI TO i1 i2 a b S : Addr} {xs ys : List V} {s : Shared} {H : Hp} (calm : A.in1.handled = none) (D : ZipApart z TI TO i1 i2 a b) (len : xs.length = ys.length) (fits : xs.length ≤ sizeLine)
    (I : Inv X pins σ H s) (Z : ZS s.heap H z TI TO i1 i2 a b 0) (free : IsZip s.heap z TI TO .none) (ok : ∀ c ∈ [z, TI, TO, i1, i2], FpOk X pins H c) (sa : SqL X.K H a xs) (sb : SqL X.K H b ys) (aS : a ≠ S) (bS : b ≠ S) (hS : H S = some (.lst []))
    (done : ∀ s' H' ts', Inv X pins σ H' s' → (∀ c o, c ≠ S → H c = some o → H' c = some o) → H' S = some (.lst (ts'.map V.ref)) → Paired (PrV H') ts' (xs.zip ys) → (∀ t ∈ ts', H t = none) → R (.ok (.ret .none)) s') :
    wpAny (model X.prog X.w) A.in1 (Builtin.List.listExtendWith (.ref S) (.ref z) .none) (fun fin s' => match fin with | .done f => R (.ok f) s' | .again c' => c'.quiet = true ∧ codeAny (model X.prog X.w) A c' R s') E s := by
  have type : s.TypeIs (.ref z) "zip" := ⟨_, free, rfl⟩
  have Sz : S ≠ z := fun e => by
    have := (ok z (by simp)).1
    rw [← e, hS] at this
    cases this
  unfold Builtin.List.listExtendWith
  refine wpAny_bind (wpAny_typeOf type ?_)
  rw [show (Builtin.List.listSameRef (.ref S) (.ref z) || Value.type "zip" == Value.type "list" || Value.type "zip" == Value.type "tuple") = false by
    rw [show Builtin.List.listSameRef (.ref S) (.ref z) = false by simp [Builtin.List.listSameRef, Sz]]
    decide]
  refine wpAny_ite_split (fun e => by cases e) fun _ => ?_
  refine wpAny_bind (wpAny_pyIter_zip free ?_)
  refine wpAny_bind (wpAny_holding (zip_room type ?_))
  refine wpAny_ite_split (fun _ => ?_) fun n => absurd rfl n
  refine wpAny_bind (wpAny_rule ?_)
  obtain ⟨_, its, n, rel, _, eS⟩ := I.lstM hS
  cases rel
  have I1 := I.lset (f := fun arr => arr.push .none) (its' := [.none]) (ys := [.non]) (t' := s.toks) hS eS rfl (.cons rfl .nil) (by show 1 ≤ sizeLine; decide)
  have eS1 := Heap.get?_update_self (Obj.mapSeq fun arr => arr.push Value.none) eS rfl
  have I2 := I1.lset (f := fun arr => arr.pop) (its := [.none]) (its' := []) (ys := []) (t' := s.toks) upd_same eS1 rfl .nil (Nat.zero_le _)
  rw [upd_upd] at I2
  refine wpAny_bind (m := Builtin.List.listTouch (.ref S)) ?_
  refine wpAny_bind (m := updateSeq S fun arr => arr.push .none) (wpAny_updateSeq eS rfl ?_)
  refine wpAny_updateSeq (hz := by seq_fits) eS1 rfl ?_
  have offS : S ∉ [z, TI, TO, i1, i2] := fun m => by
    have := (ok S m).1
    rw [hS] at this
    cases this
  obtain ⟨m1, m2, m3, m4, m5⟩ := ne5 offS
  have keep : ∀ c o, c ≠ S → H c = some o → (upd H S (.lst [])) c = some o := fun c o n e => by rw [upd_ne n]; exact e
  have old : ∀ c o, c ≠ S → s.heap.get? c = some o → ((s.heap.update S (Obj.mapSeq fun arr => arr.push Value.none)).update S (Obj.mapSeq fun arr => arr.pop)).get? c = some o :=
    fun c o n e => (Heap.get?_update_other _ _ (Ne.symm n)).trans ((Heap.get?_update_other _ _ (Ne.symm n)).trans e)
  refine wpAny_pure ⟨plainId_quiet PySem.F.plain_extend_loop _, zs_loop calm D len fits aS bS H xs.length 0 _ _ [] (Nat.zero_add _) I2 ⟨?_, old _ _ m2.symm Z.ins, Z.it1.at fun o e => old _ o m4.symm e, Z.it2.at fun o e => old _ o m5.symm e, fun c m => ?_⟩ (fun c m => ⟨?_, (ok c m).2⟩) ?_ ?_ upd_same (by rw [List.take_zero]; exact .nil) (fun c hc => by
    by_cases cS : c = S
    · rw [cS, upd_same] at hc
      cases hc
    · rw [upd_ne cS] at hc
      exact hc) (by simp) fun s' H' ts' I' kp e1 e2 e3 => done s' H' ts' I' (fun c o n e => kp c o n (keep c o n e)) e1 e2 e3⟩
  · rcases Z.out with ⟨e, p0, q0, e2⟩ | ⟨T, f, u, e, _⟩
    · exact .inl ⟨old _ _ m1.symm e, p0, q0, old _ _ m3.symm e2⟩
    · have no := free.symm.trans e
      simp [rawInt] at no
  · show c < (Heap.update _ S _).objs.size
    rw [Heap.size_update, Heap.size_update]
    exact Z.low c m
  · have nc : c ≠ S := fun e => offS (e ▸ m)
    rw [upd_ne nc]
    exact (ok c m).1
  · rcases sa with (h | ⟨o, h⟩) | h
    · exact .inl (.inl (keep _ _ aS h))
    · exact .inl (.inr ⟨o, keep _ _ aS h⟩)
    · exact .inr h
  · rcases sb with (h | ⟨o, h⟩) | h
    · exact .inl (.inl (keep _ _ bS h))
    · exact .inl (.inr ⟨o, keep _ _ bS h⟩)
    · exact .inr h
theorem pe_listZip {e e2 : Expr} {ta : TA} {p p2 pos pos2 : Pos} (calm : X.calm = true) (hgl : Gl X "list") (hml : X.mg "list" = none) (hgz : Gl X "zip") (hmz : X.mg "zip" = none) (ha : PA X [e, e2] ta)
    (out : Plain1 X (.Call (.Name "zip" p2) [e, e2] [] pos2) [] := by rfl) (one : Plain1 X e [e2] := by rfl) (two : PlainR X pos2 [e2] := by rfl) : PE X (.Call (.Name "list" p) [.Call (.Name "zip" p2) [e, e2] [] pos2] [] pos) (tLz X.K ta) := by
  constructor
  intro pins s σ H Q inv read
  refine Call_ (ld_blt inv hgl hml (show bootBuiltins "list" = some (.type "list") by decide +kernel) (PyProof.Rows.callWith_type1 ?_ out rfl))
  rw [out]
  refine Calls.spliced_cons ?_
  have args := ha.run pos2 pins s σ H _ inv read
  refine Call_ (ld_blt inv hgz hmz PyProof.Rows.boot_zip (PyProof.Rows.callWith_type1 (thn args ?_) one two))
  rintro us s1 ⟨vs, H1, I1, rel1, a, b, xs, ys, rfl, sa, sb, len, rest⟩
  have two_refs : us = [Value.ref a, Value.ref b] := by
    cases rel1 with | cons ra rb => ?_
    cases ra
    rw [Vals.ref1 rb]
  subst two_refs
  obtain ⟨its, rel, la, fits⟩ := I1.list sa
  obtain ⟨its2, rel2, lb, fits2⟩ := I1.list sb
  refine zip_begins2 (begins_list a its.toArray) (begins_list b its2.toArray) la.isList lb.isList fun h' hz hTI hTO g1 g2 hsz kept => ?_
  refine Calls.spliced_nil ?_
  have lta : a < s1.heap.objs.size := la.lt
  have ltb : b < s1.heap.objs.size := lb.lt
  have I2 : Inv X pins σ H1 { s1 with heap := h' } := I1.kept (t' := s1.toks) kept
  have nS : H1 h'.objs.size = none := I2.hok.fresh (Nat.le_refl _)
  have I3 : Inv X pins σ (upd H1 h'.objs.size (.lst [])) { s1 with heap := h'.push { cls := .type "list", data := .seq #[] } } := I2.lnew (its := []) (t' := s1.toks) .nil (Nat.zero_le _)
  have hS : (h'.push { cls := .type "list", data := .seq #[] }).get? h'.objs.size = some { cls := .type "list", data := .seq #[] } := Heap.get?_push_size _ rfl
  refine callType_codes (Q₁ := fun v t => v = .ref h'.objs.size ∧ t = { s1 with heap := h'.push { cls := .type "list", data := .seq #[] } }) PySem.F.called_list (PySem.F.typeCall_list_1 _) PySem.F.entry_list_init (code_list_new _ ⟨rfl, rfl⟩) ?_
  rintro v t ⟨rfl, rfl⟩
  refine ⟨⟨_, hS, rfl⟩, PySem.F.args_list_init_2 _ _, ?_⟩
  have I4 := I3.lset (f := fun _ => #[]) (its := []) (its' := []) (ys := []) (t' := s1.toks) upd_same hS rfl .nil (Nat.zero_le _)
  rw [upd_upd] at I4
  refine wpAny_bind (m := Builtin.List.listItems (.ref h'.objs.size)) (wpAny_bind (m := seqItems? (.ref h'.objs.size)) (wpAny_seqItems hS rfl (wpAny_pure ?_)))
  refine wpAny_bind (m := updateSeq h'.objs.size fun _ => #[]) (wpAny_updateSeq hS rfl (wpAny_bind (wpAny_letGo ?_)))
  have old : ∀ c o, h'.get? c = some o → ((h'.push { cls := .type "list", data := .seq #[] }).update h'.objs.size (Obj.mapSeq fun _ => #[])).get? c = some o := fun c o at_ => (Heap.get?_update_other _ _ (Nat.ne_of_gt (Heap.lt_size at_))).trans (Heap.get?_push_of_some _ at_)
  have lows : ∀ c ∈ [s1.heap.objs.size + 4, s1.heap.objs.size + 2, s1.heap.objs.size + 3, s1.heap.objs.size, s1.heap.objs.size + 1], s1.heap.objs.size ≤ c ∧ c < h'.objs.size := fun c m => by
    rw [hsz]
    rcases (show c = s1.heap.objs.size + 4 ∨ c = s1.heap.objs.size + 2 ∨ c = s1.heap.objs.size + 3 ∨ c = s1.heap.objs.size ∨ c = s1.heap.objs.size + 1 by simpa using m) with rfl | rfl | rfl | rfl | rfl
    · exact ⟨Nat.le_add_right _ _, Nat.add_lt_add_left (show 4 < 5 by decide) _⟩
    · exact ⟨Nat.le_add_right _ _, Nat.add_lt_add_left (show 2 < 5 by decide) _⟩
    · exact ⟨Nat.le_add_right _ _, Nat.add_lt_add_left (show 3 < 5 by decide) _⟩
    · exact ⟨Nat.le_refl _, Nat.lt_add_of_pos_right (show 0 < 5 by decide)⟩
    · exact ⟨Nat.le_add_right _ _, Nat.add_lt_add_left (show 1 < 5 by decide) _⟩
  have sm : Same H1 (upd H1 h'.objs.size (.lst [])) := same_upd nS
  refine zs_extend (A := X.A.in1) (R := wants (fun r t => r = .none ∧ EP X pins σ Q (.ref h'.objs.size) t) X.xe) (I1.ok.hd calm) (zipApart_new lta ltb) len fits I4 ⟨.inl ⟨old _ _ hz, _, _, old _ _ hTO⟩, old _ _ hTI, ⟨_, old _ _ g1, rfl, rfl⟩, ⟨_, old _ _ g2, rfl, rfl⟩, fun c m => ?_⟩ (old _ _ hz) (fun c m => ?_) (sm.seq sa) (sm.seq sb) ?_ ?_ upd_same ?_
  · show c < (Heap.update _ _ _).objs.size
    rw [Heap.size_update, Heap.size_push]
    exact Nat.lt_succ_of_lt (lows c m).2
  · exact I1.fpOk (lows c m).1 (by rw [upd_ne (Nat.ne_of_lt (lows c m).2)]; exact I1.hok.fresh (lows c m).1)
  · exact Nat.ne_of_lt (Nat.lt_of_lt_of_le lta (by rw [hsz]; exact Nat.le_add_right _ _))
  · exact Nat.ne_of_lt (Nat.lt_of_lt_of_le ltb (by rw [hsz]; exact Nat.le_add_right _ _))
  · intro s' H' ts' I' kp e1 e2 e3
    exact ⟨rfl, .ref h'.objs.size, H', I', rfl, rest _ ts' H' (fun c o at_ => kp c o (ne_of_none at_ nS) (sm _ _ at_)) nS e1 e2 fun t mt => sm.free (e3 t mt)⟩
end
end Zs
namespace Zs
open PySem PySem.Spec PyProof.Rows L2
/-! ### the teeth that are held, row by row -/
def posL (ps : List P3) (xs : List Foot) : List Int := xs.flatMap fun x => (List.range (manyAt ps x).toNat).map fun (k : Nat) => lowAt ps x + (k : Int)
def teethL (i : Nat) (T low : Int) (n : Nat) : List Foot := (List.range n).map fun (k : Nat) => ((i : Int), (low + (k : Int)) % T)
def rowTeeth (i : Nat) (ro : Row) (ps : List P3) : List Foot := ro.feet.flatMap fun x => teethL i ro.teeth (lowAt ps x) (manyAt ps x).toNat
theorem chk_cons {ps : List P3} {x : Foot} {xs : List Foot} {b m : Int} (h : chk ps (x :: xs) b m = true) : b ≤ lowAt ps x ∧ chk ps xs (highAt ps x) m = true := by
  have h' : (decide (lowAt ps x - b ≥ 0) && chk ps xs (highAt ps x) m) = true := h
  have ⟨h1, h2⟩ := Bool.and_eq_true_iff.mp h'
  have := of_decide_eq_true h1
  exact ⟨by omega, h2⟩
theorem chk_le {ps : List P3} {m : Int} : ∀ {xs : List Foot} {b : Int}, chk ps xs b m = true → (∀ x ∈ xs, 0 ≤ manyAt ps x) → b ≤ m
  | [], b, h, _ => by
    have := of_decide_eq_true (show decide (m - b ≥ 0) = true from h)
    omega
  | x :: xs, b, h, nn => by
    obtain ⟨h1, h2⟩ := chk_cons h
    have h3 := chk_le h2 fun y hy => nn y (List.mem_cons_of_mem _ hy)
    have h4 := nn x (List.mem_cons_self ..)
    unfold highAt at h3
    omega
theorem chk_in {ps : List P3} {m : Int} : ∀ {xs : List Foot} {b : Int}, chk ps xs b m = true → (∀ x ∈ xs, 0 ≤ manyAt ps x) → ∀ x ∈ xs, b ≤ lowAt ps x ∧ highAt ps x ≤ m
  | y :: xs, b, h, nn, x, hx => by
    obtain ⟨h1, h2⟩ := chk_cons h
    have nn2 : ∀ z ∈ xs, 0 ≤ manyAt ps z := fun z hz => nn z (List.mem_cons_of_mem _ hz)
    rcases List.mem_cons.mp hx with e | hx
    · subst e
      exact ⟨h1, chk_le h2 nn2⟩
    · have h3 := chk_in h2 nn2 x hx
      have h4 := nn y (List.mem_cons_self ..)
      unfold highAt at h3 ⊢
      exact ⟨by omega, h3.2⟩
theorem pos_mem {ps : List P3} {xs : List Foot} {p : Int} (h : p ∈ posL ps xs) (nn : ∀ x ∈ xs, 0 ≤ manyAt ps x) : ∃ x ∈ xs, lowAt ps x ≤ p ∧ p < highAt ps x := by
  obtain ⟨x, hx, hp⟩ := List.mem_flatMap.mp h
  obtain ⟨k, hk, e⟩ := List.mem_map.mp hp
  have h1 := List.mem_range.mp hk
  have h2 := nn x hx
  refine ⟨x, hx, by omega, ?_⟩
  unfold highAt
  omega
theorem pos_low {ps : List P3} {m : Int} {xs : List Foot} {b : Int} (h : chk ps xs b m = true) (nn : ∀ x ∈ xs, 0 ≤ manyAt ps x) : ∀ p ∈ posL ps xs, b ≤ p ∧ p < m := fun p hp => by
  obtain ⟨x, hx, h1, h2⟩ := pos_mem hp nn
  have := chk_in h nn x hx
  omega
theorem up_range (a : Int) (n : Nat) : ((List.range n).map fun (k : Nat) => a + (k : Int)).Pairwise (· < ·) := by
  refine List.pairwise_map.mpr ?_
  refine List.Pairwise.imp ?_ (List.pairwise_lt_range (n := n))
  intro i j h
  show a + (i : Int) < a + (j : Int)
  omega
theorem pos_up {ps : List P3} {m : Int} : ∀ {xs : List Foot} {b : Int}, chk ps xs b m = true → (∀ x ∈ xs, 0 ≤ manyAt ps x) → (posL ps xs).Pairwise (· < ·)
  | [], _, _, _ => List.Pairwise.nil
  | x :: xs, b, h, nn => by
    obtain ⟨h1, h2⟩ := chk_cons h
    have nn2 : ∀ z ∈ xs, 0 ≤ manyAt ps z := fun z hz => nn z (List.mem_cons_of_mem _ hz)
    show (((List.range (manyAt ps x).toNat).map fun (k : Nat) => lowAt ps x + (k : Int)) ++ posL ps xs).Pairwise (· < ·)
    refine List.pairwise_append.mpr ⟨up_range _ _, pos_up h2 nn2, fun p hp q hq => ?_⟩
    obtain ⟨k, hk, e⟩ := List.mem_map.mp hp
    have h3 := List.mem_range.mp hk
    have h4 := (pos_low h2 nn2 q hq).1
    have h5 := nn x (List.mem_cons_self ..)
    unfold highAt at h4
    omega
theorem row_teeth_map (i : Nat) (ro : Row) (ps : List P3) : rowTeeth i ro ps = (posL ps ro.feet).map fun p => ((i : Int), p % ro.teeth) := by
  unfold rowTeeth posL teethL
  rw [List.map_flatMap]
  congr 1
  funext x
  rw [List.map_map]
  rfl
theorem mod_ne {p q b T : Int} (h1 : b ≤ p) (h2 : p < q) (h3 : q < b + T) : p % T ≠ q % T := by
  intro e
  have ep := Int.emod_def p T
  have eq := Int.emod_def q T
  have hd : T * (q / T - p / T) = q - p := by
    rw [Int.mul_sub]
    omega
  obtain ⟨d, hdd⟩ : ∃ d, q / T - p / T = d := ⟨_, rfl⟩
  rw [hdd] at hd
  have hT : 0 < T := by omega
  rcases Int.lt_trichotomy d 0 with h | h | h
  · have : T * d ≤ T * (-1) := Int.mul_le_mul_of_nonneg_left (by omega) (by omega)
    omega
  · rw [h] at hd
    omega
  · have : T * 1 ≤ T * d := Int.mul_le_mul_of_nonneg_left (by omega) (by omega)
    omega
theorem row_nodup {i : Nat} {ro : Row} {ps : List P3} {b : Int} (h : chk ps ro.feet b (b + ro.teeth) = true) (nn : ∀ x ∈ ro.feet, 0 ≤ manyAt ps x) : (rowTeeth i ro ps).Nodup := by
  rw [row_teeth_map]
  refine List.pairwise_map.mpr (List.Pairwise.imp_of_mem ?_ (pos_up h nn))
  intro p q hp hq lt e
  have h1 := pos_low h nn p hp
  have h2 := pos_low h nn q hq
  exact mod_ne h1.1 lt h2.2 (congrArg Prod.snd e)
/-! ### the gaps of a row add up -/
theorem sum_gaps (ps : List P3) (most : Int) : ∀ (xs : List Foot) (place : Int), (List.zipWith (fun s e => e - s) (place :: xs.map (highAt ps)) (xs.map (lowAt ps) ++ [most])).sum = most - place - (xs.map (manyAt ps)).sum
  | [], place => by
    show most - place + 0 = most - place - 0
    omega
  | x :: xs, place => by
    show (lowAt ps x - place) + (List.zipWith (fun s e => e - s) (highAt ps x :: xs.map (highAt ps)) (xs.map (lowAt ps) ++ [most])).sum = most - place - (manyAt ps x + (xs.map (manyAt ps)).sum)
    rw [sum_gaps ps most xs]
    unfold highAt
    omega
theorem gaps_sum (r : Row) (ps : List P3) : (gapsL r ps).sum = r.teeth - (r.feet.map (manyAt ps)).sum := by
  unfold gapsL startsL endsL lowsL highsL
  cases e : r.ring with
  | false =>
    have z := sum_gaps ps r.teeth r.feet 0
    rw [if_neg (by simp), if_neg (by simp), if_neg (by simp), z]
    omega
  | true =>
    cases f : r.feet with
    | nil =>
      show r.teeth + 0 = r.teeth - 0
      omega
    | cons x xs =>
      have z := sum_gaps ps (lowAt ps x + r.teeth) xs (highAt ps x)
      show (List.zipWith (fun s e => e - s) (highAt ps x :: xs.map (highAt ps)) (xs.map (lowAt ps) ++ [lowAt ps x + r.teeth])).sum = r.teeth - (manyAt ps x + (xs.map (manyAt ps)).sum)
      rw [z]
      unfold highAt
      omega
theorem pos_len {ps : List P3} : ∀ {xs : List Foot}, (∀ x ∈ xs, 0 ≤ manyAt ps x) → ((posL ps xs).length : Int) = (xs.map (manyAt ps)).sum
  | [], _ => rfl
  | x :: xs, nn => by
    have h1 := nn x (List.mem_cons_self ..)
    have ih := pos_len (ps := ps) (xs := xs) fun z hz => nn z (List.mem_cons_of_mem _ hz)
    show (((((List.range (manyAt ps x).toNat).map fun (k : Nat) => lowAt ps x + (k : Int)) ++ posL ps xs).length : Nat) : Int) = manyAt ps x + (xs.map (manyAt ps)).sum
    rw [List.length_append, List.length_map, List.length_range]
    omega
theorem row_sum {i : Nat} {ro : Row} {ps : List P3} (nn : ∀ x ∈ ro.feet, 0 ≤ manyAt ps x) : (gapsL ro ps).sum + ((rowTeeth i ro ps).length : Int) = ro.teeth := by
  rw [row_teeth_map, List.length_map, gaps_sum, pos_len nn]
  omega
/-! ### a state's row -/
theorem fits_chk {ro : Row} {ps : List P3} (h : fitsB ro ps = true) : ∃ b, 0 ≤ b ∧ (b = 0 ∨ b < ro.teeth) ∧ chk ps ro.feet b (b + ro.teeth) = true := by
  cases e : ro.ring with
  | false =>
    rw [fits_line e] at h
    exact ⟨0, by omega, .inl rfl, by rw [Int.zero_add]; exact h⟩
  | true =>
    cases f : ro.feet with
    | nil =>
      rw [fits_bare e f] at h
      refine ⟨0, by omega, .inl rfl, ?_⟩
      have := of_decide_eq_true h
      exact decide_eq_true (by omega)
    | cons x xs =>
      rw [fits_ring e f] at h
      obtain ⟨h1, h2⟩ := Bool.and_eq_true_iff.mp h
      obtain ⟨h3, h4⟩ := Bool.and_eq_true_iff.mp h1
      refine ⟨lowAt ps x, of_decide_eq_true h3, .inr (of_decide_eq_true h4), ?_⟩
      show (decide (lowAt ps x - lowAt ps x ≥ 0) && chk ps xs (highAt ps x) (lowAt ps x + ro.teeth)) = true
      rw [h2, Bool.and_true]
      exact decide_eq_true (by omega)
structure StOk (rs : List Row) (zs : List Zp) (ps : List P3) : Prop where
  len : ps.length = zs.length
  many : ∀ x, FootIn zs.length x → 0 ≤ manyAt ps x
  fits : ∀ ro ∈ rs, fitsB ro ps = true
theorem st_ok {rs : List Row} {zs : List Zp} {ps : List P3} (c : ClothOk rs zs) (h : isStateB rs zs (.tuple (ps.map p3D)) = true) : StOk rs zs ps := by
  rw [state_tup, trips_map] at h
  have h' : (decide (ps.length = zs.length) && ((List.zipWith (fun (p : P3) (z : Zp) => decide (z.2 ≤ p.2.2)) ps zs).all id && rs.all fun r => fitsB r ps)) = true := h
  obtain ⟨h1, h2⟩ := Bool.and_eq_true_iff.mp h'
  obtain ⟨h3, h4⟩ := Bool.and_eq_true_iff.mp h2
  have len := of_decide_eq_true h1
  refine ⟨len, fun x hx => ?_, fun ro hro => List.all_eq_true.mp h4 ro hro⟩
  obtain ⟨⟨x0, x1⟩, _⟩ := hx
  have l1 : x.1.toNat < ps.length := by omega
  have l2 : x.1.toNat < zs.length := by omega
  have e1 : (List.zipWith (fun (p : P3) (z : Zp) => decide (z.2 ≤ p.2.2)) ps zs)[x.1.toNat]? = some (decide (zs[x.1.toNat].2 ≤ ps[x.1.toNat].2.2)) := by
    rw [List.getElem?_zipWith, List.getElem?_eq_getElem l1, List.getElem?_eq_getElem l2]
  have e2 := List.all_eq_true.mp h3 _ (List.mem_of_getElem? e1)
  have e3 : zs[x.1.toNat].2 ≤ ps[x.1.toNat].2.2 := of_decide_eq_true e2
  have e4 := (c.mins _ (List.getElem_mem l2)).1
  have e5 : manyAt ps x = ps[x.1.toNat].2.2 := by
    unfold manyAt at3
    rw [List.getD_eq_getElem?_getD, List.getElem?_eq_getElem l1]
    rfl
  rw [e5]
  omega
end Zs
namespace Zs
open PySem PySem.Spec PyProof.Rows L2
/-! ### the pairs, and the teeth of one row among them -/
def rowOf (rs : List Row) (x : Foot) : Nat := rs.findIdx fun r => decide (x ∈ r.feet)
theorem rowOf_eq {rs : List Row} {i j : Nat} {ro : Row} {x : Foot} (nd : (rs.flatMap (·.feet)).Nodup) (hi : rs[i]? = some ro) (hj : ro.feet[j]? = some x) : rowOf rs x = i := by
  obtain ⟨li, ei⟩ := List.getElem?_eq_some_iff.mp hi
  unfold rowOf
  rw [List.findIdx_eq li]
  refine ⟨?_, fun k hk => ?_⟩
  · rw [ei]
    exact decide_eq_true (List.mem_of_getElem? hj)
  · refine decide_eq_false fun m => ?_
    obtain ⟨j', hj', ej'⟩ := List.getElem_of_mem m
    have lk : k < rs.length := Nat.lt_trans hk li
    have := (feet_place nd hi hj (List.getElem?_eq_getElem lk) (by rw [List.getElem?_eq_getElem hj', ej'])).1
    omega
def teethAt (rs : List Row) (ps : List P3) (x : Foot) : List Foot := teethL (rowOf rs x) ((rs[rowOf rs x]?.map (·.teeth)).getD 1) (lowAt ps x) (manyAt ps x).toNat
theorem teethAt_eq {rs : List Row} {ps : List P3} {i j : Nat} {ro : Row} {x : Foot} (nd : (rs.flatMap (·.feet)).Nodup) (hi : rs[i]? = some ro) (hj : ro.feet[j]? = some x) : teethAt rs ps x = teethL i ro.teeth (lowAt ps x) (manyAt ps x).toNat := by
  unfold teethAt
  rw [rowOf_eq nd hi hj, hi]
  rfl
def zipPr (rs : List Row) (ps : List P3) (i : Nat) (rev : Bool) : List (Foot × Foot) := (teethAt rs ps ((i : Int), 0)).zip (if rev then (teethAt rs ps ((i : Int), 1)).reverse else teethAt rs ps ((i : Int), 1))
def pairsN (rs : List Row) (zs : List Zp) (ps : List P3) (n : Nat) : List (Foot × Foot) := (List.range n).flatMap fun (i : Nat) => zipPr rs ps i (zs.getD i (false, 0)).1
theorem pairsN_succ {rs : List Row} {zs : List Zp} {ps : List P3} {n : Nat} {z : Zp} (h : zs[n]? = some z) : pairsN rs zs ps (n + 1) = pairsN rs zs ps n ++ zipPr rs ps n z.1 := by
  unfold pairsN
  rw [List.range_succ, List.flatMap_append]
  congr 1
  show zipPr rs ps n (zs.getD n (false, 0)).1 ++ [] = _
  rw [List.append_nil, List.getD_eq_getElem?_getD, h]
  rfl
theorem teethL_len (i : Nat) (T low : Int) (n : Nat) : (teethL i T low n).length = n := by
  unfold teethL
  rw [List.length_map, List.length_range]
theorem teethAt_len (rs : List Row) (ps : List P3) (x : Foot) : (teethAt rs ps x).length = (manyAt ps x).toNat := teethL_len ..
theorem many_side (ps : List P3) (i s s' : Int) : manyAt ps (i, s) = manyAt ps (i, s') := rfl
theorem zipPr_len (rs : List Row) (ps : List P3) (i : Nat) (rev : Bool) : (zipPr rs ps i rev).length = (manyAt ps ((i : Int), 0)).toNat := by
  unfold zipPr
  rw [List.length_zip, teethAt_len]
  cases rev with
  | true =>
    rw [if_pos rfl, List.length_reverse, teethAt_len, many_side ps i 1 0, Nat.min_self]
  | false =>
    rw [if_neg (by simp), teethAt_len, many_side ps i 1 0, Nat.min_self]
theorem pairsN_len {rs : List Row} {zs : List Zp} {ps : List P3} {m : Nat} : ∀ n, (∀ i : Nat, i < n → (manyAt ps ((i : Int), 0)).toNat ≤ m) → (pairsN rs zs ps n).length ≤ m * n
  | 0, _ => Nat.zero_le _
  | n + 1, h => by
    unfold pairsN
    rw [List.range_succ, List.flatMap_append, List.length_append]
    have ih := pairsN_len (rs := rs) (zs := zs) n fun i hi => h i (by omega)
    unfold pairsN at ih
    have e : (List.flatMap (fun (i : Nat) => zipPr rs ps i (zs.getD i (false, 0)).1) [n]).length ≤ m := by
      show (zipPr rs ps n (zs.getD n (false, 0)).1 ++ []).length ≤ m
      rw [List.append_nil, zipPr_len]
      exact h n (by omega)
    rw [Nat.mul_succ]
    omega
/-! held teeth -/
def heldL (i : Int) (prs : List (Foot × Foot)) : List Foot := prs.flatMap fun q => [q.1, q.2].filter fun t => decide (t.1 = i)
theorem held_zip (p : Foot → Bool) : ∀ (A B : List Foot), A.length = B.length → ((A.zip B).flatMap fun q => [q.1, q.2].filter p).Perm (A.filter p ++ B.filter p)
  | [], [], _ => .refl _
  | [], _ :: _, h => by simp at h
  | _ :: _, [], h => by simp at h
  | a :: A, b :: B, h => by
    have ih := held_zip p A B (by simpa using h)
    show ([a, b].filter p ++ (A.zip B).flatMap fun q => [q.1, q.2].filter p).Perm _
    have e1 : (a :: A).filter p = [a].filter p ++ A.filter p := by rw [← List.filter_append]; rfl
    have e2 : (b :: B).filter p = [b].filter p ++ B.filter p := by rw [← List.filter_append]; rfl
    have e3 : [a, b].filter p = [a].filter p ++ [b].filter p := by rw [← List.filter_append]; rfl
    rw [e1, e2, e3, List.append_assoc, List.append_assoc]
    refine .append_left _ ?_
    refine (ih.append_left _).trans ?_
    rw [← List.append_assoc, ← List.append_assoc]
    exact List.perm_append_comm.append_right _
def sel (rs : List Row) (ps : List P3) (i : Nat) (x : Foot) : List Foot := if rowOf rs x = i then teethAt rs ps x else []
theorem filter_teeth (i j : Nat) (T low : Int) (n : Nat) : (teethL j T low n).filter (fun t => decide (t.1 = (i : Int))) = if j = i then teethL j T low n else [] := by
  by_cases h : j = i
  · rw [if_pos h]
    refine List.filter_eq_self.mpr fun t ht => ?_
    obtain ⟨k, _, e⟩ := List.mem_map.mp ht
    rw [← e, h]
    exact decide_eq_true rfl
  · rw [if_neg h]
    refine List.filter_eq_nil_iff.mpr fun t ht => ?_
    obtain ⟨k, _, e⟩ := List.mem_map.mp ht
    rw [← e]
    intro z
    have := of_decide_eq_true z
    have : (j : Int) = (i : Int) := this
    omega
theorem held_one (rs : List Row) (ps : List P3) (i k : Nat) (rev : Bool) : (heldL (i : Int) (zipPr rs ps k rev)).Perm (sel rs ps i ((k : Int), 0) ++ sel rs ps i ((k : Int), 1)) := by
  unfold heldL zipPr
  have f : ∀ x, (teethAt rs ps x).filter (fun t => decide (t.1 = (i : Int))) = sel rs ps i x := fun x => filter_teeth i _ _ _ _
  cases rev with
  | true =>
    rw [if_pos rfl]
    refine (held_zip _ _ _ (by rw [List.length_reverse, teethAt_len, teethAt_len]; rfl)).trans ?_
    rw [List.filter_reverse, f, f]
    exact (List.reverse_perm _).append_left _
  | false =>
    rw [if_neg (by simp)]
    refine (held_zip _ _ _ (by rw [teethAt_len, teethAt_len]; rfl)).trans ?_
    rw [f, f]
theorem held_all (rs : List Row) (zs : List Zp) (ps : List P3) (i : Nat) : ∀ n, (heldL (i : Int) (pairsN rs zs ps n)).Perm ((allFeet n).flatMap (sel rs ps i))
  | 0 => .refl _
  | n + 1 => by
    have ih := held_all rs zs ps i n
    have e : pairsN rs zs ps (n + 1) = pairsN rs zs ps n ++ zipPr rs ps n (zs.getD n (false, 0)).1 := by
      unfold pairsN
      rw [List.range_succ, List.flatMap_append]
      congr 1
      show zipPr rs ps n (zs.getD n (false, 0)).1 ++ [] = _
      rw [List.append_nil]
    rw [e, allFeet_succ]
    unfold heldL at ih ⊢
    rw [List.flatMap_append, List.flatMap_append]
    refine ih.append ?_
    have z := held_one rs ps i n (zs.getD n (false, 0)).1
    unfold heldL at z
    refine z.trans ?_
    show List.Perm _ (sel rs ps i ((n : Int), 0) ++ (sel rs ps i ((n : Int), 1) ++ []))
    rw [List.append_nil]
theorem flat_only {α β : Type} {f : α → List β} : ∀ {l : List α} {i : Nat} {x : α}, l[i]? = some x → (∀ j y, l[j]? = some y → j ≠ i → f y = []) → l.flatMap f = f x
  | [], i, x, h, _ => by simp at h
  | a :: l, 0, x, h, no => by
    have e : a = x := Option.some.inj h
    subst e
    have rest : l.flatMap f = [] := List.flatMap_eq_nil_iff.mpr fun y hy => by
      obtain ⟨j, hj, ej⟩ := List.getElem_of_mem hy
      exact no (j + 1) y (by rw [List.getElem?_cons_succ, List.getElem?_eq_getElem hj, ej]) (by omega)
    rw [List.flatMap_cons, rest, List.append_nil]
  | a :: l, i + 1, x, h, no => by
    have e1 : f a = [] := no 0 a rfl (by omega)
    have ih := flat_only (f := f) (l := l) (i := i) (x := x) (by simpa using h) fun j y hj ne => no (j + 1) y (by simpa using hj) (by omega)
    rw [List.flatMap_cons, e1, List.nil_append, ih]
theorem held_row {rs : List Row} {zs : List Zp} {ps : List P3} {i : Nat} {ro : Row} (c : ClothOk rs zs) (hi : rs[i]? = some ro) : (heldL (i : Int) (pairsN rs zs ps zs.length)).Perm (rowTeeth i ro ps) := by
  have nd := c.fit.nd
  refine (held_all rs zs ps i zs.length).trans ((c.feet.symm.flatMap_right _).trans ?_)
  rw [List.flatMap_assoc]
  have e : rs.flatMap (fun r => r.feet.flatMap (sel rs ps i)) = ro.feet.flatMap (sel rs ps i) := by
    refine flat_only (f := fun (r : Row) => r.feet.flatMap (sel rs ps i)) hi fun j y hj ne => ?_
    refine List.flatMap_eq_nil_iff.mpr fun x hx => ?_
    obtain ⟨k, hk, ek⟩ := List.getElem_of_mem hx
    have z := rowOf_eq nd hj (j := k) (x := x) (by rw [List.getElem?_eq_getElem hk, ek])
    unfold sel
    rw [z, if_neg ne]
  rw [e]
  have e2 : ro.feet.flatMap (sel rs ps i) = rowTeeth i ro ps := by
    unfold rowTeeth
    rw [List.flatMap_def, List.flatMap_def]
    congr 1
    refine List.map_congr_left fun x hx => ?_
    obtain ⟨k, hk, ek⟩ := List.getElem_of_mem hx
    have hj : ro.feet[k]? = some x := by rw [List.getElem?_eq_getElem hk, ek]
    unfold sel
    rw [rowOf_eq nd hi hj, if_pos rfl, teethAt_eq nd hi hj]
  rw [e2]
theorem held_ok {rs : List Row} {zs : List Zp} {ps : List P3} {i : Nat} {ro : Row} (c : ClothOk rs zs) (st : StOk rs zs ps) (hi : rs[i]? = some ro) :
    (heldL (i : Int) (pairsN rs zs ps zs.length)).Nodup ∧ (gapsL ro ps).sum + ((heldL (i : Int) (pairsN rs zs ps zs.length)).length : Int) = ro.teeth ∧ (heldL (i : Int) (pairsN rs zs ps zs.length)).length ≤ 24 := by
  have pm := held_row (ps := ps) c hi
  have mem := List.mem_of_getElem? hi
  have nn : ∀ x ∈ ro.feet, 0 ≤ manyAt ps x := fun x hx => st.many x (c.footIn mem x hx)
  obtain ⟨b, b0, b1, hb⟩ := fits_chk (st.fits ro mem)
  have sm := row_sum (i := i) nn
  have nd := row_nodup (i := i) hb nn
  have tl := c.teeth ro mem
  refine ⟨pm.nodup_iff.mpr nd, by rw [pm.length_eq]; exact sm, ?_⟩
  rw [pm.length_eq]
  have g0 : 0 ≤ (gapsL ro ps).sum := by
    have h1 := st.fits ro mem
    unfold fitsB at h1
    have h2 := (Bool.and_eq_true_iff.mp h1).2
    have all := List.all_eq_true.mp h2
    have : ∀ l : List Int, (∀ g ∈ l, decide (g ≥ 0) = true) → 0 ≤ l.sum := by
      intro l
      induction l with
      | nil => intro _; exact Int.le_refl _
      | cons a l ih =>
        intro h
        have h3 := of_decide_eq_true (h a (List.mem_cons_self ..))
        have h4 := ih fun g hg => h g (List.mem_cons_of_mem _ hg)
        rw [List.sum_cons]
        omega
    exact this _ all
  omega
/-! bounds -/
theorem StOk.low {rs : List Row} {zs : List Zp} {ps : List P3} (c : ClothOk rs zs) (st : StOk rs zs ps) {i j : Nat} {ro : Row} {x : Foot} (hi : rs[i]? = some ro) (hj : ro.feet[j]? = some x) : 0 ≤ lowAt ps x ∧ lowAt ps x ≤ 48 ∧ 0 ≤ manyAt ps x ∧ manyAt ps x ≤ 24 := by
  have mem := List.mem_of_getElem? hi
  have mx := List.mem_of_getElem? hj
  have nn : ∀ x ∈ ro.feet, 0 ≤ manyAt ps x := fun x hx => st.many x (c.footIn mem x hx)
  obtain ⟨b, b0, b1, hb⟩ := fits_chk (st.fits ro mem)
  have h1 := chk_in hb nn x mx
  have h2 := nn x mx
  have tl := c.teeth ro mem
  unfold highAt at h1
  omega
end Zs
namespace Zs
open PySem PySem.Spec PyProof.Rows L2
local macro_rules | `(tactic| walk_at "z1") => `(tactic| first
  | (with_reducible refine' st_seq ?_) | (with_reducible refine' st_asg ?_) | (with_reducible refine' st_ret ?_) | (with_reducible refine' st_drop ?_) | (with_reducible refine' st_if ?_) | (with_reducible refine' st_next ?_) | (with_reducible refine' st_retN ?_) | (with_reducible refine' st_par ?_) | (with_reducible refine' st_break ?_) | (with_reducible refine' st_cont ?_)
  | ((with_reducible refine' st_augI ?h1 ?_); (case h1 => rfl))
  | (with_reducible refine' gd_name ?_) | ((with_reducible refine' gd_tup ?h1 ?_); (case h1 => rfl)) | ((with_reducible refine' gd_tupP ?h1 ?_); (case h1 => rfl)) | (with_reducible refine' gs_consP ?_) | (with_reducible refine' gs_nilP ?_) | (with_reducible refine' gs_consM ?_) | (with_reducible refine' gs_nilM ?_) | (with_reducible refine' gs_cons ?_) | (with_reducible refine' gs_nil ?_)
  | ((with_reducible refine' ex_varP ?h1 ?_); (case h1 => rfl)) | ((with_reducible refine' ex_var ?h1 ?_); (case h1 => rfl)) | (with_reducible refine' ex_int ?_) | (with_reducible refine' ex_bl ?_) | (with_reducible refine' ex_str ?_) | (with_reducible refine' ex_non ?_) | (with_reducible refine' ex_ty ?_)
  | (with_reducible refine' ex_op ?_) | (with_reducible refine' ex_un ?_) | (with_reducible refine' ex_cb ?_) | (with_reducible refine' ex_tupD ?_) | (with_reducible refine' ex_call ?_) | (with_reducible refine' ex_if ?_) | (with_reducible refine' ex_andV ?_) | (with_reducible refine' ex_orV ?_) | (with_reducible refine' ex_notV ?_) | (with_reducible refine' ex_isN ?_) | (with_reducible refine' ex_notN ?_) | (with_reducible refine' ex_chain ?_) | (with_reducible refine' ex_sl ?_) | (with_reducible refine' ex_bm ?_) | ((with_reducible refine' md_append ?h1 ?_); (case h1 => rfl))
  | (with_reducible refine' ad_cons ?_) | (with_reducible refine' ad_nil ?_) | (with_reducible refine' ax_cons ?_) | (with_reducible refine' ax_nil ?_) | (with_reducible refine' to_none ?_) | (with_reducible refine' to_some ?_)
  | (with_reducible refine' tt_test ?_) | (with_reducible refine' tt_B ?_) | (with_reducible refine' tt_and ?_) | (with_reducible refine' tt_or ?_) | (with_reducible refine' tt_not ?_) | (with_reducible refine' tt_yes ?_) | (with_reducible refine' tt_truT ?_)
  | (with_reducible refine' od_add ?_) | (with_reducible refine' od_sub ?_) | (with_reducible refine' od_lt ?_) | (with_reducible refine' od_le ?_) | (with_reducible refine' od_gt ?_) | (with_reducible refine' od_ge ?_) | (with_reducible refine' od_eqI ?_) | (with_reducible refine' od_neI ?_) | (with_reducible refine' od_eqS ?_) | (with_reducible refine' od_neS ?_) | (with_reducible refine' ud_neg ?_)
  | (with_reducible refine' od_isX ?_) | (with_reducible refine' od_notX ?_) | (with_reducible refine' cd_isiInt ?_) | (with_reducible refine' cd_isiTup ?_) | (with_reducible refine' cd_isiStr ?_) | (with_reducible refine' cd_isiLst ?_)
  | (with_reducible refine' cd_lenT ?_) | (with_reducible refine' cd_tupT ?_) | (with_reducible refine' cd_tupD ?_) | (with_reducible refine' cd_lenD ?_) | (with_reducible refine' cd_all ?_) | (with_reducible refine' cd_any ?_) | (with_reducible refine' cd_max2 ?_) | (with_reducible refine' cd_min2 ?_) | (with_reducible refine' cd_abs ?_) | (with_reducible refine' sd_tupA ?_)
  | ((with_reducible refine' it_tupP ?h1 ?_); (case h1 => rfl)) | ((with_reducible refine' it_enumP ?h1 ?_); (case h1 => rfl)) | (with_reducible refine' it_enumT ?_) | (with_reducible refine' ex_dnewT ?_) | (with_reducible refine' ex_dgetP ?_) | (with_reducible refine' it_tup ?_) | (with_reducible refine' it_rng1 ?_) | (with_reducible refine' it_rng2 ?_)
  | (refine' ⟨_, rfl, ?_⟩) | (refine' ⟨rfl, ?_⟩))
local macro_rules | `(tactic| walk_at "z") => `(tactic| repeat (walk_at "z1"))
local macro_rules | `(tactic| walk_at "gm") => `(tactic| (repeat (first | exact gm_name | exact gm_nil | refine gm_tup ?_ | refine gm_cons ?_ ?_)))
local macro_rules | `(tactic| walk_at "gw") => `(tactic| (repeat (first | exact gw_nil | exact gw_name (by simp) | refine gw_tup ?_ | (refine gw_cons (by walk_at "gm") (by walk_at "gm") ?_ ?_))))
local macro_rules | `(tactic| walk_at "y1") => `(tactic| first | (walk_at "z1") | ((with_reducible refine' ex_min ?h1 ?_); (case h1 => assumption)) | ((with_reducible refine' ex_fac ?h1 ?_); (case h1 => assumption)) | ((with_reducible refine' ex_trn ?h1 ?_); (case h1 => assumption)) | ((with_reducible refine' ex_nbs ?h1 ?_); (case h1 => assumption)) | ((with_reducible refine' ex_gbf ?h1 ?_); (case h1 => assumption)) | ((with_reducible refine' ex_gbs ?h1 ?_); (case h1 => assumption)) | ((with_reducible refine' ex_rbf ?h1 ?_); (case h1 => assumption)) | (with_reducible refine' ex_rows ?_) | (with_reducible refine' ex_zips ?_) | (with_reducible refine' it_zipA ?_) | (refine' ⟨_, _, (rfl : clv _ _ _ _ = clv _ _ _ _), ?_⟩))
local macro_rules | `(tactic| walk_at "y") => `(tactic| repeat (walk_at "y1"))
local macro_rules | `(tactic| walk_at "hF") => `(tactic| (refine iteF ?_; walk_at "y"))
local macro_rules | `(tactic| walk_at "hT") => `(tactic| (refine iteT ?_; walk_at "y"))
abbrev sRQ : Stmt := topS 8
theorem scRQ : FnScope ["cloth", "state", "found"] ["cloth", "state"] (defScope sRQ) := ⟨rfl, rfl, rfl, by decide +kernel, rfl, by decide +kernel, by decide +kernel⟩
abbrev sReq : Stmt := topS 9
theorem scReq : FnScope ["cloth", "state"] ["cloth", "state"] (defScope sReq) := ⟨rfl, rfl, rfl, by decide +kernel, rfl, by decide +kernel, by decide +kernel⟩
abbrev sGaps : Stmt := topS 10
theorem scGaps : FnScope ["cloth", "state", "numbered", "found", "start", "sort", "teeth", "feet", "stop"] ["cloth", "state"] (defScope sGaps) := ⟨rfl, rfl, rfl, by decide +kernel, rfl, by decide +kernel, by decide +kernel⟩
theorem cutD_nat {α : Type} (xs : List α) {a b : Nat} (h : a ≤ b) (l : b ≤ xs.length) : cutD xs (some (a : Int)) (some (b : Int)) = (xs.drop a).take (b - a) := by
  unfold cutD
  rw [show HT.sIx xs.length 0 (some (a : Int)) = min a xs.length from HT.sIx_nat xs.length 0 a, show HT.sIx xs.length xs.length (some (b : Int)) = min b xs.length from HT.sIx_nat xs.length xs.length b, Nat.min_eq_left l, Nat.min_eq_left (show a ≤ xs.length by omega)]
theorem sd_listD {K : PySem.W.Frag} {M : Mm} {Φ : Dv → Mm → Prop} {ds : List PyData} {lo hi : Option Int} (f : Φ (.d (.list (cutD ds lo hi))) M) : SlD K (rSlL K) (.d (.list ds)) lo hi M Φ := sd_list lsD (by rw [cutD_map]; exact dsOf_of _) f
theorem num_split {rs : List Row} {ps : List P3} {i : Nat} {r : Row} (h : rs[i]? = some r) : numG rs ps = numG (rs.take i) ps ++ (rowN r ps ++ numG (rs.drop (i + 1)) ps) := by
  have e : numG rs ps = numG (rs.take (i + 1)) ps ++ numG (rs.drop (i + 1)) ps := by
    unfold numG
    rw [← List.flatMap_append, List.take_append_drop]
  rw [e, num_take h, List.append_assoc]
theorem num_cut {rs : List Row} {ps : List P3} {i : Nat} {r : Row} (h : rs[i]? = some r) (k : Nat) (hk : k ≤ r.feet.length + 1) : cutD (numG rs ps) (some (((numG (rs.take i) ps).length + k : Nat) : Int)) (some (((numG (rs.take i) ps).length + r.feet.length + 1 : Nat) : Int)) = (rowN r ps).drop k := by
  have rl := row_few (r := r) (ps := ps)
  have nl : (numG rs ps).length = (numG (rs.take i) ps).length + ((rowN r ps).length + (numG (rs.drop (i + 1)) ps).length) := by
    conv => lhs; rw [num_split h]
    rw [List.length_append, List.length_append]
  rw [cutD_nat _ (by omega) (by omega), num_split h, List.drop_append, List.drop_eq_nil_of_le (by omega), List.nil_append, show (numG (rs.take i) ps).length + k - (numG (rs.take i) ps).length = k by omega, List.drop_append_of_le_length (by omega), List.take_append_of_le_length (by rw [List.length_drop]; omega), List.take_of_length_le (by rw [List.length_drop]; omega)]
section
variable {P : Program} {w : World} {K : PySem.W.Frag} {mg : Str → Option Value} {base : Heap} {C fR fZ : Addr} {dR dZ : FuncData}
/-- require_gaps, where it answers -/
def spRQ (K : PySem.W.Frag) (C : Addr) : SpD := spF fun ds y => ∃ rs zs ps, ds = [clv K C rs zs, .d (.tuple (ps.map p3D))] ∧ ClothOk rs zs ∧ isStateB rs zs (.tuple (ps.map p3D)) = true ∧ y = .d (.list ((numG rs ps).map .int))
theorem gaps_of_ps {rs : List Row} {zs : List Zp} {ps : List P3} (h : isStateB rs zs (.tuple (ps.map p3D)) = true) : gapsDd rs zs (.tuple (ps.map p3D)) = .list ((numG rs ps).map .int) := by
  unfold gapsDd
  rw [h, show tripsD (.tuple (ps.map p3D)) = some ps from trips_map ps]
  rfl
theorem ok_rq {f : Addr} {fd : FuncData} (T : Bl mg) (cFG : Cal P w K mg base CX0 2 "find_gaps" ["cloth", "value"] (toSp K (spFG K C))) (F : Fun K "require_gaps" "require_gaps" sRQ f fd) : FnOk P w K mg base CX0 3 f fd ["cloth", "state"] (toSp K (spRQ K C)) := by
  refine fn_d F scRQ (fun ds M Φ h => ?_) (fun cdv A outer s H E hr ds M Φ h => ?_)
  · obtain ⟨_, y, ⟨_, _, _, rfl, _⟩, _⟩ := h
    rfl
  · obtain ⟨rfl, y, ⟨rs, zs, ps, rfl, ok, st, rfl⟩, q⟩ := h
    refine ⟨_, (pss_cons (ps_set (i := 2) scRQ.nd rfl (Or.inl rfl) (pe_cal cFG (hr.mono (by decide)) pass0 (by rfl) (pa_cons (pv 0) (pa_cons (pv 1) pa_nil))))
      (pss_cons (ps_if (pt_cmp (pc_isN (pv 2)))
        (pss_one ps_never)
        pss_nil)
      (pss_one (ps_ret (pv 2))))), ?_⟩
    try dsimp only [cxOf, Cx.nox, Cx.wish]
    walk_at "y"
    · exact pu2 trivial trivial
    refine ⟨_, ⟨rs, zs, _, rfl, ok, rfl⟩, rfl, trivial, ?_⟩
    rw [gaps_of_ps st]
    walk_at "y"
    refine iteF ?_
    walk_at "y"
    exact out_0 trivial q
def spReqD (K : PySem.W.Frag) (C : Addr) : SpD := spF fun ds y => ∃ rs zs d, ds = [clv K C rs zs, .d d] ∧ ClothOk rs zs ∧ isStateB rs zs d = true ∧ y = .d .none
theorem ok_reqD {f : Addr} {fd : FuncData} (T : Bl mg) (cIS : Cal P w K mg base CX0 3 "is_state" ["cloth", "value"] (toSp K (spISd K C))) (F : Fun K "require_state" "require_state" sReq f fd) : FnOk P w K mg base CX0 4 f fd ["cloth", "state"] (toSp K (spReqD K C)) := by
  refine fn_d F scReq (fun ds M Φ h => ?_) (fun cdv A outer s H E hr ds M Φ h => ?_)
  · obtain ⟨_, y, ⟨_, _, _, rfl, _⟩, _⟩ := h
    rfl
  · obtain ⟨rfl, y, ⟨rs, zs, d, rfl, ok, st, rfl⟩, q⟩ := h
    refine ⟨_, (pss_one (ps_if (pt_not (pt_val (pe_cal cIS (hr.mono (by decide)) pass0 (by rfl) (pa_cons (pv 0) (pa_cons (pv 1) pa_nil)))))
        (pss_one ps_never)
        pss_nil)), ?_⟩
    try dsimp only [cxOf, Cx.nox, Cx.wish]
    walk_at "y"
    · exact pu2 trivial trivial
    refine ⟨_, ⟨rs, zs, d, rfl, ok, rfl⟩, rfl, trivial, _, rfl, ?_⟩
    rw [st]
    walk_at "hF"
    exact out_0 trivial q
abbrev gapT (r : Row) (ps : List P3) : PyData := .tuple ((gapsL r ps).map .int)
abbrev gapsT (rs : List Row) (ps : List P3) : PyData := .tuple (rs.map fun r => gapT r ps)
def spGapsD (K : PySem.W.Frag) (C : Addr) : SpD := spF fun ds y => ∃ rs zs ps, ds = [clv K C rs zs, .d (.tuple (ps.map p3D))] ∧ ClothOk rs zs ∧ isStateB rs zs (.tuple (ps.map p3D)) = true ∧ y = .d (gapsT rs ps)
theorem ok_gapsD {f : Addr} {fd : FuncData} (T : Bl mg) (M : MC P w K mg base C fR fZ dR dZ) (cRGa : Cal P w K mg base CX0 3 "require_gaps" ["cloth", "state"] (toSp K (spRQ K C))) (F : Fun K "gaps" "gaps" sGaps f fd) : FnOk P w K mg base CX0 4 f fd ["cloth", "state"] (toSp K (spGapsD K C)) := by
  refine fn_d F scGaps (fun ds M Φ h => ?_) (fun cdv A outer s H E hr ds M Φ h => ?_)
  · obtain ⟨_, y, ⟨_, _, _, rfl, _⟩, _⟩ := h
    rfl
  · obtain ⟨rfl, y, ⟨rs, zs, ps, rfl, ok, st, rfl⟩, q⟩ := h
    refine ⟨_, (pss_cons (ps_set (i := 2) scGaps.nd rfl (Or.inl rfl) (pe_cal cRGa (hr.mono (by decide)) pass0 (by rfl) (pa_cons (pv 0) (pa_cons (pv 1) pa_nil))))
      (pss_cons (ps_set (i := 3) scGaps.nd rfl (Or.inl rfl) (pe_lst pa_nil))
      (pss_cons (ps_set (i := 4) scGaps.nd rfl (Or.inl rfl) pe_int)
      (pss_cons (ps_for PassesOwn.never rfl (pi_tup (pe_meth0 (pv 0) M.cls.cl M.mR M.okR (hr.mono (by decide)) M.bR .nil pass0)) (pg_tup rfl (pgs_cons (pg_name (i := 5) scGaps.nd rfl (Or.inl rfl)) (pgs_cons (pg_name (i := 6) scGaps.nd rfl (Or.inl rfl)) (pgs_cons (pg_name (i := 7) scGaps.nd rfl (Or.inl rfl)) pgs_nil))))
        (pss_cons (ps_set (i := 8) scGaps.nd rfl (Or.inl rfl) (pe_op op_add (pe_op op_add (pv 4) (pe_callB call_len_seq (by rfl) T.len_ PySem.boot_len (pa_cons (pv 7) pa_nil))) pe_int))
        (pss_cons (ps_expr (pe_bm PySem.F.plainAttrs_list PySem.F.slot_list_append PySem.F.type_list_append mt_append (pv 3) (pa_cons (pe_callTy call_tuple_of (by rfl) T.tuple_ (by decide +kernel) (pa_cons (pe_ifExp (pw_and (pt_cmpR op_eq (pv 5) pe_str (nomark _)) (pw_and1 (pt_truthK (K := K) rfl (pv 7) (fun _ => rfl)))).pt (pe_slice sl_list (pv 2) (po_some (pe_op op_add (pv 4) pe_int)) (po_some (pv 8))) (pe_slice sl_list (pv 2) (po_some (pv 4)) (po_some (pv 8)))) pa_nil)) pa_nil)))
        (pss_one (ps_set (i := 4) scGaps.nd rfl (Or.inl rfl) (pv 8))))))
      (pss_one (ps_ret (pe_callTy call_tuple_of (by rfl) T.tuple_ (by decide +kernel) (pa_cons (pv 3) pa_nil)))))))), ?_⟩
    try dsimp only [cxOf, Cx.nox, Cx.wish]
    walk_at "y"
    · exact pu2 trivial trivial
    refine ⟨_, ⟨rs, zs, _, rfl, ok, st, rfl⟩, rfl, trivial, ?_⟩
    walk_at "y"
    refine ex_own (ax_nil ⟨by decide, ?_⟩)
    walk_at "y"
    refine st_for ?_
    walk_at "y"
    refine ⟨fun i sl' M' => ∃ x5 x6 x7 x8 : Option Dv, sl' = [some (clv K C rs zs), some (.d (.tuple (ps.map p3D))), some (.d (.list ((numG rs ps).map .int))), some (.r 0), some (.d (.int ((numG (rs.take i) ps).length : Nat))), x5, x6, x7, x8] ∧ M' = [.lst ((rs.take i).map fun r => .d (gapT r ps))], ⟨none, none, none, none, rfl, rfl⟩, fun _ _ _ _ => trivial, ?_, ?_⟩
    · rintro i x sl' M' hx ⟨x5, x6, x7, x8, rfl, rfl⟩
      obtain ⟨r, hr, rfl⟩ := map2_at hx
      have il := (List.getElem?_eq_some_iff.mp hr).1
      have few := ok.few
      have rg := rowN_gaps r ps
      walk_at "y"
      rw [sort_ring, List.length_map]
      have cast : ((numG (rs.take i) ps).length : Int) + (r.feet.length : Nat) + 1 = (((numG (rs.take i) ps).length + r.feet.length + 1 : Nat) : Int) := by omega
      have cast1 : ((numG (rs.take i) ps).length : Int) + 1 = (((numG (rs.take i) ps).length + 1 : Nat) : Int) := by omega
      have c0 := num_cut (ps := ps) hr 0 (by omega)
      have c1 := num_cut (ps := ps) hr 1 (by omega)
      rw [Nat.add_zero, List.drop_zero] at c0
      have stp : (numG (rs.take i) ps).length + r.feet.length + 1 = (numG (rs.take (i + 1)) ps).length := by
        rw [num_take hr, List.length_append, row_few]; omega
      have tk : ((rs.take i).map fun r => Dv.d (gapT r ps)) ++ [.d (gapT r ps)] = (rs.take (i + 1)).map fun r => Dv.d (gapT r ps) := by
        rw [List.take_add_one, hr, List.map_append]; rfl
      rw [cast]
      cases er : r.ring with
      | false =>
        rw [er, Bool.false_and, if_neg (by decide)] at rg
        refine iteF ?_
        walk_at "hF"
        refine sd_listD ?_
        rw [cutD_map, c0, rg]
        walk_at "y"
        refine ⟨_, _, rfl, rfl, by rw [List.length_map, List.length_take]; omega, ?_⟩
        walk_at "y"
        rw [stp]
        exact ⟨_, _, _, _, rfl, by rw [← tk]; rfl⟩
      | true =>
        walk_at "hT"
        cases ef : r.feet with
        | nil =>
          rw [er, ef] at rg
          rw [ef] at c0 stp
          have rg : rowN r ps = gapsL r ps := rg
          walk_at "hF"
          refine sd_listD ?_
          rw [cutD_map, c0, rg]
          walk_at "y"
          refine ⟨_, _, rfl, rfl, by rw [List.length_map, List.length_take]; omega, ?_⟩
          walk_at "y"
          rw [stp]
          exact ⟨_, _, _, _, rfl, by rw [← tk]; rfl⟩
        | cons x f =>
          rw [er, ef] at rg
          rw [ef] at c1 stp
          have rg : rowN r ps = 0 :: gapsL r ps := rg
          walk_at "hT"
          rw [cast1]
          refine sd_listD ?_
          rw [cutD_map, c1, rg]
          walk_at "y"
          refine ⟨_, _, rfl, rfl, by rw [List.length_map, List.length_take]; omega, ?_⟩
          walk_at "y"
          rw [stp]
          exact ⟨_, _, _, _, rfl, by rw [← tk]; rfl⟩
    · rintro sl' M' ⟨x5, x6, x7, x8, rfl, rfl⟩
      rw [List.length_map, List.length_map, List.take_length] at *
      walk_at "y"
      refine cd_tupL (xs := rs.map fun r => .d (gapT r ps)) (ds := rs.map fun r => gapT r ps) (.inr ⟨0, rfl, rfl⟩) (by have := dsOf_of (rs.map fun r => gapT r ps); rw [List.map_map] at this; exact this) ?_
      exact out_0 trivial q
end
end Zs
namespace Zs
open PySem PySem.Spec PyProof.Rows L2
local macro_rules | `(tactic| walk_at "z1") => `(tactic| first
  | (with_reducible refine' st_seq ?_) | (with_reducible refine' st_asg ?_) | (with_reducible refine' st_ret ?_) | (with_reducible refine' st_drop ?_) | (with_reducible refine' st_if ?_) | (with_reducible refine' st_next ?_) | (with_reducible refine' st_retN ?_) | (with_reducible refine' st_par ?_) | (with_reducible refine' st_break ?_) | (with_reducible refine' st_cont ?_)
  | ((with_reducible refine' st_augI ?h1 ?_); (case h1 => rfl))
  | (with_reducible refine' gd_name ?_) | ((with_reducible refine' gd_tup ?h1 ?_); (case h1 => rfl)) | ((with_reducible refine' gd_tupP ?h1 ?_); (case h1 => rfl)) | (with_reducible refine' gs_consP ?_) | (with_reducible refine' gs_nilP ?_) | (with_reducible refine' gs_consM ?_) | (with_reducible refine' gs_nilM ?_) | (with_reducible refine' gs_cons ?_) | (with_reducible refine' gs_nil ?_)
  | ((with_reducible refine' ex_varP ?h1 ?_); (case h1 => rfl)) | ((with_reducible refine' ex_var ?h1 ?_); (case h1 => rfl)) | (with_reducible refine' ex_int ?_) | (with_reducible refine' ex_bl ?_) | (with_reducible refine' ex_str ?_) | (with_reducible refine' ex_non ?_) | (with_reducible refine' ex_ty ?_)
  | (with_reducible refine' ex_op ?_) | (with_reducible refine' ex_un ?_) | (with_reducible refine' ex_cb ?_) | (with_reducible refine' ex_tupD ?_) | (with_reducible refine' ex_call ?_) | (with_reducible refine' ex_if ?_) | (with_reducible refine' ex_andV ?_) | (with_reducible refine' ex_orV ?_) | (with_reducible refine' ex_notV ?_) | (with_reducible refine' ex_isN ?_) | (with_reducible refine' ex_notN ?_) | (with_reducible refine' ex_chain ?_) | (with_reducible refine' ex_sl ?_) | (with_reducible refine' ex_bm ?_) | ((with_reducible refine' md_append ?h1 ?_); (case h1 => rfl))
  | (with_reducible refine' ad_cons ?_) | (with_reducible refine' ad_nil ?_) | (with_reducible refine' ax_cons ?_) | (with_reducible refine' ax_nil ?_) | (with_reducible refine' to_none ?_) | (with_reducible refine' to_some ?_)
  | (with_reducible refine' tt_test ?_) | (with_reducible refine' tt_B ?_) | (with_reducible refine' tt_and ?_) | (with_reducible refine' tt_or ?_) | (with_reducible refine' tt_not ?_) | (with_reducible refine' tt_yes ?_) | (with_reducible refine' tt_truT ?_)
  | (with_reducible refine' od_add ?_) | (with_reducible refine' od_sub ?_) | (with_reducible refine' od_lt ?_) | (with_reducible refine' od_le ?_) | (with_reducible refine' od_gt ?_) | (with_reducible refine' od_ge ?_) | (with_reducible refine' od_eqI ?_) | (with_reducible refine' od_neI ?_) | (with_reducible refine' od_eqS ?_) | (with_reducible refine' od_neS ?_) | (with_reducible refine' ud_neg ?_)
  | (with_reducible refine' od_isX ?_) | (with_reducible refine' od_notX ?_) | (with_reducible refine' cd_isiInt ?_) | (with_reducible refine' cd_isiTup ?_) | (with_reducible refine' cd_isiStr ?_) | (with_reducible refine' cd_isiLst ?_)
  | (with_reducible refine' cd_lenT ?_) | (with_reducible refine' cd_tupT ?_) | (with_reducible refine' cd_tupD ?_) | (with_reducible refine' cd_lenD ?_) | (with_reducible refine' cd_all ?_) | (with_reducible refine' cd_any ?_) | (with_reducible refine' cd_max2 ?_) | (with_reducible refine' cd_min2 ?_) | (with_reducible refine' cd_abs ?_) | (with_reducible refine' sd_tupA ?_)
  | ((with_reducible refine' it_tupP ?h1 ?_); (case h1 => rfl)) | ((with_reducible refine' it_enumP ?h1 ?_); (case h1 => rfl)) | (with_reducible refine' it_enumT ?_) | (with_reducible refine' ex_dnewT ?_) | (with_reducible refine' ex_dgetP ?_) | (with_reducible refine' it_tup ?_) | (with_reducible refine' it_rng1 ?_) | (with_reducible refine' it_rng2 ?_)
  | (refine' ⟨_, rfl, ?_⟩) | (refine' ⟨rfl, ?_⟩))
local macro_rules | `(tactic| walk_at "z") => `(tactic| repeat (walk_at "z1"))
local macro_rules | `(tactic| walk_at "gm") => `(tactic| (repeat (first | exact gm_name | exact gm_nil | refine gm_tup ?_ | refine gm_cons ?_ ?_)))
local macro_rules | `(tactic| walk_at "gw") => `(tactic| (repeat (first | exact gw_nil | exact gw_name (by simp) | refine gw_tup ?_ | (refine gw_cons (by walk_at "gm") (by walk_at "gm") ?_ ?_))))
local macro_rules | `(tactic| walk_at "y1") => `(tactic| first | (walk_at "z1") | ((with_reducible refine' ex_min ?h1 ?_); (case h1 => assumption)) | ((with_reducible refine' ex_fac ?h1 ?_); (case h1 => assumption)) | ((with_reducible refine' ex_trn ?h1 ?_); (case h1 => assumption)) | ((with_reducible refine' ex_nbs ?h1 ?_); (case h1 => assumption)) | ((with_reducible refine' ex_gbf ?h1 ?_); (case h1 => assumption)) | ((with_reducible refine' ex_gbs ?h1 ?_); (case h1 => assumption)) | ((with_reducible refine' ex_rbf ?h1 ?_); (case h1 => assumption)) | (with_reducible refine' ex_rows ?_) | (with_reducible refine' ex_zips ?_) | (with_reducible refine' it_zipA ?_) | (refine' ⟨_, _, (rfl : clv _ _ _ _ = clv _ _ _ _), ?_⟩))
local macro_rules | `(tactic| walk_at "y") => `(tactic| repeat (walk_at "y1"))
local macro_rules | `(tactic| walk_at "hF") => `(tactic| (refine iteF ?_; walk_at "y"))
local macro_rules | `(tactic| walk_at "hT") => `(tactic| (refine iteT ?_; walk_at "y"))
section
variable {K : PySem.W.Frag} {sl : Sl} {M : Mm} {Φ : Dv → Mm → Prop} {φ ψ : List Addr} {H H' : Hp}
theorem repVs_rev : ∀ {vs : List V} {xs : List Dv}, RepVs K φ ψ H vs xs → RepVs K φ ψ H vs.reverse xs.reverse
  | _, _, .nil => .nil
  | _, _, .cons a r => by
    rw [List.reverse_cons, List.reverse_cons]
    exact repVs_app (repVs_rev r) (.cons a .nil)
/-- xs[::-1] -/
theorem ex_back {te : TE} {ts : TO} (h : ExD K te sl M fun x M1 => ToD K ts sl M1 fun o M2 => o = some (-1) ∧ ∃ ds, x = .d (.list ds) ∧ Φ (.d (.list ds.reverse)) M2) : ExD K (tBack K te ts) sl M Φ := fun φ ψ σ H Q m s p =>
  h φ ψ σ H _ m s fun v x φ1 H1 M1 s1 m1 r1 h1 => h1 φ1 ψ σ H1 _ m1 (s.stp s1) fun o φ2 H2 M2 s2 m2 h2 => by
    obtain ⟨rfl, ds, rfl, f⟩ := h2
    obtain ⟨a, ws, rfl, sq, rs⟩ := lsD.sq m2 (RepV.stp s2 r1)
    exact ⟨rfl, a, ws, rfl, sq, fun q n => ((p.stp s1).stp s2).grown m2 (new_same n) (new_lst m2 n (by rw [List.map_reverse]; exact repVs_rev rs)) f⟩
theorem rep_zip {H2 : Hp} (m : RepM K φ ψ H M) (sm : Same H H2) : ∀ {as bs : List PyData} {w1 w2 : List V} {ts : List Addr}, RepVs K φ ψ H w1 (as.map .d) → RepVs K φ ψ H w2 (bs.map .d) → Paired (PrV H2) ts (w1.zip w2) → (∀ t ∈ ts, H t = none) → RepVs K φ ψ H2 (ts.map V.ref) (List.zipWith (fun a b => Dv.d (.tuple [a, b])) as bs)
  | [], _, _, _, _, r1, _, pr, _ => by
    cases r1
    cases pr
    exact .nil
  | _ :: _, [], _, _, _, r1, r2, pr, _ => by
    cases r2
    rw [List.zip_nil_right] at pr
    cases pr
    exact .nil
  | a :: as, b :: bs, _, _, _, r1, r2, pr, nt => by
    cases r1 with | cons ra r1 => ?_
    cases r2 with | cons rb r2 => ?_
    rw [List.zip_cons_cons] at pr
    cases pr with | cons e pr => ?_
    refine .cons ?_ (rep_zip m sm r1 r2 pr fun t mt => nt t (List.mem_cons_of_mem _ mt))
    exact show Dp K _ _ _ from .tup (.inl (.inl (mask_of (m.fresh (nt _ (List.mem_cons_self ..))) e))) (.cons (dp_same (Same.mask sm) ra) (.cons (dp_same (Same.mask sm) rb) .nil))
/-- xs.extend(list(zip(a, b))) -/
theorem md_extLz {k : Nat} {ta : TA} {xs0 : List Dv} (e0 : M[k]? = some (.lst xs0)) (h : AxD K ta sl M fun ys M1 => ∃ as bs xs, ys = [.d (.list as), .d (.list bs)] ∧ as.length = bs.length ∧ M1[k]? = some (.lst xs) ∧ xs.length + as.length ≤ 1000 ∧ Φ (.d .none) (M1.set k (.lst (xs ++ List.zipWith (fun a b => Dv.d (.tuple [a, b])) as bs)))) : MtD K "list" rExtend (.r k) (tCons (tLz K ta) tNil) sl M Φ := fun φ ψ σ H v Q m s r p => by
  obtain ⟨a, vs, rfl, ea, z, _⟩ := own_at m r e0
  refine ⟨.inl ⟨rfl, vs, .inl (.inl z)⟩, h φ ψ σ H _ m s fun ys xs1 φ1 H1 M1 s1 m1 r1 h1 => ?_⟩
  obtain ⟨as, bs, xs, rfl, le, e, l, f⟩ := h1
  cases r1 with | cons r2 t => ?_
  cases t with | cons r3 t => ?_
  cases t
  obtain ⟨b1, w1, rfl, sq1, rs1⟩ := lsD.sq m1 r2
  obtain ⟨b2, w2, rfl, sq2, rs2⟩ := lsD.sq m1 r3
  have l1 : w1.length = as.length := by rw [rs1.length, List.length_map]
  have l2 : w2.length = bs.length := by rw [rs2.length, List.length_map]
  refine ⟨b1, b2, w1, w2, rfl, sq1, sq2, by omega, fun S ts H2 sm nS eS pr nts => ?_⟩
  have m2 := m1.same sm
  have s2 : Stp φ1 H1 φ1 H2 := .of sm
  obtain ⟨a', vs', ez, ea', z', rs⟩ := own_at m2 (RepV.stp (s1.trans s2) r) e
  injection ez with ez
  subst ez
  have new := rep_zip m1 sm rs1 rs2 pr nts
  obtain ⟨s3, m3⟩ := own_wr m2 ea' (repVs_app rs new)
  have tl : ts.length = as.length := by rw [pr.length, List.length_zip]; omega
  exact ⟨a, S, vs', ts.map V.ref, rfl, rfl, z', eS, by rw [rs.length, List.length_map, tl]; exact Nat.le_of_lt (small1000 l), p _ (.d .none) φ1 _ _ ((s1.trans s2).trans s3) m3 .non f⟩
end
abbrev sFT : Stmt := topS 12
theorem scFT : FnScope ["cloth", "state", "number", "side", "row", "teeth", "low", "position"] ["cloth", "state", "number", "side"] (defScope sFT) := ⟨rfl, rfl, rfl, by decide +kernel, rfl, by decide +kernel, by decide +kernel⟩
abbrev sPairs : Stmt := topS 11
theorem scPairs : FnScope ["cloth", "state", "found", "number", "direction", "minimum", "first", "second"] ["cloth", "state"] (defScope sPairs) := ⟨rfl, rfl, rfl, by decide +kernel, rfl, by decide +kernel, by decide +kernel⟩
theorem teethL_get {i : Nat} {T low : Int} {n k : Nat} (h : k < n) : (teethL i T low n)[k]? = some ((i : Int), (low + (k : Int)) % T) := by
  unfold teethL
  rw [List.getElem?_map, List.getElem?_range h]
  rfl
abbrev teethD (l : List Foot) : PyData := .list (l.map footD)
abbrev prD (q : Foot × Foot) : PyData := .tuple [footD q.1, footD q.2]
theorem rowT_at {rs : List Row} {zs : List Zp} (c : ClothOk rs zs) {i j : Nat} {ro : Row} {x : Foot} (hi : rs[i]? = some ro) (hj : ro.feet[j]? = some x) : rowT rs [Sum.inl x.1, Sum.inl x.2] = some (.int (i : Nat)) := tabP_at (g := fun i _ => .int (i : Nat)) c.fit.nd hi hj
section
variable {P : Program} {w : World} {K : PySem.W.Frag} {mg : Str → Option Value} {base : Heap} {C fR fZ : Addr} {dR dZ : FuncData}
def spFT (K : PySem.W.Frag) (C : Addr) : SpD := spF fun ds y => ∃ rs zs ps, ∃ (i j : Nat) (ro : Row) (x : Foot), ds = [clv K C rs zs, .d (.tuple (ps.map p3D)), .d (.int x.1), .d (.int x.2)] ∧ ClothOk rs zs ∧ rs[i]? = some ro ∧ ro.feet[j]? = some x ∧ FootIn ps.length x ∧ 0 ≤ lowAt ps x ∧ lowAt ps x ≤ 48 ∧ 0 ≤ manyAt ps x ∧ manyAt ps x ≤ 24 ∧
  y = .d (teethD (teethL i ro.teeth (lowAt ps x) (manyAt ps x).toNat))
theorem ok_ft {f : Addr} {fd : FuncData} (T : Bl mg) (M : MC P w K mg base C fR fZ dR dZ) (F : Fun K "foot_teeth" "foot_teeth" sFT f fd) : FnOk P w K mg base CX0 2 f fd ["cloth", "state", "number", "side"] (toSp K (spFT K C)) := by
  have G := M.cls
  refine fn_d F scFT (fun ds M Φ h => ?_) (fun cdv A outer s H E hr ds M Φ h => ?_)
  · obtain ⟨_, y, ⟨_, _, _, _, _, _, _, rfl, _⟩, _⟩ := h
    rfl
  · obtain ⟨rfl, y, ⟨rs, zs, ps, i, j, ro, x, rfl, ok, hi, hj, fx, l0, l48, m0, m24, rfl⟩, q⟩ := h
    refine ⟨_, (pss_cons (ps_set (i := 4) scFT.nd rfl (Or.inr rfl) (pe_dget (hu_of hr) (pe_fld (pv 0) rfl) (pe_tup (pa_cons (pv 2) (pa_cons (pv 3) pa_nil))) (fun _ _ => rfl)))
      (pss_cons (ps_set (i := 5) scFT.nd rfl (Or.inr rfl) (pe_ix ix_tup (pe_ix ix_tup (pe_meth0 (pv 0) M.cls.cl M.mR M.okR (hr.mono (by decide)) M.bR .nil pass0) (pv 4) (fun _ _ => rfl)) pe_int (fun _ _ => rfl)))
      (pss_cons (ps_set (i := 6) scFT.nd rfl (Or.inl rfl) (pe_ix ix_tup (pe_ix ix_tup (pv 1) (pv 2) (fun _ _ => rfl)) (pv 3) (fun _ _ => rfl)))
      (pss_one (ps_ret (pe_lc (own := [("position", 7)]) (g := gName 7) (by rfl) scFT.nd (pi_range2 (by rfl) T.range_ (pa_cons (pv 6) (pa_cons (pe_op op_add (pv 6) (pe_ix ix_tup (pe_ix ix_tup (pv 1) (pv 2) (fun _ _ => rfl)) pe_int (fun _ _ => rfl))) pa_nil))) (blkOk_by (own := [("position", 7)]) (N := ["cloth", "state", "number", "side", "row", "teeth", "low", "position"]) (sc := defScope sFT) (by decide +kernel)) (fun _ _ _ _ _ => (pg_name (i := 7) scFT.nd rfl (Or.inl rfl))) (fun _ _ _ _ _ => pts_nil) (fun _ _ _ _ _ => (pe_tup (pa_cons (pv 4) (pa_cons (pe_op op_mod (pv 7) (pv 5)) pa_nil)))))))))), ?_⟩
    try dsimp only [cxOf, Cx.nox, Cx.wish]
    have t1 := (ok.teeth ro (List.mem_of_getElem? hi)).1
    walk_at "y"
    refine ⟨_, _, _, rfl, rowT_at ok hi hj, ?_⟩
    walk_at "y"
    refine od_ixT (x := rowD ro) (atI_nat (by rw [List.getElem?_map, hi]; rfl)) ?_
    walk_at "y"
    refine od_ixT (x := .int ro.teeth) (atI_nat (j := 1) rfl) ?_
    walk_at "y"
    refine od_ixT (ix_ent fx) ?_
    walk_at "y"
    refine od_ixT (ix_low fx) ?_
    walk_at "y"
    refine ex_lcE (by walk_at "gm") (by walk_at "gw") ?_
    walk_at "y"
    refine od_ixT (ix_ent fx) ?_
    walk_at "y"
    refine od_ixT ix_many ?_
    walk_at "y"
    have nn : (lowAt ps x + manyAt ps x - lowAt ps x).toNat = (manyAt ps x).toNat := by congr 1; omega
    refine ⟨_, _, rfl, by omega, (teethL i ro.teeth (lowAt ps x) (manyAt ps x).toNat).map footD, ?_, ?_, trivial, fun k y hy => ?_, ?_⟩
    · rw [nn, List.length_map, teethL_len]
      simp [rngD]
    · rw [List.length_map, teethL_len]
      omega
    · rw [nn] at hy
      obtain ⟨hk, rfl⟩ := rng_at hy
      walk_at "y"
      refine od_mod (by omega) ?_
      walk_at "y"
      refine ⟨_, by rw [List.getElem?_map, teethL_get hk]; rfl, rfl, rfl⟩
    · walk_at "y"
      exact out_0 trivial q
theorem cal_ft {f : Addr} {fd : FuncData} (T : Bl mg) (M : MC P w K mg base C fR fZ dR dZ) (F : Fun K "foot_teeth" "foot_teeth" sFT f fd) (g : mg "foot_teeth" = some (.ref f)) : Cal P w K mg base CX0 2 "foot_teeth" ["cloth", "state", "number", "side"] (toSp K (spFT K C)) :=
  ⟨f, fd, g, F.kp, F.binds (ps := ["cloth", "state", "number", "side"]) fun _ _ _ _ _ _ us hl => match us, hl with | [_, _, _, _], _ => rfl, ok_ft T M F⟩
theorem cal_req {f : Addr} {fd : FuncData} (T : Bl mg) (cIS : Cal P w K mg base CX0 3 "is_state" ["cloth", "value"] (toSp K (spISd K C))) (F : Fun K "require_state" "require_state" sReq f fd) (g : mg "require_state" = some (.ref f)) : Cal P w K mg base CX0 4 "require_state" ["cloth", "state"] (toSp K (spReqD K C)) :=
  ⟨f, fd, g, F.kp, F.binds (ps := ["cloth", "state"]) fun _ _ _ _ _ _ us hl => match us, hl with | [_, _], _ => rfl, ok_reqD T cIS F⟩
theorem cal_rq {f : Addr} {fd : FuncData} (T : Bl mg) (cFG : Cal P w K mg base CX0 2 "find_gaps" ["cloth", "value"] (toSp K (spFG K C))) (F : Fun K "require_gaps" "require_gaps" sRQ f fd) (g : mg "require_gaps" = some (.ref f)) : Cal P w K mg base CX0 3 "require_gaps" ["cloth", "state"] (toSp K (spRQ K C)) :=
  ⟨f, fd, g, F.kp, F.binds (ps := ["cloth", "state"]) fun _ _ _ _ _ _ us hl => match us, hl with | [_, _], _ => rfl, ok_rq T cFG F⟩
def spPrD (K : PySem.W.Frag) (C : Addr) : SpD := fun ds M Φ => M = [] ∧ ∃ rs zs ps, ds = [clv K C rs zs, .d (.tuple (ps.map p3D))] ∧ ClothOk rs zs ∧ ps.length = zs.length ∧ isStateB rs zs (.tuple (ps.map p3D)) = true ∧ Φ (.r 0) [.lst ((pairsN rs zs ps zs.length).map fun q => .d (prD q))]
theorem zip_prs (A B : List Foot) : List.zipWith (fun a b => Dv.d (.tuple [a, b])) (A.map footD) (B.map footD) = (A.zip B).map fun q => .d (prD q) := by
  induction A generalizing B with
  | nil => rfl
  | cons a A ih =>
    cases B with
    | nil => rfl
    | cons b B =>
      rw [List.map_cons, List.map_cons, List.zipWith_cons_cons, ih, List.zip_cons_cons, List.map_cons]
theorem ok_prD {f : Addr} {fd : FuncData} (T : Bl mg) (M : MC P w K mg base C fR fZ dR dZ) (cReq : Cal P w K mg base CX0 4 "require_state" ["cloth", "state"] (toSp K (spReqD K C))) (cFT : Cal P w K mg base CX0 2 "foot_teeth" ["cloth", "state", "number", "side"] (toSp K (spFT K C))) (F : Fun K "pairs" "pairs" sPairs f fd) : FnOk P w K mg base CX0 5 f fd ["cloth", "state"] (toSp K (spPrD K C)) := by
  refine fn_d0 F scPairs (fun ds M Φ h => ?_) (fun cdv A outer s H E hr ds M Φ h => ?_)
  · obtain ⟨_, _, _, _, rfl, _⟩ := h
    rfl
  · obtain ⟨rfl, rs, zs, ps, rfl, ok, pl, st, q⟩ := h
    refine ⟨_, (pss_cons (ps_expr (pe_cal cReq (hr.mono (by decide)) pass0 (by rfl) (pa_cons (pv 0) (pa_cons (pv 1) pa_nil))))
      (pss_cons (ps_set (i := 2) scPairs.nd rfl (Or.inl rfl) (pe_lst pa_nil))
      (pss_cons (ps_for PassesOwn.never rfl (pi_enumT (by rfl) T.enumerate_ (pa_cons (pe_meth0 (pv 0) M.cls.cl M.mZ M.okZ (hr.mono (by decide)) M.bZ .nil pass0) pa_nil)) (pg_tup rfl (pgs_cons (pg_name (i := 3) scPairs.nd rfl (Or.inl rfl)) (pgs_cons (pg_tup rfl (pgs_cons (pg_name (i := 4) scPairs.nd rfl (Or.inl rfl)) (pgs_cons (pg_name (i := 5) scPairs.nd rfl (Or.inl rfl)) pgs_nil))) pgs_nil)))
        (pss_cons (ps_set (i := 6) scPairs.nd rfl (Or.inl rfl) (pe_cal cFT (hr.mono (by decide)) pass0 (by rfl) (pa_cons (pv 0) (pa_cons (pv 1) (pa_cons (pv 3) (pa_cons pe_int pa_nil))))))
        (pss_cons (ps_set (i := 7) scPairs.nd rfl (Or.inl rfl) (pe_cal cFT (hr.mono (by decide)) pass0 (by rfl) (pa_cons (pv 0) (pa_cons (pv 1) (pa_cons (pv 3) (pa_cons pe_int pa_nil))))))
        (C8.pss_cut (ps_if (pt_cmpR op_eq (pv 4) pe_str (nomark _))
          (pss_one (ps_set (i := 7) scPairs.nd rfl (Or.inl rfl) (pe_back (pv 7) (po_some (pe_un un_neg pe_int)))))
          pss_nil)
        (pss_one (ps_expr (pe_bm PySem.F.plainAttrs_list PySem.F.slot_list_extend PySem.F.type_list_extend mt_extend (pv 2) (pa_cons (pe_listZip rfl (by rfl) T.list_ (by rfl) T.zip_ (pa_cons (pv 6) (pa_cons (pv 7) pa_nil))) pa_nil))))))))
      (pss_one (ps_ret (pv 2)))))), ?_⟩
    try dsimp only [cxOf, Cx.nox, Cx.wish]
    have z8 := ok.zips
    have sk := st_ok ok st
    have fit := ok.fit
    walk_at "y"
    · exact pu2 trivial trivial
    refine ⟨_, ⟨rs, zs, _, rfl, ok, st, rfl⟩, rfl, trivial, ?_⟩
    walk_at "y"
    refine ex_own (ax_nil ⟨by decide, ?_⟩)
    walk_at "y"
    refine st_for ?_
    walk_at "y"
    refine ⟨fun k sl' M' => ∃ x3 x4 x5 x6 x7 : Option Dv, sl' = [some (clv K C rs zs), some (.d (.tuple (ps.map p3D))), some (.r 0), x3, x4, x5, x6, x7] ∧ M' = [.lst ((pairsN rs zs ps k).map fun q => .d (prD q))], ⟨none, none, none, none, none, rfl, rfl⟩, fun _ _ _ _ => trivial, ?_, ?_⟩
    · rintro k x sl' M' hx ⟨x3, x4, x5, x6, x7, rfl, rfl⟩
      obtain ⟨zk, hzk, rfl⟩ := enumD_map hx
      have hk : k < zs.length := (List.getElem?_eq_some_iff.mp hzk).1
      have f0 : FootIn zs.length ((k : Int), 0) := ⟨⟨by show (0 : Int) ≤ k; omega, by show (k : Int) < _; omega⟩, .inl rfl⟩
      have f1 : FootIn zs.length ((k : Int), 1) := ⟨⟨by show (0 : Int) ≤ k; omega, by show (k : Int) < _; omega⟩, .inr rfl⟩
      obtain ⟨i0, ro0, j0, hi0, hj0⟩ := fit.all _ f0
      obtain ⟨i1, ro1, j1, hi1, hj1⟩ := fit.all _ f1
      obtain ⟨l0, l1, m0, m1⟩ := sk.low ok hi0 hj0
      obtain ⟨l0', l1', m0', m1'⟩ := sk.low ok hi1 hj1
      have tot : (pairsN rs zs ps (k + 1)).length ≤ 24 * (k + 1) := pairsN_len (k + 1) fun n hn => by
        have fn : FootIn zs.length ((n : Int), 0) := ⟨⟨by show (0 : Int) ≤ n; omega, by show (n : Int) < _; omega⟩, .inl rfl⟩
        obtain ⟨i2, ro2, j2, hi2, hj2⟩ := fit.all _ fn
        have := sk.low ok hi2 hj2
        omega
      rw [pairsN_succ hzk, List.length_append, zipPr_len] at tot
      walk_at "y"
      · exact pu4 trivial trivial trivial trivial
      refine ⟨_, ⟨rs, zs, ps, i0, j0, ro0, ((k : Int), 0), rfl, ok, hi0, hj0, by rw [pl]; exact f0, l0, l1, m0, m1, rfl⟩, rfl, trivial, ?_⟩
      rw [← teethAt_eq fit.nd hi0 hj0]
      walk_at "y"
      · exact pu4 trivial trivial trivial trivial
      refine ⟨_, ⟨rs, zs, ps, i1, j1, ro1, ((k : Int), 1), rfl, ok, hi1, hj1, by rw [pl]; exact f1, l0', l1', m0', m1', rfl⟩, rfl, trivial, ?_⟩
      rw [← teethAt_eq fit.nd hi1 hj1]
      walk_at "y"
      refine st_cut (fun sl' M' => sl' = [some (clv K C rs zs), some (.d (.tuple (ps.map p3D))), some (.r 0), some (.d (.int (k : Nat))), some (.d (.str (dirS zk.1))), some (.d (.int zk.2)), some (.d (teethD (teethAt rs ps ((k : Int), 0)))), some (.d (teethD (if zk.1 then (teethAt rs ps ((k : Int), 1)).reverse else teethAt rs ps ((k : Int), 1))))] ∧ M' = [.lst ((pairsN rs zs ps k).map fun q => .d (prD q))]) ?_ ?_
      · walk_at "y"
        rw [dir_rev]
        cases ez : zk.1 with
        | false =>
          walk_at "hF"
          first | exact ⟨rfl, rfl⟩ | exact rfl
        | true =>
          walk_at "hT"
          refine ex_back ?_
          walk_at "y"
          refine ⟨?_, rfl⟩
          rw [if_pos rfl, ← List.map_reverse]
          rfl
      · rintro sl' M' ⟨rfl, rfl⟩
        walk_at "y"
        refine md_extLz rfl ?_
        walk_at "y"
        refine ⟨_, _, _, rfl, ?_, rfl, ?_, ?_⟩
        · rw [List.length_map, List.length_map, teethAt_len]
          cases zk.1 with
          | true => rw [if_pos rfl, List.length_reverse, teethAt_len]; rfl
          | false => rw [if_neg (by simp), teethAt_len]; rfl
        · rw [List.length_map, List.length_map, teethAt_len]
          omega
        · rw [zip_prs]
          dsimp only
          rw [pairsN_succ hzk, List.map_append]
          exact ⟨_, _, _, _, _, rfl, rfl⟩
    · rintro sl' M' ⟨x3, x4, x5, x6, x7, rfl, rfl⟩
      walk_at "y"
      have el : (enumD (zs.map zipD)).length = zs.length := by unfold enumD; rw [List.length_map, List.length_range, List.length_map]
      rw [el]
      exact q
end
end Zs
namespace Zs
open PySem PySem.Spec PyProof.Rows L2
section
variable {K : PySem.W.Frag} {a : Addr} {H H' : Hp}
theorem TupPs.but {va : Addr} {ps : List P3} {ys : List V} (h : TupPs K H va ps) (ha : H a = some (.lst ys)) (b : But a H H') : TupPs K H' va ps := by
  obtain ⟨ts, e, r⟩ := h
  exact ⟨ts, b.seqT ha e, Paired.mono (fun _ _ z => b.seqT ha z) r⟩
theorem dp_state {va : Addr} {ps : List P3} (h : TupPs K H va ps) : Dp K H (.ref va) (.tuple (ps.map p3D)) := by
  obtain ⟨ts, e, r⟩ := h
  exact .tup e (dp_list (f := p3D) (fun t p z => .tup z (.cons (.int _) (.cons (.int _) (.cons (.int _) .nil)))) r)
theorem gd_state {ps : List P3} (l : ps.length ≤ 8) : Gd 1000 2 (.tuple (ps.map p3D)) := by
  refine .tuple (by rw [List.length_map]; omega) fun d hd => ?_
  obtain ⟨p, _, rfl⟩ := List.mem_map.mp hd
  refine .tuple (by simp) fun d hd => ?_
  rcases (show d = .int p.1 ∨ d = .int p.2.1 ∨ d = .int p.2.2 by simpa using hd) with rfl | rfl | rfl <;> exact .int _
end
/-- the list at D, built of new pairs of whole numbers -/
structure Bld (H0 H : Hp) (D : Addr) (L : List Foot) (k : Nat) (ts : List Addr) : Prop where
  new : H0 D = none
  same : Same H0 H
  at_ : H D = some (.lst (ts.map V.ref))
  prs : Paired (TupF H) ts (L.take k)
theorem Bld.zero {H0 : Hp} {D : Addr} {L : List Foot} (n : H0 D = none) : Bld H0 (upd H0 D (.lst [])) D L 0 [] := ⟨n, same_upd n, upd_same, by rw [List.take_zero]; exact .nil⟩
theorem Bld.step {H0 H : Hp} {D t : Addr} {L : List Foot} {k : Nat} {ts : List Addr} {y : Foot} (b : Bld H0 H D L k ts) (hy : L[k]? = some y) (nt : H t = none) :
    (upd H t (.tup [.int y.1, .int y.2])) D = some (.lst (ts.map V.ref)) ∧ Bld H0 (upd (upd H t (.tup [.int y.1, .int y.2])) D (.lst (ts.map V.ref ++ [.ref t]))) D L (k + 1) (ts ++ [t]) := by
  have Dt : D ≠ t := ne_of_none b.at_ nt
  have eD : (upd H t (.tup [.int y.1, .int y.2])) D = some (.lst (ts.map V.ref)) := by rw [upd_ne Dt]; exact b.at_
  refine ⟨eD, b.new, fun c o e => ?_, by rw [upd_same, List.map_append]; rfl, ?_⟩
  · rw [upd_ne (ne_of_none e b.new), upd_ne (ne_of_none (b.same _ _ e) nt)]
    exact b.same _ _ e
  · rw [take_succ_of hy]
    have tp : Tp H (upd (upd H t (.tup [.int y.1, .int y.2])) D (.lst (ts.map V.ref ++ [.ref t]))) := (Tp.new nt).trans (Tp.wr eD)
    refine paired_app (Paired.mono (fun _ _ e => tp _ _ e) b.prs) (.cons ?_ .nil)
    show _ = _
    rw [upd_ne Dt.symm, upd_same]
theorem Bld.len {H0 H : Hp} {D : Addr} {L : List Foot} {k : Nat} {ts : List Addr} (b : Bld H0 H D L k ts) (h : k ≤ L.length) : ts.length = k := by
  rw [b.prs.length, List.length_take]
  omega
theorem Bld.all {H0 H : Hp} {D : Addr} {L : List Foot} {k : Nat} {ts : List Addr} (b : Bld H0 H D L k ts) (h : L.length ≤ k) : LstFs H D L := ⟨ts, b.at_, by have := b.prs; rw [List.take_of_length_le h] at this; exact this⟩
def TupG (K : PySem.W.Frag) (H : Hp) (t : Addr) (l : List (List Int)) : Prop := ∃ ts : List Addr, SqT K H t (ts.map V.ref) ∧ Paired (fun t (ns : List Int) => SqT K H t (ns.map V.int)) ts l
section
variable {P : Program} {w : World} {K : PySem.W.Frag} {mg : Str → Option Value} {base : Heap} {C : Addr}
def spRG (K : PySem.W.Frag) : Sp := fun vs H Q _ => ∃ (t v : Addr) (r : Row) (ps : List P3), vs = [.ref t, .ref v] ∧ TupR H t r ∧ TupPs K H v ps ∧ (∀ x ∈ r.feet, FootIn ps.length x) ∧ r.feet.length ≤ 16 ∧
  ∀ (p : Addr) (H' : Hp), Same H H' → SqT K H' p ((gapsL r ps).map V.int) → Q (.ref p) H'
theorem gaps_len (r : Row) (ps : List P3) (h : r.feet.length ≤ 16) : (gapsL r ps).length ≤ 17 := by
  unfold gapsL startsL highsL
  split
  · show 1 ≤ 17; omega
  · rw [List.length_zipWith]
    refine Nat.le_trans (Nat.min_le_left _ _) ?_
    split
    · rw [List.length_map]; omega
    · rw [List.length_cons, List.length_map]; omega
theorem same_seqTs {H H' : Hp} {ts : List Addr} {l : List (List Int)} (x : Same H H') (h : Paired (fun t (ns : List Int) => SqT K H t (ns.map V.int)) ts l) : Paired (fun t (ns : List Int) => SqT K H' t (ns.map V.int)) ts l := Paired.mono (fun _ _ e => same_seqT x e) h
theorem seqT_wr {H : Hp} {D t : Addr} {ys xs : List V} {o : HO} (hD : H D = some (.lst ys)) (h : SqT K H t xs) : SqT K (upd H D o) t xs := (But.wr (a := D) (o := o)).seqT hD h
def TupP (H : Hp) (t : Addr) (q : Foot × Foot) : Prop := ∃ a b : Addr, H t = some (.tup [.ref a, .ref b]) ∧ TupF H a q.1 ∧ TupF H b q.2
def LstPr (H : Hp) (t : Addr) (l : List (Foot × Foot)) : Prop := ∃ ts : List Addr, H t = some (.lst (ts.map V.ref)) ∧ Paired (TupP H) ts l
theorem TupP.tp {H H' : Hp} {t : Addr} {q : Foot × Foot} (h : TupP H t q) (x : Tp H H') : TupP H' t q := by
  obtain ⟨a, b, e, e1, e2⟩ := h
  exact ⟨a, b, x _ _ e, x _ _ e1, x _ _ e2⟩
theorem prs_of {H H' : Hp} (tp : Tp H H') : ∀ {ts us vs : List Addr} {A B : List Foot}, Paired (TupF H) us A → Paired (TupF H) vs B → Paired (PrV H') ts ((us.map V.ref).zip (vs.map V.ref)) → Paired (TupP H') ts (A.zip B)
  | _, _, _, _, _, .nil, _, h => by
    cases h
    exact .nil
  | _, _, _, _, _, .cons _ _, .nil, h => by
    cases h
    exact .nil
  | _, _, _, _, _, .cons a r, .cons b s, h => by
    cases h with
    | cons e t => exact .cons ⟨_, _, e, tp _ _ a, tp _ _ b⟩ (prs_of tp r s t)
theorem paired_rev {α β : Type} {F : α → β → Prop} : ∀ {l : List α} {m : List β}, Paired F l m → Paired F l.reverse m.reverse
  | _, _, .nil => .nil
  | _, _, .cons r t => by
    rw [List.reverse_cons, List.reverse_cons]
    exact paired_app (paired_rev t) (.cons r .nil)
def gapD (ns : List Int) : PyData := .tuple (ns.map .int)
theorem ints_all {H : Hp} : ∀ {ns : List Int} {xs : List V}, DpAll K H xs (ns.map .int) → xs = ns.map V.int
  | [], _, .nil => rfl
  | _ :: _, _, .cons h t => by
    cases h
    rw [ints_all t]
    rfl
theorem gaps_all {H : Hp} : ∀ {l : List (List Int)} {vs : List V}, DpAll K H vs (l.map gapD) → ∃ ts : List Addr, vs = ts.map V.ref ∧ Paired (fun t (ns : List Int) => SqT K H t (ns.map V.int)) ts l
  | [], _, .nil => ⟨[], rfl, .nil⟩
  | ns :: l, _, .cons h t => by
    obtain ⟨ts, rfl, r⟩ := gaps_all t
    cases h with
    | tup sq ha =>
      rw [ints_all ha] at sq
      exact ⟨_ :: ts, rfl, .cons sq r⟩
theorem tupG_of {H : Hp} {v : V} {l : List (List Int)} (h : Dp K H v (.tuple (l.map gapD))) : ∃ t, v = .ref t ∧ TupG K H t l := by
  cases h with
  | tup sq ha =>
    obtain ⟨ts, rfl, r⟩ := gaps_all ha
    exact ⟨_, rfl, ts, sq, r⟩
def spGaps (K : PySem.W.Frag) (C : Addr) : Sp := fun vs H Q _ => ∃ (p v : Addr) (rs : List Row) (zs : List Zp) (ps : List P3), vs = [.ref p, .ref v] ∧ ClothA K C rs zs (.ref p) H ∧ ClothOk rs zs ∧ TupPs K H v ps ∧ isStateB rs zs (.tuple (ps.map p3D)) = true ∧
  ∀ (t : Addr) (H' : Hp), Same H H' → TupG K H' t (rs.map fun ro => gapsL ro ps) → Q (.ref t) H'
theorem cal_gaps {f : Addr} {fd : FuncData} (h : FnOk P w K mg base CX0 4 f fd ["cloth", "state"] (toSp K (spGapsD K C))) (F : Fun K "gaps" "gaps" sGaps f fd) (g : mg "gaps" = some (.ref f)) : Cal P w K mg base CX0 4 "gaps" ["cloth", "state"] (spGaps K C) :=
  ⟨f, fd, g, F.kp, F.binds (ps := ["cloth", "state"]) fun _ _ _ _ _ _ us hl => match us, hl with | [_, _], _ => rfl, h.imp fun vs H Q E h => by
    obtain ⟨p, v, rs, zs, ps, rfl, hc, ok, hps, st, q⟩ := h
    refine ⟨[], [], [], [clv K C rs zs, .d (.tuple (ps.map p3D))], fun y M => y = .d (gapsT rs ps) ∧ M = [], repM0 K H, .cons (rep_o0 (fun _ _ s h => h.mono s) hc) (.cons (rep_d0 (dp_state hps)) .nil), ⟨rfl, _, ⟨rs, zs, ps, rfl, ok, st, rfl⟩, rfl, rfl⟩, fun v y φ' H' M' s m r h => ?_⟩
    obtain ⟨rfl, rfl⟩ := h
    have e : φ' = [] := List.length_eq_zero_iff.mp m.len
    subst e
    obtain ⟨t, rfl, tg⟩ := tupG_of (l := rs.map fun ro => gapsL ro ps) (by rw [List.map_map]; exact of_d0 r)
    exact q t H' (stp0 s) tg⟩
def spPairs (K : PySem.W.Frag) (C : Addr) : Sp := fun vs H Q _ => ∃ (p v : Addr) (rs : List Row) (zs : List Zp) (ps : List P3), vs = [.ref p, .ref v] ∧ ClothA K C rs zs (.ref p) H ∧ ClothOk rs zs ∧ TupPs K H v ps ∧ ps.length = zs.length ∧ isStateB rs zs (.tuple (ps.map p3D)) = true ∧
  ∀ (D : Addr) (us : List V) (H' : Hp), Same H H' → H D = none → H' D = some (.lst us) → DpAll K (mask [D] H') us ((pairsN rs zs ps zs.length).map prD) → Q (.ref D) H'
theorem cal_pairs {f : Addr} {fd : FuncData} (h : FnOk P w K mg base CX0 5 f fd ["cloth", "state"] (toSp K (spPrD K C))) (F : Fun K "pairs" "pairs" sPairs f fd) (g : mg "pairs" = some (.ref f)) : Cal P w K mg base CX0 5 "pairs" ["cloth", "state"] (spPairs K C) :=
  ⟨f, fd, g, F.kp, F.binds (ps := ["cloth", "state"]) fun _ _ _ _ _ _ us hl => match us, hl with | [_, _], _ => rfl, h.imp fun vs H Q E h => by
    obtain ⟨p, v, rs, zs, ps, rfl, hc, ok, hps, pl, st, q⟩ := h
    refine ⟨[], [], [], [clv K C rs zs, .d (.tuple (ps.map p3D))], fun y M => y = .r 0 ∧ M = [.lst ((pairsN rs zs ps zs.length).map fun q => .d (prD q))], repM0 K H, .cons (rep_o0 (fun _ _ s h => h.mono s) hc) (.cons (rep_d0 (dp_state hps)) .nil), ⟨rfl, rs, zs, ps, rfl, ok, pl, st, rfl, rfl⟩, fun v y φ' H' M' s m r h => ?_⟩
    obtain ⟨rfl, rfl⟩ := h
    obtain ⟨D, rfl⟩ : ∃ D, φ' = [D] := List.length_eq_one_iff.mp m.len
    obtain ⟨a, ea, rfl⟩ := r
    cases ea
    obtain ⟨us, e1, e2⟩ := m.at_ 0 D _ rfl rfl
    have nD : H D = none := by
      rcases s.new D (List.mem_singleton.mpr rfl) with z | z
      · cases z
      · exact z
    refine q D us H' (stp0 s) nD e1 ?_
    have := of_repVs_d (ds := (pairsN rs zs ps zs.length).map prD) (by rw [List.map_map]; exact e2)
    exact this⟩
end
end Zs
namespace Zs
open PySem PySem.Spec PyProof.Rows L2
abbrev sTO : Stmt := topS 58
theorem scTO : FnScope ["_law_spec", "_law_state_here", "_law_number", "_law_side", "_law_at", "_law_sort", "_law_teeth", "_law_feet", "_law_k"] ["_law_spec", "_law_state_here", "_law_number", "_law_side"] (defScope sTO) := ⟨rfl, rfl, rfl, by decide +kernel, rfl, by decide +kernel, by decide +kernel⟩
abbrev sLP : Stmt := topS 59
theorem scLP : FnScope ["_law_spec", "_law_state_here", "_law_found", "_law_number", "_law_way", "_law_tied", "_law_others", "_law_one", "_law_other"] ["_law_spec", "_law_state_here"] (defScope sLP) := ⟨rfl, rfl, rfl, by decide +kernel, rfl, by decide +kernel, by decide +kernel⟩
abbrev sLG : Stmt := topS 60
theorem scLG : FnScope ["_law_row", "_law_state_here", "_law_sort", "_law_teeth", "_law_feet", "_law_found", "_law_place", "_law_number", "_law_side", "_law_first"] ["_law_row", "_law_state_here"] (defScope sLG) := ⟨rfl, rfl, rfl, by decide +kernel, rfl, by decide +kernel, by decide +kernel⟩
section
variable {P : Program} {w : World} {K : PySem.W.Frag} {mg : Str → Option Value} {base : Heap}
def spTO (K : PySem.W.Frag) : Sp := fun vs H Q _ => ∃ (sp r z v : Addr) (rs : List Row) (zs : List Zp) (ps : List P3) (i j : Nat) (ro : Row) (x : Foot), vs = [.ref sp, .ref v, .int x.1, .int x.2] ∧ H sp = some (.tup [.ref r, .ref z]) ∧ TupRs H r rs ∧ ClothOk rs zs ∧ TupPs K H v ps ∧ rs[i]? = some ro ∧ ro.feet[j]? = some x ∧ FootIn ps.length x ∧
  0 ≤ lowAt ps x ∧ lowAt ps x ≤ 48 ∧ 0 ≤ manyAt ps x ∧ manyAt ps x ≤ 24 ∧ ∀ (D : Addr) (H' : Hp), Same H H' → H D = none → LstFs H' D (teethL i ro.teeth (lowAt ps x) (manyAt ps x).toNat) → Q (.ref D) H'
set_option maxHeartbeats 800000 in
theorem ok_to {f : Addr} {fd : FuncData} (T : Bl mg) (F : Fun K "_law_teeth_of" "_law_teeth_of" sTO f fd) : FnOk P w K mg base CX0 1 f fd ["_law_spec", "_law_state_here", "_law_number", "_law_side"] (spTO K) := by
  refine F.ok scTO (fun vs H Q E h => ?_) (fun cdv A outer s H vs Q E hr h => ?_)
  · obtain ⟨sp, r, z, v, rs, zs, ps, i, j, ro, x, rfl, _⟩ := h
    rfl
  · obtain ⟨sp, r, z, v, rs, zs, ps, i, j, ro, x, rfl, esp, hrs, c, hps, hi, hj, fx, l0, l1, m0, m1, q⟩ := h
    refine ⟨_, (pss_cons (ps_for PassesOwn.never rfl (pi_enumT (by rfl) T.enumerate_ (pa_cons (pe_ix ix_tup (pv 0) pe_int (fun _ _ => rfl)) pa_nil)) (pg_tup rfl (pgs_cons (pg_name (i := 4) scTO.nd rfl (Or.inr rfl)) (pgs_cons (pg_tup rfl (pgs_cons (pg_name (i := 5) scTO.nd rfl (Or.inl rfl)) (pgs_cons (pg_name (i := 6) scTO.nd rfl (Or.inr rfl)) (pgs_cons (pg_name (i := 7) scTO.nd rfl (Or.inl rfl)) pgs_nil)))) pgs_nil)))
        (pss_one (ps_if (pt_cmpR (op_inDT (u65 hr)) (pe_tup (pa_cons (pv 2) (pa_cons (pv 3) pa_nil))) (pv 7) rfl)
          (pss_one (ps_ret (pe_lc (own := [("_law_k", 8)]) (g := gName 8) (by rfl) scTO.nd (pi_range1 (by rfl) T.range_ (pa_cons (pe_ix ix_tup (pe_ix ix_tup (pv 1) (pv 2) (fun _ _ => rfl)) pe_int (fun _ _ => rfl)) pa_nil)) (blkOk_by (own := [("_law_k", 8)]) (N := ["_law_spec", "_law_state_here", "_law_number", "_law_side", "_law_at", "_law_sort", "_law_teeth", "_law_feet", "_law_k"]) (sc := defScope sTO) (by decide +kernel)) (fun _ _ _ _ _ => (pg_name (i := 8) scTO.nd rfl (Or.inl rfl))) (fun _ _ _ _ _ => pts_nil) (fun _ _ _ _ _ => (pe_tup (pa_cons (pv 4) (pa_cons (pe_op op_mod (pe_op op_add (pe_ix (ix_tupK (K := K) rfl) (pe_ix (ix_tupK (K := K) rfl) (pv 1) (pv 2) (fun _ _ => rfl)) (pv 3) (fun _ _ => rfl)) (pv 8)) (pv 6)) pa_nil)))))))
          pss_nil)))
      (pss_one (ps_ret (pe_lst pa_nil)))), ?_⟩
    have fit := c.fit
    obtain ⟨ts, er, pr⟩ := id hrs
    have rq : SqT K H r (ts.map V.ref) := .inl (.inl er)
    have il : i < ts.length := by rw [pr.length]; exact (List.getElem?_eq_some_iff.mp hi).1
    refine ⟨.ref sp, rfl, sp, _, 0, .ref r, rfl, rfl, .inl (.inl esp), atI_nat (j := 0) rfl, r, _, rfl, rq, ?_⟩
    refine for_enumT (K := K) (a := r) (xs := ts.map V.ref) (fun i' σ H1 => Same H H1 ∧ i' ≤ i ∧ ∃ x4 x5 x6 x7 : Option V, σ = [some (.ref sp), some (.ref v), some (.int x.1), some (.int x.2), x4, x5, x6, x7, none]) ⟨.refl H, Nat.zero_le _, none, none, none, none, rfl⟩ (fun i' σ H1 _ hv => same_seqT hv.1 rq) (fun i' y σ H1 T0 hy hv nT => ?_) (fun σ H1 hv => ?_)
    · obtain ⟨sm, hle, x4, x5, x6, x7, rfl⟩ := hv
      obtain ⟨t, ht, rfl⟩ : ∃ t, ts[i']? = some t ∧ y = .ref t := by
        rw [List.getElem?_map] at hy
        cases e : ts[i']? with
        | none => rw [e] at hy; cases hy
        | some t => rw [e] at hy; exact ⟨t, rfl, (Option.some.inj hy).symm⟩
      obtain ⟨ro2, hro2, htr⟩ := paired_get pr ht
      have s2 : Same H (upd H1 T0 (.tup [.int (i' : Nat), .ref t])) := sm.trans (same_upd nT)
      obtain ⟨fe, et, us, eu, pu⟩ := htr.tp (.of s2)
      refine ⟨T0, _, rfl, .inl (.inl upd_same), rfl, .int (i' : Nat), [.ref t], rfl, .ref t, [], rfl, t, _, rfl, .inl (.inl et), rfl, .str (sortS ro2.ring), [.int ro2.teeth, .ref fe], rfl, .int ro2.teeth, [.ref fe], rfl, .ref fe, [], rfl, rfl, rfl, ?_⟩
      generalize upd H1 T0 (.tup [.int (i' : Nat), .ref t]) = H2 at s2 et eu pu ⊢
      have mem2 := List.mem_of_getElem? hro2
      refine ⟨.int x.1, rfl, .int x.2, rfl, by show 2 ≤ sizeLine; decide, fun u nu => ?_⟩
      have su := same_upd (o := .tup [.int x.1, .int x.2]) nu
      have eu3 : TupF (upd H2 u (.tup [.int x.1, .int x.2])) u x := upd_same
      have s3 := s2.trans su
      generalize upd H2 u (.tup [.int x.1, .int x.2]) = H3 at su eu3 s3 ⊢
      refine ⟨.ref fe, rfl, footD x, ro2.feet.map footD, dp_foot eu3, dp_feet ⟨us, eu.tp (.of su), Paired.mono (fun _ _ e => su _ _ e) pu⟩, (gd_foot x).shaped (by decide), (gd_feet (fit.flen ro2 mem2)).shaped (by decide), _, rfl, ?_⟩
      rw [any_foot]
      by_cases hm : x ∈ ro2.feet
      · rw [decide_eq_true hm]
        obtain ⟨j2, hj2l, hj2⟩ := List.getElem_of_mem hm
        obtain ⟨ei, ej⟩ := feet_place fit.nd hi hj hro2 (by rw [List.getElem?_eq_getElem hj2l, hj2])
        subst ei
        have e2 := Option.some.inj (hi.symm.trans hro2)
        subst e2
        obtain ⟨xs, t2, ys, a1, a2, a3, a4, a5⟩ := look (hps.same s3) fx
        obtain ⟨n, hn⟩ := Int.eq_ofNat_of_zero_le m0
        have tt := (fit.teeth ro mem2).1
        refine iteT ⟨.ref v, rfl, .int x.1, rfl, v, xs, x.1, .ref t2, rfl, rfl, a1, a2, t2, ys, 2, _, rfl, rfl, a3, a5, manyAt ps x, rfl, by omega, by omega, fun D nD => ?_⟩
        refine lc_range (lo := 0) (n := (manyAt ps x).toNat) (fun k H4 => ∃ us, Bld H3 H4 D (teethL i ro.teeth (lowAt ps x) (manyAt ps x).toNat) k us) ⟨[], .zero nD⟩ (fun k H4 hk hv => ?_) (fun H4 hv => ?_)
        · obtain ⟨us, b⟩ := hv
          obtain ⟨xs, t2, ys, a1, a2, a3, a4, a5⟩ := look (hps.same (s3.trans b.same)) fx
          refine ⟨rfl, .int (i : Nat), rfl, .ref v, rfl, .int x.1, rfl, v, xs, x.1, .ref t2, rfl, rfl, a1, a2, .int x.2, rfl, t2, ys, x.2, _, rfl, rfl, a3, a4, .int (0 + (k : Nat)), rfl, lowAt ps x, 0 + (k : Nat), rfl, rfl, .int ro.teeth, rfl, lowAt ps x + (0 + (k : Nat)), ro.teeth, rfl, rfl, by omega, by show 2 ≤ sizeLine; decide, fun t nt => ?_⟩
          rw [Int.zero_add]
          obtain ⟨eD, b2⟩ := b.step (teethL_get hk) nt
          exact ⟨_, eD, by rw [List.length_map, b.len (by rw [teethL_len]; omega)]; exact small1000 (by omega), _, b2⟩
        · obtain ⟨us, b⟩ := hv
          exact q D H4 (s3.trans b.same) (s3.free nD) (b.all (by rw [teethL_len]; exact Nat.le_refl _))
      · rw [decide_eq_false hm]
        refine iteF ⟨s3, ?_, _, _, _, _, rfl⟩
        have : i' ≠ i := fun e => by
          subst e
          rw [hi] at hro2
          rw [← Option.some.inj hro2] at hm
          exact hm (List.mem_of_getElem? hj)
        omega
    · obtain ⟨sm, hle, _⟩ := hv
      rw [List.length_map] at hle
      omega
theorem cal_to {f : Addr} {fd : FuncData} (T : Bl mg) (F : Fun K "_law_teeth_of" "_law_teeth_of" sTO f fd) (g : mg "_law_teeth_of" = some (.ref f)) : Cal P w K mg base CX0 1 "_law_teeth_of" ["_law_spec", "_law_state_here", "_law_number", "_law_side"] (spTO K) :=
  ⟨f, fd, g, F.kp, F.binds (ps := ["_law_spec", "_law_state_here", "_law_number", "_law_side"]) fun _ _ _ _ _ _ us hl => match us, hl with | [_, _, _, _], _ => rfl, ok_to T F⟩
/-! ### _law_pairs -/
structure BldV (H0 H : Hp) (D : Addr) (L : List (V × V)) (k : Nat) (ts : List Addr) : Prop where
  new : H0 D = none
  same : Same H0 H
  at_ : H D = some (.lst (ts.map V.ref))
  prs : Paired (PrV H) ts (L.take k)
theorem BldV.zero {H0 : Hp} {D : Addr} {L : List (V × V)} (n : H0 D = none) : BldV H0 (upd H0 D (.lst [])) D L 0 [] := ⟨n, same_upd n, upd_same, by rw [List.take_zero]; exact .nil⟩
theorem BldV.go {H0 H H' : Hp} {D : Addr} {L : List (V × V)} {k : Nat} {ts : List Addr} (b : BldV H0 H D L k ts) (s : Same H H') : BldV H0 H' D L k ts := ⟨b.new, b.same.trans s, s _ _ b.at_, Paired.mono (fun _ _ e => s _ _ e) b.prs⟩
theorem BldV.step {H0 H : Hp} {D t : Addr} {L : List (V × V)} {k : Nat} {ts : List Addr} {y : V × V} (b : BldV H0 H D L k ts) (hy : L[k]? = some y) (nt : H t = none) :
    (upd H t (.tup [y.1, y.2])) D = some (.lst (ts.map V.ref)) ∧ BldV H0 (upd (upd H t (.tup [y.1, y.2])) D (.lst (ts.map V.ref ++ [.ref t]))) D L (k + 1) (ts ++ [t]) := by
  have Dt : D ≠ t := ne_of_none b.at_ nt
  have eD : (upd H t (.tup [y.1, y.2])) D = some (.lst (ts.map V.ref)) := by rw [upd_ne Dt]; exact b.at_
  refine ⟨eD, b.new, fun c o e => ?_, by rw [upd_same, List.map_append]; rfl, ?_⟩
  · rw [upd_ne (ne_of_none e b.new), upd_ne (ne_of_none (b.same _ _ e) nt)]
    exact b.same _ _ e
  · rw [take_succ_of hy]
    have tp : Tp H (upd (upd H t (.tup [y.1, y.2])) D (.lst (ts.map V.ref ++ [.ref t]))) := (Tp.new nt).trans (Tp.wr eD)
    refine paired_app (Paired.mono (fun _ _ e => tp _ _ e) b.prs) (.cons ?_ .nil)
    show _ = _
    rw [upd_ne Dt.symm, upd_same]
def spLP (K : PySem.W.Frag) : Sp := fun vs H Q _ => ∃ (sp r z v : Addr) (rs : List Row) (zs : List Zp) (ps : List P3), vs = [.ref sp, .ref v] ∧ H sp = some (.tup [.ref r, .ref z]) ∧ TupRs H r rs ∧ TupZs H z zs ∧ ClothOk rs zs ∧ TupPs K H v ps ∧ StOk rs zs ps ∧
  ∀ (D : Addr) (H' : Hp), Same H H' → H D = none → LstPr H' D (pairsN rs zs ps zs.length) → Q (.ref D) H'
set_option maxHeartbeats 800000 in
theorem ok_lp {f : Addr} {fd : FuncData} (T : Bl mg) (F : Fun K "_law_pairs" "_law_pairs" sLP f fd) (cTO : Cal P w K mg base CX0 1 "_law_teeth_of" ["_law_spec", "_law_state_here", "_law_number", "_law_side"] (spTO K)) : FnOk P w K mg base CX0 2 f fd ["_law_spec", "_law_state_here"] (spLP K) := by
  refine F.ok scLP (fun vs H Q E h => ?_) (fun cdv A outer s H vs Q E hr h => ?_)
  · obtain ⟨sp, r, z, v, rs, zs, ps, rfl, _⟩ := h
    rfl
  · obtain ⟨sp, r, z, v, rs, zs, ps, rfl, esp, hrs, hzs, c, hps, sk, q⟩ := h
    refine ⟨_, (pss_cons (ps_set (i := 2) scLP.nd rfl (Or.inl rfl) (pe_lst pa_nil))
      (pss_cons (ps_for PassesOwn.never rfl (pi_enumT (by rfl) T.enumerate_ (pa_cons (pe_ix ix_tup (pv 0) pe_int (fun _ _ => rfl)) pa_nil)) (pg_tup rfl (pgs_cons (pg_name (i := 3) scLP.nd rfl (Or.inl rfl)) (pgs_cons (pg_tup rfl (pgs_cons (pg_name (i := 4) scLP.nd rfl (Or.inl rfl)) (pgs_cons (pg_name (i := 5) scLP.nd rfl (Or.inl rfl)) pgs_nil))) pgs_nil)))
        (pss_cons (ps_set (i := 6) scLP.nd rfl (Or.inl rfl) (pe_cal cTO (hr.mono (by decide)) pass0 (by rfl) (pa_cons (pv 0) (pa_cons (pv 1) (pa_cons (pv 3) (pa_cons pe_int pa_nil))))))
        (C8.pss_cut (ps_if (pt_cmpR op_eq (pv 4) pe_str (nomark _))
          (pss_one (ps_expr (pe_bm0 PySem.F.plainAttrs_list PySem.F.slot_list_reverse PySem.F.type_list_reverse mt_reverse (pv 6))))
          pss_nil)
        (pss_one (ps_expr (pe_bm PySem.F.plainAttrs_list PySem.F.slot_list_extend PySem.F.type_list_extend mt_extend (pv 2) (pa_cons (pe_lc (own := [("_law_one", 7), ("_law_other", 8)]) (by rfl) scLP.nd (pi_zip (by rfl) T.zip_ (pa_cons (pe_cal cTO (hr.mono (by decide)) pass0 (by rfl) (pa_cons (pv 0) (pa_cons (pv 1) (pa_cons (pv 3) (pa_cons pe_int pa_nil))))) (pa_cons (pv 6) pa_nil))) (blkOk_by (own := [("_law_one", 7), ("_law_other", 8)]) (N := ["_law_spec", "_law_state_here", "_law_found", "_law_number", "_law_way", "_law_tied", "_law_others", "_law_one", "_law_other"]) (sc := defScope sLP) (by decide +kernel)) (fun _ _ _ _ _ => (pg_tupK (K := K) (n := 2) rfl rfl (pgs_cons (pg_name (i := 7) scLP.nd rfl (Or.inl rfl)) (pgs_cons (pg_name (i := 8) scLP.nd rfl (Or.inl rfl)) pgs_nil)))) (fun _ _ _ _ _ => pts_nil) (fun _ _ _ _ _ => (pe_tup (pa_cons (pv 7) (pa_cons (pv 8) pa_nil))))) pa_nil)))))))
      (pss_one (ps_ret (pv 2))))), ?_⟩
    have z8 := c.zips
    have fit := c.fit
    have pl := sk.len
    refine ⟨Nat.zero_le _, fun D nD => ?_⟩
    have sD := same_upd (o := .lst []) nD
    have eD : (upd H D (.lst [])) D = some (.lst []) := upd_same
    generalize upd H D (.lst []) = H2 at sD eD ⊢
    obtain ⟨tz, ez, prz⟩ := hzs
    have zq : SqT K H z (tz.map V.ref) := .inl (.inl ez)
    refine ⟨.ref sp, rfl, sp, _, 1, .ref z, rfl, rfl, .inl (.inl (sD _ _ esp)), atI_nat (j := 1) rfl, z, _, rfl, same_seqT sD zq, ?_⟩
    refine for_enumT (K := K) (a := z) (xs := tz.map V.ref) (fun k σ H3 => Same H H3 ∧ LstPr H3 D (pairsN rs zs ps k) ∧ ∃ x3 x4 x5 x6 : Option V, σ = [some (.ref sp), some (.ref v), some (.ref D), x3, x4, x5, x6, none, none])
      ⟨sD, ⟨[], eD, .nil⟩, none, none, none, none, rfl⟩ (fun k σ H3 _ hv => same_seqT hv.1 zq) (fun k y σ H3 T0 hy hv nT => ?_) (fun σ H3 hv => ?_)
    · obtain ⟨s3, ⟨ts, eD3, pr3⟩, x3, x4, x5, x6, rfl⟩ := hv
      obtain ⟨u, hu, rfl⟩ : ∃ u, tz[k]? = some u ∧ y = .ref u := by
        rw [List.getElem?_map] at hy
        cases e : tz[k]? with
        | none => rw [e] at hy; cases hy
        | some u => rw [e] at hy; exact ⟨u, rfl, (Option.some.inj hy).symm⟩
      obtain ⟨zk, hzk, tu⟩ := paired_get prz hu
      have hk : k < zs.length := (List.getElem?_eq_some_iff.mp hzk).1
      have sT := same_upd (o := .tup [.int (k : Nat), .ref u]) nT
      have s4 := s3.trans sT
      have eD4 := sT _ _ eD3
      have tu4 := s4 _ _ tu
      refine ⟨T0, _, rfl, .inl (.inl upd_same), rfl, .int (k : Nat), [.ref u], rfl, .ref u, [], rfl, u, _, rfl, .inl (.inl tu4), rfl, .str (dirS zk.1), [.int zk.2], rfl, .int zk.2, [], rfl, rfl, rfl, ?_⟩
      generalize upd H3 T0 (.tup [.int (k : Nat), .ref u]) = H4 at sT s4 eD4 tu4 ⊢
      have pr4 : Paired (TupP H4) ts (pairsN rs zs ps k) := Paired.mono (fun _ _ e => e.tp (.of sT)) pr3
      have f0 : FootIn zs.length ((k : Int), 0) := ⟨⟨by show (0 : Int) ≤ k; omega, by show (k : Int) < _; omega⟩, .inl rfl⟩
      have f1 : FootIn zs.length ((k : Int), 1) := ⟨⟨by show (0 : Int) ≤ k; omega, by show (k : Int) < _; omega⟩, .inr rfl⟩
      obtain ⟨i0, ro0, j0, hi0, hj0⟩ := fit.all _ f0
      obtain ⟨i1, ro1, j1, hi1, hj1⟩ := fit.all _ f1
      obtain ⟨l0, l1, m0, m1⟩ := sk.low c hi0 hj0
      obtain ⟨l0', l1', m0', m1'⟩ := sk.low c hi1 hj1
      refine ⟨.ref sp, rfl, .ref v, rfl, .int (k : Nat), rfl, sp, r, z, v, rs, zs, ps, i1, j1, ro1, ((k : Int), 1), rfl, s4 _ _ esp, hrs.tp (.of s4), c, hps.same s4, hi1, hj1, by rw [pl]; exact f1, l0', l1', m0', m1', fun A1 H5 s5 nA1 lA1 => ?_⟩
      rw [← teethAt_eq fit.nd hi1 hj1] at lA1
      obtain ⟨us1, eA1, pA1⟩ := lA1
      have DA : D ≠ A1 := ne_of_none eD4 nA1
      have eD5 := s5 _ _ eD4
      have pr5 : Paired (TupP H5) ts (pairsN rs zs ps k) := Paired.mono (fun _ _ e => e.tp (.of s5)) pr4
      have s05 := s4.trans s5
      refine ⟨fun σ' H' => Same H H' ∧ H' D = some (.lst (ts.map V.ref)) ∧ Paired (TupP H') ts (pairsN rs zs ps k) ∧ LstFs H' A1 (if zk.1 then (teethAt rs ps ((k : Int), 1)).reverse else teethAt rs ps ((k : Int), 1)) ∧ σ' = [some (.ref sp), some (.ref v), some (.ref D), some (.int (k : Nat)), some (.str (dirS zk.1)), some (.int zk.2), some (.ref A1), none, none], ?_, ?_⟩
      · refine ⟨.str (dirS zk.1), rfl, rfl, _, rfl, ?_⟩
        cases ez1 : zk.1 with
        | true =>
          rw [show decide (V.str (dirS true) = V.str "reversed") = true by decide +kernel]
          refine iteT ⟨.ref A1, rfl, .inl ⟨rfl, _, .inl (.inl eA1)⟩, A1, _, rfl, rfl, eA1, ?_⟩
          have tp : Tp H5 (upd H5 A1 (.lst (us1.map V.ref).reverse)) := Tp.wr eA1
          refine ⟨fun b o e => ?_, by rw [upd_ne DA]; exact eD5, Paired.mono (fun _ _ e => e.tp tp) pr5, ⟨us1.reverse, by rw [upd_same, List.map_reverse], ?_⟩, rfl⟩
          · rw [upd_ne (ne_of_none (s4 _ _ e) nA1)]
            exact s05 _ _ e
          · rw [if_pos rfl]
            exact paired_rev (Paired.mono (fun _ _ e => tp _ _ e) pA1)
        | false =>
          rw [show decide (V.str (dirS false) = V.str "reversed") = false by decide +kernel]
          exact iteF ⟨s05, eD5, pr5, ⟨us1, eA1, by rw [if_neg (by simp)]; exact pA1⟩, rfl⟩
      · rintro σ' H6 ⟨s6, eD6, pr6, ⟨us2, eA2, pA2⟩, rfl⟩
        refine ⟨.ref D, rfl, .inl ⟨rfl, _, .inl (.inl eD6)⟩, .ref sp, rfl, .ref v, rfl, .int (k : Nat), rfl, sp, r, z, v, rs, zs, ps, i0, j0, ro0, ((k : Int), 0), rfl, s6 _ _ esp, hrs.tp (.of s6), c, hps.same s6, hi0, hj0, by rw [pl]; exact f0, l0, l1, m0, m1, fun A0 H7 s7 nA0 lA0 => ?_⟩
        rw [← teethAt_eq fit.nd hi0 hj0] at lA0
        obtain ⟨us0, eA0, pA0⟩ := lA0
        have eA2' := s7 _ _ eA2
        have len : us0.length = us2.length := by
          rw [pA0.length, pA2.length, teethAt_len]
          cases zk.1 with
          | true => rw [if_pos rfl, List.length_reverse, teethAt_len]; rfl
          | false => rw [if_neg (by simp), teethAt_len]; rfl
        have u24 : us0.length ≤ 24 := by
          rw [pA0.length, teethAt_len]
          omega
        have sq0 : SqL K H7 A0 (us0.map V.ref) := .inl (.inl eA0)
        have sq2 : SqL K H7 A1 (us2.map V.ref) := .inl (.inl eA2')
        refine ⟨.ref A1, rfl, A0, A1, _, _, rfl, sq0, sq2, fun D2 nD2 => ?_⟩
        refine lc_it (walk_zip (K := K) (a := A0) (b := A1) (xs := us0.map V.ref) (ys := us2.map V.ref) (n := us0.length) (by rw [List.length_map, List.length_map]; omega)) (fun j H8 => ∃ ws, BldV H7 H8 D2 ((us0.map V.ref).zip (us2.map V.ref)) j ws) ⟨[], .zero nD2⟩ (fun j H8 _ hv => ?_) (fun j x H8 H9 hj hv hy => ?_) (fun H8 hv => ?_)
        · obtain ⟨ws, b⟩ := hv
          exact ⟨b.same.seq sq0, b.same.seq sq2⟩
        · obtain ⟨ws, b⟩ := hv
          obtain ⟨T1, a, a', rfl, nT1, rfl, ha, ha'⟩ := hy
          have b1 := b.go (same_upd (o := .tup [a, a']) nT1)
          refine ⟨T1, _, rfl, .inl (.inl upd_same), rfl, a, [a'], rfl, a', [], rfl, rfl, rfl, a, rfl, a', rfl, by show 2 ≤ sizeLine; decide, fun t nt => ?_⟩
          have hz : ((us0.map V.ref).zip (us2.map V.ref))[j]? = some (a, a') := by
            rw [List.getElem?_zip_eq_some]
            exact ⟨ha, ha'⟩
          obtain ⟨eD8, b2⟩ := b1.step hz nt
          refine ⟨_, eD8, ?_, _, b2⟩
          rw [List.length_map, b1.prs.length, List.length_take]
          exact small1000 (by omega)
        · obtain ⟨ws, b⟩ := hv
          have full : ((us0.map V.ref).zip (us2.map V.ref)).take us0.length = (us0.map V.ref).zip (us2.map V.ref) := List.take_of_length_le (by rw [List.length_zip, List.length_map]; exact Nat.min_le_left _ _)
          have prs := b.prs
          rw [full] at prs
          have new : Paired (TupP H8) ws (zipPr rs ps k zk.1) := prs_of (.of b.same) pA0 (Paired.mono (fun _ _ e => s7 _ _ e) pA2) prs
          have s78 := s7.trans b.same
          have eD8 := s78 _ _ eD6
          have tot : (pairsN rs zs ps (k + 1)).length ≤ 24 * (k + 1) := pairsN_len (k + 1) fun n hn => by
            have fn : FootIn zs.length ((n : Int), 0) := ⟨⟨by show (0 : Int) ≤ n; omega, by show (n : Int) < _; omega⟩, .inl rfl⟩
            obtain ⟨i2, ro2, j2, hi2, hj2⟩ := fit.all _ fn
            have := sk.low c hi2 hj2
            omega
          rw [pairsN_succ hzk, List.length_append] at tot
          have tl3 := new.length
          have tl4 := pr6.length
          refine ⟨D, D2, _, _, rfl, rfl, eD8, b.at_, ?_, ?_⟩
          · rw [List.length_map, List.length_map]
            exact Nat.le_of_lt (small1000 (by omega))
          · have tp8 : Tp H8 (upd H8 D (.lst (ts.map V.ref ++ ws.map V.ref))) := Tp.wr eD8
            refine ⟨fun b o e => ?_, ⟨ts ++ ws, by rw [upd_same, List.map_append], ?_⟩, _, _, _, _, rfl⟩
            · rw [upd_ne (ne_of_none e nD)]
              exact s78 _ _ (s6 _ _ e)
            · rw [pairsN_succ hzk]
              exact paired_app (Paired.mono (fun _ _ e => (e.tp (.of s78)).tp tp8) pr6) (Paired.mono (fun _ _ e => e.tp tp8) new)
    · obtain ⟨s3, lst, x3, x4, x5, x6, rfl⟩ := hv
      rw [List.length_map, prz.length] at lst
      exact ⟨.ref D, rfl, q D H3 s3 nD lst⟩
theorem cal_lp {f : Addr} {fd : FuncData} (T : Bl mg) (F : Fun K "_law_pairs" "_law_pairs" sLP f fd) (cTO : Cal P w K mg base CX0 1 "_law_teeth_of" ["_law_spec", "_law_state_here", "_law_number", "_law_side"] (spTO K)) (g : mg "_law_pairs" = some (.ref f)) : Cal P w K mg base CX0 2 "_law_pairs" ["_law_spec", "_law_state_here"] (spLP K) :=
  ⟨f, fd, g, F.kp, F.binds (ps := ["_law_spec", "_law_state_here"]) fun _ _ _ _ _ _ us hl => match us, hl with | [_, _], _ => rfl, ok_lp T F cTO⟩
end
end Zs
namespace Zs
open PySem PySem.Spec PyProof.Rows L2
/-! ### the gaps, one after the other -/
def fnd (ps : List P3) : List Foot → Int → List Int
  | [], _ => []
  | x :: xs, place => (lowAt ps x - place) :: fnd ps xs (highAt ps x)
def lastP (ps : List P3) : List Foot → Int → Int
  | [], place => place
  | x :: xs, _ => lastP ps xs (highAt ps x)
theorem fnd_zip (ps : List P3) (most : Int) : ∀ (xs : List Foot) (place : Int), List.zipWith (fun s e => e - s) (place :: xs.map (highAt ps)) (xs.map (lowAt ps) ++ [most]) = fnd ps xs place ++ [most - lastP ps xs place]
  | [], _ => rfl
  | x :: xs, place => by
    show (lowAt ps x - place) :: List.zipWith (fun s e => e - s) (highAt ps x :: xs.map (highAt ps)) (xs.map (lowAt ps) ++ [most]) = _
    rw [fnd_zip ps most xs]
    rfl
theorem fnd_snoc (ps : List P3) (x : Foot) : ∀ (l : List Foot) (p : Int), fnd ps (l ++ [x]) p = fnd ps l p ++ [lowAt ps x - lastP ps l p]
  | [], _ => rfl
  | y :: l, p => by
    show (lowAt ps y - p) :: fnd ps (l ++ [x]) (highAt ps y) = _
    rw [fnd_snoc ps x l]
    rfl
theorem last_snoc (ps : List P3) (x : Foot) : ∀ (l : List Foot) (p : Int), lastP ps (l ++ [x]) p = highAt ps x
  | [], _ => rfl
  | y :: l, p => last_snoc ps x l (highAt ps y)
theorem fnd_len (ps : List P3) : ∀ (l : List Foot) (p : Int), (fnd ps l p).length = l.length
  | [], _ => rfl
  | y :: l, p => by
    show (fnd ps l (highAt ps y)).length + 1 = l.length + 1
    rw [fnd_len ps l]
theorem gaps_line {r : Row} {ps : List P3} (h : r.ring = false) : gapsL r ps = fnd ps r.feet 0 ++ [r.teeth - lastP ps r.feet 0] := by
  rw [← fnd_zip]
  unfold gapsL startsL endsL lowsL highsL
  rw [h]
  rfl
theorem gaps_ring {r : Row} {ps : List P3} {x : Foot} {xs : List Foot} (h : r.ring = true) (hf : r.feet = x :: xs) : gapsL r ps = (fnd ps r.feet (lowAt ps x)).drop 1 ++ [lowAt ps x + r.teeth - lastP ps r.feet (lowAt ps x)] := by
  rw [hf]
  show gapsL r ps = fnd ps xs (highAt ps x) ++ [lowAt ps x + r.teeth - lastP ps xs (highAt ps x)]
  rw [← fnd_zip]
  unfold gapsL startsL endsL lowsL highsL
  rw [h, hf]
  rfl
section
variable {P : Program} {w : World} {K : PySem.W.Frag} {mg : Str → Option Value} {base : Heap}
set_option maxHeartbeats 800000 in
theorem ok_lg {f : Addr} {fd : FuncData} (T : Bl mg) (F : Fun K "_law_row_gaps" "_law_row_gaps" sLG f fd) : FnOk P w K mg base CX0 1 f fd ["_law_row", "_law_state_here"] (spRG K) := by
  refine F.ok scLG (fun vs H Q E h => ?_) (fun cdv A outer s H vs Q E hr h => ?_)
  · obtain ⟨t, v, r, ps, rfl, _⟩ := h
    rfl
  · obtain ⟨t, v, r, ps, rfl, htr, hps, foot, g16, q⟩ := h
    refine ⟨_, (pss_cons (ps_asg (pv 0) (pg_tup rfl (pgs_cons (pg_name (i := 2) scLG.nd rfl (Or.inl rfl)) (pgs_cons (pg_name (i := 3) scLG.nd rfl (Or.inl rfl)) (pgs_cons (pg_name (i := 4) scLG.nd rfl (Or.inl rfl)) pgs_nil)))))
      (pss_cons (ps_if (pt_cmpR (op_eqD (u64 hr)) (pv 4) (pe_tup pa_nil) (nomark _))
        (pss_one (ps_ret (pe_tup (pa_cons (pv 3) pa_nil))))
        pss_nil)
      (pss_cons (ps_par (i := 5) (j := 6) rfl scLG.nd rfl rfl (by decide) rfl rfl (pa_cons (pe_lst pa_nil) (pa_cons pe_int pa_nil)) rfl)
      (C8.pss_cut (ps_if (pt_cmpR op_eq (pv 2) pe_str (nomark _))
        (pss_one (ps_set (i := 6) scLG.nd rfl (Or.inl rfl) (pe_ix ix_tup (pe_ix ix_tup (pv 1) (pe_ix ix_tup (pe_ix ix_tup (pv 4) pe_int (fun _ _ => rfl)) pe_int (fun _ _ => rfl)) (fun _ _ => rfl)) (pe_ix ix_tup (pe_ix ix_tup (pv 4) pe_int (fun _ _ => rfl)) pe_int (fun _ _ => rfl)) (fun _ _ => rfl))))
        pss_nil)
      (pss_cons (ps_for PassesOwn.never rfl (pi_tup (pv 4)) (pg_tup rfl (pgs_cons (pg_name (i := 7) scLG.nd rfl (Or.inl rfl)) (pgs_cons (pg_name (i := 8) scLG.nd rfl (Or.inl rfl)) pgs_nil)))
        (pss_cons (ps_expr (pe_bm PySem.F.plainAttrs_list PySem.F.slot_list_append PySem.F.type_list_append mt_append (pv 5) (pa_cons (pe_op op_sub (pe_ix ix_tup (pe_ix ix_tup (pv 1) (pv 7) (fun _ _ => rfl)) (pv 8) (fun _ _ => rfl)) (pv 6)) pa_nil)))
        (pss_one (ps_set (i := 6) scLG.nd rfl (Or.inl rfl) (pe_op op_add (pe_ix ix_tup (pe_ix ix_tup (pv 1) (pv 7) (fun _ _ => rfl)) (pv 8) (fun _ _ => rfl)) (pe_ix ix_tup (pe_ix ix_tup (pv 1) (pv 7) (fun _ _ => rfl)) pe_int (fun _ _ => rfl)))))))
      (pss_cons (ps_if (pt_cmpR op_eq (pv 2) pe_str (nomark _))
        (pss_one (ps_ret (pe_callTy call_tuple_of (by rfl) T.tuple_ (by decide +kernel) (pa_cons (pe_op op_cat (pv 5) (pe_lst (pa_cons (pe_op op_sub (pv 3) (pv 6)) pa_nil))) pa_nil))))
        pss_nil)
      (pss_cons (ps_set (i := 9) scLG.nd rfl (Or.inl rfl) (pe_ix ix_tup (pe_ix ix_tup (pv 1) (pe_ix ix_tup (pe_ix ix_tup (pv 4) pe_int (fun _ _ => rfl)) pe_int (fun _ _ => rfl)) (fun _ _ => rfl)) (pe_ix ix_tup (pe_ix ix_tup (pv 4) pe_int (fun _ _ => rfl)) pe_int (fun _ _ => rfl)) (fun _ _ => rfl)))
      (pss_one (ps_ret (pe_callTy call_tuple_of (by rfl) T.tuple_ (by decide +kernel) (pa_cons (pe_op op_cat (pe_slice sl_list (pv 5) (po_some pe_int) po_none) (pe_lst (pa_cons (pe_op op_sub (pe_op op_add (pv 9) (pv 3)) (pv 6)) pa_nil))) pa_nil))))))))))), ?_⟩
    obtain ⟨fe, et, us, eu, pu⟩ := id htr
    have uq : SqT K H fe (us.map V.ref) := eu.sq
    have ul : us.length = r.feet.length := pu.length
    refine ⟨.ref t, rfl, t, _, rfl, .inl (.inl et), rfl, .str (sortS r.ring), _, rfl, .int r.teeth, _, rfl, .ref fe, [], rfl, rfl, ?_⟩
    refine ⟨.ref fe, rfl, Nat.zero_le _, fun t0 nt0 => ?_⟩
    have s0 := same_upd (o := .tup []) nt0
    refine ⟨.tuple (r.feet.map footD), .tuple [], dp_feet ⟨us, eu.tp (.of s0), Paired.mono (fun _ _ e => s0 _ _ e) pu⟩, .tup (.inl (.inl upd_same)) .nil, (gd_feet g16).shaped (by decide), rfl, _, rfl, ?_⟩
    rw [eqv_feet]
    generalize upd H t0 (.tup []) = H0 at s0 ⊢
    cases ef : r.feet with
    | nil =>
      refine iteT ⟨.int r.teeth, rfl, by show 1 ≤ sizeLine; decide, fun p np => ?_⟩
      have s1 := same_upd (o := .tup [.int r.teeth]) np
      refine q p _ (s0.trans s1) (.inl (.inl ?_))
      rw [upd_same]
      cases er : r.ring with
      | true => rw [show gapsL r ps = [r.teeth] by unfold gapsL; rw [er, ef]; rfl]; rfl
      | false => rw [gaps_line er, ef]; show _ = some (HO.tup [V.int (r.teeth - 0)]); rw [Int.sub_zero]
    | cons x0 xs0 =>
      refine iteF ?_
      have hx0 : r.feet[0]? = some x0 := by rw [ef]; rfl
      have rf : r.feet = x0 :: xs0 := ef
      have u0l : 0 < us.length := by rw [ul, rf]; exact Nat.succ_pos _
      obtain ⟨y0, hy0, tu0⟩ := paired_get pu (List.getElem?_eq_getElem u0l)
      have ey0 : y0 = x0 := Option.some.inj (hy0.symm.trans hx0)
      subst ey0
      have gu0 : (us.map V.ref)[0]? = some (.ref us[0]) := by rw [List.getElem?_map, List.getElem?_eq_getElem u0l]; rfl
      have fx0 := foot y0 (List.mem_of_getElem? hx0)
      refine ⟨Nat.zero_le _, fun D nD => ⟨.ref D, .int 0, rfl, ?_⟩⟩
      have sD := same_upd (o := .lst []) nD
      have eD : (upd H0 D (.lst [])) D = some (.lst []) := upd_same
      generalize upd H0 D (.lst []) = H1 at sD eD ⊢
      have s1 := s0.trans sD
      refine ⟨fun σ' H' => H' = H1 ∧ σ' = [some (.ref t), some (.ref v), some (.str (sortS r.ring)), some (.int r.teeth), some (.ref fe), some (.ref D), some (.int (if r.ring then lowAt ps y0 else 0)), none, none, none], ?_, ?_⟩
      · refine ⟨.str (sortS r.ring), rfl, rfl, _, rfl, ?_⟩
        cases er : r.ring with
        | true =>
          rw [show decide (V.str (sortS true) = V.str "ring") = true by decide +kernel]
          obtain ⟨xs, t2, ys, a1, a2, a3, a4, a5⟩ := look (hps.same s1) fx0
          have fq : SqT K H1 fe (us.map V.ref) := same_seqT s1 uq
          have tq : SqT K H1 us[0] [.int y0.1, .int y0.2] := .inl (.inl (s1 _ _ tu0))
          exact iteT ⟨.ref v, rfl, .ref fe, rfl, fe, _, 0, .ref us[0], rfl, rfl, fq, atI_nat (j := 0) gu0, us[0], _, 0, .int y0.1, rfl, rfl, tq, atI_nat (j := 0) rfl, v, xs, y0.1, .ref t2, rfl, rfl, a1, a2, .ref fe, rfl, fe, _, 0, .ref us[0], rfl, rfl, fq, atI_nat (j := 0) gu0, us[0], _, 1, .int y0.2, rfl, rfl, tq, atI_nat (j := 1) rfl, t2, ys, y0.2, _, rfl, rfl, a3, a4, rfl, rfl⟩
        | false =>
          rw [show decide (V.str (sortS false) = V.str "ring") = false by decide +kernel]
          exact iteF ⟨rfl, rfl⟩
      · rintro σ' H' ⟨rfl, rfl⟩
        obtain ⟨p0, hp0⟩ : ∃ p0 : Int, (if r.ring then lowAt ps y0 else 0) = p0 := ⟨_, rfl⟩
        rw [hp0]
        refine ⟨.ref fe, rfl, fe, rfl, ⟨_, same_seqT s1 uq⟩, ?_⟩
        refine for_tup (K := K) (xs := us.map V.ref) (fun k σ H2 => Same H H2 ∧ H D = none ∧ H2 D = some (.lst ((fnd ps (r.feet.take k) p0).map V.int)) ∧ ∃ x7 x8 : Option V, σ = [some (.ref t), some (.ref v), some (.str (sortS r.ring)), some (.int r.teeth), some (.ref fe), some (.ref D), some (.int (lastP ps (r.feet.take k) p0)), x7, x8, none])
          ⟨s1, s0.free nD, eD, none, none, rfl⟩ (fun k σ H2 _ hv => same_seqT hv.1 uq) (fun k y σ H2 hy hv => ?_) (fun σ H2 hv => ?_)
        · obtain ⟨s2, nDH, eD2, x7, x8, rfl⟩ := hv
          obtain ⟨u, hu, rfl⟩ : ∃ u, us[k]? = some u ∧ y = .ref u := by
            rw [List.getElem?_map] at hy
            cases e : us[k]? with
            | none => rw [e] at hy; cases hy
            | some u => rw [e] at hy; exact ⟨u, rfl, (Option.some.inj hy).symm⟩
          obtain ⟨x, hx, tu⟩ := paired_get pu hu
          have fx := foot x (List.mem_of_getElem? hx)
          have kl : k < r.feet.length := (List.getElem?_eq_some_iff.mp hx).1
          obtain ⟨xs, t2, ys, a1, a2, a3, a4, a5⟩ := look (hps.same s2) fx
          refine ⟨u, _, rfl, .inl (.inl (s2 _ _ tu)), rfl, .int x.1, [.int x.2], rfl, .int x.2, [], rfl, rfl, ?_⟩
          refine ⟨.ref D, rfl, .inl ⟨rfl, _, .inl (.inl eD2)⟩, .ref v, rfl, .int x.1, rfl, v, xs, x.1, .ref t2, rfl, rfl, a1, a2, .int x.2, rfl, t2, ys, x.2, _, rfl, rfl, a3, a4, .int (lastP ps (r.feet.take k) p0), rfl, lowAt ps x, lastP ps (r.feet.take k) p0, rfl, rfl, D, _, _, rfl, rfl, eD2, ?_, ?_⟩
          · rw [List.length_map, fnd_len, List.length_take]
            exact small1000 (by omega)
          · have s3 : Same H (upd H2 D (.lst ((fnd ps (r.feet.take k) p0).map V.int ++ [.int (lowAt ps x - lastP ps (r.feet.take k) p0)]))) := fun b o e => by
              rw [upd_ne (ne_of_none e nDH)]
              exact s2 _ _ e
            obtain ⟨xs, t2, ys, a1, a2, a3, a4, a5⟩ := look (hps.same s3) fx
            refine ⟨.ref v, rfl, .int x.1, rfl, v, xs, x.1, .ref t2, rfl, rfl, a1, a2, .int x.2, rfl, t2, ys, x.2, _, rfl, rfl, a3, a4, .ref v, rfl, .int x.1, rfl, v, xs, x.1, .ref t2, rfl, rfl, a1, a2, t2, ys, 2, _, rfl, rfl, a3, a5, lowAt ps x, manyAt ps x, rfl, rfl, s3, nDH, ?_, some (.int x.1), some (.int x.2), ?_⟩
            · rw [upd_same, take_succ_of hx, fnd_snoc, List.map_append]
              rfl
            · rw [take_succ_of hx, last_snoc]
              rfl
        · obtain ⟨s2, nDH, eD2, x7, x8, rfl⟩ := hv
          have full : r.feet.take (us.map V.ref).length = r.feet := List.take_of_length_le (by rw [List.length_map, ul]; exact Nat.le_refl _)
          rw [full] at eD2
          rw [full]
          have fl := fnd_len ps r.feet p0
          refine ⟨.str (sortS r.ring), rfl, rfl, _, rfl, ?_⟩
          cases er : r.ring with
          | false =>
            rw [show decide (V.str (sortS false) = V.str "line") = true by decide +kernel]
            rw [er] at hp0
            have p00 : p0 = 0 := hp0.symm
            refine iteT ⟨.ref D, rfl, .int r.teeth, rfl, .int (lastP ps r.feet p0), rfl, r.teeth, lastP ps r.feet p0, rfl, rfl, by show 1 ≤ sizeLine; decide, fun l nl => ?_⟩
            have s3 := same_upd (o := .lst [.int (r.teeth - lastP ps r.feet p0)]) nl
            refine ⟨D, l, _, _, rfl, rfl, s3 _ _ eD2, upd_same, ?_, fun m nm => ?_⟩
            · rw [List.length_map, fl]
              exact Nat.le_of_lt (small1000 (by show r.feet.length + 1 ≤ 1000; omega))
            · have s4 := same_upd (o := .lst ((fnd ps r.feet p0).map V.int ++ [.int (r.teeth - lastP ps r.feet p0)])) nm
              refine ⟨m, _, rfl, .inl ⟨.inl (.inl upd_same), fun o no => ?_⟩⟩
              have s5 := same_upd (o := .tup ((fnd ps r.feet p0).map V.int ++ [.int (r.teeth - lastP ps r.feet p0)])) no
              refine q o _ (((s2.trans s3).trans s4).trans s5) (.inl (.inl ?_))
              rw [upd_same, gaps_line er, List.map_append, p00]
              rfl
          | true =>
            rw [show decide (V.str (sortS true) = V.str "line") = false by decide +kernel]
            rw [er] at hp0
            have p00 : p0 = lowAt ps y0 := hp0.symm
            obtain ⟨xs, t2, ys, a1, a2, a3, a4, a5⟩ := look (hps.same s2) fx0
            have fq : SqT K H2 fe (us.map V.ref) := same_seqT s2 uq
            have tq : SqT K H2 us[0] [.int y0.1, .int y0.2] := .inl (.inl (s2 _ _ tu0))
            refine iteF ⟨.ref v, rfl, .ref fe, rfl, fe, _, 0, .ref us[0], rfl, rfl, fq, atI_nat (j := 0) gu0, us[0], _, 0, .int y0.1, rfl, rfl, tq, atI_nat (j := 0) rfl, v, xs, y0.1, .ref t2, rfl, rfl, a1, a2, .ref fe, rfl, fe, _, 0, .ref us[0], rfl, rfl, fq, atI_nat (j := 0) gu0, us[0], _, 1, .int y0.2, rfl, rfl, tq, atI_nat (j := 1) rfl, t2, ys, y0.2, _, rfl, rfl, a3, a4, ?_⟩
            refine ⟨.ref D, rfl, 1, rfl, D, _, rfl, .inl (.inl eD2), fun c nc => ?_⟩
            rw [cut_one]
            have s3 := same_upd (o := .lst (((fnd ps r.feet p0).map V.int).drop 1)) nc
            refine ⟨.int (lowAt ps y0), rfl, .int r.teeth, rfl, lowAt ps y0, r.teeth, rfl, rfl, .int (lastP ps r.feet p0), rfl, lowAt ps y0 + r.teeth, lastP ps r.feet p0, rfl, rfl, by show 1 ≤ sizeLine; decide, fun l nl => ?_⟩
            have s4 := same_upd (o := .lst [.int (lowAt ps y0 + r.teeth - lastP ps r.feet p0)]) nl
            refine ⟨c, l, _, _, rfl, rfl, s4 _ _ upd_same, upd_same, ?_, fun m nm => ?_⟩
            · rw [List.length_drop, List.length_map, fl]
              exact Nat.le_of_lt (small1000 (by show r.feet.length - 1 + 1 ≤ 1000; omega))
            · have s5 := same_upd (o := .lst (((fnd ps r.feet p0).map V.int).drop 1 ++ [.int (lowAt ps y0 + r.teeth - lastP ps r.feet p0)])) nm
              refine ⟨m, _, rfl, .inl ⟨.inl (.inl upd_same), fun o no => ?_⟩⟩
              have s6 := same_upd (o := .tup (((fnd ps r.feet p0).map V.int).drop 1 ++ [.int (lowAt ps y0 + r.teeth - lastP ps r.feet p0)])) no
              refine q o _ ((((s2.trans s3).trans s4).trans s5).trans s6) (.inl (.inl ?_))
              rw [upd_same, gaps_ring er rf, List.map_append, p00, List.map_drop]
              rfl
theorem cal_lg {f : Addr} {fd : FuncData} (T : Bl mg) (F : Fun K "_law_row_gaps" "_law_row_gaps" sLG f fd) (g : mg "_law_row_gaps" = some (.ref f)) : Cal P w K mg base CX0 1 "_law_row_gaps" ["_law_row", "_law_state_here"] (spRG K) :=
  ⟨f, fd, g, F.kp, F.binds (ps := ["_law_row", "_law_state_here"]) fun _ _ _ _ _ _ us hl => match us, hl with | [_, _], _ => rfl, ok_lg T F⟩
end
end Zs
namespace Zs
open PySem PySem.Spec PyProof.Rows L2
/-! ### set(xs) of distinct tuples -/
theorem nodup_le {α : Type} [DecidableEq α] : ∀ {l m : List α}, l.Nodup → (∀ x ∈ l, x ∈ m) → l.length ≤ m.length
  | [], _, _, _ => Nat.zero_le _
  | a :: l, m, nd, h => by
    obtain ⟨na, nd2⟩ := List.nodup_cons.mp nd
    have ha := h a (List.mem_cons_self ..)
    have ih := nodup_le (l := l) (m := m.erase a) nd2 fun x hx => by
      have ne : x ≠ a := fun e => na (e ▸ hx)
      exact (List.mem_erase_of_ne ne).mpr (h x (List.mem_cons_of_mem _ hx))
    rw [List.length_erase_of_mem ha] at ih
    have pos := List.length_pos_of_mem ha
    show l.length + 1 ≤ m.length
    omega
section
variable {X : Cx}
def rSetD (K : PySem.W.Frag) (P : Program) (w : World) : List V → Hp → VK → Prop := fun xs H Q => ∃ (l : Addr) (ks : List (Addr × List Int)), xs = [V.ref l] ∧ SqL K H l (ks.map fun p => V.ref p.1) ∧ (∀ p ∈ ks, SqT K H p.1 (p.2.map V.int)) ∧ ks.length < 64 ∧ (ks.map (·.2)).Nodup ∧
  ∀ a L, H a = none → (∀ p ∈ L, p ∈ ks) → L.length = ks.length → Q (.ref a) (upd H a (SetTO P w a L))
theorem cr_setD (calm : X.calm = true) (room : X.A.units + 64 < cLine) : CallR X (.type "set") (rSetD X.K X.prog X.w) := by
  rintro pins s σ H xs us Q inv vals ⟨l, ks, rfl, sq, tups, few, distinct, q⟩
  obtain ⟨its, items, list, _⟩ := inv.list sq
  rw [Vals.ref1 vals]
  have asRefs : its.toArray.toList = ks.map fun p => Value.ref p.1 := refs_of_vals items
  have fresh : H s.heap.objs.size = none := inv.hok.fresh (Nat.le_refl _)
  refine call_set_tups (P := X.prog) (w := X.w) ks (inv.ok.hd calm) list.isList asRefs (fun p hp => inv.isT (tups p hp)) few (by omega) ?_
  intro h' tk L es ep t laid got kept
  have most : L.length ≤ ks.length := got.len
  have least : (ks.map (·.2)).length ≤ (L.map (·.2)).length := nodup_le distinct fun k hk => by
    obtain ⟨p, hp, rfl⟩ := List.mem_map.mp hk
    exact got.all p (by rw [List.take_length]; exact hp)
  rw [List.length_map, List.length_map] at least
  exact ⟨.ref s.heap.objs.size, _, inv.laid (t' := tk) kept (Nat.le_refl _) (setTO_new laid.t0), rfl, q _ L fresh (fun p hp => List.mem_of_mem_take (got.sub p hp)) (by omega)⟩
end
end Zs
namespace Zs
open PySem PySem.Spec PyProof.Rows L2
abbrev sLaw : Stmt := topS 61
theorem scLaw : FnScope ["_law_script", "_law_place", "_law_source_here", "_law_turn", "_law_spec", "_law_state_here", "_law_cloth_here", "_law_due", "_law_told", "_law_at", "_law_row", "_law_held", "_law_one", "_law_other", "_law_again", "_law_some", "_law_tooth"] ["_law_script"] (defScope sLaw) := ⟨rfl, rfl, rfl, by decide +kernel, rfl, by decide +kernel, by decide +kernel⟩
structure MkC (P : Program) (w : World) (K : PySem.W.Frag) (mg : Str → Option Value) (base : Heap) (C fI : Addr) (fdI : FuncData) : Prop where
  made : Mk K C fI
  init : FnOk P w K mg base CX0 5 fI fdI ["self", "rows", "zips"] (spCI K C)
  b3 : Binds K fdI ["self", "rows", "zips"] []
theorem isi_lst {K : PySem.W.Frag} {H : Hp} {v : V} {d : PyData} (h : Dp K H v d) : PySem.W.kitOne K (.type (tyD d)) (.type "list") = some (isLstD d) := by
  cases h
  · exact kit_ty (show kitB "NoneType" "list" = some false by decide +kernel)
  · exact kit_ty (show kitB "bool" "list" = some false by decide +kernel)
  · exact kit_ty (show kitB "int" "list" = some false by decide +kernel)
  · exact kit_ty (show kitB "str" "list" = some false by decide +kernel)
  · exact kit_ty (show kitB "list" "list" = some true by decide +kernel)
  · exact kit_ty (show kitB "tuple" "list" = some false by decide +kernel)
theorem eqv_same {d : PyData} (h : d.canLay0 = true) : PyData.eqv d d = true := PySem.SeqAt.eqv_refl d h
theorem held_len (i : Int) : ∀ prs : List (Foot × Foot), (heldL i prs).length ≤ 2 * prs.length
  | [] => Nat.zero_le _
  | q :: prs => by
    have ih := held_len i prs
    show ([q.1, q.2].filter (fun t => decide (t.1 = i)) ++ heldL i prs).length ≤ 2 * (prs.length + 1)
    rw [List.length_append]
    have h := List.length_filter_le (fun (t : Foot) => decide (t.1 = i)) [q.1, q.2]
    have h2 : ([q.1, q.2] : List Foot).length = 2 := rfl
    omega
theorem held_take {i : Int} {prs : List (Foot × Foot)} {j : Nat} {q : Foot × Foot} (h : prs[j]? = some q) : heldL i (prs.take (j + 1)) = heldL i (prs.take j) ++ [q.1, q.2].filter fun t => decide (t.1 = i) := by
  unfold heldL
  rw [take_succ_of h, List.flatMap_append]
  congr 1
  show _ ++ [] = _
  rw [List.append_nil]
theorem filter_take {p : Foot → Bool} {l : List Foot} {m : Nat} {y : Foot} (h : l[m]? = some y) : (l.take (m + 1)).filter p = (l.take m).filter p ++ if p y then [y] else [] := by
  rw [take_succ_of h, List.filter_append]
  congr 1
  cases e : p y with
  | true => rw [List.filter_cons_of_pos e]; rfl
  | false => rw [List.filter_cons_of_neg (by rw [e]; simp)]; rfl
theorem keys_of {K : PySem.W.Frag} {H : Hp} : ∀ {us : List Addr} {l : List Foot}, Paired (TupF H) us l → ∃ ks : List (Addr × List Int), ks.map (fun p => V.ref p.1) = us.map V.ref ∧ ks.map (·.2) = l.map (fun y => [y.1, y.2]) ∧ (∀ p ∈ ks, SqT K H p.1 (p.2.map V.int)) ∧ ks.length = l.length
  | _, _, .nil => ⟨[], rfl, rfl, by simp, rfl⟩
  | _, _, .cons (a := u) (b := y) h t => by
    obtain ⟨ks, e1, e2, e3, e4⟩ := keys_of (K := K) t
    refine ⟨(u, [y.1, y.2]) :: ks, ?_, ?_, fun p hp => ?_, ?_⟩
    · rw [List.map_cons, List.map_cons, e1]
    · rw [List.map_cons, List.map_cons, e2]
    · rcases List.mem_cons.mp hp with e | hp
      · rw [e]
        exact .inl (.inl h)
      · exact e3 p hp
    · rw [List.length_cons, List.length_cons, e4]
theorem keys_nd {l : List Foot} (h : l.Nodup) : (l.map fun y => [y.1, y.2]).Nodup := by
  refine List.pairwise_map.mpr (List.Pairwise.imp ?_ h)
  intro a b ne e
  injection e with e1 e2
  injection e2 with e2 _
  exact ne (Prod.ext e1 e2)
theorem dp_prs {K : PySem.W.Frag} {H : Hp} {D : Addr} {l : List (Foot × Foot)} (h : LstPr H D l) : Dp K H (.ref D) (.list (l.map prD)) := by
  obtain ⟨ts, e, r⟩ := h
  exact .lst (.inl (.inl e)) (dp_list (f := prD) (fun t q z => by
    obtain ⟨a, b, e0, e1, e2⟩ := z
    exact .tup (.inl (.inl e0)) (.cons (dp_foot e1) (.cons (dp_foot e2) .nil))) r)
theorem gd_prs {l : List (Foot × Foot)} (h : l.length ≤ 1000) : Gd 1000 3 (.list (l.map prD)) := by
  refine .list (by rw [List.length_map]; exact h) fun d hd => ?_
  obtain ⟨q, _, rfl⟩ := List.mem_map.mp hd
  refine .tuple (by show 2 ≤ 1000; decide) fun d hd => ?_
  rcases (show d = footD q.1 ∨ d = footD q.2 by simpa using hd) with rfl | rfl <;> exact gd_foot _
theorem dp_whole {K : PySem.W.Frag} {H : Hp} : ∀ ns : List Int, DpAll K H (ns.map V.int) (ns.map PyData.int)
  | [] => .nil
  | _ :: ns => .cons (.int _) (dp_whole ns)
theorem dp_gaps {K : PySem.W.Frag} {H : Hp} {t : Addr} {l : List (List Int)} (h : TupG K H t l) : Dp K H (.ref t) (.tuple (l.map gapD)) := by
  obtain ⟨ts, e, r⟩ := h
  exact .tup e (dp_list (F := fun t (ns : List Int) => SqT K H t (ns.map V.int)) (f := gapD) (fun t ns z => .tup z (dp_whole ns)) r)
theorem gd_gaps {l : List (List Int)} (h : l.length ≤ 1000) (h2 : ∀ ns ∈ l, ns.length ≤ 1000) : Gd 1000 2 (.tuple (l.map gapD)) := by
  refine .tuple (by rw [List.length_map]; exact h) fun d hd => ?_
  obtain ⟨ns, hn, rfl⟩ := List.mem_map.mp hd
  refine .tuple (by rw [List.length_map]; exact h2 ns hn) fun d hd => ?_
  obtain ⟨i, _, rfl⟩ := List.mem_map.mp hd
  exact .int _
section
variable {P : Program} {w : World} {K : PySem.W.Frag} {mg : Str → Option Value} {base : Heap}
def spLaw (K : PySem.W.Frag) : Sp := fun vs H Q _ => ∃ (l : Addr) (ns : List Int), vs = [.ref l] ∧ SqL K H l (ns.map V.int) ∧ ns.length ≤ 63 ∧ ∀ H', Q (.bl true) H'
set_option maxHeartbeats 1600000 in
theorem ok_law {f C fI : Addr} {fd fdI : FuncData} (T : Bl mg) (hsum : mg "sum" = none) (F : Fun K "law" "law" sLaw f fd) (G : ClsC K mg C) (B : MkC P w K mg base C fI fdI)
    (cSrc : Cal P w K mg base CX0 1 "_law_source" ["_law_script", "_law_at"] (spSrc K)) (cSize : Cal P w K mg base CX0 6 "_law_any_size" ["_law_source_here", "_law_odds"] (spSize K))
    (cLP : Cal P w K mg base CX0 2 "_law_pairs" ["_law_spec", "_law_state_here"] (spLP K)) (cLG : Cal P w K mg base CX0 1 "_law_row_gaps" ["_law_row", "_law_state_here"] (spRG K))
    (cGaps : Cal P w K mg base CX0 4 "gaps" ["cloth", "state"] (spGaps K C)) (cPairs : Cal P w K mg base CX0 5 "pairs" ["cloth", "state"] (spPairs K C)) :
    FnOk P w K mg base CX0 7 f fd ["_law_script"] (spLaw K) := by
  refine F.ok scLaw (fun vs H Q E h => ?_) (fun cdv A outer s H vs Q E hr h => ?_)
  · obtain ⟨l, ns, rfl, _⟩ := h
    rfl
  · obtain ⟨l, ns, rfl, hS, h63, q⟩ := h
    refine ⟨_, (pss_cons (ps_for PassesOwn.never rfl (pi_range1 (by rfl) T.range_ (pa_cons (pe_callB (call_max2 rfl) (by rfl) T.max_ (by decide +kernel) (pa_cons pe_int (pa_cons (pe_callB (call_min2 rfl) (by rfl) T.min_ (by decide +kernel) (pa_cons pe_int (pa_cons (pe_callB call_len_seq (by rfl) T.len_ PySem.boot_len (pa_cons (pv 0) pa_nil)) pa_nil))) pa_nil))) pa_nil)) (pg_name (i := 1) scLaw.nd rfl (Or.inl rfl))
        (pss_cons (ps_set (i := 2) scLaw.nd rfl (Or.inl rfl) (pe_cal cSrc (hr.mono (by decide)) pass0 (by rfl) (pa_cons (pv 0) (pa_cons (pv 1) pa_nil))))
        (pss_one (ps_for PassesOwn.never rfl (pi_range1 (by rfl) T.range_ (pa_cons pe_int pa_nil)) (pg_name (i := 3) scLaw.nd rfl (Or.inl rfl))
          (pss_cons (ps_asg (pe_cal cSize (hr.mono (by decide)) pass0 (by rfl) (pa_cons (pv 2) (pa_cons pe_int pa_nil))) (pg_tup rfl (pgs_cons (pg_name (i := 4) scLaw.nd rfl (Or.inl rfl)) (pgs_cons (pg_name (i := 5) scLaw.nd rfl (Or.inr rfl)) pgs_nil))))
          (pss_cons (ps_par (i := 6) (j := 7) rfl scLaw.nd rfl rfl (by decide) rfl rfl (pa_cons (pe_make B.made B.init hr (by rfl) G.mgC B.b3 .nil pass0 (pa_cons (pe_ix ix_tup (pv 4) pe_int (fun _ _ => rfl)) (pa_cons (pe_ix ix_tup (pv 4) pe_int (fun _ _ => rfl)) pa_nil))) (pa_cons (pe_cal cLP (hr.mono (by decide)) pass0 (by rfl) (pa_cons (pv 4) (pa_cons (pv 5) pa_nil))) pa_nil)) rfl)
          (pss_cons (ps_set (i := 8) scLaw.nd rfl (Or.inl rfl) (pe_cal cGaps (hr.mono (by decide)) pass0 (by rfl) (pa_cons (pv 6) (pa_cons (pv 5) pa_nil))))
          (pss_cons (ps_if (pw_or (pt_not (pt_val (pe_callB call_isi (by rfl) T.isinstance_ (by decide +kernel) (pa_cons (pv 8) (pa_cons (pe_bltn (v := .ty "tuple") (by rfl) T.tuple_ (by decide +kernel) rfl) pa_nil))))) (pw_or1 (pt_cmpR (op_neD (u64 hr)) (pv 8) (pe_callTy call_tuple_of (by rfl) T.tuple_ (by decide +kernel) (pa_cons (pe_lc (own := [("_law_row", 10)]) (g := gName 10) (by rfl) scLaw.nd (pi_tup (pe_ix ix_tup (pv 4) pe_int (fun _ _ => rfl))) (blkOk_by (own := [("_law_row", 10)]) (N := ["_law_script", "_law_place", "_law_source_here", "_law_turn", "_law_spec", "_law_state_here", "_law_cloth_here", "_law_due", "_law_told", "_law_at", "_law_row", "_law_held", "_law_one", "_law_other", "_law_again", "_law_some", "_law_tooth"]) (sc := defScope sLaw) (by decide +kernel)) (fun _ _ _ _ _ => (pg_name (i := 10) scLaw.nd rfl (Or.inl rfl))) (fun _ _ _ _ _ => pts_nil) (fun _ _ _ _ _ => (pe_cal cLG (hr.mono (by decide)) pass0 (by rfl) (pa_cons (pv 10) (pa_cons (pv 5) pa_nil))))) pa_nil)) (nomark _)))).pt
            (pss_one (ps_ret pe_bl))
            pss_nil)
          (pss_cons (ps_for PassesOwn.never rfl (pi_enumT (by rfl) T.enumerate_ (pa_cons (pe_ix ix_tup (pv 4) pe_int (fun _ _ => rfl)) pa_nil)) (pg_tup rfl (pgs_cons (pg_name (i := 9) scLaw.nd rfl (Or.inr rfl)) (pgs_cons (pg_name (i := 10) scLaw.nd rfl (Or.inl rfl)) pgs_nil)))
            (pss_cons (ps_set (i := 11) scLaw.nd rfl (Or.inl rfl) (pe_lst pa_nil))
            (pss_cons (ps_for PassesOwn.never rfl (pi_list (pv 7)) (pg_tup rfl (pgs_cons (pg_name (i := 12) scLaw.nd rfl (Or.inl rfl)) (pgs_cons (pg_name (i := 13) scLaw.nd rfl (Or.inl rfl)) pgs_nil)))
              (pss_one (ps_set (i := 11) scLaw.nd rfl (Or.inl rfl) (pe_op op_cat (pv 11) (pe_lc (own := [("_law_tooth", 16)]) (g := gName 16) (by rfl) scLaw.nd (pi_tup (pe_tup (pa_cons (pv 12) (pa_cons (pv 13) pa_nil)))) (blkOk_by (own := [("_law_tooth", 16)]) (N := ["_law_script", "_law_place", "_law_source_here", "_law_turn", "_law_spec", "_law_state_here", "_law_cloth_here", "_law_due", "_law_told", "_law_at", "_law_row", "_law_held", "_law_one", "_law_other", "_law_again", "_law_some", "_law_tooth"]) (sc := defScope sLaw) (by decide +kernel)) (fun _ _ _ _ _ => (pg_name (i := 16) scLaw.nd rfl (Or.inl rfl))) (fun _ _ _ _ _ => (pts_one (pt_cmpR op_eq (pe_ix (ix_tupK (K := K) rfl) (pv 16) pe_int (fun _ _ => rfl)) (pv 9) (nomark _)))) (fun _ _ _ _ _ => (pv 16)))))))
            (pss_one (ps_if (pw_or (pt_cmpR op_ne (pe_callB call_lenT (by rfl) T.len_ PySem.boot_len (pa_cons (pe_callTy (cr_setD rfl (u64 hr)) (by rfl) T.set_ (by decide +kernel) (pa_cons (pv 11) pa_nil)) pa_nil)) (pe_callB call_len_seq (by rfl) T.len_ PySem.boot_len (pa_cons (pv 11) pa_nil)) (nomark _)) (pw_or1 (pt_cmpR op_ne (pe_op op_add (pe_callB (cr_sumT rfl) (by rfl) hsum (by decide +kernel) (pa_cons (pe_ix ix_tup (pv 8) (pv 9) (fun _ _ => rfl)) pa_nil)) (pe_callB call_len_seq (by rfl) T.len_ PySem.boot_len (pa_cons (pv 11) pa_nil))) (pe_ix ix_tup (pv 10) pe_int (fun _ _ => rfl)) (nomark _)))).pt
              (pss_one (ps_ret pe_bl))
              pss_nil)))))
          (pss_one (ps_for PassesOwn.never rfl (pi_range1 (by rfl) T.range_ (pa_cons pe_int pa_nil)) (pg_name (i := 14) scLaw.nd rfl (Or.inl rfl))
            (pss_cons (ps_set (i := 15) scLaw.nd rfl (Or.inl rfl) (pe_cal cPairs (hr.mono (by decide)) pass0 (by rfl) (pa_cons (pv 6) (pa_cons (pv 5) pa_nil))))
            (pss_cons (ps_if (pw_or (pt_not (pt_val (pe_callB call_isi (by rfl) T.isinstance_ (by decide +kernel) (pa_cons (pv 15) (pa_cons (pe_bltn (v := .ty "list") (by rfl) T.list_ (by decide +kernel) rfl) pa_nil))))) (pw_or1 (pt_cmpR (op_neD (u64 hr)) (pv 15) (pv 7) (nomark _)))).pt
              (pss_one (ps_ret pe_bl))
              pss_nil)
            (pss_one (ps_expr (pe_bm PySem.F.plainAttrs_list PySem.F.slot_list_append PySem.F.type_list_append mt_append (pv 15) (pa_cons pe_int pa_nil)))))))))))))))))
      (pss_one (ps_ret pe_bl))), ?_⟩
    obtain ⟨N, hN, n2, n4⟩ : ∃ N : Nat, (if (if ((ns.map V.int).length : Int) < 4 then ((ns.map V.int).length : Int) else 4) > 2 then (if ((ns.map V.int).length : Int) < 4 then ((ns.map V.int).length : Int) else 4) else 2) = (N : Int) ∧ 2 ≤ N ∧ N ≤ 4 := by
      rw [List.length_map]
      by_cases h1 : ((ns.length : Nat) : Int) < 4
      · rw [if_pos h1]
        by_cases h2 : ((ns.length : Nat) : Int) > 2
        · rw [if_pos h2]
          exact ⟨ns.length, rfl, by omega, by omega⟩
        · rw [if_neg h2]
          exact ⟨2, rfl, by omega, by omega⟩
      · rw [if_neg h1, if_pos (by decide)]
        exact ⟨4, rfl, by omega, by omega⟩
    refine ⟨.ref l, rfl, l, _, rfl, .inl hS, 4, _, rfl, 2, _, rfl, (N : Int), by rw [← hN], by omega, by omega, ?_⟩
    refine for_range (n := N) (fun i σ H1 => Same H H1 ∧ ∃ x1 x2 x3 x4 x5 x6 x7 x8 x9 x10 x11 x12 x13 x14 x15 : Option V, σ = [some (.ref l), x1, x2, x3, x4, x5, x6, x7, x8, x9, x10, x11, x12, x13, x14, x15, none]) ⟨.refl H, none, none, none, none, none, none, none, none, none, none, none, none, none, none, none, rfl⟩ (fun i σ H1 hi hv => ?_) (fun σ H1 hv => ?_)
    · obtain ⟨sm, x1, x2, x3, x4, x5, x6, x7, x8, x9, x10, x11, x12, x13, x14, x15, rfl⟩ := hv
      refine ⟨.ref l, rfl, .int (0 + (i : Int)), rfl, l, ns, i, by rw [Int.zero_add]; rfl, sm.seq hS, by omega, fun a H2 na s2 src2 => ?_⟩
      have naH : H a = none := sm.free na
      refine ⟨4, rfl, by decide, by decide, ?_⟩
      refine for_range (n := 4) (fun t σ H3 => Same H H3 ∧ Src H3 a (1300 * t) ∧ ∃ y3 y4 y5 y6 y7 y8 y9 y10 y11 y12 y13 y14 y15 : Option V, σ = [some (.ref l), some (.int (0 + (i : Int))), some (.ref a), y3, y4, y5, y6, y7, y8, y9, y10, y11, y12, y13, y14, y15, none])
        ⟨sm.trans s2, src2, x3, x4, x5, x6, x7, x8, x9, x10, x11, x12, x13, x14, x15, rfl⟩ (fun t σ H3 ht hv => ?_) (fun σ H3 hv => ?_)
      · obtain ⟨sm3, src3, y3, y4, y5, y6, y7, y8, y9, y10, y11, y12, y13, y14, y15, rfl⟩ := hv
        refine ⟨.ref a, rfl, a, 1300 * t, rfl, src3, by omega, fun p sp v r z H4 rs zs ps b4 src4 e1 e2 hrs hzs c hps pl st => ?_⟩
        have sm4 : Same H H4 := fun b o e => b4 b o (ne_of_none e naH) (sm3 _ _ e)
        refine ⟨p, _, rfl, .inl (.inl e1), rfl, .ref sp, [.ref v], rfl, .ref v, [], rfl, rfl, ?_⟩
        -- the cloth
        refine ⟨.ref sp, rfl, sp, _, 0, .ref r, rfl, rfl, .inl (.inl e2), atI_nat (j := 0) rfl, .ref sp, rfl, sp, _, 1, .ref z, rfl, rfl, .inl (.inl e2), atI_nat (j := 1) rfl, fun x dx nx ndx ne => ?_⟩
        have sC : Same H4 (upd (upd H4 dx (.own x)) x (.ins C dx [])) := fun b o e => by
          rw [upd_ne (ne_of_none e nx), upd_ne (ne_of_none e ndx)]
          exact e
        refine ⟨x, dx, r, z, rs, zs, rfl, upd_same, hrs.tp (.of sC), (hzs.tp (.of sC)).k, c, fun H5 keep5 cl5 => ⟨rfl, ?_⟩⟩
        have s45 : Same H4 H5 := fun b o e => keep5 b o (sC _ _ e) (ne_of_none e nx)
        have sk := st_ok c st
        -- the pairs that are due
        refine ⟨.ref sp, rfl, .ref v, rfl, sp, r, z, v, rs, zs, ps, rfl, s45 _ _ e2, hrs.tp (.of s45), hzs.tp (.of s45), c, hps.same s45, sk, fun D1 H6 s6 nD1 due6 => ⟨.ref x, .ref D1, rfl, ?_⟩⟩
        have s46 := s45.trans s6
        -- gaps
        refine ⟨.ref x, rfl, .ref v, rfl, x, v, rs, zs, ps, rfl, cl5.mono s6, c, hps.same s46, st, fun g H7 s7 tg => ?_⟩
        have s47 := s46.trans s7
        have cl7 := (cl5.mono s6).mono s7
        have esp7 := s47 _ _ e2
        have hrs7 := hrs.tp (.of s47)
        have hps7 := hps.same s47
        refine ⟨.ref g, rfl, .ref g, .ty "tuple", _, _, _, rfl, .ty _, ty_of (dp_gaps tg), isi_tup (dp_gaps tg), _, rfl, iteF ?_⟩
        obtain ⟨tr, er, prr⟩ := id hrs7
        have rq : SqT K H7 r (tr.map V.ref) := .inl (.inl er)
        refine ⟨.ref g, rfl, .ref sp, rfl, sp, _, 0, .ref r, rfl, rfl, .inl (.inl esp7), atI_nat (j := 0) rfl, r, rfl, ⟨_, rq⟩, fun D2 nD2 => ?_⟩
        refine lc_tup (K := K) (a := r) (xs := tr.map V.ref) (fun k H8 => Same H7 H8 ∧ ∃ ts : List Addr, H8 D2 = some (.lst (ts.map V.ref)) ∧ Paired (fun t (ns : List Int) => SqT K H8 t (ns.map V.int)) ts ((rs.take k).map fun ro => gapsL ro ps)) ⟨same_upd nD2, [], upd_same, by rw [List.take_zero]; exact .nil⟩ (fun k H8 _ hv => same_seqT hv.1 rq) (fun k y H8 hy hv => ?_) (fun H8 hv => ?_)
        · obtain ⟨s8, ts, eD, pr⟩ := hv
          obtain ⟨u, hu, rfl⟩ : ∃ u, tr[k]? = some u ∧ y = .ref u := by
            rw [List.getElem?_map] at hy
            cases e : tr[k]? with
            | none => rw [e] at hy; cases hy
            | some u => rw [e] at hy; exact ⟨u, rfl, (Option.some.inj hy).symm⟩
          obtain ⟨ro, hro, htr⟩ := paired_get prr hu
          have memr := List.mem_of_getElem? hro
          refine ⟨rfl, .ref u, rfl, .ref v, rfl, u, v, ro, ps, rfl, htr.tp (.of s8), hps7.same s8, fun y hy => by rw [pl]; exact c.footIn memr y hy, c.flen ro memr, fun t9 H9 s9 sq => ?_⟩
          have eD9 := s9 _ _ eD
          refine ⟨_, eD9, ?_, fun b o e => ?_, ts ++ [t9], by rw [upd_same, List.map_append]; rfl, ?_⟩
          · rw [List.length_map, pr.length, List.length_map, List.length_take]
            have := c.few
            exact small1000 (by omega)
          · rw [upd_ne (ne_of_none e nD2)]
            exact s9 _ _ (s8 _ _ e)
          · rw [take_succ_of hro, List.map_append]
            exact paired_app (Paired.mono (fun _ _ e => seqT_wr eD9 (same_seqT s9 e)) pr) (.cons (seqT_wr eD9 sq) .nil)
        · obtain ⟨s8, ts, eD, pr⟩ := hv
          rw [List.length_map, prr.length, List.take_length] at pr
          refine ⟨D2, _, rfl, .inl ⟨.inl (.inl eD), fun t2 nt2 => ?_⟩⟩
          have s9 := same_upd (o := .tup (ts.map V.ref)) nt2
          have tg9 : TupG K (upd H8 t2 (.tup (ts.map V.ref))) t2 (rs.map fun ro => gapsL ro ps) := ⟨ts, .inl (.inl upd_same), same_seqTs s9 pr⟩
          generalize upd H8 t2 (.tup (ts.map V.ref)) = H9 at s9 tg9 ⊢
          have s79 := s8.trans s9
          have tgo : TupG K H9 g (rs.map fun ro => gapsL ro ps) := by
            obtain ⟨us, e, p⟩ := tg
            exact ⟨us, same_seqT s79 e, same_seqTs s79 p⟩
          have gg : Gd 1000 2 (.tuple ((rs.map fun ro => gapsL ro ps).map gapD)) := gd_gaps (by rw [List.length_map]; have := c.few; omega) fun ns hn => by
            obtain ⟨ro, hro, rfl⟩ := List.mem_map.mp hn
            have := gaps_len ro ps (c.flen ro hro)
            omega
          refine ⟨_, _, dp_gaps tgo, dp_gaps tg9, gg.shaped (by decide), gg.shaped (by decide), _, rfl, ?_⟩
          rw [eqv_same gg.lay.1]
          refine iteF ?_
          have s49 := s47.trans s79
          have cl9 := cl7.mono s79
          have esp9 := s79 _ _ esp7
          have hrs9 := hrs7.tp (.of s79)
          have due9 : LstPr H9 D1 (pairsN rs zs ps zs.length) := by
            obtain ⟨us, e, p⟩ := due6
            exact ⟨us, (s7.trans s79) _ _ e, Paired.mono (fun _ _ e => e.tp (.of (s7.trans s79))) p⟩
          clear pr eD tg9 s9 s8
          obtain ⟨tr, er, prr⟩ := id hrs9
          have rq : SqT K H9 r (tr.map V.ref) := .inl (.inl er)
          have p192 : (pairsN rs zs ps zs.length).length ≤ 24 * zs.length := pairsN_len zs.length fun n hn => by
            have fn : FootIn zs.length ((n : Int), 0) := ⟨⟨by show (0 : Int) ≤ n; omega, by show (n : Int) < _; omega⟩, .inl rfl⟩
            obtain ⟨i2, ro2, j2, hi2, hj2⟩ := c.fit.all _ fn
            have := sk.low c hi2 hj2
            omega
          have z8 := c.zips
          refine ⟨.ref sp, rfl, sp, _, 0, .ref r, rfl, rfl, .inl (.inl esp9), atI_nat (j := 0) rfl, r, _, rfl, rq, ?_⟩
          refine for_enumT (K := K) (a := r) (xs := tr.map V.ref) (fun k σ H10 => Same H9 H10 ∧ ∃ y9 y10 y11 y12 y13 : Option V, σ = [some (.ref l), some (.int (0 + (i : Int))), some (.ref a), some (.int (0 + (t : Int))), some (.ref sp), some (.ref v), some (.ref x), some (.ref D1), some (.ref g), y9, y10, y11, y12, y13, y14, y15, none])
            ⟨.refl H9, y9, y10, y11, y12, y13, rfl⟩ (fun k σ H10 _ hv => same_seqT hv.1 rq) (fun k y σ H10 T0 hy hv nT => ?_) (fun σ H10 hv => ?_)
          · obtain ⟨s10, y9, y10, y11, y12, y13, rfl⟩ := hv
            obtain ⟨u, hu, rfl⟩ : ∃ u, tr[k]? = some u ∧ y = .ref u := by
              rw [List.getElem?_map] at hy
              cases e : tr[k]? with
              | none => rw [e] at hy; cases hy
              | some u => rw [e] at hy; exact ⟨u, rfl, (Option.some.inj hy).symm⟩
            obtain ⟨ro, hro, htr⟩ := paired_get prr hu
            obtain ⟨nd, sums, h24⟩ := held_ok c sk hro
            have sT := s10.trans (same_upd (o := .tup [.int (k : Nat), .ref u]) nT)
            refine ⟨T0, _, rfl, .inl (.inl upd_same), rfl, .int (k : Nat), [.ref u], rfl, .ref u, [], rfl, rfl, ?_⟩
            generalize upd H10 T0 (.tup [.int (k : Nat), .ref u]) = H11 at sT ⊢
            refine ⟨Nat.zero_le _, fun h0 nh0 => ?_⟩
            have sh := sT.trans (same_upd (o := .lst []) nh0)
            have eh : (upd H11 h0 (.lst [])) h0 = some (.lst []) := upd_same
            generalize upd H11 h0 (.lst []) = H12 at sh eh ⊢
            obtain ⟨td, ed, pd⟩ := id due9
            have dq : SqL K H9 D1 (td.map V.ref) := .inl (.inl ed)
            refine ⟨.ref D1, rfl, D1, rfl, ⟨_, sh.seq dq⟩, ?_⟩
            refine for_list (K := K) (a := D1) (xs := td.map V.ref) (fun j σ H13 => Same H9 H13 ∧ ∃ (hl : Addr) (y12 y13 : Option V), LstFs H13 hl (heldL (k : Int) ((pairsN rs zs ps zs.length).take j)) ∧ σ = [some (.ref l), some (.int (0 + (i : Int))), some (.ref a), some (.int (0 + (t : Int))), some (.ref sp), some (.ref v), some (.ref x), some (.ref D1), some (.ref g), some (.int (k : Nat)), some (.ref u), some (.ref hl), y12, y13, y14, y15, none])
              ⟨sh, h0, y12, y13, ⟨[], eh, by rw [List.take_zero]; exact .nil⟩, rfl⟩ (fun j σ H13 _ hv => hv.1.seq dq) (fun j y σ H13 hy hv => ?_) (fun σ H13 hv => ?_)
            · obtain ⟨s13, hl, z12, z13, ⟨us, eus, pus⟩, rfl⟩ := hv
              obtain ⟨w0, hw0, rfl⟩ : ∃ w0, td[j]? = some w0 ∧ y = .ref w0 := by
                rw [List.getElem?_map] at hy
                cases e : td[j]? with
                | none => rw [e] at hy; cases hy
                | some w0 => rw [e] at hy; exact ⟨w0, rfl, (Option.some.inj hy).symm⟩
              obtain ⟨qj, hqj, ⟨a1, a2, ew, t1, t2⟩⟩ := paired_get pd hw0
              refine ⟨w0, _, rfl, .inl (.inl (s13 _ _ ew)), rfl, .ref a1, [.ref a2], rfl, .ref a2, [], rfl, rfl, ?_⟩
              refine ⟨.ref hl, rfl, .ref a1, rfl, .ref a2, rfl, by show 2 ≤ sizeLine; decide, fun T1 nT1 => ?_⟩
              have sT1 := same_upd (o := .tup [.ref a1, .ref a2]) nT1
              have eT1 : (upd H13 T1 (.tup [.ref a1, .ref a2])) T1 = some (.tup [.ref a1, .ref a2]) := upd_same
              generalize upd H13 T1 (.tup [.ref a1, .ref a2]) = H14 at sT1 eT1 ⊢
              have s14 := s13.trans sT1
              have q14 : SqT K H14 T1 [.ref a1, .ref a2] := .inl (.inl eT1)
              refine ⟨T1, rfl, ⟨_, q14⟩, fun D3 nD3 => ?_⟩
              refine lc_tup (K := K) (a := T1) (xs := [.ref a1, .ref a2]) (fun m H15 => Same H14 H15 ∧ ∃ ws : List Addr, H15 D3 = some (.lst (ws.map V.ref)) ∧ Paired (TupF H15) ws ((([qj.1, qj.2] : List Foot).take m).filter fun tt => decide (tt.1 = (k : Int)))) ⟨same_upd nD3, [], upd_same, by rw [List.take_zero]; exact .nil⟩ (fun m H15 _ hv => same_seqT hv.1 q14) (fun m y H15 hy hv => ?_) (fun H15 hv => ?_)
              · obtain ⟨s15, ws, eD3, pws⟩ := hv
                obtain ⟨am, tm, rfl, htm, tam⟩ : ∃ (am : Addr) (tm : Foot), y = .ref am ∧ ([qj.1, qj.2] : List Foot)[m]? = some tm ∧ TupF H9 am tm := by
                  match m, hy with
                  | 0, hy => exact ⟨a1, qj.1, (Option.some.inj hy).symm, rfl, t1⟩
                  | 1, hy => exact ⟨a2, qj.2, (Option.some.inj hy).symm, rfl, t2⟩
                  | m + 2, hy => simp at hy
                have tam15 : TupF H15 am tm := s15 _ _ (s14 _ _ tam)
                have wl : ws.length ≤ 2 := by
                  rw [pws.length]
                  have h1 := List.length_filter_le (fun (tt : Foot) => decide (tt.1 = (k : Int))) (([qj.1, qj.2] : List Foot).take m)
                  rw [List.length_take] at h1
                  have h2 : ([qj.1, qj.2] : List Foot).length = 2 := rfl
                  omega
                refine ⟨rfl, .ref am, rfl, am, _, 0, .int tm.1, rfl, rfl, .inl (.inl tam15), atI_nat (j := 0) rfl, .int (k : Nat), rfl, rfl, _, rfl, ?_⟩
                have dd : decide (V.int tm.1 = V.int ((k : Nat) : Int)) = decide (tm.1 = (k : Int)) := by
                  by_cases e : tm.1 = (k : Int)
                  · rw [decide_eq_true e, decide_eq_true (by rw [e])]
                  · rw [decide_eq_false e, decide_eq_false (fun z => e (V.int.inj z))]
                rw [dd]
                cases ed2 : decide (tm.1 = (k : Int)) with
                | true =>
                  refine iteT ⟨.ref am, rfl, _, eD3, by rw [List.length_map]; exact small1000 (by omega), fun b o e => ?_, ws ++ [am], by rw [upd_same, List.map_append]; rfl, ?_⟩
                  · rw [upd_ne (ne_of_none e nD3)]
                    exact s15 _ _ e
                  · rw [filter_take htm, ed2]
                    have tp : Tp H15 (upd H15 D3 (.lst (ws.map V.ref ++ [.ref am]))) := Tp.wr eD3
                    exact paired_app (Paired.mono (fun _ _ e => tp _ _ e) pws) (.cons (tp _ _ tam15) .nil)
                | false =>
                  refine iteF ⟨s15, ws, eD3, ?_⟩
                  rw [filter_take htm, ed2]
                  show Paired _ ws (_ ++ [])
                  rw [List.append_nil]
                  exact pws
              · obtain ⟨s15, ws, eD3, pws⟩ := hv
                have pws2 : Paired (TupF H15) ws (([qj.1, qj.2] : List Foot).filter fun tt => decide (tt.1 = (k : Int))) := pws
                have s1315 := sT1.trans s15
                have lus := pus.length
                have l1 := held_len (k : Int) ((pairsN rs zs ps zs.length).take j)
                have l2 := List.length_take (i := j) (l := pairsN rs zs ps zs.length)
                have lws := pws2.length
                have l3 := List.length_filter_le (fun (tt : Foot) => decide (tt.1 = (k : Int))) ([qj.1, qj.2] : List Foot)
                have l4 : ([qj.1, qj.2] : List Foot).length = 2 := rfl
                refine ⟨hl, D3, _, _, rfl, rfl, s1315 _ _ eus, eD3, ?_, fun hl2 nhl2 => ?_⟩
                · rw [List.length_map, List.length_map]
                  exact Nat.le_of_lt (small1000 (by omega))
                · have s16 := same_upd (o := .lst (us.map V.ref ++ ws.map V.ref)) nhl2
                  refine ⟨(s13.trans s1315).trans s16, hl2, _, _, ⟨us ++ ws, by rw [upd_same, List.map_append], ?_⟩, rfl⟩
                  rw [held_take hqj]
                  exact paired_app (Paired.mono (fun _ _ e => (s1315.trans s16) _ _ e) pus) (Paired.mono (fun _ _ e => s16 _ _ e) pws2)
            · obtain ⟨s13, hl, z12, z13, ⟨us, eus, pus⟩, rfl⟩ := hv
              have full : (pairsN rs zs ps zs.length).take (td.map V.ref).length = pairsN rs zs ps zs.length := List.take_of_length_le (by rw [List.length_map, pd.length]; exact Nat.le_refl _)
              rw [full] at pus
              obtain ⟨ks, k1, k2, k3, k4⟩ := keys_of (K := K) pus
              have hsq : SqL K H13 hl (us.map V.ref) := .inl (.inl eus)
              refine ⟨.ref hl, rfl, hl, ks, rfl, by rw [k1]; exact hsq, k3, by omega, by rw [k2]; exact keys_nd nd, fun sa L nsa sub lenL => ?_⟩
              have s14 := same_upd (o := SetTO P w sa L) nsa
              have s914 := s13.trans s14
              refine ⟨sa, L, rfl, upd_same, fun p hp => same_seqT s14 (k3 p (sub p hp)), .ref hl, rfl, hl, _, rfl, .inl (s14.seq hsq), rfl, _, rfl, ?_⟩
              have ul : us.length = (heldL (k : Int) (pairsN rs zs ps zs.length)).length := pus.length
              have e1 : (!decide (V.int ((L.length : Nat) : Int) = V.int (((us.map V.ref).length : Nat) : Int))) = false := by
                rw [lenL, k4, List.length_map, ul, decide_eq_true rfl]
                rfl
              rw [e1]
              refine iteF ?_
              obtain ⟨gs, eg, pg⟩ := id tgo
              have gl : k < gs.length := by
                rw [pg.length, List.length_map]
                exact (List.getElem?_eq_some_iff.mp hro).1
              obtain ⟨gk, hgk, sgk⟩ := paired_get pg (List.getElem?_eq_getElem gl)
              have egk : gk = gapsL ro ps := by
                rw [List.getElem?_map, hro] at hgk
                exact (Option.some.inj hgk).symm
              subst egk
              obtain ⟨fo, eu, _⟩ := id htr
              refine ⟨.ref g, rfl, .int (k : Nat), rfl, g, _, (k : Nat), .ref gs[k], rfl, rfl, same_seqT s914 eg, atI_nat (by rw [List.getElem?_map, List.getElem?_eq_getElem gl]; rfl), gs[k], gapsL ro ps, rfl, same_seqT s914 sgk, .ref hl, rfl, hl, _, rfl, .inl (s14.seq hsq), (gapsL ro ps).sum, _, rfl, rfl, .ref u, rfl, u, _, 1, .int ro.teeth, rfl, rfl, .inl (.inl (s914 _ _ eu)), atI_nat (j := 1) rfl, rfl, _, rfl, ?_⟩
              have e2 : (!decide (V.int ((gapsL ro ps).sum + (((us.map V.ref).length : Nat) : Int)) = V.int ro.teeth)) = false := by
                rw [List.length_map, ul, sums, decide_eq_true rfl]
                rfl
              rw [e2]
              exact iteF ⟨s914, _, _, _, _, _, rfl⟩
          · obtain ⟨s10, y9, y10, y11, y12, y13, rfl⟩ := hv
            refine ⟨2, rfl, by decide, by decide, ?_⟩
            refine for_range (n := 2) (fun m σ H11 => Same H9 H11 ∧ ∃ y14 y15 : Option V, σ = [some (.ref l), some (.int (0 + (i : Int))), some (.ref a), some (.int (0 + (t : Int))), some (.ref sp), some (.ref v), some (.ref x), some (.ref D1), some (.ref g), y9, y10, y11, y12, y13, y14, y15, none])
              ⟨s10, y14, y15, rfl⟩ (fun m σ H11 hm hv => ?_) (fun σ H11 hv => ?_)
            · obtain ⟨s11, y14, y15, rfl⟩ := hv
              have s411 := s49.trans s11
              refine ⟨.ref x, rfl, .ref v, rfl, x, v, rs, zs, ps, rfl, cl9.mono s11, c, hps.same s411, pl, st, fun D4 us4 H12 s12 nD4 e4 p4 => ?_⟩
              have d4 : Dp K H12 (.ref D4) (.list ((pairsN rs zs ps zs.length).map prD)) := .lst (.inl (.inl e4)) (dpAll_same (mask_same _ _) p4)
              have due12 : LstPr H12 D1 (pairsN rs zs ps zs.length) := by
                obtain ⟨us, e, p⟩ := due9
                exact ⟨us, (s11.trans s12) _ _ e, Paired.mono (fun _ _ e => e.tp (.of (s11.trans s12))) p⟩
              have gp : Gd 1000 3 (.list ((pairsN rs zs ps zs.length).map prD)) := gd_prs (by omega)
              refine ⟨.ref D4, rfl, .ref D4, .ty "list", _, _, _, rfl, .ty _, ty_of d4, isi_lst d4, _, rfl, iteF ?_⟩
              refine ⟨.ref D4, rfl, .ref D1, rfl, _, _, d4, dp_prs due12, gp.shaped (by decide), gp.shaped (by decide), _, rfl, ?_⟩
              rw [eqv_same gp.lay.1]
              refine iteF ?_
              refine ⟨.ref D4, rfl, .inl ⟨rfl, _, .inl (.inl e4)⟩, D4, _, _, rfl, rfl, e4, ?_, fun b o e => ?_, _, _, rfl⟩
              · rw [DpAll.len p4, List.length_map]
                exact small1000 (by omega)
              · rw [upd_ne (ne_of_none (s11 _ _ e) nD4)]
                exact s12 _ _ (s11 _ _ e)
            · obtain ⟨s11, y14, y15, rfl⟩ := hv
              have s411 := s49.trans s11
              exact ⟨sm4.trans s411, (src4.same s411).mono (by omega), _, _, _, _, _, _, _, _, _, _, _, _, _, rfl⟩
      · obtain ⟨sm3, src3, y3, y4, y5, y6, y7, y8, y9, y10, y11, y12, y13, y14, y15, rfl⟩ := hv
        exact ⟨sm3, _, _, _, _, _, _, _, _, _, _, _, _, _, _, _, rfl⟩
    · exact q H1
end
end Zs
namespace Zs
open PySem PySem.Spec PyProof.Rows L2
theorem sq_K {K : PySem.W.Frag} {a : Addr} {xs : List V} {its : Array Value} {n : Nat} {dd : Option Addr} {sl : Array (Option Value)} (l : K.lookup a = some ⟨.type "tuple", dd, .seq its n, sl⟩) (z : its.size ≤ sizeLine) (v : Vals xs its.toList) (H : Hp) : SqT K H a xs := .inr ⟨_, its, n, l, rfl, rfl, z, v⟩
theorem all_mk {l : PySem.W.OpenLaw} {w : World} {K : PySem.W.Frag} {h : Heap} {mg : Str → Option Value} {fa C aS aD aI aE tE : Addr} (X : K.In h) (G : h.Ns mainGlobals mg) (hfa : mg "law" = some (.ref fa))
    {oddraw andraw : Option Addr} {sldraw : Array (Option Value)} {ocdraw kVdraw dcdraw pmdraw cddraw ctdraw : Value} {fdraw : Addr}
    (a_draw : PySem.W.nsIn K mainGlobals "_law_draw" = some (some (.ref fdraw)))
    (l_draw : K.lookup fdraw = some ⟨ocdraw, oddraw, .func (PySem.W.fnOf "_law_draw" "_law_draw" (defArgs sDraw) (defBody sDraw) (defScope sDraw) .none kVdraw dcdraw pmdraw andraw cddraw ctdraw), sldraw⟩)
    (c_draw : PySem.W.codeIn K cddraw "_law_draw" = true)
    (k_draw : PySem.W.keepIn K (.ref fdraw) = true)
    {odsrc ansrc : Option Addr} {slsrc : Array (Option Value)} {ocsrc kVsrc dcsrc pmsrc cdsrc ctsrc : Value} {fsrc : Addr}
    (a_src : PySem.W.nsIn K mainGlobals "_law_source" = some (some (.ref fsrc)))
    (l_src : K.lookup fsrc = some ⟨ocsrc, odsrc, .func (PySem.W.fnOf "_law_source" "_law_source" (defArgs sSrc) (defBody sSrc) (defScope sSrc) .none kVsrc dcsrc pmsrc ansrc cdsrc ctsrc), slsrc⟩)
    (c_src : PySem.W.codeIn K cdsrc "_law_source" = true)
    (k_src : PySem.W.keepIn K (.ref fsrc) = true)
    {odchoice anchoice : Option Addr} {slchoice : Array (Option Value)} {occhoice kVchoice dcchoice pmchoice cdchoice ctchoice : Value} {fchoice : Addr}
    (a_choice : PySem.W.nsIn K mainGlobals "_law_choice" = some (some (.ref fchoice)))
    (l_choice : K.lookup fchoice = some ⟨occhoice, odchoice, .func (PySem.W.fnOf "_law_choice" "_law_choice" (defArgs sChoice) (defBody sChoice) (defScope sChoice) .none kVchoice dcchoice pmchoice anchoice cdchoice ctchoice), slchoice⟩)
    (c_choice : PySem.W.codeIn K cdchoice "_law_choice" = true)
    (k_choice : PySem.W.keepIn K (.ref fchoice) = true)
    {odrows anrows : Option Addr} {slrows : Array (Option Value)} {ocrows kVrows dcrows pmrows cdrows ctrows : Value} {frows : Addr}
    (a_rows : PySem.W.nsIn K mainGlobals "_law_rows" = some (some (.ref frows)))
    (l_rows : K.lookup frows = some ⟨ocrows, odrows, .func (PySem.W.fnOf "_law_rows" "_law_rows" (defArgs sRows) (defBody sRows) (defScope sRows) .none kVrows dcrows pmrows anrows cdrows ctrows), slrows⟩)
    (c_rows : PySem.W.codeIn K cdrows "_law_rows" = true)
    (k_rows : PySem.W.keepIn K (.ref frows) = true)
    {odcloth ancloth : Option Addr} {slcloth : Array (Option Value)} {occloth kVcloth dccloth pmcloth cdcloth ctcloth : Value} {fcloth : Addr}
    (a_cloth : PySem.W.nsIn K mainGlobals "_law_cloth" = some (some (.ref fcloth)))
    (l_cloth : K.lookup fcloth = some ⟨occloth, odcloth, .func (PySem.W.fnOf "_law_cloth" "_law_cloth" (defArgs sCloth) (defBody sCloth) (defScope sCloth) .none kVcloth dccloth pmcloth ancloth cdcloth ctcloth), slcloth⟩)
    (c_cloth : PySem.W.codeIn K cdcloth "_law_cloth" = true)
    (k_cloth : PySem.W.keepIn K (.ref fcloth) = true)
    {odint anint : Option Addr} {slint : Array (Option Value)} {ocint kVint dcint pmint cdint ctint : Value} {fint : Addr}
    (a_int : PySem.W.nsIn K mainGlobals "is_integer" = some (some (.ref fint)))
    (l_int : K.lookup fint = some ⟨ocint, odint, .func (PySem.W.fnOf "is_integer" "is_integer" (defArgs sInt) (defBody sInt) (defScope sInt) .none kVint dcint pmint anint cdint ctint), slint⟩)
    (c_int : PySem.W.codeIn K cdint "is_integer" = true)
    (k_int : PySem.W.keepIn K (.ref fint) = true)
    {odintB anintB : Option Addr} {slintB : Array (Option Value)} {ocintB kVintB dcintB pmintB cdintB ctintB : Value} {fintB : Addr}
    (a_intB : PySem.W.nsIn K mainGlobals "is_integer_between" = some (some (.ref fintB)))
    (l_intB : K.lookup fintB = some ⟨ocintB, odintB, .func (PySem.W.fnOf "is_integer_between" "is_integer_between" (defArgs sIntB) (defBody sIntB) (defScope sIntB) .none kVintB dcintB pmintB anintB cdintB ctintB), slintB⟩)
    (c_intB : PySem.W.codeIn K cdintB "is_integer_between" = true)
    (k_intB : PySem.W.keepIn K (.ref fintB) = true)
    {odtupB antupB : Option Addr} {sltupB : Array (Option Value)} {octupB kVtupB dctupB pmtupB cdtupB cttupB : Value} {ftupB : Addr}
    (a_tupB : PySem.W.nsIn K mainGlobals "is_tuple_between" = some (some (.ref ftupB)))
    (l_tupB : K.lookup ftupB = some ⟨octupB, odtupB, .func (PySem.W.fnOf "is_tuple_between" "is_tuple_between" (defArgs sTupB) (defBody sTupB) (defScope sTupB) .none kVtupB dctupB pmtupB antupB cdtupB cttupB), sltupB⟩)
    (c_tupB : PySem.W.codeIn K cdtupB "is_tuple_between" = true)
    (k_tupB : PySem.W.keepIn K (.ref ftupB) = true)
    {odintT anintT : Option Addr} {slintT : Array (Option Value)} {ocintT kVintT dcintT pmintT cdintT ctintT : Value} {fintT : Addr}
    (a_intT : PySem.W.nsIn K mainGlobals "is_integer_tuple" = some (some (.ref fintT)))
    (l_intT : K.lookup fintT = some ⟨ocintT, odintT, .func (PySem.W.fnOf "is_integer_tuple" "is_integer_tuple" (defArgs sIntT) (defBody sIntT) (defScope sIntT) .none kVintT dcintT pmintT anintT cdintT ctintT), slintT⟩)
    (c_intT : PySem.W.codeIn K cdintT "is_integer_tuple" = true)
    (k_intT : PySem.W.keepIn K (.ref fintT) = true)
    {odisRow anisRow : Option Addr} {slisRow : Array (Option Value)} {ocisRow kVisRow dcisRow pmisRow cdisRow ctisRow : Value} {fisRow : Addr}
    (a_isRow : PySem.W.nsIn K mainGlobals "is_row" = some (some (.ref fisRow)))
    (l_isRow : K.lookup fisRow = some ⟨ocisRow, odisRow, .func (PySem.W.fnOf "is_row" "is_row" (defArgs sIsRow) (defBody sIsRow) (defScope sIsRow) .none kVisRow dcisRow pmisRow anisRow cdisRow ctisRow), slisRow⟩)
    (c_isRow : PySem.W.codeIn K cdisRow "is_row" = true)
    (k_isRow : PySem.W.keepIn K (.ref fisRow) = true)
    {odisZip anisZip : Option Addr} {slisZip : Array (Option Value)} {ocisZip kVisZip dcisZip pmisZip cdisZip ctisZip : Value} {fisZip : Addr}
    (a_isZip : PySem.W.nsIn K mainGlobals "is_zip" = some (some (.ref fisZip)))
    (l_isZip : K.lookup fisZip = some ⟨ocisZip, odisZip, .func (PySem.W.fnOf "is_zip" "is_zip" (defArgs sIsZip) (defBody sIsZip) (defScope sIsZip) .none kVisZip dcisZip pmisZip anisZip cdisZip ctisZip), slisZip⟩)
    (c_isZip : PySem.W.codeIn K cdisZip "is_zip" = true)
    (k_isZip : PySem.W.keepIn K (.ref fisZip) = true)
    {odchR anchR : Option Addr} {slchR : Array (Option Value)} {occhR kVchR dcchR pmchR cdchR ctchR : Value} {fchR : Addr}
    (a_chR : PySem.W.nsIn K mainGlobals "check_rows" = some (some (.ref fchR)))
    (l_chR : K.lookup fchR = some ⟨occhR, odchR, .func (PySem.W.fnOf "check_rows" "check_rows" (defArgs sChR) (defBody sChR) (defScope sChR) .none kVchR dcchR pmchR anchR cdchR ctchR), slchR⟩)
    (c_chR : PySem.W.codeIn K cdchR "check_rows" = true)
    (k_chR : PySem.W.keepIn K (.ref fchR) = true)
    {odchZ anchZ : Option Addr} {slchZ : Array (Option Value)} {occhZ kVchZ dcchZ pmchZ cdchZ ctchZ : Value} {fchZ : Addr}
    (a_chZ : PySem.W.nsIn K mainGlobals "check_zips" = some (some (.ref fchZ)))
    (l_chZ : K.lookup fchZ = some ⟨occhZ, odchZ, .func (PySem.W.fnOf "check_zips" "check_zips" (defArgs sChZ) (defBody sChZ) (defScope sChZ) .none kVchZ dcchZ pmchZ anchZ cdchZ ctchZ), slchZ⟩)
    (c_chZ : PySem.W.codeIn K cdchZ "check_zips" = true)
    (k_chZ : PySem.W.keepIn K (.ref fchZ) = true)
    {odchF anchF : Option Addr} {slchF : Array (Option Value)} {occhF kVchF dcchF pmchF cdchF ctchF : Value} {fchF : Addr}
    (a_chF : PySem.W.nsIn K mainGlobals "check_feet" = some (some (.ref fchF)))
    (l_chF : K.lookup fchF = some ⟨occhF, odchF, .func (PySem.W.fnOf "check_feet" "check_feet" (defArgs sChF) (defBody sChF) (defScope sChF) .none kVchF dcchF pmchF anchF cdchF ctchF), slchF⟩)
    (c_chF : PySem.W.codeIn K cdchF "check_feet" = true)
    (k_chF : PySem.W.keepIn K (.ref fchF) = true)
    {odtl antl : Option Addr} {sltl : Array (Option Value)} {octl kVtl dctl pmtl cdtl cttl : Value} {ftl : Addr}
    (a_tl : PySem.W.nsIn K mainGlobals "turn_lengths" = some (some (.ref ftl)))
    (l_tl : K.lookup ftl = some ⟨octl, odtl, .func (PySem.W.fnOf "turn_lengths" "turn_lengths" (defArgs sTL) (defBody sTL) (defScope sTL) .none kVtl dctl pmtl antl cdtl cttl), sltl⟩)
    (c_tl : PySem.W.codeIn K cdtl "turn_lengths" = true)
    (k_tl : PySem.W.keepIn K (.ref ftl) = true)
    {odbn anbn : Option Addr} {slbn : Array (Option Value)} {ocbn kVbn dcbn pmbn cdbn ctbn : Value} {fbn : Addr}
    (a_bn : PySem.W.nsIn K mainGlobals "by_number" = some (some (.ref fbn)))
    (l_bn : K.lookup fbn = some ⟨ocbn, odbn, .func (PySem.W.fnOf "by_number" "by_number" (defArgs sBN) (defBody sBN) (defScope sBN) .none kVbn dcbn pmbn anbn cdbn ctbn), slbn⟩)
    (c_bn : PySem.W.codeIn K cdbn "by_number" = true)
    (k_bn : PySem.W.keepIn K (.ref fbn) = true)
    {odnf annf : Option Addr} {slnf : Array (Option Value)} {ocnf kVnf dcnf pmnf cdnf ctnf : Value} {fnf : Addr}
    (a_nf : PySem.W.nsIn K mainGlobals "neighbours_of_feet" = some (some (.ref fnf)))
    (l_nf : K.lookup fnf = some ⟨ocnf, odnf, .func (PySem.W.fnOf "neighbours_of_feet" "neighbours_of_feet" (defArgs sNF) (defBody sNF) (defScope sNF) .none kVnf dcnf pmnf annf cdnf ctnf), slnf⟩)
    (c_nf : PySem.W.codeIn K cdnf "neighbours_of_feet" = true)
    (k_nf : PySem.W.keepIn K (.ref fnf) = true)
    {odgf angf : Option Addr} {slgf : Array (Option Value)} {ocgf kVgf dcgf pmgf cdgf ctgf : Value} {fgf : Addr}
    (a_gf : PySem.W.nsIn K mainGlobals "gaps_of_feet" = some (some (.ref fgf)))
    (l_gf : K.lookup fgf = some ⟨ocgf, odgf, .func (PySem.W.fnOf "gaps_of_feet" "gaps_of_feet" (defArgs sGF) (defBody sGF) (defScope sGF) .none kVgf dcgf pmgf angf cdgf ctgf), slgf⟩)
    (c_gf : PySem.W.codeIn K cdgf "gaps_of_feet" = true)
    (k_gf : PySem.W.keepIn K (.ref fgf) = true)
    {odgs angs : Option Addr} {slgs : Array (Option Value)} {ocgs kVgs dcgs pmgs cdgs ctgs : Value} {fgs : Addr}
    (a_gs : PySem.W.nsIn K mainGlobals "gaps_of_sliders" = some (some (.ref fgs)))
    (l_gs : K.lookup fgs = some ⟨ocgs, odgs, .func (PySem.W.fnOf "gaps_of_sliders" "gaps_of_sliders" (defArgs sGS) (defBody sGS) (defScope sGS) .none kVgs dcgs pmgs angs cdgs ctgs), slgs⟩)
    (c_gs : PySem.W.codeIn K cdgs "gaps_of_sliders" = true)
    (k_gs : PySem.W.keepIn K (.ref fgs) = true)
    {odhe anhe : Option Addr} {slhe : Array (Option Value)} {oche kVhe dche pmhe cdhe cthe : Value} {fhe : Addr}
    (a_he : PySem.W.nsIn K mainGlobals "has_entries" = some (some (.ref fhe)))
    (l_he : K.lookup fhe = some ⟨oche, odhe, .func (PySem.W.fnOf "has_entries" "has_entries" (defArgs sHE) (defBody sHE) (defScope sHE) .none kVhe dche pmhe anhe cdhe cthe), slhe⟩)
    (c_he : PySem.W.codeIn K cdhe "has_entries" = true)
    (k_he : PySem.W.keepIn K (.ref fhe) = true)
    {odfg anfg : Option Addr} {slfg : Array (Option Value)} {ocfg kVfg dcfg pmfg cdfg ctfg : Value} {ffg : Addr}
    (a_fg : PySem.W.nsIn K mainGlobals "find_gaps" = some (some (.ref ffg)))
    (l_fg : K.lookup ffg = some ⟨ocfg, odfg, .func (PySem.W.fnOf "find_gaps" "find_gaps" (defArgs sFG) (defBody sFG) (defScope sFG) .none kVfg dcfg pmfg anfg cdfg ctfg), slfg⟩)
    (c_fg : PySem.W.codeIn K cdfg "find_gaps" = true)
    (k_fg : PySem.W.keepIn K (.ref ffg) = true)
    {odis anis : Option Addr} {slis : Array (Option Value)} {ocis kVis dcis pmis cdis ctis : Value} {fis : Addr}
    (a_is : PySem.W.nsIn K mainGlobals "is_state" = some (some (.ref fis)))
    (l_is : K.lookup fis = some ⟨ocis, odis, .func (PySem.W.fnOf "is_state" "is_state" (defArgs sIS) (defBody sIS) (defScope sIS) .none kVis dcis pmis anis cdis ctis), slis⟩)
    (c_is : PySem.W.codeIn K cdis "is_state" = true)
    (k_is : PySem.W.keepIn K (.ref fis) = true)
    {odrq anrq : Option Addr} {slrq : Array (Option Value)} {ocrq kVrq dcrq pmrq cdrq ctrq : Value} {frq : Addr}
    (a_rq : PySem.W.nsIn K mainGlobals "require_gaps" = some (some (.ref frq)))
    (l_rq : K.lookup frq = some ⟨ocrq, odrq, .func (PySem.W.fnOf "require_gaps" "require_gaps" (defArgs sRQ) (defBody sRQ) (defScope sRQ) .none kVrq dcrq pmrq anrq cdrq ctrq), slrq⟩)
    (c_rq : PySem.W.codeIn K cdrq "require_gaps" = true)
    (k_rq : PySem.W.keepIn K (.ref frq) = true)
    {odedge anedge : Option Addr} {sledge : Array (Option Value)} {ocedge kVedge dcedge pmedge cdedge ctedge : Value} {fedge : Addr}
    (a_edge : PySem.W.nsIn K mainGlobals "_law_edge" = some (some (.ref fedge)))
    (l_edge : K.lookup fedge = some ⟨ocedge, odedge, .func (PySem.W.fnOf "_law_edge" "_law_edge" (defArgs sEdge) (defBody sEdge) (defScope sEdge) .none kVedge dcedge pmedge anedge cdedge ctedge), sledge⟩)
    (c_edge : PySem.W.codeIn K cdedge "_law_edge" = true)
    (k_edge : PySem.W.keepIn K (.ref fedge) = true)
    {odgap angap : Option Addr} {slgap : Array (Option Value)} {ocgap kVgap dcgap pmgap cdgap ctgap : Value} {fgap : Addr}
    (a_gap : PySem.W.nsIn K mainGlobals "_law_gap" = some (some (.ref fgap)))
    (l_gap : K.lookup fgap = some ⟨ocgap, odgap, .func (PySem.W.fnOf "_law_gap" "_law_gap" (defArgs sGap) (defBody sGap) (defScope sGap) .none kVgap dcgap pmgap angap cdgap ctgap), slgap⟩)
    (c_gap : PySem.W.codeIn K cdgap "_law_gap" = true)
    (k_gap : PySem.W.keepIn K (.ref fgap) = true)
    {odup anup : Option Addr} {slup : Array (Option Value)} {ocup kVup dcup pmup cdup ctup : Value} {fup : Addr}
    (a_up : PySem.W.nsIn K mainGlobals "_law_is_upper" = some (some (.ref fup)))
    (l_up : K.lookup fup = some ⟨ocup, odup, .func (PySem.W.fnOf "_law_is_upper" "_law_is_upper" (defArgs sUp) (defBody sUp) (defScope sUp) .none kVup dcup pmup anup cdup ctup), slup⟩)
    (c_up : PySem.W.codeIn K cdup "_law_is_upper" = true)
    (k_up : PySem.W.keepIn K (.ref fup) = true)
    {odlegal anlegal : Option Addr} {sllegal : Array (Option Value)} {oclegal kVlegal dclegal pmlegal cdlegal ctlegal : Value} {flegal : Addr}
    (a_legal : PySem.W.nsIn K mainGlobals "_law_is_legal" = some (some (.ref flegal)))
    (l_legal : K.lookup flegal = some ⟨oclegal, odlegal, .func (PySem.W.fnOf "_law_is_legal" "_law_is_legal" (defArgs sLegal) (defBody sLegal) (defScope sLegal) .none kVlegal dclegal pmlegal anlegal cdlegal ctlegal), sllegal⟩)
    (c_legal : PySem.W.codeIn K cdlegal "_law_is_legal" = true)
    (k_legal : PySem.W.keepIn K (.ref flegal) = true)
    {odperf anperf : Option Addr} {slperf : Array (Option Value)} {ocperf kVperf dcperf pmperf cdperf ctperf : Value} {fperf : Addr}
    (a_perf : PySem.W.nsIn K mainGlobals "_law_perform" = some (some (.ref fperf)))
    (l_perf : K.lookup fperf = some ⟨ocperf, odperf, .func (PySem.W.fnOf "_law_perform" "_law_perform" (defArgs sPerf) (defBody sPerf) (defScope sPerf) .none kVperf dcperf pmperf anperf cdperf ctperf), slperf⟩)
    (c_perf : PySem.W.codeIn K cdperf "_law_perform" = true)
    (k_perf : PySem.W.keepIn K (.ref fperf) = true)
    {odol anol : Option Addr} {slol : Array (Option Value)} {ocol kVol dcol pmol cdol ctol : Value} {fol : Addr}
    (a_ol : PySem.W.nsIn K mainGlobals "_law_open_layout" = some (some (.ref fol)))
    (l_ol : K.lookup fol = some ⟨ocol, odol, .func (PySem.W.fnOf "_law_open_layout" "_law_open_layout" (defArgs sOL) (defBody sOL) (defScope sOL) .none kVol dcol pmol anol cdol ctol), slol⟩)
    (c_ol : PySem.W.codeIn K cdol "_law_open_layout" = true)
    (k_ol : PySem.W.keepIn K (.ref fol) = true)
    {odst anst : Option Addr} {slst : Array (Option Value)} {ocst kVst dcst pmst cdst ctst : Value} {fst : Addr}
    (a_st : PySem.W.nsIn K mainGlobals "_law_state" = some (some (.ref fst)))
    (l_st : K.lookup fst = some ⟨ocst, odst, .func (PySem.W.fnOf "_law_state" "_law_state" (defArgs sSt) (defBody sSt) (defScope sSt) .none kVst dcst pmst anst cdst ctst), slst⟩)
    (c_st : PySem.W.codeIn K cdst "_law_state" = true)
    (k_st : PySem.W.keepIn K (.ref fst) = true)
    {oddm andm : Option Addr} {sldm : Array (Option Value)} {ocdm kVdm dcdm pmdm cddm ctdm : Value} {fdm : Addr}
    (a_dm : PySem.W.nsIn K mainGlobals "_law_drawn_moves" = some (some (.ref fdm)))
    (l_dm : K.lookup fdm = some ⟨ocdm, oddm, .func (PySem.W.fnOf "_law_drawn_moves" "_law_drawn_moves" (defArgs sDM) (defBody sDM) (defScope sDM) .none kVdm dcdm pmdm andm cddm ctdm), sldm⟩)
    (c_dm : PySem.W.codeIn K cddm "_law_drawn_moves" = true)
    (k_dm : PySem.W.keepIn K (.ref fdm) = true)
    {odwm anwm : Option Addr} {slwm : Array (Option Value)} {ocwm kVwm dcwm pmwm cdwm ctwm : Value} {fwm : Addr}
    (a_wm : PySem.W.nsIn K mainGlobals "_law_with_minimums" = some (some (.ref fwm)))
    (l_wm : K.lookup fwm = some ⟨ocwm, odwm, .func (PySem.W.fnOf "_law_with_minimums" "_law_with_minimums" (defArgs sWM) (defBody sWM) (defScope sWM) .none kVwm dcwm pmwm anwm cdwm ctwm), slwm⟩)
    (c_wm : PySem.W.codeIn K cdwm "_law_with_minimums" = true)
    (k_wm : PySem.W.keepIn K (.ref fwm) = true)
    {odpair anpair : Option Addr} {slpair : Array (Option Value)} {ocpair kVpair dcpair pmpair cdpair ctpair : Value} {fpair : Addr}
    (a_pair : PySem.W.nsIn K mainGlobals "_law_drawn_pair" = some (some (.ref fpair)))
    (l_pair : K.lookup fpair = some ⟨ocpair, odpair, .func (PySem.W.fnOf "_law_drawn_pair" "_law_drawn_pair" (defArgs sPair) (defBody sPair) (defScope sPair) .none kVpair dcpair pmpair anpair cdpair ctpair), slpair⟩)
    (c_pair : PySem.W.codeIn K cdpair "_law_drawn_pair" = true)
    (k_pair : PySem.W.keepIn K (.ref fpair) = true)
    {odsize ansize : Option Addr} {slsize : Array (Option Value)} {ocsize kVsize dcsize pmsize cdsize ctsize : Value} {fsize : Addr}
    (a_size : PySem.W.nsIn K mainGlobals "_law_any_size" = some (some (.ref fsize)))
    (l_size : K.lookup fsize = some ⟨ocsize, odsize, .func (PySem.W.fnOf "_law_any_size" "_law_any_size" (defArgs sSize) (defBody sSize) (defScope sSize) .none kVsize dcsize pmsize ansize cdsize ctsize), slsize⟩)
    (c_size : PySem.W.codeIn K cdsize "_law_any_size" = true)
    (k_size : PySem.W.keepIn K (.ref fsize) = true)
    {odft anft : Option Addr} {slft : Array (Option Value)} {ocft kVft dcft pmft cdft ctft : Value} {fft : Addr}
    (a_ft : PySem.W.nsIn K mainGlobals "foot_teeth" = some (some (.ref fft)))
    (l_ft : K.lookup fft = some ⟨ocft, odft, .func (PySem.W.fnOf "foot_teeth" "foot_teeth" (defArgs sFT) (defBody sFT) (defScope sFT) .none kVft dcft pmft anft cdft ctft), slft⟩)
    (c_ft : PySem.W.codeIn K cdft "foot_teeth" = true)
    (k_ft : PySem.W.keepIn K (.ref fft) = true)
    {odreq anreq : Option Addr} {slreq : Array (Option Value)} {ocreq kVreq dcreq pmreq cdreq ctreq : Value} {freq : Addr}
    (a_req : PySem.W.nsIn K mainGlobals "require_state" = some (some (.ref freq)))
    (l_req : K.lookup freq = some ⟨ocreq, odreq, .func (PySem.W.fnOf "require_state" "require_state" (defArgs sReq) (defBody sReq) (defScope sReq) .none kVreq dcreq pmreq anreq cdreq ctreq), slreq⟩)
    (c_req : PySem.W.codeIn K cdreq "require_state" = true)
    (k_req : PySem.W.keepIn K (.ref freq) = true)
    {odgaps angaps : Option Addr} {slgaps : Array (Option Value)} {ocgaps kVgaps dcgaps pmgaps cdgaps ctgaps : Value} {fgaps : Addr}
    (a_gaps : PySem.W.nsIn K mainGlobals "gaps" = some (some (.ref fgaps)))
    (l_gaps : K.lookup fgaps = some ⟨ocgaps, odgaps, .func (PySem.W.fnOf "gaps" "gaps" (defArgs sGaps) (defBody sGaps) (defScope sGaps) .none kVgaps dcgaps pmgaps angaps cdgaps ctgaps), slgaps⟩)
    (c_gaps : PySem.W.codeIn K cdgaps "gaps" = true)
    (k_gaps : PySem.W.keepIn K (.ref fgaps) = true)
    {odprs anprs : Option Addr} {slprs : Array (Option Value)} {ocprs kVprs dcprs pmprs cdprs ctprs : Value} {fprs : Addr}
    (a_prs : PySem.W.nsIn K mainGlobals "pairs" = some (some (.ref fprs)))
    (l_prs : K.lookup fprs = some ⟨ocprs, odprs, .func (PySem.W.fnOf "pairs" "pairs" (defArgs sPairs) (defBody sPairs) (defScope sPairs) .none kVprs dcprs pmprs anprs cdprs ctprs), slprs⟩)
    (c_prs : PySem.W.codeIn K cdprs "pairs" = true)
    (k_prs : PySem.W.keepIn K (.ref fprs) = true)
    {odto anto : Option Addr} {slto : Array (Option Value)} {octo kVto dcto pmto cdto ctto : Value} {fto : Addr}
    (a_to : PySem.W.nsIn K mainGlobals "_law_teeth_of" = some (some (.ref fto)))
    (l_to : K.lookup fto = some ⟨octo, odto, .func (PySem.W.fnOf "_law_teeth_of" "_law_teeth_of" (defArgs sTO) (defBody sTO) (defScope sTO) .none kVto dcto pmto anto cdto ctto), slto⟩)
    (c_to : PySem.W.codeIn K cdto "_law_teeth_of" = true)
    (k_to : PySem.W.keepIn K (.ref fto) = true)
    {odlp anlp : Option Addr} {sllp : Array (Option Value)} {oclp kVlp dclp pmlp cdlp ctlp : Value} {flp : Addr}
    (a_lp : PySem.W.nsIn K mainGlobals "_law_pairs" = some (some (.ref flp)))
    (l_lp : K.lookup flp = some ⟨oclp, odlp, .func (PySem.W.fnOf "_law_pairs" "_law_pairs" (defArgs sLP) (defBody sLP) (defScope sLP) .none kVlp dclp pmlp anlp cdlp ctlp), sllp⟩)
    (c_lp : PySem.W.codeIn K cdlp "_law_pairs" = true)
    (k_lp : PySem.W.keepIn K (.ref flp) = true)
    {odlg anlg : Option Addr} {sllg : Array (Option Value)} {oclg kVlg dclg pmlg cdlg ctlg : Value} {flg : Addr}
    (a_lg : PySem.W.nsIn K mainGlobals "_law_row_gaps" = some (some (.ref flg)))
    (l_lg : K.lookup flg = some ⟨oclg, odlg, .func (PySem.W.fnOf "_law_row_gaps" "_law_row_gaps" (defArgs sLG) (defBody sLG) (defScope sLG) .none kVlg dclg pmlg anlg cdlg ctlg), sllg⟩)
    (c_lg : PySem.W.codeIn K cdlg "_law_row_gaps" = true)
    (k_lg : PySem.W.keepIn K (.ref flg) = true)
    {odlaw anlaw : Option Addr} {sllaw : Array (Option Value)} {oclaw kVlaw dclaw pmlaw cdlaw ctlaw : Value} {flaw : Addr}
    (a_law : PySem.W.nsIn K mainGlobals "law" = some (some (.ref flaw)))
    (l_law : K.lookup flaw = some ⟨oclaw, odlaw, .func (PySem.W.fnOf "law" "law" (defArgs sLaw) (defBody sLaw) (defScope sLaw) .none kVlaw dclaw pmlaw anlaw cdlaw ctlaw), sllaw⟩)
    (c_law : PySem.W.codeIn K cdlaw "law" = true)
    (k_law : PySem.W.keepIn K (.ref flaw) = true)
    (a_C : PySem.W.nsIn K mainGlobals "Cloth" = some (some (.ref C)))
    {odcr ancr : Option Addr} {slcr : Array (Option Value)} {occr kVcr dccr pmcr cdcr ctcr : Value} {fcr : Addr}
    (a_cr : PySem.W.findIn K (.ref C) "rows" = some (some (.ref fcr)))
    (i_cr : PySem.W.isFn K (.ref fcr) = true)
    (l_cr : K.lookup fcr = some ⟨occr, odcr, .func (PySem.W.fnOf "rows" "Cloth.rows" (defArgs sCR) (defBody sCR) (defScope sCR) .none kVcr dccr pmcr ancr cdcr ctcr), slcr⟩)
    (c_cr : PySem.W.codeIn K cdcr "Cloth.rows" = true)
    (k_cr : PySem.W.keepIn K (.ref fcr) = true)
    {odcz ancz : Option Addr} {slcz : Array (Option Value)} {occz kVcz dccz pmcz cdcz ctcz : Value} {fcz : Addr}
    (a_cz : PySem.W.findIn K (.ref C) "zips" = some (some (.ref fcz)))
    (i_cz : PySem.W.isFn K (.ref fcz) = true)
    (l_cz : K.lookup fcz = some ⟨occz, odcz, .func (PySem.W.fnOf "zips" "Cloth.zips" (defArgs sCZ) (defBody sCZ) (defScope sCZ) .none kVcz dccz pmcz ancz cdcz ctcz), slcz⟩)
    (c_cz : PySem.W.codeIn K cdcz "Cloth.zips" = true)
    (k_cz : PySem.W.keepIn K (.ref fcz) = true)
    {odci anci : Option Addr} {slci : Array (Option Value)} {occi kVci dcci pmci cdci ctci : Value} {fci : Addr}
    (a_ci : PySem.W.findIn K (.ref C) "__init__" = some (some (.ref fci)))
    (i_ci : PySem.W.isFn K (.ref fci) = true)
    (l_ci : K.lookup fci = some ⟨occi, odci, .func (PySem.W.fnOf "__init__" "Cloth.__init__" (defArgs sCI) (defBody sCI) (defScope sCI) (.ref tE) kVci dcci pmci anci cdci ctci), slci⟩)
    (c_ci : PySem.W.codeIn K cdci "Cloth.__init__" = true)
    (k_ci : PySem.W.keepIn K (.ref fci) = true)
    {clT : Value} {dT dE dS dD dI : Option Addr} {nT nE nS nD nI : Nat} {slT slE slS slD slI : Array (Option Value)} {t1 t2 t3 t4 t5 t6 t7 t8 t9 t10 t11 : Tok}
    (l_T : K.lookup tE = some ⟨clT, dT, .seq #[.ref aE] nT, slT⟩)
    (l_E : K.lookup aE = some ⟨.type "tuple", dE, .seq #[] nE, slE⟩)
    (g_S : PySem.W.nsIn K mainGlobals "SORTS" = some (some (.ref aS)))
    (l_S : K.lookup aS = some ⟨.type "tuple", dS, .seq #[.str "line" t1, .str "ring" t2] nS, slS⟩)
    (g_D : PySem.W.nsIn K mainGlobals "DIRECTIONS" = some (some (.ref aD)))
    (l_D : K.lookup aD = some ⟨.type "tuple", dD, .seq #[.str "parallel" t3, .str "reversed" t4] nD, slD⟩)
    (g_I : PySem.W.nsIn K mainGlobals "SIDES" = some (some (.ref aI)))
    (l_I : K.lookup aI = some ⟨.type "tuple", dI, .seq #[.int 0 t5, .int 1 t6] nI, slI⟩)
    (g_mt : PySem.W.nsIn K mainGlobals "MOST_TEETH" = some (some (.int 24 t7)))
    (g_mr : PySem.W.nsIn K mainGlobals "MOST_ROWS" = some (some (.int 6 t8)))
    (g_mi : PySem.W.nsIn K mainGlobals "MOST_RINGS" = some (some (.int 2 t9)))
    (g_mz : PySem.W.nsIn K mainGlobals "MOST_ZIPS" = some (some (.int 8 t10)))
    (g_mm : PySem.W.nsIn K mainGlobals "MOST_MINIMUM" = some (some (.int 24 t11)))
    (pg : PySem.W.plainGet K C Str.empty = true)
    (hd : PySem.W.hasDictIn K C = true)
    (po : PySem.W.plainOver K C = true)
    (sa : PySem.W.findIn K (.ref C) "__setattr__" = some (some (.builtin "object.__setattr__")))
    (mk : PySem.W.makesIn K C = true)
    (kc : PySem.W.keepIn K (.ref C) = true)
    (n_row_tuples : PySem.W.findIn K (.ref C) "row_tuples" = some none)
    (n_zip_tuples : PySem.W.findIn K (.ref C) "zip_tuples" = some none)
    (n_row_by_foot : PySem.W.findIn K (.ref C) "row_by_foot" = some none)
    (n_minimums : PySem.W.findIn K (.ref C) "minimums" = some none)
    (n_facings : PySem.W.findIn K (.ref C) "facings" = some none)
    (n_turns : PySem.W.findIn K (.ref C) "turns" = some none)
    (n_neighbours : PySem.W.findIn K (.ref C) "neighbours" = some none)
    (n_gaps_by_foot : PySem.W.findIn K (.ref C) "gaps_by_foot" = some none)
    (n_gaps_by_slider : PySem.W.findIn K (.ref C) "gaps_by_slider" = some none)
    (z_len : PySem.W.nsIn K mainGlobals "len" = some none)
    (z_abs : PySem.W.nsIn K mainGlobals "abs" = some none)
    (z_int : PySem.W.nsIn K mainGlobals "int" = some none)
    (z_max : PySem.W.nsIn K mainGlobals "max" = some none)
    (z_min : PySem.W.nsIn K mainGlobals "min" = some none)
    (z_range : PySem.W.nsIn K mainGlobals "range" = some none)
    (z_isinstance : PySem.W.nsIn K mainGlobals "isinstance" = some none)
    (z_bool : PySem.W.nsIn K mainGlobals "bool" = some none)
    (z_tuple : PySem.W.nsIn K mainGlobals "tuple" = some none)
    (z_list : PySem.W.nsIn K mainGlobals "list" = some none)
    (z_all : PySem.W.nsIn K mainGlobals "all" = some none)
    (z_enumerate : PySem.W.nsIn K mainGlobals "enumerate" = some none)
    (z_set : PySem.W.nsIn K mainGlobals "set" = some none)
    (z_zip : PySem.W.nsIn K mainGlobals "zip" = some none)
    (z_any : PySem.W.nsIn K mainGlobals "any" = some none)
    (z_sorted : PySem.W.nsIn K mainGlobals "sorted" = some none)
    (z_dict : PySem.W.nsIn K mainGlobals "dict" = some none)
    (z_sum : PySem.W.nsIn K mainGlobals "sum" = some none)
    : ∃ fd : FuncData, (∀ (s : Shared) (v : Value), BindsTo s fd ⟨[v], []⟩ [("_law_script", v)]) ∧ ∀ base : Heap, K.In base → base.Ns mainGlobals mg → FnOk l.prog w K mg base CX0 7 fa fd ["_law_script"] (spLaw K) := by
  have e := hfa.symm.trans (PySem.W.mg_of X G a_law)
  cases e
  have T : Bl mg := ⟨PySem.W.mg_none_of X G z_len, PySem.W.mg_none_of X G z_abs, PySem.W.mg_none_of X G z_int, PySem.W.mg_none_of X G z_max, PySem.W.mg_none_of X G z_min, PySem.W.mg_none_of X G z_range, PySem.W.mg_none_of X G z_isinstance, PySem.W.mg_none_of X G z_bool, PySem.W.mg_none_of X G z_tuple, PySem.W.mg_none_of X G z_list, PySem.W.mg_none_of X G z_all, PySem.W.mg_none_of X G z_enumerate, PySem.W.mg_none_of X G z_set, PySem.W.mg_none_of X G z_zip, PySem.W.mg_none_of X G z_any, PySem.W.mg_none_of X G z_sorted, PySem.W.mg_none_of X G z_dict⟩
  have hE : ∀ H, SqT K H aE [] := sq_K l_E (Nat.zero_le _) .nil
  have cst : Cst K mg aS aD aI := ⟨PySem.W.mg_of X G g_S, PySem.W.mg_of X G g_D, PySem.W.mg_of X G g_I, sq_K l_S (by show 2 ≤ sizeLine; decide) (.cons ⟨_, rfl⟩ (.cons ⟨_, rfl⟩ .nil)), sq_K l_D (by show 2 ≤ sizeLine; decide) (.cons ⟨_, rfl⟩ (.cons ⟨_, rfl⟩ .nil)), sq_K l_I (by show 2 ≤ sizeLine; decide) (.cons ⟨_, rfl⟩ (.cons ⟨_, rfl⟩ .nil)), ⟨_, PySem.W.mg_of X G g_mt, _, rfl⟩, ⟨_, PySem.W.mg_of X G g_mr, _, rfl⟩, ⟨_, PySem.W.mg_of X G g_mi, _, rfl⟩, ⟨_, PySem.W.mg_of X G g_mz, _, rfl⟩, ⟨_, PySem.W.mg_of X G g_mm, _, rfl⟩⟩
  have cls : ClsC K mg C := ⟨⟨pg, hd, po, sa⟩, fun f hf => (by
    unfold namesC at hf
    simp only [List.mem_cons, List.not_mem_nil, or_false] at hf
    rcases hf with rfl | rfl | rfl | rfl | rfl | rfl | rfl | rfl | rfl
    · exact n_row_tuples
    · exact n_zip_tuples
    · exact n_row_by_foot
    · exact n_minimums
    · exact n_facings
    · exact n_turns
    · exact n_neighbours
    · exact n_gaps_by_foot
    · exact n_gaps_by_slider), PySem.W.mg_of X G a_C⟩
  have g_draw := PySem.W.mg_of X G a_draw
  have g_src := PySem.W.mg_of X G a_src
  have g_choice := PySem.W.mg_of X G a_choice
  have g_rows := PySem.W.mg_of X G a_rows
  have g_cloth := PySem.W.mg_of X G a_cloth
  have g_int := PySem.W.mg_of X G a_int
  have g_intB := PySem.W.mg_of X G a_intB
  have g_tupB := PySem.W.mg_of X G a_tupB
  have g_intT := PySem.W.mg_of X G a_intT
  have g_isRow := PySem.W.mg_of X G a_isRow
  have g_isZip := PySem.W.mg_of X G a_isZip
  have g_chR := PySem.W.mg_of X G a_chR
  have g_chZ := PySem.W.mg_of X G a_chZ
  have g_chF := PySem.W.mg_of X G a_chF
  have g_tl := PySem.W.mg_of X G a_tl
  have g_bn := PySem.W.mg_of X G a_bn
  have g_nf := PySem.W.mg_of X G a_nf
  have g_gf := PySem.W.mg_of X G a_gf
  have g_gs := PySem.W.mg_of X G a_gs
  have g_he := PySem.W.mg_of X G a_he
  have g_fg := PySem.W.mg_of X G a_fg
  have g_is := PySem.W.mg_of X G a_is
  have g_rq := PySem.W.mg_of X G a_rq
  have g_edge := PySem.W.mg_of X G a_edge
  have g_gap := PySem.W.mg_of X G a_gap
  have g_up := PySem.W.mg_of X G a_up
  have g_legal := PySem.W.mg_of X G a_legal
  have g_perf := PySem.W.mg_of X G a_perf
  have g_ol := PySem.W.mg_of X G a_ol
  have g_st := PySem.W.mg_of X G a_st
  have g_dm := PySem.W.mg_of X G a_dm
  have g_wm := PySem.W.mg_of X G a_wm
  have g_pair := PySem.W.mg_of X G a_pair
  have g_size := PySem.W.mg_of X G a_size
  have g_ft := PySem.W.mg_of X G a_ft
  have g_req := PySem.W.mg_of X G a_req
  have g_gaps := PySem.W.mg_of X G a_gaps
  have g_prs := PySem.W.mg_of X G a_prs
  have g_to := PySem.W.mg_of X G a_to
  have g_lp := PySem.W.mg_of X G a_lp
  have g_lg := PySem.W.mg_of X G a_lg
  have F_draw := fun_mk (st := sDraw) l_draw c_draw k_draw
  have F_src := fun_mk (st := sSrc) l_src c_src k_src
  have F_choice := fun_mk (st := sChoice) l_choice c_choice k_choice
  have F_rows := fun_mk (st := sRows) l_rows c_rows k_rows
  have F_cloth := fun_mk (st := sCloth) l_cloth c_cloth k_cloth
  have F_int := fun_mk (st := sInt) l_int c_int k_int
  have F_intB := fun_mk (st := sIntB) l_intB c_intB k_intB
  have F_tupB := fun_mk (st := sTupB) l_tupB c_tupB k_tupB
  have F_intT := fun_mk (st := sIntT) l_intT c_intT k_intT
  have F_isRow := fun_mk (st := sIsRow) l_isRow c_isRow k_isRow
  have F_isZip := fun_mk (st := sIsZip) l_isZip c_isZip k_isZip
  have F_chR := fun_mk (st := sChR) l_chR c_chR k_chR
  have F_chZ := fun_mk (st := sChZ) l_chZ c_chZ k_chZ
  have F_chF := fun_mk (st := sChF) l_chF c_chF k_chF
  have F_tl := fun_mk (st := sTL) l_tl c_tl k_tl
  have F_bn := fun_mk (st := sBN) l_bn c_bn k_bn
  have F_nf := fun_mk (st := sNF) l_nf c_nf k_nf
  have F_gf := fun_mk (st := sGF) l_gf c_gf k_gf
  have F_gs := fun_mk (st := sGS) l_gs c_gs k_gs
  have F_he := fun_mk (st := sHE) l_he c_he k_he
  have F_fg := fun_mk (st := sFG) l_fg c_fg k_fg
  have F_is := fun_mk (st := sIS) l_is c_is k_is
  have F_rq := fun_mk (st := sRQ) l_rq c_rq k_rq
  have F_edge := fun_mk (st := sEdge) l_edge c_edge k_edge
  have F_gap := fun_mk (st := sGap) l_gap c_gap k_gap
  have F_up := fun_mk (st := sUp) l_up c_up k_up
  have F_legal := fun_mk (st := sLegal) l_legal c_legal k_legal
  have F_perf := fun_mk (st := sPerf) l_perf c_perf k_perf
  have F_ol := fun_mk (st := sOL) l_ol c_ol k_ol
  have F_st := fun_mk (st := sSt) l_st c_st k_st
  have F_dm := fun_mk (st := sDM) l_dm c_dm k_dm
  have F_wm := fun_mk (st := sWM) l_wm c_wm k_wm
  have F_pair := fun_mk (st := sPair) l_pair c_pair k_pair
  have F_size := fun_mk (st := sSize) l_size c_size k_size
  have F_ft := fun_mk (st := sFT) l_ft c_ft k_ft
  have F_req := fun_mk (st := sReq) l_req c_req k_req
  have F_gaps := fun_mk (st := sGaps) l_gaps c_gaps k_gaps
  have F_prs := fun_mk (st := sPairs) l_prs c_prs k_prs
  have F_to := fun_mk (st := sTO) l_to c_to k_to
  have F_lp := fun_mk (st := sLP) l_lp c_lp k_lp
  have F_lg := fun_mk (st := sLG) l_lg c_lg k_lg
  have F_law := fun_mk (st := sLaw) l_law c_law k_law
  have F_cr := fun_mk (st := sCR) l_cr c_cr k_cr
  have F_cz := fun_mk (st := sCZ) l_cz c_cz k_cz
  have F_ci : FunD K "__init__" "Cloth.__init__" (defArgs sCI) (defBody sCI) (defScope sCI) [.ref aE] [] fci _ := ⟨⟨_, _, _, _, _, _, _, _, _, _, rfl, l_ci, c_ci, .inr ⟨by simp, tE, _, [.ref aE], nT, rfl, l_T, rfl, .cons rfl .nil⟩, .inl rfl⟩, k_ci⟩
  obtain ⟨ds3, v3, b3⟩ := F_ci.binds1 (ps := ["self", "rows", "zips"]) 3 1 (by simp) rfl fun _ _ _ _ _ _ _ us its hl hi => match us, its, hl, hi with | [_, _, _], [_], _, _ => ⟨_, rfl, rfl⟩
  cases v3
  obtain ⟨ds2, v2, b2⟩ := F_ci.binds1 (ps := ["self", "rows", "zips"]) 2 0 (by simp) rfl fun _ _ _ _ _ _ _ us its hl hi => match us, its, hl, hi with | [_, _], [_], _, _ => ⟨_, rfl, rfl⟩
  refine ⟨PySem.W.fnOf "law" "law" (defArgs sLaw) (defBody sLaw) (defScope sLaw) .none kVlaw dclaw pmlaw anlaw cdlaw ctlaw, fun s v => .of_eq rfl, fun base _ _ => ?_⟩
  have c_draw_ := cal_draw (P := l.prog) (w := w) (base := base) F_draw g_draw
  have c_choice_ := cal_choice (P := l.prog) (w := w) (base := base) T F_choice c_draw_ g_choice
  have c_rows_ := cal_rows (P := l.prog) (w := w) (base := base) T F_rows c_draw_ c_choice_ g_rows
  have c_cloth_ := cal_cloth (P := l.prog) (w := w) (base := base) T F_cloth c_draw_ c_choice_ c_rows_ g_cloth
  have c_int_ := cal_int (P := l.prog) (w := w) (base := base) T F_int g_int
  have c_intB_ := cal_intB (P := l.prog) (w := w) (base := base) T F_intB c_int_ g_intB
  have c_tupB_ := cal_tupB (P := l.prog) (w := w) (base := base) T F_tupB g_tupB
  have c_intT_ := cal_intT (P := l.prog) (w := w) (base := base) T F_intT c_int_ c_tupB_ g_intT
  have c_isRow_ := cal_isRow (P := l.prog) (w := w) (base := base) T cst F_isRow c_tupB_ c_intB_ c_intT_ g_isRow
  have c_isZip_ := cal_isZip (P := l.prog) (w := w) (base := base) cst F_isZip c_tupB_ c_intB_ g_isZip
  have c_chR_ := cal_chR (P := l.prog) (w := w) (base := base) T cst F_chR c_tupB_ c_isRow_ g_chR
  have c_chZ_ := cal_chZ (P := l.prog) (w := w) (base := base) T cst F_chZ c_tupB_ c_isZip_ g_chZ
  have c_chF_ := cal_chF (P := l.prog) (w := w) (base := base) T cst F_chF g_chF
  have c_tl_ := cal_tl (P := l.prog) (w := w) (base := base) T F_tl g_tl
  have c_bn_ := cal_bn (P := l.prog) (w := w) (base := base) T F_bn g_bn
  have c_nf_ := cal_nf (P := l.prog) (w := w) (base := base) T F_nf g_nf
  have c_gf_ := cal_gf (P := l.prog) (w := w) (base := base) T F_gf g_gf
  have c_gs_ := cal_gs (P := l.prog) (w := w) (base := base) T F_gs g_gs
  have c_he_ := cal_he (P := l.prog) (w := w) (base := base) T cls F_he g_he
  have c_edge_ := cal_edge (P := l.prog) (w := w) (base := base) T F_edge g_edge
  have c_gap_ := cal_gap (P := l.prog) (w := w) (base := base) T F_gap c_edge_ g_gap
  have c_up_ := cal_up (P := l.prog) (w := w) (base := base) F_up g_up
  have c_legal_ := cal_legal (P := l.prog) (w := w) (base := base) F_legal c_gap_ c_up_ g_legal
  have c_perf_ := cal_perf (P := l.prog) (w := w) (base := base) F_perf c_up_ g_perf
  have c_ol_ := cal_ol (P := l.prog) (w := w) (base := base) T F_ol c_draw_ g_ol
  have c_st_ := cal_st (P := l.prog) (w := w) (base := base) T F_st g_st
  have c_dm_ := cal_dm (P := l.prog) (w := w) (base := base) T F_dm c_draw_ c_legal_ c_perf_ g_dm
  have c_wm_ := cal_wm (P := l.prog) (w := w) (base := base) T F_wm c_draw_ g_wm
  have c_pair_ := cal_pair (P := l.prog) (w := w) (base := base) F_pair c_draw_ c_cloth_ c_ol_ c_dm_ c_wm_ c_st_ g_pair
  have c_size_ := cal_size (P := l.prog) (w := w) (base := base) F_size c_choice_ c_pair_ g_size
  have c_src_ : Cal l.prog w K mg base CX0 1 "_law_source" ["_law_script", "_law_at"] (spSrc K) := ⟨_, _, g_src, F_src.kp, F_src.binds (ps := ["_law_script", "_law_at"]) fun _ _ _ _ _ _ us hl => match us, hl with | [_, _], _ => rfl, ok_src T F_src⟩
  have M : MC l.prog w K mg base C _ _ _ _ := ⟨cls, ⟨a_cr, i_cr, k_cr⟩, ok_mrd cls F_cr, F_cr.binds (ps := ["self"]) fun _ _ _ _ _ _ us hl => match us, hl with | [_], _ => rfl, ⟨a_cz, i_cz, k_cz⟩, ok_mz cls F_cz, F_cz.binds (ps := ["self"]) fun _ _ _ _ _ _ us hl => match us, hl with | [_], _ => rfl⟩
  have c_fg_ := cal_fg (P := l.prog) (w := w) (base := base) T M c_he_ F_fg g_fg
  have c_is_ : Cal l.prog w K mg base CX0 3 "is_state" ["cloth", "value"] (toSp K (spISd K C)) := ⟨_, _, g_is, F_is.kp, F_is.binds (ps := ["cloth", "value"]) fun _ _ _ _ _ _ us hl => match us, hl with | [_, _], _ => rfl, ok_isd T c_fg_ F_is⟩
  have B : MkC l.prog w K mg base C fci _ := ⟨⟨mk, a_ci, i_ci, kc⟩, ok_ci T cls F_ci c_chR_ c_chZ_ c_chF_ c_tl_ c_bn_ c_nf_ c_gf_ c_gs_, b3⟩
  have c_ft_ := cal_ft (P := l.prog) (w := w) (base := base) T M F_ft g_ft
  have c_req_ := cal_req (P := l.prog) (w := w) (base := base) T c_is_ F_req g_req
  have c_rq_ := cal_rq (P := l.prog) (w := w) (base := base) T c_fg_ F_rq g_rq
  have c_gaps_ := cal_gaps (P := l.prog) (w := w) (base := base) (ok_gapsD T M c_rq_ F_gaps) F_gaps g_gaps
  have c_prs_ := cal_pairs (P := l.prog) (w := w) (base := base) (ok_prD T M c_req_ c_ft_ F_prs) F_prs g_prs
  have c_to_ := cal_to (P := l.prog) (w := w) (base := base) T F_to g_to
  have c_lp_ := cal_lp (P := l.prog) (w := w) (base := base) T F_lp c_to_ g_lp
  have c_lg_ := cal_lg (P := l.prog) (w := w) (base := base) T F_lg g_lg
  exact ok_law T (PySem.W.mg_none_of X G z_sum) F_law cls B c_src_ c_size_ c_lp_ c_lg_ c_gaps_ c_prs_
theorem walk {l : PySem.W.OpenLaw} {q : Program} {loose : List Str} {XP : (Str → Option Value) → Heap → Prop} {YP : World → Heap → Prop} {d : DefRec} {K : Params → PySem.W.Frag} (hn : l.most = some 63) (hdf : d.params.defaults = [])
    (hY : ∀ (w : World) (h : Heap), YP w h → (K w.params).In h)
    (F : ∀ (w : World) (mg : Str → Option Value) (fa : Addr) (h : Heap), (K w.params).In h → h.Ns mainGlobals mg → mg d.name = some (.ref fa) →
      ∃ fd : FuncData, (∀ (s : Shared) (u : Value), BindsTo s fd ⟨[u], []⟩ [("_law_script", u)]) ∧ ∀ base : Heap, (K w.params).In base → base.Ns mainGlobals mg → FnOk l.prog w (K w.params) mg base CX0 7 fa fd ["_law_script"] (spLaw (K w.params))) :
    PySem.W.WalkO q loose XP YP l.row.toRowW d [] (fun f vs => PySem.call f vs) :=
  L2.walk_of (n := 63) (k := 7) (x := "_law_script") (CX := fun _ => CX0) (sp := fun w => spLaw (K w.params)) hn (by decide) hdf ⟨rfl, by decide, by decide⟩ hY F (fun _ _ a ns hl _ hS => ⟨a, ns, rfl, hS, hl, fun _ => rfl⟩) fun _ _ _ _ _ z => z
end Zs
set_option Elab.async false
set_option linter.all false
open PySem PySem.W PyProof.Rows
set_option maxRecDepth 100000 in
set_option maxHeartbeats 0 in
theorem PySem.Challenge.cw_zipslack_k04_gaps_and_pairs_holds : PySem.Challenge.rw_zipslack_k04_gaps_and_pairs.Holds := by
  w_on; o_law; k_head; (case hw => w_witness2)
  k_fill
  refine Zs.walk (l := PySem.Challenge.rw_zipslack_k04_gaps_and_pairs) rfl rfl (fun w h Y => PySem.W.kIn_of Y) ?F
  case F =>
    intro w mg fa h KX G hmg
    refine' Zs.all_mk KX G hmg ?a_draw ?l_draw ?c_draw ?k_draw ?a_src ?l_src ?c_src ?k_src ?a_choice ?l_choice ?c_choice ?k_choice ?a_rows ?l_rows ?c_rows ?k_rows ?a_cloth ?l_cloth ?c_cloth ?k_cloth ?a_int ?l_int ?c_int ?k_int ?a_intB ?l_intB ?c_intB ?k_intB ?a_tupB ?l_tupB ?c_tupB ?k_tupB ?a_intT ?l_intT ?c_intT ?k_intT ?a_isRow ?l_isRow ?c_isRow ?k_isRow ?a_isZip ?l_isZip ?c_isZip ?k_isZip ?a_chR ?l_chR ?c_chR ?k_chR ?a_chZ ?l_chZ ?c_chZ ?k_chZ ?a_chF ?l_chF ?c_chF ?k_chF ?a_tl ?l_tl ?c_tl ?k_tl ?a_bn ?l_bn ?c_bn ?k_bn ?a_nf ?l_nf ?c_nf ?k_nf ?a_gf ?l_gf ?c_gf ?k_gf ?a_gs ?l_gs ?c_gs ?k_gs ?a_he ?l_he ?c_he ?k_he ?a_fg ?l_fg ?c_fg ?k_fg ?a_is ?l_is ?c_is ?k_is ?a_rq ?l_rq ?c_rq ?k_rq ?a_edge ?l_edge ?c_edge ?k_edge ?a_gap ?l_gap ?c_gap ?k_gap ?a_up ?l_up ?c_up ?k_up ?a_legal ?l_legal ?c_legal ?k_legal ?a_perf ?l_perf ?c_perf ?k_perf ?a_ol ?l_ol ?c_ol ?k_ol ?a_st ?l_st ?c_st ?k_st ?a_dm ?l_dm ?c_dm ?k_dm ?a_wm ?l_wm ?c_wm ?k_wm ?a_pair ?l_pair ?c_pair ?k_pair ?a_size ?l_size ?c_size ?k_size ?a_ft ?l_ft ?c_ft ?k_ft ?a_req ?l_req ?c_req ?k_req ?a_gaps ?l_gaps ?c_gaps ?k_gaps ?a_prs ?l_prs ?c_prs ?k_prs ?a_to ?l_to ?c_to ?k_to ?a_lp ?l_lp ?c_lp ?k_lp ?a_lg ?l_lg ?c_lg ?k_lg ?a_law ?l_law ?c_law ?k_law ?a_C ?a_cr ?i_cr ?l_cr ?c_cr ?k_cr ?a_cz ?i_cz ?l_cz ?c_cz ?k_cz ?a_ci ?i_ci ?l_ci ?c_ci ?k_ci ?l_T ?l_E ?g_S ?l_S ?g_D ?l_D ?g_I ?l_I ?g_mt ?g_mr ?g_mi ?g_mz ?g_mm ?pg ?hd ?po ?sa ?mk ?kc ?n_row_tuples ?n_zip_tuples ?n_row_by_foot ?n_minimums ?n_facings ?n_turns ?n_neighbours ?n_gaps_by_foot ?n_gaps_by_slider ?z_len ?z_abs ?z_int ?z_max ?z_min ?z_range ?z_isinstance ?z_bool ?z_tuple ?z_list ?z_all ?z_enumerate ?z_set ?z_zip ?z_any ?z_sorted ?z_dict ?z_sum
    (case a_draw => k_is)
    (case l_draw => k_is)
    (case c_draw => k_is)
    (case k_draw => k_is)
    (case a_src => k_is)
    (case l_src => k_is)
    (case c_src => k_is)
    (case k_src => k_is)
    (case a_choice => k_is)
    (case l_choice => k_is)
    (case c_choice => k_is)
    (case k_choice => k_is)
    (case a_rows => k_is)
    (case l_rows => k_is)
    (case c_rows => k_is)
    (case k_rows => k_is)
    (case a_cloth => k_is)
    (case l_cloth => k_is)
    (case c_cloth => k_is)
    (case k_cloth => k_is)
    (case a_int => k_is)
    (case l_int => k_is)
    (case c_int => k_is)
    (case k_int => k_is)
    (case a_intB => k_is)
    (case l_intB => k_is)
    (case c_intB => k_is)
    (case k_intB => k_is)
    (case a_tupB => k_is)
    (case l_tupB => k_is)
    (case c_tupB => k_is)
    (case k_tupB => k_is)
    (case a_intT => k_is)
    (case l_intT => k_is)
    (case c_intT => k_is)
    (case k_intT => k_is)
    (case a_isRow => k_is)
    (case l_isRow => k_is)
    (case c_isRow => k_is)
    (case k_isRow => k_is)
    (case a_isZip => k_is)
    (case l_isZip => k_is)
    (case c_isZip => k_is)
    (case k_isZip => k_is)
    (case a_chR => k_is)
    (case l_chR => k_is)
    (case c_chR => k_is)
    (case k_chR => k_is)
    (case a_chZ => k_is)
    (case l_chZ => k_is)
    (case c_chZ => k_is)
    (case k_chZ => k_is)
    (case a_chF => k_is)
    (case l_chF => k_is)
    (case c_chF => k_is)
    (case k_chF => k_is)
    (case a_tl => k_is)
    (case l_tl => k_is)
    (case c_tl => k_is)
    (case k_tl => k_is)
    (case a_bn => k_is)
    (case l_bn => k_is)
    (case c_bn => k_is)
    (case k_bn => k_is)
    (case a_nf => k_is)
    (case l_nf => k_is)
    (case c_nf => k_is)
    (case k_nf => k_is)
    (case a_gf => k_is)
    (case l_gf => k_is)
    (case c_gf => k_is)
    (case k_gf => k_is)
    (case a_gs => k_is)
    (case l_gs => k_is)
    (case c_gs => k_is)
    (case k_gs => k_is)
    (case a_he => k_is)
    (case l_he => k_is)
    (case c_he => k_is)
    (case k_he => k_is)
    (case a_fg => k_is)
    (case l_fg => k_is)
    (case c_fg => k_is)
    (case k_fg => k_is)
    (case a_is => k_is)
    (case l_is => k_is)
    (case c_is => k_is)
    (case k_is => k_is)
    (case a_rq => k_is)
    (case l_rq => k_is)
    (case c_rq => k_is)
    (case k_rq => k_is)
    (case a_edge => k_is)
    (case l_edge => k_is)
    (case c_edge => k_is)
    (case k_edge => k_is)
    (case a_gap => k_is)
    (case l_gap => k_is)
    (case c_gap => k_is)
    (case k_gap => k_is)
    (case a_up => k_is)
    (case l_up => k_is)
    (case c_up => k_is)
    (case k_up => k_is)
    (case a_legal => k_is)
    (case l_legal => k_is)
    (case c_legal => k_is)
    (case k_legal => k_is)
    (case a_perf => k_is)
    (case l_perf => k_is)
    (case c_perf => k_is)
    (case k_perf => k_is)
    (case a_ol => k_is)
    (case l_ol => k_is)
    (case c_ol => k_is)
    (case k_ol => k_is)
    (case a_st => k_is)
    (case l_st => k_is)
    (case c_st => k_is)
    (case k_st => k_is)
    (case a_dm => k_is)
    (case l_dm => k_is)
    (case c_dm => k_is)
    (case k_dm => k_is)
    (case a_wm => k_is)
    (case l_wm => k_is)
    (case c_wm => k_is)
    (case k_wm => k_is)
    (case a_pair => k_is)
    (case l_pair => k_is)
    (case c_pair => k_is)
    (case k_pair => k_is)
    (case a_size => k_is)
    (case l_size => k_is)
    (case c_size => k_is)
    (case k_size => k_is)
    (case a_ft => k_is)
    (case l_ft => k_is)
    (case c_ft => k_is)
    (case k_ft => k_is)
    (case a_req => k_is)
    (case l_req => k_is)
    (case c_req => k_is)
    (case k_req => k_is)
    (case a_gaps => k_is)
    (case l_gaps => k_is)
    (case c_gaps => k_is)
    (case k_gaps => k_is)
    (case a_prs => k_is)
    (case l_prs => k_is)
    (case c_prs => k_is)
    (case k_prs => k_is)
    (case a_to => k_is)
    (case l_to => k_is)
    (case c_to => k_is)
    (case k_to => k_is)
    (case a_lp => k_is)
    (case l_lp => k_is)
    (case c_lp => k_is)
    (case k_lp => k_is)
    (case a_lg => k_is)
    (case l_lg => k_is)
    (case c_lg => k_is)
    (case k_lg => k_is)
    (case a_law => k_is)
    (case l_law => k_is)
    (case c_law => k_is)
    (case k_law => k_is)
    (case a_C => k_is)
    (case a_cr => k_is)
    (case i_cr => k_is)
    (case l_cr => k_is)
    (case c_cr => k_is)
    (case k_cr => k_is)
    (case a_cz => k_is)
    (case i_cz => k_is)
    (case l_cz => k_is)
    (case c_cz => k_is)
    (case k_cz => k_is)
    (case a_ci => k_is)
    (case i_ci => k_is)
    (case l_ci => k_is)
    (case c_ci => k_is)
    (case k_ci => k_is)
    (case l_T => k_is)
    (case l_E => k_is)
    (case g_S => k_is)
    (case l_S => k_is)
    (case g_D => k_is)
    (case l_D => k_is)
    (case g_I => k_is)
    (case l_I => k_is)
    (case g_mt => k_is)
    (case g_mr => k_is)
    (case g_mi => k_is)
    (case g_mz => k_is)
    (case g_mm => k_is)
    (case pg => k_is)
    (case hd => k_is)
    (case po => k_is)
    (case sa => k_is)
    (case mk => k_is)
    (case kc => k_is)
    (case n_row_tuples => k_is)
    (case n_zip_tuples => k_is)
    (case n_row_by_foot => k_is)
    (case n_minimums => k_is)
    (case n_facings => k_is)
    (case n_turns => k_is)
    (case n_neighbours => k_is)
    (case n_gaps_by_foot => k_is)
    (case n_gaps_by_slider => k_is)
    (case z_len => k_is)
    (case z_abs => k_is)
    (case z_int => k_is)
    (case z_max => k_is)
    (case z_min => k_is)
    (case z_range => k_is)
    (case z_isinstance => k_is)
    (case z_bool => k_is)
    (case z_tuple => k_is)
    (case z_list => k_is)
    (case z_all => k_is)
    (case z_enumerate => k_is)
    (case z_set => k_is)
    (case z_zip => k_is)
    (case z_any => k_is)
    (case z_sorted => k_is)
    (case z_dict => k_is)
    (case z_sum => k_is)
