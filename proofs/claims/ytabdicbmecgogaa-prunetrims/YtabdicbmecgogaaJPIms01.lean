/- PruneWhole. -/
import Derived.Test.YtabdicbmecgogaaJPIms00
namespace Go.Proofs.Ytabdicbmecgogaa
section
open Go.RowKit
attribute [local go_sem ↓ high] loadEn storeEn
attribute [local go_sem high] eqK neqK guardK

theorem wf_hi {z : Int} (h : (Lit.int .i64 z).wf = true) : z ≤ 9223372036854775807 := by
  have a1 : IntKind.i64.min = -9223372036854775808 := rfl
  have a2 : IntKind.i64.max = 9223372036854775807 := rfl
  simp only [Lit.wf, Bool.and_eq_true, decide_eq_true_eq] at h
  omega
/-- a directory that is whole behind was whole ahead, and has its names -/
def StaysW (d : Int) (s s' : Cs) : Prop := KeysOk s'.L ∧ (d ∈ s'.W → d ∈ s.W ∧ nameL s'.L d = nameL s.L d)
theorem StaysW.trans {d : Int} {s s' s'' : Cs} (h : StaysW d s s') (h' : StaysW d s' s'') : StaysW d s s'' :=
  ⟨h'.1, fun hd => ⟨(h.2 (h'.2 hd).1).1, (h'.2 hd).2.trans (h.2 (h'.2 hd).1).2⟩⟩
theorem staysW_evict {s : Cs} (hk : KeysOk s.L) (k : Ky) (d : Int) : StaysW d s (s.evict k) := by
  unfold Cs.evict
  cases hg : getL s.L k with
  | none => exact ⟨hk, fun h => ⟨h, rfl⟩⟩
  | some e =>
    refine ⟨hk.filter _, fun hd => ?_⟩
    have he := hk.get.1 hg
    have hd : d ∈ (if e.neg = true then s.W else partW s.W k.d) := hd
    have key : (e.neg = true ∨ e.d ≠ d) → nameL (outL s.L k) d = nameL s.L d := fun hx => by
      unfold nameL outL
      rw [List.filter_filter]
      refine List.filter_congr fun x hxm => ?_
      cases hh : hasK k x with
      | false => simp
      | true =>
        have h2 := hasK_iff.1 hh
        have : getL s.L k = some x := hk.get.2 ⟨hxm, h2.1, h2.2⟩
        rw [hg] at this
        injection this with this
        subst this
        rcases hx with hx | hx
        · simp [hx]
        · simp [hx]
    show d ∈ s.W ∧ nameL (outL s.L k) d = nameL s.L d
    cases hn : e.neg with
    | true =>
      rw [hn, if_pos rfl] at hd
      exact ⟨hd, key (.inl hn)⟩
    | false =>
      rw [hn, if_neg (by decide)] at hd
      have h3 := mem_partW.1 hd
      exact ⟨h3.1, key (.inr fun h => h3.2 (by rw [← he.2.1, h]))⟩
theorem staysW_evN (b : Bool) (d : Int) : ∀ (n : Nat) (s : Cs), KeysOk s.L → StaysW d s (evN b n s).2
  | 0, s, hk => ⟨hk, fun h => ⟨h, rfl⟩⟩
  | n + 1, s, hk => by
    rw [evN]
    cases hv : vicS s b with
    | none => exact ⟨hk, fun h => ⟨h, rfl⟩⟩
    | some e =>
      have h1 := staysW_evict hk e.key d
      exact h1.trans (staysW_evN b d n _ h1.1)
theorem staysW_trim (s : Cs) (most neg d : Int) (hk : KeysOk s.L) : StaysW d s (trimS s most neg).2 := by
  have h1 : StaysW d s (trimA s neg).2 := staysW_evN _ _ _ _ hk
  exact h1.trans (staysW_evN _ _ _ _ h1.1)
end
section
open Go.RowKit
attribute [local go_sem ↓ high] loadEn storeEn
attribute [local go_sem high] eqK neqK guardK

/-- what went and is no Neg had nothing below it then, and nothing of it stays -/
def GoneB (s s' : Cs) : Prop := KeysOk s'.L ∧ (∀ x ∈ s'.L, x ∈ s.L) ∧ ∀ e ∈ s.L, e ∉ s'.L → e.neg = false → ∀ x ∈ s'.L, x.d ≠ e.id
theorem GoneB.trans {s s' s'' : Cs} (h : GoneB s s') (h' : GoneB s' s'') : GoneB s s'' :=
  ⟨h'.1, fun x hx => h.2.1 x (h'.2.1 x hx), fun e he hn hg x hx => by
    by_cases h1 : e ∈ s'.L
    · exact h'.2.2 e h1 hn hg x hx
    · exact h.2.2 e he h1 hg x (h'.2.1 x hx)⟩
theorem goneB_refl {s : Cs} (hk : KeysOk s.L) : GoneB s s := ⟨hk, fun _ hx => hx, fun _ he hn => (hn he).elim⟩
theorem goneB_evict {s : Cs} (hk : KeysOk s.L) {b : Bool} {v : En} (hv : vicS s b = some v) : GoneB s (s.evict v.key) := by
  have hvm : v ∈ s.L := List.mem_of_find?_eq_some hv
  have hvp : mayB b s.L v = true := List.find?_some hv
  refine ⟨by rw [evict_L]; exact hk.filter _, fun x hx => ?_, fun e he hn hg x hx => ?_⟩
  · rw [evict_L] at hx
    exact (mem_outL.1 hx).1
  · rw [evict_L] at hx hn
    have hek : e.d = v.d ∧ e.nm = v.nm := by
      by_cases hh : e.d = v.key.d ∧ e.nm = v.key.nm
      · exact hh
      · exact (hn (mem_outL.2 ⟨he, hh⟩)).elim
    have hev : e = v := key_inj hk he hvm (by unfold En.key; rw [hek.1, hek.2])
    subst hev
    cases b with
    | true =>
      have : e.neg = true := hvp
      rw [hg] at this; cases this
    | false =>
      have h1 : leafB s.L e.key = true := hvp
      have h2 := (leaf_iff hk he).1 h1 x (mem_outL.1 hx).1
      unfold idOf at h2
      rw [hg] at h2
      exact h2
theorem goneB_evN (b : Bool) : ∀ (n : Nat) (s : Cs), KeysOk s.L → GoneB s (evN b n s).2
  | 0, s, hk => goneB_refl hk
  | n + 1, s, hk => by
    rw [evN]
    cases hv : vicS s b with
    | none => exact goneB_refl hk
    | some e =>
      have h1 := goneB_evict hk hv
      exact h1.trans (goneB_evN b n _ h1.1)
theorem goneB_trim (s : Cs) (most neg : Int) (hk : KeysOk s.L) : GoneB s (trimS s most neg).2 := by
  have h1 : GoneB s (trimA s neg).2 := goneB_evN _ _ _ hk
  exact h1.trans (goneB_evN _ _ _ h1.1)
end
section
open Go.RowKit

/-- a cache as of a tree that has grown -/
def Up (s : Cs) : Prop := KeysOk s.L ∧ ∀ e ∈ s.L, 0 < e.d ∧ (idOf e = 0 ∨ e.d < idOf e)
theorem Up.evict {s : Cs} (h : Up s) (k : Ky) : Up (s.evict k) :=
  ⟨by rw [evict_L]; exact h.1.filter _, fun e he => by rw [evict_L] at he; exact h.2 e (mem_outL.1 he).1⟩
theorem up_run {ops : List DOp} (hk : KeysOk (runS (ops.filter upB)).L) : Up (runS (ops.filter upB)) :=
  ⟨hk, fun e he => by
    obtain ⟨x, hx, rfl⟩ := mem_runS he
    exact upB_ok (List.mem_filter.1 hx).2⟩
theorem vic_false {s : Cs} (h : Up s) (hn : s.L ≠ []) : ∃ e, vicS s false = some e ∧ e ∈ s.L := by
  cases hv : vicS s false with
  | some e => exact ⟨e, rfl, List.mem_of_find?_eq_some hv⟩
  | none =>
    refine (hn (some_leaf h.1 h.2 fun e he => ?_)).elim
    have := List.find?_eq_none.1 hv e he
    simpa using this
theorem vic_true {s : Cs} (hn : negN s.L ≠ 0) : ∃ e, vicS s true = some e ∧ e ∈ s.L ∧ e.neg = true := by
  cases hv : vicS s true with
  | some e =>
    have h2 : mayB true s.L e = true := List.find?_some hv
    exact ⟨e, rfl, List.mem_of_find?_eq_some hv, h2⟩
  | none =>
    refine (hn ?_).elim
    unfold negN
    rw [List.length_eq_zero_iff, List.filter_eq_nil_iff]
    intro e he
    have := List.find?_eq_none.1 hv e he
    simpa using this
theorem neg_out {L : List En} (hk : KeysOk L) {e : En} (he : e ∈ L) : negN (outL L e.key) + (if e.neg then 1 else 0) = negN L := by
  rcases at_cases L e.key with ⟨h, -⟩ | ⟨i, x, hg, -, hi, ho⟩
  · rw [hk.get.2 ⟨he, rfl, rfl⟩] at h; cases h
  · have hxe : x = e := by
      rw [hk.get.2 ⟨he, rfl, rfl⟩] at hg
      injection hg with hg; exact hg.symm
    subst hxe
    have hl := (List.getElem?_eq_some_iff.1 hi)
    have hL : L = L.take i ++ x :: L.drop (i + 1) := by
      conv => lhs; rw [← List.take_append_drop i L]
      rw [List.drop_eq_getElem_cons hl.1, hl.2]
    rw [ho hk]
    unfold negN
    conv => rhs; rw [hL]
    simp only [List.filter_append, List.length_append, List.filter_cons]
    cases x.neg <;> simp <;> omega
theorem evT_counts : ∀ (n : Nat) (s : Cs), KeysOk s.L → n ≤ negN s.L → (evN true n s).1.length = n ∧ negN (evN true n s).2.L + n = negN s.L ∧ (evN true n s).2.L.length + n = s.L.length
  | 0, s, _, _ => ⟨rfl, rfl, rfl⟩
  | n + 1, s, hk, hn => by
    obtain ⟨e, hv, he, hg⟩ := vic_true (s := s) (by omega)
    rw [evN, hv]
    have h1 := neg_out hk he
    rw [hg, if_pos rfl] at h1
    have h2 := len_out hk he
    have ih := evT_counts n (s.evict e.key) (by rw [evict_L]; exact hk.filter _) (by rw [evict_L]; omega)
    rw [evict_L] at ih
    refine ⟨?_, ?_, ?_⟩
    · show (evN true n (s.evict e.key)).1.length + 1 = n + 1
      rw [ih.1]
    · show negN (evN true n (s.evict e.key)).2.L + (n + 1) = negN s.L
      have := ih.2.1; omega
    · show (evN true n (s.evict e.key)).2.L.length + (n + 1) = s.L.length
      have := ih.2.2; omega
theorem evN_up {b : Bool} : ∀ (n : Nat) {s : Cs}, Up s → Up (evN b n s).2
  | 0, _, h => h
  | n + 1, s, h => by
    rw [evN]
    cases hv : vicS s b with
    | none => exact h
    | some e => exact evN_up n (h.evict e.key)
theorem evF_counts : ∀ (n : Nat) (s : Cs), Up s → n ≤ s.L.length → (evN false n s).1.length = n ∧ (evN false n s).2.L.length + n = s.L.length
  | 0, s, _, _ => ⟨rfl, rfl⟩
  | n + 1, s, h, hn => by
    obtain ⟨e, hv, he⟩ := vic_false h (fun h0 => by rw [h0] at hn; simp at hn)
    rw [evN, hv]
    have h2 := len_out h.1 he
    have ih := evF_counts n (s.evict e.key) (h.evict e.key) (by rw [evict_L]; omega)
    rw [evict_L] at ih
    refine ⟨?_, ?_⟩
    · show (evN false n (s.evict e.key)).1.length + 1 = n + 1
      rw [ih.1]
    · show (evN false n (s.evict e.key)).2.L.length + (n + 1) = s.L.length
      have := ih.2; omega
theorem neg_le (L : List En) : negN L ≤ L.length := by unfold negN; exact List.length_filter_le _ _
theorem neg_evN (b : Bool) : ∀ (n : Nat) (s : Cs), KeysOk s.L → negN (evN b n s).2.L ≤ negN s.L
  | 0, _, _ => Nat.le_refl _
  | n + 1, s, hk => by
    rw [evN]
    cases hv : vicS s b with
    | none => exact Nat.le_refl _
    | some e =>
      have h1 := neg_out hk (List.mem_of_find?_eq_some hv)
      have h2 := neg_evN b n (s.evict e.key) (by rw [evict_L]; exact hk.filter _)
      rw [evict_L] at h2
      refine Nat.le_trans h2 ?_
      omega
/-- behind Trim both limits are kept; as many have gone as are wanting; where there was room the negatives are not fewer than their limit -/
theorem trim_counts {s : Cs} (h : Up s) (most neg : Int) :
    ((trimS s most neg).2.L.length : Int) ≤ max most 0 ∧ (negN (trimS s most neg).2.L : Int) ≤ max neg 0 ∧ (trimS s most neg).1.length + (trimS s most neg).2.L.length = s.L.length ∧ ((s.L.length : Int) ≤ most → (trimS s most neg).1 ≠ [] → neg ≤ (negN (trimS s most neg).2.L : Int)) := by
  obtain ⟨a, ha⟩ : ∃ a, ((negN s.L : Int) - max neg 0).toNat = a := ⟨_, rfl⟩
  have hA := evT_counts a s h.1 (by omega)
  have hAu : Up (trimA s neg).2 := evN_up _ h
  have eA : trimA s neg = evN true a s := by unfold trimA; rw [ha]
  obtain ⟨t, ht⟩ : ∃ t, (trimA s neg).2 = t := ⟨_, rfl⟩
  obtain ⟨c, hc⟩ : ∃ c, ((t.L.length : Int) - max most 0).toNat = c := ⟨_, rfl⟩
  rw [ht] at hAu
  rw [← eA] at hA
  rw [ht] at hA
  have hB := evF_counts c t hAu (by omega)
  have eB : trimB t most = evN false c t := by unfold trimB; rw [hc]
  have hN := neg_evN false c t hAu.1
  rw [← eB] at hB hN
  unfold trimS
  rw [ht]
  simp only
  refine ⟨by omega, by omega, by rw [List.length_append]; omega, fun hm hg => ?_⟩
  have hc0 : c = 0 := by omega
  have : (trimB t most).2 = t := by rw [eB, hc0]; rfl
  rw [this]
  have hl1 : (trimB t most).1 = [] := List.length_eq_zero_iff.1 (by omega)
  rw [hl1, List.append_nil] at hg
  have : 0 < a := by
    rcases Nat.eq_zero_or_pos a with h0 | h0
    · exact (hg (List.length_eq_zero_iff.1 (by omega))).elim
    · exact h0
  omega
theorem trim_up {s : Cs} (h : Up s) (most neg : Int) : Up (trimS s most neg).2 := evN_up _ (evN_up _ h)
/-- once more, and nothing goes -/
theorem trim_again {s : Cs} (h : Up s) (most neg : Int) : (trimS (trimS s most neg).2 most neg).1 = [] := by
  obtain ⟨T, hT⟩ : ∃ T, (trimS s most neg).2 = T := ⟨_, rfl⟩
  have h1 := trim_counts h most neg
  have hu := trim_up h most neg
  rw [hT] at h1 hu ⊢
  have h2 : trimA T neg = ([], T) := by
    unfold trimA
    rw [show ((negN T.L : Int) - max neg 0).toNat = 0 by omega]
    rfl
  unfold trimS
  rw [h2]
  have h3 : trimB T most = ([], T) := by
    unfold trimB
    rw [show ((T.L.length : Int) - max most 0).toNat = 0 by omega]
    rfl
  rw [h3]
  rfl
end
end Go.Proofs.Ytabdicbmecgogaa
