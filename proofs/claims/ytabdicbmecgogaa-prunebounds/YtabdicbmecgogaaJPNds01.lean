/- Trim in counts, plainly. -/
import Derived.Test.YtabdicbmecgogaaJPNds00
namespace Go.Proofs.Ytabdicbmecgogaa
section
open Go.RowKit

/-- a cache as of a tree that has grown -/
def Up (s : Cs) : Prop := KeysOk s.L ∧ ∀ e ∈ s.L, 0 < e.d ∧ (idOf e = 0 ∨ e.d < idOf e)
theorem Up.evict {s : Cs} (h : Up s) (k : Ky) : Up (s.evict k) :=
  ⟨by rw [evict_L]; exact h.1.filter _, fun e he => by rw [evict_L] at he; exact h.2 e (mem_outL.1 he).1⟩
theorem up_run {ops : List DOp} (hk : KeysOk (runS (ops.filter upB)).L) : Up (runS (ops.filter upB)) :=
  ⟨hk, fun e he => by
    obtain ⟨x, hx, rfl⟩ := mem_runS he
    exact upB_ok (List.mem_filter.1 hx).2⟩
theorem vic_false {s : Cs} (h : Up s) (hn : s.L ≠ []) : ∃ e, vicS s false = some e ∧ e ∈ s.L := by
  cases hv : vicS s false with
  | some e => exact ⟨e, rfl, List.mem_of_find?_eq_some hv⟩
  | none =>
    refine (hn (some_leaf h.1 h.2 fun e he => ?_)).elim
    have := List.find?_eq_none.1 hv e he
    simpa using this
theorem vic_true {s : Cs} (hn : negN s.L ≠ 0) : ∃ e, vicS s true = some e ∧ e ∈ s.L ∧ e.neg = true := by
  cases hv : vicS s true with
  | some e =>
    have h2 : mayB true s.L e = true := List.find?_some hv
    exact ⟨e, rfl, List.mem_of_find?_eq_some hv, h2⟩
  | none =>
    refine (hn ?_).elim
    unfold negN
    rw [List.length_eq_zero_iff, List.filter_eq_nil_iff]
    intro e he
    have := List.find?_eq_none.1 hv e he
    simpa using this
theorem neg_out {L : List En} (hk : KeysOk L) {e : En} (he : e ∈ L) : negN (outL L e.key) + (if e.neg then 1 else 0) = negN L := by
  rcases at_cases L e.key with ⟨h, -⟩ | ⟨i, x, hg, -, hi, ho⟩
  · rw [hk.get.2 ⟨he, rfl, rfl⟩] at h; cases h
  · have hxe : x = e := by
      rw [hk.get.2 ⟨he, rfl, rfl⟩] at hg
      injection hg with hg; exact hg.symm
    subst hxe
    have hl := (List.getElem?_eq_some_iff.1 hi)
    have hL : L = L.take i ++ x :: L.drop (i + 1) := by
      conv => lhs; rw [← List.take_append_drop i L]
      rw [List.drop_eq_getElem_cons hl.1, hl.2]
    rw [ho hk]
    unfold negN
    conv => rhs; rw [hL]
    simp only [List.filter_append, List.length_append, List.filter_cons]
    cases x.neg <;> simp <;> omega
theorem evT_counts : ∀ (n : Nat) (s : Cs), KeysOk s.L → n ≤ negN s.L → (evN true n s).1.length = n ∧ negN (evN true n s).2.L + n = negN s.L ∧ (evN true n s).2.L.length + n = s.L.length
  | 0, s, _, _ => ⟨rfl, rfl, rfl⟩
  | n + 1, s, hk, hn => by
    obtain ⟨e, hv, he, hg⟩ := vic_true (s := s) (by omega)
    rw [evN, hv]
    have h1 := neg_out hk he
    rw [hg, if_pos rfl] at h1
    have h2 := len_out hk he
    have ih := evT_counts n (s.evict e.key) (by rw [evict_L]; exact hk.filter _) (by rw [evict_L]; omega)
    rw [evict_L] at ih
    refine ⟨?_, ?_, ?_⟩
    · show (evN true n (s.evict e.key)).1.length + 1 = n + 1
      rw [ih.1]
    · show negN (evN true n (s.evict e.key)).2.L + (n + 1) = negN s.L
      have := ih.2.1; omega
    · show (evN true n (s.evict e.key)).2.L.length + (n + 1) = s.L.length
      have := ih.2.2; omega
theorem evN_up {b : Bool} : ∀ (n : Nat) {s : Cs}, Up s → Up (evN b n s).2
  | 0, _, h => h
  | n + 1, s, h => by
    rw [evN]
    cases hv : vicS s b with
    | none => exact h
    | some e => exact evN_up n (h.evict e.key)
theorem evF_counts : ∀ (n : Nat) (s : Cs), Up s → n ≤ s.L.length → (evN false n s).1.length = n ∧ (evN false n s).2.L.length + n = s.L.length
  | 0, s, _, _ => ⟨rfl, rfl⟩
  | n + 1, s, h, hn => by
    obtain ⟨e, hv, he⟩ := vic_false h (fun h0 => by rw [h0] at hn; simp at hn)
    rw [evN, hv]
    have h2 := len_out h.1 he
    have ih := evF_counts n (s.evict e.key) (h.evict e.key) (by rw [evict_L]; omega)
    rw [evict_L] at ih
    refine ⟨?_, ?_⟩
    · show (evN false n (s.evict e.key)).1.length + 1 = n + 1
      rw [ih.1]
    · show (evN false n (s.evict e.key)).2.L.length + (n + 1) = s.L.length
      have := ih.2; omega
theorem neg_le (L : List En) : negN L ≤ L.length := by unfold negN; exact List.length_filter_le _ _
theorem neg_evN (b : Bool) : ∀ (n : Nat) (s : Cs), KeysOk s.L → negN (evN b n s).2.L ≤ negN s.L
  | 0, _, _ => Nat.le_refl _
  | n + 1, s, hk => by
    rw [evN]
    cases hv : vicS s b with
    | none => exact Nat.le_refl _
    | some e =>
      have h1 := neg_out hk (List.mem_of_find?_eq_some hv)
      have h2 := neg_evN b n (s.evict e.key) (by rw [evict_L]; exact hk.filter _)
      rw [evict_L] at h2
      refine Nat.le_trans h2 ?_
      omega
/-- behind Trim both limits are kept; as many have gone as are wanting; where there was room the negatives are not fewer than their limit -/
theorem trim_counts {s : Cs} (h : Up s) (most neg : Int) :
    ((trimS s most neg).2.L.length : Int) ≤ max most 0 ∧ (negN (trimS s most neg).2.L : Int) ≤ max neg 0 ∧ (trimS s most neg).1.length + (trimS s most neg).2.L.length = s.L.length ∧ ((s.L.length : Int) ≤ most → (trimS s most neg).1 ≠ [] → neg ≤ (negN (trimS s most neg).2.L : Int)) := by
  obtain ⟨a, ha⟩ : ∃ a, ((negN s.L : Int) - max neg 0).toNat = a := ⟨_, rfl⟩
  have hA := evT_counts a s h.1 (by omega)
  have hAu : Up (trimA s neg).2 := evN_up _ h
  have eA : trimA s neg = evN true a s := by unfold trimA; rw [ha]
  obtain ⟨t, ht⟩ : ∃ t, (trimA s neg).2 = t := ⟨_, rfl⟩
  obtain ⟨c, hc⟩ : ∃ c, ((t.L.length : Int) - max most 0).toNat = c := ⟨_, rfl⟩
  rw [ht] at hAu
  rw [← eA] at hA
  rw [ht] at hA
  have hB := evF_counts c t hAu (by omega)
  have eB : trimB t most = evN false c t := by unfold trimB; rw [hc]
  have hN := neg_evN false c t hAu.1
  rw [← eB] at hB hN
  unfold trimS
  rw [ht]
  simp only
  refine ⟨by omega, by omega, by rw [List.length_append]; omega, fun hm hg => ?_⟩
  have hc0 : c = 0 := by omega
  have : (trimB t most).2 = t := by rw [eB, hc0]; rfl
  rw [this]
  have hl1 : (trimB t most).1 = [] := List.length_eq_zero_iff.1 (by omega)
  rw [hl1, List.append_nil] at hg
  have : 0 < a := by
    rcases Nat.eq_zero_or_pos a with h0 | h0
    · exact (hg (List.length_eq_zero_iff.1 (by omega))).elim
    · exact h0
  omega
theorem trim_up {s : Cs} (h : Up s) (most neg : Int) : Up (trimS s most neg).2 := evN_up _ (evN_up _ h)
/-- once more, and nothing goes -/
theorem trim_again {s : Cs} (h : Up s) (most neg : Int) : (trimS (trimS s most neg).2 most neg).1 = [] := by
  obtain ⟨T, hT⟩ : ∃ T, (trimS s most neg).2 = T := ⟨_, rfl⟩
  have h1 := trim_counts h most neg
  have hu := trim_up h most neg
  rw [hT] at h1 hu ⊢
  have h2 : trimA T neg = ([], T) := by
    unfold trimA
    rw [show ((negN T.L : Int) - max neg 0).toNat = 0 by omega]
    rfl
  unfold trimS
  rw [h2]
  have h3 : trimB T most = ([], T) := by
    unfold trimB
    rw [show ((T.L.length : Int) - max most 0).toNat = 0 by omega]
    rfl
  rw [h3]
  rfl
end
section
open Go.RowKit

/-- does an entry stay when these keys go? -/
def stayB (G : List Ky) (e : En) : Bool := !G.any fun k => hasK k e
def Lost (G : List Ky) (s s' : Cs) : Prop := KeysOk s'.L ∧ s'.L = s.L.filter (stayB G) ∧ (∀ k ∈ G, ∃ e ∈ s.L, e.key = k) ∧ G.Pairwise (· ≠ ·)
theorem lost_refl {s : Cs} (hk : KeysOk s.L) : Lost [] s s := ⟨hk, (List.filter_eq_self.2 fun _ _ => rfl).symm, fun k h => absurd h (by simp), List.Pairwise.nil⟩
theorem Lost.trans {G G' : List Ky} {s s' s'' : Cs} (h : Lost G s s') (h' : Lost G' s' s'') : Lost (G ++ G') s s'' := by
  obtain ⟨h1, h2, h3, h4⟩ := h
  obtain ⟨g1, g2, g3, g4⟩ := h'
  refine ⟨g1, ?_, fun k hk => ?_, List.pairwise_append.2 ⟨h4, g4, fun a ha b hb => ?_⟩⟩
  · rw [g2, h2, List.filter_filter]
    refine List.filter_congr fun x _ => ?_
    unfold stayB
    rw [List.any_append]
    cases (G.any fun k => hasK k x) <;> cases (G'.any fun k => hasK k x) <;> rfl
  · rcases List.mem_append.1 hk with hk | hk
    · exact h3 k hk
    · obtain ⟨e, he, h⟩ := g3 k hk
      rw [h2] at he
      exact ⟨e, (List.mem_filter.1 he).1, h⟩
  · rintro rfl
    obtain ⟨e, he, h⟩ := g3 a hb
    rw [h2] at he
    have h5 := (List.mem_filter.1 he).2
    unfold stayB at h5
    have : (G.any fun k => hasK k e) = true := List.any_eq_true.2 ⟨a, ha, hasK_iff.2 (by rw [← h]; exact ⟨rfl, rfl⟩)⟩
    rw [this] at h5
    cases h5
theorem lost_evict {s : Cs} (hk : KeysOk s.L) {b : Bool} {v : En} (hv : vicS s b = some v) : Lost [v.key] s (s.evict v.key) := by
  refine ⟨by rw [evict_L]; exact hk.filter _, ?_, fun k h => ⟨v, List.mem_of_find?_eq_some hv, (List.mem_singleton.1 h).symm⟩, List.pairwise_singleton _ _⟩
  rw [evict_L]
  unfold outL
  refine List.filter_congr fun x _ => ?_
  unfold stayB
  simp
theorem lost_evN (b : Bool) : ∀ (n : Nat) (s : Cs), KeysOk s.L → Lost (evN b n s).1 s (evN b n s).2
  | 0, s, hk => lost_refl hk
  | n + 1, s, hk => by
    rw [evN]
    cases hv : vicS s b with
    | none => exact lost_refl hk
    | some e =>
      have h1 := lost_evict hk hv
      exact h1.trans (lost_evN b n _ h1.1)
theorem lost_trim (s : Cs) (most neg : Int) (hk : KeysOk s.L) : Lost (trimS s most neg).1 s (trimS s most neg).2 := by
  have h1 : Lost (trimA s neg).1 s (trimA s neg).2 := lost_evN _ _ _ hk
  exact h1.trans (lost_evN _ _ _ h1.1)
/-- how often a key of an entry is told -/
def timesN (G : List Ky) (e : En) : Nat := (G.filter fun k => hasK k e).length
theorem times_one {G : List Ky} {e : En} (hp : G.Pairwise (· ≠ ·)) (h : stayB G e = false) : timesN G e = 1 := by
  unfold timesN
  have hall : ∀ k ∈ G.filter (fun k => hasK k e), k = e.key := fun k hk => by
    have h1 := hasK_iff.1 (List.mem_filter.1 hk).2
    unfold En.key
    rw [h1.1, h1.2]
  have hpw := hp.filter (fun k => hasK k e)
  have hne : G.filter (fun k => hasK k e) ≠ [] := fun h0 => by
    unfold stayB at h
    have h1 : (G.any fun k => hasK k e) = true := by simpa using h
    obtain ⟨k, hk, hh⟩ := List.any_eq_true.1 h1
    have : k ∈ G.filter (fun k => hasK k e) := List.mem_filter.2 ⟨hk, hh⟩
    rw [h0] at this
    cases this
  match hL : G.filter (fun k => hasK k e), hne, hall, hpw with
  | [], hne, _, _ => exact (hne rfl).elim
  | [a], _, _, _ => rfl
  | a :: b :: t, _, hall, hpw =>
    have h1 := hall a (by simp)
    have h2 := hall b (by simp)
    have h3 := (List.pairwise_cons.1 hpw).1 b (by simp)
    exact (h3 (h1.trans h2.symm)).elim
theorem timesN_take {G : List Ky} {e : En} {j : Nat} {k : Ky} (h : G[j]? = some k) : timesN (G.take (j + 1)) e = timesN (G.take j) e + if hasK k e then 1 else 0 := by
  unfold timesN
  rw [List.take_add_one, h, List.filter_append, List.length_append]
  cases hh : hasK k e <;> simp [hh]
/-- the place among those that stay -/
def atN (G : List Ky) (L : List En) (i : Nat) : Nat := ((L.take i).filter (stayB G)).length
theorem atN_next {G : List Ky} {L : List En} {i : Nat} {x : En} (h : L[i]? = some x) : atN G L (i + 1) = atN G L i + if stayB G x then 1 else 0 := by
  unfold atN
  rw [List.take_add_one, h, List.filter_append, List.length_append]
  cases hh : stayB G x <;> simp [hh]
theorem atN_at {G : List Ky} {L : List En} {i : Nat} {x : En} (h : L[i]? = some x) (hs : stayB G x = true) : (L.filter (stayB G))[atN G L i]? = some x := by
  have hl := List.getElem?_eq_some_iff.1 h
  have hL : L = L.take i ++ x :: L.drop (i + 1) := by
    conv => lhs; rw [← List.take_append_drop i L]
    rw [List.drop_eq_getElem_cons hl.1, hl.2]
  have hf : L.filter (stayB G) = (L.take i).filter (stayB G) ++ x :: (L.drop (i + 1)).filter (stayB G) := by
    conv => lhs; rw [hL]
    rw [List.filter_append, List.filter_cons_of_pos hs]
  unfold atN
  rw [hf, List.getElem?_append_right (Nat.le_refl _), Nat.sub_self]
  rfl
theorem atN_end (G : List Ky) (L : List En) : atN G L L.length = (L.filter (stayB G)).length := by
  unfold atN
  rw [List.take_length]
theorem atN_le (G : List Ky) (L : List En) (i : Nat) : atN G L i ≤ (L.filter (stayB G)).length :=
  ((List.take_sublist i L).filter _).length_le
end
end Go.Proofs.Ytabdicbmecgogaa
