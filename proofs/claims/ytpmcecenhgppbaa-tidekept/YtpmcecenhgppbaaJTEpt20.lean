/- A stream of breaks, plainly: by numbers. -/
import Derived.Test.YtpmcecenhgppbaaJTEpt19
import Derived.Test.YtpmcecenhgppbaaJTEpt04
namespace Go.Proofs.Ytpmcecenhgppbaa
section
open Go.RowKit Go.Shelf

/-- a tide of epoch 1 that breaks alone have come to: up to n, and those of L are held -/
def bS (h n : Nat) (L : List Nat) : Ts := ⟨1, 1, 1, (n : Int), 2 * (n : Int), 0, [], L.map brkN, h⟩
structure bOk (n : Nat) (L : List Nat) : Prop where
  up : ∀ i ∈ L, n < i
  few : ∀ i ∈ L, i ≤ 1000
  once : L.Nodup
theorem ahead_b (h n : Nat) (L : List Nat) (i : Nat) (hi : i ≤ 1000) : (bS h n L).ahead (brkN i) = if n ≤ i then (i : Int) - n else 0 := by
  unfold Ts.ahead bS
  rw [brkN_num i hi]
  by_cases hh : n ≤ i
  · rw [if_pos hh, if_pos (by show (n : Int) ≤ i; omega)]
  · rw [if_neg hh, if_neg (by show ¬ (n : Int) ≤ i; omega)]
theorem meet_low {h n : Nat} {L : List Nat} {i : Nat} (hi : i ≤ n) (hk : i ≤ 1000) : (bS h n L).meet (brkN i) = (bS h n L, []) := by
  have ha : (bS h n L).ahead (brkN i) = 0 := by
    rw [ahead_b h n L i hk]
    split <;> omega
  unfold Ts.meet
  rw [if_neg (show ¬ (brkN i).kind = 2 by show ¬ (3 : Int) = 2; omega), if_pos ha]
theorem meet_next {h n : Nat} {L : List Nat} (hk : n + 1 ≤ 1000) : (bS h n L).meet (brkN (n + 1)) = (bS h (n + 1) L, [keysA [kyN (n + 1)]]) := by
  have ha : (bS h n L).ahead (brkN (n + 1)) = 1 := by
    rw [ahead_b h n L _ hk, if_pos (by omega)]; omega
  unfold Ts.meet
  rw [if_neg (show ¬ (brkN (n + 1)).kind = 2 by show ¬ (3 : Int) = 2; omega), if_neg (by rw [ha]; omega), if_pos (.inr ⟨rfl, ha⟩)]
  have h1 : (bS h n L).apply (brkN (n + 1)) = bS h (n + 1) L := by
    unfold Ts.apply
    rw [brkN_num _ hk]
    unfold bS
    have e1 : max (2 * (n : Int)) (brkN (n + 1)).vers = 2 * ((n + 1 : Nat) : Int) := by
      show max (2 * (n : Int)) (2 * ((n + 1 : Nat) : Int)) = _
      omega
    simp only [e1]
    rfl
  rw [h1]; rfl
theorem like_b {i j : Nat} (hi : i ≤ 1000) (hj : j ≤ 1000) : likeM (brkN j) (brkN i) = decide (j = i) := by
  unfold likeM
  rw [brkN_ep i hi, brkN_ep j hj, brkN_num i hi, brkN_num j hj]
  by_cases e : j = i
  · subst e; simp
  · rw [decide_eq_false e, decide_eq_false]
    rintro ⟨_, _, h⟩
    exact e (by omega)
def heldN (h : Nat) (L : List Nat) (i : Nat) : List Nat := if L.length < h ∧ i ∉ L then L ++ [i] else L
theorem meet_far {h n : Nat} {L : List Nat} {i : Nat} (hi : n + 1 < i) (hk : i ≤ 1000) (hL : ∀ j ∈ L, j ≤ 1000) : (bS h n L).meet (brkN i) = (bS h n (heldN h L i), []) := by
  have ha : (bS h n L).ahead (brkN i) = (i : Int) - n := by rw [ahead_b h n L i hk, if_pos (by omega)]
  unfold Ts.meet
  rw [if_neg (show ¬ (brkN i).kind = 2 by show ¬ (3 : Int) = 2; omega), if_neg (by rw [ha]; omega), if_neg (by
    rintro (e | e)
    · have : (3 : Int) = 4 := e
      omega
    · rw [ha] at e; omega)]
  have hany : ((bS h n L).held.any fun o => likeM o (brkN i)) = decide (i ∈ L) := by
    show ((L.map brkN).any fun o => likeM o (brkN i)) = _
    rw [List.any_map, Bool.eq_iff_iff, List.any_eq_true, decide_eq_true_iff]
    constructor
    · rintro ⟨j, hj, e⟩
      have e' : likeM (brkN j) (brkN i) = true := e
      rw [like_b hk (hL j hj)] at e'
      rw [← of_decide_eq_true e']; exact hj
    · intro hj
      refine ⟨i, hj, ?_⟩
      show likeM (brkN i) (brkN i) = true
      rw [like_b hk hk]; simp
  have hlen : (bS h n L).held.length = L.length := by show (L.map brkN).length = _; simp
  have hh : (bS h n L).holds (brkN i) = bS h n (heldN h L i) := by
    unfold Ts.holds heldN
    rw [hany, hlen]
    by_cases hc : L.length < h ∧ i ∉ L
    · rw [if_pos hc, if_pos ⟨hc.1, decide_eq_false hc.2⟩]
      unfold bS
      simp
    · rw [if_neg hc, if_neg (fun e => hc ⟨e.1, of_decide_eq_false e.2⟩)]
  rw [hh]
/-- what is due: the next one -/
theorem due_b {h n : Nat} {L : List Nat} (hok : bOk n L) : (bS h n L).due = L.findIdx? (fun j => decide (j = n + 1)) := by
  have e1 : (bS h n L).held.findIdx? (bS h n L).due1 = L.findIdx? (fun j => decide (j = n + 1)) := by
    show (L.map brkN).findIdx? _ = _
    rw [List.findIdx?_map]
    have : ∀ l : List Nat, (∀ j ∈ l, n < j ∧ j ≤ 1000) → l.findIdx? ((bS h n L).due1 ∘ brkN) = l.findIdx? (fun j => decide (j = n + 1)) := by
      intro l
      induction l with
      | nil => intro _; rfl
      | cons a l ih =>
        intro hl
        have ha := hl a (List.mem_cons_self ..)
        rw [List.findIdx?_cons, List.findIdx?_cons, ih fun j hj => hl j (List.mem_cons_of_mem _ hj)]
        have : ((bS h n L).due1 ∘ brkN) a = decide (a = n + 1) := by
          show (decide ((3 : Int) = 3) && decide ((bS h n L).ahead (brkN a) = 1)) = _
          rw [ahead_b h n L a ha.2, if_pos (by omega)]
          by_cases e : a = n + 1
          · subst e; simp; omega
          · rw [decide_eq_false e]; simp; omega
        rw [this]
    exact this L fun j hj => ⟨hok.up j hj, hok.few j hj⟩
  have e2 : (bS h n L).held.findIdx? (bS h n L).due2 = none := by
    rw [List.findIdx?_eq_none_iff]
    intro m hm
    obtain ⟨j, _, rfl⟩ := List.mem_map.1 hm
    rfl
  have e3 : (bS h n L).held.findIdx? (bS h n L).due3 = none := by
    rw [List.findIdx?_eq_none_iff]
    intro m hm
    obtain ⟨j, hj, rfl⟩ := List.mem_map.1 hm
    show decide ((bS h n L).ahead (brkN j) = 0) = false
    have := hok.up j hj
    rw [ahead_b h n L j (hok.few j hj), if_pos (by omega)]
    exact decide_eq_false (by omega)
  unfold Ts.due
  rw [e1, e2, e3]
  cases L.findIdx? (fun j => decide (j = n + 1)) <;> rfl
/-- the held ones that follow, one by one -/
def settleN : Nat → Nat → List Nat → Nat × List Nat
  | 0, n, L => (n, L)
  | f + 1, n, L => if n + 1 ∈ L then settleN f (n + 1) (L.erase (n + 1)) else (n, L)
def actsN (n n' : Nat) : List Ac := (List.range' (n + 1) (n' - n)).map fun j => keysA [kyN j]
theorem settleN_le : ∀ (f n : Nat) (L : List Nat), n ≤ (settleN f n L).1
  | 0, n, L => Nat.le_refl _
  | f + 1, n, L => by
    unfold settleN
    split
    · have := settleN_le f (n + 1) (L.erase (n + 1)); omega
    · exact Nat.le_refl _
theorem erase_idx {L : List Nat} {k i : Nat} (h : L.findIdx? (fun j => decide (j = k)) = some i) : L.eraseIdx i = L.erase k ∧ L[i]? = some k := by
  induction L generalizing i with
  | nil => simp at h
  | cons a l ih =>
    rw [List.findIdx?_cons] at h
    by_cases e : a = k
    · subst e
      simp at h
      subst h
      simp
    · simp [e] at h
      obtain ⟨i', h', rfl⟩ := h
      have := ih h'
      rw [List.eraseIdx_cons_succ, this.1, List.erase_cons_tail (by simpa using e)]
      exact ⟨rfl, by simpa using this.2⟩
theorem bOk.next {n : Nat} {L : List Nat} (h : bOk n L) : bOk (n + 1) (L.erase (n + 1)) := by
  refine ⟨fun i hi => ?_, fun i hi => h.few i (List.mem_of_mem_erase hi), h.once.erase _⟩
  have h1 := h.up i (List.mem_of_mem_erase hi)
  have h2 : i ≠ n + 1 := (h.once.mem_erase_iff.1 hi).1
  omega
theorem settle_b (h : Nat) : ∀ (f n : Nat) (L : List Nat), bOk n L → L.length = f → (bS h n L).settle = (bS h (settleN f n L).1 (settleN f n L).2, actsN n (settleN f n L).1) ∧ bOk (settleN f n L).1 (settleN f n L).2 ∧ (settleN f n L).1 + 1 ∉ (settleN f n L).2
  | 0, n, L, hok, hl => by
    obtain rfl := List.length_eq_zero_iff.1 hl
    refine ⟨?_, hok, by simp [settleN]⟩
    rw [Ts.settle_none (by rw [due_b hok]; rfl)]
    show _ = (bS h n [], actsN n n)
    unfold actsN
    rw [Nat.sub_self]; rfl
  | f + 1, n, L, hok, hl => by
    by_cases hm : n + 1 ∈ L
    · obtain ⟨i, hi⟩ : ∃ i, L.findIdx? (fun j => decide (j = n + 1)) = some i := by
        cases hq : L.findIdx? (fun j => decide (j = n + 1)) with
        | some i => exact ⟨i, rfl⟩
        | none =>
          rw [List.findIdx?_eq_none_iff] at hq
          have := hq _ hm
          simp at this
      obtain ⟨e1, e2⟩ := erase_idx hi
      have hd : (bS h n L).due = some i := by rw [due_b hok]; exact hi
      have hh : (bS h n L).held[i]? = some (brkN (n + 1)) := by
        show (L.map brkN)[i]? = _
        rw [List.getElem?_map, e2]; rfl
      have hw : (bS h n L).without i = bS h n (L.erase (n + 1)) := by
        unfold Ts.without bS
        simp only []
        rw [← map_erase, e1]
      have hfew := hok.few _ hm
      have hlen : (L.erase (n + 1)).length = f := by rw [List.length_erase_of_mem hm]; omega
      obtain ⟨i1, i2, i3⟩ := settle_b h f (n + 1) (L.erase (n + 1)) hok.next hlen
      have hs : settleN (f + 1) n L = settleN f (n + 1) (L.erase (n + 1)) := by
        show (if n + 1 ∈ L then _ else _) = _
        rw [if_pos hm]
      rw [hs]
      refine ⟨?_, i2, i3⟩
      rw [Ts.settle_some hd hh, hw, meet_next hfew]
      simp only []
      rw [i1]
      have hle := settleN_le f (n + 1) (L.erase (n + 1))
      have ha : actsN n (settleN f (n + 1) (L.erase (n + 1))).1 = keysA [kyN (n + 1)] :: actsN (n + 1) (settleN f (n + 1) (L.erase (n + 1))).1 := by
        unfold actsN
        obtain ⟨d, hd⟩ : ∃ d, (settleN f (n + 1) (L.erase (n + 1))).1 = n + 1 + d := ⟨_, (Nat.add_sub_of_le hle).symm⟩
        rw [hd, show n + 1 + d - n = d + 1 by omega, show n + 1 + d - (n + 1) = d by omega, List.range'_succ]
        rfl
      rw [ha]; rfl
    · have hd : (bS h n L).due = none := by
        rw [due_b hok, List.findIdx?_eq_none_iff]
        intro j hj
        exact decide_eq_false (by rintro rfl; exact hm hj)
      have hs : settleN (f + 1) n L = (n, L) := by
        show (if n + 1 ∈ L then _ else _) = _
        rw [if_neg hm]
      rw [hs]
      refine ⟨?_, hok, hm⟩
      rw [Ts.settle_none hd]
      unfold actsN
      rw [Nat.sub_self]; rfl
/-- one break, by numbers -/
def stepN (h n : Nat) (L : List Nat) (i : Nat) : Nat × List Nat := if i ≤ n then (n, L) else if i = n + 1 then settleN L.length (n + 1) L else (n, heldN h L i)
structure bRest (n : Nat) (L : List Nat) : Prop where
  up : ∀ i ∈ L, n + 1 < i
  few : ∀ i ∈ L, i ≤ 1000
  once : L.Nodup
theorem bRest.ok {n : Nat} {L : List Nat} (h : bRest n L) : bOk n L := ⟨fun i hi => by have := h.up i hi; omega, h.few, h.once⟩
theorem bRest.ok1 {n : Nat} {L : List Nat} (h : bRest n L) : bOk (n + 1) L := ⟨h.up, h.few, h.once⟩
theorem bOk.rest {n : Nat} {L : List Nat} (h : bOk n L) (hn : n + 1 ∉ L) : bRest n L := ⟨fun i hi => by have := h.up i hi; have : i ≠ n + 1 := (by rintro rfl; exact hn hi); omega, h.few, h.once⟩
theorem step_b (h n : Nat) (L : List Nat) (i : Nat) (hi : 1 ≤ i) (hk : i ≤ 1000) (hr : bRest n L) : (bS h n L).take (brkN i) = (bS h (stepN h n L i).1 (stepN h n L i).2, actsN n (stepN h n L i).1) ∧ bRest (stepN h n L i).1 (stepN h n L i).2 := by
  have hc : (bS h n L).counts (brkN i) = true := brk_counts (brkN_mk i hk) rfl rfl (by show (1 : Int) ≤ 1; omega)
  have hb : (bS h n L).begun (brkN i) = bS h n L := by unfold Ts.begun; rw [brkN_ep i hk, if_neg (show ¬ (bS h n L).e < 1 by show ¬ (1 : Int) < 1; omega)]
  have hbA : (bS h n L).begunA (brkN i) = [] := by unfold Ts.begunA; rw [brkN_ep i hk, if_neg (show ¬ (bS h n L).e < 1 by show ¬ (1 : Int) < 1; omega)]
  have hno : (bS h n L).settle = (bS h n L, []) := Ts.settle_none (by
    rw [due_b hr.ok, List.findIdx?_eq_none_iff]
    intro j hj
    have := hr.up j hj
    exact decide_eq_false (by omega))
  have nil : actsN n n = [] := by unfold actsN; rw [Nat.sub_self]; rfl
  unfold stepN
  unfold Ts.take
  rw [if_pos hc, hb, hbA]
  by_cases h1 : i ≤ n
  · rw [if_pos h1, meet_low h1 hk]
    simp only []
    rw [hno, nil]
    exact ⟨rfl, hr⟩
  · rw [if_neg h1]
    by_cases h2 : i = n + 1
    · subst h2
      rw [if_pos rfl, meet_next hk]
      simp only []
      obtain ⟨i1, i2, i3⟩ := settle_b h L.length (n + 1) L hr.ok1 rfl
      rw [i1]
      have hle := settleN_le L.length (n + 1) L
      have ha : actsN n (settleN L.length (n + 1) L).1 = keysA [kyN (n + 1)] :: actsN (n + 1) (settleN L.length (n + 1) L).1 := by
        unfold actsN
        obtain ⟨d, hd⟩ : ∃ d, (settleN L.length (n + 1) L).1 = n + 1 + d := ⟨_, (Nat.add_sub_of_le hle).symm⟩
        rw [hd, show n + 1 + d - n = d + 1 by omega, show n + 1 + d - (n + 1) = d by omega, List.range'_succ]
        rfl
      rw [ha]
      exact ⟨rfl, i2.rest i3⟩
    · rw [if_neg h2, meet_far (by omega) hk hr.few]
      simp only []
      have hr' : bRest n (heldN h L i) := by
        unfold heldN
        by_cases hq : L.length < h ∧ i ∉ L
        · rw [if_pos hq]
          refine ⟨fun j hj => ?_, fun j hj => ?_, List.nodup_append.2 ⟨hr.once, List.pairwise_singleton _ _, fun a ha b hb => ?_⟩⟩
          · rcases List.mem_append.1 hj with hj | hj
            · exact hr.up j hj
            · rw [List.mem_singleton.1 hj]; omega
          · rcases List.mem_append.1 hj with hj | hj
            · exact hr.few j hj
            · rw [List.mem_singleton.1 hj]; omega
          · rw [List.mem_singleton.1 hb]
            rintro rfl
            exact hq.2 ha
        · rw [if_neg hq]; exact hr
      rw [Ts.settle_none (by
        rw [due_b hr'.ok, List.findIdx?_eq_none_iff]
        intro j hj
        have := hr'.up j hj
        exact decide_eq_false (by omega)), nil]
      exact ⟨rfl, hr'⟩
/-- the first break of all -/
theorem first_b (h i : Nat) (hi : 1 ≤ i) (hk : i ≤ 1000) : (Ts.new 1 1 h).take (brkN i) = (bS h (stepN h 0 [] i).1 (stepN h 0 [] i).2, allA :: actsN 0 (stepN h 0 [] i).1) ∧ bRest (stepN h 0 [] i).1 (stepN h 0 [] i).2 := by
  obtain ⟨e1, e2⟩ := step_b h 0 [] i hi hk ⟨(fun j hj => by cases hj), (fun j hj => by cases hj), List.Pairwise.nil⟩
  refine ⟨?_, e2⟩
  have hc : (Ts.new 1 1 h).counts (brkN i) = true := brk_counts (brkN_mk i hk) rfl rfl (by show (0 : Int) ≤ 1; omega)
  have hc2 : (bS h 0 []).counts (brkN i) = true := brk_counts (brkN_mk i hk) rfl rfl (by show (1 : Int) ≤ 1; omega)
  have hb : (Ts.new 1 1 h).begun (brkN i) = bS h 0 [] := by unfold Ts.begun Ts.restart; rw [brkN_ep i hk, if_pos (show (Ts.new 1 1 h).e < 1 by show (0 : Int) < 1; omega)]; rfl
  have hbA : (Ts.new 1 1 h).begunA (brkN i) = [allA] := by unfold Ts.begunA; rw [brkN_ep i hk, if_pos (show (Ts.new 1 1 h).e < 1 by show (0 : Int) < 1; omega)]
  have hb2 : (bS h 0 []).begun (brkN i) = bS h 0 [] := by unfold Ts.begun; rw [brkN_ep i hk, if_neg (show ¬ (bS h 0 []).e < 1 by show ¬ (1 : Int) < 1; omega)]
  have hbA2 : (bS h 0 []).begunA (brkN i) = [] := by unfold Ts.begunA; rw [brkN_ep i hk, if_neg (show ¬ (bS h 0 []).e < 1 by show ¬ (1 : Int) < 1; omega)]
  unfold Ts.take at e1 ⊢
  rw [if_pos hc2, hb2, hbA2] at e1
  rw [if_pos hc, hb, hbA]
  have f1 := congrArg Prod.fst e1
  have f2 := congrArg Prod.snd e1
  simp only [List.nil_append] at f1 f2
  rw [f1, f2]; rfl
end
section
open Go.RowKit
attribute [local go_sem high] eqK neqK eqE neqE eqN neqN guardK guardE guardN

/-- are two lists the same -/
def sameEs : List En → List En → Bool
  | [], [] => true
  | a :: l, b :: m => eqEn a b && sameEs l m
  | _, _ => false
theorem sameEs_iff : ∀ (l m : List En), sameEs l m = true ↔ l = m
  | [], [] => by simp [sameEs]
  | [], b :: m => by simp [sameEs]
  | a :: l, [] => by simp [sameEs]
  | a :: l, b :: m => by
    rw [sameEs, Bool.and_eq_true, sameEs_iff l m]
    rw [eqEn_iff, List.cons.injEq]
theorem sameEs_no {l m : List En} (h : ¬ l = m) : sameEs l m = false := by
  cases k : sameEs l m with
  | false => rfl
  | true => exact absurd ((sameEs_iff l m).1 k) h
set_option maxHeartbeats 4000000 in
theorem sameE_any (v v' : Value) (l l' : List En) (base base' : Nat) (w : World) (h : Row7 w base v l) (h' : Row7 w base' v' l') (hl : l.length ≤ 1000000000) (hl' : l'.length ≤ 1000000000) :
    Calls Try.prog 24 #[v, v'] w fun e w' => e = .returned (.bool (sameEs l l')) ∧ Below w.heap.size w w' := by
  obtain ⟨a, cap, rfl⟩ := owns_len h
  obtain ⟨a', cap', rfl⟩ := owns_len h'
  by_cases hn : l.length = l'.length
  · obtain ⟨n, hn1⟩ : ∃ n, l.length = n := ⟨_, rfl⟩
    have hn2 : l'.length = n := by omega
    rw [hn1] at hl
    have HC : Hid (Row7 w base (.slice a n cap) l ∧ Row7 w base' (.slice a' n cap') l' ∧ l.length = n ∧ l'.length = n) := ⟨by rw [← hn1]; exact h, by rw [← hn2]; exact h', hn1, hn2⟩
    rw [hn1, hn2]
    clear h h' hn hn1 hn2 hl'
    go_enter Try.func24, Try.ntmps24
    go_wp2
    go_loopw [5] (fun i wr => ∃ k : Nat, k ≤ n ∧ i = .int .i64 k ∧ l.take k = l'.take k ∧ Below w.heap.size w wr) (fun i _ => n - (intOf i).toNat)
    case atStart => exact ⟨0, Nat.zero_le _, rfl, rfl, Below.refl _ _⟩
    case round =>
      obtain ⟨k, hk, rfl, ht, hb⟩ := hrel
      by_cases hlt : k < n
      · obtain ⟨e, he⟩ : ∃ x, l[k]? = some x := ⟨_, List.getElem?_eq_getElem (by rw [HC.out.2.2.1]; exact hlt)⟩
        obtain ⟨f, hf⟩ : ∃ x, l'[k]? = some x := ⟨_, List.getElem?_eq_getElem (by rw [HC.out.2.2.2]; exact hlt)⟩
        obtain ⟨g, rfl, -, -, -, hc, -⟩ := owns_entry (HC.out.1.below hb) he
        obtain ⟨g', rfl, -, -, -, hc', -⟩ := owns_entry (HC.out.2.1.below hb) hf
        have x0 := hc.c0
        have x1 := hc.c1
        have x2 := hc.c2
        have x3 := hc.c3
        have x4 := hc.c4
        have x5 := hc.c5
        have x6 := hc.c6
        have y0 := hc'.c0
        have y1 := hc'.c1
        have y2 := hc'.c2
        have y3 := hc'.c3
        have y4 := hc'.c4
        have y5 := hc'.c5
        have y6 := hc'.c6
        have hki : (k : Int) < (n : Int) := by omega
        by_cases hxx : e = f
        · have HT : Hid (l.take (k + 1) = l'.take (k + 1)) := take_snocE ht he (hxx ▸ hf)
          subst hxx
          obtain ⟨e0, e1, e2, e3, e4, e5, e6⟩ := e
          have heq : eqEn ⟨e0, e1, e2, e3, e4, e5, e6⟩ ⟨e0, e1, e2, e3, e4, e5, e6⟩ = true := (eqEn_iff _ _).2 rfl
          clear he hf ht hc hc'
          go_upto_region 6 with fail
          go_quiet (fail)
          go_wp2
          exact ⟨⟨k + 1, by omega, by simp, HT.out, below_drewN hb _⟩, by simp [intOf]; omega⟩
        · have HE : Hid (sameEs l l' = false) := sameEs_no (by rintro rfl; rw [he] at hf; exact hxx (Option.some.inj hf))
          obtain ⟨e0, e1, e2, e3, e4, e5, e6⟩ := e
          obtain ⟨f0, f1, f2, f3, f4, f5, f6⟩ := f
          have hne : eqEn ⟨e0, e1, e2, e3, e4, e5, e6⟩ ⟨f0, f1, f2, f3, f4, f5, f6⟩ = false := eqEn_no hxx
          clear he hf ht hc hc' hxx
          go_upto_region 6 with fail
          go_quiet (fail)
          go_wp2
          go_ret
          exact ⟨by rw [HE.out]; rfl, below_drewN hb _⟩
      · have hkl : k = n := by omega
        subst hkl
        have HE : Hid (sameEs l l' = true) := (sameEs_iff l l').2 (take_eqE ht HC.out.2.2.1.symm HC.out.2.2.2.symm)
        clear ht
        go_wp2
        go_ret
        exact ⟨by rw [HE.out]; rfl, hb⟩
  · have HE : Hid (sameEs l l' = false) := sameEs_no (by rintro rfl; exact hn rfl)
    have hne : ((l.length : Int) != (l'.length : Int)) = true := by simp; omega
    clear h h'
    go_enter Try.func24, Try.ntmps24
    go_wp2
    go_ret
    exact ⟨by rw [HE.out]; rfl, Below.refl _ _⟩
end
section
open Go.RowKit
attribute [local go_sem high] eqK neqK eqE neqE eqN neqN guardK guardE guardN

/-- are two lists the same -/
def sameKs : List Ky → List Ky → Bool
  | [], [] => true
  | a :: l, b :: m => (decide (a.d = b.d) && decide (a.nm = b.nm)) && sameKs l m
  | _, _ => false
theorem sameKs_iff : ∀ (l m : List Ky), sameKs l m = true ↔ l = m
  | [], [] => by simp [sameKs]
  | [], b :: m => by simp [sameKs]
  | a :: l, [] => by simp [sameKs]
  | a :: l, b :: m => by
    rw [sameKs, Bool.and_eq_true, sameKs_iff l m]
    obtain ⟨a1, a2⟩ := a
    obtain ⟨b1, b2⟩ := b
    simp
theorem sameKs_no {l m : List Ky} (h : ¬ l = m) : sameKs l m = false := by
  cases k : sameKs l m with
  | false => rfl
  | true => exact absurd ((sameKs_iff l m).1 k) h
set_option maxHeartbeats 4000000 in
theorem sameK_any (v v' : Value) (l l' : List Ky) (base base' : Nat) (w : World) (h : RowK w base v l) (h' : RowK w base' v' l') (hl : l.length ≤ 1000000000) (hl' : l'.length ≤ 1000000000) :
    Calls Try.prog 23 #[v, v'] w fun e w' => e = .returned (.bool (sameKs l l')) ∧ Below w.heap.size w w' := by
  obtain ⟨a, cap, rfl⟩ := owns_len h
  obtain ⟨a', cap', rfl⟩ := owns_len h'
  by_cases hn : l.length = l'.length
  · obtain ⟨n, hn1⟩ : ∃ n, l.length = n := ⟨_, rfl⟩
    have hn2 : l'.length = n := by omega
    rw [hn1] at hl
    have HC : Hid (RowK w base (.slice a n cap) l ∧ RowK w base' (.slice a' n cap') l' ∧ l.length = n ∧ l'.length = n) := ⟨by rw [← hn1]; exact h, by rw [← hn2]; exact h', hn1, hn2⟩
    rw [hn1, hn2]
    clear h h' hn hn1 hn2 hl'
    go_enter Try.func23, Try.ntmps23
    go_wp2
    go_loopw [5] (fun i wr => ∃ k : Nat, k ≤ n ∧ i = .int .i64 k ∧ l.take k = l'.take k ∧ Below w.heap.size w wr) (fun i _ => n - (intOf i).toNat)
    case atStart => exact ⟨0, Nat.zero_le _, rfl, rfl, Below.refl _ _⟩
    case round =>
      obtain ⟨k, hk, rfl, ht, hb⟩ := hrel
      by_cases hlt : k < n
      · obtain ⟨e, he⟩ : ∃ x, l[k]? = some x := ⟨_, List.getElem?_eq_getElem (by rw [HC.out.2.2.1]; exact hlt)⟩
        obtain ⟨f, hf⟩ : ∃ x, l'[k]? = some x := ⟨_, List.getElem?_eq_getElem (by rw [HC.out.2.2.2]; exact hlt)⟩
        obtain ⟨g, rfl, -, -, x0, x1, -⟩ := (HC.out.1.below hb).key he
        obtain ⟨g', rfl, -, -, y0, y1, -⟩ := (HC.out.2.1.below hb).key hf
        have hki : (k : Int) < (n : Int) := by omega
        by_cases hxx : e = f
        · have HT : Hid (l.take (k + 1) = l'.take (k + 1)) := take_snocK ht he (hxx ▸ hf)
          subst hxx
          clear he hf ht
          go_upto_region 6 with fail
          go_quiet (fail)
          go_wp2
          exact ⟨⟨k + 1, by omega, by simp, HT.out, below_drewN hb _⟩, by simp [intOf]; omega⟩
        · have HE : Hid (sameKs l l' = false) := sameKs_no (by rintro rfl; rw [he] at hf; exact hxx (Option.some.inj hf))
          have hne : decide (e.d = f.d ∧ e.nm = f.nm) = false := decide_eq_false (fun h => hxx (by cases e; cases f; simp only at h; rw [h.1, h.2]))
          clear he hf ht hxx
          go_upto_region 6 with fail
          go_quiet (fail)
          go_wp2
          go_ret
          exact ⟨by rw [HE.out]; rfl, below_drewN hb _⟩
      · have hkl : k = n := by omega
        subst hkl
        have HE : Hid (sameKs l l' = true) := (sameKs_iff l l').2 (take_eqK ht HC.out.2.2.1.symm HC.out.2.2.2.symm)
        clear ht
        go_wp2
        go_ret
        exact ⟨by rw [HE.out]; rfl, hb⟩
  · have HE : Hid (sameKs l l' = false) := sameKs_no (by rintro rfl; exact hn rfl)
    have hne : ((l.length : Int) != (l'.length : Int)) = true := by simp; omega
    clear h h'
    go_enter Try.func23, Try.ntmps23
    go_wp2
    go_ret
    exact ⟨by rw [HE.out]; rfl, Below.refl _ _⟩
end
end Go.Proofs.Ytpmcecenhgppbaa
