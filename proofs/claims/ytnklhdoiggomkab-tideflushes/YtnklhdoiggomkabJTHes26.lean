/- TideFlushes, plainly: a tide that breaks of numbers up to 8 have come to, whatever was asked. -/
import Derived.Test.YtnklhdoiggomkabJTHes25
namespace Go.Proofs.Ytnklhdoiggomkab
section
open Go.RowKit Go.Shelf

def gS (n : Nat) (v q : Int) (fr : List Fb) (L : List Nat) : Ts := ⟨1, 1, 1, (n : Int), v, q, fr, L.map brkN, 8⟩
theorem ahead_g (n : Nat) (v q : Int) (fr : List Fb) (L : List Nat) (i : Nat) (hi : i ≤ 1000) : (gS n v q fr L).ahead (brkN i) = if n ≤ i then (i : Int) - n else 0 := by
  unfold Ts.ahead gS
  rw [brkN_num i hi]
  by_cases hh : n ≤ i
  · rw [if_pos hh, if_pos (by show (n : Int) ≤ i; omega)]
  · rw [if_neg hh, if_neg (by show ¬ (n : Int) ≤ i; omega)]
theorem counts_g (n : Nat) (v q : Int) (fr : List Fb) (L : List Nat) (i : Nat) (hi : i ≤ 1000) : (gS n v q fr L).counts (brkN i) = true := brk_counts (brkN_mk i hi) rfl rfl (by show (1 : Int) ≤ 1; omega)
theorem begun_g (n : Nat) (v q : Int) (fr : List Fb) (L : List Nat) (m : Pm) (h : m.ep = 1) : (gS n v q fr L).begun m = gS n v q fr L ∧ (gS n v q fr L).begunA m = [] := by
  unfold Ts.begun Ts.begunA
  rw [h, if_neg (show ¬ (gS n v q fr L).e < 1 by show ¬ (1 : Int) < 1; omega), if_neg (show ¬ (gS n v q fr L).e < 1 by show ¬ (1 : Int) < 1; omega)]
  exact ⟨rfl, rfl⟩
/-- nothing is due -/
theorem due_g {n : Nat} {v q : Int} {fr : List Fb} {L : List Nat} (h : ∀ j ∈ L, n + 1 < j ∧ j ≤ 8) : (gS n v q fr L).due = none := by
  have hk : ∀ p : Pm → Bool, (∀ j ∈ L, p (brkN j) = false) → (gS n v q fr L).held.findIdx? p = none := fun p hp => by
    rw [List.findIdx?_eq_none_iff]
    intro m hm
    obtain ⟨j, hj, rfl⟩ := List.mem_map.1 hm
    exact hp j hj
  have ha : ∀ j ∈ L, (gS n v q fr L).ahead (brkN j) = (j : Int) - n := fun j hj => by
    have := h j hj
    rw [ahead_g n v q fr L j (by omega), if_pos (by omega)]
  unfold Ts.due
  rw [hk _ fun j hj => by
    unfold Ts.due1
    rw [ha j hj, decide_eq_false (p := (j : Int) - n = 1) (by have := h j hj; omega), Bool.and_false], hk _ fun j hj => rfl, hk _ fun j hj => by
    unfold Ts.due3
    rw [ha j hj, decide_eq_false (by have := h j hj; omega)]]
  rfl
theorem apply_g (n : Nat) (v q : Int) (fr : List Fb) (L : List Nat) (j : Nat) (hj : j ≤ 8) (hv : 16 ≤ v) : ∃ more, (gS n v q fr L).apply (brkN j) = gS j v q (fr ++ more) L ∧ (q ≤ 0 → more = []) := by
  unfold Ts.apply
  rw [brkN_num j (by omega)]
  have e : max v (brkN j).vers = v := by show max v (2 * (j : Int)) = v; omega
  by_cases h : 0 < q
  · refine ⟨[⟨j, decide ((brkN j).kind = 4), (brkN j).ks⟩], ?_, ?_⟩
    · unfold gS
      simp only [e, if_pos h]
    · omega
  · refine ⟨[], ?_, fun _ => rfl⟩
    unfold gS
    simp only [e, if_neg h, List.append_nil]
/-- behind all that is due -/
theorem settle_g (v q : Int) (hv : 16 ≤ v) : ∀ (f n : Nat) (fr : List Fb) (L : List Nat), L.length = f → (∀ j ∈ L, j ≤ 8) → n ≤ 8 → ∃ n' more L', (gS n v q fr L).settle.1 = gS n' v q (fr ++ more) L' ∧ (∀ j ∈ L', n' + 1 < j ∧ j ≤ 8) ∧ n ≤ n' ∧ n' ≤ 8 ∧ (q ≤ 0 → more = [])
  | f, n, fr, L, hl, h8, hn => by
    cases hd : (gS n v q fr L).due with
    | none =>
      refine ⟨n, [], L, by rw [Ts.settle_none hd, List.append_nil], fun j hj => ⟨?_, h8 j hj⟩, Nat.le_refl _, hn, fun _ => rfl⟩
      unfold Ts.due at hd
      have h1 := Option.or_eq_none_iff.1 hd
      have h3 := (Option.or_eq_none_iff.1 h1.2).2
      rw [List.findIdx?_eq_none_iff] at h3
      have e1 := List.findIdx?_eq_none_iff.1 h1.1 (brkN j) (List.mem_map.2 ⟨j, hj, rfl⟩)
      have e3 := h3 (brkN j) (List.mem_map.2 ⟨j, hj, rfl⟩)
      unfold Ts.due1 at e1
      unfold Ts.due3 at e3
      have hj8 := h8 j hj
      rw [ahead_g n v q fr L j (by omega)] at e1 e3
      have k3 : (brkN j).kind = 3 := rfl
      rw [k3] at e1
      by_cases hh : n ≤ j
      · rw [if_pos hh] at e1 e3
        have := of_decide_eq_false e3
        simp at e1
        omega
      · rw [if_neg hh] at e3
        have := of_decide_eq_false e3
        omega
    | some i =>
      obtain ⟨m, hm, hdue⟩ := Ts.due_some hd
      have hm' : (L.map brkN)[i]? = some m := hm
      rw [List.getElem?_map] at hm'
      cases hL : L[i]? with
      | none => rw [hL] at hm'; cases hm'
      | some j =>
        rw [hL] at hm'
        have hmj : brkN j = m := Option.some.inj hm'
        subst hmj
        have hjL : j ∈ L := List.mem_of_getElem? hL
        have hj8 := h8 j hjL
        have hi : i < L.length := (List.getElem?_eq_some_iff.1 hL).1
        have hwo : (gS n v q fr L).without i = gS n v q fr (L.eraseIdx i) := by
          unfold Ts.without gS
          simp only []
          rw [List.eraseIdx_eq_take_drop_succ, List.eraseIdx_eq_take_drop_succ, List.map_append, List.map_take, List.map_drop]
        have hlen : (L.eraseIdx i).length = f - 1 := by rw [List.length_eraseIdx_of_lt hi]; omega
        have h8' : ∀ x ∈ L.eraseIdx i, x ≤ 8 := fun x hx => h8 x (List.mem_of_mem_eraseIdx hx)
        have hf : f - 1 < f := by omega
        rw [Ts.settle_some hd hm, hwo]
        unfold Ts.meet
        rw [if_neg (show ¬ (brkN j).kind = 2 by show ¬ (3 : Int) = 2; omega), ahead_g n v q fr _ j (by omega)]
        by_cases hjn : j ≤ n
        · rw [if_pos (by split <;> omega)]
          obtain ⟨n', more, L', a, b, c, d, z⟩ := settle_g v q hv (f - 1) n fr (L.eraseIdx i) hlen h8' hn
          exact ⟨n', more, L', a, b, c, d, z⟩
        · have hj1 : j = n + 1 := by
            rcases hdue with h | h | h
            · unfold Ts.due1 at h
              rw [ahead_g n v q fr L j (by omega), if_pos (by omega)] at h
              simp at h; omega
            · unfold Ts.due2 at h
              have : (brkN j).kind = 3 := rfl
              rw [this] at h; simp at h
            · unfold Ts.due3 at h
              rw [ahead_g n v q fr L j (by omega), if_pos (by omega)] at h
              simp at h; omega
          rw [if_pos (show n ≤ j by omega), if_neg (by omega), if_pos (.inr ⟨rfl, by omega⟩)]
          obtain ⟨m1, hm1, z1⟩ := apply_g n v q fr (L.eraseIdx i) j hj8 hv
          simp only [hm1]
          obtain ⟨n', more, L', a, b, c, d, z⟩ := settle_g v q hv (f - 1) j (fr ++ m1) (L.eraseIdx i) hlen h8' hj8
          exact ⟨n', m1 ++ more, L', by rw [a, List.append_assoc], b, by omega, d, fun h => by rw [z1 h, z h]; rfl⟩
termination_by f => f
/-- an early one, while nothing is applied -/
theorem take_early (L : List Nat) (h : ∀ j ∈ L, 0 + 1 < j ∧ j ≤ 8) (i : Nat) (h1 : 0 + 1 < i) (h2 : i ≤ 8) : ∃ L', (gS 0 0 7 [] L).take (brkN i) = (gS 0 0 7 [] L', []) ∧ ∀ j ∈ L', 0 + 1 < j ∧ j ≤ 8 := by
  have hm : ∃ L', (gS 0 0 7 [] L).meet (brkN i) = (gS 0 0 7 [] L', []) ∧ ∀ j ∈ L', 0 + 1 < j ∧ j ≤ 8 := by
    unfold Ts.meet
    rw [if_neg (show ¬ (brkN i).kind = 2 by show ¬ (3 : Int) = 2; omega), ahead_g 0 0 7 [] L i (by omega), if_pos (Nat.zero_le _), if_neg (by omega), if_neg (by
      rintro (e | e)
      · have : (3 : Int) = 4 := e
        omega
      · omega)]
    unfold Ts.holds
    split
    · refine ⟨L ++ [i], by unfold gS; simp, fun j hj => ?_⟩
      rcases List.mem_append.1 hj with hj | hj
      · exact h j hj
      · rw [List.mem_singleton.1 hj]; exact ⟨h1, h2⟩
    · exact ⟨L, rfl, h⟩
  obtain ⟨L', hm, hL⟩ := hm
  refine ⟨L', ?_, hL⟩
  unfold Ts.take
  rw [if_pos (counts_g 0 0 7 [] L i (by omega)), (begun_g 0 0 7 [] L _ (brkN_ep i (by omega))).1, (begun_g 0 0 7 [] L _ (brkN_ep i (by omega))).2, hm]
  simp only []
  rw [Ts.settle_none (due_g hL)]; rfl
/-- the first of all: it is held, and all is forgotten -/
theorem take_eight : ((Ts.new 1 1 8).ask 7).take (brkN 8) = (gS 0 0 7 [] [8], [allA]) := by
  have hb : ((Ts.new 1 1 8).ask 7).begun (brkN 8) = gS 0 0 7 [] [] := by unfold Ts.begun Ts.restart; rw [brkN_ep 8 (by omega), if_pos (show ((Ts.new 1 1 8).ask 7).e < 1 by show (0 : Int) < 1; omega)]; rfl
  have hbA : ((Ts.new 1 1 8).ask 7).begunA (brkN 8) = [allA] := by unfold Ts.begunA; rw [brkN_ep 8 (by omega), if_pos (show ((Ts.new 1 1 8).ask 7).e < 1 by show (0 : Int) < 1; omega)]
  have hc : ((Ts.new 1 1 8).ask 7).counts (brkN 8) = true := brk_counts (brkN_mk 8 (by omega)) rfl rfl (by show (0 : Int) ≤ 1; omega)
  have hm : (gS 0 0 7 [] []).meet (brkN 8) = (gS 0 0 7 [] [8], []) := by
    unfold Ts.meet
    rw [if_neg (show ¬ (brkN 8).kind = 2 by show ¬ (3 : Int) = 2; omega), ahead_g 0 0 7 [] [] 8 (by omega), if_pos (Nat.zero_le _), if_neg (by omega), if_neg (by
      rintro (e | e)
      · have : (3 : Int) = 4 := e
        omega
      · omega)]
    rfl
  unfold Ts.take
  rw [if_pos hc, hb, hbA, hm]
  simp only []
  rw [Ts.settle_none (due_g (by intro j hj; rw [List.mem_singleton.1 hj]; omega))]; rfl
/-- the law's flush, and its reply -/
def flM (re im : Nat) : Pm := ⟨4, 1, 1, 0, re, im, 40, 0, nilOp, [], []⟩
def enZ : En := ⟨5, ⟨#[122]⟩, true, 0, 0, 0, ⟨#[]⟩⟩
def rpM (re im : Nat) : Pm := ⟨2, 1, 1, 7, re, im, 0, 0, nilOp, [enZ], []⟩
theorem take_flush {re im : Nat} {k : Nat} (hk : Mk re im 1 (k : Nat)) (h1 : 1 ≤ k) (h8 : k ≤ 8) (L : List Nat) (hL : ∀ j ∈ L, 0 + 1 < j ∧ j ≤ 8) : ∃ n fr L' A, (gS 0 0 7 [] L).take (flM re im) = (gS n 40 7 (⟨(k : Int), true, []⟩ :: fr) L', allA :: A) ∧ k ≤ n ∧ n ≤ 8 ∧ ∀ j ∈ L', n + 1 < j ∧ j ≤ 8 := by
  have hn : (flM re im).num = k := hk.pb
  have he : (flM re im).ep = 1 := hk.pa
  have hc : (gS 0 0 7 [] L).counts (flM re im) = true := by
    unfold Ts.counts
    have : (flM re im).ep = 1 := hk.pa
    rw [this]
    simp only [flM, hk.good]
    simp [gS]
  have hm : (gS 0 0 7 [] L).meet (flM re im) = (gS k 40 7 [⟨(k : Int), true, []⟩] L, [allA]) := by
    unfold Ts.meet Ts.ahead
    rw [if_neg (show ¬ (flM re im).kind = 2 by show ¬ (4 : Int) = 2; omega), hn, if_pos (show (gS 0 0 7 [] L).n ≤ (k : Int) by show (0 : Int) ≤ k; omega), if_neg (show ¬ (k : Int) - (gS 0 0 7 [] L).n = 0 by show ¬ (k : Int) - 0 = 0; omega), if_pos (.inl rfl)]
    unfold Ts.apply
    rw [hn]
    rfl
  obtain ⟨n', more, L', a, b, c, d, -⟩ := settle_g 40 7 (by omega) L.length k [⟨(k : Int), true, []⟩] L rfl (fun j hj => (hL j hj).2) h8
  refine ⟨n', more, L', (gS k 40 7 [⟨(k : Int), true, []⟩] L).settle.2, ?_, c, d, b⟩
  unfold Ts.take
  rw [if_pos hc, (begun_g 0 0 7 [] L _ he).1, (begun_g 0 0 7 [] L _ he).2, hm]
  simp only []
  rw [a]; rfl
theorem take_low {n : Nat} {v q : Int} {fr : List Fb} {L : List Nat} (h : ∀ j ∈ L, n + 1 < j ∧ j ≤ 8) (i : Nat) (hi : i ≤ n) (h8 : i ≤ 1000) : (gS n v q fr L).take (brkN i) = (gS n v q fr L, []) := by
  have hm : (gS n v q fr L).meet (brkN i) = (gS n v q fr L, []) := by
    unfold Ts.meet
    rw [if_neg (show ¬ (brkN i).kind = 2 by show ¬ (3 : Int) = 2; omega), ahead_g n v q fr L i h8, if_pos (by split <;> omega)]
  unfold Ts.take
  rw [if_pos (counts_g n v q fr L i h8), (begun_g n v q fr L _ (brkN_ep i h8)).1, (begun_g n v q fr L _ (brkN_ep i h8)).2, hm]
  simp only []
  rw [Ts.settle_none (due_g h)]; rfl
def rpA : Ac := ⟨false, false, true, false, [], 0, []⟩
theorem take_reply {re im : Nat} {p k n : Nat} {fr : List Fb} {L : List Nat} (hp : Mk re im 1 (p : Nat)) (hpk : p < k) (hk : k ≤ n) (hL : ∀ j ∈ L, n + 1 < j ∧ j ≤ 8) : (gS n 40 7 (⟨(k : Int), true, []⟩ :: fr) L).take (rpM re im) = (gS n 40 0 [] L, [rpA]) := by
  obtain ⟨s, hs⟩ : ∃ s, gS n 40 7 (⟨(k : Int), true, []⟩ :: fr) L = s := ⟨_, rfl⟩
  have hn : (rpM re im).num = p := hp.pb
  have he : (rpM re im).ep = 1 := hp.pa
  have hc : (gS n 40 7 (⟨(k : Int), true, []⟩ :: fr) L).counts (rpM re im) = true := by
    unfold Ts.counts
    rw [he]
    simp only [rpM, hp.good]
    simp [gS]
  have h0 : (gS n 40 7 (⟨(k : Int), true, []⟩ :: fr) L).ahead (rpM re im) = 0 := by
    unfold Ts.ahead
    rw [hn]
    show (if (n : Int) ≤ (p : Int) then _ else _) = _
    rw [if_neg (by omega)]
  have hu : (gS n 40 7 (⟨(k : Int), true, []⟩ :: fr) L).usedA (rpM re im) = rpA := by
    unfold Ts.usedA
    rw [if_neg (show ¬ (rpM re im).err = 70 by show ¬ (0 : Int) = 70; omega), hn]
    have e1 : wholeF (gS n 40 7 (⟨(k : Int), true, []⟩ :: fr) L).fr (p : Int) = false := by
      show ((⟨(k : Int), true, []⟩ :: fr).all fun b => decide (b.n ≤ (p : Int))) = false
      rw [List.all_cons]
      simp only []
      rw [decide_eq_false (by omega), Bool.false_and]
    have e2 : left (gS n 40 7 (⟨(k : Int), true, []⟩ :: fr) L).fr (p : Int) (rpM re im).es = [] := by
      show List.filter _ [enZ] = []
      have : named (⟨(k : Int), true, []⟩ :: fr) (p : Int) ⟨enZ.d, enZ.nm⟩ = true := by
        unfold named
        rw [List.any_cons]
        simp only [Fb.names, Bool.true_or, Bool.and_true]
        rw [decide_eq_true (by omega), Bool.true_or]
      show List.filter (fun e : En => !named (⟨(k : Int), true, []⟩ :: fr) (p : Int) ⟨e.d, e.nm⟩) [enZ] = []
      rw [List.filter_cons, this]; rfl
    rw [e1, e2]; rfl
  have hm : (gS n 40 7 (⟨(k : Int), true, []⟩ :: fr) L).meet (rpM re im) = (gS n 40 0 [] L, [rpA]) := by
    unfold Ts.meet
    rw [if_pos (show (rpM re im).kind = 2 from rfl), if_pos (show (gS n 40 7 (⟨(k : Int), true, []⟩ :: fr) L).asks (rpM re im).seq = true from rfl), if_pos h0, hu]
    unfold Ts.used
    rw [if_neg (show ¬ (rpM re im).err = 70 by show ¬ (0 : Int) = 70; omega)]
    rfl
  unfold Ts.take
  rw [if_pos hc, (begun_g n 40 7 _ L _ he).1, (begun_g n 40 7 _ L _ he).2, hm]
  simp only []
  rw [Ts.settle_none (due_g hL)]; rfl
/-- the breaks that are left, one by one -/
theorem take_on {n : Nat} {L : List Nat} (h : ∀ j ∈ L, n + 1 < j ∧ j ≤ 8) (hn : n ≤ 8) (i : Nat) (hi : i ≤ n) (h8 : i < 8) : ∃ n' L' A, (gS n 40 0 [] L).take (brkN (i + 1)) = (gS n' 40 0 [] L', A) ∧ (∀ j ∈ L', n' + 1 < j ∧ j ≤ 8) ∧ i + 1 ≤ n' ∧ n' ≤ 8 := by
  by_cases hin : i + 1 ≤ n
  · exact ⟨n, L, [], take_low h (i + 1) hin (by omega), h, hin, hn⟩
  · have e : i = n := by omega
    subst e
    obtain ⟨n', more, L', a, b, c, d, z⟩ := settle_g 40 0 (by omega) L.length (i + 1) [] L rfl (fun j hj => (h j hj).2) (by omega)
    obtain rfl := z (by omega)
    obtain ⟨m1, hap, z1⟩ := apply_g i 40 0 [] L (i + 1) (by omega) (by omega)
    obtain rfl := z1 (by omega)
    have hm : (gS i 40 0 [] L).meet (brkN (i + 1)) = (gS (i + 1) 40 0 [] L, [actOf (brkN (i + 1))]) := by
      unfold Ts.meet
      rw [if_neg (show ¬ (brkN (i + 1)).kind = 2 by show ¬ (3 : Int) = 2; omega), ahead_g i 40 0 [] L (i + 1) (by omega), if_pos (show i ≤ i + 1 by omega), if_neg (show ¬ ((i + 1 : Nat) : Int) - (i : Int) = 0 by omega), if_pos (.inr ⟨rfl, by omega⟩), hap]
      rfl
    refine ⟨n', L', [actOf (brkN (i + 1))] ++ (gS (i + 1) 40 0 [] L).settle.2, ?_, b, c, d⟩
    unfold Ts.take
    rw [if_pos (counts_g i 40 0 [] L (i + 1) (by omega)), (begun_g i 40 0 [] L _ (brkN_ep (i + 1) (by omega))).1, (begun_g i 40 0 [] L _ (brkN_ep (i + 1) (by omega))).2, hm]
    simp only []
    rw [a]; rfl
end
section
open Go.RowKit Go.Shelf

/-- what has come: one to n, and those of L -/
def Came (n : Nat) (L : List Nat) (j : Nat) : Prop := (1 ≤ j ∧ j ≤ n) ∨ j ∈ L
theorem came_erase {n : Nat} {L : List Nat} (hok : bOk n L) (hm : n + 1 ∈ L) (j : Nat) : Came n L j ↔ Came (n + 1) (L.erase (n + 1)) j := by
  unfold Came
  rw [hok.once.mem_erase_iff]
  constructor
  · rintro (h | h)
    · exact .inl ⟨h.1, by omega⟩
    · by_cases e : j = n + 1
      · exact .inl ⟨by omega, by omega⟩
      · exact .inr ⟨e, h⟩
  · rintro (h | h)
    · by_cases e : j = n + 1
      · rw [e]; exact .inr hm
      · exact .inl ⟨h.1, by omega⟩
    · exact .inr h.2
theorem came_settle : ∀ (f n : Nat) (L : List Nat), bOk n L → L.length = f → ∀ j, Came n L j ↔ Came (settleN f n L).1 (settleN f n L).2 j
  | 0, n, L, _, _, j => Iff.rfl
  | f + 1, n, L, hok, hl, j => by
    by_cases hm : n + 1 ∈ L
    · have hs : settleN (f + 1) n L = settleN f (n + 1) (L.erase (n + 1)) := by
        show (if n + 1 ∈ L then _ else _) = _
        rw [if_pos hm]
      have hlen : (L.erase (n + 1)).length = f := by rw [List.length_erase_of_mem hm]; omega
      rw [hs, came_erase hok hm j]
      exact came_settle f (n + 1) (L.erase (n + 1)) hok.next hlen j
    · have hs : settleN (f + 1) n L = (n, L) := by
        show (if n + 1 ∈ L then _ else _) = _
        rw [if_neg hm]
      rw [hs]
/-- a list of numbers that lie between, each once, is short -/
theorem few_between0 (a : Nat) : ∀ (d : Nat) (L : List Nat), (∀ i ∈ L, a < i ∧ i ≤ a + d) → L.Nodup → L.length ≤ d
  | 0, L, h, _ => by
    cases L with
    | nil => exact Nat.le_refl _
    | cons x l => have := h x (List.mem_cons_self ..); omega
  | d + 1, L, h, ho => by
    by_cases hm : a + d + 1 ∈ L
    · have h1 := few_between0 a d (L.erase (a + d + 1)) (fun i hi => by
        have h1 := h i (List.mem_of_mem_erase hi)
        have h2 : i ≠ a + d + 1 := (ho.mem_erase_iff.1 hi).1
        omega) (ho.erase _)
      rw [List.length_erase_of_mem hm] at h1
      omega
    · have h1 := few_between0 a d L (fun i hi => by
        have h1 := h i hi
        have h2 : i ≠ a + d + 1 := (by rintro rfl; exact hm hi)
        omega) ho
      omega
theorem few_between (L : List Nat) (a b : Nat) (hab : a ≤ b) (h : ∀ i ∈ L, a < i ∧ i ≤ b) (ho : L.Nodup) : L.length ≤ b - a := by
  refine few_between0 a (b - a) L (fun i hi => ?_) ho
  have := h i hi
  omega
/-- one more has come -/
theorem came_step {n : Nat} {L : List Nat} {i : Nat} (hr : bRest n L) (h8 : ∀ j ∈ L, j ≤ 8) (hi : 1 ≤ i) (hi8 : i ≤ 8) (j : Nat) : (Came n L j ∨ j = i) ↔ Came (stepN 8 n L i).1 (stepN 8 n L i).2 j := by
  unfold stepN
  by_cases h1 : i ≤ n
  · rw [if_pos h1]
    constructor
    · rintro (h | h)
      · exact h
      · exact .inl ⟨by omega, by omega⟩
    · exact .inl
  · rw [if_neg h1]
    by_cases h2 : i = n + 1
    · subst h2
      rw [if_pos rfl, ← came_settle L.length (n + 1) L hr.ok1 rfl j]
      constructor
      · rintro ((h | h) | h)
        · exact .inl ⟨h.1, by omega⟩
        · exact .inr h
        · exact .inl ⟨by omega, by omega⟩
      · rintro (h | h)
        · by_cases e : j = n + 1
          · exact .inr e
          · exact .inl (.inl ⟨h.1, by omega⟩)
        · exact .inl (.inr h)
    · rw [if_neg h2]
      have hlen : L.length < 8 := by
        have := few_between L (n + 1) 8 (by omega) (fun q hq => ⟨hr.up q hq, h8 q hq⟩) hr.once
        omega
      unfold heldN Came
      by_cases hm : i ∈ L
      · rw [if_neg (fun e => e.2 hm)]
        constructor
        · rintro (h | h)
          · exact h
          · rw [h]; exact .inr hm
        · exact .inl
      · rw [if_pos ⟨hlen, hm⟩]
        constructor
        · rintro ((h | h) | h)
          · exact .inl h
          · exact .inr (List.mem_append.2 (.inl h))
          · exact .inr (List.mem_append.2 (.inr (List.mem_singleton.2 h)))
        · rintro (h | h)
          · exact .inl (.inl h)
          · rcases List.mem_append.1 h with h | h
            · exact .inl (.inr h)
            · exact .inr (List.mem_singleton.1 h)
theorem step_le (h n : Nat) (L : List Nat) (i : Nat) : n ≤ (stepN h n L i).1 := by
  unfold stepN
  by_cases h1 : i ≤ n
  · rw [if_pos h1]; exact Nat.le_refl _
  · rw [if_neg h1]
    by_cases h2 : i = n + 1
    · rw [if_pos h2]
      have := settleN_le L.length (n + 1) L
      omega
    · rw [if_neg h2]; exact Nat.le_refl _
theorem came_not {n : Nat} {L : List Nat} (hr : bRest n L) : ¬ Came n L (n + 1) := by
  rintro (h | h)
  · omega
  · have := hr.up _ h; omega
end
end Go.Proofs.Ytnklhdoiggomkab
