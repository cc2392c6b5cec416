/- The chapter's own table: Ack, New. -/
import Derived.Test.YtaofhjckliobpaaVrG
namespace Go.Proofs.Ytaofhjckliobpaa
open Go.RowKit Go.Shelf
attribute [local go_sem high] eqK neqK guardK run_store_complex

theorem parts_yes2 (a b : Nat) (w : World) (h : goodB a b = true) : Calls Try.prog 46 #[.complex .f64 a b] w fun e w' => e = .returned (.tuple #[.int .i64 (part a), .int .i64 (part b), .bool true]) ∧ w' = w := by
  have := parts_any a b w
  rw [h, if_pos rfl, if_pos rfl] at this
  exact this
theorem parts_no2 (a b : Nat) (w : World) (h : goodB a b = false) : Calls Try.prog 46 #[.complex .f64 a b] w fun e w' => e = .returned (.tuple #[.int .i64 0, .int .i64 0, .bool false]) ∧ w' = w := by
  have := parts_any a b w
  rw [h, if_neg (by decide), if_neg (by decide)] at this
  exact this
theorem RowB.brk {w : World} {base n cap i : Nat} {a : Option Addr} {bs : List Br} {p : Br} (h : RowB w base (.slice a n cap) bs) (hi : bs[i]? = some p) : ∃ g, a = some ⟨g, 0, none⟩ ∧ base ≤ g ∧ g < w.heap.size ∧ w.cell? ⟨g, i * 4, none⟩ = some (.complex .f64 p.a p.b) ∧ w.cell? ⟨g, i * 4 + 1, none⟩ = some (.int .i64 p.ver) ∧ w.cell? ⟨g, i * 4 + 2, none⟩ = some (.bool p.all) ∧ w.cell? ⟨g, i * 4 + 3, none⟩ = some (.slice p.va p.vn p.vc) ∧ ∀ j, w.frozen? ⟨g, j, none⟩ = false := by
  rcases h.2 with ⟨-, e2⟩ | ⟨g, cap', cur, e, -⟩
  · rw [List.length_eq_zero_iff.1 e2] at hi; cases hi
  · cases e
    obtain ⟨hc, hf, -, -, hg, hlt⟩ := owns_cells h
    obtain ⟨l0, l1, l2, l3⟩ := bc_get bs i p hi
    exact ⟨g, rfl, hg, hlt, hc _ _ l0, hc _ _ l1, hc _ _ l2, hc _ _ l3, hf⟩
/-- the breaks behind a number -/
def aftB (n : Int) (bs : List Br) : List Br := bs.filter fun b => decide (n < part b.b)
theorem aft_step {n : Int} {bs : List Br} {j : Nat} {x : Br} (hx : bs[j]? = some x) : aftB n (bs.take (j + 1)) = aftB n (bs.take j) ++ (if n < part x.b then [x] else []) := by
  rw [List.take_add_one, hx]
  unfold aftB
  rw [List.filter_append]
  by_cases h : n < part x.b <;> simp [h]
theorem aftB_le (n : Int) (l : List Br) : (aftB n l).length ≤ l.length := List.length_filter_le _ _
theorem aft_say (n : Int) (bs : List Br) : (aftB n bs).map Br.say = (bs.map Br.say).filter fun b => decide (n < b.n) := by
  unfold aftB
  induction bs with
  | nil => rfl
  | cons a l ih =>
    rw [List.filter_cons, List.map_cons, List.filter_cons]
    by_cases h : n < part a.b
    · rw [if_pos (decide_eq_true h), if_pos (decide_eq_true (show n < a.say.n from h)), List.map_cons, ih]
    · rw [if_neg (by simp [h]), if_neg (by show ¬ decide (n < a.say.n) = true; simp [show ¬ n < a.say.n from h]), ih]
theorem one_br (w : World) (m : Br) : ∀ j v, m.vals[j]? = some v → (w.alloc (.cells #[.complex .f64 m.a m.b, .int .i64 m.ver, .bool m.all, .slice m.va m.vn m.vc] 57)).cell? ((⟨w.heap.size, 0, none⟩ : Addr).add j) = some v := four_at w _ _ _ _ _
set_option maxHeartbeats 8000000 in
set_option maxRecDepth 20000 in
theorem rack_yes (t B : Nat) (s : Vt) (c d : Nat) (w : World) (h : IsW w B t s) (hg : gapB c d s.a s.b = true) :
    Calls Try.prog 24 #[.pointer (some ⟨t, 0, none⟩), .complex .f64 c d] w fun e w' => e = .returned (.bool true) ∧ ∃ s', SW w w' B t s s' ∧ s'.say = s.say.ack (part d) := by
  obtain ⟨i1, hi1, hw0, hw1, hw2⟩ := info_parts Try.infoBr
  unfold gapB at hg
  simp only [Bool.and_eq_true, decide_eq_true_eq] at hg
  obtain ⟨⟨hg1, hg2⟩, hg3, hg4⟩ := hg
  have hp1 := fun W => parts_yes2 c d W hg1
  have hp2 := fun W => parts_yes2 s.a s.b W hg2
  obtain ⟨a, cap, hv⟩ := owns_len h.rb
  obtain ⟨n, hn⟩ : ∃ n, s.bs.length = n := ⟨_, rfl⟩
  have hn16 : n ≤ 16 := by rw [← hn]; have := h.lb; have := h.lq; omega
  rw [hn] at hv
  have HR : Hid (∀ W, Below w.heap.size w W → RowB W B (.slice a n cap) s.bs ∧ W.cell? ⟨t, 4, none⟩ = some (.slice a n cap) ∧ (∀ i, W.frozen? ⟨t, i, none⟩ = false) ∧ s.bs.length = n) := fun W hb => by
    have h2 := (h.below hb).cells.2.2.1
    have h3 := (h.below hb).rb
    rw [hv] at h2 h3
    exact ⟨h3, h2, (h.below hb).cells.2.2.2.2.2, hn⟩
  have HP : Hid (∀ x ∈ s.bs, ∀ W, Calls Try.prog 46 #[.complex .f64 x.a x.b] W fun e w' => e = .returned (.tuple #[.int .i64 (part x.a), .int .i64 (part x.b), .bool true]) ∧ w' = W) := fun x hx W => parts_yes2 _ _ W (h.each x hx).2.2.1.good
  have HS : Hid (∀ W v', Below w.heap.size w W → RowB W w.heap.size v' (aftB (part d) s.bs) → SW w (W.setCell ⟨t, 4, none⟩ v') B t s { s with qv := v', bs := aftB (part d) s.bs }) := fun W v' hb hr => by
    have hmem : ∀ b ∈ aftB (part d) s.bs, b ∈ s.bs := fun b hb => (List.mem_filter.1 hb).1
    exact (h.putQ (Only.of hb) v' _ (owns_le hr h.bw) (Nat.le_trans (aftB_le _ _) h.lb) (fun q hq => .inr (hr.lt hq).1) (fun b hb => h.each b (hmem b hb)) (fun _ => False) (fun b hb => .inl (hmem b hb))).sv fun _ h => h.elim
  obtain ⟨c0, -, -, -, -, -⟩ := h.cells
  have he : (part c != part s.a) = false := by simp [hg3]
  have hgt : ¬ part s.b < part d := by omega
  obtain ⟨pc, hpc⟩ : ∃ x, part c = x := ⟨_, rfl⟩
  obtain ⟨pd, hpd⟩ : ∃ x, part d = x := ⟨_, rfl⟩
  obtain ⟨pa, hpa⟩ : ∃ x, part s.a = x := ⟨_, rfl⟩
  obtain ⟨pb, hpb⟩ : ∃ x, part s.b = x := ⟨_, rfl⟩
  rw [hpc, hpd] at hp1
  rw [hpa, hpb] at hp2
  rw [hpc, hpa] at he
  rw [hpb, hpd] at hgt
  rw [hpd] at HS ⊢
  clear h hv hn hg1 hg2 hg3 hg4 hpc hpd hpa hpb
  go_enter Try.func24, Try.ntmps24
  go_upto_region 2 with (go_at_call 46; refine (hp1 _).mono ?_; rintro e w' ⟨rfl, hw'⟩; rw [hw'])
  clear hp1
  go_wp2_with (go_at_call 46; refine (hp2 _).mono ?_; rintro e w' ⟨rfl, hw'⟩; rw [hw'])
  go_loopw [11, 12, 13, 14, 15] (fun s11 s12 _ _ _ wr => ∃ j : Nat, j ≤ n ∧ s12 = .int .i64 j ∧ Hid (RowB wr w.heap.size s11 (aftB pd (s.bs.take j)) ∧ Below w.heap.size w wr)) (fun _ s12 _ _ _ _ => n - (intOf s12).toNat)
  case atStart => exact ⟨0, Nat.zero_le _, rfl, World.ownsRow_nil _ _ _ _, Below.refl _ _⟩
  case round =>
    rename World => W0
    obtain ⟨j, hj, rfl, HI⟩ := hrel
    obtain ⟨hrow, c4, -, -⟩ := HR.out W0 HI.out.2
    obtain ⟨a4, q4, h4⟩ := owns_len HI.out.1
    obtain ⟨n4, hn4⟩ : ∃ m, (aftB pd (s.bs.take j)).length = m := ⟨_, rfl⟩
    rw [hn4] at h4
    subst h4
    have hn4j : n4 ≤ j := by rw [← hn4]; refine Nat.le_trans (aftB_le _ _) ?_; rw [List.length_take]; omega
    by_cases hlt : j < n
    · obtain ⟨x, hx⟩ : ∃ x, s.bs[j]? = some x := ⟨_, List.getElem?_eq_getElem (by rw [(HR.out W0 HI.out.2).2.2.2]; exact hlt)⟩
      obtain ⟨g, rfl, -, -, x0, x1, x2, x3, -⟩ := hrow.brk hx
      have hki : (j : Int) < (n : Int) := by omega
      have hpx := HP.out x (List.mem_of_getElem? hx)
      have hstep := aft_step (n := pd) hx
      obtain ⟨px, hpx'⟩ : ∃ y, part x.b = y := ⟨_, rfl⟩
      obtain ⟨pxa, hpxa⟩ : ∃ y, part x.a = y := ⟨_, rfl⟩
      rw [hpx', hpxa] at hpx
      rw [hpx'] at hstep
      clear hx hrow hpx' hpxa
      by_cases hq : pd < px
      · rw [if_pos hq] at hstep
        have HT : Hid (aftB pd (s.bs.take (j + 1)) = aftB pd (s.bs.take j) ++ [x] ∧ (aftB pd (s.bs.take j)).length = n4) := ⟨hstep, hn4⟩
        have HO : Hid (W0.ownsRow w.heap.size 57 4 (.slice a4 n4 q4) n4 (bc (aftB pd (s.bs.take j)))) := by
          have := HI.out.1
          unfold RowB at this
          rw [hn4] at this; exact this
        clear hstep hn4
        go_wp2_with (first
          | (go_at_call 46; refine (hpx _).mono ?_; rintro e w' ⟨rfl, hw'⟩; rw [hw'])
          | (at_builtin; refine wpList_append_own _ rfl _ _ 40 rfl w.heap.size 57 i1 (.agg #[.complex .f64 0 0, .int .i64 0, .bool false, .slice none 0 0]) 4 56 Try.underlying40 hi1 hw0 hw1 hw2 rfl (by decide) _ n4 (bc (aftB pd (s.bs.take j))) rfl (World.ownsRow.alloc HO.out _) ⟨W0.heap.size, 0, none⟩ 1 1 x.vals rfl rfl (one_br _ x) (br_one _) (by unfold maxLen; omega) (by omega) (by have := HI.out.2.size; simp; omega) ?_; intro v5 w5 hown5 hgrow5 _))
        refine ⟨⟨j + 1, by omega, by simp, ?_, ?_⟩, by simp [intOf]; omega⟩
        · rw [HT.out.1]
          show World.ownsRow _ _ _ _ _ _ _
          have e : bc [x] = x.vals := by unfold bc; simp
          rw [List.length_append, HT.out.2, bc_app, e]; exact hown5
        · have hb := HI.out.2
          exact (hb.alloc (by have := hb.size; omega) _).grown hgrow5 (by have := hb.size; simp; omega) (fun q hq => (HO.out.lt q hq).1)
      · rw [if_neg hq, List.append_nil] at hstep
        have HT : Hid (aftB pd (s.bs.take (j + 1)) = aftB pd (s.bs.take j)) := hstep
        clear hstep hn4
        go_wp2_with (go_at_call 46; refine (hpx _).mono ?_; rintro e w' ⟨rfl, hw'⟩; rw [hw'])
        exact ⟨⟨j + 1, by omega, by simp, by rw [HT.out]; exact HI.out.1, HI.out.2⟩, by simp [intOf]; omega⟩
    · have hkl : j = n := by omega
      subst hkl
      have hki : ¬ (j : Int) < (j : Int) := by omega
      have htk : s.bs.take j = s.bs := List.take_of_length_le (by rw [(HR.out W0 HI.out.2).2.2.2]; omega)
      have HF : Hid (SW w (W0.setCell ⟨t, 4, none⟩ (.slice a4 n4 q4)) B t s { s with qv := .slice a4 n4 q4, bs := aftB pd s.bs }) := HS.out W0 _ HI.out.2 (by have := HI.out.1; rw [htk] at this; exact this)
      have cf4 := (HR.out W0 HI.out.2).2.2.1 4
      clear hrow hn4 htk HS
      go_wp2
      go_ret
      refine ⟨rfl, _, HF.out, ?_⟩
      show Vs.mk _ _ _ ((aftB pd s.bs).map Br.say) _ _ = _
      rw [aft_say]
      rfl
theorem rack_p (t B : Nat) (s : Vt) (c d : Nat) (w : World) (h : IsW w B t s) :
    Calls Try.prog 24 #[.pointer (some ⟨t, 0, none⟩), .complex .f64 c d] w fun e w' => e = .returned (.bool (gapB c d s.a s.b)) ∧ ∃ s', SW w w' B t s s' ∧ s'.say = if gapB c d s.a s.b then s.say.ack (part d) else s.say := by
  cases hg : gapB c d s.a s.b with
  | true => exact rack_yes t B s c d w h hg
  | false =>
    have hgm := h.mkk.good
    have hp2 := fun W => parts_yes2 s.a s.b W hgm
    obtain ⟨c0, -, -, -, -, -⟩ := h.cells
    have HF : Hid (SW w w B t s s) := SW.stay h (Below.refl _ _)
    clear h
    cases hgc : goodB c d with
    | false =>
      have hp1 := fun W => parts_no2 c d W hgc
      clear hg hgm
      go_enter Try.func24, Try.ntmps24
      go_upto_region 2 with (go_at_call 46; refine (hp1 _).mono ?_; rintro e w' ⟨rfl, hw'⟩; rw [hw'])
      clear hp1
      go_wp2_with (go_at_call 46; refine (hp2 _).mono ?_; rintro e w' ⟨rfl, hw'⟩; rw [hw'])
      go_ret
      exact ⟨rfl, s, HF.out, rfl⟩
    | true =>
      have hp1 := fun W => parts_yes2 c d W hgc
      unfold gapB at hg
      rw [hgc, hgm] at hg
      simp only [Bool.true_and, decide_eq_false_iff_not] at hg
      by_cases he : part c = part s.a
      · have he' : (part c != part s.a) = false := by simp [he]
        have hgt : part s.b < part d := by
          rcases Int.lt_or_le (part s.b) (part d) with h | h
          · exact h
          · exact absurd ⟨he, h⟩ hg
        clear hg hgm hgc he
        go_enter Try.func24, Try.ntmps24
        go_upto_region 2 with (go_at_call 46; refine (hp1 _).mono ?_; rintro e w' ⟨rfl, hw'⟩; rw [hw'])
        clear hp1
        go_wp2_with (go_at_call 46; refine (hp2 _).mono ?_; rintro e w' ⟨rfl, hw'⟩; rw [hw'])
        go_ret
        exact ⟨rfl, s, HF.out, rfl⟩
      · have he' : (part c != part s.a) = true := by simp [he]
        clear hg hgm hgc he
        go_enter Try.func24, Try.ntmps24
        go_upto_region 2 with (go_at_call 46; refine (hp1 _).mono ?_; rintro e w' ⟨rfl, hw'⟩; rw [hw'])
        clear hp1
        go_wp2_with (go_at_call 46; refine (hp2 _).mono ?_; rintro e w' ⟨rfl, hw'⟩; rw [hw'])
        go_ret
        exact ⟨rfl, s, HF.out, rfl⟩
end Go.Proofs.Ytaofhjckliobpaa
