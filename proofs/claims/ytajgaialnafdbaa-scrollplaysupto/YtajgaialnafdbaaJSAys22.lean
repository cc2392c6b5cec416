/- Both disks of the laws, side by side, with any blocks on them. -/
import Derived.Test.YtajgaialnafdbaaJSAys21
import Derived.Test.YtajgaialnafdbaaJSAys00
namespace Go.Proofs.Ytajgaialnafdbaa
section
open Go.RowKit

/-- a law's two disks -/
structure Dk (w0 w : World) (b g r : Nat) (s : Dsk) (R : Rf) (N k : Nat) : Prop where
  dk : IsD w b g s
  rf : IsRf w r R
  sim : Sim s R
  byt : BytC s.cs
  n : R.n = N
  few : R.did.length ≤ k
  bel : Below w0.heap.size w0 w
  lb : w0.heap.size ≤ b
  lg : w0.heap.size ≤ g
  lr : w0.heap.size ≤ r
  lv : ∀ q, R.v.ownBlock = some q → w0.heap.size ≤ q
theorem Dk.below {w0 w w' : World} {b g r : Nat} {s : Dsk} {R : Rf} {N k : Nat} (h : Dk w0 w b g r s R N k) (hb : Below w.heap.size w w') : Dk w0 w' b g r s R N k :=
  ⟨h.dk.below hb, h.rf.below hb, h.sim, h.byt, h.n, h.few, chainB h.bel hb, h.lb, h.lg, h.lr, h.lv⟩
theorem Dk.mono {w0 w : World} {b g r : Nat} {s : Dsk} {R : Rf} {N k k' : Nat} (h : Dk w0 w b g r s R N k) (hk : k ≤ k') : Dk w0 w b g r s R N k' :=
  ⟨h.dk, h.rf, h.sim, h.byt, h.n, Nat.le_trans h.few hk, h.bel, h.lb, h.lg, h.lr, h.lv⟩
theorem byt_wr {s : Dsk} (h : BytC s.cs) (i : Int) {l : List Int} (hl : Byt l) : BytC (s.wr i l).cs := by
  unfold Dsk.wr
  split
  · split
    · split
      · intro x hx
        rcases List.mem_or_eq_of_mem_set hx with hx | rfl
        · exact h x hx
        · exact hl
      · rw [spend_cs]; exact h
    · exact h
  · exact h
/-- the same block written into both -/
theorem Dk.wrote {w0 w w1 w2 : World} {b g r : Nat} {s : Dsk} {R R' : Rf} {N k : Nat} (h : Dk w0 w b g r s R N k) (i : Int) (l : List Int) (hl : Byt l) (h1 : IsD w1 b g (s.wr i l)) (hO1 : Only (fun x => x = b ∨ x = g) w w1)
    (h2 : IsRf w2 r R') (hA : R.After R' i l) (hO2 : Only (fun x => x = r ∨ R.v.ownBlock = some x) w1 w2) (hv : R'.v.ownBlock = R.v.ownBlock ∨ ∀ q, R'.v.ownBlock = some q → w1.heap.size ≤ q) : Dk w0 w2 b g r (s.wr i l) R' N (k + 1) := by
  obtain ⟨a1, a2, a3⟩ := h.sim.write i l hA
  have hr1 := h.rf.disk h.dk hO1
  refine ⟨h1.ref hr1 hO2, h2, a1, byt_wr h.byt i hl, a2.trans h.n, by have := h.few; omega, ?_, h.lb, h.lg, h.lr, ?_⟩
  · have e1 : Below w0.heap.size w0 w1 := hO1.below h.bel h.bel.size (fun q hq => hq.elim (fun e => e ▸ h.lb) (fun e => e ▸ h.lg))
    exact hO2.below e1 e1.size (fun q hq => hq.elim (fun e => e ▸ h.lr) (h.lv q))
  · intro q hq
    rcases hv with e | e
    · rw [e] at hq; exact h.lv q hq
    · have := e q hq; have := h.bel.size; have := hO1.size; omega

def blkL (l : List Int) (k : Nat) : List Int := fillB ((l.drop (64 * k)).take 64)
theorem blkL_len (l : List Int) (k : Nat) : (blkL l k).length = 64 := fillB_len (by rw [List.length_take]; omega)
theorem byt_blk {l : List Int} (h : Byt l) (k : Nat) : Byt (blkL l k) := byt_fill (byt_take (byt_drop h _) _)
/-- what is left of bytes from a place on -/
theorem rb_drop {w : World} {g off n cap : Nat} {l : List Int} (h : RB w (.slice (some ⟨g, off, none⟩) n cap) l) (hn : l.length = n) (k : Nat) (hk : k < n) (c : Nat) : RB w (.slice (some ⟨g, off + k, none⟩) (n - k) c) (l.drop k) := by
  obtain ⟨a, cap', e, h⟩ := h
  cases e
  refine ⟨_, c, by rw [List.length_drop], .inr ?_⟩
  rcases h with rfl | ⟨g', off', e, hg, hc⟩
  · simp at hk
  · cases e
    exact ⟨g, off + k, rfl, hg, fun i x hx => by rw [List.getElem?_drop] at hx; rw [Nat.add_assoc]; exact hc _ _ hx⟩
theorem OwnB.some {w : World} {base : Nat} {v : Value} {l : List Int} {m : Nat} (h : OwnB w base v l) (hl : l.length = m) (hm : 1 ≤ m) : ∃ g c, v = .slice (some ⟨g, 0, none⟩) m c ∧ m ≤ c ∧ base ≤ g ∧ g < w.heap.size := by
  rcases h.form with ⟨_, rfl⟩ | ⟨g, c, rfl, h1, h2, h3, _⟩
  · simp at hl; omega
  · exact ⟨g, c, by rw [hl], by omega, h1, h2⟩
theorem blk_gt {w : World} {base g3 c3 m k : Nat} {l : List Int} (h : OwnB w base (.slice (some ⟨g3, 0, none⟩) m c3) (l.drop (64 * k))) (hl : (l.drop (64 * k)).length = m) (hm : 64 < m) : OwnB w base (.slice (some ⟨g3, 0, none⟩) 64 c3) (blkL l k) := by
  have e : blkL l k = (l.drop (64 * k)).take 64 := by
    unfold blkL fillB
    rw [List.length_take, hl, show 64 - min 64 m = 0 by omega]; simp
  rw [e]
  refine OwnB.front (m := m - 64) (l2 := (l.drop (64 * k)).drop 64) ?_ (by rw [List.length_take, hl]; omega) (by rw [List.length_drop, hl])
  rw [List.take_append_drop, show 64 + (m - 64) = m by omega]
  exact h
theorem blk_le {w : World} {base m k : Nat} {v : Value} {l : List Int} (h : OwnB w base v (l.drop (64 * k) ++ List.replicate (64 - m) 0)) (hl : (l.drop (64 * k)).length = m) (hm : m ≤ 64) : OwnB w base v (blkL l k) := by
  have e : blkL l k = l.drop (64 * k) ++ List.replicate (64 - m) 0 := by
    unfold blkL fillB
    rw [List.take_of_length_le (by omega), hl]
  rw [e]; exact h
theorem own_disk {w0 w w' : World} {b g r : Nat} {s : Dsk} {R : Rf} {N k base : Nat} {v : Value} {l : List Int} (h : OwnB w base v l) (hK : Dk w0 w b g r s R N k) (hO : Only (fun x => x = b ∨ x = g) w w') : OwnB w' base v l :=
  h.moved fun q hq => hO.block q (h.tag hq).lt (fun e => e.elim ((h.tag hq).ne hK.dk.tb (by decide)) ((h.tag hq).ne hK.dk.tg (by decide)))
theorem new_no' (n : Int) (w : World) (h : n < 1 ∨ 1024 < n) :
    Calls Try.prog 25 #[.int .i64 n] w fun e w' => e = .returned (.tuple #[.pointer none, .int .i64 1]) ∧ w = w' := (rnew_no n w h).mono fun _ _ h => ⟨h.1, h.2.symm⟩
set_option maxRecDepth 100000 in
set_option maxHeartbeats 2000000 in
theorem disks_no (n : Int) (a : Option Addr) (len cap : Nat) (w : World) (h : n < 1 ∨ 1024 < n) :
    Calls Try.prog 4 #[.int .i64 n, .slice a len cap] w fun e w' => e = .returned (.tuple #[.pointer none, .pointer none, .bool false]) ∧ w' = w := by
  have H1 : Hid (∀ w, Calls Try.prog 24 #[.int .i64 n] w fun e w' => e = .returned (.tuple #[.pointer none, .int .i64 1]) ∧ w = w') := fun w => (new_no n w h).mono fun _ _ h => ⟨h.1, h.2.symm⟩
  have H2 : Hid (∀ w, Calls Try.prog 25 #[.int .i64 n] w fun e w' => e = .returned (.tuple #[.pointer none, .int .i64 1]) ∧ w = w') := fun w => new_no' n w h
  clear h
  go_enter Try.func4, Try.ntmps4
  go_wp2_with (first
    | (go_at_call 24; refine (H1.out _).mono ?_; rintro e w1 ⟨rfl, rfl⟩)
    | (go_at_call 25; refine (H2.out _).mono ?_; rintro e w1 ⟨rfl, rfl⟩))
  go_ret3
  exact ⟨rfl, rfl⟩
set_option maxRecDepth 100000 in
set_option maxHeartbeats 4000000 in
theorem disks_yes (n : Nat) (a : Option Addr) (len cap : Nat) (l : List Int) (w : World) (h1 : 1 ≤ n) (h2 : n ≤ 1024) (hr : RC w (.slice a len cap) l) (hL : l.length ≤ LB) (hb : Byt l) :
    Calls Try.prog 4 #[.int .i64 n, .slice a len cap] w fun e w' => ∃ b g r s R, e = .returned (.tuple #[.pointer (some ⟨b, 0, none⟩), .pointer (some ⟨r, 0, none⟩), .bool true]) ∧ Dk w w' b g r s R n n ∧ s.on = true ∧ s.burns = false := by
  obtain ⟨i0, hi0, hz0, hz1, hz2⟩ := info_parts Try.infoU
  have hl : l.length = len := by obtain ⟨_, _, e, _⟩ := hr; cases e; rfl
  have hcap : len ≤ cap := by obtain ⟨_, _, e, hc, _⟩ := hr; cases e; exact hc
  have hlen : len ≤ 140737488351232 := by rw [← hl]; exact hL
  have H1 : Hid (∀ w, Calls Try.prog 24 #[.int .i64 n] w fun e w' => ∃ b g, e = .returned (.tuple #[.pointer (some ⟨b, 0, none⟩), .int .i64 0]) ∧ w.heap.size ≤ b ∧ w.heap.size ≤ g ∧ IsD w' b g (Dsk.new n) ∧ Below w.heap.size w w') := fun w => new_yes n w h1 h2
  have H2 : Hid (∀ w, Calls Try.prog 25 #[.int .i64 n] w fun e w' => ∃ r, e = .returned (.tuple #[.pointer (some ⟨r, 0, none⟩), .int .i64 0]) ∧ w.heap.size ≤ r ∧ IsRf w' r (Rf.new n) ∧ Below w.heap.size w w') := fun w => rnew_yes n w h1 h2
  have HR : Hid (RC w (.slice a len cap) l ∧ l.length = len ∧ Byt l) := ⟨hr, hl, hb⟩
  clear hr hb hL hl
  go_enter Try.func4, Try.ntmps4
  go_wp2_with (first
    | (go_at_call 24; refine (H1.out _).mono ?_; rintro e w1 ⟨b, g, rfl, hlb, hlg, hD, hb1⟩)
    | (go_at_call 25; refine (H2.out _).mono ?_; rintro e w2 ⟨r, rfl, hlr, hR, hb2⟩))
  have HK : Hid (Dk w w2 b g r (Dsk.new n) (Rf.new n) n 0) := ⟨hD.below hb2, hR, Sim.new n, fun x hx => by obtain rfl := (List.mem_replicate.1 hx).2; exact byt_zs 64, rfl, Nat.le_refl _, chainB hb1 hb2, hlb, hlg, Nat.le_trans hb1.size hlr, fun q hq => by cases hq⟩
  clear hD hR hb1 hb2 hlb hlg hlr
  go_loopw [11] (fun i wr => ∃ (k : Nat) (s : Dsk) (R : Rf), i = .int .i64 k ∧ k ≤ n ∧ Dk w wr b g r s R n k ∧ s.on = true ∧ s.burns = false) (fun i _ => (n + 1 - intOf i).toNat)
  case atStart => exact ⟨0, _, _, rfl, Nat.zero_le _, HK.out, rfl, rfl⟩
  case round =>
    obtain ⟨k, s, R, rfl, hk, hK, hon, hbu⟩ := hrel
    by_cases hlt : k < n
    · by_cases hm : 64 * k < len
      · have e1 : decide ((k : Int) < (n : Int)) = true := decide_eq_true (by omega)
        have e2 : decide (64 * (k : Int) < (len : Int)) = true := decide_eq_true (by omega)
        obtain ⟨gi, off, rfl⟩ : ∃ gi off, a = some ⟨gi, off, none⟩ := by
          obtain ⟨a', c', e, _, h⟩ := HR.out.1
          injection e with e1 e2 e3
          rcases h with h | ⟨gi, off, e9, _⟩
          · rw [h] at e2; simp only [List.length_nil] at e2; omega
          · exact ⟨gi, off, e1.trans e9⟩
        have f1 : (0 : Int) ≤ 64 * (k : Int) := by omega
        have f2 : 64 * (k : Int) ≤ (len : Int) := by omega
        have f3 : (len : Int) ≤ (cap : Int) := by omega
        have f4 : ¬ cap = 64 * k := by omega
        have f5 : (64 * (k : Int)).toNat = 64 * k := by omega
        have HC : Hid (∀ W, Below wr.heap.size wr W → ∀ c, Calls Try.prog 26 #[.slice (some ⟨gi, off + 64 * k, none⟩) (len - 64 * k) c] W fun e w' => ∃ v', e = .returned v' ∧ OwnB w' W.heap.size v' (l.drop (64 * k)) ∧ Below W.heap.size W w') := fun W hW c => copyB_any _ _ _ ((rb_drop (HR.out.1.rb.below hK.bel) HR.out.2.1 (64 * k) (by omega) c).below hW) (by rw [List.length_drop, HR.out.2.1]; unfold LB; omega)
        have HK2 : Hid (Dk w wr b g r s R n k ∧ s.on = true ∧ s.burns = false) := ⟨hK, hon, hbu⟩
        clear hK hon hbu
        have hl3 : (l.drop (64 * k)).length = len - 64 * k := by rw [List.length_drop, HR.out.2.1]
        have HL : Hid ((l.drop (64 * k)).length = len - 64 * k) := hl3
        clear hl3
        obtain ⟨m, hm'⟩ : ∃ m, len - 64 * k = m := ⟨_, rfl⟩
        rw [hm'] at HC HL
        have hm1 : 1 ≤ m := by omega
        have hm2 : m ≤ 140737488351232 := by omega
        by_cases hgt : 64 < m
        · have e3 : decide ((64 : Int) < (m : Int)) = true := decide_eq_true (by omega)
          go_wp2_with (first
            | (go_at_call 26; refine (HC.out _ (Below.refl _ _) _).mono ?_; rintro e w3 ⟨v3, rfl, ho3, hb3⟩; obtain ⟨g3, c3, rfl, hc3, hg3, hg3'⟩ := ho3.some HL.out hm1; have q1 : (64 : Int) ≤ (c3 : Int) := (by omega); have q2 : 64 ≤ c3 := (by omega))
            | (go_at_call 27; (have hO3 : OwnB w3 wr.heap.size (.slice (some ⟨g3, 0, none⟩) 64 c3) (blkL l k) := blk_gt ho3 HL.out hgt); have hK3 := HK2.out.1.below hb3; refine (write_any b g s (k : Int) _ _ wr.heap.size w3 hK3.dk (hK3.sim.good (by have := hK3.few; omega)) hO3 HK2.out.1.dk.lb).mono ?_; rintro e w4 ⟨rfl, hD4, hw4⟩; have HW : Hid (OwnB w4 wr.heap.size (.slice (some ⟨g3, 0, none⟩) 64 c3) (blkL l k) ∧ Dk w w3 b g r s R n k ∧ IsD w4 b g (s.wr (k : Int) (blkL l k)) ∧ Only (fun x => x = b ∨ x = g) w3 w4) := ⟨own_disk hO3 hK3 hw4, hK3, hD4, hw4⟩; clear hO3 hK3 hD4 hw4)
            | (go_at_call 28; refine (rwrite_any r R (k : Int) _ _ wr.heap.size w4 (HW.out.2.1.rf.disk HW.out.2.1.dk HW.out.2.2.2) HW.out.1 (by rw [HW.out.2.1.n]; exact h2) HW.out.2.1.sim.fzb (by have := HW.out.2.1.few; omega)).mono ?_; rintro e w5 ⟨rfl, R5, hR5, hA5, hO5, hv5⟩))
          go_roundw
          case rel => exact ⟨k + 1, _, R5, by go_num, by omega, HW.out.2.1.wrote (k : Int) _ (byt_blk HR.out.2.2 k) HW.out.2.2.1 HW.out.2.2.2 hR5 hA5 hO5 hv5, (wr_keeps HK2.out.2.1 HK2.out.2.2 _ _).1, (wr_keeps HK2.out.2.1 HK2.out.2.2 _ _).2⟩
          case measure => simp [intOf]; omega
        · by_cases hmq : m = 64
          · subst hmq
            go_wp2_with (first
              | (go_at_call 26; refine (HC.out _ (Below.refl _ _) _).mono ?_; rintro e w3 ⟨v3, rfl, ho3, hb3⟩; obtain ⟨g3, c3, rfl, hc3, hg3, hg3'⟩ := ho3.some HL.out hm1; have q1 : (64 : Int) ≤ (c3 : Int) := (by omega); have q2 : 64 ≤ c3 := (by omega))
              | (go_at_call 27; (have hO3 : OwnB w3 wr.heap.size (.slice (some ⟨g3, 0, none⟩) 64 c3) (blkL l k) := blk_le (by simpa using ho3) HL.out (by omega)); have hK3 := HK2.out.1.below hb3; refine (write_any b g s (k : Int) _ _ wr.heap.size w3 hK3.dk (hK3.sim.good (by have := hK3.few; omega)) hO3 HK2.out.1.dk.lb).mono ?_; rintro e w4 ⟨rfl, hD4, hw4⟩; have HW : Hid (OwnB w4 wr.heap.size (.slice (some ⟨g3, 0, none⟩) 64 c3) (blkL l k) ∧ Dk w w3 b g r s R n k ∧ IsD w4 b g (s.wr (k : Int) (blkL l k)) ∧ Only (fun x => x = b ∨ x = g) w3 w4) := ⟨own_disk hO3 hK3 hw4, hK3, hD4, hw4⟩; clear hO3 hK3 hD4 hw4)
              | (go_at_call 28; refine (rwrite_any r R (k : Int) _ _ wr.heap.size w4 (HW.out.2.1.rf.disk HW.out.2.1.dk HW.out.2.2.2) HW.out.1 (by rw [HW.out.2.1.n]; exact h2) HW.out.2.1.sim.fzb (by have := HW.out.2.1.few; omega)).mono ?_; rintro e w5 ⟨rfl, R5, hR5, hA5, hO5, hv5⟩))
            go_roundw
            case rel => exact ⟨k + 1, _, R5, by go_num, by omega, HW.out.2.1.wrote (k : Int) _ (byt_blk HR.out.2.2 k) HW.out.2.2.1 HW.out.2.2.2 hR5 hA5 hO5 hv5, (wr_keeps HK2.out.2.1 HK2.out.2.2 _ _).1, (wr_keeps HK2.out.2.1 HK2.out.2.2 _ _).2⟩
            case measure => simp [intOf]; omega
          · have hmq' : m < 64 := by omega
            have e3 : decide ((64 : Int) < (m : Int)) = false := decide_eq_false (by omega)
            go_wp2_with (first
              | (go_at_call 26; refine (HC.out _ (Below.refl _ _) _).mono ?_; rintro e w3 ⟨v3, rfl, ho3, hb3⟩; obtain ⟨g3, c3, rfl, hc3, hg3, hg3'⟩ := ho3.some HL.out hm1)
              | (at_builtin; refine wpList_appZ rfl _ _ rfl wr.heap.size _ _ rfl ho3 (64 - m) (by first | rfl | (simp [Act.eval]; omega)) (by omega) (by rw [HL.out]; omega) hb3.size ?_; intro v6 w6 ho6' hb6 _; have hB6 := Below.trans hb3 hb6; have HB6 : Hid (Below wr.heap.size wr w6) := hB6; have ho6 : OwnB w6 wr.heap.size v6 (blkL l k) := blk_le ho6' HL.out (by omega); obtain ⟨g6, c6, rfl, hc6, hg6, hg6'⟩ := ho6.some (blkL_len l k) (by omega); clear ho6' hb6 hB6)
              | (go_at_call 27; have hK3 := HK2.out.1.below HB6.out; refine (write_any b g s (k : Int) _ _ wr.heap.size w6 hK3.dk (hK3.sim.good (by have := hK3.few; omega)) ho6 HK2.out.1.dk.lb).mono ?_; rintro e w4 ⟨rfl, hD4, hw4⟩; have HW : Hid (OwnB w4 wr.heap.size (.slice (some ⟨g6, 0, none⟩) 64 c6) (blkL l k) ∧ Dk w w6 b g r s R n k ∧ IsD w4 b g (s.wr (k : Int) (blkL l k)) ∧ Only (fun x => x = b ∨ x = g) w6 w4) := ⟨own_disk ho6 hK3 hw4, hK3, hD4, hw4⟩; clear ho6 hK3 hD4 hw4)
              | (go_at_call 28; refine (rwrite_any r R (k : Int) _ _ wr.heap.size w4 (HW.out.2.1.rf.disk HW.out.2.1.dk HW.out.2.2.2) HW.out.1 (by rw [HW.out.2.1.n]; exact h2) HW.out.2.1.sim.fzb (by have := HW.out.2.1.few; omega)).mono ?_; rintro e w5 ⟨rfl, R5, hR5, hA5, hO5, hv5⟩))
            go_roundw
            case rel => exact ⟨k + 1, _, R5, by go_num, by omega, HW.out.2.1.wrote (k : Int) _ (byt_blk HR.out.2.2 k) HW.out.2.2.1 HW.out.2.2.2 hR5 hA5 hO5 hv5, (wr_keeps HK2.out.2.1 HK2.out.2.2 _ _).1, (wr_keeps HK2.out.2.1 HK2.out.2.2 _ _).2⟩
            case measure => simp [intOf]; omega
      · have e2 : decide (64 * (k : Int) < (len : Int)) = false := decide_eq_false (by omega)
        go_wp2
        go_ret3
        exact ⟨b, g, r, s, R, rfl, hK.mono (by omega), hon, hbu⟩
    · have e1 : decide ((k : Int) < (n : Int)) = false := decide_eq_false (by omega)
      go_wp2
      go_ret3
      exact ⟨b, g, r, s, R, rfl, hK.mono (by omega), hon, hbu⟩
end
section
open Go.RowKit Go.Lib

theorem Try.infoUy : (Try.prog.info? 5).map (fun i => (i.zero, i.size, i.bytes)) = some (some (.int .u8 0), 1, 1) := by kernel_rfl
theorem below_owny {base : Nat} {w w' : World} {v : Value} {l : List Int} (h : OwnB w base v l) (hg : w.grownBy w' v.ownBlock) (hb : base ≤ w.heap.size) : Below base w w' :=
  ⟨hg.os, hg.tape, hg.output, hg.size, fun k hk => hg.block k (by omega) (fun e => by have := (h.at k e.symm).1; omega)⟩

theorem wpList_apy {w : World} {ops : Array Oper} {rest : List Oper} {o : Oper} {a : Act} {Q : Exit → Act → World → Prop} (hgd : o.guard = none) (s x : Operand)
    (ho : o.op = .call { callee := .builtin .append, args := #[s, x], argTypes := #[22, 22] }) (base : Nat) (v : Value) (l : List Int) (hs : a.eval s = v) (hown : OwnB w base v l)
    (vx : Value) (m : List Int) (hx : a.eval x = vx) (hm : RB w vx m) (hlen : l.length + m.length ≤ 140737488351232) (hbase : base ≤ w.heap.size)
    (h : ∀ v' w', OwnB w' base v' (l ++ m) → Below base w w' → (v'.ownBlock = v.ownBlock ∨ v'.ownBlock = some w.heap.size) → wpList Try.prog ops Q rest (a.put o.dst v') w') : wpList Try.prog ops Q (o :: rest) a w := by
  obtain ⟨i0, hi0, hz0, hz1, hz2⟩ := info_parts Try.infoUy
  obtain ⟨ax, cx, rfl, _⟩ := id hm
  rcases hm.src with ⟨rfl, rfl⟩ | ⟨ad, rfl, hsrc⟩
  · refine wpList_plain hgd fun K hK => ?_
    have hrun := run_append_owned_none (P := Try.prog) (w := w) base 22 o.type 5 i0 1 Try.underlying22 hi0 v l.length (ub l) hown
    obtain ⟨a1, c1, e1⟩ := owns_len hown
    have hx' : a.eval x = .slice none 0 cx := hx
    have hr2 : (Builtin.append_ #[22, 22] o.type #[v, .slice none 0 cx]).run Try.prog w = .ok v w := by
      rw [← hrun]; rfl
    unfold Oper.wp
    simp [execOp, ho, resolve, invoke, builtin, hs, hx', hr2, Result.andThen]
    exact hK _ _ (h v w (by rw [List.append_nil]; exact hown) (Below.refl _ _) (.inl rfl))
  · refine wpList_append_own_at _ hgd s x 22 ho base 5 i0 (.int .u8 0) 1 1 Try.underlying22 hi0 hz0 hz1 hz2 rfl (by decide) v l.length (ub l) hs hown ad m.length cx (ub m) hx (by rw [ub_len, Nat.mul_one]) hsrc (ub_one m) (by unfold maxLen; omega) (by omega) hbase ?_
    intro v' w' h1 h2 _ h4
    refine h v' w' ?_ (below_owny hown h2 hbase) h4
    unfold OwnB ub
    rw [List.length_append, List.map_append]
    exact h1
theorem RB.oney (w : World) (x : Int) (t : TypeId) : RB (w.alloc (.cells #[.int .u8 x] t)) (.slice (some ⟨w.heap.size, 0, none⟩) 1 1) [x] :=
  ⟨_, _, rfl, .inr ⟨w.heap.size, 0, rfl, by simp, fun i y hy => by
    match i, hy with
    | 0, hy => simp at hy; subst hy; simp⟩⟩
/-- the same as one step of a region that draws -/
theorem step_apy {w : World} {ops : Array Oper} {o : Oper} {a : Act} {K : Act → World → Prop} {Q : Exit → Act → World → Prop} {E : Prop} (hgd : o.guard = none) (s x : Operand)
    (ho : o.op = .call { callee := .builtin .append, args := #[s, x], argTypes := #[22, 22] }) (base : Nat) (v : Value) (l : List Int) (hs : a.eval s = v) (hown : OwnB w base v l)
    (vx : Value) (m : List Int) (hx : a.eval x = vx) (hm : RB w vx m) (hlen : l.length + m.length ≤ 140737488351232) (hbase : base ≤ w.heap.size)
    (h : ∀ v' w', OwnB w' base v' (l ++ m) → Below base w w' → K (a.put o.dst v') w') :
    if Region.wanted o (yielded ops a.tmps) = true then Oper.wp Try.prog o a w K Q else E := by
  have hw : Region.wanted o (yielded ops a.tmps) = true := by simp [Region.wanted, hgd]
  rw [if_pos hw]
  obtain ⟨i0, hi0, hz0, hz1, hz2⟩ := info_parts Try.infoUy
  obtain ⟨ax, cx, rfl, _⟩ := id hm
  rcases hm.src with ⟨rfl, rfl⟩ | ⟨ad, rfl, hsrc⟩
  · have hrun := run_append_owned_none (P := Try.prog) (w := w) base 22 o.type 5 i0 1 Try.underlying22 hi0 v l.length (ub l) hown
    have hx' : a.eval x = .slice none 0 cx := hx
    have hr2 : (Builtin.append_ #[22, 22] o.type #[v, .slice none 0 cx]).run Try.prog w = .ok v w := by
      rw [← hrun]; rfl
    unfold Oper.wp
    simp [execOp, ho, resolve, invoke, builtin, hs, hx', hr2, Result.andThen]
    exact h v w (by rw [List.append_nil]; exact hown) (Below.refl _ _)
  · obtain ⟨v', w', hr, h2, h3, _, _⟩ := run_append_own_at (P := Try.prog) w base 22 o.type 5 i0 (.int .u8 0) 1 1 Try.underlying22 hi0 hz0 hz1 hz2 rfl (by decide) v l.length (ub l) hown ad m.length cx (ub m) (by rw [ub_len, Nat.mul_one]) hsrc (ub_one m) (by unfold maxLen; omega) (by omega) hbase
    unfold Oper.wp execOp
    simp only [ho, resolve, invoke, builtin, Sem.run_bind, Sem.run_pure, Result.andThen_ok, List.map_toArray, List.map_cons, List.map_nil, hs, hx, hr]
    refine h v' w' ?_ (below_owny hown h3 hbase)
    unfold OwnB ub
    rw [List.length_append, List.map_append]
    exact h2
end
end Go.Proofs.Ytajgaialnafdbaa
