/- The walk of BagKept. -/
import Derived.Test.YtminjmlneikllaaBgL
namespace Go.Proofs.Ytminjmlneikllaa
open Go.RowKit

/-- a byte written somewhere: a row of bytes is still one, as long -/
theorem OwnB.any {w : World} {base g i : Nat} {v : Value} {l : List Int} {x : Int} (h : OwnB w base v l) : ∃ l', OwnB (w.setCell ⟨g, i, none⟩ (.int .u8 x)) base v l' ∧ l'.length = l.length := by
  rcases h.form with ⟨rfl, rfl⟩ | ⟨g', cap, rfl, _⟩
  · exact ⟨[], OwnB.nil _ _, rfl⟩
  · by_cases e : g' = g
    · subst e
      exact ⟨_, h.put rfl i x, by rw [List.length_set]⟩
    · exact ⟨l, h.moved fun k hk => heap_set_ne (by have : g' = k := Option.some.inj hk; omega), rfl⟩

/-- a list of letters whose bytes are written at will -/
structure Mess (w : World) (base : Nat) (v : Value) (ls : List Lt) : Prop where
  row : w.ownsRow base 37 2 v ls.length (lc ls)
  each : ∀ p ∈ ls, ∃ l, OwnB w base p.v l ∧ l.length = p.l.length ∧ l.length ≤ LB
theorem Mail.mess {w : World} {base : Nat} {v : Value} {ls : List Lt} (h : Mail w base base v ls) : Mess w base v ls := ⟨h.row, fun p hp => ⟨p.l, (h.each p hp).1, rfl, (h.each p hp).2⟩⟩
theorem Mess.byte {w : World} {base g i : Nat} {v : Value} {ls : List Lt} {x : Int} (h : Mess w base v ls) (ht : Tag w g 5) : Mess (w.setCell ⟨g, i, none⟩ (.int .u8 x)) base v ls :=
  ⟨owns_moved h.row fun k hk => heap_set_ne ((Tag.own h.row hk).ne ht (by decide)), fun p hp => by
    obtain ⟨l, ho, e1, e2⟩ := h.each p hp
    obtain ⟨l', ho', e'⟩ := ho.any (g := g) (i := i) (x := x)
    exact ⟨l', ho', e'.trans e1, by omega⟩⟩
theorem lc_set (ls : List Lt) (i : Nat) (p : Lt) (x : Int) (h : ls[i]? = some p) : (lc ls).set (i * 2) (.int .i64 x) = lc (ls.set i ⟨x, p.v, p.l⟩) := by
  induction ls generalizing i with
  | nil => simp at h
  | cons a ls ih =>
    cases i with
    | zero =>
      simp at h
      subst h
      rfl
    | succ i =>
      have := ih i (by simpa using h)
      have e : lc (a :: ls) = .int .i64 a.n :: a.v :: lc ls := rfl
      rw [e, show (i + 1) * 2 = i * 2 + 1 + 1 by omega, List.set_cons_succ, List.set_cons_succ, this]; rfl
theorem Mess.num {w : World} {base g i cap n : Nat} {ls : List Lt} {x : Int} {p : Lt} (h : Mess w base (.slice (some ⟨g, 0, none⟩) n cap) ls) (hn : ls.length = n) (hp : ls[i]? = some p) : Mess (w.setCell ⟨g, i * 2, none⟩ (.int .i64 x)) base (.slice (some ⟨g, 0, none⟩) n cap) (ls.set i ⟨x, p.v, p.l⟩) := by
  have hr := h.row
  rw [hn] at hr
  have ht : Tag w g 37 := Tag.own hr rfl
  refine ⟨?_, fun q hq => ?_⟩
  · rw [List.length_set, hn, ← lc_set ls i p x hp]
    exact (hr.stored (i * 2) (.int .i64 x)).1
  · have key : ∀ q ∈ ls, ∃ l, OwnB (w.setCell ⟨g, i * 2, none⟩ (.int .i64 x)) base q.v l ∧ l.length = q.l.length ∧ l.length ≤ LB := fun q hq => by
      obtain ⟨l, ho, e⟩ := h.each q hq
      exact ⟨l, ho.moved fun k hk => heap_set_ne ((ho.tag hk).ne ht (by decide)), e⟩
    rcases List.mem_or_eq_of_mem_set hq with hq | rfl
    · exact key q hq
    · exact key p (List.mem_of_getElem? hp)
theorem Mess.letter {w : World} {base i cap n : Nat} {a : Option Addr} {ls : List Lt} {p : Lt} (h : Mess w base (.slice a n cap) ls) (hi : ls[i]? = some p) : ∃ g av cv, a = some ⟨g, 0, none⟩ ∧ base ≤ g ∧ p.v = .slice av p.l.length cv ∧ w.cell? ⟨g, i * 2, none⟩ = some (.int .i64 p.n) ∧ w.cell? ⟨g, i * 2 + 1, none⟩ = some (.slice av p.l.length cv) ∧ (∀ j, w.frozen? ⟨g, j, none⟩ = false) ∧ p.l.length ≤ LB ∧ ∀ k, k < p.l.length → ∃ g' x, av = some ⟨g', 0, none⟩ ∧ base ≤ g' ∧ Tag w g' 5 ∧ w.cell? ⟨g', k, none⟩ = some (.int .u8 x) ∧ w.frozen? ⟨g', k, none⟩ = false := by
  have hlt : i < ls.length := (List.getElem?_eq_some_iff.1 hi).1
  have hrow := h.row
  obtain ⟨N, hN⟩ : ∃ N, ls.length = N + 1 := ⟨ls.length - 1, by omega⟩
  rw [hN] at hrow
  obtain ⟨g, cap', e⟩ := owns_form hrow
  cases e
  obtain ⟨hc, hf, _, _, hbase, _⟩ := owns_cells hrow
  obtain ⟨l0, l1⟩ := lc_get ls i p hi
  obtain ⟨l, ho, el, elb⟩ := h.each p (List.mem_of_getElem? hi)
  obtain ⟨av, cv, ev⟩ := owns_len ho
  rw [ev] at l1
  rw [el] at ev l1
  refine ⟨g, av, cv, rfl, hbase, ev, hc _ _ l0, hc _ _ l1, hf, by omega, fun k hk => ?_⟩
  rcases ho.form with ⟨_, e⟩ | ⟨g', cap', e, hb', _, _, hc', hf'⟩
  · rw [e] at el; simp at el; omega
  · rw [ev, el] at e
    cases e
    rw [ev] at ho
    exact ⟨g', _, rfl, hb', ho.tag rfl, hc' k _ (List.getElem?_eq_getElem (by omega)), hf' k⟩

/-- the bag, whatever is done to other bytes -/
theorem Bx.byte {w0 w w' : World} {B b g : Nat} {s : Bg} (h : Bx w0 w B b s) (ht : Tag w g 5) (hg : g < B) (hg0 : w0.heap.size ≤ g) (hO : Only (· = g) w w') : Bx w0 w' B b s :=
  ⟨h.is.only hO (fun e => h.is.tb.ne ht (by decide) e) (fun k hk e => (h.is.tv hk).ne ht (by decide) e) (fun k _ hk e => by omega), hO.below h.bel h.bel.size (fun k e => by omega), h.lb, h.lv, Nat.le_trans h.hB hO.size⟩
theorem Bx.byte2 {w0 w w' : World} {B b g : Nat} {s : Bg} (h : Bx w0 w B b s) (ht : Tag w g 5) (hp : ∀ p ∈ s.ls, ∀ q, p.v.ownBlock = some q → q < g) (hg0 : w0.heap.size ≤ g) (hO : Only (· = g) w w') : Bx w0 w' B b s :=
  ⟨h.is.moved (hO.block _ h.is.tb.lt (fun e => h.is.tb.ne ht (by decide) e)) (fun k hk => hO.block _ (h.is.tv hk).lt (fun e => (h.is.tv hk).ne ht (by decide) e)) (fun p hp' k hk => hO.block _ ((h.is.each p hp').1.at k hk).2 (fun e => by have := hp p hp' k hk; omega)), hO.below h.bel h.bel.size (fun k e => by omega), h.lb, h.lv, Nat.le_trans h.hB hO.size⟩
def same (k : Nat) (t : Int) (l : List Int) : List (Int × List Int) := List.replicate k (t, l)
theorem same_len (k : Nat) (t : Int) (l : List Int) : (same k t l).length = k := List.length_replicate ..
theorem same_succ (k : Nat) (t : Int) (l : List Int) : same k t l ++ [(t, l)] = same (k + 1) t l := by unfold same; rw [List.replicate_succ']
theorem same_get (k i : Nat) (t : Int) (l : List Int) (h : i < k) : (same k t l)[i]? = some (t, l) := by unfold same; rw [List.getElem?_replicate, if_pos h]
theorem same_erase (k : Nat) (t : Int) (l : List Int) : (same (k + 1) t l).eraseIdx 0 = same k t l := by unfold same; rw [List.replicate_succ]; rfl

set_option maxRecDepth 100000 in
set_option maxHeartbeats 8000000 in
theorem walk_BagKept (t : Int) (v : Value) (l : List Int) (m : Int) (w : World) (_ : (Lit.int .i64 t).wf = true) (row : RB w v l) (hl : l.length ≤ LB) (_ : (Lit.int .i64 m).wf = true) :
    Calls Try.prog 5 #[.int .i64 t, v, .int .i64 m] w fun e w' => e = .returned (.bool true) ∧ Below w.heap.size w w' := by
  have hL : l.length ≤ 140737488351232 := hl
  obtain ⟨a, cap, rfl, _⟩ := id row
  obtain ⟨n, hn⟩ : ∃ n, l.length = n := ⟨_, rfl⟩
  rw [hn] at hL
  have HN : Hid (l.length = n) := hn
  have HR : Hid (∀ wr, Below w.heap.size w wr → RB wr (.slice a n cap) l) := fun wr hb => by rw [hn] at row; exact row.below hb
  have HL : Hid (l.length ≤ LB) := hl
  have HE : Hid (∀ w1, RB w1 (.slice a n cap) l → Calls Try.prog 25 #[.slice a n cap] w1 fun e w' => ∃ g cap, e = .returned (.tuple #[.slice (some ⟨g, 0, none⟩) n cap, .slice (some ⟨g, 0, none⟩) (n + 70) cap]) ∧ OwnB w' w1.heap.size (.slice (some ⟨g, 0, none⟩) (n + 70) cap) (l ++ marks 70) ∧ Below w1.heap.size w1 w') := by
    intro w1 h1
    have := lend_any _ l w1 h1 hl
    rw [hn] at this
    exact this
  have hK := pl_lt m 4 (by decide)
  have HP : Hid (∀ w1, Calls Try.prog 11 #[.int .i64 m, .int .i64 4] w1 fun e w' => e = .returned (.int .i64 (pl m 4)) ∧ w' = w1) := fun w1 => place_any m 4 w1 (by decide) (by decide)
  obtain ⟨K, hK'⟩ : ∃ K, pl m 4 = K := ⟨_, rfl⟩
  rw [hK'] at hK HP
  rw [hn]
  clear hK' hn hl row
  go_enter Try.func5, Try.ntmps5
  go_wp2_with (first
    | (go_at_call 8; refine (new64 _).mono ?_; rintro e w1 ⟨b, rfl, hb, hB, hW⟩; have HW : Hid _ := And.intro hW hB; clear hB hW)
    | (go_at_call 25; refine (HE.out _ (HR.out _ HW.out.1)).mono ?_; rintro e w2 ⟨ga, ca, rfl, ho2, hb2⟩; have H2 : Hid (Bx w w2 w2.heap.size b (Bg.new 64) ∧ OwnB w2 w1.heap.size (.slice (some ⟨ga, 0, none⟩) (n + 70) ca) (l ++ marks 70) ∧ w.heap.size ≤ ga ∧ ga < w2.heap.size) := ⟨(Bx.new w2.heap.size hb (fun B => (HW.out.2 B).below hb2) (chainB HW.out.1 hb2) (Nat.le_refl _)), ho2, Nat.le_trans HW.out.1.size (ho2.at ga rfl).1, (ho2.at ga rfl).2⟩; clear ho2 hb2)
    | (go_at_call 12; refine (post_x w w2.heap.size b (Bg.new 64) t _ l _ H2.out.1 (by decide) (OwnB.front (m := 70) H2.out.2.1 HN.out (marks_len _)).rb HL.out).mono ?_; rintro e w3 ⟨rfl, s3, hS3, hX3⟩; have H3 : Hid (Bx w w3 w2.heap.size b s3 ∧ s3.n = 64 ∧ s3.say = same 1 t l ∧ OwnB w3 w1.heap.size (.slice (some ⟨ga, 0, none⟩) (n + 70) ca) (l ++ marks 70)) := ⟨hX3, hS3.n, hS3.say, H2.out.2.1.moved fun k hk => hS3.only.block k (H2.out.2.1.at k hk).2 (fun e => e.elim (fun e => (H2.out.2.1.tag hk).ne H2.out.1.is.tb (by decide) e) (fun e => by cases e))⟩; clear hS3 hX3)
    | (go_at_call 26; refine (back_any _ _ l _ _ (HR.out _ H3.out.1.bel) H3.out.2.2.2 HL.out).mono ?_; rintro e w4 ⟨rfl, hb4⟩; have H4 : Hid (Bx w w4 w2.heap.size b s3 ∧ OwnB w4 w1.heap.size (.slice (some ⟨ga, 0, none⟩) (n + 70) ca) (l ++ marks 70)) := ⟨H3.out.1.below hb4, H3.out.2.2.2.below hb4⟩; clear hb4))
  obtain ⟨M0, hM0, hlm⟩ : ∃ M, l ++ marks 70 = M ∧ M.length = n + 70 := ⟨_, rfl, by rw [List.length_append, marks_len, HN.out]⟩
  rw [hM0] at H4
  have HG : Hid (w.heap.size ≤ ga ∧ ga < w2.heap.size) := H2.out.2.2
  have HS3 : Hid (s3.n = 64 ∧ s3.say = same 1 t l) := ⟨H3.out.2.1, H3.out.2.2.1⟩
  obtain ⟨B, hB⟩ : ∃ B, w2.heap.size = B := ⟨_, rfl⟩
  obtain ⟨B1, hB1⟩ : ∃ B, w1.heap.size = B := ⟨_, rfl⟩
  rw [hB] at H4 HG
  rw [hB1] at H4
  clear H2 H3 HW HE hM0 hB hB1
  go_loopw [11] (fun i wr => ∃ k : Nat, k ≤ n + 70 ∧ i = .int .i64 k ∧ Bx w wr B b s3 ∧ ∃ M : List Int, M.length = n + 70 ∧ OwnB wr B1 (.slice (some ⟨ga, 0, none⟩) (n + 70) ca) M) (fun i _ => n + 70 - (intOf i).toNat)
  case atStart => exact ⟨0, Nat.zero_le _, rfl, H4.out.1, M0, hlm, H4.out.2⟩
  case round =>
    clear H4 hlm
    obtain ⟨k, hk, rfl, hX, M, hM, ho⟩ := hrel
    by_cases hlt : k < n + 70
    · obtain ⟨⟨x0, d1⟩, d2⟩ := ho.cell k (by omega)
      have HO : Hid (∀ x, OwnB (wr.setCell ⟨ga, k, none⟩ (.int .u8 x)) B1 (.slice (some ⟨ga, 0, none⟩) (n + 70) ca) (M.set k x) ∧ Bx w (wr.setCell ⟨ga, k, none⟩ (.int .u8 x)) B b s3) := fun x => ⟨ho.put hM k x, hX.byte (ho.tag rfl) HG.out.2 HG.out.1 (only1 _ _ _ _)⟩
      have hki : (k : Int) < (n : Int) + 70 := by omega
      clear hX ho
      go_wp2
      go_roundw
      case rel => exact ⟨k + 1, by omega, by go_num, (HO.out _).2, _, by rw [List.length_set]; exact hM, (HO.out _).1⟩
      case measure => simp [intOf]; omega
    · obtain rfl : k = n + 70 := by omega
      have HX : Hid (Bx w wr B b s3) := hX
      clear ho hM hX
      go_wp2_with (first | (go_at_call 11; refine (HP.out _).mono ?_; rintro e w5 ⟨rfl, rfl⟩))
      clear HP HG
      go_loopw [13] (fun i wr => ∃ k s, k ≤ K ∧ i = .int .i64 (k : Nat) ∧ Bx w wr B b s ∧ s.n = 64 ∧ s.say = same (k + 1) t l) (fun i _ => K - (intOf i).toNat)
      case atStart => exact ⟨0, s3, Nat.zero_le _, rfl, HX.out, HS3.out.1, HS3.out.2⟩
      case round =>
        clear HX HS3
        obtain ⟨k, s, hk, rfl, hX, hsn, hsay⟩ := hrel
        have HX : Hid (Bx w wr B b s ∧ s.n = 64 ∧ s.say = same (k + 1) t l) := ⟨hX, hsn, hsay⟩
        clear hX hsn hsay
        by_cases hlt : k < K
        · have hki : (k : Int) < (K : Int) := by omega
          go_wp2_with (go_at_call 20; refine (double_x w B b k s t l _ HX.out.1 (by rw [HX.out.2.2]; exact same_get _ _ _ _ (by omega)) (by rw [HX.out.2.2, HX.out.2.1, same_len]; omega)).mono ?_; rintro e w6 ⟨rfl, s6, hS6, hX6⟩; have H6 : Hid (Bx w w6 B b s6 ∧ s6.n = 64 ∧ s6.say = same (k + 1 + 1) t l) := ⟨hX6, hS6.n.trans HX.out.2.1, by rw [hS6.say, HX.out.2.2, same_succ]⟩; clear hS6 hX6)
          go_roundw
          case rel => exact ⟨k + 1, s6, by omega, by go_num, H6.out.1, H6.out.2.1, H6.out.2.2⟩
          case measure => simp [intOf]; omega
        · obtain rfl : k = K := by omega
          go_wp2_with (go_at_call 24; refine (letters_x w B b s _ HX.out.1).mono ?_; rintro e w6 ⟨v6, ls6, rfl, hm6, hs6, hb6⟩; have hl6 : ls6.length = k + 1 := (by have := congrArg List.length hs6; unfold sayL at this; rw [List.length_map, HX.out.2.2, same_len] at this; exact this); obtain ⟨a6, c6, rfl⟩ := hm6.len; rw [hl6] at hm6 ⊢; have H6 : Hid (Mess w6 wr.heap.size (.slice a6 (k + 1) c6) ls6 ∧ ls6.length = k + 1 ∧ Below wr.heap.size wr w6) := ⟨hm6.mess, hl6, hb6⟩; clear hm6 hs6 hb6 hl6)
          obtain ⟨wL, hwL⟩ : ∃ wL, wr = wL := ⟨_, rfl⟩
          rw [hwL] at H6 HX
          clear hwL
          go_loopw [15] (fun i wr => ∃ j ls', j ≤ k + 1 ∧ i = .int .i64 (j : Nat) ∧ Mess wr wL.heap.size (.slice a6 (k + 1) c6) ls' ∧ ls'.length = k + 1 ∧ Below wL.heap.size wL wr) (fun i _ => k + 1 - (intOf i).toNat)
          case atStart => exact ⟨0, ls6, Nat.zero_le _, rfl, H6.out.1, H6.out.2.1, H6.out.2.2⟩
          case round =>
            clear H6
            obtain ⟨j, ls, hj, rfl, hM, hls, hB⟩ := hrel
            by_cases hjl : j < k + 1
            · obtain ⟨p, hp⟩ : ∃ p, ls[j]? = some p := ⟨_, List.getElem?_eq_getElem (by omega)⟩
              have hji : (j : Int) < (k : Int) + 1 := by omega
              go_wp2
              go_loopw [16] (fun i wr => ∃ q : Nat, q ≤ p.l.length ∧ i = .int .i64 q ∧ Mess wr wL.heap.size (.slice a6 (k + 1) c6) ls ∧ Below wL.heap.size wL wr) (fun i _ => p.l.length - (intOf i).toNat)
              case atStart => exact ⟨0, Nat.zero_le _, rfl, hM, hB⟩
              case round =>
                clear hM hB
                obtain ⟨q, hq, rfl, hM, hB⟩ := hrel
                obtain ⟨g, av, cv, rfl, hg, ev, c0, c1, cf, hlb, hby⟩ := hM.letter hp
                by_cases hql : q < p.l.length
                · obtain ⟨g', x, rfl, hg', ht, cx, cfx⟩ := hby q hql
                  have hqi : (q : Int) < (p.l.length : Int) := by omega
                  have HM : Hid (∀ x, Mess (wr.setCell ⟨g', q, none⟩ (.int .u8 x)) wL.heap.size (.slice (some ⟨g, 0, none⟩) (k + 1) c6) ls ∧ Below wL.heap.size wL (wr.setCell ⟨g', q, none⟩ (.int .u8 x))) := fun x => ⟨hM.byte ht, hB.setCell (p := ⟨g', q, none⟩) hg' _⟩
                  have hlb' : p.l.length ≤ 140737488351232 := hlb
                  clear hM hB hby ht
                  go_wp2
                  go_roundw
                  case rel => exact ⟨q + 1, by omega, by go_num, (HM.out _).1, (HM.out _).2⟩
                  case measure => simp [intOf]; omega
                · have hqe : (p.l.length : Int) ≤ (q : Int) := by omega
                  have HM : Hid (∀ x, Mess (wr.setCell ⟨g, j * 2, none⟩ (.int .i64 x)) wL.heap.size (.slice (some ⟨g, 0, none⟩) (k + 1) c6) (ls.set j ⟨x, p.v, p.l⟩) ∧ Below wL.heap.size wL (wr.setCell ⟨g, j * 2, none⟩ (.int .i64 x))) := fun x => ⟨hM.num hls hp, hB.setCell (p := ⟨g, j * 2, none⟩) hg _⟩
                  clear hM hB hby
                  go_wp2
                  go_roundw
                  case rel => exact ⟨j + 1, _, by omega, by go_num, (HM.out _).1, by rw [List.length_set]; exact hls, (HM.out _).2⟩
                  case measure => simp [intOf]; omega
            · obtain rfl : j = k + 1 := by omega
              have HB : Hid (Bx w wr B b s) := HX.out.1.below hB
              clear hM hB hls
              go_wp2_with (first
                | (go_at_call 15; refine (take_x w B b 0 s t l _ HB.out (by rw [HX.out.2.2]; exact same_get _ _ _ _ (by omega))).mono ?_; rintro e w7 ⟨v7, rfl, ho7, hl7, s7, hS7, hX7⟩; have hold : ∀ p ∈ s7.ls, ∀ q, p.v.ownBlock = some q → q < wr.heap.size := (by intro p hp q hq; have hle : s7.ls.length ≤ s.ls.length := (by rw [← say_len, ← say_len, hS7.say, HX.out.2.2, same_erase, same_len, same_len]; omega); exact ((HB.out.is.each p (hS7.kept hle p hp)).1.at q hq).2); have H7 : Hid (Bx w w7 B b s7 ∧ s7.say = same k t l ∧ OwnB w7 wr.heap.size v7 l ∧ ∀ p ∈ s7.ls, ∀ q, p.v.ownBlock = some q → q < wr.heap.size) := ⟨hX7, by rw [hS7.say, HX.out.2.2, same_erase], ho7, hold⟩; clear hS7 hX7 hold hl7; obtain ⟨a7, c7, rfl⟩ := owns_len ho7; rw [HN.out] at H7 ⊢; clear ho7)
                | (go_at_call 17; refine (same_any _ _ l l _ (H7.out.2.2.1.below (below_alloc _ _)).rb (HR.out _ (H7.out.1.alloc _).bel) HL.out HL.out).mono ?_; rintro e w8 ⟨rfl, hb8⟩; rw [decide_eq_true (rfl : l = l)]))
              have hv : w8.heap[w7.heap.size]? = some (.cells #[.int .i64 t, .slice a7 n c7] 37 (0, 0)) := (hb8.block _ (by simp)).trans (heap_new _ _)
              have H8 : Hid (Bx w w8 B b s7 ∧ OwnB w8 wr.heap.size (.slice a7 n c7) l ∧ w8.heap[w7.heap.size]? = some (.cells #[.int .i64 t, .slice a7 n c7] 37 (0, 0))) := ⟨(H7.out.1.alloc _).below hb8, (H7.out.2.2.1.below (below_alloc _ _)).below hb8, hv⟩
              have HK : Hid (s7.say = same k t l ∧ ∀ p ∈ s7.ls, ∀ q, p.v.ownBlock = some q → q < wr.heap.size) := ⟨H7.out.2.1, H7.out.2.2.2⟩
              obtain ⟨BT, hBT⟩ : ∃ B, wr.heap.size = B := ⟨_, rfl⟩
              obtain ⟨kv, hkv⟩ : ∃ B, w7.heap.size = B := ⟨_, rfl⟩
              have hBw : w.heap.size ≤ BT := by rw [← hBT]; exact HB.out.bel.size
              rw [hBT, hkv] at H8
              rw [hBT] at HK
              rw [hkv]
              clear H7 HB HX hb8 hv hBT hkv
              go_loopw [19] (fun i wr => ∃ q : Nat, q ≤ n ∧ i = .int .i64 q ∧ Bx w wr B b s7 ∧ (∃ M, M.length = n ∧ OwnB wr BT (.slice a7 n c7) M) ∧ wr.heap[kv]? = some (.cells #[.int .i64 t, .slice a7 n c7] 37 (0, 0))) (fun i _ => n - (intOf i).toNat)
              case atStart => exact ⟨0, Nat.zero_le _, rfl, H8.out.1, ⟨l, HN.out, H8.out.2.1⟩, H8.out.2.2⟩
              case round =>
                clear H8
                obtain ⟨q, hq, rfl, hX, ⟨M, hM, ho⟩, hv⟩ := hrel
                have y1 := cell_of hv 1
                simp at y1
                by_cases hql : q < n
                · obtain ⟨g, rfl⟩ : ∃ g, a7 = some ⟨g, 0, none⟩ := by
                    rcases ho.form with ⟨_, e⟩ | ⟨g, cap, e, _⟩
                    · rw [e] at hM; simp at hM; omega
                    · cases e; exact ⟨g, rfl⟩
                  obtain ⟨⟨x0, d1⟩, d2⟩ := ho.cell q (by omega)
                  have ht := ho.tag (k := g) rfl
                  have hgB := (ho.at g rfl).1
                  have HO : Hid (∀ x, OwnB (wr.setCell ⟨g, q, none⟩ (.int .u8 x)) BT (.slice (some ⟨g, 0, none⟩) n c7) (M.set q x) ∧ Bx w (wr.setCell ⟨g, q, none⟩ (.int .u8 x)) B b s7 ∧ (wr.setCell ⟨g, q, none⟩ (.int .u8 x)).heap[kv]? = some (.cells #[.int .i64 t, .slice (some ⟨g, 0, none⟩) n c7] 37 (0, 0))) := fun x =>
                    ⟨ho.put hM q x, hX.byte2 ht (fun p hp r hr => by have := HK.out.2 p hp r hr; omega) (by omega) (only1 _ _ _ _), (heap_set_ne (Tag.ne (⟨_, _, hv⟩ : Tag wr kv 37) ht (by decide))).trans hv⟩
                  have hqi : (q : Int) < (n : Int) := by omega
                  clear hX ho ht hv
                  go_upto_region 32 with fail
                  go_region_law (fail)
                  all_goals
                    go_wp2
                    exact ⟨⟨q + 1, by omega, by simp, (HO.out _).2.1.drew, ⟨_, by rw [List.length_set]; exact hM, (HO.out _).1.below (Below.refl _ _).drew⟩, (HO.out _).2.2⟩, by simp [intOf]; omega⟩
                · obtain rfl : q = n := by omega
                  have HX : Hid (Bx w wr B b s7) := hX
                  clear hX ho hv hM
                  go_wp2_with (go_at_call 24; refine (letters_x w B b s7 _ HX.out).mono ?_; rintro e w9 ⟨v9, ls9, rfl, hm9, hs9, hb9⟩; have hl9 : ls9.length = k := (by have := congrArg List.length hs9; unfold sayL at this; rw [List.length_map, HK.out.1, same_len] at this; exact this); obtain ⟨a9, c9, rfl⟩ := hm9.len; rw [hl9] at hm9 ⊢; have H9 : Hid (Mail w9 wr.heap.size wr.heap.size (.slice a9 k c9) ls9 ∧ ls9.length = k ∧ sayL ls9 = same k t l ∧ Below w.heap.size w w9) := ⟨hm9, hl9, hs9.trans HK.out.1, chainB HX.out.bel hb9⟩; clear hm9 hs9 hb9 hl9)
                  obtain ⟨BM, hBM⟩ : ∃ B, wr.heap.size = B := ⟨_, rfl⟩
                  rw [hBM] at H9
                  clear HX HK hBM y1
                  go_loopw [21] (fun i wr => ∃ j : Nat, j ≤ k ∧ i = .int .i64 j ∧ Below w9.heap.size w9 wr) (fun i _ => k - (intOf i).toNat)
                  case atStart => exact ⟨0, Nat.zero_le _, rfl, Below.refl _ _⟩
                  case round =>
                    obtain ⟨j, hj, rfl, hb⟩ := hrel
                    by_cases hjl : j < k
                    · obtain ⟨p, hp⟩ : ∃ p, ls9[j]? = some p := ⟨_, List.getElem?_eq_getElem (by rw [H9.out.2.1]; exact hjl)⟩
                      obtain ⟨p', hp', e1, e2⟩ := sayL_at (ls := ls9) (i := j) (x := (t, l)) (by rw [H9.out.2.2.1]; exact same_get _ _ _ _ hjl)
                      rw [hp] at hp'
                      cases hp'
                      obtain ⟨g, av, cv, rfl, _, _, _, c0, c1, ho, _⟩ := H9.out.1.letter hp hb
                      obtain ⟨pn, pv, pl'⟩ := p
                      simp only at e1 e2 c0 c1 ho
                      subst e1 e2
                      rw [HN.out] at c1 ho
                      have hji : (j : Int) < (k : Int) := by omega
                      have HO : Hid (OwnB wr BM (.slice av q cv) pl' ∧ Below w.heap.size w wr) := ⟨ho, chainB H9.out.2.2.2 hb⟩
                      clear ho hp
                      go_wp2_with (go_at_call 17; refine (same_any _ _ pl' pl' _ HO.out.1.rb (HR.out _ HO.out.2) HL.out HL.out).mono ?_; rintro e w10 ⟨rfl, hb10⟩; rw [decide_eq_true (rfl : pl' = pl')])
                      go_roundw
                      case rel => exact ⟨j + 1, by omega, by go_num, chainB hb hb10⟩
                      case measure => simp [intOf]; omega
                    · obtain rfl : j = k := by omega
                      go_wp2_with (go_at_call 10; refine (awake_any _).mono ?_; rintro e w11 ⟨rfl, hb11⟩)
                      go_ret
                      exact ⟨rfl, chainB (chainB H9.out.2.2.2 hb) hb11⟩
end Go.Proofs.Ytminjmlneikllaa
