/- DentKept. -/
import Derived.Test.YtggjnhmmdomfjaaJDEpt26
namespace Go.Proofs.Ytggjnhmmdomfjaa
section
open Go.RowKit
attribute [local go_sem high] eqK neqK guardK
def m6 : Ky := ⟨-6, nob⟩
def negZ : En := ⟨0, ⟨#[]⟩, true, 0, 0, 0, ⟨#[]⟩⟩
theorem RdK.weak {w : World} {v : Value} {ks : List Ky} {G G' : Nat → Prop} (h : RdK w v ks G) (hG : ∀ g, G' g → G g) : RdK w v ks G' := by
  obtain ⟨a, cap, rfl, hk⟩ := h
  refine ⟨a, cap, rfl, fun j x hx => ?_⟩
  obtain ⟨g, o, e1, e2, e3, e4⟩ := hk j x hx
  exact ⟨g, o, e1, e2, e3, fun hc => e4 (hG g hc)⟩
theorem rowK_cap {w : World} {B N c : Nat} {a : Option Addr} {l : List Ky} (h : RowK w B (.slice a N c) l) (h0 : 0 < l.length) : N = l.length ∧ N ≤ c ∧ ∃ g, a = some ⟨g, 0, none⟩ := by
  have h2 := h.2
  rcases h2 with ⟨h1, h3⟩ | ⟨g, cap, cur, hv, hB, hw, hc, hm, hs, ht⟩
  · omega
  · injection hv with h1 h2 h3
    subst h1 h3
    exact ⟨h2, by omega, g, rfl⟩
theorem rowK_pre {w : World} {B N c g : Nat} {l r : List Ky} (h : RowK w B (.slice (some ⟨g, 0, none⟩) N c) (l ++ r)) {G : Nat → Prop} (hG : ¬ G g) : RdK w (.slice (some ⟨g, 0, none⟩) l.length c) l G := by
  obtain ⟨a', cap', hv, hk⟩ := h.rd (G := G) (fun b hb => by cases hb; exact hG)
  injection hv with h1 h2 h3
  subst h1
  exact ⟨_, c, rfl, fun j k hj => hk j k (by rw [List.getElem?_append_left (List.getElem?_eq_some_iff.1 hj).1]; exact hj)⟩
theorem keep_key {X : World} {B : Nat} {v : Value} {l : List Ky} (k : Ky) (h : RowK X B v l) (hB : B ≤ X.heap.size) (hl : (l.length + 1) * 24 ≤ 140737488355328) : ∃ a6 N6 c6 Z, (∀ ty, (Builtin.append_ #[28, 28] ty #[v, .slice (some ⟨X.heap.size, 0, none⟩) 1 1]).run Try.prog (X.alloc (.cells #[.int .i64 k.d, .string k.nm] 34)) = .ok (.slice a6 N6 c6) Z) ∧ RowK Z B (.slice a6 N6 c6) (l ++ [k]) ∧ Only (fun b => v.ownBlock = some b) X Z ∧ ((Value.slice a6 N6 c6).ownBlock = v.ownBlock ∨ ∀ b, (Value.slice a6 N6 c6).ownBlock = some b → X.heap.size ≤ b) := by
  have bY := below_alloc X (.cells #[.int .i64 k.d, .string k.nm] 34)
  obtain ⟨v6, Z, r6, row6, o6, p6⟩ := appK (w := X.alloc (.cells #[.int .i64 k.d, .string k.nm] 34)) (B := B) (v := v) (l := l) (l2 := [k]) (ad := ⟨X.heap.size, 0, none⟩) (c := 1) (owns_below h bY) (by
    have : kc [k] = [.int .i64 k.d, .string k.nm] := by simp [kc]
    rw [this]
    exact one_atG (w := X) (cs := [.int .i64 k.d, .string k.nm])) (Nat.le_trans hB bY.size) (by simp only [List.length_cons, List.length_nil]; omega)
  obtain ⟨a6, c6, hv6⟩ := owns_len row6
  subst hv6
  refine ⟨a6, _, c6, Z, r6, row6, (Only.of bY).trans o6, p6.imp id fun h b hb => ?_⟩
  rw [h] at hb
  cases hb
  exact bY.size
/-- a law's list of keys beside both caches -/
structure Kd (w wr : World) (p q : Nat) (S T : Cs) (n B : Nat) (mine : Value) (M : List Ky) : Prop where
  tw : Tw w wr p q S T n (fun b => mine.ownBlock = some b)
  row : RowK wr B mine M
  base : w.heap.size ≤ B
  le : B ≤ wr.heap.size
theorem Kd.push {w wr X : World} {p q : Nat} {S T : Cs} {n B : Nat} {mine : Value} {M : List Ky} (h : Kd w wr p q S T n B mine M) (k : Ky) (hb : Below wr.heap.size wr X) (hl : (M.length + 1) * 24 ≤ 140737488355328) : ∃ a6 N6 c6 Z, (∀ ty, (Builtin.append_ #[28, 28] ty #[mine, .slice (some ⟨X.heap.size, 0, none⟩) 1 1]).run Try.prog (X.alloc (.cells #[.int .i64 k.d, .string k.nm] 34)) = .ok (.slice a6 N6 c6) Z) ∧ Kd w Z p q S T n B (.slice a6 N6 c6) (M ++ [k]) := by
  obtain ⟨a6, N6, c6, Z, r6, row6, o6, p6⟩ := keep_key k (h.row.below hb) (Nat.le_trans h.le hb.size) hl
  refine ⟨a6, N6, c6, Z, r6, ⟨((h.tw.on' hb).own o6 fun b hb' => Nat.le_trans h.base (World.ownsRow.lt h.row b hb').1).mono (fun b hb' => ?_) (Nat.le_refl _), row6, h.base, Nat.le_trans h.le (Nat.le_trans hb.size o6.size)⟩⟩
  rcases p6 with p6 | p6
  · left; rw [← p6]; exact hb'
  · right; exact ⟨p6 b hb', (World.ownsRow.lt row6 b hb').2⟩
theorem Kd.on {w wr X : World} {p q : Nat} {S T : Cs} {n B : Nat} {mine : Value} {M : List Ky} (h : Kd w wr p q S T n B mine M) (hb : Below wr.heap.size wr X) : Kd w X p q S T n B mine M := ⟨h.tw.on' hb, h.row.below hb, h.base, Nat.le_trans h.le hb.size⟩
theorem Kd.after {w wr X : World} {p q : Nat} {S T S' T' : Cs} {n B : Nat} {mine : Value} {M : List Ky} (h : Kd w wr p q S T n B mine M) (hc : Twc w wr X p q S' T' n (fun b => mine.ownBlock = some b)) : Kd w X p q S' T' n B mine M := ⟨hc.tw, owns_moved h.row fun b hb => hc.kept b hb, h.base, Nat.le_trans h.le hc.size⟩
/-- two lists of entries that a law writes over, beside both caches -/
structure Ke (w wr : World) (p q : Nat) (T : Cs) (n B B' : Nat) (v v' : Value) (L L' : List En) : Prop where
  tw : Tw w wr p q T T n (fun b => v.ownBlock = some b ∨ v'.ownBlock = some b)
  row : Row7 wr B v L
  row' : Row7 wr B' v' L'
  base : w.heap.size ≤ B
  base' : w.heap.size ≤ B'
  apart : ∀ b, v.ownBlock = some b → ¬ v'.ownBlock = some b
theorem Ke.mk1 {w wr X Y : World} {p q : Nat} {T : Cs} {n : Nat} {F : Nat → Prop} {v v' : Value} {L L' : List En} (h : Tw w wr p q T T n F) (h1 : Row7 X wr.heap.size v L) (hb1 : Below wr.heap.size wr X) (h2 : Row7 Y X.heap.size v' L') (hb2 : Below X.heap.size X Y) : Ke w Y p q T n wr.heap.size X.heap.size v v' L L' := by
  refine ⟨(h.on (chainB hb1 hb2)).mono (fun b hb => .inr ?_) (Nat.le_refl _), h1.below hb2, h2, h.below.size, chainB h.below hb1 |>.size, fun b hb hb' => ?_⟩
  · rcases hb with hb | hb
    · exact ⟨(World.ownsRow.lt h1 b hb).1, Nat.lt_of_lt_of_le (World.ownsRow.lt h1 b hb).2 hb2.size⟩
    · exact ⟨Nat.le_trans hb1.size (World.ownsRow.lt h2 b hb).1, (World.ownsRow.lt h2 b hb).2⟩
  · have := (World.ownsRow.lt h1 b hb).2
    have := (World.ownsRow.lt h2 b hb').1
    omega
theorem Ke.one {w wr : World} {p q : Nat} {T : Cs} {n B B' g N c k : Nat} {v' : Value} {L L' : List En} {e f : En} (h : Ke w wr p q T n B B' (.slice (some ⟨g, 0, none⟩) N c) v' L L') (hf : L[k]? = some f) (hN : L.length = N) : Ke w (put7o wr g (k * 7) e) p q T n B B' (.slice (some ⟨g, 0, none⟩) N c) v' (L.set k e) L' := by
  have hO : Only (fun b => (Value.slice (some ⟨g, 0, none⟩) N c).ownBlock = some b ∨ v'.ownBlock = some b) wr (put7o wr g (k * 7) e) := (put7o_only _ _ _ _).mono fun b hb => .inl (by subst hb; rfl)
  have hO1 : Only (fun b => b = g) wr (put7o wr g (k * 7) e) := put7o_only _ _ _ _
  refine ⟨(h.tw.own hO fun b hb => ?_).mono (fun b hb => .inl hb) (Nat.le_refl _), ?_, owns_moved h.row' fun b hb => hO1.block b (World.ownsRow.lt h.row' b hb).2 fun e => h.apart b (by subst e; rfl) hb, h.base, h.base', h.apart⟩
  · rcases hb with hb | hb
    · exact Nat.le_trans h.base (World.ownsRow.lt h.row b hb).1
    · exact Nat.le_trans h.base' (World.ownsRow.lt h.row' b hb).1
  · have hr := h.row
    unfold Row7 at hr ⊢
    rw [List.length_set, hN]
    rw [hN] at hr
    exact put7o_row (e := e) hr hf
theorem Ke.two {w wr : World} {p q : Nat} {T : Cs} {n B B' : Nat} {v v' : Value} {L L' : List En} (h : Ke w wr p q T n B B' v v' L L') : Ke w wr p q T n B' B v' v L' L :=
  ⟨h.tw.mono (fun _ hb => hb.symm) (Nat.le_refl _), h.row', h.row, h.base', h.base, fun b hb hb' => h.apart b hb' hb⟩
set_option maxRecDepth 100000 in
set_option maxHeartbeats 16000000 in
theorem walk_DentKept (a : Option Addr) (cap : Nat) (ops : List DOp) (v : Value) (ks : List Ky) (w : World) (row : RowD w a ops) (hlen : ops.length * 112 ≤ 140737488351232) (hks : ArgK w v ks) (_ : ∀ a n c, v = .slice a n c → n ≤ c) :
    Calls Try.prog 4 #[.slice a ops.length cap, v] w fun x w' => x = .returned (.bool true) ∧ Below w.heap.size w w' := by
  obtain ⟨n, hn⟩ : ∃ n, ops.length = n := ⟨_, rfl⟩
  have hnb : n < 1290000000000 := by omega
  obtain ⟨S, hS⟩ : ∃ S, runS ops = S := ⟨_, rfl⟩
  have HO : Hid (Calls Try.prog 9 #[.slice a n cap] w fun x w2 => ∃ p q, x = .returned (.tuple #[.pointer (some ⟨p, 0, none⟩), .pointer (some ⟨q, 0, none⟩), .bool true]) ∧ Tw w w2 p q S S n (fun _ => False)) := by
    rw [← hn, ← hS]
    exact of_p a cap ops w row (by omega)
  have HA : Hid (∀ w, Calls Try.prog 12 #[] w fun x w' => x = .returned (.bool true) ∧ Below w.heap.size w w') := awake_p
  obtain ⟨ak, ck, hv, hkl, hkc⟩ := hks
  subst hv
  obtain ⟨m2, hm2⟩ : ∃ m, ks.length = m := ⟨_, rfl⟩
  have HKA : Hid (ArgK w (.slice ak m2 ck) ks ∧ ks.length = m2) := by
    rw [← hm2]
    exact ⟨⟨ak, ck, rfl, hkl, hkc⟩, rfl⟩
  have HKC : Hid (∀ j, j < m2 → ∃ k gk ok, ks[j]? = some k ∧ ak = some ⟨gk, ok, none⟩ ∧ ∀ w', Below w.heap.size w w' → w'.cell? ⟨gk, ok + j * 2, none⟩ = some (.int .i64 k.d) ∧ w'.cell? ⟨gk, ok + j * 2 + 1, none⟩ = some (.string k.nm)) := fun j hj => by
    rcases hkc with h0 | ⟨gk, ok, e1, hg1, hc1⟩
    · rw [h0] at hm2; simp at hm2; omega
    · obtain ⟨k, hk⟩ : ∃ k, ks[j]? = some k := ⟨_, List.getElem?_eq_getElem (by omega)⟩
      refine ⟨k, gk, ok, hk, e1, fun w' hw' => ⟨?_, ?_⟩⟩
      · exact (hw'.cell (p := ⟨gk, ok + j * 2, none⟩) hg1).trans (hc1 (j * 2) _ (kc_get ks j k hk).1)
      · exact (hw'.cell (p := ⟨gk, ok + j * 2 + 1, none⟩) hg1).trans (hc1 (j * 2 + 1) _ (kc_get ks j k hk).2)
  rw [hn, hm2]
  rw [hm2] at hkl
  have hkb : m2 ≤ 5864062014634 := by omega
  have HCk : Hid (∀ W, Below w.heap.size w W → Calls Try.prog 13 #[.slice ak m2 ck] W fun e w' => ∃ a3 c3, e = .returned (.slice a3 m2 c3) ∧ RowK w' W.heap.size (.slice a3 m2 c3) ks ∧ Below W.heap.size W w') := fun W hW => by
    refine (copyK_any _ ks W (HKA.out.1.below hW)).mono ?_
    rintro e w' ⟨v', rfl, hr, hb⟩
    obtain ⟨a3, c3, rfl⟩ := owns_len hr
    rw [HKA.out.2] at hr
    exact ⟨a3, c3, by rw [HKA.out.2], hr, hb⟩
  clear row hlen hS hkc hkl hm2
  go_enter Try.func4, Try.ntmps4
  go_wp2_with (first
    | (go_at_call 13; refine (HCk.out _ H2.out.below).mono ?_; rintro x w3 ⟨a3, c3, rfl, hr3, hb⟩; have H3 : Hid (Kd w w3 p q S S n w2.heap.size (.slice a3 m2 c3) (ks ++ List.replicate 0 m6)) := ⟨(H2.out.on hb).mono (fun b hb' => .inr (World.ownsRow.lt hr3 b hb')) (Nat.le_refl _), (by rw [List.replicate_zero, List.append_nil]; exact hr3), H2.out.below.size, hb.size⟩; clear hr3 hb)
    | (go_at_call 9; refine HO.out.mono ?_; rintro x w2 ⟨p, q, rfl, hl⟩; have H2 : Hid (Tw w w2 p q S S n (fun _ => False)) := hl; clear hl))
  obtain ⟨B, hB⟩ : ∃ B, w2.heap.size = B := ⟨_, rfl⟩
  rw [hB] at H3
  clear HO HCk H2
  clear hB
  go_loopw [8, 9] (fun s8 s9 wj => ∃ j : Nat, j ≤ 70 ∧ s9 = .int .i64 j ∧ ∃ a2 n2 c2, s8 = .slice a2 n2 c2 ∧ Hid (Kd w wj p q S S n B (.slice a2 n2 c2) (ks ++ List.replicate j m6))) (fun _ s9 _ => 70 - (intOf s9).toNat)
  case atStart => exact ⟨0, by omega, rfl, _, _, _, rfl, H3⟩
  case round =>
    clear H3
    obtain ⟨j, hj, rfl, a2, n2, c2, rfl, HJ⟩ := hrel
    by_cases hlj : j < 70
    · have hljz : (j : Int) < 70 := by omega
      have hll : (ks ++ List.replicate j m6).length = m2 + j := by rw [List.length_append, List.length_replicate, HKA.out.2]
      obtain ⟨a6, N6, c6, Z, r6, hK6⟩ := HJ.out.push m6 (Below.refl _ _) (by rw [hll]; omega)
      have r7 : ∀ ty, (Builtin.append_ #[28, 28] ty #[.slice a2 n2 c2, .slice (some ⟨wr.heap.size, 0, none⟩) 1 1]).run Try.prog (wr.alloc (.cells #[.int .i64 (-6), .string ⟨#[]⟩] 34)) = .ok (.slice a6 N6 c6) Z := r6
      have H6 : Hid (Kd w Z p q S S n B (.slice a6 N6 c6) (ks ++ List.replicate (j + 1) m6)) := by
        show Kd _ _ _ _ _ _ _ _ _ _
        rw [List.replicate_succ', ← List.append_assoc]; exact hK6
      clear HJ hll r6 hK6
      go_wp2_with (at_builtin; refine wpList_apR rfl (.tmp 29) (.tmp 31) 28 rfl _ _ (.slice a6 N6 c6) Z (by simp [Act.eval]) (by simp [Act.eval]) r7 ?_)
      go_roundw
      case rel => exact ⟨j + 1, by omega, rfl, _, _, _, rfl, H6⟩
      case measure => simp [intOf]; omega
    · obtain rfl : j = 70 := by omega
      obtain ⟨R, hR⟩ : ∃ R, List.replicate 70 m6 = R := ⟨_, rfl⟩
      have HRg : Hid (∀ i, i < 70 → R[i]? = some m6) := fun i hi => by rw [← hR, List.getElem?_replicate_of_lt hi]
      have hRl : R.length = 70 := by rw [← hR, List.length_replicate]
      rw [hR] at HJ
      obtain ⟨hn2, hnc, g2, rfl⟩ := rowK_cap HJ.out.row (by rw [List.length_append]; omega)
      rw [List.length_append, HKA.out.2, hRl] at hn2
      have HN2 : Hid (n2 = m2 + 70 ∧ R.length = 70) := ⟨hn2, hRl⟩
      have hs1 : (m2 : Int) ≤ (c2 : Int) := by omega
      have hn2b : n2 ≤ 5864062014704 := by omega
      obtain ⟨T, hT⟩ : ∃ T, S.cut ks = T := ⟨_, rfl⟩
      have HCp : Hid (Calls Try.prog 14 #[.pointer (some ⟨p, 0, none⟩), .slice (some ⟨g2, 0, none⟩) m2 c2] wr fun x w' => x = .returned (.tuple #[]) ∧ Kd w w' p q T S n B (.slice (some ⟨g2, 0, none⟩) n2 c2) (ks ++ R)) := by
        have hpre := rowK_pre HJ.out.row (G := fun b => w.heap.size ≤ b ∧ ¬ (Value.slice (some ⟨g2, 0, none⟩) n2 c2).ownBlock = some b) (fun hc => hc.2 rfl)
        rw [HKA.out.2] at hpre
        refine (tw_cut HJ.out.tw _ ks hpre (by rw [HKA.out.2]; omega)).mono ?_
        rintro x w' ⟨rfl, hc⟩
        rw [hT] at hc
        exact ⟨rfl, HJ.out.after hc⟩
      have HCd : Hid (∀ W, Kd w W p q T S n B (.slice (some ⟨g2, 0, none⟩) n2 c2) (ks ++ R) → Calls Try.prog 15 #[.pointer (some ⟨q, 0, none⟩), .slice ak m2 ck] W fun x w' => x = .returned (.tuple #[]) ∧ Kd w w' p q T T n B (.slice (some ⟨g2, 0, none⟩) n2 c2) (ks ++ R)) := fun W hK => by
        refine (tw_rcut hK.tw _ ks (HKA.out.1.rd hK.tw.below) (by omega) (by rw [HKA.out.2]; omega)).mono ?_
        rintro x w' ⟨rfl, hc⟩
        rw [hT] at hc
        exact ⟨rfl, hK.after hc⟩
      clear HJ hT hn2 hRl hR hlj hj hnc
      go_wp2_with (first
        | (go_at_call 15; refine (HCd.out _ H4.out).mono ?_; rintro x w5 ⟨rfl, hk⟩; have H5 : Hid (Kd w w5 p q T T n B (.slice (some ⟨g2, 0, none⟩) n2 c2) (ks ++ R)) := hk; clear hk)
        | (go_at_call 14; refine HCp.out.mono ?_; rintro x w4 ⟨rfl, hk⟩; have H4 : Hid (Kd w w4 p q T S n B (.slice (some ⟨g2, 0, none⟩) n2 c2) (ks ++ R)) := hk; clear hk))
      clear HCp HCd H4
      have hB5 : Below w5.heap.size w5 w5 := Below.refl _ _
      go_loopw [10] (fun s10 wk => ∃ k : Nat, k ≤ n2 ∧ s10 = .int .i64 k ∧ Hid (Below w5.heap.size w5 wk)) (fun s10 _ => n2 - (intOf s10).toNat)
      case atStart => exact ⟨0, Nat.zero_le _, rfl, hB5⟩
      case round =>
        clear hB5
        obtain ⟨k, hk, rfl, HK⟩ := hrel
        by_cases hlk : k < n2
        · have hlkz : (k : Int) < (n2 : Int) := by omega
          have hw4 : IntKind.i64.wrap ((k : Int) + 1) = ((k + 1 : Nat) : Int) := by
            rw [show ((k + 1 : Nat) : Int) = (k : Int) + 1 by omega]; exact IntWalk.i64_in _ (by omega)
          have hK5 := H5.out.on HK.out
          by_cases hkm : k < m2
          · have hkmz : (k : Int) < (m2 : Int) := by omega
            have hkmz2 : ¬ (m2 : Int) ≤ (k : Int) := by omega
            obtain ⟨ky, gk, ok, hky, rfl, hkcell⟩ := HKC.out k hkm
            obtain ⟨y0, y1⟩ := hkcell wr hK5.tw.below
            obtain ⟨g', hg', -, -, z0, z1, -⟩ := hK5.row.key (i := k) (p := ky) (by rw [List.getElem?_append_left (by rw [HKA.out.2]; exact hkm)]; exact hky)
            cases hg'
            clear hK5 hky hkcell
            go_upto_region 14 with fail
            go_quiet (fail)
            go_wp2
            go_roundw
            case rel => exact ⟨k + 1, by omega, rfl, below_drewN HK.out _⟩
            case measure => simp [intOf]; omega
          · have hkmz : ¬ (k : Int) < (m2 : Int) := by omega
            have hkmz2 : (m2 : Int) ≤ (k : Int) := by omega
            obtain ⟨g', hg', -, -, z0, z1, -⟩ := hK5.row.key (i := k) (p := m6) (by rw [List.getElem?_append_right (by rw [HKA.out.2]; omega), HKA.out.2]; exact HRg.out _ (by have := HN2.out.1; omega))
            cases hg'
            have z0' : wr.cell? ⟨g2, k * 2, none⟩ = some (.int .i64 (-6)) := z0
            have z1' : wr.cell? ⟨g2, k * 2 + 1, none⟩ = some (.string ⟨#[]⟩) := z1
            clear hK5 z0 z1
            go_upto_region 14 with fail
            go_quiet (fail)
            go_wp2
            go_roundw
            case rel => exact ⟨k + 1, by omega, rfl, below_drewN HK.out _⟩
            case measure => simp [intOf]; omega
        · obtain rfl : k = n2 := by omega
          have hlkz : ¬ (k : Int) < (k : Int) := by omega
          have H6 : Hid (Tw w wr p q T T n (fun _ => False)) := (H5.out.on HK.out).tw.mono (fun _ h => h.elim) (Nat.le_refl _)
          clear HK H5 hlk hk hs1
          have hTl : T.L.length ≤ n := H6.out.lt
          go_wp2_with (first
            | (go_at_call 17; refine (ld_names (H7.out.1.ld) 1 (by omega)).mono ?_; rintro x w8 ⟨v8, m8, rfl, hr8, hq8, hb⟩; have HM8 : Hid (m8.length ≤ n) := Nat.le_trans (by rw [hq8.1.length_eq]; exact List.length_filter_le _ _) hTl; have H8 : Hid (Ke w w8 p q T n wr.heap.size w7.heap.size v7 v8 T.L m8) := Ke.mk1 H6.out H7.out.2.1 H7.out.2.2 hr8 hb; clear hr8 hb hq8)
            | (go_at_call 16; refine (ld_entries H6.out.ld (by omega)).mono ?_; rintro x w7 ⟨v7, rfl, hr7, hb⟩; have H7 : Hid (Tw w w7 p q T T n (fun _ => False) ∧ Row7 w7 wr.heap.size v7 T.L ∧ Below wr.heap.size wr w7) := ⟨H6.out.on' hb, hr7, hb⟩; clear hr7 hb))
          clear H6 H7
          obtain ⟨a7, c7, hv7⟩ := owns_len H8.out.row
          obtain ⟨a8, c8, hv8⟩ := owns_len H8.out.row'
          subst hv7 hv8
          obtain ⟨M7, hM7⟩ : ∃ m, T.L.length = m := ⟨_, rfl⟩
          obtain ⟨M8, hM8⟩ : ∃ m, m8.length = m := ⟨_, rfl⟩
          obtain ⟨B7, hB7⟩ : ∃ m, wr.heap.size = m := ⟨_, rfl⟩
          obtain ⟨B8, hB8⟩ : ∃ m, w7.heap.size = m := ⟨_, rfl⟩
          have H9 : Hid (Ke w w8 p q T n B7 B8 (.slice a7 M7 c7) (.slice a8 M8 c8) T.L m8 ∧ T.L.length = M7 ∧ m8.length = M8) := ⟨by rw [← hM7, ← hM8, ← hB7, ← hB8]; exact H8.out, hM7, hM8⟩
          have hM7b : M7 < 1300000000000 := by omega
          have hM8b : M8 < 1300000000000 := by have := HM8.out; omega
          rw [hM7, hM8]
          clear H8 HM8 hM7 hM8 hB7 hB8 hTl
          go_loopw [13] (fun s13 W => ∃ (k : Nat) (G : List En), k ≤ M7 ∧ s13 = .int .i64 k ∧ Hid (Ke w W p q T n B7 B8 (.slice a7 M7 c7) (.slice a8 M8 c8) G m8 ∧ G.length = M7)) (fun s13 _ => M7 - (intOf s13).toNat)
          case atStart => exact ⟨0, T.L, Nat.zero_le _, rfl, H9.out.1, H9.out.2.1⟩
          case round =>
            obtain ⟨k, G, hkl, rfl, hG⟩ := hrel
            have HL8 : Hid (m8.length = M8) := H9.out.2.2
            clear H9
            by_cases hkn : k < M7
            · obtain ⟨e, he⟩ : ∃ x, G[k]? = some x := ⟨_, List.getElem?_eq_getElem (by rw [hG.out.2]; exact hkn)⟩
              obtain ⟨gx, hgx, -, -, -, hce, hfz⟩ := owns_entry hG.out.1.row he
              subst hgx
              have hki : (k : Int) < (M7 : Int) := by omega
              have hrow' : Hid (Ke w (put7o wr gx (k * 7) zeroEn) p q T n B7 B8 (.slice (some ⟨gx, 0, none⟩) M7 c7) (.slice a8 M8 c8) (G.set k zeroEn) m8 ∧ (G.set k zeroEn).length = M7) := ⟨hG.out.1.one he hG.out.2, by rw [List.length_set]; exact hG.out.2⟩
              unfold put7o zeroEn at hrow'
              simp only at hrow'
              have x0 := hce.c0
              have x1 := hce.c1
              have x2 := hce.c2
              have x3 := hce.c3
              have x4 := hce.c4
              have x5 := hce.c5
              have x6 := hce.c6
              clear he hce hG
              go_wp2
              exact ⟨⟨k + 1, G.set k zeroEn, by omega, by simp, hrow'⟩, by simp [intOf]; omega⟩
            · obtain rfl : k = M7 := by omega
              have hki : ¬ (k : Int) < (k : Int) := by omega
              have HE : Hid (Ke w wr p q T n B8 B7 (.slice a8 M8 c8) (.slice a7 k c7) m8 G) := hG.out.1.two
              clear hG hkn hkl
              go_wp2
              go_loopw [14] (fun s14 W => ∃ (j : Nat) (G8 : List En), j ≤ M8 ∧ s14 = .int .i64 j ∧ Hid (Ke w W p q T n B8 B7 (.slice a8 M8 c8) (.slice a7 k c7) G8 G ∧ G8.length = M8)) (fun s14 _ => M8 - (intOf s14).toNat)
              case atStart => exact ⟨0, m8, Nat.zero_le _, rfl, HE.out, HL8.out⟩
              case round =>
                obtain ⟨j, G8, hjl, rfl, hG8⟩ := hrel
                clear HE
                by_cases hjn : j < M8
                · obtain ⟨e, he⟩ : ∃ x, G8[j]? = some x := ⟨_, List.getElem?_eq_getElem (by rw [hG8.out.2]; exact hjn)⟩
                  obtain ⟨gx, hgx, -, -, -, hce, hfz⟩ := owns_entry hG8.out.1.row he
                  subst hgx
                  have hji : (j : Int) < (M8 : Int) := by omega
                  have hrow' : Hid (Ke w (put7o wr gx (j * 7) negZ) p q T n B8 B7 (.slice (some ⟨gx, 0, none⟩) M8 c8) (.slice a7 k c7) (G8.set j negZ) G ∧ (G8.set j negZ).length = M8) := ⟨hG8.out.1.one he hG8.out.2, by rw [List.length_set]; exact hG8.out.2⟩
                  unfold put7o negZ at hrow'
                  simp only at hrow'
                  have x0 := hce.c0
                  have x1 := hce.c1
                  have x2 := hce.c2
                  have x3 := hce.c3
                  have x4 := hce.c4
                  have x5 := hce.c5
                  have x6 := hce.c6
                  clear he hce hG8
                  go_wp2
                  exact ⟨⟨j + 1, G8.set j negZ, by omega, by simp, hrow'⟩, by simp [intOf]; omega⟩
                · obtain rfl : j = M8 := by omega
                  have hji : ¬ (j : Int) < (j : Int) := by omega
                  have HF : Hid (Tw w wr p q T T n (fun _ => False)) := hG8.out.1.tw.mono (fun _ h => h.elim) (Nat.le_refl _)
                  have HLk : Hid (Calls Try.prog 10 #[.pointer (some ⟨p, 0, none⟩), .pointer (some ⟨q, 0, none⟩), .slice ak m2 ck] wr fun r w' => r = .returned (.bool true) ∧ Below wr.heap.size wr w') := like_p w wr p q T n _ HF.out (by omega) _ ks ((HKA.out.1.rd (F := fun _ => False) HF.out.below).weak fun _ h => h.elim) (by rw [HKA.out.2]; omega)
                  clear hG8 hjn hjl
                  go_wp2_with (first
                    | (go_at_call 12; refine (HA.out _).mono ?_; rintro r wB ⟨rfl, hb⟩; have HZ : Hid (Below w.heap.size w wB) := chainB HY.out hb; clear hb)
                    | (go_at_call 10; refine HLk.out.mono ?_; rintro r wA ⟨rfl, hb⟩; have HY : Hid (Below w.heap.size w wA) := chainB HF.out.below hb; clear hb))
                  go_ret
                  exact ⟨rfl, HZ.out⟩
end
end Go.Proofs.Ytggjnhmmdomfjaa
