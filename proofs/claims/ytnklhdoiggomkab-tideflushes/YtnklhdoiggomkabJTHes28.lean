/- The law TideFlushes. -/
import Derived.Test.YtnklhdoiggomkabJTHes26
import Derived.Test.YtnklhdoiggomkabJTHes27
import Derived.ProofKit
import Derived.OpenShut
import Derived.Deep.Slices
import Derived.Lib.SmallJoins
namespace Go.Proofs.Ytnklhdoiggomkab
section
open Go.RowKit Go.Shelf
attribute [local go_sem ↓ high] loadMsg storeMsg buildMsg storeAct loadAct buildAct
attribute [local go_sem high] run_store_complex eqC

theorem neqC (w : World) (a b c d : Nat) : (binOp .neq 39 (.complex .f64 a b) (.complex .f64 c d)).run Try.prog w = .ok (.bool (!(Op.floatEq .f64 a c && Op.floatEq .f64 b d))) w := by
  simp [binOp, Op.complexOp, Op.Complex.cmp, Op.floatEq, Op.floatCmp, asBool]
attribute [local go_sem high] neqC
theorem Lt.markg {w W : World} {t n : Nat} {v q : Int} {fr : List Fb} {L : List Nat} {F : Nat → Prop} (r : Lt w W t (gS n v q fr L) F) (hn : n ≤ 1000) : ∃ x y, Op.floatEq .f64 x (floatOfInt .f64 1) = true ∧ Op.floatEq .f64 y (floatOfInt .f64 (n : Int)) = true ∧ Calls Try.prog 19 #[.pointer (some ⟨t, 0, none⟩)] W fun e w' => e = .returned (.complex .f64 x y) ∧ W = w' := by
  obtain ⟨x, y, hmk, hc⟩ := lt_mark r
  have k : Mk (floatOfInt .f64 1) (floatOfInt .f64 (n : Int)) 1 (n : Int) := Mk.of (by omega) (by omega) (by omega) (by omega)
  refine ⟨x, y, ?_, ?_, hc⟩
  · rw [floatEq_whole hmk.ha k.ha]; exact decide_eq_true rfl
  · rw [floatEq_whole hmk.hb k.hb]; exact decide_eq_true rfl
/-- the first of some acts -/
theorem acts_first {W : World} {B : Nat} {v : Value} {l : List Am} {c : Ac} {A : List Ac} (h : Acts W B v l) (hA : l.map Am.c = c :: A) : ∃ g m q ak ck ae ce, v = .slice (some ⟨g, 0, none⟩) m q ∧ m = A.length + 1 ∧ g < W.heap.size ∧ W.cell? ⟨g, 0, none⟩ = some (.bool c.all) ∧ W.cell? ⟨g, 2, none⟩ = some (.bool c.reply) ∧ W.cell? ⟨g, 3, none⟩ = some (.bool c.whole) ∧ W.cell? ⟨g, 4, none⟩ = some (.slice ak c.ks.length ck) ∧ W.cell? ⟨g, 6, none⟩ = some (.slice ae c.es.length ce) := by
  cases l with
  | nil => cases hA
  | cons z l =>
    simp at hA
    obtain ⟨rfl, hl⟩ := hA
    obtain ⟨a, q, rfl⟩ := owns_len h.row
    obtain ⟨g, rfl, -, -, hg, hq⟩ := owns_act h.row (i := 0) (h := z) rfl
    refine ⟨g, l.length + 1, q, z.ak, z.ck, z.ae, z.ce, by simp, by rw [← hl, List.length_map], hg, ?_, ?_, ?_, ?_, ?_⟩
    · have := hq 0 _ rfl; rw [Nat.zero_mul, Nat.zero_add] at this; exact this
    · have := hq 2 _ rfl; rw [Nat.zero_mul, Nat.zero_add] at this; exact this
    · have := hq 3 _ rfl; rw [Nat.zero_mul, Nat.zero_add] at this; exact this
    · have := hq 4 _ rfl; rw [Nat.zero_mul, Nat.zero_add] at this; exact this
    · have := hq 6 _ rfl; rw [Nat.zero_mul, Nat.zero_add] at this; exact this
theorem acts_none {W : World} {B : Nat} {v : Value} {l : List Am} (h : Acts W B v l) (hA : l.map Am.c = []) : ∃ a q, v = .slice a 0 q := by
  obtain ⟨a, q, rfl⟩ := owns_len h.row
  obtain rfl := List.map_eq_nil_iff.1 hA
  exact ⟨a, q, rfl⟩
/-- a message that the law makes -/
theorem Om.msg {w W : World} {t g : Nat} {N c : Nat} {S S' : Ts} {A : List Ac} {F : Nat → Prop} {ms : List Hm} (h : Om w W t (some ⟨g, 0, none⟩) N c S F ms) (z : Hm) (hL : Lists W 0 z) (hs : S.take z.m = (S', A)) : Calls Try.prog 10 #[.pointer (some ⟨t, 0, none⟩), .agg z.arr] W fun e w' => TkOm w W t (some ⟨g, 0, none⟩) N c S' A F ms e w' := by
  refine (lt_take h.lt z hL).mono ?_
  rintro q w' ⟨v, l, rfl, ha, hc, hl, hk⟩
  rw [hs] at hl hc
  exact ⟨v, l, rfl, ha, hc, h.on hl hk, hk⟩
theorem lists_nil (w : World) (z : Hm) (h1 : z.m.es = []) (h2 : z.m.ks = []) (h3 : z.ve = .slice none 0 0) (h4 : z.vk = .slice none 0 0) : Lists w 0 z := by
  refine ⟨?_, ?_, ?_, ?_⟩
  · rw [h1, h3]; exact World.ownsRow_nil _ _ _ _
  · rw [h2, h4]; exact World.ownsRow_nil _ _ _ _
  · rw [h1]; exact Nat.zero_le _
  · rw [h2]; exact Nat.zero_le _
theorem lists_ent (w : World) (z : Hm) (e : En) (h1 : z.m.es = [e]) (h2 : z.m.ks = []) (h3 : z.ve = .slice (some ⟨w.heap.size, 0, none⟩) 1 1) (h4 : z.vk = .slice none 0 0) : Lists (w.alloc (.cells e.vals.toArray 52)) 0 z := by
  refine ⟨?_, ?_, ?_, ?_⟩
  · rw [h1, h3]
    have : ec [e] = e.vals := by simp [ec]
    show World.ownsRow _ _ _ _ _ 1 (ec [e])
    rw [this]
    exact owns_whole (Nat.zero_le _) (heap_new _ _) rfl (by unfold maxLen; omega)
  · rw [h2, h4]; exact World.ownsRow_nil _ _ _ _
  · rw [h1]; show 1 * 72 ≤ LB; unfold LB; omega
  · rw [h2]; exact Nat.zero_le _
theorem row_cell {w W : World} {a : Option Addr} {len : Nat} {A : Nat → Int} (h : RowI w a len A) (hb : Below w.heap.size w W) {i : Nat} (hi : i < len) : ∃ bI offI, a = some ⟨bI, offI, none⟩ ∧ W.cell? ⟨bI, offI + i, none⟩ = some (.int .i64 (A i)) := by
  rcases h.below hb with h | ⟨b, off, e, hs, hc⟩
  · omega
  · exact ⟨b, off, e, (hc i hi).1⟩
set_option maxHeartbeats 16000000 in
set_option maxRecDepth 100000 in
theorem flush_walk (x y : Int) (a1 : Option Addr) (len1 cap1 : Nat) (A1 : Nat → Int) (a2 : Option Addr) (len2 cap2 : Nat) (A2 : Nat → Int) (w : World) (row1 : RowI w a1 len1 A1) (hlen1 : len1 * 8 ≤ 140737488351232) (row2 : RowI w a2 len2 A2) (hlen2 : len2 * 8 ≤ 140737488351232) : Calls Try.prog 4 #[.int .i64 x, .int .i64 y, .slice a1 len1 cap1, .slice a2 len2 cap2] w fun e w' => e = .returned (.bool true) ∧ Below w.heap.size w w' := by
  obtain ⟨k, hk⟩ : ∃ k, 1 + plw y 8 = k := ⟨_, rfl⟩
  have hk8 : k ≤ 8 := by have := plw_lt y 8 (by omega); omega
  have hk1 : 1 ≤ k := by omega
  have HPy : Hid (∀ W, Calls Try.prog 18 #[.int .i64 y, .int .i64 8] W fun e w' => e = .returned (.int .i64 (k - 1)) ∧ W = w') := fun W => by have := place_w y 8 W (by omega) (by omega); rw [show ((plw y 8 : Nat) : Int) = k - 1 by omega] at this; exact this
  have hke : 1 + ((k : Int) - 1) = k := by omega
  have hkw : IntKind.i64.wrap (k : Int) = (k : Int) := IntWalk.i64_in _ (by omega)
  have HN : Hid (Calls Try.prog 5 #[.int .i64 1, .int .i64 1, .int .i64 8] w fun e w' => e = .returned (.tuple #[.pointer (some ⟨w.heap.size, 0, none⟩), .int .i64 0]) ∧ Lt w w' w.heap.size (Ts.new 1 1 8) (fun _ => False) ∧ Below w.heap.size w w') := lt_new 1 1 8 w w (Below.refl _ _) _ (fun k hk => hk.elim) (by
    unfold newOk withB
    simp)
  have HAw : Hid (∀ W, Calls Try.prog 16 #[] W fun e w' => e = .returned (.bool true) ∧ Below W.heap.size W w') := awake_p
  have HMA : Hid (∀ (J : Nat) W, Calls Try.prog 20 #[.int .i64 1, .int .i64 J] W fun e w' => e = .returned (.complex .f64 (floatOfInt .f64 1) (floatOfInt .f64 J)) ∧ W = w') := fun J W => (mark_any 1 J W).mono fun e w' hh => ⟨hh.1, hh.2.symm⟩
  have HRow1 : Hid (RowI w a1 len1 A1) := row1
  have HRow2 : Hid (RowI w a2 len2 A2) := row2
  have hl1 : len1 ≤ 9223372036854775807 := by omega
  have hl2 : len2 ≤ 9223372036854775807 := by omega
  obtain ⟨t, ht⟩ : ∃ t, w.heap.size = t := ⟨_, rfl⟩
  have HT : Hid (w.heap.size = t) := ht
  rw [ht] at HN
  clear hk ht row1 row2 hlen1 hlen2
  go_enter Try.func4, Try.ntmps4
  go_wp2_with (first
    | (go_at_call_of 18 (Value.int .i64 y); refine (HPy.out _).mono ?_; rintro q w' ⟨rfl, rfl⟩)
    | (go_at_call 5; refine HN.out.mono ?_; rintro q w1 ⟨rfl, hL1, hb1⟩; have H1 : Hid (Lt w w1 t (Ts.new 1 1 8) (fun _ => False)) := hL1; clear hL1)
    | (go_at_call 17; refine (breaks_p 8 _ (by omega)).mono ?_; rintro q w2 ⟨v2, ms, rfl, hm2, hc2, hb2⟩; obtain ⟨aL, cL, rfl, ho2⟩ := om_of H1.out hm2 hc2 hb2; obtain ⟨gL, z0, rfl, -, -, -, -⟩ := ho2.get 0 (by omega); obtain ⟨F, hF⟩ : ∃ F, Om w w2 t (some ⟨gL, 0, none⟩) 8 cL (Ts.new 1 1 8) F ms := ⟨_, ho2⟩; have R2 : Hid (Om w w2 t (some ⟨gL, 0, none⟩) 8 cL (Ts.new 1 1 8) F ms) := hF; clear hm2 hc2 hb2 ho2 hF)
    | (go_at_call 7; refine (lt_ask R2.out.lt 7).mono ?_; rintro q w3 ⟨rfl, hl3, hk3⟩; have R3 : Hid (Om w w3 t (some ⟨gL, 0, none⟩) 8 cL ((Ts.new 1 1 8).ask 7) F ms) := R2.out.on hl3 hk3; obtain ⟨Z, ml, hcall⟩ := R3.out.take 7 (by omega) take_eight; have HC3 : Hid (Calls Try.prog 10 #[.pointer (some ⟨t, 0, none⟩), .agg Z] w3 fun e w' => TkOm w w3 t (some ⟨gL, 0, none⟩) 8 cL (gS 0 0 7 [] [8]) [allA] F ms e w') := hcall; clear hl3 hk3 hcall)
    | (go_at_call 10; refine HC3.out.mono ?_; rintro q w4 ⟨v4, l4, rfl, -, -, ho4, -⟩; have R4 : Hid (Om w w4 t (some ⟨gL, 0, none⟩) 8 cL (gS 0 0 7 [] [8]) F ms) := ho4; clear ho4 ml))
  go_loopw [13] (fun s13 wr => ∃ (i : Nat) (L : List Nat), i ≤ len1 ∧ s13 = .int .i64 i ∧ Hid ((∀ j ∈ L, 0 + 1 < j ∧ j ≤ 8) ∧ Om w wr t (some ⟨gL, 0, none⟩) 8 cL (gS 0 0 7 [] L) F ms)) (fun s13 _ => len1 - (intOf s13).toNat)
  case atStart => exact ⟨0, [8], Nat.zero_le _, rfl, (fun j hj => by rw [List.mem_singleton.1 hj]; omega), R4.out⟩
  case round =>
    obtain ⟨i, L, hil, rfl, HR⟩ := hrel
    by_cases hlt : i < len1
    · have hlz : (i : Int) < (len1 : Int) := by omega
      obtain ⟨bI, offI, rfl, hcI⟩ := row_cell HRow1.out HR.out.2.lt.bel hlt
      obtain ⟨J, hJ⟩ : ∃ J, 1 + plw (A1 i) 6 = J := ⟨_, rfl⟩
      have hJ7 : J < 8 := by have := plw_lt (A1 i) 6 (by omega); omega
      have HPk : Hid (∀ W, Calls Try.prog 18 #[.int .i64 (A1 i), .int .i64 6] W fun e w' => e = .returned (.int .i64 (J - 1)) ∧ W = w') := fun W => by have := place_w (A1 i) 6 W (by omega) (by omega); rw [show ((plw (A1 i) 6 : Nat) : Int) = J - 1 by omega] at this; exact this
      have hJe : 1 + ((J : Int) - 1) = J := by omega
      have hJw : IntKind.i64.wrap (J : Int) = (J : Int) := IntWalk.i64_in _ (by omega)
      have hJ8 : (J : Int) < 8 := by omega
      have hJ0 : (0 : Int) ≤ (J : Int) := by omega
      obtain ⟨L', hst, hL'⟩ := take_early L HR.out.1 (J + 1) (by omega) (by omega)
      obtain ⟨Z, ml, hcall⟩ := HR.out.2.take J hJ7 hst
      have HC : Hid (Calls Try.prog 10 #[.pointer (some ⟨t, 0, none⟩), .agg Z] wr fun e w' => TkOm w wr t (some ⟨gL, 0, none⟩) 8 cL (gS 0 0 7 [] L') [] F ms e w') := hcall
      have HL' : Hid (∀ j ∈ L', 0 + 1 < j ∧ j ≤ 8) := hL'
      clear hJ hst hcall hL'
      go_wp2_with (first
        | (go_at_call_of 18 (Value.int .i64 (A1 i)); refine (HPk.out _).mono ?_; rintro q w' ⟨rfl, rfl⟩)
        | (go_at_call 10; refine HC.out.mono ?_; rintro q w5 ⟨v5, l5, rfl, -, -, ho5, -⟩; have R5 : Hid (Om w w5 t (some ⟨gL, 0, none⟩) 8 cL (gS 0 0 7 [] L') F ms) := ho5; clear ho5 ml))
      exact ⟨⟨i + 1, L', by omega, by simp, HL'.out, R5.out⟩, by simp [intOf]; omega⟩
    · have hlz : ¬ (i : Int) < (len1 : Int) := by omega
      have hmk : Mk (floatOfInt .f64 1) (floatOfInt .f64 (k : Int)) 1 (k : Nat) := Mk.of (by omega) (by omega) (by omega) (by omega)
      obtain ⟨n1, fr, L2, Af, hst, hn1, hn8, hL2⟩ := take_flush hmk hk1 hk8 L HR.out.1
      have HFl : Hid (Calls Try.prog 10 #[.pointer (some ⟨t, 0, none⟩), .agg #[.int .i64 4, .int .i64 1, .int .i64 1, .int .i64 0, .complex .f64 (floatOfInt .f64 1) (floatOfInt .f64 k), .int .i64 40, .int .i64 0, .int .i64 0, .int .i64 0, .string ⟨#[]⟩, .int .i64 0, .string ⟨#[]⟩, .int .i64 0, .string ⟨#[]⟩, .slice none 0 0, .slice none 0 0]] wr fun e w' => TkOm w wr t (some ⟨gL, 0, none⟩) 8 cL (gS n1 40 7 (⟨(k : Int), true, []⟩ :: fr) L2) (allA :: Af) F ms e w') := HR.out.2.msg ⟨flM (floatOfInt .f64 1) (floatOfInt .f64 k), none, 0, none, 0⟩ (lists_nil _ _ rfl rfl rfl rfl) hst
      have HL2 : Hid (∀ j ∈ L2, n1 + 1 < j ∧ j ≤ 8) := hL2
      clear hst hL2 hmk
      go_wp2_with (first
        | (go_at_call 19; obtain ⟨x8, y8, f1, f2, hc8⟩ := HR.out.2.lt.markg (by omega); have f3 : Op.floatEq .f64 y8 (floatOfInt .f64 0) = true := f2; clear f2; refine hc8.mono ?_; clear hc8; rintro q w' ⟨rfl, rfl⟩)
        | (go_at_call_of 20 (Value.int .i64 0); refine (HMA.out 0 _).mono ?_; rintro q w' ⟨rfl, rfl⟩)
        | (go_at_call_of 20 (Value.int .i64 k); refine (HMA.out k _).mono ?_; rintro q w' ⟨rfl, rfl⟩)
        | (go_at_call 10; refine HFl.out.mono ?_; rintro q w6 ⟨v6, l6, rfl, ha6, hc6, ho6, -⟩; obtain ⟨g6, m6, q6, ak, ck, ae, ce, rfl, hm6, -, d0, -, -, -, -⟩ := acts_first ha6 hc6; have hm6z : ((m6 : Int) == 0) = false := (by rw [beq_eq_false_iff_ne]; omega); have hm6p : (0 : Int) < (m6 : Int) := (by omega); have hm6q : 0 < m6 := (by omega); clear hm6; rw [show allA.all = true from rfl] at d0; have R6 : Hid (Om w w6 t (some ⟨gL, 0, none⟩) 8 cL (gS n1 40 7 (⟨(k : Int), true, []⟩ :: fr) L2) F ms) := ho6; clear ha6 hc6 ho6)
        | (go_at_call 21; refine (lt_version R6.out.lt).mono ?_; rintro q w' ⟨rfl, rfl⟩; rw [show (gS n1 40 7 (⟨(k : Int), true, []⟩ :: fr) L2).ver = 40 from rfl]))
      clear d0 f1 f3
      go_loopw [15] (fun s15 wr => ∃ i : Nat, i ≤ len2 ∧ s15 = .int .i64 i ∧ Hid (Om w wr t (some ⟨gL, 0, none⟩) 8 cL (gS n1 40 7 (⟨(k : Int), true, []⟩ :: fr) L2) F ms)) (fun s15 _ => len2 - (intOf s15).toNat)
      case atStart => exact ⟨0, Nat.zero_le _, rfl, R6.out⟩
      case round =>
        obtain ⟨i2, hil2, rfl, H2⟩ := hrel
        by_cases hlt2 : i2 < len2
        · have hlz2 : (i2 : Int) < (len2 : Int) := by omega
          obtain ⟨bI, offI, rfl, hcI⟩ := row_cell HRow2.out H2.out.lt.bel hlt2
          obtain ⟨J, hJ⟩ : ∃ J, plw (A2 i2) k = J := ⟨_, rfl⟩
          have hJk : J < k := by have := plw_lt (A2 i2) k hk1; omega
          have HPk : Hid (∀ W, Calls Try.prog 18 #[.int .i64 (A2 i2), .int .i64 k] W fun e w' => e = .returned (.int .i64 J) ∧ W = w') := fun W => by have := place_w (A2 i2) k W hk1 (by omega); rw [hJ] at this; exact this
          have hJ8 : (J : Int) < 8 := by omega
          have hJ0 : (0 : Int) ≤ (J : Int) := by omega
          obtain ⟨Z, ml, hcall⟩ := H2.out.take J (by omega) (take_low HL2.out (J + 1) (by omega) (by omega))
          have HC : Hid (Calls Try.prog 10 #[.pointer (some ⟨t, 0, none⟩), .agg Z] wr fun e w' => TkOm w wr t (some ⟨gL, 0, none⟩) 8 cL (gS n1 40 7 (⟨(k : Int), true, []⟩ :: fr) L2) [] F ms e w') := hcall
          clear hJ hcall
          go_wp2_with (first
            | (go_at_call_of 18 (Value.int .i64 (A2 i2)); refine (HPk.out _).mono ?_; rintro q w' ⟨rfl, rfl⟩)
            | (go_at_call 10; refine HC.out.mono ?_; rintro q w7 ⟨v7, l7, rfl, ha7, hc7, ho7, -⟩; obtain ⟨a7, q7, rfl⟩ := acts_none ha7 hc7; have R7 : Hid (Om w w7 t (some ⟨gL, 0, none⟩) 8 cL (gS n1 40 7 (⟨(k : Int), true, []⟩ :: fr) L2) F ms) := ho7; clear ho7 ml ha7 hc7))
          exact ⟨⟨i2 + 1, by omega, by simp, R7.out⟩, by simp [intOf]; omega⟩
        · have hlz2 : ¬ (i2 : Int) < (len2 : Int) := by omega
          obtain ⟨p, hp⟩ : ∃ p, plw x k = p := ⟨_, rfl⟩
          have hpk : p < k := by have := plw_lt x k hk1; omega
          have HPx : Hid (∀ W, Calls Try.prog 18 #[.int .i64 x, .int .i64 k] W fun e w' => e = .returned (.int .i64 p) ∧ W = w') := fun W => by have := place_w x k W hk1 (by omega); rw [hp] at this; exact this
          have hmk : Mk (floatOfInt .f64 1) (floatOfInt .f64 (p : Int)) 1 (p : Nat) := Mk.of (by omega) (by omega) (by omega) (by omega)
          obtain ⟨V, hV⟩ : ∃ V, wr.alloc (.cells #[.int .i64 5, .string ⟨#[122]⟩, .bool true, .int .i64 0, .int .i64 0, .int .i64 0, .string ⟨#[]⟩] 52) = V := ⟨_, rfl⟩
          have hbV := boxB hV
          have HRp : Hid (Calls Try.prog 10 #[.pointer (some ⟨t, 0, none⟩), .agg #[.int .i64 2, .int .i64 1, .int .i64 1, .int .i64 7, .complex .f64 (floatOfInt .f64 1) (floatOfInt .f64 p), .int .i64 0, .int .i64 0, .int .i64 0, .int .i64 0, .string ⟨#[]⟩, .int .i64 0, .string ⟨#[]⟩, .int .i64 0, .string ⟨#[]⟩, .slice (some ⟨wr.heap.size, 0, none⟩) 1 1, .slice none 0 0]] V fun e w' => TkOm w V t (some ⟨gL, 0, none⟩) 8 cL (gS n1 40 0 [] L2) [rpA] F ms e w') := (H2.out.below hbV.2).msg ⟨rpM (floatOfInt .f64 1) (floatOfInt .f64 p), some ⟨wr.heap.size, 0, none⟩, 1, none, 0⟩ (by rw [← hV]; exact lists_ent wr _ enZ rfl rfl rfl rfl) (take_reply hmk hpk hn1 HL2.out)
          clear hp hmk hbV
          go_wp2_with (first
            | (go_at_call_of 18 (Value.int .i64 x); refine (HPx.out _).mono ?_; rintro q w' ⟨rfl, rfl⟩)
            | (go_at_call 20; refine (HMA.out p _).mono ?_; rintro q w' ⟨rfl, rfl⟩)
            | (go_at_call 10; refine HRp.out.mono ?_; rintro q w8 ⟨v8, l8, rfl, ha8, hc8, ho8, -⟩; obtain ⟨g8, m8, q8, ak, ck, ae, ce, rfl, rfl, -, -, d2, d3, -, d6⟩ := acts_first ha8 hc8; rw [show rpA.reply = true from rfl] at d2; rw [show rpA.whole = false from rfl] at d3; rw [show rpA.es.length = 0 from rfl] at d6; have R8 : Hid (Om w w8 t (some ⟨gL, 0, none⟩) 8 cL (gS n1 40 0 [] L2) F ms) := ho8; clear ha8 hc8 ho8))
          clear d2 d3 d6
          go_loopw [18] (fun s18 wr => ∃ (i n : Nat) (L : List Nat), k ≤ i ∧ i ≤ 8 ∧ s18 = .int .i64 i ∧ Hid ((∀ j ∈ L, n + 1 < j ∧ j ≤ 8) ∧ i ≤ n ∧ n ≤ 8 ∧ Om w wr t (some ⟨gL, 0, none⟩) 8 cL (gS n 40 0 [] L) F ms)) (fun s18 _ => 8 - (intOf s18).toNat)
          case atStart => exact ⟨k, n1, L2, Nat.le_refl _, hk8, rfl, HL2.out, hn1, hn8, R8.out⟩
          case round =>
            obtain ⟨i3, n3, L3, hik, hi8, rfl, H3⟩ := hrel
            by_cases hlt3 : i3 < 8
            · have hlz3 : (i3 : Int) < 8 := by omega
              have hi0 : (0 : Int) ≤ (i3 : Int) := by omega
              obtain ⟨n4, L4, A4, hst, hL4, h4a, h4b⟩ := take_on H3.out.1 H3.out.2.2.1 i3 H3.out.2.1 hlt3
              obtain ⟨Z, ml, hcall⟩ := H3.out.2.2.2.take i3 hlt3 hst
              have HC : Hid (Calls Try.prog 10 #[.pointer (some ⟨t, 0, none⟩), .agg Z] wr fun e w' => TkOm w wr t (some ⟨gL, 0, none⟩) 8 cL (gS n4 40 0 [] L4) A4 F ms e w') := hcall
              have HL4 : Hid ((∀ j ∈ L4, n4 + 1 < j ∧ j ≤ 8) ∧ i3 + 1 ≤ n4 ∧ n4 ≤ 8) := ⟨hL4, h4a, h4b⟩
              clear hst hcall hL4 h4a h4b
              go_wp2_with (first
                | (go_at_call 10; refine HC.out.mono ?_; rintro q w9 ⟨v9, l9, rfl, -, -, ho9, -⟩; have R9 : Hid (Om w w9 t (some ⟨gL, 0, none⟩) 8 cL (gS n4 40 0 [] L4) F ms) := ho9; clear ho9 ml))
              exact ⟨⟨i3 + 1, n4, L4, by omega, by omega, by simp, HL4.out.1, HL4.out.2.1, HL4.out.2.2, R9.out⟩, by simp [intOf]; omega⟩
            · have hlz3 : ¬ (i3 : Int) < 8 := by omega
              have e3 : n3 = 8 := by have := H3.out.2.1; have := H3.out.2.2.1; omega
              have eL : L3 = [] := by
                cases L3 with
                | nil => rfl
                | cons j l => have := H3.out.1 j (List.mem_cons_self ..); omega
              have R9 : Hid (Om w wr t (some ⟨gL, 0, none⟩) 8 cL (gS 8 40 0 [] []) F ms) := by have := H3.out.2.2.2; rw [e3, eL] at this; exact this
              clear e3 eL H3
              go_wp2_with (first
                | (go_at_call 19; obtain ⟨x8, y8, f1, f2, hc8⟩ := R9.out.lt.markg (by omega); have f3 : Op.floatEq .f64 y8 (floatOfInt .f64 8) = true := f2; clear f2; refine hc8.mono ?_; clear hc8; rintro q w' ⟨rfl, rfl⟩)
                | (go_at_call 20; refine (HMA.out 8 _).mono ?_; rintro q w' ⟨rfl, rfl⟩)
                | (go_at_call 14; refine (lt_held R9.out.lt).mono ?_; rintro q w10 ⟨v10, l10, rfl, hm10, hc10, hb10⟩; obtain ⟨a10, c10, rfl⟩ := owns_len hm10.row; obtain rfl := List.map_eq_nil_iff.1 hc10; have R10 : Hid (Below w.heap.size w w10) := chainB R9.out.lt.bel hb10; clear hm10 hc10 hb10)
                | (go_at_call 16; refine (HAw.out _).mono ?_; rintro q w12 ⟨rfl, hb12⟩))
              go_ret
              exact ⟨rfl, chainB R10.out hb12⟩
theorem walk_TideFlushes (x y : Int) (a1 : Option Addr) (len1 cap1 : Nat) (A1 : Nat → Int) (a2 : Option Addr) (len2 cap2 : Nat) (A2 : Nat → Int) (w : World) (_ : (Lit.int .i64 x).wf = true) (_ : (Lit.int .i64 y).wf = true) (row1 : RowI w a1 len1 A1) (hlen1 : len1 * 8 ≤ 140737488351232) (row2 : RowI w a2 len2 A2) (hlen2 : len2 * 8 ≤ 140737488351232) : Calls Try.prog 4 #[.int .i64 x, .int .i64 y, .slice a1 len1 cap1, .slice a2 len2 cap2] w fun e w' => e = .returned (.bool true) ∧ Below w.heap.size w w' := flush_walk x y a1 len1 cap1 A1 a2 len2 cap2 A2 w row1 hlen1 row2 hlen2
end
section
open Go.ChangeShapes Go.WideShapes Go.ChangeAt Go.RowKit Go.Joins

theorem Try.cellsWord : Try.prog.cellsOf 3 = 1 := by kernel_rfl
theorem Try.bytesWord : Try.prog.bytesOf 3 = 8 := by kernel_rfl

theorem cell_lt {w : World} {p : Addr} {v : Value} (h : w.cell? p = some v) : p.block < w.heap.size := by
  unfold World.cell? at h
  by_cases c : p.block < w.heap.size
  · exact c
  · rw [Array.getElem?_eq_none (by omega)] at h
    simp at h

theorem rowI_of {H : Type} {enc : TypeId × Value → H} {W : World} {a : Option Addr} {len cap : Nat} {d : DataW H} {ps : List MemPlace}
    (h : DataW.Trod enc Try.prog W 0 (fun _ => true) true 60 (.slice a len cap) d ps) :
    (∃ A, RowI W a len A) ∧ (len = 0 ∨ ∃ elems spare, d = .slice elems spare ∧ elems.length = len) := by
  obtain ⟨fuel, hf⟩ := h
  rcases Go.Deep.open_slice Try.underlying60 hf with ⟨hcs, hx⟩ | ⟨a', len', cap', m, n, D, Pl, hcs, hb, hl, hm, hmm, hx, hel⟩
  · simp [Value.cells] at hcs
    obtain ⟨rfl, rfl, rfl⟩ := hcs
    exact ⟨⟨fun _ => 0, .inl rfl⟩, .inl rfl⟩
  · simp [Value.cells] at hcs
    obtain ⟨rfl, rfl, rfl⟩ := hcs
    simp only [if_true] at hmm
    subst hmm
    simp only [Prod.mk.injEq] at hx
    refine ⟨?_, .inr ⟨_, _, hx.1, by simp⟩⟩
    by_cases h0 : len = 0
    · exact ⟨fun _ => 0, .inl h0⟩
    have key : ∀ i, i < len → ∃ x : Int, W.cell? (a'.add (i * 1)) = some (.int .i64 x) ∧ (Lit.int .i64 x).wf = true := by
      intro i hi
      obtain ⟨cs', hc, ht⟩ := hel i (by omega)
      rw [Try.cellsWord] at hc
      obtain ⟨_, hlen, hget⟩ := World.cells?_some hc
      obtain ⟨c0, rfl⟩ : ∃ c0, cs' = [c0] := by
        match cs', hlen with
        | [c0], _ => exact ⟨c0, rfl⟩
      obtain ⟨p, e0, _, wp⟩ := DataW.trod_int Try.underlying3 ht
      have g0 := hget 0 (by omega)
      simp at e0 g0
      subst e0
      refine ⟨p, ?_, wp⟩
      simpa [Addr.add] using g0
    obtain ⟨X, hX⟩ := Go.Deep.choose_lt (α := Int) key
    obtain ⟨b, off, spot⟩ := a'
    have hs := World.cell?_spot (hX 0 (by omega)).1
    have hspot : spot = none := by simpa [Addr.add] using hs
    subst hspot
    have hadd : ∀ i, (⟨b, off, none⟩ : Addr).add i = ⟨b, off + i, none⟩ := fun i => by rw [Go.WideShapes.add_plain]
    refine ⟨X, .inr ⟨b, off, rfl, ?_, fun i hi => ?_⟩⟩
    · exact cell_lt (hX 0 (by omega)).1
    · have := hX i hi
      rw [hadd, Nat.mul_one] at this
      exact this
end
end Go.Proofs.Ytnklhdoiggomkab
