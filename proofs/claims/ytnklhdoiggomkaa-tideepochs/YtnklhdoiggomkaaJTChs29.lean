/- The law TideEpochs. -/
import Derived.Test.YtnklhdoiggomkaaJTChs28
namespace Go.Proofs.Ytnklhdoiggomkaa
section
open Go.RowKit Go.Shelf
attribute [local go_sem ↓ high] loadMsg storeMsg buildMsg storeAct loadAct buildAct loadMm storeMm
attribute [local go_sem high] run_store_complex eqC

theorem neqC (w : World) (a b c d : Nat) : (binOp .neq 43 (.complex .f64 a b) (.complex .f64 c d)).run Try.prog w = .ok (.bool (!(Op.floatEq .f64 a c && Op.floatEq .f64 b d))) w := by
  simp [binOp, Op.complexOp, Op.Complex.cmp, Op.floatEq, Op.floatCmp, asBool]
attribute [local go_sem high] neqC
def Mm.zer : Array Value := #[.int .i64 0, .int .i64 0, .int .i64 0, .int .i64 0, .int .i64 0, .int .i64 0, .int .i64 0, .int .i64 0, .int .i64 0, .int .i64 0, .string ⟨#[]⟩, .int .i64 0, .string ⟨#[]⟩, .int .i64 0, .string ⟨#[]⟩, .slice none 0 0, .slice none 0 0]
theorem ArgM.one {w : World} {m : Mm} (h : ArgM w m) : m.arr.all (·.oneCell') = true := by
  obtain ⟨ae, ce, he, _⟩ := h.es
  obtain ⟨ak, ck, hk, _⟩ := h.ks
  simp [Mm.arr, Value.oneCell', he, hk]
/-- the first of some acts -/
theorem acts_first {W : World} {B : Nat} {v : Value} {l : List Am} {c : Ac} {A : List Ac} (h : Acts W B v l) (hA : l.map Am.c = c :: A) : ∃ g m q ak ck ae ce, v = .slice (some ⟨g, 0, none⟩) m q ∧ m = A.length + 1 ∧ g < W.heap.size ∧ W.cell? ⟨g, 0, none⟩ = some (.bool c.all) ∧ W.cell? ⟨g, 2, none⟩ = some (.bool c.reply) ∧ W.cell? ⟨g, 3, none⟩ = some (.bool c.whole) ∧ W.cell? ⟨g, 4, none⟩ = some (.slice ak c.ks.length ck) ∧ W.cell? ⟨g, 6, none⟩ = some (.slice ae c.es.length ce) := by
  cases l with
  | nil => cases hA
  | cons z l =>
    simp at hA
    obtain ⟨rfl, hl⟩ := hA
    obtain ⟨a, q, rfl⟩ := owns_len h.row
    obtain ⟨g, rfl, -, -, hg, hq⟩ := owns_act h.row (i := 0) (h := z) rfl
    refine ⟨g, l.length + 1, q, z.ak, z.ck, z.ae, z.ce, by simp, by rw [← hl, List.length_map], hg, ?_, ?_, ?_, ?_, ?_⟩
    · have := hq 0 _ rfl; rw [Nat.zero_mul, Nat.zero_add] at this; exact this
    · have := hq 2 _ rfl; rw [Nat.zero_mul, Nat.zero_add] at this; exact this
    · have := hq 3 _ rfl; rw [Nat.zero_mul, Nat.zero_add] at this; exact this
    · have := hq 4 _ rfl; rw [Nat.zero_mul, Nat.zero_add] at this; exact this
    · have := hq 6 _ rfl; rw [Nat.zero_mul, Nat.zero_add] at this; exact this
theorem acts_none {W : World} {B : Nat} {v : Value} {l : List Am} (h : Acts W B v l) (hA : l.map Am.c = []) : ∃ a q, v = .slice a 0 q := by
  obtain ⟨a, q, rfl⟩ := owns_len h.row
  obtain rfl := List.map_eq_nil_iff.1 hA
  exact ⟨a, q, rfl⟩
/-- a law's tide, and the box of its message -/
structure Ep (w W : World) (t g : Nat) (S : Ts) (m : Mm) : Prop where
  lt : Lt w W t S (· = g)
  low : w.heap.size ≤ g
  box : W.heap[g]? = some (.cells m.arr 36 (0, 0))
theorem Ep.below {w W V : World} {t g : Nat} {S : Ts} {m : Mm} (h : Ep w W t g S m) (hb : Below W.heap.size W V) : Ep w V t g S m := ⟨h.lt.below hb, h.low, hkeep h.box hb⟩
theorem Ep.on {w W V : World} {t g : Nat} {S S' : Ts} {m : Mm} (h : Ep w W t g S m) (hl : Lt w V t S' (· = g)) (hk : Kt (· = g) W V) : Ep w V t g S' m := ⟨hl, h.low, (hk.mine g rfl (Array.getElem?_eq_some_iff.1 h.box).1).trans h.box⟩
theorem Ep.put {w W : World} {t g : Nat} {S : Ts} {m : Mm} (h : Ep w W t g S m) (m' : Mm) (i : Nat) (v : Value) (hy : m.arr.setIfInBounds i v = m'.arr) : Ep w (W.setCell ⟨g, i, none⟩ v) t g S m' := by
  refine ⟨h.lt.mine (only1 W g i v) (fun k (e : k = g) => ⟨e, by rw [e]; exact h.low⟩), h.low, ?_⟩
  rw [← hy]; exact heap_set h.box i v
def TkEp (w : World) (t g : Nat) (S : Ts) (m : Mm) (x : Pm) (e : Ending) (w' : World) : Prop := ∃ v l, e = .returned v ∧ Acts w' 0 v l ∧ l.map Am.c = (S.take x).2 ∧ Ep w w' t g (S.take x).1 m
theorem Ep.take {w W : World} {t g : Nat} {S : Ts} {m : Mm} (h : Ep w W t g S m) (z : Hm) {B : Nat} (hL : Lists W B z) : Calls Try.prog 15 #[.pointer (some ⟨t, 0, none⟩), .agg z.arr] W fun e w' => TkEp w t g S m z.m e w' := by
  refine (lt_take h.lt z (hL.down (Nat.zero_le _))).mono ?_
  rintro q w' ⟨v, l, rfl, ha, hc, hl, hk⟩
  exact ⟨v, l, rfl, ha.down (Nat.zero_le _), hc, h.on hl hk⟩
set_option maxHeartbeats 16000000 in
set_option maxRecDepth 100000 in
theorem epochs_walk (a1 : Option Addr) (cap1 : Nat) (ops1 : List TOp) (m : Mm) (a2 : Option Addr) (cap2 : Nat) (ops2 : List TOp) (w : World) (row1 : RowT w a1 ops1) (hlen1 : ops1.length ≤ 3000000000000) (hm : ArgM w m) (row2 : RowT w a2 ops2) (hlen2 : ops2.length ≤ 3000000000000) : Calls Try.prog 8 #[.slice a1 ops1.length cap1, .agg m.arr, .slice a2 ops2.length cap2] w fun e w' => e = .returned (.bool true) ∧ Below w.heap.size w w' := by
  obtain ⟨W0, hW0⟩ : ∃ W0, w.alloc (.cells m.arr 36) = W0 := ⟨_, rfl⟩
  have hb0 := boxB hW0
  have HN : Hid (Calls Try.prog 9 #[.int .i64 1, .int .i64 1, .int .i64 4] W0 fun e w' => e = .returned (.tuple #[.pointer (some ⟨W0.heap.size, 0, none⟩), .int .i64 0]) ∧ Lt w w' W0.heap.size (Ts.new 1 1 4) (· = w.heap.size) ∧ Below W0.heap.size W0 w') := lt_new 1 1 4 w W0 hb0.2 _ (fun k hk => by rw [hk]; exact (Array.getElem?_eq_some_iff.1 hb0.1).1) (by
    unfold newOk withB
    simp)
  have HB0 : Hid (∀ V, Below W0.heap.size W0 V → V.heap[w.heap.size]? = some (.cells m.arr 36 (0, 0))) := fun V hV => hkeep hb0.1 hV
  have HAw : Hid (∀ W, Calls Try.prog 11 #[] W fun e w' => e = .returned (.bool true) ∧ Below W.heap.size W w') := awake_p
  have HMA : Hid (∀ (i j : Int) W, Calls Try.prog 30 #[.int .i64 i, .int .i64 j] W fun e w' => e = .returned (.complex .f64 (floatOfInt .f64 i) (floatOfInt .f64 j)) ∧ W = w') := fun i j W => (mark_any i j W).mono fun e w' hh => ⟨hh.1, hh.2.symm⟩
  have HRow1 : Hid (RowT w a1 ops1) := row1
  have HRow2 : Hid (RowT w a2 ops2) := row2
  have HMm : Hid (ArgM w m) := hm
  obtain ⟨n1, hn1⟩ : ∃ n1, ops1.length = n1 := ⟨_, rfl⟩
  obtain ⟨n2, hn2⟩ : ∃ n2, ops2.length = n2 := ⟨_, rfl⟩
  have HN1 : Hid (ops1.length = n1) := hn1
  have HN2 : Hid (ops2.length = n2) := hn2
  rw [hn1] at hlen1
  rw [hn2] at hlen2
  rw [hn1, hn2]
  obtain ⟨X, hX⟩ : ∃ X, m.arr = X := ⟨_, rfl⟩
  have HX : Hid (m.arr = X) := hX
  rw [hX] at hW0
  rw [hX]
  obtain ⟨t, ht⟩ : ∃ t, W0.heap.size = t := ⟨_, rfl⟩
  rw [ht] at HN HB0
  obtain ⟨g, hg⟩ : ∃ g, w.heap.size = g := ⟨_, rfl⟩
  have HG : Hid (w.heap.size = g) := hg
  rw [hg] at HN HB0
  clear hn1 hn2 hX row1 row2 hm hb0
  go_enter Try.func8, Try.ntmps8
  go_wp2_with (first
    | (go_at_call 9; refine HN.out.mono ?_; rintro q w1 ⟨rfl, hL1, hb1⟩; have R1 : Hid (Ep w w1 t g (Ts.new 1 1 4) m) := ⟨hL1, by rw [HG.out]; exact Nat.le_refl _, HB0.out w1 hb1⟩; clear hL1 hb1))
  clear hW0 ht hg
  go_loopw [9] (fun s9 wr => ∃ (i : Nat) (S : Ts), i ≤ n1 ∧ s9 = .int .i64 i ∧ Hid (Ep w wr t g S m ∧ S.asked = 0 ∧ S.client = 1 ∧ S.life = 1)) (fun s9 _ => n1 - (intOf s9).toNat)
  case atStart => exact ⟨0, _, Nat.zero_le _, rfl, R1.out, rfl, rfl, rfl⟩
  case round =>
    obtain ⟨i, S, hil, rfl, HR⟩ := hrel
    by_cases hlt : i < n1
    · have hlz : (i : Int) < (n1 : Int) := by omega
      obtain ⟨bI, offI, x, rfl, hx, hcx, hax, -⟩ := (HRow1.out.below HR.out.1.lt.bel).get (i := i) (by rw [HN1.out]; exact hlt)
      have ml := RowT.msg hcx
      have HM : Hid (Calls Try.prog 16 #[.agg x.m.arr] wr fun e w' => MsgR x.m wr e w') := msg_p x.m wr hax
      obtain ⟨Z, hZ⟩ : ∃ Z, x.m.arr = Z := ⟨_, rfl⟩
      rw [hZ] at ml HM
      clear hx hcx hax hZ
      go_wp2_with (first
        | (go_at_call 16; refine HM.out.mono ?_; rintro q w3 ⟨z, rfl, -, hLz, hb3⟩; have R3 : Hid (Ep w w3 t g S m ∧ Lists w3 wr.heap.size z) := ⟨HR.out.1.below hb3, hLz⟩; clear hLz hb3 ml)
        | (go_at_call 15; refine (R3.out.1.take z R3.out.2).mono ?_; rintro q w4 ⟨v4, l4, rfl, -, -, hr4⟩; have R4 : Hid (Ep w w4 t g (S.take z.m).1 m) := hr4; clear hr4))
      have hri := rise_take S z.m
      exact ⟨⟨i + 1, _, by omega, by simp, R4.out, hri.ak HR.out.2.1, hri.cl.trans HR.out.2.2.1, hri.li.trans HR.out.2.2.2⟩, by simp [intOf]; omega⟩
    · have hlz : ¬ (i : Int) < (n1 : Int) := by omega
      obtain ⟨xa, ya, hmk, -, -, hcm⟩ := HR.out.1.lt.marke
      obtain ⟨E, hE⟩ : ∃ E, S.e = E := ⟨_, rfl⟩
      have HE : Hid (S.e = E) := hE
      rw [hE] at hmk
      have hE0 := hmk.e0
      have hE1 := hmk.e1
      have HEp : Hid (∀ W, Calls Try.prog 25 #[.complex .f64 xa ya] W fun e w' => e = .returned (.int .i64 E) ∧ W = w') := fun W => (epoch_any xa ya W).mono fun e w' hh => by
        refine ⟨?_, hh.2.symm⟩
        rw [hh.1, if_pos hmk.good, hmk.pa]
      have HCm : Hid (Calls Try.prog 19 #[.pointer (some ⟨t, 0, none⟩)] wr fun e w' => e = .returned (.complex .f64 xa ya) ∧ wr = w') := hcm
      clear hmk hcm hE
      by_cases hbig : 1099511627776 ≤ E
      · go_wp2_with (first
          | (go_at_call 19; refine HCm.out.mono ?_; rintro q w' ⟨rfl, rfl⟩)
          | (go_at_call 25; refine (HEp.out _).mono ?_; rintro q w' ⟨rfl, rfl⟩)
          | (go_at_call 11; refine (HAw.out _).mono ?_; rintro q w12 ⟨rfl, hb12⟩))
        go_ret
        exact ⟨rfl, chainB HR.out.1.lt.bel hb12⟩
      · have hEw : IntKind.i64.wrap (E + 1) = E + 1 := IntWalk.i64_in _ (by omega)
        have hE2 : ¬ (1099511627776 : Int) ≤ E := hbig
        obtain ⟨m', hm'⟩ : ∃ m' : Mm, m' = { m with kind := 2, client := 1, life := 1, ep := E + 1, nb := 0 } := ⟨_, rfl⟩
        have hbx := HR.out.1.box
        have c0 : wr.cell? ⟨g, 0, none⟩ = some (.int .i64 m.kind) := cell_of hbx 0
        have c1 : wr.cell? ⟨g, 1, none⟩ = some (.int .i64 m.client) := cell_of hbx 1
        have c2 : wr.cell? ⟨g, 2, none⟩ = some (.int .i64 m.life) := cell_of hbx 2
        have c4 : wr.cell? ⟨g, 4, none⟩ = some (.int .i64 m.ep) := cell_of hbx 4
        have c5 : wr.cell? ⟨g, 5, none⟩ = some (.int .i64 m.nb) := cell_of hbx 5
        have cf := free_of hbx
        obtain ⟨V, hV⟩ : ∃ V, ((((wr.setCell ⟨g, 0, none⟩ (.int .i64 2)).setCell ⟨g, 1, none⟩ (.int .i64 1)).setCell ⟨g, 2, none⟩ (.int .i64 1)).setCell ⟨g, 4, none⟩ (.int .i64 (E + 1))).setCell ⟨g, 5, none⟩ (.int .i64 0) = V := ⟨_, rfl⟩
        have RV : Hid (Ep w V t g S m') := by
          have h1 := HR.out.1.put { m with kind := 2 } 0 (.int .i64 2) rfl
          have h2 := h1.put { m with kind := 2, client := 1 } 1 (.int .i64 1) rfl
          have h3 := h2.put { m with kind := 2, client := 1, life := 1 } 2 (.int .i64 1) rfl
          have h4 := h3.put { m with kind := 2, client := 1, life := 1, ep := E + 1 } 4 (.int .i64 (E + 1)) rfl
          have h5 := h4.put { m with kind := 2, client := 1, life := 1, ep := E + 1, nb := 0 } 5 (.int .i64 0) rfl
          rw [hV] at h5
          rw [hm']; exact h5
        have ml := mmLd_of RV.out.box m'.size
        have HM : Hid (Calls Try.prog 16 #[.agg m'.arr] V fun e w' => MsgR m' V e w') := msg_p m' V (by
          have := HMm.out.below RV.out.lt.bel
          rw [hm']; exact ⟨this.es, this.ks⟩)
        obtain ⟨Z, hZ⟩ : ∃ Z, m'.arr = Z := ⟨_, rfl⟩
        rw [hZ] at ml HM
        obtain ⟨S1, hS1⟩ : ∃ S1 : Ts, S1 = ⟨1, 1, E + 1, 0, S.ver, 0, [], [], S.hold⟩ := ⟨_, rfl⟩
        have HSt : Hid (S.take m'.pm = (S1, [allA])) := by
          have := take_later (S := S) (m := m'.pm) (by rw [hm']; rfl) (by rw [hm', HR.out.2.2.1]; rfl) (by rw [hm', HR.out.2.2.2]; rfl) (by
            rw [hm', HE.out]
            show Mk (floatOfInt .f64 (E + 1)) (floatOfInt .f64 0) (E + 1) 0
            exact Mk.of (by omega) (by omega) (by omega) (by omega)) HR.out.2.1
          rw [HR.out.2.2.1, HR.out.2.2.2, HE.out] at this
          rw [hS1]; exact this
        obtain ⟨vr, hvr⟩ : ∃ vr, S.ver = vr := ⟨_, rfl⟩
        rw [hvr] at hS1
        have HS1 : Hid (S1 = ⟨1, 1, E + 1, 0, vr, 0, [], [], S.hold⟩) := hS1
        have HS1e : Hid (S1.e = E + 1 ∧ S1.n = 0 ∧ S1.ver = vr ∧ S1.held = []) := by rw [hS1]; exact ⟨rfl, rfl, rfl, rfl⟩
        clear hm' hbx hZ hS1 hvr
        go_wp2_with (first
          | (go_at_call 19; refine HCm.out.mono ?_; rintro q w' ⟨rfl, rfl⟩)
          | (go_at_call 25; refine (HEp.out _).mono ?_; rintro q w' ⟨rfl, rfl⟩)
          | (go_at_call 16; refine HM.out.mono ?_; rintro q w3 ⟨z, rfl, hz, hLz, hb3⟩; have R3 : Hid (Ep w w3 t g S m' ∧ Lists w3 V.heap.size z ∧ z.m = m'.pm) := ⟨RV.out.below hb3, hLz, hz⟩; clear hLz hb3 hz ml c0 c1 c2 c4 c5 cf hV)
          | (go_at_call 15; refine (R3.out.1.take z R3.out.2.1).mono ?_; rintro q w4 ⟨v4, l4, rfl, ha4, hc4, hr4⟩; rw [R3.out.2.2, HSt.out] at hc4 hr4; obtain ⟨g4, m4, q4, ak, ck, ae, ce, rfl, rfl, -, d0, -, -, -, -⟩ := acts_first ha4 hc4; rw [show allA.all = true from rfl] at d0; have R4 : Hid (Ep w w4 t g S1 m') := hr4; obtain ⟨x8, y8, -, f1, f2, hc8⟩ := R4.out.lt.marke; rw [HS1e.out.1] at f1; rw [HS1e.out.2.1] at f2; have HC8 : Hid (Calls Try.prog 19 #[.pointer (some ⟨t, 0, none⟩)] w4 fun e w' => e = .returned (.complex .f64 x8 y8) ∧ w4 = w') := hc8; clear ha4 hc4 hr4 hc8)
          | (have _q := HC8; go_at_call 19; refine HC8.out.mono ?_; clear _q; rintro q w' ⟨rfl, rfl⟩)
          | (go_at_call 30; refine (HMA.out (E + 1) 0 _).mono ?_; rintro q w' ⟨rfl, rfl⟩)
          | (go_at_call 21; refine (lt_held R4.out.lt).mono ?_; rintro q w5 ⟨v5, l5, rfl, hm5, hc5, hb5⟩; obtain ⟨a5, q5, rfl⟩ := owns_len hm5.row; rw [HS1e.out.2.2.2] at hc5; obtain rfl := List.map_eq_nil_iff.1 hc5; have R5 : Hid (Ep w w5 t g S1 m') := R4.out.below hb5; clear hm5 hc5 hb5 d0)
          | (go_at_call 20; refine (lt_version R5.out.lt).mono ?_; rintro q w' ⟨rfl, rfl⟩; rw [HS1e.out.2.2.1]))
        clear f1 f2
        go_loopw [13] (fun s13 wr => ∃ i : Nat, i ≤ n2 ∧ s13 = .int .i64 i ∧ Hid (Ep w wr t g S1 m')) (fun s13 _ => n2 - (intOf s13).toNat)
        case atStart => exact ⟨0, Nat.zero_le _, rfl, R5.out⟩
        case round =>
          obtain ⟨i2, hil2, rfl, H2⟩ := hrel
          by_cases hlt2 : i2 < n2
          · have hlz2 : (i2 : Int) < (n2 : Int) := by omega
            obtain ⟨bI, offI, x, rfl, hx, hcx, hax, -⟩ := (HRow2.out.below H2.out.lt.bel).get (i := i2) (by rw [HN2.out]; exact hlt2)
            have ml := RowT.msg hcx
            obtain ⟨NE, hNE⟩ : ∃ NE : Nat, (NE : Int) = E + 1 := ⟨(E + 1).toNat, by omega⟩
            obtain ⟨p, hp⟩ : ∃ p, plw x.m.ep NE = p := ⟨_, rfl⟩
            have hpE : (p : Int) ≤ E := by have := plw_lt x.m.ep NE (by omega); omega
            have HP : Hid (∀ W, Calls Try.prog 28 #[.int .i64 x.m.ep, .int .i64 (E + 1)] W fun e w' => e = .returned (.int .i64 p) ∧ W = w') := fun W => by have := place_b x.m.ep NE W (by omega) (by omega); rw [hp, hNE] at this; exact this
            obtain ⟨gq, hgq⟩ : ∃ gq, wr.heap.size = gq := ⟨_, rfl⟩
            obtain ⟨W5, hW5⟩ : ∃ W5, wr.alloc (.cells #[.int .i64 0, .int .i64 0, .int .i64 0, .int .i64 0, .int .i64 0, .int .i64 0, .int .i64 0, .int .i64 0, .int .i64 0, .int .i64 0, .string ⟨#[]⟩, .int .i64 0, .string ⟨#[]⟩, .int .i64 0, .string ⟨#[]⟩, .slice none 0 0, .slice none 0 0] 36) = W5 := ⟨_, rfl⟩
            have hb5 := boxB hW5
            obtain ⟨W6, hW6⟩ : ∃ W6, W5.setRow gq x.m.arr = W6 := ⟨_, rfl⟩
            rw [hgq] at hb5
            have ms := mmSt_of hb5.1 rfl x.m.size hax.one hW6
            have hx6 : W6.heap[gq]? = some (.cells x.m.arr 36 (0, 0)) := by rw [← hW6]; exact setRow_heap _ _ _ _ _ _ hb5.1
            have c4 : W6.cell? ⟨gq, 4, none⟩ = some (.int .i64 x.m.ep) := cell_of hx6 4
            have cf := free_of hx6 4
            obtain ⟨W7, hW7⟩ : ∃ W7, W6.setCell ⟨gq, 4, none⟩ (.int .i64 p) = W7 := ⟨_, rfl⟩
            obtain ⟨y, hy⟩ : ∃ y : Mm, y = { x.m with ep := (p : Int) } := ⟨_, rfl⟩
            have hx7 : W7.heap[gq]? = some (.cells y.arr 36 (0, 0)) := by
              rw [← hW7, hy]
              exact heap_set hx6 4 (.int .i64 p)
            have hb7 : Below wr.heap.size wr W7 := by
              have o1 : Only (· = gq) W5 W6 := by rw [← hW6]; exact onlyR _ _ _
              have o2 : Only (· = gq) W6 W7 := by rw [← hW7]; exact only1 _ _ _ _
              have b5 : Below wr.heap.size wr W5 := by rw [hgq]; exact hb5.2
              exact (o1.trans o2).below b5 b5.size (fun k hk => by rw [hk, hgq]; exact Nat.le_refl _)
            have ml7 := mmLd_of hx7 y.size
            have HM7 : Hid (Calls Try.prog 16 #[.agg y.arr] W7 fun e w' => MsgR y W7 e w') := msg_p y W7 (by
              have := hax.below hb7
              rw [hy]; exact ⟨this.es, this.ks⟩)
            have R7 : Hid (Ep w W7 t g S1 m') := H2.out.below hb7
            have HSt2 : Hid (S1.take y.pm = (S1, [])) := by
              apply take_strange
              have hre : y.pm.ep = p := by rw [hy]; exact part_of (ofInt_val p (by omega))
              unfold Ts.counts
              rw [hre, HS1e.out.1, decide_eq_false (p := E + 1 ≤ (p : Int)) (by omega)]
              simp
            obtain ⟨Z7, hZ7⟩ : ∃ Z, y.arr = Z := ⟨_, rfl⟩
            rw [hZ7] at ml7 HM7
            obtain ⟨X7, hX7⟩ : ∃ Z, x.m.arr = Z := ⟨_, rfl⟩
            rw [hX7] at ml ms
            clear hx hcx hax hp hNE hx6 hx7 hb7 hb5 hy hZ7 hX7 hW6
            go_wp2_with (first
              | (go_at_call 28; refine (HP.out _).mono ?_; rintro q w' ⟨rfl, rfl⟩)
              | (go_at_call 16; refine HM7.out.mono ?_; rintro q w8 ⟨z8, rfl, hz8, hLz8, hb8⟩; have R8 : Hid (Ep w w8 t g S1 m' ∧ Lists w8 W7.heap.size z8 ∧ z8.m = y.pm) := ⟨R7.out.below hb8, hLz8, hz8⟩; clear hLz8 hb8 hz8 ml ml7 ms c4 cf)
              | (go_at_call 15; refine (R8.out.1.take z8 R8.out.2.1).mono ?_; rintro q w9 ⟨v9, l9, rfl, ha9, hc9, hr9⟩; rw [R8.out.2.2, HSt2.out] at hc9 hr9; obtain ⟨a9, q9, rfl⟩ := acts_none ha9 hc9; have R9 : Hid (Ep w w9 t g S1 m') := hr9; clear ha9 hc9 hr9))
            exact ⟨⟨i2 + 1, by omega, by simp, R9.out⟩, by simp [intOf]; omega⟩
          · have hlz2 : ¬ (i2 : Int) < (n2 : Int) := by omega
            obtain ⟨x9, y9, -, f1, f2, hc9⟩ := H2.out.lt.marke
            rw [HS1e.out.1] at f1
            rw [HS1e.out.2.1] at f2
            have HC9 : Hid (Calls Try.prog 19 #[.pointer (some ⟨t, 0, none⟩)] wr fun e w' => e = .returned (.complex .f64 x9 y9) ∧ wr = w') := hc9
            clear hc9
            go_wp2_with (first
              | (go_at_call 19; refine HC9.out.mono ?_; rintro q w' ⟨rfl, rfl⟩)
              | (go_at_call 30; refine (HMA.out (E + 1) 0 _).mono ?_; rintro q w' ⟨rfl, rfl⟩)
              | (go_at_call 20; refine (lt_version H2.out.lt).mono ?_; rintro q w' ⟨rfl, rfl⟩; rw [HS1e.out.2.2.1])
              | (go_at_call 11; refine (HAw.out _).mono ?_; rintro q w12 ⟨rfl, hb12⟩))
            go_ret
            exact ⟨rfl, chainB H2.out.lt.bel hb12⟩
theorem walk_TideEpochs (a1 : Option Addr) (cap1 : Nat) (ops1 : List TOp) (m : Mm) (a2 : Option Addr) (cap2 : Nat) (ops2 : List TOp) (w : World) (row1 : RowT w a1 ops1) (hlen1 : ops1.length ≤ 3000000000000) (hm : ArgM w m) (row2 : RowT w a2 ops2) (hlen2 : ops2.length ≤ 3000000000000) : Calls Try.prog 8 #[.slice a1 ops1.length cap1, .agg m.arr, .slice a2 ops2.length cap2] w fun e w' => e = .returned (.bool true) ∧ Below w.heap.size w w' := epochs_walk a1 cap1 ops1 m a2 cap2 ops2 w row1 hlen1 hm row2 hlen2
end
end Go.Proofs.Ytnklhdoiggomkaa
