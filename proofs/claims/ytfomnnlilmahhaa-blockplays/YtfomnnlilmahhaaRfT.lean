/- The walk of the law BlockPlays. -/
import Derived.Test.YtfomnnlilmahhaaRfS
import Derived.Deep.CutRange
import Derived.Deep.Light
namespace Go.Proofs.Ytfomnnlilmahhaa
open Go.RowKit

/-- a script that came in -/
def RowO (w : World) (a : Option Addr) (len : Nat) (K A L F : Nat → Int) : Prop :=
  len = 0 ∨ ∃ b off, a = some ⟨b, off, none⟩ ∧ b < w.heap.size ∧ ∀ i, i < len → w.cell? ⟨b, off + i * 4, none⟩ = some (.int .i64 (K i)) ∧ w.cell? ⟨b, off + i * 4 + 1, none⟩ = some (.int .i64 (A i)) ∧ w.cell? ⟨b, off + i * 4 + 2, none⟩ = some (.int .i64 (L i)) ∧ w.cell? ⟨b, off + i * 4 + 3, none⟩ = some (.int .i64 (F i)) ∧ A i ≤ 9223372036854775807
theorem RowO.at {w wr : World} {a : Option Addr} {len : Nat} {K A L F : Nat → Int} (h : RowO w a len K A L F) (hb : Below w.heap.size w wr) (k : Nat) (hk : k < len) : ∃ ab off, a = some ⟨ab, off, none⟩ ∧ ab < wr.heap.size ∧
    wr.cell? ⟨ab, off + k * 4, none⟩ = some (.int .i64 (K k)) ∧ wr.cell? ⟨ab, off + k * 4 + 1, none⟩ = some (.int .i64 (A k)) ∧ wr.cell? ⟨ab, off + k * 4 + 2, none⟩ = some (.int .i64 (L k)) ∧ wr.cell? ⟨ab, off + k * 4 + 3, none⟩ = some (.int .i64 (F k)) ∧ A k ≤ 9223372036854775807 := by
  rcases h with h0 | ⟨ab, off, rfl, hs, hc⟩
  · omega
  · obtain ⟨c0, c1, c2, c3, c4⟩ := hc k hk
    exact ⟨ab, off, rfl, Nat.lt_of_lt_of_le hs hb.size, (hb.cell (p := ⟨ab, off + k * 4, none⟩) hs).trans c0, (hb.cell (p := ⟨ab, off + k * 4 + 1, none⟩) hs).trans c1, (hb.cell (p := ⟨ab, off + k * 4 + 2, none⟩) hs).trans c2, (hb.cell (p := ⟨ab, off + k * 4 + 3, none⟩) hs).trans c3, c4⟩
def opX (K A L F : Int) : Array Value := #[.int .i64 K, .int .i64 A, .int .i64 L, .int .i64 F]
theorem XB.cells {w : World} {X : Nat} {K A L F : Int} (h : XB w X (opX K A L F)) : w.cell? ⟨X, 0, none⟩ = some (.int .i64 K) ∧ w.cell? ⟨X, 1, none⟩ = some (.int .i64 A) ∧ w.cell? ⟨X, 2, none⟩ = some (.int .i64 L) ∧ w.cell? ⟨X, 3, none⟩ = some (.int .i64 F) :=
  ⟨by rw [cell_of h]; rfl, by rw [cell_of h]; rfl, by rw [cell_of h]; rfl, by rw [cell_of h]; rfl⟩
theorem All.start {w w1 w2 : World} {b g r N : Nat} (hb : w.heap.size ≤ b) (hg : w.heap.size ≤ g) (hD : IsD w1 b g (Dsk.new N)) (hB : Below w.heap.size w w1) (hr : w1.heap.size ≤ r) (hR : IsR w2 r (Rf.new N)) (hB2 : Below w1.heap.size w1 w2) :
    All w N 0 w2 ⟨b, g, Dsk.new N, r, Rf.new N⟩ [] (.slice none 0 0) (.slice none 0 0) :=
  ⟨⟨hD.below hB2, hR, rfl, Nat.le_refl _, hb, hg, Nat.le_trans hB.size hr, fun q e => by cases e⟩, fun q hq => (by cases hq), fun q hq => (by cases hq), chainB hB hB2, World.ownsRow_nil _ _ _ _, World.ownsRow_nil _ _ _ _⟩

theorem Try.infoPB : (Try.prog.info? 23).map (fun i => (i.zero, i.size, i.bytes)) = some (some (.pointer none), 1, 8) := by kernel_rfl
theorem Try.infoPR : (Try.prog.info? 27).map (fun i => (i.zero, i.size, i.bytes)) = some (some (.pointer none), 1, 8) := by kernel_rfl
theorem owns_len {w : World} {base : Nat} {e : TypeId} {size : Nat} {v : Value} {n : Nat} {xs : List Value} (h : w.ownsRow base e size v n xs) : ∃ a c, v = .slice a n c := by
  rcases h.2 with ⟨rfl, rfl⟩ | ⟨g, cap, cur, rfl, _⟩
  · exact ⟨_, _, rfl⟩
  · exact ⟨_, _, rfl⟩
theorem owns_cell {w : World} {base : Nat} {e : TypeId} {a : Option Addr} {n c : Nat} {xs : List Value} (h : w.ownsRow base e 1 (.slice a n c) n xs) (j : Nat) (hj : j < n) : ∃ g, a = some ⟨g, 0, none⟩ ∧ w.cell? ⟨g, j, none⟩ = xs[j]? := by
  have h' := h
  rcases h.2 with ⟨_, e2⟩ | ⟨g, cap, cur, e', _⟩
  · omega
  · cases e'
    exact ⟨g, rfl, h'.cellAt j (by omega)⟩
theorem cellLt {w : World} {p : Addr} {v : Value} (h : w.cell? p = some v) : p.block < w.heap.size := by
  unfold World.cell? at h
  by_cases c : p.block < w.heap.size
  · exact c
  · rw [Array.getElem?_eq_none (by omega)] at h
    simp at h

set_option maxRecDepth 100000 in
set_option maxHeartbeats 16000000 in
theorem walk_BlockPlays (n : Int) (a : Option Addr) (len cap : Nat) (K A L F : Nat → Int) (w : World) (_ : (Lit.int .i64 n).wf = true) (row : RowO w a len K A L F) (hlen : len * 32 ≤ 140737488351232) :
    Calls Try.prog 3 #[.int .i64 n, .slice a len cap] w fun e w' => e = .returned (.bool true) ∧ Below w.heap.size w w' := by
  by_cases hn : 1 ≤ n ∧ n ≤ 1024
  · obtain ⟨N, rfl⟩ := Int.eq_ofNat_of_zero_le (show 0 ≤ n by omega)
    have h1 : 1 ≤ N := by omega
    have h2 : N ≤ 1024 := by omega
    have HR : Hid (RowO w a len K A L F) := row
    clear hn row
    go_enter Try.func3, Try.ntmps3
    go_wp2_with (first
      | (go_at_call 9; refine (new_yes N _ h1 h2).mono ?_; rintro e w1 ⟨b, g, rfl, hb, hg, hD, hB⟩)
      | (go_at_call 10; refine (rnew_yes N _ h1 h2).mono ?_; rintro e w2 ⟨r, rfl, hr, hR, hB2⟩; have hA := All.start hb hg hD hB hr hR hB2; clear hb hg hD hB hr hR hB2))
    go_loopw [5, 7, 9, 10, 11] (fun vd vw vds vws i wr => ∃ k : Nat, k ≤ len ∧ i = .int .i64 k ∧ ∃ p qs, vd = .pointer (some ⟨Pr.b p, 0, none⟩) ∧ vw = .pointer (some ⟨Pr.r p, 0, none⟩) ∧ qs.length ≤ k ∧ All w N k wr p qs vds vws ∧ Sim p.s p.R) (fun _ _ _ _ i _ => len - (intOf i).toNat)
    case atStart => exact ⟨0, Nat.zero_le _, rfl, _, _, rfl, rfl, Nat.le_refl _, hA, Sim.new N⟩
    case round =>
      clear hA
      obtain ⟨k, hk, rfl, p, qs, rfl, rfl, hqk, hA, hS⟩ := hrel
      obtain ⟨b, g, s, r, R⟩ := p
      have HS : Hid (Sim s R) := hS
      simp only
      clear hS
      by_cases hlt : k < len
      · obtain ⟨ab, off, rfl, hab, d0, d1, d2, d3, hAk⟩ := HR.out.at hA.bel k hlt
        have hki : (k : Int) < (len : Int) := by omega
        obtain ⟨K0, hK0⟩ : ∃ x, K k = x := ⟨_, rfl⟩
        obtain ⟨A0, hA0⟩ : ∃ x, A k = x := ⟨_, rfl⟩
        obtain ⟨L0, hL0⟩ : ∃ x, L k = x := ⟨_, rfl⟩
        obtain ⟨F0, hF0⟩ : ∃ x, F k = x := ⟨_, rfl⟩
        rw [hK0] at d0
        rw [hA0] at d1 hAk
        rw [hL0] at d2
        rw [hF0] at d3
        clear hK0 hA0 hL0 hF0
        go_upto_region 13 with fail
        obtain ⟨W, hW⟩ : ∃ W, wr.alloc (Obj.cells #[.int .i64 K0, .int .i64 A0, .int .i64 L0, .int .i64 F0] 34) = W := ⟨_, rfl⟩
        have hX : XB W wr.heap.size (opX K0 A0 L0 F0) := by rw [← hW]; exact heap_new _ _
        have hA1 : All w N k W ⟨b, g, s, r, R⟩ qs u9 u10 := by rw [← hW]; exact hA.below (below_alloc _ _)
        rw [hW]
        obtain ⟨X, hXX⟩ : ∃ X, wr.heap.size = X := ⟨_, rfl⟩
        rw [hXX] at hX ⊢
        obtain ⟨m0, m1, m2, m3⟩ := hX.cells
        have HX : Hid (XB W X (opX K0 A0 L0 F0)) := hX
        have HA1 : Hid (All w N k W ⟨b, g, s, r, R⟩ qs u9 u10) := hA1
        have hdid : R.did.length ≤ k := hA1.cur.did
        have hRn : R.n = N := hA1.cur.n
        have HRn : Hid (R.n = N) := hRn
        have hpl := pl_lt K0 6 (by decide)
        have hpl6 : (pl K0 6 : Int) = 0 ∨ (pl K0 6 : Int) = 1 ∨ (pl K0 6 : Int) = 2 ∨ (pl K0 6 : Int) = 3 ∨ (pl K0 6 : Int) = 4 ∨ (pl K0 6 : Int) = 5 := by omega
        have HPL : Hid (∀ w, Calls Try.prog 12 #[.int .i64 K0, .int .i64 6] w fun e w' => e = .returned (.int .i64 (pl K0 6)) ∧ w' = w) := fun w => place_any K0 6 w (by decide) (by decide)
        clear hA hW hXX hX hA1 d0 d1 d2 d3 hab hpl hRn
        rcases hpl6 with hp | hp | hp | hp | hp | hp
        all_goals
          rw [hp] at HPL
          clear hp
        · obtain ⟨l, hl⟩ : ∃ l, bl (bn L0) F0 = l := ⟨_, rfl⟩
          have HB : Hid (∀ w, Calls Try.prog 14 #[.int .i64 L0, .int .i64 F0] w fun e w' => ∃ v, e = .returned v ∧ OwnB w' w.heap.size v l ∧ Below w.heap.size w w') := by
            rw [← hl]; exact fun w => bytes_any L0 F0 w
          obtain ⟨E, hE⟩ : ∃ E, s.wrE A0 l.length = E := ⟨_, rfl⟩
          have HE : Hid (s.wrE A0 l.length = E ∧ R.rwE A0 l.length = E) := ⟨hE, by rw [← HS.out.wrE]; exact hE⟩
          have hgood : s.good := HS.out.good (by omega)
          have HG : Hid (s.good ∧ (-1 ≤ R.fz ∧ R.fz ≤ 9223372036854775807) ∧ R.n ≤ 1024) := ⟨hgood, HS.out.fzb, by rw [HRn.out]; exact h2⟩
          have HA0 : Hid (All w N k W.drew ⟨b, g, s, r, R⟩ qs u9 u10) := HA1.out.drew
          have HX0 : Hid (XB W.drew X (opX K0 A0 L0 F0)) := HX.out
          clear hl hE hgood
          go_upto_region 15 with (first | (go_at_call 12; refine (HPL.out _).mono ?_; rintro e w' ⟨rfl, rfl⟩))
          go_region_held3 (fun w' => w'.cell? ⟨X, 1, none⟩ = some (.int .i64 A0) ∧ w'.cell? ⟨X, 2, none⟩ = some (.int .i64 L0) ∧ w'.cell? ⟨X, 3, none⟩ = some (.int .i64 F0))
            (first | exact hX4.cells.2 | exact hX3.cells.2 | exact hX2.cells.2 | exact hX1.cells.2 | exact HX0.out.cells.2 | assumption)
            (first
              | (go_at_call 14; have _q := hX2; refine (HB.out _).mono ?_; rintro e w3 ⟨v3, rfl, ho3, hb3⟩; have hA3 := hA2.below hb3; have hX3 := hX2.below hb3)
              | (go_at_call 14; refine (HB.out _).mono ?_; rintro e w1 ⟨v1, rfl, ho1, hb1⟩; have hA1 := HA0.out.below hb1; have hX1 := HX0.out.below hb1; have hlt1 := HA0.out.cur.d.lb)
              | (go_at_call 13; refine (write_any b g s A0 v1 l _ _ hA1.cur.d HG.out.1 ho1 hlt1).mono ?_; rintro e w2 ⟨rfl, hD2, hO2⟩; rw [HE.out.1]; have hA2 : All w N k w2 ⟨b, g, s.wr A0 l, r, R⟩ qs u9 u10 := hA1.disk hD2 hO2; have hX2 := hX1.disk hA1.cur.d hO2)
              | (go_at_call 15; refine (rwrite_any r R A0 v3 l _ _ hA3.cur.r ho3 HG.out.2.2 HG.out.2.1 (by omega)).mono ?_; rintro e w4 ⟨rfl, R1, hR4, hAf, hO4, hv4⟩; rw [HE.out.2]; have hX4 := hX3.ref hA3.cur.r hO4))
          obtain ⟨hSz, hn4, hd4⟩ := HS.out.write A0 l hAf
          have hZ : All w N (k + 1) w4 ⟨b, g, s.wr A0 l, r, R1⟩ qs u9 u10 := hA3.ref hR4 hO4 hn4 (Nat.le_trans hd4 (by omega)) (Nat.le_succ _) hv4
          obtain ⟨s1, hs1⟩ : ∃ x, s.wr A0 l = x := ⟨_, rfl⟩
          rw [hs1] at hZ hSz
          clear hA1 hA2 hA3 hX1 hX2 hX3 hX4 ho1 ho3 hb1 hb3 hD2 hO2 hR4 hO4 hv4 hAf hn4 hd4 hs1 HA0 HX0 HX HA1 HB HE HG m0 m1 m2 m3 hlt1
          have hRt : IsR w4 r R1 := hZ.cur.r
          have hDt : IsD w4 b g s1 := hZ.cur.d
          obtain ⟨_, c1, c2, _⟩ := hRt.cells
          obtain ⟨av, cv, hv⟩ := hRt.form
          rw [hv] at c1
          have HT : Hid (s1.on = R1.lit ∧ s1.writes = (R1.did.length : Int)) := ⟨hSz.on, hSz.wr⟩
          have HDt : Hid (IsD w4 b g s1) := hDt
          have HZ : Hid (All w N (k + 1) w4 ⟨b, g, s1, r, R1⟩ qs u9 u10) := hZ
          have HSz : Hid (Sim s1 R1) := hSz
          clear hZ hSz hv hRt hDt
          go_upto_region 41 with fail
          go_region_held3 (fun w' => IsD w' b g s1 ∧ w'.cell? ⟨r, 1, none⟩ = some (.slice av R1.did.length cv) ∧ w'.cell? ⟨r, 2, none⟩ = some (.bool R1.lit))
            (first | exact ⟨HDt.out.drew, c1, c2⟩ | assumption)
            (first
              | (go_at_call 27; refine (on_any b g s1 _ HDt.out.drew).mono ?_; rintro e w' ⟨rfl, rfl⟩; rw [HT.out.1])
              | (go_at_call 28; refine (writes_any b g s1 _ HDt.out.drew).mono ?_; rintro e w' ⟨rfl, rfl⟩; rw [HT.out.2]))
          go_wp2
          go_roundw
          case rel => exact ⟨k + 1, by omega, by go_num, _, _, rfl, rfl, by omega, HZ.out.drew, HSz.out⟩
          case measure => simp [intOf]; omega
        · obtain ⟨e1, e2⟩ := HS.out.rd A0
          have hl := HA1.out.cur.d.rd_len A0
          simp only at hl
          obtain ⟨l, hl'⟩ : ∃ l, s.rd A0 = l := ⟨_, rfl⟩
          obtain ⟨E, hE⟩ : ∃ E, s.rdE A0 = E := ⟨_, rfl⟩
          have HE : Hid (s.rd A0 = l ∧ s.rdE A0 = E ∧ R.rd A0 = l ∧ R.rdE A0 = E) := ⟨hl', hE, e2 ▸ hl', e1 ▸ hE⟩
          rw [hl'] at hl
          clear hl' hE e1 e2
          go_upto_region 41 with (first
            | (go_at_call 12; refine (HPL.out _).mono ?_; rintro e w' ⟨rfl, rfl⟩)
            | (go_at_call 16; refine (read_any b g s A0 _ HA1.out.cur.d).mono ?_; rintro e w1 ⟨v1, rfl, ho1, hb1⟩; rw [HE.out.2.1]; rw [HE.out.1] at ho1; have hA2 := HA1.out.below hb1; obtain ⟨n0, n1, n2, n3⟩ := (HX.out.below hb1).cells)
            | (go_at_call 17; refine (rread_any r R A0 _ hA2.cur.r (by omega)).mono ?_; rintro e w2 ⟨v2, rfl, ho2, hb2⟩; rw [HE.out.2.2.2]; rw [HE.out.2.2.1] at ho2; have hA3 := hA2.below hb2)
            | (go_at_call 18; refine (same_any v1 v2 l _ _ _ (ho1.below hb2) ho2 (by omega)).mono ?_; rintro e w3 ⟨rfl, hb3⟩; have hA4 := hA3.below hb3))
          have hZ : All w N (k + 1) w3 ⟨b, g, s, r, R⟩ qs u9 u10 := hA4.mono (Nat.le_succ _)
          have hSz : Sim s R := HS.out
          obtain ⟨s1, hs1⟩ : ∃ x, s = x := ⟨_, rfl⟩
          obtain ⟨R1, hR1⟩ : ∃ x, R = x := ⟨_, rfl⟩
          rw [hs1, hR1] at hZ hSz
          clear hA2 hA3 hA4 ho1 ho2 hb1 hb2 hb3 HE HA1 HX m0 m1 m2 m3 n0 n1 n2 n3 hs1 hR1 HS HRn hdid
          have hRt : IsR w3 r R1 := hZ.cur.r
          have hDt : IsD w3 b g s1 := hZ.cur.d
          obtain ⟨_, c1, c2, _⟩ := hRt.cells
          obtain ⟨av, cv, hv⟩ := hRt.form
          rw [hv] at c1
          have HT : Hid (s1.on = R1.lit ∧ s1.writes = (R1.did.length : Int)) := ⟨hSz.on, hSz.wr⟩
          have HDt : Hid (IsD w3 b g s1) := hDt
          have HZ : Hid (All w N (k + 1) w3 ⟨b, g, s1, r, R1⟩ qs u9 u10) := hZ
          have HSz : Hid (Sim s1 R1) := hSz
          clear hZ hSz hv hRt hDt
          go_upto_region 41 with fail
          go_region_held3 (fun w' => IsD w' b g s1 ∧ w'.cell? ⟨r, 1, none⟩ = some (.slice av R1.did.length cv) ∧ w'.cell? ⟨r, 2, none⟩ = some (.bool R1.lit))
            (first | exact ⟨HDt.out.drew, c1, c2⟩ | assumption)
            (first
              | (go_at_call 27; refine (on_any b g s1 _ HDt.out.drew).mono ?_; rintro e w' ⟨rfl, rfl⟩; rw [HT.out.1])
              | (go_at_call 28; refine (writes_any b g s1 _ HDt.out.drew).mono ?_; rintro e w' ⟨rfl, rfl⟩; rw [HT.out.2]))
          go_wp2
          go_roundw
          case rel => exact ⟨k + 1, by omega, by go_num, _, _, rfl, rfl, by omega, HZ.out.drew, HSz.out⟩
          case measure => simp [intOf]; omega
        · obtain ⟨hfe, hSz⟩ := HS.out.fuse A0 hAk
          obtain ⟨E, hE⟩ : ∃ E, s.fuseE A0 = E := ⟨_, rfl⟩
          have HE : Hid (s.fuseE A0 = E ∧ R.fuseE A0 = E) := ⟨hE, by rw [← hfe]; exact hE⟩
          have HA0 : Hid (All w N k W.drew ⟨b, g, s, r, R⟩ qs u9 u10) := HA1.out.drew
          have HX0 : Hid (XB W.drew X (opX K0 A0 L0 F0)) := HX.out
          have HF : Hid (Sim (s.fuse A0) (R.fuse A0)) := hSz
          clear hfe hE hSz
          go_upto_region 23 with (first | (go_at_call 12; refine (HPL.out _).mono ?_; rintro e w' ⟨rfl, rfl⟩))
          go_region_held3 (fun w' => w'.cell? ⟨X, 1, none⟩ = some (.int .i64 A0))
            (first | exact hX2.cells.2.1 | exact hX1.cells.2.1 | exact HX0.out.cells.2.1 | assumption)
            (first
              | (go_at_call 19; refine (fuse_any b g s A0 _ HA0.out.cur.d).mono ?_; rintro e w1 ⟨rfl, hD1, hO1⟩; rw [HE.out.1]; have hA1 : All w N k w1 ⟨b, g, s.fuse A0, r, R⟩ qs u9 u10 := HA0.out.diskB hD1 hO1; have hX1 := HX0.out.disk HA0.out.cur.d (hO1.mono fun _ h => .inl h))
              | (go_at_call 20; refine (rfuse_any r R A0 _ hA1.cur.r).mono ?_; rintro e w2 ⟨rfl, hR2, hO2⟩; rw [HE.out.2]; have hX2 := hX1.ref hA1.cur.r (hO2.mono fun _ h => .inl h)))
          have hSz := HF.out
          have hZ : All w N (k + 1) w2 ⟨b, g, s.fuse A0, r, R.fuse A0⟩ qs u9 u10 := (hA1.refB hR2 hO2 (rfuse_n R A0) (rfuse_did R A0) (rfuse_v R A0)).mono (Nat.le_succ _)
          obtain ⟨s1, hs1⟩ : ∃ x, s.fuse A0 = x := ⟨_, rfl⟩
          obtain ⟨R1, hR1⟩ : ∃ x, R.fuse A0 = x := ⟨_, rfl⟩
          rw [hs1, hR1] at hZ hSz
          clear hA1 hX1 hX2 hD1 hO1 hR2 hO2 HF HE HA0 HX0 HA1 HX m0 m1 m2 m3 hs1 hR1
          have hRt : IsR w2 r R1 := hZ.cur.r
          have hDt : IsD w2 b g s1 := hZ.cur.d
          obtain ⟨_, c1, c2, _⟩ := hRt.cells
          obtain ⟨av, cv, hv⟩ := hRt.form
          rw [hv] at c1
          have HT : Hid (s1.on = R1.lit ∧ s1.writes = (R1.did.length : Int)) := ⟨hSz.on, hSz.wr⟩
          have HDt : Hid (IsD w2 b g s1) := hDt
          have HZ : Hid (All w N (k + 1) w2 ⟨b, g, s1, r, R1⟩ qs u9 u10) := hZ
          have HSz : Hid (Sim s1 R1) := hSz
          clear hZ hSz hv hRt hDt
          go_upto_region 41 with fail
          go_region_held3 (fun w' => IsD w' b g s1 ∧ w'.cell? ⟨r, 1, none⟩ = some (.slice av R1.did.length cv) ∧ w'.cell? ⟨r, 2, none⟩ = some (.bool R1.lit))
            (first | exact ⟨HDt.out.drew, c1, c2⟩ | assumption)
            (first
              | (go_at_call 27; refine (on_any b g s1 _ HDt.out.drew).mono ?_; rintro e w' ⟨rfl, rfl⟩; rw [HT.out.1])
              | (go_at_call 28; refine (writes_any b g s1 _ HDt.out.drew).mono ?_; rintro e w' ⟨rfl, rfl⟩; rw [HT.out.2]))
          go_wp2
          go_roundw
          case rel => exact ⟨k + 1, by omega, by go_num, _, _, rfl, rfl, by omega, HZ.out.drew, HSz.out⟩
          case measure => simp [intOf]; omega
        · go_upto_region 41 with (first
            | (go_at_call 12; refine (HPL.out _).mono ?_; rintro e w' ⟨rfl, rfl⟩)
            | (go_at_call 21; refine (cut_any b g s _ HA1.out.cur.d).mono ?_; rintro e w1 ⟨rfl, hD1, hO1⟩; have hA1 : All w N k w1 ⟨b, g, s.cut, r, R⟩ qs u9 u10 := HA1.out.diskB hD1 hO1)
            | (go_at_call 22; refine (rcut_any r R _ hA1.cur.r).mono ?_; rintro e w2 ⟨rfl, hR2, hO2⟩))
          have hSz := HS.out.cut
          have hZ : All w N (k + 1) w2 ⟨b, g, s.cut, r, R.cut⟩ qs u9 u10 := (hA1.refB hR2 hO2 rfl rfl rfl).mono (Nat.le_succ _)
          obtain ⟨s1, hs1⟩ : ∃ x, s.cut = x := ⟨_, rfl⟩
          obtain ⟨R1, hR1⟩ : ∃ x, R.cut = x := ⟨_, rfl⟩
          rw [hs1, hR1] at hZ hSz
          clear hA1 hD1 hO1 hR2 hO2 HA1 HX m0 m1 m2 m3 hs1 hR1
          have hRt : IsR w2 r R1 := hZ.cur.r
          have hDt : IsD w2 b g s1 := hZ.cur.d
          obtain ⟨_, c1, c2, _⟩ := hRt.cells
          obtain ⟨av, cv, hv⟩ := hRt.form
          rw [hv] at c1
          have HT : Hid (s1.on = R1.lit ∧ s1.writes = (R1.did.length : Int)) := ⟨hSz.on, hSz.wr⟩
          have HDt : Hid (IsD w2 b g s1) := hDt
          have HZ : Hid (All w N (k + 1) w2 ⟨b, g, s1, r, R1⟩ qs u9 u10) := hZ
          have HSz : Hid (Sim s1 R1) := hSz
          clear hZ hSz hv hRt hDt
          go_upto_region 41 with fail
          go_region_held3 (fun w' => IsD w' b g s1 ∧ w'.cell? ⟨r, 1, none⟩ = some (.slice av R1.did.length cv) ∧ w'.cell? ⟨r, 2, none⟩ = some (.bool R1.lit))
            (first | exact ⟨HDt.out.drew, c1, c2⟩ | assumption)
            (first
              | (go_at_call 27; refine (on_any b g s1 _ HDt.out.drew).mono ?_; rintro e w' ⟨rfl, rfl⟩; rw [HT.out.1])
              | (go_at_call 28; refine (writes_any b g s1 _ HDt.out.drew).mono ?_; rintro e w' ⟨rfl, rfl⟩; rw [HT.out.2]))
          go_wp2
          go_roundw
          case rel => exact ⟨k + 1, by omega, by go_num, _, _, rfl, rfl, by omega, HZ.out.drew, HSz.out⟩
          case measure => simp [intOf]; omega
        · go_upto_region 41 with (first
            | (go_at_call 12; refine (HPL.out _).mono ?_; rintro e w' ⟨rfl, rfl⟩)
            | (go_at_call 23; refine (power_any b g s _ HA1.out.cur.d).mono ?_; rintro e w1 ⟨rfl, hD1, hO1⟩; have hA1 : All w N k w1 ⟨b, g, s.power, r, R⟩ qs u9 u10 := HA1.out.diskB hD1 hO1)
            | (go_at_call 24; refine (rpower_any r R _ hA1.cur.r).mono ?_; rintro e w2 ⟨rfl, hR2, hO2⟩))
          have hSz := HS.out.power
          have hZ : All w N (k + 1) w2 ⟨b, g, s.power, r, R.power⟩ qs u9 u10 := (hA1.refB hR2 hO2 rfl rfl rfl).mono (Nat.le_succ _)
          obtain ⟨s1, hs1⟩ : ∃ x, s.power = x := ⟨_, rfl⟩
          obtain ⟨R1, hR1⟩ : ∃ x, R.power = x := ⟨_, rfl⟩
          rw [hs1, hR1] at hZ hSz
          clear hA1 hD1 hO1 hR2 hO2 HA1 HX m0 m1 m2 m3 hs1 hR1
          have hRt : IsR w2 r R1 := hZ.cur.r
          have hDt : IsD w2 b g s1 := hZ.cur.d
          obtain ⟨_, c1, c2, _⟩ := hRt.cells
          obtain ⟨av, cv, hv⟩ := hRt.form
          rw [hv] at c1
          have HT : Hid (s1.on = R1.lit ∧ s1.writes = (R1.did.length : Int)) := ⟨hSz.on, hSz.wr⟩
          have HDt : Hid (IsD w2 b g s1) := hDt
          have HZ : Hid (All w N (k + 1) w2 ⟨b, g, s1, r, R1⟩ qs u9 u10) := hZ
          have HSz : Hid (Sim s1 R1) := hSz
          clear hZ hSz hv hRt hDt
          go_upto_region 41 with fail
          go_region_held3 (fun w' => IsD w' b g s1 ∧ w'.cell? ⟨r, 1, none⟩ = some (.slice av R1.did.length cv) ∧ w'.cell? ⟨r, 2, none⟩ = some (.bool R1.lit))
            (first | exact ⟨HDt.out.drew, c1, c2⟩ | assumption)
            (first
              | (go_at_call 27; refine (on_any b g s1 _ HDt.out.drew).mono ?_; rintro e w' ⟨rfl, rfl⟩; rw [HT.out.1])
              | (go_at_call 28; refine (writes_any b g s1 _ HDt.out.drew).mono ?_; rintro e w' ⟨rfl, rfl⟩; rw [HT.out.2]))
          go_wp2
          go_roundw
          case rel => exact ⟨k + 1, by omega, by go_num, _, _, rfl, rfl, by omega, HZ.out.drew, HSz.out⟩
          case measure => simp [intOf]; omega
        · obtain ⟨i2, hi2, hp0, hp1, hp2⟩ := info_parts Try.infoPB
          obtain ⟨i3, hi3, hq0, hq1, hq2⟩ := info_parts Try.infoPR
          go_upto_region 36 with (first
            | (go_at_call 12; refine (HPL.out _).mono ?_; rintro e w' ⟨rfl, rfl⟩)
            | (go_at_call 25; refine (copy_any b g s _ HA1.out.cur.d).mono ?_; rintro e w1 ⟨b', g', rfl, hb', hg', hD1, hB1⟩; have hA2 := HA1.out.below hB1; obtain ⟨n0, n1, n2, n3⟩ := (HX.out.below hB1).cells)
            | (go_at_call 26; refine (rcopy_any r R _ hA2.cur.r (by omega)).mono ?_; rintro e w2 ⟨r', v', rfl, hr', hR2, hv2, hB2⟩; have hC := All.copied HA1.out hb' hg' hD1 hB1 hr' hR2 hv2 hB2; obtain ⟨n0, n1, n2, n3⟩ := ((HX.out.below hB1).below hB2).cells))
          have HC : Hid _ := hC
          clear hC hA2 hb' hg' hD1 hB1 hr' hR2 hv2 hB2
          by_cases par : A0.tmod 2 = 0
          · have hpb : (A0.tmod 2 == 0) = true := by simpa using par
            have hds := HC.out.2.1.ds
            have hsz := HC.out.1.bel.size
            clear par
            go_upto_region 41 with (first
              | (at_builtin; refine wpList_append_own _ rfl (.tmp 141) (.tmp 143) 31 rfl w.heap.size 23 i2 (.pointer none) 1 8 Try.underlying31 hi2 hp0 hp1 hp2 rfl (by decide) _ _ _ rfl (World.ownsRow.alloc hds _) ⟨w2.heap.size, 0, none⟩ 1 1 [.pointer (some ⟨b, 0, none⟩)] rfl rfl (one_at _ _ _) (one_cell _ rfl) (by unfold maxLen; omega) (by omega) (by simp; omega) ?_; intro vd3 w3 hown3 hgrow3 _; have hws3 := HC.out.2.1.ws_on hgrow3; have hsz3 : w2.heap.size ≤ w3.heap.size := Nat.le_trans (by simp) hgrow3.size)
              | (at_builtin; refine wpList_append_own _ rfl (.tmp 145) (.tmp 147) 32 rfl w.heap.size 27 i3 (.pointer none) 1 8 Try.underlying32 hi3 hq0 hq1 hq2 rfl (by decide) _ _ _ rfl (World.ownsRow.alloc hws3 _) ⟨w3.heap.size, 0, none⟩ 1 1 [.pointer (some ⟨r, 0, none⟩)] rfl rfl (one_at _ _ _) (one_cell _ rfl) (by unfold maxLen; omega) (by omega) (by simp; omega) ?_; intro vw4 w4 hown4 hgrow4 _))
            have hSz : Sim s { R with v := v' } := ⟨HS.out.n, HS.out.on, HS.out.wr, HS.out.fz, HS.out.cs⟩
            have hZ : All w N (k + 1) w4 ⟨b', g', s, r', { R with v := v' }⟩ (qs ++ [⟨b, g, s, r, R⟩]) vd3 vw4 := (HC.out.2.1.push HC.out.1.cur HS.out HC.out.2.2.2 hgrow3 hown3 hgrow4 hown4).mono (Nat.le_succ _)
            obtain ⟨R1, hR1⟩ : ∃ x, ({ R with v := v' } : Rf) = x := ⟨_, rfl⟩
            obtain ⟨s1, hs1⟩ : ∃ x, s = x := ⟨_, rfl⟩
            obtain ⟨qs1, hqs1⟩ : ∃ x, qs ++ [(⟨b, g, s, r, R⟩ : Pr)] = x := ⟨_, rfl⟩
            have hql : qs1.length ≤ k + 1 := by rw [← hqs1, List.length_append]; simp; omega
            rw [hR1, hqs1, hs1] at hZ
            rw [hR1, hs1] at hSz
            clear HC hgrow3 hown3 hgrow4 hown4 hds hws3 hsz hsz3 hR1 hs1 hqs1 HS HRn hdid HA1 HX m0 m1 m2 m3 n0 n1 n2 n3 hpb
            have hRt : IsR w4 r' R1 := hZ.cur.r
            have hDt : IsD w4 b' g' s1 := hZ.cur.d
            obtain ⟨_, c1, c2, _⟩ := hRt.cells
            obtain ⟨av, cv, hv⟩ := hRt.form
            rw [hv] at c1
            have HT : Hid (s1.on = R1.lit ∧ s1.writes = (R1.did.length : Int)) := ⟨hSz.on, hSz.wr⟩
            have HDt : Hid (IsD w4 b' g' s1) := hDt
            have HZ : Hid (All w N (k + 1) w4 ⟨b', g', s1, r', R1⟩ qs1 vd3 vw4) := hZ
            have HSz : Hid (Sim s1 R1) := hSz
            clear hZ hSz hv hRt hDt
            go_upto_region 41 with fail
            go_region_held3 (fun w' => IsD w' b' g' s1 ∧ w'.cell? ⟨r', 1, none⟩ = some (.slice av R1.did.length cv) ∧ w'.cell? ⟨r', 2, none⟩ = some (.bool R1.lit))
              (first | exact ⟨HDt.out.drew, c1, c2⟩ | assumption)
              (first
                | (go_at_call 27; refine (on_any b' g' s1 _ HDt.out.drew).mono ?_; rintro e w' ⟨rfl, rfl⟩; rw [HT.out.1])
                | (go_at_call 28; refine (writes_any b' g' s1 _ HDt.out.drew).mono ?_; rintro e w' ⟨rfl, rfl⟩; rw [HT.out.2]))
            go_wp2
            go_roundw
            case rel => exact ⟨k + 1, by omega, by go_num, _, _, rfl, rfl, hql, HZ.out.drew, HSz.out⟩
            case measure => simp [intOf]; omega
          · have hpb : (A0.tmod 2 == 0) = false := by simpa using par
            have hds := HC.out.1.ds
            have hsz := HC.out.1.bel.size
            clear par
            go_upto_region 41 with (first
              | (at_builtin; refine wpList_append_own _ rfl (.tmp 141) (.tmp 143) 31 rfl w.heap.size 23 i2 (.pointer none) 1 8 Try.underlying31 hi2 hp0 hp1 hp2 rfl (by decide) _ _ _ rfl (World.ownsRow.alloc hds _) ⟨w2.heap.size, 0, none⟩ 1 1 [.pointer (some ⟨b', 0, none⟩)] rfl rfl (one_at _ _ _) (one_cell _ rfl) (by unfold maxLen; omega) (by omega) (by simp; omega) ?_; intro vd3 w3 hown3 hgrow3 _; have hws3 := HC.out.1.ws_on hgrow3; have hsz3 : w2.heap.size ≤ w3.heap.size := Nat.le_trans (by simp) hgrow3.size)
              | (at_builtin; refine wpList_append_own _ rfl (.tmp 145) (.tmp 147) 32 rfl w.heap.size 27 i3 (.pointer none) 1 8 Try.underlying32 hi3 hq0 hq1 hq2 rfl (by decide) _ _ _ rfl (World.ownsRow.alloc hws3 _) ⟨w3.heap.size, 0, none⟩ 1 1 [.pointer (some ⟨r', 0, none⟩)] rfl rfl (one_at _ _ _) (one_cell _ rfl) (by unfold maxLen; omega) (by omega) (by simp; omega) ?_; intro vw4 w4 hown4 hgrow4 _))
            have hSc : Sim s { R with v := v' } := ⟨HS.out.n, HS.out.on, HS.out.wr, HS.out.fz, HS.out.cs⟩
            have hSz : Sim s R := HS.out
            have hZ : All w N (k + 1) w4 ⟨b, g, s, r, R⟩ (qs ++ [⟨b', g', s, r', { R with v := v' }⟩]) vd3 vw4 := (HC.out.1.push HC.out.2.1.cur hSc HC.out.2.2.1 hgrow3 hown3 hgrow4 hown4).mono (Nat.le_succ _)
            obtain ⟨qs1, hqs1⟩ : ∃ x, qs ++ [(⟨b', g', s, r', { R with v := v' }⟩ : Pr)] = x := ⟨_, rfl⟩
            have hql : qs1.length ≤ k + 1 := by rw [← hqs1, List.length_append]; simp; omega
            rw [hqs1] at hZ
            obtain ⟨R1, hR1⟩ : ∃ x, R = x := ⟨_, rfl⟩
            obtain ⟨s1, hs1⟩ : ∃ x, s = x := ⟨_, rfl⟩
            rw [hR1, hs1] at hZ hSz
            clear HC hgrow3 hown3 hgrow4 hown4 hds hws3 hsz hsz3 hR1 hs1 hqs1 HS HRn hdid HA1 HX m0 m1 m2 m3 n0 n1 n2 n3 hpb hSc
            have hRt : IsR w4 r R1 := hZ.cur.r
            have hDt : IsD w4 b g s1 := hZ.cur.d
            obtain ⟨_, c1, c2, _⟩ := hRt.cells
            obtain ⟨av, cv, hv⟩ := hRt.form
            rw [hv] at c1
            have HT : Hid (s1.on = R1.lit ∧ s1.writes = (R1.did.length : Int)) := ⟨hSz.on, hSz.wr⟩
            have HDt : Hid (IsD w4 b g s1) := hDt
            have HZ : Hid (All w N (k + 1) w4 ⟨b, g, s1, r, R1⟩ qs1 vd3 vw4) := hZ
            have HSz : Hid (Sim s1 R1) := hSz
            clear hZ hSz hv hRt hDt
            go_upto_region 41 with fail
            go_region_held3 (fun w' => IsD w' b g s1 ∧ w'.cell? ⟨r, 1, none⟩ = some (.slice av R1.did.length cv) ∧ w'.cell? ⟨r, 2, none⟩ = some (.bool R1.lit))
              (first | exact ⟨HDt.out.drew, c1, c2⟩ | assumption)
              (first
                | (go_at_call 27; refine (on_any b g s1 _ HDt.out.drew).mono ?_; rintro e w' ⟨rfl, rfl⟩; rw [HT.out.1])
                | (go_at_call 28; refine (writes_any b g s1 _ HDt.out.drew).mono ?_; rintro e w' ⟨rfl, rfl⟩; rw [HT.out.2]))
            go_wp2
            go_roundw
            case rel => exact ⟨k + 1, by omega, by go_num, _, _, rfl, rfl, hql, HZ.out.drew, HSz.out⟩
            case measure => simp [intOf]; omega
      · have hkl : (len : Int) ≤ k := by omega
        obtain ⟨ad, cd, e9⟩ := owns_len hA.ds
        obtain ⟨aw, cw, e10⟩ := owns_len hA.ws
        subst e9 e10
        have HA : Hid (All w N k wr ⟨b, g, s, r, R⟩ qs (.slice ad qs.length cd) (.slice aw qs.length cw)) := hA
        clear hA
        go_wp2
        go_loopw [19] (fun i wr => ∃ j : Nat, j ≤ qs.length ∧ i = .int .i64 j ∧ All w N k wr ⟨b, g, s, r, R⟩ qs (.slice ad qs.length cd) (.slice aw qs.length cw)) (fun i _ => qs.length - (intOf i).toNat)
        case atStart => exact ⟨0, Nat.zero_le _, rfl, HA.out⟩
        case round =>
          clear HA
          obtain ⟨j, hj, rfl, hA⟩ := hrel
          by_cases hjl : j < qs.length
          · obtain ⟨q, hq⟩ : ∃ q, qs[j]? = some q := ⟨_, List.getElem?_eq_getElem hjl⟩
            obtain ⟨gd, e1, x1⟩ := owns_cell hA.ds j hjl
            obtain ⟨gw, e2, x2⟩ := owns_cell hA.ws j hjl
            subst e1 e2
            rw [List.getElem?_map, hq] at x1 x2
            obtain ⟨hqo, hqS⟩ := hA.old q (List.mem_of_getElem? hq)
            have hji : (j : Int) < (qs.length : Int) := by omega
            have y1 : wr.cell? ⟨gd, j, none⟩ = some (.pointer (some ⟨q.b, 0, none⟩)) := x1
            have y2 : wr.cell? ⟨gw, j, none⟩ = some (.pointer (some ⟨q.r, 0, none⟩)) := x2
            have hl1 : gd < wr.heap.size := cellLt y1
            have hl2 : gw < wr.heap.size := cellLt y2
            have HA : Hid (All w N k wr ⟨b, g, s, r, R⟩ qs (.slice (some ⟨gd, 0, none⟩) qs.length cd) (.slice (some ⟨gw, 0, none⟩) qs.length cw)) := hA
            have HQ : Hid (IsD wr.drew q.b q.g q.s ∧ IsR wr.drew q.r q.R ∧ Sim q.s q.R ∧ q.R.n ≤ 1024 ∧ q.R.did.length * 32 ≤ 140737488355328) := ⟨hqo.d.drew, hqo.r.drew, hqS, by rw [hqo.n]; exact h2, by have := hqo.did; omega⟩
            clear hA x1 x2 hqo hqS hq
            go_upto_region 46 with fail
            go_region_held3 (fun w' => w'.cell? ⟨gd, j, none⟩ = some (.pointer (some ⟨q.b, 0, none⟩)) ∧ w'.cell? ⟨gw, j, none⟩ = some (.pointer (some ⟨q.r, 0, none⟩)))
              (first | exact ⟨y1, y2⟩ | exact ⟨(hb5.cell (p := ⟨gd, j, none⟩) hl1).trans y1, (hb5.cell (p := ⟨gw, j, none⟩) hl2).trans y2⟩ | assumption)
              (first | (go_at_call 29; refine (like_any q.b q.g q.r q.s q.R _ HQ.out.1 HQ.out.2.1 HQ.out.2.2.1 HQ.out.2.2.2.1 HQ.out.2.2.2.2).mono ?_; rintro e w5 ⟨rfl, hb5⟩))
            go_wp2
            go_roundw
            case rel => exact ⟨j + 1, by omega, by go_num, HA.out.drew.below hb5⟩
            case measure => simp [intOf]; omega
          · have hjk : (qs.length : Int) ≤ j := by omega
            have HQ : Hid (R.n ≤ 1024 ∧ R.did.length * 32 ≤ 140737488355328) := by
              have e1 : R.n = N := hA.cur.n
              have e2 : R.did.length ≤ k := hA.cur.did
              exact ⟨by omega, by omega⟩
            go_wp2_with (first
              | (go_at_call 29; refine (like_any b g r s R _ hA.cur.d hA.cur.r HS.out HQ.out.1 HQ.out.2).mono ?_; rintro e w5 ⟨rfl, hb5⟩)
              | (go_at_call 11; refine (awake_any _).mono ?_; rintro e w6 ⟨rfl, hb6⟩))
            go_ret
            exact ⟨rfl, chainB (chainB hA.bel hb5) hb6⟩
  · go_enter Try.func3, Try.ntmps3
    go_wp2_with (first
      | (go_at_call 9; refine (new_no n _ (by omega)).mono ?_; rintro e w1 ⟨rfl, rfl⟩)
      | (go_at_call 10; refine (rnew_no n _ (by omega)).mono ?_; rintro e w1 ⟨rfl, rfl⟩)
      | (go_at_call 11; refine (awake_any _).mono ?_; rintro e w2 ⟨rfl, hb2⟩))
    go_ret
    exact ⟨rfl, hb2⟩
end Go.Proofs.Ytfomnnlilmahhaa
