/- VowPlays. -/
import Derived.Test.YtaofhjckliobpaaVrJ
namespace Go.Proofs.Ytaofhjckliobpaa
open Go.RowKit Go.Shelf Go.Sort
attribute [local go_sem high] eqK neqK guardK

theorem new_w (w0 wr : World) (hb : Below w0.heap.size w0 wr) (t : Nat) (e : Int) (p q : Nat) (h : Lv w0 wr t (Vs.new e p q) (fun _ => False)) (he0 : 0 ≤ e) (he1 : e ≤ 1099511627776) (hp0 : 1 ≤ p) (hp : p ≤ 32) (hq0 : 1 ≤ q) (hq : q ≤ 16) :
    Calls Try.prog 10 #[.int .i64 e, .int .i64 p, .int .i64 q] wr fun x w' => x = .returned (.tuple #[.pointer (some ⟨wr.heap.size, 0, none⟩), .int .i64 0]) ∧ Tw w0 w' t wr.heap.size (Vs.new e p q) (Vs.new e p q) w'.heap.size (fun _ => False) := by
  refine (rnew_yes e p q wr he0 he1 hp0 hp hq0 hq).mono ?_
  rintro x w' ⟨rfl, ⟨s', h1, h2, h3⟩, hb'⟩
  obtain ⟨s, k1, k2, -⟩ := h.ex
  have hle : w0.heap.size ≤ wr.heap.size := hb.size
  have hW : IsW w' w0.heap.size wr.heap.size s' := ⟨h1.head, hle, owns_le h1.rk hle, owns_le h1.rb hle, fun b hm => ⟨owns_le (h1.each b hm).1 hle, (h1.each b hm).2⟩, h1.mkk, h1.lk, h1.lb, h1.lp, h1.lq⟩
  exact ⟨rfl, ⟨s, s', k1.below hb', k2, hW, h2, fun k hk e => by have := (k1.lt hk).2; have := h3 k e; omega, fun k hk => (hW.lt hk).2, fun k hk => hk.elim⟩, chainB hb hb', h.ks, h.q1⟩
theorem grant_one2 (S : Vs) (k : Ky) (ver : Int) : (S.grant k ver).2.length ≤ 1 := by
  rcases grant_cases S k ver with ⟨e, _⟩ | ⟨o, l, _, _, e⟩
  · rw [e]; exact Nat.zero_le _
  · rw [e]; exact tell_one _ _ _
theorem touch_one2 (S : Vs) (ks : List Ky) (ver : Int) : (S.touch ks ver).2.length ≤ 1 := by
  rcases touch_cases S ks ver with ⟨e, _⟩ | ⟨_, e⟩
  · rw [e]; exact Nat.zero_le _
  · rw [e]; exact tell_one _ _ _
/-- the boxes of a call and of its first key -/
def Kp (W : World) (x k : Nat) (o : Ov) (f : Ky) : Prop := W.heap[x]? = some (.cells #[.int .i64 o.kind, .int .i64 o.ver, .int .i64 o.ep, .int .i64 o.num, .slice o.va o.vn o.vc] 33 (0, 0)) ∧ BoxK W k f
theorem Kp.on {W W' : World} {x k : Nat} {o : Ov} {f : Ky} (h : Kp W x k o f) (hb : Below W.heap.size W W') : Kp W' x k o f := ⟨(hb.block _ (Array.getElem?_eq_some_iff.1 h.1).1).trans h.1, h.2.below hb⟩
theorem Kp.kept {W W' : World} {x k : Nat} {o : Ov} {f : Ky} (h : Kp W x k o f) (hb : ∀ q, q = x ∨ q = k → W'.heap[q]? = W.heap[q]?) : Kp W' x k o f := ⟨(hb x (.inl rfl)).trans h.1, (hb k (.inr rfl)).trans h.2⟩
set_option maxHeartbeats 8000000 in
set_option maxRecDepth 20000 in
theorem walk_VowPlays (ep p q : Int) (a : Option Addr) (cap : Nat) (ops : List Ov) (w : World) (_ : (Lit.int .i64 ep).wf = true) (_ : (Lit.int .i64 p).wf = true) (_ : (Lit.int .i64 q).wf = true) (h : RowG w a ops) (hl : ops.length ≤ 3000000000000) :
    Calls Try.prog 3 #[.int .i64 ep, .int .i64 p, .int .i64 q, .slice a ops.length cap] w fun e w' => e = .returned (.bool true) ∧ Below w.heap.size w w' := by
  obtain ⟨n, hn⟩ : ∃ n, ops.length = n := ⟨_, rfl⟩
  rw [hn] at hl ⊢
  have H : Hid (RowG w a ops ∧ ops.length = n) := ⟨h, hn⟩
  clear h hn
  by_cases hok : (0 ≤ ep ∧ ep ≤ 1099511627776) ∧ 1 ≤ p ∧ p ≤ 32 ∧ 1 ≤ q ∧ q ≤ 16
  · obtain ⟨P, rfl⟩ : ∃ P : Nat, p = P := ⟨p.toNat, by omega⟩
    obtain ⟨Q, rfl⟩ : ∃ Q : Nat, q = Q := ⟨q.toNat, by omega⟩
    have hnew1 := lv_new w w (Below.refl _ _) ep P Q hok.1.1 hok.1.2 (by omega) (by omega) (by omega) (by omega)
    go_enter Try.func3, Try.ntmps3
    go_upto_region 2 with (go_at_call 9; refine hnew1.mono ?_; rintro e w1 ⟨rfl, hL1, -⟩)
    have hnew2 := new_w w w1 hL1.below w.heap.size ep P Q (hL1.mono fun _ h => h.elim) hok.1.1 hok.1.2 (by omega) (by omega) (by omega) (by omega)
    clear hnew1 hL1
    go_upto_region 3 with (go_at_call 10; refine hnew2.mono ?_; rintro e w2 ⟨rfl, hT⟩)
    have HI : Hid (Tw w w2 w.heap.size w1.heap.size (Vs.new ep P Q) (Vs.new ep P Q) w2.heap.size (fun _ => False)) := hT
    clear hnew2 hT
    go_wp2
    go_loopw [13, 14, 15, 16, 17] (fun s13 _ _ _ _ wr => ∃ (i : Nat) (S : Vs), s13 = .int .i64 i ∧ i ≤ n ∧ Hid (Tw w wr w.heap.size w1.heap.size S S wr.heap.size (fun _ => False))) (fun s13 _ _ _ _ _ => n - (intOf s13).toNat)
    case atStart => exact ⟨0, _, rfl, Nat.zero_le _, HI.out⟩
    case round =>
      clear HI
      rename World => W0
      obtain ⟨i, S, rfl, hi, HI⟩ := hrel
      obtain ⟨U, hU⟩ : ∃ u, w1.heap.size = u := ⟨_, rfl⟩
      rw [hU] at HI ⊢
      by_cases hlt : i < n
      · obtain ⟨o, ho⟩ : ∃ o, ops[i]? = some o := ⟨_, List.getElem?_eq_getElem (by rw [H.out.2]; exact hlt)⟩
        obtain ⟨b, off, hga, -, c0, c1, c2, c3, c4, hak⟩ := (H.out.1.below HI.out.below).op ho
        subst hga
        have hltz : (i : Int) < (n : Int) := by omega
        have HA : Hid (∀ W, Below w.heap.size w W → ArgK W (.slice o.va o.vn o.vc) o.ks) := fun W hb => by
          obtain ⟨_, _, _, _, _, _, _, _, _, hk⟩ := (H.out.1.below hb).op ho
          exact hk
        have HKL : Hid (o.ks.length * 24 ≤ LK) := by obtain ⟨_, _, _, hl, _⟩ := hak; exact hl
        have hp1 := fun W => place_any o.kind 3 W (by omega) (by omega)
        have hk := pl_lt o.kind 3 (by omega)
        obtain ⟨pk, hpk⟩ : ∃ k, pl o.kind 3 = k := ⟨_, rfl⟩
        rw [hpk] at hp1 hk
        change ∀ W, Calls Try.prog 12 #[.int .i64 o.kind, .int .i64 3] W _ at hp1
        clear hpk ho hak
        go_upto_region 13 with (go_at_call 12; refine (hp1 _).mono ?_; rintro e w' ⟨rfl, hw'⟩; rw [hw'])
        obtain ⟨W1, hW1⟩ : ∃ W, W0.alloc (.cells #[.int .i64 o.kind, .int .i64 o.ver, .int .i64 o.ep, .int .i64 o.num, .slice o.va o.vn o.vc] 33) = W := ⟨_, rfl⟩
        rw [hW1]
        have hb1 : Below W0.heap.size W0 W1 := by rw [← hW1]; exact below_alloc _ _
        have hbox : W1.heap[W0.heap.size]? = some (.cells #[.int .i64 o.kind, .int .i64 o.ver, .int .i64 o.ep, .int .i64 o.num, .slice o.va o.vn o.vc] 33 (0, 0)) := by rw [← hW1]; exact heap_new _ _
        have HT1 : Hid (Tw w W1 w.heap.size U S S W1.heap.size (fun k => k = W0.heap.size) ∧ W1.heap[W0.heap.size]? = some (.cells #[.int .i64 o.kind, .int .i64 o.ver, .int .i64 o.ep, .int .i64 o.num, .slice o.va o.vn o.vc] 33 (0, 0))) := ⟨((HI.out.add hb1).mono fun k hk => .inr ⟨by omega, by have := (Array.getElem?_eq_some_iff.1 hbox).1; omega⟩).top, hbox⟩
        have HBx : Hid (∀ W : World, W.heap[W0.heap.size]? = W1.heap[W0.heap.size]? → W.cell? ⟨W0.heap.size, 1, none⟩ = some (.int .i64 o.ver) ∧ W.cell? ⟨W0.heap.size, 4, none⟩ = some (.slice o.va o.vn o.vc) ∧ W.cell? ⟨W0.heap.size, 2, none⟩ = some (.int .i64 o.ep) ∧ W.cell? ⟨W0.heap.size, 3, none⟩ = some (.int .i64 o.num)) := fun W e => by
          have hx := e.trans hbox
          have q1 := cell_of hx 1
          have q2 := cell_of hx 2
          have q3 := cell_of hx 3
          have q4 := cell_of hx 4
          simp at q1 q2 q3 q4
          exact ⟨q1, q4, q2, q3⟩
        obtain ⟨d1, d4, d2, d3⟩ := HBx.out W1 rfl
        clear hW1 hb1 hbox HI c0 c1 c2 c3 c4
        rename_i K1 h1 K0 h0
        have key : ∀ (W : World) (S' : Vs) (Bq : Nat) (F : Nat → Prop), Tw w W w.heap.size U S' S' Bq F → ∀ (x8 x16 x17 x45 x46 x47 x48 x49 x50 x51 x52 x53 x54 x55 x56 x57 x58 x59 x60 x61 x62 x63 x64 x65 x66 x67 x68 x69 x70 x71 x72 x73 x74 x75 x76 x77 x78 x79 x80 x81 x82 x83 x84 x85 x86 x87 x88 x89 x90 x91 x92 x93 x94 x95 x96 x97 x98 x99 x100 x101 x102 x103 x104 x105 x106 x107 x108 x109 x110 x111 x112 x113 x114 x115 x116 x117 x118 x119 x120 x121 x122 x123 x124 x125 x126 x127 x128 x129 : Value), K1 ⟨#[.int .i64 ep, .int .i64 P, .int .i64 Q, .slice (some ⟨b, off, none⟩) n cap, undef, undef, undef, undef, x8, .pointer (some ⟨w.heap.size, 0, none⟩), .int .i64 0, .pointer (some ⟨U, 0, none⟩), .int .i64 0, .int .i64 i, .pointer (some ⟨W0.heap.size, 0, none⟩), .bool true, x16, x17, .tuple #[.pointer (some ⟨w.heap.size, 0, none⟩), .int .i64 0], .int .i64 ep, .int .i64 P, .int .i64 Q, .tuple #[.pointer (some ⟨w.heap.size, 0, none⟩), .int .i64 0], .pointer (some ⟨w.heap.size, 0, none⟩), .int .i64 0, .tuple #[.pointer (some ⟨U, 0, none⟩), .int .i64 0], .int .i64 ep, .int .i64 P, .int .i64 Q, .tuple #[.pointer (some ⟨U, 0, none⟩), .int .i64 0], .pointer (some ⟨U, 0, none⟩), .int .i64 0, .int .i64 0, .int .i64 0, .bool false, .bool false, .pointer (some ⟨w.heap.size, 0, none⟩), .bool true, .int .i64 0, .bool true, .bool false, .bool false, .int .i64 0, .bool false, undef, x45, x46, x47, x48, x49, x50, x51, x52, x53, x54, x55, x56, x57, x58, x59, x60, x61, x62, x63, x64, x65, x66, x67, x68, x69, x70, x71, x72, x73, x74, x75, x76, x77, x78, x79, x80, x81, x82, x83, x84, x85, x86, x87, x88, x89, x90, x91, x92, x93, x94, x95, x96, x97, x98, x99, x100, x101, x102, x103, x104, x105, x106, x107, x108, x109, x110, x111, x112, x113, x114, x115, x116, x117, x118, x119, x120, x121, x122, x123, x124, x125, x126, x127, x128, x129, undef], []⟩ W := by
          intro W S' Bq F hT x8 x16 x17 x45 x46 x47 x48 x49 x50 x51 x52 x53 x54 x55 x56 x57 x58 x59 x60 x61 x62 x63 x64 x65 x66 x67 x68 x69 x70 x71 x72 x73 x74 x75 x76 x77 x78 x79 x80 x81 x82 x83 x84 x85 x86 x87 x88 x89 x90 x91 x92 x93 x94 x95 x96 x97 x98 x99 x100 x101 x102 x103 x104 x105 x106 x107 x108 x109 x110 x111 x112 x113 x114 x115 x116 x117 x118 x119 x120 x121 x122 x123 x124 x125 x126 x127 x128 x129
          have hlk := like_p hT
          have HT : Hid (Tw w W w.heap.size U S' S' W.heap.size (fun _ => False)) := (hT.mono fun _ h => h.elim).top
          clear hT d1 d2 d3 d4
          apply h1
          clear h1 h0 K0
          go_wp2_with (go_at_call 25; refine hlk.mono ?_; rintro e w9 ⟨rfl, hb9⟩)
          exact ⟨⟨i + 1, S', by simp, by omega, (HT.out.on hb9).top⟩, by simp [intOf]; omega⟩
        clear h1
        have hks := HT1.out.1.ks
        have hq1 := HT1.out.1.q1
        have HA1 : Hid (ArgK W1 (.slice o.va o.vn o.vc) o.ks) := HA.out W1 HT1.out.1.below
        obtain rfl | rfl | rfl : pk = 0 ∨ pk = 1 ∨ pk = 2 := by omega
        · have hfi := first_p _ o.ks _ HA1.out
          obtain ⟨f, hf⟩ : ∃ f, firstK o.ks = f := ⟨_, rfl⟩
          unfold Ky.agg at hfi
          rw [hf] at hfi
          go_upto_region 15 with (go_at_call 13; refine hfi.mono ?_; rintro e w2 ⟨rfl, hb2⟩)
          obtain ⟨W2, hW2⟩ : ∃ W, w2.alloc (.cells #[.int .i64 f.d, .string f.nm] 36) = W := ⟨_, rfl⟩
          rw [hW2]
          have hb3 : Below w2.heap.size w2 W2 := by rw [← hW2]; exact below_alloc _ _
          have hbk : BoxK W2 w2.heap.size f := by rw [← hW2]; exact heap_new _ _
          have hz2 : w2.heap.size < W2.heap.size := (Array.getElem?_eq_some_iff.1 hbk).1
          have HT2 : Hid (Tw w W2 w.heap.size U S S W2.heap.size (fun k => k = W0.heap.size ∨ k = w2.heap.size) ∧ Kp W2 W0.heap.size w2.heap.size o f) := ⟨(((HT1.out.1.on hb2).add hb3).mono fun k hk => hk.imp id fun e => ⟨by omega, by omega⟩).top, (chainB hb2 hb3).block _ (Array.getElem?_eq_some_iff.1 HT1.out.2).1 |>.trans HT1.out.2, hbk⟩
          clear hW2 hb3 hbk hb2 hfi hz2 d1 d2 d3 d4
          obtain ⟨q0, hq0⟩ : ∃ b, inK S.ks f = b := ⟨_, rfl⟩
          obtain ⟨S1, hS1⟩ : ∃ x, (S.grant f o.ver).1 = x := ⟨_, rfl⟩
          obtain ⟨L1, hL1⟩ : ∃ x, (S.grant f o.ver).2 = x := ⟨_, rfl⟩
          obtain ⟨nL, hnL⟩ : ∃ x, L1.length = x := ⟨_, rfl⟩
          obtain ⟨q9, hq9⟩ : ∃ b, inK S1.ks f = b := ⟨_, rfl⟩
          have hL1z : nL ≤ 1 := by rw [← hnL, ← hL1]; exact grant_one2 _ _ _
          have HCell : Hid (∀ W, Kp W W0.heap.size w2.heap.size o f → W.cell? ⟨W0.heap.size, 1, none⟩ = some (.int .i64 o.ver) ∧ W.cell? ⟨w2.heap.size, 0, none⟩ = some (.int .i64 f.d) ∧ W.cell? ⟨w2.heap.size, 1, none⟩ = some (.string f.nm)) := fun W h => by
            have q1 := cell_of h.1 1
            simp at q1
            exact ⟨q1, h.2.cells.1, h.2.cells.2.1⟩
          have HHt : Hid (∀ W S' q Bq F, Tw w W w.heap.size U S S' Bq F → inK S.ks f = q → Calls Try.prog 14 #[.pointer (some ⟨w.heap.size, 0, none⟩), .agg #[.int .i64 f.d, .string f.nm]] W fun e w' => e = .returned (.bool q) ∧ Below W.heap.size W w') := fun W S' q Bq F h e => by rw [← e]; exact lv_holds h.lv f
          have HH0 : Hid (∀ W Bq F, Tw w W w.heap.size U S S Bq F → Calls Try.prog 14 #[.pointer (some ⟨w.heap.size, 0, none⟩), .agg #[.int .i64 f.d, .string f.nm]] W fun e w' => e = .returned (.bool q0) ∧ Below W.heap.size W w') := fun W Bq F h => by rw [← hq0]; exact lv_holds h.lv f
          have HU0 : Hid (∀ W Bq F, Tw w W w.heap.size U S S Bq F → Calls Try.prog 15 #[.pointer (some ⟨U, 0, none⟩), .agg #[.int .i64 f.d, .string f.nm]] W fun e w' => e = .returned (.bool q0) ∧ Below W.heap.size W w') := fun W Bq F h => by rw [← hq0]; exact tw_rholds h f
          have HH9 : Hid (∀ W Bq F, Tw w W w.heap.size U S1 S1 Bq F → Calls Try.prog 14 #[.pointer (some ⟨w.heap.size, 0, none⟩), .agg #[.int .i64 f.d, .string f.nm]] W fun e w' => e = .returned (.bool q9) ∧ Below W.heap.size W w') := fun W Bq F h => by rw [← hq9]; exact lv_holds h.lv f
          have HU9 : Hid (∀ W Bq F, Tw w W w.heap.size U S1 S1 Bq F → Calls Try.prog 15 #[.pointer (some ⟨U, 0, none⟩), .agg #[.int .i64 f.d, .string f.nm]] W fun e w' => e = .returned (.bool q9) ∧ Below W.heap.size W w') := fun W Bq F h => by rw [← hq9]; exact tw_rholds h f
          have HGt : Hid (∀ W, Tw w W w.heap.size U S S W2.heap.size (fun k => k = W0.heap.size ∨ k = w2.heap.size) → Kp W W0.heap.size w2.heap.size o f → Calls Try.prog 17 #[.pointer (some ⟨w.heap.size, 0, none⟩), .agg #[.int .i64 f.d, .string f.nm], .int .i64 o.ver] W fun x w' => ∃ a c, x = .returned (.slice a nL c) ∧ ∃ Bq, Tw w w' w.heap.size U S1 S Bq (fun k => k = W0.heap.size ∨ k = w2.heap.size) ∧ Rt w' Bq (.slice a nL c) L1 S.e ∧ Kp w' W0.heap.size w2.heap.size o f) := fun W h hk => by
            refine (tw_grant h f o.ver).mono ?_
            rintro x w' ⟨v', rfl, Bq, h2, h3, h4⟩
            rw [hL1] at h3
            rw [hS1] at h2
            obtain ⟨a, c, rfl⟩ := h3.form
            rw [hnL] at h3 ⊢
            exact ⟨a, c, rfl, Bq, h2, h3, hk.kept h4⟩
          have HGu : Hid (∀ W v Bq, Tw w W w.heap.size U S1 S Bq (fun k => k = W0.heap.size ∨ k = w2.heap.size) → Rt W Bq v L1 S.e → Kp W W0.heap.size w2.heap.size o f → Calls Try.prog 18 #[.pointer (some ⟨U, 0, none⟩), .agg #[.int .i64 f.d, .string f.nm], .int .i64 o.ver] W fun x w' => ∃ a c, x = .returned (.slice a nL c) ∧ Tw w w' w.heap.size U S1 S1 w'.heap.size (fun k => k = W0.heap.size ∨ k = w2.heap.size) ∧ Rd w' (.slice a nL c) L1 S.e ∧ Rd w' v L1 S.e ∧ Kp w' W0.heap.size w2.heap.size o f) := fun W v Bq h hr hk => by
            refine (tw_rgrant h hr hks hq1 f o.ver).mono ?_
            rintro x w' ⟨v', rfl, h2, h3, h4, h5⟩
            rw [hL1] at h3
            rw [hS1] at h2
            obtain ⟨a, c, rfl⟩ := h3.form
            rw [hnL] at h3 ⊢
            exact ⟨a, c, rfl, h2, h3, h4, hk.kept h5⟩
          have hx0 : (q0 == q0) = true := by simp
          have hx9 : (q9 == q9) = true := by simp
          have HnL : Hid (L1.length ≤ 1000) := by show _ ≤ _; omega
          have HD0 : Hid (Tw w W2.drew w.heap.size U S S W2.heap.size (fun k => k = W0.heap.size ∨ k = w2.heap.size) ∧ Kp W2.drew W0.heap.size w2.heap.size o f) := ⟨HT2.out.1.on ((Below.refl _ _).drew), HT2.out.2.on ((Below.refl _ _).drew)⟩
          obtain ⟨e1, e2, e3⟩ := HCell.out W2 HT2.out.2
          clear hq0 hS1 hL1 hnL hq9 hks hq1 HHt hf
          go_region_held3 (fun w' => w'.cell? ⟨W0.heap.size, 1, none⟩ = some (.int .i64 o.ver) ∧ w'.cell? ⟨w2.heap.size, 0, none⟩ = some (.int .i64 f.d) ∧ w'.cell? ⟨w2.heap.size, 1, none⟩ = some (.string f.nm))
            (first | exact ⟨e1, e2, e3⟩ | exact kG | exact kF | exact kE | exact kD | exact kC | exact kB | exact kA)
            (first
              | (go_at_call 14; refine (HH9.out _ _ _ hTE).mono ?_; rintro e wF ⟨rfl, hbF⟩; have hTF := hTE.on hbF; have hKF := hKE.on hbF; have kF := HCell.out _ hKF)
              | (go_at_call 14; refine (HH0.out _ _ _ HD0.out.1).mono ?_; rintro e wA ⟨rfl, hbA⟩; have hTA := HD0.out.1.on hbA; have hKA := HD0.out.2.on hbA; have kA := HCell.out _ hKA)
              | (go_at_call 15; refine (HU9.out _ _ _ hTF).mono ?_; rintro e wG ⟨rfl, hbG⟩; have hTG := hTF.on hbG; have hKG := hKF.on hbG; have kG := HCell.out _ hKG)
              | (go_at_call 15; refine (HU0.out _ _ _ hTA).mono ?_; rintro e wB ⟨rfl, hbB⟩; have hTB := hTA.on hbB; have hKB := hKA.on hbB; have kB := HCell.out _ hKB)
              | (go_at_call 17; refine (HGt.out _ hTB hKB).mono ?_; rintro e wC ⟨aC, cC, rfl, BqC, hTC, hRC, hKC⟩; have kC := HCell.out _ hKC)
              | (go_at_call 18; refine (HGu.out _ _ _ hTC hRC hKC).mono ?_; rintro e wD ⟨aD, cD, rfl, hTD, hRD, hRD', hKD⟩; have kD := HCell.out _ hKD)
              | (go_at_call 16; refine (same_rd hRD' hRD HnL.out).mono ?_; rintro e wE ⟨rfl, hbE⟩; have hTE := hTD.on hbE; have hKE := hKD.on hbE; have kE := HCell.out _ hKE))
          all_goals
            go_wp2
            exact key _ _ _ _ hTG ..
        · obtain ⟨S1, hS1⟩ : ∃ x, (S.touch o.ks o.ver).1 = x := ⟨_, rfl⟩
          obtain ⟨L1, hL1⟩ : ∃ x, (S.touch o.ks o.ver).2 = x := ⟨_, rfl⟩
          obtain ⟨nL, hnL⟩ : ∃ x, L1.length = x := ⟨_, rfl⟩
          have hL1z : nL ≤ 1 := by rw [← hnL, ← hL1]; exact touch_one2 _ _ _
          have HCp : Hid (Calls Try.prog 20 #[.slice o.va o.vn o.vc] W1.drew fun e w' => ∃ v', e = .returned v' ∧ RowK w' W1.drew.heap.size v' o.ks ∧ Below W1.drew.heap.size W1.drew w') := copyK_any _ o.ks _ (HA1.out.below ((Below.refl _ _).drew))
          have HTt : Hid (∀ W v2 base, Below W1.heap.size W1 W → RowK W base v2 o.ks → Calls Try.prog 19 #[.pointer (some ⟨w.heap.size, 0, none⟩), v2, .int .i64 o.ver] W fun x w' => ∃ a c, x = .returned (.slice a nL c) ∧ ∃ Bq, Tw w w' w.heap.size U S1 S Bq (fun k => k = W0.heap.size) ∧ Rt w' Bq (.slice a nL c) L1 S.e ∧ w'.heap[W0.heap.size]? = W1.heap[W0.heap.size]?) := fun W v2 base hb hr => by
            refine (tw_touch (HT1.out.1.on hb) v2 o.ks o.ver hr.rd HKL.out).mono ?_
            rintro x w' ⟨v', rfl, Bq, h2, h3, h4⟩
            rw [hL1] at h3
            rw [hS1] at h2
            obtain ⟨a, c, rfl⟩ := h3.form
            rw [hnL] at h3 ⊢
            exact ⟨a, c, rfl, Bq, h2, h3, (h4 _ rfl).trans (hb.block _ (Array.getElem?_eq_some_iff.1 HT1.out.2).1)⟩
          have HTu : Hid (∀ W v Bq, Tw w W w.heap.size U S1 S Bq (fun k => k = W0.heap.size) → Rt W Bq v L1 S.e → W.heap[W0.heap.size]? = W1.heap[W0.heap.size]? → Calls Try.prog 21 #[.pointer (some ⟨U, 0, none⟩), .slice o.va o.vn o.vc, .int .i64 o.ver] W fun x w' => ∃ a c, x = .returned (.slice a nL c) ∧ Tw w w' w.heap.size U S1 S1 w'.heap.size (fun k => k = W0.heap.size) ∧ Rd w' (.slice a nL c) L1 S.e ∧ Rd w' v L1 S.e ∧ w'.heap[W0.heap.size]? = W1.heap[W0.heap.size]?) := fun W v Bq h hr hk => by
            refine (tw_rtouch h hr hq1 (.slice o.va o.vn o.vc) o.ks o.ver (HA.out W h.below) HKL.out).mono ?_
            rintro x w' ⟨v', rfl, h2, h3, h4, h5⟩
            rw [hL1] at h3
            rw [hS1] at h2
            obtain ⟨a, c, rfl⟩ := h3.form
            rw [hnL] at h3 ⊢
            exact ⟨a, c, rfl, h2, h3, h4, (h5 _ rfl).trans hk⟩
          have HCell : Hid (∀ W : World, W.heap[W0.heap.size]? = W1.heap[W0.heap.size]? → W.cell? ⟨W0.heap.size, 1, none⟩ = some (.int .i64 o.ver) ∧ W.cell? ⟨W0.heap.size, 4, none⟩ = some (.slice o.va o.vn o.vc)) := fun W e => ⟨(HBx.out W e).1, (HBx.out W e).2.1⟩
          have HCl1 : Hid (∀ W, Below W1.heap.size W1 W → W.cell? ⟨W0.heap.size, 1, none⟩ = some (.int .i64 o.ver) ∧ W.cell? ⟨W0.heap.size, 4, none⟩ = some (.slice o.va o.vn o.vc)) := fun W hb => HCell.out W (hb.block _ (Array.getElem?_eq_some_iff.1 HT1.out.2).1)
          have HnL : Hid (L1.length ≤ 1000) := by show _ ≤ _; omega
          clear hS1 hL1 hnL hks hq1 HBx d2 d3
          go_upto_region 17 with fail
          go_region_held3 (fun w' => w'.cell? ⟨W0.heap.size, 1, none⟩ = some (.int .i64 o.ver) ∧ w'.cell? ⟨W0.heap.size, 4, none⟩ = some (.slice o.va o.vn o.vc))
            (first | exact ⟨d1, d4⟩ | exact kD | exact kC | exact kB | exact kA)
            (first
              | (go_at_call 20; refine HCp.out.mono ?_; rintro e wA ⟨vA, rfl, hrA, hbA0⟩; have hbA := undrew hbA0; obtain ⟨avA, cvA, hvA⟩ := owns_len hrA; subst hvA; have kA := HCl1.out _ hbA; have htc := HTt.out wA _ _ hbA hrA)
              | (go_at_call 19; refine htc.mono ?_; rintro e wB ⟨aB, cB, rfl, BqB, hTB, hRB, hKB⟩; have kB := HCell.out _ hKB)
              | (go_at_call 21; refine (HTu.out _ _ _ hTB hRB hKB).mono ?_; rintro e wC ⟨aC, cC, rfl, hTC, hRC, hRC', hKC⟩; have kC := HCell.out _ hKC)
              | (go_at_call 16; refine (same_rd hRC' hRC HnL.out).mono ?_; rintro e wD ⟨rfl, hbD⟩; have hTD := hTC.on hbD; have kD : wD.cell? ⟨W0.heap.size, 1, none⟩ = some (.int .i64 o.ver) ∧ wD.cell? ⟨W0.heap.size, 4, none⟩ = some (.slice o.va o.vn o.vc) := ⟨(hbD.cell (cellLt kC.1)).trans kC.1, (hbD.cell (cellLt kC.2)).trans kC.2⟩))
          all_goals
            go_wp2
            exact key _ _ _ _ hTD ..
        · obtain ⟨fa, hfa⟩ : ∃ x, floatOfInt .f64 o.ep = x := ⟨_, rfl⟩
          obtain ⟨fb, hfb⟩ : ∃ x, floatOfInt .f64 o.num = x := ⟨_, rfl⟩
          have hmka := fun W => mark_any o.ep o.num W
          rw [hfa, hfb] at hmka
          obtain ⟨na, nb, hMa, hack⟩ := tw_ack HT1.out.1 fa fb
          obtain ⟨g, hg⟩ : ∃ g, gapB fa fb na nb = g := ⟨_, rfl⟩
          obtain ⟨S1, hS1⟩ : ∃ x, (if g = true then S.ack (part fb) else S) = x := ⟨_, rfl⟩
          rw [hg, hS1] at hack
          have HRk : Hid (∀ W Bq F, Tw w W w.heap.size U S1 S Bq F → Calls Try.prog 24 #[.pointer (some ⟨U, 0, none⟩), .complex .f64 fa fb] W fun x w' => x = .returned (.bool g) ∧ Tw w w' w.heap.size U S1 S1 w'.heap.size F) := fun W Bq F h => by
            obtain ⟨ma, mb, hMb, hc⟩ := tw_rack h fa fb
            rw [gap_mk fa fb hMb hMa, hg, hS1] at hc
            exact hc
          have hgg : (g == g) = true := by simp
          clear hfa hfb hMa hg hS1 hks hq1 d1 d4
          go_wp2_with (first
            | (go_at_call 22; refine (hmka _).mono ?_; rintro e w' ⟨rfl, hw'⟩; rw [hw'])
            | (go_at_call 23; refine hack.mono ?_; rintro e w3 ⟨rfl, hT3⟩)
            | (go_at_call 24; refine (HRk.out _ _ _ hT3).mono ?_; rintro e w4 ⟨rfl, hT4⟩))
          all_goals exact key _ _ _ _ hT4 ..
      · obtain rfl : i = n := by omega
        have hltz : ¬ (i : Int) < (i : Int) := by omega
        go_wp2_with (go_at_call 11; refine (awake_p _).mono ?_; rintro e wf ⟨rfl, hbf⟩)
        go_ret
        exact ⟨rfl, chainB HI.out.below hbf⟩
  · have hbad : withinB ep = false ∨ p < 1 ∨ 32 < p ∨ q < 1 ∨ 16 < q := by
      by_cases h : 0 ≤ ep ∧ ep ≤ 1099511627776
      · exact .inr (by omega)
      · exact .inl (decide_eq_false h)
    have hnew1 := new_no ep p q w hbad
    have hnew2 := rnew_no ep p q w hbad
    clear hbad hok
    go_enter Try.func3, Try.ntmps3
    go_wp2_with (first
      | (go_at_call 9; refine hnew1.mono ?_; rintro e w' ⟨rfl, hw'⟩; rw [hw'])
      | (go_at_call 10; refine hnew2.mono ?_; rintro e w' ⟨rfl, hw'⟩; rw [hw'])
      | (go_at_call 11; refine (awake_p _).mono ?_; rintro e wf ⟨rfl, hbf⟩))
    go_ret
    exact ⟨rfl, hbf⟩
end Go.Proofs.Ytaofhjckliobpaa
