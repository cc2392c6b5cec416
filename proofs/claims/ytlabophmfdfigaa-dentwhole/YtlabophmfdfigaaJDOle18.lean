/- DentWhole. -/
import Derived.Test.YtlabophmfdfigaaJDOle17
namespace Go.Proofs.Ytlabophmfdfigaa
section
open Go.RowKit
attribute [local go_sem ↓ high] loadEn storeEn loadDo storeDo

theorem pick_box {w wr : World} {p : Nat} {s : Cs} {n : Nat} (h : Ld w wr p s n (fun _ => False)) (o : Obj) : Ld w (wr.alloc o) p s n (fun k => k = wr.heap.size) := (h.box o).mono (fun _ hk => .inr hk) (Nat.le_refl _)
set_option maxHeartbeats 16000000 in
set_option maxRecDepth 100000 in
theorem walk_DentWhole (a : Option Addr) (cap : Nat) (ops : List DOp) (dir : Int) (w : World) (row : RowD w a ops) (hlen : ops.length * 112 ≤ 140737488351232) (_ : (Lit.int .i64 dir).wf = true) :
    Calls Try.prog 7 #[.slice a ops.length cap, .int .i64 dir] w fun x w' => x = .returned (.bool true) ∧ Below w.heap.size w w' := by
  obtain ⟨n, hn⟩ : ∃ n, ops.length = n := ⟨_, rfl⟩
  have HR0 : Hid (RowD w a ops ∧ ops.length = n ∧ n < 1300000000000) := ⟨row, hn, by omega⟩
  have HA : Hid (∀ w, Calls Try.prog 12 #[] w fun x w' => x = .returned (.bool true) ∧ Below w.heap.size w w') := awake_p
  have HPl : Hid (∀ v w, Calls Try.prog 19 #[.int .i64 v, .int .i64 6] w fun e w' => e = .returned (.int .i64 (placeV v 6)) ∧ w = w') := fun v w => (place_any v 6 w (by omega) (by omega)).mono fun _ _ hh => ⟨hh.1, hh.2.symm⟩
  rw [hn]
  clear row hlen hn
  go_enter Try.func7, Try.ntmps7
  go_wp2_with (go_at_call 18; refine (ld_new w w (fun _ => False) (Below.refl _ _) (fun _ h => h.elim)).mono ?_; rintro x w1 ⟨p, rfl, hl⟩; have H1 : Hid (Ld w w1 p Cs.clear 0 (fun _ => False)) := hl.ld; clear hl)
  go_loopw [6, 7, 8, 9, 10, 11] (fun s6 s7 _ _ _ _ wr => ∃ i : Nat, i ≤ n ∧ s7 = .int .i64 i ∧ ∃ b, s6 = .bool b ∧ Hid (∃ s, Ld w wr p s i (fun _ => False) ∧ b = decide (dir ∈ s.W))) (fun _ s7 _ _ _ _ _ => n - (intOf s7).toNat)
  case atStart => exact ⟨0, Nat.zero_le _, rfl, false, rfl, Cs.clear, H1.out, rfl⟩
  case round =>
    obtain ⟨i, hi, rfl, b, rfl, HR⟩ := hrel
    by_cases hlt : i < n
    · obtain ⟨s, hl, hb⟩ := HR.out
      obtain ⟨r1, r2, r3⟩ := HR0.out
      obtain ⟨g, o, x, rfl, hx, hg, hc, hk⟩ := r1.get (i := i) (by omega)
      have hltz : (i : Int) < (n : Int) := by omega
      have hw1 : IntKind.i64.wrap ((i : Int) + 1) = ((i + 1 : Nat) : Int) := by
        rw [show ((i + 1 : Nat) : Int) = (i : Int) + 1 by omega]; exact IntWalk.i64_in _ (by omega)
      have hcw : ∀ (j : Nat) u, x.vals[j]? = some u → wr.cell? ⟨g, o + i * 10 + j, none⟩ = some u := fun j u hu => (hl.below.cell (p := ⟨g, o + i * 10 + j, none⟩) hg).trans (hc j u hu)
      have hld := doLd_at hcw
      have hbx := box10 wr x hk.one
      obtain ⟨W1, hW1⟩ : ∃ W, wr.alloc (.cells x.vals.toArray 39) = W := ⟨_, rfl⟩
      rw [hW1] at hbx
      have b1 := boxO hW1
      have B1 : BxD W1 wr.heap.size x := ⟨b1.1⟩
      have q0 := B1.kind
      have L1 : Ld w W1 p s i (fun k => k = wr.heap.size) := by rw [← hW1]; exact pick_box hl _
      have hkW : ArgK W1 x.vk x.ks := (hk.below hl.below).below b1.2.1
      have HE : Hid (∀ W2 s2, Ldc w W1 W2 p s2 (i + 1) (fun k => k = wr.heap.size) → Ld w W2 p s2 (i + 1) (fun _ => False) ∧ BxD W2 wr.heap.size x) := fun W2 s2 hd => ⟨hd.ld.mono (fun _ h => h.elim) (Nat.le_refl _), B1.moved (hd.kept _ rfl)⟩
      have HW : Hid (∀ W2 s2, Ld w W2 p s2 (i + 1) (fun _ => False) → Calls Try.prog 26 #[.pointer (some ⟨p, 0, none⟩), .int .i64 dir] W2 fun y w' => y = .returned (.bool (decide (dir ∈ s2.W))) ∧ Hid (Ld w w' p s2 (i + 1) (fun _ => False))) := fun W2 s2 hd => (ld_whole hd dir).mono fun y w' hh => ⟨hh.1, hd.on' hh.2⟩
      have HKA : Hid (ArgK w x.vk x.ks) := hk
      clear hl hk hc hx hcw r1 r2 r3
      rcases place6 x.kind with hp | hp | hp | hp | hp | hp
      · have HC : Hid (Calls Try.prog 15 #[.pointer (some ⟨p, 0, none⟩), x.e.agg] W1 fun y w' => y = .returned (.int .i64 (if x.e.nm = nob then 1 else 0)) ∧ Ld w w' p (putS s x.e) (i + 1) (fun _ => False) ∧ BxD w' wr.heap.size x) := by
          refine (ld_put L1 x.e (by have := HR0.out.2.2; omega)).mono ?_
          rintro y w' ⟨rfl, hd⟩
          exact ⟨rfl, HE.out _ _ hd⟩
        have q1 := enLd_at B1.ent
        have hsw : decide (dir ∈ (putS s x.e).W) = b := by rw [hb, putS_W]
        clear hb b1 B1 L1 hkW HE HR hW1
        cases b with
        | true =>
          go_wp2_with (first
            | (go_at_call 26; refine (HW.out _ _ H2.out.1).mono ?_; rw [hsw]; rintro y w5 ⟨rfl, H5⟩)
            | (go_at_call 15; refine HC.out.mono ?_; rintro y w4 ⟨rfl, hd4, hb4⟩; have H2 : Hid (Ld w w4 p (putS s x.e) (i + 1) (fun _ => False) ∧ BxD w4 wr.heap.size x) := ⟨hd4, hb4⟩; clear hd4 hb4)
            | (go_at_call 19; refine (HPl.out _ _).mono ?_; rw [hp]; rintro z w3 ⟨rfl, rfl⟩))
          go_roundw
          case rel => exact ⟨i + 1, by omega, rfl, true, rfl, _, H5.out, hsw.symm⟩
          case measure => simp [intOf]; omega
        | false =>
          go_wp2_with (first
            | (go_at_call 26; refine (HW.out _ _ H2.out.1).mono ?_; rw [hsw]; rintro y w5 ⟨rfl, H5⟩)
            | (go_at_call 15; refine HC.out.mono ?_; rintro y w4 ⟨rfl, hd4, hb4⟩; have H2 : Hid (Ld w w4 p (putS s x.e) (i + 1) (fun _ => False) ∧ BxD w4 wr.heap.size x) := ⟨hd4, hb4⟩; clear hd4 hb4)
            | (go_at_call 19; refine (HPl.out _ _).mono ?_; rw [hp]; rintro z w3 ⟨rfl, rfl⟩))
          go_roundw
          case rel => exact ⟨i + 1, by omega, rfl, false, rfl, _, H5.out, hsw.symm⟩
          case measure => simp [intOf]; omega
      · have HC : Hid (Calls Try.prog 14 #[.pointer (some ⟨p, 0, none⟩), .agg #[.int .i64 x.e.d, .string x.e.nm]] W1 fun y w' => y = .returned (.bool (getL s.L x.e.key).isSome) ∧ Ld w w' p (s.use x.e.key) (i + 1) (fun _ => False) ∧ BxD w' wr.heap.size x) := by
          refine (ld_use L1 x.e.key (by have := HR0.out.2.2; omega)).mono ?_
          rintro y w' ⟨rfl, hd⟩
          exact ⟨rfl, HE.out _ _ hd⟩
        have q1 := B1.ent.c0
        have q2 := B1.ent.c1
        have hsw : decide (dir ∈ (s.use x.e.key).W) = b := by rw [hb, use_W]
        clear hb b1 B1 L1 hkW HE HR hW1
        cases b with
        | true =>
          go_wp2_with (first
            | (go_at_call 26; refine (HW.out _ _ H2.out.1).mono ?_; rw [hsw]; rintro y w5 ⟨rfl, H5⟩)
            | (go_at_call 14; refine HC.out.mono ?_; rintro y w4 ⟨rfl, hd4, hb4⟩; have H2 : Hid (Ld w w4 p (s.use x.e.key) (i + 1) (fun _ => False) ∧ BxD w4 wr.heap.size x) := ⟨hd4, hb4⟩; clear hd4 hb4)
            | (go_at_call 19; refine (HPl.out _ _).mono ?_; rw [hp]; rintro z w3 ⟨rfl, rfl⟩))
          go_roundw
          case rel => exact ⟨i + 1, by omega, rfl, true, rfl, _, H5.out, hsw.symm⟩
          case measure => simp [intOf]; omega
        | false =>
          go_wp2_with (first
            | (go_at_call 26; refine (HW.out _ _ H2.out.1).mono ?_; rw [hsw]; rintro y w5 ⟨rfl, H5⟩)
            | (go_at_call 14; refine HC.out.mono ?_; rintro y w4 ⟨rfl, hd4, hb4⟩; have H2 : Hid (Ld w w4 p (s.use x.e.key) (i + 1) (fun _ => False) ∧ BxD w4 wr.heap.size x) := ⟨hd4, hb4⟩; clear hd4 hb4)
            | (go_at_call 19; refine (HPl.out _ _).mono ?_; rw [hp]; rintro z w3 ⟨rfl, rfl⟩))
          go_roundw
          case rel => exact ⟨i + 1, by omega, rfl, false, rfl, _, H5.out, hsw.symm⟩
          case measure => simp [intOf]; omega
      · obtain ⟨ak, ck, hvk, hkl, hkc⟩ := hkW
        obtain ⟨m, hm⟩ : ∃ m, x.ks.length = m := ⟨_, rfl⟩
        have q1 := B1.keys
        have hkW' : ArgK W1 x.vk x.ks := ⟨ak, ck, hvk, hkl, hkc⟩
        rw [hm] at hvk
        have HC : Hid (Calls Try.prog 21 #[.slice ak m ck] W1 fun y W2 => ∃ v2, y = .returned v2 ∧ Calls Try.prog 20 #[.pointer (some ⟨p, 0, none⟩), v2] W2 fun y w' => y = .returned (.tuple #[]) ∧ Ld w w' p (s.cut x.ks) (i + 1) (fun _ => False) ∧ BxD w' wr.heap.size x ∧ Below w.heap.size w w' ∧ ∀ k, k < w.heap.size → w'.heap[k]? = w.heap[k]?) := by
          rw [← hvk]
          refine (copyK_any x.vk x.ks W1 hkW').mono ?_
          rintro y W2 ⟨v2, rfl, hrow, hb2⟩
          refine ⟨v2, rfl, (ld_cut ((L1.on hb2).mono (fun _ h => h) (Nat.le_succ i)) v2 x.ks (hrow.rd fun g hg e => e.2 (.inr ⟨(World.ownsRow.lt hrow g hg).1, (World.ownsRow.lt hrow g hg).2⟩)) (by omega)).mono ?_⟩
          rintro y w' ⟨rfl, hd⟩
          exact ⟨rfl, hd.ld.mono (fun _ h => h.elim) (Nat.le_refl _), (B1.below hb2).moved (hd.kept _ (.inl rfl)), hd.ld.below, fun k hk => hd.ld.below.block k hk⟩
        have HKC : Hid (∀ j, j < m → ∃ k gk ok, x.ks[j]? = some k ∧ ak = some ⟨gk, ok, none⟩ ∧ ∀ w', Below w.heap.size w w' → w'.cell? ⟨gk, ok + j * 2, none⟩ = some (.int .i64 k.d)) := fun j hj => by
          obtain ⟨a', c', hv', _, hkc'⟩ := HKA.out
          rw [hvk] at hv'
          have ea : ak = a' := by injection hv'
          rcases hkc' with h0 | ⟨gk, ok, e1, hg1, hc1⟩
          · rw [h0] at hm; simp at hm; omega
          · obtain ⟨k, hk⟩ : ∃ k, x.ks[j]? = some k := ⟨_, List.getElem?_eq_getElem (by omega)⟩
            refine ⟨k, gk, ok, hk, ea.trans e1, fun w' hw' => ?_⟩
            exact (hw'.cell (p := ⟨gk, ok + j * 2, none⟩) hg1).trans (hc1 (j * 2) _ (kc_get x.ks j k hk).1)
        have hsw0 : decide (dir ∈ (s.cut x.ks).W) = (b && x.ks.all fun k => k.d != dir) := by
          rw [hb, Bool.eq_iff_iff, decide_eq_true_iff, cut_W, Bool.and_eq_true, decide_eq_true_iff, List.all_eq_true]
          refine and_congr_right fun _ => ⟨fun h k hk => ?_, fun h k hk => ?_⟩
          · simpa using h k hk
          · simpa using h k hk
        rw [hvk] at q1
        have HVK : Hid (x.vk = .slice ak m ck) := hvk
        have hmb : m ≤ 100000000000000 := by omega
        have HM : Hid (x.ks.length = m) := hm
        clear hb b1 B1 L1 hkW' HE HR hW1 hkl hkc hvk hm
        go_wp2_with (first
          | (go_at_call 20; refine hC2.out.mono ?_; rintro y w4 ⟨rfl, hd4, hb4, hb5, hb6⟩; have H2 : Hid (Ld w w4 p (s.cut x.ks) (i + 1) (fun _ => False) ∧ BxD w4 wr.heap.size x ∧ Below w.heap.size w w4) := ⟨hd4, hb4, hb5⟩; have q4 := hb4.keys; rw [HVK.out] at q4; clear hd4 hb4 hb5 hb6)
          | (go_at_call 21; refine HC.out.mono ?_; rintro y W2 ⟨v2, rfl, hc2⟩; have hC2 : Hid (Calls Try.prog 20 #[.pointer (some ⟨p, 0, none⟩), v2] W2 fun y w' => y = .returned (.tuple #[]) ∧ Ld w w' p (s.cut x.ks) (i + 1) (fun _ => False) ∧ BxD w' wr.heap.size x ∧ Below w.heap.size w w' ∧ ∀ k, k < w.heap.size → w'.heap[k]? = w.heap[k]?) := hc2; clear hc2)
          | (go_at_call 19; refine (HPl.out _ _).mono ?_; rw [hp]; rintro z w3 ⟨rfl, rfl⟩))
        go_loopw [6, 9] (fun s6 s9 wi => ∃ j : Nat, j ≤ m ∧ s9 = .int .i64 j ∧ ∃ b2, s6 = .bool b2 ∧ wi = w4 ∧ Hid (b2 = (b && (x.ks.take j).all fun k => k.d != dir))) (fun _ s9 _ => m - (intOf s9).toNat)
        case atStart => exact ⟨0, Nat.zero_le _, rfl, b, rfl, rfl, (by show b = _; simp)⟩
        case round =>
          obtain ⟨j, hj, rfl, b2, rfl, rfl, HJ⟩ := hrel
          by_cases hlj : j < m
          · obtain ⟨k, gk, ok, hk, rfl, hck⟩ := HKC.out j hlj
            have hck' := hck _ H2.out.2.2
            have hljz : (j : Int) < (m : Int) := by omega
            obtain ⟨D, hD⟩ : ∃ D, (k.d == dir) = D := ⟨_, rfl⟩
            have HJ2 : Hid ((b2 && !D) = (b && (x.ks.take (j + 1)).all fun k => k.d != dir)) := by
              rw [HJ.out, List.take_add_one, hk, List.all_append, Bool.and_assoc]
              congr 2
              rw [← hD]
              simp [bne]
            have hw2 : IntKind.i64.wrap ((j : Int) + 1) = ((j + 1 : Nat) : Int) := by
              rw [show ((j + 1 : Nat) : Int) = (j : Int) + 1 by omega]; exact IntWalk.i64_in _ (by omega)
            clear hck hk HJ
            cases b2 with
            | true =>
              have hDz : (k.d != dir) = !D := by rw [← hD]; rfl
              cases D with
              | true =>
                go_wp2
                go_roundw
                case rel => exact ⟨j + 1, by omega, rfl, false, rfl, trivial, HJ2⟩
                case measure => simp [intOf]; omega
              | false =>
                go_wp2
                go_roundw
                case rel => exact ⟨j + 1, by omega, rfl, true, rfl, trivial, HJ2⟩
                case measure => simp [intOf]; omega
            | false =>
              go_wp2
              go_roundw
              case rel => exact ⟨j + 1, by omega, rfl, false, rfl, trivial, HJ2⟩
              case measure => simp [intOf]; omega
          · obtain rfl : j = m := by omega
            have hljz : ¬ (j : Int) < (j : Int) := by omega
            have hsw : decide (dir ∈ (s.cut x.ks).W) = b2 := by
              rw [hsw0, HJ.out, List.take_of_length_le (by rw [HM.out]; exact Nat.le_refl _)]
            clear hsw0 HJ
            cases b2 with
            | true =>
              go_wp2_with (first | (go_at_call 26; refine (HW.out _ _ H2.out.1).mono ?_; rw [hsw]; rintro y w5 ⟨rfl, H5⟩))
              go_roundw
              case rel => exact ⟨i + 1, by omega, rfl, true, rfl, _, H5.out, hsw.symm⟩
              case measure => simp [intOf]; omega
            | false =>
              go_wp2_with (first | (go_at_call 26; refine (HW.out _ _ H2.out.1).mono ?_; rw [hsw]; rintro y w5 ⟨rfl, H5⟩))
              go_roundw
              case rel => exact ⟨i + 1, by omega, rfl, false, rfl, _, H5.out, hsw.symm⟩
              case measure => simp [intOf]; omega
      · have HC : Hid (Calls Try.prog 22 #[.pointer (some ⟨p, 0, none⟩)] W1 fun y w' => y = .returned (.tuple #[]) ∧ Ld w w' p (Cs.clear) (i + 1) (fun _ => False) ∧ BxD w' wr.heap.size x) := by
          refine (ld_clear (L1.mono (fun _ h => h) (Nat.le_succ i))).mono ?_
          rintro y w' ⟨rfl, hd⟩
          exact ⟨rfl, HE.out _ _ hd⟩
        have hsw : decide (dir ∈ Cs.clear.W) = false := rfl
        clear hb b1 B1 L1 hkW HE HR hW1
        go_wp2_with (first
          | (go_at_call 26; refine (HW.out _ _ H2.out.1).mono ?_; rw [hsw]; rintro y w5 ⟨rfl, H5⟩)
          | (go_at_call 22; refine HC.out.mono ?_; rintro y w4 ⟨rfl, hd4, hb4⟩; have H2 : Hid (Ld w w4 p (Cs.clear) (i + 1) (fun _ => False) ∧ BxD w4 wr.heap.size x) := ⟨hd4, hb4⟩; clear hd4 hb4)
          | (go_at_call 19; refine (HPl.out _ _).mono ?_; rw [hp]; rintro z w3 ⟨rfl, rfl⟩))
        go_roundw
        case rel => exact ⟨i + 1, by omega, rfl, false, rfl, _, H5.out, hsw.symm⟩
        case measure => simp [intOf]; omega
      · have q1 := B1.ent.c0
        have q2 := B1.ent.c1
        have bx := box7
        obtain ⟨e0, he0⟩ : ∃ e0, (getL s.L x.e.key).getD zeroEn = e0 := ⟨_, rfl⟩
        obtain ⟨ok, hok⟩ : ∃ ok, (getL s.L x.e.key).isSome = ok := ⟨_, rfl⟩
        have HG : Hid (Calls Try.prog 23 #[.pointer (some ⟨p, 0, none⟩), .agg #[.int .i64 x.e.d, .string x.e.nm]] W1 fun y w' => y = .returned (.tuple #[e0.agg, .bool ok]) ∧ Below W1.heap.size W1 w') := by
          have := ld_get L1 x.e.key
          rw [he0, hok] at this; exact this
        have HB1 : Hid (∀ W2, Below W1.heap.size W1 W2 → (W2.alloc (.cells e0.vals.toArray 37)).cell? ⟨wr.heap.size, 2, none⟩ = some (.int .i64 x.e.d) ∧ (W2.alloc (.cells e0.vals.toArray 37)).cell? ⟨wr.heap.size, 3, none⟩ = some (.string x.e.nm)) := fun W2 hW2 => by
          have := (B1.below hW2).below (below_alloc W2 (.cells e0.vals.toArray 37))
          exact ⟨this.ent.c0, this.ent.c1⟩
        have HC : Hid (∀ W2, Below W1.heap.size W1 W2 → Calls Try.prog 24 #[.pointer (some ⟨p, 0, none⟩), .agg #[.int .i64 x.e.d, .string x.e.nm]] (W2.alloc (.cells e0.vals.toArray 37)) fun y w' => y = .returned (.bool ok) ∧ Ld w w' p (s.evict x.e.key) (i + 1) (fun _ => False) ∧ BxD w' wr.heap.size x ∧ Cells7 w' W2.heap.size 0 e0) := fun W2 hW2 => by
          have hb3 := below_alloc W2 (.cells e0.vals.toArray 37)
          refine (ld_evict (((L1.on' hW2).box (.cells e0.vals.toArray 37)).mono (fun _ h => h) (Nat.le_succ i)) x.e.key).mono ?_
          rintro y w' ⟨rfl, hd⟩
          exact ⟨by rw [hok], hd.ld.mono (fun _ h => h.elim) (Nat.le_refl _), ((B1.below hW2).below hb3).moved (hd.kept _ (.inl rfl)), (cells7_of (heap_new W2 (.cells e0.vals.toArray 37))).moved (hd.kept _ (.inr rfl))⟩
        obtain ⟨D, hD⟩ : ∃ D, (x.e.d == dir) = D := ⟨_, rfl⟩
        have hsw0 : decide (dir ∈ (s.evict x.e.key).W) = (b && !(ok && (!e0.neg && D))) := by
          rw [hb, Bool.eq_iff_iff, decide_eq_true_iff, evict_W, Bool.and_eq_true, decide_eq_true_iff]
          refine and_congr_right fun _ => ?_
          rw [← hD, ← hok, ← he0]
          cases hg : getL s.L x.e.key with
          | none => simp
          | some e =>
            cases hn : e.neg with
            | true => simp [hn]
            | false => simp [hn, En.key]
        clear hb b1 B1 L1 hkW HE HR hW1 he0 hok
        cases ok with
        | false =>
          have hsw : decide (dir ∈ (s.evict x.e.key).W) = b := by rw [hsw0]; simp
          clear hsw0
          cases hneg : e0.neg with
          | true =>
            cases b with
            | true =>
              go_wp2_with (first
                | (go_at_call 26; refine (HW.out _ _ H2.out.1).mono ?_; rw [hsw]; rintro y w5 ⟨rfl, H5⟩)
                | (go_at_call 24; refine (HC.out _ HB2.out).mono ?_; rintro y w4 ⟨rfl, hd4, hb4, hc4⟩; have H2 : Hid (Ld w w4 p (s.evict x.e.key) (i + 1) (fun _ => False) ∧ BxD w4 wr.heap.size x) := ⟨hd4, hb4⟩; have q4 := hb4.ent.c0; have q5 := hc4.c2; rw [hneg] at q5; clear hd4 hb4 hc4)
                | (go_at_call 23; refine HG.out.mono ?_; rintro y W2 ⟨rfl, hb2⟩; have HB2 : Hid (Below W1.heap.size W1 W2) := hb2; have p1 := HB1.out W2 hb2; clear hb2)
                | (go_at_call 19; refine (HPl.out _ _).mono ?_; rw [hp]; rintro z w3 ⟨rfl, rfl⟩))
              go_roundw
              case rel => exact ⟨i + 1, by omega, rfl, true, rfl, _, H5.out, hsw.symm⟩
              case measure => simp [intOf]; omega
            | false =>
              go_wp2_with (first
                | (go_at_call 26; refine (HW.out _ _ H2.out.1).mono ?_; rw [hsw]; rintro y w5 ⟨rfl, H5⟩)
                | (go_at_call 24; refine (HC.out _ HB2.out).mono ?_; rintro y w4 ⟨rfl, hd4, hb4, hc4⟩; have H2 : Hid (Ld w w4 p (s.evict x.e.key) (i + 1) (fun _ => False) ∧ BxD w4 wr.heap.size x) := ⟨hd4, hb4⟩; have q4 := hb4.ent.c0; have q5 := hc4.c2; rw [hneg] at q5; clear hd4 hb4 hc4)
                | (go_at_call 23; refine HG.out.mono ?_; rintro y W2 ⟨rfl, hb2⟩; have HB2 : Hid (Below W1.heap.size W1 W2) := hb2; have p1 := HB1.out W2 hb2; clear hb2)
                | (go_at_call 19; refine (HPl.out _ _).mono ?_; rw [hp]; rintro z w3 ⟨rfl, rfl⟩))
              go_roundw
              case rel => exact ⟨i + 1, by omega, rfl, false, rfl, _, H5.out, hsw.symm⟩
              case measure => simp [intOf]; omega
          | false =>
            cases b with
            | true =>
              go_wp2_with (first
                | (go_at_call 26; refine (HW.out _ _ H2.out.1).mono ?_; rw [hsw]; rintro y w5 ⟨rfl, H5⟩)
                | (go_at_call 24; refine (HC.out _ HB2.out).mono ?_; rintro y w4 ⟨rfl, hd4, hb4, hc4⟩; have H2 : Hid (Ld w w4 p (s.evict x.e.key) (i + 1) (fun _ => False) ∧ BxD w4 wr.heap.size x) := ⟨hd4, hb4⟩; have q4 := hb4.ent.c0; have q5 := hc4.c2; rw [hneg] at q5; clear hd4 hb4 hc4)
                | (go_at_call 23; refine HG.out.mono ?_; rintro y W2 ⟨rfl, hb2⟩; have HB2 : Hid (Below W1.heap.size W1 W2) := hb2; have p1 := HB1.out W2 hb2; clear hb2)
                | (go_at_call 19; refine (HPl.out _ _).mono ?_; rw [hp]; rintro z w3 ⟨rfl, rfl⟩))
              go_roundw
              case rel => exact ⟨i + 1, by omega, rfl, true, rfl, _, H5.out, hsw.symm⟩
              case measure => simp [intOf]; omega
            | false =>
              go_wp2_with (first
                | (go_at_call 26; refine (HW.out _ _ H2.out.1).mono ?_; rw [hsw]; rintro y w5 ⟨rfl, H5⟩)
                | (go_at_call 24; refine (HC.out _ HB2.out).mono ?_; rintro y w4 ⟨rfl, hd4, hb4, hc4⟩; have H2 : Hid (Ld w w4 p (s.evict x.e.key) (i + 1) (fun _ => False) ∧ BxD w4 wr.heap.size x) := ⟨hd4, hb4⟩; have q4 := hb4.ent.c0; have q5 := hc4.c2; rw [hneg] at q5; clear hd4 hb4 hc4)
                | (go_at_call 23; refine HG.out.mono ?_; rintro y W2 ⟨rfl, hb2⟩; have HB2 : Hid (Below W1.heap.size W1 W2) := hb2; have p1 := HB1.out W2 hb2; clear hb2)
                | (go_at_call 19; refine (HPl.out _ _).mono ?_; rw [hp]; rintro z w3 ⟨rfl, rfl⟩))
              go_roundw
              case rel => exact ⟨i + 1, by omega, rfl, false, rfl, _, H5.out, hsw.symm⟩
              case measure => simp [intOf]; omega
        | true =>
          cases hneg : e0.neg with
          | true =>
            have hsw : decide (dir ∈ (s.evict x.e.key).W) = b := by rw [hsw0, hneg]; simp
            clear hsw0
            cases b with
            | true =>
              go_wp2_with (first
                | (go_at_call 26; refine (HW.out _ _ H2.out.1).mono ?_; rw [hsw]; rintro y w5 ⟨rfl, H5⟩)
                | (go_at_call 24; refine (HC.out _ HB2.out).mono ?_; rintro y w4 ⟨rfl, hd4, hb4, hc4⟩; have H2 : Hid (Ld w w4 p (s.evict x.e.key) (i + 1) (fun _ => False) ∧ BxD w4 wr.heap.size x) := ⟨hd4, hb4⟩; have q4 := hb4.ent.c0; have q5 := hc4.c2; rw [hneg] at q5; clear hd4 hb4 hc4)
                | (go_at_call 23; refine HG.out.mono ?_; rintro y W2 ⟨rfl, hb2⟩; have HB2 : Hid (Below W1.heap.size W1 W2) := hb2; have p1 := HB1.out W2 hb2; clear hb2)
                | (go_at_call 19; refine (HPl.out _ _).mono ?_; rw [hp]; rintro z w3 ⟨rfl, rfl⟩))
              go_roundw
              case rel => exact ⟨i + 1, by omega, rfl, true, rfl, _, H5.out, hsw.symm⟩
              case measure => simp [intOf]; omega
            | false =>
              go_wp2_with (first
                | (go_at_call 26; refine (HW.out _ _ H2.out.1).mono ?_; rw [hsw]; rintro y w5 ⟨rfl, H5⟩)
                | (go_at_call 24; refine (HC.out _ HB2.out).mono ?_; rintro y w4 ⟨rfl, hd4, hb4, hc4⟩; have H2 : Hid (Ld w w4 p (s.evict x.e.key) (i + 1) (fun _ => False) ∧ BxD w4 wr.heap.size x) := ⟨hd4, hb4⟩; have q4 := hb4.ent.c0; have q5 := hc4.c2; rw [hneg] at q5; clear hd4 hb4 hc4)
                | (go_at_call 23; refine HG.out.mono ?_; rintro y W2 ⟨rfl, hb2⟩; have HB2 : Hid (Below W1.heap.size W1 W2) := hb2; have p1 := HB1.out W2 hb2; clear hb2)
                | (go_at_call 19; refine (HPl.out _ _).mono ?_; rw [hp]; rintro z w3 ⟨rfl, rfl⟩))
              go_roundw
              case rel => exact ⟨i + 1, by omega, rfl, false, rfl, _, H5.out, hsw.symm⟩
              case measure => simp [intOf]; omega
          | false =>
            cases D with
            | true =>
              have hsw : decide (dir ∈ (s.evict x.e.key).W) = false := by rw [hsw0, hneg]; simp
              clear hsw0
              go_wp2_with (first
                | (go_at_call 26; refine (HW.out _ _ H2.out.1).mono ?_; rw [hsw]; rintro y w5 ⟨rfl, H5⟩)
                | (go_at_call 24; refine (HC.out _ HB2.out).mono ?_; rintro y w4 ⟨rfl, hd4, hb4, hc4⟩; have H2 : Hid (Ld w w4 p (s.evict x.e.key) (i + 1) (fun _ => False) ∧ BxD w4 wr.heap.size x) := ⟨hd4, hb4⟩; have q4 := hb4.ent.c0; have q5 := hc4.c2; rw [hneg] at q5; clear hd4 hb4 hc4)
                | (go_at_call 23; refine HG.out.mono ?_; rintro y W2 ⟨rfl, hb2⟩; have HB2 : Hid (Below W1.heap.size W1 W2) := hb2; have p1 := HB1.out W2 hb2; clear hb2)
                | (go_at_call 19; refine (HPl.out _ _).mono ?_; rw [hp]; rintro z w3 ⟨rfl, rfl⟩))
              go_roundw
              case rel => exact ⟨i + 1, by omega, rfl, false, rfl, _, H5.out, hsw.symm⟩
              case measure => simp [intOf]; omega
            | false =>
              have hsw : decide (dir ∈ (s.evict x.e.key).W) = b := by rw [hsw0, hneg]; simp
              clear hsw0
              cases b with
              | true =>
                go_wp2_with (first
                  | (go_at_call 26; refine (HW.out _ _ H2.out.1).mono ?_; rw [hsw]; rintro y w5 ⟨rfl, H5⟩)
                  | (go_at_call 24; refine (HC.out _ HB2.out).mono ?_; rintro y w4 ⟨rfl, hd4, hb4, hc4⟩; have H2 : Hid (Ld w w4 p (s.evict x.e.key) (i + 1) (fun _ => False) ∧ BxD w4 wr.heap.size x) := ⟨hd4, hb4⟩; have q4 := hb4.ent.c0; have q5 := hc4.c2; rw [hneg] at q5; clear hd4 hb4 hc4)
                  | (go_at_call 23; refine HG.out.mono ?_; rintro y W2 ⟨rfl, hb2⟩; have HB2 : Hid (Below W1.heap.size W1 W2) := hb2; have p1 := HB1.out W2 hb2; clear hb2)
                  | (go_at_call 19; refine (HPl.out _ _).mono ?_; rw [hp]; rintro z w3 ⟨rfl, rfl⟩))
                go_roundw
                case rel => exact ⟨i + 1, by omega, rfl, true, rfl, _, H5.out, hsw.symm⟩
                case measure => simp [intOf]; omega
              | false =>
                go_wp2_with (first
                  | (go_at_call 26; refine (HW.out _ _ H2.out.1).mono ?_; rw [hsw]; rintro y w5 ⟨rfl, H5⟩)
                  | (go_at_call 24; refine (HC.out _ HB2.out).mono ?_; rintro y w4 ⟨rfl, hd4, hb4, hc4⟩; have H2 : Hid (Ld w w4 p (s.evict x.e.key) (i + 1) (fun _ => False) ∧ BxD w4 wr.heap.size x) := ⟨hd4, hb4⟩; have q4 := hb4.ent.c0; have q5 := hc4.c2; rw [hneg] at q5; clear hd4 hb4 hc4)
                  | (go_at_call 23; refine HG.out.mono ?_; rintro y W2 ⟨rfl, hb2⟩; have HB2 : Hid (Below W1.heap.size W1 W2) := hb2; have p1 := HB1.out W2 hb2; clear hb2)
                  | (go_at_call 19; refine (HPl.out _ _).mono ?_; rw [hp]; rintro z w3 ⟨rfl, rfl⟩))
                go_roundw
                case rel => exact ⟨i + 1, by omega, rfl, false, rfl, _, H5.out, hsw.symm⟩
                case measure => simp [intOf]; omega
      · have HC : Hid (Calls Try.prog 25 #[.pointer (some ⟨p, 0, none⟩), .int .i64 x.dir] W1 fun y w' => y = .returned (.tuple #[]) ∧ Ld w w' p (s.setW x.dir) (i + 1) (fun _ => False) ∧ BxD w' wr.heap.size x) := by
          refine (ld_setW (L1.mono (fun _ h => h) (Nat.le_succ i)) x.dir).mono ?_
          rintro y w' ⟨rfl, hd⟩
          exact ⟨rfl, HE.out _ _ hd⟩
        have q1 := B1.dir
        obtain ⟨D, hD⟩ : ∃ D, (x.dir == dir) = D := ⟨_, rfl⟩
        have hsw : decide (dir ∈ (s.setW x.dir).W) = (b || D) := by
          rw [hb, ← hD, Bool.eq_iff_iff, decide_eq_true_iff, mem_setW, Bool.or_eq_true, decide_eq_true_iff, beq_iff_eq]
          exact ⟨fun h => h.imp id Eq.symm, fun h => h.imp id Eq.symm⟩
        clear hb b1 B1 L1 hkW HE HR hW1
        cases b with
        | true =>
          rw [Bool.true_or] at hsw
          clear hD
          go_wp2_with (first
            | (go_at_call 26; refine (HW.out _ _ H2.out.1).mono ?_; rw [hsw]; rintro y w5 ⟨rfl, H5⟩)
            | (go_at_call 25; refine HC.out.mono ?_; rintro y w4 ⟨rfl, hd4, hb4⟩; have H2 : Hid (Ld w w4 p (s.setW x.dir) (i + 1) (fun _ => False) ∧ BxD w4 wr.heap.size x) := ⟨hd4, hb4⟩; clear hd4 hb4)
            | (go_at_call 19; refine (HPl.out _ _).mono ?_; rw [hp]; rintro z w3 ⟨rfl, rfl⟩))
          go_roundw
          case rel => exact ⟨i + 1, by omega, rfl, true, rfl, _, H5.out, hsw.symm⟩
          case measure => simp [intOf]; omega
        | false =>
          rw [Bool.false_or] at hsw
          cases D with
          | true =>
            go_wp2_with (first
              | (go_at_call 26; refine (HW.out _ _ H2.out.1).mono ?_; rw [hsw]; rintro y w5 ⟨rfl, H5⟩)
              | (go_at_call 25; refine HC.out.mono ?_; rintro y w4 ⟨rfl, hd4, hb4⟩; have H2 : Hid (Ld w w4 p (s.setW x.dir) (i + 1) (fun _ => False) ∧ BxD w4 wr.heap.size x) := ⟨hd4, hb4⟩; have q4 := hb4.dir; clear hd4 hb4)
              | (go_at_call 19; refine (HPl.out _ _).mono ?_; rw [hp]; rintro z w3 ⟨rfl, rfl⟩))
            go_roundw
            case rel => exact ⟨i + 1, by omega, rfl, true, rfl, _, H5.out, hsw.symm⟩
            case measure => simp [intOf]; omega
          | false =>
            go_wp2_with (first
              | (go_at_call 26; refine (HW.out _ _ H2.out.1).mono ?_; rw [hsw]; rintro y w5 ⟨rfl, H5⟩)
              | (go_at_call 25; refine HC.out.mono ?_; rintro y w4 ⟨rfl, hd4, hb4⟩; have H2 : Hid (Ld w w4 p (s.setW x.dir) (i + 1) (fun _ => False) ∧ BxD w4 wr.heap.size x) := ⟨hd4, hb4⟩; have q4 := hb4.dir; clear hd4 hb4)
              | (go_at_call 19; refine (HPl.out _ _).mono ?_; rw [hp]; rintro z w3 ⟨rfl, rfl⟩))
            go_roundw
            case rel => exact ⟨i + 1, by omega, rfl, false, rfl, _, H5.out, hsw.symm⟩
            case measure => simp [intOf]; omega
    · obtain rfl : i = n := by omega
      have hltz : ¬ (i : Int) < (i : Int) := by omega
      obtain ⟨s, hl, -⟩ := HR.out
      have HB : Hid (Below w.heap.size w wr) := hl.below
      clear HR hl
      go_wp2_with (go_at_call 12; refine (HA.out _).mono ?_; rintro x w2 ⟨rfl, hb⟩)
      go_ret
      exact ⟨rfl, chainB HB.out hb⟩
end
end Go.Proofs.Ytlabophmfdfigaa
