/- Of, walked. (Written by genof.py.) -/
import Derived.Test.YtmndnjgbbpkidaaGreatJWLks19
namespace Go.Proofs.YtmndnjgbbpkidaaGreat
section
open Go.RowKit
attribute [local go_sem ↓ high] loadEn storeEn loadDo storeDo

theorem results_tmp3 {fn : Func} {a b c : Tmp} (h : fn.results = #[.tmp a, .tmp b, .tmp c]) (tmps : Array Value) (w : World) : (results fn tmps).run Tryz.prog w = .ok (.tuple #[tmps.getD a undef, tmps.getD b undef, tmps.getD c undef]) w := by
  unfold results
  simp [h]
set_option maxRecDepth 100000 in
set_option maxHeartbeats 16000000 in
theorem of_p (a : Option Addr) (cap : Nat) (ops : List DOp) (w : World) (row : RowD w a ops) (hlen : ops.length < 1300000000000) :
    Calls Tryz.prog 6 #[.slice a ops.length cap] w fun x w' => ∃ p q, x = .returned (.tuple #[.pointer (some ⟨p, 0, none⟩), .pointer (some ⟨q, 0, none⟩), .bool true]) ∧ Tw w w' p q (runS ops) (runS ops) ops.length (fun _ => False) := by
  obtain ⟨n, hn⟩ : ∃ n, ops.length = n := ⟨_, rfl⟩
  have HR0 : Hid (RowD w a ops ∧ ops.length = n ∧ n < 1300000000000 ∧ ops.take n = ops) := ⟨row, hn, by omega, by rw [← hn]; exact List.take_length⟩
  have HPl : Hid (∀ v w, Calls Tryz.prog 19 #[.int .i64 v, .int .i64 6] w fun e w' => e = .returned (.int .i64 (placeV v 6)) ∧ w = w') := fun v w => (place_any v 6 w (by omega) (by omega)).mono fun _ _ hh => ⟨hh.1, hh.2.symm⟩
  rw [hn]
  clear row hlen hn
  go_enter Tryz.func6, Tryz.ntmps6
  go_wp2_with (go_at_call 18; refine (ld_new w w (fun _ => False) (Below.refl _ _) (fun _ h => h.elim)).mono ?_; rintro x w1 ⟨p, rfl, hl⟩; have H1 : Hid (Ld w w1 p Cs.clear 0 (fun _ => False)) := hl.ld; clear hl)
  go_loopw [7, 8, 9] (fun s7 _ _ wr => ∃ i : Nat, i ≤ n ∧ s7 = .int .i64 i ∧ Hid (Tw w wr p w1.heap.size (runS (ops.take i)) (runS (ops.take i)) i (fun _ => False))) (fun s7 _ _ _ => n - (intOf s7).toNat)
  case atStart =>
    refine ⟨0, Nat.zero_le _, rfl, ⟨⟨⟨.slice none 0 0, .slice none 0 0⟩, ⟨heap_new _ _, World.ownsRow_nil _ _ _ _, World.ownsRow_nil _ _ _ _, H1.out.below.size⟩, (H1.out.box _).mono (fun b hb => ?_) (Nat.le_refl _), fun b _ hf => hf⟩, Nat.zero_le _, Nat.zero_le _⟩⟩
    rcases hb with hb | hb | hb | hb
    · exact hb.elim
    · exact .inr hb
    · cases hb
    · cases hb
  case round =>
    obtain ⟨i, hi, rfl, HR⟩ := hrel
    by_cases hlt : i < n
    · have hl := HR.out
      obtain ⟨r1, r2, r3, r4⟩ := HR0.out
      obtain ⟨g, o, x, rfl, hx, hg, hc, hk⟩ := r1.get (i := i) (by omega)
      have hltz : (i : Int) < (n : Int) := by omega
      have hw1 : IntKind.i64.wrap ((i : Int) + 1) = ((i + 1 : Nat) : Int) := by
        rw [show ((i + 1 : Nat) : Int) = (i : Int) + 1 by omega]; exact IntWalk.i64_in _ (by omega)
      have hcw : ∀ (j : Nat) u, x.vals[j]? = some u → wr.cell? ⟨g, o + i * 10 + j, none⟩ = some u := fun j u hu => (hl.below.cell (p := ⟨g, o + i * 10 + j, none⟩) hg).trans (hc j u hu)
      have hld := doLd_at hcw
      have hbx := box10 wr x hk.one
      obtain ⟨W1, hW1⟩ : ∃ W, wr.alloc (.cells x.vals.toArray 61) = W := ⟨_, rfl⟩
      rw [hW1] at hbx
      have b1 := boxO hW1
      have B1 : BxD W1 wr.heap.size x := ⟨b1.1⟩
      have q0 := B1.kind
      obtain ⟨s, hs⟩ : ∃ s, runS (ops.take i) = s := ⟨_, rfl⟩
      have hsn := runS_snoc ops i x hx
      have hsl := runS_len (ops.take i)
      rw [hs] at hl hsn hsl
      have hil : (ops.take i).length = i := by rw [List.length_take]; omega
      rw [hil] at hsl
      have L1 : Tw w W1 p w1.heap.size s s i (fun b => b = wr.heap.size) := by rw [← hW1]; exact (hl.box _).mono (fun _ hk => .inr hk) (Nat.le_refl _)
      have hky := hl.keys
      have HB : Hid (∀ W2 t u m, Twc w W1 W2 p w1.heap.size t u m (fun b => b = wr.heap.size) → BxD W2 wr.heap.size x) := fun W2 t u m hd => B1.moved (hd.kept _ rfl)
      have HF : Hid (∀ W2 m, m ≤ i + 1 → Tw w W2 p w1.heap.size (opS s x) (opS s x) m (fun b => b = wr.heap.size) → Tw w W2 p w1.heap.size (runS (ops.take (i + 1))) (runS (ops.take (i + 1))) (i + 1) (fun _ => False)) := fun W2 m hm hd => by rw [hsn]; exact hd.mono (fun _ h => h.elim) hm
      have hd1 : Below W1.heap.size W1 W1.drew := (Below.refl _ W1).drew
      have HKA : Hid (ArgK w x.vk x.ks ∧ Below w.heap.size w W1) := ⟨hk, L1.below⟩
      have L1n : Tw w W1 p w1.heap.size s s (i + 1) (fun b => b = wr.heap.size) := L1.mono (fun _ h => h) (Nat.le_succ i)
      clear hk hc hx hcw r1 r2 r4 hl hs hsn hil
      rcases place6 x.kind with hp | hp | hp | hp | hp | hp
      · have hop : opS s x = putS s x.e := by unfold opS; rw [if_pos hp]
        have T1 : Hid (Tw w W1.drew p w1.heap.size s s i (fun b => b = wr.heap.size)) := L1.on' hd1
        have HP : Hid (Calls Tryz.prog 20 #[.pointer (some ⟨p, 0, none⟩), x.e.agg] W1.drew fun y w' => y = .returned (.int .i64 (if x.e.nm = nob then 1 else 0)) ∧ Twc w W1 w' p w1.heap.size (putS s x.e) s (i + 1) (fun b => b = wr.heap.size)) := (tw_put T1.out x.e (by omega)).mono fun _ _ hh => ⟨hh.1, hh.2.undrew⟩
        have HD : Hid (∀ W2, Tw w W2 p w1.heap.size (putS s x.e) s (i + 1) (fun b => b = wr.heap.size) → Calls Tryz.prog 21 #[.pointer (some ⟨w1.heap.size, 0, none⟩), x.e.agg] W2 fun y w' => y = .returned (.int .i64 (if x.e.nm = nob then 1 else 0)) ∧ Twc w W2 w' p w1.heap.size (putS s x.e) (putS s x.e) (i + 1) (fun b => b = wr.heap.size)) := fun W2 hh => tw_rput hh hky x.e (by omega) (by omega)
        have HS : Hid (∀ W2, BxD W2 wr.heap.size x → (enLd (.pointer (some ⟨wr.heap.size, 2, none⟩))).run Tryz.prog W2 = .ok x.e.agg W2) := fun W2 hb => enLd_at hb.ent
        have kA := HS.out W1.drew (B1.below hd1)
        obtain ⟨R, hR⟩ : ∃ R, ((if x.e.nm = nob then 1 else 0) : Int) = R := ⟨_, rfl⟩
        rw [hR] at HP HD
        have HFF : Hid (∀ W2, Tw w W2 p w1.heap.size (putS s x.e) (putS s x.e) (i + 1) (fun b => b = wr.heap.size) → Tw w W2 p w1.heap.size (runS (ops.take (i + 1))) (runS (ops.take (i + 1))) (i + 1) (fun _ => False)) := fun W2 hh => HF.out W2 (i + 1) (by omega) (by rw [hop]; exact hh)
        clear b1 B1 L1 L1n HF hop HR hky hsl r3
        go_upto_region 12 with (first | (go_at_call 19; refine (HPl.out _ _).mono ?_; rw [hp]; rintro z w3 ⟨rfl, rfl⟩))
        clear hW1 hbx hld
        go_region_held3 (fun W2 => (enLd (.pointer (some ⟨wr.heap.size, 2, none⟩))).run Tryz.prog W2 = .ok x.e.agg W2)
          (with_reducible first | exact kA | exact kB | exact kC)
          (first
            | (go_at_call 21; refine (HD.out _ T2.out.1).mono ?_; rintro y w5 ⟨rfl, hd⟩; have kC := HS.out w5 (T2.out.2.moved (hd.kept _ rfl)); have T3 : Hid (Tw w w5 p w1.heap.size (putS s x.e) (putS s x.e) (i + 1) (fun b => b = wr.heap.size)) := hd.tw; clear hd)
            | (go_at_call 20; refine HP.out.mono ?_; rintro y w4 ⟨rfl, hd⟩; have kB := HS.out w4 (HB.out _ _ _ _ hd); have T2 : Hid (Tw w w4 p w1.heap.size (putS s x.e) s (i + 1) (fun b => b = wr.heap.size) ∧ BxD w4 wr.heap.size x) := ⟨hd.tw, HB.out _ _ _ _ hd⟩; clear hd))
        go_wp2
        go_roundw
        case rel => exact ⟨i + 1, by omega, rfl, HFF.out _ T3.out⟩
        case measure => simp [intOf]; omega
      · have hop : opS s x = s.use x.e.key := by unfold opS; rw [if_neg (by omega)]; rw [if_pos hp]
        have T1 : Hid (Tw w W1.drew p w1.heap.size s s i (fun b => b = wr.heap.size)) := L1.on' hd1
        have HP : Hid (Calls Tryz.prog 22 #[.pointer (some ⟨p, 0, none⟩), .agg #[.int .i64 x.e.d, .string x.e.nm]] W1.drew fun y w' => y = .returned (.bool (getL s.L x.e.key).isSome) ∧ Twc w W1 w' p w1.heap.size (s.use x.e.key) s (i + 1) (fun b => b = wr.heap.size)) := (tw_use T1.out x.e.key (by omega)).mono fun _ _ hh => ⟨hh.1, hh.2.undrew⟩
        have HD : Hid (∀ W2, Tw w W2 p w1.heap.size (s.use x.e.key) s (i + 1) (fun b => b = wr.heap.size) → Calls Tryz.prog 23 #[.pointer (some ⟨w1.heap.size, 0, none⟩), .agg #[.int .i64 x.e.d, .string x.e.nm]] W2 fun y w' => y = .returned (.bool (getL s.L x.e.key).isSome) ∧ Twc w W2 w' p w1.heap.size (s.use x.e.key) (s.use x.e.key) (i + 1) (fun b => b = wr.heap.size)) := fun W2 hh => tw_ruse hh hky x.e.key (by omega) (by omega)
        have HS : Hid (∀ W2, BxD W2 wr.heap.size x → W2.cell? ⟨wr.heap.size, 2, none⟩ = some (.int .i64 x.e.d) ∧ W2.cell? ⟨wr.heap.size, 3, none⟩ = some (.string x.e.nm)) := fun W2 hb => ⟨hb.ent.c0, hb.ent.c1⟩
        have kA := HS.out W1.drew (B1.below hd1)
        obtain ⟨R, hR⟩ : ∃ R, (getL s.L x.e.key).isSome = R := ⟨_, rfl⟩
        rw [hR] at HP HD
        have HFF : Hid (∀ W2, Tw w W2 p w1.heap.size (s.use x.e.key) (s.use x.e.key) (i + 1) (fun b => b = wr.heap.size) → Tw w W2 p w1.heap.size (runS (ops.take (i + 1))) (runS (ops.take (i + 1))) (i + 1) (fun _ => False)) := fun W2 hh => HF.out W2 (i + 1) (by omega) (by rw [hop]; exact hh)
        clear b1 B1 L1 L1n HF hop HR hky hsl r3
        go_upto_region 14 with (first | (go_at_call 19; refine (HPl.out _ _).mono ?_; rw [hp]; rintro z w3 ⟨rfl, rfl⟩))
        clear hW1 hbx hld
        go_region_held3 (fun W2 => W2.cell? ⟨wr.heap.size, 2, none⟩ = some (.int .i64 x.e.d) ∧ W2.cell? ⟨wr.heap.size, 3, none⟩ = some (.string x.e.nm))
          (with_reducible first | exact kA | exact kB | exact kC)
          (first
            | (go_at_call 23; refine (HD.out _ T2.out.1).mono ?_; rintro y w5 ⟨rfl, hd⟩; have kC := HS.out w5 (T2.out.2.moved (hd.kept _ rfl)); have T3 : Hid (Tw w w5 p w1.heap.size (s.use x.e.key) (s.use x.e.key) (i + 1) (fun b => b = wr.heap.size)) := hd.tw; clear hd)
            | (go_at_call 22; refine HP.out.mono ?_; rintro y w4 ⟨rfl, hd⟩; have kB := HS.out w4 (HB.out _ _ _ _ hd); have T2 : Hid (Tw w w4 p w1.heap.size (s.use x.e.key) s (i + 1) (fun b => b = wr.heap.size) ∧ BxD w4 wr.heap.size x) := ⟨hd.tw, HB.out _ _ _ _ hd⟩; clear hd))
        go_wp2
        go_roundw
        case rel => exact ⟨i + 1, by omega, rfl, HFF.out _ T3.out⟩
        case measure => simp [intOf]; omega
      · have hop : opS s x = s.cut x.ks := by unfold opS; rw [if_neg (by omega)]; rw [if_neg (by omega)]; rw [if_pos hp]
        obtain ⟨ak, ck, hvk, hkl, hkc⟩ := HKA.out.1
        obtain ⟨m, hm⟩ : ∃ m, x.ks.length = m := ⟨_, rfl⟩
        have hkW : ArgK W1 x.vk x.ks := HKA.out.1.below HKA.out.2
        rw [hm] at hvk
        have q1 := B1.keys
        rw [hvk] at q1
        have HVK : Hid (x.vk = .slice ak m ck) := hvk
        have HC : Hid (Calls Tryz.prog 25 #[.slice ak m ck] W1 fun y W2 => ∃ v2, y = .returned v2 ∧ Calls Tryz.prog 24 #[.pointer (some ⟨p, 0, none⟩), v2] W2 fun y w' => y = .returned (.tuple #[]) ∧ Tw w w' p w1.heap.size (s.cut x.ks) s i (fun b => b = wr.heap.size) ∧ BxD w' wr.heap.size x) := by
          rw [← hvk]
          refine (copyK_any x.vk x.ks W1 hkW).mono ?_
          rintro y W2 ⟨v2, rfl, hrow, hb2⟩
          refine ⟨v2, rfl, (tw_cut (L1.on hb2) v2 x.ks (hrow.rd fun g hg e => e.2 (.inr ⟨(World.ownsRow.lt hrow g hg).1, (World.ownsRow.lt hrow g hg).2⟩)) (by omega)).mono ?_⟩
          rintro y w' ⟨rfl, hd⟩
          exact ⟨rfl, hd.tw.mono (fun _ h => .inl h) (Nat.le_refl _), (B1.below hb2).moved (hd.kept _ (.inl rfl))⟩
        have HD : Hid (∀ W2, Tw w W2 p w1.heap.size (s.cut x.ks) s i (fun b => b = wr.heap.size) → Calls Tryz.prog 26 #[.pointer (some ⟨w1.heap.size, 0, none⟩), .slice ak m ck] W2 fun y w' => y = .returned (.tuple #[]) ∧ Hid (Tw w w' p w1.heap.size (s.cut x.ks) (s.cut x.ks) i (fun b => b = wr.heap.size))) := fun W2 hh => by
          have := tw_rcut hh x.vk x.ks (HKA.out.1.rd hh.below) (by omega) (by omega)
          rw [HVK.out] at this
          exact this.mono fun _ _ h2 => ⟨h2.1, h2.2.tw⟩
        have HFF : Hid (∀ W2, Tw w W2 p w1.heap.size (s.cut x.ks) (s.cut x.ks) i (fun b => b = wr.heap.size) → Tw w W2 p w1.heap.size (runS (ops.take (i + 1))) (runS (ops.take (i + 1))) (i + 1) (fun _ => False)) := fun W2 hh => HF.out W2 i (by omega) (by rw [hop]; exact hh)
        clear b1 B1 L1 L1n HF hop HR hky hsl r3 hW1 hvk hkl hkc hkW hm
        go_wp2_with (first
          | (go_at_call 26; refine (HD.out _ H4.out.1).mono ?_; rintro y w5 ⟨rfl, T3⟩)
          | (go_at_call 24; refine hC2.out.mono ?_; rintro y w4 ⟨rfl, hd4, hb4⟩; have H4 : Hid (Tw w w4 p w1.heap.size (s.cut x.ks) s i (fun b => b = wr.heap.size) ∧ BxD w4 wr.heap.size x) := ⟨hd4, hb4⟩; have q4 := hb4.keys; rw [HVK.out] at q4; clear hd4 hb4)
          | (go_at_call 25; refine HC.out.mono ?_; rintro y W2 ⟨v2, rfl, hc2⟩; have hC2 : Hid (Calls Tryz.prog 24 #[.pointer (some ⟨p, 0, none⟩), v2] W2 fun y w' => y = .returned (.tuple #[]) ∧ Tw w w' p w1.heap.size (s.cut x.ks) s i (fun b => b = wr.heap.size) ∧ BxD w' wr.heap.size x) := hc2; clear hc2)
          | (go_at_call 19; refine (HPl.out _ _).mono ?_; rw [hp]; rintro z w3 ⟨rfl, rfl⟩))
        go_roundw
        case rel => exact ⟨i + 1, by omega, rfl, HFF.out _ T3.out⟩
        case measure => simp [intOf]; omega
      · have hop : opS s x = Cs.clear := by unfold opS; rw [if_neg (by omega)]; rw [if_neg (by omega)]; rw [if_neg (by omega)]; rw [if_pos hp]
        have HP : Hid (Calls Tryz.prog 27 #[.pointer (some ⟨p, 0, none⟩)] W1 fun y w' => y = .returned (.tuple #[]) ∧ Tw w w' p w1.heap.size (Cs.clear) s (i) (fun b => b = wr.heap.size) ∧ BxD w' wr.heap.size x) := (tw_clear L1).mono fun _ _ hh => ⟨hh.1, hh.2.tw, HB.out _ _ _ _ hh.2⟩
        have HD : Hid (∀ W2, Tw w W2 p w1.heap.size (Cs.clear) s (i) (fun b => b = wr.heap.size) → Calls Tryz.prog 28 #[.pointer (some ⟨w1.heap.size, 0, none⟩)] W2 fun y w' => y = .returned (.tuple #[]) ∧ Hid (Tw w w' p w1.heap.size (Cs.clear) (Cs.clear) (i) (fun b => b = wr.heap.size))) := fun W2 hh => (tw_rclear hh).mono fun _ _ h2 => ⟨h2.1, h2.2.tw⟩
        have q1 := B1.dir
        have HFF : Hid (∀ W2, Tw w W2 p w1.heap.size (Cs.clear) (Cs.clear) (i) (fun b => b = wr.heap.size) → Tw w W2 p w1.heap.size (runS (ops.take (i + 1))) (runS (ops.take (i + 1))) (i + 1) (fun _ => False)) := fun W2 hh => HF.out W2 (i) (by omega) (by rw [hop]; exact hh)
        clear b1 B1 L1 L1n HF hop HR hky hsl r3 hW1
        go_wp2_with (first
          | (go_at_call 28; refine (HD.out _ H4.out.1).mono ?_; rintro y w5 ⟨rfl, T3⟩)
          | (go_at_call 27; refine HP.out.mono ?_; rintro y w4 ⟨rfl, hd4, hb4⟩; have H4 : Hid (Tw w w4 p w1.heap.size (Cs.clear) s (i) (fun b => b = wr.heap.size) ∧ BxD w4 wr.heap.size x) := ⟨hd4, hb4⟩; have q4 := hb4.dir; clear hd4 hb4)
          | (go_at_call 19; refine (HPl.out _ _).mono ?_; rw [hp]; rintro z w3 ⟨rfl, rfl⟩))
        go_roundw
        case rel => exact ⟨i + 1, by omega, rfl, HFF.out _ T3.out⟩
        case measure => simp [intOf]; omega
      · have hop : opS s x = s.evict x.e.key := by unfold opS; rw [if_neg (by omega)]; rw [if_neg (by omega)]; rw [if_neg (by omega)]; rw [if_neg (by omega)]; rw [if_pos hp]
        have T1 : Hid (Tw w W1.drew p w1.heap.size s s i (fun b => b = wr.heap.size)) := L1.on' hd1
        have HP : Hid (Calls Tryz.prog 29 #[.pointer (some ⟨p, 0, none⟩), .agg #[.int .i64 x.e.d, .string x.e.nm]] W1.drew fun y w' => y = .returned (.bool (getL s.L x.e.key).isSome) ∧ Twc w W1 w' p w1.heap.size (s.evict x.e.key) s (i) (fun b => b = wr.heap.size)) := (tw_evict T1.out x.e.key).mono fun _ _ hh => ⟨hh.1, hh.2.undrew⟩
        have HD : Hid (∀ W2, Tw w W2 p w1.heap.size (s.evict x.e.key) s (i) (fun b => b = wr.heap.size) → Calls Tryz.prog 30 #[.pointer (some ⟨w1.heap.size, 0, none⟩), .agg #[.int .i64 x.e.d, .string x.e.nm]] W2 fun y w' => y = .returned (.bool (getL s.L x.e.key).isSome) ∧ Twc w W2 w' p w1.heap.size (s.evict x.e.key) (s.evict x.e.key) (i) (fun b => b = wr.heap.size)) := fun W2 hh => tw_revict hh hky x.e.key (by omega)
        have HS : Hid (∀ W2, BxD W2 wr.heap.size x → W2.cell? ⟨wr.heap.size, 2, none⟩ = some (.int .i64 x.e.d) ∧ W2.cell? ⟨wr.heap.size, 3, none⟩ = some (.string x.e.nm)) := fun W2 hb => ⟨hb.ent.c0, hb.ent.c1⟩
        have kA := HS.out W1.drew (B1.below hd1)
        obtain ⟨R, hR⟩ : ∃ R, (getL s.L x.e.key).isSome = R := ⟨_, rfl⟩
        rw [hR] at HP HD
        have HFF : Hid (∀ W2, Tw w W2 p w1.heap.size (s.evict x.e.key) (s.evict x.e.key) (i) (fun b => b = wr.heap.size) → Tw w W2 p w1.heap.size (runS (ops.take (i + 1))) (runS (ops.take (i + 1))) (i + 1) (fun _ => False)) := fun W2 hh => HF.out W2 (i) (by omega) (by rw [hop]; exact hh)
        clear b1 B1 L1 L1n HF hop HR hky hsl r3
        go_upto_region 22 with (first | (go_at_call 19; refine (HPl.out _ _).mono ?_; rw [hp]; rintro z w3 ⟨rfl, rfl⟩))
        clear hW1 hbx hld
        go_region_held3 (fun W2 => W2.cell? ⟨wr.heap.size, 2, none⟩ = some (.int .i64 x.e.d) ∧ W2.cell? ⟨wr.heap.size, 3, none⟩ = some (.string x.e.nm))
          (with_reducible first | exact kA | exact kB | exact kC)
          (first
            | (go_at_call 30; refine (HD.out _ T2.out.1).mono ?_; rintro y w5 ⟨rfl, hd⟩; have kC := HS.out w5 (T2.out.2.moved (hd.kept _ rfl)); have T3 : Hid (Tw w w5 p w1.heap.size (s.evict x.e.key) (s.evict x.e.key) (i) (fun b => b = wr.heap.size)) := hd.tw; clear hd)
            | (go_at_call 29; refine HP.out.mono ?_; rintro y w4 ⟨rfl, hd⟩; have kB := HS.out w4 (HB.out _ _ _ _ hd); have T2 : Hid (Tw w w4 p w1.heap.size (s.evict x.e.key) s (i) (fun b => b = wr.heap.size) ∧ BxD w4 wr.heap.size x) := ⟨hd.tw, HB.out _ _ _ _ hd⟩; clear hd))
        go_wp2
        go_roundw
        case rel => exact ⟨i + 1, by omega, rfl, HFF.out _ T3.out⟩
        case measure => simp [intOf]; omega
      · have hop : opS s x = s.setW x.dir := by unfold opS; rw [if_neg (by omega)]; rw [if_neg (by omega)]; rw [if_neg (by omega)]; rw [if_neg (by omega)]; rw [if_neg (by omega)]
        have HP : Hid (Calls Tryz.prog 31 #[.pointer (some ⟨p, 0, none⟩), .int .i64 x.dir] W1 fun y w' => y = .returned (.tuple #[]) ∧ Tw w w' p w1.heap.size (s.setW x.dir) s (i + 1) (fun b => b = wr.heap.size) ∧ BxD w' wr.heap.size x) := (tw_setW L1n x.dir).mono fun _ _ hh => ⟨hh.1, hh.2.tw, HB.out _ _ _ _ hh.2⟩
        have HD : Hid (∀ W2, Tw w W2 p w1.heap.size (s.setW x.dir) s (i + 1) (fun b => b = wr.heap.size) → Calls Tryz.prog 32 #[.pointer (some ⟨w1.heap.size, 0, none⟩), .int .i64 x.dir] W2 fun y w' => y = .returned (.tuple #[]) ∧ Hid (Tw w w' p w1.heap.size (s.setW x.dir) (s.setW x.dir) (i + 1) (fun b => b = wr.heap.size))) := fun W2 hh => (tw_rsetW hh x.dir (by omega) (by omega)).mono fun _ _ h2 => ⟨h2.1, h2.2.tw⟩
        have q1 := B1.dir
        have HFF : Hid (∀ W2, Tw w W2 p w1.heap.size (s.setW x.dir) (s.setW x.dir) (i + 1) (fun b => b = wr.heap.size) → Tw w W2 p w1.heap.size (runS (ops.take (i + 1))) (runS (ops.take (i + 1))) (i + 1) (fun _ => False)) := fun W2 hh => HF.out W2 (i + 1) (by omega) (by rw [hop]; exact hh)
        clear b1 B1 L1 L1n HF hop HR hky hsl r3 hW1
        go_wp2_with (first
          | (go_at_call 32; refine (HD.out _ H4.out.1).mono ?_; rintro y w5 ⟨rfl, T3⟩)
          | (go_at_call 31; refine HP.out.mono ?_; rintro y w4 ⟨rfl, hd4, hb4⟩; have H4 : Hid (Tw w w4 p w1.heap.size (s.setW x.dir) s (i + 1) (fun b => b = wr.heap.size) ∧ BxD w4 wr.heap.size x) := ⟨hd4, hb4⟩; have q4 := hb4.dir; clear hd4 hb4)
          | (go_at_call 19; refine (HPl.out _ _).mono ?_; rw [hp]; rintro z w3 ⟨rfl, rfl⟩))
        go_roundw
        case rel => exact ⟨i + 1, by omega, rfl, HFF.out _ T3.out⟩
        case measure => simp [intOf]; omega
    · obtain rfl : i = n := by omega
      have hltz : ¬ (i : Int) < (i : Int) := by omega
      have HE : Hid (Tw w wr p w1.heap.size (runS ops) (runS ops) i (fun _ => False)) := by
        have := HR.out
        rw [HR0.out.2.2.2] at this; exact this
      clear HR
      go_wp2
      (try simp only [Exit.inBlock, Exit.then])
      refine bodyPost_ret (results_tmp3 rfl _ _) rfl ?_
      exact ⟨_, _, rfl, HE.out⟩
end
end Go.Proofs.YtmndnjgbbpkidaaGreat
