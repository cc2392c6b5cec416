/- The document's tide: tried. -/
import Derived.Test.YtpmcecenhgppbaaJTEpt34
namespace Go.Proofs.Ytpmcecenhgppbaa
section
open Go.RowKit Go.Shelf
attribute [local go_sem ↓ high] loadMsg storeMsg buildMsg storeAct loadAct buildAct
attribute [local go_sem high] run_store_complex eqC

theorem idx_noneD {s : Dt} {p : Pm → Bool} (h : ∀ (j : Nat) (z : Hm), s.hs[j]? = some z → p z.m = false) : s.say.held.findIdx? p = none := by
  show (s.hs.map Hm.m).findIdx? p = none
  rw [List.findIdx?_eq_none_iff]
  intro x hx
  obtain ⟨z, hz, rfl⟩ := List.mem_map.1 hx
  obtain ⟨j, hj, e⟩ := List.getElem_of_mem hz
  exact h j z (by rw [List.getElem?_eq_getElem hj, e])
theorem idx_someD {s : Dt} {p : Pm → Bool} {i : Nat} {z : Hm} (hz : s.hs[i]? = some z) (hp : p z.m = true) (h : ∀ (j : Nat) (z : Hm), j < i → s.hs[j]? = some z → p z.m = false) : s.say.held.findIdx? p = some i := by
  show (s.hs.map Hm.m).findIdx? p = some i
  rw [List.findIdx?_eq_some_iff_getElem]
  obtain ⟨hi, hz'⟩ := List.getElem?_eq_some_iff.1 hz
  refine ⟨by rw [List.length_map]; exact hi, ?_, fun j hj => ?_⟩
  · rw [List.getElem_map, hz']; exact hp
  · have hj2 : j < s.hs.length := by omega
    have := h j s.hs[j] hj (List.getElem?_eq_getElem hj2)
    rw [List.getElem_map, this]; exact Bool.false_ne_true
theorem say_without {s : Dt} {i : Nat} {v : Value} : ({ s with hv := v, hs := s.hs.eraseIdx i } : Dt).say = s.say.without i := by
  unfold Dt.say Ts.without
  simp only [map_erase]
def TriedR (w : World) (B t : Nat) (s : Dt) (e : Ending) (w' : World) : Prop :=
  (s.say.due = none ∧ e = .returned (.tuple #[.slice none 0 0, .bool false]) ∧ Below w.heap.size w w') ∨
  ∃ i z v l, s.hs[i]? = some z ∧ s.say.due = some i ∧ e = .returned (.tuple #[v, .bool true]) ∧ Acts w' w.heap.size v l ∧ l.map Am.c = ((s.say.without i).meet z.m).2 ∧ ∃ s', SD w w' B t s s' ∧ s'.say = ((s.say.without i).meet z.m).1
theorem tried_1 {s : Dt} {i : Nat} {z : Hm} (hz : s.hs[i]? = some z) (hk : z.m.kind = 3) (hn : z.m.num = s.n + 1) (h : ∀ (j : Nat) (z : Hm), j < i → s.hs[j]? = some z → s.say.due1 z.m = false) : s.say.due = some i ∧ (s.say.without i).meet z.m = ((s.say.without i).apply z.m, [actOf z.m]) := by
  have ha : s.say.ahead z.m = 1 := by
    unfold Ts.ahead
    show (if s.n ≤ z.m.num then z.m.num - s.n else 0) = 1
    rw [if_pos (by omega)]; omega
  refine ⟨?_, ?_⟩
  · unfold Ts.due
    rw [idx_someD hz (by unfold Ts.due1; rw [ha, hk]; rfl) h]; rfl
  · unfold Ts.meet
    rw [Ts.ahead_without, if_neg (by omega), ha, if_neg (by decide), if_pos (.inr ⟨hk, rfl⟩)]
theorem ahead_0 {s : Dt} {z : Hm} (hn : z.m.num ≤ s.n) : s.say.ahead z.m = 0 := by
  unfold Ts.ahead
  show (if s.n ≤ z.m.num then z.m.num - s.n else 0) = 0
  by_cases h : s.n ≤ z.m.num
  · rw [if_pos h]; omega
  · rw [if_neg h]
theorem ahead_pos {s : Dt} {z : Hm} (hn : ¬ z.m.num ≤ s.n) : s.say.ahead z.m = z.m.num - s.n := by
  unfold Ts.ahead
  show (if s.n ≤ z.m.num then z.m.num - s.n else 0) = _
  rw [if_pos (by omega)]
theorem tried_2 {s : Dt} {i : Nat} {z : Hm} (hz : s.hs[i]? = some z) (hk : z.m.kind = 2) (hn : z.m.num ≤ s.n) (h1 : s.say.held.findIdx? s.say.due1 = none) (h : ∀ (j : Nat) (z : Hm), j < i → s.hs[j]? = some z → s.say.due2 z.m = false) :
    s.say.due = some i ∧ (z.m.seq = s.seq → 0 < z.m.seq → (s.say.without i).meet z.m = ((s.say.without i).used z.m, [(s.say.without i).usedA z.m])) ∧ (z.m.seq ≠ s.seq → (s.say.without i).meet z.m = (s.say.without i, [])) := by
  have ha := ahead_0 hn
  refine ⟨?_, fun e hp => ?_, fun e => ?_⟩
  · unfold Ts.due
    rw [h1, idx_someD hz (by unfold Ts.due2; rw [ha, hk]; rfl) h]; rfl
  · unfold Ts.meet
    rw [Ts.ahead_without, if_pos hk, if_pos (show (s.say.without i).asks z.m.seq = true from decide_eq_true ⟨hp, e⟩), ha, if_pos rfl]
  · unfold Ts.meet
    rw [if_pos hk, if_neg (show ¬ (s.say.without i).asks z.m.seq = true from fun hc => e (of_decide_eq_true (p := 0 < z.m.seq ∧ z.m.seq = s.seq) hc).2)]
theorem tried_3 {s : Dt} {i : Nat} {z : Hm} (hz : s.hs[i]? = some z) (hk : z.m.kind = 3) (hn : z.m.num ≤ s.n) (h1 : s.say.held.findIdx? s.say.due1 = none) (h2 : s.say.held.findIdx? s.say.due2 = none) (h : ∀ (j : Nat) (z : Hm), j < i → s.hs[j]? = some z → s.say.due3 z.m = false) :
    s.say.due = some i ∧ (s.say.without i).meet z.m = (s.say.without i, []) := by
  have ha := ahead_0 hn
  refine ⟨?_, ?_⟩
  · unfold Ts.due
    rw [h1, h2, idx_someD hz (by unfold Ts.due3; rw [ha]; rfl) h]; rfl
  · unfold Ts.meet
    rw [Ts.ahead_without, if_neg (by omega), ha, if_pos rfl]
theorem tried_0 {s : Dt} (h1 : s.say.held.findIdx? s.say.due1 = none) (h2 : s.say.held.findIdx? s.say.due2 = none) (h3 : s.say.held.findIdx? s.say.due3 = none) : s.say.due = none := by
  unfold Ts.due
  rw [h1, h2, h3]; rfl
end
section
open Go.RowKit Go.Shelf
attribute [local go_sem ↓ high] loadMsg storeMsg buildMsg storeAct loadAct buildAct
attribute [local go_sem high] run_store_complex eqC

theorem use_d (t B : Nat) (s : Dt) (x : Hm) (w : World) (h : IsD w B t s) (hL : Lists w 0 x) (hf : s.fs.length * 56 ≤ 140737488351232) : Calls Try.prog 35 #[.pointer (some ⟨t, 0, none⟩), .agg x.arr, .int .i64 x.m.num] w fun e w' => UseR w B t s x.m e w' := by
  by_cases he : x.m.err = 70
  · exact use_ag t B s x w h he
  · exact use_no70 t B s x w h hL hf he
theorem msg_box (w1 : World) (X : Array Value) (hs : X.size = 16) (h1 : X.all (·.oneCell') = true) : ∃ V2, (msgSt (.pointer (some ⟨w1.heap.size, 0, none⟩)) (.agg X)).run Try.prog (w1.alloc (.cells #[.int .i64 0, .int .i64 0, .int .i64 0, .int .i64 0, .complex .f64 0 0, .int .i64 0, .int .i64 0, .int .i64 0, .int .i64 0, .string ⟨#[]⟩, .int .i64 0, .string ⟨#[]⟩, .int .i64 0, .string ⟨#[]⟩, .slice none 0 0, .slice none 0 0] 45)) = .ok () V2 ∧ V2.heap[w1.heap.size]? = some (.cells X 45 (0, 0)) ∧ Below w1.heap.size w1 V2 := by
  obtain ⟨W1, hW1⟩ : ∃ W1, w1.alloc (.cells #[.int .i64 0, .int .i64 0, .int .i64 0, .int .i64 0, .complex .f64 0 0, .int .i64 0, .int .i64 0, .int .i64 0, .int .i64 0, .string ⟨#[]⟩, .int .i64 0, .string ⟨#[]⟩, .int .i64 0, .string ⟨#[]⟩, .slice none 0 0, .slice none 0 0] 45) = W1 := ⟨_, rfl⟩
  have b := boxB hW1
  rw [hW1]
  have o2 : Only (· = w1.heap.size) W1 (W1.setRow w1.heap.size X) := onlyR _ _ _
  exact ⟨_, msgSt_of b.1 rfl hs h1 rfl, setRow_heap _ _ _ _ _ _ b.1, o2.below b.2 b.2.size (fun k hk => by rw [hk]; exact Nat.le_refl _)⟩
set_option maxRecDepth 100000 in
set_option maxHeartbeats 16000000 in
theorem tried_d (t B : Nat) (s : Dt) (w : World) (h : IsD w B t s) (hf : (s.fs.length + s.hs.length) * 56 ≤ 140737488351232) : Calls Try.prog 38 #[.pointer (some ⟨t, 0, none⟩)] w fun e w' => TriedR w B t s e w' := by
  have hn8 : s.hs.length ≤ 8 := by have := h.lh; have := h.l8; omega
  obtain ⟨n, hn⟩ : ∃ n, s.hs.length = n := ⟨_, rfl⟩
  obtain ⟨a, cap, hv⟩ := owns_len h.held
  have hheld := h.held
  rw [hv] at hheld
  rw [hn] at hv hn8 hf
  obtain ⟨-, -, -, -, c4, -, c6, c7, -, -⟩ := h.cells
  rw [hv] at c7
  obtain ⟨sn, hsn⟩ : ∃ x, s.n = x := ⟨_, rfl⟩
  obtain ⟨sq, hsq⟩ : ∃ x, s.seq = x := ⟨_, rfl⟩
  rw [hsn] at c4
  rw [hsq] at c6
  have hsn0 : 0 ≤ sn := by rw [← hsn]; exact h.n0
  have hsn1 : sn ≤ 1099511627776 := by rw [← hsn]; exact h.n1
  have hwr : IntKind.i64.wrap (sn + 1) = sn + 1 := IntWalk.i64_in _ (by omega)
  have HI : Hid (IsD w B t s ∧ s.hs.length = n ∧ s.n = sn ∧ s.seq = sq ∧ (s.fs.length + n) * 56 ≤ 140737488351232 ∧ n ≤ 8) := ⟨h, hn, hsn, hsq, hf, hn8⟩
  have HZ : Hid (∀ i, i < n → ∃ z g, s.hs[i]? = some z ∧ a = some ⟨g, 0, none⟩ ∧ w.cell? ⟨g, i * 16, none⟩ = some (.int .i64 z.m.kind) ∧ w.cell? ⟨g, i * 16 + 4, none⟩ = some (.complex .f64 z.m.re z.m.im) ∧ Lists w B z ∧ Good s.e z.m) := fun i hi => by
    obtain ⟨z, hz⟩ : ∃ z, s.hs[i]? = some z := ⟨_, List.getElem?_eq_getElem (by omega)⟩
    obtain ⟨g, e, -, -, -, q⟩ := owns_msg hheld hz
    exact ⟨z, g, hz, e, q 0 _ rfl, q 4 _ rfl, h.each z (List.mem_of_getElem? hz)⟩
  have HPt : Hid (∀ z : Hm, Good s.e z.m → Calls Try.prog 34 #[.complex .f64 z.m.re z.m.im] w fun e w' => e = .returned (.tuple #[.int .i64 (part z.m.re), .int .i64 z.m.num, .bool true]) ∧ w = w') := fun z hz => (parts_any z.m.re z.m.im w).mono fun e w' hq => by
    obtain ⟨rfl, rfl⟩ := hq
    rw [hz.mkk.good]
    exact ⟨rfl, rfl⟩
  have HLet : Hid (∀ (i : Nat) (z : Hm) (X : Array Value), s.hs[i]? = some z → z.arr = X → Calls Try.prog 56 #[.pointer (some ⟨t, 0, none⟩), .int .i64 i] w fun e w' => ∃ v', e = .returned (.agg X) ∧ SD w w' B t s { s with hv := v', hs := s.hs.eraseIdx i } ∧ Lists w' 0 z) := fun i z X hz hX => by
    rw [← hX]; exact let_d t B s i z w h hz
  clear h hn hv hheld hf hsn hsq
  go_enter Try.func38, Try.ntmps38
  go_wp2
  go_loopw [4] (fun s4 wr => ∃ i : Nat, i ≤ n ∧ s4 = .int .i64 i ∧ w = wr ∧ Hid (∀ (j : Nat) (z : Hm), j < i → s.hs[j]? = some z → s.say.due1 z.m = false)) (fun s4 _ => n - (intOf s4).toNat)
  case atStart => exact ⟨0, Nat.zero_le _, rfl, rfl, fun j _ hj => by omega⟩
  case round =>
    obtain ⟨i, hi, rfl, rfl, HJ⟩ := hrel
    by_cases hlt : i < n
    · have hlz : (i : Int) < (n : Int) := by omega
      have hi0 : (0 : Int) ≤ (i : Int) := by omega
      obtain ⟨z, g, hz, rfl, e0, e4, hLz, hG⟩ := HZ.out i hlt
      have HP := HPt.out z hG
      obtain ⟨ze, hze⟩ : ∃ x, part z.m.re = x := ⟨_, rfl⟩
      obtain ⟨nu, hnu⟩ : ∃ x, z.m.num = x := ⟨_, rfl⟩
      rw [hze, hnu] at HP
      have HP2 : Hid (Calls Try.prog 34 #[.complex .f64 z.m.re z.m.im] w fun e w' => e = .returned (.tuple #[.int .i64 ze, .int .i64 nu, .bool true]) ∧ w = w') := HP
      have HG : Hid (s.hs[i]? = some z ∧ Good s.e z.m ∧ z.m.num = nu) := ⟨hz, hG, hnu⟩
      have HN : Hid (s.say.due1 z.m = false → ∀ (j : Nat) (y : Hm), j < i + 1 → s.hs[j]? = some y → s.say.due1 y.m = false) := fun hd j y hj hy => by
        rcases Nat.lt_or_ge j i with hji | hji
        · exact HJ.out j y hji hy
        · obtain rfl : j = i := by omega
          rw [HG.out.1] at hy; cases hy; exact hd
      rcases hG.kind with hk | hk
      · rw [hk] at e0
        have HD : Hid (s.say.due1 z.m = false) := by show _ = _; unfold Ts.due1; rw [decide_eq_false (show ¬ z.m.kind = 3 by omega), Bool.false_and]
        clear hk hG hLz HP hz hze hnu hlt
        go_wp2_with (go_at_call 34; refine HP2.out.mono ?_; rintro e w' ⟨rfl, rfl⟩)
        exact ⟨⟨i + 1, by omega, by simp, by trivial, HN.out HD.out⟩, by simp [intOf]; omega⟩
      · rw [hk] at e0
        by_cases hq : nu = sn + 1
        · have hqb : (nu == sn + 1) = true := beq_iff_eq.2 hq
          obtain ⟨X, hX⟩ : ∃ X, z.arr = X := ⟨_, rfl⟩
          have HLt : Hid (Calls Try.prog 56 #[.pointer (some ⟨t, 0, none⟩), .int .i64 i] w fun e w' => ∃ v', e = .returned (.agg X) ∧ SD w w' B t s { s with hv := v', hs := s.hs.eraseIdx i } ∧ Lists w' 0 z) := HLet.out i z X hz hX
          have HAp : Hid (∀ w1 v', SD w w1 B t s { s with hv := v', hs := s.hs.eraseIdx i } → Lists w1 0 z → Calls Try.prog 37 #[.pointer (some ⟨t, 0, none⟩), .agg X, .int .i64 nu] w1 fun e w' => ApR w1 B t { s with hv := v', hs := s.hs.eraseIdx i } z.m e w') := fun w1 v' h1 h2 => by
            rw [← hX, ← hnu]
            exact apply_d t B _ z w1 h1.is h2 HG.out.2.1.mkk (by have := HI.out.2.2.2.2.1; show (s.fs.length + 1) * 56 ≤ _; omega)
          have HT : Hid (s.say.due = some i ∧ (s.say.without i).meet z.m = ((s.say.without i).apply z.m, [actOf z.m])) := tried_1 hz hk (by rw [hnu, HI.out.2.2.1]; exact hq) (fun j y hj => HJ.out j y hj)
          clear hk hG hLz HP hz hze hnu hlt hq hX
          go_wp2_with (first
            | (go_at_call 37; refine (HAp.out _ _ H1.out.1 H1.out.2).mono ?_; rintro e w2 ⟨v, l, rfl, hA, hl, s', hS, hsay, -, -⟩; have H2 : Hid (Acts w2 w1.heap.size v l ∧ l.map Am.c = [actOf z.m] ∧ SD w1 w2 B t { s with hv := v', hs := s.hs.eraseIdx i } s' ∧ s'.say = ({ s with hv := v', hs := s.hs.eraseIdx i } : Dt).say.apply z.m) := ⟨hA, hl, hS, hsay⟩; clear hA hl hS hsay)
            | (go_at_call 56; refine HLt.out.mono ?_; rintro e w1 ⟨v', rfl, hS1, hL1⟩; have H1 : Hid (SD w w1 B t s { s with hv := v', hs := s.hs.eraseIdx i } ∧ Lists w1 0 z) := ⟨hS1, hL1⟩; clear hS1 hL1)
            | (go_at_call 34; refine HP2.out.mono ?_; rintro e w' ⟨rfl, rfl⟩))
          go_ret2
          refine .inr ⟨i, z, v, l, HG.out.1, HT.out.1, rfl, H2.out.1.down H1.out.1.only.size, by rw [HT.out.2]; exact H2.out.2.1, s', H1.out.1.trans H2.out.2.2.1, ?_⟩
          rw [HT.out.2, H2.out.2.2.2, say_without]
        · have hqb : (nu == sn + 1) = false := beq_eq_false_iff_ne.2 hq
          have HD : Hid (s.say.due1 z.m = false) := by
            show _ = _
            unfold Ts.due1
            by_cases hle : z.m.num ≤ s.n
            · rw [ahead_0 hle, decide_eq_false (show ¬ (0 : Int) = 1 by decide), Bool.and_false]
            · rw [ahead_pos hle, decide_eq_false (show ¬ z.m.num - s.n = 1 by rw [hnu, HI.out.2.2.1]; omega), Bool.and_false]
          clear hk hG hLz HP hz hze hnu hlt hq
          go_wp2_with (go_at_call 34; refine HP2.out.mono ?_; rintro e w' ⟨rfl, rfl⟩)
          exact ⟨⟨i + 1, by omega, by simp, by trivial, HN.out HD.out⟩, by simp [intOf]; omega⟩
    · have hlz : ¬ (i : Int) < (n : Int) := by omega
      obtain rfl : i = n := by omega
      have HD1 : Hid (s.say.held.findIdx? s.say.due1 = none) := idx_noneD fun j z hz => HJ.out j z (by have := (List.getElem?_eq_some_iff.1 hz).1; have := HI.out.2.1; omega) hz
      clear HJ hi
      go_wp2
      clear hlz
      go_loopw [8] (fun s8 wr => ∃ k : Nat, k ≤ i ∧ s8 = .int .i64 k ∧ w = wr ∧ Hid (∀ (j : Nat) (z : Hm), j < k → s.hs[j]? = some z → s.say.due2 z.m = false)) (fun s8 _ => i - (intOf s8).toNat)
      case atStart => exact ⟨0, Nat.zero_le _, rfl, rfl, fun j _ hj => by omega⟩
      case round =>
        obtain ⟨k, hk8, rfl, rfl, HJ⟩ := hrel
        by_cases hlt : k < i
        · have hlz : (k : Int) < (i : Int) := by omega
          have hi0 : (0 : Int) ≤ (k : Int) := by omega
          obtain ⟨z, g, hz, rfl, e0, e4, hLz, hG⟩ := HZ.out k hlt
          have HP := HPt.out z hG
          obtain ⟨ze, hze⟩ : ∃ x, part z.m.re = x := ⟨_, rfl⟩
          obtain ⟨nu, hnu⟩ : ∃ x, z.m.num = x := ⟨_, rfl⟩
          rw [hze, hnu] at HP
          have HP2 : Hid (Calls Try.prog 34 #[.complex .f64 z.m.re z.m.im] w fun e w' => e = .returned (.tuple #[.int .i64 ze, .int .i64 nu, .bool true]) ∧ w = w') := HP
          have HG : Hid (s.hs[k]? = some z ∧ Good s.e z.m ∧ z.m.num = nu) := ⟨hz, hG, hnu⟩
          have HN : Hid (s.say.due2 z.m = false → ∀ (j : Nat) (y : Hm), j < k + 1 → s.hs[j]? = some y → s.say.due2 y.m = false) := fun hd j y hj hy => by
            rcases Nat.lt_or_ge j k with hji | hji
            · exact HJ.out j y hji hy
            · obtain rfl : j = k := by omega
              rw [HG.out.1] at hy; cases hy; exact hd
          rcases hG.kind with hk | hk
          · rw [hk] at e0
            by_cases hq : nu ≤ sn
            · obtain ⟨X, hX⟩ : ∃ X, z.arr = X := ⟨_, rfl⟩
              have HLt : Hid (Calls Try.prog 56 #[.pointer (some ⟨t, 0, none⟩), .int .i64 k] w fun e w' => ∃ v', e = .returned (.agg X) ∧ SD w w' B t s { s with hv := v', hs := s.hs.eraseIdx k } ∧ Lists w' 0 z) := HLet.out k z X hz hX
              have HX : Hid (X.size = 16 ∧ X.all (·.oneCell') = true ∧ z.arr = X) := by rw [← hX]; exact ⟨z.size, z.one, rfl⟩
              have HT := tried_2 hz hk (by rw [hnu, HI.out.2.2.1]; exact hq) HD1.out (fun j y hj => HJ.out j y hj)
              obtain ⟨zq, hzq⟩ : ∃ x, z.m.seq = x := ⟨_, rfl⟩
              have hz0 := hG.seq hk
              rw [hzq, HI.out.2.2.2.1] at HT
              rw [hzq] at hz0
              have HT2 : Hid _ := HT
              have HUs : Hid (∀ W1 v', IsD W1 B t { s with hv := v', hs := s.hs.eraseIdx k } → Lists W1 0 z → Calls Try.prog 35 #[.pointer (some ⟨t, 0, none⟩), .agg X, .int .i64 nu] W1 fun e w' => UseR W1 B t { s with hv := v', hs := s.hs.eraseIdx k } z.m e w') := fun W1 v' h1 h2 => by
                rw [← hX, ← hnu]
                exact use_d t B _ z W1 h1 h2 (by have := HI.out.2.2.2.2.1; show s.fs.length * 56 ≤ _; omega)
              have HQ : Hid (z.m.seq = zq ∧ 0 < zq) := ⟨hzq, hz0⟩
              clear hk hG hLz HP hz hze hnu hlt hX HT hzq hz0
              go_upto_region 13 with (first
                | (go_at_call 56; refine HLt.out.mono ?_; rintro e w1 ⟨v', rfl, hS1, hL1⟩; obtain ⟨V2, ms2, hx2, hb2⟩ := msg_box w1 X HX.out.1 HX.out.2.1; have H1 : Hid (SD w w1 B t s { s with hv := v', hs := s.hs.eraseIdx k } ∧ Lists w1 0 z ∧ V2.heap[w1.heap.size]? = some (.cells X 45 (0, 0)) ∧ Below w1.heap.size w1 V2) := ⟨hS1, hL1, hx2, hb2⟩; clear hS1 hL1 hx2 hb2)
                | (go_at_call 34; refine HP2.out.mono ?_; rintro e w' ⟨rfl, rfl⟩))
              have c3 : V2.cell? ⟨w1.heap.size, 3, none⟩ = some (.int .i64 zq) := by rw [cell_of H1.out.2.2.1 3, ← HX.out.2.2, ← HQ.out.1]; rfl
              have d6 : V2.cell? ⟨t, 6, none⟩ = some (.int .i64 sq) := by rw [(H1.out.1.is.below H1.out.2.2.2).cells.2.2.2.2.2.2.1, ← HI.out.2.2.2.1]
              by_cases hse : zq = sq
              · have hseb : (zq == sq) = true := beq_iff_eq.2 hse
                go_quiet (fail)
                have ml := msgLd_of (w := V2.drewN nq) (g := w1.heap.size) (cs := X) (t := 45) (fr := (0, 0)) H1.out.2.2.1 HX.out.1
                have HB : Hid (Below w1.heap.size w1 (V2.drewN nq)) := below_drewN H1.out.2.2.2 nq
                have HUse : Hid (Calls Try.prog 35 #[.pointer (some ⟨t, 0, none⟩), .agg X, .int .i64 nu] (V2.drewN nq) fun e w' => UseR (V2.drewN nq) B t { s with hv := v', hs := s.hs.eraseIdx k } z.m e w') := HUs.out _ _ (H1.out.1.is.below HB.out) (H1.out.2.1.below HB.out)
                go_wp2_with (go_at_call 35; refine HUse.out.mono ?_; rintro e w2 ⟨v, l, rfl, hA, hl, s', hS, hsay, -, -⟩; have H2 : Hid (Acts w2 (V2.drewN nq).heap.size v l ∧ l.map Am.c = [({ s with hv := v', hs := s.hs.eraseIdx k } : Dt).say.usedA z.m] ∧ SD (V2.drewN nq) w2 B t { s with hv := v', hs := s.hs.eraseIdx k } s' ∧ s'.say = ({ s with hv := v', hs := s.hs.eraseIdx k } : Dt).say.used z.m) := ⟨hA, hl, hS, hsay⟩; clear hA hl hS hsay)
                go_ret2
                have hm := HT2.out.2.1 hse HQ.out.2
                refine .inr ⟨k, z, v, l, HG.out.1, HT2.out.1, rfl, H2.out.1.down (Nat.le_trans H1.out.1.only.size HB.out.size), ?_, s', (H1.out.1.on HB.out).trans H2.out.2.2.1, ?_⟩
                · rw [hm, H2.out.2.1, say_without]
                · rw [hm, H2.out.2.2.2, say_without]
              · have hseb : (zq == sq) = false := beq_eq_false_iff_ne.2 hse
                go_quiet (fail)
                go_wp2
                go_ret2
                have hm := HT2.out.2.2 hse
                refine .inr ⟨k, z, _, [], HG.out.1, HT2.out.1, rfl, Acts.nil _ _, by rw [hm]; rfl, _, H1.out.1.on (below_drewN H1.out.2.2.2 _), ?_⟩
                rw [hm, say_without]
            · have HD : Hid (s.say.due2 z.m = false) := by
                show _ = _
                unfold Ts.due2
                rw [ahead_pos (s := s) (z := z) (by rw [hnu, HI.out.2.2.1]; exact hq), decide_eq_false (show ¬ z.m.num - s.n = 0 by rw [hnu, HI.out.2.2.1]; omega), Bool.and_false]
              clear hk hG hLz HP hz hze hnu hlt
              go_wp2_with (go_at_call 34; refine HP2.out.mono ?_; rintro e w' ⟨rfl, rfl⟩)
              exact ⟨⟨k + 1, by omega, by simp, by trivial, HN.out HD.out⟩, by simp [intOf]; omega⟩
          · rw [hk] at e0
            have HD : Hid (s.say.due2 z.m = false) := by show _ = _; unfold Ts.due2; rw [decide_eq_false (show ¬ z.m.kind = 2 by omega), Bool.false_and]
            clear hk hG hLz HP hz hze hnu hlt
            go_wp2_with (go_at_call 34; refine HP2.out.mono ?_; rintro e w' ⟨rfl, rfl⟩)
            exact ⟨⟨k + 1, by omega, by simp, by trivial, HN.out HD.out⟩, by simp [intOf]; omega⟩
        · have hlz : ¬ (k : Int) < (i : Int) := by omega
          obtain rfl : k = i := by omega
          have HD2 : Hid (s.say.held.findIdx? s.say.due2 = none) := idx_noneD fun j z hz => HJ.out j z (by have := (List.getElem?_eq_some_iff.1 hz).1; have := HI.out.2.1; omega) hz
          have HE2 : Hid (∀ (j : Nat) (z : Hm), j < k → s.hs[j]? = some z → s.say.due2 z.m = false) := HJ.out
          clear HJ hk8
          go_wp2
          clear hlz
          go_loopw [13] (fun s13 wr => ∃ i : Nat, i ≤ k ∧ s13 = .int .i64 i ∧ w = wr ∧ Hid (∀ (j : Nat) (z : Hm), j < i → s.hs[j]? = some z → s.say.due3 z.m = false)) (fun s13 _ => k - (intOf s13).toNat)
          case atStart => exact ⟨0, Nat.zero_le _, rfl, rfl, fun j _ hj => by omega⟩
          case round =>
            obtain ⟨i, hi, rfl, rfl, HJ⟩ := hrel
            by_cases hlt : i < k
            · have hlz : (i : Int) < (k : Int) := by omega
              have hi0 : (0 : Int) ≤ (i : Int) := by omega
              obtain ⟨z, g, hz, rfl, e0, e4, hLz, hG⟩ := HZ.out i hlt
              have HP := HPt.out z hG
              obtain ⟨ze, hze⟩ : ∃ x, part z.m.re = x := ⟨_, rfl⟩
              obtain ⟨nu, hnu⟩ : ∃ x, z.m.num = x := ⟨_, rfl⟩
              rw [hze, hnu] at HP
              have HP2 : Hid (Calls Try.prog 34 #[.complex .f64 z.m.re z.m.im] w fun e w' => e = .returned (.tuple #[.int .i64 ze, .int .i64 nu, .bool true]) ∧ w = w') := HP
              have HG : Hid (s.hs[i]? = some z ∧ Good s.e z.m ∧ z.m.num = nu) := ⟨hz, hG, hnu⟩
              have HN : Hid (s.say.due3 z.m = false → ∀ (j : Nat) (y : Hm), j < i + 1 → s.hs[j]? = some y → s.say.due3 y.m = false) := fun hd j y hj hy => by
                rcases Nat.lt_or_ge j i with hji | hji
                · exact HJ.out j y hji hy
                · obtain rfl : j = i := by omega
                  rw [HG.out.1] at hy; cases hy; exact hd
              rcases hG.kind with hk | hk
              · rw [hk] at e0
                have HD : Hid (s.say.due3 z.m = false) := by
                  have h2 := HE2.out i z hlt hz
                  show _ = _
                  unfold Ts.due2 at h2
                  rw [decide_eq_true hk, Bool.true_and] at h2
                  exact h2
                clear hk hG hLz HP hz hze hnu hlt
                go_wp2_with (go_at_call 34; refine HP2.out.mono ?_; rintro e w' ⟨rfl, rfl⟩)
                exact ⟨⟨i + 1, by omega, by simp, by trivial, HN.out HD.out⟩, by simp [intOf]; omega⟩
              · rw [hk] at e0
                by_cases hq : nu ≤ sn
                · obtain ⟨X, hX⟩ : ∃ X, z.arr = X := ⟨_, rfl⟩
                  have HLt : Hid (Calls Try.prog 56 #[.pointer (some ⟨t, 0, none⟩), .int .i64 i] w fun e w' => ∃ v', e = .returned (.agg X) ∧ SD w w' B t s { s with hv := v', hs := s.hs.eraseIdx i } ∧ Lists w' 0 z) := HLet.out i z X hz hX
                  have HT : Hid (s.say.due = some i ∧ (s.say.without i).meet z.m = (s.say.without i, [])) := tried_3 hz hk (by rw [hnu, HI.out.2.2.1]; exact hq) HD1.out HD2.out (fun j y hj => HJ.out j y hj)
                  clear hk hG hLz HP hz hze hnu hlt hX
                  go_wp2_with (first
                    | (go_at_call 56; refine HLt.out.mono ?_; rintro e w1 ⟨v', rfl, hS1, hL1⟩; have H1 : Hid (SD w w1 B t s { s with hv := v', hs := s.hs.eraseIdx i }) := hS1; clear hS1 hL1)
                    | (go_at_call 34; refine HP2.out.mono ?_; rintro e w' ⟨rfl, rfl⟩))
                  go_ret2
                  refine .inr ⟨i, z, _, [], HG.out.1, HT.out.1, rfl, Acts.nil _ _, by rw [HT.out.2]; rfl, _, H1.out, ?_⟩
                  rw [HT.out.2, say_without]
                · have HD : Hid (s.say.due3 z.m = false) := by
                    show _ = _
                    unfold Ts.due3
                    rw [ahead_pos (s := s) (z := z) (by rw [hnu, HI.out.2.2.1]; exact hq), decide_eq_false (show ¬ z.m.num - s.n = 0 by rw [hnu, HI.out.2.2.1]; omega)]
                  clear hk hG hLz HP hz hze hnu hlt
                  go_wp2_with (go_at_call 34; refine HP2.out.mono ?_; rintro e w' ⟨rfl, rfl⟩)
                  exact ⟨⟨i + 1, by omega, by simp, by trivial, HN.out HD.out⟩, by simp [intOf]; omega⟩
            · have hlz : ¬ (i : Int) < (k : Int) := by omega
              obtain rfl : i = k := by omega
              have HD3 : Hid (s.say.held.findIdx? s.say.due3 = none) := idx_noneD fun j z hz => HJ.out j z (by have := (List.getElem?_eq_some_iff.1 hz).1; have := HI.out.2.1; omega) hz
              go_wp2
              go_ret2
              exact .inl ⟨tried_0 HD1.out HD2.out HD3.out, rfl, Below.refl _ _⟩
end
end Go.Proofs.Ytpmcecenhgppbaa
