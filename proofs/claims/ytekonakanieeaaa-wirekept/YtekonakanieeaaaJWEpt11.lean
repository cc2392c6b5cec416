/- The reader in memory: text, the walk. -/
import Derived.Test.YtekonakanieeaaaJWEpt10
namespace Go.Proofs.Ytekonakanieeaaa
section
open Go.RowKit Go.Lib

theorem cvt_cells {W : World} {ad : Option Addr} {l : List Int} (h : l = [] ∨ ∃ g off, ad = some ⟨g, off, none⟩ ∧ g < W.heap.size ∧ ∀ i x, l[i]? = some x → W.cell? ⟨g, off + i, none⟩ = some (.int .u8 x)) (a n : Nat) : ((l.drop a).take n) = [] ∨ ∃ g off, ad.map (·.add (a * 1)) = some ⟨g, off, none⟩ ∧ ∀ i y, ((l.drop a).take n)[i]? = some y → W.cell? ⟨g, off + i, none⟩ = some (.int .u8 y) := by
  rcases h with rfl | ⟨g, off, rfl, _, hc⟩
  · exact .inl (by simp)
  · refine .inr ⟨g, off + a * 1, by simp only [Option.map_some, add_plain'], fun i y hy => ?_⟩
    rw [List.getElem?_take] at hy
    split at hy
    · rw [List.getElem?_drop] at hy
      have := hc (a + i) y hy
      rw [Nat.mul_one, Nat.add_assoc]; exact this
    · cases hy
set_option maxRecDepth 20000 in
set_option maxHeartbeats 8000000 in
theorem text_r {w : World} {r : Nat} {v : Value} {l : List Int} {s : St} (h : Rg w r v l s) : Calls Try.prog 80 #[.pointer (some ⟨r, 0, none⟩)] w fun e w' => RdR w r v l (textP s).2 (.string (textP s).1) e w' := by
  have hlft := h.lft
  have hin := numP_in hlft
  have HNm : Hid (Calls Try.prog 44 #[.pointer (some ⟨r, 0, none⟩)] w fun e w' => RdR w r v l (numP s).2 (.int .i64 (numP s).1) e w') := number_r h
  have HT : Hid (∀ w1, Rg w1 r v l (numP s).2 → ∃ a st, Txt w1 r v l (numP s).2 a (numP s).1.toNat st (textP s)) := fun w1 h1 => txt_of h1 hlft
  obtain ⟨T, hT⟩ : ∃ T, textP s = T := ⟨_, rfl⟩
  obtain ⟨s1, hs1⟩ : ∃ T, (numP s).2 = T := ⟨_, rfl⟩
  obtain ⟨n, hn⟩ : ∃ n : Nat, (numP s).1 = (n : Int) := ⟨(numP s).1.toNat, by omega⟩
  rw [hn] at HNm HT hin
  rw [hs1] at HNm HT
  rw [hT] at HT ⊢
  simp only [Int.toNat_natCast] at HT
  obtain ⟨ad, cap, rfl, hcap, hcells⟩ : RC w v l := by obtain ⟨a, st, h⟩ := h; exact h.rb
  have hlim : l.length ≤ 140737488355328 := by obtain ⟨a, st, h⟩ := h; exact h.lim
  obtain ⟨len, hlen⟩ : ∃ x, l.length = x := ⟨_, rfl⟩
  rw [hlen] at hcap hlim HNm HT ⊢
  have HL : Hid (l.length = len) := hlen
  clear h hlft hT hs1 hn hlen hcells
  go_enter Try.func80, Try.ntmps80
  go_wp2
  refine wp_scope_once 0 (by rfl) ?_
  go_upto_region 2 with (go_at_call 44; refine HNm.out.mono ?_; rintro e w1 ⟨rfl, h1⟩)
  obtain ⟨a, st, ht⟩ := HT.out w1 h1.out.1
  have HX : Hid (Txt w1 r (.slice ad len cap) l s1 a n st T ∧ Only (· = r) w w1) := ⟨ht, h1.out.2⟩
  obtain ⟨c0, c1, c2, cf⟩ := ht.is.cells
  have hale : a ≤ len := by
    have hl := HL.out
    rcases ht.is.state with ⟨_, _, e⟩ | ⟨_, _, e⟩ <;> omega
  have hsub : IntKind.i64.wrap ((len : Int) - (a : Int)) = (len : Int) - (a : Int) := IntWalk.i64_in _ (by omega)
  clear ht h1 HNm HT
  by_cases hok : n ≤ 96 ∧ a + n ≤ len
  · have b1 : decide ((96 : Int) < (n : Int)) = false := decide_eq_false (by omega)
    have b1' : ¬ (96 : Int) < (n : Int) := by omega
    have b2 : ¬ (len : Int) - (a : Int) < (n : Int) := by omega
    have hadd : IntKind.i64.wrap ((a : Int) + (n : Int)) = (a : Int) + (n : Int) := IntWalk.i64_in _ (by omega)
    go_upto_region 5 with fail
    obtain ⟨W2, hW2⟩ : ∃ W2, w1.setCell ⟨r, 1, none⟩ (.int .i64 ((a : Int) + (n : Int))) = W2 := ⟨_, rfl⟩
    have hO : Only (· = r) w1 W2 := by rw [← hW2]; exact only1 w1 r 1 _
    have hh : W2.heap[r]? = some (.cells #[.slice ad len cap, .int .i64 ((a : Int) + (n : Int)), .bool st] 65 (0, 0)) := by rw [← hW2]; exact (heap_set HX.out.1.is.head 1 _).trans rfl
    have e0 := cell_of hh 0
    have e1 := cell_of hh 1
    simp at e0 e1
    rw [hW2]
    have hrb : RC W2 (.slice ad len cap) l := HX.out.1.is.rb.only hO HX.out.1.is.off
    have HF : Hid (Only (· = r) w W2 ∧ Rg W2 r (.slice ad len cap) l T.2 ∧ T.1 = strOfNums ((l.drop a).take n)) := by
      have hy := HX.out.1.yes hok.1 (by rw [HL.out]; exact hok.2)
      exact ⟨HX.out.2.trans hO, hy.2 W2 HX.out.1.is (by rw [hh]; simp) hO, hy.1⟩
    have hlenT : ((l.drop a).take n).length = n := by rw [List.length_take, List.length_drop, HL.out]; omega
    have f0 : (0 : Int) ≤ (a : Int) := by omega
    have f1 : (a : Int) ≤ (a : Int) + (n : Int) := by omega
    have f2 : (a : Int) + (n : Int) ≤ (cap : Int) := by omega
    have f3 : ((a : Int) + (n : Int)).toNat = a + n := by omega
    have f4 : a + n - a = n := by omega
    clear hW2 hO hh c0 c1 c2 cf
    have f5 : (a : Int).toNat = a := by omega
    have hcv : ∀ q, (convert 22 9 (.slice (if cap = a then ad else Option.map (fun x => x.add a) ad) n (cap - a))).run Try.prog (W2.drewN q) = .ok (.string T.1) (W2.drewN q) := by
      intro q
      have hcells : l = [] ∨ ∃ g off, ad = some ⟨g, off, none⟩ ∧ g < (W2.drewN q).heap.size ∧ ∀ i x, l[i]? = some x → (W2.drewN q).cell? ⟨g, off + i, none⟩ = some (.int .u8 x) := by
        obtain ⟨a', cap', e, _, hc⟩ := hrb
        cases e
        exact hc
      split
      · rename_i hca
        have h0 : (l.drop a).take n = [] := List.length_eq_zero_iff.1 (by rw [hlenT]; omega)
        have := cvt_run (W := W2.drewN q) (x := ad) (c := cap - a) (m := (l.drop a).take n) (.inl h0)
        rw [hlenT, ← HF.out.2.2] at this
        exact this
      · have := cvt_run (W := W2.drewN q) (c := cap - a) (cvt_cells (W := W2.drewN q) (l := l) (ad := ad) hcells a n)
        rw [hlenT, ← HF.out.2.2, Nat.mul_one] at this
        exact this
    obtain ⟨T1, hT1⟩ : ∃ X, T.1 = X := ⟨_, rfl⟩
    rw [hT1] at hcv
    have HT1 : Hid (T.1 = T1) := hT1
    clear hT1 hlenT hrb
    go_quiet (fail)
    obtain ⟨W3, hW3⟩ : ∃ W3, W2.drewN nq = W3 := ⟨_, rfl⟩
    have hb3 : Below W2.heap.size W2 W3 := by rw [← hW3]; exact below_drewN (Below.refl _ _) _
    rw [hW3]
    clear hW3 hcv
    go_wp2
    all_goals
      refine fwd_ret ?_
      go_ret
      exact ⟨by rw [HT1.out]; rfl, HF.out.2.1.below hb3, HF.out.1.trans (Only.of hb3)⟩
  · have HNo : Hid (T = (⟨#[]⟩, none)) := HX.out.1.no (by rw [HL.out]; exact hok)
    have HS : Hid (Calls Try.prog 78 #[.pointer (some ⟨r, 0, none⟩)] w1 fun e w' => e = .returned (.tuple #[]) ∧ Hid (Red w1 w' r (.slice ad len cap) l none)) := stop_r ⟨a, st, HX.out.1.is⟩
    by_cases h96 : 96 < n
    · have b1 : decide ((96 : Int) < (n : Int)) = true := decide_eq_true (by omega)
      have b1' : (96 : Int) < (n : Int) := by omega
      clear hok
      go_wp2
      go_step3
      refine fwd_goto (l := 0) ?_
      go_wp2_with (go_at_call 78; refine HS.out.mono ?_; rintro e w2 ⟨rfl, h2'⟩)
      rw [Exit.noGoto_ret]
      go_ret
      rw [HNo.out]
      exact ⟨rfl, h2'.out.1, HX.out.2.trans h2'.out.2⟩
    · have b1 : decide ((96 : Int) < (n : Int)) = false := decide_eq_false (by omega)
      have b1' : ¬ (96 : Int) < (n : Int) := by omega
      have b2 : (len : Int) - (a : Int) < (n : Int) := by omega
      clear hok
      go_wp2
      go_step3
      refine fwd_goto (l := 0) ?_
      go_wp2_with (go_at_call 78; refine HS.out.mono ?_; rintro e w2 ⟨rfl, h2'⟩)
      rw [Exit.noGoto_ret]
      go_ret
      rw [HNo.out]
      exact ⟨rfl, h2'.out.1, HX.out.2.trans h2'.out.2⟩
end
section
open Go.RowKit Go.Lib
variable {Bq : Nat}

def strF (s : St) : ByteArray × St := match numF 6 1 0 s with
  | (_, none) => (⟨#[]⟩, none)
  | (n, some r) => if (r.length : Int) < n then (⟨#[]⟩, none) else (strOfNums (r.take n.toNat), some (r.drop n.toNat))
theorem numF_nonneg : ∀ (k : Nat) (u v : Int) (s : St), 0 ≤ u → 0 ≤ v → 0 ≤ (numF k u v s).1
  | 0, _, _, _, _, _ => by unfold numF; exact Int.le_refl _
  | k + 1, u, v, s, hu, hv => by
    unfold numF
    split
    · exact Int.le_refl _
    · rename_i x l _
      have h1 : 0 ≤ x % 128 * u := Int.mul_nonneg (by omega) hu
      split
      · show 0 ≤ v + x % 128 * u
        omega
      · exact numF_nonneg k _ _ _ (by omega) (by omega)
theorem numF_at {m k : Nat} (hm : m = k + 1) (u v : Int) (n : Nat) (r : List Int) (h : n < 128 ^ m) : numF m u v (some (numB n ++ r)) = (v + n * u, some r) := by
  subst hm
  exact numF_back k u v n r h
theorem num6_back (n : Nat) (r : List Int) (h : n ≤ 1099511627776) : numF 6 1 0 (some (numB n ++ r)) = ((n : Int), some r) := by
  obtain ⟨m, hm⟩ : ∃ m, m = 6 := ⟨6, rfl⟩
  have h2 : n < 128 ^ m := by rw [hm]; exact Nat.lt_of_le_of_lt h (by decide)
  have := numF_at (m := m) (k := 5) (by rw [hm]) 1 0 n r h2
  rw [Int.mul_one, Int.zero_add] at this
  rw [← hm]
  exact this
theorem strF_back (t : ByteArray) (r : List Int) (h : t.size ≤ 96) : strF (some (textB t ++ r)) = (t, some r) := by
  have hb2 : numF 6 1 0 (some (textB t ++ r)) = ((t.size : Int), some (bs t ++ r)) := by
    unfold textB
    rw [List.append_assoc]
    exact num6_back t.size (bs t ++ r) (by omega)
  unfold strF
  rw [hb2]
  have hl := bs_len t
  show (if ((bs t ++ r).length : Int) < (t.size : Int) then _ else _) = _
  rw [if_neg (by rw [List.length_append, hl]; omega), Int.toNat_natCast, ← hl, List.take_left, List.drop_left, str_bs]
theorem RI.cvt {w : World} {a : Option Addr} {c n : Nat} {r : List Int} (h : RI Bq w (.slice a r.length c) true (some r)) (hn : n ≤ r.length) : (convert 22 9 (.slice a n c)).run Try.prog w = .ok (.string (strOfNums (r.take n))) w := by
  obtain ⟨l, ⟨a', c', e, _, hc⟩, _, _, ho⟩ := h
  rcases ho with ⟨_, e'⟩ | ⟨e', _⟩
  · cases e'
    obtain ⟨e1, _, e3⟩ := Value.slice.inj e
    subst e1 e3
    have := cvt_run (W := w) (x := a) (c := c) (m := r.take n) (by
      rcases hc with hc | ⟨g, off, e, _, hc⟩
      · exact .inl (by rw [hc]; simp)
      · refine .inr ⟨g, off, e, fun i y hy => hc i y ?_⟩
        rw [List.getElem?_take] at hy
        split at hy
        · exact hy
        · cases hy)
    rw [List.length_take, Nat.min_eq_left hn] at this
    exact this
  · cases e'
theorem RI.tail {w : World} {a : Option Addr} {c n : Nat} {r : List Int} (h : RI Bq w (.slice a r.length c) true (some r)) (hn : n ≤ r.length) (x : Option Addr) (hx : c = n ∨ x = a.map (·.add n)) : RI Bq w (.slice x (r.length - n) (c - n)) true (some (r.drop n)) := by
  obtain ⟨l, ⟨a', c', e, hcap, hc⟩, hby, hlen, ho⟩ := h
  rcases ho with ⟨_, e'⟩ | ⟨e', _⟩
  · cases e'
    obtain ⟨e1, _, e3⟩ := Value.slice.inj e
    subst e1 e3
    refine ⟨r.drop n, ⟨x, c - n, by rw [List.length_drop], by rw [List.length_drop]; omega, ?_⟩, ⟨fun y hy => hby.1 y (List.mem_of_mem_drop hy), ?_⟩, by rw [List.length_drop]; omega, .inl ⟨rfl, rfl⟩⟩
    rotate_left
    · rcases hx with hx | hx
      · exact .inl (List.drop_eq_nil_of_le (by omega))
      · rcases hby.2 with h | ⟨g, off, n', c', e', hg'⟩
        · exact .inl (by rw [h]; simp)
        · cases e'
          exact .inr ⟨g, off + n, r.length - n, c - n, by rw [hx]; simp only [Option.map_some, add_plain'], hg'⟩
    rcases hx with hx | hx
    · exact .inl (List.drop_eq_nil_of_le (by omega))
    · rcases hc with hc | ⟨g, off, e, hg, hc⟩
      · exact .inl (by rw [hc]; simp)
      · refine .inr ⟨g, off + n, by rw [hx, e]; simp only [Option.map_some, add_plain'], hg, fun i y hy => ?_⟩
        rw [List.getElem?_drop] at hy
        rw [Nat.add_assoc]
        exact hc _ _ hy
  · cases e'

set_option maxRecDepth 20000 in
set_option maxHeartbeats 4000000 in
theorem str_d {w : World} {b0 : Value} {ok0 : Bool} {s0 : St} (h : RI Bq w b0 ok0 s0) : Calls Try.prog 61 #[.agg #[b0, .bool ok0]] w fun e w' => RdI Bq (.string (strF s0).1) (strF s0).2 w w' e := by
  obtain ⟨a0, n0, c0, rfl⟩ := h.form
  obtain ⟨W, hW⟩ : ∃ W, w.alloc (.cells #[.slice a0 n0 c0, .bool ok0] 68) = W := ⟨_, rfl⟩
  obtain ⟨W2, hW2⟩ : ∃ W2, W.alloc (.cells #[.slice none 0 0, .bool false] 68) = W2 := ⟨_, rfl⟩
  obtain ⟨n1, n2, hbl, hle⟩ := boxesI hW hW2
  have hlW : w.heap.size < W.heap.size := by rw [← hW]; simp
  have x0 := cell_of n1 0
  have x1 := cell_of n1 1
  simp at x0 x1
  have hnn := numF_nonneg 6 1 0 s0 (by omega) (by omega)
  have HNu : Hid (Calls Try.prog 29 #[.agg #[.slice a0 n0 c0, .bool ok0]] W2 fun e w' => RdI Bq (.int .i64 (numF 6 1 0 s0).1) (numF 6 1 0 s0).2 W2 w' e) := num_d (h.below hbl)
  obtain ⟨F, hF⟩ : ∃ F, numF 6 1 0 s0 = F := ⟨_, rfl⟩
  obtain ⟨T, hT⟩ : ∃ T, strF s0 = T := ⟨_, rfl⟩
  have HT : Hid (strF s0 = T ∧ numF 6 1 0 s0 = F) := ⟨hT, hF⟩
  rw [hT]
  rw [hF] at HNu hnn
  have HB : Hid (W2.heap[w.heap.size]? = some (.cells #[.slice a0 n0 c0, .bool ok0] 68 (0, 0)) ∧ W2.heap[W.heap.size]? = some (.cells #[.slice none 0 0, .bool false] 68 (0, 0)) ∧ Below w.heap.size w W2 ∧ w.heap.size < W.heap.size) := ⟨n1, n2, hbl, hlW⟩
  clear n1 n2 hbl hle hlW h hF hT
  obtain ⟨N, S⟩ := F
  cases S with
  | none =>
    have HNu2 : Hid (Calls Try.prog 29 #[.agg #[.slice a0 n0 c0, .bool ok0]] W2 fun e w' => ∃ a1 m1 c1, e = .returned (.tuple #[.int .i64 N, .agg #[.slice a1 m1 c1, .bool false]]) ∧ Below W2.heap.size W2 w') := HNu.out.mono fun e w' ⟨b1, ok1, he, hr, hb⟩ => by
      obtain ⟨a1, m1, c1, rfl⟩ := hr.out.form
      obtain rfl := hr.out.ok_none
      exact ⟨a1, m1, c1, he, hb⟩
    go_enter Try.func61, Try.ntmps61
    go_upto_region 1 with fail
    clear hW hW2
    go_wp2_with (go_at_call 29; refine HNu2.out.mono ?_; rintro e w1 ⟨a1, m1, c1, rfl, hb1⟩; obtain ⟨Z, hZ⟩ : ∃ Z, (w1.setCell ⟨w.heap.size, 0, none⟩ (.slice a1 m1 c1)).setCell ⟨w.heap.size, 1, none⟩ (.bool false) = Z := ⟨_, rfl⟩; have hk0 := hkeep HB.out.1 hb1; have k0 : w1.cell? ⟨w.heap.size, 0, none⟩ = some (.slice a0 n0 c0) := (by rw [cell_of hk0]; rfl); have k1 : w1.cell? ⟨w.heap.size, 1, none⟩ = some (.bool ok0) := (by rw [cell_of hk0]; rfl); have kf := free_of hk0; have ZB : Hid (Z.heap[w.heap.size]? = some (.cells #[.slice a1 m1 c1, .bool false] 68 (0, 0)) ∧ Z.heap[W.heap.size]? = some (.cells #[.slice none 0 0, .bool false] 68 (0, 0)) ∧ Below w.heap.size w Z) := ⟨(by rw [← hZ]; exact set2 hk0), (by rw [← hZ]; exact (two_ne (Nat.ne_of_gt HB.out.2.2.2)).trans (hkeep HB.out.2.1 hb1)), (by rw [← hZ]; exact below2 _ _ (chainB HB.out.2.2.1 hb1) (Nat.le_refl _))⟩; have z0 : Z.cell? ⟨w.heap.size, 0, none⟩ = some (.slice a1 m1 c1) := (by rw [cell_of ZB.out.1]; rfl); have z1 : Z.cell? ⟨w.heap.size, 1, none⟩ = some (.bool false) := (by rw [cell_of ZB.out.1]; rfl); have v0 : Z.cell? ⟨W.heap.size, 0, none⟩ = some (.slice none 0 0) := (by rw [cell_of ZB.out.2.1]; rfl); have v1 : Z.cell? ⟨W.heap.size, 1, none⟩ = some (.bool false) := (by rw [cell_of ZB.out.2.1]; rfl); have vf := free_of ZB.out.2.1; clear hk0 x0 x1)
    have hT0 : T = (⟨#[]⟩, none) := by rw [← HT.out.1]; unfold strF; rw [HT.out.2]
    refine bodyPost_ret (ret_in rfl _ _ W.heap.size rfl (set2 ZB.out.2.1) rfl) rfl ?_
    rw [hT0]
    exact ⟨_, _, rfl, RI.no _, below2 _ _ ZB.out.2.2 (Nat.le_of_lt HB.out.2.2.2)⟩
  | some r =>
    have HNu2 : Hid (Calls Try.prog 29 #[.agg #[.slice a0 n0 c0, .bool ok0]] W2 fun e w' => ∃ a1 c1, e = .returned (.tuple #[.int .i64 N, .agg #[.slice a1 r.length c1, .bool true]]) ∧ r.length ≤ c1 ∧ Hid (RI Bq w' (.slice a1 r.length c1) true (some r)) ∧ Below W2.heap.size W2 w') := HNu.out.mono fun e w' ⟨b1, ok1, he, hr, hb⟩ => by
      obtain rfl := hr.out.ok_some
      have hr' := hr.out
      obtain ⟨l, ⟨a1, c1, rfl, hcap, hc⟩, h2, h3, ho⟩ := hr.out
      rcases ho with ⟨_, e⟩ | ⟨e, _⟩
      · cases e; exact ⟨a1, c1, he, hcap, hr', hb⟩
      · cases e
    by_cases hlt : (r.length : Int) < N
    · have hld : decide ((r.length : Int) < N) = true := decide_eq_true hlt
      go_enter Try.func61, Try.ntmps61
      go_upto_region 1 with fail
      clear hW hW2
      go_wp2_with (go_at_call 29; refine HNu2.out.mono ?_; rintro e w1 ⟨a1, c1, rfl, hcc, hr1, hb1⟩; obtain ⟨Z, hZ⟩ : ∃ Z, (w1.setCell ⟨w.heap.size, 0, none⟩ (.slice a1 r.length c1)).setCell ⟨w.heap.size, 1, none⟩ (.bool true) = Z := ⟨_, rfl⟩; have hk0 := hkeep HB.out.1 hb1; have k0 : w1.cell? ⟨w.heap.size, 0, none⟩ = some (.slice a0 n0 c0) := (by rw [cell_of hk0]; rfl); have k1 : w1.cell? ⟨w.heap.size, 1, none⟩ = some (.bool ok0) := (by rw [cell_of hk0]; rfl); have kf := free_of hk0; have ZB : Hid (Z.heap[w.heap.size]? = some (.cells #[.slice a1 r.length c1, .bool true] 68 (0, 0)) ∧ Z.heap[W.heap.size]? = some (.cells #[.slice none 0 0, .bool false] 68 (0, 0)) ∧ Below w.heap.size w Z ∧ RI Bq Z (.slice a1 r.length c1) true (some r)) := ⟨(by rw [← hZ]; exact set2 hk0), (by rw [← hZ]; exact (two_ne (Nat.ne_of_gt HB.out.2.2.2)).trans (hkeep HB.out.2.1 hb1)), (by rw [← hZ]; exact below2 _ _ (chainB HB.out.2.2.1 hb1) (Nat.le_refl _)), (by rw [← hZ]; exact hr1.out.far2 hk0 _ _)⟩; have z0 : Z.cell? ⟨w.heap.size, 0, none⟩ = some (.slice a1 r.length c1) := (by rw [cell_of ZB.out.1]; rfl); have z1 : Z.cell? ⟨w.heap.size, 1, none⟩ = some (.bool true) := (by rw [cell_of ZB.out.1]; rfl); have v0 : Z.cell? ⟨W.heap.size, 0, none⟩ = some (.slice none 0 0) := (by rw [cell_of ZB.out.2.1]; rfl); have v1 : Z.cell? ⟨W.heap.size, 1, none⟩ = some (.bool false) := (by rw [cell_of ZB.out.2.1]; rfl); have vf := free_of ZB.out.2.1; clear hk0 x0 x1 hr1)
      have hT0 : T = (⟨#[]⟩, none) := by rw [← HT.out.1]; unfold strF; rw [HT.out.2]; simp only []; rw [if_pos hlt]
      refine bodyPost_ret (ret_in rfl _ _ W.heap.size rfl (set2 ZB.out.2.1) rfl) rfl ?_
      rw [hT0]
      exact ⟨_, _, rfl, RI.no _, below2 _ _ ZB.out.2.2.1 (Nat.le_of_lt HB.out.2.2.2)⟩
    · obtain ⟨n, rfl⟩ := Int.eq_ofNat_of_zero_le (show 0 ≤ N from hnn)
      have hn : n ≤ r.length := by omega
      have hld : decide ((r.length : Int) < (n : Int)) = false := decide_eq_false hlt
      go_enter Try.func61, Try.ntmps61
      go_upto_region 1 with fail
      clear hW hW2
      go_wp2_with (go_at_call 29; refine HNu2.out.mono ?_; rintro e w1 ⟨a1, c1, rfl, hcc, hr1, hb1⟩; obtain ⟨Z, hZ⟩ : ∃ Z, (w1.setCell ⟨w.heap.size, 0, none⟩ (.slice a1 r.length c1)).setCell ⟨w.heap.size, 1, none⟩ (.bool true) = Z := ⟨_, rfl⟩; have hk0 := hkeep HB.out.1 hb1; have k0 : w1.cell? ⟨w.heap.size, 0, none⟩ = some (.slice a0 n0 c0) := (by rw [cell_of hk0]; rfl); have k1 : w1.cell? ⟨w.heap.size, 1, none⟩ = some (.bool ok0) := (by rw [cell_of hk0]; rfl); have kf := free_of hk0; have ZB : Hid (Z.heap[w.heap.size]? = some (.cells #[.slice a1 r.length c1, .bool true] 68 (0, 0)) ∧ Z.heap[W.heap.size]? = some (.cells #[.slice none 0 0, .bool false] 68 (0, 0)) ∧ Below w.heap.size w Z ∧ RI Bq Z (.slice a1 r.length c1) true (some r)) := ⟨(by rw [← hZ]; exact set2 hk0), (by rw [← hZ]; exact (two_ne (Nat.ne_of_gt HB.out.2.2.2)).trans (hkeep HB.out.2.1 hb1)), (by rw [← hZ]; exact below2 _ _ (chainB HB.out.2.2.1 hb1) (Nat.le_refl _)), (by rw [← hZ]; exact hr1.out.far2 hk0 _ _)⟩; have z0 : Z.cell? ⟨w.heap.size, 0, none⟩ = some (.slice a1 r.length c1) := (by rw [cell_of ZB.out.1]; rfl); have z1 : Z.cell? ⟨w.heap.size, 1, none⟩ = some (.bool true) := (by rw [cell_of ZB.out.1]; rfl); have v0 : Z.cell? ⟨W.heap.size, 0, none⟩ = some (.slice none 0 0) := (by rw [cell_of ZB.out.2.1]; rfl); have v1 : Z.cell? ⟨W.heap.size, 1, none⟩ = some (.bool false) := (by rw [cell_of ZB.out.2.1]; rfl); have vf := free_of ZB.out.2.1; clear hk0 x0 x1 hr1)
      have hq1 : (0 : Int) ≤ (n : Int) := by omega
      have hq2 : (n : Int) ≤ (c1 : Int) := by omega
      have hq3 : n ≤ c1 := by omega
      have hq4 : (n : Int) ≤ (r.length : Int) := by omega
      have hYne : w.heap.size ≠ W.heap.size := Nat.ne_of_lt HB.out.2.2.2
      have hZd : Z.drew.cell? ⟨w.heap.size, 0, none⟩ = some (.slice a1 r.length c1) := z0
      have s0 : Z.drew.cell? ⟨w.heap.size, 0, none⟩ = some (.slice a1 r.length c1) ∧ (convert 22 9 (.slice a1 n c1)).run Try.prog Z.drew = .ok (.string (strOfNums (r.take n))) Z.drew := ⟨z0, (ZB.out.2.2.2.below (Below.refl _ _).drew).cvt hn⟩
      have s1 : ∀ p p', ((Z.drew.setCell ⟨W.heap.size, 0, none⟩ p).setCell ⟨W.heap.size, 1, none⟩ p').cell? ⟨w.heap.size, 0, none⟩ = some (.slice a1 r.length c1) ∧ (convert 22 9 (.slice a1 n c1)).run Try.prog ((Z.drew.setCell ⟨W.heap.size, 0, none⟩ p).setCell ⟨W.heap.size, 1, none⟩ p') = .ok (.string (strOfNums (r.take n))) ((Z.drew.setCell ⟨W.heap.size, 0, none⟩ p).setCell ⟨W.heap.size, 1, none⟩ p') := fun p p' => ⟨(cell2_ne hYne).trans z0, ((ZB.out.2.2.2.below (Below.refl _ _).drew).far2 (g := W.heap.size) ZB.out.2.1 p p').cvt hn⟩
      have hT1 : T = (strOfNums (r.take n), some (r.drop n)) := by rw [← HT.out.1]; unfold strF; rw [HT.out.2]; simp only []; rw [if_neg (by omega)]; rfl
      have HT1 : Hid (T = (strOfNums (r.take n), some (r.drop n))) := hT1
      have vg0 := vf 0
      have vg1 := vf 1
      obtain ⟨X1, hX1⟩ : ∃ x, strOfNums (r.take n) = x := ⟨_, rfl⟩
      rw [hX1] at s0 s1 HT1
      clear hZ hT1 hX1 hZd k0 k1 kf
      by_cases hcn : c1 = n
      · subst hcn
        go_region_held3 (fun w' => w'.cell? ⟨w.heap.size, 0, none⟩ = some (.slice a1 r.length c1) ∧ (convert 22 9 (.slice a1 c1 c1)).run Try.prog w' = .ok (.string X1) w') (first | exact s0 | exact s1 _ _) (fail)
        go_wp2
        refine bodyPost_ret (ret_in rfl _ _ W.heap.size rfl (by exact set2 ZB.out.2.1) rfl) rfl ?_
        rw [HT1.out]
        have ht := ZB.out.2.2.2.tail hn a1 (.inl rfl)
        rw [show r.length - c1 = 0 by omega, Nat.sub_self] at ht
        exact ⟨_, _, rfl, (ht.far2 ZB.out.2.1 _ _).below (Below.refl _ _).drew, (below2 _ _ ZB.out.2.2.1 (Nat.le_of_lt HB.out.2.2.2)).drew⟩
      · go_region_held3 (fun w' => w'.cell? ⟨w.heap.size, 0, none⟩ = some (.slice a1 r.length c1) ∧ (convert 22 9 (.slice a1 n c1)).run Try.prog w' = .ok (.string X1) w') (first | exact s0 | exact s1 _ _) (fail)
        go_wp2
        refine bodyPost_ret (ret_in rfl _ _ W.heap.size rfl (by exact set2 ZB.out.2.1) rfl) rfl ?_
        rw [HT1.out]
        have ht := ZB.out.2.2.2.tail hn _ (.inr rfl)
        exact ⟨_, _, rfl, (ht.far2 ZB.out.2.1 _ _).below (Below.refl _ _).drew, (below2 _ _ ZB.out.2.2.1 (Nat.le_of_lt HB.out.2.2.2)).drew⟩
end
section
open Go.RowKit Go.Lib
variable {Bq : Nat}

theorem results_cell_cell {fn : Func} {p u : Tmp} {ty ty' : TypeId} (h : fn.results = #[.cell p ty, .cell u ty']) (tmps : Array Value) (P : Program) (w : World) :
    (results fn tmps).run P w =
      ((asAddr (tmps.getD p undef)).run P w).andThen fun a w₁ => ((loadVar ty a).run P w₁).andThen fun v w₂ => ((asAddr (tmps.getD u undef)).run P w₂).andThen fun a' w₃ => ((loadVar ty' a').run P w₃).andThen fun v' w₄ => .ok (.tuple #[v, v']) w₄ := by
  simp only [results, h]
  simp [Sem.run_bind, Result.andThen]
theorem ret_two {fn : Func} {p u : Tmp} {ty : TypeId} (h : fn.results = #[.cell p ty, .cell u 68]) (tmps : Array Value) (w : World) (g g' : Nat) {t' : TypeId} {cs cs' : Array Value} {fr' : Nat × Nat} (hp : tmps.getD p undef = .pointer (some ⟨g, 0, none⟩)) (hu : tmps.getD u undef = .pointer (some ⟨g', 0, none⟩)) (hl : (loadVar ty ⟨g, 0, none⟩).run Try.prog w = .ok (.agg cs) w) (hg' : w.heap[g']? = some (.cells cs' t' fr')) (hs : cs'.size = 2) :
    (results fn tmps).run Try.prog w = .ok (.tuple #[.agg cs, .agg cs']) w := by
  rw [results_cell_cell h, hp, hu]
  simp [asAddr, hl, run_loadVar_row w g' t' 68 cs' fr' _ hg' Try.underlying68 rfl (by rw [hs]; exact Try.sizeIn), Result.andThen]
theorem Try.sizeKy8 : (Try.prog.info? 40).map (·.size) = some 2 := by kernel_rfl
theorem RI.farK {w : World} {b : Value} {ok : Bool} {s : St} {g : Nat} {d : Int} {n : ByteArray} {t : TypeId} (h : RI Bq w b ok s) (hb : w.heap[g]? = some (.cells #[.int .i64 d, .string n] t (0, 0))) (x0 x1 : Value) : RI Bq ((w.setCell ⟨g, 0, none⟩ x0).setCell ⟨g, 1, none⟩ x1) b ok s := by
  obtain ⟨l, ⟨a', c', e, hcap, hc⟩, h2⟩ := h
  refine ⟨l, ⟨a', c', e, hcap, ?_⟩, h2⟩
  rcases hc with hc | ⟨g', off, e', hg, hc⟩
  · exact .inl hc
  · cases l with
    | nil => exact .inl rfl
    | cons x l =>
      have hne : g' ≠ g := by
        rintro rfl
        have h0 := hc 0 x rfl
        rw [cell_of hb] at h0
        match off, h0 with
        | 0, h0 => simp at h0
        | 1, h0 => simp at h0
        | k + 2, h0 => simp at h0
      refine .inr ⟨g', off, e', by simp [World.setCell]; exact hg, fun i y hy => ?_⟩
      rw [World.cell?_of_block (two_ne hne)]
      exact hc i y hy
/-- the box of what is left, written over with what a call has left -/
theorem over_in {w w1 Z : World} {i : Nat} {a0 a1 : Option Addr} {n0 c0 n1 c1 : Nat} {k0 k1 : Bool} {s : St} (hk : w1.heap[i]? = some (.cells #[.slice a0 n0 c0, .bool k0] 68 (0, 0))) (hb : Below w.heap.size w w1) (hi : w.heap.size ≤ i) (hr : RI Bq w1 (.slice a1 n1 c1) k1 s) (hZ : (w1.setCell ⟨i, 0, none⟩ (.slice a1 n1 c1)).setCell ⟨i, 1, none⟩ (.bool k1) = Z) :
    Z.heap[i]? = some (.cells #[.slice a1 n1 c1, .bool k1] 68 (0, 0)) ∧ Below w.heap.size w Z ∧ RI Bq Z (.slice a1 n1 c1) k1 s ∧ (∀ k, k ≠ i → Z.heap[k]? = w1.heap[k]?) := by
  subst hZ
  exact ⟨set2 hk, below2 _ _ hb hi, hr.far2 hk _ _, fun k hk' => two_ne hk'⟩

set_option maxRecDepth 20000 in
set_option maxHeartbeats 4000000 in
theorem key1_d {w : World} {b0 : Value} {ok0 : Bool} {s0 : St} (h : RI Bq w b0 ok0 s0) : Calls Try.prog 58 #[.agg #[b0, .bool ok0]] w fun e w' => RdI Bq (.agg #[.int .i64 (numF 6 1 0 s0).1, .string (strF (numF 6 1 0 s0).2).1]) (strF (numF 6 1 0 s0).2).2 w w' e := by
  obtain ⟨a0, n0, c0, rfl⟩ := h.form
  obtain ⟨W, hW⟩ : ∃ W, w.alloc (.cells #[.slice a0 n0 c0, .bool ok0] 68) = W := ⟨_, rfl⟩
  obtain ⟨W2, hW2⟩ : ∃ W2, W.alloc (.cells #[.int .i64 0, .string ⟨#[]⟩] 40) = W2 := ⟨_, rfl⟩
  obtain ⟨W3, hW3⟩ : ∃ W3, W2.alloc (.cells #[.slice none 0 0, .bool false] 68) = W3 := ⟨_, rfl⟩
  have b1 := boxB hW
  have b2 := boxB hW2
  have b3 := boxB hW3
  have HB : Hid (W3.heap[w.heap.size]? = some (.cells #[.slice a0 n0 c0, .bool ok0] 68 (0, 0)) ∧ W3.heap[W.heap.size]? = some (.cells #[.int .i64 0, .string ⟨#[]⟩] 40 (0, 0)) ∧ W3.heap[W2.heap.size]? = some (.cells #[.slice none 0 0, .bool false] 68 (0, 0)) ∧ Below w.heap.size w W3 ∧ w.heap.size < W.heap.size ∧ W.heap.size < W2.heap.size) := ⟨hkeep b1.1 (chainB b2.2 b3.2), hkeep b2.1 b3.2, b3.1, chainB b1.2 (chainB b2.2 b3.2), by rw [← hW]; simp, by rw [← hW2]; simp⟩
  have x0 := cell_of HB.out.1 0
  have x1 := cell_of HB.out.1 1
  simp at x0 x1
  have HRI : Hid (RI Bq W3 (.slice a0 n0 c0) ok0 s0) := h.below HB.out.2.2.2.1
  obtain ⟨D, hD⟩ : ∃ D, numF 6 1 0 s0 = D := ⟨_, rfl⟩
  rw [hD]
  obtain ⟨T, hT⟩ : ∃ T, strF D.2 = T := ⟨_, rfl⟩
  rw [hT]
  have HN : Hid (∀ W a n c k, RI Bq W (.slice a n c) k s0 → Calls Try.prog 29 #[.agg #[.slice a n c, .bool k]] W fun e w' => ∃ a1 m1 c1 k1, e = .returned (.tuple #[.int .i64 D.1, .agg #[.slice a1 m1 c1, .bool k1]]) ∧ Hid (RI Bq w' (.slice a1 m1 c1) k1 D.2) ∧ Below W.heap.size W w') := fun W a n c k hr => (num_d hr).mono fun e w' ⟨b1, ok1, he, hr, hb⟩ => by
    obtain ⟨a1, m1, c1, rfl⟩ := hr.out.form
    rw [hD] at he hr
    exact ⟨a1, m1, c1, ok1, he, hr, hb⟩
  have HS : Hid (∀ W a n c k, RI Bq W (.slice a n c) k D.2 → Calls Try.prog 61 #[.agg #[.slice a n c, .bool k]] W fun e w' => ∃ a1 m1 c1 k1, e = .returned (.tuple #[.string T.1, .agg #[.slice a1 m1 c1, .bool k1]]) ∧ Hid (RI Bq w' (.slice a1 m1 c1) k1 T.2) ∧ Below W.heap.size W w') := fun W a n c k hr => (str_d hr).mono fun e w' ⟨b1, ok1, he, hr, hb⟩ => by
    obtain ⟨a1, m1, c1, rfl⟩ := hr.out.form
    rw [hT] at he hr
    exact ⟨a1, m1, c1, ok1, he, hr, hb⟩
  clear b1 b2 b3 h hD hT
  go_enter Try.func58, Try.ntmps58
  go_upto_region 1 with fail
  clear hW hW2 hW3
  go_wp2_with (first
    | (go_at_call 29; refine (HN.out W3 a0 n0 c0 ok0 HRI.out).mono ?_; rintro e w1 ⟨a1, m1, c1, k1, rfl, hr1, hb1⟩; have hk0 := hkeep HB.out.1 hb1; have q0 : w1.cell? ⟨w.heap.size, 0, none⟩ = some (.slice a0 n0 c0) := (by rw [cell_of hk0]; rfl); have q1 : w1.cell? ⟨w.heap.size, 1, none⟩ = some (.bool ok0) := (by rw [cell_of hk0]; rfl); have qf := free_of hk0; obtain ⟨Z1, hZ1⟩ : ∃ Z, (w1.setCell ⟨w.heap.size, 0, none⟩ (.slice a1 m1 c1)).setCell ⟨w.heap.size, 1, none⟩ (.bool k1) = Z := ⟨_, rfl⟩; have ZB1 : Hid (Z1.heap[w.heap.size]? = some (.cells #[.slice a1 m1 c1, .bool k1] 68 (0, 0)) ∧ Below w.heap.size w Z1 ∧ RI Bq Z1 (.slice a1 m1 c1) k1 D.2 ∧ (∀ k, k ≠ w.heap.size → Z1.heap[k]? = w1.heap[k]?)) := over_in hk0 (chainB HB.out.2.2.2.1 hb1) (Nat.le_refl _) hr1.out hZ1; have HK1 : Hid (Z1.heap[W.heap.size]? = some (.cells #[.int .i64 0, .string ⟨#[]⟩] 40 (0, 0)) ∧ Z1.heap[W2.heap.size]? = some (.cells #[.slice none 0 0, .bool false] 68 (0, 0))) := ⟨(ZB1.out.2.2.2 _ (Nat.ne_of_gt HB.out.2.2.2.2.1)).trans (hkeep HB.out.2.1 hb1), (ZB1.out.2.2.2 _ (Nat.ne_of_gt (Nat.lt_trans HB.out.2.2.2.2.1 HB.out.2.2.2.2.2))).trans (hkeep HB.out.2.2.1 hb1)⟩; have z0 : Z1.cell? ⟨w.heap.size, 0, none⟩ = some (.slice a1 m1 c1) := (by rw [cell_of ZB1.out.1]; rfl); have z1 : Z1.cell? ⟨w.heap.size, 1, none⟩ = some (.bool k1) := (by rw [cell_of ZB1.out.1]; rfl); clear hk0 hr1 x0 x1)
    | (go_at_call 61; clear hZ1 q0 q1 qf; refine (HS.out Z1 a1 m1 c1 k1 ZB1.out.2.2.1).mono ?_; rintro e w2 ⟨a2, m2, c2, k2, rfl, hr2, hb2⟩; have hk1 := hkeep ZB1.out.1 hb2; have q0 : w2.cell? ⟨w.heap.size, 0, none⟩ = some (.slice a1 m1 c1) := (by rw [cell_of hk1]; rfl); have q1 : w2.cell? ⟨w.heap.size, 1, none⟩ = some (.bool k1) := (by rw [cell_of hk1]; rfl); have qf := free_of hk1; obtain ⟨Z2, hZ2⟩ : ∃ Z, (w2.setCell ⟨w.heap.size, 0, none⟩ (.slice a2 m2 c2)).setCell ⟨w.heap.size, 1, none⟩ (.bool k2) = Z := ⟨_, rfl⟩; have ZB2 : Hid (Z2.heap[w.heap.size]? = some (.cells #[.slice a2 m2 c2, .bool k2] 68 (0, 0)) ∧ Below w.heap.size w Z2 ∧ RI Bq Z2 (.slice a2 m2 c2) k2 T.2 ∧ (∀ k, k ≠ w.heap.size → Z2.heap[k]? = w2.heap[k]?)) := over_in hk1 (chainB ZB1.out.2.1 hb2) (Nat.le_refl _) hr2.out hZ2; have HK2 : Hid (Z2.heap[W.heap.size]? = some (.cells #[.int .i64 0, .string ⟨#[]⟩] 40 (0, 0)) ∧ Z2.heap[W2.heap.size]? = some (.cells #[.slice none 0 0, .bool false] 68 (0, 0))) := ⟨(ZB2.out.2.2.2 _ (Nat.ne_of_gt HB.out.2.2.2.2.1)).trans (hkeep HK1.out.1 hb2), (ZB2.out.2.2.2 _ (Nat.ne_of_gt (Nat.lt_trans HB.out.2.2.2.2.1 HB.out.2.2.2.2.2))).trans (hkeep HK1.out.2 hb2)⟩; have z0' : Z2.cell? ⟨w.heap.size, 0, none⟩ = some (.slice a2 m2 c2) := (by rw [cell_of ZB2.out.1]; rfl); have z1' : Z2.cell? ⟨w.heap.size, 1, none⟩ = some (.bool k2) := (by rw [cell_of ZB2.out.1]; rfl); clear hk1 hr2 z0 z1))
  have e1 : w.heap.size ≠ W.heap.size := Nat.ne_of_lt HB.out.2.2.2.2.1
  have e2 : w.heap.size ≠ W2.heap.size := Nat.ne_of_lt (Nat.lt_trans HB.out.2.2.2.2.1 HB.out.2.2.2.2.2)
  have e3 : W.heap.size ≠ W2.heap.size := Nat.ne_of_lt HB.out.2.2.2.2.2
  have s0 : Z2.drew.cell? ⟨w.heap.size, 0, none⟩ = some (.slice a2 m2 c2) ∧ Z2.drew.cell? ⟨w.heap.size, 1, none⟩ = some (.bool k2) := ⟨z0', z1'⟩
  obtain ⟨Y, hY⟩ : ∃ Y, (Z2.setCell ⟨W.heap.size, 0, none⟩ (.int .i64 D.1)).setCell ⟨W.heap.size, 1, none⟩ (.string T.1) = Y := ⟨_, rfl⟩
  have s1 : Y.cell? ⟨w.heap.size, 0, none⟩ = some (.slice a2 m2 c2) ∧ Y.cell? ⟨w.heap.size, 1, none⟩ = some (.bool k2) := by rw [← hY]; exact ⟨(cell2_ne e1).trans z0', (cell2_ne e1).trans z1'⟩
  have s2 : ∀ p p', ((Y.setCell ⟨W2.heap.size, 0, none⟩ p).setCell ⟨W2.heap.size, 1, none⟩ p').cell? ⟨w.heap.size, 0, none⟩ = some (.slice a2 m2 c2) ∧ ((Y.setCell ⟨W2.heap.size, 0, none⟩ p).setCell ⟨W2.heap.size, 1, none⟩ p').cell? ⟨w.heap.size, 1, none⟩ = some (.bool k2) := fun p p' => ⟨(cell2_ne e2).trans s1.1, (cell2_ne e2).trans s1.2⟩
  have hk0 : Z2.drew.cell? ⟨W.heap.size, 0, none⟩ = some (.int .i64 0) := by have y := cell_of HK2.out.1 0; simpa using y
  have hk1 : Z2.drew.cell? ⟨W.heap.size, 1, none⟩ = some (.string ⟨#[]⟩) := by have y := cell_of HK2.out.1 1; simpa using y
  have hkf := fun i => (free_of HK2.out.1 i : Z2.drew.frozen? ⟨W.heap.size, i, none⟩ = false)
  have YB : Hid (Y.heap[W.heap.size]? = some (.cells #[.int .i64 D.1, .string T.1] 40 (0, 0)) ∧ Y.heap[W2.heap.size]? = some (.cells #[.slice none 0 0, .bool false] 68 (0, 0)) ∧ Below w.heap.size w Y ∧ RI Bq Y (.slice a2 m2 c2) k2 T.2) := by
    show _ ∧ _
    rw [← hY]
    exact ⟨set2 HK2.out.1, (two_ne (Ne.symm e3)).trans HK2.out.2, below2 _ _ ZB2.out.2.1 (Nat.le_of_lt HB.out.2.2.2.2.1), ZB2.out.2.2.1.farK HK2.out.1 _ _⟩
  have u0 : Y.cell? ⟨W2.heap.size, 0, none⟩ = some (.slice none 0 0) := by rw [cell_of YB.out.2.1]; rfl
  have u1 : Y.cell? ⟨W2.heap.size, 1, none⟩ = some (.bool false) := by rw [cell_of YB.out.2.1]; rfl
  have uf := free_of YB.out.2.1
  have kz0 : Z2.cell? ⟨W.heap.size, 0, none⟩ = some (.int .i64 0) := hk0
  have kz1 : Z2.cell? ⟨W.heap.size, 1, none⟩ = some (.string ⟨#[]⟩) := hk1
  have kg0 : Z2.frozen? ⟨W.heap.size, 0, none⟩ = false := hkf 0
  have kg1 : Z2.frozen? ⟨W.heap.size, 1, none⟩ = false := hkf 1
  have kd0 := hkf 0
  have kd1 := hkf 1
  have ug0 := uf 0
  have ug1 := uf 1
  clear hZ2 q0 q1 qf
  go_region_held3 (fun w' => w'.cell? ⟨w.heap.size, 0, none⟩ = some (.slice a2 m2 c2) ∧ w'.cell? ⟨w.heap.size, 1, none⟩ = some (.bool k2)) (first | exact s0 | exact s1 | exact s2 _ _ | (rw [hY]; exact s1)) (fail)
  go_wp2
  refine bodyPost_ret (ret_two rfl _ _ W.heap.size W2.heap.size rfl rfl (run_loadVar_row _ W.heap.size 40 40 #[.int .i64 D.1, .string T.1] (0, 0) _ (by exact (two_ne e3).trans YB.out.1) Try.underlying40 rfl Try.sizeKy8) (by exact set2 YB.out.2.1) rfl) rfl ?_
  exact ⟨_, _, rfl, (YB.out.2.2.2.far2 YB.out.2.1 _ _).below (Below.refl _ _).drew, (below2 _ _ YB.out.2.2.1 (Nat.le_of_lt (Nat.lt_trans HB.out.2.2.2.2.1 HB.out.2.2.2.2.2))).drew⟩
end
end Go.Proofs.Ytekonakanieeaaa
