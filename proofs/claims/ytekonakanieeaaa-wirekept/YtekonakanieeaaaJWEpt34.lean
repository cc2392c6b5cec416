/- What the laws share: copies, comparisons. -/
import Derived.Test.YtekonakanieeaaaJWEpt33
namespace Go.Proofs.Ytekonakanieeaaa
section
open Go.RowKit Go.Lib

/-- how long bytes may be -/
def LB : Nat := 140737488351232

theorem copyB_any (v : Value) (l : List Int) (w : World) (h : RB w v l) (hl : l.length ≤ LB) :
    Calls Try.prog 7 #[v] w fun e w' => ∃ v', e = .returned v' ∧ OwnB w' w.heap.size v' l ∧ Below w.heap.size w w' := by
  obtain ⟨i0, hi, hz0, hz1, hz2⟩ := info_parts Try.infoU
  have hL : l.length ≤ 140737488351232 := hl
  obtain ⟨a, cap, rfl, _⟩ := id h
  rcases h.src with ⟨rfl, rfl⟩ | ⟨ad, rfl, hc⟩
  · clear h hl
    go_enter Try.func7, Try.ntmps7
    go_wp2
    go_ret
    exact ⟨_, rfl, OwnB.nil _ _, Below.refl _ _⟩
  · have HC : Hid (∀ j u, (ub l)[j]? = some u → w.cell? (ad.add j) = some u) := hc
    clear hc h hl
    go_enter Try.func7, Try.ntmps7
    go_wp2_with (at_builtin; refine wpList_append_own _ rfl _ _ 22 rfl w.heap.size 5 i0 (.int .u8 0) 1 1 Try.underlying22 hi hz0 hz1 hz2 rfl (by decide) _ _ _ rfl (World.ownsRow_nil _ _ _ _) ad l.length cap (ub l) rfl (by rw [ub_len, Nat.mul_one]) HC.out (ub_one l) (by unfold maxLen; omega) (by omega) (Nat.le_refl _) ?_; intro v' w1 hown hgrow _)
    go_ret
    refine ⟨_, rfl, ?_, below_grown hgrow⟩
    rw [Nat.zero_add, List.nil_append] at hown
    exact hown

theorem take_len_eq {l l' : List Int} {k : Nat} (h : l.take k = l'.take k) (hk : k = l.length) (hk' : k = l'.length) : l = l' := by
  rw [List.take_of_length_le (by omega), List.take_of_length_le (by omega)] at h; exact h
theorem take_snoc {l l' : List Int} {k : Nat} {x : Int} (h : l.take k = l'.take k) (h1 : l[k]? = some x) (h2 : l'[k]? = some x) : l.take (k + 1) = l'.take (k + 1) := by
  rw [List.take_add_one, List.take_add_one, h, h1, h2]
set_option maxHeartbeats 1000000 in
theorem same_any (v v' : Value) (l l' : List Int) (w : World) (h : RB w v l) (h' : RB w v' l') (hl : l.length ≤ LB) (hl' : l'.length ≤ LB) :
    Calls Try.prog 18 #[v, v'] w fun e w' => e = .returned (.bool (decide (l = l'))) ∧ Below w.heap.size w w' := by
  have hL : l.length ≤ 140737488351232 := hl
  have hL' : l'.length ≤ 140737488351232 := hl'
  obtain ⟨a, cap, rfl, h1⟩ := h
  obtain ⟨a', cap', rfl, h1'⟩ := h'
  clear hl hl'
  by_cases hn : l.length = l'.length
  · have HC : Hid (∀ k x, l[k]? = some x → ∃ g off, a = some ⟨g, off, none⟩ ∧ g < w.heap.size ∧ w.cell? ⟨g, off + k, none⟩ = some (.int .u8 x)) := fun k x hx => by
      rcases h1 with rfl | ⟨g, off, e, hg, hc⟩
      · simp at hx
      · exact ⟨g, off, e, hg, hc k x hx⟩
    have HC' : Hid (∀ k x, l'[k]? = some x → ∃ g off, a' = some ⟨g, off, none⟩ ∧ g < w.heap.size ∧ w.cell? ⟨g, off + k, none⟩ = some (.int .u8 x)) := fun k x hx => by
      rcases h1' with rfl | ⟨g, off, e, hg, hc⟩
      · simp at hx
      · exact ⟨g, off, e, hg, hc k x hx⟩
    obtain ⟨n, hn1⟩ : ∃ n, l.length = n := ⟨_, rfl⟩
    have hn2 : l'.length = n := by omega
    have HN : Hid (l.length = n ∧ l'.length = n) := ⟨hn1, hn2⟩
    rw [hn1] at hL
    rw [hn1, hn2]
    clear h1 h1' hn hn1 hn2 hL'
    go_enter Try.func18, Try.ntmps18
    go_wp2
    go_loopw [5] (fun i wr => ∃ k : Nat, k ≤ n ∧ i = .int .i64 k ∧ l.take k = l'.take k ∧ Below w.heap.size w wr) (fun i _ => n - (intOf i).toNat)
    case atStart => exact ⟨0, Nat.zero_le _, rfl, rfl, Below.refl _ _⟩
    case round =>
      obtain ⟨k, hk, rfl, ht, hb⟩ := hrel
      by_cases hlt : k < n
      · obtain ⟨x, hx⟩ : ∃ x, l[k]? = some x := ⟨_, List.getElem?_eq_getElem (by rw [HN.out.1]; exact hlt)⟩
        obtain ⟨x', hx'⟩ : ∃ x, l'[k]? = some x := ⟨_, List.getElem?_eq_getElem (by rw [HN.out.2]; exact hlt)⟩
        obtain ⟨g, off, rfl, hg, c1⟩ := HC.out k x hx
        obtain ⟨g', off', rfl, hg', c2⟩ := HC'.out k x' hx'
        have d1 := (hb.cell (p := ⟨g, off + k, none⟩) hg).trans c1
        have d2 := (hb.cell (p := ⟨g', off' + k, none⟩) hg').trans c2
        have hki : (k : Int) < (n : Int) := by omega
        by_cases hxx : x = x'
        · subst hxx
          have HT : Hid (l.take (k + 1) = l'.take (k + 1)) := take_snoc ht hx hx'
          clear hx hx' c1 c2 ht
          go_wp2
          go_quiet (fail)
          go_wp2
          go_roundw
          case rel => exact ⟨k + 1, by omega, by go_num, HT.out, below_drewN hb _⟩
          case measure => simp [intOf]; omega
        · have hne : (x != x') = true := by simpa using hxx
          have HE : Hid (decide (l = l') = false) := decide_eq_false (by rintro rfl; rw [hx] at hx'; exact hxx (Option.some.inj hx'))
          clear hx hx' c1 c2 ht hxx
          go_wp2
          go_quiet (fail)
          go_wp2
          go_ret
          exact ⟨by rw [HE.out]; rfl, below_drewN hb _⟩
      · have hkl : k = n := by omega
        subst hkl
        have HE : Hid (decide (l = l') = true) := decide_eq_true (take_len_eq ht HN.out.1.symm HN.out.2.symm)
        go_wp2
        go_ret
        exact ⟨by rw [HE.out]; rfl, hb⟩
  · have HE : Hid (decide (l = l') = false) := decide_eq_false (by rintro rfl; exact hn rfl)
    have hne : ((l.length : Int) != (l'.length : Int)) = true := by simp; omega
    clear h1 h1'
    go_enter Try.func18, Try.ntmps18
    go_wp2
    go_ret
    exact ⟨by rw [HE.out]; rfl, Below.refl _ _⟩


/-- entries, keys that came in -/
def ArgE (w : World) (v : Value) (es : List En) : Prop := ∃ a cap, v = .slice a es.length cap ∧ es.length * 72 ≤ 140737488351232 ∧ (es = [] ∨ ∃ b off, a = some ⟨b, off, none⟩ ∧ b < w.heap.size ∧ ∀ j u, (ec es)[j]? = some u → w.cell? ⟨b, off + j, none⟩ = some u)
def ArgK (w : World) (v : Value) (ks : List Ky) : Prop := ∃ a cap, v = .slice a ks.length cap ∧ ks.length * 24 ≤ 140737488351232 ∧ (ks = [] ∨ ∃ b off, a = some ⟨b, off, none⟩ ∧ b < w.heap.size ∧ ∀ j u, (kc ks)[j]? = some u → w.cell? ⟨b, off + j, none⟩ = some u)
theorem ArgE.below {w w' : World} {v : Value} {es : List En} (h : ArgE w v es) (hb : Below w.heap.size w w') : ArgE w' v es := by
  obtain ⟨a, cap, rfl, hl, h⟩ := h
  refine ⟨a, cap, rfl, hl, ?_⟩
  rcases h with h | ⟨b, off, rfl, hg, hc⟩
  · exact .inl h
  · exact .inr ⟨b, off, rfl, Nat.lt_of_lt_of_le hg hb.size, fun j u hu => (hb.cell (p := ⟨b, off + j, none⟩) hg).trans (hc j u hu)⟩
theorem ArgK.below {w w' : World} {v : Value} {es : List Ky} (h : ArgK w v es) (hb : Below w.heap.size w w') : ArgK w' v es := by
  obtain ⟨a, cap, rfl, hl, h⟩ := h
  refine ⟨a, cap, rfl, hl, ?_⟩
  rcases h with h | ⟨b, off, rfl, hg, hc⟩
  · exact .inl h
  · exact .inr ⟨b, off, rfl, Nat.lt_of_lt_of_le hg hb.size, fun j u hu => (hb.cell (p := ⟨b, off + j, none⟩) hg).trans (hc j u hu)⟩
theorem kc_one (ks : List Ky) : ∀ u ∈ kc ks, u.oneCell' = true := by
  intro u hu
  unfold kc at hu
  obtain ⟨p, _, hp⟩ := List.mem_flatMap.1 hu
  exact two_cells p u hp
set_option maxRecDepth 20000 in
set_option maxHeartbeats 4000000 in
theorem copyE_any (v : Value) (es : List En) (w : World) (h : ArgE w v es) :
    Calls Try.prog 34 #[v] w fun e w' => ∃ v', e = .returned v' ∧ Row7 w' w.heap.size v' es ∧ Below w.heap.size w w' := by
  obtain ⟨i1, hi1, hw0, hw1, hw2⟩ := info_parts Try.infoE
  obtain ⟨a, cap, rfl, hl, hc⟩ := h
  by_cases h0 : a = none
  · subst h0
    have he : es = [] := by
      rcases hc with h | ⟨b, off, e, _⟩
      · exact h
      · cases e
    subst he
    clear hc
    go_enter Try.func34, Try.ntmps34
    go_wp2
    go_ret
    exact ⟨_, rfl, World.ownsRow_nil _ _ _ _, Below.refl _ _⟩
  · obtain ⟨ad, rfl⟩ : ∃ ad, a = some ad := by cases a with | none => exact absurd rfl h0 | some x => exact ⟨x, rfl⟩
    have HC : Hid (∀ j u, (ec es)[j]? = some u → w.cell? (ad.add j) = some u) := by
      rcases hc with h | ⟨b, off, e, _, hc⟩
      · subst h; intro j u hu; simp [ec] at hu
      · cases e; intro j u hu; rw [add_plain']; exact hc j u hu
    obtain ⟨n, hn⟩ : ∃ n, es.length = n := ⟨_, rfl⟩
    have HN : Hid (es.length = n ∧ (ec es).length = n * 7) := ⟨hn, by rw [ec_len, hn]⟩
    rw [hn] at hl ⊢
    clear hc h0 hn
    go_enter Try.func34, Try.ntmps34
    go_wp2_with (at_builtin; refine wpList_append_own _ rfl _ _ 27 rfl w.heap.size 44 i1 _ 7 72 Try.underlying27 hi1 hw0 hw1 hw2 rfl (by decide) _ 0 [] rfl (World.ownsRow_nil _ _ _ _) ad n cap (ec es) rfl HN.out.2 HC.out (ec_one es) (by unfold maxLen; omega) (by omega) (Nat.le_refl _) ?_; intro v' w1 hown hgrow _; obtain ⟨av, cv, hv⟩ := owns_len hown; subst hv)
    go_ret
    refine ⟨_, rfl, ?_, below_grown hgrow⟩
    rw [Nat.zero_add, List.nil_append] at hown
    show World.ownsRow _ _ _ _ _ _ _
    rw [HN.out.1]; exact hown
set_option maxRecDepth 20000 in
set_option maxHeartbeats 4000000 in
theorem copyK_any (v : Value) (es : List Ky) (w : World) (h : ArgK w v es) :
    Calls Try.prog 35 #[v] w fun e w' => ∃ v', e = .returned v' ∧ RowK w' w.heap.size v' es ∧ Below w.heap.size w w' := by
  obtain ⟨i1, hi1, hw0, hw1, hw2⟩ := info_parts Try.infoKy
  obtain ⟨a, cap, rfl, hl, hc⟩ := h
  by_cases h0 : a = none
  · subst h0
    have he : es = [] := by
      rcases hc with h | ⟨b, off, e, _⟩
      · exact h
      · cases e
    subst he
    clear hc
    go_enter Try.func35, Try.ntmps35
    go_wp2
    go_ret
    exact ⟨_, rfl, World.ownsRow_nil _ _ _ _, Below.refl _ _⟩
  · obtain ⟨ad, rfl⟩ : ∃ ad, a = some ad := by cases a with | none => exact absurd rfl h0 | some x => exact ⟨x, rfl⟩
    have HC : Hid (∀ j u, (kc es)[j]? = some u → w.cell? (ad.add j) = some u) := by
      rcases hc with h | ⟨b, off, e, _, hc⟩
      · subst h; intro j u hu; simp [kc] at hu
      · cases e; intro j u hu; rw [add_plain']; exact hc j u hu
    obtain ⟨n, hn⟩ : ∃ n, es.length = n := ⟨_, rfl⟩
    have HN : Hid (es.length = n ∧ (kc es).length = n * 2) := ⟨hn, by rw [kc_len, hn]⟩
    rw [hn] at hl ⊢
    clear hc h0 hn
    go_enter Try.func35, Try.ntmps35
    go_wp2_with (at_builtin; refine wpList_append_own _ rfl _ _ 28 rfl w.heap.size 40 i1 _ 2 24 Try.underlying28 hi1 hw0 hw1 hw2 rfl (by decide) _ 0 [] rfl (World.ownsRow_nil _ _ _ _) ad n cap (kc es) rfl HN.out.2 HC.out (kc_one es) (by unfold maxLen; omega) (by omega) (Nat.le_refl _) ?_; intro v' w1 hown hgrow _; obtain ⟨av, cv, hv⟩ := owns_len hown; subst hv)
    go_ret
    refine ⟨_, rfl, ?_, below_grown hgrow⟩
    rw [Nat.zero_add, List.nil_append] at hown
    show World.ownsRow _ _ _ _ _ _ _
    rw [HN.out.1]; exact hown
theorem mark_any (a b : Int) (w : World) : Calls Try.prog 33 #[.int .i64 a, .int .i64 b] w fun e w' => e = .returned (.complex .f64 (floatOfInt .f64 a) (floatOfInt .f64 b)) ∧ w = w' := by
  go_enter Try.func33, Try.ntmps33
  go_wp2
  go_ret
  exact ⟨rfl, rfl⟩
end
section
open Go.RowKit Go.Lib
attribute [local go_sem high] run_store_complex

/-- a message as plain data, that came in -/
structure Mm where
  kind : Int
  client : Int
  life : Int
  seq : Int
  ep : Int
  nb : Int
  vers : Int
  err : Int
  op : Opn
  ve : Value
  vk : Value
  es : List En
  ks : List Ky
def Mm.arr (m : Mm) : Array Value := #[.int .i64 m.kind, .int .i64 m.client, .int .i64 m.life, .int .i64 m.seq, .int .i64 m.ep, .int .i64 m.nb, .int .i64 m.vers, .int .i64 m.err, .int .i64 m.op.kind, .int .i64 m.op.dir, .string m.op.nm, .int .i64 m.op.dst, .string m.op.new, .int .i64 m.op.mode, .string m.op.tg, m.ve, m.vk]
structure ArgM (w : World) (m : Mm) : Prop where
  es : ArgE w m.ve m.es
  ks : ArgK w m.vk m.ks
theorem ArgM.below {w w' : World} {m : Mm} (h : ArgM w m) (hb : Below w.heap.size w w') : ArgM w' m := ⟨h.es.below hb, h.ks.below hb⟩
/-- the message -/
def Mm.ms (m : Mm) (ve vk : Value) : Ms := ⟨m.kind, m.client, m.life, m.seq, floatOfInt .f64 m.ep, floatOfInt .f64 m.nb, m.vers, m.err, m.op, ve, vk, m.es, m.ks⟩
set_option maxRecDepth 20000 in
set_option maxHeartbeats 16000000 in
theorem msg_any (m : Mm) (w : World) (h : ArgM w m) : Calls Try.prog 15 #[.agg m.arr] w fun e w' => ∃ ve vk, e = .returned (.agg (m.ms ve vk).arr) ∧ Row7 w' w.heap.size ve m.es ∧ RowK w' w.heap.size vk m.ks ∧ Below w.heap.size w w' := by
  obtain ⟨ae, ce, he, _⟩ := id h.es
  obtain ⟨ak, ck, hk, _⟩ := id h.ks
  obtain ⟨kind, client, life, seq, ep, nb, vers, err, op, ve, vk, es, ks⟩ := m
  simp only [] at he hk
  subst he hk
  unfold Mm.arr
  simp only []
  obtain ⟨W, hW⟩ : ∃ W, w.alloc (.cells #[.int .i64 kind, .int .i64 client, .int .i64 life, .int .i64 seq, .int .i64 ep, .int .i64 nb, .int .i64 vers, .int .i64 err, .int .i64 op.kind, .int .i64 op.dir, .string op.nm, .int .i64 op.dst, .string op.new, .int .i64 op.mode, .string op.tg, .slice ae es.length ce, .slice ak ks.length ck] 54) = W := ⟨_, rfl⟩
  obtain ⟨W2, hW2⟩ : ∃ W2, W.alloc (.cells #[.int .i64 0, .int .i64 0, .int .i64 0, .int .i64 0, .complex .f64 0 0, .int .i64 0, .int .i64 0, .int .i64 0, .int .i64 0, .string ⟨#[]⟩, .int .i64 0, .string ⟨#[]⟩, .int .i64 0, .string ⟨#[]⟩, .slice none 0 0, .slice none 0 0] 30) = W2 := ⟨_, rfl⟩
  have hb := boxB hW
  have hb2 := boxB hW2
  have HBx : Hid (W2.heap[w.heap.size]? = some (.cells #[.int .i64 kind, .int .i64 client, .int .i64 life, .int .i64 seq, .int .i64 ep, .int .i64 nb, .int .i64 vers, .int .i64 err, .int .i64 op.kind, .int .i64 op.dir, .string op.nm, .int .i64 op.dst, .string op.new, .int .i64 op.mode, .string op.tg, .slice ae es.length ce, .slice ak ks.length ck] 54 (0, 0)) ∧ W2.heap[W.heap.size]? = some (.cells #[.int .i64 0, .int .i64 0, .int .i64 0, .int .i64 0, .complex .f64 0 0, .int .i64 0, .int .i64 0, .int .i64 0, .int .i64 0, .string ⟨#[]⟩, .int .i64 0, .string ⟨#[]⟩, .int .i64 0, .string ⟨#[]⟩, .slice none 0 0, .slice none 0 0] 30 (0, 0)) ∧ Below w.heap.size w W2 ∧ w.heap.size < W.heap.size) := ⟨hkeep hb.1 hb2.2, hb2.1, chainB hb.2 hb2.2, (Array.getElem?_eq_some_iff.1 hb.1).1⟩
  have HKp : Hid (∀ w', Below W2.heap.size W2 w' → w'.cell? ⟨w.heap.size, 0, none⟩ = some (.int .i64 kind) ∧ w'.cell? ⟨w.heap.size, 1, none⟩ = some (.int .i64 client) ∧ w'.cell? ⟨w.heap.size, 2, none⟩ = some (.int .i64 life) ∧ w'.cell? ⟨w.heap.size, 3, none⟩ = some (.int .i64 seq) ∧ w'.cell? ⟨w.heap.size, 4, none⟩ = some (.int .i64 ep) ∧ w'.cell? ⟨w.heap.size, 5, none⟩ = some (.int .i64 nb) ∧ w'.cell? ⟨w.heap.size, 6, none⟩ = some (.int .i64 vers) ∧ w'.cell? ⟨w.heap.size, 7, none⟩ = some (.int .i64 err) ∧ w'.cell? ⟨w.heap.size, 8, none⟩ = some (.int .i64 op.kind) ∧ w'.cell? ⟨w.heap.size, 9, none⟩ = some (.int .i64 op.dir) ∧ w'.cell? ⟨w.heap.size, 10, none⟩ = some (.string op.nm) ∧ w'.cell? ⟨w.heap.size, 11, none⟩ = some (.int .i64 op.dst) ∧ w'.cell? ⟨w.heap.size, 12, none⟩ = some (.string op.new) ∧ w'.cell? ⟨w.heap.size, 13, none⟩ = some (.int .i64 op.mode) ∧ w'.cell? ⟨w.heap.size, 14, none⟩ = some (.string op.tg) ∧ w'.cell? ⟨w.heap.size, 15, none⟩ = some (.slice ae es.length ce) ∧ w'.cell? ⟨w.heap.size, 16, none⟩ = some (.slice ak ks.length ck) ∧ Below w.heap.size w w') := fun w' hb' => by
    have hx := hkeep HBx.out.1 hb'
    have s0 := cell_of hx 0
    have s1 := cell_of hx 1
    have s2 := cell_of hx 2
    have s3 := cell_of hx 3
    have s4 := cell_of hx 4
    have s5 := cell_of hx 5
    have s6 := cell_of hx 6
    have s7 := cell_of hx 7
    have s8 := cell_of hx 8
    have s9 := cell_of hx 9
    have s10 := cell_of hx 10
    have s11 := cell_of hx 11
    have s12 := cell_of hx 12
    have s13 := cell_of hx 13
    have s14 := cell_of hx 14
    have s15 := cell_of hx 15
    have s16 := cell_of hx 16
    simp at s0 s1 s2 s3 s4 s5 s6 s7 s8 s9 s10 s11 s12 s13 s14 s15 s16
    exact ⟨s0, s1, s2, s3, s4, s5, s6, s7, s8, s9, s10, s11, s12, s13, s14, s15, s16, chainB HBx.out.2.2.1 hb'⟩
  have HMk : Hid (∀ W, Calls Try.prog 33 #[.int .i64 ep, .int .i64 nb] W fun e w' => e = .returned (.complex .f64 (floatOfInt .f64 ep) (floatOfInt .f64 nb)) ∧ W = w') := mark_any ep nb
  have HCe : Hid (∀ W3, Below W2.heap.size W2 W3 → Calls Try.prog 34 #[.slice ae es.length ce] W3 fun e w' => ∃ a c, e = .returned (.slice a es.length c) ∧ Row7 w' W3.heap.size (.slice a es.length c) es ∧ Below W3.heap.size W3 w') := fun W3 h3 => (copyE_any _ es W3 (h.es.below (chainB HBx.out.2.2.1 h3))).mono fun e w' ⟨v', he, hr, hb⟩ => by
    obtain ⟨a, c, rfl⟩ := owns_len hr
    exact ⟨a, c, he, hr, hb⟩
  have HCk : Hid (∀ W3, Below W2.heap.size W2 W3 → Calls Try.prog 35 #[.slice ak ks.length ck] W3 fun e w' => ∃ a c, e = .returned (.slice a ks.length c) ∧ RowK w' W3.heap.size (.slice a ks.length c) ks ∧ Below W3.heap.size W3 w') := fun W3 h3 => (copyK_any _ ks W3 (h.ks.below (chainB HBx.out.2.2.1 h3))).mono fun e w' ⟨v', he, hr, hb⟩ => by
    obtain ⟨a, c, rfl⟩ := owns_len hr
    exact ⟨a, c, he, hr, hb⟩
  have hd : Below W2.heap.size W2 W2.drew := (Below.refl _ _).drew
  have k0 := HKp.out _ hd
  have HPut : Hid (∀ w3, Below W2.heap.size W2 w3 → ∀ (xs : List Value), let w' := putC W.heap.size 0 xs w3; w'.cell? ⟨w.heap.size, 0, none⟩ = some (.int .i64 kind) ∧ w'.cell? ⟨w.heap.size, 1, none⟩ = some (.int .i64 client) ∧ w'.cell? ⟨w.heap.size, 2, none⟩ = some (.int .i64 life) ∧ w'.cell? ⟨w.heap.size, 3, none⟩ = some (.int .i64 seq) ∧ w'.cell? ⟨w.heap.size, 4, none⟩ = some (.int .i64 ep) ∧ w'.cell? ⟨w.heap.size, 5, none⟩ = some (.int .i64 nb) ∧ w'.cell? ⟨w.heap.size, 6, none⟩ = some (.int .i64 vers) ∧ w'.cell? ⟨w.heap.size, 7, none⟩ = some (.int .i64 err) ∧ w'.cell? ⟨w.heap.size, 8, none⟩ = some (.int .i64 op.kind) ∧ w'.cell? ⟨w.heap.size, 9, none⟩ = some (.int .i64 op.dir) ∧ w'.cell? ⟨w.heap.size, 10, none⟩ = some (.string op.nm) ∧ w'.cell? ⟨w.heap.size, 11, none⟩ = some (.int .i64 op.dst) ∧ w'.cell? ⟨w.heap.size, 12, none⟩ = some (.string op.new) ∧ w'.cell? ⟨w.heap.size, 13, none⟩ = some (.int .i64 op.mode) ∧ w'.cell? ⟨w.heap.size, 14, none⟩ = some (.string op.tg) ∧ w'.cell? ⟨w.heap.size, 15, none⟩ = some (.slice ae es.length ce) ∧ w'.cell? ⟨w.heap.size, 16, none⟩ = some (.slice ak ks.length ck) ∧ Below w.heap.size w w') := fun w3 h3 xs => by
    have hx := hkeep HBx.out.1 h3
    have ho := putC_only W.heap.size xs 0 w3
    have hlt := HBx.out.2.2.2
    have hy : (putC W.heap.size 0 xs w3).heap[w.heap.size]? = some (.cells #[.int .i64 kind, .int .i64 client, .int .i64 life, .int .i64 seq, .int .i64 ep, .int .i64 nb, .int .i64 vers, .int .i64 err, .int .i64 op.kind, .int .i64 op.dir, .string op.nm, .int .i64 op.dst, .string op.new, .int .i64 op.mode, .string op.tg, .slice ae es.length ce, .slice ak ks.length ck] 54 (0, 0)) := (ho.block _ (Array.getElem?_eq_some_iff.1 hx).1 (by omega)).trans hx
    have s0 := cell_of hy 0
    have s1 := cell_of hy 1
    have s2 := cell_of hy 2
    have s3 := cell_of hy 3
    have s4 := cell_of hy 4
    have s5 := cell_of hy 5
    have s6 := cell_of hy 6
    have s7 := cell_of hy 7
    have s8 := cell_of hy 8
    have s9 := cell_of hy 9
    have s10 := cell_of hy 10
    have s11 := cell_of hy 11
    have s12 := cell_of hy 12
    have s13 := cell_of hy 13
    have s14 := cell_of hy 14
    have s15 := cell_of hy 15
    have s16 := cell_of hy 16
    simp at s0 s1 s2 s3 s4 s5 s6 s7 s8 s9 s10 s11 s12 s13 s14 s15 s16
    exact ⟨s0, s1, s2, s3, s4, s5, s6, s7, s8, s9, s10, s11, s12, s13, s14, s15, s16, ho.below (chainB HBx.out.2.2.1 h3) (chainB HBx.out.2.2.1 h3).size (fun k hk => by omega)⟩
  clear h hb hb2
  go_enter Try.func15, Try.ntmps15
  go_upto_region 1 with fail
  clear hW hW2
  go_region_held3 (fun w' => w'.cell? ⟨w.heap.size, 0, none⟩ = some (.int .i64 kind) ∧ w'.cell? ⟨w.heap.size, 1, none⟩ = some (.int .i64 client) ∧ w'.cell? ⟨w.heap.size, 2, none⟩ = some (.int .i64 life) ∧ w'.cell? ⟨w.heap.size, 3, none⟩ = some (.int .i64 seq) ∧ w'.cell? ⟨w.heap.size, 4, none⟩ = some (.int .i64 ep) ∧ w'.cell? ⟨w.heap.size, 5, none⟩ = some (.int .i64 nb) ∧ w'.cell? ⟨w.heap.size, 6, none⟩ = some (.int .i64 vers) ∧ w'.cell? ⟨w.heap.size, 7, none⟩ = some (.int .i64 err) ∧ w'.cell? ⟨w.heap.size, 8, none⟩ = some (.int .i64 op.kind) ∧ w'.cell? ⟨w.heap.size, 9, none⟩ = some (.int .i64 op.dir) ∧ w'.cell? ⟨w.heap.size, 10, none⟩ = some (.string op.nm) ∧ w'.cell? ⟨w.heap.size, 11, none⟩ = some (.int .i64 op.dst) ∧ w'.cell? ⟨w.heap.size, 12, none⟩ = some (.string op.new) ∧ w'.cell? ⟨w.heap.size, 13, none⟩ = some (.int .i64 op.mode) ∧ w'.cell? ⟨w.heap.size, 14, none⟩ = some (.string op.tg) ∧ w'.cell? ⟨w.heap.size, 15, none⟩ = some (.slice ae es.length ce) ∧ w'.cell? ⟨w.heap.size, 16, none⟩ = some (.slice ak ks.length ck) ∧ Below w.heap.size w w')
    (with_reducible first | exact kP | exact k3 | exact k2 | exact k0)
    (first
      | (go_at_call 33; refine (HMk.out _).mono ?_; rintro x w1 ⟨rfl, rfl⟩)
      | (go_at_call 34; refine (HCe.out _ hd).mono ?_; rintro x w2 ⟨a2, c2, rfl, hr2, hb2⟩; have k2 := HKp.out _ (chainB hd hb2))
      | (go_at_call 35; refine (HCk.out _ (chainB hd hb2)).mono ?_; rintro x w3 ⟨a3, c3, rfl, hr3, hb3⟩; have k3 := HKp.out _ (chainB (chainB hd hb2) hb3); have hz := hkeep HBx.out.2.1 (chainB (chainB hd hb2) hb3); have zf := free_of hz; have z0 := cell_of hz 0; have z1 := cell_of hz 1; have z2 := cell_of hz 2; have z3 := cell_of hz 3; have z4 := cell_of hz 4; have z5 := cell_of hz 5; have z6 := cell_of hz 6; have z7 := cell_of hz 7; have z8 := cell_of hz 8; have z9 := cell_of hz 9; have z10 := cell_of hz 10; have z11 := cell_of hz 11; have z12 := cell_of hz 12; have z13 := cell_of hz 13; have z14 := cell_of hz 14; have z15 := cell_of hz 15; simp at z0 z1 z2 z3 z4 z5 z6 z7 z8 z9 z10 z11 z12 z13 z14 z15; have HZ : Hid (w3.heap[W.heap.size]? = some (.cells #[.int .i64 0, .int .i64 0, .int .i64 0, .int .i64 0, .complex .f64 0 0, .int .i64 0, .int .i64 0, .int .i64 0, .int .i64 0, .string ⟨#[]⟩, .int .i64 0, .string ⟨#[]⟩, .int .i64 0, .string ⟨#[]⟩, .slice none 0 0, .slice none 0 0] 30 (0, 0)) ∧ Row7 w3 w.heap.size (.slice a2 es.length c2) es ∧ RowK w3 w.heap.size (.slice a3 ks.length c3) ks ∧ Below w.heap.size w w3) := ⟨hz, owns_le (hr2.below hb3) (Nat.le_trans HBx.out.2.2.1.size hd.size), owns_le hr3 (Nat.le_trans (Nat.le_trans HBx.out.2.2.1.size hd.size) hb2.size), chainB HBx.out.2.2.1 (chainB (chainB hd hb2) hb3)⟩; have kP := HPut.out _ (chainB (chainB hd hb2) hb3) [.int .i64 kind, .int .i64 client, .int .i64 life, .int .i64 seq, .complex .f64 (floatOfInt .f64 ep) (floatOfInt .f64 nb), .int .i64 vers, .int .i64 err, .int .i64 op.kind, .int .i64 op.dir, .string op.nm, .int .i64 op.dst, .string op.new, .int .i64 op.mode, .string op.tg, .slice a2 es.length c2, .slice a3 ks.length c3]; simp only [putC] at kP; clear hz))
  have hfin := putC_all (g := W.heap.size) (xs := [.int .i64 kind, .int .i64 client, .int .i64 life, .int .i64 seq, .complex .f64 (floatOfInt .f64 ep) (floatOfInt .f64 nb), .int .i64 vers, .int .i64 err, .int .i64 op.kind, .int .i64 op.dir, .string op.nm, .int .i64 op.dst, .string op.new, .int .i64 op.mode, .string op.tg, .slice a2 es.length c2, .slice a3 ks.length c3]) HZ.out.1 rfl
  have hon := putC_only W.heap.size [.int .i64 kind, .int .i64 client, .int .i64 life, .int .i64 seq, .complex .f64 (floatOfInt .f64 ep) (floatOfInt .f64 nb), .int .i64 vers, .int .i64 err, .int .i64 op.kind, .int .i64 op.dir, .string op.nm, .int .i64 op.dst, .string op.new, .int .i64 op.mode, .string op.tg, .slice a2 es.length c2, .slice a3 ks.length c3] 0 w3
  have htg : ∀ k, k = W.heap.size → Tag w3 k 30 := fun k e => by rw [e]; exact ⟨_, _, HZ.out.1⟩
  go_wp2
  refine bodyPost_ret (results_cell_row rfl _ _ W.heap.size _ _ _ _ rfl hfin Try.underlying30 rfl Try.sizeMsg) rfl ?_
  exact ⟨.slice a2 es.length c2, .slice a3 ks.length c3, rfl, row7_tag HZ.out.2.1 hon htg, rowK_tag HZ.out.2.2.1 hon htg, hon.below HZ.out.2.2.2 HZ.out.2.2.2.size (fun k hk => by have := HBx.out.2.2.2; omega)⟩
end
section
open Go.RowKit Go.Lib
attribute [local go_sem high] eqO neqO guardO

set_option maxRecDepth 20000 in
set_option maxHeartbeats 16000000 in
theorem sameMsg_yes (kind client life seq : Int) (re im re2 im2 : Nat) (vers err : Int) (op : Opn) (ve vk ve2 vk2 : Value) (es : List En) (ks : List Ky) (w : World) (h1 : FloatKind.f64.format.order re re2 = some .eq) (h2 : FloatKind.f64.format.order im im2 = some .eq)
    (he : Row7 w 0 ve es) (he2 : Row7 w 0 ve2 es) (hk : RowK w 0 vk ks) (hk2 : RowK w 0 vk2 ks) (hle : es.length ≤ 1000000000) (hlk : ks.length ≤ 1000000000) :
    Calls Try.prog 9 #[.agg (Ms.arr ⟨kind, client, life, seq, re, im, vers, err, op, ve, vk, es, ks⟩), .agg (Ms.arr ⟨kind, client, life, seq, re2, im2, vers, err, op, ve2, vk2, es, ks⟩)] w fun e w' => e = .returned (.bool true) ∧ Below w.heap.size w w' := by
  obtain ⟨ae, ce, rfl⟩ := owns_len he
  obtain ⟨ae2, ce2, rfl⟩ := owns_len he2
  obtain ⟨ak, ck, rfl⟩ := owns_len hk
  obtain ⟨ak2, ck2, rfl⟩ := owns_len hk2
  unfold Ms.arr
  simp only []
  obtain ⟨W, hW⟩ : ∃ W, w.alloc (.cells #[.int .i64 kind, .int .i64 client, .int .i64 life, .int .i64 seq, .complex .f64 re im, .int .i64 vers, .int .i64 err, .int .i64 op.kind, .int .i64 op.dir, .string op.nm, .int .i64 op.dst, .string op.new, .int .i64 op.mode, .string op.tg, .slice ae es.length ce, .slice ak ks.length ck] 30) = W := ⟨_, rfl⟩
  obtain ⟨W2, hW2⟩ : ∃ W2, W.alloc (.cells #[.int .i64 kind, .int .i64 client, .int .i64 life, .int .i64 seq, .complex .f64 re2 im2, .int .i64 vers, .int .i64 err, .int .i64 op.kind, .int .i64 op.dir, .string op.nm, .int .i64 op.dst, .string op.new, .int .i64 op.mode, .string op.tg, .slice ae2 es.length ce2, .slice ak2 ks.length ck2] 30) = W2 := ⟨_, rfl⟩
  have hb := boxB hW
  have hb2 := boxB hW2
  have HB : Hid (W2.heap[w.heap.size]? = some (.cells #[.int .i64 kind, .int .i64 client, .int .i64 life, .int .i64 seq, .complex .f64 re im, .int .i64 vers, .int .i64 err, .int .i64 op.kind, .int .i64 op.dir, .string op.nm, .int .i64 op.dst, .string op.new, .int .i64 op.mode, .string op.tg, .slice ae es.length ce, .slice ak ks.length ck] 30 (0, 0)) ∧ W2.heap[W.heap.size]? = some (.cells #[.int .i64 kind, .int .i64 client, .int .i64 life, .int .i64 seq, .complex .f64 re2 im2, .int .i64 vers, .int .i64 err, .int .i64 op.kind, .int .i64 op.dir, .string op.nm, .int .i64 op.dst, .string op.new, .int .i64 op.mode, .string op.tg, .slice ae2 es.length ce2, .slice ak2 ks.length ck2] 30 (0, 0)) ∧ Below w.heap.size w W2) := ⟨hkeep hb.1 hb2.2, hb2.1, chainB hb.2 hb2.2⟩
  have x0 := cell_of HB.out.1 0
  have y0 := cell_of HB.out.2.1 0
  have x1 := cell_of HB.out.1 1
  have y1 := cell_of HB.out.2.1 1
  have x2 := cell_of HB.out.1 2
  have y2 := cell_of HB.out.2.1 2
  have x3 := cell_of HB.out.1 3
  have y3 := cell_of HB.out.2.1 3
  have x4 := cell_of HB.out.1 4
  have y4 := cell_of HB.out.2.1 4
  have x5 := cell_of HB.out.1 5
  have y5 := cell_of HB.out.2.1 5
  have x6 := cell_of HB.out.1 6
  have y6 := cell_of HB.out.2.1 6
  have x7 := cell_of HB.out.1 7
  have y7 := cell_of HB.out.2.1 7
  have x8 := cell_of HB.out.1 8
  have y8 := cell_of HB.out.2.1 8
  have x9 := cell_of HB.out.1 9
  have y9 := cell_of HB.out.2.1 9
  have x10 := cell_of HB.out.1 10
  have y10 := cell_of HB.out.2.1 10
  have x11 := cell_of HB.out.1 11
  have y11 := cell_of HB.out.2.1 11
  have x12 := cell_of HB.out.1 12
  have y12 := cell_of HB.out.2.1 12
  have x13 := cell_of HB.out.1 13
  have y13 := cell_of HB.out.2.1 13
  have x14 := cell_of HB.out.1 14
  have y14 := cell_of HB.out.2.1 14
  have x15 := cell_of HB.out.1 15
  have y15 := cell_of HB.out.2.1 15
  simp at x0 y0 x1 y1 x2 y2 x3 y3 x4 y4 x5 y5 x6 y6 x7 y7 x8 y8 x9 y9 x10 y10 x11 y11 x12 y12 x13 y13 x14 y14 x15 y15
  have HSe : Hid (∀ W3, Below W2.heap.size W2 W3 → Calls Try.prog 24 #[.slice ae es.length ce, .slice ae2 es.length ce2] W3 fun e w' => e = .returned (.bool true) ∧ Below W3.heap.size W3 w') := fun W3 h3 => by
    have := sameE_any _ _ es es 0 0 W3 (he.below (chainB HB.out.2.2 h3)) (he2.below (chainB HB.out.2.2 h3)) hle hle
    rw [(sameEs_iff es es).2 rfl] at this
    exact this
  have HSk : Hid (∀ W3, Below W2.heap.size W2 W3 → Calls Try.prog 25 #[.slice ak ks.length ck, .slice ak2 ks.length ck2] W3 fun e w' => e = .returned (.bool true) ∧ Below W3.heap.size W3 w') := fun W3 h3 => by
    have := sameK_any _ _ ks ks 0 0 W3 (hk.below (chainB HB.out.2.2 h3)) (hk2.below (chainB HB.out.2.2 h3)) hlk hlk
    rw [(sameKs_iff ks ks).2 rfl] at this
    exact this
  have heO : eqOp ⟨op.kind, op.dir, op.nm, op.dst, op.new, op.mode, op.tg⟩ ⟨op.kind, op.dir, op.nm, op.dst, op.new, op.mode, op.tg⟩ = true := (eqOp_iff _ _).2 rfl
  clear he he2 hk hk2 hb hb2
  go_enter Try.func9, Try.ntmps9
  go_upto_region 1 with fail
  clear hW hW2
  go_wp2_with (first
    | (go_at_call 24; refine (HSe.out _ (Below.refl _ _)).mono ?_; rintro e w1 ⟨rfl, hb1⟩; have p15 := cell_of (hkeep HB.out.1 hb1) 15; have q15 := cell_of (hkeep HB.out.2.1 hb1) 15; simp at p15 q15)
    | (go_at_call 25; refine (HSk.out _ hb1).mono ?_; rintro e w2 ⟨rfl, hb2⟩))
  go_ret
  exact ⟨rfl, chainB HB.out.2.2 (chainB hb1 hb2)⟩
end
section
open Go.RowKit Go.Lib

def exM : Mg := ⟨4, 1, 2, 0, 3, 4, 5, 0, zeroOp, [], []⟩
theorem num_small {n : Nat} (h : n < 128) : numI (n : Int) = [(n : Int)] := by unfold numI; rw [Int.toNat_natCast, numB_lt h]
theorem exM_ok : msgOk exM := by
  refine ⟨⟨?_, ?_, ?_, ?_, ?_, ?_, ?_⟩, .inr (.inr (.inr ⟨rfl, rfl, rfl, rfl⟩))⟩ <;> (unfold numOk exM; decide)
theorem exM_B : msgB exM = [4, 1, 2, 0, 3, 4, 5, 0] := by
  have h0 := num_small (n := 0) (by decide)
  have h1 := num_small (n := 1) (by decide)
  have h2 := num_small (n := 2) (by decide)
  have h3 := num_small (n := 3) (by decide)
  have h4 := num_small (n := 4) (by decide)
  have h5 := num_small (n := 5) (by decide)
  show (4 : Int) :: (numI ((1 : Nat) : Int) ++ (numI ((2 : Nat) : Int) ++ (numI ((0 : Nat) : Int) ++ (numI ((3 : Nat) : Int) ++ (numI ((4 : Nat) : Int) ++ (numI ((5 : Nat) : Int) ++ (numI ((0 : Nat) : Int) ++ []))))))) = _
  rw [h0, h1, h2, h3, h4, h5]
  rfl
theorem of3 : floatOfInt .f64 3 = 4613937818241073152 := by decide +kernel
theorem of4 : floatOfInt .f64 4 = 4616189618054758400 := by decide +kernel
theorem encode_ex (w : World) : Calls Try.prog 16 #[.agg #[.int .i64 4, .int .i64 1, .int .i64 2, .int .i64 0, .complex .f64 4613937818241073152 4616189618054758400, .int .i64 5, .int .i64 0, .int .i64 0, .int .i64 0, .string ⟨#[]⟩, .int .i64 0, .string ⟨#[]⟩, .int .i64 0, .string ⟨#[]⟩, .slice none 0 0, .slice none 0 0]] w fun e w' => ∃ a c, e = .returned (.tuple #[.slice a 8 c, .int .i64 0]) ∧ OwnB w' w.heap.size (.slice a 8 c) [4, 1, 2, 0, 3, 4, 5, 0] ∧ Below w.heap.size w w' := by
  have hp : plainB (MsV exM (.slice none 0 0) (.slice none 0 0)) = true := (MsV_plain (by unfold numOk exM; decide) (by unfold numOk exM; decide)).2 exM_ok
  have hm : (MsV exM (.slice none 0 0) (.slice none 0 0)).mg = exM := MsV_mg (by unfold numOk exM; decide) (by unfold numOk exM; decide)
  have h := encode_p (MsV exM (.slice none 0 0) (.slice none 0 0)) w ⟨World.ownsRow_nil _ _ _ _, World.ownsRow_nil _ _ _ _⟩
  rw [hp, hm, exM_B] at h
  unfold MsV exM Ms.arr at h
  simp only [of3, of4] at h
  refine h.mono fun e w' hh => ?_
  rcases hh with ⟨_, v, he, ho, hb⟩ | ⟨h0, _⟩
  · obtain ⟨a, c, hv⟩ := owns_len ho
    subst hv
    exact ⟨a, c, he, ho, hb⟩
  · cases h0
theorem lit8 (w : World) (t : TypeId) : RB (w.alloc (.cells #[.int .u8 4, .int .u8 1, .int .u8 2, .int .u8 0, .int .u8 3, .int .u8 4, .int .u8 5, .int .u8 0] t)) (.slice (some ⟨w.heap.size, 0, none⟩) 8 8) [4, 1, 2, 0, 3, 4, 5, 0] := by
  refine ⟨_, _, rfl, .inr ⟨w.heap.size, 0, rfl, by simp, fun i x hx => ?_⟩⟩
  rw [Nat.zero_add, cell_of (heap_new _ _)]
  have hi := (List.getElem?_eq_some_iff.1 hx).1
  have : i = 0 ∨ i = 1 ∨ i = 2 ∨ i = 3 ∨ i = 4 ∨ i = 5 ∨ i = 6 ∨ i = 7 := by simp at hi; omega
  rcases this with rfl | rfl | rfl | rfl | rfl | rfl | rfl | rfl <;> (cases hx; rfl)
set_option maxRecDepth 20000 in
set_option maxHeartbeats 8000000 in
theorem awake_w (w : World) : Calls Try.prog 10 #[] w fun e w' => e = .returned (.bool true) ∧ Below w.heap.size w w' := by
  have HE : Hid (∀ w, Calls Try.prog 16 #[.agg #[.int .i64 4, .int .i64 1, .int .i64 2, .int .i64 0, .complex .f64 4613937818241073152 4616189618054758400, .int .i64 5, .int .i64 0, .int .i64 0, .int .i64 0, .string ⟨#[]⟩, .int .i64 0, .string ⟨#[]⟩, .int .i64 0, .string ⟨#[]⟩, .slice none 0 0, .slice none 0 0]] w fun e w' => ∃ a c, e = .returned (.tuple #[.slice a 8 c, .int .i64 0]) ∧ OwnB w' w.heap.size (.slice a 8 c) [4, 1, 2, 0, 3, 4, 5, 0] ∧ Below w.heap.size w w') := encode_ex
  go_enter Try.func10, Try.ntmps10
  go_wp2_with (first
    | (go_at_call 16; refine (HE.out _).mono ?_; rintro e w1 ⟨a1, c1, rfl, ho1, hb1⟩)
    | (go_at_call 18; refine (same_any _ _ [4, 1, 2, 0, 3, 4, 5, 0] [4, 1, 2, 0, 3, 4, 5, 0] _ (ho1.below (below_alloc _ _)).rb (lit8 w1 _) (by decide) (by decide)).mono ?_; rintro e w2 ⟨rfl, hb2⟩; rw [decide_eq_true (rfl : ([4, 1, 2, 0, 3, 4, 5, 0] : List Int) = [4, 1, 2, 0, 3, 4, 5, 0])]))
  go_ret
  exact ⟨rfl, chainB hb1 (chainB (below_alloc _ _) hb2)⟩
end
end Go.Proofs.Ytekonakanieeaaa
