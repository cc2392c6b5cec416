/- prune's evict at any count; Trim. (Written by genprk.py.) -/
import Derived.Test.YtabdicbmecgogaaJPEpt30
import Derived.Test.YtabdicbmecgogaaJPEpt15
import Derived.Test.YtabdicbmecgogaaJPEpt23
namespace Go.Proofs.Ytabdicbmecgogaa
section
open Go.RowKit
attribute [local go_sem ↓ high] loadEn storeEn

set_option maxHeartbeats 2000000 in
theorem evictA1_p {w0 w : World} {p : Nat} {s : Cs} {n : Nat} {F : Nat → Prop} (h : Ld w0 w p s n F) (hn : n ≤ 1400000000000) (z : Int) (hz : z ≤ 1400000000000) :
    Calls Try.prog 35 #[.pointer (some ⟨p, 0, none⟩), .int .i64 z, .func (.func 53) #[] #[]] w fun r w' => EvR true s z.toNat w0 w p n F r w' := by
  by_cases hz0 : z ≤ 0
  · have HZ : Hid (EvR true s z.toNat w0 w p n F (.returned (.slice none 0 0)) w) := by
      rw [show z.toNat = 0 by omega]
      exact ⟨_, rfl, World.ownsRow_nil _ _ _ _, ⟨h, fun _ _ => rfl, Nat.le_refl _⟩, h.mono (fun k hk => hk.elim id fun e => (by cases e)) (Nat.le_refl _)⟩
    clear h hn hz
    go_enter Try.func35, Try.ntmps35
    go_wp2
    go_ret
    exact HZ.out
  · obtain ⟨cnt, rfl⟩ : ∃ cnt : Nat, z = (cnt : Int) := ⟨z.toNat, by omega⟩
    rw [Int.toNat_natCast]
    exact evict1_p h hn cnt (by omega) (by omega)
set_option maxHeartbeats 2000000 in
theorem evictA2_p {w0 w : World} {p : Nat} {s : Cs} {n : Nat} {F : Nat → Prop} (gc : Nat) (h : Ld w0 w p s n F) (hn : n ≤ 1400000000000) (z : Int) (hz : z ≤ 1400000000000) (hgc : w.heap[gc]? = some (.cells #[.pointer (some ⟨p, 0, none⟩)] 23 (0, 0))) (hF : F gc) :
    Calls Try.prog 35 #[.pointer (some ⟨p, 0, none⟩), .int .i64 z, .func (.func 54) #[] #[.pointer (some ⟨gc, 0, none⟩)]] w fun r w' => EvR false s z.toNat w0 w p n F r w' := by
  by_cases hz0 : z ≤ 0
  · have HZ : Hid (EvR false s z.toNat w0 w p n F (.returned (.slice none 0 0)) w) := by
      rw [show z.toNat = 0 by omega]
      exact ⟨_, rfl, World.ownsRow_nil _ _ _ _, ⟨h, fun _ _ => rfl, Nat.le_refl _⟩, h.mono (fun k hk => hk.elim id fun e => (by cases e)) (Nat.le_refl _)⟩
    clear h hn hz hgc hF
    go_enter Try.func35, Try.ntmps35
    go_wp2
    go_ret
    exact HZ.out
  · obtain ⟨cnt, rfl⟩ : ∃ cnt : Nat, z = (cnt : Int) := ⟨z.toNat, by omega⟩
    rw [Int.toNat_natCast]
    exact evict2_p gc h hn cnt (by omega) (by omega) hgc hF
theorem appK_none {w : World} {B : Nat} {v : Value} {l : List Ky} (h : RowK w B v l) (c : Nat) (ty : TypeId) : (Builtin.append_ #[33, 33] ty #[v, .slice none 0 c]).run Try.prog w = .ok v w := by
  obtain ⟨i, hi, hz, -, hb⟩ := info_parts Try.infoKy'
  rcases h.2 with ⟨rfl, h0⟩ | ⟨g, cap, cur, rfl, hbg, hg, hnc, hcm, hcs, htake⟩
  · simp [Builtin.append_, run_underlying Try.underlying33, sizeOf, typeInfo, zeroValue, hi, hz, hb, Builtin.lenOf, run_firstCells_none]
  · simp [storeCells, Builtin.append_, run_underlying Try.underlying33, sizeOf, typeInfo, zeroValue, hi, hz, hb, hnc, Builtin.lenOf, run_firstCells_none]
/-- append of one list of keys to another -/
theorem appK_any {w : World} {B B2 : Nat} {v v2 : Value} {l l2 : List Ky} (h : RowK w B v l) (h2 : RowK w B2 v2 l2) (hB : B ≤ w.heap.size) (hl : (l.length + l2.length) * 24 ≤ 140737488355328) :
    ∃ a6 N6 c6 W, (∀ ty, (Builtin.append_ #[33, 33] ty #[v, v2]).run Try.prog w = .ok (.slice a6 N6 c6) W) ∧ RowK W B (.slice a6 N6 c6) (l ++ l2) ∧ Only (fun k => v.ownBlock = some k) w W ∧ (∀ b, (Value.slice a6 N6 c6).ownBlock = some b → v.ownBlock = some b ∨ w.heap.size ≤ b) := by
  rcases h2.2 with ⟨rfl, h0⟩ | ⟨g, cap, cur, e2, hbg, hg, hnc, hcm, hcs, htake⟩
  · have he : l2 = [] := List.length_eq_zero_iff.1 h0
    subst he
    obtain ⟨a6, c6, rfl⟩ := owns_len h
    exact ⟨a6, _, c6, w, fun ty => appK_none h 0 ty, by rw [List.append_nil]; exact h, Only.refl _ _, fun b hb => .inl hb⟩
  · subst e2
    have hc : ∀ j u, (kc l2)[j]? = some u → w.cell? ((⟨g, 0, none⟩ : Addr).add j) = some u := fun j u hu => World.ownsRow.cells h2 rfl j u hu
    obtain ⟨v6, W, r6, row6, o6, p6⟩ := appK (ad := ⟨g, 0, none⟩) (c := cap) h hc hB hl
    obtain ⟨a6, c6, rfl⟩ := owns_len row6
    refine ⟨a6, _, c6, W, r6, row6, o6, fun b hb => ?_⟩
    rcases p6 with p6 | p6
    · rw [p6] at hb; exact .inl hb
    · rw [p6] at hb
      exact .inr (by have := Option.some.inj hb; omega)
theorem evN_len (b : Bool) : ∀ (n : Nat) (s : Cs), (evN b n s).1.length ≤ s.L.length
  | 0, s => Nat.zero_le _
  | n + 1, s => by
    rw [evN]
    cases h : vicS s b with
    | none => exact Nat.zero_le _
    | some e =>
      simp only [List.length_cons]
      have h1 := evN_len b n (s.evict e.key)
      have h2 : e ∈ s.L := List.mem_of_find?_eq_some h
      have h3 : (s.evict e.key).L.length < s.L.length := by
        rw [evict_L]
        unfold outL
        refine List.length_filter_lt_length_iff_exists.2 ⟨e, h2, ?_⟩
        have : hasK e.key e = true := hasK_iff.2 ⟨rfl, rfl⟩
        simp [this]
      omega
/-- Trim, plainly -/
def trimA (s : Cs) (neg : Int) : List Ky × Cs := evN true ((negN s.L : Int) - max neg 0).toNat s
def trimB (s : Cs) (most : Int) : List Ky × Cs := evN false ((s.L.length : Int) - max most 0).toNat s
def trimS (s : Cs) (most neg : Int) : List Ky × Cs := ((trimA s neg).1 ++ (trimB (trimA s neg).2 most).1, (trimB (trimA s neg).2 most).2)
def TrR (s : Cs) (most neg : Int) (w0 w : World) (p n : Nat) (F : Nat → Prop) (r : Ending) (w' : World) : Prop := ∃ v, r = .returned v ∧ RowK w' w.heap.size v (trimS s most neg).1 ∧ Ldc w0 w w' p (trimS s most neg).2 n F ∧ Ld w0 w' p (trimS s most neg).2 n (fun k => F k ∨ v.ownBlock = some k)
set_option maxRecDepth 20000 in
set_option maxHeartbeats 4000000 in
theorem trim_p {w0 w : World} {p : Nat} {s : Cs} {n : Nat} {F : Nat → Prop} (h : Ld w0 w p s n F) (hn : n ≤ 1400000000000) (most neg : Int) (hmost : most ≤ 9223372036854775807) (hneg : neg ≤ 9223372036854775807) :
    Calls Try.prog 10 #[.pointer (some ⟨p, 0, none⟩), .int .i64 most, .int .i64 neg] w fun r w' => TrR s most neg w0 w p n F r w' := by
  obtain ⟨q, hq⟩ : ∃ q, negN s.L = q := ⟨_, rfl⟩
  have hqn : q ≤ 1400000000000 := by
    rw [← hq]
    unfold negN
    exact Nat.le_trans (List.length_filter_le _ _) (Nat.le_trans h.len hn)
  have HN : Hid (Calls Try.prog 16 #[.pointer (some ⟨p, 0, none⟩)] w fun x w' => x = .returned (.int .i64 q) ∧ Below w.heap.size w w') := by rw [← hq]; exact ld_neg h (by omega)
  obtain ⟨A, hA⟩ : ∃ A, trimA s neg = A := ⟨_, rfl⟩
  have HE1 : Hid (∀ w1 z, Below w.heap.size w w1 → z = (q : Int) - max neg 0 → Calls Try.prog 35 #[.pointer (some ⟨p, 0, none⟩), .int .i64 z, .func (.func 53) #[] #[]] w1 fun r w' => ∃ a1 m1 c1, r = .returned (.slice a1 m1 c1) ∧ RowK w' w1.heap.size (.slice a1 m1 c1) A.1 ∧ Ldc w0 w1 w' p A.2 n F ∧ Ld w0 w' p A.2 n (fun k => F k ∨ (Value.slice a1 m1 c1).ownBlock = some k)) := fun w1 z hb hz => by
    refine (evictA1_p (h.on' hb) hn z (by omega)).mono ?_
    rintro r w' ⟨v, rfl, h1, h2, h3⟩
    have e : evN true z.toNat s = A := by rw [← hA]; unfold trimA; rw [hz, hq]
    rw [e] at h1 h2 h3
    obtain ⟨a1, c1, rfl⟩ := owns_len h1
    exact ⟨a1, _, c1, rfl, h1, h2, h3⟩
  have hAl : A.1.length ≤ 1400000000000 := by
    rw [← hA]
    exact Nat.le_trans (evN_len _ _ _) (Nat.le_trans h.len hn)
  obtain ⟨B, hB⟩ : ∃ B, trimB A.2 most = B := ⟨_, rfl⟩
  have hT : trimS s most neg = (A.1 ++ B.1, B.2) := by unfold trimS; rw [hA, hB]
  obtain ⟨lq, hlq⟩ : ∃ lq, A.2.L.length = lq := ⟨_, rfl⟩
  have HLn : Hid (∀ w2 F', Ld w0 w2 p A.2 n F' → Calls Try.prog 36 #[.pointer (some ⟨p, 0, none⟩)] w2 fun x w' => (x = .returned (.int .i64 lq) ∧ Below w2.heap.size w2 w') ∧ lq ≤ 1400000000000) := fun w2 F' h2 => by
    refine (ld_len h2 (by omega)).mono ?_
    rintro x w' ⟨rfl, hb⟩
    rw [hlq]
    exact ⟨⟨rfl, hb⟩, by rw [← hlq]; exact Nat.le_trans h2.len hn⟩
  have HE2 : Hid (∀ w4 z gc F', Ld w0 w4 p A.2 n F' → w4.heap[gc]? = some (.cells #[.pointer (some ⟨p, 0, none⟩)] 23 (0, 0)) → F' gc → lq ≤ 1400000000000 → z = (lq : Int) - max most 0 → Calls Try.prog 35 #[.pointer (some ⟨p, 0, none⟩), .int .i64 z, .func (.func 54) #[] #[.pointer (some ⟨gc, 0, none⟩)]] w4 fun r w' => ∃ a2 m2 c2, r = .returned (.slice a2 m2 c2) ∧ RowK w' w4.heap.size (.slice a2 m2 c2) B.1 ∧ Ldc w0 w4 w' p B.2 n F') := fun w4 z gc F' h4 hg hf hl hz => by
    refine (evictA2_p gc h4 hn z (by omega) hg hf).mono ?_
    rintro r w' ⟨v, rfl, h1, h2, h3⟩
    have e : evN false z.toNat A.2 = B := by rw [← hB]; unfold trimB; rw [hz, hlq]
    rw [e] at h1 h2
    obtain ⟨a1, c1, rfl⟩ := owns_len h1
    exact ⟨a1, _, c1, rfl, h1, h2⟩
  have HBl : Hid (B.1.length ≤ lq) := by
    show B.1.length ≤ lq
    rw [← hB, ← hlq]
    exact evN_len _ _ _
  have HT : Hid (trimS s most neg = (A.1 ++ B.1, B.2) ∧ Ld w0 w p s n F ∧ A.1.length ≤ 1400000000000) := ⟨hT, h, hAl⟩
  clear h hA hB hT hq hlq hAl
  go_enter Try.func10, Try.ntmps10
  go_wp2_with (first
    | (go_at_call 36; refine (HLn.out _ _ H2.out.2.ld).mono ?_; rintro r w3 ⟨⟨rfl, hb⟩, hlq⟩; have H3 : Hid (Below w2.heap.size w2 w3 ∧ lq ≤ 1400000000000) := ⟨hb, hlq⟩; clear hb)
    | (go_at_call 16; refine HN.out.mono ?_; rintro r w1 ⟨rfl, hb⟩; have H1 : Hid (Below w.heap.size w w1) := hb; clear hb)
    | (go_at_call 33; first
      | (have q := H3; refine (mayF_p p w3).mono ?_; rintro r w4 ⟨gc, rfl, hg, hgl, hb⟩; have H4 : Hid (Ei w0 w w4 p A.2 n F (New (fun k => (Value.slice a1 m1 c1).ownBlock = some k) w2 w4) ∧ w4.heap[gc]? = some (.cells #[.pointer (some ⟨p, 0, none⟩)] 23 (0, 0)) ∧ New (fun k => (Value.slice a1 m1 c1).ownBlock = some k) w2 w4 gc) := ⟨H2.out.2.on (chainB H3.out.1 hb), hg, .inr ⟨Nat.le_trans H3.out.1.size hgl, (Array.getElem?_eq_some_iff.1 hg).1⟩⟩; have H4b : Hid (Below w2.heap.size w2 w4) := chainB H3.out.1 hb; clear q hg hgl hb)
      | (refine (mayT_p p w1).mono ?_; rintro r w1b ⟨rfl, hb⟩; have H1b : Hid (Below w.heap.size w w1b) := chainB H1.out hb; clear hb))
    | (go_at_call 35; first
      | (have q := H4; refine (HE2.out w4 _ gc _ H4.out.1.ld H4.out.2.1 (.inr H4.out.2.2) H3.out.2 (by omega)).mono ?_; rintro r w5 ⟨a2, m2, c2, rfl, hr, hc⟩; have H5 : Hid (Ei w0 w w5 p B.2 n F (New (fun k => (Value.slice a1 m1 c1).ownBlock = some k) w2 w4) ∧ RowK w5 w.heap.size (.slice a1 m1 c1) A.1 ∧ RowK w5 w4.heap.size (.slice a2 m2 c2) B.1) := ⟨H4.out.1.gone hc, owns_moved (owns_below H2.out.1 H4b.out) fun k hk => hc.kept k (.inr (.inl hk)), hr⟩; clear q hr hc; obtain ⟨a6, N6, c6, Z, r6, row6, o6, n6⟩ := appK_any H5.out.2.1 H5.out.2.2 H5.out.1.size (by have := HBl.out; have := H3.out.2; have := HT.out.2.2; omega))
      | (refine (HE1.out w1b _ H1b.out (by omega)).mono ?_; rintro r w2 ⟨a1, m1, c1, rfl, hr, hc, hl⟩; have H2 : Hid (RowK w2 w.heap.size (.slice a1 m1 c1) A.1 ∧ Ei w0 w w2 p A.2 n F (fun k => (Value.slice a1 m1 c1).ownBlock = some k)) := ⟨owns_le hr H1b.out.size, hl, fun k hk => (hc.kept k hk).trans (H1b.out.block k (HT.out.2.1.fl k hk)), fun k hk => Nat.le_trans H1b.out.size (World.ownsRow.lt hr k hk).1, HT.out.2.1.fl, Nat.le_trans H1b.out.size hc.size, HT.out.2.1.below.size⟩; clear hr hc hl))
    | (at_builtin; refine wpList_apR rfl (.tmp 17) (.tmp 26) 33 rfl _ _ (.slice a6 N6 c6) Z (by simp [Act.eval]) (by simp [Act.eval]) r6 ?_))
  all_goals (
    go_ret
    have ei6 := H5.out.1.own (o6.mono fun k hk => .inl hk)
    unfold TrR
    rw [HT.out.1]
    refine ⟨_, rfl, row6, ei6.ldc, ei6.ld.mono (fun k hk => hk.imp id fun hv => ?_) (Nat.le_refl _)⟩
    rcases n6 k hv with h | h
    · exact .inl (.inl h)
    · exact .inr ⟨h, (World.ownsRow.lt row6 k hv).2⟩)
end
section
open Go.RowKit
attribute [local go_sem ↓ high] loadEn storeEn
attribute [local go_sem high] eqK neqK guardK

def pA : En := ⟨1, ⟨#[97]⟩, false, 2, 1, 0, ⟨#[]⟩⟩
def pB : En := ⟨2, ⟨#[98]⟩, false, 3, 2, 0, ⟨#[]⟩⟩
theorem pw1 : putS Cs.clear pA = ⟨[pA], []⟩ := by
  unfold putS
  rw [if_neg (by decide)]
  rfl
theorem pw2 : putS ⟨[pA], []⟩ pB = ⟨[pA, pB], []⟩ := by
  unfold putS
  rw [if_neg (by decide)]
  rfl
theorem pw3 : trimS ⟨[pA, pB], []⟩ 1 9 = ([⟨2, ⟨#[98]⟩⟩], ⟨[pA], []⟩) := by kernel_rfl
set_option maxRecDepth 100000 in
set_option maxHeartbeats 8000000 in
theorem awake13_p (w : World) : Calls Try.prog 13 #[] w fun x w' => x = .returned (.bool true) ∧ Below w.heap.size w w' := by
  have HN : Hid (Calls Try.prog 18 #[] w fun x w' => ∃ p, x = .returned (.pointer (some ⟨p, 0, none⟩)) ∧ Ldc w w w' p Cs.clear 0 (fun _ => False)) := ld_new w w _ (Below.refl _ _) (fun k hk => hk.elim)
  have HP : Hid (∀ W p, Ld w W p Cs.clear 0 (fun _ => False) → Calls Try.prog 20 #[.pointer (some ⟨p, 0, none⟩), .agg #[.int .i64 1, .string ⟨#[97]⟩, .bool false, .int .i64 2, .int .i64 1, .int .i64 0, .string ⟨#[]⟩]] W fun x w' => x = .returned (.int .i64 0) ∧ Ld w w' p ⟨[pA], []⟩ 1 (fun _ => False)) := fun W p h => by
    refine (ld_put h pA (by omega)).mono ?_
    rintro x w' ⟨rfl, hc⟩
    rw [pw1] at hc
    exact ⟨rfl, hc.ld⟩
  have HP2 : Hid (∀ W p, Ld w W p ⟨[pA], []⟩ 1 (fun _ => False) → Calls Try.prog 20 #[.pointer (some ⟨p, 0, none⟩), .agg #[.int .i64 2, .string ⟨#[98]⟩, .bool false, .int .i64 3, .int .i64 2, .int .i64 0, .string ⟨#[]⟩]] W fun x w' => x = .returned (.int .i64 0) ∧ Ld w w' p ⟨[pA, pB], []⟩ 2 (fun _ => False)) := fun W p h => by
    refine (ld_put h pB (by omega)).mono ?_
    rintro x w' ⟨rfl, hc⟩
    rw [pw2] at hc
    exact ⟨rfl, hc.ld⟩
  have HT : Hid (∀ W p, Ld w W p ⟨[pA, pB], []⟩ 2 (fun _ => False) → Calls Try.prog 10 #[.pointer (some ⟨p, 0, none⟩), .int .i64 1, .int .i64 9] W fun r w' => ∃ g c, r = .returned (.slice (some ⟨g, 0, none⟩) 1 c) ∧ (w'.cell? ⟨g, 0, none⟩ = some (.int .i64 2) ∧ w'.cell? ⟨g, 1, none⟩ = some (.string ⟨#[98]⟩)) ∧ Ld w w' p ⟨[pA], []⟩ 2 (fun _ => False)) := fun W p h => by
    refine (trim_p h (by omega) 1 9 (by omega) (by omega)).mono ?_
    rintro r w' ⟨v, rfl, h1, h2, -⟩
    rw [pw3] at h1 h2
    obtain ⟨a, c, rfl⟩ := owns_len h1
    obtain ⟨g, rfl, -, -, k0, k1, -⟩ := RowK.key (i := 0) (p := ⟨2, ⟨#[98]⟩⟩) h1 rfl
    exact ⟨g, c, rfl, ⟨k0, k1⟩, h2.ld⟩
  have HL : Hid (∀ W p F, Ld w W p ⟨[pA], []⟩ 2 F → Calls Try.prog 36 #[.pointer (some ⟨p, 0, none⟩)] W fun x w' => x = .returned (.int .i64 1) ∧ Below W.heap.size W w') := fun W p F h => ld_len h (by omega)
  go_enter Try.func13, Try.ntmps13
  go_wp2_with (first
    | (go_at_call 36; refine (HL.out _ _ _ H4.out).mono ?_; rintro r w5 ⟨rfl, hb⟩; have H5 : Hid (Below w.heap.size w w5) := chainB H4.out.below hb; clear hb)
    | (go_at_call 10; refine (HT.out _ _ H3.out).mono ?_; rintro r w4 ⟨g4, c4, rfl, ⟨k0, k1⟩, hl⟩; have H4 : Hid (Ld w w4 p ⟨[pA], []⟩ 2 (fun _ => False)) := hl; clear hl)
    | (go_at_call 20; first
      | (refine (HP2.out _ _ H2.out).mono ?_; rintro r w3 ⟨rfl, hl⟩; have H3 : Hid (Ld w w3 p ⟨[pA, pB], []⟩ 2 (fun _ => False)) := hl; clear hl)
      | (refine (HP.out _ _ H1.out).mono ?_; rintro r w2 ⟨rfl, hl⟩; have H2 : Hid (Ld w w2 p ⟨[pA], []⟩ 1 (fun _ => False)) := hl; clear hl))
    | (go_at_call 18; refine HN.out.mono ?_; rintro r w1 ⟨p, rfl, hl⟩; have H1 : Hid (Ld w w1 p Cs.clear 0 (fun _ => False)) := hl.ld; clear hl))
  go_ret
  exact ⟨rfl, H5.out⟩
end
section
open Go.RowKit

def dc (l : List DOp) : List Value := l.flatMap DOp.vals
theorem vals10 (x : DOp) : x.vals.length = 10 := rfl
theorem dc_len (l : List DOp) : (dc l).length = l.length * 10 := by
  unfold dc
  induction l with
  | nil => rfl
  | cons x l ih => rw [List.flatMap_cons, List.length_append, ih, vals10, List.length_cons]; omega
theorem dc_app (a b : List DOp) : dc (a ++ b) = dc a ++ dc b := by unfold dc; rw [List.flatMap_append]
theorem dc_get (l : List DOp) (i j : Nat) (x : DOp) (h : l[i]? = some x) (hj : j < 10) : (dc l)[i * 10 + j]? = x.vals[j]? := by
  induction l generalizing i with
  | nil => simp at h
  | cons y l ih =>
    unfold dc at *
    rw [List.flatMap_cons]
    cases i with
    | zero =>
      simp at h; subst h
      rw [List.getElem?_append_left (by rw [vals10]; omega)]; simp
    | succ i =>
      rw [List.getElem?_append_right (by rw [vals10]; omega), vals10]
      rw [show (i + 1) * 10 + j - 10 = i * 10 + j by omega]
      exact ih i (by simpa using h)
/-- a list of calls in memory -/
def RowO (w : World) (base : Nat) (v : Value) (l : List DOp) : Prop := w.ownsRow base 54 10 v l.length (dc l)
theorem Try.infoDo : (Try.prog.info? 54).map (fun i => (i.zero, i.size, i.bytes)) = some (some (.agg #[.int .i64 0, .int .i64 0, .int .i64 0, .string ⟨#[]⟩, .bool false, .int .i64 0, .int .i64 0, .int .i64 0, .string ⟨#[]⟩, .slice none 0 0]), 10, 112) := by kernel_rfl
theorem appO {w : World} {B : Nat} {v : Value} {l l2 : List DOp} {ad : Addr} {c : Nat} (h : RowO w B v l) (h2 : ∀ j u, (dc l2)[j]? = some u → w.cell? (ad.add j) = some u) (hone : ∀ u ∈ dc l2, u.oneCell' = true) (hB : B ≤ w.heap.size) (hl : (l.length + l2.length) * 112 ≤ 140737488355328) :
    ∃ v3 W, (∀ ty, (Builtin.append_ #[22, 22] ty #[v, .slice (some ad) l2.length c]).run Try.prog w = .ok v3 W) ∧ RowO W B v3 (l ++ l2) ∧ Only (fun k => v.ownBlock = some k) w W := by
  obtain ⟨i1, hi1, hw0, hw1, hw2⟩ := info_parts Try.infoDo
  obtain ⟨v', W, a1, a2, a3, _, a5⟩ := run_append_own_at (P := Try.prog) w B 22 0 54 i1 _ 10 112 Try.underlying22 hi1 hw0 hw1 hw2 rfl (by decide) v l.length (dc l) h ad l2.length c (dc l2) (dc_len l2) h2 hone (by unfold maxLen; omega) hl hB
  refine ⟨v', W, fun ty => ?_, ?_, only_grown a3⟩
  · have : (Builtin.append_ #[22, 22] ty #[v, .slice (some ad) l2.length c]).run Try.prog w = (Builtin.append_ #[22, 22] 0 #[v, .slice (some ad) l2.length c]).run Try.prog w := rfl
    rw [this]; exact a1
  · show World.ownsRow _ _ _ _ _ _ _
    rw [List.length_append, dc_app]; exact a2
def doOne (ps : Array (Nat × Value)) : Sem Value := Instr.buildSlice 22 1 ps
theorem builddo (ps : Array (Nat × Value)) : Instr.buildSlice 22 1 ps = doOne ps := rfl
theorem doOne_of (x : DOp) (w : World) : (doOne #[(0, x.agg)]).run Try.prog w = .ok (.slice (some ⟨w.heap.size, 0, none⟩) 1 1) (w.alloc (.cells (x.vals).toArray 54)) := by
  unfold doOne Instr.buildSlice
  simp [run_underlying Try.underlying22, Try.sizeOf54, Try.zeroValue54, Instr.fill, Value.cells, newRow, DOp.agg, DOp.vals, En.vals]
  rw [show Array.range 10 = #[0, 1, 2, 3, 4, 5, 6, 7, 8, 9] from rfl]
  simp
attribute [irreducible] doOne
theorem keep_op {X : World} {B : Nat} {v : Value} {l : List DOp} (x : DOp) (h : RowO X B v l) (hk : x.vk.oneCell' = true) (hB : B ≤ X.heap.size) (hl : (l.length + 1) * 112 ≤ 140737488355328) : ∃ a6 N6 c6 Z, (∀ ty, (Builtin.append_ #[22, 22] ty #[v, .slice (some ⟨X.heap.size, 0, none⟩) 1 1]).run Try.prog (X.alloc (.cells x.vals.toArray 54)) = .ok (.slice a6 N6 c6) Z) ∧ RowO Z B (.slice a6 N6 c6) (l ++ [x]) ∧ Only (fun b => v.ownBlock = some b) X Z := by
  have bY := below_alloc X (.cells x.vals.toArray 54)
  have e1 : dc [x] = x.vals := by simp [dc]
  obtain ⟨v6, Z, r6, row6, o6⟩ := appO (w := X.alloc (.cells x.vals.toArray 54)) (B := B) (v := v) (l := l) (l2 := [x]) (ad := ⟨X.heap.size, 0, none⟩) (c := 1) (owns_below h bY) (by
    rw [e1]
    exact one_atG (w := X)) (by rw [e1]; exact dvals_one hk) (Nat.le_trans hB bY.size) (by simp only [List.length_cons, List.length_nil]; omega)
  obtain ⟨a6, c6, hv6⟩ := owns_len row6
  subst hv6
  exact ⟨a6, _, c6, Z, r6, row6, (Only.of bY).trans o6⟩
/-- such a list serves as a script -/
theorem RowO.rowD {w : World} {B n c : Nat} {a : Option Addr} {l : List DOp} (h : RowO w B (.slice a n c) l) (hk : ∀ x ∈ l, ArgK w x.vk x.ks) : RowD w a l ∧ n = l.length := by
  have h2 := h.2
  rcases h2 with ⟨h1, h0⟩ | ⟨g, cap, cur, hv, hB, hw, hc, hm, hs, ht⟩
  · injection h1 with h1 h2 h3
    exact ⟨.inl (List.length_eq_zero_iff.1 h0), by omega⟩
  · injection hv with h1 h2 h3
    subst h1 h3
    refine ⟨.inr ⟨g, 0, rfl, (Array.getElem?_eq_some_iff.1 hw).1, fun i x hx => ⟨fun j u hu => ?_, hk x (List.mem_of_getElem? hx)⟩⟩, h2⟩
    have hj : j < 10 := by
      have := (List.getElem?_eq_some_iff.1 hu).1
      rw [vals10] at this; exact this
    have h4 := dc_get l i j x hx hj
    rw [hu, ← ht] at h4
    have hlt : i * 10 + j < l.length * 10 := by
      have := (List.getElem?_eq_some_iff.1 hx).1
      omega
    rw [List.getElem?_take_of_lt hlt] at h4
    rw [cell_of hw, Nat.zero_add]
    simpa using h4
end
end Go.Proofs.Ytabdicbmecgogaa
