/- Trim beside the document's cache; what it takes as evictions one after the other. -/
import Derived.Test.YtabdicbmecgogaaJPEpt31
import Derived.Test.YtabdicbmecgogaaJPEpt34
namespace Go.Proofs.Ytabdicbmecgogaa
section
open Go.RowKit

theorem evN_fold (b : Bool) : ∀ (n : Nat) (s : Cs), (evN b n s).2 = (evN b n s).1.foldl Cs.evict s
  | 0, _ => rfl
  | n + 1, s => by
    rw [evN]
    cases vicS s b with
    | none => rfl
    | some e => exact evN_fold b n (s.evict e.key)
theorem trimS_fold (s : Cs) (most neg : Int) : (trimS s most neg).2 = (trimS s most neg).1.foldl Cs.evict s := by
  have h1 : (trimA s neg).2 = (trimA s neg).1.foldl Cs.evict s := evN_fold _ _ _
  have h2 : (trimB (trimA s neg).2 most).2 = (trimB (trimA s neg).2 most).1.foldl Cs.evict (trimA s neg).2 := evN_fold _ _ _
  unfold trimS
  rw [List.foldl_append, ← h1]
  exact h2
theorem evN_Llen (b : Bool) : ∀ (n : Nat) (s : Cs), (evN b n s).2.L.length ≤ s.L.length
  | 0, _ => Nat.le_refl _
  | n + 1, s => by
    rw [evN]
    cases vicS s b with
    | none => exact Nat.le_refl _
    | some e => exact Nat.le_trans (evN_Llen b n (s.evict e.key)) (evict_len s e.key)
theorem trimS_len (s : Cs) (most neg : Int) : (trimS s most neg).1.length ≤ s.L.length + s.L.length := by
  have h1 : (trimA s neg).1.length ≤ s.L.length := evN_len _ _ _
  have h2 : (trimB (trimA s neg).2 most).1.length ≤ (trimA s neg).2.L.length := evN_len _ _ _
  have h3 : (trimA s neg).2.L.length ≤ s.L.length := evN_Llen _ _ _
  unfold trimS
  rw [List.length_append]
  omega
theorem tw_trim {w0 wr : World} {p q : Nat} {s t : Cs} {n : Nat} {F : Nat → Prop} (h : Tw w0 wr p q s t n F) (hn : n ≤ 1400000000000) (most neg : Int) (hm : most ≤ 9223372036854775807) (hg : neg ≤ 9223372036854775807) :
    Calls Try.prog 10 #[.pointer (some ⟨p, 0, none⟩), .int .i64 most, .int .i64 neg] wr fun r w' => ∃ v, r = .returned v ∧ RowK w' wr.heap.size v (trimS s most neg).1 ∧ Twc w0 wr w' p q (trimS s most neg).2 t n F ∧ Tw w0 w' p q (trimS s most neg).2 t n (fun k => F k ∨ v.ownBlock = some k) := by
  obtain ⟨k, h1, h2, h3⟩ := h.ex
  refine (trim_p h2 hn most neg hm hg).mono ?_
  rintro r w' ⟨v, rfl, hr, hc, hl⟩
  have hk : ∀ b, k.blk q b → w'.heap[b]? = wr.heap[b]? := fun b hb => hc.kept b (.inr hb)
  refine ⟨v, rfl, hr, ⟨⟨⟨k, h1.moved hk, hc.ld, h3⟩, h.lw, h.lt⟩, fun b hb => hc.kept b (.inl hb), hc.size⟩, ⟨k, h1.moved hk, hl.mono (fun b hb => ?_) (Nat.le_refl _), fun b hb hf => ?_⟩, h.lw, h.lt⟩
  · rcases hb with (hb | hb) | hb
    · exact .inl (.inl hb)
    · exact .inr hb
    · exact .inl (.inr hb)
  · rcases hf with hf | hf
    · exact h3 b hb hf
    · have h5 := (World.ownsRow.lt hr b hf).1
      have := (h1.at hb).2
      omega
theorem kc_cons (a : Ky) (b : List Ky) : kc (a :: b) = .int .i64 a.d :: .string a.nm :: kc b := rfl
theorem kc_set (ks : List Ky) (i : Nat) (k f : Ky) (h : ks[i]? = some f) : ((kc ks).set (i * 2) (.int .i64 k.d)).set (i * 2 + 1) (.string k.nm) = kc (ks.set i k) := by
  induction ks generalizing i with
  | nil => simp at h
  | cons a ks ih =>
    cases i with
    | zero => rfl
    | succ i =>
      rw [kc_cons, List.set_cons_succ, kc_cons, ← ih i (by simpa using h), show (i + 1) * 2 = i * 2 + 1 + 1 by omega, show i * 2 + 1 + 1 + 1 = (i * 2 + 1) + 1 + 1 by omega]
      rfl
def put2 (w : World) (g o : Nat) (k : Ky) : World := (w.setCell ⟨g, o, none⟩ (.int .i64 k.d)).setCell ⟨g, o + 1, none⟩ (.string k.nm)
theorem put2_row {w : World} {base g i n cap : Nat} {ks : List Ky} {k f : Ky} (h : w.ownsRow base 28 2 (.slice (some ⟨g, 0, none⟩) n cap) n (kc ks)) (hf : ks[i]? = some f) : (put2 w g (i * 2) k).ownsRow base 28 2 (.slice (some ⟨g, 0, none⟩) n cap) n (kc (ks.set i k)) := by
  rw [← kc_set ks i k f hf]
  exact (((h.stored (i * 2) (.int .i64 k.d)).1).stored (i * 2 + 1) (.string k.nm)).1
theorem put2_only (w : World) (g o : Nat) (k : Ky) : Only (· = g) w (put2 w g o k) := (only1 _ g _ _).trans (only1 _ g _ _)
/-- both caches, and a list of keys of the law's own -/
structure Kh (w wr : World) (p q : Nat) (S T : Cs) (n B : Nat) (v : Value) (M : List Ky) : Prop where
  tw : Tw w wr p q S T n (fun b => v.ownBlock = some b)
  row : RowK wr B v M
  base : w.heap.size ≤ B
theorem Kh.after {w wr X : World} {p q : Nat} {S T S' T' : Cs} {n B : Nat} {v : Value} {M : List Ky} (h : Kh w wr p q S T n B v M) (hc : Twc w wr X p q S' T' n (fun b => v.ownBlock = some b)) : Kh w X p q S' T' n B v M := ⟨hc.tw, owns_moved h.row fun b hb => hc.kept b hb, h.base⟩
theorem Kh.one {w wr : World} {p q : Nat} {S T : Cs} {n B g N c k : Nat} {M : List Ky} {x f : Ky} (h : Kh w wr p q S T n B (.slice (some ⟨g, 0, none⟩) N c) M) (hf : M[k]? = some f) (hN : M.length = N) : Kh w (put2 wr g (k * 2) x) p q S T n B (.slice (some ⟨g, 0, none⟩) N c) (M.set k x) := by
  have hO : Only (fun b => (Value.slice (some ⟨g, 0, none⟩) N c).ownBlock = some b) wr (put2 wr g (k * 2) x) := (put2_only _ _ _ _).mono fun b hb => by subst hb; rfl
  refine ⟨(h.tw.own hO fun b hb => Nat.le_trans h.base (World.ownsRow.lt h.row b hb).1).mono (fun b hb => .inl hb) (Nat.le_refl _), ?_, h.base⟩
  have hr := h.row
  unfold RowK at hr ⊢
  rw [List.length_set, hN]
  rw [hN] at hr
  exact put2_row hr hf
end
section
open Go.RowKit
attribute [local go_sem high] eqK neqK guardK

theorem wf_hi13 {z : Int} (h : (Lit.int .i64 z).wf = true) : z ≤ 9223372036854775807 := by
  have a1 : IntKind.i64.min = -9223372036854775808 := rfl
  have a2 : IntKind.i64.max = 9223372036854775807 := rfl
  simp only [Lit.wf, Bool.and_eq_true, decide_eq_true_eq] at h
  omega
theorem keys_evicts : ∀ (l : List Ky) (s : Cs), KeysOk s.L → KeysOk (l.foldl Cs.evict s).L
  | [], _, h => h
  | k :: l, s, h => keys_evicts l (s.evict k) (by rw [evict_L]; exact h.filter _)
theorem evicts_take {G : List Ky} {i : Nat} {k : Ky} (h : G[i]? = some k) (s : Cs) : (G.take (i + 1)).foldl Cs.evict s = ((G.take i).foldl Cs.evict s).evict k := by
  rw [List.take_add_one, h, List.foldl_append]
  rfl
set_option maxRecDepth 100000 in
set_option maxHeartbeats 8000000 in
theorem walk_PruneKept (a : Option Addr) (cap : Nat) (ops : List DOp) (most neg : Int) (w : World) (row : RowD w a ops) (hlen : ops.length * 112 ≤ 140737488351232) (w1 : (Lit.int .i64 most).wf = true) (w2 : (Lit.int .i64 neg).wf = true) :
    Calls Try.prog 5 #[.slice a ops.length cap, .int .i64 most, .int .i64 neg] w fun x w' => x = .returned (.bool true) ∧ Below w.heap.size w w' := by
  obtain ⟨n, hn⟩ : ∃ n, ops.length = n := ⟨_, rfl⟩
  have hnb : n < 1290000000000 := by omega
  have hb1 : most ≤ 9223372036854775807 := wf_hi13 w1
  have hb2 : neg ≤ 9223372036854775807 := wf_hi13 w2
  obtain ⟨S, hS⟩ : ∃ S, runS ops = S := ⟨_, rfl⟩
  have HO : Hid (Calls Try.prog 6 #[.slice a n cap] w fun x w2 => ∃ p q, x = .returned (.tuple #[.pointer (some ⟨p, 0, none⟩), .pointer (some ⟨q, 0, none⟩), .bool true]) ∧ Tw w w2 p q S S n (fun _ => False)) := by
    rw [← hn, ← hS]
    exact of_p a cap ops w row (by omega)
  have hSn : S.L.length ≤ n := by rw [← hS, ← hn]; exact (runS_len ops).1
  have HA : Hid (∀ w, Calls Try.prog 13 #[] w fun x w' => x = .returned (.bool true) ∧ Below w.heap.size w w') := awake13_p
  have hfo := trimS_fold S most neg
  have htl := trimS_len S most neg
  obtain ⟨T, hT⟩ : ∃ T, (trimS S most neg).2 = T := ⟨_, rfl⟩
  obtain ⟨G, hG⟩ : ∃ G, (trimS S most neg).1 = G := ⟨_, rfl⟩
  rw [hT, hG] at hfo
  rw [hG] at htl
  obtain ⟨N, hN⟩ : ∃ N, G.length = N := ⟨_, rfl⟩
  have hNb : N ≤ 2800000000000 := by omega
  have HG : Hid (G.foldl Cs.evict S = T ∧ G.length = N) := ⟨hfo.symm, hN⟩
  have HTm : Hid (∀ W p q, Tw w W p q S S n (fun _ => False) → Calls Try.prog 10 #[.pointer (some ⟨p, 0, none⟩), .int .i64 most, .int .i64 neg] W fun r w' => ∃ a c, r = .returned (.slice a N c) ∧ Kh w w' p q T S n W.heap.size (.slice a N c) G ∧ KeysOk S.L) := fun W p q h => by
    refine (tw_trim h (by omega) most neg hb1 hb2).mono ?_
    rintro r w' ⟨v, rfl, hr, -, ht⟩
    rw [hG] at hr
    rw [hT] at ht
    obtain ⟨a, c, rfl⟩ := owns_len hr
    rw [hN] at hr ht ⊢
    exact ⟨a, c, rfl, ⟨ht.mono (fun _ hb => .inr hb) (Nat.le_refl _), hr, h.below.size⟩, h.keys⟩
  have HEv : Hid (∀ W p q B v (t : Cs) (k : Ky), Kh w W p q T t n B v G → KeysOk t.L → Calls Try.prog 17 #[.pointer (some ⟨q, 0, none⟩), .agg #[.int .i64 k.d, .string k.nm]] W fun r w' => r = .returned (.bool (getL t.L k).isSome) ∧ Kh w w' p q T (t.evict k) n B v G) := fun W p q B v t k h hk => (tw_revict h.tw hk k (by omega)).mono fun r w' hh => ⟨hh.1, h.after hh.2⟩
  have HLk : Hid (∀ W p q B v M, Kh w W p q T T n B v M → Calls Try.prog 12 #[.pointer (some ⟨p, 0, none⟩), .pointer (some ⟨q, 0, none⟩), .slice none 0 0] W fun r w' => r = .returned (.bool true) ∧ Below w.heap.size w w') := fun W p q B v M h => (like_p w W p q T n _ h.tw (by omega) (.slice none 0 0) [] ⟨none, 0, rfl, fun j k hk => by simp at hk⟩ (by simp)).mono fun r w' hh => ⟨hh.1, chainB h.tw.below hh.2⟩
  rw [hn]
  clear row hlen hn hnb hb1 hb2 hSn hfo htl hT hG hN hS
  go_enter Try.func5, Try.ntmps5
  go_wp2_with (first
    | (go_at_call 10; refine (HTm.out _ _ _ H1.out).mono ?_; rintro r w2 ⟨a2, c2, rfl, hh, hk⟩; have H2 : Hid (Kh w w2 p q T S n w1.heap.size (.slice a2 N c2) G ∧ KeysOk S.L) := ⟨hh, hk⟩; clear hh hk)
    | (go_at_call 6; refine HO.out.mono ?_; rintro r w1 ⟨p, q, rfl, hl⟩; have H1 : Hid (Tw w w1 p q S S n (fun _ => False)) := hl; clear hl))
  go_loopw [11] (fun s11 wr => ∃ i : Nat, i ≤ N ∧ s11 = .int .i64 (i : Int) ∧ Hid (Kh w wr p q T ((G.take i).foldl Cs.evict S) n w1.heap.size (.slice a2 N c2) G)) (fun s11 _ => N - (intOf s11).toNat)
  case atStart => exact ⟨0, Nat.zero_le _, rfl, H2.out.1⟩
  case round =>
    obtain ⟨i, hi, rfl, HJ⟩ := hrel
    by_cases hlt : i < N
    · have hltz : (i : Int) < (N : Int) := by omega
      obtain ⟨k, hk⟩ : ∃ k, G[i]? = some k := ⟨_, List.getElem?_eq_getElem (by rw [HG.out.2]; exact hlt)⟩
      obtain ⟨g, rfl, -, -, k0, k1, -⟩ := HJ.out.row.key hk
      have HX : Hid (Calls Try.prog 17 #[.pointer (some ⟨q, 0, none⟩), .agg #[.int .i64 k.d, .string k.nm]] wr fun r w' => r = .returned (.bool (getL ((G.take i).foldl Cs.evict S).L k).isSome) ∧ Kh w w' p q T ((G.take (i + 1)).foldl Cs.evict S) n w1.heap.size (.slice (some ⟨g, 0, none⟩) N c2) G) := by
        rw [evicts_take hk]
        exact HEv.out _ _ _ _ _ _ k HJ.out (keys_evicts _ _ H2.out.2)
      clear hk HJ
      go_wp2_with (go_at_call 17; refine HX.out.mono ?_; rintro r w3 ⟨rfl, hh⟩; have H3 : Hid (Kh w w3 p q T ((G.take (i + 1)).foldl Cs.evict S) n w1.heap.size (.slice (some ⟨g, 0, none⟩) N c2) G) := hh; clear hh)
      go_roundw
      case rel => exact ⟨i + 1, by omega, rfl, H3.out⟩
      case measure => simp [intOf]; omega
    · obtain rfl : i = N := by omega
      have hltz : ¬ (i : Int) < (i : Int) := by omega
      have HY : Hid (Kh w wr p q T T n w1.heap.size (.slice a2 i c2) G) := by
        have h1 := HJ.out
        rw [List.take_of_length_le (by rw [HG.out.2]; exact Nat.le_refl _), HG.out.1] at h1
        exact h1
      clear HJ H2 hlt
      go_wp2
      go_loopw [12] (fun s12 wr => ∃ (j : Nat) (M : List Ky), j ≤ i ∧ s12 = .int .i64 (j : Int) ∧ Hid (Kh w wr p q T T n w1.heap.size (.slice a2 i c2) M ∧ M.length = i)) (fun s12 _ => i - (intOf s12).toNat)
      case atStart => exact ⟨0, G, Nat.zero_le _, rfl, HY.out, HG.out.2⟩
      case round =>
        obtain ⟨j, M, hj, rfl, HJ⟩ := hrel
        clear HY
        by_cases hjt : j < i
        · have hjz : (j : Int) < (i : Int) := by omega
          obtain ⟨k, hk⟩ : ∃ k, M[j]? = some k := ⟨_, List.getElem?_eq_getElem (by rw [HJ.out.2]; exact hjt)⟩
          obtain ⟨g, hg, -, -, k0, k1, hfz⟩ := HJ.out.1.row.key hk
          subst hg
          have hrow' : Hid (Kh w (put2 wr g (j * 2) ⟨-5, ⟨#[]⟩⟩) p q T T n w1.heap.size (.slice (some ⟨g, 0, none⟩) i c2) (M.set j ⟨-5, ⟨#[]⟩⟩) ∧ (M.set j ⟨-5, ⟨#[]⟩⟩).length = i) := ⟨HJ.out.1.one hk HJ.out.2, by rw [List.length_set]; exact HJ.out.2⟩
          unfold put2 at hrow'
          simp only at hrow'
          clear hk HJ
          go_wp2
          exact ⟨⟨j + 1, _, by omega, by simp, hrow'⟩, by simp [intOf]; omega⟩
        · obtain rfl : j = i := by omega
          have hjz : ¬ (j : Int) < (j : Int) := by omega
          have HLx : Hid (Calls Try.prog 12 #[.pointer (some ⟨p, 0, none⟩), .pointer (some ⟨q, 0, none⟩), .slice none 0 0] wr fun r w' => r = .returned (.bool true) ∧ Below w.heap.size w w') := HLk.out _ _ _ _ _ _ HJ.out.1
          clear HJ hjt
          go_wp2_with (first
            | (go_at_call 13; refine (HA.out _).mono ?_; rintro r wB ⟨rfl, hb⟩; have HZ : Hid (Below w.heap.size w wB) := chainB HY9.out hb; clear hb)
            | (go_at_call 12; refine HLx.out.mono ?_; rintro r wA ⟨rfl, hb⟩; have HY9 : Hid (Below w.heap.size w wA) := hb; clear hb))
          go_ret
          exact ⟨rfl, HZ.out⟩
end
end Go.Proofs.Ytabdicbmecgogaa
