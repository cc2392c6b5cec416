/- The document's cache in memory; at, out. -/
import Derived.Test.YtmndnjgbbpkidaaGreatJWLks15
namespace Go.Proofs.YtmndnjgbbpkidaaGreat
section
open Go.RowKit
attribute [local go_sem ↓ high] loadEn storeEn builden
attribute [local go_sem high] eqK neqK guardK

structure Kc where
  vl : Value
  vw : Value
def Kc.blk (k : Kc) (q b : Nat) : Prop := b = q ∨ k.vl.ownBlock = some b ∨ k.vw.ownBlock = some b
structure IsK (w : World) (B q : Nat) (k : Kc) (s : Cs) : Prop where
  head : w.heap[q]? = some (.cells #[k.vl, k.vw] 59 (0, 0))
  rowL : Row7 w B k.vl s.L
  rowW : RowI w B k.vw s.W
  hq : B ≤ q
theorem IsK.tq {w : World} {B q : Nat} {k : Kc} {s : Cs} (h : IsK w B q k s) : Tag w q 59 := ⟨_, _, h.head⟩
theorem IsK.at {w : World} {B q : Nat} {k : Kc} {s : Cs} (h : IsK w B q k s) {b : Nat} (hb : k.blk q b) : B ≤ b ∧ b < w.heap.size := by
  rcases hb with rfl | hb | hb
  · exact ⟨h.hq, h.tq.lt⟩
  · exact World.ownsRow.lt h.rowL b hb
  · exact World.ownsRow.lt h.rowW b hb
theorem IsK.moved {w w' : World} {B q : Nat} {k : Kc} {s : Cs} (h : IsK w B q k s) (hm : ∀ b, k.blk q b → w'.heap[b]? = w.heap[b]?) : IsK w' B q k s :=
  ⟨(hm q (.inl rfl)).trans h.head, owns_moved h.rowL fun b hb => hm b (.inr (.inl hb)), owns_moved h.rowW fun b hb => hm b (.inr (.inr hb)), h.hq⟩
theorem IsK.below {w w' : World} {B q : Nat} {k : Kc} {s : Cs} (h : IsK w B q k s) (hb : Below w.heap.size w w') : IsK w' B q k s := h.moved fun b hk => hb.block b (h.at hk).2
theorem IsK.cells {w : World} {B q : Nat} {k : Kc} {s : Cs} (h : IsK w B q k s) : w.cell? ⟨q, 0, none⟩ = some k.vl ∧ w.cell? ⟨q, 1, none⟩ = some k.vw ∧ ∀ i, w.frozen? ⟨q, i, none⟩ = false := ⟨by rw [cell_of h.head]; rfl, by rw [cell_of h.head]; rfl, free_of h.head⟩
/-- what a call leaves -/
structure Afk (w w' : World) (B q : Nat) (k k' : Kc) (s' : Cs) : Prop where
  is : IsK w' B q k' s'
  only : Only (k.blk q) w w'
  nblk : ∀ b, k'.blk q b → k.blk q b ∨ w.heap.size ≤ b
theorem Afk.refl {w w' : World} {B q : Nat} {k : Kc} {s : Cs} (h : IsK w B q k s) (hb : Below w.heap.size w w') : Afk w w' B q k k s := ⟨h.below hb, Only.of hb, fun _ hk => .inl hk⟩
theorem Afk.trans {w w' w'' : World} {B q : Nat} {k k' k'' : Kc} {s' s'' : Cs} (a : Afk w w' B q k k' s') (b : Afk w' w'' B q k' k'' s'') : Afk w w'' B q k k'' s'' := by
  refine ⟨b.is, ⟨b.only.os.trans a.only.os, b.only.tape.trans a.only.tape, b.only.output.trans a.only.output, Nat.le_trans a.only.size b.only.size, fun x hx hn => ?_⟩, fun x hx => ?_⟩
  · refine (b.only.block x (Nat.lt_of_lt_of_le hx a.only.size) fun e => ?_).trans (a.only.block x hx hn)
    rcases a.nblk x e with e | e
    · exact hn e
    · omega
  · rcases b.nblk x hx with h | h
    · exact a.nblk x h
    · exact .inr (Nat.le_trans a.only.size h)
/-- another list of entries laid in -/
theorem IsK.setL {w w1 W : World} {B q : Nat} {k : Kc} {s : Cs} {v : Value} {L : List En} (h : IsK w B q k s) (hb : Only (fun b => k.vl.ownBlock = some b) w w1) (hr : Row7 w1 B v L) (hv : v.ownBlock = k.vl.ownBlock ∨ ∀ b, v.ownBlock = some b → w.heap.size ≤ b) (hW : w1.setCell ⟨q, 0, none⟩ v = W) : Afk w W B q k ⟨v, k.vw⟩ ⟨L, s.W⟩ := by
  have tl : ∀ b, k.vl.ownBlock = some b → Tag w b 52 := fun b hb => Tag.own h.rowL hb
  have tw : ∀ b, k.vw.ownBlock = some b → Tag w b 3 := fun b hb => Tag.own h.rowW hb
  have hq1 : w1.heap[q]? = some (.cells #[k.vl, k.vw] 59 (0, 0)) := (hb.block q h.tq.lt (fun e => (tl q e).ne h.tq (by decide) rfl)).trans h.head
  have tq1 : Tag w1 q 59 := ⟨_, _, hq1⟩
  have oW : Only (· = q) w1 W := by rw [← hW]; exact only1 _ q _ _
  refine ⟨⟨?_, ?_, ?_, h.hq⟩, ?_, fun b hb' => ?_⟩
  · rw [← hW]
    have := heap_set hq1 0 v
    simpa using this
  · exact owns_moved hr fun b hb' => oW.block b (Tag.own hr hb').lt ((Tag.own hr hb').ne tq1 (by decide))
  · have r1 : RowI w1 B k.vw s.W := owns_moved h.rowW fun b hb' => hb.block b (tw b hb').lt (fun e => (tl b e).ne (tw b hb') (by decide) rfl)
    exact owns_moved r1 fun b hb' => oW.block b (Tag.own r1 hb').lt ((Tag.own r1 hb').ne tq1 (by decide))
  · exact (hb.mono fun b e => .inr (.inl e)).trans (oW.mono fun b e => .inl e)
  · rcases hb' with e | e | e
    · exact .inl (.inl e)
    · rcases hv with hv | hv
      · exact .inl (.inr (.inl (hv.symm.trans e)))
      · exact .inr (hv b e)
    · exact .inl (.inr (.inr e))
/-- another list of directories laid in -/
theorem IsK.setW {w w1 W : World} {B q : Nat} {k : Kc} {s : Cs} {v : Value} {L : List Int} (h : IsK w B q k s) (hb : Only (fun b => k.vw.ownBlock = some b) w w1) (hr : RowI w1 B v L) (hv : v.ownBlock = k.vw.ownBlock ∨ ∀ b, v.ownBlock = some b → w.heap.size ≤ b) (hW : w1.setCell ⟨q, 1, none⟩ v = W) : Afk w W B q k ⟨k.vl, v⟩ ⟨s.L, L⟩ := by
  have tl : ∀ b, k.vl.ownBlock = some b → Tag w b 52 := fun b hb => Tag.own h.rowL hb
  have tw : ∀ b, k.vw.ownBlock = some b → Tag w b 3 := fun b hb => Tag.own h.rowW hb
  have hq1 : w1.heap[q]? = some (.cells #[k.vl, k.vw] 59 (0, 0)) := (hb.block q h.tq.lt (fun e => (tw q e).ne h.tq (by decide) rfl)).trans h.head
  have tq1 : Tag w1 q 59 := ⟨_, _, hq1⟩
  have oW : Only (· = q) w1 W := by rw [← hW]; exact only1 _ q _ _
  refine ⟨⟨?_, ?_, ?_, h.hq⟩, ?_, fun b hb' => ?_⟩
  · rw [← hW]
    have := heap_set hq1 1 v
    simpa using this
  · have r1 : Row7 w1 B k.vl s.L := owns_moved h.rowL fun b hb' => hb.block b (tl b hb').lt (fun e => (tw b e).ne (tl b hb') (by decide) rfl)
    exact owns_moved r1 fun b hb' => oW.block b (Tag.own r1 hb').lt ((Tag.own r1 hb').ne tq1 (by decide))
  · exact owns_moved hr fun b hb' => oW.block b (Tag.own hr hb').lt ((Tag.own hr hb').ne tq1 (by decide))
  · exact (hb.mono fun b e => .inr (.inr e)).trans (oW.mono fun b e => .inl e)
  · rcases hb' with e | e | e
    · exact .inl (.inl e)
    · exact .inl (.inr (.inl e))
    · rcases hv with hv | hv
      · exact .inl (.inr (.inr (hv.symm.trans e)))
      · exact .inr (hv b e)
/-- a key's place -/
theorem at_cases (L : List En) (k : Ky) : (getL L k = none ∧ atV L k.d k.nm = -1) ∨ ∃ (i : Nat) (e : En), getL L k = some e ∧ atV L k.d k.nm = (i : Int) ∧ L[i]? = some e ∧ (KeysOk L → outL L k = L.take i ++ L.drop (i + 1)) := by
  cases hg : getL L k with
  | none =>
    refine .inl ⟨rfl, atV_miss L _ _ fun j e he => getL_none.1 hg e (List.mem_of_getElem? he)⟩
  | some e =>
    right
    unfold getL at hg
    rw [List.find?_eq_some_iff_getElem] at hg
    obtain ⟨h1, i, hi, h2, h3⟩ := hg
    have hei : L[i]? = some e := by rw [List.getElem?_eq_getElem hi, h2]
    refine ⟨i, e, rfl, atV_hit L _ _ i e hei (hasK_iff.1 h1) fun j e' hj he' => ?_, hei, fun hk => ?_⟩
    · have := h3 j hj
      rw [List.getElem?_eq_getElem (by omega)] at he'
      cases he'
      exact fun hc => by rw [hasK_iff.2 hc] at this; cases this
    · unfold outL
      have hsplit : L = L.take i ++ e :: L.drop (i + 1) := by
        rw [← h2, ← List.drop_eq_getElem_cons hi, List.take_append_drop]
      have hk' := hk
      unfold KeysOk at hk'
      rw [hsplit, List.pairwise_append, List.pairwise_cons] at hk'
      have fe : hasK k e = true := h1
      have hke := hasK_iff.1 h1
      have fA : (L.take i).filter (fun e => !hasK k e) = L.take i := List.filter_eq_self.2 fun x hx => by
        have := hk'.2.2 x hx e (by simp)
        rw [hasK_no.2 (fun hc => this ⟨hc.1.trans hke.1.symm, hc.2.trans hke.2.symm⟩)]; rfl
      have fB : (L.drop (i + 1)).filter (fun e => !hasK k e) = L.drop (i + 1) := List.filter_eq_self.2 fun x hx => by
        have := hk'.2.1.1 x hx
        rw [hasK_no.2 (fun hc => this ⟨hke.1.trans hc.1.symm, hke.2.trans hc.2.symm⟩)]; rfl
      have e5 : L.filter (fun e => !hasK k e) = (L.take i ++ e :: L.drop (i + 1)).filter (fun e => !hasK k e) := by rw [← hsplit]
      rw [e5, List.filter_append, List.filter_cons, fe, fA, fB]
      rfl
theorem atV_ge (L : List En) (k : Ky) : -1 ≤ atV L k.d k.nm := by
  rcases at_cases L k with ⟨_, h⟩ | ⟨i, e, _, h, _⟩ <;> rw [h] <;> omega
set_option maxHeartbeats 4000000 in
theorem at_d (B q : Nat) (kc : Kc) (s : Cs) (k : Ky) (w : World) (h : IsK w B q kc s) (hl : s.L.length ≤ 1500000000000) : Calls Tryz.prog 54 #[.pointer (some ⟨q, 0, none⟩), .agg #[.int .i64 k.d, .string k.nm]] w fun x w' => x = .returned (.int .i64 (atV s.L k.d k.nm)) ∧ Below w.heap.size w w' := by
  obtain ⟨W1, hW1⟩ : ∃ W, w.alloc (.cells #[.int .i64 k.d, .string k.nm] 29) = W := ⟨_, rfl⟩
  have b1 := boxO hW1
  obtain ⟨vl, vw⟩ := kc
  obtain ⟨a, cap, hv⟩ := owns_len h.rowL
  simp only at hv
  subst hv
  obtain ⟨n, hn⟩ : ∃ n, s.L.length = n := ⟨_, rfl⟩
  rw [hn] at hl
  have HI : Hid (IsK W1 B q ⟨.slice a n cap, vw⟩ s ∧ W1.cell? ⟨w.heap.size, 0, none⟩ = some (.int .i64 k.d) ∧ W1.cell? ⟨w.heap.size, 1, none⟩ = some (.string k.nm) ∧ Below w.heap.size w W1 ∧ s.L.length = n) := ⟨by rw [← hn]; exact h.below b1.2.1, by rw [cell_of b1.1]; rfl, by rw [cell_of b1.1]; rfl, b1.2.1, hn⟩
  clear h b1 hn
  go_enter Tryz.func54, Tryz.ntmps54
  go_wp2
  go_loopw [5] (fun s5 wr => ∃ i : Nat, i ≤ n ∧ s5 = .int .i64 i ∧ ∃ nq, wr = W1.drewN nq ∧ Hid (∀ (j : Nat) e, j < i → s.L[j]? = some e → ¬ (e.d = k.d ∧ e.nm = k.nm))) (fun s5 _ => n - (intOf s5).toNat)
  case atStart => exact ⟨0, Nat.zero_le _, rfl, 0, rfl, fun j e hj => by omega⟩
  case round =>
    obtain ⟨i, hi, rfl, nq, rfl, HJ⟩ := hrel
    obtain ⟨i1, k0, k1, i4, i5⟩ := HI.out
    obtain ⟨c0, -, -⟩ := i1.cells
    clear hW1
    by_cases hlt : i < n
    · obtain ⟨e, he⟩ : ∃ e, s.L[i]? = some e := ⟨_, List.getElem?_eq_getElem (by omega)⟩
      obtain ⟨g, rfl, -, -, -, hc, -⟩ := owns_entry i1.rowL he
      have x0 := hc.c0
      have x1 := hc.c1
      have hltz : (i : Int) < (n : Int) := by omega
      obtain ⟨Y, hY⟩ : ∃ Y, decide (e.d = k.d ∧ e.nm = k.nm) = Y := ⟨_, rfl⟩
      clear i1 i4 i5 hc
      cases Y with
      | true =>
        have hA : atV s.L k.d k.nm = (i : Int) := atV_hit s.L _ _ i e he (of_decide_eq_true hY) HJ.out
        have HA : Hid (atV s.L k.d k.nm = (i : Int)) := hA
        clear hA HJ he
        go_upto_region 4 with fail
        go_quiet (fail)
        go_wp2
        go_ret
        exact ⟨by rw [HA.out]; rfl, below_drewN HI.out.2.2.2.1 _⟩
      | false =>
        have HJ2 : Hid (∀ (j : Nat) e, j < i + 1 → s.L[j]? = some e → ¬ (e.d = k.d ∧ e.nm = k.nm)) := fun j e' hj he' => by
          by_cases e1 : j = i
          · subst e1
            rw [he] at he'
            cases he'
            exact of_decide_eq_false hY
          · exact HJ.out j e' (by omega) he'
        clear HJ he
        go_upto_region 4 with fail
        go_quiet (fail)
        go_wp2
        go_roundw
        case rel => exact ⟨i + 1, by omega, by simp, _, rfl, HJ2⟩
        case measure => simp [intOf]; omega
    · obtain rfl : i = n := by omega
      have hltz : ¬ (i : Int) < (i : Int) := by omega
      have HA : Hid (atV s.L k.d k.nm = -1) := atV_miss s.L _ _ fun j e he => HJ.out j e (by have := (List.getElem?_eq_some_iff.1 he).1; omega) he
      clear HJ i1 k0 k1 i5
      go_wp2
      go_ret
      exact ⟨by rw [HA.out]; rfl, below_drewN i4 _⟩
end
section
open Go.RowKit
attribute [local go_sem ↓ high] loadEn storeEn builden
attribute [local go_sem high] eqK neqK guardK

theorem ec_get_add (L : List En) (i j : Nat) (u : Value) (h : (ec (L.drop i))[j]? = some u) : (ec L)[i * 7 + j]? = some u := by
  by_cases hi : i ≤ L.length
  · have : ec L = ec (L.take i) ++ ec (L.drop i) := by rw [← ec_app, List.take_append_drop]
    rw [this, List.getElem?_append_right (by rw [ec_len, List.length_take]; omega), ec_len, List.length_take, show i * 7 + j - min i L.length * 7 = j by rw [Nat.min_eq_left hi]; omega]
    exact h
  · rw [List.drop_of_length_le (by omega)] at h; simp [ec] at h
theorem ec_get_take (L : List En) (i j : Nat) (u : Value) (h : (ec (L.take i))[j]? = some u) : (ec L)[j]? = some u := by
  have e : ec L = ec (L.take i) ++ ec (L.drop i) := by rw [← ec_app, List.take_append_drop]
  rw [e, List.getElem?_append_left (List.getElem?_eq_some_iff.1 h).1]; exact h
set_option maxHeartbeats 4000000 in
set_option maxRecDepth 100000 in
theorem out_d (B q : Nat) (k : Kc) (s : Cs) (i : Nat) (w : World) (h : IsK w B q k s) (hB : B ≤ w.heap.size) (hi : i < s.L.length) (hl : s.L.length ≤ 1500000000000) : Calls Tryz.prog 55 #[.pointer (some ⟨q, 0, none⟩), .int .i64 i] w fun x w' => x = .returned (.tuple #[]) ∧ ∃ k', Afk w w' B q k k' ⟨s.L.take i ++ s.L.drop (i + 1), s.W⟩ := by
  obtain ⟨vl, vw⟩ := k
  obtain ⟨e, he⟩ : ∃ e, s.L[i]? = some e := ⟨_, List.getElem?_eq_getElem hi⟩
  obtain ⟨a, cap, hv⟩ := owns_len h.rowL
  simp only at hv
  subst hv
  obtain ⟨n, hn⟩ : ∃ n, s.L.length = n := ⟨_, rfl⟩
  obtain ⟨g, rfl, -, hBg, hg, -, -⟩ := owns_entry h.rowL he
  obtain ⟨hcell, hfr, hcap, hmax, -, -⟩ := owns_cells h.rowL
  rw [hn] at hcap hi hl
  obtain ⟨c0, -, cf⟩ := h.cells
  -- the first half
  obtain ⟨v1, w1, r1, row1, o1, p1⟩ := appE (w := w) (B := w.heap.size) (v := .slice none 0 0) (l := []) (l2 := s.L.take i) (ad := ⟨g, 0, none⟩) (c := cap) (World.ownsRow_nil _ _ _ _) (fun j u hu => by rw [add_plain', Nat.zero_add]; exact hcell j u (ec_get_take _ _ _ _ hu)) (Nat.le_refl _) (by simp; omega)
  rw [List.nil_append] at row1
  have hb1 : Below w.heap.size w w1 := ⟨o1.os, o1.tape, o1.output, o1.size, fun b hb => o1.block b hb (by simp [Value.ownBlock])⟩
  have h1 := h.below hb1
  obtain ⟨c10, -, cf1⟩ := h1.cells
  obtain ⟨hcell1, -, -, -, -, -⟩ := owns_cells h1.rowL
  by_cases hc : cap = i + 1
  · have hni : n = i + 1 := by omega
    obtain ⟨v2, w2, r2, row2, o2, p2⟩ := appE (w := w1) (B := w.heap.size) (v := v1) (l := s.L.take i) (l2 := s.L.drop (i + 1)) (ad := ⟨g, 0, none⟩) (c := cap - (i + 1)) row1 (fun j u hu => by rw [List.drop_of_length_le (by omega)] at hu; simp [ec] at hu) hb1.size (by simp; omega)
    obtain ⟨a2, c2, hv2⟩ := owns_len row2
    subst hv2
    have hb2 : Below w.heap.size w w2 := o2.below hb1 hb1.size fun b hb => (World.ownsRow.lt row1 b hb).1
    have h2 := h.below hb2
    obtain ⟨c20, -, cf2⟩ := h2.cells
    obtain ⟨N2, hN2⟩ : ∃ N, (s.L.take i ++ s.L.drop (i + 1)).length = N := ⟨_, rfl⟩
    rw [hN2] at r2
    have HE : Hid (∃ k', Afk w (w2.setCell ⟨q, 0, none⟩ (.slice a2 N2 c2)) B q ⟨.slice (some ⟨g, 0, none⟩) n cap, vw⟩ k' ⟨s.L.take i ++ s.L.drop (i + 1), s.W⟩) := by
      refine ⟨_, IsK.setL (by rw [← hn]; exact h) (Only.of hb2) (by rw [← hN2]; exact owns_le row2 hB) (.inr fun b hb => (World.ownsRow.lt row2 b (by rw [hN2]; exact hb)).1) rfl⟩
    have hlt : (s.L.take i).length = i := by rw [List.length_take]; omega
    have hld : (s.L.drop (i + 1)).length = n - (i + 1) := by rw [List.length_drop, hn]
    rw [hlt] at r1
    rw [hld] at r2
    rw [hn] at c0 c10 c20 ⊢
    have z0 : (0 : Int) ≤ (i : Int) := by omega
    have z1 : (i : Int) ≤ (cap : Int) := by omega
    have z2 : i ≤ cap := by omega
    have hw1 : IntKind.i64.wrap ((i : Int) + 1) = (i : Int) + 1 := IntWalk.i64_in _ (by omega)
    have z3 : (0 : Int) ≤ (i : Int) + 1 := by omega
    have z4 : ((i : Int) + 1).toNat = i + 1 := by omega
    have z5 : (i : Int) + 1 ≤ (n : Int) := by omega
    have z6 : i + 1 ≤ n := by omega
    clear h h1 h2 row1 row2 o1 o2 p1 p2 hb1 hb2 hcell hcell1 he hlt hld hfr hN2
    subst hni
    subst hc
    go_enter Tryz.func55, Tryz.ntmps55
    go_wp2_with (first
      | (at_builtin; refine wpList_apR rfl (.tmp 5) (.tmp 11) 23 rfl _ _ v1 w1 (by simp [Act.eval]) (by simp [Act.eval]) r1 ?_)
      | (at_builtin; refine wpList_apR rfl (.tmp 14) (.tmp 21) 23 rfl _ _ (.slice a2 N2 c2) w2 (by simp [Act.eval]) (by simp [Act.eval]) r2 ?_))
    go_end0
    exact ⟨rfl, HE.out⟩
  · obtain ⟨v2, w2, r2, row2, o2, p2⟩ := appE (w := w1) (B := w.heap.size) (v := v1) (l := s.L.take i) (l2 := s.L.drop (i + 1)) (ad := ⟨g, (i + 1) * 7, none⟩) (c := cap - (i + 1)) row1 (fun j u hu => by rw [add_plain']; exact hcell1 _ u (ec_get_add _ _ _ _ hu)) hb1.size (by simp; omega)
    obtain ⟨a2, c2, hv2⟩ := owns_len row2
    subst hv2
    have hb2 : Below w.heap.size w w2 := o2.below hb1 hb1.size fun b hb => (World.ownsRow.lt row1 b hb).1
    have h2 := h.below hb2
    obtain ⟨c20, -, cf2⟩ := h2.cells
    obtain ⟨N2, hN2⟩ : ∃ N, (s.L.take i ++ s.L.drop (i + 1)).length = N := ⟨_, rfl⟩
    rw [hN2] at r2
    have HE : Hid (∃ k', Afk w (w2.setCell ⟨q, 0, none⟩ (.slice a2 N2 c2)) B q ⟨.slice (some ⟨g, 0, none⟩) n cap, vw⟩ k' ⟨s.L.take i ++ s.L.drop (i + 1), s.W⟩) := by
      refine ⟨_, IsK.setL (by rw [← hn]; exact h) (Only.of hb2) (by rw [← hN2]; exact owns_le row2 hB) (.inr fun b hb => (World.ownsRow.lt row2 b (by rw [hN2]; exact hb)).1) rfl⟩
    have hlt : (s.L.take i).length = i := by rw [List.length_take]; omega
    have hld : (s.L.drop (i + 1)).length = n - (i + 1) := by rw [List.length_drop, hn]
    rw [hlt] at r1
    rw [hld] at r2
    rw [hn] at c0 c10 c20 ⊢
    have z0 : (0 : Int) ≤ (i : Int) := by omega
    have z1 : (i : Int) ≤ (cap : Int) := by omega
    have z2 : i ≤ cap := by omega
    have hw1 : IntKind.i64.wrap ((i : Int) + 1) = (i : Int) + 1 := IntWalk.i64_in _ (by omega)
    have z3 : (0 : Int) ≤ (i : Int) + 1 := by omega
    have z4 : ((i : Int) + 1).toNat = i + 1 := by omega
    have z5 : (i : Int) + 1 ≤ (n : Int) := by omega
    have z6 : i + 1 ≤ n := by omega
    clear h h1 h2 row1 row2 o1 o2 p1 p2 hb1 hb2 hcell hcell1 he hlt hld hfr hN2
    go_enter Tryz.func55, Tryz.ntmps55
    go_wp2_with (first
      | (at_builtin; refine wpList_apR rfl (.tmp 5) (.tmp 11) 23 rfl _ _ v1 w1 (by simp [Act.eval]) (by simp [Act.eval]) r1 ?_)
      | (at_builtin; refine wpList_apR rfl (.tmp 14) (.tmp 21) 23 rfl _ _ (.slice a2 N2 c2) w2 (by simp [Act.eval]) (by simp [Act.eval]) r2 ?_))
    go_end0
    exact ⟨rfl, HE.out⟩
end
end Go.Proofs.YtmndnjgbbpkidaaGreat
