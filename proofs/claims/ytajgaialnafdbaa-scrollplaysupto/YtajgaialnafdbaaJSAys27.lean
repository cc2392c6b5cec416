/- The document's own scroll: a record of a disk's half is read. -/
import Derived.Test.YtajgaialnafdbaaJSAys26
import Derived.Test.YtajgaialnafdbaaJSAys13
namespace Go.Proofs.Ytajgaialnafdbaa
section
open Go.RowKit Go.Lib

theorem Bk.record {R : Rf} {cs : List (List Int)} (h : Bk R cs) {w : World} {r : Nat} (hr : IsRf w r R) (g x u n : Nat) (hx : x ≤ 1) (hg : g < 4294967296) (hn : n < 4294967296) (hu : u ≤ hS cs) :
    Calls Try.prog 56 #[.pointer (some ⟨r, 0, none⟩), .int .i64 g, .int .i64 x, .int .i64 u, .int .i64 n] w fun e w' => RecR w w' e (rdOne g n ((halfL cs x).drop u)) := by
  refine record_d r (hS cs) (x * hS cs) g x u n (halfL cs x) w (by rw [h.hs]; have := h.hi; omega) hx rfl hg hn hu ⟨halfL_len _ _ hx, fun l hl => ⟨h.byt l (half_mem hl), h.each l (half_mem hl)⟩⟩ (fun w' hw => h.half (hr.below hw)) ?_
  intro k l hl w' hw
  rw [halfL_get] at hl
  split at hl
  · have := h.read (hr.below hw) hl
    have e : (((1 + x * hS cs + k : Nat)) : Int) = 1 + ((x * hS cs : Nat) : Int) + (k : Int) := by omega
    rw [e] at this
    exact this
  · cases hl
end
section
open Go.RowKit Go.Lib

theorem pc_size {g r k c : Nat} {b : List Int} (hb : b.length = 64) (h : pcIn g r k c b ≠ []) : 1 ≤ (pcIn g r k c b).length ∧ (pcIn g r k c b).length ≤ 53 ∧ ((pcIn g r k c b).length < 53 → k + 1 = c) ∧ c ≤ 8 := by
  have h0 : 1 ≤ (pcIn g r k c b).length := List.length_pos_iff.2 h
  unfold pcIn at h h0 ⊢
  split at h
  · rename_i e
    rw [if_pos e] at h0 ⊢
    obtain ⟨h1, h2, h3, h4, h5⟩ := e
    have e1 : ((b.drop 11).take (gB b 10)).length = gB b 10 := by rw [List.length_take, List.length_drop, hb]; omega
    exact ⟨h0, by omega, by rw [e1]; exact h5, h2⟩
  · exact absurd rfl h
theorem rdP_size {g r c : Nat} : ∀ (bs : List (List Int)) (k : Nat) (p : List Int), (∀ l ∈ bs, l.length = 64) → rdP g r c k bs = some p → k < c → 53 * (c - 1 - k) < p.length ∧ p.length ≤ 53 * (c - k) ∧ c ≤ 8
  | [], k, p, _, h, _ => by cases h
  | b :: bs, k, p, hb, h, hk => by
    unfold rdP at h
    split at h
    · cases h
    · rename_i e
      obtain ⟨s1, s2, s3, s4⟩ := pc_size (hb b (List.mem_cons_self ..)) e
      split at h
      · rename_i hlt
        cases hq : rdP g r c (k + 1) bs with
        | none => rw [hq] at h; cases h
        | some q =>
          rw [hq] at h
          cases h
          obtain ⟨q1, q2, q3⟩ := rdP_size bs (k + 1) q (fun l hl => hb l (List.mem_cons_of_mem _ hl)) hq hlt
          have : (pcIn g r k c b).length = 53 := by
            rcases Nat.lt_or_ge (pcIn g r k c b).length 53 with h5 | h5
            · have := s3 h5; omega
            · omega
          rw [List.length_append]
          refine ⟨by omega, by omega, s4⟩
      · cases h
        refine ⟨by omega, by omega, s4⟩
theorem rdOne_nb {g r c : Nat} {bs : List (List Int)} {p : List Int} (hb : ∀ l ∈ bs, l.length = 64) (h : rdOne g r bs = some (p, c)) : nb p.length = c ∧ 1 ≤ p.length ∧ p.length ≤ 424 := by
  have hc := (rdOne_pos h).1
  cases bs with
  | nil => cases h
  | cons b bs =>
    unfold rdOne at h
    cases hq : rdP g r (gB b 9) 0 (b :: bs) with
    | none => simp only [hq] at h; cases h
    | some q =>
      simp only [hq, Option.map_some] at h
      cases h
      obtain ⟨s1, s2, s3⟩ := rdP_size _ _ _ hb hq (by omega)
      unfold nb
      omega
end
section
open Go.RowKit Go.Lib

/-- what stands while the document reads a half -/
structure Ro (w wr : World) (q r G H : Nat) (bs : List (List Int)) (L : List (List Int)) (u : Nat) (vL : Value) (m : Nat) : Prop where
  t : IsT wr q r G H u L.length
  l : OwnR wr w.heap.size m vL L
  bel : Below w.heap.size w wr
  q0 : w.heap.size ≤ q
  bm : w.heap.size ≤ m
  le : m ≤ wr.heap.size
  pre : Pre G bs L u
theorem IsT.tag {w : World} {q r G H u n : Nat} (h : IsT w q r G H u n) : Tag w q 51 := ⟨_, _, h⟩
theorem Ro.below {w wr w' : World} {q r G H u m : Nat} {bs L : List (List Int)} {vL : Value} (h : Ro w wr q r G H bs L u vL m) (hb : Below wr.heap.size wr w') : Ro w w' q r G H bs L u vL m :=
  ⟨h.t.below hb, h.l.below hb, chainB h.bel hb, h.q0, h.bm, Nat.le_trans h.le hb.size, h.pre⟩
theorem Ro.mark {w wr : World} {q r G H u m : Nat} {bs L : List (List Int)} {vL : Value} (h : Ro w wr q r G H bs L u vL m) : Ro w wr q r G H bs L u vL wr.heap.size :=
  ⟨h.t, h.l.up h.le, h.bel, h.q0, Nat.le_trans h.bm h.le, Nat.le_refl _, h.pre⟩
/-- a record is put behind, and both counts go on -/
theorem Ro.snoc {w wr w9 : World} {q r G H u m c : Nat} {bs L : List (List Int)} {vL v9 x : Value} {p : List Int} {vs : List Value} {o : Obj} (h : Ro w wr q r G H bs L u vL m) (hO : OwnB wr m x p) (hrow : wr.ownsRow w.heap.size 22 1 vL L.length vs) (hels : Els wr w.heap.size m vs L)
    (hown : w9.ownsRow w.heap.size 22 1 v9 (L.length + 1) (vs ++ [x])) (hgrow : (wr.alloc o).grownBy w9 vL.ownBlock) (hr : rdOne G L.length (bs.drop u) = some (p, c)) :
    IsT w9 q r G H u L.length ∧ ∀ W, Below w9.heap.size w9 W → Ro w ((W.setCell ⟨q, 3, none⟩ (.int .i64 ((u + c : Nat) : Int))).setCell ⟨q, 4, none⟩ (.int .i64 ((L.length + 1 : Nat) : Int))) q r G H bs (L ++ [p]) (u + c) v9 W.heap.size := by
  have key : ∀ k t, Tag wr k t → t ≠ 22 → w9.heap[k]? = wr.heap[k]? := fun k t ht hn => by
    have hlt := ht.lt
    rw [hgrow.block k (by simp; omega) (fun e => (Tag.own hrow e.symm).ne ht (fun e => hn e.symm) rfl), Below.heap_alloc _ _ _ hlt]
  have hsz : wr.heap.size ≤ w9.heap.size := by have := hgrow.size; simp at this; omega
  have ht0 : IsT w9 q r G H u L.length := (key q _ h.t.tag (by decide)).trans h.t
  have hb0 : Below w.heap.size w w9 := by
    refine ⟨by rw [hgrow.os]; exact h.bel.os, by rw [hgrow.tape]; exact h.bel.tape, by rw [hgrow.output]; exact h.bel.output, Nat.le_trans h.bel.size hsz, fun k hk => ?_⟩
    rw [hgrow.block k (by simp; have := h.bel.size; omega) (fun e => by have := (h.l.at e.symm).1; omega), Below.heap_alloc _ _ _ (by have := h.bel.size; omega)]
    exact h.bel.block k hk
  have hl0 : OwnR w9 w.heap.size w9.heap.size v9 (L ++ [p]) := OwnR.snoc hels hO h.bm (fun k hk => Nat.lt_of_lt_of_le (hO.at k hk).2 hsz) (Nat.le_trans h.le hsz) hown (fun k ht => key k _ ht (by decide))
  refine ⟨ht0, fun W hW => ?_⟩
  have ht9 := ht0.below hW
  have hb9 := chainB hb0 hW
  have hl9 := (hl0.below hW).up hW.size
  have hOn : Only (fun k => k = q) W ((W.setCell ⟨q, 3, none⟩ (.int .i64 ((u + c : Nat) : Int))).setCell ⟨q, 4, none⟩ (.int .i64 ((L.length + 1 : Nat) : Int))) := (only1 _ q 3 _).trans (only1 _ q 4 _)
  refine ⟨?_, ?_, hOn.below hb9 hb9.size fun k hk => by rw [hk]; exact h.q0, h.q0, hb9.size, hOn.size, h.pre.snoc hr⟩
  · show _ = _
    rw [List.length_append, List.length_singleton]
    exact (heap_set (heap_set ht9 3 _) 4 _).trans rfl
  · exact (hl9.moved (fun k hk => hOn.block k (hl9.at hk).2 (fun e => (hl9.tag hk).ne ht9.tag (by decide) e)) (fun k _ ht => hOn.block k ht.lt (fun e => ht.ne ht9.tag (by decide) e)))
/-- how long a list is -/
def lenW : Value → Nat
  | .slice _ n _ => n
  | _ => 0
theorem rf_size {w : World} {r : Nat} {R : Rf} (h : IsRf w r R) : w.cell? ⟨r, 0, none⟩ = some (.int .i64 R.n) := by rw [cell_of h.head]; rfl
set_option maxRecDepth 100000 in
set_option maxHeartbeats 4000000 in
theorem open_noD (r : Nat) (R : Rf) (cs : List (List Int)) (w : World) (h : Bk R cs) (hr : IsRf w r R) (hno : R.n < 3 ∨ hdrOf ((cs[0]?).getD []) = none) :
    Calls Try.prog 32 #[.pointer (some ⟨r, 0, none⟩)] w fun e w' => e = .returned (.tuple #[.pointer none, .slice none 0 0, .int .i64 60]) ∧ Below w.heap.size w w' := by
  obtain ⟨o, ho⟩ : ∃ o, hdrOf ((cs[0]?).getD []) = o := ⟨_, rfl⟩
  have hd := h.header hr
  rw [ho] at hd
  obtain ⟨x1, hx1⟩ : ∃ x : Int, (hdG o : Int) = x := ⟨_, rfl⟩
  obtain ⟨x2, hx2⟩ : ∃ x : Int, (hdH o : Int) = x := ⟨_, rfl⟩
  obtain ⟨b, hb⟩ : ∃ b, o.isSome = b := ⟨_, rfl⟩
  rw [hx1, hx2, hb] at hd
  have HH : Hid (Calls Try.prog 55 #[.pointer (some ⟨r, 0, none⟩)] w fun e w' => e = .returned (.tuple #[.int .i64 x1, .int .i64 x2, .bool b]) ∧ Below w.heap.size w w') := hd
  obtain ⟨N, hN⟩ : ∃ N, R.n = N := ⟨_, rfl⟩
  have HS : Hid (∀ w', Below w.heap.size w w' → w'.cell? ⟨r, 0, none⟩ = some (.int .i64 N)) := fun w' hw => by rw [← hN]; exact rf_size (hr.below hw)
  rw [ho, hN] at hno
  by_cases h3 : N < 3
  · have h3z : (N : Int) < 3 := by omega
    clear hno h hr hd ho hb hx1 hx2 hN
    go_enter Try.func32, Try.ntmps32
    go_wp2_with (go_at_call 55; refine HH.out.mono ?_; rintro e w1 ⟨rfl, hb1⟩; have c0 := HS.out w1 hb1)
    go_ret3
    exact ⟨rfl, hb1⟩
  · have h3z : ¬ (N : Int) < 3 := by omega
    have hon : o = none := by rcases hno with e | e; exact absurd e h3; exact e
    subst hon
    obtain rfl : b = false := hb.symm
    clear hno h hr hd ho hb hx1 hx2 hN h3
    go_enter Try.func32, Try.ntmps32
    go_wp2_with (go_at_call 55; refine HH.out.mono ?_; rintro e w1 ⟨rfl, hb1⟩; have c0 := HS.out w1 hb1)
    go_ret3
    exact ⟨rfl, hb1⟩
set_option maxRecDepth 100000 in
set_option maxHeartbeats 8000000 in
theorem open_yesD (r : Nat) (R : Rf) (cs : List (List Int)) (w : World) (h : Bk R cs) (hr : IsRf w r R) (h3 : 3 ≤ R.n) (G H : Nat) (hd : hdrOf ((cs[0]?).getD []) = some (G, H)) :
    Calls Try.prog 32 #[.pointer (some ⟨r, 0, none⟩)] w fun e w' => ∃ q vL L u, e = .returned (.tuple #[.pointer (some ⟨q, 0, none⟩), vL, .int .i64 0]) ∧ Told G (halfL cs H) L u ∧ w.heap.size ≤ q ∧ IsT w' q r G H u L.length ∧ OwnR w' w.heap.size w'.heap.size vL L ∧ Below w.heap.size w w' := by
  obtain ⟨hg1, hg2, hh, _⟩ := hdrOf_some hd
  have hH := h.header hr
  rw [hd] at hH
  have HH : Hid (Calls Try.prog 55 #[.pointer (some ⟨r, 0, none⟩)] w fun e w' => e = .returned (.tuple #[.int .i64 (G : Nat), .int .i64 (H : Nat), .bool true]) ∧ Below w.heap.size w w') := hH
  obtain ⟨N, hN⟩ : ∃ N, R.n = N := ⟨_, rfl⟩
  have HS : Hid (∀ w', Below w.heap.size w w' → w'.cell? ⟨r, 0, none⟩ = some (.int .i64 N)) := fun w' hw => by rw [← hN]; exact rf_size (hr.below hw)
  have h3z : ¬ (N : Int) < 3 := by omega
  obtain ⟨bs, hbs⟩ : ∃ bs, halfL cs H = bs := ⟨_, rfl⟩
  obtain ⟨M, hM⟩ : ∃ M, hS cs = M := ⟨_, rfl⟩
  have hM2 : M ≤ 1024 := by rw [← hM, h.hs]; have := h.hi; omega
  have HB : Hid (bs.length = M ∧ (∀ l ∈ bs, l.length = 64) ∧ G < 4294967296) := ⟨by rw [← hbs, ← hM]; exact halfL_len _ _ hh, fun l hl => h.each l (half_mem (by rw [hbs]; exact hl)), by omega⟩
  have HRc : Hid (∀ w', Below w.heap.size w w' → ∀ u n : Nat, u ≤ M → n ≤ M → Calls Try.prog 56 #[.pointer (some ⟨r, 0, none⟩), .int .i64 G, .int .i64 H, .int .i64 u, .int .i64 n] w' fun e w2 => RecR w' w2 e (rdOne G n (bs.drop u))) := fun w' hw u n hu hn => by
    have := h.record (hr.below hw) G H u n hh (by omega) (by omega) (by rw [hM]; exact hu)
    rw [hbs] at this
    exact this
  rw [hbs]
  clear h hr hd hH hbs hN hM
  go_enter Try.func32, Try.ntmps32
  go_wp2_with (go_at_call 55; refine HH.out.mono ?_; rintro e w1 ⟨rfl, hb1⟩; have c0 := HS.out w1 hb1)
  obtain ⟨q, hq⟩ : ∃ q, w1.heap.size = q := ⟨_, rfl⟩
  obtain ⟨W2, hW2⟩ : ∃ W, w1.alloc (.cells #[.pointer (some ⟨r, 0, none⟩), .int .i64 G, .int .i64 H, .int .i64 0, .int .i64 0] 51) = W := ⟨_, rfl⟩
  have HI : Hid (Ro w W2 q r G H bs [] 0 (.slice none 0 0) W2.heap.size) := by
    have bA := below_alloc w1 (.cells #[.pointer (some ⟨r, 0, none⟩), .int .i64 G, .int .i64 H, .int .i64 0, .int .i64 0] 51)
    rw [hW2] at bA
    refine ⟨?_, OwnR.nil _ _ _, chainB hb1 bA, by rw [← hq]; exact hb1.size, (chainB hb1 bA).size, Nat.le_refl _, .nil⟩
    show W2.heap[q]? = _
    rw [← hW2, ← hq]
    exact heap_alloc_new _ _
  rw [hW2, hq]
  clear hW2 hq c0 hb1 HH HS h3 h3z
  go_loopw [9, 10, 11] (fun s9 _ _ wr => ∃ aL nL cL, s9 = .slice aL nL cL ∧ nL ≤ M ∧ Hid (∃ L u, L.length = nL ∧ Ro w wr q r G H bs L u (.slice aL nL cL) wr.heap.size)) (fun s9 _ _ _ => M + 1 - lenW s9)
  case atStart => exact ⟨_, _, _, rfl, Nat.zero_le _, [], 0, rfl, HI.out⟩
  case round =>
    clear HI
    obtain ⟨aL, nL, cL, rfl, hnL, HJ⟩ := hrel
    obtain ⟨L, u, hLn, hR⟩ := HJ.out
    obtain ⟨hu1, hu2⟩ := hR.pre.le
    rw [HB.out.1] at hu1
    have HRd : Hid (Calls Try.prog 56 #[.pointer (some ⟨r, 0, none⟩), .int .i64 G, .int .i64 H, .int .i64 u, .int .i64 nL] wr.drew fun e w2 => RecR wr.drew w2 e (rdOne G nL (bs.drop u))) := HRc.out _ (chainB hR.bel (below_drewN (Below.refl _ _) 1)) u nL hu1 (by omega)
    have hD : Below wr.heap.size wr wr.drew := below_drewN (Below.refl _ _) 1
    have HR : Hid (Ro w wr q r G H bs L u (.slice aL nL cL) wr.heap.size ∧ L.length = nL) := ⟨hR, hLn⟩
    have hS : ∀ W, Below wr.heap.size wr W → W.cell? ⟨q, 3, none⟩ = some (.int .i64 u) ∧ W.cell? ⟨q, 4, none⟩ = some (.int .i64 nL) := fun W hb => by
      obtain ⟨-, -, -, c3, c4⟩ := (HR.out.1.t.below hb).cells
      rw [HR.out.2] at c4
      exact ⟨c3, c4⟩
    have HS : Hid (∀ W, Below wr.heap.size wr W → W.cell? ⟨q, 3, none⟩ = some (.int .i64 u) ∧ W.cell? ⟨q, 4, none⟩ = some (.int .i64 nL)) := hS
    have f0 := hS _ hD
    clear hR HJ hS hLn
    cases hrd : rdOne G nL (bs.drop u) with
    | none =>
      have HN : Hid (Calls Try.prog 56 #[.pointer (some ⟨r, 0, none⟩), .int .i64 G, .int .i64 H, .int .i64 u, .int .i64 nL] wr.drew fun e w2 => e = .returned (.tuple #[.slice none 0 0, .bool false]) ∧ Below wr.heap.size wr w2) := HRd.out.mono fun e w2 hq => ⟨hq.no hrd, chainB (below_drewN (Below.refl _ _) 1) hq.bel⟩
      have HT : Hid (Told G bs L u) := ⟨HR.out.1.pre, by rw [HR.out.2]; exact hrd⟩
      clear HRd hrd hD
      go_upto_region 6 with fail
      go_region_held3 (fun W => W.cell? ⟨q, 3, none⟩ = some (.int .i64 u) ∧ W.cell? ⟨q, 4, none⟩ = some (.int .i64 nL))
        (with_reducible first | exact f0 | exact f1)
        (first | (go_at_call 56; refine HN.out.mono ?_; rintro e w3 ⟨rfl, hb3⟩; have f1 := HS.out w3 hb3; have H3 : Hid (Below wr.heap.size wr w3) := hb3; clear hb3) | fail)
      go_wp2
      go_ret3
      have hf := HR.out.1.below H3.out
      exact ⟨_, _, L, u, rfl, HT.out, hf.q0, hf.t, hf.l.up hf.le, hf.bel⟩
    | some pc =>
      obtain ⟨p, c⟩ := pc
      obtain ⟨hnb, hp1, hp2⟩ := rdOne_nb (fun l hl => HB.out.2.1 l (List.mem_of_mem_drop hl)) hrd
      obtain ⟨hc1, hc2⟩ := rdOne_pos hrd
      rw [List.length_drop, HB.out.1] at hc2
      obtain ⟨pl, hpl⟩ : ∃ n, p.length = n := ⟨_, rfl⟩
      rw [hpl] at hnb hp1 hp2
      have HY : Hid (Calls Try.prog 56 #[.pointer (some ⟨r, 0, none⟩), .int .i64 G, .int .i64 H, .int .i64 u, .int .i64 nL] wr.drew fun e w2 => ∃ a6 c6, e = .returned (.tuple #[.slice a6 pl c6, .bool true]) ∧ OwnB w2 wr.drew.heap.size (.slice a6 pl c6) p ∧ Below wr.drew.heap.size wr.drew w2) := HRd.out.mono fun e w2 hq => by
        obtain ⟨v, rfl, ho⟩ := hq.yes p c hrd
        obtain ⟨a6, c6, rfl⟩ := owns_len ho
        rw [hpl] at ho ⊢
        exact ⟨a6, c6, rfl, ho, hq.bel⟩
      have HBl : Hid (∀ a6 c6 W, Calls Try.prog 40 #[.slice a6 pl c6] W fun e w' => e = .returned (.int .i64 (c : Nat)) ∧ W = w') := fun a6 c6 W => by
        have := rblocks_d a6 pl c6 W (by omega)
        rw [hnb] at this
        exact this
      have HP : Hid (rdOne G L.length (bs.drop u) = some (p, c) ∧ L.length = nL) := ⟨by rw [HR.out.2]; exact hrd, HR.out.2⟩
      clear HRd hrd hpl hnb
      go_upto_region 6 with fail
      go_region_held3 (fun W => W.cell? ⟨q, 3, none⟩ = some (.int .i64 u) ∧ W.cell? ⟨q, 4, none⟩ = some (.int .i64 nL))
        (with_reducible first | exact f0 | exact f1)
        (first | (go_at_call 56; refine HY.out.mono ?_; rintro e w3 ⟨a6, c6, rfl, ho3, hb3⟩; have f1 := HS.out w3 (chainB hD hb3); have H3 : Hid (OwnB w3 wr.drew.heap.size (.slice a6 pl c6) p ∧ Below wr.drew.heap.size wr.drew w3) := ⟨ho3, hb3⟩; clear ho3 hb3) | fail)
      have hRm := ((HR.out.1.below hD).mark).below H3.out.2
      obtain ⟨vs, hrow, hels⟩ := hRm.l
      have HRm : Hid (Ro w w3 q r G H bs L u (.slice aL nL cL) wr.drew.heap.size ∧ Els w3 w.heap.size wr.drew.heap.size vs L) := ⟨hRm, hels⟩
      have HV : Hid (w3.ownsRow w.heap.size 22 1 (.slice aL nL cL) L.length vs) := hrow
      have hszW : w.heap.size ≤ w3.heap.size := hRm.bel.size
      have hnv : nL ≤ 1024 := by omega
      obtain ⟨i1, hi1, hw0, hw1, hw2⟩ := info_parts Try.infoS
      have hwr1 : IntKind.i64.wrap ((u : Int) + (c : Int)) = ((u + c : Nat) : Int) := by
        rw [show ((u + c : Nat) : Int) = (u : Int) + (c : Int) by omega]; exact IntWalk.i64_in _ (by omega)
      have hwr2 : IntKind.i64.wrap ((nL : Int) + 1) = ((nL + 1 : Nat) : Int) := by
        rw [show ((nL + 1 : Nat) : Int) = (nL : Int) + 1 by omega]; exact IntWalk.i64_in _ (by omega)
      clear hRm hrow hels hD f0
      go_upto_region 10 with (at_builtin; refine wpList_append_own_at _ rfl _ _ 41 rfl w.heap.size 22 i1 (.slice none 0 0) 1 24 Try.underlying41 hi1 hw0 hw1 hw2 rfl (by decide) _ L.length vs rfl (World.ownsRow.alloc HV.out _) ⟨w3.heap.size, 0, none⟩ 1 1 [.slice a6 pl c6] rfl rfl (one_at _ _ _) (one_cell _ rfl) (by have := HP.out.2; unfold maxLen; omega) (by have := HP.out.2; omega) (by simp; omega) ?_; intro v9 w9 hown9 hgrow9 _ _; obtain ⟨ht9, h9⟩ := HRm.out.1.snoc H3.out.1 HV.out HRm.out.2 hown9 hgrow9 HP.out.1; obtain ⟨a9, c9, hv9⟩ := owns_len hown9; subst hv9; rw [HP.out.2] at ht9; have HT9 : Hid (IsT w9 q r G H u nL) := ht9; have H9 : Hid (∀ W, Below w9.heap.size w9 W → Ro w ((W.setCell ⟨q, 3, none⟩ (.int .i64 ((u + c : Nat) : Int))).setCell ⟨q, 4, none⟩ (.int .i64 ((L.length + 1 : Nat) : Int))) q r G H bs (L ++ [p]) (u + c) (.slice a9 (L.length + 1) c9) W.heap.size) := h9; clear ht9 h9 hown9 hgrow9)
      have z3 := HT9.out.cells.2.2.2.1
      have z4 := HT9.out.cells.2.2.2.2
      have zf := free_of HT9.out
      have hn1 : L.length + 1 ≤ M := by omega
      have HF : Hid (Ro w ((w9.setCell ⟨q, 3, none⟩ (.int .i64 ((u : Int) + (c : Int)))).setCell ⟨q, 4, none⟩ (.int .i64 ((nL : Int) + 1))) q r G H bs (L ++ [p]) (u + c) (.slice a9 (L.length + 1) c9) ((w9.setCell ⟨q, 3, none⟩ (.int .i64 ((u : Int) + (c : Int)))).setCell ⟨q, 4, none⟩ (.int .i64 ((nL : Int) + 1))).heap.size) := by
        have h := (H9.out w9 (Below.refl _ _)).mark
        have e1 : ((u + c : Nat) : Int) = (u : Int) + (c : Int) := by omega
        have e2 : ((L.length + 1 : Nat) : Int) = (nL : Int) + 1 := by have := HP.out.2; omega
        rw [e1, e2] at h
        exact h
      have HL1 : Hid ((L ++ [p]).length = L.length + 1) := by
        show _ = _
        rw [List.length_append]; rfl
      clear HRm HV HY HS HR HRc hi1 hw0 hw1 hw2 f1
      go_region_law (go_simp; go_at_call 40; refine (HBl.out _ _ _).mono ?_; rintro e w' ⟨rfl, rfl⟩)
      all_goals
        go_wp2
        go_roundw
        case rel => exact ⟨_, _, _, rfl, hn1, L ++ [p], u + c, HL1.out, by first | exact HF.out | exact (HF.out.below (below_drewN (Below.refl _ _) 1)).mark⟩
        case measure => simp only [lenW]; have := HP.out.2; omega
end
end Go.Proofs.Ytajgaialnafdbaa
