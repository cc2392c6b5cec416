/- New; Held; Ask. -/
import Derived.Test.YtpmcecenhgppbaaJTEpt17
namespace Go.Proofs.Ytpmcecenhgppbaa
section
open Go.RowKit Go.Shelf
attribute [local go_sem ↓ high] loadMsg storeMsg buildMsg storeAct loadAct buildAct
attribute [local go_sem high] run_store_complex eqC

def newOk (client life hold : Int) : Bool := withB client 1 4 && (withB life 1 1099511627776 && withB hold 0 8)
set_option maxHeartbeats 2000000 in
theorem new_no (client life hold : Int) (w : World) (h : newOk client life hold = false) : Calls Try.prog 6 #[.int .i64 client, .int .i64 life, .int .i64 hold] w fun e w' => e = .returned (.tuple #[.pointer none, .int .i64 1]) ∧ w' = w := by
  have h1 := within_t client 1 4
  have h2 := within_t life 1 1099511627776
  have h3 := within_t hold 0 8
  cases q1 : withB client 1 4 with
  | false =>
    rw [q1] at h1
    clear h q1 h2 h3
    go_enter Try.func6, Try.ntmps6
    go_wp2_with (go_at_call 18; refine (h1 _).mono ?_; rintro e w' ⟨rfl, rfl⟩)
    go_ret2
    exact ⟨rfl, rfl⟩
  | true =>
    rw [q1] at h1
    cases q2 : withB life 1 1099511627776 with
    | false =>
      rw [q2] at h2
      clear h q1 q2 h3
      go_enter Try.func6, Try.ntmps6
      go_wp2_with (first | (go_at_call_of 18 (Value.int .i64 4); refine (h1 _).mono ?_; rintro e w' ⟨rfl, rfl⟩) | (go_at_call_of 18 (Value.int .i64 1099511627776); refine (h2 _).mono ?_; rintro e w' ⟨rfl, rfl⟩))
      go_ret2
      exact ⟨rfl, rfl⟩
    | true =>
      rw [q2] at h2
      have q3 : withB hold 0 8 = false := by unfold newOk at h; rw [q1, q2] at h; simpa using h
      rw [q3] at h3
      clear h q1 q2 q3
      go_enter Try.func6, Try.ntmps6
      go_wp2_with (first | (go_at_call_of 18 (Value.int .i64 4); refine (h1 _).mono ?_; rintro e w' ⟨rfl, rfl⟩) | (go_at_call_of 18 (Value.int .i64 1099511627776); refine (h2 _).mono ?_; rintro e w' ⟨rfl, rfl⟩) | (go_at_call_of 18 (Value.int .i64 8); refine (h3 _).mono ?_; rintro e w' ⟨rfl, rfl⟩))
      go_ret2
      exact ⟨rfl, rfl⟩
theorem part_zero : part 0 = 0 := Mk.zero.pa
set_option maxHeartbeats 2000000 in
theorem new_yes (client life : Int) (hold : Nat) (w : World) (h : newOk client life hold = true) : Calls Try.prog 6 #[.int .i64 client, .int .i64 life, .int .i64 hold] w fun e w' => e = .returned (.tuple #[.pointer (some ⟨w.heap.size, 0, none⟩), .int .i64 0]) ∧ (∃ s, IsT w' w.heap.size w.heap.size s ∧ s.say = Ts.new client life hold ∧ ∀ k, s.blk w.heap.size k → w.heap.size ≤ k) ∧ Below w.heap.size w w' := by
  have h1 := within_t client 1 4
  have h2 := within_t life 1 1099511627776
  have h3 := within_t (hold : Int) 0 8
  unfold newOk at h
  simp only [Bool.and_eq_true] at h
  obtain ⟨q1, q2, q3⟩ := h
  rw [q1] at h1
  rw [q2] at h2
  rw [q3] at h3
  have hl8 : hold ≤ 8 := by unfold withB at q3; simp at q3; omega
  clear q1 q2 q3
  go_enter Try.func6, Try.ntmps6
  go_wp2_with (first | (go_at_call_of 18 (Value.int .i64 4); refine (h1 _).mono ?_; rintro e w' ⟨rfl, rfl⟩) | (go_at_call_of 18 (Value.int .i64 1099511627776); refine (h2 _).mono ?_; rintro e w' ⟨rfl, rfl⟩) | (go_at_call_of 18 (Value.int .i64 8); refine (h3 _).mono ?_; rintro e w' ⟨rfl, rfl⟩))
  go_ret2
  refine ⟨rfl, ⟨⟨client, life, 0, 0, 0, 0, 0, 0, 0, 0, none, [], [], .slice none 0 0, [], hold⟩, ⟨heap_new _ _, Nat.le_refl _, ?_, World.ownsRow_nil _ _ _ _, fun m hm => (by cases hm), rfl, IsF.none _, FrOk.nil _, Int.le_refl _, Nat.zero_le _, hl8⟩, ?_, ?_⟩, below_alloc _ _⟩
  · show Mk 0 0 (part 0) (part 0)
    rw [part_zero]; exact Mk.zero
  · show Ts.mk client life (part 0) (part 0) 0 0 [] [] hold = _
    rw [part_zero]; rfl
  · rintro k ((rfl | hk | hk) | ⟨m, hm, -⟩)
    · exact Nat.le_refl _
    · cases hk
    · cases hk
    · cases hm
/-- messages with their lists -/
structure Msgs (w : World) (B : Nat) (v : Value) (l : List Hm) : Prop where
  row : RowM w B v l
  each : ∀ h ∈ l, Lists w B h
theorem Msgs.below {w w' : World} {B : Nat} {v : Value} {l : List Hm} (k : Msgs w B v l) (hb : Below w.heap.size w w') : Msgs w' B v l := ⟨k.row.below hb, fun a ha => (k.each a ha).below hb⟩
def HeldR (w : World) (s : Td) (e : Ending) (w' : World) : Prop := ∃ v l, e = .returned v ∧ Msgs w' w.heap.size v l ∧ l.map Hm.m = s.hs.map Hm.m ∧ Below w.heap.size w w'
theorem held_push {w w3 w5 : World} {v v5 : Value} {l : List Hm} {z : Hm} (h : Msgs w3 w.heap.size v l) (hz : Lists w3 w.heap.size z) (hb : Below w.heap.size w w3) (ho : w5.ownsRow w.heap.size 45 16 v5 (l.length + 1) (mc l ++ z.vals)) (hg : (w3.alloc (.cells z.arr 45)).grownBy w5 v.ownBlock) : Msgs w5 w.heap.size v5 (l ++ [z]) ∧ Below w.heap.size w w5 := by
  have ba := below_alloc w3 (.cells z.arr 45)
  have hO := only_grown hg
  have hr := h.row.below ba
  refine ⟨⟨?_, fun y hy => ?_⟩, hO.below (chainB hb ba) (chainB hb ba).size (fun k hk => (hr.lt hk).1)⟩
  · show World.ownsRow _ _ _ _ _ _ _
    rw [List.length_append, mc_app, show mc [z] = z.vals by simp [mc]]; exact ho
  · have hn : ∀ q, v.ownBlock = some q → ¬ Tag (w3.alloc (.cells z.arr 45)) q 57 ∧ ¬ Tag (w3.alloc (.cells z.arr 45)) q 53 := fun q e => ⟨(hr.tag e).two (by decide), (hr.tag e).two (by decide)⟩
    rcases List.mem_append.1 hy with hy | hy
    · exact ((h.each y hy).below ba).only hO hn
    · rw [List.mem_singleton.1 hy]; exact (hz.below ba).only hO hn
set_option maxHeartbeats 4000000 in
set_option maxRecDepth 100000 in
theorem held_p (t B : Nat) (s : Td) (w : World) (h : IsT w B t s) : Calls Try.prog 17 #[.pointer (some ⟨t, 0, none⟩)] w fun e w' => HeldR w s e w' := by
  obtain ⟨a, cap, hv⟩ := owns_len h.held
  obtain ⟨-, -, -, -, -, -, -, -, c8, -, -⟩ := h.cells
  obtain ⟨i1, hi1, hw0, hw1, hw2⟩ := info_parts Try.infoMg
  rw [hv] at c8
  obtain ⟨n, hn⟩ : ∃ n, s.hs.length = n := ⟨_, rfl⟩
  have hn8 : n ≤ 8 := by rw [← hn]; exact Nat.le_trans h.lh h.l8
  have H : Hid (IsT w B t s ∧ s.hv = .slice a n cap ∧ s.hs.length = n) := ⟨h, by rw [hv, hn], hn⟩
  rw [hn] at c8
  clear h hv hn
  go_enter Try.func17, Try.ntmps17
  go_wp2
  go_loopw [11, 3, 5] (fun s11 s3 _ wr => ∃ (j : Nat) (l : List Hm), j ≤ n ∧ s11 = .int .i64 j ∧ Hid (Msgs wr w.heap.size s3 l ∧ l.map Hm.m = (s.hs.take j).map Hm.m ∧ Below w.heap.size w wr)) (fun s11 _ _ _ => n - (intOf s11).toNat)
  case atStart => exact ⟨0, [], Nat.zero_le _, rfl, ⟨World.ownsRow_nil _ _ _ _, fun m hm => by cases hm⟩, rfl, Below.refl _ _⟩
  case round =>
    obtain ⟨j, l, hj, rfl, HR⟩ := hrel
    have hl8 : l.length ≤ 8 := by
      have := congrArg List.length HR.out.2.1
      rw [List.length_map, List.length_map, List.length_take] at this
      omega
    by_cases hlt : j < n
    · obtain ⟨y, hy⟩ : ∃ y, s.hs[j]? = some y := ⟨_, List.getElem?_eq_getElem (by rw [H.out.2.2]; exact hlt)⟩
      have hltz : (j : Int) < (n : Int) := by omega
      have isr := H.out.1.below HR.out.2.2
      have hrow := isr.held
      rw [H.out.2.1] at hrow
      obtain ⟨g, rfl, -, -, -, hcl⟩ := owns_msg hrow hy
      have mly := msgLd_at hcl y.size
      obtain ⟨aV, cV, rfl⟩ := owns_len HR.out.1.row
      obtain ⟨Y, hY⟩ : ∃ Y, y.arr = Y := ⟨_, rfl⟩
      have hys : Y.size = 16 ∧ Y.all (·.oneCell') = true := by rw [← hY]; exact ⟨rfl, y.one⟩
      rw [hY] at mly
      obtain ⟨W1, hW1⟩ : ∃ W1, wr.alloc (.cells #[.int .i64 0, .int .i64 0, .int .i64 0, .int .i64 0, .complex .f64 0 0, .int .i64 0, .int .i64 0, .int .i64 0, .int .i64 0, .string ⟨#[]⟩, .int .i64 0, .string ⟨#[]⟩, .int .i64 0, .string ⟨#[]⟩, .slice none 0 0, .slice none 0 0] 45) = W1 := ⟨_, rfl⟩
      obtain ⟨W2, hW2⟩ : ∃ W2, W1.setRow wr.heap.size Y = W2 := ⟨_, rfl⟩
      have bx := boxB hW1
      have ms := msgSt_of bx.1 rfl hys.1 hys.2 hW2
      have bx2 : Hid (W2.heap[wr.heap.size]? = some (.cells Y 45 (0, 0)) ∧ Below wr.heap.size wr W2) := by
        refine ⟨by rw [← hW2]; exact setRow_heap _ _ _ _ _ _ bx.1, ?_⟩
        rw [← hW2]
        exact (onlyR W1 wr.heap.size Y).below bx.2 bx.2.size (fun k hk => by rw [hk]; exact Nat.le_refl _)
      have ml2 := msgLd_of bx2.out.1 hys.1
      have hcp : Hid (Calls Try.prog 42 #[.agg Y] W2 fun e w' => ∃ z : Hm, e = .returned (.agg z.arr) ∧ z.m = y.m ∧ Lists w' W2.heap.size z ∧ Below W2.heap.size W2 w') := by
        have := copied_p y B W2 ((isr.each y (List.mem_of_getElem? hy)).1.below bx2.out.2)
        rw [hY] at this; exact this
      have HT : Hid ((s.hs.take (j + 1)).map Hm.m = (s.hs.take j).map Hm.m ++ [y.m]) := by
        have : (s.hs.take (j + 1)).map Hm.m = (s.hs.take j).map Hm.m ++ [y.m] := by rw [List.take_add_one, hy]; simp
        exact this
      have hszr := HR.out.2.2.size
      clear hcl hrow hY hy isr bx
      go_wp2_with (first
        | (at_builtin; refine wpList_append_own_at _ rfl (.tmp 15) (.tmp 18) 60 rfl w.heap.size 45 i1 _ 16 192 Try.underlying60 hi1 hw0 hw1 hw2 rfl (by decide) _ l.length (mc l) rfl hro3 ⟨w3.heap.size, 0, none⟩ 1 1 z.vals rfl rfl zat z.one' (by unfold maxLen; omega) (by omega) (by have := (below_alloc w3 (.cells z.arr 45)).size; omega) ?_; intro v5 w5 hown5 hgrow5 _ _; have H5 : Hid (Msgs w5 w.heap.size v5 (l ++ [z]) ∧ Below w.heap.size w w5) := held_push K3.out.1 K3.out.2.1 K3.out.2.2 hown5 hgrow5; obtain ⟨a5, q5, rfl⟩ := owns_len hown5; clear hown5 hgrow5)
        | (go_at_call 42; refine hcp.out.mono ?_; rintro e w3 ⟨z, rfl, hzm, hLz, hb3⟩; have mo := msgOne_of z.arr rfl w3; have hb23 := chainB bx2.out.2 hb3; have hs2 := bx2.out.2.size; have hs3 := hb3.size; have hro3 : (w3.alloc (.cells z.arr 45)).ownsRow w.heap.size 45 16 (.slice aV l.length cV) l.length (mc l) := World.ownsRow.alloc (HR.out.1.row.below hb23) _; have zat : ∀ j u, z.vals[j]? = some u → (w3.alloc (.cells z.arr 45)).cell? ((⟨w3.heap.size, 0, none⟩ : Addr).add j) = some u := (fun j u hu => by rw [add_plain', Nat.zero_add, cell_of (heap_new _ _), ← Array.getElem?_toList]; exact hu); have K3 : Hid (Msgs w3 w.heap.size (.slice aV l.length cV) l ∧ Lists w3 w.heap.size z ∧ Below w.heap.size w w3) := ⟨HR.out.1.below hb23, hLz.down (by omega), chainB HR.out.2.2 hb23⟩; clear hb23 hLz))
      exact ⟨⟨j + 1, l ++ [z], by omega, by simp, H5.out.1, by rw [List.map_append, HR.out.2.1, HT.out, ← hzm]; rfl, H5.out.2⟩, by simp [intOf]; omega⟩
    · obtain rfl : j = n := by omega
      have hltz : ¬ (j : Int) < (j : Int) := by omega
      have HF : Hid (Msgs wr w.heap.size u3 l ∧ l.map Hm.m = s.hs.map Hm.m ∧ Below w.heap.size w wr) := by
        have := HR.out
        rw [List.take_of_length_le (by rw [H.out.2.2]; exact Nat.le_refl _)] at this; exact this
      clear HR
      go_wp2
      go_ret
      exact ⟨_, l, rfl, HF.out.1, HF.out.2.1, HF.out.2.2⟩
/-- which held messages an Ask lets go -/
def letB (q : Int) (y : Pm) : Bool := decide (y.kind = 2) && decide (y.seq ≠ q)
theorem eg_ask : ∀ args w, (callFunc 22 args).run Try.prog w = .ok (.enter 22 args) w := enters_of Try.func22 (by kernel_rfl) rfl
set_option maxHeartbeats 2000000 in
theorem let_p (y : Hm) (t b0 : Nat) (q : Int) (w : World) (h0 : w.cell? ⟨b0, 0, none⟩ = some (.pointer (some ⟨t, 0, none⟩))) (h : w.cell? ⟨t, 4, none⟩ = some (.int .i64 q)) : Calls Try.prog 22 #[.agg y.arr, .pointer (some ⟨b0, 0, none⟩)] w fun e w' => e = .returned (.bool (letB q y.m)) ∧ Below w.heap.size w w' := by
  obtain ⟨Y, hY⟩ : ∃ Y, y.arr = Y := ⟨_, rfl⟩
  rw [hY]
  obtain ⟨W, hW⟩ : ∃ W, w.alloc (.cells Y 45) = W := ⟨_, rfl⟩
  have bx := boxB hW
  have p0 := (bx.2.cell (p := ⟨b0, 0, none⟩) (cellLt h0)).trans h0
  have c4 := (bx.2.cell (p := ⟨t, 4, none⟩) (cellLt h)).trans h
  have y0 : W.cell? ⟨w.heap.size, 0, none⟩ = some (.int .i64 y.m.kind) := by rw [cell_of bx.1, ← hY]; rfl
  have y3 : W.cell? ⟨w.heap.size, 3, none⟩ = some (.int .i64 y.m.seq) := by rw [cell_of bx.1, ← hY]; rfl
  have HB : Hid (Below w.heap.size w W) := bx.2
  unfold letB
  clear h h0 bx hY
  by_cases hk : y.m.kind = 2
  · rw [decide_eq_true hk, Bool.true_and]
    rw [hk] at y0
    clear hk
    by_cases hs : y.m.seq = q
    · rw [hs] at y3
      rw [decide_eq_false (by simp [hs])]
      clear hs
      go_enter Try.func22, Try.ntmps22
      go_upto_region 1 with fail
      clear hW
      go_quiet (fail)
      go_wp2
      go_ret
      exact ⟨by simp, below_drewN HB.out _⟩
    · have q1 : (y.m.seq == q) = false := beq_eq_false_iff_ne.2 hs
      have q2 : (y.m.seq != q) = true := by rw [bne, q1]; rfl
      rw [decide_eq_true hs]
      go_enter Try.func22, Try.ntmps22
      go_upto_region 1 with fail
      clear hW
      go_quiet (fail)
      go_wp2
      go_ret
      exact ⟨by simp, below_drewN HB.out _⟩
  · have q1 : (y.m.kind == 2) = false := beq_eq_false_iff_ne.2 hk
    have q2 : decide (y.m.kind = 2) = false := decide_eq_false hk
    rw [q2, Bool.false_and]
    go_enter Try.func22, Try.ntmps22
    go_upto_region 1 with fail
    clear hW
    go_quiet (fail)
    go_wp2
    go_ret
    exact ⟨rfl, below_drewN HB.out _⟩
end
section
open Go.RowKit Go.Shelf
attribute [local go_sem ↓ high] loadMsg storeMsg buildMsg storeAct loadAct buildAct
attribute [local go_sem high] run_store_complex eqC

/-- the tide behind an Ask's first half -/
def Td.asking (s : Td) (q : Int) : Td := { s with asked := max q 0, la := 0, lb := 0, fa := 0, fb := 0, kv := none, ml := [], fr := [] }
theorem asking_st {w W V : World} {B t : Nat} {s : Td} {q : Int} (h : IsT w B t s) (hb : Below w.heap.size w W) (hd : V.heap[t]? = some (.cells (s.asking q).arr 68 (0, 0))) (o : Only (· = t) W V) : ST w V B t s (s.asking q) := by
  have hW := h.below hb
  refine ⟨hW.put _ V hd o rfl h.mkk rfl rfl rfl rfl (IsF.none _) (FrOk.nil _) (by show (0 : Int) ≤ max q 0; omega), ((Only.of hb).mono (fun k e => e)).trans (o.mono fun k e => .inl e), ?_, ?_⟩
  · rintro k (e | e | e)
    · exact .inl (.inl e)
    · exact .inl (.inr (.inl e))
    · cases e
  · rintro k ((e | e | e) | ⟨m, hm, e⟩)
    · exact .inl (.inl (.inl e))
    · exact .inl (.inl (.inr (.inl e)))
    · cases e
    · exact .inl (.inr ⟨m, hm, e⟩)
theorem ask_say (s : Td) (q : Int) (v : Value) : ({ s.asking q with hv := v, hs := s.hs.filter fun y => !letB (max q 0) y.m } : Td).say = s.say.ask q := by
  unfold Td.say Ts.ask Td.asking
  simp only [Ts.mk.injEq, true_and, and_true]
  rw [List.filter_map]
  rfl
/-- the held ones that are left -/
theorem ask_end {w V w2 : World} {B t g n cap : Nat} {s : Td} {q : Int} (hst : ST w V B t s (s.asking q)) (hv : s.hv = .slice (some ⟨g, 0, none⟩) n cap) (hr : RowM w2 B (.slice (some ⟨g, 0, none⟩) (s.hs.filter fun y => !letB (max q 0) y.m).length cap) (s.hs.filter fun y => !letB (max q 0) y.m)) (o : Only (· = g) V w2) :
    (w2.cell? ⟨t, 8, none⟩ = some s.hv ∧ ∀ j, w2.frozen? ⟨t, j, none⟩ = false) ∧ ∃ s', ST w (w2.setCell ⟨t, 8, none⟩ (.slice (some ⟨g, 0, none⟩) (s.hs.filter fun y => !letB (max q 0) y.m).length cap)) B t s s' ∧ s'.say = s.say.ask q := by
  have is1 := hst.is
  have hg : Tag V g 45 := is1.th (by show s.hv.ownBlock = some g; rw [hv]; rfl)
  have gt : g ≠ t := fun e => by rw [e] at hg; exact is1.tt.two (by decide) hg
  have hd2 : w2.heap[t]? = some (.cells (s.asking q).arr 68 (0, 0)) := (o.block t is1.tt.lt (fun e => gt e.symm)).trans is1.head
  refine ⟨⟨by rw [cell_of hd2]; rfl, free_of hd2⟩, _, ?_, ask_say s q (.slice (some ⟨g, 0, none⟩) (s.hs.filter fun y => !letB (max q 0) y.m).length cap)⟩
  obtain ⟨W7, hW7⟩ : ∃ W7, w2.setCell ⟨t, 8, none⟩ (.slice (some ⟨g, 0, none⟩) (s.hs.filter fun y => !letB (max q 0) y.m).length cap) = W7 := ⟨_, rfl⟩
  rw [hW7]
  have o7 : Only (· = t) w2 W7 := by rw [← hW7]; exact only1 _ t _ _
  have tt2 : Tag w2 t 68 := ⟨_, _, hd2⟩
  have two : Only (fun k => k = g ∨ k = t) V W7 := (o.mono fun k e => .inl e).trans (o7.mono fun k e => .inr e)
  have no2 : ∀ k, (k = g ∨ k = t) → ∀ ty, 45 ≠ ty → 68 ≠ ty → ¬ Tag V k ty := fun k e ty h1 h2 => by
    rcases e with rfl | rfl
    · exact hg.two h1
    · exact is1.tt.two h2
  refine hst.trans ⟨⟨?_, is1.bt, is1.mkk, ?_, fun z hz => ?_, rfl, is1.isf, is1.frn, is1.ask0, ?_, is1.l8⟩, two.mono (fun k e => by
      rcases e with rfl | rfl
      · exact .inr (.inl (by show s.hv.ownBlock = some _; rw [hv]; rfl))
      · exact .inl rfl), ?_, ?_⟩
  · rw [← hW7]
    have := heap_set hd2 8 (.slice (some ⟨g, 0, none⟩) (s.hs.filter fun y => !letB (max q 0) y.m).length cap)
    simpa [Td.arr, Td.asking] using this
  · exact owns_moved hr fun k e => o7.block k (Tag.own hr e).lt fun (e' : k = t) => by
      have := Tag.own hr e
      rw [e'] at this; exact tt2.two (by decide) this
  · have hz' : z ∈ s.hs := (List.mem_filter.1 hz).1
    exact ⟨(is1.each z hz').1.only two fun k e => ⟨no2 k e _ (by decide) (by decide), no2 k e _ (by decide) (by decide)⟩, (is1.each z hz').2⟩
  · exact Nat.le_trans (List.length_filter_le _ _) is1.lh
  · rintro k (e | e | e)
    · exact .inl (.inl e)
    · exact .inl (.inr (.inl (by show s.hv.ownBlock = some k; rw [hv]; exact e)))
    · cases e
  · rintro k ((e | e | e) | ⟨z, hz, e⟩)
    · exact .inl (.inl (.inl e))
    · exact .inl (.inl (.inr (.inl (by show s.hv.ownBlock = some k; rw [hv]; exact e))))
    · cases e
    · exact .inl (.inr ⟨z, (List.mem_filter.1 hz).1, e⟩)
set_option maxHeartbeats 4000000 in
set_option maxRecDepth 100000 in
theorem ask_p (t B : Nat) (s : Td) (q : Int) (w : World) (h : IsT w B t s) : Calls Try.prog 9 #[.pointer (some ⟨t, 0, none⟩), .int .i64 q] w fun e w' => e = .returned (.tuple #[]) ∧ ∃ s', ST w w' B t s s' ∧ s'.say = s.say.ask q := by
  obtain ⟨W, hW⟩ : ∃ W, w.alloc (.cells #[.pointer (some ⟨t, 0, none⟩)] 23) = W := ⟨_, rfl⟩
  have bx := boxB hW
  have hI := h.below bx.2
  obtain ⟨-, -, -, -, c4, c5, c6, c7, -, -, cf⟩ := hI.cells
  have p0 : W.cell? ⟨w.heap.size, 0, none⟩ = some (.pointer (some ⟨t, 0, none⟩)) := by rw [cell_of bx.1]; rfl
  have hne : t ≠ w.heap.size := by have := h.tt.lt; omega
  have HS : Hid (((((W.setCell ⟨t, 4, none⟩ (.int .i64 (max q 0))).setCell ⟨t, 5, none⟩ (.complex .f64 0 0)).setCell ⟨t, 6, none⟩ (.complex .f64 0 0)).setCell ⟨t, 7, none⟩ (.map none)).heap[t]? = some (.cells (s.asking q).arr 68 (0, 0))) := by
    have := heap_set (heap_set (heap_set (heap_set hI.head 4 (.int .i64 (max q 0))) 5 (.complex .f64 0 0)) 6 (.complex .f64 0 0)) 7 (.map none)
    exact (by simpa [Td.arr, Td.asking] using this : ((((W.setCell ⟨t, 4, none⟩ (.int .i64 (max q 0))).setCell ⟨t, 5, none⟩ (.complex .f64 0 0)).setCell ⟨t, 6, none⟩ (.complex .f64 0 0)).setCell ⟨t, 7, none⟩ (.map none)).heap[t]? = some (.cells (s.asking q).arr 68 (0, 0)))
  have HH : Hid (IsT w B t s ∧ Below w.heap.size w W ∧ W.heap[w.heap.size]? = some (.cells #[.pointer (some ⟨t, 0, none⟩)] 23 (0, 0))) := ⟨h, bx.2, bx.1⟩
  clear h hI bx
  go_enter Try.func9, Try.ntmps9
  go_upto_region 1 with fail
  clear hW
  go_cut [13] from 4 to 12 (fun u wx => u = undef ∧ wx.heap[t]? = some (.cells (s.asking q).arr 68 (0, 0)) ∧ Only (· = t) W wx)
  case first =>
    go_region_law (fail)
    all_goals
      go_wp2_with fail
      go_meet
      exact ⟨rfl, HS.out, ((((only1 _ t _ _).trans (only1 _ t _ _)).trans (only1 _ t _ _)).trans (only1 _ t _ _)).drew⟩
  case rest =>
    rename World => V
    obtain ⟨rfl, hd, ho⟩ := hcut
    have HST : Hid (ST w V B t s (s.asking q)) := asking_st HH.out.1 HH.out.2.1 hd ho
    have bV := (ho.block _ (Array.getElem?_eq_some_iff.1 HH.out.2.2).1 (fun e => hne e.symm)).trans HH.out.2.2
    have v0 : V.cell? ⟨w.heap.size, 0, none⟩ = some (.pointer (some ⟨t, 0, none⟩)) := by rw [cell_of bV]; rfl
    have v8 : V.cell? ⟨t, 8, none⟩ = some s.hv := by rw [cell_of hd]; rfl
    have vf := free_of hd
    have HD : Hid (V.heap[t]? = some (.cells (s.asking q).arr 68 (0, 0)) ∧ V.heap[w.heap.size]? = some (.cells #[.pointer (some ⟨t, 0, none⟩)] 23 (0, 0))) := ⟨hd, bV⟩
    clear hd ho bV HS c4 c5 c6 c7 cf p0
    have hheld := HST.out.is.held
    rcases hheld.2 with ⟨hv, h2⟩ | ⟨g, cap, cur, hv, _⟩
    · have hv' : s.hv = .slice none 0 0 := hv
      have hs0 : s.hs = [] := List.length_eq_zero_iff.1 h2
      rw [hv'] at v8
      have HF : Hid (∃ s', ST w (V.drew.setCell ⟨t, 8, none⟩ (.slice none 0 0)) B t s s' ∧ s'.say = s.say.ask q) := by
        have e := ask_say s q s.hv
        rw [hs0] at e
        refine ⟨_, ?_, e⟩
        have hst := HST.out
        have o : Only (· = t) V (V.drew.setCell ⟨t, 8, none⟩ (.slice none 0 0)) := (Only.drew (Only.refl _ V)).trans (only1 _ t _ _)
        have hh : (V.drew.setCell ⟨t, 8, none⟩ (.slice none 0 0)).heap[t]? = some (.cells (s.asking q).arr 68 (0, 0)) := by
          have := heap_set (w := V.drew) HD.out.1 8 (.slice none 0 0)
          rw [this]
          simp [Td.arr, Td.asking, hv']
        have hsame : ({ s.asking q with hv := s.hv, hs := List.filter (fun y : Hm => !letB (max q 0) y.m) [] } : Td) = s.asking q := by
          unfold Td.asking
          rw [hs0]; rfl
        rw [hsame]
        exact hst.trans ⟨hst.is.put _ _ hh o rfl hst.is.mkk rfl rfl rfl rfl hst.is.isf hst.is.frn hst.is.ask0, o.mono fun k e => .inl e, fun k hk => .inl hk, fun k hk => .inl hk⟩
      clear hheld hv h2 hv' hs0
      go_upto_region 2 with fail
      go_region_law (first | (go_simp; go_at_call 21; refine (delete_nil _ _).mono ?_; rintro e w2 ⟨rfl, rfl⟩))
      all_goals
        go_wp2
        go_end0
        exact ⟨rfl, HF.out⟩
    · have hv' : s.hv = .slice (some ⟨g, 0, none⟩) s.hs.length cap := hv
      rw [hv'] at v8
      have hg : Tag V g 45 := HST.out.is.th (by show s.hv.ownBlock = some g; rw [hv']; rfl)
      have gt : g ≠ t := fun e => by rw [e] at hg; exact HST.out.is.tt.two (by decide) hg
      have gb : g ≠ w.heap.size := fun e => by rw [e] at hg; exact Tag.two (⟨_, _, HD.out.2⟩ : Tag V _ 23) (by decide) hg
      have HDel : Hid (Calls Try.prog 21 #[.slice (some ⟨g, 0, none⟩) s.hs.length cap, .func (.func 22) #[] #[.pointer (some ⟨w.heap.size, 0, none⟩)]] V.drew fun e w' => e = .returned (.slice (some ⟨g, 0, none⟩) (s.hs.filter fun x => !letB (max q 0) x.m).length cap) ∧ RowM w' B (.slice (some ⟨g, 0, none⟩) (s.hs.filter fun x => !letB (max q 0) x.m).length cap) (s.hs.filter fun x => !letB (max q 0) x.m) ∧ Only (· = g) V.drew w') := by
        have hrow := HST.out.is.held
        rw [show (s.asking q).hv = s.hv from rfl, hv'] at hrow
        exact delete_own 22 _ (fun y => letB (max q 0) y.m) g s.hs.length cap B s.hs V.drew hrow rfl (by have := HST.out.is.lh; have := HST.out.is.l8; have e : (s.asking q).hs.length = s.hs.length := rfl; omega) eg_ask (fun U y hU => let_p y t _ (max q 0) U (by
            have := (hU.block _ (Array.getElem?_eq_some_iff.1 HD.out.2).1 (fun e => gb e.symm)).trans HD.out.2
            rw [cell_of this]; rfl) (by
            have := (hU.block _ (Array.getElem?_eq_some_iff.1 HD.out.1).1 (fun e => gt e.symm)).trans HD.out.1
            rw [cell_of this]; rfl))
      have HEn : Hid (∀ w2, RowM w2 B (.slice (some ⟨g, 0, none⟩) (s.hs.filter fun x => !letB (max q 0) x.m).length cap) (s.hs.filter fun x => !letB (max q 0) x.m) → Only (· = g) V.drew w2 → (w2.cell? ⟨t, 8, none⟩ = some (.slice (some ⟨g, 0, none⟩) s.hs.length cap) ∧ ∀ j, w2.frozen? ⟨t, j, none⟩ = false) ∧ ∃ s', ST w (w2.setCell ⟨t, 8, none⟩ (.slice (some ⟨g, 0, none⟩) (s.hs.filter fun x => !letB (max q 0) x.m).length cap)) B t s s' ∧ s'.say = s.say.ask q) := fun w2 h1 h2 => by
        have := ask_end HST.out hv' h1 ((Only.drew (Only.refl _ V)).trans h2)
        rw [hv'] at this; exact this
      have HBx : Hid (∀ w2, Only (· = g) V.drew w2 → w2.cell? ⟨w.heap.size, 0, none⟩ = some (.pointer (some ⟨t, 0, none⟩))) := fun w2 h2 => by
        have := (h2.block _ (Array.getElem?_eq_some_iff.1 HD.out.2).1 (fun e => gb e.symm)).trans HD.out.2
        rw [cell_of this]; rfl
      obtain ⟨F, hF⟩ : ∃ F, s.hs.filter (fun x : Hm => !letB (max q 0) x.m) = F := ⟨_, rfl⟩
      rw [hF] at HDel HEn
      clear hheld hv hv' hg hF
      go_upto_region 2 with fail
      go_region_law (first | (go_simp; go_at_call 21; refine HDel.out.mono ?_; rintro e w2 ⟨rfl, hr2, ho2⟩; obtain ⟨⟨d8, df⟩, hfin⟩ := HEn.out w2 hr2 ho2; have HZ : Hid _ := hfin; have d0 := HBx.out w2 ho2; clear hfin hr2 ho2))
      all_goals
        go_wp2
        go_end0
        exact ⟨rfl, HZ.out⟩
end
end Go.Proofs.Ytpmcecenhgppbaa
