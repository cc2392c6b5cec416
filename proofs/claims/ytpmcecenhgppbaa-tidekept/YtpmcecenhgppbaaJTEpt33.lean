/- The document's tide: use. -/
import Derived.Test.YtpmcecenhgppbaaJTEpt32
namespace Go.Proofs.Ytpmcecenhgppbaa
section
open Go.RowKit Go.Shelf
attribute [local go_sem ↓ high] loadMsg storeMsg buildMsg storeAct loadAct buildAct
attribute [local go_sem high] run_store_complex eqC

def UseR (w : World) (B t : Nat) (s : Dt) (m : Pm) (e : Ending) (w' : World) : Prop := ∃ v l, e = .returned v ∧ Acts w' w.heap.size v l ∧ l.map Am.c = [s.say.usedA m] ∧ ∃ s', SD w w' B t s s' ∧ s'.say = s.say.used m ∧ s'.hs = s.hs ∧ s'.hv = s.hv
/-- the act of a reply that is used, while its list grows -/
def useA (bw : Bool) (er : Int) (v : Value) : Array Value := #[.bool false, .bool false, .bool true, .bool bw, .slice none 0 0, .int .i64 er, v]
set_option maxHeartbeats 8000000 in
set_option maxRecDepth 100000 in
theorem use_ag (t B : Nat) (s : Dt) (x : Hm) (w : World) (h : IsD w B t s) (he : x.m.err = 70) : Calls Try.prog 35 #[.pointer (some ⟨t, 0, none⟩), .agg x.arr, .int .i64 x.m.num] w fun e w' => UseR w B t s x.m e w' := by
  obtain ⟨W1, hW1⟩ : ∃ W1, w.alloc (.cells x.arr 45) = W1 := ⟨_, rfl⟩
  have b1 := boxB hW1
  have i1 := h.below b1.2
  obtain ⟨g1, hg1⟩ : ∃ g, w.heap.size = g := ⟨_, rfl⟩
  rw [hg1] at b1
  obtain ⟨D2, hD2⟩ : ∃ D2, ({ s with ver := max s.ver x.m.vers } : Dt) = D2 := ⟨_, rfl⟩
  have hge : ∀ k, s.wr t k → k ≠ g1 := fun k hk e => by have := (h.wlt hk).2; omega
  have c5 : W1.cell? ⟨g1, 5, none⟩ = some (.int .i64 x.m.vers) := cell_of b1.1 5
  have HN : Hid (Calls Try.prog 54 #[.pointer (some ⟨t, 0, none⟩), .int .i64 x.m.vers] W1 fun e w' => e = .returned (.tuple #[]) ∧ SD W1 w' B t s D2) := by
    rw [← hD2]; exact newer_d t B s x.m.vers W1 i1
  have HAf : Hid (∀ w3, SD W1 w3 B t s D2 → w3.cell? ⟨g1, 6, none⟩ = some (.int .i64 70) ∧ SD w w3 B t s D2) := fun w3 h3 => by
    have bx3 := h3.kept b1.1 hge
    refine ⟨?_, h3.from (hg1 ▸ b1.2)⟩
    rw [cell_of bx3 6, ← he]; rfl
  have HX : Hid (D2 = { s with ver := max s.ver x.m.vers } ∧ x.m.err = 70) := ⟨hD2.symm, he⟩
  obtain ⟨X, hX⟩ : ∃ X, x.arr = X := ⟨_, rfl⟩
  rw [hX] at hW1
  rw [hX]
  clear h b1 i1 hge hX hD2 he
  go_enter Try.func35, Try.ntmps35
  go_wp2_with (go_at_call 54; refine HN.out.mono ?_; rintro q w3 ⟨rfl, h3⟩; obtain ⟨d6, hS3⟩ := HAf.out w3 h3; have R3 : Hid (SD w w3 B t s D2) := hS3; have ao := actOne_of #[.bool false, .bool true, .bool false, .bool false, .slice none 0 0, .int .i64 0, .slice none 0 0] rfl w3; clear h3 hS3 c5 hW1)
  go_ret
  have hact : ActL w3 w.heap.size ⟨againA, none, 0, none, 0⟩ := ⟨World.ownsRow_nil _ _ _ _, World.ownsRow_nil _ _ _ _, Nat.zero_le _, Nat.zero_le _⟩
  have hac := acts_one hact R3.out.only.size
  refine ⟨_, [⟨againA, none, 0, none, 0⟩], rfl, hac, ?_, D2, R3.out.on (below_alloc _ _), ?_, ?_, ?_⟩
  · unfold Ts.usedA
    rw [if_pos HX.out.2]; rfl
  · rw [HX.out.1]
    unfold Ts.used Ts.newer Dt.say
    rw [if_pos HX.out.2]
  · rw [HX.out.1]
  · rw [HX.out.1]
end
section
open Go.RowKit Go.Shelf

theorem ents_push {w : World} {B : Nat} {v : Value} {l : List En} {e : En} (h : Row7 w B v l) (ad : Addr) (hc : ∀ j u, e.vals[j]? = some u → w.cell? (ad.add j) = some u) (hB : B ≤ w.heap.size) (hl : (l.length + 1) * 72 ≤ 140737488355328) :
    ∃ a3 q3 W, (∀ ty, (Builtin.append_ #[33, 33] ty #[v, .slice (some ad) 1 1]).run Try.prog w = .ok (.slice a3 (l.length + 1) q3) W) ∧ Row7 W B (.slice a3 (l.length + 1) q3) (l ++ [e]) ∧ Only (fun k => v.ownBlock = some k) w W := by
  obtain ⟨i1, hi1, hw0, hw1, hw2⟩ := info_parts Try.infoE
  have key : ∀ ty, ∃ v' w', (Builtin.append_ #[33, 33] ty #[v, .slice (some ad) 1 1]).run Try.prog w = .ok v' w' ∧ w'.ownsRow B 57 7 v' (l.length + 1) (ec l ++ e.vals) ∧ w.grownBy w' v.ownBlock := fun ty => by
    obtain ⟨v', w', a1, a2, a3, _, _⟩ := run_append_own_at (P := Try.prog) w B 33 ty 57 i1 _ 7 72 Try.underlying33 hi1 hw0 hw1 hw2 rfl (by decide) v l.length (ec l) h ad 1 1 e.vals rfl hc (vals_one e) (by unfold maxLen; omega) hl hB
    exact ⟨v', w', a1, a2, a3⟩
  obtain ⟨v', W, a1, a2, a3⟩ := key 0
  obtain ⟨a', q', rfl⟩ := owns_len a2
  refine ⟨a', q', W, fun ty => ?_, ?_, only_grown a3⟩
  · have : (Builtin.append_ #[33, 33] ty #[v, .slice (some ad) 1 1]).run Try.prog w = (Builtin.append_ #[33, 33] 0 #[v, .slice (some ad) 1 1]).run Try.prog w := rfl
    rw [this]; exact a1
  · show World.ownsRow _ _ _ _ _ _ _
    rw [List.length_append, ec_app, show ec [e] = e.vals by simp [ec]]; exact a2
/-- what use has made: the act's box, behind all that was there -/
structure Ug (w3 V : World) (g7 : Nat) (bw : Bool) (er : Int) (v : Value) (l : List En) : Prop where
  eg : w3.heap.size = g7
  bel : Below w3.heap.size w3 V
  act : V.heap[g7]? = some (.cells (useA bw er v) 59 (0, 0))
  row : Row7 V w3.heap.size v l
theorem Ug.on {w3 V V' : World} {g7 : Nat} {bw : Bool} {er : Int} {v : Value} {l : List En} (u : Ug w3 V g7 bw er v l) (hb : Below V.heap.size V V') : Ug w3 V' g7 bw er v l := ⟨u.eg, chainB u.bel hb, hkeep u.act hb, u.row.below hb⟩
theorem Ug.part {w3 V V' : World} {g7 : Nat} {bw : Bool} {er : Int} {v : Value} {l : List En} (u : Ug w3 V g7 bw er v l) (hV : V.setCell ⟨g7, 3, none⟩ (.bool false) = V') : Ug w3 V' g7 false er v l := by
  have o : Only (· = g7) V V' := by rw [← hV]; exact only1 _ _ _ _
  refine ⟨u.eg, o.below u.bel u.bel.size (fun k hk => by rw [hk, ← u.eg]; exact Nat.le_refl _), ?_, ?_⟩
  · rw [← hV]; exact (heap_set u.act 3 _).trans rfl
  · exact owns_moved u.row fun k hk => o.block k (World.ownsRow.lt u.row k hk).2 fun e => (Tag.own u.row hk).ne ⟨_, _, u.act⟩ (by decide) e
/-- one entry more -/
theorem Ug.push {w3 V W5 : World} {g7 : Nat} {bw : Bool} {er : Int} {v : Value} {l : List En} (u : Ug w3 V g7 bw er v l) (e : En) (hW5 : V.drew.alloc (.cells e.vals.toArray 57) = W5) (hl : (l.length + 1) * 72 ≤ 140737488355328) :
    ∃ a6 q6 W6, (∀ ty, (Builtin.append_ #[33, 33] ty #[v, .slice (some ⟨V.heap.size, 0, none⟩) 1 1]).run Try.prog W5 = .ok (.slice a6 (l.length + 1) q6) W6) ∧ W6.heap[g7]? = some (.cells (useA bw er v) 59 (0, 0)) ∧ ∀ W7, W6.setCell ⟨g7, 6, none⟩ (.slice a6 (l.length + 1) q6) = W7 → Ug w3 W7 g7 bw er (.slice a6 (l.length + 1) q6) (l ++ [e]) := by
  have hd : Below V.heap.size V V.drew := (Below.refl _ _).drew
  have b5 : Below V.heap.size V W5 := chainB hd (boxB hW5).2
  have u5 := u.on b5
  obtain ⟨a6, q6, W6, happ, hr6, ho6⟩ := ents_push (e := e) u5.row ⟨V.heap.size, 0, none⟩ (by rw [← hW5]; exact vals_at V.drew e _) u5.bel.size hl
  have a6' : W6.heap[g7]? = some (.cells (useA bw er v) 59 (0, 0)) := (ho6.block g7 (Array.getElem?_eq_some_iff.1 u5.act).1 fun hq => (Tag.own u5.row hq).ne ⟨_, _, u5.act⟩ (by decide) rfl).trans u5.act
  refine ⟨a6, q6, W6, happ, a6', fun W7 hW7 => ?_⟩
  have o7 : Only (· = g7) W6 W7 := by rw [← hW7]; exact only1 _ _ _ _
  have b6 : Below w3.heap.size w3 W6 := ho6.below u5.bel u5.bel.size (fun k hk => (World.ownsRow.lt u5.row k hk).1)
  refine ⟨u.eg, o7.below b6 b6.size (fun k hk => by rw [hk, ← u.eg]; exact Nat.le_refl _), ?_, ?_⟩
  · rw [← hW7]; exact (heap_set a6' 6 _).trans rfl
  · exact owns_moved hr6 fun k hk => o7.block k (World.ownsRow.lt hr6 k hk).2 fun e => (Tag.own hr6 hk).ne ⟨_, _, a6'⟩ (by decide) e
theorem whole_take {fs : List Fm} {i : Nat} {f : Fm} {n : Int} (h : fs[i]? = some f) : wholeF ((fs.take (i + 1)).map Fm.b) n = (wholeF ((fs.take i).map Fm.b) n && decide (part f.im ≤ n)) := by
  unfold wholeF
  rw [List.take_add_one, h, List.map_append, List.all_append]
  simp [Fm.b]
theorem named_take {fs : List Fm} {i : Nat} {f : Fm} {n : Int} {k : Ky} (h : fs[i]? = some f) : named ((fs.take (i + 1)).map Fm.b) n k = (named ((fs.take i).map Fm.b) n k || (decide (n < part f.im) && f.b.names k)) := by
  unfold named
  rw [List.take_add_one, h, List.map_append, List.any_append]
  simp [Fm.b]
/-- what use leaves, its worlds written out -/
theorem use_endD {w w3 V W8 W9 : World} {B t g7 : Nat} {s D2 : Dt} {x : Hm} {a : Option Addr} {c : Nat} {l : List En} (S : SD w w3 B t s D2) (hD : D2 = { s with ver := max s.ver x.m.vers }) (u : Ug w3 V g7 (wholeF (s.fs.map Fm.b) x.m.num) x.m.err (.slice a l.length c) l) (hl : l = left (s.fs.map Fm.b) x.m.num x.m.es) (hle : x.m.es.length * 72 ≤ LB) (he : x.m.err ≠ 70)
    (hW8 : V.setCell ⟨t, 6, none⟩ (.int .i64 0) = W8) (hW9 : W8.setCell ⟨t, 8, none⟩ (.slice none 0 0) = W9) :
    W9.heap[g7]? = some (.cells (useA (wholeF (s.fs.map Fm.b) x.m.num) x.m.err (.slice a l.length c)) 59 (0, 0)) ∧ W8.heap[t]? = some (.cells ({ D2 with seq := 0 } : Dt).arr 71 (0, 0)) ∧ UseR w B t s x.m (.returned (.slice (some ⟨W9.heap.size, 0, none⟩) 1 1)) (W9.alloc (.cells (useA (wholeF (s.fs.map Fm.b) x.m.num) x.m.err (.slice a l.length c)) 59)) := by
  have sV : SD w V B t s D2 := S.on u.bel
  have s8 : SD V W8 B t D2 { D2 with seq := 0 } := by rw [← hW8]; exact sV.is.put { D2 with seq := 0 } 6 (.int .i64 0) rfl ⟨rfl, rfl, rfl, rfl, rfl, rfl⟩ ⟨sV.is.n0, sV.is.n1, Int.le_refl _⟩
  have s9 : SD W8 W9 B t { D2 with seq := 0 } { D2 with seq := 0, fv := .slice none 0 0, fs := [] } := by rw [← hW9]; exact s8.is.clearF
  have o8 : Only (· = t) V W8 := by rw [← hW8]; exact only1 _ _ _ _
  have o9 : Only (· = t) W8 W9 := by rw [← hW9]; exact only1 _ _ _ _
  have o89 := o8.trans o9
  have a9 : W9.heap[g7]? = some (.cells (useA (wholeF (s.fs.map Fm.b) x.m.num) x.m.err (.slice a l.length c)) 59 (0, 0)) := (o89.block g7 (Array.getElem?_eq_some_iff.1 u.act).1 fun (e : g7 = t) => sV.is.tt.two (by decide) (e ▸ (⟨_, _, u.act⟩ : Tag V g7 59))).trans u.act
  have r9 : Row7 W9 w3.heap.size (.slice a l.length c) l := owns_moved u.row fun k hk => o89.block k (World.ownsRow.lt u.row k hk).2 fun e => (Tag.own u.row hk).ne sV.is.tt (by decide) e
  have hA : s.say.usedA x.m = ⟨false, false, true, wholeF (s.fs.map Fm.b) x.m.num, [], x.m.err, l⟩ := by
    unfold Ts.usedA
    rw [if_neg he, hl]; rfl
  have hact : ActL W9 w.heap.size ⟨⟨false, false, true, wholeF (s.fs.map Fm.b) x.m.num, [], x.m.err, l⟩, none, 0, a, c⟩ := by
    refine ⟨World.ownsRow_nil _ _ _ _, owns_le r9 S.only.size, ?_, Nat.zero_le _⟩
    show l.length * 72 ≤ LB
    have : l.length ≤ x.m.es.length := by rw [hl]; exact List.length_filter_le _ _
    have := Nat.mul_le_mul_right 72 this
    omega
  have S9 := (sV.trans s8).trans s9
  have hac := acts_one hact (by exact S9.only.size)
  refine ⟨a9, s8.is.head, _, [⟨⟨false, false, true, wholeF (s.fs.map Fm.b) x.m.num, [], x.m.err, l⟩, none, 0, a, c⟩], rfl, hac, ?_, _, S9.on (below_alloc _ _), ?_, ?_, ?_⟩
  · rw [hA]; rfl
  · unfold Ts.used
    rw [if_neg he, hD]; rfl
  · rw [hD]
  · rw [hD]
end
end Go.Proofs.Ytpmcecenhgppbaa
