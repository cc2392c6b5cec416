/- The contracts of package block's New and Copy. -/
import Derived.Test.YtfomnnlilmahhaaBkS
namespace Go.Proofs.Ytfomnnlilmahhaa
open Go.RowKit

def zeros : List Int := List.replicate 64 0
def Dsk.new (n : Nat) : Dsk := ⟨List.replicate n zeros, true, false, 0, 0⟩
def zeroA : Value := .agg (Array.replicate 64 (.int .u8 0))
theorem Try.infoA : (Try.prog.info? 69).map (fun i => (i.zero, i.size, i.bytes)) = some (some zeroA, 64, 64) := by kernel_rfl

theorem new_no (n : Int) (w : World) (h : n < 1 ∨ 1024 < n) :
    Calls Try.prog 9 #[.int .i64 n] w fun e w' => e = .returned (.tuple #[.pointer none, .int .i64 1]) ∧ w' = w := by
  rcases h with h | h
  · go_enter Try.func9, Try.ntmps9
    go_wp2
    go_ret2
    exact ⟨rfl, rfl⟩
  · have h' : ¬ n < 1 := by omega
    go_enter Try.func9, Try.ntmps9
    go_wp2
    go_ret2
    exact ⟨rfl, rfl⟩

theorem made_zero (n : Nat) : (madeCells zeroA.cells (n * 64)).toList = ub (List.replicate n zeros).flatten := by
  have e1 : (List.replicate n zeros).flatten = List.replicate (n * 64) 0 := by unfold zeros; exact List.flatten_replicate_replicate
  have e2 : zeroA.cells = Array.replicate 64 (.int .u8 0) := rfl
  have e3 : ∀ j, j < 64 → (Array.replicate 64 (Value.int .u8 0))[j]! = .int .u8 0 := fun j hj => by
    rw [getElem!_pos _ _ (by simpa using hj)]; simp
  rw [e1, e2]
  apply List.ext_getElem
  · simp [madeCells, ub]
  · intro i h1 h2
    simp only [madeCells, Array.toList_map, List.getElem_map, Array.getElem_toList, Array.getElem_range, ub, Array.size_replicate, List.getElem_replicate]
    exact e3 _ (Nat.mod_lt _ (by decide))
theorem heap_new (w : World) (o : Obj) : (w.alloc o).heap[w.heap.size]? = some o := by
  show (w.heap.push o)[w.heap.size]? = _
  simp
theorem owns_all {w : World} {base n g : Nat} {v : List Value} (h : w.ownsRow base 69 64 (.slice (some ⟨g, 0, none⟩) n n) n v) : w.heap[g]? = some (.cells v.toArray 69 (0, 0)) := by
  rcases h.2 with ⟨e, _⟩ | ⟨g', cap, cur, e, hg, hh, r1, r2, r3, r4⟩
  · cases e
  · cases e
    rw [hh, ← r4, List.take_of_length_le (by simp [r3])]

/-- copy of whole blocks -/
theorem run_copy_size {P : Program} (k : Nat) (w : World) (dT sT ty elem : TypeId) (g o dLen dCap : Nat) (a : Addr) (sLen sCap : Nat) (cur : Array Value) (t : TypeId) (cs : List Value)
    (hu : P.underlying dT = some (.slice elem)) (hs : (P.info? elem).map (·.size) = some k)
    (hg : w.heap[g]? = some (.cells cur t (0, 0))) (hn : cs.length = Nat.min sLen dLen * k)
    (hsrc : ∀ j v, cs[j]? = some v → w.cell? (a.add j) = some v) (hfit : o + cs.length ≤ cur.size) (h1 : ∀ v ∈ cs, v.oneCell' = true) :
    (Builtin.copy_ #[dT, sT] ty #[.slice (some ⟨g, o, none⟩) dLen dCap, .slice (some a) sLen sCap]).run P w =
      .ok (goInt (Nat.min sLen dLen)) (w.setRow g (cur.toList.take o ++ cs ++ cur.toList.drop (o + cs.length)).toArray) := by
  have hl := run_loadCells_list (P := P) w a cs hsrc
  have hst := run_storeCells_at P g o t cs 0 cur w hg (by simpa using hfit) h1
  cases hq : P.info? elem with
  | none => simp [hq] at hs
  | some i =>
    have hi : i.size = k := by simpa [hq] using hs
    simp [Builtin.copy_, run_underlying hu, Builtin.lenOf, Builtin.firstCells, sizeOf, typeInfo, hq, hi, ← hn, hl, hst]
theorem Try.sizeA : (Try.prog.info? 69).map (·.size) = some 64 := by kernel_rfl
theorem step_copy_blocks {ops : Array Oper} {o : Oper} {a : Act} {w : World} {K : Act → World → Prop} {Q : Exit → Act → World → Prop} {E : Prop} (hgd : o.guard = none) (d s : Operand)
    (ho : o.op = .call { callee := .builtin .copy, args := #[d, s], argTypes := #[63, 63] }) (g m C : Nat) (cs : List (List Int)) (hbody : w.heap[g]? = some (.cells (ub cs.flatten).toArray 69 (0, 0))) (heach : ∀ l ∈ cs, l.length = 64) (hC : cs.length = C) (old : List Value)
    (hold : w.heap[m]? = some (.cells old.toArray 69 (0, 0))) (hol : old.length = C * 64) (hd : a.eval d = .slice (some ⟨m, 0, none⟩) C C) (hs : a.eval s = .slice (some ⟨g, 0, none⟩) C C)
    (h : ∀ w2, w2.heap[m]? = some (.cells (ub cs.flatten).toArray 69 (0, 0)) → Only (· = m) w w2 → K (a.put o.dst (goInt C)) w2) :
    if Region.wanted o (yielded ops a.tmps) = true then Oper.wp Try.prog o a w K Q else E := by
  have hw : Region.wanted o (yielded ops a.tmps) = true := by simp [Region.wanted, hgd]
  rw [if_pos hw]
  have hfl : (ub cs.flatten).length = C * 64 := by rw [ub_len, flat_len cs heach, hC]; omega
  have hmin : Nat.min C C = C := Nat.min_self C
  have hrun := run_copy_size (P := Try.prog) 64 w 63 63 o.type 69 m 0 C C ⟨g, 0, none⟩ C C old.toArray 69 (ub cs.flatten) Try.underlying63 Try.sizeA hold (by rw [hmin, hfl])
    (fun j v hv => by rw [add_plain', Nat.zero_add, cell_of hbody, List.getElem?_toArray]; exact hv) (by rw [hfl, List.size_toArray, hol]; omega) (ub_one _)
  rw [hmin] at hrun
  unfold Oper.wp
  simp [execOp, ho, resolve, invoke, builtin, hd, hs, hrun, Result.andThen]
  refine h _ ?_ (onlyR _ _ _)
  have e : ub cs.flatten ++ List.drop (ub cs.flatten).length old = ub cs.flatten := by
    rw [List.drop_eq_nil_of_le (by omega), List.append_nil]
  rw [e]
  exact setRow_heap w m _ _ _ _ hold

set_option maxHeartbeats 1000000 in
theorem new_yes (n : Nat) (w : World) (h1 : 1 ≤ n) (h2 : n ≤ 1024) :
    Calls Try.prog 9 #[.int .i64 n] w fun e w' => ∃ b g, e = .returned (.tuple #[.pointer (some ⟨b, 0, none⟩), .int .i64 0]) ∧ w.heap.size ≤ b ∧ w.heap.size ≤ g ∧ IsD w' b g (Dsk.new n) ∧ Below w.heap.size w w' := by
  obtain ⟨i0, hi0, hz0, hz1, hz2⟩ := info_parts Try.infoA
  go_enter Try.func9, Try.ntmps9
  go_wp2_with (at_make; refine wpList_make_full _ rfl (.tmp 10) (.tmp 10) 63 rfl _ 69 i0 zeroA 64 Try.underlying63 hi0 hz0 hz1 .i64 .i64 n n n rfl rfl rfl rfl (by rw [hz2]; omega) (by unfold maxLen; omega) (Nat.le_refl _) ?_; intro w1 hown hgrow; have hb1 := below_grown hgrow)
  go_ret2
  have hd := owns_all hown
  rw [made_zero] at hd
  have hlt := (Array.getElem?_eq_some_iff.1 hd).1
  refine ⟨w1.heap.size, w.heap.size, rfl, hb1.size, Nat.le_refl _, ⟨?_, ?_, ?_, by omega, ?_⟩, hb1.alloc hb1.size _⟩
  · rw [heap_new]; simp [Dsk.new]
  · rw [Below.heap_alloc _ _ _ hlt]; exact hd
  · intro l hl
    obtain rfl := (List.mem_replicate.1 hl).2
    rfl
  · simp [Dsk.new]; exact h2

/-- a disk's head, laid anew -/
def headO (g C : Nat) (s : Dsk) : Obj := .cells #[.slice (some ⟨g, 0, none⟩) C C, .bool s.on, .bool s.burns, .int .i64 s.left, .int .i64 s.writes] 67
theorem copy_mid {w w1 : World} {g C : Nat} {s : Dsk} (hb1 : Below (w.alloc (headO g C s)).heap.size (w.alloc (headO g C s)) w1) :
    w1.heap[w.heap.size]? = some (.cells #[.slice (some ⟨g, 0, none⟩) C C, .bool s.on, .bool s.burns, .int .i64 s.left, .int .i64 s.writes] 67 (0, 0)) ∧
    Below w.heap.size w w1 := by
  refine ⟨?_, ?_⟩
  · rw [hb1.block _ (by simp), heap_new]; rfl
  · exact ((Below.refl _ _).alloc (Nat.le_refl _) (headO g C s)).trans (hb1.mono (by simp))

theorem copy_end {w W w2 : World} {b g C : Nat} {s : Dsk} (h : IsD w b g s ∧ s.cs.length = C) (hB : Below w.heap.size w W)
    (hh : W.heap[w.heap.size]? = some (.cells #[.slice (some ⟨w.heap.size + 1, 0, none⟩) C C, .bool s.on, .bool s.burns, .int .i64 s.left, .int .i64 s.writes] 67 (0, 0)))
    (hb : w2.heap[w.heap.size + 1]? = some (.cells (ub s.cs.flatten).toArray 69 (0, 0))) (hO : Only (fun x => x = w.heap.size + 1) W.drew w2) :
    IsD w2 w.heap.size (w.heap.size + 1) s ∧ Below w.heap.size w w2 := by
  have hO' : Only (fun x => x = w.heap.size + 1) W w2 := ⟨hO.os, hO.tape, hO.output, hO.size, hO.block⟩
  have hlt := (Array.getElem?_eq_some_iff.1 hh).1
  refine ⟨⟨?_, hb, h.1.each, by omega, h.1.few⟩, Only.below hB hO' (by omega) (fun k hk => by omega)⟩
  rw [hO'.block _ hlt (by simp), hh, h.2]

set_option maxHeartbeats 1000000 in
theorem copy_any (b g : Nat) (s : Dsk) (w : World) (h : IsD w b g s) :
    Calls Try.prog 25 #[.pointer (some ⟨b, 0, none⟩)] w fun e w' => ∃ b' g', e = .returned (.pointer (some ⟨b', 0, none⟩)) ∧ w.heap.size ≤ b' ∧ w.heap.size ≤ g' ∧ IsD w' b' g' s ∧ Below w.heap.size w w' := by
  obtain ⟨i0, hi0, hz0, hz1, hz2⟩ := info_parts Try.infoA
  obtain ⟨c0, c1, c2, c3, c4, hf⟩ := h.cells
  have hfew := h.few
  have hlb := h.lb
  have hlg := h.lg
  obtain ⟨C, hC⟩ : ∃ C, s.cs.length = C := ⟨_, rfl⟩
  rw [hC] at hfew c0
  have H : Hid (IsD w b g s ∧ s.cs.length = C) := ⟨h, hC⟩
  clear h hC
  go_enter Try.func25, Try.ntmps25
  go_wp2_with (at_make; refine wpList_make_full _ rfl (.tmp 11) (.tmp 11) 63 rfl _ 69 i0 zeroA 64 Try.underlying63 hi0 hz0 hz1 .i64 .i64 C C C rfl rfl rfl rfl (by rw [hz2]; omega) (by unfold maxLen; omega) (Nat.le_refl _) ?_; intro w1 hown hgrow; obtain ⟨hn, hb1⟩ := copy_mid (below_grown hgrow); have hO := owns_all hown; have m0 := cell_of hn 0; have m1 := free_of hn 0; simp only [World.size_alloc] at hO; have d0 : w1.cell? ⟨b, 0, none⟩ = some (.slice (some ⟨g, 0, none⟩) C C) := (hb1.cell hlb).trans c0; have HN : Hid _ := hn; have HO : Hid _ := hO; simp at m0; clear hn hO hown hgrow c0 c1 c2 c3 c4 hf)
  obtain ⟨W, hW⟩ : ∃ W, w1.setCell ⟨w.heap.size, 0, none⟩ (.slice (some ⟨w.heap.size + 1, 0, none⟩) C C) = W := ⟨_, rfl⟩
  have hsz : w.heap.size + 1 < w1.heap.size := (Array.getElem?_eq_some_iff.1 HO.out).1
  have hWb : Below w.heap.size w W := by rw [← hW]; exact hb1.setCell (p := ⟨w.heap.size, 0, none⟩) (Nat.le_refl _) _
  have hWh : W.heap[w.heap.size]? = some (.cells #[.slice (some ⟨w.heap.size + 1, 0, none⟩) C C, .bool s.on, .bool s.burns, .int .i64 s.left, .int .i64 s.writes] 67 (0, 0)) := by rw [← hW]; exact (heap_set HN.out 0 _).trans rfl
  have hWo : W.heap[w.heap.size + 1]? = some (.cells (madeCells zeroA.cells (C * 64)).toList.toArray 69 (0, 0)) := by rw [← hW, heap_set_ne (by omega)]; exact HO.out
  have hWg : W.heap[g]? = some (.cells (ub s.cs.flatten).toArray 69 (0, 0)) := (hWb.block g hlg).trans H.out.1.body
  rw [hW]
  have k0 : W.cell? ⟨w.heap.size, 0, none⟩ = some (.slice (some ⟨w.heap.size + 1, 0, none⟩) C C) := by rw [cell_of hWh]; rfl
  have k1 : W.cell? ⟨b, 0, none⟩ = some (.slice (some ⟨g, 0, none⟩) C C) := by rw [hWb.cell hlb, ← H.out.2]; exact H.out.1.cells.1
  have hol : (madeCells zeroA.cells (C * 64)).toList.length = C * 64 := by rw [Array.length_toList, size_madeCells]
  have K : Hid (Below w.heap.size w W ∧ W.heap[w.heap.size]? = some (.cells #[.slice (some ⟨w.heap.size + 1, 0, none⟩) C C, .bool s.on, .bool s.burns, .int .i64 s.left, .int .i64 s.writes] 67 (0, 0)) ∧ W.heap[w.heap.size + 1]? = some (.cells (madeCells zeroA.cells (C * 64)).toList.toArray 69 (0, 0)) ∧ W.heap[g]? = some (.cells (ub s.cs.flatten).toArray 69 (0, 0)) ∧ (madeCells zeroA.cells (C * 64)).toList.length = C * 64) := ⟨hWb, hWh, hWo, hWg, hol⟩
  have hsW : w.heap.size + 1 < W.heap.size := (Array.getElem?_eq_some_iff.1 hWo).1
  clear hW hWb hWh hWo hWg hol HN HO m0 m1 d0 hb1 hsz
  go_region_law (refine step_copy_blocks rfl (.tmp 15) (.tmp 19) rfl g (w.heap.size + 1) C s.cs (by exact K.out.2.2.2.1) H.out.1.each H.out.2 _ (by exact K.out.2.2.1) K.out.2.2.2.2 (by simp [Act.eval]) (by simp [Act.eval]) ?_; intro w2 hb2 hO2)
  all_goals
    have hE := copy_end H.out K.out.1 K.out.2.1 hb2 hO2
    clear hb2 hO2 K k0 k1
    go_wp2
    go_ret
    exact ⟨_, _, rfl, Nat.le_refl _, by omega, hE.1, hE.2⟩
end Go.Proofs.Ytfomnnlilmahhaa
