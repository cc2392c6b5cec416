/- A rising list of places: plainly, and in memory, at whatever offset of its block; slices.BinarySearch, slices.Insert, insert. -/
import Derived.Test.YtabdicbmecgogaaJPEpt25
import Derived.Test.YtabdicbmecgogaaJPEpt00
import Derived.Deep.RegionHeld3
namespace Go.Proofs.Ytabdicbmecgogaa
section
open Go.RowKit Go.Shelf

/-- a place laid into a rising list -/
def insP (l : List Nat) (p : Nat) : List Nat := l.take (l.countP (· < p)) ++ p :: l.drop (l.countP (· < p))
theorem insP_len (l : List Nat) (p : Nat) : (insP l p).length = l.length + 1 := by
  unfold insP
  rw [List.length_append, List.length_cons, List.length_take, List.length_drop]
  have := List.countP_le_length (p := (· < p)) (l := l)
  omega
theorem rise_split {l : List Nat} (h : l.Pairwise (· < ·)) (p : Nat) : (∀ q ∈ l.take (l.countP (· < p)), q < p) ∧ ∀ q ∈ l.drop (l.countP (· < p)), ¬ q < p := by
  induction l with
  | nil => simp
  | cons a l ih =>
    rw [List.pairwise_cons] at h
    obtain ⟨i1, i2⟩ := ih h.2
    by_cases ha : a < p
    · rw [List.countP_cons_of_pos (by simpa using ha), List.take_succ_cons, List.drop_succ_cons]
      refine ⟨fun q hq => ?_, i2⟩
      rcases List.mem_cons.1 hq with rfl | hq
      · exact ha
      · exact i1 q hq
    · have h0 : (a :: l).countP (· < p) = 0 := by
        rw [List.countP_eq_zero]
        intro q hq
        rcases List.mem_cons.1 hq with rfl | hq
        · simpa using ha
        · have := h.1 q hq
          simp; omega
      rw [h0]
      refine ⟨by simp, fun q hq => ?_⟩
      rw [List.drop_zero] at hq
      rcases List.mem_cons.1 hq with rfl | hq
      · exact ha
      · have := h.1 q hq
        omega
theorem insP_mem {l : List Nat} {p q : Nat} : q ∈ insP l p ↔ q = p ∨ q ∈ l := by
  unfold insP
  rw [List.mem_append, List.mem_cons]
  conv => rhs; rw [← List.take_append_drop (l.countP (· < p)) l, List.mem_append]
  constructor
  · rintro (h | h | h)
    · exact .inr (.inl h)
    · exact .inl h
    · exact .inr (.inr h)
  · rintro (h | h | h)
    · exact .inr (.inl h)
    · exact .inl h
    · exact .inr (.inr h)
theorem insP_rise {l : List Nat} (h : l.Pairwise (· < ·)) {p : Nat} (hp : p ∉ l) : (insP l p).Pairwise (· < ·) := by
  obtain ⟨h1, h2⟩ := rise_split h p
  unfold insP
  have ht := h.sublist (List.take_sublist (l.countP (· < p)) l)
  have hd := h.sublist (List.drop_sublist (l.countP (· < p)) l)
  rw [List.pairwise_append, List.pairwise_cons]
  refine ⟨ht, ⟨fun q hq => ?_, hd⟩, fun a ha b hb => ?_⟩
  · have := h2 q hq
    have hne : q ≠ p := fun e => hp (by rw [← e]; exact List.mem_of_mem_drop hq)
    omega
  · rcases List.mem_cons.1 hb with rfl | hb
    · exact h1 a ha
    · have := h1 a ha
      have := h2 b hb
      omega
/-- cells of a block that are written one behind the other -/
theorem setCells_heap {t : TypeId} {fr : Nat × Nat} (g : Nat) : ∀ (vs : List Value) (o : Nat) (w : World) (cur : Array Value), w.heap[g]? = some (.cells cur t fr) →
    ∃ cur', (w.setCells g o vs).heap[g]? = some (.cells cur' t fr) ∧ cur'.size = cur.size ∧ (∀ j, j < vs.length → o + j < cur.size → cur'[o + j]? = vs[j]?) ∧ ∀ k, k < o ∨ o + vs.length ≤ k → cur'[k]? = cur[k]?
  | [], o, w, cur, h => ⟨cur, h, rfl, fun j hj => by simp at hj, fun _ _ => rfl⟩
  | v :: vs, o, w, cur, h => by
    obtain ⟨cur', h1, h2, h3, h4⟩ := setCells_heap g vs (o + 1) (w.setCell ⟨g, o, none⟩ v) _ (heap_set h o v)
    refine ⟨cur', h1, by rw [h2]; simp, fun j hj hs => ?_, fun k hk => ?_⟩
    · cases j with
      | zero =>
        rw [Nat.add_zero, h4 o (.inl (by omega))]
        rw [Array.getElem?_setIfInBounds_self_of_lt (by omega)]
        rfl
      | succ j =>
        have := h3 j (by simpa using hj) (by simp; omega)
        rw [show o + (j + 1) = o + 1 + j by omega, this]
        rfl
    · rw [List.length_cons] at hk
      rw [h4 k (by omega), Array.getElem?_setIfInBounds_ne (by omega)]
theorem setCells_only (g : Nat) : ∀ (vs : List Value) (o : Nat) (w : World), Only (· = g) w (w.setCells g o vs)
  | [], _, _ => Only.refl _ _
  | v :: vs, o, w => (only1 w g o v).trans (setCells_only g vs (o + 1) _)
/-- a list of places in memory -/
def IsNx (w : World) (B : Nat) (v : Value) (l : List Nat) : Prop :=
  ∃ g off cap cur, v = .slice (some ⟨g, off, none⟩) l.length cap ∧ B ≤ g ∧ w.heap[g]? = some (.cells cur 3 (0, 0)) ∧ off + cap ≤ cur.size ∧ l.length ≤ cap ∧ cap ≤ maxLen ∧ ∀ (j x : Nat), l[j]? = some x → cur[off + j]? = some (.int .i64 (x : Int))
theorem IsNx.moved {w w' : World} {B : Nat} {v : Value} {l : List Nat} (h : IsNx w B v l) (hk : ∀ k, v.ownBlock = some k → w'.heap[k]? = w.heap[k]?) : IsNx w' B v l := by
  obtain ⟨g, off, cap, cur, rfl, hB, hh, r⟩ := h
  exact ⟨g, off, cap, cur, rfl, hB, (hk g rfl).trans hh, r⟩
theorem IsNx.below {w w' : World} {B : Nat} {v : Value} {l : List Nat} (h : IsNx w B v l) (hb : Below w.heap.size w w') : IsNx w' B v l := h.moved fun k hk => by
  obtain ⟨g, off, cap, cur, rfl, hB, hh, r⟩ := h
  cases hk
  exact hb.block _ (Array.getElem?_eq_some_iff.1 hh).1
theorem IsNx.lt {w : World} {B : Nat} {v : Value} {l : List Nat} (h : IsNx w B v l) {k : Nat} (hk : v.ownBlock = some k) : B ≤ k ∧ k < w.heap.size ∧ Tag w k 3 := by
  obtain ⟨g, off, cap, cur, rfl, hB, hh, r⟩ := h
  cases hk
  exact ⟨hB, (Array.getElem?_eq_some_iff.1 hh).1, ⟨_, _, hh⟩⟩
theorem int_one (z : Int) : (Value.int .i64 z).oneCell' = true := rfl
set_option maxRecDepth 20000 in
theorem ins_go {w : World} {B : Nat} {v : Value} {l : List Nat} {vb p : Nat} (h : IsNx w B v l) (hvb : w.heap[vb]? = some (.cells #[.int .i64 (p : Int)] 3 (0, 0))) (hne : v.ownBlock ≠ some vb) (hB : B ≤ w.heap.size) (hl : l.length ≤ 1400000000000) :
    Calls Try.prog 66 #[v, .int .i64 (l.countP (· < p) : Nat), .slice (some ⟨vb, 0, none⟩) 1 1] w fun e w' => ∃ v', e = .returned v' ∧ IsNx w' B v' (insP l p) ∧ Only (fun k => v.ownBlock = some k) w w' ∧ ∀ k, v'.ownBlock = some k → v.ownBlock = some k ∨ w.heap.size ≤ k := by
  obtain ⟨g, off, cap, cur, rfl, hBg, hh, hoc, hlc, hcm, hc⟩ := h
  obtain ⟨i, hi⟩ : ∃ i, l.countP (· < p) = i := ⟨_, rfl⟩
  have hil : i ≤ l.length := by rw [← hi]; exact List.countP_le_length
  have hins : insP l p = l.take i ++ p :: l.drop i := by unfold insP; rw [hi]
  have hgv : vb ≠ g := fun e => hne (by rw [e]; rfl)
  have hcell : ∀ j, w.cell? ⟨g, j, none⟩ = cur[j]? := fun j => cell_of hh j
  have hcs : ∀ j u, (l.map fun x : Nat => Value.int .i64 (x : Int))[j]? = some u → w.cell? ⟨g, off + j, none⟩ = some u := fun j u hu => by
    rw [List.getElem?_map] at hu
    cases hx : l[j]? with
    | none => rw [hx] at hu; cases hu
    | some x => rw [hx] at hu; cases hu; rw [hcell]; exact hc j x hx
  have hvs : ∀ j u, [Value.int .i64 (p : Int)][j]? = some u → w.cell? ⟨vb, 0 + j, none⟩ = some u := fun j u hu => by
    cases j with
    | zero => simp at hu; subst hu; rw [cell_of hvb]; rfl
    | succ j => simp at hu
  have h1c : ∀ u ∈ (l.map fun x : Nat => Value.int .i64 (x : Int)), u.oneCell' = true := fun u hu => by
    obtain ⟨x, _, rfl⟩ := List.mem_map.1 hu
    rfl
  have h1v : ∀ u ∈ [Value.int .i64 (p : Int)], u.oneCell' = true := fun u hu => by rw [List.mem_singleton.1 hu]; rfl
  have hlen : (l.map fun x : Nat => Value.int .i64 (x : Int)).length = l.length := by simp
  have hml : maxLen ≤ 9223372036854775807 := by unfold maxLen; omega
  rw [hi, hins]
  have key : ∀ (cur' : Array Value) (o' : Nat), (∀ (j x : Nat), j < i → l[j]? = some x → cur'[o' + j]? = some (.int .i64 (x : Int))) → cur'[o' + i]? = some (.int .i64 (p : Int)) → (∀ (j x : Nat), i ≤ j → l[j]? = some x → cur'[o' + (j + 1)]? = some (.int .i64 (x : Int))) → ∀ (j x : Nat), (l.take i ++ p :: l.drop i)[j]? = some x → cur'[o' + j]? = some (.int .i64 (x : Int)) := by
    intro cur' o' k1 k2 k3 j x hx
    have htl : (l.take i).length = i := by rw [List.length_take]; omega
    by_cases hj : j < i
    · rw [List.getElem?_append_left (by omega), List.getElem?_take_of_lt hj] at hx
      exact k1 j x hj hx
    · rw [List.getElem?_append_right (by omega), htl] at hx
      by_cases hj2 : j = i
      · subst hj2
        rw [Nat.sub_self] at hx
        simp at hx
        subst hx
        exact k2
      · obtain ⟨d, hd⟩ : ∃ d, j = i + d + 1 := ⟨j - i - 1, by omega⟩
        subst hd
        rw [show i + d + 1 - i = d + 1 by omega, List.getElem?_cons_succ, List.getElem?_drop] at hx
        have := k3 (i + d) x (by omega) hx
        exact this
  have hlen2 : (l.take i ++ p :: l.drop i).length = l.length + 1 := by
    rw [List.length_append, List.length_cons, List.length_take, List.length_drop]; omega
  have hsp : ∀ j, j < cap → (w.cell? ⟨g, off + j, none⟩).isSome = true := fun j hj => by
    rw [hcell, Array.getElem?_eq_getElem (by omega)]; rfl
  have hfz : ∀ j, w.frozen? ⟨g, j, none⟩ = false := free_of hh
  by_cases hend : i = l.length
  · subst hend
    by_cases hroom : l.length + 1 ≤ cap
    · -- behind the last one, with room
      have hcon := Any2.slices_Insert_int_end_room Try.insertI g off l.length cap vb 0 1 1 [.int .i64 (p : Int)] w (by omega) hroom (by omega) rfl (fun j hj => by rw [show off + l.length + j = off + (l.length + j) by omega]; exact hsp _ (by omega)) (fun j _ => hfz _) hvs h1v
      change Calls Try.prog 66 _ _ _ at hcon
      refine hcon.mono ?_
      rintro e w' ⟨rfl, rfl⟩
      obtain ⟨cur', q1, q2, q3, q4⟩ := setCells_heap g [.int .i64 (p : Int)] (off + l.length) w cur hh
      refine ⟨_, rfl, ⟨g, off, cap, cur', by rw [hlen2], hBg, q1, by omega, by omega, hcm, key cur' off (fun j x hj hx => ?_) ?_ (fun j x hj hx => ?_)⟩, (setCells_only g _ _ w).mono fun k hk => by rw [hk]; rfl, fun k hk => .inl hk⟩
      · rw [q4 _ (.inl (by omega))]; exact hc j x hx
      · have := q3 0 (by simp) (by omega)
        simpa using this
      · have := (List.getElem?_eq_some_iff.1 hx).1
        omega
    · have hcap : cap = l.length := by omega
      have hcon := Any2.slices_Insert_int_end_grow Try.insertI (some ⟨g, off, none⟩) l.length cap vb 0 1 1 (l.map fun x : Nat => Value.int .i64 (x : Int)) [.int .i64 (p : Int)] w (by omega) hlc (by omega) (by omega) hlen rfl (fun e => by cases e) (fun a ha j u hu => by cases ha; rw [add_plain']; exact hcs j u hu) hvs h1v
      change Calls Try.prog 66 _ _ _ at hcon
      refine hcon.mono ?_
      rintro e w' ⟨rfl, rfl⟩
      obtain ⟨G, hG⟩ : ∃ G, grownCap w (l.length + 1) cap 3 = G := ⟨_, rfl⟩
      have hG1 : l.length + 1 ≤ G := by rw [← hG]; exact grownCap_ge _ _ _ _
      have hG2 : G ≤ maxLen := by rw [← hG]; exact grownCap_le_maxLen _ _ _ _ (by unfold maxLen; omega)
      obtain ⟨C, hC⟩ : ∃ C, (((l.map fun x : Nat => Value.int .i64 (x : Int)) ++ [Value.int .i64 (p : Int)]).toArray ++ Builtin.zeroCells (Value.int .i64 0).cells (grownCap w (l.length + 1) cap 3 - (l.length + 1))) = C := ⟨_, rfl⟩
      have hCs : C.size = G := by
        rw [← hC, Array.size_append, size_zeroCells, hG]
        simp [Value.cells]
        omega
      have hCj : ∀ j u, ((l.map fun x : Nat => Value.int .i64 (x : Int)) ++ [Value.int .i64 (p : Int)])[j]? = some u → C[j]? = some u := fun j u hu => by
        rw [← hC, Array.getElem?_append_left (by have := (List.getElem?_eq_some_iff.1 hu).1; simpa using this), List.getElem?_toArray]
        exact hu
      have hw : ∀ k, k < w.heap.size → (w.drew.alloc (.cells C 3)).heap[k]? = w.heap[k]? := fun k hk => (below_alloc w.drew _).block k hk
      have hsz : w.heap.size ≤ (w.drew.alloc (.cells C 3)).heap.size := (below_alloc w.drew _).size
      have hnew : (w.drew.alloc (.cells C 3)).heap[w.heap.size]? = some (.cells C 3 (0, 0)) := heap_new w.drew _
      have hos : (w.drew.alloc (.cells C 3)).os = w.os ∧ (w.drew.alloc (.cells C 3)).tape = w.tape ∧ (w.drew.alloc (.cells C 3)).output = w.output := ⟨rfl, rfl, rfl⟩
      refine ⟨.slice (some ⟨w.heap.size, 0, none⟩) (l.length + 1) G, ?_, ⟨w.heap.size, 0, G, C, by rw [hlen2], hB, ?_, by omega, by omega, hG2, key C 0 (fun j x hj hx => ?_) ?_ (fun j x hj hx => ?_)⟩, ?_, fun k hk => .inr (by cases hk; exact Nat.le_refl _)⟩
      · show Ending.returned (Value.slice _ _ (grownCap w (l.length + 1) cap 3)) = _
        rw [hG]
      · rw [← hC] at hnew ⊢
        exact hnew
      · rw [Nat.zero_add]
        refine hCj j _ ?_
        rw [List.getElem?_append_left (by rw [hlen]; exact hj), List.getElem?_map, hx]; rfl
      · rw [Nat.zero_add]
        refine hCj _ _ ?_
        rw [List.getElem?_append_right (by rw [hlen]; exact Nat.le_refl _), hlen, Nat.sub_self]; rfl
      · have := (List.getElem?_eq_some_iff.1 hx).1
        omega
      · rw [← hC] at hos hsz hw
        exact ⟨hos.1, hos.2.1, hos.2.2, hsz, fun k hk _ => hw k hk⟩
  · have hlt : i < l.length := by omega
    by_cases hroom : l.length + 1 ≤ cap
    · have hcon := Any2.slices_Insert_int_shift Try.insertI g off l.length cap i vb 0 1 1 (l.map fun x : Nat => Value.int .i64 (x : Int)) [.int .i64 (p : Int)] w hlt (by omega) hroom (by omega) hgv hlen rfl hcs (fun j hj => hsp j (by omega)) (fun j _ => hfz _) hvs h1c h1v 3 3 1 cur.size (by simp [World.shape?, hvb]) (by simp [World.shape?, hh]) (by omega) (free_of hvb _) (free_of hvb _)
      change Calls Try.prog 66 _ _ _ at hcon
      refine hcon.mono ?_
      rintro e w' ⟨rfl, rfl⟩
      obtain ⟨c1, q1, q2, q3, q4⟩ := setCells_heap g ((l.map fun x : Nat => Value.int .i64 (x : Int)).drop i) (off + (i + 1)) w.drew cur hh
      obtain ⟨c2, r1, r2, r3, r4⟩ := setCells_heap g [.int .i64 (p : Int)] (off + i) _ c1 q1
      have hdl : ((l.map fun x : Nat => Value.int .i64 (x : Int)).drop i).length = l.length - i := by rw [List.length_drop, hlen]
      refine ⟨_, rfl, ⟨g, off, cap, c2, by rw [hlen2], hBg, r1, by omega, by omega, hcm, key c2 off (fun j x hj hx => ?_) ?_ (fun j x hj hx => ?_)⟩, ?_, fun k hk => .inl hk⟩
      · rw [r4 _ (.inl (by omega)), q4 _ (.inl (by omega))]; exact hc j x hx
      · have := r3 0 (by simp) (by omega)
        simpa using this
      · have hjl := (List.getElem?_eq_some_iff.1 hx).1
        rw [r4 _ (.inr (by simp; omega))]
        have := q3 (j - i) (by rw [hdl]; omega) (by omega)
        rw [show off + (j + 1) = off + (i + 1) + (j - i) by omega, this, List.getElem?_drop, show i + (j - i) = j by omega, List.getElem?_map, hx]; rfl
      · exact ((Only.of (S := (· = g)) (below_drewN (Below.refl _ _) 1)).trans ((setCells_only g _ _ _).trans (setCells_only g _ _ _))).mono fun k hk => by rw [hk]; rfl
    · have hcap : cap = l.length := by omega
      have hcon := Any2.slices_Insert_int_grow Try.insertI g off l.length cap i vb 0 1 1 (l.map fun x : Nat => Value.int .i64 (x : Int)) [.int .i64 (p : Int)] w hlt (by omega) hlc (by omega) (by omega) hlen rfl hcs hvs h1c h1v
      change Calls Try.prog 66 _ _ _ at hcon
      refine hcon.mono ?_
      rintro e w' ⟨rfl, rfl⟩
      obtain ⟨G, hG⟩ : ∃ G, grownCap w (l.length + 1) cap 3 = G := ⟨_, rfl⟩
      have hG1 : l.length + 1 ≤ G := by rw [← hG]; exact grownCap_ge _ _ _ _
      have hG2 : G ≤ maxLen := by rw [← hG]; exact grownCap_le_maxLen _ _ _ _ (by unfold maxLen; omega)
      obtain ⟨C, hC⟩ : ∃ C, (((l.map fun x : Nat => Value.int .i64 (x : Int)).take i).toArray ++ Builtin.zeroCells (Value.int .i64 0).cells (l.length + 1 - i) ++ Builtin.zeroCells (Value.int .i64 0).cells (grownCap w (l.length + 1) cap 3 - (l.length + 1))) = C := ⟨_, rfl⟩
      have hCs : C.size = G := by
        rw [← hC, Array.size_append, Array.size_append, size_zeroCells, size_zeroCells, hG]
        simp [Value.cells]
        omega
      have hCj : ∀ (j x : Nat), j < i → l[j]? = some x → C[j]? = some (.int .i64 (x : Int)) := fun j x hj hx => by
        have hjl := (List.getElem?_eq_some_iff.1 hx).1
        rw [← hC, Array.append_assoc, Array.getElem?_append_left (by simp; omega), List.getElem?_toArray, List.getElem?_take_of_lt hj, List.getElem?_map, hx]; rfl
      obtain ⟨W1, hW1⟩ : ∃ W1, w.alloc (.cells C 3) = W1 := ⟨_, rfl⟩
      have hnew : W1.drew.heap[w.heap.size]? = some (.cells C 3 (0, 0)) := by rw [← hW1]; exact heap_new w _
      have bW1 : Below w.heap.size w W1.drew := by rw [← hW1]; exact below_drewN (below_alloc w _) 1
      obtain ⟨c1, q1, q2, q3, q4⟩ := setCells_heap w.heap.size [.int .i64 (p : Int)] i W1.drew C hnew
      obtain ⟨c2, r1, r2, r3, r4⟩ := setCells_heap w.heap.size ((l.map fun x : Nat => Value.int .i64 (x : Int)).drop i) (i + 1) _ c1 (show (((W1.drew.setCells w.heap.size i [.int .i64 (p : Int)]).drew).heap[w.heap.size]? = _) from q1)
      have hdl : ((l.map fun x : Nat => Value.int .i64 (x : Int)).drop i).length = l.length - i := by rw [List.length_drop, hlen]
      have hO : Only (· = w.heap.size) W1.drew (((W1.drew.setCells w.heap.size i [.int .i64 (p : Int)]).drew).setCells w.heap.size (i + 1) ((l.map fun x : Nat => Value.int .i64 (x : Int)).drop i)) := ((setCells_only _ _ _ _).trans (Only.of (below_drewN (Below.refl _ _) 1))).trans (setCells_only _ _ _ _)
      rw [show Try.insertI_ren.t 3 = 3 from rfl, hC, hW1]
      refine ⟨.slice (some ⟨w.heap.size, 0, none⟩) (l.length + 1) G, ?_, ⟨w.heap.size, 0, G, c2, by rw [hlen2], hB, r1, by omega, by omega, hG2, key c2 0 (fun j x hj hx => ?_) ?_ (fun j x hj hx => ?_)⟩, ?_, fun k hk => .inr (by cases hk; exact Nat.le_refl _)⟩
      · show Ending.returned (Value.slice _ _ (grownCap w (l.length + 1) cap 3)) = _
        rw [hG]
      · rw [Nat.zero_add, r4 _ (.inl (by omega)), q4 _ (.inl (by omega))]; exact hCj j x hj hx
      · rw [Nat.zero_add, r4 _ (.inl (by omega))]
        have := q3 0 (by simp) (by omega)
        simpa using this
      · have hjl := (List.getElem?_eq_some_iff.1 hx).1
        have := r3 (j - i) (by rw [hdl]; omega) (by omega)
        rw [show 0 + (j + 1) = i + 1 + (j - i) by omega, this, List.getElem?_drop, show i + (j - i) = j by omega, List.getElem?_map, hx]; rfl
      · have := hO.below bW1 bW1.size fun k hk => by rw [hk]; exact Nat.le_refl _
        exact Only.of this
/-- where a place goes -/
theorem search_p {w : World} {B : Nat} {v : Value} {l : List Nat} {p : Nat} (h : IsNx w B v l) (hr : l.Pairwise (· < ·)) (hl : l.length ≤ 1400000000000) :
    Calls Try.prog 65 #[v, .int .i64 (p : Int)] w fun e w' => ∃ b, e = .returned (.tuple #[.int .i64 (l.countP (· < p) : Nat), .bool b]) ∧ Below w.heap.size w w' := by
  obtain ⟨g, off, cap, cur, rfl, hBg, hh, hoc, hlc, hcm, hc⟩ := h
  have hcon := Any.slices_BinarySearch_int Try.searchI g off l.length cap (l.map fun x : Nat => (x : Int)) (p : Int) w (by simp) (by omega) (fun j hj => by
    have hj' : j < l.length := by simpa using hj
    rw [cell_of hh, hc j l[j] (List.getElem?_eq_getElem hj')]
    simp [List.getD, hj']) (by
    rw [List.take_of_length_le (by simp), List.pairwise_map]
    exact hr.imp fun h => by omega)
  change Calls Try.prog 65 _ _ _ at hcon
  refine hcon.mono ?_
  rintro e w' ⟨rfl, q, rfl⟩
  refine ⟨((l.map fun x : Nat => (x : Int)).take l.length).contains (p : Int), ?_, below_drewN (Below.refl _ _) q⟩
  have e1 : ((l.map fun x : Nat => (x : Int)).take l.length) = l.map fun x : Nat => (x : Int) := List.take_of_length_le (by simp)
  rw [e1, List.countP_map]
  have : (fun z : Int => decide (z < (p : Int))) ∘ (fun x : Nat => (x : Int)) = fun x : Nat => decide (x < p) := by
    funext x
    simp
  rw [this]
end
section
open Go.RowKit

set_option maxHeartbeats 2000000 in
theorem insert_p {w : World} {B : Nat} {v : Value} {l : List Nat} {p : Nat} (h : IsNx w B v l) (hr : l.Pairwise (· < ·)) (hB : B ≤ w.heap.size) (hl : l.length ≤ 1400000000000) :
    Calls Try.prog 56 #[v, .int .i64 (p : Int)] w fun e w' => ∃ v', e = .returned v' ∧ IsNx w' B v' (insP l p) ∧ Only (fun k => v.ownBlock = some k) w w' ∧ ∀ k, v'.ownBlock = some k → v.ownBlock = some k ∨ w.heap.size ≤ k := by
  obtain ⟨c, hc⟩ : ∃ c, l.countP (· < p) = c := ⟨_, rfl⟩
  have HS : Hid (Calls Try.prog 65 #[v, .int .i64 (p : Int)] w fun e w' => ∃ b, e = .returned (.tuple #[.int .i64 (c : Nat), .bool b]) ∧ Below w.heap.size w w') := by
    rw [← hc]; exact search_p h hr hl
  have HI : Hid (∀ W, Below w.heap.size w W → Calls Try.prog 66 #[v, .int .i64 (c : Nat), .slice (some ⟨W.heap.size, 0, none⟩) 1 1] (W.alloc (.cells #[.int .i64 (p : Int)] 3)) fun e w' => ∃ v', e = .returned v' ∧ IsNx w' B v' (insP l p) ∧ Only (fun k => v.ownBlock = some k) w w' ∧ ∀ k, v'.ownBlock = some k → v.ownBlock = some k ∨ w.heap.size ≤ k) := fun W hb => by
    rw [← hc]
    have bA := below_alloc W (.cells #[.int .i64 (p : Int)] 3)
    have bb := chainB hb bA
    refine (ins_go (vb := W.heap.size) (h.below bb) (heap_new _ _) (fun e => ?_) (Nat.le_trans hB bb.size) hl).mono ?_
    · have := (h.lt e).2.1
      have := hb.size
      omega
    · rintro e w' ⟨v', rfl, q1, q2, q3⟩
      refine ⟨v', rfl, q1, (Only.of bb).trans q2, fun k hk => ?_⟩
      rcases q3 k hk with q | q
      · exact .inl q
      · exact .inr (Nat.le_trans bb.size q)
  clear h hr hB hl hc
  go_enter Try.func56, Try.ntmps56
  go_wp2_with (first
    | (go_at_call 66; refine (HI.out _ H1.out).mono ?_; rintro e w2 ⟨v2, rfl, q⟩; have H2 : Hid (IsNx w2 B v2 (insP l p) ∧ Only (fun k => v.ownBlock = some k) w w2 ∧ ∀ k, v2.ownBlock = some k → v.ownBlock = some k ∨ w.heap.size ≤ k) := q; clear q)
    | (go_at_call 65; refine HS.out.mono ?_; rintro e w1 ⟨b, rfl, hb⟩; have H1 : Hid (Below w.heap.size w w1) := hb; clear hb))
  go_ret
  exact ⟨v2, rfl, H2.out⟩
end
end Go.Proofs.Ytabdicbmecgogaa
