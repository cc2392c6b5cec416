/- The walker in memory, and its small methods. -/
import Derived.Test.YtmndnjgbbpkidaaGreatJWLks26
namespace Go.Proofs.YtmndnjgbbpkidaaGreat
section
open Go.RowKit
attribute [local go_sem ↓ high] loadNd storeNd storeOu buildNd

/-- a walker's places, and what it goes by -/
structure Pw where
  p : Nat
  t : Nat
  gs : Nat
  g : Nat
  fl : Fl
  c : Pc
  cs : Cs
  fol : Bool
/-- F: blocks that a caller keeps -/
structure IsW (w0 w : World) (P : Pw) (wv uv : Value) (s : Ws) (l : Nat) (F : Nat → Prop) : Prop where
  head : w.heap[P.t]? = some (.cells #[.slice (some ⟨P.gs, 0, none⟩) 2 2, wv, uv, .bool s.dir, .bool P.fol, .int .i64 l] 88 (0, 0))
  src : w.heap[P.gs]? = some (.cells #[.iface 81 (.map (some P.g)), .iface 84 (.agg #[.pointer (some ⟨P.p, 0, none⟩)])] 133 (0, 0))
  fr : FAt w P.g P.fl
  ca : IsC w P.p P.c
  say : Says P.c P.cs
  way : RowN w (P.t + 1) wv s.way
  used : RowK w (P.t + 1) uv s.used
  ne : ∀ b, wv.ownBlock = some b → uv.ownBlock ≠ some b
  cb : ∀ b, P.c.blk P.p b → b < P.g
  lt : P.g < P.gs ∧ P.gs < P.t
  base : w0.heap.size ≤ P.g
  some1 : s.way ≠ []
  below : Below w0.heap.size w0 w
  fk : ∀ b, F b → b < w.heap.size ∧ b ≠ P.t ∧ wv.ownBlock ≠ some b ∧ uv.ownBlock ≠ some b
section
variable {w0 w w' : World} {P : Pw} {wv uv wv' uv' : Value} {s s' : Ws} {l l' : Nat} {F : Nat → Prop}
theorem IsW.tlt (h : IsW w0 w P wv uv s l F) : P.t < w.heap.size := (Array.getElem?_eq_some_iff.1 h.head).1
theorem IsW.mono {G : Nat → Prop} (h : IsW w0 w P wv uv s l F) (hG : ∀ b, G b → F b) : IsW w0 w P wv uv s l G :=
  ⟨h.head, h.src, h.fr, h.ca, h.say, h.way, h.used, h.ne, h.cb, h.lt, h.base, h.some1, h.below, fun b hb => h.fk b (hG b hb)⟩
theorem IsW.on (h : IsW w0 w P wv uv s l F) (hb : Below w.heap.size w w') : IsW w0 w' P wv uv s l (fun b => F b ∨ w.heap.size ≤ b ∧ b < w'.heap.size) := by
  refine ⟨hkeep h.head hb, hkeep h.src hb, h.fr.below hb, h.ca.below hb, h.say, h.way.below hb, h.used.below hb, h.ne, h.cb, h.lt, h.base, h.some1, chainB h.below hb, fun b hf => ?_⟩
  rcases hf with hf | hf
  · have := h.fk b hf
    exact ⟨Nat.lt_of_lt_of_le this.1 hb.size, this.2⟩
  · refine ⟨hf.2, by have := h.tlt; omega, fun e => ?_, fun e => ?_⟩
    · have := (World.ownsRow.lt h.way b e).2; omega
    · have := (World.ownsRow.lt h.used b e).2; omega
theorem IsW.on' (h : IsW w0 w P wv uv s l F) (hb : Below w.heap.size w w') : IsW w0 w' P wv uv s l F := (h.on hb).mono fun _ h => .inl h
theorem IsW.step (h : IsW w0 w P wv uv s l F) (hO : Only (fun b => b = P.t ∨ wv.ownBlock = some b ∨ uv.ownBlock = some b) w w')
    (hh : w'.heap[P.t]? = some (.cells #[.slice (some ⟨P.gs, 0, none⟩) 2 2, wv', uv', .bool s'.dir, .bool P.fol, .int .i64 l'] 88 (0, 0)))
    (hw : RowN w' (P.t + 1) wv' s'.way) (hu : RowK w' (P.t + 1) uv' s'.used) (hn : ∀ b, wv'.ownBlock = some b → uv'.ownBlock ≠ some b) (h1 : s'.way ≠ [])
    (hw' : ∀ b, wv'.ownBlock = some b → wv.ownBlock = some b ∨ w.heap.size ≤ b) (hu' : ∀ b, uv'.ownBlock = some b → uv.ownBlock = some b ∨ w.heap.size ≤ b) :
    IsW w0 w' P wv' uv' s' l' F ∧ ∀ b, F b → w'.heap[b]? = w.heap[b]? := by
  have ht := h.tlt
  have hl := h.lt
  have key : ∀ b, b ≤ P.gs → w'.heap[b]? = w.heap[b]? := fun b hb => hO.block b (by omega) (fun e => by
    rcases e with e | e | e
    · omega
    · have := (World.ownsRow.lt h.way b e).1; omega
    · have := (World.ownsRow.lt h.used b e).1; omega)
  refine ⟨⟨hh, (key _ (Nat.le_refl _)).trans h.src, h.fr.moved (key _ (by omega)), h.ca.moved fun b hb => key b (by have := h.cb b hb; omega), h.say, hw, hu, hn, h.cb, h.lt, h.base, h1, hO.below h.below h.below.size fun b hb => ?_, fun b hf => ?_⟩, fun b hf => hO.block b (h.fk b hf).1 fun e => ?_⟩
  · have := h.base
    rcases hb with hb | hb | hb
    · omega
    · have := (World.ownsRow.lt h.way b hb).1; omega
    · have := (World.ownsRow.lt h.used b hb).1; omega
  · have hf' := h.fk b hf
    refine ⟨Nat.lt_of_lt_of_le hf'.1 hO.size, hf'.2.1, fun e => ?_, fun e => ?_⟩
    · rcases hw' b e with e | e
      · exact hf'.2.2.1 e
      · omega
    · rcases hu' b e with e | e
      · exact hf'.2.2.2 e
      · omega
  · have hf' := h.fk b hf
    rcases e with e | e | e
    · exact hf'.2.1 e
    · exact hf'.2.2.1 e
    · exact hf'.2.2.2 e
theorem IsW.cells (h : IsW w0 w P wv uv s l F) : w.cell? ⟨P.t, 0, none⟩ = some (.slice (some ⟨P.gs, 0, none⟩) 2 2) ∧ w.cell? ⟨P.t, 1, none⟩ = some wv ∧ w.cell? ⟨P.t, 2, none⟩ = some uv ∧ w.cell? ⟨P.t, 3, none⟩ = some (.bool s.dir) ∧ w.cell? ⟨P.t, 4, none⟩ = some (.bool P.fol) ∧ w.cell? ⟨P.t, 5, none⟩ = some (.int .i64 l) ∧ ∀ i, w.frozen? ⟨P.t, i, none⟩ = false :=
  ⟨by rw [cell_of h.head]; rfl, by rw [cell_of h.head]; rfl, by rw [cell_of h.head]; rfl, by rw [cell_of h.head]; rfl, by rw [cell_of h.head]; rfl, by rw [cell_of h.head]; rfl, free_of h.head⟩
/-- behind a call that may change it -/
def AfW (w0 w w' : World) (P : Pw) (s : Ws) (l : Nat) (F : Nat → Prop) : Prop := ∃ wv uv, IsW w0 w' P wv uv s l F ∧ (∀ b, F b → w'.heap[b]? = w.heap[b]?) ∧ w.heap.size ≤ w'.heap.size
/-- where it stands, in memory -/
theorem IsW.last (h : IsW w0 w P wv uv s l F) : ∃ gw m i cap, wv = .slice (some ⟨gw, 0, none⟩) m cap ∧ s.way.length = m ∧ m = i + 1 ∧ m ≤ cap ∧ Cells4 w gw (i * 4) s.here ∧ P.t < gw := by
  obtain ⟨a, cap, rfl⟩ := owns_len h.way
  obtain ⟨i, hi⟩ : ∃ i, s.way.length = i + 1 := by
    cases hq : s.way with
    | nil => exact absurd hq h.some1
    | cons a b => exact ⟨b.length, rfl⟩
  have hg : s.way[i]? = some s.here := by
    unfold Ws.here
    rw [List.getLast?_eq_getElem?, hi, Nat.add_sub_cancel]
    obtain ⟨x, hx⟩ : ∃ x, s.way[i]? = some x := ⟨_, List.getElem?_eq_getElem (by omega)⟩
    rw [hx]; rfl
  obtain ⟨gw, e1, e2, e3, e4, e5, hc⟩ := h.way.get hg
  subst e1
  exact ⟨gw, _, i, cap, rfl, rfl, hi, e3, hc, e4⟩
end
set_option maxHeartbeats 2000000 in
theorem here_p {w0 w : World} {P : Pw} {wv uv : Value} {s : Ws} {l : Nat} {F : Nat → Prop} (h : IsW w0 w P wv uv s l F) (hlen : s.way.length ≤ 1000000000000) : Calls Tryz.prog 72 #[.pointer (some ⟨P.t, 0, none⟩)] w fun r w' => r = .returned (.agg #[.int .i64 s.here.id, .int .i64 s.here.kind, .int .i64 s.here.mode, .string s.here.tg]) ∧ Below w.heap.size w w' := by
  obtain ⟨gw, m, i, cap, rfl, hm, hi, hcap, hc, -⟩ := h.last
  rw [hm] at hlen
  obtain ⟨n, hn⟩ : ∃ n, s.here = n := ⟨_, rfl⟩
  rw [hn] at hc ⊢
  obtain ⟨W1, hW1⟩ : ∃ W, w.alloc (.cells zeroes4 32) = W := ⟨_, rfl⟩
  have b1 := boxO hW1
  obtain ⟨W2, hW2⟩ : ∃ W, W1.drew.setRow w.heap.size n.vals.toArray = W := ⟨_, rfl⟩
  have HR : Hid (W2.heap[w.heap.size]? = some (.cells n.vals.toArray 32 (0, 0))) := by rw [← hW2]; exact setRow_heap _ _ _ _ _ _ b1.1
  have hB2 : Below w.heap.size w W2 := by
    rw [← hW2]
    exact ((Only.refl _ W1).drew.trans (onlyR _ _ _)).below b1.2.1 b1.2.1.size fun k e => by omega
  have HB : Hid (Below w.heap.size w W2) := hB2
  have kS : ∀ W, Below w.heap.size w W → W.cell? ⟨P.t, 1, none⟩ = some (.slice (some ⟨gw, 0, none⟩) m cap) ∧ (ndLd (.pointer (some ⟨gw, i * 4, none⟩))).run Tryz.prog W = .ok n.agg W := fun W hW => ⟨(h.on' hW).cells.2.1, ndLd_at (hc.below hW)⟩
  have k0 := kS W1.drew (below_drewN b1.2.1 1)
  have k1 := kS W2 hB2
  have s1 : (ndSt (.pointer (some ⟨w.heap.size, 0, none⟩)) n.agg).run Tryz.prog W1.drew = .ok () W2 := ndSt_of b1.1 rfl hW2
  have hwi : IntKind.i64.wrap ((m : Int) - 1) = (i : Int) := by
    rw [show (m : Int) - 1 = (i : Int) by omega]; exact IntWalk.i64_in _ (by omega)
  have hiz : (i : Int) < (m : Int) := by omega
  have hi0 : (0 : Int) ≤ (i : Int) := by omega
  clear h hm hi hn hc b1 hW2 hB2 kS
  go_enter Tryz.func72, Tryz.ntmps72
  go_upto_region 1 with fail
  go_region_held3 (fun W => W.cell? ⟨P.t, 1, none⟩ = some (.slice (some ⟨gw, 0, none⟩) m cap) ∧ (ndLd (.pointer (some ⟨gw, i * 4, none⟩))).run Tryz.prog W = .ok n.agg W)
    (with_reducible first | exact k0 | exact k1)
    (fail)
  all_goals (go_wp2; (try simp only [Exit.inBlock, Exit.then]); refine bodyPost_ret (ret_node rfl _ _ w.heap.size rfl HR.out) rfl ?_; exact ⟨rfl, HB.out⟩)
theorem fldN0 (w : World) (a b c : Int) (d : ByteArray) : (Instr.field 32 (.agg #[.int .i64 a, .int .i64 b, .int .i64 c, .string d]) 0).run Tryz.prog w = .ok (.int .i64 a) w := by
  unfold Instr.field
  simp [go_sem]
  rfl
theorem fldN1 (w : World) (a b c : Int) (d : ByteArray) : (Instr.field 32 (.agg #[.int .i64 a, .int .i64 b, .int .i64 c, .string d]) 1).run Tryz.prog w = .ok (.int .i64 b) w := by
  unfold Instr.field
  simp [go_sem]
  rfl
set_option maxRecDepth 20000 in
theorem inDir_p {w0 w : World} {P : Pw} {wv uv : Value} {s : Ws} {l : Nat} {F : Nat → Prop} (h : IsW w0 w P wv uv s l F) (hlen : s.way.length ≤ 1000000000000) : Calls Tryz.prog 69 #[.pointer (some ⟨P.t, 0, none⟩)] w fun r w' => r = .returned (.bool s.inD) ∧ Below w.heap.size w w' := by
  have HH : Hid (Calls Tryz.prog 72 #[.pointer (some ⟨P.t, 0, none⟩)] w fun r w' => r = .returned (.agg #[.int .i64 s.here.id, .int .i64 s.here.kind, .int .i64 s.here.mode, .string s.here.tg]) ∧ Below w.heap.size w w') := here_p h hlen
  clear h
  have f1 := fldN1
  go_enter Tryz.func69, Tryz.ntmps69
  go_wp2_with (go_at_call 72; refine HH.out.mono ?_; rintro r w1 ⟨rfl, hb⟩)
  go_ret
  exact ⟨rfl, hb⟩
set_option maxRecDepth 20000 in
theorem fail_p {w0 w : World} {P : Pw} {wv uv : Value} {s : Ws} {l : Nat} {F : Nat → Prop} (e : Int) (h : IsW w0 w P wv uv s l F) : Calls Tryz.prog 70 #[.pointer (some ⟨P.t, 0, none⟩), .int .i64 e] w fun r w' => r = .returned (ouAgg (s.fail e) uv) ∧ Below w.heap.size w w' := by
  obtain ⟨a, c, rfl⟩ := owns_len h.used
  obtain ⟨n, hn⟩ : ∃ n, s.used.length = n := ⟨_, rfl⟩
  rw [hn] at h ⊢
  obtain ⟨W1, hW1⟩ : ∃ W, w.alloc (.cells zeroes9 35) = W := ⟨_, rfl⟩
  have b1 := boxO hW1
  obtain ⟨W2, hW2⟩ : ∃ W, W1.setRow w.heap.size (ouVals (s.fail e) (.slice a n c)).toArray = W := ⟨_, rfl⟩
  have HR : Hid (W2.heap[w.heap.size]? = some (.cells (ouVals (s.fail e) (.slice a n c)).toArray 35 (0, 0))) := by rw [← hW2]; exact setRow_heap _ _ _ _ _ _ b1.1
  have HB : Hid (Below w.heap.size w W2) := by
    rw [← hW2]
    exact (onlyR _ _ _).below b1.2.1 b1.2.1.size fun k e => by omega
  have k0 := (h.on' b1.2.1).cells.2.2.1
  have s1 : (ouSt (.pointer (some ⟨w.heap.size, 0, none⟩)) (.agg #[.bool false, .int .i64 0, .string ⟨#[]⟩, .int .i64 e, .int .i64 0, .int .i64 0, .int .i64 0, .string ⟨#[]⟩, .slice a n c])).run Tryz.prog W1 = .ok () W2 := ouSt_of (o := s.fail e) b1.1 rfl hW2
  clear h b1 hW2 hn
  go_enter Tryz.func70, Tryz.ntmps70
  go_wp2
  (try simp only [Exit.inBlock, Exit.then])
  refine bodyPost_ret (ret_out rfl _ _ w.heap.size rfl HR.out) rfl ?_
  exact ⟨rfl, HB.out⟩
end
section
open Go.RowKit
attribute [local go_sem ↓ high] loadEn storeEn loadNd storeNd storeOu buildNd

theorem setCell_heap {w : World} {g i : Nat} {cs : Array Value} {t : TypeId} {u : Value} (h : w.heap[g]? = some (.cells cs t (0, 0))) : (w.setCell ⟨g, i, none⟩ u).heap[g]? = some (.cells (cs.setIfInBounds i u) t (0, 0)) := by
  unfold World.setCell
  simp only
  rw [Array.getElem?_modify, if_pos rfl, h]
  rfl
theorem ws_ext {a b : Ws} (h1 : a.way = b.way) (h2 : a.used = b.used) (h3 : a.dir = b.dir) : a = b := by
  obtain ⟨x, y, z⟩ := a
  obtain ⟨x', y', z'⟩ := b
  simp only at h1 h2 h3
  rw [h1, h2, h3]
set_option maxRecDepth 20000 in
set_option maxHeartbeats 2000000 in
theorem home_p {w0 w : World} {P : Pw} {wv uv : Value} {s : Ws} {l : Nat} {F : Nat → Prop} (h : IsW w0 w P wv uv s l F) : Calls Tryz.prog 49 #[.pointer (some ⟨P.t, 0, none⟩)] w fun r w' => r = .returned (.tuple #[]) ∧ AfW w0 w w' P ⟨[rootN], s.used, s.dir⟩ l F := by
  obtain ⟨W1, hW1⟩ : ∃ W, w.alloc (.cells rootN.vals.toArray 32) = W := ⟨_, rfl⟩
  have b1 := boxO hW1
  obtain ⟨W2, hW2⟩ : ∃ W, W1.setCell ⟨P.t, 1, none⟩ (.slice (some ⟨w.heap.size, 0, none⟩) 1 1) = W := ⟨_, rfl⟩
  have h1 := h.on' b1.2.1
  have hO : Only (· = P.t) W1 W2 := by rw [← hW2]; exact only1 _ _ _ _
  have ht := h.tlt
  have HE : Hid (IsW w0 W2 P (.slice (some ⟨w.heap.size, 0, none⟩) 1 1) uv ⟨[rootN], s.used, s.dir⟩ l F ∧ (∀ b, F b → W2.heap[b]? = w.heap[b]?) ∧ w.heap.size ≤ W2.heap.size) := by
    have hO2 : Only (fun b => b = P.t ∨ wv.ownBlock = some b ∨ uv.ownBlock = some b) w W2 := (Only.of b1.2.1).trans (hO.mono fun b hb => .inl hb)
    obtain ⟨k1, k2⟩ := h.step (s' := ⟨[rootN], s.used, s.dir⟩) (l' := l) (wv' := .slice (some ⟨w.heap.size, 0, none⟩) 1 1) (uv' := uv) hO2 (by rw [← hW2]; exact setCell_heap h1.head) (by
      have hr : W2.heap[w.heap.size]? = some (.cells rootN.vals.toArray 32 (0, 0)) := (hO.block _ (by omega) (by omega)).trans b1.1
      exact ⟨rfl, .inr ⟨w.heap.size, 1, rootN.vals.toArray, rfl, by omega, hr, Nat.le_refl 1, by unfold maxLen; omega, rfl, by simp [nc, Nd.vals]⟩⟩) (owns_moved h1.used fun b hb => hO.block b (World.ownsRow.lt h1.used b hb).2 (by have := (World.ownsRow.lt h1.used b hb).1; omega)) (fun b hb e => by
      cases hb
      have : w.heap.size < w.heap.size := (World.ownsRow.lt h.used _ e).2
      omega) (by simp) (fun b hb => by cases hb; exact .inr (Nat.le_refl _)) (fun b hb => .inl hb)
    exact ⟨k1, k2, hO2.size⟩
  have on1 : (ndOne #[(0, .agg #[.int .i64 1, .int .i64 1, .int .i64 0, .string ⟨#[]⟩])]).run Tryz.prog w = .ok (.slice (some ⟨w.heap.size, 0, none⟩) 1 1) W1 := by rw [← hW1]; exact ndOne_of rootN w
  obtain ⟨-, c1, -, -, -, -, fz⟩ := h1.cells
  clear h h1 b1 hO ht hW1
  go_enter Tryz.func49, Tryz.ntmps49
  go_wp2
  go_end0
  exact ⟨rfl, _, _, HE.out⟩
/-- all but the last -/
theorem rowN_pop {w : World} {B N c : Nat} {a : Option Addr} {l : List Nd} (h : RowN w B (.slice a N c) l) : RowN w B (.slice a (l.length - 1) c) l.dropLast := by
  have h2 := h.2
  rcases h2 with ⟨h1, h0⟩ | ⟨g, cap, cur, hv, hB, hw, hc, hm, hs, ht⟩
  · have : l = [] := List.length_eq_zero_iff.1 h0
    subst this
    injection h1 with e1 e2 e3
    subst e1 e3
    exact ⟨rfl, .inl ⟨rfl, rfl⟩⟩
  · injection hv with h1 h2 h3
    subst h1 h3
    refine ⟨nc_len _, .inr ⟨g, c, cur, by rw [List.length_dropLast], hB, hw, by rw [List.length_dropLast]; omega, hm, hs, ?_⟩⟩
    rw [List.length_dropLast]
    have : cur.toList.take ((l.length - 1) * 4) = (cur.toList.take (l.length * 4)).take ((l.length - 1) * 4) := by
      rw [List.take_take]; congr 1; omega
    rw [this, ht]
    rcases List.eq_nil_or_concat l with rfl | ⟨A, x, rfl⟩
    · rfl
    · rw [List.concat_eq_append, List.dropLast_concat, List.length_append, nc_app]
      simp only [List.length_cons, List.length_nil, Nat.add_sub_cancel]
      rw [← nc_len A, List.take_left]
set_option maxRecDepth 20000 in
set_option maxHeartbeats 2000000 in
theorem up_p {w0 w : World} {P : Pw} {wv uv : Value} {s : Ws} {l : Nat} {F : Nat → Prop} (h : IsW w0 w P wv uv s l F) (hlen : s.way.length ≤ 1000000000000) : Calls Tryz.prog 71 #[.pointer (some ⟨P.t, 0, none⟩)] w fun r w' => r = .returned (.tuple #[]) ∧ AfW w0 w w' P s.up l F := by
  obtain ⟨gw, m, i, cap, rfl, hm, hi, hcap, -, -⟩ := h.last
  rw [hm] at hlen
  obtain ⟨-, c1, -, -, -, -, fz⟩ := h.cells
  by_cases h1 : 1 < m
  · have h1z : (1 : Int) < (m : Int) := by omega
    have hwi : IntKind.i64.wrap ((m : Int) - 1) = (i : Int) := by
      rw [show (m : Int) - 1 = (i : Int) by omega]; exact IntWalk.i64_in _ (by omega)
    have hi0 : (0 : Int) ≤ (i : Int) := by omega
    have hic : (i : Int) ≤ (cap : Int) := by omega
    have HE : Hid (IsW w0 (w.drew.setCell ⟨P.t, 1, none⟩ (.slice (some ⟨gw, 0, none⟩) i cap)) P (.slice (some ⟨gw, 0, none⟩) i cap) uv s.up l F ∧ (∀ b, F b → (w.drew.setCell ⟨P.t, 1, none⟩ (.slice (some ⟨gw, 0, none⟩) i cap)).heap[b]? = w.heap[b]?) ∧ w.heap.size ≤ (w.drew.setCell ⟨P.t, 1, none⟩ (.slice (some ⟨gw, 0, none⟩) i cap)).heap.size) := by
      have hO1 : Only (· = P.t) w (w.drew.setCell ⟨P.t, 1, none⟩ (.slice (some ⟨gw, 0, none⟩) i cap)) := (Only.refl _ w).drew.trans (only1 _ _ _ _)
      have hO : Only (fun b => b = P.t ∨ (Value.slice (some ⟨gw, 0, none⟩) m cap).ownBlock = some b ∨ uv.ownBlock = some b) w (w.drew.setCell ⟨P.t, 1, none⟩ (.slice (some ⟨gw, 0, none⟩) i cap)) := hO1.mono fun b hb => .inl hb
      have hup : s.up.way = s.way.dropLast := by unfold Ws.up; rw [hm, if_pos h1]
      obtain ⟨k1, k2⟩ := h.step (s' := s.up) (l' := l) (wv' := .slice (some ⟨gw, 0, none⟩) i cap) (uv' := uv) hO (setCell_heap (w := w.drew) h.head) (by
        have hr := rowN_pop h.way
        rw [hm, show m - 1 = i by omega] at hr
        rw [hup]
        exact owns_moved hr fun b hb => hO1.block b (World.ownsRow.lt hr b hb).2 (by have := (World.ownsRow.lt hr b hb).1; omega)) (owns_moved h.used fun b hb => hO1.block b (World.ownsRow.lt h.used b hb).2 (by have := (World.ownsRow.lt h.used b hb).1; omega)) h.ne (by
        rw [hup]
        intro e
        have := congrArg List.length e
        rw [List.length_dropLast, hm] at this
        simp at this
        omega) (fun b hb => .inl hb) (fun b hb => .inl hb)
      exact ⟨k1, k2, hO1.size⟩
    clear h hm hi h1
    go_enter Tryz.func71, Tryz.ntmps71
    go_upto_region 1 with fail
    go_region_law (fail)
    all_goals (go_wp2; go_end0; exact ⟨rfl, _, _, HE.out⟩)
  · have h1z : ¬ (1 : Int) < (m : Int) := by omega
    have HE : Hid (IsW w0 w P (.slice (some ⟨gw, 0, none⟩) m cap) uv s.up l F) := by
      have : s.up = s := by
        unfold Ws.up
        rw [hm, if_neg h1]
      rw [this]; exact h
    clear h hm hi h1
    go_enter Tryz.func71, Tryz.ntmps71
    go_wp2
    go_end0
    exact ⟨rfl, _, _, HE.out, fun _ _ => rfl, Nat.le_refl _⟩
end
end Go.Proofs.YtmndnjgbbpkidaaGreat
