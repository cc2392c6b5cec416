/- Nodes and outcomes in memory: whole ones loaded and stored, shut; lists of nodes. -/
import Derived.Test.YtppbbddlbfgpfaaJWUps26
import Derived.Test.YtppbbddlbfgpfaaJWUps24
namespace Go.Proofs.Ytppbbddlbfgpfaa
section
open Go.RowKit

theorem ndVals_one (n : Nd) : ∀ v ∈ n.vals, v.oneCell' = true := by
  intro v hv
  simp [Nd.vals] at hv
  rcases hv with rfl | rfl | rfl | rfl <;> rfl
structure Cells4 (w : World) (g o : Nat) (n : Nd) : Prop where
  c0 : w.cell? ⟨g, o, none⟩ = some (.int .i64 n.id)
  c1 : w.cell? ⟨g, o + 1, none⟩ = some (.int .i64 n.kind)
  c2 : w.cell? ⟨g, o + 2, none⟩ = some (.int .i64 n.mode)
  c3 : w.cell? ⟨g, o + 3, none⟩ = some (.string n.tg)
theorem Cells4.below {w w' : World} {g o : Nat} {n : Nd} (h : Cells4 w g o n) (hb : Below w.heap.size w w') : Cells4 w' g o n :=
  ⟨(hb.cell (cellLt h.c0)).trans h.c0, (hb.cell (cellLt h.c1)).trans h.c1, (hb.cell (cellLt h.c2)).trans h.c2, (hb.cell (cellLt h.c3)).trans h.c3⟩
theorem cells4_of {w : World} {g : Nat} {t : TypeId} {n : Nd} (h : w.heap[g]? = some (.cells n.vals.toArray t (0, 0))) : Cells4 w g 0 n :=
  ⟨by rw [cell_of h]; rfl, by rw [cell_of h]; rfl, by rw [cell_of h]; rfl, by rw [cell_of h]; rfl⟩
/-- the node of an entry -/
theorem Cells7.node {w : World} {g o : Nat} {e : En} (h : Cells7 w g o e) : Cells4 w g (o + 3) e.nd := ⟨h.c3, h.c4, h.c5, h.c6⟩
theorem Try.infoNd : (Try.prog.info? 31).map (fun i => (i.zero, i.size, i.bytes)) = some (some zeroNd.agg, 4, 40) := by kernel_rfl
theorem Try.sizeNd : (Try.prog.info? 31).map (·.size) = some 4 := by kernel_rfl
def ndLd (v : Value) : Sem Value := Instr.loadAt 31 v
theorem loadNd (v : Value) : Instr.loadAt 31 v = ndLd v := rfl
theorem ndLd_at {w : World} {g o : Nat} {n : Nd} (h : Cells4 w g o n) : (ndLd (.pointer (some ⟨g, o, none⟩))).run Try.prog w = .ok n.agg w := by
  have := run_loadAt_mid (P := Try.prog) w g o 31 n.vals _ (fun j v hv => by
    have hj : j < 4 := (List.getElem?_eq_some_iff.1 hv).1
    have : j = 0 ∨ j = 1 ∨ j = 2 ∨ j = 3 := by omega
    rcases this with rfl | rfl | rfl | rfl <;> (simp [Nd.vals] at hv; subst hv; first | exact h.c0 | exact h.c1 | exact h.c2 | exact h.c3)) Try.underlying31 rfl Try.sizeNd
  exact this
attribute [irreducible] ndLd
def ndSt (a v : Value) : Sem Unit := Instr.storeAt 31 a v
theorem storeNd (a v : Value) : Instr.storeAt 31 a v = ndSt a v := rfl
theorem ndSt_of {w W : World} {g : Nat} {old : Array Value} {t : TypeId} {n : Nd} (h : w.heap[g]? = some (.cells old t (0, 0))) (ho : old.size = 4) (hW : w.setRow g n.vals.toArray = W) : (ndSt (.pointer (some ⟨g, 0, none⟩)) n.agg).run Try.prog w = .ok () W := by
  subst hW
  have h1 : n.vals.toArray.all (·.oneCell') = true := by rw [Array.all_eq_true']; intro v hv; exact ndVals_one n v (by simpa using hv)
  have := run_storeVar_row w g t 31 old n.vals.toArray h Try.sizeNd (by rw [ho]; rfl) h1
  unfold ndSt Instr.storeAt Instr.sureAddr
  simp only [show n.agg = .agg n.vals.toArray from rfl]
  simpa using this
attribute [irreducible] ndSt
abbrev zeroes4 : Array Value := #[.int .i64 0, .int .i64 0, .int .i64 0, .string ⟨#[]⟩]
theorem box4 (w : World) (n : Nd) : (ndSt (.pointer (some ⟨w.heap.size, 0, none⟩)) n.agg).run Try.prog (w.alloc (.cells #[.int .i64 0, .int .i64 0, .int .i64 0, .string ⟨#[]⟩] 31)) = .ok () (w.alloc (.cells n.vals.toArray 31)) :=
  ndSt_of (heap_new _ _) rfl (alloc_setRow w _ _ _)
theorem ret_node {fn : Func} {p : Tmp} (h : fn.results = #[.cell p 31]) (tmps : Array Value) (w : World) (g : Nat) {t : TypeId} {n : Nd} {fr : Nat × Nat} (hp : tmps.getD p undef = .pointer (some ⟨g, 0, none⟩)) (hg : w.heap[g]? = some (.cells n.vals.toArray t fr)) :
    (results fn tmps).run Try.prog w = .ok n.agg w :=
  results_cell_row h tmps w g t _ fr _ hp hg Try.underlying31 rfl Try.sizeNd
/-- outcomes: uv is the list of used keys -/
def ouVals (o : Ou) (uv : Value) : List Value := [.bool o.need, .int .i64 o.key.d, .string o.key.nm, .int .i64 o.err, .int .i64 o.node.id, .int .i64 o.node.kind, .int .i64 o.node.mode, .string o.node.tg, uv]
def ouAgg (o : Ou) (uv : Value) : Value := .agg #[.bool o.need, .int .i64 o.key.d, .string o.key.nm, .int .i64 o.err, .int .i64 o.node.id, .int .i64 o.node.kind, .int .i64 o.node.mode, .string o.node.tg, uv]
theorem Try.sizeOu : (Try.prog.info? 34).map (·.size) = some 9 := by kernel_rfl
abbrev zeroes9 : Array Value := #[.bool false, .int .i64 0, .string ⟨#[]⟩, .int .i64 0, .int .i64 0, .int .i64 0, .int .i64 0, .string ⟨#[]⟩, .slice none 0 0]
def ouSt (a v : Value) : Sem Unit := Instr.storeAt 34 a v
theorem storeOu (a v : Value) : Instr.storeAt 34 a v = ouSt a v := rfl
theorem ouSt_of {w W : World} {g : Nat} {old : Array Value} {t : TypeId} {o : Ou} {a : Option Addr} {n c : Nat} (h : w.heap[g]? = some (.cells old t (0, 0))) (ho : old.size = 9) (hW : w.setRow g (ouVals o (.slice a n c)).toArray = W) : (ouSt (.pointer (some ⟨g, 0, none⟩)) (ouAgg o (.slice a n c))).run Try.prog w = .ok () W := by
  subst hW
  have h1 : (ouVals o (.slice a n c)).toArray.all (·.oneCell') = true := by
    rw [Array.all_eq_true']
    intro v hv
    simp [ouVals] at hv
    rcases hv with rfl | rfl | rfl | rfl | rfl | rfl | rfl | rfl | rfl <;> rfl
  have := run_storeVar_row w g t 34 old (ouVals o (.slice a n c)).toArray h Try.sizeOu (by rw [ho]; rfl) h1
  unfold ouSt Instr.storeAt Instr.sureAddr
  simp only [show ouAgg o (.slice a n c) = .agg (ouVals o (.slice a n c)).toArray from rfl]
  simpa using this
attribute [irreducible] ouSt
theorem ret_out {fn : Func} {p : Tmp} (h : fn.results = #[.cell p 34]) (tmps : Array Value) (w : World) (g : Nat) {t : TypeId} {o : Ou} {uv : Value} {fr : Nat × Nat} (hp : tmps.getD p undef = .pointer (some ⟨g, 0, none⟩)) (hg : w.heap[g]? = some (.cells (ouVals o uv).toArray t fr)) :
    (results fn tmps).run Try.prog w = .ok (ouAgg o uv) w :=
  results_cell_row h tmps w g t _ fr _ hp hg Try.underlying34 rfl Try.sizeOu
/-- a list of nodes in memory -/
def nc (l : List Nd) : List Value := l.flatMap Nd.vals
theorem nc_len (l : List Nd) : (nc l).length = l.length * 4 := by
  unfold nc
  induction l with
  | nil => rfl
  | cons x l ih => rw [List.flatMap_cons, List.length_append, ih, show x.vals.length = 4 from rfl, List.length_cons]; omega
theorem nc_app (a b : List Nd) : nc (a ++ b) = nc a ++ nc b := by unfold nc; rw [List.flatMap_append]
theorem nc_get (l : List Nd) (i j : Nat) (x : Nd) (h : l[i]? = some x) (hj : j < 4) : (nc l)[i * 4 + j]? = x.vals[j]? := by
  induction l generalizing i with
  | nil => simp at h
  | cons y l ih =>
    unfold nc at *
    rw [List.flatMap_cons]
    cases i with
    | zero =>
      simp at h; subst h
      rw [List.getElem?_append_left (by show 0 * 4 + j < 4; omega)]; simp
    | succ i =>
      rw [List.getElem?_append_right (by show 4 ≤ _; omega), show y.vals.length = 4 from rfl]
      rw [show (i + 1) * 4 + j - 4 = i * 4 + j by omega]
      exact ih i (by simpa using h)
theorem nc_one (l : List Nd) : ∀ u ∈ nc l, u.oneCell' = true := by
  intro u hu
  obtain ⟨x, _, hx⟩ := List.mem_flatMap.1 hu
  exact ndVals_one x u hx
def RowN (w : World) (base : Nat) (v : Value) (l : List Nd) : Prop := w.ownsRow base 31 4 v l.length (nc l)
theorem RowN.below {w w' : World} {base : Nat} {v : Value} {l : List Nd} (h : RowN w base v l) (hb : Below w.heap.size w w') : RowN w' base v l := owns_below h hb
theorem RowN.get {w : World} {base n cap i : Nat} {a : Option Addr} {l : List Nd} {x : Nd} (h : RowN w base (.slice a n cap) l) (hi : l[i]? = some x) : ∃ g, a = some ⟨g, 0, none⟩ ∧ n = l.length ∧ n ≤ cap ∧ base ≤ g ∧ g < w.heap.size ∧ Cells4 w g (i * 4) x := by
  have hlt : i < l.length := (List.getElem?_eq_some_iff.1 hi).1
  have h2 := h.2
  rcases h2 with ⟨h1, h3⟩ | ⟨g, cap', cur, hv, hB, hw, hc, hm, hs, ht⟩
  · omega
  · injection hv with e1 e2 e3
    subst e1 e2 e3
    obtain ⟨N, hN⟩ : ∃ N, l.length = N + 1 := ⟨l.length - 1, by omega⟩
    unfold RowN at h
    rw [hN] at h
    obtain ⟨hcc, hf, _, _, hb, hg⟩ := owns_cells h
    exact ⟨g, rfl, rfl, by omega, hB, (Array.getElem?_eq_some_iff.1 hw).1, ⟨hcc _ _ (nc_get l i 0 x hi (by omega)), hcc _ _ (nc_get l i 1 x hi (by omega)), hcc _ _ (nc_get l i 2 x hi (by omega)), hcc _ _ (nc_get l i 3 x hi (by omega))⟩⟩
theorem appN {w : World} {B : Nat} {v : Value} {l l2 : List Nd} {ad : Addr} {c : Nat} (h : RowN w B v l) (h2 : ∀ j u, (nc l2)[j]? = some u → w.cell? (ad.add j) = some u) (hB : B ≤ w.heap.size) (hl : (l.length + l2.length) * 40 ≤ 140737488355328) :
    ∃ v3 W, (∀ ty, (Builtin.append_ #[40, 40] ty #[v, .slice (some ad) l2.length c]).run Try.prog w = .ok v3 W) ∧ RowN W B v3 (l ++ l2) ∧ Only (fun k => v.ownBlock = some k) w W ∧ (v3.ownBlock = v.ownBlock ∨ v3.ownBlock = some w.heap.size) := by
  obtain ⟨i1, hi1, hw0, hw1, hw2⟩ := info_parts Try.infoNd
  obtain ⟨v', W, a1, a2, a3, _, a5⟩ := run_append_own_at (P := Try.prog) w B 40 0 31 i1 _ 4 40 Try.underlying40 hi1 hw0 hw1 hw2 rfl (by decide) v l.length (nc l) h ad l2.length c (nc l2) (nc_len l2) h2 (nc_one l2) (by unfold maxLen; omega) hl hB
  refine ⟨v', W, fun ty => ?_, ?_, only_grown a3, a5⟩
  · have : (Builtin.append_ #[40, 40] ty #[v, .slice (some ad) l2.length c]).run Try.prog w = (Builtin.append_ #[40, 40] 0 #[v, .slice (some ad) l2.length c]).run Try.prog w := rfl
    rw [this]; exact a1
  · show World.ownsRow _ _ _ _ _ _ _
    rw [List.length_append, nc_app]; exact a2
/-- a list of one node, made, shut -/
def ndOne (ps : Array (Nat × Value)) : Sem Value := Instr.buildSlice 40 1 ps
theorem buildNd (ps : Array (Nat × Value)) : Instr.buildSlice 40 1 ps = ndOne ps := rfl
theorem ndOne_of (x : Nd) (w : World) : (ndOne #[(0, x.agg)]).run Try.prog w = .ok (.slice (some ⟨w.heap.size, 0, none⟩) 1 1) (w.alloc (.cells (x.vals).toArray 31)) := by
  unfold ndOne Instr.buildSlice
  simp [run_underlying Try.underlying40, Try.sizeOf31, Try.zeroValue31, Instr.fill, Value.cells, newRow, Nd.agg, Nd.vals]
  rw [show Array.range 4 = #[0, 1, 2, 3] from rfl]
  simp
attribute [irreducible] ndOne
theorem keep_node {X : World} {B : Nat} {v : Value} {l : List Nd} (x : Nd) (h : RowN X B v l) (hB : B ≤ X.heap.size) (hl : l.length + 1 ≤ 1500000000000) : ∃ a6 N6 c6 Z, (∀ ty, (Builtin.append_ #[40, 40] ty #[v, .slice (some ⟨X.heap.size, 0, none⟩) 1 1]).run Try.prog (X.alloc (.cells x.vals.toArray 31)) = .ok (.slice a6 N6 c6) Z) ∧ RowN Z B (.slice a6 N6 c6) (l ++ [x]) ∧ Only (fun b => v.ownBlock = some b) X Z ∧ ((Value.slice a6 N6 c6).ownBlock = v.ownBlock ∨ ∀ b, (Value.slice a6 N6 c6).ownBlock = some b → X.heap.size ≤ b) := by
  have bY := below_alloc X (.cells x.vals.toArray 31)
  obtain ⟨v6, Z, r6, row6, o6, p6⟩ := appN (w := X.alloc (.cells x.vals.toArray 31)) (B := B) (v := v) (l := l) (l2 := [x]) (ad := ⟨X.heap.size, 0, none⟩) (c := 1) (owns_below h bY) (by
    have : nc [x] = x.vals := by simp [nc]
    rw [this]
    exact one_atG (w := X)) (Nat.le_trans hB bY.size) (by simp only [List.length_cons, List.length_nil]; omega)
  obtain ⟨a6, c6, hv6⟩ := owns_len row6
  subst hv6
  refine ⟨a6, _, c6, Z, r6, row6, (Only.of bY).trans o6, p6.imp id fun h b hb => ?_⟩
  rw [h] at hb
  cases hb
  exact bY.size
theorem keep_ky {X : World} {B : Nat} {v : Value} {l : List Ky} (k : Ky) (h : RowK X B v l) (hB : B ≤ X.heap.size) (hl : l.length + 1 ≤ 1500000000000) : ∃ a6 N6 c6 Z, (∀ ty, (Builtin.append_ #[32, 32] ty #[v, .slice (some ⟨X.heap.size, 0, none⟩) 1 1]).run Try.prog (X.alloc (.cells #[.int .i64 k.d, .string k.nm] 28)) = .ok (.slice a6 N6 c6) Z) ∧ RowK Z B (.slice a6 N6 c6) (l ++ [k]) ∧ Only (fun b => v.ownBlock = some b) X Z ∧ ((Value.slice a6 N6 c6).ownBlock = v.ownBlock ∨ ∀ b, (Value.slice a6 N6 c6).ownBlock = some b → X.heap.size ≤ b) := by
  have bY := below_alloc X (.cells #[.int .i64 k.d, .string k.nm] 28)
  obtain ⟨v6, Z, r6, row6, o6, p6⟩ := appK (w := X.alloc (.cells #[.int .i64 k.d, .string k.nm] 28)) (B := B) (v := v) (l := l) (l2 := [k]) (ad := ⟨X.heap.size, 0, none⟩) (c := 1) (owns_below h bY) (by
    have : kc [k] = [.int .i64 k.d, .string k.nm] := by simp [kc]
    rw [this]
    exact one_atG (w := X) (cs := [.int .i64 k.d, .string k.nm])) (Nat.le_trans hB bY.size) (by simp only [List.length_cons, List.length_nil]; omega)
  obtain ⟨a6, c6, hv6⟩ := owns_len row6
  subst hv6
  refine ⟨a6, _, c6, Z, r6, row6, (Only.of bY).trans o6, p6.imp id fun h b hb => ?_⟩
  rw [h] at hb
  cases hb
  exact bY.size
end
section
open Go.RowKit
attribute [local go_sem ↓ high] loadNd storeNd storeOu buildNd

/-- a walker's places, and what it goes by -/
structure Pw where
  p : Nat
  t : Nat
  gs : Nat
  g : Nat
  fl : Fl
  c : Pc
  cs : Cs
  fol : Bool
/-- F: blocks that a caller keeps -/
structure IsW (w0 w : World) (P : Pw) (wv uv : Value) (s : Ws) (l : Nat) (F : Nat → Prop) : Prop where
  head : w.heap[P.t]? = some (.cells #[.slice (some ⟨P.gs, 0, none⟩) 2 2, wv, uv, .bool s.dir, .bool P.fol, .int .i64 l] 85 (0, 0))
  src : w.heap[P.gs]? = some (.cells #[.iface 79 (.map (some P.g)), .iface 82 (.agg #[.pointer (some ⟨P.p, 0, none⟩)])] 121 (0, 0))
  fr : FAt w P.g P.fl
  ca : IsC w P.p P.c
  say : Says P.c P.cs
  way : RowN w (P.t + 1) wv s.way
  used : RowK w (P.t + 1) uv s.used
  ne : ∀ b, wv.ownBlock = some b → uv.ownBlock ≠ some b
  cb : ∀ b, P.c.blk P.p b → b < P.g
  lt : P.g < P.gs ∧ P.gs < P.t
  base : w0.heap.size ≤ P.g
  some1 : s.way ≠ []
  below : Below w0.heap.size w0 w
  fk : ∀ b, F b → b < w.heap.size ∧ b ≠ P.t ∧ wv.ownBlock ≠ some b ∧ uv.ownBlock ≠ some b
section
variable {w0 w w' : World} {P : Pw} {wv uv wv' uv' : Value} {s s' : Ws} {l l' : Nat} {F : Nat → Prop}
theorem IsW.tlt (h : IsW w0 w P wv uv s l F) : P.t < w.heap.size := (Array.getElem?_eq_some_iff.1 h.head).1
theorem IsW.mono {G : Nat → Prop} (h : IsW w0 w P wv uv s l F) (hG : ∀ b, G b → F b) : IsW w0 w P wv uv s l G :=
  ⟨h.head, h.src, h.fr, h.ca, h.say, h.way, h.used, h.ne, h.cb, h.lt, h.base, h.some1, h.below, fun b hb => h.fk b (hG b hb)⟩
theorem IsW.on (h : IsW w0 w P wv uv s l F) (hb : Below w.heap.size w w') : IsW w0 w' P wv uv s l (fun b => F b ∨ w.heap.size ≤ b ∧ b < w'.heap.size) := by
  refine ⟨hkeep h.head hb, hkeep h.src hb, h.fr.below hb, h.ca.below hb, h.say, h.way.below hb, h.used.below hb, h.ne, h.cb, h.lt, h.base, h.some1, chainB h.below hb, fun b hf => ?_⟩
  rcases hf with hf | hf
  · have := h.fk b hf
    exact ⟨Nat.lt_of_lt_of_le this.1 hb.size, this.2⟩
  · refine ⟨hf.2, by have := h.tlt; omega, fun e => ?_, fun e => ?_⟩
    · have := (World.ownsRow.lt h.way b e).2; omega
    · have := (World.ownsRow.lt h.used b e).2; omega
theorem IsW.on' (h : IsW w0 w P wv uv s l F) (hb : Below w.heap.size w w') : IsW w0 w' P wv uv s l F := (h.on hb).mono fun _ h => .inl h
theorem IsW.step (h : IsW w0 w P wv uv s l F) (hO : Only (fun b => b = P.t ∨ wv.ownBlock = some b ∨ uv.ownBlock = some b) w w')
    (hh : w'.heap[P.t]? = some (.cells #[.slice (some ⟨P.gs, 0, none⟩) 2 2, wv', uv', .bool s'.dir, .bool P.fol, .int .i64 l'] 85 (0, 0)))
    (hw : RowN w' (P.t + 1) wv' s'.way) (hu : RowK w' (P.t + 1) uv' s'.used) (hn : ∀ b, wv'.ownBlock = some b → uv'.ownBlock ≠ some b) (h1 : s'.way ≠ [])
    (hw' : ∀ b, wv'.ownBlock = some b → wv.ownBlock = some b ∨ w.heap.size ≤ b) (hu' : ∀ b, uv'.ownBlock = some b → uv.ownBlock = some b ∨ w.heap.size ≤ b) :
    IsW w0 w' P wv' uv' s' l' F ∧ ∀ b, F b → w'.heap[b]? = w.heap[b]? := by
  have ht := h.tlt
  have hl := h.lt
  have key : ∀ b, b ≤ P.gs → w'.heap[b]? = w.heap[b]? := fun b hb => hO.block b (by omega) (fun e => by
    rcases e with e | e | e
    · omega
    · have := (World.ownsRow.lt h.way b e).1; omega
    · have := (World.ownsRow.lt h.used b e).1; omega)
  refine ⟨⟨hh, (key _ (Nat.le_refl _)).trans h.src, h.fr.moved (key _ (by omega)), h.ca.moved fun b hb => key b (by have := h.cb b hb; omega), h.say, hw, hu, hn, h.cb, h.lt, h.base, h1, hO.below h.below h.below.size fun b hb => ?_, fun b hf => ?_⟩, fun b hf => hO.block b (h.fk b hf).1 fun e => ?_⟩
  · have := h.base
    rcases hb with hb | hb | hb
    · omega
    · have := (World.ownsRow.lt h.way b hb).1; omega
    · have := (World.ownsRow.lt h.used b hb).1; omega
  · have hf' := h.fk b hf
    refine ⟨Nat.lt_of_lt_of_le hf'.1 hO.size, hf'.2.1, fun e => ?_, fun e => ?_⟩
    · rcases hw' b e with e | e
      · exact hf'.2.2.1 e
      · omega
    · rcases hu' b e with e | e
      · exact hf'.2.2.2 e
      · omega
  · have hf' := h.fk b hf
    rcases e with e | e | e
    · exact hf'.2.1 e
    · exact hf'.2.2.1 e
    · exact hf'.2.2.2 e
theorem IsW.cells (h : IsW w0 w P wv uv s l F) : w.cell? ⟨P.t, 0, none⟩ = some (.slice (some ⟨P.gs, 0, none⟩) 2 2) ∧ w.cell? ⟨P.t, 1, none⟩ = some wv ∧ w.cell? ⟨P.t, 2, none⟩ = some uv ∧ w.cell? ⟨P.t, 3, none⟩ = some (.bool s.dir) ∧ w.cell? ⟨P.t, 4, none⟩ = some (.bool P.fol) ∧ w.cell? ⟨P.t, 5, none⟩ = some (.int .i64 l) ∧ ∀ i, w.frozen? ⟨P.t, i, none⟩ = false :=
  ⟨by rw [cell_of h.head]; rfl, by rw [cell_of h.head]; rfl, by rw [cell_of h.head]; rfl, by rw [cell_of h.head]; rfl, by rw [cell_of h.head]; rfl, by rw [cell_of h.head]; rfl, free_of h.head⟩
/-- behind a call that may change it -/
def AfW (w0 w w' : World) (P : Pw) (s : Ws) (l : Nat) (F : Nat → Prop) : Prop := ∃ wv uv, IsW w0 w' P wv uv s l F ∧ (∀ b, F b → w'.heap[b]? = w.heap[b]?) ∧ w.heap.size ≤ w'.heap.size
/-- where it stands, in memory -/
theorem IsW.last (h : IsW w0 w P wv uv s l F) : ∃ gw m i cap, wv = .slice (some ⟨gw, 0, none⟩) m cap ∧ s.way.length = m ∧ m = i + 1 ∧ m ≤ cap ∧ Cells4 w gw (i * 4) s.here ∧ P.t < gw := by
  obtain ⟨a, cap, rfl⟩ := owns_len h.way
  obtain ⟨i, hi⟩ : ∃ i, s.way.length = i + 1 := by
    cases hq : s.way with
    | nil => exact absurd hq h.some1
    | cons a b => exact ⟨b.length, rfl⟩
  have hg : s.way[i]? = some s.here := by
    unfold Ws.here
    rw [List.getLast?_eq_getElem?, hi, Nat.add_sub_cancel]
    obtain ⟨x, hx⟩ : ∃ x, s.way[i]? = some x := ⟨_, List.getElem?_eq_getElem (by omega)⟩
    rw [hx]; rfl
  obtain ⟨gw, e1, e2, e3, e4, e5, hc⟩ := h.way.get hg
  subst e1
  exact ⟨gw, _, i, cap, rfl, rfl, hi, e3, hc, e4⟩
end
set_option maxHeartbeats 2000000 in
theorem here_p {w0 w : World} {P : Pw} {wv uv : Value} {s : Ws} {l : Nat} {F : Nat → Prop} (h : IsW w0 w P wv uv s l F) (hlen : s.way.length ≤ 1000000000000) : Calls Try.prog 48 #[.pointer (some ⟨P.t, 0, none⟩)] w fun r w' => r = .returned (.agg #[.int .i64 s.here.id, .int .i64 s.here.kind, .int .i64 s.here.mode, .string s.here.tg]) ∧ Below w.heap.size w w' := by
  obtain ⟨gw, m, i, cap, rfl, hm, hi, hcap, hc, -⟩ := h.last
  rw [hm] at hlen
  obtain ⟨n, hn⟩ : ∃ n, s.here = n := ⟨_, rfl⟩
  rw [hn] at hc ⊢
  obtain ⟨W1, hW1⟩ : ∃ W, w.alloc (.cells zeroes4 31) = W := ⟨_, rfl⟩
  have b1 := boxO hW1
  obtain ⟨W2, hW2⟩ : ∃ W, W1.drew.setRow w.heap.size n.vals.toArray = W := ⟨_, rfl⟩
  have HR : Hid (W2.heap[w.heap.size]? = some (.cells n.vals.toArray 31 (0, 0))) := by rw [← hW2]; exact setRow_heap _ _ _ _ _ _ b1.1
  have hB2 : Below w.heap.size w W2 := by
    rw [← hW2]
    exact ((Only.refl _ W1).drew.trans (onlyR _ _ _)).below b1.2.1 b1.2.1.size fun k e => by omega
  have HB : Hid (Below w.heap.size w W2) := hB2
  have kS : ∀ W, Below w.heap.size w W → W.cell? ⟨P.t, 1, none⟩ = some (.slice (some ⟨gw, 0, none⟩) m cap) ∧ (ndLd (.pointer (some ⟨gw, i * 4, none⟩))).run Try.prog W = .ok n.agg W := fun W hW => ⟨(h.on' hW).cells.2.1, ndLd_at (hc.below hW)⟩
  have k0 := kS W1.drew (below_drewN b1.2.1 1)
  have k1 := kS W2 hB2
  have s1 : (ndSt (.pointer (some ⟨w.heap.size, 0, none⟩)) n.agg).run Try.prog W1.drew = .ok () W2 := ndSt_of b1.1 rfl hW2
  have hwi : IntKind.i64.wrap ((m : Int) - 1) = (i : Int) := by
    rw [show (m : Int) - 1 = (i : Int) by omega]; exact IntWalk.i64_in _ (by omega)
  have hiz : (i : Int) < (m : Int) := by omega
  have hi0 : (0 : Int) ≤ (i : Int) := by omega
  clear h hm hi hn hc b1 hW2 hB2 kS
  go_enter Try.func48, Try.ntmps48
  go_upto_region 1 with fail
  go_region_held3 (fun W => W.cell? ⟨P.t, 1, none⟩ = some (.slice (some ⟨gw, 0, none⟩) m cap) ∧ (ndLd (.pointer (some ⟨gw, i * 4, none⟩))).run Try.prog W = .ok n.agg W)
    (with_reducible first | exact k0 | exact k1)
    (fail)
  all_goals (go_wp2; (try simp only [Exit.inBlock, Exit.then]); refine bodyPost_ret (ret_node rfl _ _ w.heap.size rfl HR.out) rfl ?_; exact ⟨rfl, HB.out⟩)
theorem fldN0 (w : World) (a b c : Int) (d : ByteArray) : (Instr.field 31 (.agg #[.int .i64 a, .int .i64 b, .int .i64 c, .string d]) 0).run Try.prog w = .ok (.int .i64 a) w := by
  unfold Instr.field
  simp [go_sem]
  rfl
theorem fldN1 (w : World) (a b c : Int) (d : ByteArray) : (Instr.field 31 (.agg #[.int .i64 a, .int .i64 b, .int .i64 c, .string d]) 1).run Try.prog w = .ok (.int .i64 b) w := by
  unfold Instr.field
  simp [go_sem]
  rfl
set_option maxRecDepth 20000 in
theorem inDir_p {w0 w : World} {P : Pw} {wv uv : Value} {s : Ws} {l : Nat} {F : Nat → Prop} (h : IsW w0 w P wv uv s l F) (hlen : s.way.length ≤ 1000000000000) : Calls Try.prog 45 #[.pointer (some ⟨P.t, 0, none⟩)] w fun r w' => r = .returned (.bool s.inD) ∧ Below w.heap.size w w' := by
  have HH : Hid (Calls Try.prog 48 #[.pointer (some ⟨P.t, 0, none⟩)] w fun r w' => r = .returned (.agg #[.int .i64 s.here.id, .int .i64 s.here.kind, .int .i64 s.here.mode, .string s.here.tg]) ∧ Below w.heap.size w w') := here_p h hlen
  clear h
  have f1 := fldN1
  go_enter Try.func45, Try.ntmps45
  go_wp2_with (go_at_call 48; refine HH.out.mono ?_; rintro r w1 ⟨rfl, hb⟩)
  go_ret
  exact ⟨rfl, hb⟩
set_option maxRecDepth 20000 in
theorem fail_p {w0 w : World} {P : Pw} {wv uv : Value} {s : Ws} {l : Nat} {F : Nat → Prop} (e : Int) (h : IsW w0 w P wv uv s l F) : Calls Try.prog 46 #[.pointer (some ⟨P.t, 0, none⟩), .int .i64 e] w fun r w' => r = .returned (ouAgg (s.fail e) uv) ∧ Below w.heap.size w w' := by
  obtain ⟨a, c, rfl⟩ := owns_len h.used
  obtain ⟨n, hn⟩ : ∃ n, s.used.length = n := ⟨_, rfl⟩
  rw [hn] at h ⊢
  obtain ⟨W1, hW1⟩ : ∃ W, w.alloc (.cells zeroes9 34) = W := ⟨_, rfl⟩
  have b1 := boxO hW1
  obtain ⟨W2, hW2⟩ : ∃ W, W1.setRow w.heap.size (ouVals (s.fail e) (.slice a n c)).toArray = W := ⟨_, rfl⟩
  have HR : Hid (W2.heap[w.heap.size]? = some (.cells (ouVals (s.fail e) (.slice a n c)).toArray 34 (0, 0))) := by rw [← hW2]; exact setRow_heap _ _ _ _ _ _ b1.1
  have HB : Hid (Below w.heap.size w W2) := by
    rw [← hW2]
    exact (onlyR _ _ _).below b1.2.1 b1.2.1.size fun k e => by omega
  have k0 := (h.on' b1.2.1).cells.2.2.1
  have s1 : (ouSt (.pointer (some ⟨w.heap.size, 0, none⟩)) (.agg #[.bool false, .int .i64 0, .string ⟨#[]⟩, .int .i64 e, .int .i64 0, .int .i64 0, .int .i64 0, .string ⟨#[]⟩, .slice a n c])).run Try.prog W1 = .ok () W2 := ouSt_of (o := s.fail e) b1.1 rfl hW2
  clear h b1 hW2 hn
  go_enter Try.func46, Try.ntmps46
  go_wp2
  (try simp only [Exit.inBlock, Exit.then])
  refine bodyPost_ret (ret_out rfl _ _ w.heap.size rfl HR.out) rfl ?_
  exact ⟨rfl, HB.out⟩
end
end Go.Proofs.Ytppbbddlbfgpfaa
