/- A call of a script in a box; what it does to a cache, plainly. -/
import Derived.Test.YtlabophmfdfigaaJDOle15
import Derived.Test.YtlabophmfdfigaaJDOle16
namespace Go.Proofs.Ytlabophmfdfigaa
section
open Go.RowKit

theorem Try.sizeDo : (Try.prog.info? 39).map (·.size) = some 10 := by kernel_rfl
def DOp.agg (x : DOp) : Value := .agg x.vals.toArray
def doLd (v : Value) : Sem Value := Instr.loadAt 39 v
theorem loadDo (v : Value) : Instr.loadAt 39 v = doLd v := rfl
theorem doLd_at {w : World} {g o : Nat} {x : DOp} (h : ∀ (j : Nat) u, x.vals[j]? = some u → w.cell? ⟨g, o + j, none⟩ = some u) : (doLd (.pointer (some ⟨g, o, none⟩))).run Try.prog w = .ok x.agg w :=
  run_loadAt_mid (P := Try.prog) w g o 39 x.vals _ h Try.underlying39 rfl Try.sizeDo
attribute [irreducible] doLd
def doSt (a v : Value) : Sem Unit := Instr.storeAt 39 a v
theorem storeDo (a v : Value) : Instr.storeAt 39 a v = doSt a v := rfl
theorem dvals_one {x : DOp} (hk : x.vk.oneCell' = true) : ∀ v ∈ x.vals, v.oneCell' = true := by
  intro v hv
  unfold DOp.vals at hv
  rcases List.mem_cons.1 hv with rfl | hv
  · rfl
  rcases List.mem_cons.1 hv with rfl | hv
  · rfl
  rcases List.mem_append.1 hv with hv | hv
  · exact enVals_one x.e v hv
  · rw [List.mem_singleton.1 hv]; exact hk
theorem box10 (w : World) (x : DOp) (hk : x.vk.oneCell' = true) : (doSt (.pointer (some ⟨w.heap.size, 0, none⟩)) x.agg).run Try.prog (w.alloc (.cells #[.int .i64 0, .int .i64 0, .int .i64 0, .string ⟨#[]⟩, .bool false, .int .i64 0, .int .i64 0, .int .i64 0, .string ⟨#[]⟩, .slice none 0 0] 39)) = .ok () (w.alloc (.cells x.vals.toArray 39)) := by
  have h1 : x.vals.toArray.all (·.oneCell') = true := by rw [Array.all_eq_true']; intro v hv; exact dvals_one hk v (by simpa using hv)
  have := run_storeVar_row (P := Try.prog) _ w.heap.size 39 39 _ x.vals.toArray (heap_new w (.cells #[.int .i64 0, .int .i64 0, .int .i64 0, .string ⟨#[]⟩, .bool false, .int .i64 0, .int .i64 0, .int .i64 0, .string ⟨#[]⟩, .slice none 0 0] 39)) Try.sizeDo rfl h1
  rw [alloc_setRow] at this
  unfold doSt Instr.storeAt Instr.sureAddr DOp.agg
  simpa using this
attribute [irreducible] doSt
/-- a box with a call in it -/
structure BxD (w : World) (b : Nat) (x : DOp) : Prop where
  hh : w.heap[b]? = some (.cells x.vals.toArray 39 (0, 0))
theorem BxD.kind {w : World} {b : Nat} {x : DOp} (h : BxD w b x) : w.cell? ⟨b, 0, none⟩ = some (.int .i64 x.kind) := by rw [cell_of h.hh]; rfl
theorem BxD.dir {w : World} {b : Nat} {x : DOp} (h : BxD w b x) : w.cell? ⟨b, 1, none⟩ = some (.int .i64 x.dir) := by rw [cell_of h.hh]; rfl
theorem BxD.keys {w : World} {b : Nat} {x : DOp} (h : BxD w b x) : w.cell? ⟨b, 9, none⟩ = some x.vk := by rw [cell_of h.hh]; rfl
theorem BxD.ent {w : World} {b : Nat} {x : DOp} (h : BxD w b x) : Cells7 w b 2 x.e := ⟨by rw [cell_of h.hh]; rfl, by rw [cell_of h.hh]; rfl, by rw [cell_of h.hh]; rfl, by rw [cell_of h.hh]; rfl, by rw [cell_of h.hh]; rfl, by rw [cell_of h.hh]; rfl, by rw [cell_of h.hh]; rfl⟩
theorem BxD.moved {w w' : World} {b : Nat} {x : DOp} (h : BxD w b x) (e : w'.heap[b]? = w.heap[b]?) : BxD w' b x := ⟨e.trans h.hh⟩
theorem BxD.below {w w' : World} {b : Nat} {x : DOp} (h : BxD w b x) (hb : Below w.heap.size w w') : BxD w' b x := ⟨hkeep h.hh hb⟩
theorem ArgK.one {w : World} {v : Value} {ks : List Ky} (h : ArgK w v ks) : v.oneCell' = true := by
  obtain ⟨a, cap, rfl, _⟩ := h
  rfl
/-- what a call does to a cache -/
def opS (s : Cs) (x : DOp) : Cs :=
  if placeV x.kind 6 = 0 then putS s x.e
  else if placeV x.kind 6 = 1 then s.use x.e.key
  else if placeV x.kind 6 = 2 then s.cut x.ks
  else if placeV x.kind 6 = 3 then Cs.clear
  else if placeV x.kind 6 = 4 then s.evict x.e.key
  else s.setW x.dir
def runS (ops : List DOp) : Cs := ops.foldl opS Cs.clear
theorem runS_snoc (ops : List DOp) (i : Nat) (x : DOp) (h : ops[i]? = some x) : runS (ops.take (i + 1)) = opS (runS (ops.take i)) x := by
  unfold runS
  rw [List.take_add_one, h, List.foldl_append]; rfl
theorem place6 (v : Int) : placeV v 6 = 0 ∨ placeV v 6 = 1 ∨ placeV v 6 = 2 ∨ placeV v 6 = 3 ∨ placeV v 6 = 4 ∨ placeV v 6 = 5 := by
  have := placeV_bd v 6 (by omega)
  omega
/-- the whole directories -/
theorem putS_W (s : Cs) (e : En) : (putS s e).W = s.W := by unfold putS; split <;> rfl
theorem use_W (s : Cs) (k : Ky) : (s.use k).W = s.W := by
  unfold Cs.use
  split <;> rfl
theorem cut_W (ks : List Ky) : ∀ (s : Cs) (d : Int), d ∈ (s.cut ks).W ↔ d ∈ s.W ∧ ∀ k ∈ ks, k.d ≠ d := by
  unfold Cs.cut
  induction ks with
  | nil => intro s d; simp
  | cons k ks ih =>
    intro s d
    rw [List.foldl_cons, ih (s.cut1 k) d]
    show d ∈ partW s.W k.d ∧ _ ↔ _
    rw [mem_partW]
    simp only [List.mem_cons, forall_eq_or_imp]
    exact ⟨fun ⟨⟨h1, h2⟩, h3⟩ => ⟨h1, fun e => h2 e.symm, h3⟩, fun ⟨h1, h2, h3⟩ => ⟨⟨h1, fun e => h2 e.symm⟩, h3⟩⟩
theorem evict_W (s : Cs) (k : Ky) (d : Int) : d ∈ (s.evict k).W ↔ d ∈ s.W ∧ ¬ (∃ e, getL s.L k = some e ∧ e.neg = false ∧ k.d = d) := by
  unfold Cs.evict
  cases hg : getL s.L k with
  | none => simp
  | some e =>
    cases hn : e.neg with
    | true => simp [hn]
    | false =>
      show (d ∈ if e.neg = true then s.W else partW s.W k.d) ↔ _
      rw [hn, if_neg (by decide), mem_partW]
      constructor
      · rintro ⟨h1, h2⟩
        exact ⟨h1, fun ⟨e', _, _, h3⟩ => h2 h3.symm⟩
      · rintro ⟨h1, h2⟩
        exact ⟨h1, fun h3 => h2 ⟨e, rfl, hn, h3.symm⟩⟩
end
end Go.Proofs.Ytlabophmfdfigaa
