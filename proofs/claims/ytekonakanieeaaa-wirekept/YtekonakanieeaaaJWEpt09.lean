/- The document's own reading of bytes (vistaref06): what is left of bytes; one byte. -/
import Derived.Test.YtekonakanieeaaaJWEpt08
import Derived.Laws.ResultCell
namespace Go.Proofs.Ytekonakanieeaaa
section
open Go.RowKit Go.Lib
variable {Bq : Nat}

/-- what is left, in memory -/
def BytL (Bq : Nat) (b : Value) (l : List Int) : Prop := Byt l ∧ (l = [] ∨ ∃ g off n c, b = .slice (some ⟨g, off, none⟩) n c ∧ g < Bq)
def RI (Bq : Nat) (w : World) (b : Value) (ok : Bool) (s : St) : Prop := ∃ l, RC w b l ∧ BytL Bq b l ∧ l.length ≤ 140737488351232 ∧ ((ok = true ∧ s = some l) ∨ (ok = false ∧ s = none))
theorem RI.below {w w' : World} {b : Value} {ok : Bool} {s : St} (h : RI Bq w b ok s) (hb : Below w.heap.size w w') : RI Bq w' b ok s := by
  obtain ⟨l, h1, h2⟩ := h
  exact ⟨l, h1.below hb, h2⟩
theorem RC.nil (w : World) : RC w (.slice none 0 0) [] := ⟨_, _, rfl, Nat.le_refl _, .inl rfl⟩
theorem RI.no (w : World) : RI Bq w (.slice none 0 0) false none := ⟨[], RC.nil w, ⟨(fun x hx => by cases hx), .inl rfl⟩, Nat.zero_le _, .inr ⟨rfl, rfl⟩⟩
theorem results_tmp_cell {fn : Func} {p u : Tmp} {ty : TypeId} (h : fn.results = #[.tmp u, .cell p ty]) (tmps : Array Value) (P : Program) (w : World) :
    (results fn tmps).run P w =
      ((asAddr (tmps.getD p undef)).run P w).andThen fun a w₁ => ((loadVar ty a).run P w₁).andThen fun v w₂ => .ok (.tuple #[tmps.getD u undef, v]) w₂ := by
  simp only [results, h]
  simp [Sem.run_bind, Result.andThen]
theorem Try.sizeIn : (Try.prog.info? 68).map (·.size) = some 2 := by kernel_rfl
theorem ret_in {fn : Func} {p u : Tmp} (h : fn.results = #[.tmp u, .cell p 68]) (tmps : Array Value) (w : World) (g : Nat) {t : TypeId} {cs : Array Value} {fr : Nat × Nat} (hp : tmps.getD p undef = .pointer (some ⟨g, 0, none⟩)) (hg : w.heap[g]? = some (.cells cs t fr)) (hs : cs.size = 2) :
    (results fn tmps).run Try.prog w = .ok (.tuple #[tmps.getD u undef, .agg cs]) w := by
  rw [results_tmp_cell h, hp]
  simp [asAddr, run_loadVar_row w g t 68 cs fr _ hg Try.underlying68 rfl (by rw [hs]; exact Try.sizeIn), Result.andThen]

theorem set2 {w : World} {g : Nat} {y0 y1 x0 x1 : Value} {t : TypeId} {f : Nat × Nat} (h : w.heap[g]? = some (.cells #[y0, y1] t f)) : ((w.setCell ⟨g, 0, none⟩ x0).setCell ⟨g, 1, none⟩ x1).heap[g]? = some (.cells #[x0, x1] t f) := (heap_set (heap_set h 0 x0) 1 x1).trans rfl
theorem below2 {w w2 : World} {g : Nat} (x0 x1 : Value) (h : Below w.heap.size w w2) (hg : w.heap.size ≤ g) : Below w.heap.size w ((w2.setCell ⟨g, 0, none⟩ x0).setCell ⟨g, 1, none⟩ x1) :=
  Only.below h ((only1 w2 g 0 x0).trans (only1 _ g 1 x1)) h.size (fun k hk => by rw [hk]; exact hg)
/-- what a call that reads leaves -/
def RdI (Bq : Nat) (x : Value) (s' : St) (w w' : World) (e : Ending) : Prop := ∃ b ok, e = .returned (.tuple #[x, .agg #[b, .bool ok]]) ∧ Hid (RI Bq w' b ok s') ∧ Below w.heap.size w w'
theorem boxesI {w W W2 : World} {x0 x1 : Value} (hW : w.alloc (.cells #[x0, x1] 68) = W) (hW2 : W.alloc (.cells #[.slice none 0 0, .bool false] 68) = W2) : W2.heap[w.heap.size]? = some (.cells #[x0, x1] 68 (0, 0)) ∧ W2.heap[W.heap.size]? = some (.cells #[.slice none 0 0, .bool false] 68 (0, 0)) ∧ Below w.heap.size w W2 ∧ w.heap.size ≤ W.heap.size := by
  have hb := boxB hW
  have hb2 := boxB hW2
  exact ⟨hkeep hb.1 hb2.2, hb2.1, chainB hb.2 hb2.2, hb.2.size⟩
set_option maxRecDepth 20000 in
set_option maxHeartbeats 2000000 in
theorem byte_no (a : Option Addr) (n c : Nat) (w : World) : Calls Try.prog 28 #[.agg #[.slice a n c, .bool false]] w fun e w' => RdI Bq (.int .i64 0) none w w' e := by
  obtain ⟨W, hW⟩ : ∃ W, w.alloc (.cells #[.slice a n c, .bool false] 68) = W := ⟨_, rfl⟩
  obtain ⟨W2, hW2⟩ : ∃ W2, W.alloc (.cells #[.slice none 0 0, .bool false] 68) = W2 := ⟨_, rfl⟩
  obtain ⟨n1, n2, hbl, hle⟩ := boxesI hW hW2
  have x0 := cell_of n1 0
  have x1 := cell_of n1 1
  have y0 := cell_of n2 0
  have y1 := cell_of n2 1
  have yf := free_of n2
  simp at x0 x1 y0 y1
  have HB : Hid (W2.heap[W.heap.size]? = some (.cells #[.slice none 0 0, .bool false] 68 (0, 0)) ∧ Below w.heap.size w W2 ∧ w.heap.size ≤ W.heap.size) := ⟨n2, hbl, hle⟩
  clear n1 n2 hbl hle
  go_enter Try.func28, Try.ntmps28
  go_upto_region 1 with fail
  clear hW hW2
  go_wp2
  refine bodyPost_ret (ret_in rfl _ _ W.heap.size rfl (set2 HB.out.1) rfl) rfl ?_
  exact ⟨_, _, rfl, RI.no _, below2 _ _ HB.out.2.1 HB.out.2.2⟩
set_option maxRecDepth 20000 in
set_option maxHeartbeats 2000000 in
theorem byte_nil (a : Option Addr) (c : Nat) (w : World) : Calls Try.prog 28 #[.agg #[.slice a 0 c, .bool true]] w fun e w' => RdI Bq (.int .i64 0) none w w' e := by
  obtain ⟨W, hW⟩ : ∃ W, w.alloc (.cells #[.slice a 0 c, .bool true] 68) = W := ⟨_, rfl⟩
  obtain ⟨W2, hW2⟩ : ∃ W2, W.alloc (.cells #[.slice none 0 0, .bool false] 68) = W2 := ⟨_, rfl⟩
  obtain ⟨n1, n2, hbl, hle⟩ := boxesI hW hW2
  have x0 := cell_of n1 0
  have x1 := cell_of n1 1
  have y0 := cell_of n2 0
  have y1 := cell_of n2 1
  have yf := free_of n2
  simp at x0 x1 y0 y1
  have HB : Hid (W2.heap[W.heap.size]? = some (.cells #[.slice none 0 0, .bool false] 68 (0, 0)) ∧ Below w.heap.size w W2 ∧ w.heap.size ≤ W.heap.size) := ⟨n2, hbl, hle⟩
  clear n1 n2 hbl hle
  go_enter Try.func28, Try.ntmps28
  go_upto_region 1 with fail
  clear hW hW2
  go_wp2
  refine bodyPost_ret (ret_in rfl _ _ W.heap.size rfl (set2 HB.out.1) rfl) rfl ?_
  exact ⟨_, _, rfl, RI.no _, below2 _ _ HB.out.2.1 HB.out.2.2⟩
set_option maxRecDepth 20000 in
set_option maxHeartbeats 2000000 in
theorem byte_one (g off : Nat) (x : Int) (w : World) (hx : 0 ≤ x ∧ x < 256) (hc0 : w.cell? ⟨g, off, none⟩ = some (.int .u8 x)) : Calls Try.prog 28 #[.agg #[.slice (some ⟨g, off, none⟩) 1 1, .bool true]] w fun e w' => e = .returned (.tuple #[.int .i64 x, .agg #[.slice (some ⟨g, off, none⟩) 0 0, .bool true]]) ∧ Below w.heap.size w w' := by
  obtain ⟨W, hW⟩ : ∃ W, w.alloc (.cells #[.slice (some ⟨g, off, none⟩) 1 1, .bool true] 68) = W := ⟨_, rfl⟩
  obtain ⟨W2, hW2⟩ : ∃ W2, W.alloc (.cells #[.slice none 0 0, .bool false] 68) = W2 := ⟨_, rfl⟩
  obtain ⟨n1, n2, hbl, hle⟩ := boxesI hW hW2
  have hlW : w.heap.size < W.heap.size := by rw [← hW]; simp
  have x0 := cell_of n1 0
  have x1 := cell_of n1 1
  have y0 := cell_of n2 0
  have y1 := cell_of n2 1
  have yf := free_of n2
  simp at x0 x1 y0 y1
  have HB : Hid (W2.heap[W.heap.size]? = some (.cells #[.slice none 0 0, .bool false] 68 (0, 0)) ∧ Below w.heap.size w W2 ∧ w.heap.size ≤ W.heap.size ∧ w.heap.size < W.heap.size) := ⟨n2, hbl, hle, hlW⟩
  clear n1 n2 hbl hle hlW
  have k0 : W2.cell? ⟨g, off, none⟩ = some (.int .u8 x) := (HB.out.2.1.cell (p := ⟨g, off, none⟩) (cellLt hc0)).trans hc0
  have hgl : g < w.heap.size := cellLt hc0
  have s0 : W2.drew.cell? ⟨w.heap.size, 0, none⟩ = some (.slice (some ⟨g, off, none⟩) 1 1) ∧ W2.drew.cell? ⟨g, off, none⟩ = some (.int .u8 x) := ⟨x0, k0⟩
  have s1 : ∀ a b, ((W2.drew.setCell ⟨W.heap.size, 0, none⟩ a).setCell ⟨W.heap.size, 1, none⟩ b).cell? ⟨w.heap.size, 0, none⟩ = some (.slice (some ⟨g, off, none⟩) 1 1) ∧ ((W2.drew.setCell ⟨W.heap.size, 0, none⟩ a).setCell ⟨W.heap.size, 1, none⟩ b).cell? ⟨g, off, none⟩ = some (.int .u8 x) := fun a b => by
    have ho : Only (· = W.heap.size) W2.drew ((W2.drew.setCell ⟨W.heap.size, 0, none⟩ a).setCell ⟨W.heap.size, 1, none⟩ b) := (only1 _ _ 0 a).trans (only1 _ _ 1 b)
    have hw2 : W.heap.size ≤ W2.drew.heap.size := Nat.le_of_lt (Array.getElem?_eq_some_iff.1 HB.out.1).1
    exact ⟨(World.cell?_of_block (ho.block w.heap.size (Nat.lt_of_lt_of_le HB.out.2.2.2 hw2) (Nat.ne_of_lt HB.out.2.2.2))).trans x0, (World.cell?_of_block (ho.block g (Nat.lt_of_lt_of_le (Nat.lt_trans hgl HB.out.2.2.2) hw2) (Nat.ne_of_lt (Nat.lt_trans hgl HB.out.2.2.2)))).trans k0⟩
  have hwx : IntKind.i64.wrap x = x := by rw [IntKind.wrap_i64]; omega
  have hwy : wrap64 x = x := by have := hwx; rw [IntKind.wrap_i64] at this; unfold wrap64; omega
  have yg0 := yf 0
  have yg1 := yf 1
  clear hc0
  go_enter Try.func28, Try.ntmps28
  go_upto_region 1 with fail
  clear hW hW2
  go_upto_region 3 with fail
  go_region_held3 (fun w' => w'.cell? ⟨w.heap.size, 0, none⟩ = some (.slice (some ⟨g, off, none⟩) 1 1) ∧ w'.cell? ⟨g, off, none⟩ = some (.int .u8 x)) (first | exact s0 | exact s1 _ _) (fail)
  go_wp2
  refine bodyPost_ret (ret_in rfl _ _ W.heap.size rfl (by exact set2 HB.out.1) rfl) rfl ?_
  exact ⟨rfl, (below2 _ _ HB.out.2.1 HB.out.2.2.1).drew⟩
set_option maxRecDepth 20000 in
set_option maxHeartbeats 2000000 in
theorem byte_two (g off n c : Nat) (x : Int) (w : World) (hx : 0 ≤ x ∧ x < 256) (hc0 : w.cell? ⟨g, off, none⟩ = some (.int .u8 x)) (hcap : n + 1 ≤ c) (hn : n + 1 ≤ 140737488351232) (h1 : ¬ c = 1) : Calls Try.prog 28 #[.agg #[.slice (some ⟨g, off, none⟩) (n + 1) c, .bool true]] w fun e w' => e = .returned (.tuple #[.int .i64 x, .agg #[.slice (some ⟨g, off + 1, none⟩) n (c - 1), .bool true]]) ∧ Below w.heap.size w w' := by
  obtain ⟨W, hW⟩ : ∃ W, w.alloc (.cells #[.slice (some ⟨g, off, none⟩) (n + 1) c, .bool true] 68) = W := ⟨_, rfl⟩
  obtain ⟨W2, hW2⟩ : ∃ W2, W.alloc (.cells #[.slice none 0 0, .bool false] 68) = W2 := ⟨_, rfl⟩
  obtain ⟨n1, n2, hbl, hle⟩ := boxesI hW hW2
  have hlW : w.heap.size < W.heap.size := by rw [← hW]; simp
  have x0 := cell_of n1 0
  have x1 := cell_of n1 1
  have y0 := cell_of n2 0
  have y1 := cell_of n2 1
  have yf := free_of n2
  simp at x0 x1 y0 y1
  have HB : Hid (W2.heap[W.heap.size]? = some (.cells #[.slice none 0 0, .bool false] 68 (0, 0)) ∧ Below w.heap.size w W2 ∧ w.heap.size ≤ W.heap.size ∧ w.heap.size < W.heap.size) := ⟨n2, hbl, hle, hlW⟩
  clear n1 n2 hbl hle hlW
  have k0 : W2.cell? ⟨g, off, none⟩ = some (.int .u8 x) := (HB.out.2.1.cell (p := ⟨g, off, none⟩) (cellLt hc0)).trans hc0
  have hgl : g < w.heap.size := cellLt hc0
  have hcI : (n : Int) + 1 ≤ (c : Int) := by omega
  have hcN : ((n + 1 : Nat) : Int) ≤ (c : Int) := by omega
  have h1n : (1 : Int) ≤ (n : Int) + 1 := by omega
  have h0n : (0 : Int) ≤ (n : Int) + 1 := by omega
  have h1c : (1 : Int) ≤ (c : Int) := by omega
  have htn : ((n : Int) + 1).toNat = n + 1 := by omega
  have hgt : (((n : Int) + 1) == 0) = false := by rw [beq_eq_false_iff_ne]; omega
  have hgt2 : ¬ ((n : Int) + 1 = 0) := by omega
  have s0 : W2.drew.cell? ⟨w.heap.size, 0, none⟩ = some (.slice (some ⟨g, off, none⟩) (n + 1) c) ∧ W2.drew.cell? ⟨g, off, none⟩ = some (.int .u8 x) := ⟨x0, k0⟩
  have s1 : ∀ a b, ((W2.drew.setCell ⟨W.heap.size, 0, none⟩ a).setCell ⟨W.heap.size, 1, none⟩ b).cell? ⟨w.heap.size, 0, none⟩ = some (.slice (some ⟨g, off, none⟩) (n + 1) c) ∧ ((W2.drew.setCell ⟨W.heap.size, 0, none⟩ a).setCell ⟨W.heap.size, 1, none⟩ b).cell? ⟨g, off, none⟩ = some (.int .u8 x) := fun a b => by
    have ho : Only (· = W.heap.size) W2.drew ((W2.drew.setCell ⟨W.heap.size, 0, none⟩ a).setCell ⟨W.heap.size, 1, none⟩ b) := (only1 _ _ 0 a).trans (only1 _ _ 1 b)
    have hw2 : W.heap.size ≤ W2.drew.heap.size := Nat.le_of_lt (Array.getElem?_eq_some_iff.1 HB.out.1).1
    exact ⟨(World.cell?_of_block (ho.block w.heap.size (Nat.lt_of_lt_of_le HB.out.2.2.2 hw2) (Nat.ne_of_lt HB.out.2.2.2))).trans x0, (World.cell?_of_block (ho.block g (Nat.lt_of_lt_of_le (Nat.lt_trans hgl HB.out.2.2.2) hw2) (Nat.ne_of_lt (Nat.lt_trans hgl HB.out.2.2.2)))).trans k0⟩
  have hwx : IntKind.i64.wrap x = x := by rw [IntKind.wrap_i64]; omega
  have hwy : wrap64 x = x := by have := hwx; rw [IntKind.wrap_i64] at this; unfold wrap64; omega
  have yg0 := yf 0
  have yg1 := yf 1
  clear hc0
  go_enter Try.func28, Try.ntmps28
  go_upto_region 1 with fail
  clear hW hW2
  go_upto_region 3 with fail
  go_region_held3 (fun w' => w'.cell? ⟨w.heap.size, 0, none⟩ = some (.slice (some ⟨g, off, none⟩) (n + 1) c) ∧ w'.cell? ⟨g, off, none⟩ = some (.int .u8 x)) (first | exact s0 | exact s1 _ _) (fail)
  go_wp2
  refine bodyPost_ret (ret_in rfl _ _ W.heap.size rfl (by exact set2 HB.out.1) rfl) rfl ?_
  exact ⟨rfl, (below2 _ _ HB.out.2.1 HB.out.2.2.1).drew⟩
end
section
open Go.RowKit Go.Lib
variable {Bq : Nat}

theorem byte_d {w : World} {b : Value} {ok : Bool} {s : St} (h : RI Bq w b ok s) : Calls Try.prog 28 #[.agg #[b, .bool ok]] w fun e w' => RdI Bq (.int .i64 (octP s).1) (octP s).2 w w' e := by
  obtain ⟨l, hr, hby, hlen, ho⟩ := h
  obtain ⟨a, c, rfl, hcap, hc⟩ := hr
  rcases ho with ⟨rfl, rfl⟩ | ⟨rfl, rfl⟩
  · cases l with
    | nil => exact byte_nil a c w
    | cons x l =>
      rcases hc with hc | ⟨g, off, rfl, hg, hc⟩
      · cases hc
      have hx := hby.1 x (by simp)
      have hlow : g < Bq := by
        rcases hby.2 with h | ⟨g', off', n', c', e', hg'⟩
        · cases h
        · cases e'; exact hg'
      have h0 : w.cell? ⟨g, off, none⟩ = some (.int .u8 x) := hc 0 x rfl
      simp only [List.length_cons] at hcap hlen ⊢
      have htl : ∀ w', Below w.heap.size w w' → ∀ i y, l[i]? = some y → w'.cell? ⟨g, off + 1 + i, none⟩ = some (.int .u8 y) := fun w' h' i y hy => by
        have := hc (i + 1) y (by simpa using hy)
        rw [show off + 1 + i = off + (i + 1) by omega]
        exact (h'.cell (p := ⟨g, off + (i + 1), none⟩) hg).trans this
      by_cases hc1 : c = 1
      · subst hc1
        have hl0 : l = [] := List.length_eq_zero_iff.1 (by omega)
        subst hl0
        refine (byte_one g off x w hx h0).mono ?_
        rintro e w' ⟨rfl, hb⟩
        exact ⟨_, _, rfl, ⟨[], ⟨_, _, rfl, Nat.le_refl _, .inl rfl⟩, ⟨(fun y hy => by cases hy), .inl rfl⟩, Nat.zero_le _, .inl ⟨rfl, rfl⟩⟩, hb⟩
      · refine (byte_two g off l.length c x w hx h0 hcap hlen hc1).mono ?_
        rintro e w' ⟨rfl, hb⟩
        exact ⟨_, _, rfl, ⟨l, ⟨_, _, rfl, by omega, .inr ⟨g, off + 1, rfl, Nat.lt_of_lt_of_le hg hb.size, htl w' hb⟩⟩, ⟨fun y hy => hby.1 y (List.mem_cons_of_mem _ hy), .inr ⟨g, off + 1, _, _, rfl, hlow⟩⟩, by omega, .inl ⟨rfl, rfl⟩⟩, hb⟩
  · exact byte_no a l.length c w

/-- the groups that are left, the unit they count, what has been read: as the chapter's own reading does it -/
def numF : Nat → Int → Int → St → Int × St
  | 0, _, _, _ => (0, none)
  | k + 1, u, v, s => match octP s with
    | (_, none) => (0, none)
    | (x, some l) => if x < 128 then (v + x % 128 * u, some l) else numF k (u * 128) (v + x % 128 * u) (some l)
theorem numF_back : ∀ (k : Nat) (u v : Int) (n : Nat) (r : List Int), n < 128 ^ (k + 1) → numF (k + 1) u v (some (numB n ++ r)) = (v + n * u, some r)
  | 0, u, v, n, r, h => by
    have hn : n < 128 := by simpa using h
    rw [numB_lt hn]
    unfold numF octP
    simp only [List.cons_append, List.nil_append]
    rw [if_pos (by omega), Int.emod_eq_of_lt (by omega) (by omega)]
  | k + 1, u, v, n, r, h => by
    by_cases hn : n < 128
    · rw [numB_lt hn]
      unfold numF octP
      simp only [List.cons_append, List.nil_append]
      rw [if_pos (by omega), Int.emod_eq_of_lt (by omega) (by omega)]
    · rw [numB_ge hn]
      unfold numF octP
      simp only [List.cons_append]
      rw [if_neg (by omega), numF_back k (u * 128) _ (n / 128) r (by rw [Nat.div_lt_iff_lt_mul (by decide)]; rw [Nat.pow_succ] at h; exact h)]
      have e1 : (((n % 128 + 128 : Nat) : Int)) % 128 = ((n % 128 : Nat) : Int) := by omega
      have e2 : (n : Int) = 128 * ((n / 128 : Nat) : Int) + ((n % 128 : Nat) : Int) := by omega
      rw [e1]
      refine Prod.ext ?_ rfl
      show v + ((n % 128 : Nat) : Int) * u + ((n / 128 : Nat) : Int) * (u * 128) = v + (n : Int) * u
      rw [e2, Int.add_mul, Int.mul_comm u 128, ← Int.mul_assoc, Int.mul_comm ((n / 128 : Nat) : Int) 128]
      omega
end
end Go.Proofs.Ytekonakanieeaaa
