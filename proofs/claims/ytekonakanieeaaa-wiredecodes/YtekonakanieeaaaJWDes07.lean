/- The document's own reading of bytes (vistaref06): what is left of bytes; one byte. -/
import Derived.Test.YtekonakanieeaaaJWDes06
import Derived.Laws.ResultCell
namespace Go.Proofs.Ytekonakanieeaaa
section
open Go.RowKit Go.Lib
variable {Bq : Nat}

/-- what is left, in memory -/
def BytL (Bq : Nat) (b : Value) (l : List Int) : Prop := Byt l ∧ (l = [] ∨ ∃ g off n c, b = .slice (some ⟨g, off, none⟩) n c ∧ g < Bq)
def RI (Bq : Nat) (w : World) (b : Value) (ok : Bool) (s : St) : Prop := ∃ l, RC w b l ∧ BytL Bq b l ∧ l.length ≤ 140737488351232 ∧ ((ok = true ∧ s = some l) ∨ (ok = false ∧ s = none))
theorem RI.below {w w' : World} {b : Value} {ok : Bool} {s : St} (h : RI Bq w b ok s) (hb : Below w.heap.size w w') : RI Bq w' b ok s := by
  obtain ⟨l, h1, h2⟩ := h
  exact ⟨l, h1.below hb, h2⟩
theorem RC.nil (w : World) : RC w (.slice none 0 0) [] := ⟨_, _, rfl, Nat.le_refl _, .inl rfl⟩
theorem RI.no (w : World) : RI Bq w (.slice none 0 0) false none := ⟨[], RC.nil w, ⟨(fun x hx => by cases hx), .inl rfl⟩, Nat.zero_le _, .inr ⟨rfl, rfl⟩⟩
theorem results_tmp_cell {fn : Func} {p u : Tmp} {ty : TypeId} (h : fn.results = #[.tmp u, .cell p ty]) (tmps : Array Value) (P : Program) (w : World) :
    (results fn tmps).run P w =
      ((asAddr (tmps.getD p undef)).run P w).andThen fun a w₁ => ((loadVar ty a).run P w₁).andThen fun v w₂ => .ok (.tuple #[tmps.getD u undef, v]) w₂ := by
  simp only [results, h]
  simp [Sem.run_bind, Result.andThen]
theorem Try.sizeIn : (Try.prog.info? 68).map (·.size) = some 2 := by kernel_rfl
theorem ret_in {fn : Func} {p u : Tmp} (h : fn.results = #[.tmp u, .cell p 68]) (tmps : Array Value) (w : World) (g : Nat) {t : TypeId} {cs : Array Value} {fr : Nat × Nat} (hp : tmps.getD p undef = .pointer (some ⟨g, 0, none⟩)) (hg : w.heap[g]? = some (.cells cs t fr)) (hs : cs.size = 2) :
    (results fn tmps).run Try.prog w = .ok (.tuple #[tmps.getD u undef, .agg cs]) w := by
  rw [results_tmp_cell h, hp]
  simp [asAddr, run_loadVar_row w g t 68 cs fr _ hg Try.underlying68 rfl (by rw [hs]; exact Try.sizeIn), Result.andThen]

theorem set2 {w : World} {g : Nat} {y0 y1 x0 x1 : Value} {t : TypeId} {f : Nat × Nat} (h : w.heap[g]? = some (.cells #[y0, y1] t f)) : ((w.setCell ⟨g, 0, none⟩ x0).setCell ⟨g, 1, none⟩ x1).heap[g]? = some (.cells #[x0, x1] t f) := (heap_set (heap_set h 0 x0) 1 x1).trans rfl
theorem below2 {w w2 : World} {g : Nat} (x0 x1 : Value) (h : Below w.heap.size w w2) (hg : w.heap.size ≤ g) : Below w.heap.size w ((w2.setCell ⟨g, 0, none⟩ x0).setCell ⟨g, 1, none⟩ x1) :=
  Only.below h ((only1 w2 g 0 x0).trans (only1 _ g 1 x1)) h.size (fun k hk => by rw [hk]; exact hg)
/-- what a call that reads leaves -/
def RdI (Bq : Nat) (x : Value) (s' : St) (w w' : World) (e : Ending) : Prop := ∃ b ok, e = .returned (.tuple #[x, .agg #[b, .bool ok]]) ∧ Hid (RI Bq w' b ok s') ∧ Below w.heap.size w w'
theorem boxesI {w W W2 : World} {x0 x1 : Value} (hW : w.alloc (.cells #[x0, x1] 68) = W) (hW2 : W.alloc (.cells #[.slice none 0 0, .bool false] 68) = W2) : W2.heap[w.heap.size]? = some (.cells #[x0, x1] 68 (0, 0)) ∧ W2.heap[W.heap.size]? = some (.cells #[.slice none 0 0, .bool false] 68 (0, 0)) ∧ Below w.heap.size w W2 ∧ w.heap.size ≤ W.heap.size := by
  have hb := boxB hW
  have hb2 := boxB hW2
  exact ⟨hkeep hb.1 hb2.2, hb2.1, chainB hb.2 hb2.2, hb.2.size⟩
set_option maxRecDepth 20000 in
set_option maxHeartbeats 2000000 in
theorem byte_no (a : Option Addr) (n c : Nat) (w : World) : Calls Try.prog 28 #[.agg #[.slice a n c, .bool false]] w fun e w' => RdI Bq (.int .i64 0) none w w' e := by
  obtain ⟨W, hW⟩ : ∃ W, w.alloc (.cells #[.slice a n c, .bool false] 68) = W := ⟨_, rfl⟩
  obtain ⟨W2, hW2⟩ : ∃ W2, W.alloc (.cells #[.slice none 0 0, .bool false] 68) = W2 := ⟨_, rfl⟩
  obtain ⟨n1, n2, hbl, hle⟩ := boxesI hW hW2
  have x0 := cell_of n1 0
  have x1 := cell_of n1 1
  have y0 := cell_of n2 0
  have y1 := cell_of n2 1
  have yf := free_of n2
  simp at x0 x1 y0 y1
  have HB : Hid (W2.heap[W.heap.size]? = some (.cells #[.slice none 0 0, .bool false] 68 (0, 0)) ∧ Below w.heap.size w W2 ∧ w.heap.size ≤ W.heap.size) := ⟨n2, hbl, hle⟩
  clear n1 n2 hbl hle
  go_enter Try.func28, Try.ntmps28
  go_upto_region 1 with fail
  clear hW hW2
  go_wp2
  refine bodyPost_ret (ret_in rfl _ _ W.heap.size rfl (set2 HB.out.1) rfl) rfl ?_
  exact ⟨_, _, rfl, RI.no _, below2 _ _ HB.out.2.1 HB.out.2.2⟩
set_option maxRecDepth 20000 in
set_option maxHeartbeats 2000000 in
theorem byte_nil (a : Option Addr) (c : Nat) (w : World) : Calls Try.prog 28 #[.agg #[.slice a 0 c, .bool true]] w fun e w' => RdI Bq (.int .i64 0) none w w' e := by
  obtain ⟨W, hW⟩ : ∃ W, w.alloc (.cells #[.slice a 0 c, .bool true] 68) = W := ⟨_, rfl⟩
  obtain ⟨W2, hW2⟩ : ∃ W2, W.alloc (.cells #[.slice none 0 0, .bool false] 68) = W2 := ⟨_, rfl⟩
  obtain ⟨n1, n2, hbl, hle⟩ := boxesI hW hW2
  have x0 := cell_of n1 0
  have x1 := cell_of n1 1
  have y0 := cell_of n2 0
  have y1 := cell_of n2 1
  have yf := free_of n2
  simp at x0 x1 y0 y1
  have HB : Hid (W2.heap[W.heap.size]? = some (.cells #[.slice none 0 0, .bool false] 68 (0, 0)) ∧ Below w.heap.size w W2 ∧ w.heap.size ≤ W.heap.size) := ⟨n2, hbl, hle⟩
  clear n1 n2 hbl hle
  go_enter Try.func28, Try.ntmps28
  go_upto_region 1 with fail
  clear hW hW2
  go_wp2
  refine bodyPost_ret (ret_in rfl _ _ W.heap.size rfl (set2 HB.out.1) rfl) rfl ?_
  exact ⟨_, _, rfl, RI.no _, below2 _ _ HB.out.2.1 HB.out.2.2⟩
set_option maxRecDepth 20000 in
set_option maxHeartbeats 2000000 in
theorem byte_one (g off : Nat) (x : Int) (w : World) (hx : 0 ≤ x ∧ x < 256) (hc0 : w.cell? ⟨g, off, none⟩ = some (.int .u8 x)) : Calls Try.prog 28 #[.agg #[.slice (some ⟨g, off, none⟩) 1 1, .bool true]] w fun e w' => e = .returned (.tuple #[.int .i64 x, .agg #[.slice (some ⟨g, off, none⟩) 0 0, .bool true]]) ∧ Below w.heap.size w w' := by
  obtain ⟨W, hW⟩ : ∃ W, w.alloc (.cells #[.slice (some ⟨g, off, none⟩) 1 1, .bool true] 68) = W := ⟨_, rfl⟩
  obtain ⟨W2, hW2⟩ : ∃ W2, W.alloc (.cells #[.slice none 0 0, .bool false] 68) = W2 := ⟨_, rfl⟩
  obtain ⟨n1, n2, hbl, hle⟩ := boxesI hW hW2
  have hlW : w.heap.size < W.heap.size := by rw [← hW]; simp
  have x0 := cell_of n1 0
  have x1 := cell_of n1 1
  have y0 := cell_of n2 0
  have y1 := cell_of n2 1
  have yf := free_of n2
  simp at x0 x1 y0 y1
  have HB : Hid (W2.heap[W.heap.size]? = some (.cells #[.slice none 0 0, .bool false] 68 (0, 0)) ∧ Below w.heap.size w W2 ∧ w.heap.size ≤ W.heap.size ∧ w.heap.size < W.heap.size) := ⟨n2, hbl, hle, hlW⟩
  clear n1 n2 hbl hle hlW
  have k0 : W2.cell? ⟨g, off, none⟩ = some (.int .u8 x) := (HB.out.2.1.cell (p := ⟨g, off, none⟩) (cellLt hc0)).trans hc0
  have hgl : g < w.heap.size := cellLt hc0
  have s0 : W2.drew.cell? ⟨w.heap.size, 0, none⟩ = some (.slice (some ⟨g, off, none⟩) 1 1) ∧ W2.drew.cell? ⟨g, off, none⟩ = some (.int .u8 x) := ⟨x0, k0⟩
  have s1 : ∀ a b, ((W2.drew.setCell ⟨W.heap.size, 0, none⟩ a).setCell ⟨W.heap.size, 1, none⟩ b).cell? ⟨w.heap.size, 0, none⟩ = some (.slice (some ⟨g, off, none⟩) 1 1) ∧ ((W2.drew.setCell ⟨W.heap.size, 0, none⟩ a).setCell ⟨W.heap.size, 1, none⟩ b).cell? ⟨g, off, none⟩ = some (.int .u8 x) := fun a b => by
    have ho : Only (· = W.heap.size) W2.drew ((W2.drew.setCell ⟨W.heap.size, 0, none⟩ a).setCell ⟨W.heap.size, 1, none⟩ b) := (only1 _ _ 0 a).trans (only1 _ _ 1 b)
    have hw2 : W.heap.size ≤ W2.drew.heap.size := Nat.le_of_lt (Array.getElem?_eq_some_iff.1 HB.out.1).1
    exact ⟨(World.cell?_of_block (ho.block w.heap.size (Nat.lt_of_lt_of_le HB.out.2.2.2 hw2) (Nat.ne_of_lt HB.out.2.2.2))).trans x0, (World.cell?_of_block (ho.block g (Nat.lt_of_lt_of_le (Nat.lt_trans hgl HB.out.2.2.2) hw2) (Nat.ne_of_lt (Nat.lt_trans hgl HB.out.2.2.2)))).trans k0⟩
  have hwx : IntKind.i64.wrap x = x := by rw [IntKind.wrap_i64]; omega
  have hwy : wrap64 x = x := by have := hwx; rw [IntKind.wrap_i64] at this; unfold wrap64; omega
  have yg0 := yf 0
  have yg1 := yf 1
  clear hc0
  go_enter Try.func28, Try.ntmps28
  go_upto_region 1 with fail
  clear hW hW2
  go_upto_region 3 with fail
  go_region_held3 (fun w' => w'.cell? ⟨w.heap.size, 0, none⟩ = some (.slice (some ⟨g, off, none⟩) 1 1) ∧ w'.cell? ⟨g, off, none⟩ = some (.int .u8 x)) (first | exact s0 | exact s1 _ _) (fail)
  go_wp2
  refine bodyPost_ret (ret_in rfl _ _ W.heap.size rfl (by exact set2 HB.out.1) rfl) rfl ?_
  exact ⟨rfl, (below2 _ _ HB.out.2.1 HB.out.2.2.1).drew⟩
set_option maxRecDepth 20000 in
set_option maxHeartbeats 2000000 in
theorem byte_two (g off n c : Nat) (x : Int) (w : World) (hx : 0 ≤ x ∧ x < 256) (hc0 : w.cell? ⟨g, off, none⟩ = some (.int .u8 x)) (hcap : n + 1 ≤ c) (hn : n + 1 ≤ 140737488351232) (h1 : ¬ c = 1) : Calls Try.prog 28 #[.agg #[.slice (some ⟨g, off, none⟩) (n + 1) c, .bool true]] w fun e w' => e = .returned (.tuple #[.int .i64 x, .agg #[.slice (some ⟨g, off + 1, none⟩) n (c - 1), .bool true]]) ∧ Below w.heap.size w w' := by
  obtain ⟨W, hW⟩ : ∃ W, w.alloc (.cells #[.slice (some ⟨g, off, none⟩) (n + 1) c, .bool true] 68) = W := ⟨_, rfl⟩
  obtain ⟨W2, hW2⟩ : ∃ W2, W.alloc (.cells #[.slice none 0 0, .bool false] 68) = W2 := ⟨_, rfl⟩
  obtain ⟨n1, n2, hbl, hle⟩ := boxesI hW hW2
  have hlW : w.heap.size < W.heap.size := by rw [← hW]; simp
  have x0 := cell_of n1 0
  have x1 := cell_of n1 1
  have y0 := cell_of n2 0
  have y1 := cell_of n2 1
  have yf := free_of n2
  simp at x0 x1 y0 y1
  have HB : Hid (W2.heap[W.heap.size]? = some (.cells #[.slice none 0 0, .bool false] 68 (0, 0)) ∧ Below w.heap.size w W2 ∧ w.heap.size ≤ W.heap.size ∧ w.heap.size < W.heap.size) := ⟨n2, hbl, hle, hlW⟩
  clear n1 n2 hbl hle hlW
  have k0 : W2.cell? ⟨g, off, none⟩ = some (.int .u8 x) := (HB.out.2.1.cell (p := ⟨g, off, none⟩) (cellLt hc0)).trans hc0
  have hgl : g < w.heap.size := cellLt hc0
  have hcI : (n : Int) + 1 ≤ (c : Int) := by omega
  have hcN : ((n + 1 : Nat) : Int) ≤ (c : Int) := by omega
  have h1n : (1 : Int) ≤ (n : Int) + 1 := by omega
  have h0n : (0 : Int) ≤ (n : Int) + 1 := by omega
  have h1c : (1 : Int) ≤ (c : Int) := by omega
  have htn : ((n : Int) + 1).toNat = n + 1 := by omega
  have hgt : (((n : Int) + 1) == 0) = false := by rw [beq_eq_false_iff_ne]; omega
  have hgt2 : ¬ ((n : Int) + 1 = 0) := by omega
  have s0 : W2.drew.cell? ⟨w.heap.size, 0, none⟩ = some (.slice (some ⟨g, off, none⟩) (n + 1) c) ∧ W2.drew.cell? ⟨g, off, none⟩ = some (.int .u8 x) := ⟨x0, k0⟩
  have s1 : ∀ a b, ((W2.drew.setCell ⟨W.heap.size, 0, none⟩ a).setCell ⟨W.heap.size, 1, none⟩ b).cell? ⟨w.heap.size, 0, none⟩ = some (.slice (some ⟨g, off, none⟩) (n + 1) c) ∧ ((W2.drew.setCell ⟨W.heap.size, 0, none⟩ a).setCell ⟨W.heap.size, 1, none⟩ b).cell? ⟨g, off, none⟩ = some (.int .u8 x) := fun a b => by
    have ho : Only (· = W.heap.size) W2.drew ((W2.drew.setCell ⟨W.heap.size, 0, none⟩ a).setCell ⟨W.heap.size, 1, none⟩ b) := (only1 _ _ 0 a).trans (only1 _ _ 1 b)
    have hw2 : W.heap.size ≤ W2.drew.heap.size := Nat.le_of_lt (Array.getElem?_eq_some_iff.1 HB.out.1).1
    exact ⟨(World.cell?_of_block (ho.block w.heap.size (Nat.lt_of_lt_of_le HB.out.2.2.2 hw2) (Nat.ne_of_lt HB.out.2.2.2))).trans x0, (World.cell?_of_block (ho.block g (Nat.lt_of_lt_of_le (Nat.lt_trans hgl HB.out.2.2.2) hw2) (Nat.ne_of_lt (Nat.lt_trans hgl HB.out.2.2.2)))).trans k0⟩
  have hwx : IntKind.i64.wrap x = x := by rw [IntKind.wrap_i64]; omega
  have hwy : wrap64 x = x := by have := hwx; rw [IntKind.wrap_i64] at this; unfold wrap64; omega
  have yg0 := yf 0
  have yg1 := yf 1
  clear hc0
  go_enter Try.func28, Try.ntmps28
  go_upto_region 1 with fail
  clear hW hW2
  go_upto_region 3 with fail
  go_region_held3 (fun w' => w'.cell? ⟨w.heap.size, 0, none⟩ = some (.slice (some ⟨g, off, none⟩) (n + 1) c) ∧ w'.cell? ⟨g, off, none⟩ = some (.int .u8 x)) (first | exact s0 | exact s1 _ _) (fail)
  go_wp2
  refine bodyPost_ret (ret_in rfl _ _ W.heap.size rfl (by exact set2 HB.out.1) rfl) rfl ?_
  exact ⟨rfl, (below2 _ _ HB.out.2.1 HB.out.2.2.1).drew⟩
end
section
open Go.RowKit Go.Lib
variable {Bq : Nat}

theorem byte_d {w : World} {b : Value} {ok : Bool} {s : St} (h : RI Bq w b ok s) : Calls Try.prog 28 #[.agg #[b, .bool ok]] w fun e w' => RdI Bq (.int .i64 (octP s).1) (octP s).2 w w' e := by
  obtain ⟨l, hr, hby, hlen, ho⟩ := h
  obtain ⟨a, c, rfl, hcap, hc⟩ := hr
  rcases ho with ⟨rfl, rfl⟩ | ⟨rfl, rfl⟩
  · cases l with
    | nil => exact byte_nil a c w
    | cons x l =>
      rcases hc with hc | ⟨g, off, rfl, hg, hc⟩
      · cases hc
      have hx := hby.1 x (by simp)
      have hlow : g < Bq := by
        rcases hby.2 with h | ⟨g', off', n', c', e', hg'⟩
        · cases h
        · cases e'; exact hg'
      have h0 : w.cell? ⟨g, off, none⟩ = some (.int .u8 x) := hc 0 x rfl
      simp only [List.length_cons] at hcap hlen ⊢
      have htl : ∀ w', Below w.heap.size w w' → ∀ i y, l[i]? = some y → w'.cell? ⟨g, off + 1 + i, none⟩ = some (.int .u8 y) := fun w' h' i y hy => by
        have := hc (i + 1) y (by simpa using hy)
        rw [show off + 1 + i = off + (i + 1) by omega]
        exact (h'.cell (p := ⟨g, off + (i + 1), none⟩) hg).trans this
      by_cases hc1 : c = 1
      · subst hc1
        have hl0 : l = [] := List.length_eq_zero_iff.1 (by omega)
        subst hl0
        refine (byte_one g off x w hx h0).mono ?_
        rintro e w' ⟨rfl, hb⟩
        exact ⟨_, _, rfl, ⟨[], ⟨_, _, rfl, Nat.le_refl _, .inl rfl⟩, ⟨(fun y hy => by cases hy), .inl rfl⟩, Nat.zero_le _, .inl ⟨rfl, rfl⟩⟩, hb⟩
      · refine (byte_two g off l.length c x w hx h0 hcap hlen hc1).mono ?_
        rintro e w' ⟨rfl, hb⟩
        exact ⟨_, _, rfl, ⟨l, ⟨_, _, rfl, by omega, .inr ⟨g, off + 1, rfl, Nat.lt_of_lt_of_le hg hb.size, htl w' hb⟩⟩, ⟨fun y hy => hby.1 y (List.mem_cons_of_mem _ hy), .inr ⟨g, off + 1, _, _, rfl, hlow⟩⟩, by omega, .inl ⟨rfl, rfl⟩⟩, hb⟩
  · exact byte_no a l.length c w

/-- the groups that are left, the unit they count, what has been read: as the chapter's own reading does it -/
def numF : Nat → Int → Int → St → Int × St
  | 0, _, _, _ => (0, none)
  | k + 1, u, v, s => match octP s with
    | (_, none) => (0, none)
    | (x, some l) => if x < 128 then (v + x % 128 * u, some l) else numF k (u * 128) (v + x % 128 * u) (some l)
theorem numF_back : ∀ (k : Nat) (u v : Int) (n : Nat) (r : List Int), n < 128 ^ (k + 1) → numF (k + 1) u v (some (numB n ++ r)) = (v + n * u, some r)
  | 0, u, v, n, r, h => by
    have hn : n < 128 := by simpa using h
    rw [numB_lt hn]
    unfold numF octP
    simp only [List.cons_append, List.nil_append]
    rw [if_pos (by omega), Int.emod_eq_of_lt (by omega) (by omega)]
  | k + 1, u, v, n, r, h => by
    by_cases hn : n < 128
    · rw [numB_lt hn]
      unfold numF octP
      simp only [List.cons_append, List.nil_append]
      rw [if_pos (by omega), Int.emod_eq_of_lt (by omega) (by omega)]
    · rw [numB_ge hn]
      unfold numF octP
      simp only [List.cons_append]
      rw [if_neg (by omega), numF_back k (u * 128) _ (n / 128) r (by rw [Nat.div_lt_iff_lt_mul (by decide)]; rw [Nat.pow_succ] at h; exact h)]
      have e1 : (((n % 128 + 128 : Nat) : Int)) % 128 = ((n % 128 : Nat) : Int) := by omega
      have e2 : (n : Int) = 128 * ((n / 128 : Nat) : Int) + ((n % 128 : Nat) : Int) := by omega
      rw [e1]
      refine Prod.ext ?_ rfl
      show v + ((n % 128 : Nat) : Int) * u + ((n / 128 : Nat) : Int) * (u * 128) = v + (n : Int) * u
      rw [e2, Int.add_mul, Int.mul_comm u 128, ← Int.mul_assoc, Int.mul_comm ((n / 128 : Nat) : Int) 128]
      omega
end
section
open Go.RowKit Go.Lib
variable {Bq : Nat}

/-- what a number's reading has, round by round -/
structure Nm (Bq : Nat) (w wr : World) (i r : Nat) (b : Value) (ok : Bool) (s0 s : St) (q : Nat) (U V : Int) : Prop where
  eq : numF 6 1 0 s0 = numF (6 - q) U V s
  ri : RI Bq wr b ok s
  box : wr.heap[i]? = some (.cells #[b, .bool ok] 68 (0, 0))
  res : wr.heap[r]? = some (.cells #[.slice none 0 0, .bool false] 68 (0, 0))
  bel : Below w.heap.size w wr
  hU : 1 ≤ U ∧ U ≤ 34359738368 ∨ q = 6
  hV : 0 ≤ V ∧ V ≤ 4398046511103
  hs : U = 128 ^ q
  hv : V < 128 ^ q
theorem two_ne {w : World} {g k : Nat} {x0 x1 : Value} (h : k ≠ g) : ((w.setCell ⟨g, 0, none⟩ x0).setCell ⟨g, 1, none⟩ x1).heap[k]? = w.heap[k]? := (heap_set_ne h).trans (heap_set_ne h)
/-- a box of another make written over -/
theorem RI.far2 {w : World} {b : Value} {ok : Bool} {s : St} {g : Nat} {a : Option Addr} {n c : Nat} {k : Bool} {t : TypeId} (h : RI Bq w b ok s) (hb : w.heap[g]? = some (.cells #[.slice a n c, .bool k] t (0, 0))) (x0 x1 : Value) : RI Bq ((w.setCell ⟨g, 0, none⟩ x0).setCell ⟨g, 1, none⟩ x1) b ok s := by
  obtain ⟨l, ⟨a', c', e, hcap, hc⟩, h2⟩ := h
  refine ⟨l, ⟨a', c', e, hcap, ?_⟩, h2⟩
  rcases hc with hc | ⟨g', off, e', hg, hc⟩
  · exact .inl hc
  · cases l with
    | nil => exact .inl rfl
    | cons x l =>
      have hne : g' ≠ g := by
        rintro rfl
        have h0 := hc 0 x rfl
        rw [cell_of hb] at h0
        match off, h0 with
        | 0, h0 => simp at h0
        | 1, h0 => simp at h0
        | k + 2, h0 => simp at h0
      refine .inr ⟨g', off, e', by simp [World.setCell]; exact hg, fun i y hy => ?_⟩
      rw [World.cell?_of_block (two_ne hne)]
      exact hc i y hy
theorem cell2_ne {w : World} {g k i : Nat} {x0 x1 : Value} (h : k ≠ g) : ((w.setCell ⟨g, 0, none⟩ x0).setCell ⟨g, 1, none⟩ x1).cell? ⟨k, i, none⟩ = w.cell? ⟨k, i, none⟩ := World.cell?_of_block (two_ne h)
theorem RI.ok_some {w : World} {b : Value} {ok : Bool} {l : List Int} (h : RI Bq w b ok (some l)) : ok = true := by
  obtain ⟨_, _, _, _, ho⟩ := h
  rcases ho with ⟨e, _⟩ | ⟨_, e⟩
  · exact e
  · cases e
theorem RI.ok_none {w : World} {b : Value} {ok : Bool} (h : RI Bq w b ok none) : ok = false := by
  obtain ⟨_, _, _, _, ho⟩ := h
  rcases ho with ⟨_, e⟩ | ⟨e, _⟩
  · cases e
  · exact e
theorem RI.form {w : World} {b : Value} {ok : Bool} {s : St} (h : RI Bq w b ok s) : ∃ a n c, b = .slice a n c := by
  obtain ⟨l, ⟨a, c, h, _⟩, _⟩ := h
  exact ⟨_, _, _, h⟩

set_option maxRecDepth 20000 in
set_option maxHeartbeats 4000000 in
theorem num_d {w : World} {b0 : Value} {ok0 : Bool} {s0 : St} (h : RI Bq w b0 ok0 s0) : Calls Try.prog 29 #[.agg #[b0, .bool ok0]] w fun e w' => RdI Bq (.int .i64 (numF 6 1 0 s0).1) (numF 6 1 0 s0).2 w w' e := by
  obtain ⟨a0, n0, c0, rfl⟩ := h.form
  obtain ⟨F, hF⟩ : ∃ F, numF 6 1 0 s0 = F := ⟨_, rfl⟩
  rw [hF]
  obtain ⟨W, hW⟩ : ∃ W, w.alloc (.cells #[.slice a0 n0 c0, .bool ok0] 68) = W := ⟨_, rfl⟩
  obtain ⟨W2, hW2⟩ : ∃ W2, W.alloc (.cells #[.slice none 0 0, .bool false] 68) = W2 := ⟨_, rfl⟩
  obtain ⟨n1, n2, hbl, hle⟩ := boxesI hW hW2
  have hlW : w.heap.size < W.heap.size := by rw [← hW]; simp
  have HN : Hid (Nm Bq w W2 w.heap.size W.heap.size (.slice a0 n0 c0) ok0 s0 s0 0 1 0 ∧ numF 6 1 0 s0 = F ∧ w.heap.size < W.heap.size) := ⟨⟨rfl, h.below hbl, n1, n2, hbl, .inl (by omega), by omega, rfl, by decide⟩, hF, hlW⟩
  clear n1 n2 hbl hle hlW h hF
  go_enter Try.func29, Try.ntmps29
  go_upto_region 1 with fail
  clear hW hW2
  go_wp2
  go_loopw [4, 5, 6] (fun v u k wr => ∃ (q : Nat) (V U : Int) (b : Value) (ok : Bool) (s : St), q ≤ 6 ∧ v = .int .i64 V ∧ u = .int .i64 U ∧ k = .int .i64 q ∧ Hid (Nm Bq w wr w.heap.size W.heap.size b ok s0 s q U V)) (fun _ _ k _ => 6 - (intOf k).toNat)
  case atStart => exact ⟨0, 0, 1, _, _, _, by omega, rfl, rfl, rfl, HN.out.1⟩
  case round =>
    obtain ⟨q, V, U, b, ok, s, hq, rfl, rfl, rfl, hI⟩ := hrel
    obtain ⟨a, n, c, rfl⟩ := hI.out.ri.form
    have x0 : wr.cell? ⟨w.heap.size, 0, none⟩ = some (.slice a n c) := by rw [cell_of hI.out.box]; rfl
    have x1 : wr.cell? ⟨w.heap.size, 1, none⟩ = some (.bool ok) := by rw [cell_of hI.out.box]; rfl
    have r0 : wr.cell? ⟨W.heap.size, 0, none⟩ = some (.slice none 0 0) := by rw [cell_of hI.out.res]; rfl
    have r1 : wr.cell? ⟨W.heap.size, 1, none⟩ = some (.bool false) := by rw [cell_of hI.out.res]; rfl
    have rf := free_of hI.out.res
    by_cases hlt : q < 6
    · have hki : (q : Int) < 6 := by omega
      have hwl : w.heap.size < W.heap.size := HN.out.2.2
      rcases hs : s with _ | l
      · subst hs
        have HBy : Hid (Calls Try.prog 28 #[.agg #[.slice a n c, .bool ok]] wr fun e w' => ∃ a1 m1 c1, e = .returned (.tuple #[.int .i64 0, .agg #[.slice a1 m1 c1, .bool false]]) ∧ Hid (RI Bq w' (.slice a1 m1 c1) false none) ∧ Below wr.heap.size wr w') := (byte_d hI.out.ri).mono fun e w' ⟨b1, ok1, he, hr, hb⟩ => by
          obtain ⟨a1, m1, c1, rfl⟩ := hr.out.form
          obtain rfl := hr.out.ok_none
          exact ⟨a1, m1, c1, he, hr, hb⟩
        go_wp2_with (go_at_call 28; refine HBy.out.mono ?_; rintro e w1 ⟨a1, m1, c1, rfl, hr1, hb1⟩; obtain ⟨X, hX⟩ : ∃ X, w1.alloc (.cells #[.slice none 0 0, .bool false] 68) = X := ⟨_, rfl⟩; obtain ⟨Y, hY⟩ : ∃ Y, (X.setCell ⟨w1.heap.size, 0, none⟩ (.slice a1 m1 c1)).setCell ⟨w1.heap.size, 1, none⟩ (.bool false) = Y := ⟨_, rfl⟩; have XB := boxB hX; have xc0 : X.cell? ⟨w1.heap.size, 0, none⟩ = some (.slice none 0 0) := (by rw [cell_of XB.1]; rfl); have xc1 : X.cell? ⟨w1.heap.size, 1, none⟩ = some (.bool false) := (by rw [cell_of XB.1]; rfl); have xcf := free_of XB.1; have hYB : Y.heap[w1.heap.size]? = some (.cells #[.slice a1 m1 c1, .bool false] 68 (0, 0)) ∧ Below w1.heap.size w1 Y := (by rw [← hY]; exact ⟨set2 XB.1, below2 _ _ XB.2 (Nat.le_refl _)⟩); have YB : Hid (Y.heap[w1.heap.size]? = some (.cells #[.slice a1 m1 c1, .bool false] 68 (0, 0)) ∧ Y.heap[w.heap.size]? = some (.cells #[.slice a n c, .bool ok] 68 (0, 0)) ∧ Y.heap[W.heap.size]? = some (.cells #[.slice none 0 0, .bool false] 68 (0, 0)) ∧ Below wr.heap.size wr Y ∧ W.heap.size < w1.heap.size ∧ RI Bq Y (.slice a1 m1 c1) false none) := ⟨hYB.1, hkeep hI.out.box (chainB hb1 hYB.2), hkeep hI.out.res (chainB hb1 hYB.2), chainB hb1 hYB.2, Nat.lt_of_lt_of_le (Array.getElem?_eq_some_iff.1 hI.out.res).1 hb1.size, hr1.out.below hYB.2⟩; have y0 : Y.cell? ⟨w1.heap.size, 0, none⟩ = some (.slice a1 m1 c1) := (by rw [cell_of YB.out.1]; rfl); have y1 : Y.cell? ⟨w1.heap.size, 1, none⟩ = some (.bool false) := (by rw [cell_of YB.out.1]; rfl); have t0 : Y.cell? ⟨w.heap.size, 0, none⟩ = some (.slice a n c) := (by rw [cell_of YB.out.2.1]; rfl); have t1 : Y.cell? ⟨w.heap.size, 1, none⟩ = some (.bool ok) := (by rw [cell_of YB.out.2.1]; rfl); have tf := free_of YB.out.2.1; have v0 : Y.cell? ⟨W.heap.size, 0, none⟩ = some (.slice none 0 0) := (by rw [cell_of YB.out.2.2.1]; rfl); have v1 : Y.cell? ⟨W.heap.size, 1, none⟩ = some (.bool false) := (by rw [cell_of YB.out.2.2.1]; rfl); have vf := free_of YB.out.2.2.1; clear hr1 hb1 x0 x1 r0 r1 rf XB hYB)
        have hF0 : F = (0, none) := by
          rw [← HN.out.2.1, hI.out.eq, show 6 - q = (6 - (q + 1)) + 1 by omega]
          rfl
        have hYne : w1.heap.size ≠ W.heap.size := Nat.ne_of_gt YB.out.2.2.2.2.1
        have s0 : Y.drew.cell? ⟨w1.heap.size, 0, none⟩ = some (.slice a1 m1 c1) ∧ Y.drew.cell? ⟨w1.heap.size, 1, none⟩ = some (.bool false) := ⟨y0, y1⟩
        have s1 : ∀ p p', ((Y.drew.setCell ⟨W.heap.size, 0, none⟩ p).setCell ⟨W.heap.size, 1, none⟩ p').cell? ⟨w1.heap.size, 0, none⟩ = some (.slice a1 m1 c1) ∧ ((Y.drew.setCell ⟨W.heap.size, 0, none⟩ p).setCell ⟨W.heap.size, 1, none⟩ p').cell? ⟨w1.heap.size, 1, none⟩ = some (.bool false) := fun p p' => ⟨(cell2_ne hYne).trans y0, (cell2_ne hYne).trans y1⟩
        have vg0 := vf 0
        have vg1 := vf 1
        clear hX hY
        go_region_held3 (fun w' => w'.cell? ⟨w1.heap.size, 0, none⟩ = some (.slice a1 m1 c1) ∧ w'.cell? ⟨w1.heap.size, 1, none⟩ = some (.bool false)) (first | exact s0 | exact s1 _ _) (fail)
        go_wp2
        refine bodyPost_ret (ret_in rfl _ _ W.heap.size rfl (by exact set2 YB.out.2.2.1) rfl) rfl ?_
        rw [hF0]
        exact ⟨_, _, rfl, (YB.out.2.2.2.2.2.far2 YB.out.2.2.1 _ _).below (Below.refl _ _).drew, (below2 _ _ (chainB hI.out.bel YB.out.2.2.2.1) (Nat.le_of_lt HN.out.2.2)).drew⟩
      · cases l with
        | nil =>
          subst hs
          have HBy : Hid (Calls Try.prog 28 #[.agg #[.slice a n c, .bool ok]] wr fun e w' => ∃ a1 m1 c1, e = .returned (.tuple #[.int .i64 0, .agg #[.slice a1 m1 c1, .bool false]]) ∧ Hid (RI Bq w' (.slice a1 m1 c1) false none) ∧ Below wr.heap.size wr w') := (byte_d hI.out.ri).mono fun e w' ⟨b1, ok1, he, hr, hb⟩ => by
            obtain ⟨a1, m1, c1, rfl⟩ := hr.out.form
            obtain rfl := hr.out.ok_none
            exact ⟨a1, m1, c1, he, hr, hb⟩
          go_wp2_with (go_at_call 28; refine HBy.out.mono ?_; rintro e w1 ⟨a1, m1, c1, rfl, hr1, hb1⟩; obtain ⟨X, hX⟩ : ∃ X, w1.alloc (.cells #[.slice none 0 0, .bool false] 68) = X := ⟨_, rfl⟩; obtain ⟨Y, hY⟩ : ∃ Y, (X.setCell ⟨w1.heap.size, 0, none⟩ (.slice a1 m1 c1)).setCell ⟨w1.heap.size, 1, none⟩ (.bool false) = Y := ⟨_, rfl⟩; have XB := boxB hX; have xc0 : X.cell? ⟨w1.heap.size, 0, none⟩ = some (.slice none 0 0) := (by rw [cell_of XB.1]; rfl); have xc1 : X.cell? ⟨w1.heap.size, 1, none⟩ = some (.bool false) := (by rw [cell_of XB.1]; rfl); have xcf := free_of XB.1; have hYB : Y.heap[w1.heap.size]? = some (.cells #[.slice a1 m1 c1, .bool false] 68 (0, 0)) ∧ Below w1.heap.size w1 Y := (by rw [← hY]; exact ⟨set2 XB.1, below2 _ _ XB.2 (Nat.le_refl _)⟩); have YB : Hid (Y.heap[w1.heap.size]? = some (.cells #[.slice a1 m1 c1, .bool false] 68 (0, 0)) ∧ Y.heap[w.heap.size]? = some (.cells #[.slice a n c, .bool ok] 68 (0, 0)) ∧ Y.heap[W.heap.size]? = some (.cells #[.slice none 0 0, .bool false] 68 (0, 0)) ∧ Below wr.heap.size wr Y ∧ W.heap.size < w1.heap.size ∧ RI Bq Y (.slice a1 m1 c1) false none) := ⟨hYB.1, hkeep hI.out.box (chainB hb1 hYB.2), hkeep hI.out.res (chainB hb1 hYB.2), chainB hb1 hYB.2, Nat.lt_of_lt_of_le (Array.getElem?_eq_some_iff.1 hI.out.res).1 hb1.size, hr1.out.below hYB.2⟩; have y0 : Y.cell? ⟨w1.heap.size, 0, none⟩ = some (.slice a1 m1 c1) := (by rw [cell_of YB.out.1]; rfl); have y1 : Y.cell? ⟨w1.heap.size, 1, none⟩ = some (.bool false) := (by rw [cell_of YB.out.1]; rfl); have t0 : Y.cell? ⟨w.heap.size, 0, none⟩ = some (.slice a n c) := (by rw [cell_of YB.out.2.1]; rfl); have t1 : Y.cell? ⟨w.heap.size, 1, none⟩ = some (.bool ok) := (by rw [cell_of YB.out.2.1]; rfl); have tf := free_of YB.out.2.1; have v0 : Y.cell? ⟨W.heap.size, 0, none⟩ = some (.slice none 0 0) := (by rw [cell_of YB.out.2.2.1]; rfl); have v1 : Y.cell? ⟨W.heap.size, 1, none⟩ = some (.bool false) := (by rw [cell_of YB.out.2.2.1]; rfl); have vf := free_of YB.out.2.2.1; clear hr1 hb1 x0 x1 r0 r1 rf XB hYB)
          have hF0 : F = (0, none) := by
            rw [← HN.out.2.1, hI.out.eq, show 6 - q = (6 - (q + 1)) + 1 by omega]
            rfl
          have hYne : w1.heap.size ≠ W.heap.size := Nat.ne_of_gt YB.out.2.2.2.2.1
          have s0 : Y.drew.cell? ⟨w1.heap.size, 0, none⟩ = some (.slice a1 m1 c1) ∧ Y.drew.cell? ⟨w1.heap.size, 1, none⟩ = some (.bool false) := ⟨y0, y1⟩
          have s1 : ∀ p p', ((Y.drew.setCell ⟨W.heap.size, 0, none⟩ p).setCell ⟨W.heap.size, 1, none⟩ p').cell? ⟨w1.heap.size, 0, none⟩ = some (.slice a1 m1 c1) ∧ ((Y.drew.setCell ⟨W.heap.size, 0, none⟩ p).setCell ⟨W.heap.size, 1, none⟩ p').cell? ⟨w1.heap.size, 1, none⟩ = some (.bool false) := fun p p' => ⟨(cell2_ne hYne).trans y0, (cell2_ne hYne).trans y1⟩
          have vg0 := vf 0
          have vg1 := vf 1
          clear hX hY
          go_region_held3 (fun w' => w'.cell? ⟨w1.heap.size, 0, none⟩ = some (.slice a1 m1 c1) ∧ w'.cell? ⟨w1.heap.size, 1, none⟩ = some (.bool false)) (first | exact s0 | exact s1 _ _) (fail)
          go_wp2
          refine bodyPost_ret (ret_in rfl _ _ W.heap.size rfl (by exact set2 YB.out.2.2.1) rfl) rfl ?_
          rw [hF0]
          exact ⟨_, _, rfl, (YB.out.2.2.2.2.2.far2 YB.out.2.2.1 _ _).below (Below.refl _ _).drew, (below2 _ _ (chainB hI.out.bel YB.out.2.2.2.1) (Nat.le_of_lt HN.out.2.2)).drew⟩
        | cons x l =>
          subst hs
          have hxb : 0 ≤ x ∧ x < 256 := by
            obtain ⟨l', _, hby, _, ho⟩ := hI.out.ri
            rcases ho with ⟨_, e⟩ | ⟨_, e⟩
            · cases e; exact hby.1 x (by simp)
            · cases e
          have hUb : 1 ≤ U ∧ U ≤ 34359738368 := by rcases hI.out.hU with h | h; exact h; omega
          have hVb := hI.out.hV
          have hPb : 0 ≤ x % 128 * U ∧ x % 128 * U ≤ 4363686772736 := by
            have h1 : 0 ≤ x % 128 ∧ x % 128 ≤ 127 := by omega
            exact ⟨Int.mul_nonneg h1.1 (by omega), Int.le_trans (Int.mul_le_mul h1.2 hUb.2 (by omega) (by omega)) (by decide)⟩
          have hVs : V ≤ 34359738367 := by
            have := hI.out.hv
            have h5 : (128 : Int) ^ q ≤ 34359738368 := by rw [← hI.out.hs]; exact hUb.2
            omega
          have HBy : Hid (Calls Try.prog 28 #[.agg #[.slice a n c, .bool ok]] wr fun e w' => ∃ a1 m1 c1, e = .returned (.tuple #[.int .i64 x, .agg #[.slice a1 m1 c1, .bool true]]) ∧ Hid (RI Bq w' (.slice a1 m1 c1) true (some l)) ∧ Below wr.heap.size wr w') := (byte_d hI.out.ri).mono fun e w' ⟨b1, ok1, he, hr, hb⟩ => by
            obtain ⟨a1, m1, c1, rfl⟩ := hr.out.form
            obtain rfl := hr.out.ok_some
            exact ⟨a1, m1, c1, he, hr, hb⟩
          by_cases hx : x < 128
          · have hxd : decide (x < 128) = true := decide_eq_true hx
            go_wp2_with (go_at_call 28; refine HBy.out.mono ?_; rintro e w1 ⟨a1, m1, c1, rfl, hr1, hb1⟩; obtain ⟨X, hX⟩ : ∃ X, w1.alloc (.cells #[.slice none 0 0, .bool false] 68) = X := ⟨_, rfl⟩; obtain ⟨Y, hY⟩ : ∃ Y, (X.setCell ⟨w1.heap.size, 0, none⟩ (.slice a1 m1 c1)).setCell ⟨w1.heap.size, 1, none⟩ (.bool true) = Y := ⟨_, rfl⟩; have XB := boxB hX; have xc0 : X.cell? ⟨w1.heap.size, 0, none⟩ = some (.slice none 0 0) := (by rw [cell_of XB.1]; rfl); have xc1 : X.cell? ⟨w1.heap.size, 1, none⟩ = some (.bool false) := (by rw [cell_of XB.1]; rfl); have xcf := free_of XB.1; have hYB : Y.heap[w1.heap.size]? = some (.cells #[.slice a1 m1 c1, .bool true] 68 (0, 0)) ∧ Below w1.heap.size w1 Y := (by rw [← hY]; exact ⟨set2 XB.1, below2 _ _ XB.2 (Nat.le_refl _)⟩); have YB : Hid (Y.heap[w1.heap.size]? = some (.cells #[.slice a1 m1 c1, .bool true] 68 (0, 0)) ∧ Y.heap[w.heap.size]? = some (.cells #[.slice a n c, .bool ok] 68 (0, 0)) ∧ Y.heap[W.heap.size]? = some (.cells #[.slice none 0 0, .bool false] 68 (0, 0)) ∧ Below wr.heap.size wr Y ∧ W.heap.size < w1.heap.size ∧ RI Bq Y (.slice a1 m1 c1) true (some l)) := ⟨hYB.1, hkeep hI.out.box (chainB hb1 hYB.2), hkeep hI.out.res (chainB hb1 hYB.2), chainB hb1 hYB.2, Nat.lt_of_lt_of_le (Array.getElem?_eq_some_iff.1 hI.out.res).1 hb1.size, hr1.out.below hYB.2⟩; have y0 : Y.cell? ⟨w1.heap.size, 0, none⟩ = some (.slice a1 m1 c1) := (by rw [cell_of YB.out.1]; rfl); have y1 : Y.cell? ⟨w1.heap.size, 1, none⟩ = some (.bool true) := (by rw [cell_of YB.out.1]; rfl); have t0 : Y.cell? ⟨w.heap.size, 0, none⟩ = some (.slice a n c) := (by rw [cell_of YB.out.2.1]; rfl); have t1 : Y.cell? ⟨w.heap.size, 1, none⟩ = some (.bool ok) := (by rw [cell_of YB.out.2.1]; rfl); have tf := free_of YB.out.2.1; have v0 : Y.cell? ⟨W.heap.size, 0, none⟩ = some (.slice none 0 0) := (by rw [cell_of YB.out.2.2.1]; rfl); have v1 : Y.cell? ⟨W.heap.size, 1, none⟩ = some (.bool false) := (by rw [cell_of YB.out.2.2.1]; rfl); have vf := free_of YB.out.2.2.1; obtain ⟨Z, hZ⟩ : ∃ Z, (Y.setCell ⟨w.heap.size, 0, none⟩ (.slice a1 m1 c1)).setCell ⟨w.heap.size, 1, none⟩ (.bool true) = Z := ⟨_, rfl⟩; have ZB : Hid (Z.heap[w.heap.size]? = some (.cells #[.slice a1 m1 c1, .bool true] 68 (0, 0)) ∧ Z.heap[W.heap.size]? = some (.cells #[.slice none 0 0, .bool false] 68 (0, 0)) ∧ Below w.heap.size w Z ∧ RI Bq Z (.slice a1 m1 c1) true (some l)) := ⟨(by rw [← hZ]; exact set2 YB.out.2.1), (by rw [← hZ]; exact (two_ne (Nat.ne_of_gt hwl)).trans YB.out.2.2.1), (by rw [← hZ]; exact below2 _ _ (chainB hI.out.bel YB.out.2.2.2.1) (Nat.le_refl _)), (by rw [← hZ]; exact YB.out.2.2.2.2.2.far2 YB.out.2.1 _ _)⟩; have z0 : Z.cell? ⟨w.heap.size, 0, none⟩ = some (.slice a1 m1 c1) := (by rw [cell_of ZB.out.1]; rfl); have z1 : Z.cell? ⟨w.heap.size, 1, none⟩ = some (.bool true) := (by rw [cell_of ZB.out.1]; rfl); have zv0 : Z.cell? ⟨W.heap.size, 0, none⟩ = some (.slice none 0 0) := (by rw [cell_of ZB.out.2.1]; rfl); have zv1 : Z.cell? ⟨W.heap.size, 1, none⟩ = some (.bool false) := (by rw [cell_of ZB.out.2.1]; rfl); have zvf := free_of ZB.out.2.1; clear hr1 hb1 x0 x1 r0 r1 rf XB hYB)
            have hF1 : F = (V + x % 128 * U, some l) := by
              rw [← HN.out.2.1, hI.out.eq, show 6 - q = (6 - (q + 1)) + 1 by omega]
              unfold numF octP
              simp only []
              rw [if_pos hx]
            have hYne : w.heap.size ≠ W.heap.size := Nat.ne_of_lt hwl
            have s0 : Z.drew.cell? ⟨w.heap.size, 0, none⟩ = some (.slice a1 m1 c1) ∧ Z.drew.cell? ⟨w.heap.size, 1, none⟩ = some (.bool true) := ⟨z0, z1⟩
            have s1 : ∀ p p', ((Z.drew.setCell ⟨W.heap.size, 0, none⟩ p).setCell ⟨W.heap.size, 1, none⟩ p').cell? ⟨w.heap.size, 0, none⟩ = some (.slice a1 m1 c1) ∧ ((Z.drew.setCell ⟨W.heap.size, 0, none⟩ p).setCell ⟨W.heap.size, 1, none⟩ p').cell? ⟨w.heap.size, 1, none⟩ = some (.bool true) := fun p p' => ⟨(cell2_ne hYne).trans z0, (cell2_ne hYne).trans z1⟩
            have vg0 := zvf 0
            have vg1 := zvf 1
            clear hX hY hZ
            go_region_held3 (fun w' => w'.cell? ⟨w.heap.size, 0, none⟩ = some (.slice a1 m1 c1) ∧ w'.cell? ⟨w.heap.size, 1, none⟩ = some (.bool true)) (first | exact s0 | exact s1 _ _) (fail)
            go_wp2
            refine bodyPost_ret (ret_in rfl _ _ W.heap.size rfl (by exact set2 ZB.out.2.1) rfl) rfl ?_
            rw [hF1]
            exact ⟨_, _, rfl, (ZB.out.2.2.2.far2 ZB.out.2.1 _ _).below (Below.refl _ _).drew, (below2 _ _ ZB.out.2.2.1 (Nat.le_of_lt HN.out.2.2)).drew⟩
          · have hxd : decide (x < 128) = false := decide_eq_false hx
            go_wp2_with (go_at_call 28; refine HBy.out.mono ?_; rintro e w1 ⟨a1, m1, c1, rfl, hr1, hb1⟩; obtain ⟨X, hX⟩ : ∃ X, w1.alloc (.cells #[.slice none 0 0, .bool false] 68) = X := ⟨_, rfl⟩; obtain ⟨Y, hY⟩ : ∃ Y, (X.setCell ⟨w1.heap.size, 0, none⟩ (.slice a1 m1 c1)).setCell ⟨w1.heap.size, 1, none⟩ (.bool true) = Y := ⟨_, rfl⟩; have XB := boxB hX; have xc0 : X.cell? ⟨w1.heap.size, 0, none⟩ = some (.slice none 0 0) := (by rw [cell_of XB.1]; rfl); have xc1 : X.cell? ⟨w1.heap.size, 1, none⟩ = some (.bool false) := (by rw [cell_of XB.1]; rfl); have xcf := free_of XB.1; have hYB : Y.heap[w1.heap.size]? = some (.cells #[.slice a1 m1 c1, .bool true] 68 (0, 0)) ∧ Below w1.heap.size w1 Y := (by rw [← hY]; exact ⟨set2 XB.1, below2 _ _ XB.2 (Nat.le_refl _)⟩); have YB : Hid (Y.heap[w1.heap.size]? = some (.cells #[.slice a1 m1 c1, .bool true] 68 (0, 0)) ∧ Y.heap[w.heap.size]? = some (.cells #[.slice a n c, .bool ok] 68 (0, 0)) ∧ Y.heap[W.heap.size]? = some (.cells #[.slice none 0 0, .bool false] 68 (0, 0)) ∧ Below wr.heap.size wr Y ∧ W.heap.size < w1.heap.size ∧ RI Bq Y (.slice a1 m1 c1) true (some l)) := ⟨hYB.1, hkeep hI.out.box (chainB hb1 hYB.2), hkeep hI.out.res (chainB hb1 hYB.2), chainB hb1 hYB.2, Nat.lt_of_lt_of_le (Array.getElem?_eq_some_iff.1 hI.out.res).1 hb1.size, hr1.out.below hYB.2⟩; have y0 : Y.cell? ⟨w1.heap.size, 0, none⟩ = some (.slice a1 m1 c1) := (by rw [cell_of YB.out.1]; rfl); have y1 : Y.cell? ⟨w1.heap.size, 1, none⟩ = some (.bool true) := (by rw [cell_of YB.out.1]; rfl); have t0 : Y.cell? ⟨w.heap.size, 0, none⟩ = some (.slice a n c) := (by rw [cell_of YB.out.2.1]; rfl); have t1 : Y.cell? ⟨w.heap.size, 1, none⟩ = some (.bool ok) := (by rw [cell_of YB.out.2.1]; rfl); have tf := free_of YB.out.2.1; have v0 : Y.cell? ⟨W.heap.size, 0, none⟩ = some (.slice none 0 0) := (by rw [cell_of YB.out.2.2.1]; rfl); have v1 : Y.cell? ⟨W.heap.size, 1, none⟩ = some (.bool false) := (by rw [cell_of YB.out.2.2.1]; rfl); have vf := free_of YB.out.2.2.1; obtain ⟨Z, hZ⟩ : ∃ Z, (Y.setCell ⟨w.heap.size, 0, none⟩ (.slice a1 m1 c1)).setCell ⟨w.heap.size, 1, none⟩ (.bool true) = Z := ⟨_, rfl⟩; have ZB : Hid (Z.heap[w.heap.size]? = some (.cells #[.slice a1 m1 c1, .bool true] 68 (0, 0)) ∧ Z.heap[W.heap.size]? = some (.cells #[.slice none 0 0, .bool false] 68 (0, 0)) ∧ Below w.heap.size w Z ∧ RI Bq Z (.slice a1 m1 c1) true (some l)) := ⟨(by rw [← hZ]; exact set2 YB.out.2.1), (by rw [← hZ]; exact (two_ne (Nat.ne_of_gt hwl)).trans YB.out.2.2.1), (by rw [← hZ]; exact below2 _ _ (chainB hI.out.bel YB.out.2.2.2.1) (Nat.le_refl _)), (by rw [← hZ]; exact YB.out.2.2.2.2.2.far2 YB.out.2.1 _ _)⟩; have z0 : Z.cell? ⟨w.heap.size, 0, none⟩ = some (.slice a1 m1 c1) := (by rw [cell_of ZB.out.1]; rfl); have z1 : Z.cell? ⟨w.heap.size, 1, none⟩ = some (.bool true) := (by rw [cell_of ZB.out.1]; rfl); have zv0 : Z.cell? ⟨W.heap.size, 0, none⟩ = some (.slice none 0 0) := (by rw [cell_of ZB.out.2.1]; rfl); have zv1 : Z.cell? ⟨W.heap.size, 1, none⟩ = some (.bool false) := (by rw [cell_of ZB.out.2.1]; rfl); have zvf := free_of ZB.out.2.1; clear hr1 hb1 x0 x1 r0 r1 rf XB hYB)
            have hP2 : x % 128 * U ≤ 127 * U := Int.mul_le_mul_of_nonneg_right (by omega) (by omega)
            have hVU : V < U := by rw [hI.out.hs]; exact hI.out.hv
            refine ⟨⟨q + 1, V + x % 128 * U, U * 128, _, _, _, by omega, rfl, rfl, by simp, ⟨?_, ZB.out.2.2.2, ZB.out.1, ZB.out.2.1, ZB.out.2.2.1, ?_, by omega, ?_, ?_⟩⟩, by simp [intOf]; omega⟩
            · rw [hI.out.eq, show 6 - q = (6 - (q + 1)) + 1 by omega]
              show numF (6 - (q + 1) + 1) U V (some (x :: l)) = _
              conv => lhs; unfold numF octP
              simp only []
              rw [if_neg (by omega)]
            · by_cases h6 : q + 1 = 6
              · exact .inr h6
              · have h4 : (128 : Int) ^ q ≤ 268435456 := by
                  have : q ≤ 4 := by omega
                  match q, this with
                  | 0, _ => decide
                  | 1, _ => decide
                  | 2, _ => decide
                  | 3, _ => decide
                  | 4, _ => decide
                rw [← hI.out.hs] at h4
                exact .inl (by omega)
            · rw [hI.out.hs]; exact (Int.pow_succ 128 q).symm
            · rw [Int.pow_succ, ← hI.out.hs]; omega
    · have hki : ¬ (q : Int) < 6 := by omega
      have hq6 : q = 6 := by omega
      go_wp2
      refine bodyPost_ret (ret_in rfl _ _ W.heap.size rfl (set2 hI.out.res) rfl) rfl ?_
      have hF0 : F = (0, none) := by rw [← HN.out.2.1, hI.out.eq, hq6]; rfl
      rw [hF0]
      exact ⟨_, _, rfl, RI.no _, below2 _ _ hI.out.bel (Nat.le_of_lt HN.out.2.2)⟩
end
end Go.Proofs.Ytekonakanieeaaa
