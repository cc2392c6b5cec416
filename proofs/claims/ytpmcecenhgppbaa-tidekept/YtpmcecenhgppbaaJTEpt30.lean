/- The document's tide: let. -/
import Derived.Test.YtpmcecenhgppbaaJTEpt29
namespace Go.Proofs.Ytpmcecenhgppbaa
section
open Go.RowKit Go.Shelf
attribute [local go_sem ↓ high] loadMsg storeMsg buildMsg storeAct loadAct buildAct
attribute [local go_sem high] run_store_complex eqC

theorem SD.box {w w1 w2 : World} {B t g : Nat} {s s' : Dt} (h : SD w w1 B t s s') (ho : Only (· = g) w1 w2) (hg : w.heap.size ≤ g) (hn : ∀ k, s'.blk t k → k ≠ g) : SD w w2 B t s s' :=
  ⟨h.is.moved fun k hk => ho.block k (h.is.lt hk).2 (hn k hk), ⟨ho.os.trans h.only.os, ho.tape.trans h.only.tape, ho.output.trans h.only.output, Nat.le_trans h.only.size ho.size, fun k hk hs => (ho.block k (Nat.lt_of_lt_of_le hk h.only.size) (fun (e : k = g) => by omega)).trans (h.only.block k hk hs)⟩, h.nwr, h.nblk⟩
def LetR (w : World) (B t : Nat) (s : Dt) (i : Nat) (z : Hm) (e : Ending) (w' : World) : Prop := ∃ v', e = .returned (.agg z.arr) ∧ SD w w' B t s { s with hv := v', hs := s.hs.eraseIdx i } ∧ Lists w' 0 z
/-- what let leaves, its worlds written out -/
theorem let_end {w W1 W2 W3 W4 W5 W6 : World} {B t g4 g5 i : Nat} {s : Dt} {z : Hm} {a3 a4 : Option Addr} {q3 q4 n4 : Nat} (h : IsD w B t s) (hz : s.hs[i]? = some z) (b1 : Below w.heap.size w W1) (hg4 : w.heap.size = g4) (hg5 : g4 < g5) (hs1 : g5 < W1.heap.size) (hW2 : W1.setRow g5 z.arr = W2)
    (hr3 : RowM W3 W2.heap.size (.slice a3 i q3) (s.hs.take i)) (hb3 : Below W2.heap.size W2 W3) (hr4 : RowM W4 W2.heap.size (.slice a4 n4 q4) (s.hs.take i ++ s.hs.drop (i + 1))) (ho4 : Only (fun k => (Value.slice a3 i q3).ownBlock = some k) W3 W4) (hW5 : W4.setCell ⟨t, 7, none⟩ (.slice a4 n4 q4) = W5) (hW6 : W5.setRow g4 z.arr = W6) :
    SD w W6 B t s { s with hv := .slice a4 n4 q4, hs := s.hs.eraseIdx i } ∧ Lists W6 0 z := by
  have o2 : Only (· = g5) W1 W2 := by rw [← hW2]; exact onlyR _ _ _
  have b2 : Below w.heap.size w W2 := o2.below b1 b1.size (fun k hk => by rw [hk]; omega)
  have b3 : Below w.heap.size w W3 := chainB b2 hb3
  have b4 : Below w.heap.size w W4 := ho4.below b3 b3.size (fun k hk => by have := (World.ownsRow.lt hr3 k hk).1; have := b2.size; omega)
  have he : s.hs.take i ++ s.hs.drop (i + 1) = s.hs.eraseIdx i := by rw [List.eraseIdx_eq_take_drop_succ]
  rw [he] at hr4
  have hsz : w.heap.size ≤ W2.heap.size := b2.size
  have hB : B ≤ W2.heap.size := Nat.le_trans h.bt (Nat.le_trans (Nat.le_of_lt h.tt.lt) hsz)
  have S5 : SD w W5 B t s { s with hv := .slice a4 n4 q4, hs := s.hs.eraseIdx i } := by
    rw [← hW5]
    refine h.putH (Only.of b4) _ _ (owns_le hr4 hB) (fun m hm => .inl (List.mem_of_mem_eraseIdx hm)) ?_ (.inr fun k hk => ?_)
    · exact Nat.le_trans (List.length_eraseIdx_le _ _) h.lh
    · exact Nat.le_trans hsz (World.ownsRow.lt hr4 k hk).1
  have o6 : Only (· = g4) W5 W6 := by rw [← hW6]; exact onlyR _ _ _
  have s1 : g4 < W2.heap.size := Nat.lt_of_lt_of_le (by omega) o2.size
  have hn : ∀ k, ({ s with hv := .slice a4 n4 q4, hs := s.hs.eraseIdx i } : Dt).blk t k → k ≠ g4 := by
    rintro k hk e
    rcases hk with (q | q | q) | ⟨m, hm, q⟩ | ⟨f, hf, q⟩
    · have := h.tt.lt; omega
    · have := (World.ownsRow.lt hr4 k q).1; omega
    · have := (World.ownsRow.lt h.fresh k q).2; omega
    · rcases q with q | q
      · have := (World.ownsRow.lt (h.each m (List.mem_of_mem_eraseIdx hm)).1.es k q).2; omega
      · have := (World.ownsRow.lt (h.each m (List.mem_of_mem_eraseIdx hm)).1.ks k q).2; omega
    · have := (World.ownsRow.lt (h.eachF f hf).1 k q).2; omega
  have S6 := S5.box o6 (by omega) hn
  refine ⟨S6, ((h.each z (List.mem_of_getElem? hz)).1.down (Nat.zero_le _)).only S6.only fun q hq => ⟨h.wno hq (by decide) (by decide) (by decide), h.wno hq (by decide) (by decide) (by decide)⟩⟩
set_option maxHeartbeats 8000000 in
set_option maxRecDepth 100000 in
theorem let_d (t B : Nat) (s : Dt) (i : Nat) (z : Hm) (w : World) (h : IsD w B t s) (hz : s.hs[i]? = some z) : Calls Try.prog 56 #[.pointer (some ⟨t, 0, none⟩), .int .i64 i] w fun e w' => LetR w B t s i z e w' := by
  have hil : i < s.hs.length := (List.getElem?_eq_some_iff.1 hz).1
  obtain ⟨n, hn⟩ : ∃ n, s.hs.length = n := ⟨_, rfl⟩
  have hn8 : n ≤ 8 := by have := h.lh; have := h.l8; omega
  obtain ⟨a, cap, hv⟩ := owns_len h.held
  have hh := h.held
  rw [hv] at hh
  obtain ⟨g, rfl, -, -, hg, -⟩ := owns_msg hh hz
  rw [hn] at hh hil hv
  obtain ⟨hcs, -, hcap, -⟩ := owns_cells (by unfold RowM at hh; rw [hn] at hh; exact hh)
  obtain ⟨W0, hW0⟩ : ∃ W0, w.alloc (.cells #[.int .i64 0, .int .i64 0, .int .i64 0, .int .i64 0, .complex .f64 0 0, .int .i64 0, .int .i64 0, .int .i64 0, .int .i64 0, .string ⟨#[]⟩, .int .i64 0, .string ⟨#[]⟩, .int .i64 0, .string ⟨#[]⟩, .slice none 0 0, .slice none 0 0] 45) = W0 := ⟨_, rfl⟩
  have b0 := boxB hW0
  obtain ⟨W1, hW1⟩ : ∃ W1, W0.alloc (.cells #[.int .i64 0, .int .i64 0, .int .i64 0, .int .i64 0, .complex .f64 0 0, .int .i64 0, .int .i64 0, .int .i64 0, .int .i64 0, .string ⟨#[]⟩, .int .i64 0, .string ⟨#[]⟩, .int .i64 0, .string ⟨#[]⟩, .slice none 0 0, .slice none 0 0] 45) = W1 := ⟨_, rfl⟩
  have b1 := boxB hW1
  obtain ⟨g4, hg4⟩ : ∃ g, w.heap.size = g := ⟨_, rfl⟩
  obtain ⟨g5, hg5⟩ : ∃ g, W0.heap.size = g := ⟨_, rfl⟩
  obtain ⟨W2, hW2⟩ : ∃ W2, W1.setRow g5 z.arr = W2 := ⟨_, rfl⟩
  have hx1 : W1.heap[g5]? = some (.cells #[.int .i64 0, .int .i64 0, .int .i64 0, .int .i64 0, .complex .f64 0 0, .int .i64 0, .int .i64 0, .int .i64 0, .int .i64 0, .string ⟨#[]⟩, .int .i64 0, .string ⟨#[]⟩, .int .i64 0, .string ⟨#[]⟩, .slice none 0 0, .slice none 0 0] 45 (0, 0)) := by rw [← hg5]; exact b1.1
  have hlt45 : g4 < g5 := by rw [← hg4, ← hg5]; exact (Array.getElem?_eq_some_iff.1 b0.1).1
  have hlt5 : g5 < W1.heap.size := (Array.getElem?_eq_some_iff.1 hx1).1
  have ms2 := msgSt_of hx1 rfl z.size z.one hW2
  have bw1 : Below w.heap.size w W1 := chainB b0.2 b1.2
  have o2 : Only (· = g5) W1 W2 := by rw [← hW2]; exact onlyR _ _ _
  have b2 : Below w.heap.size w W2 := o2.below bw1 bw1.size (fun k hk => by rw [hk]; omega)
  have ml0 : (msgLd (.pointer (some ⟨g, i * 16, none⟩))).run Try.prog W0 = .ok (.agg z.arr) W0 := by
    obtain ⟨g', e', -, -, -, q'⟩ := owns_msg (hh.below b0.2) hz
    cases e'
    exact msgLd_at q' z.size
  have hcells : ∀ V, Below w.heap.size w V → ∀ j u, (mc s.hs)[j]? = some u → V.cell? ⟨g, j, none⟩ = some u := fun V hV j u hu => (hV.cell (p := ⟨g, j, none⟩) hg).trans (hcs j u hu)
  have htk : (s.hs.take i).length = i := by rw [List.length_take, hn]; omega
  have hdk : (s.hs.drop (i + 1)).length = n - (i + 1) := by rw [List.length_drop, hn]
  obtain ⟨a3, q3, W3, happ3, hr3, ho3, -⟩ := msgs_append (w := W2) (B := W2.heap.size) (v := .slice none 0 0) (l := []) (l2 := s.hs.take i) (World.ownsRow_nil _ _ _ _) ⟨g, 0, none⟩ cap (fun j u hu => by
    rw [add_plain', Nat.zero_add]
    refine hcells W2 b2 j u ?_
    rw [← mc_take, List.getElem?_take] at hu
    split at hu
    · exact hu
    · cases hu) (Nat.le_refl _) (by rw [htk]; simp; omega)
  rw [htk] at happ3 hr3
  rw [List.nil_append] at hr3
  simp only [List.length_nil, Nat.zero_add] at happ3 hr3
  have hb3 : Below W2.heap.size W2 W3 := ⟨ho3.os, ho3.tape, ho3.output, ho3.size, fun k hk => ho3.block k hk (fun e => by cases e)⟩
  have b3 : Below w.heap.size w W3 := chainB b2 hb3
  have c7 : ∀ V, Below w.heap.size w V → V.cell? ⟨t, 7, none⟩ = some (.slice (some ⟨g, 0, none⟩) n cap) := fun V hV => by
    rw [cell_of (h.below hV).head 7, ← hv]; rfl
  have t0 := c7 W0 b0.2
  have t2 := c7 W2 b2
  have t3 := c7 W3 b3
  obtain ⟨J, hJ⟩ : ∃ J, i + 1 = J := ⟨_, rfl⟩
  have hJz : (i : Int) + 1 = (J : Int) := by omega
  have hJw : IntKind.i64.wrap (J : Int) = (J : Int) := IntWalk.i64_in _ (by omega)
  have hi0 : (0 : Int) ≤ (i : Int) := by omega
  have hJ0 : (0 : Int) ≤ (J : Int) := by omega
  have hic : (i : Int) ≤ (cap : Int) := by omega
  have hic' : i ≤ cap := by omega
  have hin : (i : Int) < (n : Int) := by omega
  have hJn : (J : Int) ≤ (n : Int) := by omega
  have hJn' : J ≤ n := by omega
  have hJc : (J : Int) ≤ (cap : Int) := by omega
  have hJc' : J ≤ cap := by omega
  have hnc : (n : Int) ≤ (cap : Int) := by omega
  have HEnd : Hid (∀ (a4 : Option Addr) (q4 n4 : Nat) (W4 W5 W6 : World), RowM W4 W2.heap.size (.slice a4 n4 q4) (s.hs.take i ++ s.hs.drop (i + 1)) → Only (fun k => (Value.slice a3 i q3).ownBlock = some k) W3 W4 → W4.setCell ⟨t, 7, none⟩ (.slice a4 n4 q4) = W5 → W5.setRow g4 z.arr = W6 → (SD w W6 B t s { s with hv := .slice a4 n4 q4, hs := s.hs.eraseIdx i } ∧ Lists W6 0 z) ∧ (∃ u, W4.cell? ⟨t, 7, none⟩ = some u) ∧ (∀ j, W4.frozen? ⟨t, j, none⟩ = false) ∧ W5.heap[g5]? = some (.cells z.arr 45 (0, 0)) ∧ ∃ old, W5.heap[g4]? = some (.cells old 45 (0, 0)) ∧ old.size = 16) := fun a4 q4 n4 W4 W5 W6 hr4 ho4 hW5 hW6 => by
    have h3own : ∀ k, (Value.slice a3 i q3).ownBlock = some k → W2.heap.size ≤ k := fun k hk => (World.ownsRow.lt hr3 k hk).1
    have s25 : g5 < W2.heap.size := Nat.lt_of_lt_of_le hlt5 o2.size
    have b4 : Below w.heap.size w W4 := ho4.below b3 b3.size (fun k hk => by have := h3own k hk; have := b2.size; omega)
    have hd4 := (h.below b4).head
    have hx2 : W2.heap[g5]? = some (.cells z.arr 45 (0, 0)) := by rw [← hW2]; exact setRow_heap _ _ _ _ _ _ hx1
    have hx4 : W4.heap[g5]? = some (.cells z.arr 45 (0, 0)) := (ho4.block g5 (Nat.lt_of_lt_of_le s25 hb3.size) (fun e => by have := h3own g5 e; omega)).trans (hkeep hx2 hb3)
    have hy1 : W1.heap[g4]? = some (.cells #[.int .i64 0, .int .i64 0, .int .i64 0, .int .i64 0, .complex .f64 0 0, .int .i64 0, .int .i64 0, .int .i64 0, .int .i64 0, .string ⟨#[]⟩, .int .i64 0, .string ⟨#[]⟩, .int .i64 0, .string ⟨#[]⟩, .slice none 0 0, .slice none 0 0] 45 (0, 0)) := by rw [← hg4]; exact hkeep b0.1 b1.2
    have hy2 : W2.heap[g4]? = some (.cells #[.int .i64 0, .int .i64 0, .int .i64 0, .int .i64 0, .complex .f64 0 0, .int .i64 0, .int .i64 0, .int .i64 0, .int .i64 0, .string ⟨#[]⟩, .int .i64 0, .string ⟨#[]⟩, .int .i64 0, .string ⟨#[]⟩, .slice none 0 0, .slice none 0 0] 45 (0, 0)) := (o2.block g4 (Array.getElem?_eq_some_iff.1 hy1).1 (by omega)).trans hy1
    have hy4 : W4.heap[g4]? = some (.cells #[.int .i64 0, .int .i64 0, .int .i64 0, .int .i64 0, .complex .f64 0 0, .int .i64 0, .int .i64 0, .int .i64 0, .int .i64 0, .string ⟨#[]⟩, .int .i64 0, .string ⟨#[]⟩, .int .i64 0, .string ⟨#[]⟩, .slice none 0 0, .slice none 0 0] 45 (0, 0)) := (ho4.block g4 (Nat.lt_of_lt_of_le (by omega) hb3.size) (fun e => by have := h3own g4 e; omega)).trans (hkeep hy2 hb3)
    have o5 : Only (· = t) W4 W5 := by rw [← hW5]; exact only1 _ _ _ _
    have htl := h.tt.lt
    refine ⟨let_end h hz bw1 hg4 hlt45 hlt5 hW2 hr3 hb3 hr4 ho4 hW5 hW6, ⟨_, cell_of hd4 7⟩, free_of hd4, (o5.block g5 (Array.getElem?_eq_some_iff.1 hx4).1 (by omega)).trans hx4, _, (o5.block g4 (Array.getElem?_eq_some_iff.1 hy4).1 (by omega)).trans hy4, rfl⟩
  have happ3' : ∀ ty, (Builtin.append_ #[60, 60] ty #[.slice none 0 0, .slice (some ⟨g, 0, none⟩) i cap]).run Try.prog W2 = .ok (.slice a3 i q3) W3 := happ3
  have HSrc : Hid (∀ ad c4, (∀ j u, (mc (s.hs.drop (i + 1)))[j]? = some u → W3.cell? (ad.add j) = some u) → ∃ a4 q4 W4, (∀ ty, (Builtin.append_ #[60, 60] ty #[.slice a3 i q3, .slice (some ad) (n - J) c4]).run Try.prog W3 = .ok (.slice a4 (n - 1) q4) W4) ∧ RowM W4 W2.heap.size (.slice a4 (n - 1) q4) (s.hs.take i ++ s.hs.drop (i + 1)) ∧ Only (fun k => (Value.slice a3 i q3).ownBlock = some k) W3 W4) := fun ad c4 hc4 => by
    obtain ⟨a4, q4, W4, e1, e2, e3, -⟩ := msgs_append hr3 ad c4 hc4 hb3.size (by rw [htk, hdk]; omega)
    rw [htk, hdk] at e1 e2
    rw [show i + (n - (i + 1)) = n - 1 by omega] at e1 e2
    refine ⟨a4, q4, W4, fun ty => ?_, e2, e3⟩
    have := e1 ty
    rw [hJ] at this; exact this
  have HOff : Hid (∀ j u, (mc (s.hs.drop (i + 1)))[j]? = some u → W3.cell? ((⟨g, J * 16, none⟩ : Addr).add j) = some u) := fun j u hu => by
    rw [add_plain']
    refine hcells W3 b3 _ u ?_
    rw [← mc_drop, List.getElem?_drop, hJ] at hu; exact hu
  have HNil : Hid (n = J → mc (s.hs.drop (i + 1)) = []) := fun e => by
    have : s.hs.drop (i + 1) = [] := List.drop_eq_nil_of_le (by omega)
    rw [this]; rfl
  obtain ⟨Z, hZ⟩ : ∃ Z, z.arr = Z := ⟨_, rfl⟩
  have HZ : Hid (z.arr = Z ∧ Z.size = 16 ∧ Z.all (·.oneCell') = true) := ⟨hZ, by rw [← hZ]; exact z.size, by rw [← hZ]; exact z.one⟩
  rw [hZ] at ml0 ms2
  clear h hz hh hcs b0 b1 hx1 bw1 o2 b2 hb3 b3 happ3 hr3 ho3 c7 hcells htk hdk hJ hZ hv hW2
  by_cases hcJ : cap = J
  · have hnJ : n = J := by omega
    obtain ⟨a4, q4, W4, happ4, hr4, ho4⟩ := HSrc.out ⟨g, 0, none⟩ 0 (fun j u hu => by rw [HNil.out hnJ] at hu; simp at hu)
    obtain rfl : J = n := hnJ.symm
    obtain rfl : J = cap := hcJ.symm
    rw [Nat.sub_self] at happ4
    obtain ⟨W5, hW5⟩ : ∃ W5, W4.setCell ⟨t, 7, none⟩ (.slice a4 (J - 1) q4) = W5 := ⟨_, rfl⟩
    obtain ⟨W6, hW6⟩ : ∃ W6, W5.setRow g4 z.arr = W6 := ⟨_, rfl⟩
    obtain ⟨hfin, ⟨u7, cu7⟩, cf7, hx5, old, hy5, hold⟩ := HEnd.out a4 q4 (J - 1) W4 W5 W6 hr4 ho4 hW5 hW6
    have HFin : Hid _ := hfin
    have hr6 : W6.heap[g4]? = some (.cells z.arr 45 (0, 0)) := by rw [← hW6]; exact setRow_heap _ _ _ _ _ _ hy5
    have ml5 := msgLd_of hx5 z.size
    have ms5 := msgSt_of hy5 hold z.size z.one hW6
    rw [HZ.out.1] at ml5 ms5
    clear hr4 ho4 hfin hx5 hy5 hW6
    go_enter Try.func56, Try.ntmps56
    go_wp2_with (first
      | (at_builtin; refine wpList_append_run rfl (.tmp 14) (.tmp 20) 60 rfl _ _ (.slice a3 i q3) W3 rfl rfl happ3' ?_)
      | (at_builtin; refine wpList_append_run rfl (.tmp 23) (.tmp 30) 60 rfl _ _ (.slice a4 (J - 1) q4) W4 rfl rfl happ4 ?_))
    refine bodyPost_ret (results_cell_row rfl _ _ g4 _ _ _ _ rfl hr6 Try.underlying45 rfl Try.sizeMg) rfl ?_
    exact ⟨_, rfl, HFin.out.1, HFin.out.2⟩
  · obtain ⟨a4, q4, W4, happ4, hr4, ho4⟩ := HSrc.out ⟨g, J * 16, none⟩ (cap - J) HOff.out
    obtain ⟨W5, hW5⟩ : ∃ W5, W4.setCell ⟨t, 7, none⟩ (.slice a4 (n - 1) q4) = W5 := ⟨_, rfl⟩
    obtain ⟨W6, hW6⟩ : ∃ W6, W5.setRow g4 z.arr = W6 := ⟨_, rfl⟩
    obtain ⟨hfin, ⟨u7, cu7⟩, cf7, hx5, old, hy5, hold⟩ := HEnd.out a4 q4 (n - 1) W4 W5 W6 hr4 ho4 hW5 hW6
    have HFin : Hid _ := hfin
    have hr6 : W6.heap[g4]? = some (.cells z.arr 45 (0, 0)) := by rw [← hW6]; exact setRow_heap _ _ _ _ _ _ hy5
    have ml5 := msgLd_of hx5 z.size
    have ms5 := msgSt_of hy5 hold z.size z.one hW6
    rw [HZ.out.1] at ml5 ms5
    clear hr4 ho4 hfin hx5 hy5 hW6
    go_enter Try.func56, Try.ntmps56
    go_wp2_with (first
      | (at_builtin; refine wpList_append_run rfl (.tmp 14) (.tmp 20) 60 rfl _ _ (.slice a3 i q3) W3 rfl rfl happ3' ?_)
      | (at_builtin; refine wpList_append_run rfl (.tmp 23) (.tmp 30) 60 rfl _ _ (.slice a4 (n - 1) q4) W4 rfl rfl happ4 ?_))
    refine bodyPost_ret (results_cell_row rfl _ _ g4 _ _ _ _ rfl hr6 Try.underlying45 rfl Try.sizeMg) rfl ?_
    exact ⟨_, rfl, HFin.out.1, HFin.out.2⟩
end
end Go.Proofs.Ytpmcecenhgppbaa
