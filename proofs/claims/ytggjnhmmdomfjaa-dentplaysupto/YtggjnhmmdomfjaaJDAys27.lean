/- keysOf of a script. -/
import Derived.Test.YtggjnhmmdomfjaaJDAys26
import Derived.Test.YtggjnhmmdomfjaaRows
import Derived.Test.YtggjnhmmdomfjaaJDAys16
namespace Go.Proofs.Ytggjnhmmdomfjaa
section
open Go.RowKit
def keys3 (x : DOp) : List Ky := [x.e.key, ⟨x.dir, nob⟩, ⟨x.e.id, ⟨#[97]⟩⟩]
def keysL (ops : List DOp) : List Ky := ops.flatMap fun x => keys3 x ++ x.ks
theorem keysL_take {ops : List DOp} {i : Nat} {x : DOp} (h : ops[i]? = some x) : keysL (ops.take (i + 1)) = (keysL (ops.take i) ++ keys3 x) ++ x.ks := by
  unfold keysL
  rw [List.take_add_one, h, List.flatMap_append]
  simp
theorem keysL_len (ops : List DOp) (h : ∀ x ∈ ops, x.ks.length ≤ 1048576) : (keysL ops).length ≤ ops.length * 1048579 := by
  unfold keysL
  induction ops with
  | nil => simp
  | cons x l ih =>
    have h1 := ih fun y hy => h y (List.mem_cons_of_mem _ hy)
    have h2 := h x (List.mem_cons_self ..)
    rw [List.flatMap_cons, List.length_append, List.length_append, List.length_cons]
    have : (keys3 x).length = 3 := rfl
    omega
theorem rowK_some {w : World} {B N c : Nat} {a : Option Addr} {l : List Ky} (h : RowK w B (.slice a N c) l) (h0 : 0 < l.length) : N = l.length ∧ N ≤ c ∧ ∃ g, a = some ⟨g, 0, none⟩ := by
  have h2 := h.2
  rcases h2 with ⟨h1, h3⟩ | ⟨g, cap, cur, hv, hB, hw, hc, hm, hs, ht⟩
  · omega
  · injection hv with h1 h2 h3
    subst h1 h3
    exact ⟨h2, by omega, g, rfl⟩
set_option maxRecDepth 100000 in
set_option maxHeartbeats 16000000 in
theorem keysOf_p (a : Option Addr) (cap : Nat) (ops : List DOp) (w : World) (row : RowD w a ops) (hn : ops.length ≤ 1048576) (hk : ∀ x ∈ ops, x.ks.length ≤ 1048576) :
    Calls Try.prog 11 #[.slice a ops.length cap] w fun r w' => ∃ v, r = .returned v ∧ RowK w' w.heap.size v (keysL ops) ∧ Below w.heap.size w w' := by
  obtain ⟨n, hn'⟩ : ∃ n, ops.length = n := ⟨_, rfl⟩
  rw [hn'] at hn ⊢
  have HR : Hid (RowD w a ops ∧ ops.length = n ∧ ∀ x ∈ ops, x.ks.length ≤ 1048576) := ⟨row, hn', hk⟩
  clear row hn' hk
  go_enter Try.func11, Try.ntmps11
  go_wp2
  go_loopw [3, 4] (fun s3 s4 wr => ∃ i : Nat, i ≤ n ∧ s4 = .int .i64 i ∧ ∃ a2 n2 c2, s3 = .slice a2 n2 c2 ∧ Hid (RowK wr w.heap.size (.slice a2 n2 c2) (keysL (ops.take i)) ∧ Below w.heap.size w wr)) (fun _ s4 _ => n - (intOf s4).toNat)
  case atStart => exact ⟨0, by omega, rfl, _, _, _, rfl, World.ownsRow_nil _ _ _ _, Below.refl _ _⟩
  case round =>
    obtain ⟨i, hi, rfl, a2, n2, c2, rfl, HJ⟩ := hrel
    by_cases hlt : i < n
    · have hltz : (i : Int) < (n : Int) := by omega
      have hw1 : IntKind.i64.wrap ((i : Int) + 1) = ((i + 1 : Nat) : Int) := by
        rw [show ((i + 1 : Nat) : Int) = (i : Int) + 1 by omega]; exact IntWalk.i64_in _ (by omega)
      obtain ⟨hrow, hb⟩ := HJ.out
      obtain ⟨b, off, x, rfl, hx, hbl, hc, hkx⟩ := HR.out.1.get (i := i) (by rw [HR.out.2.1]; exact hlt)
      have HC : Hid (∀ (j : Nat) u W, Below w.heap.size w W → x.vals[j]? = some u → W.cell? ⟨b, off + i * 10 + j, none⟩ = some u) := fun j u W hW hu => (hW.cell (p := ⟨b, off + i * 10 + j, none⟩) hbl).trans (hc j u hu)
      have hkl : x.ks.length ≤ 1048576 := HR.out.2.2 x (List.mem_of_getElem? hx)
      have hpl : (keysL (ops.take i)).length ≤ i * 1048579 := by
        have := keysL_len (ops.take i) fun y hy => HR.out.2.2 y (List.mem_of_mem_take hy)
        rw [List.length_take, HR.out.2.1, Nat.min_eq_left hi] at this; exact this
      have hpl2 : i * 1048579 ≤ 1048576 * 1048579 := Nat.mul_le_mul_right _ (by omega)
      obtain ⟨ak, ck, hvk, -, hkc⟩ := hkx
      obtain ⟨m, hm⟩ : ∃ m, x.ks.length = m := ⟨_, rfl⟩
      rw [hm] at hvk hkl
      have HKS : Hid (x.ks.length = m ∧ (x.ks = [] ∨ ∃ b off, ak = some ⟨b, off, none⟩ ∧ b < w.heap.size ∧ ∀ j u, (kc x.ks)[j]? = some u → w.cell? ⟨b, off + j, none⟩ = some u)) := ⟨hm, hkc⟩
      obtain ⟨P, hP⟩ : ∃ P, keysL (ops.take i) = P := ⟨_, rfl⟩
      have HT : Hid (keysL (ops.take (i + 1)) = (P ++ keys3 x) ++ x.ks) := by rw [← hP]; exact keysL_take hx
      rw [hP] at hrow hpl
      have p1 := HC.out 1 _ wr hb rfl
      have p2 := HC.out 2 _ wr hb rfl
      have p3 := HC.out 3 _ wr hb rfl
      have p5 := HC.out 5 _ wr hb rfl
      obtain ⟨V, hV⟩ : ∃ V, wr.drew.alloc (.cells #[.int .i64 x.e.d, .string x.e.nm, .int .i64 x.dir, .string ⟨#[]⟩, .int .i64 x.e.id, .string ⟨#[97]⟩] 34) = V := ⟨_, rfl⟩
      have bV := boxO hV
      have bb : Below w.heap.size w wr.drew := below_drewN hb 1
      obtain ⟨v3, Z, papp, rowZ, oZ, -⟩ := appK (w := V) (B := w.heap.size) (v := .slice a2 n2 c2) (l := P) (l2 := keys3 x) (ad := ⟨wr.drew.heap.size, 0, none⟩) (c := 3) (owns_below (owns_below hrow (below_drewN (Below.refl _ _) 1)) bV.2.1) (by
        intro j u hu
        rw [← hV]
        exact one_atG (cs := [.int .i64 x.e.d, .string x.e.nm, .int .i64 x.dir, .string ⟨#[]⟩, .int .i64 x.e.id, .string ⟨#[97]⟩]) j u hu) (Nat.le_trans bb.size bV.2.1.size) (by
        have : (keys3 x).length = 3 := rfl
        omega)
      have papp' : ∀ ty, (Builtin.append_ #[28, 28] ty #[.slice a2 n2 c2, .slice (some ⟨wr.heap.size, 0, none⟩) 3 3]).run Try.prog V = .ok v3 Z := papp
      obtain ⟨a6, N6, c6, hv6⟩ : ∃ a N c, v3 = .slice a N c := by
        obtain ⟨a6, c6, h6⟩ := owns_len rowZ
        exact ⟨_, _, _, h6⟩
      subst hv6
      obtain ⟨hN6, hc6, g6, rfl⟩ := rowK_some rowZ (by rw [List.length_append]; have : (keys3 x).length = 3 := rfl; omega)
      have hc6z : (N6 : Int) ≤ (c6 : Int) := by omega
      have hbZ : Below w.heap.size w Z := oZ.below (chainB bb bV.2.1) (chainB bb bV.2.1).size fun b hb' => (World.ownsRow.lt hrow b hb').1
      have HZ : Hid (RowK Z w.heap.size (.slice (some ⟨g6, 0, none⟩) N6 c6) (P ++ keys3 x) ∧ Below w.heap.size w Z ∧ (P ++ keys3 x).length ≤ 1048576 * 1048579 + 3) := ⟨rowZ, hbZ, by rw [List.length_append]; have : (keys3 x).length = 3 := rfl; omega⟩
      have r9 := HC.out 9 _ Z hbZ rfl
      rw [hvk] at r9
      have HS : Hid (∀ W, Below w.heap.size w W → W.cell? ⟨b, off + i * 10 + 1, none⟩ = some (.int .i64 x.dir) ∧ W.cell? ⟨b, off + i * 10 + 2, none⟩ = some (.int .i64 x.e.d) ∧ W.cell? ⟨b, off + i * 10 + 3, none⟩ = some (.string x.e.nm) ∧ W.cell? ⟨b, off + i * 10 + 5, none⟩ = some (.int .i64 x.e.id)) := fun W hW => ⟨HC.out 1 _ W hW rfl, HC.out 2 _ W hW rfl, HC.out 3 _ W hW rfl, HC.out 5 _ W hW rfl⟩
      have kA := HS.out _ bb
      have kB := HS.out _ (chainB bb bV.2.1)
      have kC := HS.out _ hbZ
      have hN6b : N6 ≤ 2000000000000 := by
        rw [hN6]; have := HZ.out.2.2; omega
      clear HJ hrow hb rowZ oZ hbZ bV bb HS hc hkc hm hP hx hpl hpl2 papp hN6
      go_upto_region 5 with fail
      go_region_held3 (fun W => W.cell? ⟨b, off + i * 10 + 1, none⟩ = some (.int .i64 x.dir) ∧ W.cell? ⟨b, off + i * 10 + 2, none⟩ = some (.int .i64 x.e.d) ∧ W.cell? ⟨b, off + i * 10 + 3, none⟩ = some (.string x.e.nm) ∧ W.cell? ⟨b, off + i * 10 + 5, none⟩ = some (.int .i64 x.e.id))
        (with_reducible first | exact kA | exact kB | exact kC)
        (first | (refine step_apR rfl (.tmp 11) (.tmp 32) 28 rfl _ _ (.slice (some ⟨g6, 0, none⟩) N6 c6) Z (by simp [Act.eval]) (by simp [Act.eval]) papp' ?_))
      clear hV papp' kA kB kC p1 p2 p3 p5
      cases ak with
      | none =>
        have hks : x.ks = [] := by
          rcases HKS.out.2 with h | ⟨b, off, e, _⟩
          · exact h
          · cases e
        have hm0 : m = 0 := by rw [← HKS.out.1, hks]; rfl
        subst hm0
        have HE : Hid (RowK Z w.heap.size (.slice (some ⟨g6, 0, none⟩) N6 c6) (keysL (ops.take (i + 1))) ∧ Below w.heap.size w Z) := by rw [HT.out, hks, List.append_nil]; exact ⟨HZ.out.1, HZ.out.2.1⟩
        clear hks hvk
        go_wp2
        go_roundw
        case rel => exact ⟨i + 1, by omega, rfl, _, _, _, rfl, HE⟩
        case measure => simp [intOf]; omega
      | some ad =>
        obtain ⟨v9, Y, papp, rowY, oY, -⟩ := appK (w := Z) (B := w.heap.size) (v := .slice (some ⟨g6, 0, none⟩) N6 c6) (l := P ++ keys3 x) (l2 := x.ks) (ad := ad) (c := ck) HZ.out.1 (by
          intro j u hu
          rcases HKS.out.2 with h | ⟨b, off, e, hb, hc⟩
          · rw [h] at hu; simp [kc] at hu
          · cases e
            rw [add_plain']
            exact (HZ.out.2.1.cell (p := ⟨b, off + j, none⟩) hb).trans (hc j u hu)) HZ.out.2.1.size (by rw [HKS.out.1]; have := HZ.out.2.2; omega)
        rw [HKS.out.1] at papp
        obtain ⟨a9, N9, c9, hv9⟩ : ∃ a N c, v9 = .slice a N c := by
          obtain ⟨a9, c9, h9⟩ := owns_len rowY
          exact ⟨_, _, _, h9⟩
        subst hv9
        have HE : Hid (RowK Y w.heap.size (.slice a9 N9 c9) (keysL (ops.take (i + 1))) ∧ Below w.heap.size w Y) := by
          rw [HT.out]
          exact ⟨rowY, oY.below HZ.out.2.1 HZ.out.2.1.size fun b hb' => (World.ownsRow.lt HZ.out.1 b hb').1⟩
        clear rowY oY hvk
        go_wp2_with (at_builtin; refine wpList_apR rfl (.tmp 34) (.tmp 39) 28 rfl _ _ (.slice a9 N9 c9) Y (by simp [Act.eval]) (by simp [Act.eval]) papp ?_)
        go_roundw
        case rel => exact ⟨i + 1, by omega, rfl, _, _, _, rfl, HE⟩
        case measure => simp [intOf]; omega
    · obtain rfl : i = n := by omega
      have hltz : ¬ (i : Int) < (i : Int) := by omega
      have H := HJ.out
      rw [List.take_of_length_le (by rw [HR.out.2.1]; exact Nat.le_refl _)] at H
      have HE : Hid (RowK wr w.heap.size (.slice a2 n2 c2) (keysL ops) ∧ Below w.heap.size w wr) := H
      clear HJ H
      go_wp2
      go_ret
      exact ⟨_, rfl, HE.out⟩
end
section
theorem bulk_pos {H : Type} (d : DataW H) : 0 < Rows.uptoBulk d := by
  cases d with
  | lit l => cases l <;> simp [Rows.uptoBulk]
  | _ => simp [Rows.uptoBulk]
theorem bulk_many {H : Type} : ∀ l : List (DataW H), l.length ≤ Rows.uptoBulkAll l
  | [] => Nat.zero_le _
  | d :: r => by
    have h1 := bulk_pos d
    have h2 := bulk_many r
    rw [List.length_cons, Rows.uptoBulkAll]
    omega
theorem bulk_in {H : Type} {d : DataW H} : ∀ {l : List (DataW H)}, d ∈ l → Rows.uptoBulk d ≤ Rows.uptoBulkAll l
  | x :: r, h => by
    rw [Rows.uptoBulkAll]
    rcases List.mem_cons.1 h with rfl | h
    · omega
    · have := bulk_in h
      omega
theorem upto_len {H : Type} {ds : List (DataW H)} {el sp : List (DataW H)} (hk : Rows.uptoSmall H ds = true) (hm : DataW.slice el sp ∈ ds) : el.length ≤ 1048576 := by
  have h0 : Rows.uptoBulkAll ds ≤ 1048576 := of_decide_eq_true hk
  have h1 := bulk_in hm
  have h2 := bulk_many el
  rw [Rows.uptoBulk] at h1
  omega
end
section
open Go.ChangeShapes Go.WideShapes Go.ChangeAt Go.RowKit Go.Joins
theorem bulk_of {H : Type} {ds : List (DataW H)} {d : DataW H} (hk : Rows.uptoSmall H ds = true) (hm : d ∈ ds) : Rows.uptoBulk d ≤ 1048576 := by
  have h0 : Rows.uptoBulkAll ds ≤ 1048576 := of_decide_eq_true hk
  have h1 := bulk_in hm
  omega
section
variable {H : Type} {enc : TypeId × Value → H} {W : World}
theorem argK_bulk {fuel : Nat} {v : Value} {x : DataW H × List MemPlace} (h : DataW.trod enc Try.prog W 0 (fun _ => true) true fuel 28 [v] = some x) (hw : Rows.uptoBulk x.1 ≤ 1048576) : ∃ ks, ArgK W v ks ∧ ks.length ≤ 1048576 := by
  rcases Go.Deep.open_slice Try.underlying28 h with ⟨hcs, hx⟩ | ⟨a', len, cap, m, n, D, Pl, hcs, hb, hl, hm, hmm, rfl, hel⟩
  · simp at hcs
    subst hcs
    exact ⟨[], ⟨_, _, rfl, by simp, .inl rfl⟩, by simp⟩
  · simp at hcs
    subst hcs
    simp only [if_true] at hmm
    subst hmm
    have hsm : len ≤ 1048576 := by
      rw [Rows.uptoBulk] at hw
      have h2 := bulk_many ((List.range len).map D)
      simp only [List.length_map, List.length_range] at h2
      omega
    have hlen : len * 24 ≤ 140737488351232 := by omega
    by_cases h0 : len = 0
    · subst h0; exact ⟨[], ⟨_, _, rfl, by simp, .inl rfl⟩, by simp⟩
    have key : ∀ i, i < len → ∃ p : Ky, ∀ r u, ([.int .i64 p.d, .string p.nm] : List Value)[r]? = some u → W.cell? ((a'.add (i * 2)).add r) = some u := by
      intro i hi
      obtain ⟨cs', hc, ht⟩ := hel i (by omega)
      rw [Try.cellsKey] at hc
      obtain ⟨_, hlen', hget⟩ := World.cells?_some hc
      obtain ⟨p, rfl⟩ := ky_of ht
      refine ⟨p, fun r u hu => ?_⟩
      have hr : r < 2 := by have := (List.getElem?_eq_some_iff.1 hu).1; simpa using this
      have := hget r (by omega)
      rw [hu] at this
      exact this
    have iO : Inhabited Ky := ⟨⟨0, ⟨#[]⟩⟩⟩
    obtain ⟨X, hX⟩ := Go.Deep.choose_lt (α := Ky) key
    obtain ⟨b, off, spot⟩ := a'
    have hc0 := hX 0 (by omega) 0 _ rfl
    have hs := World.cell?_spot hc0
    have hspot : spot = none := by simpa [Addr.add] using hs
    subst hspot
    have hlt : b < W.heap.size := cellLt hc0
    refine ⟨(List.range len).map X, ⟨some ⟨b, off, none⟩, _, by simp; rfl, by simpa using hlen, .inr ⟨b, off, rfl, hlt, fun j u hu => ?_⟩⟩, by simpa using hsm⟩
    have hj : j < len * 2 := by have := (List.getElem?_eq_some_iff.1 hu).1; rw [kc_len] at this; simpa using this
    have hi : j / 2 < len := by omega
    have he : ((List.range len).map X)[j / 2]? = some (X (j / 2)) := by rw [List.getElem?_map, List.getElem?_range hi]; rfl
    have hg := kc_get' _ (j / 2) (j % 2) _ he (by omega)
    rw [show j / 2 * 2 + j % 2 = j by omega, hu] at hg
    have := hX (j / 2) hi (j % 2) u hg.symm
    rw [add_plain', add_plain', show off + j / 2 * 2 + j % 2 = off + j by omega] at this
    exact this
set_option maxRecDepth 100000 in
theorem dop_bulk {fuel : Nat} {cs : List Value} {x : DataW H × List MemPlace} (h : DataW.trod enc Try.prog W 0 (fun _ => true) true fuel 62 cs = some x) (hw : Rows.uptoBulk x.1 ≤ 1048576) : ∃ p : DOp, cs = p.vals ∧ ArgK W p.vk p.ks ∧ p.ks.length ≤ 1048576 := by
  obtain ⟨xs, n, _, rfl, hl, hlen, hf⟩ := DataW.trod_struct Try.underlying62 h
  rw [Try.cellsDo] at hl
  obtain ⟨c0, c1, c2, c3, c4, c5, c6, c7, c8, c9, rfl⟩ := ten hl
  obtain ⟨y0, y1, y2, y3, rfl⟩ := four (l := xs) (by simpa using hlen)
  have h0 : DataW.trod enc Try.prog W 0 (fun _ => true) true n 3 (([c0, c1, c2, c3, c4, c5, c6, c7, c8, c9].drop 0).take (Try.prog.cellsOf 3)) = some y0 := hf 0 _ rfl
  have h1 : DataW.trod enc Try.prog W 0 (fun _ => true) true n 3 (([c0, c1, c2, c3, c4, c5, c6, c7, c8, c9].drop 1).take (Try.prog.cellsOf 3)) = some y1 := hf 1 _ rfl
  have h2 : DataW.trod enc Try.prog W 0 (fun _ => true) true n 42 (([c0, c1, c2, c3, c4, c5, c6, c7, c8, c9].drop 2).take (Try.prog.cellsOf 42)) = some y2 := hf 2 _ rfl
  have h3 : DataW.trod enc Try.prog W 0 (fun _ => true) true n 28 (([c0, c1, c2, c3, c4, c5, c6, c7, c8, c9].drop 9).take (Try.prog.cellsOf 28)) = some y3 := hf 3 _ rfl
  rw [Try.cellsWord] at h0 h1
  rw [Try.cellsEnt] at h2
  rw [Try.cellsSlK] at h3
  obtain ⟨p0, e0, _, _⟩ := DataW.trod_int Try.underlying3 h0
  obtain ⟨p1, e1, _, _⟩ := DataW.trod_int Try.underlying3 h1
  obtain ⟨e, e2⟩ := en_of h2
  simp at e0 e1
  have hb : Rows.uptoBulk y3.1 ≤ 1048576 := by
    rw [Rows.uptoBulk] at hw
    have := bulk_in (d := y3.1) (l := [y0, y1, y2, y3].map (·.1)) (by simp)
    omega
  obtain ⟨ks, hks⟩ := argK_bulk (v := c9) (x := y3) (by simpa using h3) hb
  have e3 : [c2, c3, c4, c5, c6, c7, c8] = e.vals := by simpa using e2
  refine ⟨⟨p0, p1, e, c9, ks⟩, ?_, hks⟩
  unfold DOp.vals
  simp only
  rw [← e3, e0, e1]; rfl
theorem rowD_bulk {a : Option Addr} {len cap : Nat} {d : DataW H} {ps : List MemPlace} (h : DataW.Trod enc Try.prog W 0 (fun _ => true) true 22 (.slice a len cap) d ps) (hw : Rows.uptoBulk d ≤ 1048576) :
    ∃ ops : List DOp, ops.length = len ∧ RowD W a ops ∧ len ≤ 1048576 ∧ ∀ x ∈ ops, x.ks.length ≤ 1048576 := by
  obtain ⟨fuel, hf⟩ := h
  rcases Go.Deep.open_slice Try.underlying22 hf with ⟨hcs, hx⟩ | ⟨a', len', cap', m, n, D, Pl, hcs, hb, hl, hm, hmm, hx, hel⟩
  · simp [Value.cells] at hcs
    obtain ⟨rfl, rfl, rfl⟩ := hcs
    exact ⟨[], rfl, .inl rfl, by omega, fun x hx => by cases hx⟩
  · simp [Value.cells] at hcs
    obtain ⟨rfl, rfl, rfl⟩ := hcs
    simp only [if_true] at hmm
    subst hmm
    simp only [Prod.mk.injEq] at hx
    obtain ⟨rfl, -⟩ := hx
    rw [Rows.uptoBulk] at hw
    have hlen := bulk_many ((List.range len).map D)
    simp only [List.length_map, List.length_range] at hlen
    by_cases h0 : len = 0
    · exact ⟨[], h0.symm, .inl rfl, by omega, fun x hx => by cases hx⟩
    have key : ∀ i, i < len → ∃ o : DOp, (∀ r u, o.vals[r]? = some u → W.cell? ((a'.add (i * 10)).add r) = some u) ∧ ArgK W o.vk o.ks ∧ o.ks.length ≤ 1048576 := by
      intro i hi
      obtain ⟨cs', hc, ht⟩ := hel i (by omega)
      rw [Try.cellsDo] at hc
      obtain ⟨_, hlen, hget⟩ := World.cells?_some hc
      have hbi := bulk_in (d := D i) (l := (List.range len).map D) (List.mem_map.2 ⟨i, List.mem_range.2 hi, rfl⟩)
      obtain ⟨o, rfl, hk⟩ := dop_bulk ht (show Rows.uptoBulk (D i) ≤ 1048576 by omega)
      refine ⟨o, fun r u hu => ?_, hk⟩
      have hr : r < 10 := by have := (List.getElem?_eq_some_iff.1 hu).1; rw [hlen] at this; exact this
      have := hget r (by omega)
      rw [hu] at this
      exact this
    have iO : Inhabited DOp := ⟨⟨0, 0, zeroEn, .slice none 0 0, []⟩⟩
    obtain ⟨X, hX⟩ := Go.Deep.choose_lt (α := DOp) key
    obtain ⟨b, off, spot⟩ := a'
    have hc0 := (hX 0 (by omega)).1 0 _ rfl
    have hs := World.cell?_spot hc0
    have hspot : spot = none := by simpa [Addr.add] using hs
    subst hspot
    refine ⟨(List.range len).map X, by simp, .inr ⟨b, off, rfl, cellLt hc0, fun i o ho => ?_⟩, by omega, fun x hx => ?_⟩
    · have hi : i < len := by have := (List.getElem?_eq_some_iff.1 ho).1; simpa using this
      rw [List.getElem?_map, List.getElem?_range hi] at ho
      cases ho
      refine ⟨fun j u hu => ?_, (hX i hi).2.1⟩
      have := (hX i hi).1 j u hu
      rw [add_plain', add_plain'] at this
      exact this
    · obtain ⟨i, hi, rfl⟩ := List.mem_map.1 hx
      exact (hX i (List.mem_range.1 hi)).2.2
end
end
section
open Go.RowKit
set_option maxRecDepth 100000 in
set_option maxHeartbeats 16000000 in
theorem walk_DentPlays (a : Option Addr) (cap : Nat) (ops : List DOp) (w : World) (row : RowD w a ops) (hlen : ops.length ≤ 1048576) (hks : ∀ x ∈ ops, x.ks.length ≤ 1048576) :
    Calls Try.prog 3 #[.slice a ops.length cap] w fun r w' => r = .returned (.bool true) ∧ Below w.heap.size w w' := by
  obtain ⟨n, hn⟩ : ∃ n, ops.length = n := ⟨_, rfl⟩
  have hkl := keysL_len ops hks
  have hkl2 : ops.length * 1048579 ≤ 1048576 * 1048579 := Nat.mul_le_mul_right _ hlen
  have HO : Hid (Calls Try.prog 9 #[.slice a n cap] w fun r w2 => ∃ p q, r = .returned (.tuple #[.pointer (some ⟨p, 0, none⟩), .pointer (some ⟨q, 0, none⟩), .bool true]) ∧ Tw w w2 p q (runS ops) (runS ops) n (fun _ => False)) := by
    rw [← hn]
    exact of_p a cap ops w row (by omega)
  have HKo : Hid (∀ W, Below w.heap.size w W → Calls Try.prog 11 #[.slice a n cap] W fun r w' => ∃ v, r = .returned v ∧ RdK w' v (keysL ops) (fun _ => False) ∧ (keysL ops).length ≤ 100000000000000 ∧ Below W.heap.size W w') := fun W hW => by
    rw [← hn]
    refine (keysOf_p a cap ops W (row.below hW) hlen hks).mono ?_
    rintro r w' ⟨v, rfl, hr, hb⟩
    exact ⟨v, rfl, hr.rd fun _ _ e => e, by omega, hb⟩
  have HLk : Hid (∀ W0 W W' p q s m v ks, Tw W0 W p q s s m (fun _ => False) → m < 1300000000000 → Below W.heap.size W W' → RdK W' v ks (fun _ => False) → ks.length ≤ 100000000000000 → Calls Try.prog 10 #[.pointer (some ⟨p, 0, none⟩), .pointer (some ⟨q, 0, none⟩), v] W' fun r w' => r = .returned (.bool true) ∧ Below W'.heap.size W' w') := fun W0 W W' p q s m v ks ht hm hb hk hl => like_p W0 W' p q s m _ (ht.on' hb) hm v ks hk hl
  have HA : Hid (∀ w, Calls Try.prog 12 #[] w fun x w' => x = .returned (.bool true) ∧ Below w.heap.size w w') := awake_p
  rw [hn] at hlen ⊢
  clear row hks hn hkl hkl2
  go_enter Try.func3, Try.ntmps3
  go_wp2_with (first
    | (go_at_call 12; refine (HA.out _).mono ?_; rintro r w8 ⟨rfl, hb⟩; have H8 : Hid (Below w.heap.size w w8) := chainB H4.out hb; clear hb)
    | (go_at_call 10; refine (HLk.out _ _ _ _ _ _ _ _ _ H2.out (by omega) H3.out.1 H3.out.2.1 H3.out.2.2).mono ?_; rintro r w4 ⟨rfl, hb⟩; have H4 : Hid (Below w.heap.size w w4) := chainB H2.out.below (chainB H3.out.1 hb); clear hb)
    | (go_at_call 11; refine (HKo.out _ H2.out.below).mono ?_; rintro r w3 ⟨v3, rfl, hr, hl, hb⟩; have H3 : Hid (Below w2.heap.size w2 w3 ∧ RdK w3 v3 (keysL ops) (fun _ => False) ∧ (keysL ops).length ≤ 100000000000000) := ⟨hb, hr, hl⟩; clear hr hl hb)
    | (go_at_call 9; refine HO.out.mono ?_; rintro r w2 ⟨p, q, rfl, hl⟩; have H2 : Hid (Tw w w2 p q (runS ops) (runS ops) n (fun _ => False)) := hl; clear hl))
  go_ret
  exact ⟨rfl, H8.out⟩
end
end Go.Proofs.Ytggjnhmmdomfjaa
