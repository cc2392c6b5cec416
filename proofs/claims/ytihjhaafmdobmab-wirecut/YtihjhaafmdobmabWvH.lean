/- Unpack. -/
import Derived.Test.YtihjhaafmdobmabWvG
import Derived.Test.YtihjhaafmdobmabWvE
import Derived.Test.YtihjhaafmdobmabWsE
namespace Go.Proofs.Ytihjhaafmdobmab
open Go.RowKit Go.Lib
attribute [local go_sem ↓ high] loadN storeN

theorem ret_note2 {fn : Func} {p u : Tmp} (h : fn.results = #[.cell p 35, .tmp u]) (tmps : Array Value) (w : World) (g : Nat) {t : TypeId} {cs : Array Value} {fr : Nat × Nat} (hp : tmps.getD p undef = .pointer (some ⟨g, 0, none⟩)) (hg : w.heap[g]? = some (.cells cs t fr)) (hs : cs.size = 22) :
    (results fn tmps).run Try.prog w = .ok (.tuple #[.agg cs, tmps.getD u undef]) w := by
  rw [results_cell_tmp h, hp]
  simp [asAddr, run_loadVar_row w g t 35 _ fr _ hg Try.underlying35 rfl (by rw [hs]; exact Try.sizeNote), Result.andThen]
/-- what Unpack answers -/
def UnpR (l : List Int) (w w' : World) (e : Ending) : Prop :=
  (∃ n, noteOk n ∧ noteB n = l ∧ e = .returned (.tuple #[.agg n.arr, .int .i64 0]) ∧ Below w.heap.size w w') ∨
  ((∀ n, noteOk n → noteB n ≠ l) ∧ e = .returned (.tuple #[.agg zeroNt.arr, .int .i64 50]) ∧ Below w.heap.size w w')
theorem unpack_no {l : List Int} {w w' : World} {e : Ending} {n : Nt} {s : St} (hl : noteP (some l) = (n, s)) (hno : doneB s = false ∨ plainN n = false) (he : e = .returned (.tuple #[.agg zeroNt.arr, .int .i64 50])) (hb : Below w.heap.size w w') : UnpR l w w' e := by
  refine .inr ⟨fun m hm hB => ?_, he, hb⟩
  have h1 := noteP_back hm []
  rw [List.append_nil, hB, hl] at h1
  obtain ⟨rfl, rfl⟩ := Prod.mk.inj h1
  rcases hno with h | h
  · cases h
  · rw [(plainN_iff _).2 hm] at h; cases h
theorem unpack_yes {l : List Int} {w w' : World} {e : Ending} {n : Nt} {s : St} (hby : Byt l) (hl : noteP (some l) = (n, s)) (hd : doneB s = true) (hp : plainN n = true) (he : e = .returned (.tuple #[.agg n.arr, .int .i64 0])) (hb : Below w.heap.size w w') : UnpR l w w' e := by
  refine .inl ⟨n, (plainN_iff _).1 hp, ?_, he, hb⟩
  have hs := (doneB_iff _).1 hd
  rw [hs] at hl
  have := noteP_forth hby hl
  rw [List.append_nil] at this
  exact this.symm
set_option maxRecDepth 20000 in
set_option maxHeartbeats 8000000 in
theorem unpack_p (v : Value) (l : List Int) (w : World) (hr : RC w v l) (hl : Byt l) (hlim : l.length ≤ 140737488355328) : Calls Try.prog 9 #[v] w fun e w' => UnpR l w w' e := by
  obtain ⟨ad, cap, rfl, _, _⟩ := id hr
  obtain ⟨W, hW⟩ : ∃ W, w.alloc (.cells #[.int .i64 0, .int .i64 0, .int .i64 0, .int .i64 0, .int .i64 0, .int .i64 0, .string ⟨#[]⟩, .bool false, .int .i64 0, .int .i64 0, .int .i64 0, .string ⟨#[]⟩, .int .i64 0, .int .i64 0, .int .i64 0, .int .i64 0, .int .i64 0, .string ⟨#[]⟩, .int .i64 0, .string ⟨#[]⟩, .int .i64 0, .string ⟨#[]⟩] 35) = W := ⟨_, rfl⟩
  obtain ⟨W2, hW2⟩ : ∃ W2, W.alloc (.cells #[.slice ad l.length cap, .int .i64 0, .bool false] 100) = W2 := ⟨_, rfl⟩
  have HW2 : Hid (W.alloc (.cells #[.slice ad l.length cap, .int .i64 0, .bool false] 100) = W2) := hW2
  have hb := boxB hW
  have hb2 := boxB hW2
  have hg := new_reader hr hl hlim hb.2 hW2
  have hlt := (Array.getElem?_eq_some_iff.1 hb.1).1
  have HG : Hid (Rg W2 W.heap.size (.slice ad l.length cap) l (some l) ∧ Below w.heap.size w W2 ∧ W2.heap[w.heap.size]? = some (.cells #[.int .i64 0, .int .i64 0, .int .i64 0, .int .i64 0, .int .i64 0, .int .i64 0, .string ⟨#[]⟩, .bool false, .int .i64 0, .int .i64 0, .int .i64 0, .string ⟨#[]⟩, .int .i64 0, .int .i64 0, .int .i64 0, .int .i64 0, .int .i64 0, .string ⟨#[]⟩, .int .i64 0, .string ⟨#[]⟩, .int .i64 0, .string ⟨#[]⟩] 35 (0, 0)) ∧ w.heap.size < W.heap.size) := ⟨hg, chainB hb.2 hb2.2, hkeep hb.1 hb2.2, hlt⟩
  have HMs : Hid (Calls Try.prog 45 #[.pointer (some ⟨W.heap.size, 0, none⟩)] W2 fun e w' => RdR W2 W.heap.size (.slice ad l.length cap) l (noteP (some l)).2 (.agg (noteP (some l)).1.arr) e w') := note_r hg
  obtain ⟨n, hn⟩ : ∃ n, (noteP (some l)).1 = n := ⟨_, rfl⟩
  obtain ⟨s1, hs1⟩ : ∃ s, (noteP (some l)).2 = s := ⟨_, rfl⟩
  have HP : Hid (noteP (some l) = (n, s1) ∧ Byt l) := ⟨Prod.ext hn hs1, hl⟩
  rw [hn, hs1] at HMs
  have HPl : Hid (∀ W2, Calls Try.prog 47 #[.agg n.arr] W2 fun e w' => e = .returned (.bool (plainN n)) ∧ Below W2.heap.size W2 w') := fun W2 => plainNote_p n W2
  obtain ⟨P, hP⟩ : ∃ x, plainN n = x := ⟨_, rfl⟩
  have HPe : Hid (plainN n = P) := hP
  rw [hP] at HPl
  obtain ⟨D, hD⟩ : ∃ x, doneB s1 = x := ⟨_, rfl⟩
  have HDe : Hid (doneB s1 = D) := hD
  have HDn : Hid (∀ W3, Rg W3 W.heap.size (.slice ad l.length cap) l s1 → Calls Try.prog 46 #[.pointer (some ⟨W.heap.size, 0, none⟩)] W3 fun e w' => e = .returned (.bool D) ∧ Below W3.heap.size W3 w') := fun W3 h3 => by rw [← hD]; exact done_r h3
  have hsz : n.arr.size = 22 := rfl
  have hone : n.arr.all (·.oneCell') = true := by unfold Nt.arr; simp [Value.oneCell']
  obtain ⟨A, hA⟩ : ∃ x, n.arr = x := ⟨_, rfl⟩
  have HA : Hid (n.arr = A) := hA
  rw [hA] at HMs HPl hsz hone
  have HZ : Hid (A.size = 22 ∧ A.all (·.oneCell') = true) := ⟨hsz, hone⟩
  clear hr hl hlim hb hb2 hg hlt hn hs1 hP hD hsz hone hA hW2
  go_enter Try.func9, Try.ntmps9
  go_upto_region 1 with fail
  clear hW
  go_upto_region 2 with fail
  rw [HW2.out]
  go_upto_region 3 with (go_at_call 45; refine HMs.out.mono ?_; rintro e w3 ⟨rfl, h3⟩; obtain ⟨W4, hW4⟩ : ∃ W4, w3.alloc (.cells #[.int .i64 0, .int .i64 0, .int .i64 0, .int .i64 0, .int .i64 0, .int .i64 0, .string ⟨#[]⟩, .bool false, .int .i64 0, .int .i64 0, .int .i64 0, .string ⟨#[]⟩, .int .i64 0, .int .i64 0, .int .i64 0, .int .i64 0, .int .i64 0, .string ⟨#[]⟩, .int .i64 0, .string ⟨#[]⟩, .int .i64 0, .string ⟨#[]⟩] 35) = W4 := ⟨_, rfl⟩; obtain ⟨W5, hW5⟩ : ∃ W5, W4.setRow w3.heap.size A = W5 := ⟨_, rfl⟩; have nt := noteT_of (boxB hW4).1 rfl HZ.out.1 HZ.out.2 hW5)
  have h23 : W2.heap.size ≤ w3.heap.size := h3.out.2.size
  have hlt2 := HG.out.1.lt
  have hlt3 := HG.out.2.2.2
  have hb4 := boxB hW4
  have hr5 : Red W2 W5 W.heap.size (.slice ad l.length cap) l s1 := by
    rw [← hW5]
    exact Red.box (g := w3.heap.size) ⟨h3.out.1.below hb4.2, h3.out.2.trans (Only.of hb4.2)⟩ HG.out.1 (setRow_only _ _ _) h23
  have hz3 : w3.heap[w.heap.size]? = some (.cells #[.int .i64 0, .int .i64 0, .int .i64 0, .int .i64 0, .int .i64 0, .int .i64 0, .string ⟨#[]⟩, .bool false, .int .i64 0, .int .i64 0, .int .i64 0, .string ⟨#[]⟩, .int .i64 0, .int .i64 0, .int .i64 0, .int .i64 0, .int .i64 0, .string ⟨#[]⟩, .int .i64 0, .string ⟨#[]⟩, .int .i64 0, .string ⟨#[]⟩] 35 (0, 0)) := (h3.out.2.block _ (by omega) (by omega)).trans HG.out.2.2.1
  have hz5 : W5.heap[w.heap.size]? = some (.cells #[.int .i64 0, .int .i64 0, .int .i64 0, .int .i64 0, .int .i64 0, .int .i64 0, .string ⟨#[]⟩, .bool false, .int .i64 0, .int .i64 0, .int .i64 0, .string ⟨#[]⟩, .int .i64 0, .int .i64 0, .int .i64 0, .int .i64 0, .int .i64 0, .string ⟨#[]⟩, .int .i64 0, .string ⟨#[]⟩, .int .i64 0, .string ⟨#[]⟩] 35 (0, 0)) := by rw [← hW5]; exact (setRow_other _ _ _ _ (by omega)).trans (hkeep hz3 hb4.2)
  have hp5 : W5.heap[w3.heap.size]? = some (.cells A 35 (0, 0)) := by rw [← hW5]; exact setRow_heap _ _ _ _ _ _ hb4.1
  have hbel : Below w.heap.size w W5 := hr5.2.below HG.out.2.1 HG.out.2.1.size (fun k hk => by omega)
  have H5 : Hid (Rg W5 W.heap.size (.slice ad l.length cap) l s1 ∧ W5.heap[w.heap.size]? = some (.cells #[.int .i64 0, .int .i64 0, .int .i64 0, .int .i64 0, .int .i64 0, .int .i64 0, .string ⟨#[]⟩, .bool false, .int .i64 0, .int .i64 0, .int .i64 0, .string ⟨#[]⟩, .int .i64 0, .int .i64 0, .int .i64 0, .int .i64 0, .int .i64 0, .string ⟨#[]⟩, .int .i64 0, .string ⟨#[]⟩, .int .i64 0, .string ⟨#[]⟩] 35 (0, 0)) ∧ W5.heap[w3.heap.size]? = some (.cells A 35 (0, 0)) ∧ Below w.heap.size w W5 ∧ w.heap.size < w3.heap.size) := ⟨hr5.1, hz5, hp5, hbel, by omega⟩
  clear hW4 hW5 nt h23 hlt2 hlt3 hb4 hr5 hz3 hz5 hp5 hbel h3 HMs HG
  cases D with
  | false =>
    go_upto_region 4 with (go_at_call 46; refine (HDn.out W5 H5.out.1).mono ?_; rintro e w7 ⟨rfl, hb7⟩)
    obtain ⟨W8, hW8⟩ : ∃ W, w7.setRow w.heap.size #[.int .i64 0, .int .i64 0, .int .i64 0, .int .i64 0, .int .i64 0, .int .i64 0, .string ⟨#[]⟩, .bool false, .int .i64 0, .int .i64 0, .int .i64 0, .string ⟨#[]⟩, .int .i64 0, .int .i64 0, .int .i64 0, .int .i64 0, .int .i64 0, .string ⟨#[]⟩, .int .i64 0, .string ⟨#[]⟩, .int .i64 0, .string ⟨#[]⟩] = W := ⟨_, rfl⟩
    have nt2 := noteT_of (hkeep H5.out.2.1 hb7) rfl rfl (by simp [Value.oneCell']) hW8
    have HF : Hid (W8.heap[w.heap.size]? = some (.cells #[.int .i64 0, .int .i64 0, .int .i64 0, .int .i64 0, .int .i64 0, .int .i64 0, .string ⟨#[]⟩, .bool false, .int .i64 0, .int .i64 0, .int .i64 0, .string ⟨#[]⟩, .int .i64 0, .int .i64 0, .int .i64 0, .int .i64 0, .int .i64 0, .string ⟨#[]⟩, .int .i64 0, .string ⟨#[]⟩, .int .i64 0, .string ⟨#[]⟩] 35 (0, 0)) ∧ Below w.heap.size w W8) := by
      rw [← hW8]
      exact ⟨setRow_heap _ _ _ _ _ _ (hkeep H5.out.2.1 hb7), below_setRow (chainB H5.out.2.2.2.1 hb7) (Nat.le_refl _) _⟩
    clear hW8 hb7
    go_wp2
    refine bodyPost_ret (ret_note2 rfl _ _ w.heap.size rfl HF.out.1 rfl) rfl ?_
    exact unpack_no HP.out.1 (.inl HDe.out) rfl HF.out.2
  | true =>
    cases P with
    | false =>
      go_upto_region 4 with (first
        | (go_at_call 47; refine (HPl.out w7).mono ?_; rintro e w8 ⟨rfl, hb8⟩)
        | (go_at_call 46; refine (HDn.out W5 H5.out.1).mono ?_; rintro e w7 ⟨rfl, hb7⟩; have nl := noteS_of (hkeep H5.out.2.2.1 hb7) HZ.out.1))
      have hc := chainB hb7 hb8
      obtain ⟨W8, hW8⟩ : ∃ W, w8.setRow w.heap.size #[.int .i64 0, .int .i64 0, .int .i64 0, .int .i64 0, .int .i64 0, .int .i64 0, .string ⟨#[]⟩, .bool false, .int .i64 0, .int .i64 0, .int .i64 0, .string ⟨#[]⟩, .int .i64 0, .int .i64 0, .int .i64 0, .int .i64 0, .int .i64 0, .string ⟨#[]⟩, .int .i64 0, .string ⟨#[]⟩, .int .i64 0, .string ⟨#[]⟩] = W := ⟨_, rfl⟩
      have nt2 := noteT_of (hkeep H5.out.2.1 hc) rfl rfl (by simp [Value.oneCell']) hW8
      have HF : Hid (W8.heap[w.heap.size]? = some (.cells #[.int .i64 0, .int .i64 0, .int .i64 0, .int .i64 0, .int .i64 0, .int .i64 0, .string ⟨#[]⟩, .bool false, .int .i64 0, .int .i64 0, .int .i64 0, .string ⟨#[]⟩, .int .i64 0, .int .i64 0, .int .i64 0, .int .i64 0, .int .i64 0, .string ⟨#[]⟩, .int .i64 0, .string ⟨#[]⟩, .int .i64 0, .string ⟨#[]⟩] 35 (0, 0)) ∧ Below w.heap.size w W8) := by
        rw [← hW8]
        exact ⟨setRow_heap _ _ _ _ _ _ (hkeep H5.out.2.1 hc), below_setRow (chainB H5.out.2.2.2.1 hc) (Nat.le_refl _) _⟩
      clear hW8 hb7 hb8 hc nl
      go_wp2
      refine bodyPost_ret (ret_note2 rfl _ _ w.heap.size rfl HF.out.1 rfl) rfl ?_
      exact unpack_no HP.out.1 (.inr HPe.out) rfl HF.out.2
    | true =>
      go_upto_region 5 with (first
        | (go_at_call 47; refine (HPl.out w7).mono ?_; rintro e w8 ⟨rfl, hb8⟩)
        | (go_at_call 46; refine (HDn.out W5 H5.out.1).mono ?_; rintro e w7 ⟨rfl, hb7⟩; have nl := noteS_of (hkeep H5.out.2.2.1 hb7) HZ.out.1))
      have hc := chainB hb7 hb8
      have nl2 := noteS_of (hkeep H5.out.2.2.1 hc) HZ.out.1
      obtain ⟨W8, hW8⟩ : ∃ W, w8.setRow w.heap.size A = W := ⟨_, rfl⟩
      have nt2 := noteT_of (hkeep H5.out.2.1 hc) rfl HZ.out.1 HZ.out.2 hW8
      have HF : Hid (W8.heap[w.heap.size]? = some (.cells A 35 (0, 0)) ∧ Below w.heap.size w W8) := by
        rw [← hW8]
        exact ⟨setRow_heap _ _ _ _ _ _ (hkeep H5.out.2.1 hc), below_setRow (chainB H5.out.2.2.2.1 hc) (Nat.le_refl _) _⟩
      clear hW8 hb7 hb8 hc nl
      go_wp2
      refine bodyPost_ret (ret_note2 rfl _ _ w.heap.size rfl HF.out.1 HZ.out.1) rfl ?_
      exact unpack_yes HP.out.2 HP.out.1 HDe.out HPe.out (by rw [HA.out]; rfl) HF.out.2
end Go.Proofs.Ytihjhaafmdobmab
