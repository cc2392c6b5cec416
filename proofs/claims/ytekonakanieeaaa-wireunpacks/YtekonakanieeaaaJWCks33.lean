/- Unpack. -/
import Derived.Test.YtekonakanieeaaaJWCks31
import Derived.Test.YtekonakanieeaaaJWCks32
import Derived.Test.YtekonakanieeaaaJWCks14
import Derived.Test.YtekonakanieeaaaJWCks24
namespace Go.Proofs.Ytekonakanieeaaa
section
open Go.RowKit Go.Lib
attribute [local go_sem ↓ high] loadN storeN

theorem ret_note2 {fn : Func} {p u : Tmp} (h : fn.results = #[.cell p 48, .tmp u]) (tmps : Array Value) (w : World) (g : Nat) {t : TypeId} {cs : Array Value} {fr : Nat × Nat} (hp : tmps.getD p undef = .pointer (some ⟨g, 0, none⟩)) (hg : w.heap[g]? = some (.cells cs t fr)) (hs : cs.size = 22) :
    (results fn tmps).run Try.prog w = .ok (.tuple #[.agg cs, tmps.getD u undef]) w := by
  rw [results_cell_tmp h, hp]
  simp [asAddr, run_loadVar_row w g t 48 _ fr _ hg Try.underlying48 rfl (by rw [hs]; exact Try.sizeNote), Result.andThen]
/-- what Unpack answers -/
def UnpR (l : List Int) (w w' : World) (e : Ending) : Prop :=
  (∃ n, noteOk n ∧ noteB n = l ∧ e = .returned (.tuple #[.agg n.arr, .int .i64 0]) ∧ Below w.heap.size w w') ∨
  ((∀ n, noteOk n → noteB n ≠ l) ∧ e = .returned (.tuple #[.agg zeroNt.arr, .int .i64 50]) ∧ Below w.heap.size w w')
theorem unpack_no {l : List Int} {w w' : World} {e : Ending} {n : Nt} {s : St} (hl : noteP (some l) = (n, s)) (hno : doneB s = false ∨ plainN n = false) (he : e = .returned (.tuple #[.agg zeroNt.arr, .int .i64 50])) (hb : Below w.heap.size w w') : UnpR l w w' e := by
  refine .inr ⟨fun m hm hB => ?_, he, hb⟩
  have h1 := noteP_back hm []
  rw [List.append_nil, hB, hl] at h1
  obtain ⟨rfl, rfl⟩ := Prod.mk.inj h1
  rcases hno with h | h
  · cases h
  · rw [(plainN_iff _).2 hm] at h; cases h
theorem unpack_yes {l : List Int} {w w' : World} {e : Ending} {n : Nt} {s : St} (hby : Byt l) (hl : noteP (some l) = (n, s)) (hd : doneB s = true) (hp : plainN n = true) (he : e = .returned (.tuple #[.agg n.arr, .int .i64 0])) (hb : Below w.heap.size w w') : UnpR l w w' e := by
  refine .inl ⟨n, (plainN_iff _).1 hp, ?_, he, hb⟩
  have hs := (doneB_iff _).1 hd
  rw [hs] at hl
  have := noteP_forth hby hl
  rw [List.append_nil] at this
  exact this.symm
set_option maxRecDepth 20000 in
set_option maxHeartbeats 8000000 in
theorem unpack_p (v : Value) (l : List Int) (w : World) (hr : RC w v l) (hl : Byt l) (hlim : l.length ≤ 140737488355328) : Calls Try.prog 11 #[v] w fun e w' => UnpR l w w' e := by
  obtain ⟨ad, cap, rfl, _, _⟩ := id hr
  obtain ⟨W, hW⟩ : ∃ W, w.alloc (.cells #[.int .i64 0, .int .i64 0, .int .i64 0, .int .i64 0, .int .i64 0, .int .i64 0, .string ⟨#[]⟩, .bool false, .int .i64 0, .int .i64 0, .int .i64 0, .string ⟨#[]⟩, .int .i64 0, .int .i64 0, .int .i64 0, .int .i64 0, .int .i64 0, .string ⟨#[]⟩, .int .i64 0, .string ⟨#[]⟩, .int .i64 0, .string ⟨#[]⟩] 48) = W := ⟨_, rfl⟩
  obtain ⟨W2, hW2⟩ : ∃ W2, W.alloc (.cells #[.slice ad l.length cap, .int .i64 0, .bool false] 65) = W2 := ⟨_, rfl⟩
  have HW2 : Hid (W.alloc (.cells #[.slice ad l.length cap, .int .i64 0, .bool false] 65) = W2) := hW2
  have hb := boxB hW
  have hb2 := boxB hW2
  have hg := new_reader hr hl hlim hb.2 hW2
  have hlt := (Array.getElem?_eq_some_iff.1 hb.1).1
  have HG : Hid (Rg W2 W.heap.size (.slice ad l.length cap) l (some l) ∧ Below w.heap.size w W2 ∧ W2.heap[w.heap.size]? = some (.cells #[.int .i64 0, .int .i64 0, .int .i64 0, .int .i64 0, .int .i64 0, .int .i64 0, .string ⟨#[]⟩, .bool false, .int .i64 0, .int .i64 0, .int .i64 0, .string ⟨#[]⟩, .int .i64 0, .int .i64 0, .int .i64 0, .int .i64 0, .int .i64 0, .string ⟨#[]⟩, .int .i64 0, .string ⟨#[]⟩, .int .i64 0, .string ⟨#[]⟩] 48 (0, 0)) ∧ w.heap.size < W.heap.size) := ⟨hg, chainB hb.2 hb2.2, hkeep hb.1 hb2.2, hlt⟩
  have HMs : Hid (Calls Try.prog 26 #[.pointer (some ⟨W.heap.size, 0, none⟩)] W2 fun e w' => RdR W2 W.heap.size (.slice ad l.length cap) l (noteP (some l)).2 (.agg (noteP (some l)).1.arr) e w') := note_r hg
  obtain ⟨n, hn⟩ : ∃ n, (noteP (some l)).1 = n := ⟨_, rfl⟩
  obtain ⟨s1, hs1⟩ : ∃ s, (noteP (some l)).2 = s := ⟨_, rfl⟩
  have HP : Hid (noteP (some l) = (n, s1) ∧ Byt l) := ⟨Prod.ext hn hs1, hl⟩
  rw [hn, hs1] at HMs
  have HPl : Hid (∀ W2, Calls Try.prog 27 #[.agg n.arr] W2 fun e w' => e = .returned (.bool (plainN n)) ∧ Below W2.heap.size W2 w') := fun W2 => plainNote_p n W2
  obtain ⟨P, hP⟩ : ∃ x, plainN n = x := ⟨_, rfl⟩
  have HPe : Hid (plainN n = P) := hP
  rw [hP] at HPl
  obtain ⟨D, hD⟩ : ∃ x, doneB s1 = x := ⟨_, rfl⟩
  have HDe : Hid (doneB s1 = D) := hD
  have HDn : Hid (∀ W3, Rg W3 W.heap.size (.slice ad l.length cap) l s1 → Calls Try.prog 20 #[.pointer (some ⟨W.heap.size, 0, none⟩)] W3 fun e w' => e = .returned (.bool D) ∧ Below W3.heap.size W3 w') := fun W3 h3 => by rw [← hD]; exact done_r h3
  have hsz : n.arr.size = 22 := rfl
  have hone : n.arr.all (·.oneCell') = true := by unfold Nt.arr; simp [Value.oneCell']
  obtain ⟨A, hA⟩ : ∃ x, n.arr = x := ⟨_, rfl⟩
  have HA : Hid (n.arr = A) := hA
  rw [hA] at HMs HPl hsz hone
  have HZ : Hid (A.size = 22 ∧ A.all (·.oneCell') = true) := ⟨hsz, hone⟩
  clear hr hl hlim hb hb2 hg hlt hn hs1 hP hD hsz hone hA hW2
  go_enter Try.func11, Try.ntmps11
  go_upto_region 1 with fail
  clear hW
  go_upto_region 2 with fail
  rw [HW2.out]
  go_upto_region 3 with (go_at_call 26; refine HMs.out.mono ?_; rintro e w3 ⟨rfl, h3⟩; obtain ⟨W4, hW4⟩ : ∃ W4, w3.alloc (.cells #[.int .i64 0, .int .i64 0, .int .i64 0, .int .i64 0, .int .i64 0, .int .i64 0, .string ⟨#[]⟩, .bool false, .int .i64 0, .int .i64 0, .int .i64 0, .string ⟨#[]⟩, .int .i64 0, .int .i64 0, .int .i64 0, .int .i64 0, .int .i64 0, .string ⟨#[]⟩, .int .i64 0, .string ⟨#[]⟩, .int .i64 0, .string ⟨#[]⟩] 48) = W4 := ⟨_, rfl⟩; obtain ⟨W5, hW5⟩ : ∃ W5, W4.setRow w3.heap.size A = W5 := ⟨_, rfl⟩; have nt := noteT_of (boxB hW4).1 rfl HZ.out.1 HZ.out.2 hW5)
  have h23 : W2.heap.size ≤ w3.heap.size := h3.out.2.size
  have hlt2 := HG.out.1.lt
  have hlt3 := HG.out.2.2.2
  have hb4 := boxB hW4
  have hr5 : Red W2 W5 W.heap.size (.slice ad l.length cap) l s1 := by
    rw [← hW5]
    exact Red.box (g := w3.heap.size) ⟨h3.out.1.below hb4.2, h3.out.2.trans (Only.of hb4.2)⟩ HG.out.1 (setRow_only _ _ _) h23
  have hz3 : w3.heap[w.heap.size]? = some (.cells #[.int .i64 0, .int .i64 0, .int .i64 0, .int .i64 0, .int .i64 0, .int .i64 0, .string ⟨#[]⟩, .bool false, .int .i64 0, .int .i64 0, .int .i64 0, .string ⟨#[]⟩, .int .i64 0, .int .i64 0, .int .i64 0, .int .i64 0, .int .i64 0, .string ⟨#[]⟩, .int .i64 0, .string ⟨#[]⟩, .int .i64 0, .string ⟨#[]⟩] 48 (0, 0)) := (h3.out.2.block _ (by omega) (by omega)).trans HG.out.2.2.1
  have hz5 : W5.heap[w.heap.size]? = some (.cells #[.int .i64 0, .int .i64 0, .int .i64 0, .int .i64 0, .int .i64 0, .int .i64 0, .string ⟨#[]⟩, .bool false, .int .i64 0, .int .i64 0, .int .i64 0, .string ⟨#[]⟩, .int .i64 0, .int .i64 0, .int .i64 0, .int .i64 0, .int .i64 0, .string ⟨#[]⟩, .int .i64 0, .string ⟨#[]⟩, .int .i64 0, .string ⟨#[]⟩] 48 (0, 0)) := by rw [← hW5]; exact (setRow_other _ _ _ _ (by omega)).trans (hkeep hz3 hb4.2)
  have hp5 : W5.heap[w3.heap.size]? = some (.cells A 48 (0, 0)) := by rw [← hW5]; exact setRow_heap _ _ _ _ _ _ hb4.1
  have hbel : Below w.heap.size w W5 := hr5.2.below HG.out.2.1 HG.out.2.1.size (fun k hk => by omega)
  have H5 : Hid (Rg W5 W.heap.size (.slice ad l.length cap) l s1 ∧ W5.heap[w.heap.size]? = some (.cells #[.int .i64 0, .int .i64 0, .int .i64 0, .int .i64 0, .int .i64 0, .int .i64 0, .string ⟨#[]⟩, .bool false, .int .i64 0, .int .i64 0, .int .i64 0, .string ⟨#[]⟩, .int .i64 0, .int .i64 0, .int .i64 0, .int .i64 0, .int .i64 0, .string ⟨#[]⟩, .int .i64 0, .string ⟨#[]⟩, .int .i64 0, .string ⟨#[]⟩] 48 (0, 0)) ∧ W5.heap[w3.heap.size]? = some (.cells A 48 (0, 0)) ∧ Below w.heap.size w W5 ∧ w.heap.size < w3.heap.size) := ⟨hr5.1, hz5, hp5, hbel, by omega⟩
  clear hW4 hW5 nt h23 hlt2 hlt3 hb4 hr5 hz3 hz5 hp5 hbel h3 HMs HG
  cases D with
  | false =>
    go_upto_region 4 with (go_at_call 20; refine (HDn.out W5 H5.out.1).mono ?_; rintro e w7 ⟨rfl, hb7⟩)
    obtain ⟨W8, hW8⟩ : ∃ W, w7.setRow w.heap.size #[.int .i64 0, .int .i64 0, .int .i64 0, .int .i64 0, .int .i64 0, .int .i64 0, .string ⟨#[]⟩, .bool false, .int .i64 0, .int .i64 0, .int .i64 0, .string ⟨#[]⟩, .int .i64 0, .int .i64 0, .int .i64 0, .int .i64 0, .int .i64 0, .string ⟨#[]⟩, .int .i64 0, .string ⟨#[]⟩, .int .i64 0, .string ⟨#[]⟩] = W := ⟨_, rfl⟩
    have nt2 := noteT_of (hkeep H5.out.2.1 hb7) rfl rfl (by simp [Value.oneCell']) hW8
    have HF : Hid (W8.heap[w.heap.size]? = some (.cells #[.int .i64 0, .int .i64 0, .int .i64 0, .int .i64 0, .int .i64 0, .int .i64 0, .string ⟨#[]⟩, .bool false, .int .i64 0, .int .i64 0, .int .i64 0, .string ⟨#[]⟩, .int .i64 0, .int .i64 0, .int .i64 0, .int .i64 0, .int .i64 0, .string ⟨#[]⟩, .int .i64 0, .string ⟨#[]⟩, .int .i64 0, .string ⟨#[]⟩] 48 (0, 0)) ∧ Below w.heap.size w W8) := by
      rw [← hW8]
      exact ⟨setRow_heap _ _ _ _ _ _ (hkeep H5.out.2.1 hb7), below_setRow (chainB H5.out.2.2.2.1 hb7) (Nat.le_refl _) _⟩
    clear hW8 hb7
    go_wp2
    refine bodyPost_ret (ret_note2 rfl _ _ w.heap.size rfl HF.out.1 rfl) rfl ?_
    exact unpack_no HP.out.1 (.inl HDe.out) rfl HF.out.2
  | true =>
    cases P with
    | false =>
      go_upto_region 4 with (first
        | (go_at_call 27; refine (HPl.out w7).mono ?_; rintro e w8 ⟨rfl, hb8⟩)
        | (go_at_call 20; refine (HDn.out W5 H5.out.1).mono ?_; rintro e w7 ⟨rfl, hb7⟩; have nl := noteS_of (hkeep H5.out.2.2.1 hb7) HZ.out.1))
      have hc := chainB hb7 hb8
      obtain ⟨W8, hW8⟩ : ∃ W, w8.setRow w.heap.size #[.int .i64 0, .int .i64 0, .int .i64 0, .int .i64 0, .int .i64 0, .int .i64 0, .string ⟨#[]⟩, .bool false, .int .i64 0, .int .i64 0, .int .i64 0, .string ⟨#[]⟩, .int .i64 0, .int .i64 0, .int .i64 0, .int .i64 0, .int .i64 0, .string ⟨#[]⟩, .int .i64 0, .string ⟨#[]⟩, .int .i64 0, .string ⟨#[]⟩] = W := ⟨_, rfl⟩
      have nt2 := noteT_of (hkeep H5.out.2.1 hc) rfl rfl (by simp [Value.oneCell']) hW8
      have HF : Hid (W8.heap[w.heap.size]? = some (.cells #[.int .i64 0, .int .i64 0, .int .i64 0, .int .i64 0, .int .i64 0, .int .i64 0, .string ⟨#[]⟩, .bool false, .int .i64 0, .int .i64 0, .int .i64 0, .string ⟨#[]⟩, .int .i64 0, .int .i64 0, .int .i64 0, .int .i64 0, .int .i64 0, .string ⟨#[]⟩, .int .i64 0, .string ⟨#[]⟩, .int .i64 0, .string ⟨#[]⟩] 48 (0, 0)) ∧ Below w.heap.size w W8) := by
        rw [← hW8]
        exact ⟨setRow_heap _ _ _ _ _ _ (hkeep H5.out.2.1 hc), below_setRow (chainB H5.out.2.2.2.1 hc) (Nat.le_refl _) _⟩
      clear hW8 hb7 hb8 hc nl
      go_wp2
      refine bodyPost_ret (ret_note2 rfl _ _ w.heap.size rfl HF.out.1 rfl) rfl ?_
      exact unpack_no HP.out.1 (.inr HPe.out) rfl HF.out.2
    | true =>
      go_upto_region 5 with (first
        | (go_at_call 27; refine (HPl.out w7).mono ?_; rintro e w8 ⟨rfl, hb8⟩)
        | (go_at_call 20; refine (HDn.out W5 H5.out.1).mono ?_; rintro e w7 ⟨rfl, hb7⟩; have nl := noteS_of (hkeep H5.out.2.2.1 hb7) HZ.out.1))
      have hc := chainB hb7 hb8
      have nl2 := noteS_of (hkeep H5.out.2.2.1 hc) HZ.out.1
      obtain ⟨W8, hW8⟩ : ∃ W, w8.setRow w.heap.size A = W := ⟨_, rfl⟩
      have nt2 := noteT_of (hkeep H5.out.2.1 hc) rfl HZ.out.1 HZ.out.2 hW8
      have HF : Hid (W8.heap[w.heap.size]? = some (.cells A 48 (0, 0)) ∧ Below w.heap.size w W8) := by
        rw [← hW8]
        exact ⟨setRow_heap _ _ _ _ _ _ (hkeep H5.out.2.1 hc), below_setRow (chainB H5.out.2.2.2.1 hc) (Nat.le_refl _) _⟩
      clear hW8 hb7 hb8 hc nl
      go_wp2
      refine bodyPost_ret (ret_note2 rfl _ _ w.heap.size rfl HF.out.1 HZ.out.1) rfl ?_
      exact unpack_yes HP.out.2 HP.out.1 HDe.out HPe.out (by rw [HA.out]; rfl) HF.out.2
end
section
open Go.RowKit Go.Lib
attribute [local go_sem ↓ high] loadN
variable {Bq : Nat}

theorem rc_low {w : World} {b : Value} {l : List Int} (h : RC w b l) : l = [] ∨ ∃ g off n c, b = .slice (some ⟨g, off, none⟩) n c ∧ g < w.heap.size := by
  obtain ⟨a, c, e, _, hc⟩ := h
  rcases hc with hc | ⟨g, off, e', hg, _⟩
  · exact .inl hc
  · subst e'; exact .inr ⟨g, off, _, _, e, hg⟩
theorem entF_back (e : En) (r : List Int) (h : entOk e) : entF (some (entB e ++ r)) = (e, some r) := by
  obtain ⟨d, nm, neg, id, kind, mode, tg⟩ := e
  obtain ⟨⟨h1, h2⟩, h3⟩ := h
  have e1 : entB ⟨d, nm, neg, id, kind, mode, tg⟩ ++ r = numI d ++ (textB nm ++ ((if neg then [1] else 0 :: nodeB ⟨d, nm, neg, id, kind, mode, tg⟩) ++ r)) := by
    unfold entB keyB; simp only [List.append_assoc]
  rw [e1]
  unfold entF
  simp only []
  rw [num6_i _ _ h1]
  simp only []
  rw [strF_back _ _ h2]
  simp only []
  cases neg with
  | true =>
    simp only [if_true] at h3 ⊢
    obtain ⟨a, b, c, t⟩ := h3
    simp only [] at a b c t
    subst a b c t
    simp [octP]
  | false =>
    simp only [Bool.false_eq_true, if_false] at h3 ⊢
    obtain ⟨a, b, c, t⟩ := h3
    simp only [] at a b c t
    unfold nodeB
    simp only [List.cons_append, List.append_assoc, octP]
    rw [if_neg (by decide)]
    rw [num6_i _ _ a]
    simp only []
    rw [num6_i _ _ b]
    simp only []
    rw [strF_back _ _ t]
    simp
/-- a note, as the chapter's own reading does it -/
def ntF (k : Int) (s : St) : Nt × St :=
  if k = 1 then ({ zeroNt with kind := k, epoch := (numF 6 1 0 s).1 }, (numF 6 1 0 s).2)
  else if k = 2 then ({ zeroNt with kind := k, epoch := (numF 6 1 0 s).1, vers := (numF 6 1 0 (numF 6 1 0 s).2).1, next := (numF 6 1 0 (numF 6 1 0 (numF 6 1 0 s).2).2).1 }, (numF 6 1 0 (numF 6 1 0 (numF 6 1 0 s).2).2).2)
  else if k = 3 then ({ zeroNt with kind := k, e := (entF s).1 }, (entF s).2)
  else if k = 4 then ({ zeroNt with kind := k, client := (numF 6 1 0 s).1, life := (numF 6 1 0 (numF 6 1 0 s).2).1, seq := (numF 6 1 0 (numF 6 1 0 (numF 6 1 0 s).2).2).1, err := (numF 6 1 0 (numF 6 1 0 (numF 6 1 0 (numF 6 1 0 s).2).2).2).1 }, (numF 6 1 0 (numF 6 1 0 (numF 6 1 0 (numF 6 1 0 s).2).2).2).2)
  else if k = 5 then ({ zeroNt with kind := k, client := (numF 6 1 0 s).1, life := (numF 6 1 0 (numF 6 1 0 s).2).1, seq := (numF 6 1 0 (numF 6 1 0 (numF 6 1 0 s).2).2).1, err := (numF 6 1 0 (numF 6 1 0 (numF 6 1 0 (numF 6 1 0 s).2).2).2).1, op := (opF (numF 6 1 0 (numF 6 1 0 (numF 6 1 0 (numF 6 1 0 s).2).2).2).2).1 }, (opF (numF 6 1 0 (numF 6 1 0 (numF 6 1 0 (numF 6 1 0 s).2).2).2).2).2)
  else ({ zeroNt with kind := k }, s)
def noteF (s : St) : Nt × St := ntF (octP s).1 (octP s).2
theorem ntF_back {n : Nt} (h : noteOk n) (r : List Int) : ntF n.kind (some (ntB n ++ r)) = (n, some r) := by
  obtain ⟨h0, h1, h2⟩ := h
  unfold onlyN at h0
  unfold ntF ntB
  rcases h2 with h2 | h2 | h2 | ⟨h2, _, h3⟩ | ⟨h2, h3⟩
  · rw [if_pos h2, if_pos h2, num6_i _ _ h1.epoch]
    rw [if_pos h2] at h0
    simp only [h2]; rw [← h0]
  · have n1 : ¬ n.kind = 1 := by omega
    rw [if_neg n1, if_pos h2, if_neg n1, if_pos h2]
    rw [if_neg n1, if_pos h2] at h0
    simp only [List.append_assoc, num6_i _ _ h1.epoch, num6_i _ _ h1.vers, num6_i _ _ h1.next, h2]; rw [← h0]
  · have n1 : ¬ n.kind = 1 := by omega
    have n2 : ¬ n.kind = 2 := by omega
    have n3 : ¬ n.kind = 3 := by omega
    rw [if_neg n1, if_neg n2, if_neg n3, if_pos h2, if_neg n1, if_neg n2, if_neg n3, if_pos h2]
    rw [if_neg n1, if_neg n2, if_neg n3, if_pos h2] at h0
    unfold seenB
    simp only [List.append_assoc, num6_i _ _ h1.client, num6_i _ _ h1.life, num6_i _ _ h1.seq, num6_i _ _ h1.err, h2]; rw [← h0]
  · have n1 : ¬ n.kind = 1 := by omega
    have n2 : ¬ n.kind = 2 := by omega
    rw [if_neg n1, if_neg n2, if_pos h2, if_neg n1, if_neg n2, if_pos h2]
    rw [if_neg n1, if_neg n2, if_pos h2] at h0
    simp only [entF_back _ _ h3, h2]; rw [← h0]
  · have n1 : ¬ n.kind = 1 := by omega
    have n2 : ¬ n.kind = 2 := by omega
    have n3 : ¬ n.kind = 3 := by omega
    have n4 : ¬ n.kind = 4 := by omega
    rw [if_neg n1, if_neg n2, if_neg n3, if_neg n4, if_pos h2, if_neg n1, if_neg n2, if_neg n3, if_neg n4, if_pos h2]
    rw [if_neg n1, if_neg n2, if_neg n3, if_neg n4, if_pos h2] at h0
    unfold seenB
    simp only [List.append_assoc, num6_i _ _ h1.client, num6_i _ _ h1.life, num6_i _ _ h1.seq, num6_i _ _ h1.err, opF_back _ _ h3, h2]; rw [← h0]
theorem noteF_back {n : Nt} (h : noteOk n) : noteF (some (noteB n)) = (n, some []) := by
  unfold noteF noteB
  show ntF n.kind (some (ntB n)) = _
  have := ntF_back h []
  rw [List.append_nil] at this
  exact this
/-- what the document's Unpack answers is what the program's does -/
theorem unpd_no {l : List Int} {w w' : World} {e : Ending} {n : Nt} {s : St} (hl : noteF (some l) = (n, s)) (hno : s ≠ some [] ∨ plainN n = false ∨ l ≠ noteB n) (he : e = .returned (.tuple #[.agg zeroNt.arr, .int .i64 50])) (hb : Below w.heap.size w w') : UnpR l w w' e := by
  refine .inr ⟨fun m hm hB => ?_, he, hb⟩
  have h1 := noteF_back hm
  rw [hB, hl] at h1
  obtain ⟨rfl, rfl⟩ := Prod.mk.inj h1
  rcases hno with h | h | h
  · exact h rfl
  · rw [(plainN_iff _).2 hm] at h; cases h
  · exact h hB.symm
theorem unpd_yes {l : List Int} {w w' : World} {e : Ending} {n : Nt} (hp : plainN n = true) (hB : l = noteB n) (he : e = .returned (.tuple #[.agg n.arr, .int .i64 0])) (hb : Below w.heap.size w w') : UnpR l w w' e :=
  .inl ⟨n, (plainN_iff _).1 hp, hB.symm, he, hb⟩
theorem OG.setO {w Z0 Z Z' : World} {i o : Nat} {to_ : TypeId} {b : Value} {k : Bool} {s : St} {cs cs' : Array Value} (h : OG Bq w Z0 Z i o to_ b k s cs) (hY : Only (· = o) Z Z') (hown : Z'.heap[o]? = some (.cells cs' to_ (0, 0))) (hio : i ≠ o) (ho : w.heap.size ≤ o) (hn : ∀ (m : Nat) (x : Int), cs[m]? ≠ some (.int .u8 x)) : OG Bq w Z0 Z' i o to_ b k s cs' :=
  ⟨(hY.block i (Array.getElem?_eq_some_iff.1 h.box).1 hio).trans h.box, hown, below_on1 h.bel hY ho, h.ri.farO h.own hn hY, h.only.trans (hY.mono fun _ h => .inr h)⟩
theorem take_len_eq6 {l l' : List Int} {k : Nat} (h : l.take k = l'.take k) (hk : k = l.length) (hk' : k = l'.length) : l = l' := by
  rw [List.take_of_length_le (by omega), List.take_of_length_le (by omega)] at h; exact h
theorem take_snoc6 {l l' : List Int} {k : Nat} {x : Int} (h : l.take k = l'.take k) (h1 : l[k]? = some x) (h2 : l'[k]? = some x) : l.take (k + 1) = l'.take (k + 1) := by
  rw [List.take_add_one, List.take_add_one, h, h1, h2]
set_option maxHeartbeats 1000000 in
theorem same6_any (v v' : Value) (l l' : List Int) (w : World) (h : RB w v l) (h' : RB w v' l') (hl : l.length ≤ 140737488351232) (hl' : l'.length ≤ 140737488351232) :
    Calls Try.prog 23 #[v, v'] w fun e w' => e = .returned (.bool (decide (l = l'))) ∧ Below w.heap.size w w' := by
  have hL := hl
  have hL' := hl'
  obtain ⟨a, cap, rfl, h1⟩ := h
  obtain ⟨a', cap', rfl, h1'⟩ := h'
  clear hl hl'
  by_cases hn : l.length = l'.length
  · have HC : Hid (∀ k x, l[k]? = some x → ∃ g off, a = some ⟨g, off, none⟩ ∧ g < w.heap.size ∧ w.cell? ⟨g, off + k, none⟩ = some (.int .u8 x)) := fun k x hx => by
      rcases h1 with rfl | ⟨g, off, e, hg, hc⟩
      · simp at hx
      · exact ⟨g, off, e, hg, hc k x hx⟩
    have HC' : Hid (∀ k x, l'[k]? = some x → ∃ g off, a' = some ⟨g, off, none⟩ ∧ g < w.heap.size ∧ w.cell? ⟨g, off + k, none⟩ = some (.int .u8 x)) := fun k x hx => by
      rcases h1' with rfl | ⟨g, off, e, hg, hc⟩
      · simp at hx
      · exact ⟨g, off, e, hg, hc k x hx⟩
    obtain ⟨n, hn1⟩ : ∃ n, l.length = n := ⟨_, rfl⟩
    have hn2 : l'.length = n := by omega
    have HN : Hid (l.length = n ∧ l'.length = n) := ⟨hn1, hn2⟩
    rw [hn1] at hL
    rw [hn1, hn2]
    clear h1 h1' hn hn1 hn2 hL'
    go_enter Try.func23, Try.ntmps23
    go_wp2
    go_loopw [5] (fun i wr => ∃ k : Nat, k ≤ n ∧ i = .int .i64 k ∧ l.take k = l'.take k ∧ Below w.heap.size w wr) (fun i _ => n - (intOf i).toNat)
    case atStart => exact ⟨0, Nat.zero_le _, rfl, rfl, Below.refl _ _⟩
    case round =>
      obtain ⟨k, hk, rfl, ht, hb⟩ := hrel
      by_cases hlt : k < n
      · obtain ⟨x, hx⟩ : ∃ x, l[k]? = some x := ⟨_, List.getElem?_eq_getElem (by rw [HN.out.1]; exact hlt)⟩
        obtain ⟨x', hx'⟩ : ∃ x, l'[k]? = some x := ⟨_, List.getElem?_eq_getElem (by rw [HN.out.2]; exact hlt)⟩
        obtain ⟨g, off, rfl, hg, c1⟩ := HC.out k x hx
        obtain ⟨g', off', rfl, hg', c2⟩ := HC'.out k x' hx'
        have d1 := (hb.cell (p := ⟨g, off + k, none⟩) hg).trans c1
        have d2 := (hb.cell (p := ⟨g', off' + k, none⟩) hg').trans c2
        have hki : (k : Int) < (n : Int) := by omega
        by_cases hxx : x = x'
        · subst hxx
          have HT : Hid (l.take (k + 1) = l'.take (k + 1)) := take_snoc6 ht hx hx'
          clear hx hx' c1 c2 ht
          go_wp2
          go_quiet (fail)
          go_wp2
          go_roundw
          case rel => exact ⟨k + 1, by omega, by go_num, HT.out, below_drewN hb _⟩
          case measure => simp [intOf]; omega
        · have hne : (x != x') = true := by simpa using hxx
          have HE : Hid (decide (l = l') = false) := decide_eq_false (by rintro rfl; rw [hx] at hx'; exact hxx (Option.some.inj hx'))
          clear hx hx' c1 c2 ht hxx
          go_wp2
          go_quiet (fail)
          go_wp2
          go_ret
          exact ⟨by rw [HE.out]; rfl, below_drewN hb _⟩
      · have hkl : k = n := by omega
        subst hkl
        have HE : Hid (decide (l = l') = true) := decide_eq_true (take_len_eq6 ht HN.out.1.symm HN.out.2.symm)
        go_wp2
        go_ret
        exact ⟨by rw [HE.out]; rfl, hb⟩
  · have HE : Hid (decide (l = l') = false) := decide_eq_false (by rintro rfl; exact hn rfl)
    have hne : ((l.length : Int) != (l'.length : Int)) = true := by simp; omega
    clear h1 h1'
    go_enter Try.func23, Try.ntmps23
    go_wp2
    go_ret
    exact ⟨by rw [HE.out]; rfl, Below.refl _ _⟩
end
section
open Go.RowKit Go.Lib
attribute [local go_sem ↓ high] loadN storeN

set_option maxRecDepth 20000 in
set_option maxHeartbeats 16000000 in
theorem unpd_0 (a0 : Option Addr) (n0 c0 : Nat) (l : List Int) (w : World) (hr : RC w (.slice a0 n0 c0) l) (hby : Byt l) (hlim : l.length ≤ 140737488351232) (K : Int) (k1 : (K == 1) = false) (k2 : (K == 2) = false) (k3 : (K == 3) = false) (k4 : (K == 4) = false) (k5 : (K == 5) = false) (S1 : St) (hk : octP (some l) = (K, S1)) : Calls Try.prog 12 #[.slice a0 n0 c0] w fun e w' => UnpR l w w' e := by
  obtain ⟨Bq, hBq⟩ : ∃ B, B = w.heap.size := ⟨_, rfl⟩
  obtain ⟨W, hW⟩ : ∃ W, w.alloc (.cells #[.int .i64 0, .int .i64 0, .int .i64 0, .int .i64 0, .int .i64 0, .int .i64 0, .string ⟨#[]⟩, .bool false, .int .i64 0, .int .i64 0, .int .i64 0, .string ⟨#[]⟩, .int .i64 0, .int .i64 0, .int .i64 0, .int .i64 0, .int .i64 0, .string ⟨#[]⟩, .int .i64 0, .string ⟨#[]⟩, .int .i64 0, .string ⟨#[]⟩] 48) = W := ⟨_, rfl⟩
  obtain ⟨W2, hW2⟩ : ∃ W2, W.alloc (.cells #[.slice a0 n0 c0, .bool true] 68) = W2 := ⟨_, rfl⟩
  obtain ⟨W3, hW3⟩ : ∃ W3, W2.alloc (.cells #[.int .i64 0, .int .i64 0, .int .i64 0, .int .i64 0, .int .i64 0, .int .i64 0, .string ⟨#[]⟩, .bool false, .int .i64 0, .int .i64 0, .int .i64 0, .string ⟨#[]⟩, .int .i64 0, .int .i64 0, .int .i64 0, .int .i64 0, .int .i64 0, .string ⟨#[]⟩, .int .i64 0, .string ⟨#[]⟩, .int .i64 0, .string ⟨#[]⟩] 48) = W3 := ⟨_, rfl⟩
  have b1 := boxB hW
  have b2 := boxB hW2
  have b3 := boxB hW3
  have hs1 : w.heap.size < W.heap.size := by rw [← hW]; simp
  have hs2 : W.heap.size < W2.heap.size := by rw [← hW2]; simp
  have hs3 : W2.heap.size < W3.heap.size := by rw [← hW3]; simp
  have HL : Hid (w.heap.size < W.heap.size ∧ W.heap.size < W2.heap.size ∧ W2.heap.size < W3.heap.size) := ⟨hs1, hs2, hs3⟩
  have HI : Hid (W.heap.size ≠ W2.heap.size ∧ w.heap.size ≤ W.heap.size ∧ w.heap.size ≤ W2.heap.size) := ⟨by omega, by omega, by omega⟩
  have hB3 := chainB b1.2 (chainB b2.2 b3.2)
  have G0 : Hid (OG Bq w W3 W3 W.heap.size W2.heap.size 48 (.slice a0 n0 c0) true (some l) #[.int .i64 0, .int .i64 0, .int .i64 0, .int .i64 0, .int .i64 0, .int .i64 0, .string ⟨#[]⟩, .bool false, .int .i64 0, .int .i64 0, .int .i64 0, .string ⟨#[]⟩, .int .i64 0, .int .i64 0, .int .i64 0, .int .i64 0, .int .i64 0, .string ⟨#[]⟩, .int .i64 0, .string ⟨#[]⟩, .int .i64 0, .string ⟨#[]⟩]) := ⟨hkeep b2.1 b3.2, b3.1, hB3, ⟨l, hr.below hB3, ⟨hby, by rw [hBq]; exact rc_low hr⟩, hlim, .inl ⟨rfl, rfl⟩⟩, Only.refl _ _⟩
  have HR : Hid (W3.heap[w.heap.size]? = some (.cells #[.int .i64 0, .int .i64 0, .int .i64 0, .int .i64 0, .int .i64 0, .int .i64 0, .string ⟨#[]⟩, .bool false, .int .i64 0, .int .i64 0, .int .i64 0, .string ⟨#[]⟩, .int .i64 0, .int .i64 0, .int .i64 0, .int .i64 0, .int .i64 0, .string ⟨#[]⟩, .int .i64 0, .string ⟨#[]⟩, .int .i64 0, .string ⟨#[]⟩] 48 (0, 0)) ∧ RC w (.slice a0 n0 c0) l ∧ l.length ≤ 140737488351232) := ⟨hkeep b1.1 (chainB b2.2 b3.2), hr, hlim⟩
  clear b1 b2 b3 hs1 hs2 hs3 hB3 hr hby hlim hBq
  have H1 : Hid (∀ W a n c k, RI Bq W (.slice a n c) k (some l) → Calls Try.prog 28 #[.agg #[.slice a n c, .bool k]] W fun e w' => ∃ a1 m1 c1 k1, e = .returned (.tuple #[.int .i64 K, .agg #[.slice a1 m1 c1, .bool k1]]) ∧ Hid (RI Bq w' (.slice a1 m1 c1) k1 S1) ∧ Below W.heap.size W w') := fun W a n c k hr => (byte_d hr).mono fun e w' ⟨b1, ok1, he, hr, hb⟩ => by
    obtain ⟨a1, m1, c1, rfl⟩ := hr.out.form
    rw [hk] at he hr
    exact ⟨a1, m1, c1, ok1, he, hr, hb⟩
  obtain ⟨nt, hnt⟩ : ∃ n : Nt, n = ⟨K, 0, 0, 0, 0, nilEn, 0, 0, 0, zeroOp⟩ := ⟨_, rfl⟩
  have HN : Hid (noteF (some l) = (nt, S1)) := by
    show _ = _
    rw [hnt]
    unfold noteF
    rw [hk]
    show ntF K S1 = _
    unfold ntF
    rw [if_neg (by simpa using k1), if_neg (by simpa using k2), if_neg (by simpa using k3), if_neg (by simpa using k4), if_neg (by simpa using k5)]
    rfl
  clear hk
  go_enter Try.func12, Try.ntmps12
  go_upto_region 1 with fail
  clear hW
  go_upto_region 2 with fail
  clear hW2
  go_upto_region 3 with fail
  clear hW3
  obtain ⟨x0, x1, -⟩ := G0.out.cells
  go_upto_region 21 with (go_at_call 28; refine (H1.out _ _ _ _ _ G0.out.ri).mono ?_; rintro e u1 ⟨a1, n1, c1, k1, rfl, hr, hb⟩; clear x0 x1; have PB := G0.out.below hb; obtain ⟨-, -, -, qo, qf⟩ := PB.cells; have q0 : u1.cell? ⟨W2.heap.size, 0, none⟩ = some (.int .i64 0) := qo 0; have qg0 := qf 0; clear qo qf; have ow0 : (u1.setCell ⟨W2.heap.size, 0, none⟩ (.int .i64 K)).heap[W2.heap.size]? = some (.cells #[.int .i64 K, .int .i64 0, .int .i64 0, .int .i64 0, .int .i64 0, .int .i64 0, .string ⟨#[]⟩, .bool false, .int .i64 0, .int .i64 0, .int .i64 0, .string ⟨#[]⟩, .int .i64 0, .int .i64 0, .int .i64 0, .int .i64 0, .int .i64 0, .string ⟨#[]⟩, .int .i64 0, .string ⟨#[]⟩, .int .i64 0, .string ⟨#[]⟩] 48 (0, 0)) := (heap_set PB.own 0 _).trans rfl; have on0 : Only (· = W2.heap.size) u1 (u1.setCell ⟨W2.heap.size, 0, none⟩ (.int .i64 K)) := only1 _ _ _ _; obtain ⟨Y1, hY⟩ : ∃ Y, (u1.setCell ⟨W2.heap.size, 0, none⟩ (.int .i64 K)) = Y := ⟨_, rfl⟩; rw [hY] at ow0 on0; obtain ⟨y0, y1, yf⟩ := PB.put HI.out.1 on0; have yg0 := yf 0; have yg1 := yf 1; clear yf; obtain ⟨Z1, hZ⟩ : ∃ Z, (Y1.setCell ⟨W.heap.size, 0, none⟩ (.slice a1 n1 c1)).setCell ⟨W.heap.size, 1, none⟩ (.bool k1) = Z := ⟨_, rfl⟩; have G1 : Hid (OG Bq w W3 Z1 W.heap.size W2.heap.size 48 (.slice a1 n1 c1) k1 S1 #[.int .i64 K, .int .i64 0, .int .i64 0, .int .i64 0, .int .i64 0, .int .i64 0, .string ⟨#[]⟩, .bool false, .int .i64 0, .int .i64 0, .int .i64 0, .string ⟨#[]⟩, .int .i64 0, .int .i64 0, .int .i64 0, .int .i64 0, .int .i64 0, .string ⟨#[]⟩, .int .i64 0, .string ⟨#[]⟩, .int .i64 0, .string ⟨#[]⟩]) := G0.out.step hb hr.out on0 ow0 hZ HI.out.1 HI.out.2.1 HI.out.2.2 (no_u8 (by simp)); clear PB hr hb on0 ow0; obtain ⟨x0, x1, -, xo, -⟩ := G1.out.cells; have xk : Z1.cell? ⟨W2.heap.size, 0, none⟩ = some (.int .i64 K) := xo 0; clear xo)
  clear hY hZ y0 y1 yg0 yg1 q0 qg0
  go_upto_region 23 with fail
  have hnA : nt.arr = #[.int .i64 K, .int .i64 0, .int .i64 0, .int .i64 0, .int .i64 0, .int .i64 0, .string ⟨#[]⟩, .bool false, .int .i64 0, .int .i64 0, .int .i64 0, .string ⟨#[]⟩, .int .i64 0, .int .i64 0, .int .i64 0, .int .i64 0, .int .i64 0, .string ⟨#[]⟩, .int .i64 0, .string ⟨#[]⟩, .int .i64 0, .string ⟨#[]⟩] := by rw [hnt]; rfl
  have hsz : nt.arr.size = 22 := rfl
  have hone : nt.arr.all (·.oneCell') = true := by unfold Nt.arr; simp [Value.oneCell']
  obtain ⟨A, hA⟩ : ∃ x, nt.arr = x := ⟨_, rfl⟩
  have G : Hid (OG Bq w W3 Z1 W.heap.size W2.heap.size 48 (.slice a1 n1 c1) k1 S1 A) := by rw [← hA, hnA]; exact G1.out
  have HPk : Hid (Calls Try.prog 32 #[.agg A] Z1 fun e w' => ∃ aC nC cC E, e = .returned (.tuple #[.slice aC nC cC, .int .i64 E]) ∧ Hid ((plainN nt = true ∧ E = 0 ∧ RB w' (.slice aC nC cC) (noteB nt)) ∨ (plainN nt = false ∧ E = 50)) ∧ Below Z1.heap.size Z1 w') := by
    rw [← hA]
    cases hP : plainN nt with
    | true => exact (packd_yes nt _ ((plainN_iff _).1 hP)).mono fun e w' ⟨a, c, he, ho, hb⟩ => ⟨a, _, c, 0, he, .inl ⟨rfl, rfl, ho.rb⟩, hb⟩
    | false => exact (packd_no nt _ hP).mono fun e w' ⟨he, hb⟩ => ⟨_, _, _, _, he, .inr ⟨rfl, rfl⟩, hb⟩
  have HZ : Hid (A.size = 22 ∧ A.all (·.oneCell') = true ∧ nt.arr = A) := ⟨by rw [← hA]; exact hsz, by rw [← hA]; exact hone, hA⟩
  have nl := noteS_of G.out.own HZ.out.1
  clear x0 x1 xk hnA hsz hone hA hnt
  go_upto_region 24 with (go_at_call 32; refine HPk.out.mono ?_; rintro e w9 ⟨aC, nC, cC, E, rfl, hP9, hb9⟩)
  clear nl HPk
  have HT : Hid (OG Bq w W3 w9 W.heap.size W2.heap.size 48 (.slice a1 n1 c1) k1 S1 A) := G.out.below hb9
  obtain ⟨x0, x1, -⟩ := HT.out.cells
  have HB9 : Hid (Below w.heap.size w w9) := HT.out.bel
  clear hb9
  go_cut [120] from 102 to 119 (fun x wx => ∃ B, x = .bool B ∧ Hid (B = true ↔ ¬ (S1 = some [] ∧ plainN nt = true ∧ l = noteB nt)) ∧ Below w9.heap.size w9 wx)
  case first =>
    obtain ⟨l', ⟨a', c', e', hcap', -⟩, -, hlim', hs⟩ := HT.out.ri
    injection e' with e1 e2 e3
    rcases hs with ⟨hkk, hs⟩ | ⟨hkk, hs⟩
    · subst hkk
      have HS : Hid (S1 = some l') := hs
      by_cases hm : n1 = 0
      · have hl0 : l' = [] := List.length_eq_zero_iff.1 (by omega)
        have HS0 : Hid (S1 = some []) := by show _ = _; rw [hs, hl0]
        have HM : Hid (n1 = 0) := hm
        clear hs e1 e2 e3 hcap' hlim'
        subst hm
        rcases hP9.out with ⟨hp, hE, hrb⟩ | ⟨hp, hE⟩
        · subst hE
          obtain ⟨D, hD⟩ : ∃ D, decide (l = noteB nt) = D := ⟨_, rfl⟩
          have HSm : Hid (Calls Try.prog 23 #[.slice a0 n0 c0, .slice aC nC cC] w9 fun e w' => e = .returned (.bool D) ∧ Below w9.heap.size w9 w') := by
            have := same6_any (.slice a0 n0 c0) (.slice aC nC cC) l (noteB nt) w9 (HR.out.2.1.below HB9.out).rb hrb HR.out.2.2 (Nat.le_trans (noteB_len ((plainN_iff _).1 hp)) (by omega))
            rw [hD] at this
            exact this
          have HD : Hid (D = true ↔ l = noteB nt) := by rw [← hD]; exact decide_eq_true_iff
          have HPp : Hid (plainN nt = true) := hp
          clear hD hp hrb hl0
          go_wp2_with (go_at_call 23; refine HSm.out.mono ?_; rintro e w10 ⟨rfl, hb10⟩)
          go_meet
          refine ⟨!D, rfl, ⟨fun h hh => ?_, fun h => ?_⟩, hb10⟩
          · rw [HD.out.2 hh.2.2] at h; cases h
          · cases D with
            | false => rfl
            | true => exact absurd ⟨HS0.out, HPp.out, HD.out.1 rfl⟩ h
        · subst hE
          have HPp : Hid (plainN nt = false) := hp
          clear hp hl0
          go_wp2_with fail
          go_meet
          exact ⟨true, rfl, ⟨fun _ h => (by rw [HPp.out] at h; cases h.2.1), fun _ => rfl⟩, Below.refl _ _⟩
      · have hmi : (0 : Int) < (n1 : Int) := by omega
        have hmn : 0 < n1 := by omega
        have HS0 : Hid (S1 ≠ some []) := fun h => by
          rw [hs] at h
          injection h with h
          rw [h] at e2
          exact hm e2
        clear hs hm e1 e2 e3 hcap' hlim'
        go_wp2_with fail
        go_meet
        exact ⟨true, rfl, ⟨fun _ h => HS0.out h.1, fun _ => rfl⟩, Below.refl _ _⟩
    · subst hkk
      have HS0 : Hid (S1 = none) := hs
      clear hs e1 e2 e3 hcap' hlim'
      go_wp2_with fail
      go_meet
      exact ⟨true, rfl, ⟨fun _ h => (by have := h.1; rw [HS0.out] at this; cases this), fun _ => rfl⟩, Below.refl _ _⟩
  case rest =>
    obtain ⟨B, rfl, HBq, hbc⟩ := hcut
    have HC : Hid (OG Bq w W3 wc W.heap.size W2.heap.size 48 (.slice a1 n1 c1) k1 S1 A) := HT.out.below hbc
    have hres : wc.heap[w.heap.size]? = some (.cells #[.int .i64 0, .int .i64 0, .int .i64 0, .int .i64 0, .int .i64 0, .int .i64 0, .string ⟨#[]⟩, .bool false, .int .i64 0, .int .i64 0, .int .i64 0, .string ⟨#[]⟩, .int .i64 0, .int .i64 0, .int .i64 0, .int .i64 0, .int .i64 0, .string ⟨#[]⟩, .int .i64 0, .string ⟨#[]⟩, .int .i64 0, .string ⟨#[]⟩] 48 (0, 0)) := (HC.out.only.block _ (Array.getElem?_eq_some_iff.1 HR.out.1).1 (by have := HL.out; omega)).trans HR.out.1
    clear x0 x1 hbc HT
    cases B with
    | true =>
      obtain ⟨W8, hW8⟩ : ∃ W, wc.setRow w.heap.size #[.int .i64 0, .int .i64 0, .int .i64 0, .int .i64 0, .int .i64 0, .int .i64 0, .string ⟨#[]⟩, .bool false, .int .i64 0, .int .i64 0, .int .i64 0, .string ⟨#[]⟩, .int .i64 0, .int .i64 0, .int .i64 0, .int .i64 0, .int .i64 0, .string ⟨#[]⟩, .int .i64 0, .string ⟨#[]⟩, .int .i64 0, .string ⟨#[]⟩] = W := ⟨_, rfl⟩
      have nt2 := noteT_of hres rfl rfl (by simp [Value.oneCell']) hW8
      have HF : Hid (W8.heap[w.heap.size]? = some (.cells #[.int .i64 0, .int .i64 0, .int .i64 0, .int .i64 0, .int .i64 0, .int .i64 0, .string ⟨#[]⟩, .bool false, .int .i64 0, .int .i64 0, .int .i64 0, .string ⟨#[]⟩, .int .i64 0, .int .i64 0, .int .i64 0, .int .i64 0, .int .i64 0, .string ⟨#[]⟩, .int .i64 0, .string ⟨#[]⟩, .int .i64 0, .string ⟨#[]⟩] 48 (0, 0)) ∧ Below w.heap.size w W8) := by
        rw [← hW8]
        exact ⟨setRow_heap _ _ _ _ _ _ hres, below_setRow HC.out.bel (Nat.le_refl _) _⟩
      clear hW8 hres
      go_wp2
      refine bodyPost_ret (ret_note2 rfl _ _ w.heap.size rfl HF.out.1 rfl) rfl ?_
      refine unpd_no HN.out ?_ rfl HF.out.2
      have hq := HBq.out.1 (by trivial)
      by_cases q1 : S1 = some []
      · by_cases q2 : plainN nt = true
        · exact .inr (.inr fun q3 => hq ⟨q1, q2, q3⟩)
        · exact .inr (.inl (by simpa using q2))
      · exact .inl q1
    | false =>
      have hq : S1 = some [] ∧ plainN nt = true ∧ l = noteB nt := Classical.byContradiction fun h => by have := HBq.out.2 h; cases this
      have HQ : Hid (plainN nt = true ∧ l = noteB nt) := hq.2
      obtain ⟨W8, hW8⟩ : ∃ W, wc.setRow w.heap.size A = W := ⟨_, rfl⟩
      have nl2 := noteS_of HC.out.own HZ.out.1
      have nt2 := noteT_of hres rfl HZ.out.1 HZ.out.2.1 hW8
      have HF : Hid (W8.heap[w.heap.size]? = some (.cells A 48 (0, 0)) ∧ Below w.heap.size w W8) := by
        rw [← hW8]
        exact ⟨setRow_heap _ _ _ _ _ _ hres, below_setRow HC.out.bel (Nat.le_refl _) _⟩
      clear hW8 hres hq
      go_wp2
      refine bodyPost_ret (ret_note2 rfl _ _ w.heap.size rfl HF.out.1 HZ.out.1) rfl ?_
      exact unpd_yes HQ.out.1 HQ.out.2 (by rw [HZ.out.2.2]; rfl) HF.out.2
end
end Go.Proofs.Ytekonakanieeaaa
