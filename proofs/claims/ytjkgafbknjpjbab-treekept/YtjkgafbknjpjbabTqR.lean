/- The program's tree: Load, whole. -/
import Derived.Test.YtjkgafbknjpjbabTqO
namespace Go.Proofs.Ytjkgafbknjpjbab
open Go.RowKit Go.Sort
attribute [local go_sem high] eqK' neqK' eqE neqE eqN neqN guardK guardE guardN

theorem right_ok (M : Nms) (kind mode : Int) (tg : ByteArray) : rightE M kind mode tg = 0 ↔ (0 ≤ mode ∧ mode ≤ 511) ∧ (kind = 3 ∧ M.tgt tg = 0 ∨ (kind = 1 ∨ kind = 2) ∧ tg = ⟨#[]⟩) := by
  have ht : tg.toList = [] ↔ tg = ⟨#[]⟩ := by rw [← bytes_eq, show (⟨#[]⟩ : ByteArray).toList = [] by unfold ByteArray.toList; unfold ByteArray.toList.loop; rfl]
  unfold rightE
  simp only [ht]
  cases hb : badM mode with
  | true =>
    have hm : ¬ (0 ≤ mode ∧ mode ≤ 511) := by
      unfold badM at hb
      intro h
      simp at hb
      omega
    simp [hm]
  | false =>
    have hm := bad_ok hb
    simp only [Bool.false_eq_true, if_false]
    by_cases h3 : kind = 3
    · subst h3; simp [hm]
    · by_cases h12 : (kind = 1 ∨ kind = 2) ∧ tg = ⟨#[]⟩
      · rw [if_neg h3, if_pos h12]; exact ⟨fun _ => ⟨hm, .inr h12⟩, fun _ => rfl⟩
      · rw [if_neg h3, if_neg h12]; exact ⟨fun h => absurd h (by decide), fun h => (h.2.elim (fun h => absurd h.1 h3) (fun h => absurd h h12))⟩
theorem wf_of {es : List En} {next : Int} (hr : Rises es) (hl : es.length < 48) (hn : 1 < next) (hi : (∀ e ∈ es, 2 ≤ e.id ∧ e.id < next) ∧ Ided es) (hs : ∀ e ∈ es, Sound es e) : WF Mn es next :=
  ⟨hr, by omega, hi.1, hi.2, fun e he => (hs e he).1, fun e he => (hs e he).2.1, fun e he => (right_ok Mn _ _ _).1 (hs e he).2.2.1, fun e he => by
    have h0 : ∀ f ∈ es, f.id ≠ 0 := fun f hf => by have := hi.1 f hf; omega
    have := (hs e he).2.2.2.2
    rw [insideF_within h0 (by decide)] at this
    exact hangs_within (fun f hf => (hs f hf).2.2.2.1) (hs e he).2.2.2.1 this, by omega⟩
theorem WF.sound {es : List En} {next : Int} (w : WF Mn es next) : ∀ e ∈ es, Sound es e := fun e he =>
  ⟨w.neg e he, w.chk e he, (right_ok Mn _ _ _).2 (w.ok e he), (w.hang e he).dir w, by
    rw [insideF_within (fun f hf => by have := w.ids f hf; omega) (by decide)]
    exact w.within (w.hang e he)⟩
/-- what Load answers -/
def LoadR (es : List En) (vers next : Int) (w w' : World) (x : Ending) : Prop :=
  (∃ t s, x = .returned (.tuple #[.pointer (some ⟨t, 0, none⟩), .int .i64 0]) ∧ WF Mn es next ∧ 0 ≤ vers ∧ Own5 w.heap.size w' t s ∧ s.es = es ∧ s.vers = vers ∧ s.next = next ∧ Below w.heap.size w w') ∨
  (x = .returned (.tuple #[.pointer none, .int .i64 1]) ∧ ¬ (WF Mn es next ∧ 0 ≤ vers) ∧ Below w.heap.size w w')
set_option maxRecDepth 20000 in
set_option maxHeartbeats 8000000 in
theorem load_p (v : Value) (es : List En) (base : Nat) (vers next : Int) (w : World) (h : Row7 w base v es) (hl : es.length ≤ 1000000) : Calls Try.prog 20 #[v, .int .i64 vers, .int .i64 next] w fun x w' => LoadR es vers next w w' x := by
  obtain ⟨a, cap, e⟩ := owns_len h
  obtain ⟨n, hn⟩ : ∃ n, es.length = n := ⟨_, rfl⟩
  rw [hn] at e hl
  subst e
  have H : Hid (Row7 w base (.slice a n cap) es ∧ es.length = n) := ⟨h, hn⟩
  clear h hn
  by_cases h1 : n < 48 ∧ 0 ≤ vers ∧ 1 < next
  · have ha : ¬ (48 : Int) ≤ (n : Int) := by omega
    have hb : ¬ vers < 0 := by omega
    have hc : ¬ next ≤ 1 := by omega
    have H1 : Hid (n < 48 ∧ 0 ≤ vers ∧ 1 < next) := h1
    clear h1
    go_enter Try.func20, Try.ntmps20
    go_upto_region 4 with (go_at_call 28; refine (clone_p _ es base _ H.out.1 (by rw [H.out.2]; omega)).mono ?_; rintro x w2 ⟨v2, rfl, hr2, hb2⟩; obtain ⟨a2, c2, hv2⟩ := owns_len hr2; rw [H.out.2] at hv2; subst hv2)
    obtain ⟨w3, hw3⟩ : ∃ x, w2.alloc (.cells #[.slice a2 n c2, .int .i64 vers, .int .i64 next] 60) = x := ⟨_, rfl⟩
    have hb3 : Below w2.heap.size w2 w3 := by rw [← hw3]; exact below_alloc _ _
    have hh3 : w3.heap[w2.heap.size]? = some (.cells #[.slice a2 n c2, .int .i64 vers, .int .i64 next] 60 (0, 0)) := by rw [← hw3]; exact heap_new _ _
    rw [hw3]
    have hI : IsP w3 w2.heap.size ⟨.slice a2 n c2, es, vers, next⟩ := ⟨hh3, owns_le (hr2.below hb3) (Nat.zero_le _), by show es.length ≤ 100; rw [H.out.2]; omega⟩
    have HO : Hid (Own5 w.heap.size w3 w2.heap.size ⟨.slice a2 n c2, es, vers, next⟩ ∧ Below w.heap.size w w3) := ⟨⟨hI, hb2.size, fun q hq => (World.ownsRow.lt hr2 q hq).1⟩, chainB hb2 hb3⟩
    clear hw3 hb3 hh3 hI hr2 hb2
    by_cases hR : Rises es
    · have HRs : Hid (Calls Try.prog 30 #[.pointer (some ⟨w2.heap.size, 0, none⟩)] w3 fun x w' => x = .returned (.bool true) ∧ Below w3.heap.size w3 w') := (risen_p _ _ w3 HO.out.1.is).mono fun x w' ⟨b, hx, hq, hb⟩ => ⟨by rw [hx, hq.2 hR], hb⟩
      have HK : Hid (Rises es) := hR
      by_cases hU : (∀ e ∈ es, 2 ≤ e.id ∧ e.id < next) ∧ Ided es
      · have HU : Hid (∀ W, IsP W w2.heap.size ⟨.slice a2 n c2, es, vers, next⟩ → Calls Try.prog 31 #[.pointer (some ⟨w2.heap.size, 0, none⟩)] W fun x w' => x = .returned (.bool true) ∧ Below W.heap.size W w') := fun W h => (unlike_p _ _ W h HK.out.keyed).mono fun x w' ⟨b, hx, hq, hb⟩ => ⟨by rw [hx, hq.2 hU], hb⟩
        have HUi : Hid ((∀ e ∈ es, 2 ≤ e.id ∧ e.id < next) ∧ Ided es) := hU
        by_cases hS : ∀ e ∈ es, Sound es e
        · have HS : Hid (∀ W, IsP W w2.heap.size ⟨.slice a2 n c2, es, vers, next⟩ → Calls Try.prog 32 #[.pointer (some ⟨w2.heap.size, 0, none⟩)] W fun x w' => x = .returned (.bool true) ∧ Below W.heap.size W w') := fun W h => (whole_p _ _ W h).mono fun x w' ⟨b, hx, hq, hb⟩ => ⟨by rw [hx, hq.2 hS], hb⟩
          have HSi : Hid (∀ e ∈ es, Sound es e) := hS
          clear hR hU hS
          go_wp2_with (first
            | (go_at_call 30; refine HRs.out.mono ?_; rintro x w4 ⟨rfl, hb4⟩)
            | (go_at_call 31; refine (HU.out _ (HO.out.1.is.below hb4)).mono ?_; rintro x w5 ⟨rfl, hb5⟩)
            | (go_at_call 32; refine (HS.out _ (HO.out.1.is.below (chainB hb4 hb5))).mono ?_; rintro x w6 ⟨rfl, hb6⟩))
          go_ret2
          exact .inl ⟨_, _, rfl, wf_of HK.out (by rw [H.out.2]; exact H1.out.1) H1.out.2.2 HUi.out HSi.out, H1.out.2.1, HO.out.1.below (chainB (chainB hb4 hb5) hb6), rfl, rfl, rfl, chainB HO.out.2 (chainB (chainB hb4 hb5) hb6)⟩
        · have HS : Hid (∀ W, IsP W w2.heap.size ⟨.slice a2 n c2, es, vers, next⟩ → Calls Try.prog 32 #[.pointer (some ⟨w2.heap.size, 0, none⟩)] W fun x w' => x = .returned (.bool false) ∧ Below W.heap.size W w') := fun W h => (whole_p _ _ W h).mono fun x w' ⟨b, hx, hq, hb⟩ => ⟨by rw [hx]; cases b with | false => rfl | true => exact absurd (hq.1 rfl) hS, hb⟩
          have HSi : Hid (¬ ∀ e ∈ es, Sound es e) := hS
          clear hR hU hS
          go_wp2_with (first
            | (go_at_call 30; refine HRs.out.mono ?_; rintro x w4 ⟨rfl, hb4⟩)
            | (go_at_call 31; refine (HU.out _ (HO.out.1.is.below hb4)).mono ?_; rintro x w5 ⟨rfl, hb5⟩)
            | (go_at_call 32; refine (HS.out _ (HO.out.1.is.below (chainB hb4 hb5))).mono ?_; rintro x w6 ⟨rfl, hb6⟩))
          go_ret2
          exact .inr ⟨rfl, fun h => HSi.out h.1.sound, chainB HO.out.2 (chainB (chainB hb4 hb5) hb6)⟩
      · have HU : Hid (∀ W, IsP W w2.heap.size ⟨.slice a2 n c2, es, vers, next⟩ → Calls Try.prog 31 #[.pointer (some ⟨w2.heap.size, 0, none⟩)] W fun x w' => x = .returned (.bool false) ∧ Below W.heap.size W w') := fun W h => (unlike_p _ _ W h HK.out.keyed).mono fun x w' ⟨b, hx, hq, hb⟩ => ⟨by rw [hx]; cases b with | false => rfl | true => exact absurd (hq.1 rfl) hU, hb⟩
        have HUi : Hid (¬ ((∀ e ∈ es, 2 ≤ e.id ∧ e.id < next) ∧ Ided es)) := hU
        clear hR hU
        go_wp2_with (first
          | (go_at_call 30; refine HRs.out.mono ?_; rintro x w4 ⟨rfl, hb4⟩)
          | (go_at_call 31; refine (HU.out _ (HO.out.1.is.below hb4)).mono ?_; rintro x w5 ⟨rfl, hb5⟩))
        go_ret2
        exact .inr ⟨rfl, fun h => HUi.out ⟨h.1.ids, h.1.ided⟩, chainB HO.out.2 (chainB hb4 hb5)⟩
    · have HRs : Hid (Calls Try.prog 30 #[.pointer (some ⟨w2.heap.size, 0, none⟩)] w3 fun x w' => x = .returned (.bool false) ∧ Below w3.heap.size w3 w') := (risen_p _ _ w3 HO.out.1.is).mono fun x w' ⟨b, hx, hq, hb⟩ => ⟨by rw [hx]; cases b with | false => rfl | true => exact absurd (hq.1 rfl) hR, hb⟩
      have HK : Hid (¬ Rises es) := hR
      clear hR
      go_wp2_with (go_at_call 30; refine HRs.out.mono ?_; rintro x w4 ⟨rfl, hb4⟩)
      go_ret2
      exact .inr ⟨rfl, fun h => HK.out h.1.rises, chainB HO.out.2 hb4⟩
  · have HN : Hid (¬ (WF Mn es next ∧ 0 ≤ vers)) := fun h => h1 ⟨by have := h.1.len; rw [H.out.2] at this; omega, h.2, by have := h.1.next2; omega⟩
    by_cases ha : (48 : Int) ≤ (n : Int)
    · clear h1
      go_enter Try.func20, Try.ntmps20
      go_wp2
      go_ret2
      exact .inr ⟨rfl, HN.out, Below.refl _ _⟩
    · by_cases hb : vers < 0
      · clear h1
        go_enter Try.func20, Try.ntmps20
        go_wp2
        go_ret2
        exact .inr ⟨rfl, HN.out, Below.refl _ _⟩
      · have hc : next ≤ 1 := by omega
        clear h1
        go_enter Try.func20, Try.ntmps20
        go_wp2
        go_ret2
        exact .inr ⟨rfl, HN.out, Below.refl _ _⟩
end Go.Proofs.Ytjkgafbknjpjbab
