/- like: do both tables stand alike. -/
import Derived.Test.YtaofhjckliobpaaVrI
namespace Go.Proofs.Ytaofhjckliobpaa
open Go.RowKit Go.Shelf
attribute [local go_sem high] eqK neqK guardK run_store_complex

theorem IsW.rdq {w : World} {B t : Nat} {s : Vt} (h : IsW w B t s) : Rd w s.qv s.say.q s.say.e := by
  have hb : Brs w B s.qv s.bs := ⟨h.rb, fun b hm => (h.each b hm).1⟩
  exact ⟨s.bs, hb.rd fun b hm => (h.each b hm).2.1, rfl, fun b hm => (h.each b hm).2.2.1⟩
set_option maxHeartbeats 8000000 in
theorem like_p {w0 wr : World} {t u Bq : Nat} {S : Vs} {F : Nat → Prop} (h : Tw w0 wr t u S S Bq F) : Calls Try.prog 25 #[.pointer (some ⟨t, 0, none⟩), .pointer (some ⟨u, 0, none⟩)] wr fun x w' => x = .returned (.bool true) ∧ Below wr.heap.size wr w' := by
  obtain ⟨s', hW, hs, -⟩ := h.ref
  obtain ⟨ma, mb, hMk, hmark⟩ := lv_mark h.lv.drew
  have hMs : Mk s'.a s'.b S.e S.n := by rw [← hs]; exact hW.mkk
  obtain ⟨o1, o2⟩ := mk_eq hMk hMs
  rw [cmp_eq rfl] at o2
  obtain ⟨pa, pc, hp⟩ := owns_len hW.rk
  obtain ⟨qa, qc, hq⟩ := owns_len hW.rb
  obtain ⟨c3, c2, c4, -, -, -⟩ := hW.cells
  have hks : s'.ks = S.ks := congrArg Vs.ks hs
  have hqs : s'.bs.map Br.say = S.q := congrArg Vs.q hs
  have hes : part s'.a = S.e := congrArg Vs.e hs
  obtain ⟨nP, hnP⟩ : ∃ k, s'.ks.length = k := ⟨_, rfl⟩
  obtain ⟨nQ, hnQ⟩ : ∃ k, s'.bs.length = k := ⟨_, rfl⟩
  have hnP33 : nP ≤ 33 := by rw [← hnP]; exact hW.lk
  have hnQ16 : nQ ≤ 16 := by rw [← hnQ]; have := hW.lb; have := hW.lq; omega
  rw [hnP] at hp
  rw [hnQ] at hq
  rw [hp] at c2
  rw [hq] at c4
  have HK : Hid (∀ W, Below wr.heap.size wr W → W.cell? ⟨u, 3, none⟩ = some (.complex .f64 s'.a s'.b) ∧ W.cell? ⟨u, 2, none⟩ = some (.slice pa nP pc) ∧ W.cell? ⟨u, 4, none⟩ = some (.slice qa nQ qc)) := fun W hb => keep3 ⟨c3, c2, c4⟩ hb
  have HPr : Hid (∀ W, Below wr.heap.size wr W → Calls Try.prog 28 #[.pointer (some ⟨t, 0, none⟩)] W fun e w' => ∃ a c, e = .returned (.slice a nP c) ∧ RowK w' W.heap.size (.slice a nP c) S.ks ∧ Below W.heap.size W w') := fun W hb => by
    refine (lv_promises (h.on hb).lv).mono ?_
    rintro e w' ⟨v', rfl, hr, hb2⟩
    obtain ⟨a, c, rfl⟩ := owns_len hr
    have e : S.ks.length = nP := by rw [← hks]; exact hnP
    rw [e] at hr ⊢
    exact ⟨a, c, rfl, hr, hb2⟩
  have HQu : Hid (∀ W, Below wr.heap.size wr W → Calls Try.prog 30 #[.pointer (some ⟨t, 0, none⟩)] W fun e w' => ∃ a c, e = .returned (.slice a nQ c) ∧ Rd w' (.slice a nQ c) S.q S.e ∧ Below W.heap.size W w') := fun W hb => by
    refine (lv_queue (h.on hb).lv).mono ?_
    rintro e w' ⟨v', rfl, hr, hb2⟩
    obtain ⟨a, c, rfl⟩ := hr.form
    have e : S.q.length = nQ := by rw [← hqs, List.length_map]; exact hnQ
    rw [e] at hr ⊢
    exact ⟨a, c, rfl, hr.rd, hb2⟩
  have HSm : Hid (∀ W v b, Below wr.heap.size wr W → RowK W b v S.ks → Calls Try.prog 27 #[v, .slice pa nP pc] W fun e w' => e = .returned (.bool true) ∧ Below W.heap.size W w') := fun W v b hb h1 => by
    have hr := (hW.below hb).rk.rd
    rw [hp, hks] at hr
    have hl : S.ks.length ≤ 10000000000000 := by rw [← hks, hnP]; omega
    have := sameK_any v (.slice pa nP pc) S.ks S.ks W h1.rd hr hl hl
    rw [(sameKs_iff _ _).2 rfl] at this
    exact this
  have HSB : Hid (∀ W v, Below wr.heap.size wr W → Rd W v S.q S.e → Calls Try.prog 16 #[v, .slice qa nQ qc] W fun e w' => e = .returned (.bool true) ∧ Below W.heap.size W w') := fun W v hb h1 => by
    have hr := (hW.below hb).rdq
    rw [hq, hs] at hr
    exact same_rd h1 hr (by rw [← hqs, List.length_map, hnQ]; omega)
  clear h hW hs hMk hMs hp hq c3 c2 c4 hks hqs hes hnP hnQ
  have k0 := HK.out wr (Below.refl _ _)
  go_enter Try.func25, Try.ntmps25
  go_upto_region 1 with fail
  go_region_held3 (fun w' => w'.cell? ⟨u, 3, none⟩ = some (.complex .f64 s'.a s'.b) ∧ w'.cell? ⟨u, 2, none⟩ = some (.slice pa nP pc) ∧ w'.cell? ⟨u, 4, none⟩ = some (.slice qa nQ qc))
    (first | exact k0 | exact kD | exact kC | exact kB | exact kA)
    (first
      | (go_at_call 26; refine hmark.mono ?_; rintro e w1 ⟨rfl, hw1⟩; subst hw1)
      | (go_at_call 28; refine (HPr.out _ ((Below.refl _ _).drew)).mono ?_; rintro e wA ⟨aA, cA, rfl, hrA, hbA0⟩; have hbA := undrew hbA0; have kA := HK.out _ hbA)
      | (go_at_call 27; refine (HSm.out _ _ _ hbA hrA).mono ?_; rintro e wB ⟨rfl, hbB0⟩; have hbB := chainB hbA hbB0; have kB := HK.out _ hbB)
      | (go_at_call 30; refine (HQu.out _ hbB).mono ?_; rintro e wC ⟨aC, cC, rfl, hrC, hbC0⟩; have hbC := chainB hbB hbC0; have kC := HK.out _ hbC)
      | (go_at_call 16; refine (HSB.out _ _ hbC hrC).mono ?_; rintro e wD ⟨rfl, hbD0⟩; have hbD := chainB hbC hbD0; have kD := HK.out _ hbD))
  all_goals
    go_wp2
    go_ret
    exact ⟨rfl, hbD⟩
end Go.Proofs.Ytaofhjckliobpaa
