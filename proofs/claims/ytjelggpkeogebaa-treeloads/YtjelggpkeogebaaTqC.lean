/- The law's own example is answered: awake. -/
import Derived.Test.YtjelggpkeogebaaTpQ
namespace Go.Proofs.Ytjelggpkeogebaa
open Go.RowKit
attribute [local go_sem high] eqK' neqK' eqE neqE eqN neqN guardK guardE guardN

def exS : Tr := ⟨.slice none 0 0, [], 0, 2⟩
def exO : Opn := ⟨6, 1, ⟨#[97]⟩, 0, ⟨#[]⟩, 7, ⟨#[]⟩⟩
def exE : En := ⟨1, ⟨#[97]⟩, false, 2, 1, 7, ⟨#[]⟩⟩
/-- a name of one letter -/
theorem chk_one (b : UInt8) (h0 : b ≠ 0) (h1 : b ≠ 46) (h2 : b ≠ 47) : chkE ⟨#[b]⟩ = 0 := by
  have e1 : (⟨#[b]⟩ : ByteArray).size = 1 := rfl
  have e2 : (⟨#[b]⟩ : ByteArray).toList = [b] := by rw [ByteArray.toList_eq]
  have hb : ∀ c : UInt8, b ≠ c → b.toNat ≠ c.toNat := fun c hc h => hc (UInt8.toNat_inj.1 h)
  have h3 : ∀ c : Nat, b.toNat ≠ c → hasB ⟨#[b]⟩ c = false := by
    intro c hc
    unfold hasB
    rw [e1]
    have : bt ⟨#[b]⟩ 0 = b.toNat := rfl
    simp [hasF, this, hc]
  unfold chkE dotsB
  rw [e1, e2, h3 0 (hb 0 h0), h3 47 (hb 47 h2)]
  simp [h1]
theorem ex_chk : chkE ⟨#[97]⟩ = 0 := chk_one 97 (by decide) (by decide) (by decide)
theorem ex_dir (es : List En) : dirE es 1 = 0 := rfl
theorem named_one (es : List En) (nm : ByteArray) (h : chkE nm = 0) : namedE Mn es 1 nm = 0 := by unfold namedE; rw [ex_dir, if_pos rfl]; exact h
theorem ex_does : doesE Mn exS exO = 0 := by
  unfold doesE
  rw [show namedE Mn exS.es exO.dir exO.nm = 0 from named_one _ _ ex_chk]
  rfl
theorem ex_list : srt (doesL exS exO) = [exE] := rfl
theorem ex_tell : tellL exS exO = [exE] := rfl
theorem ex_keys : keysL exO = [⟨1, ⟨#[97]⟩⟩] := rfl
theorem ex_look : namedE Mn [exE] 1 ⟨#[97]⟩ = 0 := named_one _ _ ex_chk
theorem ex_now : nowE [exE] 1 ⟨#[97]⟩ = exE := by rfl
/-- what the example's mutation leaves -/
theorem ex_step {t : Nat} {w w' : World} {e : Ending} (h : AppR Mn t exS exO w w' e) : ∃ g c g' c' s', e = .returned (.tuple #[.slice (some ⟨g, 0, none⟩) 1 c, .slice (some ⟨g', 0, none⟩) 1 c', .int .i64 0]) ∧ PS w w' t exS s' ∧ s'.es = [exE] ∧ s'.vers = 1 ∧ Cells7 w' g 0 exE ∧ w'.cell? ⟨g', 0, none⟩ = some (.int .i64 1) ∧ w'.cell? ⟨g', 1, none⟩ = some (.string ⟨#[97]⟩) := by
  obtain ⟨v, k, s', he, hps, hst, hr, hk, _⟩ := h
  unfold toldE at hr
  unfold toldK at hk
  rw [ex_does] at he
  rw [ex_does, if_pos rfl, ex_tell] at hr
  rw [ex_does, if_pos rfl, ex_keys] at hk
  have h1 := hst.es
  have h2 := hst.vers
  rw [ex_does, if_pos rfl] at h1 h2
  obtain ⟨a, c, rfl⟩ := owns_len hr
  obtain ⟨g, rfl, _, _, _, hc, _⟩ := owns_entry hr (i := 0) (e := exE) rfl
  obtain ⟨a', c', rfl⟩ := owns_len hk
  obtain ⟨g', rfl, _, _, k0, k1, _⟩ := RowK.key hk (i := 0) (p := ⟨1, ⟨#[97]⟩⟩) rfl
  exact ⟨g, c, g', c', s', he, hps, h1, h2, hc, k0, k1⟩
theorem look_ex {t : Nat} {s : Tr} (h : s.es = [exE]) (w : World) (hw : IsP w t s) : Calls Try.prog 30 #[.pointer (some ⟨t, 0, none⟩), .int .i64 1, .string ⟨#[97]⟩] w fun e w' => e = .returned (.tuple #[.agg #[.int .i64 1, .string ⟨#[97]⟩, .bool false, .int .i64 2, .int .i64 1, .int .i64 7, .string ⟨#[]⟩], .int .i64 0]) ∧ Below w.heap.size w w' := by
  have := Look_p Mn nmsP t s 1 ⟨#[97]⟩ w hw
  rw [lookV_form, h, ex_look, if_pos rfl, ex_now] at this
  exact this
theorem ps_below {w w1 w' : World} {t : Nat} {s s' : Tr} (h : PS w1 w' t s s') (hb : Below w.heap.size w w1) (ht : w.heap.size ≤ t) (hs : ∀ q, s.v.ownBlock = some q → w.heap.size ≤ q) : Below w.heap.size w w' ∧ ∀ q, s'.v.ownBlock = some q → w.heap.size ≤ q :=
  ⟨h.only.below hb hb.size (fun k hk => hk.elim (fun e => e ▸ ht) (hs k)), fun q hq => by
    rcases h.v with e | e
    · exact hs q (by rw [← e]; exact hq)
    · exact Nat.le_trans hb.size (e q hq)⟩
set_option maxRecDepth 20000 in
set_option maxHeartbeats 8000000 in
theorem awake_p (w : World) : Calls Try.prog 8 #[] w fun e w' => e = .returned (.bool true) ∧ Below w.heap.size w w' := by
  have HAp : Hid (∀ t w, IsP w t exS → Calls Try.prog 10 #[.pointer (some ⟨t, 0, none⟩), .agg #[.int .i64 6, .int .i64 1, .string ⟨#[97]⟩, .int .i64 0, .string ⟨#[]⟩, .int .i64 7, .string ⟨#[]⟩]] w fun e w' => ∃ g c g' c' s', e = .returned (.tuple #[.slice (some ⟨g, 0, none⟩) 1 c, .slice (some ⟨g', 0, none⟩) 1 c', .int .i64 0]) ∧ PS w w' t exS s' ∧ s'.es = [exE] ∧ s'.vers = 1 ∧ Cells7 w' g 0 exE ∧ w'.cell? ⟨g', 0, none⟩ = some (.int .i64 1) ∧ w'.cell? ⟨g', 1, none⟩ = some (.string ⟨#[97]⟩)) := fun t w h => (apply_p Mn nmsP t exS exO w h (WF.new _) (by decide) (by decide) (by decide)).mono fun _ _ hh => ex_step hh
  go_enter Try.func8, Try.ntmps8
  go_upto_region 6 with (first
    | (go_at_call 29; refine (new_p _).mono ?_; rintro x w1 ⟨rfl, hi1, hb1⟩)
    | (go_at_call 10; refine (HAp.out _ _ hi1).mono ?_; rintro x w2 ⟨g, c, g', c', s', rfl, hps, hes, hvs, hc, k0, k1⟩; have HB2 : Hid (Below w.heap.size w w2) := (ps_below hps hb1 (Nat.le_refl _) (fun q hq => by cases hq)).1; have HI2 : Hid (IsP w2 w.heap.size s' ∧ s'.es = [exE] ∧ s'.vers = 1) := ⟨hps.is, hes, hvs⟩; clear hps hes hvs)
    | (go_at_call 30; refine (look_ex HI2.out.2.1 _ HI2.out.1).mono ?_; rintro x w3 ⟨rfl, hb3⟩))
  obtain ⟨W4, hW4⟩ : ∃ W4, w3.alloc (.cells #[.int .i64 1, .string ⟨#[97]⟩, .bool false, .int .i64 2, .int .i64 1, .int .i64 7, .string ⟨#[]⟩] 56) = W4 := ⟨_, rfl⟩
  have hb4 : Below w2.heap.size w2 W4 := by rw [← hW4]; exact chainB hb3 (below_alloc _ _)
  have hbx : W4.heap[w3.heap.size]? = some (.cells exE.vals.toArray 56 (0, 0)) := by rw [← hW4]; exact heap_new _ _
  rw [hW4]
  have hb3 := hb4
  have hc3 := hc.below hb3
  have hcb := cells7_of hbx
  have z0 := hcb.c0
  have z1 := hcb.c1
  have z2 := hcb.c2
  have z3 := hcb.c3
  have z4 := hcb.c4
  have z5 := hcb.c5
  have z6 := hcb.c6
  simp only [Nat.zero_add, exE] at z0 z1 z2 z3 z4 z5 z6
  have x0 := hc3.c0
  have x1 := hc3.c1
  have x2 := hc3.c2
  have x3 := hc3.c3
  have x4 := hc3.c4
  have x5 := hc3.c5
  have x6 := hc3.c6
  simp only [Nat.zero_add, exE] at x0 x1 x2 x3 x4 x5 x6
  have y0 := (hb3.cell (cellLt k0)).trans k0
  have y1 := (hb3.cell (cellLt k1)).trans k1
  have HV : Hid (∀ n, Calls Try.prog 17 #[.pointer (some ⟨w.heap.size, 0, none⟩)] (W4.drewN n) fun e w' => e = .returned (.int .i64 1) ∧ w' = W4.drewN n) := fun n => by
    have := version_p w.heap.size s' (W4.drewN n) (HI2.out.1.below (below_drewN hb4 _))
    rw [HI2.out.2.2] at this
    exact this
  have hE : eqEn ⟨1, ⟨#[97]⟩, false, 2, 1, 7, ⟨#[]⟩⟩ ⟨1, ⟨#[97]⟩, false, 2, 1, 7, ⟨#[]⟩⟩ = true := rfl
  have hK : eqKy 1 ⟨#[97]⟩ 1 ⟨#[97]⟩ = true := rfl
  have HB4 : Hid (Below w.heap.size w W4) := chainB HB2.out hb4
  clear hW4 hb4 hbx hc3 hcb hc k0 k1 hi1 hb1 hb3
  go_quiet ((go_at_call 17; exact Calls.quiet_of_same (HV.out _)))
  go_wp2
  go_ret
  exact ⟨rfl, below_drewN HB4.out _⟩
end Go.Proofs.Ytjelggpkeogebaa
