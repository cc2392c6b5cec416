/- The law WireEncodes. -/
import Derived.Test.YtihjhaafmdobmaaU7I
import Derived.Test.YtihjhaafmdobmaaWlE
import Derived.Test.YtihjhaafmdobmaaWlH
namespace Go.Proofs.Ytihjhaafmdobmaa
open Go.RowKit Go.Lib

/-- a whole message among a law's arguments, loaded, shut -/
def mmS (v : Value) : Sem Value := Instr.loadAt 52 v
theorem loadM (v : Value) : Instr.loadAt 52 v = mmS v := rfl
theorem Try.sizeMm : (Try.prog.info? 52).map (·.size) = some 17 := by kernel_rfl
theorem mmS_of {w : World} {g : Nat} {cs : Array Value} {t : TypeId} {fr : Nat × Nat} (h : w.heap[g]? = some (.cells cs t fr)) (hs : cs.size = 17) : (mmS (.pointer (some ⟨g, 0, none⟩))).run Try.prog w = .ok (.agg cs) w := by
  unfold mmS Instr.loadAt Instr.sureAddr
  simp [run_loadVar_row w g t 52 cs fr _ h Try.underlying52 rfl (by rw [hs]; exact Try.sizeMm)]
attribute [irreducible] mmS
attribute [local go_sem ↓ high] loadM loadMg

def msgU (a v : Value) : Sem Unit := Instr.storeAt 58 a v
theorem storeMh (a v : Value) : Instr.storeAt 58 a v = msgU a v := rfl
theorem msgU_of {w W : World} {g : Nat} {old cs : Array Value} {t : TypeId} (h : w.heap[g]? = some (.cells old t (0, 0))) (ho : old.size = 16) (hs : cs.size = 16) (h1 : cs.all (·.oneCell') = true) (hW : w.setRow g cs = W) : (msgU (.pointer (some ⟨g, 0, none⟩)) (.agg cs)).run Try.prog w = .ok () W := by
  subst hW
  unfold msgU Instr.storeAt Instr.sureAddr
  simp [run_storeVar_row w g t 58 old cs h (by rw [hs]; exact Try.sizeMsgL) (by rw [ho, hs]) h1]
attribute [irreducible] msgU
theorem ms_one {w : World} {m : Ms} (h : Rows w m) : m.arr.all (·.oneCell') = true := by
  obtain ⟨a, c, e1⟩ := owns_len h.es
  obtain ⟨a', c', e2⟩ := owns_len h.ks
  unfold Ms.arr
  rw [e1, e2]
  simp [Value.oneCell']
/-- both sides' Encode of one message -/
theorem both_yes {m : Ms} (hP : plainB m = true) (w : World) (hr : Rows w m) : (Calls Try.prog 24 #[.agg m.arr] w fun e w' => ∃ a c, e = .returned (.tuple #[.slice a (msgB m.mg).length c, .int .i64 0]) ∧ Hid (OwnB w' w.heap.size (.slice a (msgB m.mg).length c) (msgB m.mg)) ∧ Below w.heap.size w w') ∧
    (Calls Try.prog 26 #[.agg m.arr] w fun e w' => ∃ a c, e = .returned (.tuple #[.slice a (msgB m.mg).length c, .int .i64 0]) ∧ Hid (OwnB w' w.heap.size (.slice a (msgB m.mg).length c) (msgB m.mg)) ∧ Below w.heap.size w w') := by
  refine ⟨(encode_p m w hr).mono fun e w' hh => ?_, (encode_d m w hr).mono fun e w' hh => ?_⟩
  · rw [hP] at hh; exact hh.yes
  · rw [hP] at hh; exact hh.yes
theorem both_no {m : Ms} (hP : plainB m = false) (w : World) (hr : Rows w m) : (Calls Try.prog 24 #[.agg m.arr] w fun e w' => e = .returned (.tuple #[.slice none 0 0, .int .i64 50]) ∧ Below w.heap.size w w') ∧
    (Calls Try.prog 26 #[.agg m.arr] w fun e w' => e = .returned (.tuple #[.slice none 0 0, .int .i64 50]) ∧ Below w.heap.size w w') := by
  refine ⟨(encode_p m w hr).mono fun e w' hh => ?_, (encode_d m w hr).mono fun e w' hh => ?_⟩
  · rw [hP] at hh; exact hh.no
  · rw [hP] at hh; exact hh.no
theorem same_nil (W : World) : Calls Try.prog 27 #[.slice none 0 0, .slice none 0 0] W fun e w' => e = .returned (.bool true) ∧ Below W.heap.size W w' := by
  have := same_any (.slice none 0 0) (.slice none 0 0) [] [] W (RB.nil W) (RB.nil W) (by simp) (by simp)
  rw [decide_eq_true rfl] at this
  exact this
theorem same_self {B : List Int} (hl : B.length ≤ 20000) (v v' : Value) (W : World) (h1 : RB W v B) (h2 : RB W v' B) : Calls Try.prog 27 #[v, v'] W fun e w' => e = .returned (.bool true) ∧ Below W.heap.size W w' := by
  have := same_any v v' B B W h1 h2 (by unfold LB; omega) (by unfold LB; omega)
  rw [decide_eq_true rfl] at this
  exact this

set_option maxRecDepth 20000 in
set_option maxHeartbeats 4000000 in
theorem walk_WireEncodes (m : Mm) (w : World) (hm : ArgM w m) :
    Calls Try.prog 5 #[.agg m.arr] w fun e w' => e = .returned (.bool true) ∧ Below w.heap.size w w' := by
  have HAw : Hid (∀ W, Calls Try.prog 28 #[] W fun e w' => e = .returned (.bool true) ∧ Below W.heap.size W w') := awake_w
  have hsz : m.arr.size = 17 := rfl
  have HG : Hid (∀ W, Below w.heap.size w W → Calls Try.prog 25 #[.agg m.arr] W fun e w' => ∃ ve vk, e = .returned (.agg (m.ms ve vk).arr) ∧ Hid (Rows w' (m.ms ve vk)) ∧ Below W.heap.size W w') := fun W hb => (msg_any m W (hm.below hb)).mono fun e w' ⟨ve, vk, he, h1, h2, h3⟩ => ⟨ve, vk, he, ⟨owns_le h1 (Nat.zero_le _), owns_le h2 (Nat.zero_le _)⟩, h3⟩
  have hPe : ∀ ve vk, plainB (m.ms ve vk) = m.plain := fun _ _ => rfl
  have hMe : ∀ ve vk, (m.ms ve vk).mg = m.mg := fun _ _ => rfl
  cases hP : m.plain with
  | false =>
    have HE : Hid (∀ ve vk W, Rows W (m.ms ve vk) → (Calls Try.prog 24 #[.agg (m.ms ve vk).arr] W fun e w' => e = .returned (.tuple #[.slice none 0 0, .int .i64 50]) ∧ Below W.heap.size W w') ∧ (Calls Try.prog 26 #[.agg (m.ms ve vk).arr] W fun e w' => e = .returned (.tuple #[.slice none 0 0, .int .i64 50]) ∧ Below W.heap.size W w')) := fun ve vk W hr => both_no (by rw [hPe]; exact hP) W hr
    have HS : Hid (∀ W, Calls Try.prog 27 #[.slice none 0 0, .slice none 0 0] W fun e w' => e = .returned (.bool true) ∧ Below W.heap.size W w') := same_nil
    obtain ⟨A, hA⟩ : ∃ x, m.arr = x := ⟨_, rfl⟩
    rw [hA] at HG hsz ⊢
    obtain ⟨W, hW⟩ : ∃ W, w.alloc (.cells A 52) = W := ⟨_, rfl⟩
    have hb := boxB hW
    have HB : Hid (W.heap[w.heap.size]? = some (.cells A 52 (0, 0)) ∧ Below w.heap.size w W ∧ A.size = 17) := ⟨hb.1, hb.2, hsz⟩
    have nl := mmS_of hb.1 hsz
    clear hA hb hsz hP hPe hMe hm
    go_enter Try.func5, Try.ntmps5
    go_upto_region 1 with fail
    clear hW
    go_wp2_with (first
      | (go_at_call 26; rw [← HR3.out.1]; refine (HE.out _ _ _ HR3.out.2).2.mono ?_; rintro e w4 ⟨rfl, hb4⟩; have HC4 : Hid (Below W.heap.size W w4) := chainB HC2.out (chainB hb3 hb4); clear hb3 hb4 HR3)
      | (go_at_call 25; refine (HG.out w2 (chainB HB.out.2.1 HC2.out)).mono ?_; rintro e w3 ⟨ve3, vk3, rfl, hr3, hb3⟩; obtain ⟨Ar3, hAr3⟩ : ∃ A, (m.ms ve3 vk3).arr = A := ⟨_, rfl⟩; rw [hAr3]; have HR3 : Hid ((m.ms ve3 vk3).arr = Ar3 ∧ Rows w3 (m.ms ve3 vk3)) := ⟨hAr3, hr3.out⟩; clear hAr3 hr3 nl2)
      | (go_at_call 24; rw [← HR1.out.1]; refine (HE.out _ _ _ HR1.out.2).1.mono ?_; rintro e w2 ⟨rfl, hb2⟩; have HC2 : Hid (Below W.heap.size W w2) := chainB hb1 hb2; have nl2 := mmS_of (hkeep HB.out.1 HC2.out) HB.out.2.2; clear hb1 hb2 HR1)
      | (go_at_call 25; refine (HG.out W HB.out.2.1).mono ?_; rintro e w1 ⟨ve1, vk1, rfl, hr1, hb1⟩; obtain ⟨Ar1, hAr1⟩ : ∃ A, (m.ms ve1 vk1).arr = A := ⟨_, rfl⟩; rw [hAr1]; have HR1 : Hid ((m.ms ve1 vk1).arr = Ar1 ∧ Rows w1 (m.ms ve1 vk1)) := ⟨hAr1, hr1.out⟩; clear hAr1 hr1 nl)
      | (go_at_call 27; refine (HS.out _).mono ?_; rintro e w5 ⟨rfl, hb5⟩)
      | (go_at_call 28; refine (HAw.out _).mono ?_; rintro e w6 ⟨rfl, hb6⟩))
    go_ret
    exact ⟨rfl, chainB HB.out.2.1 (chainB HC4.out (chainB hb5 hb6))⟩
  | true =>
    have hl := msgB_len ((m.plain_iff).1 hP).2
    have HE : Hid (∀ ve vk W, Rows W (m.ms ve vk) → (Calls Try.prog 24 #[.agg (m.ms ve vk).arr] W fun e w' => ∃ a c, e = .returned (.tuple #[.slice a (msgB m.mg).length c, .int .i64 0]) ∧ Hid (OwnB w' W.heap.size (.slice a (msgB m.mg).length c) (msgB m.mg)) ∧ Below W.heap.size W w') ∧ (Calls Try.prog 26 #[.agg (m.ms ve vk).arr] W fun e w' => ∃ a c, e = .returned (.tuple #[.slice a (msgB m.mg).length c, .int .i64 0]) ∧ Hid (OwnB w' W.heap.size (.slice a (msgB m.mg).length c) (msgB m.mg)) ∧ Below W.heap.size W w')) := fun ve vk W hr => both_yes (m := m.ms ve vk) (by rw [hPe]; exact hP) W hr
    obtain ⟨B, hB⟩ : ∃ x, msgB m.mg = x := ⟨_, rfl⟩
    rw [hB] at HE hl
    have HS : Hid (∀ v v' W, RB W v B → RB W v' B → Calls Try.prog 27 #[v, v'] W fun e w' => e = .returned (.bool true) ∧ Below W.heap.size W w') := fun v v' W h1 h2 => same_self hl v v' W h1 h2
    obtain ⟨A, hA⟩ : ∃ x, m.arr = x := ⟨_, rfl⟩
    rw [hA] at HG hsz ⊢
    obtain ⟨W, hW⟩ : ∃ W, w.alloc (.cells A 52) = W := ⟨_, rfl⟩
    have hb := boxB hW
    have HB : Hid (W.heap[w.heap.size]? = some (.cells A 52 (0, 0)) ∧ Below w.heap.size w W ∧ A.size = 17) := ⟨hb.1, hb.2, hsz⟩
    have nl := mmS_of hb.1 hsz
    clear hA hb hsz hP hPe hMe hm hB hl
    go_enter Try.func5, Try.ntmps5
    go_upto_region 1 with fail
    clear hW
    go_wp2_with (first
      | (go_at_call 26; rw [← HR3.out.1]; refine (HE.out _ _ _ HR3.out.2).2.mono ?_; rintro e w4 ⟨a4, c4, rfl, ho4, hb4⟩; have HC4 : Hid (Below W.heap.size W w4 ∧ RB w4 (.slice a2 B.length c2) B ∧ RB w4 (.slice a4 B.length c4) B) := ⟨chainB HC2.out.1 (chainB hb3 hb4), HC2.out.2.below (chainB hb3 hb4), ho4.out.rb⟩; clear hb3 hb4 HR3 ho4)
      | (go_at_call 25; refine (HG.out w2 (chainB HB.out.2.1 HC2.out.1)).mono ?_; rintro e w3 ⟨ve3, vk3, rfl, hr3, hb3⟩; obtain ⟨Ar3, hAr3⟩ : ∃ A, (m.ms ve3 vk3).arr = A := ⟨_, rfl⟩; rw [hAr3]; have HR3 : Hid ((m.ms ve3 vk3).arr = Ar3 ∧ Rows w3 (m.ms ve3 vk3)) := ⟨hAr3, hr3.out⟩; clear hAr3 hr3 nl2)
      | (go_at_call 24; rw [← HR1.out.1]; refine (HE.out _ _ _ HR1.out.2).1.mono ?_; rintro e w2 ⟨a2, c2, rfl, ho2, hb2⟩; have HC2 : Hid (Below W.heap.size W w2 ∧ RB w2 (.slice a2 B.length c2) B) := ⟨chainB hb1 hb2, ho2.out.rb⟩; have nl2 := mmS_of (hkeep HB.out.1 HC2.out.1) HB.out.2.2; clear hb1 hb2 HR1 ho2)
      | (go_at_call 25; refine (HG.out W HB.out.2.1).mono ?_; rintro e w1 ⟨ve1, vk1, rfl, hr1, hb1⟩; obtain ⟨Ar1, hAr1⟩ : ∃ A, (m.ms ve1 vk1).arr = A := ⟨_, rfl⟩; rw [hAr1]; have HR1 : Hid ((m.ms ve1 vk1).arr = Ar1 ∧ Rows w1 (m.ms ve1 vk1)) := ⟨hAr1, hr1.out⟩; clear hAr1 hr1 nl)
      | (go_at_call 27; refine (HS.out _ _ _ HC4.out.2.1 HC4.out.2.2).mono ?_; rintro e w5 ⟨rfl, hb5⟩)
      | (go_at_call 28; refine (HAw.out _).mono ?_; rintro e w6 ⟨rfl, hb6⟩))
    go_ret
    exact ⟨rfl, chainB HB.out.2.1 (chainB HC4.out.1 (chainB hb5 hb6))⟩
end Go.Proofs.Ytihjhaafmdobmaa
