/- The law WireCut. -/
import Derived.Test.YtihjhaafmdobmabApb
import Derived.Test.YtihjhaafmdobmabWvF
import Derived.Test.YtihjhaafmdobmabWvH
import Derived.Test.YtihjhaafmdobmabWlE
import Derived.Test.YtihjhaafmdobmabWlH
import Derived.Test.YtihjhaafmdobmabWlI
namespace Go.Proofs.Ytihjhaafmdobmab
open Go.RowKit Go.Lib

/-- a whole message among a law's arguments, loaded, shut -/
def mmS (v : Value) : Sem Value := Instr.loadAt 46 v
theorem loadM (v : Value) : Instr.loadAt 46 v = mmS v := rfl
theorem Try.sizeMm : (Try.prog.info? 46).map (·.size) = some 17 := by kernel_rfl
theorem mmS_of {w : World} {g : Nat} {cs : Array Value} {t : TypeId} {fr : Nat × Nat} (h : w.heap[g]? = some (.cells cs t fr)) (hs : cs.size = 17) : (mmS (.pointer (some ⟨g, 0, none⟩))).run Try.prog w = .ok (.agg cs) w := by
  unfold mmS Instr.loadAt Instr.sureAddr
  simp [run_loadVar_row w g t 46 cs fr _ h Try.underlying46 rfl (by rw [hs]; exact Try.sizeMm)]
attribute [irreducible] mmS
def msgT (a v : Value) : Sem Unit := Instr.storeAt 51 a v
theorem storeMg (a v : Value) : Instr.storeAt 51 a v = msgT a v := rfl
theorem msgT_of {w W : World} {g : Nat} {old cs : Array Value} {t : TypeId} (h : w.heap[g]? = some (.cells old t (0, 0))) (ho : old.size = 16) (hs : cs.size = 16) (h1 : cs.all (·.oneCell') = true) (hW : w.setRow g cs = W) : (msgT (.pointer (some ⟨g, 0, none⟩)) (.agg cs)).run Try.prog w = .ok () W := by
  subst hW
  unfold msgT Instr.storeAt Instr.sureAddr
  simp [run_storeVar_row w g t 51 old cs h (by rw [hs]; exact Try.sizeMsg) (by rw [ho, hs]) h1]
attribute [irreducible] msgT
attribute [local go_sem ↓ high] loadN loadM storeN storeMg
/-- a box made and written over -/
theorem box_over {w X Y : World} {cs cs' : Array Value} {t : TypeId} (h1 : w.alloc (.cells cs t) = X) (h2 : X.setRow w.heap.size cs' = Y) : Below w.heap.size w Y := by
  rw [← h2]; exact below_setRow (boxB h1).2 (Nat.le_refl _) _

def plw (v : Int) (n : Nat) : Nat := (if v.tmod n < 0 then v.tmod n + n else v.tmod n).toNat
theorem plw_lt (v : Int) (n : Nat) (h : 1 ≤ n) : plw v n < n := by
  have h1 := Int.tmod_lt_of_pos v (show (0 : Int) < n by omega)
  have h2 := Int.lt_tmod_of_pos v (show (0 : Int) < n by omega)
  unfold plw
  split <;> omega
theorem place_w (v : Int) (n : Nat) (w : World) (h : 1 ≤ n) (h2 : n ≤ 1000000) :
    Calls Try.prog 16 #[.int .i64 v, .int .i64 n] w fun e w' => e = .returned (.int .i64 (plw v n)) ∧ w = w' := by
  have b1 := Int.tmod_lt_of_pos v (show (0 : Int) < n by omega)
  have b2 := Int.lt_tmod_of_pos v (show (0 : Int) < n by omega)
  by_cases hm : v.tmod n < 0
  · have e : (plw v n : Int) = v.tmod n + n := by unfold plw; rw [if_pos hm]; omega
    rw [e]
    clear e
    go_enter Try.func16, Try.ntmps16
    go_wp2
    go_ret
    exact ⟨rfl, rfl⟩
  · have e : (plw v n : Int) = v.tmod n := by unfold plw; rw [if_neg hm]; omega
    rw [e]
    clear e
    go_enter Try.func16, Try.ntmps16
    go_wp2
    go_ret
    exact ⟨rfl, rfl⟩
/-- bytes cut -/
theorem RC.front {w : World} {g n c P : Nat} {l : List Int} (h : RC w (.slice (some ⟨g, 0, none⟩) n c) l) (hP : P ≤ n) (hn : l.length = n) : RC w (.slice (some ⟨g, 0, none⟩) P c) (l.take P) := by
  obtain ⟨a, cap, e, hc, h⟩ := h
  injection e with e1 e2 e3
  subst e3
  refine ⟨_, _, by rw [List.length_take, Nat.min_eq_left (by omega)], by rw [List.length_take]; omega, ?_⟩
  rcases h with h | ⟨g', off, e, hg, hc⟩
  · exact .inl (by rw [h]; simp)
  · refine .inr ⟨g', off, e1.trans e, hg, fun i x hx => hc i x ?_⟩
    rw [List.getElem?_take] at hx
    split at hx
    · exact hx
    · cases hx
theorem OwnB.somew {w : World} {base : Nat} {v : Value} {l : List Int} {m : Nat} (h : OwnB w base v l) (hl : l.length = m) (hm : 1 ≤ m) : ∃ g c, v = .slice (some ⟨g, 0, none⟩) m c ∧ m ≤ c := by
  rcases h.form with ⟨_, rfl⟩ | ⟨g, c, rfl, h1, h2, h3, _⟩
  · simp at hl; omega
  · exact ⟨g, c, by rw [hl], by omega⟩
theorem msgB_take {m : Mg} (hm : msgOk m) {P : Nat} (hP : P < (msgB m).length) : ∀ m', msgOk m' → msgB m' ≠ (msgB m).take P := fun m' h' e => by
  have := msgB_cut hm h' (r := (msgB m).drop P) (by rw [e, List.take_append_drop])
  have := congrArg List.length this
  rw [List.length_drop] at this
  simp at this
  omega
theorem msgB_more {m : Mg} (hm : msgOk m) (x : Int) : ∀ m', msgOk m' → msgB m' ≠ msgB m ++ [x] := fun m' h' e => by
  have := msgB_cut h' hm e
  cases this
theorem noteB_take {m : Nt} (hm : noteOk m) {P : Nat} (hP : P < (noteB m).length) : ∀ m', noteOk m' → noteB m' ≠ (noteB m).take P := fun m' h' e => by
  have := noteB_cut hm h' (r := (noteB m).drop P) (by rw [e, List.take_append_drop])
  have := congrArg List.length this
  rw [List.length_drop] at this
  simp at this
  omega
theorem noteB_more {m : Nt} (hm : noteOk m) (x : Int) : ∀ m', noteOk m' → noteB m' ≠ noteB m ++ [x] := fun m' h' e => by
  have := noteB_cut h' hm e
  cases this
theorem Byt.takew {l : List Int} (h : Byt l) (P : Nat) : Byt (l.take P) := fun x hx => h x (List.mem_of_mem_take hx)
theorem Byt.morew {l : List Int} (h : Byt l) {x : Int} (hx : 0 ≤ x ∧ x < 256) : Byt (l ++ [x]) := fun y hy => by
  rcases List.mem_append.1 hy with h1 | h1
  · exact h y h1
  · rw [List.mem_singleton.1 h1]; exact hx
set_option maxRecDepth 20000 in
set_option maxHeartbeats 8000000 in
theorem cut_00 (m : Mm) (n : Nt) (at_ x : Int) (w : World) (hm : ArgM w m) (_ : 0 ≤ x ∧ x < 256) (hM : m.plain = false) (hN : plainN n = false) :
    Calls Try.prog 4 #[.agg m.arr, .agg n.arr, .int .i64 at_, .int .u8 x] w fun e w' => e = .returned (.bool true) ∧ Below w.heap.size w w' := by
  have HAw : Hid (∀ W, Calls Try.prog 12 #[] W fun e w' => e = .returned (.bool true) ∧ Below W.heap.size W w') := awake_w
  have HPl : Hid (∀ (k : Nat) W, 1 ≤ k → k ≤ 1000000 → Calls Try.prog 16 #[.int .i64 at_, .int .i64 k] W fun e w' => e = .returned (.int .i64 (plw at_ k)) ∧ W = w') := fun k W h1 h2 => place_w at_ k W h1 h2
  have HCp : Hid (∀ a c l W, RB W (.slice a (List.length l) c) l → l.length ≤ 1000000 → Calls Try.prog 10 #[.slice a l.length c] W fun e w' => ∃ v', e = .returned v' ∧ Hid (OwnB w' W.heap.size v' l) ∧ Below W.heap.size W w') := fun a c l W h1 h2 => (copyB_any _ l W h1 (by unfold LB; omega)).mono fun e w' ⟨v', he, ho, hb⟩ => ⟨v', he, ho, hb⟩
  have HMs : Hid (∀ W2, Below w.heap.size w W2 → Calls Try.prog 14 #[.agg m.arr] W2 fun e w' => ∃ Ar : Array Value, e = .returned (.agg Ar) ∧ Hid (Calls Try.prog 13 #[.agg Ar] w' fun e w'' => e = .returned (.tuple #[.slice none 0 0, .int .i64 50]) ∧ Below w'.heap.size w' w'') ∧ Below W2.heap.size W2 w') := fun W2 h2 => (msg_any m W2 (hm.below h2)).mono fun e w' ⟨ve, vk, he, hE, hK, hb⟩ => ⟨_, he, (encode_m m ve vk w' (owns_le hE (Nat.zero_le _)) (owns_le hK (Nat.zero_le _))).mono fun e' w'' hh => by
    rw [hM] at hh
    exact hh.no, hb⟩
  have HPk : Hid (∀ W, Calls Try.prog 17 #[.agg n.arr] W fun e w' => e = .returned (.tuple #[.slice none 0 0, .int .i64 50]) ∧ Below W.heap.size W w') := fun W => (pack_p n W).mono fun e w' hh => by
    rcases hh with ⟨h0, _⟩ | ⟨_, he, hb⟩
    · rw [hN] at h0; cases h0
    · exact ⟨he, hb⟩
  have hsz : n.arr.size = 22 := rfl
  have hsm : m.arr.size = 17 := rfl
  obtain ⟨A, hA⟩ : ∃ A, n.arr = A := ⟨_, rfl⟩
  obtain ⟨Am, hAm⟩ : ∃ A, m.arr = A := ⟨_, rfl⟩
  rw [hA] at HPk hsz ⊢
  rw [hAm] at HMs hsm ⊢
  obtain ⟨W0, hW0⟩ : ∃ W, w.alloc (.cells Am 46) = W := ⟨_, rfl⟩
  obtain ⟨W, hW⟩ : ∃ W, W0.alloc (.cells A 35) = W := ⟨_, rfl⟩
  have hb0 := boxB hW0
  have hb := boxB hW
  have HB : Hid (W.heap[W0.heap.size]? = some (.cells A 35 (0, 0)) ∧ Below w.heap.size w W ∧ A.size = 22) := ⟨hb.1, chainB hb0.2 hb.2, hsz⟩
  have nm := mmS_of (hkeep hb0.1 hb.2) hsm
  clear hA hAm hb0 hb hsz hsm hM hN hm HPl
  go_enter Try.func4, Try.ntmps4
  go_upto_region 1 with fail
  clear hW0 hW
  go_upto_region 7 with (first
    | (go_at_call 14; refine (HMs.out W HB.out.2.1).mono ?_; rintro e w1 ⟨Ar, rfl, hEn, hb1⟩; clear nm)
    | (go_at_call 13; refine hEn.out.mono ?_; rintro e w2 ⟨rfl, hb2⟩; have HC6 : Hid (Below W.heap.size W w2) := chainB hb1 hb2; clear hEn hb1 hb2))
  have nl := noteS_of (hkeep HB.out.1 HC6.out) HB.out.2.2
  go_wp2_with (first
    | (go_at_call 17; refine (HPk.out _).mono ?_; rintro e w12 ⟨rfl, hb2⟩; have HE6 : Hid (Below W.heap.size W w12) := chainB HC6.out hb2; clear hb2 nl)
    | (go_at_call 12; refine (HAw.out _).mono ?_; rintro e w17 ⟨rfl, hb7⟩))
  go_ret
  exact ⟨rfl, chainB HB.out.2.1 (chainB HE6.out hb7)⟩
set_option maxRecDepth 20000 in
set_option maxHeartbeats 8000000 in
theorem cut_01 (m : Mm) (n : Nt) (at_ x : Int) (w : World) (hm : ArgM w m) (hx : 0 ≤ x ∧ x < 256) (hM : m.plain = false) (hN : plainN n = true) :
    Calls Try.prog 4 #[.agg m.arr, .agg n.arr, .int .i64 at_, .int .u8 x] w fun e w' => e = .returned (.bool true) ∧ Below w.heap.size w w' := by
  have HAw : Hid (∀ W, Calls Try.prog 12 #[] W fun e w' => e = .returned (.bool true) ∧ Below W.heap.size W w') := awake_w
  have HPl : Hid (∀ (k : Nat) W, 1 ≤ k → k ≤ 1000000 → Calls Try.prog 16 #[.int .i64 at_, .int .i64 k] W fun e w' => e = .returned (.int .i64 (plw at_ k)) ∧ W = w') := fun k W h1 h2 => place_w at_ k W h1 h2
  have HCp : Hid (∀ a c l W, RB W (.slice a (List.length l) c) l → l.length ≤ 1000000 → Calls Try.prog 10 #[.slice a l.length c] W fun e w' => ∃ v', e = .returned v' ∧ Hid (OwnB w' W.heap.size v' l) ∧ Below W.heap.size W w') := fun a c l W h1 h2 => (copyB_any _ l W h1 (by unfold LB; omega)).mono fun e w' ⟨v', he, ho, hb⟩ => ⟨v', he, ho, hb⟩
  have HMs : Hid (∀ W2, Below w.heap.size w W2 → Calls Try.prog 14 #[.agg m.arr] W2 fun e w' => ∃ Ar : Array Value, e = .returned (.agg Ar) ∧ Hid (Calls Try.prog 13 #[.agg Ar] w' fun e w'' => e = .returned (.tuple #[.slice none 0 0, .int .i64 50]) ∧ Below w'.heap.size w' w'') ∧ Below W2.heap.size W2 w') := fun W2 h2 => (msg_any m W2 (hm.below h2)).mono fun e w' ⟨ve, vk, he, hE, hK, hb⟩ => ⟨_, he, (encode_m m ve vk w' (owns_le hE (Nat.zero_le _)) (owns_le hK (Nat.zero_le _))).mono fun e' w'' hh => by
    rw [hM] at hh
    exact hh.no, hb⟩
  have hokN := (plainN_iff n).1 hN
  have hlN := noteB_len hokN
  have hbyN := noteB_byt hokN
  have HU1 : Hid (∀ P v W, P < (noteB n).length → RC W v ((noteB n).take P) → Calls Try.prog 9 #[v] W fun e w' => e = .returned (.tuple #[.agg #[.int .i64 0, .int .i64 0, .int .i64 0, .int .i64 0, .int .i64 0, .int .i64 0, .string ⟨#[]⟩, .bool false, .int .i64 0, .int .i64 0, .int .i64 0, .string ⟨#[]⟩, .int .i64 0, .int .i64 0, .int .i64 0, .int .i64 0, .int .i64 0, .string ⟨#[]⟩, .int .i64 0, .string ⟨#[]⟩, .int .i64 0, .string ⟨#[]⟩], .int .i64 50]) ∧ Below W.heap.size W w') := fun P v W hP hr => (unpack_p v _ W hr (hbyN.takew P) (by rw [List.length_take]; omega)).mono fun e w' hh => by
    rcases hh with ⟨m', hm', hB', _⟩ | ⟨_, he, hb⟩
    · exact absurd hB' (noteB_take hokN hP m' hm')
    · exact ⟨he, hb⟩
  have HU2 : Hid (∀ v W, RC W v (noteB n ++ [x]) → Calls Try.prog 9 #[v] W fun e w' => e = .returned (.tuple #[.agg #[.int .i64 0, .int .i64 0, .int .i64 0, .int .i64 0, .int .i64 0, .int .i64 0, .string ⟨#[]⟩, .bool false, .int .i64 0, .int .i64 0, .int .i64 0, .string ⟨#[]⟩, .int .i64 0, .int .i64 0, .int .i64 0, .int .i64 0, .int .i64 0, .string ⟨#[]⟩, .int .i64 0, .string ⟨#[]⟩, .int .i64 0, .string ⟨#[]⟩], .int .i64 50]) ∧ Below W.heap.size W w') := fun v W hr => (unpack_p v _ W hr (hbyN.morew hx) (by rw [List.length_append]; simp; omega)).mono fun e w' hh => by
    rcases hh with ⟨m', hm', hB', _⟩ | ⟨_, he, hb⟩
    · exact absurd hB' (noteB_more hokN x m' hm')
    · exact ⟨he, hb⟩
  have hN1 : 1 ≤ (noteB n).length := by unfold noteB; simp
  have HPk : Hid (∀ W, Calls Try.prog 17 #[.agg n.arr] W fun e w' => ∃ g c, e = .returned (.tuple #[.slice (some ⟨g, 0, none⟩) (noteB n).length c, .int .i64 0]) ∧ Hid (OwnB w' W.heap.size (.slice (some ⟨g, 0, none⟩) (noteB n).length c) (noteB n)) ∧ (noteB n).length ≤ c ∧ Below W.heap.size W w') := fun W => (pack_p n W).mono fun e w' hh => by
    rcases hh with ⟨_, v, he, ho, hb⟩ | ⟨h0, _⟩
    · obtain ⟨g, c, hv, hc⟩ := ho.somew rfl hN1
      subst hv
      exact ⟨g, c, he, ho, hc, hb⟩
    · rw [hN] at h0; cases h0
  obtain ⟨C, hC⟩ : ∃ C, noteB n = C := ⟨_, rfl⟩
  rw [hC] at HPk HU1 HU2 hlN hN1
  obtain ⟨j, hj⟩ : ∃ j, C.length = j := ⟨_, rfl⟩
  rw [hj] at HPk HU1 hlN hN1
  have hPj := plw_lt at_ j hN1
  obtain ⟨R, hR⟩ : ∃ R, plw at_ j = R := ⟨_, rfl⟩
  have HP2 : Hid (∀ W, Calls Try.prog 16 #[.int .i64 at_, .int .i64 j] W fun e w' => e = .returned (.int .i64 R) ∧ W = w') := fun W => by have := HPl.out j W hN1 (by omega); rw [hR] at this; exact this
  rw [hR] at hPj
  have HJ : Hid (C.length = j) := hj
  clear hR hC hokN hbyN hj
  have hsz : n.arr.size = 22 := rfl
  have hsm : m.arr.size = 17 := rfl
  obtain ⟨A, hA⟩ : ∃ A, n.arr = A := ⟨_, rfl⟩
  obtain ⟨Am, hAm⟩ : ∃ A, m.arr = A := ⟨_, rfl⟩
  rw [hA] at HPk hsz ⊢
  rw [hAm] at HMs hsm ⊢
  obtain ⟨W0, hW0⟩ : ∃ W, w.alloc (.cells Am 46) = W := ⟨_, rfl⟩
  obtain ⟨W, hW⟩ : ∃ W, W0.alloc (.cells A 35) = W := ⟨_, rfl⟩
  have hb0 := boxB hW0
  have hb := boxB hW
  have HB : Hid (W.heap[W0.heap.size]? = some (.cells A 35 (0, 0)) ∧ Below w.heap.size w W ∧ A.size = 22) := ⟨hb.1, chainB hb0.2 hb.2, hsz⟩
  have nm := mmS_of (hkeep hb0.1 hb.2) hsm
  clear hA hAm hb0 hb hsz hsm hM hN hm HPl
  go_enter Try.func4, Try.ntmps4
  go_upto_region 1 with fail
  clear hW0 hW
  go_upto_region 7 with (first
    | (go_at_call 14; refine (HMs.out W HB.out.2.1).mono ?_; rintro e w1 ⟨Ar, rfl, hEn, hb1⟩; clear nm)
    | (go_at_call 13; refine hEn.out.mono ?_; rintro e w2 ⟨rfl, hb2⟩; have HC6 : Hid (Below W.heap.size W w2) := chainB hb1 hb2; clear hEn hb1 hb2))
  have nl := noteS_of (hkeep HB.out.1 HC6.out) HB.out.2.2
  go_wp2_with (first
    | (go_at_call 17; refine (HPk.out _).mono ?_; rintro e w12 ⟨g2, c2, rfl, ho2, hc2, hb2⟩; have HE2 : Hid (Below W.heap.size W w12 ∧ OwnB w12 W.heap.size (.slice (some ⟨g2, 0, none⟩) j c2) C) := ⟨chainB HC6.out hb2, ho2.out.le HC6.out.size⟩; have q1 : (0 : Int) ≤ (R : Int) := (by omega); have q2 : (R : Int) ≤ (c2 : Int) := (by omega); have q3 : R ≤ c2 := (by omega); clear ho2 hb2 nl)
    | (go_at_call 16; refine (HP2.out _).mono ?_; rintro e w9 ⟨rfl, rfl⟩)
    | (go_at_call 9; refine (HU2.out _ _ HQ5.out.rc).mono ?_; rintro e w16 ⟨rfl, hb6⟩; obtain ⟨X16, hX16⟩ : ∃ X, w16.alloc (.cells #[.int .i64 0, .int .i64 0, .int .i64 0, .int .i64 0, .int .i64 0, .int .i64 0, .string ⟨#[]⟩, .bool false, .int .i64 0, .int .i64 0, .int .i64 0, .string ⟨#[]⟩, .int .i64 0, .int .i64 0, .int .i64 0, .int .i64 0, .int .i64 0, .string ⟨#[]⟩, .int .i64 0, .string ⟨#[]⟩, .int .i64 0, .string ⟨#[]⟩] 35) = X := ⟨_, rfl⟩; obtain ⟨Y16, hY16⟩ : ∃ Y, X16.setRow w16.heap.size #[.int .i64 0, .int .i64 0, .int .i64 0, .int .i64 0, .int .i64 0, .int .i64 0, .string ⟨#[]⟩, .bool false, .int .i64 0, .int .i64 0, .int .i64 0, .string ⟨#[]⟩, .int .i64 0, .int .i64 0, .int .i64 0, .int .i64 0, .int .i64 0, .string ⟨#[]⟩, .int .i64 0, .string ⟨#[]⟩, .int .i64 0, .string ⟨#[]⟩] = Y := ⟨_, rfl⟩; have nt16 := noteT_of (boxB hX16).1 rfl rfl (by simp [Value.oneCell']) hY16; have hy16 := box_over hX16 hY16; have HE6 : Hid (Below W.heap.size W Y16) := chainB (chainB HE5.out hb6) hy16; clear hb6 hy16)
    | (go_at_call 9; refine (HU1.out R _ _ hPj (HE2.out.2.rc.front (by omega) HJ.out)).mono ?_; rintro e w13 ⟨rfl, hb3⟩; obtain ⟨X13, hX13⟩ : ∃ X, w13.alloc (.cells #[.int .i64 0, .int .i64 0, .int .i64 0, .int .i64 0, .int .i64 0, .int .i64 0, .string ⟨#[]⟩, .bool false, .int .i64 0, .int .i64 0, .int .i64 0, .string ⟨#[]⟩, .int .i64 0, .int .i64 0, .int .i64 0, .int .i64 0, .int .i64 0, .string ⟨#[]⟩, .int .i64 0, .string ⟨#[]⟩, .int .i64 0, .string ⟨#[]⟩] 35) = X := ⟨_, rfl⟩; obtain ⟨Y13, hY13⟩ : ∃ Y, X13.setRow w13.heap.size #[.int .i64 0, .int .i64 0, .int .i64 0, .int .i64 0, .int .i64 0, .int .i64 0, .string ⟨#[]⟩, .bool false, .int .i64 0, .int .i64 0, .int .i64 0, .string ⟨#[]⟩, .int .i64 0, .int .i64 0, .int .i64 0, .int .i64 0, .int .i64 0, .string ⟨#[]⟩, .int .i64 0, .string ⟨#[]⟩, .int .i64 0, .string ⟨#[]⟩] = Y := ⟨_, rfl⟩; have nt13 := noteT_of (boxB hX13).1 rfl rfl (by simp [Value.oneCell']) hY13; have hy13 := box_over hX13 hY13; have HE3 : Hid (Below W.heap.size W Y13 ∧ RB Y13 (.slice (some ⟨g2, 0, none⟩) C.length c2) C) := ⟨chainB (chainB HE2.out.1 hb3) hy13, by rw [HJ.out]; exact ((HE2.out.2.below hb3).below hy13).rb⟩; clear hb3 q1 q2 q3 hy13)
    | (at_builtin; refine wpList_apy rfl _ _ rfl W.heap.size _ C rfl ((hq4.out.le HE3.out.1.size).alloc _) _ [x] rfl (RB.oney _ _ _) (by rw [HJ.out]; simp; omega) (chainB HE4.out (below_alloc _ _)).size ?_; intro v15 w15 ho5 hb5 _; have HE5 : Hid (Below W.heap.size W w15) := (chainB HE4.out (below_alloc _ _)).trans hb5; have HQ5 : Hid (OwnB w15 W.heap.size v15 (C ++ [x])) := ho5; clear hq4 ho5 hb5)
    | (go_at_call 10; clear hX13 hY13 nt13; (have HCa := HCp.out _ _ C Y13 HE3.out.2 (by rw [HJ.out]; omega)); rw [HJ.out] at HCa; refine HCa.mono ?_; rintro e w14 ⟨v14, rfl, hq4, hb4⟩; have HE4 : Hid (Below W.heap.size W w14) := chainB HE3.out.1 hb4; clear hb4 HCa)
    | (go_at_call 12; refine (HAw.out _).mono ?_; rintro e w17 ⟨rfl, hb7⟩))
  go_ret
  exact ⟨rfl, chainB HB.out.2.1 (chainB HE6.out hb7)⟩
set_option maxRecDepth 20000 in
set_option maxHeartbeats 8000000 in
theorem cut_10 (m : Mm) (n : Nt) (at_ x : Int) (w : World) (hm : ArgM w m) (hx : 0 ≤ x ∧ x < 256) (hM : m.plain = true) (hN : plainN n = false) :
    Calls Try.prog 4 #[.agg m.arr, .agg n.arr, .int .i64 at_, .int .u8 x] w fun e w' => e = .returned (.bool true) ∧ Below w.heap.size w w' := by
  have HAw : Hid (∀ W, Calls Try.prog 12 #[] W fun e w' => e = .returned (.bool true) ∧ Below W.heap.size W w') := awake_w
  have HPl : Hid (∀ (k : Nat) W, 1 ≤ k → k ≤ 1000000 → Calls Try.prog 16 #[.int .i64 at_, .int .i64 k] W fun e w' => e = .returned (.int .i64 (plw at_ k)) ∧ W = w') := fun k W h1 h2 => place_w at_ k W h1 h2
  have HCp : Hid (∀ a c l W, RB W (.slice a (List.length l) c) l → l.length ≤ 1000000 → Calls Try.prog 10 #[.slice a l.length c] W fun e w' => ∃ v', e = .returned v' ∧ Hid (OwnB w' W.heap.size v' l) ∧ Below W.heap.size W w') := fun a c l W h1 h2 => (copyB_any _ l W h1 (by unfold LB; omega)).mono fun e w' ⟨v', he, ho, hb⟩ => ⟨v', he, ho, hb⟩
  have hok := ((m.plain_iff).1 hM).2
  have hlM := msgB_len hok
  have hbyM := msgB_byt hok
  have HD1 : Hid (∀ P v W, P < (msgB m.mg).length → RC W v ((msgB m.mg).take P) → Calls Try.prog 15 #[v] W fun e w' => e = .returned (.tuple #[.agg #[.int .i64 0, .int .i64 0, .int .i64 0, .int .i64 0, .complex .f64 0 0, .int .i64 0, .int .i64 0, .int .i64 0, .int .i64 0, .string ⟨#[]⟩, .int .i64 0, .string ⟨#[]⟩, .int .i64 0, .string ⟨#[]⟩, .slice none 0 0, .slice none 0 0], .int .i64 50]) ∧ Below W.heap.size W w') := fun P v W hP hr => decode_no (msgB_take hok hP) v W hr (hbyM.takew P) (by rw [List.length_take]; omega)
  have HD2 : Hid (∀ v W, RC W v (msgB m.mg ++ [x]) → Calls Try.prog 15 #[v] W fun e w' => e = .returned (.tuple #[.agg #[.int .i64 0, .int .i64 0, .int .i64 0, .int .i64 0, .complex .f64 0 0, .int .i64 0, .int .i64 0, .int .i64 0, .int .i64 0, .string ⟨#[]⟩, .int .i64 0, .string ⟨#[]⟩, .int .i64 0, .string ⟨#[]⟩, .slice none 0 0, .slice none 0 0], .int .i64 50]) ∧ Below W.heap.size W w') := fun v W hr => decode_no (msgB_more hok x) v W hr (hbyM.morew hx) (by rw [List.length_append]; simp; omega)
  have hK1 : 1 ≤ (msgB m.mg).length := by unfold msgB; simp
  have HMs : Hid (∀ W2, Below w.heap.size w W2 → Calls Try.prog 14 #[.agg m.arr] W2 fun e w' => ∃ Ar : Array Value, e = .returned (.agg Ar) ∧ Hid (Calls Try.prog 13 #[.agg Ar] w' fun e w'' => ∃ g c, e = .returned (.tuple #[.slice (some ⟨g, 0, none⟩) (msgB m.mg).length c, .int .i64 0]) ∧ Hid (OwnB w'' w'.heap.size (.slice (some ⟨g, 0, none⟩) (msgB m.mg).length c) (msgB m.mg)) ∧ (msgB m.mg).length ≤ c ∧ Below w'.heap.size w' w'') ∧ Below W2.heap.size W2 w') := fun W2 h2 => (msg_any m W2 (hm.below h2)).mono fun e w' ⟨ve, vk, he, hE, hK, hb⟩ => ⟨_, he, (encode_m m ve vk w' (owns_le hE (Nat.zero_le _)) (owns_le hK (Nat.zero_le _))).mono fun e' w'' hh => by
    rw [hM] at hh
    obtain ⟨a, c, he', ho, hb'⟩ := hh.yes
    obtain ⟨g, c', hv, hc⟩ := ho.somew rfl hK1
    injection hv with h1 h2 h3
    subst h1 h3
    exact ⟨g, c, he', ho, hc, hb'⟩, hb⟩
  obtain ⟨B, hB⟩ : ∃ B, msgB m.mg = B := ⟨_, rfl⟩
  rw [hB] at HMs HD1 HD2 hlM hK1
  obtain ⟨k, hk⟩ : ∃ k, B.length = k := ⟨_, rfl⟩
  rw [hk] at HMs HD1 hlM hK1
  have hPk := plw_lt at_ k hK1
  obtain ⟨P, hP⟩ : ∃ P, plw at_ k = P := ⟨_, rfl⟩
  have HP1 : Hid (∀ W, Calls Try.prog 16 #[.int .i64 at_, .int .i64 k] W fun e w' => e = .returned (.int .i64 P) ∧ W = w') := fun W => by have := HPl.out k W hK1 (by omega); rw [hP] at this; exact this
  rw [hP] at hPk
  have HK : Hid (B.length = k) := hk
  clear hP hB hok hbyM hk
  have HPk : Hid (∀ W, Calls Try.prog 17 #[.agg n.arr] W fun e w' => e = .returned (.tuple #[.slice none 0 0, .int .i64 50]) ∧ Below W.heap.size W w') := fun W => (pack_p n W).mono fun e w' hh => by
    rcases hh with ⟨h0, _⟩ | ⟨_, he, hb⟩
    · rw [hN] at h0; cases h0
    · exact ⟨he, hb⟩
  have hsz : n.arr.size = 22 := rfl
  have hsm : m.arr.size = 17 := rfl
  obtain ⟨A, hA⟩ : ∃ A, n.arr = A := ⟨_, rfl⟩
  obtain ⟨Am, hAm⟩ : ∃ A, m.arr = A := ⟨_, rfl⟩
  rw [hA] at HPk hsz ⊢
  rw [hAm] at HMs hsm ⊢
  obtain ⟨W0, hW0⟩ : ∃ W, w.alloc (.cells Am 46) = W := ⟨_, rfl⟩
  obtain ⟨W, hW⟩ : ∃ W, W0.alloc (.cells A 35) = W := ⟨_, rfl⟩
  have hb0 := boxB hW0
  have hb := boxB hW
  have HB : Hid (W.heap[W0.heap.size]? = some (.cells A 35 (0, 0)) ∧ Below w.heap.size w W ∧ A.size = 22) := ⟨hb.1, chainB hb0.2 hb.2, hsz⟩
  have nm := mmS_of (hkeep hb0.1 hb.2) hsm
  clear hA hAm hb0 hb hsz hsm hM hN hm HPl
  go_enter Try.func4, Try.ntmps4
  go_upto_region 1 with fail
  clear hW0 hW
  go_upto_region 7 with (first
    | (go_at_call 14; refine (HMs.out W HB.out.2.1).mono ?_; rintro e w1 ⟨Ar, rfl, hEn, hb1⟩; clear nm)
    | (go_at_call 13; refine hEn.out.mono ?_; rintro e w2 ⟨g2, c2, rfl, ho2, hc2, hb2⟩; have HC2 : Hid (Below W.heap.size W w2 ∧ OwnB w2 W.heap.size (.slice (some ⟨g2, 0, none⟩) k c2) B) := ⟨chainB hb1 hb2, ho2.out.le hb1.size⟩; have q1 : (0 : Int) ≤ (P : Int) := (by omega); have q2 : (P : Int) ≤ (c2 : Int) := (by omega); have q3 : P ≤ c2 := (by omega); clear hEn ho2 hb1 hb2)
    | (go_at_call 16; refine (HP1.out _).mono ?_; rintro e w9 ⟨rfl, rfl⟩)
    | (go_at_call 15; refine (HD2.out _ _ HO5.out.rc).mono ?_; rintro e w6 ⟨rfl, hb6⟩; obtain ⟨X6, hX6⟩ : ∃ X, w6.alloc (.cells #[.int .i64 0, .int .i64 0, .int .i64 0, .int .i64 0, .complex .f64 0 0, .int .i64 0, .int .i64 0, .int .i64 0, .int .i64 0, .string ⟨#[]⟩, .int .i64 0, .string ⟨#[]⟩, .int .i64 0, .string ⟨#[]⟩, .slice none 0 0, .slice none 0 0] 51) = X := ⟨_, rfl⟩; obtain ⟨Y6, hY6⟩ : ∃ Y, X6.setRow w6.heap.size #[.int .i64 0, .int .i64 0, .int .i64 0, .int .i64 0, .complex .f64 0 0, .int .i64 0, .int .i64 0, .int .i64 0, .int .i64 0, .string ⟨#[]⟩, .int .i64 0, .string ⟨#[]⟩, .int .i64 0, .string ⟨#[]⟩, .slice none 0 0, .slice none 0 0] = Y := ⟨_, rfl⟩; have nt6 := msgT_of (boxB hX6).1 rfl rfl (by simp [Value.oneCell']) hY6; have hy6 := box_over hX6 hY6; have HC6 : Hid (Below W.heap.size W Y6) := chainB (chainB HC5.out hb6) hy6; clear hb6 hy6)
    | (go_at_call 15; refine (HD1.out P _ _ hPk (HC2.out.2.rc.front (by omega) HK.out)).mono ?_; rintro e w3 ⟨rfl, hb3⟩; obtain ⟨X3, hX3⟩ : ∃ X, w3.alloc (.cells #[.int .i64 0, .int .i64 0, .int .i64 0, .int .i64 0, .complex .f64 0 0, .int .i64 0, .int .i64 0, .int .i64 0, .int .i64 0, .string ⟨#[]⟩, .int .i64 0, .string ⟨#[]⟩, .int .i64 0, .string ⟨#[]⟩, .slice none 0 0, .slice none 0 0] 51) = X := ⟨_, rfl⟩; obtain ⟨Y3, hY3⟩ : ∃ Y, X3.setRow w3.heap.size #[.int .i64 0, .int .i64 0, .int .i64 0, .int .i64 0, .complex .f64 0 0, .int .i64 0, .int .i64 0, .int .i64 0, .int .i64 0, .string ⟨#[]⟩, .int .i64 0, .string ⟨#[]⟩, .int .i64 0, .string ⟨#[]⟩, .slice none 0 0, .slice none 0 0] = Y := ⟨_, rfl⟩; have nt3 := msgT_of (boxB hX3).1 rfl rfl (by simp [Value.oneCell']) hY3; have hy3 := box_over hX3 hY3; have HC3 : Hid (Below W.heap.size W Y3 ∧ RB Y3 (.slice (some ⟨g2, 0, none⟩) B.length c2) B) := ⟨chainB (chainB HC2.out.1 hb3) hy3, by rw [HK.out]; exact ((HC2.out.2.below hb3).below hy3).rb⟩; clear hb3 q1 q2 q3 hy3)
    | (at_builtin; refine wpList_apy rfl _ _ rfl W.heap.size _ B rfl ((ho4.out.le HC3.out.1.size).alloc _) _ [x] rfl (RB.oney _ _ _) (by rw [HK.out]; simp; omega) (chainB HC4.out (below_alloc _ _)).size ?_; intro v5 w5 ho5 hb5 _; have HC5 : Hid (Below W.heap.size W w5) := (chainB HC4.out (below_alloc _ _)).trans hb5; have HO5 : Hid (OwnB w5 W.heap.size v5 (B ++ [x])) := ho5; clear ho4 ho5 hb5)
    | (go_at_call 10; clear hX3 hY3 nt3; (have HCa := HCp.out _ _ B Y3 HC3.out.2 (by rw [HK.out]; omega)); rw [HK.out] at HCa; refine HCa.mono ?_; rintro e w4 ⟨v4, rfl, ho4, hb4⟩; have HC4 : Hid (Below W.heap.size W w4) := chainB HC3.out.1 hb4; clear hb4 HCa))
  clear hX6 hY6 nt6
  have nl := noteS_of (hkeep HB.out.1 HC6.out) HB.out.2.2
  go_wp2_with (first
    | (go_at_call 17; refine (HPk.out _).mono ?_; rintro e w12 ⟨rfl, hb2⟩; have HE6 : Hid (Below W.heap.size W w12) := chainB HC6.out hb2; clear hb2 nl)
    | (go_at_call 12; refine (HAw.out _).mono ?_; rintro e w17 ⟨rfl, hb7⟩))
  go_ret
  exact ⟨rfl, chainB HB.out.2.1 (chainB HE6.out hb7)⟩
set_option maxRecDepth 20000 in
set_option maxHeartbeats 8000000 in
theorem cut_11 (m : Mm) (n : Nt) (at_ x : Int) (w : World) (hm : ArgM w m) (hx : 0 ≤ x ∧ x < 256) (hM : m.plain = true) (hN : plainN n = true) :
    Calls Try.prog 4 #[.agg m.arr, .agg n.arr, .int .i64 at_, .int .u8 x] w fun e w' => e = .returned (.bool true) ∧ Below w.heap.size w w' := by
  have HAw : Hid (∀ W, Calls Try.prog 12 #[] W fun e w' => e = .returned (.bool true) ∧ Below W.heap.size W w') := awake_w
  have HPl : Hid (∀ (k : Nat) W, 1 ≤ k → k ≤ 1000000 → Calls Try.prog 16 #[.int .i64 at_, .int .i64 k] W fun e w' => e = .returned (.int .i64 (plw at_ k)) ∧ W = w') := fun k W h1 h2 => place_w at_ k W h1 h2
  have HCp : Hid (∀ a c l W, RB W (.slice a (List.length l) c) l → l.length ≤ 1000000 → Calls Try.prog 10 #[.slice a l.length c] W fun e w' => ∃ v', e = .returned v' ∧ Hid (OwnB w' W.heap.size v' l) ∧ Below W.heap.size W w') := fun a c l W h1 h2 => (copyB_any _ l W h1 (by unfold LB; omega)).mono fun e w' ⟨v', he, ho, hb⟩ => ⟨v', he, ho, hb⟩
  have hok := ((m.plain_iff).1 hM).2
  have hlM := msgB_len hok
  have hbyM := msgB_byt hok
  have HD1 : Hid (∀ P v W, P < (msgB m.mg).length → RC W v ((msgB m.mg).take P) → Calls Try.prog 15 #[v] W fun e w' => e = .returned (.tuple #[.agg #[.int .i64 0, .int .i64 0, .int .i64 0, .int .i64 0, .complex .f64 0 0, .int .i64 0, .int .i64 0, .int .i64 0, .int .i64 0, .string ⟨#[]⟩, .int .i64 0, .string ⟨#[]⟩, .int .i64 0, .string ⟨#[]⟩, .slice none 0 0, .slice none 0 0], .int .i64 50]) ∧ Below W.heap.size W w') := fun P v W hP hr => decode_no (msgB_take hok hP) v W hr (hbyM.takew P) (by rw [List.length_take]; omega)
  have HD2 : Hid (∀ v W, RC W v (msgB m.mg ++ [x]) → Calls Try.prog 15 #[v] W fun e w' => e = .returned (.tuple #[.agg #[.int .i64 0, .int .i64 0, .int .i64 0, .int .i64 0, .complex .f64 0 0, .int .i64 0, .int .i64 0, .int .i64 0, .int .i64 0, .string ⟨#[]⟩, .int .i64 0, .string ⟨#[]⟩, .int .i64 0, .string ⟨#[]⟩, .slice none 0 0, .slice none 0 0], .int .i64 50]) ∧ Below W.heap.size W w') := fun v W hr => decode_no (msgB_more hok x) v W hr (hbyM.morew hx) (by rw [List.length_append]; simp; omega)
  have hK1 : 1 ≤ (msgB m.mg).length := by unfold msgB; simp
  have HMs : Hid (∀ W2, Below w.heap.size w W2 → Calls Try.prog 14 #[.agg m.arr] W2 fun e w' => ∃ Ar : Array Value, e = .returned (.agg Ar) ∧ Hid (Calls Try.prog 13 #[.agg Ar] w' fun e w'' => ∃ g c, e = .returned (.tuple #[.slice (some ⟨g, 0, none⟩) (msgB m.mg).length c, .int .i64 0]) ∧ Hid (OwnB w'' w'.heap.size (.slice (some ⟨g, 0, none⟩) (msgB m.mg).length c) (msgB m.mg)) ∧ (msgB m.mg).length ≤ c ∧ Below w'.heap.size w' w'') ∧ Below W2.heap.size W2 w') := fun W2 h2 => (msg_any m W2 (hm.below h2)).mono fun e w' ⟨ve, vk, he, hE, hK, hb⟩ => ⟨_, he, (encode_m m ve vk w' (owns_le hE (Nat.zero_le _)) (owns_le hK (Nat.zero_le _))).mono fun e' w'' hh => by
    rw [hM] at hh
    obtain ⟨a, c, he', ho, hb'⟩ := hh.yes
    obtain ⟨g, c', hv, hc⟩ := ho.somew rfl hK1
    injection hv with h1 h2 h3
    subst h1 h3
    exact ⟨g, c, he', ho, hc, hb'⟩, hb⟩
  obtain ⟨B, hB⟩ : ∃ B, msgB m.mg = B := ⟨_, rfl⟩
  rw [hB] at HMs HD1 HD2 hlM hK1
  obtain ⟨k, hk⟩ : ∃ k, B.length = k := ⟨_, rfl⟩
  rw [hk] at HMs HD1 hlM hK1
  have hPk := plw_lt at_ k hK1
  obtain ⟨P, hP⟩ : ∃ P, plw at_ k = P := ⟨_, rfl⟩
  have HP1 : Hid (∀ W, Calls Try.prog 16 #[.int .i64 at_, .int .i64 k] W fun e w' => e = .returned (.int .i64 P) ∧ W = w') := fun W => by have := HPl.out k W hK1 (by omega); rw [hP] at this; exact this
  rw [hP] at hPk
  have HK : Hid (B.length = k) := hk
  clear hP hB hok hbyM hk
  have hokN := (plainN_iff n).1 hN
  have hlN := noteB_len hokN
  have hbyN := noteB_byt hokN
  have HU1 : Hid (∀ P v W, P < (noteB n).length → RC W v ((noteB n).take P) → Calls Try.prog 9 #[v] W fun e w' => e = .returned (.tuple #[.agg #[.int .i64 0, .int .i64 0, .int .i64 0, .int .i64 0, .int .i64 0, .int .i64 0, .string ⟨#[]⟩, .bool false, .int .i64 0, .int .i64 0, .int .i64 0, .string ⟨#[]⟩, .int .i64 0, .int .i64 0, .int .i64 0, .int .i64 0, .int .i64 0, .string ⟨#[]⟩, .int .i64 0, .string ⟨#[]⟩, .int .i64 0, .string ⟨#[]⟩], .int .i64 50]) ∧ Below W.heap.size W w') := fun P v W hP hr => (unpack_p v _ W hr (hbyN.takew P) (by rw [List.length_take]; omega)).mono fun e w' hh => by
    rcases hh with ⟨m', hm', hB', _⟩ | ⟨_, he, hb⟩
    · exact absurd hB' (noteB_take hokN hP m' hm')
    · exact ⟨he, hb⟩
  have HU2 : Hid (∀ v W, RC W v (noteB n ++ [x]) → Calls Try.prog 9 #[v] W fun e w' => e = .returned (.tuple #[.agg #[.int .i64 0, .int .i64 0, .int .i64 0, .int .i64 0, .int .i64 0, .int .i64 0, .string ⟨#[]⟩, .bool false, .int .i64 0, .int .i64 0, .int .i64 0, .string ⟨#[]⟩, .int .i64 0, .int .i64 0, .int .i64 0, .int .i64 0, .int .i64 0, .string ⟨#[]⟩, .int .i64 0, .string ⟨#[]⟩, .int .i64 0, .string ⟨#[]⟩], .int .i64 50]) ∧ Below W.heap.size W w') := fun v W hr => (unpack_p v _ W hr (hbyN.morew hx) (by rw [List.length_append]; simp; omega)).mono fun e w' hh => by
    rcases hh with ⟨m', hm', hB', _⟩ | ⟨_, he, hb⟩
    · exact absurd hB' (noteB_more hokN x m' hm')
    · exact ⟨he, hb⟩
  have hN1 : 1 ≤ (noteB n).length := by unfold noteB; simp
  have HPk : Hid (∀ W, Calls Try.prog 17 #[.agg n.arr] W fun e w' => ∃ g c, e = .returned (.tuple #[.slice (some ⟨g, 0, none⟩) (noteB n).length c, .int .i64 0]) ∧ Hid (OwnB w' W.heap.size (.slice (some ⟨g, 0, none⟩) (noteB n).length c) (noteB n)) ∧ (noteB n).length ≤ c ∧ Below W.heap.size W w') := fun W => (pack_p n W).mono fun e w' hh => by
    rcases hh with ⟨_, v, he, ho, hb⟩ | ⟨h0, _⟩
    · obtain ⟨g, c, hv, hc⟩ := ho.somew rfl hN1
      subst hv
      exact ⟨g, c, he, ho, hc, hb⟩
    · rw [hN] at h0; cases h0
  obtain ⟨C, hC⟩ : ∃ C, noteB n = C := ⟨_, rfl⟩
  rw [hC] at HPk HU1 HU2 hlN hN1
  obtain ⟨j, hj⟩ : ∃ j, C.length = j := ⟨_, rfl⟩
  rw [hj] at HPk HU1 hlN hN1
  have hPj := plw_lt at_ j hN1
  obtain ⟨R, hR⟩ : ∃ R, plw at_ j = R := ⟨_, rfl⟩
  have HP2 : Hid (∀ W, Calls Try.prog 16 #[.int .i64 at_, .int .i64 j] W fun e w' => e = .returned (.int .i64 R) ∧ W = w') := fun W => by have := HPl.out j W hN1 (by omega); rw [hR] at this; exact this
  rw [hR] at hPj
  have HJ : Hid (C.length = j) := hj
  clear hR hC hokN hbyN hj
  have hsz : n.arr.size = 22 := rfl
  have hsm : m.arr.size = 17 := rfl
  obtain ⟨A, hA⟩ : ∃ A, n.arr = A := ⟨_, rfl⟩
  obtain ⟨Am, hAm⟩ : ∃ A, m.arr = A := ⟨_, rfl⟩
  rw [hA] at HPk hsz ⊢
  rw [hAm] at HMs hsm ⊢
  obtain ⟨W0, hW0⟩ : ∃ W, w.alloc (.cells Am 46) = W := ⟨_, rfl⟩
  obtain ⟨W, hW⟩ : ∃ W, W0.alloc (.cells A 35) = W := ⟨_, rfl⟩
  have hb0 := boxB hW0
  have hb := boxB hW
  have HB : Hid (W.heap[W0.heap.size]? = some (.cells A 35 (0, 0)) ∧ Below w.heap.size w W ∧ A.size = 22) := ⟨hb.1, chainB hb0.2 hb.2, hsz⟩
  have nm := mmS_of (hkeep hb0.1 hb.2) hsm
  clear hA hAm hb0 hb hsz hsm hM hN hm HPl
  go_enter Try.func4, Try.ntmps4
  go_upto_region 1 with fail
  clear hW0 hW
  go_upto_region 7 with (first
    | (go_at_call 14; refine (HMs.out W HB.out.2.1).mono ?_; rintro e w1 ⟨Ar, rfl, hEn, hb1⟩; clear nm)
    | (go_at_call 13; refine hEn.out.mono ?_; rintro e w2 ⟨g2, c2, rfl, ho2, hc2, hb2⟩; have HC2 : Hid (Below W.heap.size W w2 ∧ OwnB w2 W.heap.size (.slice (some ⟨g2, 0, none⟩) k c2) B) := ⟨chainB hb1 hb2, ho2.out.le hb1.size⟩; have q1 : (0 : Int) ≤ (P : Int) := (by omega); have q2 : (P : Int) ≤ (c2 : Int) := (by omega); have q3 : P ≤ c2 := (by omega); clear hEn ho2 hb1 hb2)
    | (go_at_call 16; refine (HP1.out _).mono ?_; rintro e w9 ⟨rfl, rfl⟩)
    | (go_at_call 15; refine (HD2.out _ _ HO5.out.rc).mono ?_; rintro e w6 ⟨rfl, hb6⟩; obtain ⟨X6, hX6⟩ : ∃ X, w6.alloc (.cells #[.int .i64 0, .int .i64 0, .int .i64 0, .int .i64 0, .complex .f64 0 0, .int .i64 0, .int .i64 0, .int .i64 0, .int .i64 0, .string ⟨#[]⟩, .int .i64 0, .string ⟨#[]⟩, .int .i64 0, .string ⟨#[]⟩, .slice none 0 0, .slice none 0 0] 51) = X := ⟨_, rfl⟩; obtain ⟨Y6, hY6⟩ : ∃ Y, X6.setRow w6.heap.size #[.int .i64 0, .int .i64 0, .int .i64 0, .int .i64 0, .complex .f64 0 0, .int .i64 0, .int .i64 0, .int .i64 0, .int .i64 0, .string ⟨#[]⟩, .int .i64 0, .string ⟨#[]⟩, .int .i64 0, .string ⟨#[]⟩, .slice none 0 0, .slice none 0 0] = Y := ⟨_, rfl⟩; have nt6 := msgT_of (boxB hX6).1 rfl rfl (by simp [Value.oneCell']) hY6; have hy6 := box_over hX6 hY6; have HC6 : Hid (Below W.heap.size W Y6) := chainB (chainB HC5.out hb6) hy6; clear hb6 hy6)
    | (go_at_call 15; refine (HD1.out P _ _ hPk (HC2.out.2.rc.front (by omega) HK.out)).mono ?_; rintro e w3 ⟨rfl, hb3⟩; obtain ⟨X3, hX3⟩ : ∃ X, w3.alloc (.cells #[.int .i64 0, .int .i64 0, .int .i64 0, .int .i64 0, .complex .f64 0 0, .int .i64 0, .int .i64 0, .int .i64 0, .int .i64 0, .string ⟨#[]⟩, .int .i64 0, .string ⟨#[]⟩, .int .i64 0, .string ⟨#[]⟩, .slice none 0 0, .slice none 0 0] 51) = X := ⟨_, rfl⟩; obtain ⟨Y3, hY3⟩ : ∃ Y, X3.setRow w3.heap.size #[.int .i64 0, .int .i64 0, .int .i64 0, .int .i64 0, .complex .f64 0 0, .int .i64 0, .int .i64 0, .int .i64 0, .int .i64 0, .string ⟨#[]⟩, .int .i64 0, .string ⟨#[]⟩, .int .i64 0, .string ⟨#[]⟩, .slice none 0 0, .slice none 0 0] = Y := ⟨_, rfl⟩; have nt3 := msgT_of (boxB hX3).1 rfl rfl (by simp [Value.oneCell']) hY3; have hy3 := box_over hX3 hY3; have HC3 : Hid (Below W.heap.size W Y3 ∧ RB Y3 (.slice (some ⟨g2, 0, none⟩) B.length c2) B) := ⟨chainB (chainB HC2.out.1 hb3) hy3, by rw [HK.out]; exact ((HC2.out.2.below hb3).below hy3).rb⟩; clear hb3 q1 q2 q3 hy3)
    | (at_builtin; refine wpList_apy rfl _ _ rfl W.heap.size _ B rfl ((ho4.out.le HC3.out.1.size).alloc _) _ [x] rfl (RB.oney _ _ _) (by rw [HK.out]; simp; omega) (chainB HC4.out (below_alloc _ _)).size ?_; intro v5 w5 ho5 hb5 _; have HC5 : Hid (Below W.heap.size W w5) := (chainB HC4.out (below_alloc _ _)).trans hb5; have HO5 : Hid (OwnB w5 W.heap.size v5 (B ++ [x])) := ho5; clear ho4 ho5 hb5)
    | (go_at_call 10; clear hX3 hY3 nt3; (have HCa := HCp.out _ _ B Y3 HC3.out.2 (by rw [HK.out]; omega)); rw [HK.out] at HCa; refine HCa.mono ?_; rintro e w4 ⟨v4, rfl, ho4, hb4⟩; have HC4 : Hid (Below W.heap.size W w4) := chainB HC3.out.1 hb4; clear hb4 HCa))
  clear hX6 hY6 nt6
  have nl := noteS_of (hkeep HB.out.1 HC6.out) HB.out.2.2
  go_wp2_with (first
    | (go_at_call 17; refine (HPk.out _).mono ?_; rintro e w12 ⟨g2, c2, rfl, ho2, hc2, hb2⟩; have HE2 : Hid (Below W.heap.size W w12 ∧ OwnB w12 W.heap.size (.slice (some ⟨g2, 0, none⟩) j c2) C) := ⟨chainB HC6.out hb2, ho2.out.le HC6.out.size⟩; have q1 : (0 : Int) ≤ (R : Int) := (by omega); have q2 : (R : Int) ≤ (c2 : Int) := (by omega); have q3 : R ≤ c2 := (by omega); clear ho2 hb2 nl)
    | (go_at_call 16; refine (HP2.out _).mono ?_; rintro e w9 ⟨rfl, rfl⟩)
    | (go_at_call 9; refine (HU2.out _ _ HQ5.out.rc).mono ?_; rintro e w16 ⟨rfl, hb6⟩; obtain ⟨X16, hX16⟩ : ∃ X, w16.alloc (.cells #[.int .i64 0, .int .i64 0, .int .i64 0, .int .i64 0, .int .i64 0, .int .i64 0, .string ⟨#[]⟩, .bool false, .int .i64 0, .int .i64 0, .int .i64 0, .string ⟨#[]⟩, .int .i64 0, .int .i64 0, .int .i64 0, .int .i64 0, .int .i64 0, .string ⟨#[]⟩, .int .i64 0, .string ⟨#[]⟩, .int .i64 0, .string ⟨#[]⟩] 35) = X := ⟨_, rfl⟩; obtain ⟨Y16, hY16⟩ : ∃ Y, X16.setRow w16.heap.size #[.int .i64 0, .int .i64 0, .int .i64 0, .int .i64 0, .int .i64 0, .int .i64 0, .string ⟨#[]⟩, .bool false, .int .i64 0, .int .i64 0, .int .i64 0, .string ⟨#[]⟩, .int .i64 0, .int .i64 0, .int .i64 0, .int .i64 0, .int .i64 0, .string ⟨#[]⟩, .int .i64 0, .string ⟨#[]⟩, .int .i64 0, .string ⟨#[]⟩] = Y := ⟨_, rfl⟩; have nt16 := noteT_of (boxB hX16).1 rfl rfl (by simp [Value.oneCell']) hY16; have hy16 := box_over hX16 hY16; have HE6 : Hid (Below W.heap.size W Y16) := chainB (chainB HE5.out hb6) hy16; clear hb6 hy16)
    | (go_at_call 9; refine (HU1.out R _ _ hPj (HE2.out.2.rc.front (by omega) HJ.out)).mono ?_; rintro e w13 ⟨rfl, hb3⟩; obtain ⟨X13, hX13⟩ : ∃ X, w13.alloc (.cells #[.int .i64 0, .int .i64 0, .int .i64 0, .int .i64 0, .int .i64 0, .int .i64 0, .string ⟨#[]⟩, .bool false, .int .i64 0, .int .i64 0, .int .i64 0, .string ⟨#[]⟩, .int .i64 0, .int .i64 0, .int .i64 0, .int .i64 0, .int .i64 0, .string ⟨#[]⟩, .int .i64 0, .string ⟨#[]⟩, .int .i64 0, .string ⟨#[]⟩] 35) = X := ⟨_, rfl⟩; obtain ⟨Y13, hY13⟩ : ∃ Y, X13.setRow w13.heap.size #[.int .i64 0, .int .i64 0, .int .i64 0, .int .i64 0, .int .i64 0, .int .i64 0, .string ⟨#[]⟩, .bool false, .int .i64 0, .int .i64 0, .int .i64 0, .string ⟨#[]⟩, .int .i64 0, .int .i64 0, .int .i64 0, .int .i64 0, .int .i64 0, .string ⟨#[]⟩, .int .i64 0, .string ⟨#[]⟩, .int .i64 0, .string ⟨#[]⟩] = Y := ⟨_, rfl⟩; have nt13 := noteT_of (boxB hX13).1 rfl rfl (by simp [Value.oneCell']) hY13; have hy13 := box_over hX13 hY13; have HE3 : Hid (Below W.heap.size W Y13 ∧ RB Y13 (.slice (some ⟨g2, 0, none⟩) C.length c2) C) := ⟨chainB (chainB HE2.out.1 hb3) hy13, by rw [HJ.out]; exact ((HE2.out.2.below hb3).below hy13).rb⟩; clear hb3 q1 q2 q3 hy13)
    | (at_builtin; refine wpList_apy rfl _ _ rfl W.heap.size _ C rfl ((hq4.out.le HE3.out.1.size).alloc _) _ [x] rfl (RB.oney _ _ _) (by rw [HJ.out]; simp; omega) (chainB HE4.out (below_alloc _ _)).size ?_; intro v15 w15 ho5 hb5 _; have HE5 : Hid (Below W.heap.size W w15) := (chainB HE4.out (below_alloc _ _)).trans hb5; have HQ5 : Hid (OwnB w15 W.heap.size v15 (C ++ [x])) := ho5; clear hq4 ho5 hb5)
    | (go_at_call 10; clear hX13 hY13 nt13; (have HCa := HCp.out _ _ C Y13 HE3.out.2 (by rw [HJ.out]; omega)); rw [HJ.out] at HCa; refine HCa.mono ?_; rintro e w14 ⟨v14, rfl, hq4, hb4⟩; have HE4 : Hid (Below W.heap.size W w14) := chainB HE3.out.1 hb4; clear hb4 HCa)
    | (go_at_call 12; refine (HAw.out _).mono ?_; rintro e w17 ⟨rfl, hb7⟩))
  go_ret
  exact ⟨rfl, chainB HB.out.2.1 (chainB HE6.out hb7)⟩
theorem walk_WireCut (m : Mm) (n : Nt) (at_ x : Int) (w : World) (hm : ArgM w m) (_ : (Lit.int .i64 at_).wf = true) (hx : (Lit.int .u8 x).wf = true) :
    Calls Try.prog 4 #[.agg m.arr, .agg n.arr, .int .i64 at_, .int .u8 x] w fun e w' => e = .returned (.bool true) ∧ Below w.heap.size w w' := by
  have hx' : 0 ≤ x ∧ x < 256 := by simp [Lit.wf, IntKind.min, IntKind.max, IntKind.bits, IntKind.signed] at hx; omega
  cases hM : m.plain <;> cases hN : plainN n
  · exact cut_00 m n at_ x w hm hx' hM hN
  · exact cut_01 m n at_ x w hm hx' hM hN
  · exact cut_10 m n at_ x w hm hx' hM hN
  · exact cut_11 m n at_ x w hm hx' hM hN
end Go.Proofs.Ytihjhaafmdobmab
