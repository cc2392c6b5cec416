/- The law WireForth. -/
import Derived.Test.YtinhbnhfahlcpabWvF
import Derived.Test.YtinhbnhfahlcpabWvH
import Derived.Test.YtinhbnhfahlcpabWlE
namespace Go.Proofs.Ytinhbnhfahlcpab
open Go.RowKit Go.Lib
attribute [local go_sem ↓ high] loadN storeN
attribute [local go_sem high] guardNt

theorem Nt.arr_one (n : Nt) : n.arr.all (·.oneCell') = true := by unfold Nt.arr; simp [Value.oneCell']
theorem pack_yes {n : Nt} (h : noteOk n) (w : World) : Calls Try.prog 8 #[.agg n.arr] w fun e w' => ∃ a c, e = .returned (.tuple #[.slice a (noteB n).length c, .int .i64 0]) ∧ Hid (OwnB w' w.heap.size (.slice a (noteB n).length c) (noteB n)) ∧ Below w.heap.size w w' :=
  (pack_p n w).mono fun e w' hh => by
    rcases hh with ⟨_, v, he, ho, hb⟩ | ⟨h0, _⟩
    · obtain ⟨a, c, hv⟩ := owns_len ho
      subst hv
      exact ⟨a, c, he, ho, hb⟩
    · rw [(plainN_iff n).2 h] at h0; cases h0
theorem pack_no {n : Nt} (h : plainN n = false) (w : World) : Calls Try.prog 8 #[.agg n.arr] w fun e w' => e = .returned (.tuple #[.slice none 0 0, .int .i64 50]) ∧ Below w.heap.size w w' :=
  (pack_p n w).mono fun e w' hh => by
    rcases hh with ⟨h0, _⟩ | ⟨_, he, hb⟩
    · rw [h] at h0; cases h0
    · exact ⟨he, hb⟩
theorem unpack_y {n : Nt} (h : noteOk n) (v : Value) (w : World) (hr : RC w v (noteB n)) (hlim : (noteB n).length ≤ 140737488355328) : Calls Try.prog 9 #[v] w fun e w' => e = .returned (.tuple #[.agg n.arr, .int .i64 0]) ∧ Below w.heap.size w w' :=
  (unpack_p v _ w hr (noteB_byt h) hlim).mono fun e w' hh => by
    rcases hh with ⟨m, hm, hB, he, hb⟩ | ⟨h0, _⟩
    · rw [noteB_inj hm h hB] at he
      exact ⟨he, hb⟩
    · exact absurd rfl (h0 n h)
theorem unpack_n {l : List Int} (hby : Byt l) (h : ∀ n, noteOk n → noteB n ≠ l) (v : Value) (w : World) (hr : RC w v l) (hlim : l.length ≤ 140737488355328) : Calls Try.prog 9 #[v] w fun e w' => e = .returned (.tuple #[.agg #[.int .i64 0, .int .i64 0, .int .i64 0, .int .i64 0, .int .i64 0, .int .i64 0, .string ⟨#[]⟩, .bool false, .int .i64 0, .int .i64 0, .int .i64 0, .string ⟨#[]⟩, .int .i64 0, .int .i64 0, .int .i64 0, .int .i64 0, .int .i64 0, .string ⟨#[]⟩, .int .i64 0, .string ⟨#[]⟩, .int .i64 0, .string ⟨#[]⟩], .int .i64 50]) ∧ Below w.heap.size w w' :=
  (unpack_p v _ w hr hby hlim).mono fun e w' hh => by
    rcases hh with ⟨m, hm, hB, _⟩ | ⟨_, he, hb⟩
    · exact absurd hB (h m hm)
    · exact ⟨he, hb⟩

set_option maxRecDepth 20000 in
set_option maxHeartbeats 8000000 in
theorem forth_00 (n : Nt) (v : Value) (l : List Int) (w : World) (hr : RB w v l) (hlen : l.length ≤ LB) (hbyt : Byt l) (hP : plainN n = false) (hU : ∀ m, noteOk m → noteB m ≠ l) :
    Calls Try.prog 3 #[.agg n.arr, v] w fun e w' => e = .returned (.bool true) ∧ Below w.heap.size w w' := by
  have hLB : l.length ≤ 140737488351232 := hlen
  obtain ⟨av, cv, rfl, _⟩ := id hr
  have HAw : Hid (∀ W, Calls Try.prog 11 #[] W fun e w' => e = .returned (.bool true) ∧ Below W.heap.size W w') := awake_w
  have HCp : Hid (∀ W, Below w.heap.size w W → Calls Try.prog 10 #[.slice av l.length cv] W fun e w' => ∃ a c, e = .returned (.slice a l.length c) ∧ Hid (OwnB w' W.heap.size (.slice a l.length c) l) ∧ Below W.heap.size W w') := fun W hb => (copyB_any _ l W (hr.below hb) hlen).mono fun e w' ⟨v', he, ho, hb⟩ => by
    obtain ⟨a, c, hv⟩ := owns_len ho
    subst hv
    exact ⟨a, c, he, ho, hb⟩
  have HPk : Hid (∀ W, Calls Try.prog 8 #[.agg n.arr] W fun e w' => e = .returned (.tuple #[.slice none 0 0, .int .i64 50]) ∧ Below W.heap.size W w') := fun W => pack_no hP W
  have HUm : Hid (∀ v W, RC W v l → Calls Try.prog 9 #[v] W fun e w' => e = .returned (.tuple #[.agg #[.int .i64 0, .int .i64 0, .int .i64 0, .int .i64 0, .int .i64 0, .int .i64 0, .string ⟨#[]⟩, .bool false, .int .i64 0, .int .i64 0, .int .i64 0, .string ⟨#[]⟩, .int .i64 0, .int .i64 0, .int .i64 0, .int .i64 0, .int .i64 0, .string ⟨#[]⟩, .int .i64 0, .string ⟨#[]⟩, .int .i64 0, .string ⟨#[]⟩], .int .i64 50]) ∧ Below W.heap.size W w') := fun v W hrc => unpack_n hbyt hU v W hrc (by omega)
  have hqz : ∀ w', (binOp .eql 34 (.agg #[.int .i64 0, .int .i64 0, .int .i64 0, .int .i64 0, .int .i64 0, .int .i64 0, .string ⟨#[]⟩, .bool false, .int .i64 0, .int .i64 0, .int .i64 0, .string ⟨#[]⟩, .int .i64 0, .int .i64 0, .int .i64 0, .int .i64 0, .int .i64 0, .string ⟨#[]⟩, .int .i64 0, .string ⟨#[]⟩, .int .i64 0, .string ⟨#[]⟩]) (.agg #[.int .i64 0, .int .i64 0, .int .i64 0, .int .i64 0, .int .i64 0, .int .i64 0, .string ⟨#[]⟩, .bool false, .int .i64 0, .int .i64 0, .int .i64 0, .string ⟨#[]⟩, .int .i64 0, .int .i64 0, .int .i64 0, .int .i64 0, .int .i64 0, .string ⟨#[]⟩, .int .i64 0, .string ⟨#[]⟩, .int .i64 0, .string ⟨#[]⟩])).run Try.prog w' = .ok (.bool true) w' := fun w' => by
    have := eqNtB w' zeroNt zeroNt
    rw [(eqNt_iff _ _).2 rfl] at this
    exact this
  have hsz : n.arr.size = 22 := rfl
  have hone := n.arr_one
  obtain ⟨A, hA⟩ : ∃ A, n.arr = A := ⟨_, rfl⟩
  rw [hA] at HPk hsz hone ⊢
  have HZ : Hid (A.size = 22 ∧ A.all (·.oneCell') = true) := ⟨hsz, hone⟩
  obtain ⟨W, hW⟩ : ∃ W, w.alloc (.cells A 34) = W := ⟨_, rfl⟩
  have hbx := boxB hW
  have HBx : Hid (W.heap[w.heap.size]? = some (.cells A 34 (0, 0)) ∧ Below w.heap.size w W) := hbx
  have nl := noteS_of hbx.1 hsz
  clear hr hbyt hP hbx hsz hone hA hU hlen
  go_enter Try.func3, Try.ntmps3
  go_upto_region 1 with fail
  clear hW
  go_upto_region 8 with (go_at_call 8; refine (HPk.out _).mono ?_; rintro e w1 ⟨rfl, hb1⟩; have HCur : Hid (Below w.heap.size w w1) := chainB HBx.out.2 hb1)
  clear nl hb1 HPk
  go_upto_region 9 with (first
    | (go_at_call 9; refine (HUm.out _ _ ho11.out.rc).mono ?_; rintro e w12 ⟨rfl, hb12⟩; obtain ⟨W13, hW13⟩ : ∃ W3, w12.alloc (.cells #[.int .i64 0, .int .i64 0, .int .i64 0, .int .i64 0, .int .i64 0, .int .i64 0, .string ⟨#[]⟩, .bool false, .int .i64 0, .int .i64 0, .int .i64 0, .string ⟨#[]⟩, .int .i64 0, .int .i64 0, .int .i64 0, .int .i64 0, .int .i64 0, .string ⟨#[]⟩, .int .i64 0, .string ⟨#[]⟩, .int .i64 0, .string ⟨#[]⟩] 34) = W3 := ⟨_, rfl⟩; obtain ⟨W14, hW14⟩ : ∃ W4, W13.setRow w12.heap.size #[.int .i64 0, .int .i64 0, .int .i64 0, .int .i64 0, .int .i64 0, .int .i64 0, .string ⟨#[]⟩, .bool false, .int .i64 0, .int .i64 0, .int .i64 0, .string ⟨#[]⟩, .int .i64 0, .int .i64 0, .int .i64 0, .int .i64 0, .int .i64 0, .string ⟨#[]⟩, .int .i64 0, .string ⟨#[]⟩, .int .i64 0, .string ⟨#[]⟩] = W4 := ⟨_, rfl⟩; have nt := noteT_of (boxB hW13).1 rfl rfl (by simp [Value.oneCell']) hW14)
    | (go_at_call 10; refine (HCp.out _ HCur.out).mono ?_; rintro e w11 ⟨a11, c11, rfl, ho11, hb11⟩))
  have hb13 := boxB hW13
  have hc12 := chainB HCur.out (chainB hb11 hb12)
  have hn14 : W14.heap[w12.heap.size]? = some (.cells #[.int .i64 0, .int .i64 0, .int .i64 0, .int .i64 0, .int .i64 0, .int .i64 0, .string ⟨#[]⟩, .bool false, .int .i64 0, .int .i64 0, .int .i64 0, .string ⟨#[]⟩, .int .i64 0, .int .i64 0, .int .i64 0, .int .i64 0, .int .i64 0, .string ⟨#[]⟩, .int .i64 0, .string ⟨#[]⟩, .int .i64 0, .string ⟨#[]⟩] 34 (0, 0)) := by rw [← hW14]; exact setRow_heap _ _ _ _ _ _ hb13.1
  have HC14 : Hid (Below w.heap.size w W14) := by rw [← hW14]; exact below_setRow (chainB hc12 hb13.2) hc12.size _
  have nl14 := noteS_of hn14 rfl
  clear hW13 hW14 nt hb13 hc12 hn14 ho11 hb11 hb12 HCur HUm HCp
  go_wp2_with (go_at_call 11; refine (HAw.out W14).mono ?_; rintro e w17 ⟨rfl, hb17⟩)
  go_ret
  exact ⟨rfl, chainB HC14.out hb17⟩

set_option maxRecDepth 20000 in
set_option maxHeartbeats 8000000 in
theorem forth_01 (n : Nt) (v : Value) (l : List Int) (w : World) (hr : RB w v l) (hlen : l.length ≤ LB) (_hbyt : Byt l) (hP : plainN n = false) (m : Nt) (hU : noteOk m) (hB : noteB m = l) :
    Calls Try.prog 3 #[.agg n.arr, v] w fun e w' => e = .returned (.bool true) ∧ Below w.heap.size w w' := by
  have hLB : l.length ≤ 140737488351232 := hlen
  obtain ⟨av, cv, rfl, _⟩ := id hr
  have HAw : Hid (∀ W, Calls Try.prog 11 #[] W fun e w' => e = .returned (.bool true) ∧ Below W.heap.size W w') := awake_w
  have HCp : Hid (∀ W, Below w.heap.size w W → Calls Try.prog 10 #[.slice av l.length cv] W fun e w' => ∃ a c, e = .returned (.slice a l.length c) ∧ Hid (OwnB w' W.heap.size (.slice a l.length c) l) ∧ Below W.heap.size W w') := fun W hb => (copyB_any _ l W (hr.below hb) hlen).mono fun e w' ⟨v', he, ho, hb⟩ => by
    obtain ⟨a, c, hv⟩ := owns_len ho
    subst hv
    exact ⟨a, c, he, ho, hb⟩
  have HPk : Hid (∀ W, Calls Try.prog 8 #[.agg n.arr] W fun e w' => e = .returned (.tuple #[.slice none 0 0, .int .i64 50]) ∧ Below W.heap.size W w') := fun W => pack_no hP W
  have HUm : Hid (∀ v W, RC W v l → Calls Try.prog 9 #[v] W fun e w' => e = .returned (.tuple #[.agg m.arr, .int .i64 0]) ∧ Below W.heap.size W w') := fun v W hrc => by
    rw [← hB] at hrc
    exact unpack_y hU v W hrc (by rw [hB]; omega)
  have HPm : Hid (∀ W, Calls Try.prog 8 #[.agg m.arr] W fun e w' => ∃ a c, e = .returned (.tuple #[.slice a l.length c, .int .i64 0]) ∧ Hid (OwnB w' W.heap.size (.slice a l.length c) l) ∧ Below W.heap.size W w') := fun W => by
    have := pack_yes hU W
    rw [hB] at this
    exact this
  have HSm : Hid (∀ W a c, OwnB W 0 (.slice a l.length c) l → Below w.heap.size w W → Calls Try.prog 12 #[.slice a l.length c, .slice av l.length cv] W fun e w' => e = .returned (.bool true) ∧ Below W.heap.size W w') := fun W a c ho hb => by
    have := same_any _ _ l l W ho.rb (hr.below hb) hlen hlen
    rw [decide_eq_true rfl] at this
    exact this
  have hmz : m.arr.size = 22 := rfl
  have hmo := m.arr_one
  obtain ⟨M, hM⟩ : ∃ M, m.arr = M := ⟨_, rfl⟩
  rw [hM] at HUm HPm hmz hmo
  have HMz : Hid (M.size = 22 ∧ M.all (·.oneCell') = true) := ⟨hmz, hmo⟩
  clear hmz hmo hM
  have hsz : n.arr.size = 22 := rfl
  have hone := n.arr_one
  obtain ⟨A, hA⟩ : ∃ A, n.arr = A := ⟨_, rfl⟩
  rw [hA] at HPk hsz hone ⊢
  have HZ : Hid (A.size = 22 ∧ A.all (·.oneCell') = true) := ⟨hsz, hone⟩
  obtain ⟨W, hW⟩ : ∃ W, w.alloc (.cells A 34) = W := ⟨_, rfl⟩
  have hbx := boxB hW
  have HBx : Hid (W.heap[w.heap.size]? = some (.cells A 34 (0, 0)) ∧ Below w.heap.size w W) := hbx
  have nl := noteS_of hbx.1 hsz
  clear hr _hbyt hP hbx hsz hone hA hU hlen hB
  go_enter Try.func3, Try.ntmps3
  go_upto_region 1 with fail
  clear hW
  go_upto_region 8 with (go_at_call 8; refine (HPk.out _).mono ?_; rintro e w1 ⟨rfl, hb1⟩; have HCur : Hid (Below w.heap.size w w1) := chainB HBx.out.2 hb1)
  clear nl hb1 HPk
  go_upto_region 9 with (first
    | (go_at_call 9; refine (HUm.out _ _ ho11.out.rc).mono ?_; rintro e w12 ⟨rfl, hb12⟩; obtain ⟨W13, hW13⟩ : ∃ W3, w12.alloc (.cells #[.int .i64 0, .int .i64 0, .int .i64 0, .int .i64 0, .int .i64 0, .int .i64 0, .string ⟨#[]⟩, .bool false, .int .i64 0, .int .i64 0, .int .i64 0, .string ⟨#[]⟩, .int .i64 0, .int .i64 0, .int .i64 0, .int .i64 0, .int .i64 0, .string ⟨#[]⟩, .int .i64 0, .string ⟨#[]⟩, .int .i64 0, .string ⟨#[]⟩] 34) = W3 := ⟨_, rfl⟩; obtain ⟨W14, hW14⟩ : ∃ W4, W13.setRow w12.heap.size M = W4 := ⟨_, rfl⟩; have nt := noteT_of (boxB hW13).1 rfl HMz.out.1 HMz.out.2 hW14)
    | (go_at_call 10; refine (HCp.out _ HCur.out).mono ?_; rintro e w11 ⟨a11, c11, rfl, ho11, hb11⟩))
  have hb13 := boxB hW13
  have hc12 := chainB HCur.out (chainB hb11 hb12)
  have hn14 : W14.heap[w12.heap.size]? = some (.cells M 34 (0, 0)) := by rw [← hW14]; exact setRow_heap _ _ _ _ _ _ hb13.1
  have HC14 : Hid (Below w.heap.size w W14) := by rw [← hW14]; exact below_setRow (chainB hc12 hb13.2) hc12.size _
  have nl14 := noteS_of hn14 HMz.out.1
  clear hW13 hW14 nt hb13 hc12 hn14 ho11 hb11 hb12 HCur HUm HCp
  go_upto_region 12 with (go_at_call 8; refine (HPm.out W14).mono ?_; rintro e w15 ⟨a15, c15, rfl, ho15, hb15⟩)
  have HS15 : Hid (Calls Try.prog 12 #[.slice a15 l.length c15, .slice av l.length cv] w15 fun e w' => e = .returned (.bool true) ∧ Below w15.heap.size w15 w') := HSm.out w15 a15 c15 (owns_le ho15.out (Nat.zero_le _)) (chainB HC14.out hb15)
  clear nl14 ho15
  go_wp2_with (first
    | (go_at_call 11; refine (HAw.out w16).mono ?_; rintro e w17 ⟨rfl, hb17⟩)
    | (go_at_call 12; refine HS15.out.mono ?_; rintro e w16 ⟨rfl, hb16⟩))
  go_ret
  exact ⟨rfl, chainB HC14.out (chainB hb15 (chainB hb16 hb17))⟩

set_option maxRecDepth 20000 in
set_option maxHeartbeats 8000000 in
theorem forth_10 (n : Nt) (v : Value) (l : List Int) (w : World) (hr : RB w v l) (hlen : l.length ≤ LB) (hbyt : Byt l) (hP : noteOk n) (hU : ∀ m, noteOk m → noteB m ≠ l) :
    Calls Try.prog 3 #[.agg n.arr, v] w fun e w' => e = .returned (.bool true) ∧ Below w.heap.size w w' := by
  have hLB : l.length ≤ 140737488351232 := hlen
  obtain ⟨av, cv, rfl, _⟩ := id hr
  have HAw : Hid (∀ W, Calls Try.prog 11 #[] W fun e w' => e = .returned (.bool true) ∧ Below W.heap.size W w') := awake_w
  have HCp : Hid (∀ W, Below w.heap.size w W → Calls Try.prog 10 #[.slice av l.length cv] W fun e w' => ∃ a c, e = .returned (.slice a l.length c) ∧ Hid (OwnB w' W.heap.size (.slice a l.length c) l) ∧ Below W.heap.size W w') := fun W hb => (copyB_any _ l W (hr.below hb) hlen).mono fun e w' ⟨v', he, ho, hb⟩ => by
    obtain ⟨a, c, hv⟩ := owns_len ho
    subst hv
    exact ⟨a, c, he, ho, hb⟩
  have hk1 := noteB_len hP
  have hk2 : (noteB n).length ≠ 0 := by unfold noteB; simp
  have HPk : Hid (∀ W, Calls Try.prog 8 #[.agg n.arr] W fun e w' => ∃ a c, e = .returned (.tuple #[.slice a (noteB n).length c, .int .i64 0]) ∧ Hid (OwnB w' W.heap.size (.slice a (noteB n).length c) (noteB n)) ∧ Below W.heap.size W w') := fun W => pack_yes hP W
  have HUn : Hid (∀ v W, RC W v (noteB n) → Calls Try.prog 9 #[v] W fun e w' => e = .returned (.tuple #[.agg n.arr, .int .i64 0]) ∧ Below W.heap.size W w') := fun v W hrc => unpack_y hP v W hrc (by omega)
  have hq0 := fun w' => neqNt w' n n
  rw [(eqNt_iff n n).2 rfl] at hq0
  obtain ⟨B, hBB⟩ : ∃ B, noteB n = B := ⟨_, rfl⟩
  rw [hBB] at HPk HUn hk1 hk2
  obtain ⟨k, hk⟩ : ∃ k, B.length = k := ⟨_, rfl⟩
  rw [hk] at HPk hk1 hk2
  have d1 : ¬ (424 : Int) < (k : Int) := by omega
  have d1b : decide ((424 : Int) < (k : Int)) = false := decide_eq_false d1
  have d2 : ((k : Int) == 0) = false := by rw [beq_eq_false_iff_ne]; omega
  have d2b : ¬ (k : Int) = 0 := by omega
  have HUm : Hid (∀ v W, RC W v l → Calls Try.prog 9 #[v] W fun e w' => e = .returned (.tuple #[.agg #[.int .i64 0, .int .i64 0, .int .i64 0, .int .i64 0, .int .i64 0, .int .i64 0, .string ⟨#[]⟩, .bool false, .int .i64 0, .int .i64 0, .int .i64 0, .string ⟨#[]⟩, .int .i64 0, .int .i64 0, .int .i64 0, .int .i64 0, .int .i64 0, .string ⟨#[]⟩, .int .i64 0, .string ⟨#[]⟩, .int .i64 0, .string ⟨#[]⟩], .int .i64 50]) ∧ Below W.heap.size W w') := fun v W hrc => unpack_n hbyt hU v W hrc (by omega)
  have hqz : ∀ w', (binOp .eql 34 (.agg #[.int .i64 0, .int .i64 0, .int .i64 0, .int .i64 0, .int .i64 0, .int .i64 0, .string ⟨#[]⟩, .bool false, .int .i64 0, .int .i64 0, .int .i64 0, .string ⟨#[]⟩, .int .i64 0, .int .i64 0, .int .i64 0, .int .i64 0, .int .i64 0, .string ⟨#[]⟩, .int .i64 0, .string ⟨#[]⟩, .int .i64 0, .string ⟨#[]⟩]) (.agg #[.int .i64 0, .int .i64 0, .int .i64 0, .int .i64 0, .int .i64 0, .int .i64 0, .string ⟨#[]⟩, .bool false, .int .i64 0, .int .i64 0, .int .i64 0, .string ⟨#[]⟩, .int .i64 0, .int .i64 0, .int .i64 0, .int .i64 0, .int .i64 0, .string ⟨#[]⟩, .int .i64 0, .string ⟨#[]⟩, .int .i64 0, .string ⟨#[]⟩])).run Try.prog w' = .ok (.bool true) w' := fun w' => by
    have := eqNtB w' zeroNt zeroNt
    rw [(eqNt_iff _ _).2 rfl] at this
    exact this
  have hsz : n.arr.size = 22 := rfl
  have hone := n.arr_one
  obtain ⟨A, hA⟩ : ∃ A, n.arr = A := ⟨_, rfl⟩
  have hq : ∀ w', (binOp .neq 34 (.agg A) (.agg A)).run Try.prog w' = .ok (.bool false) w' := by rw [← hA]; exact hq0
  clear hq0
  rw [hA] at HPk HUn hsz hone ⊢
  have HZ : Hid (A.size = 22 ∧ A.all (·.oneCell') = true) := ⟨hsz, hone⟩
  obtain ⟨W, hW⟩ : ∃ W, w.alloc (.cells A 34) = W := ⟨_, rfl⟩
  have hbx := boxB hW
  have HBx : Hid (W.heap[w.heap.size]? = some (.cells A 34 (0, 0)) ∧ Below w.heap.size w W) := hbx
  have nl := noteS_of hbx.1 hsz
  clear hr hbyt hP hbx hsz hone hA hU hlen hk1 hk2 hBB
  go_enter Try.func3, Try.ntmps3
  go_upto_region 1 with fail
  clear hW
  go_upto_region 3 with (go_at_call 8; refine (HPk.out _).mono ?_; rintro e w1 ⟨a1, c1, rfl, ho1, hb1⟩)
  have HRC : Hid (RC w1 (.slice a1 k c1) B) := ho1.out.rc
  go_upto_region 4 with (go_at_call 9; refine (HUn.out _ _ HRC.out).mono ?_; rintro e w2 ⟨rfl, hb2⟩; obtain ⟨W3, hW3⟩ : ∃ W3, w2.alloc (.cells #[.int .i64 0, .int .i64 0, .int .i64 0, .int .i64 0, .int .i64 0, .int .i64 0, .string ⟨#[]⟩, .bool false, .int .i64 0, .int .i64 0, .int .i64 0, .string ⟨#[]⟩, .int .i64 0, .int .i64 0, .int .i64 0, .int .i64 0, .int .i64 0, .string ⟨#[]⟩, .int .i64 0, .string ⟨#[]⟩, .int .i64 0, .string ⟨#[]⟩] 34) = W3 := ⟨_, rfl⟩; obtain ⟨W4, hW4⟩ : ∃ W4, W3.setRow w2.heap.size A = W4 := ⟨_, rfl⟩; have nt := noteT_of (boxB hW3).1 rfl HZ.out.1 HZ.out.2 hW4)
  have hb3 := boxB hW3
  have hc2 := chainB hb1 hb2
  have hltw : w.heap.size < w2.heap.size := Nat.lt_of_lt_of_le (Array.getElem?_eq_some_iff.1 HBx.out.1).1 hc2.size
  have hn4 : W4.heap[w2.heap.size]? = some (.cells A 34 (0, 0)) := by rw [← hW4]; exact setRow_heap _ _ _ _ _ _ hb3.1
  have hp4 : W4.heap[w.heap.size]? = some (.cells A 34 (0, 0)) := by rw [← hW4]; exact (setRow_other _ _ _ _ (by omega)).trans (hkeep (hkeep HBx.out.1 hc2) hb3.2)
  have HCur : Hid (Below w.heap.size w W4) := by rw [← hW4]; exact below_setRow (chainB HBx.out.2 (chainB hc2 hb3.2)) (by omega) _
  have nl1 := noteS_of hn4 HZ.out.1
  have nl2 := noteS_of hp4 HZ.out.1
  clear hW3 hW4 nt nl hb3 hc2 hltw hn4 hp4 ho1 hb1 hb2 HPk HUn HRC
  go_upto_region 8 with fail
  clear nl1 nl2
  go_upto_region 9 with (first
    | (go_at_call 9; refine (HUm.out _ _ ho11.out.rc).mono ?_; rintro e w12 ⟨rfl, hb12⟩; obtain ⟨W13, hW13⟩ : ∃ W3, w12.alloc (.cells #[.int .i64 0, .int .i64 0, .int .i64 0, .int .i64 0, .int .i64 0, .int .i64 0, .string ⟨#[]⟩, .bool false, .int .i64 0, .int .i64 0, .int .i64 0, .string ⟨#[]⟩, .int .i64 0, .int .i64 0, .int .i64 0, .int .i64 0, .int .i64 0, .string ⟨#[]⟩, .int .i64 0, .string ⟨#[]⟩, .int .i64 0, .string ⟨#[]⟩] 34) = W3 := ⟨_, rfl⟩; obtain ⟨W14, hW14⟩ : ∃ W4, W13.setRow w12.heap.size #[.int .i64 0, .int .i64 0, .int .i64 0, .int .i64 0, .int .i64 0, .int .i64 0, .string ⟨#[]⟩, .bool false, .int .i64 0, .int .i64 0, .int .i64 0, .string ⟨#[]⟩, .int .i64 0, .int .i64 0, .int .i64 0, .int .i64 0, .int .i64 0, .string ⟨#[]⟩, .int .i64 0, .string ⟨#[]⟩, .int .i64 0, .string ⟨#[]⟩] = W4 := ⟨_, rfl⟩; have nt := noteT_of (boxB hW13).1 rfl rfl (by simp [Value.oneCell']) hW14)
    | (go_at_call 10; refine (HCp.out _ HCur.out).mono ?_; rintro e w11 ⟨a11, c11, rfl, ho11, hb11⟩))
  have hb13 := boxB hW13
  have hc12 := chainB HCur.out (chainB hb11 hb12)
  have hn14 : W14.heap[w12.heap.size]? = some (.cells #[.int .i64 0, .int .i64 0, .int .i64 0, .int .i64 0, .int .i64 0, .int .i64 0, .string ⟨#[]⟩, .bool false, .int .i64 0, .int .i64 0, .int .i64 0, .string ⟨#[]⟩, .int .i64 0, .int .i64 0, .int .i64 0, .int .i64 0, .int .i64 0, .string ⟨#[]⟩, .int .i64 0, .string ⟨#[]⟩, .int .i64 0, .string ⟨#[]⟩] 34 (0, 0)) := by rw [← hW14]; exact setRow_heap _ _ _ _ _ _ hb13.1
  have HC14 : Hid (Below w.heap.size w W14) := by rw [← hW14]; exact below_setRow (chainB hc12 hb13.2) hc12.size _
  have nl14 := noteS_of hn14 rfl
  clear hW13 hW14 nt hb13 hc12 hn14 ho11 hb11 hb12 HCur HUm HCp
  go_wp2_with (go_at_call 11; refine (HAw.out W14).mono ?_; rintro e w17 ⟨rfl, hb17⟩)
  go_ret
  exact ⟨rfl, chainB HC14.out hb17⟩

set_option maxRecDepth 20000 in
set_option maxHeartbeats 8000000 in
theorem forth_11 (n : Nt) (v : Value) (l : List Int) (w : World) (hr : RB w v l) (hlen : l.length ≤ LB) (_hbyt : Byt l) (hP : noteOk n) (m : Nt) (hU : noteOk m) (hB : noteB m = l) :
    Calls Try.prog 3 #[.agg n.arr, v] w fun e w' => e = .returned (.bool true) ∧ Below w.heap.size w w' := by
  have hLB : l.length ≤ 140737488351232 := hlen
  obtain ⟨av, cv, rfl, _⟩ := id hr
  have HAw : Hid (∀ W, Calls Try.prog 11 #[] W fun e w' => e = .returned (.bool true) ∧ Below W.heap.size W w') := awake_w
  have HCp : Hid (∀ W, Below w.heap.size w W → Calls Try.prog 10 #[.slice av l.length cv] W fun e w' => ∃ a c, e = .returned (.slice a l.length c) ∧ Hid (OwnB w' W.heap.size (.slice a l.length c) l) ∧ Below W.heap.size W w') := fun W hb => (copyB_any _ l W (hr.below hb) hlen).mono fun e w' ⟨v', he, ho, hb⟩ => by
    obtain ⟨a, c, hv⟩ := owns_len ho
    subst hv
    exact ⟨a, c, he, ho, hb⟩
  have hk1 := noteB_len hP
  have hk2 : (noteB n).length ≠ 0 := by unfold noteB; simp
  have HPk : Hid (∀ W, Calls Try.prog 8 #[.agg n.arr] W fun e w' => ∃ a c, e = .returned (.tuple #[.slice a (noteB n).length c, .int .i64 0]) ∧ Hid (OwnB w' W.heap.size (.slice a (noteB n).length c) (noteB n)) ∧ Below W.heap.size W w') := fun W => pack_yes hP W
  have HUn : Hid (∀ v W, RC W v (noteB n) → Calls Try.prog 9 #[v] W fun e w' => e = .returned (.tuple #[.agg n.arr, .int .i64 0]) ∧ Below W.heap.size W w') := fun v W hrc => unpack_y hP v W hrc (by omega)
  have hq0 := fun w' => neqNt w' n n
  rw [(eqNt_iff n n).2 rfl] at hq0
  obtain ⟨B, hBB⟩ : ∃ B, noteB n = B := ⟨_, rfl⟩
  rw [hBB] at HPk HUn hk1 hk2
  obtain ⟨k, hk⟩ : ∃ k, B.length = k := ⟨_, rfl⟩
  rw [hk] at HPk hk1 hk2
  have d1 : ¬ (424 : Int) < (k : Int) := by omega
  have d1b : decide ((424 : Int) < (k : Int)) = false := decide_eq_false d1
  have d2 : ((k : Int) == 0) = false := by rw [beq_eq_false_iff_ne]; omega
  have d2b : ¬ (k : Int) = 0 := by omega
  have HUm : Hid (∀ v W, RC W v l → Calls Try.prog 9 #[v] W fun e w' => e = .returned (.tuple #[.agg m.arr, .int .i64 0]) ∧ Below W.heap.size W w') := fun v W hrc => by
    rw [← hB] at hrc
    exact unpack_y hU v W hrc (by rw [hB]; omega)
  have HPm : Hid (∀ W, Calls Try.prog 8 #[.agg m.arr] W fun e w' => ∃ a c, e = .returned (.tuple #[.slice a l.length c, .int .i64 0]) ∧ Hid (OwnB w' W.heap.size (.slice a l.length c) l) ∧ Below W.heap.size W w') := fun W => by
    have := pack_yes hU W
    rw [hB] at this
    exact this
  have HSm : Hid (∀ W a c, OwnB W 0 (.slice a l.length c) l → Below w.heap.size w W → Calls Try.prog 12 #[.slice a l.length c, .slice av l.length cv] W fun e w' => e = .returned (.bool true) ∧ Below W.heap.size W w') := fun W a c ho hb => by
    have := same_any _ _ l l W ho.rb (hr.below hb) hlen hlen
    rw [decide_eq_true rfl] at this
    exact this
  have hmz : m.arr.size = 22 := rfl
  have hmo := m.arr_one
  obtain ⟨M, hM⟩ : ∃ M, m.arr = M := ⟨_, rfl⟩
  rw [hM] at HUm HPm hmz hmo
  have HMz : Hid (M.size = 22 ∧ M.all (·.oneCell') = true) := ⟨hmz, hmo⟩
  clear hmz hmo hM
  have hsz : n.arr.size = 22 := rfl
  have hone := n.arr_one
  obtain ⟨A, hA⟩ : ∃ A, n.arr = A := ⟨_, rfl⟩
  have hq : ∀ w', (binOp .neq 34 (.agg A) (.agg A)).run Try.prog w' = .ok (.bool false) w' := by rw [← hA]; exact hq0
  clear hq0
  rw [hA] at HPk HUn hsz hone ⊢
  have HZ : Hid (A.size = 22 ∧ A.all (·.oneCell') = true) := ⟨hsz, hone⟩
  obtain ⟨W, hW⟩ : ∃ W, w.alloc (.cells A 34) = W := ⟨_, rfl⟩
  have hbx := boxB hW
  have HBx : Hid (W.heap[w.heap.size]? = some (.cells A 34 (0, 0)) ∧ Below w.heap.size w W) := hbx
  have nl := noteS_of hbx.1 hsz
  clear hr _hbyt hP hbx hsz hone hA hU hlen hB hk1 hk2 hBB
  go_enter Try.func3, Try.ntmps3
  go_upto_region 1 with fail
  clear hW
  go_upto_region 3 with (go_at_call 8; refine (HPk.out _).mono ?_; rintro e w1 ⟨a1, c1, rfl, ho1, hb1⟩)
  have HRC : Hid (RC w1 (.slice a1 k c1) B) := ho1.out.rc
  go_upto_region 4 with (go_at_call 9; refine (HUn.out _ _ HRC.out).mono ?_; rintro e w2 ⟨rfl, hb2⟩; obtain ⟨W3, hW3⟩ : ∃ W3, w2.alloc (.cells #[.int .i64 0, .int .i64 0, .int .i64 0, .int .i64 0, .int .i64 0, .int .i64 0, .string ⟨#[]⟩, .bool false, .int .i64 0, .int .i64 0, .int .i64 0, .string ⟨#[]⟩, .int .i64 0, .int .i64 0, .int .i64 0, .int .i64 0, .int .i64 0, .string ⟨#[]⟩, .int .i64 0, .string ⟨#[]⟩, .int .i64 0, .string ⟨#[]⟩] 34) = W3 := ⟨_, rfl⟩; obtain ⟨W4, hW4⟩ : ∃ W4, W3.setRow w2.heap.size A = W4 := ⟨_, rfl⟩; have nt := noteT_of (boxB hW3).1 rfl HZ.out.1 HZ.out.2 hW4)
  have hb3 := boxB hW3
  have hc2 := chainB hb1 hb2
  have hltw : w.heap.size < w2.heap.size := Nat.lt_of_lt_of_le (Array.getElem?_eq_some_iff.1 HBx.out.1).1 hc2.size
  have hn4 : W4.heap[w2.heap.size]? = some (.cells A 34 (0, 0)) := by rw [← hW4]; exact setRow_heap _ _ _ _ _ _ hb3.1
  have hp4 : W4.heap[w.heap.size]? = some (.cells A 34 (0, 0)) := by rw [← hW4]; exact (setRow_other _ _ _ _ (by omega)).trans (hkeep (hkeep HBx.out.1 hc2) hb3.2)
  have HCur : Hid (Below w.heap.size w W4) := by rw [← hW4]; exact below_setRow (chainB HBx.out.2 (chainB hc2 hb3.2)) (by omega) _
  have nl1 := noteS_of hn4 HZ.out.1
  have nl2 := noteS_of hp4 HZ.out.1
  clear hW3 hW4 nt nl hb3 hc2 hltw hn4 hp4 ho1 hb1 hb2 HPk HUn HRC
  go_upto_region 8 with fail
  clear nl1 nl2
  go_upto_region 9 with (first
    | (go_at_call 9; refine (HUm.out _ _ ho11.out.rc).mono ?_; rintro e w12 ⟨rfl, hb12⟩; obtain ⟨W13, hW13⟩ : ∃ W3, w12.alloc (.cells #[.int .i64 0, .int .i64 0, .int .i64 0, .int .i64 0, .int .i64 0, .int .i64 0, .string ⟨#[]⟩, .bool false, .int .i64 0, .int .i64 0, .int .i64 0, .string ⟨#[]⟩, .int .i64 0, .int .i64 0, .int .i64 0, .int .i64 0, .int .i64 0, .string ⟨#[]⟩, .int .i64 0, .string ⟨#[]⟩, .int .i64 0, .string ⟨#[]⟩] 34) = W3 := ⟨_, rfl⟩; obtain ⟨W14, hW14⟩ : ∃ W4, W13.setRow w12.heap.size M = W4 := ⟨_, rfl⟩; have nt := noteT_of (boxB hW13).1 rfl HMz.out.1 HMz.out.2 hW14)
    | (go_at_call 10; refine (HCp.out _ HCur.out).mono ?_; rintro e w11 ⟨a11, c11, rfl, ho11, hb11⟩))
  have hb13 := boxB hW13
  have hc12 := chainB HCur.out (chainB hb11 hb12)
  have hn14 : W14.heap[w12.heap.size]? = some (.cells M 34 (0, 0)) := by rw [← hW14]; exact setRow_heap _ _ _ _ _ _ hb13.1
  have HC14 : Hid (Below w.heap.size w W14) := by rw [← hW14]; exact below_setRow (chainB hc12 hb13.2) hc12.size _
  have nl14 := noteS_of hn14 HMz.out.1
  clear hW13 hW14 nt hb13 hc12 hn14 ho11 hb11 hb12 HCur HUm HCp
  go_upto_region 12 with (go_at_call 8; refine (HPm.out W14).mono ?_; rintro e w15 ⟨a15, c15, rfl, ho15, hb15⟩)
  have HS15 : Hid (Calls Try.prog 12 #[.slice a15 l.length c15, .slice av l.length cv] w15 fun e w' => e = .returned (.bool true) ∧ Below w15.heap.size w15 w') := HSm.out w15 a15 c15 (owns_le ho15.out (Nat.zero_le _)) (chainB HC14.out hb15)
  clear nl14 ho15
  go_wp2_with (first
    | (go_at_call 11; refine (HAw.out w16).mono ?_; rintro e w17 ⟨rfl, hb17⟩)
    | (go_at_call 12; refine HS15.out.mono ?_; rintro e w16 ⟨rfl, hb16⟩))
  go_ret
  exact ⟨rfl, chainB HC14.out (chainB hb15 (chainB hb16 hb17))⟩

theorem walk_WireForth (n : Nt) (v : Value) (l : List Int) (w : World) (hr : RB w v l) (hlen : l.length ≤ LB) (hbyt : Byt l) :
    Calls Try.prog 3 #[.agg n.arr, v] w fun e w' => e = .returned (.bool true) ∧ Below w.heap.size w w' := by
  cases hP : plainN n with
  | false =>
    by_cases hU : ∃ m, noteOk m ∧ noteB m = l
    · obtain ⟨m, h1, h2⟩ := hU
      exact forth_01 n v l w hr hlen hbyt hP m h1 h2
    · exact forth_00 n v l w hr hlen hbyt hP (fun m h1 h2 => hU ⟨m, h1, h2⟩)
  | true =>
    by_cases hU : ∃ m, noteOk m ∧ noteB m = l
    · obtain ⟨m, h1, h2⟩ := hU
      exact forth_11 n v l w hr hlen hbyt ((plainN_iff n).1 hP) m h1 h2
    · exact forth_10 n v l w hr hlen hbyt ((plainN_iff n).1 hP) (fun m h1 h2 => hU ⟨m, h1, h2⟩)
end Go.Proofs.Ytinhbnhfahlcpab
