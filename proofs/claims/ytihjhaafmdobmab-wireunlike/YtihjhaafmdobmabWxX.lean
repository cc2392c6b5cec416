/- The law WireUnlike. -/
import Derived.Test.YtihjhaafmdobmabWxC
import Derived.Test.YtihjhaafmdobmabWmC
import Derived.Test.YtihjhaafmdobmabTkB
namespace Go.Proofs.Ytihjhaafmdobmab
section
open Go.RowKit Go.Lib
attribute [local go_sem ↓ high] loadN loadM storeN storeMg
attribute [local go_sem high] guardNt

set_option maxRecDepth 20000 in
set_option maxHeartbeats 8000000 in
theorem unl_F_F (m o : Mm) (n p : Nt) (w : World) (hm : ArgM w m) (ho : ArgM w o) (hM : m.plain = false) (hN : plainN n = false) :
    Calls Try.prog 6 #[.agg m.arr, .agg o.arr, .agg n.arr, .agg p.arr] w fun e w' => e = .returned (.bool true) ∧ Below w.heap.size w w' := by
  have HAw : Hid (∀ W, Calls Try.prog 12 #[] W fun e w' => e = .returned (.bool true) ∧ Below W.heap.size W w') := awake_w
  have HGm : Hid (∀ W, Below w.heap.size w W → Calls Try.prog 14 #[.agg m.arr] W fun e w' => ∃ ve vk, e = .returned (.agg (m.ms ve vk).arr) ∧ Hid (Row7 w' 0 ve m.es ∧ RowK w' 0 vk m.ks) ∧ Below W.heap.size W w') := fun W hb => (msg_any m W (hm.below hb)).mono fun e w' ⟨ve, vk, he, h1, h2, h3⟩ => ⟨ve, vk, he, ⟨owns_le h1 (Nat.zero_le _), owns_le h2 (Nat.zero_le _)⟩, h3⟩
  have HGo : Hid (∀ W, Below w.heap.size w W → Calls Try.prog 14 #[.agg o.arr] W fun e w' => ∃ ve vk, e = .returned (.agg (o.ms ve vk).arr) ∧ Hid (Row7 w' 0 ve o.es ∧ RowK w' 0 vk o.ks) ∧ Below W.heap.size W w') := fun W hb => (msg_any o W (ho.below hb)).mono fun e w' ⟨ve, vk, he, h1, h2, h3⟩ => ⟨ve, vk, he, ⟨owns_le h1 (Nat.zero_le _), owns_le h2 (Nat.zero_le _)⟩, h3⟩
  have HEm : Hid (∀ ve vk W, Row7 W 0 ve m.es ∧ RowK W 0 vk m.ks → Calls Try.prog 13 #[.agg (m.ms ve vk).arr] W fun e w' => e = .returned (.tuple #[.slice none 0 0, .int .i64 50]) ∧ Below W.heap.size W w') := fun ve vk W hr => (encode_m m ve vk W hr.1 hr.2).mono fun e w' hh => by
    rw [hM] at hh
    exact hh.no
  have HEo : Hid (∀ ve vk W, Row7 W 0 ve o.es ∧ RowK W 0 vk o.ks → Calls Try.prog 13 #[.agg (o.ms ve vk).arr] W fun e w' => ∃ v E, e = .returned (.tuple #[v, .int .i64 E]) ∧ Below W.heap.size W w') := fun ve vk W hr => (encode_m o ve vk W hr.1 hr.2).mono fun e w' hh => by
    cases hq : o.plain with
    | true => rw [hq] at hh; obtain ⟨a, c, he', _, hb'⟩ := hh.yes; exact ⟨_, _, he', hb'⟩
    | false => rw [hq] at hh; exact ⟨_, _, hh.no.1, hh.no.2⟩
  have HPn : Hid (∀ W, Calls Try.prog 17 #[.agg n.arr] W fun e w' => e = .returned (.tuple #[.slice none 0 0, .int .i64 50]) ∧ Below W.heap.size W w') := fun W => (pack_p n W).mono fun e w' hh => by
    rcases hh with ⟨h0, _⟩ | ⟨_, he, hb⟩
    · rw [hN] at h0; cases h0
    · exact ⟨he, hb⟩
  have HPp : Hid (∀ W, Calls Try.prog 17 #[.agg p.arr] W fun e w' => ∃ v E, e = .returned (.tuple #[v, .int .i64 E]) ∧ Below W.heap.size W w') := fun W => (pack_p p W).mono fun e w' hh => by
    rcases hh with ⟨_, v, he, _, hb⟩ | ⟨_, he, hb⟩
    · exact ⟨_, _, he, hb⟩
    · exact ⟨_, _, he, hb⟩
  have hzm : m.arr.size = 17 := rfl
  obtain ⟨Am, hAm⟩ : ∃ A, m.arr = A := ⟨_, rfl⟩
  have hzo : o.arr.size = 17 := rfl
  obtain ⟨Ao, hAo⟩ : ∃ A, o.arr = A := ⟨_, rfl⟩
  have hzn : n.arr.size = 22 := rfl
  obtain ⟨An, hAn⟩ : ∃ A, n.arr = A := ⟨_, rfl⟩
  have hzp : p.arr.size = 22 := rfl
  obtain ⟨Ap, hAp⟩ : ∃ A, p.arr = A := ⟨_, rfl⟩
  rw [hAm] at HGm hzm ⊢
  rw [hAo] at HGo hzo ⊢
  rw [hAn] at HPn hzn ⊢
  rw [hAp] at HPp hzp ⊢
  obtain ⟨W1, hW1⟩ : ∃ W, w.alloc (.cells Am 46) = W := ⟨_, rfl⟩
  obtain ⟨W2, hW2⟩ : ∃ W, W1.alloc (.cells Ao 46) = W := ⟨_, rfl⟩
  obtain ⟨W3, hW3⟩ : ∃ W, W2.alloc (.cells An 35) = W := ⟨_, rfl⟩
  obtain ⟨W, hW⟩ : ∃ W, W3.alloc (.cells Ap 35) = W := ⟨_, rfl⟩
  have b1 := boxB hW1
  have b2 := boxB hW2
  have b3 := boxB hW3
  have b4 := boxB hW
  have HS : Hid (∀ w', Below W.heap.size W w' → ((mmS (.pointer (some ⟨w.heap.size, 0, none⟩))).run Try.prog w' = .ok (.agg Am) w' ∧ (mmS (.pointer (some ⟨W1.heap.size, 0, none⟩))).run Try.prog w' = .ok (.agg Ao) w') ∧ ((noteS (.pointer (some ⟨W2.heap.size, 0, none⟩))).run Try.prog w' = .ok (.agg An) w' ∧ (noteS (.pointer (some ⟨W3.heap.size, 0, none⟩))).run Try.prog w' = .ok (.agg Ap) w')) := fun w' h' => by
    have c3 := chainB b4.2 h'
    have c2 := chainB b3.2 c3
    have c1 := chainB b2.2 c2
    exact ⟨⟨mmS_of (hkeep b1.1 c1) hzm, mmS_of (hkeep b2.1 c2) hzo⟩, noteS_of (hkeep b3.1 c3) hzn, noteS_of (hkeep b4.1 h') hzp⟩
  have HB : Hid (Below w.heap.size w W) := chainB b1.2 (chainB b2.2 (chainB b3.2 b4.2))
  obtain ⟨⟨nm, -⟩, -⟩ := HS.out W (Below.refl _ _)
  clear hAm hAo hAn hAp hzm hzo hzn hzp b1 b2 b3 b4
  clear hm ho hM hN
  go_enter Try.func6, Try.ntmps6
  go_upto_region 1 with fail
  clear hW1 hW2 hW3 hW
  go_upto_region 3 with (first
    | (go_at_call 13; rw [← HR3.out.1]; refine (HEo.out _ _ _ HR3.out.2).mono ?_; rintro e w4 ⟨v4, E4, rfl, hb4⟩; have HC4 : Hid (Below W.heap.size W w4) := chainB HC2.out (chainB hb3 hb4); clear hb3 hb4 HR3)
    | (go_at_call 14; refine (HGo.out w2 (chainB HB.out HC2.out)).mono ?_; rintro e w3 ⟨ve3, vk3, rfl, hr3, hb3⟩; obtain ⟨Ar3, hAr3⟩ : ∃ A, (o.ms ve3 vk3).arr = A := ⟨_, rfl⟩; rw [hAr3]; have HR3 : Hid ((o.ms ve3 vk3).arr = Ar3 ∧ (Row7 w3 0 ve3 o.es ∧ RowK w3 0 vk3 o.ks)) := ⟨hAr3, hr3.out⟩; clear hAr3 hr3 nm2)
    | (go_at_call 13; rw [← HR1.out.1]; refine (HEm.out _ _ _ HR1.out.2).mono ?_; rintro e w2 ⟨rfl, hb2⟩; have HC2 : Hid (Below W.heap.size W w2) := chainB hb1 hb2; obtain ⟨⟨-, nm2⟩, -⟩ := HS.out w2 HC2.out; clear hb1 hb2 HR1)
    | (go_at_call 14; refine (HGm.out W HB.out).mono ?_; rintro e w1 ⟨ve1, vk1, rfl, hr1, hb1⟩; obtain ⟨Ar1, hAr1⟩ : ∃ A, (m.ms ve1 vk1).arr = A := ⟨_, rfl⟩; rw [hAr1]; have HR1 : Hid ((m.ms ve1 vk1).arr = Ar1 ∧ (Row7 w1 0 ve1 m.es ∧ RowK w1 0 vk1 m.ks)) := ⟨hAr1, hr1.out⟩; clear hAr1 hr1 nm))
  have k0 := (HS.out w4.drew (HC4.out.drew)).1
  refine wp_region_held_drew (S := fun w' => (mmS (.pointer (some ⟨w.heap.size, 0, none⟩))).run Try.prog w' = .ok (.agg Am) w' ∧ (mmS (.pointer (some ⟨W1.heap.size, 0, none⟩))).run Try.prog w' = .ok (.agg Ao) w') (by kernel_rfl) k0 (fun hHeld => ?_)
  refine tky 0 (some 29) rfl rfl ⟨?va0, fun w hSw => ?aa0, fun _ _ _ h => h, ?ba0⟩
  case aa0 => (try dsimp only at hSw); go_simp; (try rfl)
  try simp only [Act.put, List.setIfInBounds_toArray, List.set_cons_zero, List.set_cons_succ]
  refine tky 1 (some 30) rfl rfl ⟨.bool false, fun w hSw => ?aa1, fun _ _ _ h => h, ?ba1⟩
  case aa1 => (try dsimp only at hSw); go_simp; (try rfl)
  try simp only [Act.put, List.setIfInBounds_toArray, List.set_cons_zero, List.set_cons_succ]
  refine tky 2 (some 31) rfl rfl ⟨?va2, fun w hSw => ?aa2, fun _ _ _ h => h, ?ba2⟩
  case aa2 => (try dsimp only at hSw); go_simp; (try rfl)
  try simp only [Act.put, List.setIfInBounds_toArray, List.set_cons_zero, List.set_cons_succ]
  refine tkn 3 (some 32) rfl rfl ?_
  try simp only [Act.put, List.setIfInBounds_toArray, List.set_cons_zero, List.set_cons_succ]
  refine tkn 4 (some 33) rfl rfl ?_
  try simp only [Act.put, List.setIfInBounds_toArray, List.set_cons_zero, List.set_cons_succ]
  refine tky 5 (some 34) rfl rfl ⟨?va5, fun w hSw => ?aa5, fun _ _ _ h => h, ?ba5⟩
  case aa5 => (try dsimp only at hSw); go_simp; (try rfl)
  try simp only [Act.put, List.setIfInBounds_toArray, List.set_cons_zero, List.set_cons_succ]
  refine tky 6 (some 35) rfl rfl ⟨?va6, fun w hSw => ?aa6, fun _ _ _ h => h, ?ba6⟩
  case aa6 => (try dsimp only at hSw); go_simp; (try rfl)
  try simp only [Act.put, List.setIfInBounds_toArray, List.set_cons_zero, List.set_cons_succ]
  refine tkn 7 (some 36) rfl rfl ?_
  try simp only [Act.put, List.setIfInBounds_toArray, List.set_cons_zero, List.set_cons_succ]
  refine tkn 8 (some 37) rfl rfl ?_
  try simp only [Act.put, List.setIfInBounds_toArray, List.set_cons_zero, List.set_cons_succ]
  refine tkn 9 (some 38) rfl rfl ?_
  try simp only [Act.put, List.setIfInBounds_toArray, List.set_cons_zero, List.set_cons_succ]
  refine tkn 10 (some 39) rfl rfl ?_
  try simp only [Act.put, List.setIfInBounds_toArray, List.set_cons_zero, List.set_cons_succ]
  refine tkn 11 (some 40) rfl rfl ?_
  try simp only [Act.put, List.setIfInBounds_toArray, List.set_cons_zero, List.set_cons_succ]
  refine tkn 12 (some 41) rfl rfl ?_
  try simp only [Act.put, List.setIfInBounds_toArray, List.set_cons_zero, List.set_cons_succ]
  refine tkn 13 (some 42) rfl rfl ?_
  try simp only [Act.put, List.setIfInBounds_toArray, List.set_cons_zero, List.set_cons_succ]
  refine tkn 14 (some 43) rfl rfl ?_
  try simp only [Act.put, List.setIfInBounds_toArray, List.set_cons_zero, List.set_cons_succ]
  refine tkn 15 (some 44) rfl rfl ?_
  try simp only [Act.put, List.setIfInBounds_toArray, List.set_cons_zero, List.set_cons_succ]
  refine tky 16 (some 45) rfl rfl ⟨?va16, fun w hSw => ?aa16, fun _ _ _ h => h, ?ba16⟩
  case aa16 => (try dsimp only at hSw); go_simp; (try rfl)
  try simp only [Act.put, List.setIfInBounds_toArray, List.set_cons_zero, List.set_cons_succ]
  refine wpAnyH_done (by kernel_rfl) ?_ _
  have HC5 : Hid (Below W.heap.size W w4.drew) := HC4.out.drew
  clear k0
  obtain ⟨-, nn, -⟩ := HS.out _ HC5.out
  go_upto_region 7 with (first
    | (go_at_call 17; refine (HPp.out x1).mono ?_; rintro e x2 ⟨v2, E2, rfl, hx2⟩; have HX2 : Hid (Below W.heap.size W x2) := chainB HX1.out hx2; clear hx2 nn2)
    | (go_at_call 17; refine (HPn.out _).mono ?_; rintro e x1 ⟨rfl, hx1⟩; have HX1 : Hid (Below W.heap.size W x1) := chainB HC5.out hx1; obtain ⟨-, -, nn2⟩ := HS.out x1 HX1.out; clear hx1 nn))
  have y0 := (HS.out x2.drew HX2.out.drew).2
  refine wp_region_held_drew (S := fun w' => (noteS (.pointer (some ⟨W2.heap.size, 0, none⟩))).run Try.prog w' = .ok (.agg An) w' ∧ (noteS (.pointer (some ⟨W3.heap.size, 0, none⟩))).run Try.prog w' = .ok (.agg Ap) w') (by kernel_rfl) y0 (fun hHeld => ?_)
  refine tky 0 (some 56) rfl rfl ⟨?vb0, fun w hSw => ?ab0, fun _ _ _ h => h, ?bb0⟩
  case ab0 => (try dsimp only at hSw); go_simp; (try rfl)
  try simp only [Act.put, List.setIfInBounds_toArray, List.set_cons_zero, List.set_cons_succ]
  refine tky 1 (some 57) rfl rfl ⟨.bool true, fun w hSw => ?ab1, fun _ _ _ h => h, ?bb1⟩
  case ab1 => (try dsimp only at hSw); go_simp; (try rfl)
  try simp only [Act.put, List.setIfInBounds_toArray, List.set_cons_zero, List.set_cons_succ]
  refine tky 2 (some 58) rfl rfl ⟨?vb2, fun w hSw => ?ab2, fun _ _ _ h => h, ?bb2⟩
  case ab2 => (try dsimp only at hSw); go_simp; (try rfl)
  try simp only [Act.put, List.setIfInBounds_toArray, List.set_cons_zero, List.set_cons_succ]
  refine tkn 3 (some 59) rfl rfl ?_
  try simp only [Act.put, List.setIfInBounds_toArray, List.set_cons_zero, List.set_cons_succ]
  refine tkn 4 (some 60) rfl rfl ?_
  try simp only [Act.put, List.setIfInBounds_toArray, List.set_cons_zero, List.set_cons_succ]
  refine tky 5 (some 61) rfl rfl ⟨?vb5, fun w hSw => ?ab5, fun _ _ _ h => h, ?bb5⟩
  case ab5 => (try dsimp only at hSw); go_simp; (try rfl)
  try simp only [Act.put, List.setIfInBounds_toArray, List.set_cons_zero, List.set_cons_succ]
  refine tky 6 (some 62) rfl rfl ⟨?vb6, fun w hSw => ?ab6, fun _ _ _ h => h, ?bb6⟩
  case ab6 => (try dsimp only at hSw); go_simp; (try rfl)
  try simp only [Act.put, List.setIfInBounds_toArray, List.set_cons_zero, List.set_cons_succ]
  refine tkn 7 (some 63) rfl rfl ?_
  try simp only [Act.put, List.setIfInBounds_toArray, List.set_cons_zero, List.set_cons_succ]
  refine tkn 8 (some 64) rfl rfl ?_
  try simp only [Act.put, List.setIfInBounds_toArray, List.set_cons_zero, List.set_cons_succ]
  refine tkn 9 (some 65) rfl rfl ?_
  try simp only [Act.put, List.setIfInBounds_toArray, List.set_cons_zero, List.set_cons_succ]
  refine tkn 10 (some 66) rfl rfl ?_
  try simp only [Act.put, List.setIfInBounds_toArray, List.set_cons_zero, List.set_cons_succ]
  refine tkn 11 (some 67) rfl rfl ?_
  try simp only [Act.put, List.setIfInBounds_toArray, List.set_cons_zero, List.set_cons_succ]
  refine tkn 12 (some 68) rfl rfl ?_
  try simp only [Act.put, List.setIfInBounds_toArray, List.set_cons_zero, List.set_cons_succ]
  refine tkn 13 (some 69) rfl rfl ?_
  try simp only [Act.put, List.setIfInBounds_toArray, List.set_cons_zero, List.set_cons_succ]
  refine tky 14 (some 70) rfl rfl ⟨?vb14, fun w hSw => ?ab14, fun _ _ _ h => h, ?bb14⟩
  case ab14 => (try dsimp only at hSw); go_simp; (try rfl)
  try simp only [Act.put, List.setIfInBounds_toArray, List.set_cons_zero, List.set_cons_succ]
  refine tky 15 (some 71) rfl rfl ⟨?vb15, fun w hSw => ?ab15, fun _ _ _ h => h, ?bb15⟩
  case ab15 => (try dsimp only at hSw); go_simp; (try rfl)
  try simp only [Act.put, List.setIfInBounds_toArray, List.set_cons_zero, List.set_cons_succ]
  refine wpAnyH_ready (rs := [16]) (by kernel_rfl) (by simp) ?_
  refine AllReadyH.cons rfl (fun K hK => ?_) AllReadyH.nil
  go_simp
  go_at_call 12
  refine (HAw.out _).mono ?_
  rintro e x9 ⟨rfl, hx9⟩
  have HX9 : Hid (Below W.heap.size W x9) := chainB HX2.out.drew hx9
  have y9 := (HS.out x9 HX9.out).2
  refine hK.out _ _ y9 (fun hHeld => ?_)
  clear hK K
  try simp only [Act.put, List.setIfInBounds_toArray, List.set_cons_zero, List.set_cons_succ]
  refine tky 17 (some 73) rfl rfl ⟨?vb17, fun w hSw => ?ab17, fun _ _ _ h => h, ?bb17⟩
  case ab17 => (try dsimp only at hSw); go_simp; (try rfl)
  try simp only [Act.put, List.setIfInBounds_toArray, List.set_cons_zero, List.set_cons_succ]
  refine tky 18 (some 8) rfl rfl ⟨.bool true, fun w hSw => ?ab18, fun _ _ _ h => h, ?bb18⟩
  case ab18 => (try dsimp only at hSw); go_simp; (try rfl)
  try simp only [Act.put, List.setIfInBounds_toArray, List.set_cons_zero, List.set_cons_succ]
  refine wpAnyH_done (by kernel_rfl) ?_ _
  go_wp2
  go_ret
  exact ⟨rfl, chainB HB.out HX9.out⟩
set_option maxRecDepth 20000 in
set_option maxHeartbeats 8000000 in
theorem unl_F_TF (m o : Mm) (n p : Nt) (w : World) (hm : ArgM w m) (ho : ArgM w o) (hM : m.plain = false) (hN : plainN n = true) (hP : plainN p = false) :
    Calls Try.prog 6 #[.agg m.arr, .agg o.arr, .agg n.arr, .agg p.arr] w fun e w' => e = .returned (.bool true) ∧ Below w.heap.size w w' := by
  have HAw : Hid (∀ W, Calls Try.prog 12 #[] W fun e w' => e = .returned (.bool true) ∧ Below W.heap.size W w') := awake_w
  have HGm : Hid (∀ W, Below w.heap.size w W → Calls Try.prog 14 #[.agg m.arr] W fun e w' => ∃ ve vk, e = .returned (.agg (m.ms ve vk).arr) ∧ Hid (Row7 w' 0 ve m.es ∧ RowK w' 0 vk m.ks) ∧ Below W.heap.size W w') := fun W hb => (msg_any m W (hm.below hb)).mono fun e w' ⟨ve, vk, he, h1, h2, h3⟩ => ⟨ve, vk, he, ⟨owns_le h1 (Nat.zero_le _), owns_le h2 (Nat.zero_le _)⟩, h3⟩
  have HGo : Hid (∀ W, Below w.heap.size w W → Calls Try.prog 14 #[.agg o.arr] W fun e w' => ∃ ve vk, e = .returned (.agg (o.ms ve vk).arr) ∧ Hid (Row7 w' 0 ve o.es ∧ RowK w' 0 vk o.ks) ∧ Below W.heap.size W w') := fun W hb => (msg_any o W (ho.below hb)).mono fun e w' ⟨ve, vk, he, h1, h2, h3⟩ => ⟨ve, vk, he, ⟨owns_le h1 (Nat.zero_le _), owns_le h2 (Nat.zero_le _)⟩, h3⟩
  have HEm : Hid (∀ ve vk W, Row7 W 0 ve m.es ∧ RowK W 0 vk m.ks → Calls Try.prog 13 #[.agg (m.ms ve vk).arr] W fun e w' => e = .returned (.tuple #[.slice none 0 0, .int .i64 50]) ∧ Below W.heap.size W w') := fun ve vk W hr => (encode_m m ve vk W hr.1 hr.2).mono fun e w' hh => by
    rw [hM] at hh
    exact hh.no
  have HEo : Hid (∀ ve vk W, Row7 W 0 ve o.es ∧ RowK W 0 vk o.ks → Calls Try.prog 13 #[.agg (o.ms ve vk).arr] W fun e w' => ∃ v E, e = .returned (.tuple #[v, .int .i64 E]) ∧ Below W.heap.size W w') := fun ve vk W hr => (encode_m o ve vk W hr.1 hr.2).mono fun e w' hh => by
    cases hq : o.plain with
    | true => rw [hq] at hh; obtain ⟨a, c, he', _, hb'⟩ := hh.yes; exact ⟨_, _, he', hb'⟩
    | false => rw [hq] at hh; exact ⟨_, _, hh.no.1, hh.no.2⟩
  have HPn : Hid (∀ W, Calls Try.prog 17 #[.agg n.arr] W fun e w' => ∃ a c, e = .returned (.tuple #[.slice a (noteB n).length c, .int .i64 0]) ∧ Hid (OwnB w' W.heap.size (.slice a (noteB n).length c) (noteB n)) ∧ Below W.heap.size W w') := fun W => (pack_p n W).mono fun e w' hh => by
    rcases hh with ⟨_, v, he, ho, hb⟩ | ⟨h0, _⟩
    · obtain ⟨a, c, hv⟩ := owns_len ho
      subst hv
      exact ⟨a, c, he, ho, hb⟩
    · rw [hN] at h0; cases h0
  have HPp : Hid (∀ W, Calls Try.prog 17 #[.agg p.arr] W fun e w' => e = .returned (.tuple #[.slice none 0 0, .int .i64 50]) ∧ Below W.heap.size W w') := fun W => (pack_p p W).mono fun e w' hh => by
    rcases hh with ⟨h0, _⟩ | ⟨_, he, hb⟩
    · rw [hP] at h0; cases h0
    · exact ⟨he, hb⟩
  have hzm : m.arr.size = 17 := rfl
  obtain ⟨Am, hAm⟩ : ∃ A, m.arr = A := ⟨_, rfl⟩
  have hzo : o.arr.size = 17 := rfl
  obtain ⟨Ao, hAo⟩ : ∃ A, o.arr = A := ⟨_, rfl⟩
  have hzn : n.arr.size = 22 := rfl
  obtain ⟨An, hAn⟩ : ∃ A, n.arr = A := ⟨_, rfl⟩
  have hzp : p.arr.size = 22 := rfl
  obtain ⟨Ap, hAp⟩ : ∃ A, p.arr = A := ⟨_, rfl⟩
  rw [hAm] at HGm hzm ⊢
  rw [hAo] at HGo hzo ⊢
  rw [hAn] at HPn hzn ⊢
  rw [hAp] at HPp hzp ⊢
  obtain ⟨W1, hW1⟩ : ∃ W, w.alloc (.cells Am 46) = W := ⟨_, rfl⟩
  obtain ⟨W2, hW2⟩ : ∃ W, W1.alloc (.cells Ao 46) = W := ⟨_, rfl⟩
  obtain ⟨W3, hW3⟩ : ∃ W, W2.alloc (.cells An 35) = W := ⟨_, rfl⟩
  obtain ⟨W, hW⟩ : ∃ W, W3.alloc (.cells Ap 35) = W := ⟨_, rfl⟩
  have b1 := boxB hW1
  have b2 := boxB hW2
  have b3 := boxB hW3
  have b4 := boxB hW
  have HS : Hid (∀ w', Below W.heap.size W w' → ((mmS (.pointer (some ⟨w.heap.size, 0, none⟩))).run Try.prog w' = .ok (.agg Am) w' ∧ (mmS (.pointer (some ⟨W1.heap.size, 0, none⟩))).run Try.prog w' = .ok (.agg Ao) w') ∧ ((noteS (.pointer (some ⟨W2.heap.size, 0, none⟩))).run Try.prog w' = .ok (.agg An) w' ∧ (noteS (.pointer (some ⟨W3.heap.size, 0, none⟩))).run Try.prog w' = .ok (.agg Ap) w')) := fun w' h' => by
    have c3 := chainB b4.2 h'
    have c2 := chainB b3.2 c3
    have c1 := chainB b2.2 c2
    exact ⟨⟨mmS_of (hkeep b1.1 c1) hzm, mmS_of (hkeep b2.1 c2) hzo⟩, noteS_of (hkeep b3.1 c3) hzn, noteS_of (hkeep b4.1 h') hzp⟩
  have HB : Hid (Below w.heap.size w W) := chainB b1.2 (chainB b2.2 (chainB b3.2 b4.2))
  obtain ⟨⟨nm, -⟩, -⟩ := HS.out W (Below.refl _ _)
  clear hAm hAo hAn hAp hzm hzo hzn hzp b1 b2 b3 b4
  clear hm ho hM hN hP
  go_enter Try.func6, Try.ntmps6
  go_upto_region 1 with fail
  clear hW1 hW2 hW3 hW
  go_upto_region 3 with (first
    | (go_at_call 13; rw [← HR3.out.1]; refine (HEo.out _ _ _ HR3.out.2).mono ?_; rintro e w4 ⟨v4, E4, rfl, hb4⟩; have HC4 : Hid (Below W.heap.size W w4) := chainB HC2.out (chainB hb3 hb4); clear hb3 hb4 HR3)
    | (go_at_call 14; refine (HGo.out w2 (chainB HB.out HC2.out)).mono ?_; rintro e w3 ⟨ve3, vk3, rfl, hr3, hb3⟩; obtain ⟨Ar3, hAr3⟩ : ∃ A, (o.ms ve3 vk3).arr = A := ⟨_, rfl⟩; rw [hAr3]; have HR3 : Hid ((o.ms ve3 vk3).arr = Ar3 ∧ (Row7 w3 0 ve3 o.es ∧ RowK w3 0 vk3 o.ks)) := ⟨hAr3, hr3.out⟩; clear hAr3 hr3 nm2)
    | (go_at_call 13; rw [← HR1.out.1]; refine (HEm.out _ _ _ HR1.out.2).mono ?_; rintro e w2 ⟨rfl, hb2⟩; have HC2 : Hid (Below W.heap.size W w2) := chainB hb1 hb2; obtain ⟨⟨-, nm2⟩, -⟩ := HS.out w2 HC2.out; clear hb1 hb2 HR1)
    | (go_at_call 14; refine (HGm.out W HB.out).mono ?_; rintro e w1 ⟨ve1, vk1, rfl, hr1, hb1⟩; obtain ⟨Ar1, hAr1⟩ : ∃ A, (m.ms ve1 vk1).arr = A := ⟨_, rfl⟩; rw [hAr1]; have HR1 : Hid ((m.ms ve1 vk1).arr = Ar1 ∧ (Row7 w1 0 ve1 m.es ∧ RowK w1 0 vk1 m.ks)) := ⟨hAr1, hr1.out⟩; clear hAr1 hr1 nm))
  have k0 := (HS.out w4.drew (HC4.out.drew)).1
  refine wp_region_held_drew (S := fun w' => (mmS (.pointer (some ⟨w.heap.size, 0, none⟩))).run Try.prog w' = .ok (.agg Am) w' ∧ (mmS (.pointer (some ⟨W1.heap.size, 0, none⟩))).run Try.prog w' = .ok (.agg Ao) w') (by kernel_rfl) k0 (fun hHeld => ?_)
  refine tky 0 (some 29) rfl rfl ⟨?va0, fun w hSw => ?aa0, fun _ _ _ h => h, ?ba0⟩
  case aa0 => (try dsimp only at hSw); go_simp; (try rfl)
  try simp only [Act.put, List.setIfInBounds_toArray, List.set_cons_zero, List.set_cons_succ]
  refine tky 1 (some 30) rfl rfl ⟨.bool false, fun w hSw => ?aa1, fun _ _ _ h => h, ?ba1⟩
  case aa1 => (try dsimp only at hSw); go_simp; (try rfl)
  try simp only [Act.put, List.setIfInBounds_toArray, List.set_cons_zero, List.set_cons_succ]
  refine tky 2 (some 31) rfl rfl ⟨?va2, fun w hSw => ?aa2, fun _ _ _ h => h, ?ba2⟩
  case aa2 => (try dsimp only at hSw); go_simp; (try rfl)
  try simp only [Act.put, List.setIfInBounds_toArray, List.set_cons_zero, List.set_cons_succ]
  refine tkn 3 (some 32) rfl rfl ?_
  try simp only [Act.put, List.setIfInBounds_toArray, List.set_cons_zero, List.set_cons_succ]
  refine tkn 4 (some 33) rfl rfl ?_
  try simp only [Act.put, List.setIfInBounds_toArray, List.set_cons_zero, List.set_cons_succ]
  refine tky 5 (some 34) rfl rfl ⟨?va5, fun w hSw => ?aa5, fun _ _ _ h => h, ?ba5⟩
  case aa5 => (try dsimp only at hSw); go_simp; (try rfl)
  try simp only [Act.put, List.setIfInBounds_toArray, List.set_cons_zero, List.set_cons_succ]
  refine tky 6 (some 35) rfl rfl ⟨?va6, fun w hSw => ?aa6, fun _ _ _ h => h, ?ba6⟩
  case aa6 => (try dsimp only at hSw); go_simp; (try rfl)
  try simp only [Act.put, List.setIfInBounds_toArray, List.set_cons_zero, List.set_cons_succ]
  refine tkn 7 (some 36) rfl rfl ?_
  try simp only [Act.put, List.setIfInBounds_toArray, List.set_cons_zero, List.set_cons_succ]
  refine tkn 8 (some 37) rfl rfl ?_
  try simp only [Act.put, List.setIfInBounds_toArray, List.set_cons_zero, List.set_cons_succ]
  refine tkn 9 (some 38) rfl rfl ?_
  try simp only [Act.put, List.setIfInBounds_toArray, List.set_cons_zero, List.set_cons_succ]
  refine tkn 10 (some 39) rfl rfl ?_
  try simp only [Act.put, List.setIfInBounds_toArray, List.set_cons_zero, List.set_cons_succ]
  refine tkn 11 (some 40) rfl rfl ?_
  try simp only [Act.put, List.setIfInBounds_toArray, List.set_cons_zero, List.set_cons_succ]
  refine tkn 12 (some 41) rfl rfl ?_
  try simp only [Act.put, List.setIfInBounds_toArray, List.set_cons_zero, List.set_cons_succ]
  refine tkn 13 (some 42) rfl rfl ?_
  try simp only [Act.put, List.setIfInBounds_toArray, List.set_cons_zero, List.set_cons_succ]
  refine tkn 14 (some 43) rfl rfl ?_
  try simp only [Act.put, List.setIfInBounds_toArray, List.set_cons_zero, List.set_cons_succ]
  refine tkn 15 (some 44) rfl rfl ?_
  try simp only [Act.put, List.setIfInBounds_toArray, List.set_cons_zero, List.set_cons_succ]
  refine tky 16 (some 45) rfl rfl ⟨?va16, fun w hSw => ?aa16, fun _ _ _ h => h, ?ba16⟩
  case aa16 => (try dsimp only at hSw); go_simp; (try rfl)
  try simp only [Act.put, List.setIfInBounds_toArray, List.set_cons_zero, List.set_cons_succ]
  refine wpAnyH_done (by kernel_rfl) ?_ _
  have HC5 : Hid (Below W.heap.size W w4.drew) := HC4.out.drew
  clear k0
  obtain ⟨-, nn, -⟩ := HS.out _ HC5.out
  go_upto_region 7 with (first
    | (go_at_call 17; refine (HPp.out x1).mono ?_; rintro e x2 ⟨rfl, hx2⟩; have HX2 : Hid (Below W.heap.size W x2) := chainB HX1.out hx2; clear hx2 nn2)
    | (go_at_call 17; refine (HPn.out _).mono ?_; rintro e x1 ⟨d1, f1, rfl, hq1, hx1⟩; have HX1 : Hid (Below W.heap.size W x1) := chainB HC5.out hx1; obtain ⟨-, -, nn2⟩ := HS.out x1 HX1.out; clear hx1 nn hq1))
  have y0 := (HS.out x2.drew HX2.out.drew).2
  refine wp_region_held_drew (S := fun w' => (noteS (.pointer (some ⟨W2.heap.size, 0, none⟩))).run Try.prog w' = .ok (.agg An) w' ∧ (noteS (.pointer (some ⟨W3.heap.size, 0, none⟩))).run Try.prog w' = .ok (.agg Ap) w') (by kernel_rfl) y0 (fun hHeld => ?_)
  refine tky 0 (some 56) rfl rfl ⟨?vb0, fun w hSw => ?ab0, fun _ _ _ h => h, ?bb0⟩
  case ab0 => (try dsimp only at hSw); go_simp; (try rfl)
  try simp only [Act.put, List.setIfInBounds_toArray, List.set_cons_zero, List.set_cons_succ]
  refine tky 1 (some 57) rfl rfl ⟨.bool false, fun w hSw => ?ab1, fun _ _ _ h => h, ?bb1⟩
  case ab1 => (try dsimp only at hSw); go_simp; (try rfl)
  try simp only [Act.put, List.setIfInBounds_toArray, List.set_cons_zero, List.set_cons_succ]
  refine tky 2 (some 58) rfl rfl ⟨?vb2, fun w hSw => ?ab2, fun _ _ _ h => h, ?bb2⟩
  case ab2 => (try dsimp only at hSw); go_simp; (try rfl)
  try simp only [Act.put, List.setIfInBounds_toArray, List.set_cons_zero, List.set_cons_succ]
  refine tky 3 (some 59) rfl rfl ⟨?vb3, fun w hSw => ?ab3, fun _ _ _ h => h, ?bb3⟩
  case ab3 => (try dsimp only at hSw); go_simp; (try rfl)
  try simp only [Act.put, List.setIfInBounds_toArray, List.set_cons_zero, List.set_cons_succ]
  refine tky 4 (some 60) rfl rfl ⟨.bool true, fun w hSw => ?ab4, fun _ _ _ h => h, ?bb4⟩
  case ab4 => (try dsimp only at hSw); go_simp; (try rfl)
  try simp only [Act.put, List.setIfInBounds_toArray, List.set_cons_zero, List.set_cons_succ]
  refine tky 5 (some 61) rfl rfl ⟨?vb5, fun w hSw => ?ab5, fun _ _ _ h => h, ?bb5⟩
  case ab5 => (try dsimp only at hSw); go_simp; (try rfl)
  try simp only [Act.put, List.setIfInBounds_toArray, List.set_cons_zero, List.set_cons_succ]
  refine tky 6 (some 62) rfl rfl ⟨?vb6, fun w hSw => ?ab6, fun _ _ _ h => h, ?bb6⟩
  case ab6 => (try dsimp only at hSw); go_simp; (try rfl)
  try simp only [Act.put, List.setIfInBounds_toArray, List.set_cons_zero, List.set_cons_succ]
  refine tkn 7 (some 63) rfl rfl ?_
  try simp only [Act.put, List.setIfInBounds_toArray, List.set_cons_zero, List.set_cons_succ]
  refine tkn 8 (some 64) rfl rfl ?_
  try simp only [Act.put, List.setIfInBounds_toArray, List.set_cons_zero, List.set_cons_succ]
  refine tkn 9 (some 65) rfl rfl ?_
  try simp only [Act.put, List.setIfInBounds_toArray, List.set_cons_zero, List.set_cons_succ]
  refine tkn 10 (some 66) rfl rfl ?_
  try simp only [Act.put, List.setIfInBounds_toArray, List.set_cons_zero, List.set_cons_succ]
  refine tkn 11 (some 67) rfl rfl ?_
  try simp only [Act.put, List.setIfInBounds_toArray, List.set_cons_zero, List.set_cons_succ]
  refine tkn 12 (some 68) rfl rfl ?_
  try simp only [Act.put, List.setIfInBounds_toArray, List.set_cons_zero, List.set_cons_succ]
  refine tkn 13 (some 69) rfl rfl ?_
  try simp only [Act.put, List.setIfInBounds_toArray, List.set_cons_zero, List.set_cons_succ]
  refine tky 14 (some 70) rfl rfl ⟨?vb14, fun w hSw => ?ab14, fun _ _ _ h => h, ?bb14⟩
  case ab14 => (try dsimp only at hSw); go_simp; (try rfl)
  try simp only [Act.put, List.setIfInBounds_toArray, List.set_cons_zero, List.set_cons_succ]
  refine tky 15 (some 71) rfl rfl ⟨?vb15, fun w hSw => ?ab15, fun _ _ _ h => h, ?bb15⟩
  case ab15 => (try dsimp only at hSw); go_simp; (try rfl)
  try simp only [Act.put, List.setIfInBounds_toArray, List.set_cons_zero, List.set_cons_succ]
  refine wpAnyH_ready (rs := [16]) (by kernel_rfl) (by simp) ?_
  refine AllReadyH.cons rfl (fun K hK => ?_) AllReadyH.nil
  go_simp
  go_at_call 12
  refine (HAw.out _).mono ?_
  rintro e x9 ⟨rfl, hx9⟩
  have HX9 : Hid (Below W.heap.size W x9) := chainB HX2.out.drew hx9
  have y9 := (HS.out x9 HX9.out).2
  refine hK.out _ _ y9 (fun hHeld => ?_)
  clear hK K
  try simp only [Act.put, List.setIfInBounds_toArray, List.set_cons_zero, List.set_cons_succ]
  refine tky 17 (some 73) rfl rfl ⟨?vb17, fun w hSw => ?ab17, fun _ _ _ h => h, ?bb17⟩
  case ab17 => (try dsimp only at hSw); go_simp; (try rfl)
  try simp only [Act.put, List.setIfInBounds_toArray, List.set_cons_zero, List.set_cons_succ]
  refine tky 18 (some 8) rfl rfl ⟨.bool true, fun w hSw => ?ab18, fun _ _ _ h => h, ?bb18⟩
  case ab18 => (try dsimp only at hSw); go_simp; (try rfl)
  try simp only [Act.put, List.setIfInBounds_toArray, List.set_cons_zero, List.set_cons_succ]
  refine wpAnyH_done (by kernel_rfl) ?_ _
  go_wp2
  go_ret
  exact ⟨rfl, chainB HB.out HX9.out⟩
set_option maxRecDepth 20000 in
set_option maxHeartbeats 8000000 in
theorem unl_F_TT (m o : Mm) (n p : Nt) (w : World) (hm : ArgM w m) (ho : ArgM w o) (hM : m.plain = false) (hN : plainN n = true) (hP : plainN p = true) :
    Calls Try.prog 6 #[.agg m.arr, .agg o.arr, .agg n.arr, .agg p.arr] w fun e w' => e = .returned (.bool true) ∧ Below w.heap.size w w' := by
  have HAw : Hid (∀ W, Calls Try.prog 12 #[] W fun e w' => e = .returned (.bool true) ∧ Below W.heap.size W w') := awake_w
  have HGm : Hid (∀ W, Below w.heap.size w W → Calls Try.prog 14 #[.agg m.arr] W fun e w' => ∃ ve vk, e = .returned (.agg (m.ms ve vk).arr) ∧ Hid (Row7 w' 0 ve m.es ∧ RowK w' 0 vk m.ks) ∧ Below W.heap.size W w') := fun W hb => (msg_any m W (hm.below hb)).mono fun e w' ⟨ve, vk, he, h1, h2, h3⟩ => ⟨ve, vk, he, ⟨owns_le h1 (Nat.zero_le _), owns_le h2 (Nat.zero_le _)⟩, h3⟩
  have HGo : Hid (∀ W, Below w.heap.size w W → Calls Try.prog 14 #[.agg o.arr] W fun e w' => ∃ ve vk, e = .returned (.agg (o.ms ve vk).arr) ∧ Hid (Row7 w' 0 ve o.es ∧ RowK w' 0 vk o.ks) ∧ Below W.heap.size W w') := fun W hb => (msg_any o W (ho.below hb)).mono fun e w' ⟨ve, vk, he, h1, h2, h3⟩ => ⟨ve, vk, he, ⟨owns_le h1 (Nat.zero_le _), owns_le h2 (Nat.zero_le _)⟩, h3⟩
  have HEm : Hid (∀ ve vk W, Row7 W 0 ve m.es ∧ RowK W 0 vk m.ks → Calls Try.prog 13 #[.agg (m.ms ve vk).arr] W fun e w' => e = .returned (.tuple #[.slice none 0 0, .int .i64 50]) ∧ Below W.heap.size W w') := fun ve vk W hr => (encode_m m ve vk W hr.1 hr.2).mono fun e w' hh => by
    rw [hM] at hh
    exact hh.no
  have HEo : Hid (∀ ve vk W, Row7 W 0 ve o.es ∧ RowK W 0 vk o.ks → Calls Try.prog 13 #[.agg (o.ms ve vk).arr] W fun e w' => ∃ v E, e = .returned (.tuple #[v, .int .i64 E]) ∧ Below W.heap.size W w') := fun ve vk W hr => (encode_m o ve vk W hr.1 hr.2).mono fun e w' hh => by
    cases hq : o.plain with
    | true => rw [hq] at hh; obtain ⟨a, c, he', _, hb'⟩ := hh.yes; exact ⟨_, _, he', hb'⟩
    | false => rw [hq] at hh; exact ⟨_, _, hh.no.1, hh.no.2⟩
  have HPn : Hid (∀ W, Calls Try.prog 17 #[.agg n.arr] W fun e w' => ∃ a c, e = .returned (.tuple #[.slice a (noteB n).length c, .int .i64 0]) ∧ Hid (OwnB w' W.heap.size (.slice a (noteB n).length c) (noteB n)) ∧ Below W.heap.size W w') := fun W => (pack_p n W).mono fun e w' hh => by
    rcases hh with ⟨_, v, he, ho, hb⟩ | ⟨h0, _⟩
    · obtain ⟨a, c, hv⟩ := owns_len ho
      subst hv
      exact ⟨a, c, he, ho, hb⟩
    · rw [hN] at h0; cases h0
  have HPp : Hid (∀ W, Calls Try.prog 17 #[.agg p.arr] W fun e w' => ∃ a c, e = .returned (.tuple #[.slice a (noteB p).length c, .int .i64 0]) ∧ Hid (OwnB w' W.heap.size (.slice a (noteB p).length c) (noteB p)) ∧ Below W.heap.size W w') := fun W => (pack_p p W).mono fun e w' hh => by
    rcases hh with ⟨_, v, he, ho, hb⟩ | ⟨h0, _⟩
    · obtain ⟨a, c, hv⟩ := owns_len ho
      subst hv
      exact ⟨a, c, he, ho, hb⟩
    · rw [hP] at h0; cases h0
  have hokN := (plainN_iff n).1 hN
  have hokP := (plainN_iff p).1 hP
  have hlN := noteB_len hokN
  have hlP := noteB_len hokP
  have hqq : eqNt n p = decide (noteB n = noteB p) := by
    by_cases h : n = p
    · rw [(eqNt_iff n p).2 h, decide_eq_true (by rw [h])]
    · rw [decide_eq_false (fun e => h (noteB_inj hokN hokP e))]
      cases hq : eqNt n p with
      | true => exact absurd ((eqNt_iff n p).1 hq) h
      | false => rfl
  have hq0 := fun w' => eqNtB w' n p
  rw [hqq] at hq0
  obtain ⟨D, hD⟩ : ∃ D, decide (noteB n = noteB p) = D := ⟨_, rfl⟩
  rw [hD] at hq0
  have HSc : Hid (∀ v v' W, RB W v (noteB n) → RB W v' (noteB p) → Calls Try.prog 23 #[v, v'] W fun e w' => e = .returned (.bool D) ∧ Below W.heap.size W w') := fun v v' W h1 h2 => by
    have := same_any v v' _ _ W h1 h2 (by unfold LB; omega) (by unfold LB; omega)
    rw [hD] at this
    exact this
  clear hD hqq hlN hlP hokN hokP
  have hzm : m.arr.size = 17 := rfl
  obtain ⟨Am, hAm⟩ : ∃ A, m.arr = A := ⟨_, rfl⟩
  have hzo : o.arr.size = 17 := rfl
  obtain ⟨Ao, hAo⟩ : ∃ A, o.arr = A := ⟨_, rfl⟩
  have hzn : n.arr.size = 22 := rfl
  obtain ⟨An, hAn⟩ : ∃ A, n.arr = A := ⟨_, rfl⟩
  have hzp : p.arr.size = 22 := rfl
  obtain ⟨Ap, hAp⟩ : ∃ A, p.arr = A := ⟨_, rfl⟩
  have hq : ∀ w', (binOp .eql 35 (.agg An) (.agg Ap)).run Try.prog w' = .ok (.bool D) w' := by rw [← hAn, ← hAp]; exact hq0
  clear hq0
  rw [hAm] at HGm hzm ⊢
  rw [hAo] at HGo hzo ⊢
  rw [hAn] at HPn hzn ⊢
  rw [hAp] at HPp hzp ⊢
  obtain ⟨W1, hW1⟩ : ∃ W, w.alloc (.cells Am 46) = W := ⟨_, rfl⟩
  obtain ⟨W2, hW2⟩ : ∃ W, W1.alloc (.cells Ao 46) = W := ⟨_, rfl⟩
  obtain ⟨W3, hW3⟩ : ∃ W, W2.alloc (.cells An 35) = W := ⟨_, rfl⟩
  obtain ⟨W, hW⟩ : ∃ W, W3.alloc (.cells Ap 35) = W := ⟨_, rfl⟩
  have b1 := boxB hW1
  have b2 := boxB hW2
  have b3 := boxB hW3
  have b4 := boxB hW
  have HS : Hid (∀ w', Below W.heap.size W w' → ((mmS (.pointer (some ⟨w.heap.size, 0, none⟩))).run Try.prog w' = .ok (.agg Am) w' ∧ (mmS (.pointer (some ⟨W1.heap.size, 0, none⟩))).run Try.prog w' = .ok (.agg Ao) w') ∧ ((noteS (.pointer (some ⟨W2.heap.size, 0, none⟩))).run Try.prog w' = .ok (.agg An) w' ∧ (noteS (.pointer (some ⟨W3.heap.size, 0, none⟩))).run Try.prog w' = .ok (.agg Ap) w')) := fun w' h' => by
    have c3 := chainB b4.2 h'
    have c2 := chainB b3.2 c3
    have c1 := chainB b2.2 c2
    exact ⟨⟨mmS_of (hkeep b1.1 c1) hzm, mmS_of (hkeep b2.1 c2) hzo⟩, noteS_of (hkeep b3.1 c3) hzn, noteS_of (hkeep b4.1 h') hzp⟩
  have HB : Hid (Below w.heap.size w W) := chainB b1.2 (chainB b2.2 (chainB b3.2 b4.2))
  obtain ⟨⟨nm, -⟩, -⟩ := HS.out W (Below.refl _ _)
  clear hAm hAo hAn hAp hzm hzo hzn hzp b1 b2 b3 b4
  clear hm ho hM hN hP
  go_enter Try.func6, Try.ntmps6
  go_upto_region 1 with fail
  clear hW1 hW2 hW3 hW
  go_upto_region 3 with (first
    | (go_at_call 13; rw [← HR3.out.1]; refine (HEo.out _ _ _ HR3.out.2).mono ?_; rintro e w4 ⟨v4, E4, rfl, hb4⟩; have HC4 : Hid (Below W.heap.size W w4) := chainB HC2.out (chainB hb3 hb4); clear hb3 hb4 HR3)
    | (go_at_call 14; refine (HGo.out w2 (chainB HB.out HC2.out)).mono ?_; rintro e w3 ⟨ve3, vk3, rfl, hr3, hb3⟩; obtain ⟨Ar3, hAr3⟩ : ∃ A, (o.ms ve3 vk3).arr = A := ⟨_, rfl⟩; rw [hAr3]; have HR3 : Hid ((o.ms ve3 vk3).arr = Ar3 ∧ (Row7 w3 0 ve3 o.es ∧ RowK w3 0 vk3 o.ks)) := ⟨hAr3, hr3.out⟩; clear hAr3 hr3 nm2)
    | (go_at_call 13; rw [← HR1.out.1]; refine (HEm.out _ _ _ HR1.out.2).mono ?_; rintro e w2 ⟨rfl, hb2⟩; have HC2 : Hid (Below W.heap.size W w2) := chainB hb1 hb2; obtain ⟨⟨-, nm2⟩, -⟩ := HS.out w2 HC2.out; clear hb1 hb2 HR1)
    | (go_at_call 14; refine (HGm.out W HB.out).mono ?_; rintro e w1 ⟨ve1, vk1, rfl, hr1, hb1⟩; obtain ⟨Ar1, hAr1⟩ : ∃ A, (m.ms ve1 vk1).arr = A := ⟨_, rfl⟩; rw [hAr1]; have HR1 : Hid ((m.ms ve1 vk1).arr = Ar1 ∧ (Row7 w1 0 ve1 m.es ∧ RowK w1 0 vk1 m.ks)) := ⟨hAr1, hr1.out⟩; clear hAr1 hr1 nm))
  have k0 := (HS.out w4.drew (HC4.out.drew)).1
  refine wp_region_held_drew (S := fun w' => (mmS (.pointer (some ⟨w.heap.size, 0, none⟩))).run Try.prog w' = .ok (.agg Am) w' ∧ (mmS (.pointer (some ⟨W1.heap.size, 0, none⟩))).run Try.prog w' = .ok (.agg Ao) w') (by kernel_rfl) k0 (fun hHeld => ?_)
  refine tky 0 (some 29) rfl rfl ⟨?va0, fun w hSw => ?aa0, fun _ _ _ h => h, ?ba0⟩
  case aa0 => (try dsimp only at hSw); go_simp; (try rfl)
  try simp only [Act.put, List.setIfInBounds_toArray, List.set_cons_zero, List.set_cons_succ]
  refine tky 1 (some 30) rfl rfl ⟨.bool false, fun w hSw => ?aa1, fun _ _ _ h => h, ?ba1⟩
  case aa1 => (try dsimp only at hSw); go_simp; (try rfl)
  try simp only [Act.put, List.setIfInBounds_toArray, List.set_cons_zero, List.set_cons_succ]
  refine tky 2 (some 31) rfl rfl ⟨?va2, fun w hSw => ?aa2, fun _ _ _ h => h, ?ba2⟩
  case aa2 => (try dsimp only at hSw); go_simp; (try rfl)
  try simp only [Act.put, List.setIfInBounds_toArray, List.set_cons_zero, List.set_cons_succ]
  refine tkn 3 (some 32) rfl rfl ?_
  try simp only [Act.put, List.setIfInBounds_toArray, List.set_cons_zero, List.set_cons_succ]
  refine tkn 4 (some 33) rfl rfl ?_
  try simp only [Act.put, List.setIfInBounds_toArray, List.set_cons_zero, List.set_cons_succ]
  refine tky 5 (some 34) rfl rfl ⟨?va5, fun w hSw => ?aa5, fun _ _ _ h => h, ?ba5⟩
  case aa5 => (try dsimp only at hSw); go_simp; (try rfl)
  try simp only [Act.put, List.setIfInBounds_toArray, List.set_cons_zero, List.set_cons_succ]
  refine tky 6 (some 35) rfl rfl ⟨?va6, fun w hSw => ?aa6, fun _ _ _ h => h, ?ba6⟩
  case aa6 => (try dsimp only at hSw); go_simp; (try rfl)
  try simp only [Act.put, List.setIfInBounds_toArray, List.set_cons_zero, List.set_cons_succ]
  refine tkn 7 (some 36) rfl rfl ?_
  try simp only [Act.put, List.setIfInBounds_toArray, List.set_cons_zero, List.set_cons_succ]
  refine tkn 8 (some 37) rfl rfl ?_
  try simp only [Act.put, List.setIfInBounds_toArray, List.set_cons_zero, List.set_cons_succ]
  refine tkn 9 (some 38) rfl rfl ?_
  try simp only [Act.put, List.setIfInBounds_toArray, List.set_cons_zero, List.set_cons_succ]
  refine tkn 10 (some 39) rfl rfl ?_
  try simp only [Act.put, List.setIfInBounds_toArray, List.set_cons_zero, List.set_cons_succ]
  refine tkn 11 (some 40) rfl rfl ?_
  try simp only [Act.put, List.setIfInBounds_toArray, List.set_cons_zero, List.set_cons_succ]
  refine tkn 12 (some 41) rfl rfl ?_
  try simp only [Act.put, List.setIfInBounds_toArray, List.set_cons_zero, List.set_cons_succ]
  refine tkn 13 (some 42) rfl rfl ?_
  try simp only [Act.put, List.setIfInBounds_toArray, List.set_cons_zero, List.set_cons_succ]
  refine tkn 14 (some 43) rfl rfl ?_
  try simp only [Act.put, List.setIfInBounds_toArray, List.set_cons_zero, List.set_cons_succ]
  refine tkn 15 (some 44) rfl rfl ?_
  try simp only [Act.put, List.setIfInBounds_toArray, List.set_cons_zero, List.set_cons_succ]
  refine tky 16 (some 45) rfl rfl ⟨?va16, fun w hSw => ?aa16, fun _ _ _ h => h, ?ba16⟩
  case aa16 => (try dsimp only at hSw); go_simp; (try rfl)
  try simp only [Act.put, List.setIfInBounds_toArray, List.set_cons_zero, List.set_cons_succ]
  refine wpAnyH_done (by kernel_rfl) ?_ _
  have HC5 : Hid (Below W.heap.size W w4.drew) := HC4.out.drew
  clear k0
  obtain ⟨-, nn, -⟩ := HS.out _ HC5.out
  go_upto_region 7 with (first
    | (go_at_call 17; refine (HPp.out x1).mono ?_; rintro e x2 ⟨d2, f2, rfl, hq2, hx2⟩; have HQ2 : Hid (RB x2 (.slice d1 (noteB n).length f1) (noteB n) ∧ RB x2 (.slice d2 (noteB p).length f2) (noteB p)) := ⟨HQ1.out.below hx2, hq2.out.rb⟩; have HX2 : Hid (Below W.heap.size W x2) := chainB HX1.out hx2; clear hx2 nn2 hq2 HQ1)
    | (go_at_call 17; refine (HPn.out _).mono ?_; rintro e x1 ⟨d1, f1, rfl, hq1, hx1⟩; have HQ1 : Hid (RB x1 (.slice d1 (noteB n).length f1) (noteB n)) := hq1.out.rb; have HX1 : Hid (Below W.heap.size W x1) := chainB HC5.out hx1; obtain ⟨-, -, nn2⟩ := HS.out x1 HX1.out; clear hx1 nn hq1))
  have y0 := (HS.out x2.drew HX2.out.drew).2
  go_region_held3 (fun w' => (noteS (.pointer (some ⟨W2.heap.size, 0, none⟩))).run Try.prog w' = .ok (.agg An) w' ∧ (noteS (.pointer (some ⟨W3.heap.size, 0, none⟩))).run Try.prog w' = .ok (.agg Ap) w') (with_reducible first | exact y9 | exact y5 | exact y0) (first
    | (go_at_call 12; refine (HAw.out _).mono ?_; rintro e x9 ⟨rfl, hx9⟩; have HX9 : Hid (Below W.heap.size W x9) := chainB HX5.out hx9; have y9 := (HS.out x9 HX9.out).2)
    | (go_at_call 23; refine (HSc.out _ _ _ (HQ2.out.1.below (Below.refl _ _).drew) (HQ2.out.2.below (Below.refl _ _).drew)).mono ?_; rintro e x5 ⟨rfl, hx5⟩; have HX5 : Hid (Below W.heap.size W x5) := chainB HX2.out.drew hx5; have y5 := (HS.out x5 HX5.out).2))
  go_wp2
  go_ret
  exact ⟨rfl, chainB HB.out HX9.out⟩
set_option maxRecDepth 20000 in
set_option maxHeartbeats 8000000 in
theorem unl_TF_F (m o : Mm) (n p : Nt) (w : World) (hm : ArgM w m) (ho : ArgM w o) (hM : m.plain = true) (hO : o.plain = false) (hN : plainN n = false) :
    Calls Try.prog 6 #[.agg m.arr, .agg o.arr, .agg n.arr, .agg p.arr] w fun e w' => e = .returned (.bool true) ∧ Below w.heap.size w w' := by
  have HAw : Hid (∀ W, Calls Try.prog 12 #[] W fun e w' => e = .returned (.bool true) ∧ Below W.heap.size W w') := awake_w
  have HGm : Hid (∀ W, Below w.heap.size w W → Calls Try.prog 14 #[.agg m.arr] W fun e w' => ∃ ve vk, e = .returned (.agg (m.ms ve vk).arr) ∧ Hid (Row7 w' 0 ve m.es ∧ RowK w' 0 vk m.ks) ∧ Below W.heap.size W w') := fun W hb => (msg_any m W (hm.below hb)).mono fun e w' ⟨ve, vk, he, h1, h2, h3⟩ => ⟨ve, vk, he, ⟨owns_le h1 (Nat.zero_le _), owns_le h2 (Nat.zero_le _)⟩, h3⟩
  have HGo : Hid (∀ W, Below w.heap.size w W → Calls Try.prog 14 #[.agg o.arr] W fun e w' => ∃ ve vk, e = .returned (.agg (o.ms ve vk).arr) ∧ Hid (Row7 w' 0 ve o.es ∧ RowK w' 0 vk o.ks) ∧ Below W.heap.size W w') := fun W hb => (msg_any o W (ho.below hb)).mono fun e w' ⟨ve, vk, he, h1, h2, h3⟩ => ⟨ve, vk, he, ⟨owns_le h1 (Nat.zero_le _), owns_le h2 (Nat.zero_le _)⟩, h3⟩
  have HEm : Hid (∀ ve vk W, Row7 W 0 ve m.es ∧ RowK W 0 vk m.ks → Calls Try.prog 13 #[.agg (m.ms ve vk).arr] W fun e w' => ∃ a c, e = .returned (.tuple #[.slice a (msgB m.mg).length c, .int .i64 0]) ∧ Hid (OwnB w' W.heap.size (.slice a (msgB m.mg).length c) (msgB m.mg)) ∧ Below W.heap.size W w') := fun ve vk W hr => (encode_m m ve vk W hr.1 hr.2).mono fun e w' hh => by
    rw [hM] at hh
    obtain ⟨a, c, he', ho', hb'⟩ := hh.yes
    exact ⟨a, c, he', ho', hb'⟩
  have HEo : Hid (∀ ve vk W, Row7 W 0 ve o.es ∧ RowK W 0 vk o.ks → Calls Try.prog 13 #[.agg (o.ms ve vk).arr] W fun e w' => e = .returned (.tuple #[.slice none 0 0, .int .i64 50]) ∧ Below W.heap.size W w') := fun ve vk W hr => (encode_m o ve vk W hr.1 hr.2).mono fun e w' hh => by
    rw [hO] at hh
    exact hh.no
  have HPn : Hid (∀ W, Calls Try.prog 17 #[.agg n.arr] W fun e w' => e = .returned (.tuple #[.slice none 0 0, .int .i64 50]) ∧ Below W.heap.size W w') := fun W => (pack_p n W).mono fun e w' hh => by
    rcases hh with ⟨h0, _⟩ | ⟨_, he, hb⟩
    · rw [hN] at h0; cases h0
    · exact ⟨he, hb⟩
  have HPp : Hid (∀ W, Calls Try.prog 17 #[.agg p.arr] W fun e w' => ∃ v E, e = .returned (.tuple #[v, .int .i64 E]) ∧ Below W.heap.size W w') := fun W => (pack_p p W).mono fun e w' hh => by
    rcases hh with ⟨_, v, he, _, hb⟩ | ⟨_, he, hb⟩
    · exact ⟨_, _, he, hb⟩
    · exact ⟨_, _, he, hb⟩
  have hzm : m.arr.size = 17 := rfl
  obtain ⟨Am, hAm⟩ : ∃ A, m.arr = A := ⟨_, rfl⟩
  have hzo : o.arr.size = 17 := rfl
  obtain ⟨Ao, hAo⟩ : ∃ A, o.arr = A := ⟨_, rfl⟩
  have hzn : n.arr.size = 22 := rfl
  obtain ⟨An, hAn⟩ : ∃ A, n.arr = A := ⟨_, rfl⟩
  have hzp : p.arr.size = 22 := rfl
  obtain ⟨Ap, hAp⟩ : ∃ A, p.arr = A := ⟨_, rfl⟩
  rw [hAm] at HGm hzm ⊢
  rw [hAo] at HGo hzo ⊢
  rw [hAn] at HPn hzn ⊢
  rw [hAp] at HPp hzp ⊢
  obtain ⟨W1, hW1⟩ : ∃ W, w.alloc (.cells Am 46) = W := ⟨_, rfl⟩
  obtain ⟨W2, hW2⟩ : ∃ W, W1.alloc (.cells Ao 46) = W := ⟨_, rfl⟩
  obtain ⟨W3, hW3⟩ : ∃ W, W2.alloc (.cells An 35) = W := ⟨_, rfl⟩
  obtain ⟨W, hW⟩ : ∃ W, W3.alloc (.cells Ap 35) = W := ⟨_, rfl⟩
  have b1 := boxB hW1
  have b2 := boxB hW2
  have b3 := boxB hW3
  have b4 := boxB hW
  have HS : Hid (∀ w', Below W.heap.size W w' → ((mmS (.pointer (some ⟨w.heap.size, 0, none⟩))).run Try.prog w' = .ok (.agg Am) w' ∧ (mmS (.pointer (some ⟨W1.heap.size, 0, none⟩))).run Try.prog w' = .ok (.agg Ao) w') ∧ ((noteS (.pointer (some ⟨W2.heap.size, 0, none⟩))).run Try.prog w' = .ok (.agg An) w' ∧ (noteS (.pointer (some ⟨W3.heap.size, 0, none⟩))).run Try.prog w' = .ok (.agg Ap) w')) := fun w' h' => by
    have c3 := chainB b4.2 h'
    have c2 := chainB b3.2 c3
    have c1 := chainB b2.2 c2
    exact ⟨⟨mmS_of (hkeep b1.1 c1) hzm, mmS_of (hkeep b2.1 c2) hzo⟩, noteS_of (hkeep b3.1 c3) hzn, noteS_of (hkeep b4.1 h') hzp⟩
  have HB : Hid (Below w.heap.size w W) := chainB b1.2 (chainB b2.2 (chainB b3.2 b4.2))
  obtain ⟨⟨nm, -⟩, -⟩ := HS.out W (Below.refl _ _)
  clear hAm hAo hAn hAp hzm hzo hzn hzp b1 b2 b3 b4
  clear hm ho hM hO hN
  go_enter Try.func6, Try.ntmps6
  go_upto_region 1 with fail
  clear hW1 hW2 hW3 hW
  go_upto_region 3 with (first
    | (go_at_call 13; rw [← HR3.out.1]; refine (HEo.out _ _ _ HR3.out.2).mono ?_; rintro e w4 ⟨rfl, hb4⟩; have HC4 : Hid (Below W.heap.size W w4) := chainB HC2.out (chainB hb3 hb4); clear hb3 hb4 HR3)
    | (go_at_call 14; refine (HGo.out w2 (chainB HB.out HC2.out)).mono ?_; rintro e w3 ⟨ve3, vk3, rfl, hr3, hb3⟩; obtain ⟨Ar3, hAr3⟩ : ∃ A, (o.ms ve3 vk3).arr = A := ⟨_, rfl⟩; rw [hAr3]; have HR3 : Hid ((o.ms ve3 vk3).arr = Ar3 ∧ (Row7 w3 0 ve3 o.es ∧ RowK w3 0 vk3 o.ks)) := ⟨hAr3, hr3.out⟩; clear hAr3 hr3 nm2)
    | (go_at_call 13; rw [← HR1.out.1]; refine (HEm.out _ _ _ HR1.out.2).mono ?_; rintro e w2 ⟨a2, c2, rfl, ho2, hb2⟩; have HC2 : Hid (Below W.heap.size W w2) := chainB hb1 hb2; obtain ⟨⟨-, nm2⟩, -⟩ := HS.out w2 HC2.out; clear hb1 hb2 HR1 ho2)
    | (go_at_call 14; refine (HGm.out W HB.out).mono ?_; rintro e w1 ⟨ve1, vk1, rfl, hr1, hb1⟩; obtain ⟨Ar1, hAr1⟩ : ∃ A, (m.ms ve1 vk1).arr = A := ⟨_, rfl⟩; rw [hAr1]; have HR1 : Hid ((m.ms ve1 vk1).arr = Ar1 ∧ (Row7 w1 0 ve1 m.es ∧ RowK w1 0 vk1 m.ks)) := ⟨hAr1, hr1.out⟩; clear hAr1 hr1 nm))
  have k0 := (HS.out w4.drew (HC4.out.drew)).1
  refine wp_region_held_drew (S := fun w' => (mmS (.pointer (some ⟨w.heap.size, 0, none⟩))).run Try.prog w' = .ok (.agg Am) w' ∧ (mmS (.pointer (some ⟨W1.heap.size, 0, none⟩))).run Try.prog w' = .ok (.agg Ao) w') (by kernel_rfl) k0 (fun hHeld => ?_)
  refine tky 0 (some 29) rfl rfl ⟨?va0, fun w hSw => ?aa0, fun _ _ _ h => h, ?ba0⟩
  case aa0 => (try dsimp only at hSw); go_simp; (try rfl)
  try simp only [Act.put, List.setIfInBounds_toArray, List.set_cons_zero, List.set_cons_succ]
  refine tky 1 (some 30) rfl rfl ⟨.bool true, fun w hSw => ?aa1, fun _ _ _ h => h, ?ba1⟩
  case aa1 => (try dsimp only at hSw); go_simp; (try rfl)
  try simp only [Act.put, List.setIfInBounds_toArray, List.set_cons_zero, List.set_cons_succ]
  refine tky 2 (some 31) rfl rfl ⟨?va2, fun w hSw => ?aa2, fun _ _ _ h => h, ?ba2⟩
  case aa2 => (try dsimp only at hSw); go_simp; (try rfl)
  try simp only [Act.put, List.setIfInBounds_toArray, List.set_cons_zero, List.set_cons_succ]
  refine tky 3 (some 32) rfl rfl ⟨?va3, fun w hSw => ?aa3, fun _ _ _ h => h, ?ba3⟩
  case aa3 => (try dsimp only at hSw); go_simp; (try rfl)
  try simp only [Act.put, List.setIfInBounds_toArray, List.set_cons_zero, List.set_cons_succ]
  refine tky 4 (some 33) rfl rfl ⟨.bool false, fun w hSw => ?aa4, fun _ _ _ h => h, ?ba4⟩
  case aa4 => (try dsimp only at hSw); go_simp; (try rfl)
  try simp only [Act.put, List.setIfInBounds_toArray, List.set_cons_zero, List.set_cons_succ]
  refine tky 5 (some 34) rfl rfl ⟨?va5, fun w hSw => ?aa5, fun _ _ _ h => h, ?ba5⟩
  case aa5 => (try dsimp only at hSw); go_simp; (try rfl)
  try simp only [Act.put, List.setIfInBounds_toArray, List.set_cons_zero, List.set_cons_succ]
  refine tky 6 (some 35) rfl rfl ⟨?va6, fun w hSw => ?aa6, fun _ _ _ h => h, ?ba6⟩
  case aa6 => (try dsimp only at hSw); go_simp; (try rfl)
  try simp only [Act.put, List.setIfInBounds_toArray, List.set_cons_zero, List.set_cons_succ]
  refine tkn 7 (some 36) rfl rfl ?_
  try simp only [Act.put, List.setIfInBounds_toArray, List.set_cons_zero, List.set_cons_succ]
  refine tkn 8 (some 37) rfl rfl ?_
  try simp only [Act.put, List.setIfInBounds_toArray, List.set_cons_zero, List.set_cons_succ]
  refine tkn 9 (some 38) rfl rfl ?_
  try simp only [Act.put, List.setIfInBounds_toArray, List.set_cons_zero, List.set_cons_succ]
  refine tkn 10 (some 39) rfl rfl ?_
  try simp only [Act.put, List.setIfInBounds_toArray, List.set_cons_zero, List.set_cons_succ]
  refine tkn 11 (some 40) rfl rfl ?_
  try simp only [Act.put, List.setIfInBounds_toArray, List.set_cons_zero, List.set_cons_succ]
  refine tkn 12 (some 41) rfl rfl ?_
  try simp only [Act.put, List.setIfInBounds_toArray, List.set_cons_zero, List.set_cons_succ]
  refine tkn 13 (some 42) rfl rfl ?_
  try simp only [Act.put, List.setIfInBounds_toArray, List.set_cons_zero, List.set_cons_succ]
  refine tkn 14 (some 43) rfl rfl ?_
  try simp only [Act.put, List.setIfInBounds_toArray, List.set_cons_zero, List.set_cons_succ]
  refine tkn 15 (some 44) rfl rfl ?_
  try simp only [Act.put, List.setIfInBounds_toArray, List.set_cons_zero, List.set_cons_succ]
  refine tky 16 (some 45) rfl rfl ⟨?va16, fun w hSw => ?aa16, fun _ _ _ h => h, ?ba16⟩
  case aa16 => (try dsimp only at hSw); go_simp; (try rfl)
  try simp only [Act.put, List.setIfInBounds_toArray, List.set_cons_zero, List.set_cons_succ]
  refine wpAnyH_done (by kernel_rfl) ?_ _
  have HC5 : Hid (Below W.heap.size W w4.drew) := HC4.out.drew
  clear k0
  obtain ⟨-, nn, -⟩ := HS.out _ HC5.out
  go_upto_region 7 with (first
    | (go_at_call 17; refine (HPp.out x1).mono ?_; rintro e x2 ⟨v2, E2, rfl, hx2⟩; have HX2 : Hid (Below W.heap.size W x2) := chainB HX1.out hx2; clear hx2 nn2)
    | (go_at_call 17; refine (HPn.out _).mono ?_; rintro e x1 ⟨rfl, hx1⟩; have HX1 : Hid (Below W.heap.size W x1) := chainB HC5.out hx1; obtain ⟨-, -, nn2⟩ := HS.out x1 HX1.out; clear hx1 nn))
  have y0 := (HS.out x2.drew HX2.out.drew).2
  refine wp_region_held_drew (S := fun w' => (noteS (.pointer (some ⟨W2.heap.size, 0, none⟩))).run Try.prog w' = .ok (.agg An) w' ∧ (noteS (.pointer (some ⟨W3.heap.size, 0, none⟩))).run Try.prog w' = .ok (.agg Ap) w') (by kernel_rfl) y0 (fun hHeld => ?_)
  refine tky 0 (some 56) rfl rfl ⟨?vb0, fun w hSw => ?ab0, fun _ _ _ h => h, ?bb0⟩
  case ab0 => (try dsimp only at hSw); go_simp; (try rfl)
  try simp only [Act.put, List.setIfInBounds_toArray, List.set_cons_zero, List.set_cons_succ]
  refine tky 1 (some 57) rfl rfl ⟨.bool true, fun w hSw => ?ab1, fun _ _ _ h => h, ?bb1⟩
  case ab1 => (try dsimp only at hSw); go_simp; (try rfl)
  try simp only [Act.put, List.setIfInBounds_toArray, List.set_cons_zero, List.set_cons_succ]
  refine tky 2 (some 58) rfl rfl ⟨?vb2, fun w hSw => ?ab2, fun _ _ _ h => h, ?bb2⟩
  case ab2 => (try dsimp only at hSw); go_simp; (try rfl)
  try simp only [Act.put, List.setIfInBounds_toArray, List.set_cons_zero, List.set_cons_succ]
  refine tkn 3 (some 59) rfl rfl ?_
  try simp only [Act.put, List.setIfInBounds_toArray, List.set_cons_zero, List.set_cons_succ]
  refine tkn 4 (some 60) rfl rfl ?_
  try simp only [Act.put, List.setIfInBounds_toArray, List.set_cons_zero, List.set_cons_succ]
  refine tky 5 (some 61) rfl rfl ⟨?vb5, fun w hSw => ?ab5, fun _ _ _ h => h, ?bb5⟩
  case ab5 => (try dsimp only at hSw); go_simp; (try rfl)
  try simp only [Act.put, List.setIfInBounds_toArray, List.set_cons_zero, List.set_cons_succ]
  refine tky 6 (some 62) rfl rfl ⟨?vb6, fun w hSw => ?ab6, fun _ _ _ h => h, ?bb6⟩
  case ab6 => (try dsimp only at hSw); go_simp; (try rfl)
  try simp only [Act.put, List.setIfInBounds_toArray, List.set_cons_zero, List.set_cons_succ]
  refine tkn 7 (some 63) rfl rfl ?_
  try simp only [Act.put, List.setIfInBounds_toArray, List.set_cons_zero, List.set_cons_succ]
  refine tkn 8 (some 64) rfl rfl ?_
  try simp only [Act.put, List.setIfInBounds_toArray, List.set_cons_zero, List.set_cons_succ]
  refine tkn 9 (some 65) rfl rfl ?_
  try simp only [Act.put, List.setIfInBounds_toArray, List.set_cons_zero, List.set_cons_succ]
  refine tkn 10 (some 66) rfl rfl ?_
  try simp only [Act.put, List.setIfInBounds_toArray, List.set_cons_zero, List.set_cons_succ]
  refine tkn 11 (some 67) rfl rfl ?_
  try simp only [Act.put, List.setIfInBounds_toArray, List.set_cons_zero, List.set_cons_succ]
  refine tkn 12 (some 68) rfl rfl ?_
  try simp only [Act.put, List.setIfInBounds_toArray, List.set_cons_zero, List.set_cons_succ]
  refine tkn 13 (some 69) rfl rfl ?_
  try simp only [Act.put, List.setIfInBounds_toArray, List.set_cons_zero, List.set_cons_succ]
  refine tky 14 (some 70) rfl rfl ⟨?vb14, fun w hSw => ?ab14, fun _ _ _ h => h, ?bb14⟩
  case ab14 => (try dsimp only at hSw); go_simp; (try rfl)
  try simp only [Act.put, List.setIfInBounds_toArray, List.set_cons_zero, List.set_cons_succ]
  refine tky 15 (some 71) rfl rfl ⟨?vb15, fun w hSw => ?ab15, fun _ _ _ h => h, ?bb15⟩
  case ab15 => (try dsimp only at hSw); go_simp; (try rfl)
  try simp only [Act.put, List.setIfInBounds_toArray, List.set_cons_zero, List.set_cons_succ]
  refine wpAnyH_ready (rs := [16]) (by kernel_rfl) (by simp) ?_
  refine AllReadyH.cons rfl (fun K hK => ?_) AllReadyH.nil
  go_simp
  go_at_call 12
  refine (HAw.out _).mono ?_
  rintro e x9 ⟨rfl, hx9⟩
  have HX9 : Hid (Below W.heap.size W x9) := chainB HX2.out.drew hx9
  have y9 := (HS.out x9 HX9.out).2
  refine hK.out _ _ y9 (fun hHeld => ?_)
  clear hK K
  try simp only [Act.put, List.setIfInBounds_toArray, List.set_cons_zero, List.set_cons_succ]
  refine tky 17 (some 73) rfl rfl ⟨?vb17, fun w hSw => ?ab17, fun _ _ _ h => h, ?bb17⟩
  case ab17 => (try dsimp only at hSw); go_simp; (try rfl)
  try simp only [Act.put, List.setIfInBounds_toArray, List.set_cons_zero, List.set_cons_succ]
  refine tky 18 (some 8) rfl rfl ⟨.bool true, fun w hSw => ?ab18, fun _ _ _ h => h, ?bb18⟩
  case ab18 => (try dsimp only at hSw); go_simp; (try rfl)
  try simp only [Act.put, List.setIfInBounds_toArray, List.set_cons_zero, List.set_cons_succ]
  refine wpAnyH_done (by kernel_rfl) ?_ _
  go_wp2
  go_ret
  exact ⟨rfl, chainB HB.out HX9.out⟩
end
section
open Go.RowKit Go.Lib
attribute [local go_sem ↓ high] loadN loadM storeN storeMg
attribute [local go_sem high] guardNt

set_option maxRecDepth 20000 in
set_option maxHeartbeats 8000000 in
theorem unl_TF_TF (m o : Mm) (n p : Nt) (w : World) (hm : ArgM w m) (ho : ArgM w o) (hM : m.plain = true) (hO : o.plain = false) (hN : plainN n = true) (hP : plainN p = false) :
    Calls Try.prog 6 #[.agg m.arr, .agg o.arr, .agg n.arr, .agg p.arr] w fun e w' => e = .returned (.bool true) ∧ Below w.heap.size w w' := by
  have HAw : Hid (∀ W, Calls Try.prog 12 #[] W fun e w' => e = .returned (.bool true) ∧ Below W.heap.size W w') := awake_w
  have HGm : Hid (∀ W, Below w.heap.size w W → Calls Try.prog 14 #[.agg m.arr] W fun e w' => ∃ ve vk, e = .returned (.agg (m.ms ve vk).arr) ∧ Hid (Row7 w' 0 ve m.es ∧ RowK w' 0 vk m.ks) ∧ Below W.heap.size W w') := fun W hb => (msg_any m W (hm.below hb)).mono fun e w' ⟨ve, vk, he, h1, h2, h3⟩ => ⟨ve, vk, he, ⟨owns_le h1 (Nat.zero_le _), owns_le h2 (Nat.zero_le _)⟩, h3⟩
  have HGo : Hid (∀ W, Below w.heap.size w W → Calls Try.prog 14 #[.agg o.arr] W fun e w' => ∃ ve vk, e = .returned (.agg (o.ms ve vk).arr) ∧ Hid (Row7 w' 0 ve o.es ∧ RowK w' 0 vk o.ks) ∧ Below W.heap.size W w') := fun W hb => (msg_any o W (ho.below hb)).mono fun e w' ⟨ve, vk, he, h1, h2, h3⟩ => ⟨ve, vk, he, ⟨owns_le h1 (Nat.zero_le _), owns_le h2 (Nat.zero_le _)⟩, h3⟩
  have HEm : Hid (∀ ve vk W, Row7 W 0 ve m.es ∧ RowK W 0 vk m.ks → Calls Try.prog 13 #[.agg (m.ms ve vk).arr] W fun e w' => ∃ a c, e = .returned (.tuple #[.slice a (msgB m.mg).length c, .int .i64 0]) ∧ Hid (OwnB w' W.heap.size (.slice a (msgB m.mg).length c) (msgB m.mg)) ∧ Below W.heap.size W w') := fun ve vk W hr => (encode_m m ve vk W hr.1 hr.2).mono fun e w' hh => by
    rw [hM] at hh
    obtain ⟨a, c, he', ho', hb'⟩ := hh.yes
    exact ⟨a, c, he', ho', hb'⟩
  have HEo : Hid (∀ ve vk W, Row7 W 0 ve o.es ∧ RowK W 0 vk o.ks → Calls Try.prog 13 #[.agg (o.ms ve vk).arr] W fun e w' => e = .returned (.tuple #[.slice none 0 0, .int .i64 50]) ∧ Below W.heap.size W w') := fun ve vk W hr => (encode_m o ve vk W hr.1 hr.2).mono fun e w' hh => by
    rw [hO] at hh
    exact hh.no
  have HPn : Hid (∀ W, Calls Try.prog 17 #[.agg n.arr] W fun e w' => ∃ a c, e = .returned (.tuple #[.slice a (noteB n).length c, .int .i64 0]) ∧ Hid (OwnB w' W.heap.size (.slice a (noteB n).length c) (noteB n)) ∧ Below W.heap.size W w') := fun W => (pack_p n W).mono fun e w' hh => by
    rcases hh with ⟨_, v, he, ho, hb⟩ | ⟨h0, _⟩
    · obtain ⟨a, c, hv⟩ := owns_len ho
      subst hv
      exact ⟨a, c, he, ho, hb⟩
    · rw [hN] at h0; cases h0
  have HPp : Hid (∀ W, Calls Try.prog 17 #[.agg p.arr] W fun e w' => e = .returned (.tuple #[.slice none 0 0, .int .i64 50]) ∧ Below W.heap.size W w') := fun W => (pack_p p W).mono fun e w' hh => by
    rcases hh with ⟨h0, _⟩ | ⟨_, he, hb⟩
    · rw [hP] at h0; cases h0
    · exact ⟨he, hb⟩
  have hzm : m.arr.size = 17 := rfl
  obtain ⟨Am, hAm⟩ : ∃ A, m.arr = A := ⟨_, rfl⟩
  have hzo : o.arr.size = 17 := rfl
  obtain ⟨Ao, hAo⟩ : ∃ A, o.arr = A := ⟨_, rfl⟩
  have hzn : n.arr.size = 22 := rfl
  obtain ⟨An, hAn⟩ : ∃ A, n.arr = A := ⟨_, rfl⟩
  have hzp : p.arr.size = 22 := rfl
  obtain ⟨Ap, hAp⟩ : ∃ A, p.arr = A := ⟨_, rfl⟩
  rw [hAm] at HGm hzm ⊢
  rw [hAo] at HGo hzo ⊢
  rw [hAn] at HPn hzn ⊢
  rw [hAp] at HPp hzp ⊢
  obtain ⟨W1, hW1⟩ : ∃ W, w.alloc (.cells Am 46) = W := ⟨_, rfl⟩
  obtain ⟨W2, hW2⟩ : ∃ W, W1.alloc (.cells Ao 46) = W := ⟨_, rfl⟩
  obtain ⟨W3, hW3⟩ : ∃ W, W2.alloc (.cells An 35) = W := ⟨_, rfl⟩
  obtain ⟨W, hW⟩ : ∃ W, W3.alloc (.cells Ap 35) = W := ⟨_, rfl⟩
  have b1 := boxB hW1
  have b2 := boxB hW2
  have b3 := boxB hW3
  have b4 := boxB hW
  have HS : Hid (∀ w', Below W.heap.size W w' → ((mmS (.pointer (some ⟨w.heap.size, 0, none⟩))).run Try.prog w' = .ok (.agg Am) w' ∧ (mmS (.pointer (some ⟨W1.heap.size, 0, none⟩))).run Try.prog w' = .ok (.agg Ao) w') ∧ ((noteS (.pointer (some ⟨W2.heap.size, 0, none⟩))).run Try.prog w' = .ok (.agg An) w' ∧ (noteS (.pointer (some ⟨W3.heap.size, 0, none⟩))).run Try.prog w' = .ok (.agg Ap) w')) := fun w' h' => by
    have c3 := chainB b4.2 h'
    have c2 := chainB b3.2 c3
    have c1 := chainB b2.2 c2
    exact ⟨⟨mmS_of (hkeep b1.1 c1) hzm, mmS_of (hkeep b2.1 c2) hzo⟩, noteS_of (hkeep b3.1 c3) hzn, noteS_of (hkeep b4.1 h') hzp⟩
  have HB : Hid (Below w.heap.size w W) := chainB b1.2 (chainB b2.2 (chainB b3.2 b4.2))
  obtain ⟨⟨nm, -⟩, -⟩ := HS.out W (Below.refl _ _)
  clear hAm hAo hAn hAp hzm hzo hzn hzp b1 b2 b3 b4
  clear hm ho hM hO hN hP
  go_enter Try.func6, Try.ntmps6
  go_upto_region 1 with fail
  clear hW1 hW2 hW3 hW
  go_upto_region 3 with (first
    | (go_at_call 13; rw [← HR3.out.1]; refine (HEo.out _ _ _ HR3.out.2).mono ?_; rintro e w4 ⟨rfl, hb4⟩; have HC4 : Hid (Below W.heap.size W w4) := chainB HC2.out (chainB hb3 hb4); clear hb3 hb4 HR3)
    | (go_at_call 14; refine (HGo.out w2 (chainB HB.out HC2.out)).mono ?_; rintro e w3 ⟨ve3, vk3, rfl, hr3, hb3⟩; obtain ⟨Ar3, hAr3⟩ : ∃ A, (o.ms ve3 vk3).arr = A := ⟨_, rfl⟩; rw [hAr3]; have HR3 : Hid ((o.ms ve3 vk3).arr = Ar3 ∧ (Row7 w3 0 ve3 o.es ∧ RowK w3 0 vk3 o.ks)) := ⟨hAr3, hr3.out⟩; clear hAr3 hr3 nm2)
    | (go_at_call 13; rw [← HR1.out.1]; refine (HEm.out _ _ _ HR1.out.2).mono ?_; rintro e w2 ⟨a2, c2, rfl, ho2, hb2⟩; have HC2 : Hid (Below W.heap.size W w2) := chainB hb1 hb2; obtain ⟨⟨-, nm2⟩, -⟩ := HS.out w2 HC2.out; clear hb1 hb2 HR1 ho2)
    | (go_at_call 14; refine (HGm.out W HB.out).mono ?_; rintro e w1 ⟨ve1, vk1, rfl, hr1, hb1⟩; obtain ⟨Ar1, hAr1⟩ : ∃ A, (m.ms ve1 vk1).arr = A := ⟨_, rfl⟩; rw [hAr1]; have HR1 : Hid ((m.ms ve1 vk1).arr = Ar1 ∧ (Row7 w1 0 ve1 m.es ∧ RowK w1 0 vk1 m.ks)) := ⟨hAr1, hr1.out⟩; clear hAr1 hr1 nm))
  have k0 := (HS.out w4.drew (HC4.out.drew)).1
  refine wp_region_held_drew (S := fun w' => (mmS (.pointer (some ⟨w.heap.size, 0, none⟩))).run Try.prog w' = .ok (.agg Am) w' ∧ (mmS (.pointer (some ⟨W1.heap.size, 0, none⟩))).run Try.prog w' = .ok (.agg Ao) w') (by kernel_rfl) k0 (fun hHeld => ?_)
  refine tky 0 (some 29) rfl rfl ⟨?va0, fun w hSw => ?aa0, fun _ _ _ h => h, ?ba0⟩
  case aa0 => (try dsimp only at hSw); go_simp; (try rfl)
  try simp only [Act.put, List.setIfInBounds_toArray, List.set_cons_zero, List.set_cons_succ]
  refine tky 1 (some 30) rfl rfl ⟨.bool true, fun w hSw => ?aa1, fun _ _ _ h => h, ?ba1⟩
  case aa1 => (try dsimp only at hSw); go_simp; (try rfl)
  try simp only [Act.put, List.setIfInBounds_toArray, List.set_cons_zero, List.set_cons_succ]
  refine tky 2 (some 31) rfl rfl ⟨?va2, fun w hSw => ?aa2, fun _ _ _ h => h, ?ba2⟩
  case aa2 => (try dsimp only at hSw); go_simp; (try rfl)
  try simp only [Act.put, List.setIfInBounds_toArray, List.set_cons_zero, List.set_cons_succ]
  refine tky 3 (some 32) rfl rfl ⟨?va3, fun w hSw => ?aa3, fun _ _ _ h => h, ?ba3⟩
  case aa3 => (try dsimp only at hSw); go_simp; (try rfl)
  try simp only [Act.put, List.setIfInBounds_toArray, List.set_cons_zero, List.set_cons_succ]
  refine tky 4 (some 33) rfl rfl ⟨.bool false, fun w hSw => ?aa4, fun _ _ _ h => h, ?ba4⟩
  case aa4 => (try dsimp only at hSw); go_simp; (try rfl)
  try simp only [Act.put, List.setIfInBounds_toArray, List.set_cons_zero, List.set_cons_succ]
  refine tky 5 (some 34) rfl rfl ⟨?va5, fun w hSw => ?aa5, fun _ _ _ h => h, ?ba5⟩
  case aa5 => (try dsimp only at hSw); go_simp; (try rfl)
  try simp only [Act.put, List.setIfInBounds_toArray, List.set_cons_zero, List.set_cons_succ]
  refine tky 6 (some 35) rfl rfl ⟨?va6, fun w hSw => ?aa6, fun _ _ _ h => h, ?ba6⟩
  case aa6 => (try dsimp only at hSw); go_simp; (try rfl)
  try simp only [Act.put, List.setIfInBounds_toArray, List.set_cons_zero, List.set_cons_succ]
  refine tkn 7 (some 36) rfl rfl ?_
  try simp only [Act.put, List.setIfInBounds_toArray, List.set_cons_zero, List.set_cons_succ]
  refine tkn 8 (some 37) rfl rfl ?_
  try simp only [Act.put, List.setIfInBounds_toArray, List.set_cons_zero, List.set_cons_succ]
  refine tkn 9 (some 38) rfl rfl ?_
  try simp only [Act.put, List.setIfInBounds_toArray, List.set_cons_zero, List.set_cons_succ]
  refine tkn 10 (some 39) rfl rfl ?_
  try simp only [Act.put, List.setIfInBounds_toArray, List.set_cons_zero, List.set_cons_succ]
  refine tkn 11 (some 40) rfl rfl ?_
  try simp only [Act.put, List.setIfInBounds_toArray, List.set_cons_zero, List.set_cons_succ]
  refine tkn 12 (some 41) rfl rfl ?_
  try simp only [Act.put, List.setIfInBounds_toArray, List.set_cons_zero, List.set_cons_succ]
  refine tkn 13 (some 42) rfl rfl ?_
  try simp only [Act.put, List.setIfInBounds_toArray, List.set_cons_zero, List.set_cons_succ]
  refine tkn 14 (some 43) rfl rfl ?_
  try simp only [Act.put, List.setIfInBounds_toArray, List.set_cons_zero, List.set_cons_succ]
  refine tkn 15 (some 44) rfl rfl ?_
  try simp only [Act.put, List.setIfInBounds_toArray, List.set_cons_zero, List.set_cons_succ]
  refine tky 16 (some 45) rfl rfl ⟨?va16, fun w hSw => ?aa16, fun _ _ _ h => h, ?ba16⟩
  case aa16 => (try dsimp only at hSw); go_simp; (try rfl)
  try simp only [Act.put, List.setIfInBounds_toArray, List.set_cons_zero, List.set_cons_succ]
  refine wpAnyH_done (by kernel_rfl) ?_ _
  have HC5 : Hid (Below W.heap.size W w4.drew) := HC4.out.drew
  clear k0
  obtain ⟨-, nn, -⟩ := HS.out _ HC5.out
  go_upto_region 7 with (first
    | (go_at_call 17; refine (HPp.out x1).mono ?_; rintro e x2 ⟨rfl, hx2⟩; have HX2 : Hid (Below W.heap.size W x2) := chainB HX1.out hx2; clear hx2 nn2)
    | (go_at_call 17; refine (HPn.out _).mono ?_; rintro e x1 ⟨d1, f1, rfl, hq1, hx1⟩; have HX1 : Hid (Below W.heap.size W x1) := chainB HC5.out hx1; obtain ⟨-, -, nn2⟩ := HS.out x1 HX1.out; clear hx1 nn hq1))
  have y0 := (HS.out x2.drew HX2.out.drew).2
  refine wp_region_held_drew (S := fun w' => (noteS (.pointer (some ⟨W2.heap.size, 0, none⟩))).run Try.prog w' = .ok (.agg An) w' ∧ (noteS (.pointer (some ⟨W3.heap.size, 0, none⟩))).run Try.prog w' = .ok (.agg Ap) w') (by kernel_rfl) y0 (fun hHeld => ?_)
  refine tky 0 (some 56) rfl rfl ⟨?vb0, fun w hSw => ?ab0, fun _ _ _ h => h, ?bb0⟩
  case ab0 => (try dsimp only at hSw); go_simp; (try rfl)
  try simp only [Act.put, List.setIfInBounds_toArray, List.set_cons_zero, List.set_cons_succ]
  refine tky 1 (some 57) rfl rfl ⟨.bool false, fun w hSw => ?ab1, fun _ _ _ h => h, ?bb1⟩
  case ab1 => (try dsimp only at hSw); go_simp; (try rfl)
  try simp only [Act.put, List.setIfInBounds_toArray, List.set_cons_zero, List.set_cons_succ]
  refine tky 2 (some 58) rfl rfl ⟨?vb2, fun w hSw => ?ab2, fun _ _ _ h => h, ?bb2⟩
  case ab2 => (try dsimp only at hSw); go_simp; (try rfl)
  try simp only [Act.put, List.setIfInBounds_toArray, List.set_cons_zero, List.set_cons_succ]
  refine tky 3 (some 59) rfl rfl ⟨?vb3, fun w hSw => ?ab3, fun _ _ _ h => h, ?bb3⟩
  case ab3 => (try dsimp only at hSw); go_simp; (try rfl)
  try simp only [Act.put, List.setIfInBounds_toArray, List.set_cons_zero, List.set_cons_succ]
  refine tky 4 (some 60) rfl rfl ⟨.bool true, fun w hSw => ?ab4, fun _ _ _ h => h, ?bb4⟩
  case ab4 => (try dsimp only at hSw); go_simp; (try rfl)
  try simp only [Act.put, List.setIfInBounds_toArray, List.set_cons_zero, List.set_cons_succ]
  refine tky 5 (some 61) rfl rfl ⟨?vb5, fun w hSw => ?ab5, fun _ _ _ h => h, ?bb5⟩
  case ab5 => (try dsimp only at hSw); go_simp; (try rfl)
  try simp only [Act.put, List.setIfInBounds_toArray, List.set_cons_zero, List.set_cons_succ]
  refine tky 6 (some 62) rfl rfl ⟨?vb6, fun w hSw => ?ab6, fun _ _ _ h => h, ?bb6⟩
  case ab6 => (try dsimp only at hSw); go_simp; (try rfl)
  try simp only [Act.put, List.setIfInBounds_toArray, List.set_cons_zero, List.set_cons_succ]
  refine tkn 7 (some 63) rfl rfl ?_
  try simp only [Act.put, List.setIfInBounds_toArray, List.set_cons_zero, List.set_cons_succ]
  refine tkn 8 (some 64) rfl rfl ?_
  try simp only [Act.put, List.setIfInBounds_toArray, List.set_cons_zero, List.set_cons_succ]
  refine tkn 9 (some 65) rfl rfl ?_
  try simp only [Act.put, List.setIfInBounds_toArray, List.set_cons_zero, List.set_cons_succ]
  refine tkn 10 (some 66) rfl rfl ?_
  try simp only [Act.put, List.setIfInBounds_toArray, List.set_cons_zero, List.set_cons_succ]
  refine tkn 11 (some 67) rfl rfl ?_
  try simp only [Act.put, List.setIfInBounds_toArray, List.set_cons_zero, List.set_cons_succ]
  refine tkn 12 (some 68) rfl rfl ?_
  try simp only [Act.put, List.setIfInBounds_toArray, List.set_cons_zero, List.set_cons_succ]
  refine tkn 13 (some 69) rfl rfl ?_
  try simp only [Act.put, List.setIfInBounds_toArray, List.set_cons_zero, List.set_cons_succ]
  refine tky 14 (some 70) rfl rfl ⟨?vb14, fun w hSw => ?ab14, fun _ _ _ h => h, ?bb14⟩
  case ab14 => (try dsimp only at hSw); go_simp; (try rfl)
  try simp only [Act.put, List.setIfInBounds_toArray, List.set_cons_zero, List.set_cons_succ]
  refine tky 15 (some 71) rfl rfl ⟨?vb15, fun w hSw => ?ab15, fun _ _ _ h => h, ?bb15⟩
  case ab15 => (try dsimp only at hSw); go_simp; (try rfl)
  try simp only [Act.put, List.setIfInBounds_toArray, List.set_cons_zero, List.set_cons_succ]
  refine wpAnyH_ready (rs := [16]) (by kernel_rfl) (by simp) ?_
  refine AllReadyH.cons rfl (fun K hK => ?_) AllReadyH.nil
  go_simp
  go_at_call 12
  refine (HAw.out _).mono ?_
  rintro e x9 ⟨rfl, hx9⟩
  have HX9 : Hid (Below W.heap.size W x9) := chainB HX2.out.drew hx9
  have y9 := (HS.out x9 HX9.out).2
  refine hK.out _ _ y9 (fun hHeld => ?_)
  clear hK K
  try simp only [Act.put, List.setIfInBounds_toArray, List.set_cons_zero, List.set_cons_succ]
  refine tky 17 (some 73) rfl rfl ⟨?vb17, fun w hSw => ?ab17, fun _ _ _ h => h, ?bb17⟩
  case ab17 => (try dsimp only at hSw); go_simp; (try rfl)
  try simp only [Act.put, List.setIfInBounds_toArray, List.set_cons_zero, List.set_cons_succ]
  refine tky 18 (some 8) rfl rfl ⟨.bool true, fun w hSw => ?ab18, fun _ _ _ h => h, ?bb18⟩
  case ab18 => (try dsimp only at hSw); go_simp; (try rfl)
  try simp only [Act.put, List.setIfInBounds_toArray, List.set_cons_zero, List.set_cons_succ]
  refine wpAnyH_done (by kernel_rfl) ?_ _
  go_wp2
  go_ret
  exact ⟨rfl, chainB HB.out HX9.out⟩
set_option maxRecDepth 20000 in
set_option maxHeartbeats 8000000 in
theorem unl_TF_TT (m o : Mm) (n p : Nt) (w : World) (hm : ArgM w m) (ho : ArgM w o) (hM : m.plain = true) (hO : o.plain = false) (hN : plainN n = true) (hP : plainN p = true) :
    Calls Try.prog 6 #[.agg m.arr, .agg o.arr, .agg n.arr, .agg p.arr] w fun e w' => e = .returned (.bool true) ∧ Below w.heap.size w w' := by
  have HAw : Hid (∀ W, Calls Try.prog 12 #[] W fun e w' => e = .returned (.bool true) ∧ Below W.heap.size W w') := awake_w
  have HGm : Hid (∀ W, Below w.heap.size w W → Calls Try.prog 14 #[.agg m.arr] W fun e w' => ∃ ve vk, e = .returned (.agg (m.ms ve vk).arr) ∧ Hid (Row7 w' 0 ve m.es ∧ RowK w' 0 vk m.ks) ∧ Below W.heap.size W w') := fun W hb => (msg_any m W (hm.below hb)).mono fun e w' ⟨ve, vk, he, h1, h2, h3⟩ => ⟨ve, vk, he, ⟨owns_le h1 (Nat.zero_le _), owns_le h2 (Nat.zero_le _)⟩, h3⟩
  have HGo : Hid (∀ W, Below w.heap.size w W → Calls Try.prog 14 #[.agg o.arr] W fun e w' => ∃ ve vk, e = .returned (.agg (o.ms ve vk).arr) ∧ Hid (Row7 w' 0 ve o.es ∧ RowK w' 0 vk o.ks) ∧ Below W.heap.size W w') := fun W hb => (msg_any o W (ho.below hb)).mono fun e w' ⟨ve, vk, he, h1, h2, h3⟩ => ⟨ve, vk, he, ⟨owns_le h1 (Nat.zero_le _), owns_le h2 (Nat.zero_le _)⟩, h3⟩
  have HEm : Hid (∀ ve vk W, Row7 W 0 ve m.es ∧ RowK W 0 vk m.ks → Calls Try.prog 13 #[.agg (m.ms ve vk).arr] W fun e w' => ∃ a c, e = .returned (.tuple #[.slice a (msgB m.mg).length c, .int .i64 0]) ∧ Hid (OwnB w' W.heap.size (.slice a (msgB m.mg).length c) (msgB m.mg)) ∧ Below W.heap.size W w') := fun ve vk W hr => (encode_m m ve vk W hr.1 hr.2).mono fun e w' hh => by
    rw [hM] at hh
    obtain ⟨a, c, he', ho', hb'⟩ := hh.yes
    exact ⟨a, c, he', ho', hb'⟩
  have HEo : Hid (∀ ve vk W, Row7 W 0 ve o.es ∧ RowK W 0 vk o.ks → Calls Try.prog 13 #[.agg (o.ms ve vk).arr] W fun e w' => e = .returned (.tuple #[.slice none 0 0, .int .i64 50]) ∧ Below W.heap.size W w') := fun ve vk W hr => (encode_m o ve vk W hr.1 hr.2).mono fun e w' hh => by
    rw [hO] at hh
    exact hh.no
  have HPn : Hid (∀ W, Calls Try.prog 17 #[.agg n.arr] W fun e w' => ∃ a c, e = .returned (.tuple #[.slice a (noteB n).length c, .int .i64 0]) ∧ Hid (OwnB w' W.heap.size (.slice a (noteB n).length c) (noteB n)) ∧ Below W.heap.size W w') := fun W => (pack_p n W).mono fun e w' hh => by
    rcases hh with ⟨_, v, he, ho, hb⟩ | ⟨h0, _⟩
    · obtain ⟨a, c, hv⟩ := owns_len ho
      subst hv
      exact ⟨a, c, he, ho, hb⟩
    · rw [hN] at h0; cases h0
  have HPp : Hid (∀ W, Calls Try.prog 17 #[.agg p.arr] W fun e w' => ∃ a c, e = .returned (.tuple #[.slice a (noteB p).length c, .int .i64 0]) ∧ Hid (OwnB w' W.heap.size (.slice a (noteB p).length c) (noteB p)) ∧ Below W.heap.size W w') := fun W => (pack_p p W).mono fun e w' hh => by
    rcases hh with ⟨_, v, he, ho, hb⟩ | ⟨h0, _⟩
    · obtain ⟨a, c, hv⟩ := owns_len ho
      subst hv
      exact ⟨a, c, he, ho, hb⟩
    · rw [hP] at h0; cases h0
  have hokN := (plainN_iff n).1 hN
  have hokP := (plainN_iff p).1 hP
  have hlN := noteB_len hokN
  have hlP := noteB_len hokP
  have hqq : eqNt n p = decide (noteB n = noteB p) := by
    by_cases h : n = p
    · rw [(eqNt_iff n p).2 h, decide_eq_true (by rw [h])]
    · rw [decide_eq_false (fun e => h (noteB_inj hokN hokP e))]
      cases hq : eqNt n p with
      | true => exact absurd ((eqNt_iff n p).1 hq) h
      | false => rfl
  have hq0 := fun w' => eqNtB w' n p
  rw [hqq] at hq0
  obtain ⟨D, hD⟩ : ∃ D, decide (noteB n = noteB p) = D := ⟨_, rfl⟩
  rw [hD] at hq0
  have HSc : Hid (∀ v v' W, RB W v (noteB n) → RB W v' (noteB p) → Calls Try.prog 23 #[v, v'] W fun e w' => e = .returned (.bool D) ∧ Below W.heap.size W w') := fun v v' W h1 h2 => by
    have := same_any v v' _ _ W h1 h2 (by unfold LB; omega) (by unfold LB; omega)
    rw [hD] at this
    exact this
  clear hD hqq hlN hlP hokN hokP
  have hzm : m.arr.size = 17 := rfl
  obtain ⟨Am, hAm⟩ : ∃ A, m.arr = A := ⟨_, rfl⟩
  have hzo : o.arr.size = 17 := rfl
  obtain ⟨Ao, hAo⟩ : ∃ A, o.arr = A := ⟨_, rfl⟩
  have hzn : n.arr.size = 22 := rfl
  obtain ⟨An, hAn⟩ : ∃ A, n.arr = A := ⟨_, rfl⟩
  have hzp : p.arr.size = 22 := rfl
  obtain ⟨Ap, hAp⟩ : ∃ A, p.arr = A := ⟨_, rfl⟩
  have hq : ∀ w', (binOp .eql 35 (.agg An) (.agg Ap)).run Try.prog w' = .ok (.bool D) w' := by rw [← hAn, ← hAp]; exact hq0
  clear hq0
  rw [hAm] at HGm hzm ⊢
  rw [hAo] at HGo hzo ⊢
  rw [hAn] at HPn hzn ⊢
  rw [hAp] at HPp hzp ⊢
  obtain ⟨W1, hW1⟩ : ∃ W, w.alloc (.cells Am 46) = W := ⟨_, rfl⟩
  obtain ⟨W2, hW2⟩ : ∃ W, W1.alloc (.cells Ao 46) = W := ⟨_, rfl⟩
  obtain ⟨W3, hW3⟩ : ∃ W, W2.alloc (.cells An 35) = W := ⟨_, rfl⟩
  obtain ⟨W, hW⟩ : ∃ W, W3.alloc (.cells Ap 35) = W := ⟨_, rfl⟩
  have b1 := boxB hW1
  have b2 := boxB hW2
  have b3 := boxB hW3
  have b4 := boxB hW
  have HS : Hid (∀ w', Below W.heap.size W w' → ((mmS (.pointer (some ⟨w.heap.size, 0, none⟩))).run Try.prog w' = .ok (.agg Am) w' ∧ (mmS (.pointer (some ⟨W1.heap.size, 0, none⟩))).run Try.prog w' = .ok (.agg Ao) w') ∧ ((noteS (.pointer (some ⟨W2.heap.size, 0, none⟩))).run Try.prog w' = .ok (.agg An) w' ∧ (noteS (.pointer (some ⟨W3.heap.size, 0, none⟩))).run Try.prog w' = .ok (.agg Ap) w')) := fun w' h' => by
    have c3 := chainB b4.2 h'
    have c2 := chainB b3.2 c3
    have c1 := chainB b2.2 c2
    exact ⟨⟨mmS_of (hkeep b1.1 c1) hzm, mmS_of (hkeep b2.1 c2) hzo⟩, noteS_of (hkeep b3.1 c3) hzn, noteS_of (hkeep b4.1 h') hzp⟩
  have HB : Hid (Below w.heap.size w W) := chainB b1.2 (chainB b2.2 (chainB b3.2 b4.2))
  obtain ⟨⟨nm, -⟩, -⟩ := HS.out W (Below.refl _ _)
  clear hAm hAo hAn hAp hzm hzo hzn hzp b1 b2 b3 b4
  clear hm ho hM hO hN hP
  go_enter Try.func6, Try.ntmps6
  go_upto_region 1 with fail
  clear hW1 hW2 hW3 hW
  go_upto_region 3 with (first
    | (go_at_call 13; rw [← HR3.out.1]; refine (HEo.out _ _ _ HR3.out.2).mono ?_; rintro e w4 ⟨rfl, hb4⟩; have HC4 : Hid (Below W.heap.size W w4) := chainB HC2.out (chainB hb3 hb4); clear hb3 hb4 HR3)
    | (go_at_call 14; refine (HGo.out w2 (chainB HB.out HC2.out)).mono ?_; rintro e w3 ⟨ve3, vk3, rfl, hr3, hb3⟩; obtain ⟨Ar3, hAr3⟩ : ∃ A, (o.ms ve3 vk3).arr = A := ⟨_, rfl⟩; rw [hAr3]; have HR3 : Hid ((o.ms ve3 vk3).arr = Ar3 ∧ (Row7 w3 0 ve3 o.es ∧ RowK w3 0 vk3 o.ks)) := ⟨hAr3, hr3.out⟩; clear hAr3 hr3 nm2)
    | (go_at_call 13; rw [← HR1.out.1]; refine (HEm.out _ _ _ HR1.out.2).mono ?_; rintro e w2 ⟨a2, c2, rfl, ho2, hb2⟩; have HC2 : Hid (Below W.heap.size W w2) := chainB hb1 hb2; obtain ⟨⟨-, nm2⟩, -⟩ := HS.out w2 HC2.out; clear hb1 hb2 HR1 ho2)
    | (go_at_call 14; refine (HGm.out W HB.out).mono ?_; rintro e w1 ⟨ve1, vk1, rfl, hr1, hb1⟩; obtain ⟨Ar1, hAr1⟩ : ∃ A, (m.ms ve1 vk1).arr = A := ⟨_, rfl⟩; rw [hAr1]; have HR1 : Hid ((m.ms ve1 vk1).arr = Ar1 ∧ (Row7 w1 0 ve1 m.es ∧ RowK w1 0 vk1 m.ks)) := ⟨hAr1, hr1.out⟩; clear hAr1 hr1 nm))
  have k0 := (HS.out w4.drew (HC4.out.drew)).1
  refine wp_region_held_drew (S := fun w' => (mmS (.pointer (some ⟨w.heap.size, 0, none⟩))).run Try.prog w' = .ok (.agg Am) w' ∧ (mmS (.pointer (some ⟨W1.heap.size, 0, none⟩))).run Try.prog w' = .ok (.agg Ao) w') (by kernel_rfl) k0 (fun hHeld => ?_)
  refine tky 0 (some 29) rfl rfl ⟨?va0, fun w hSw => ?aa0, fun _ _ _ h => h, ?ba0⟩
  case aa0 => (try dsimp only at hSw); go_simp; (try rfl)
  try simp only [Act.put, List.setIfInBounds_toArray, List.set_cons_zero, List.set_cons_succ]
  refine tky 1 (some 30) rfl rfl ⟨.bool true, fun w hSw => ?aa1, fun _ _ _ h => h, ?ba1⟩
  case aa1 => (try dsimp only at hSw); go_simp; (try rfl)
  try simp only [Act.put, List.setIfInBounds_toArray, List.set_cons_zero, List.set_cons_succ]
  refine tky 2 (some 31) rfl rfl ⟨?va2, fun w hSw => ?aa2, fun _ _ _ h => h, ?ba2⟩
  case aa2 => (try dsimp only at hSw); go_simp; (try rfl)
  try simp only [Act.put, List.setIfInBounds_toArray, List.set_cons_zero, List.set_cons_succ]
  refine tky 3 (some 32) rfl rfl ⟨?va3, fun w hSw => ?aa3, fun _ _ _ h => h, ?ba3⟩
  case aa3 => (try dsimp only at hSw); go_simp; (try rfl)
  try simp only [Act.put, List.setIfInBounds_toArray, List.set_cons_zero, List.set_cons_succ]
  refine tky 4 (some 33) rfl rfl ⟨.bool false, fun w hSw => ?aa4, fun _ _ _ h => h, ?ba4⟩
  case aa4 => (try dsimp only at hSw); go_simp; (try rfl)
  try simp only [Act.put, List.setIfInBounds_toArray, List.set_cons_zero, List.set_cons_succ]
  refine tky 5 (some 34) rfl rfl ⟨?va5, fun w hSw => ?aa5, fun _ _ _ h => h, ?ba5⟩
  case aa5 => (try dsimp only at hSw); go_simp; (try rfl)
  try simp only [Act.put, List.setIfInBounds_toArray, List.set_cons_zero, List.set_cons_succ]
  refine tky 6 (some 35) rfl rfl ⟨?va6, fun w hSw => ?aa6, fun _ _ _ h => h, ?ba6⟩
  case aa6 => (try dsimp only at hSw); go_simp; (try rfl)
  try simp only [Act.put, List.setIfInBounds_toArray, List.set_cons_zero, List.set_cons_succ]
  refine tkn 7 (some 36) rfl rfl ?_
  try simp only [Act.put, List.setIfInBounds_toArray, List.set_cons_zero, List.set_cons_succ]
  refine tkn 8 (some 37) rfl rfl ?_
  try simp only [Act.put, List.setIfInBounds_toArray, List.set_cons_zero, List.set_cons_succ]
  refine tkn 9 (some 38) rfl rfl ?_
  try simp only [Act.put, List.setIfInBounds_toArray, List.set_cons_zero, List.set_cons_succ]
  refine tkn 10 (some 39) rfl rfl ?_
  try simp only [Act.put, List.setIfInBounds_toArray, List.set_cons_zero, List.set_cons_succ]
  refine tkn 11 (some 40) rfl rfl ?_
  try simp only [Act.put, List.setIfInBounds_toArray, List.set_cons_zero, List.set_cons_succ]
  refine tkn 12 (some 41) rfl rfl ?_
  try simp only [Act.put, List.setIfInBounds_toArray, List.set_cons_zero, List.set_cons_succ]
  refine tkn 13 (some 42) rfl rfl ?_
  try simp only [Act.put, List.setIfInBounds_toArray, List.set_cons_zero, List.set_cons_succ]
  refine tkn 14 (some 43) rfl rfl ?_
  try simp only [Act.put, List.setIfInBounds_toArray, List.set_cons_zero, List.set_cons_succ]
  refine tkn 15 (some 44) rfl rfl ?_
  try simp only [Act.put, List.setIfInBounds_toArray, List.set_cons_zero, List.set_cons_succ]
  refine tky 16 (some 45) rfl rfl ⟨?va16, fun w hSw => ?aa16, fun _ _ _ h => h, ?ba16⟩
  case aa16 => (try dsimp only at hSw); go_simp; (try rfl)
  try simp only [Act.put, List.setIfInBounds_toArray, List.set_cons_zero, List.set_cons_succ]
  refine wpAnyH_done (by kernel_rfl) ?_ _
  have HC5 : Hid (Below W.heap.size W w4.drew) := HC4.out.drew
  clear k0
  obtain ⟨-, nn, -⟩ := HS.out _ HC5.out
  go_upto_region 7 with (first
    | (go_at_call 17; refine (HPp.out x1).mono ?_; rintro e x2 ⟨d2, f2, rfl, hq2, hx2⟩; have HQ2 : Hid (RB x2 (.slice d1 (noteB n).length f1) (noteB n) ∧ RB x2 (.slice d2 (noteB p).length f2) (noteB p)) := ⟨HQ1.out.below hx2, hq2.out.rb⟩; have HX2 : Hid (Below W.heap.size W x2) := chainB HX1.out hx2; clear hx2 nn2 hq2 HQ1)
    | (go_at_call 17; refine (HPn.out _).mono ?_; rintro e x1 ⟨d1, f1, rfl, hq1, hx1⟩; have HQ1 : Hid (RB x1 (.slice d1 (noteB n).length f1) (noteB n)) := hq1.out.rb; have HX1 : Hid (Below W.heap.size W x1) := chainB HC5.out hx1; obtain ⟨-, -, nn2⟩ := HS.out x1 HX1.out; clear hx1 nn hq1))
  have y0 := (HS.out x2.drew HX2.out.drew).2
  go_region_held3 (fun w' => (noteS (.pointer (some ⟨W2.heap.size, 0, none⟩))).run Try.prog w' = .ok (.agg An) w' ∧ (noteS (.pointer (some ⟨W3.heap.size, 0, none⟩))).run Try.prog w' = .ok (.agg Ap) w') (with_reducible first | exact y9 | exact y5 | exact y0) (first
    | (go_at_call 12; refine (HAw.out _).mono ?_; rintro e x9 ⟨rfl, hx9⟩; have HX9 : Hid (Below W.heap.size W x9) := chainB HX5.out hx9; have y9 := (HS.out x9 HX9.out).2)
    | (go_at_call 23; refine (HSc.out _ _ _ (HQ2.out.1.below (Below.refl _ _).drew) (HQ2.out.2.below (Below.refl _ _).drew)).mono ?_; rintro e x5 ⟨rfl, hx5⟩; have HX5 : Hid (Below W.heap.size W x5) := chainB HX2.out.drew hx5; have y5 := (HS.out x5 HX5.out).2))
  go_wp2
  go_ret
  exact ⟨rfl, chainB HB.out HX9.out⟩
set_option maxRecDepth 20000 in
set_option maxHeartbeats 8000000 in
theorem unl_TS_F (m o : Mm) (n p : Nt) (w : World) (hm : ArgM w m) (ho : ArgM w o) (hM : m.plain = true) (hO : o.plain = true) (hS : m.mg = o.mg) (hN : plainN n = false) :
    Calls Try.prog 6 #[.agg m.arr, .agg o.arr, .agg n.arr, .agg p.arr] w fun e w' => e = .returned (.bool true) ∧ Below w.heap.size w w' := by
  have HAw : Hid (∀ W, Calls Try.prog 12 #[] W fun e w' => e = .returned (.bool true) ∧ Below W.heap.size W w') := awake_w
  have HGm : Hid (∀ W, Below w.heap.size w W → Calls Try.prog 14 #[.agg m.arr] W fun e w' => ∃ ve vk, e = .returned (.agg (m.ms ve vk).arr) ∧ Hid (Row7 w' 0 ve m.es ∧ RowK w' 0 vk m.ks) ∧ Below W.heap.size W w') := fun W hb => (msg_any m W (hm.below hb)).mono fun e w' ⟨ve, vk, he, h1, h2, h3⟩ => ⟨ve, vk, he, ⟨owns_le h1 (Nat.zero_le _), owns_le h2 (Nat.zero_le _)⟩, h3⟩
  have HGo : Hid (∀ W, Below w.heap.size w W → Calls Try.prog 14 #[.agg o.arr] W fun e w' => ∃ ve vk, e = .returned (.agg (o.ms ve vk).arr) ∧ Hid (Row7 w' 0 ve o.es ∧ RowK w' 0 vk o.ks) ∧ Below W.heap.size W w') := fun W hb => (msg_any o W (ho.below hb)).mono fun e w' ⟨ve, vk, he, h1, h2, h3⟩ => ⟨ve, vk, he, ⟨owns_le h1 (Nat.zero_le _), owns_le h2 (Nat.zero_le _)⟩, h3⟩
  have HEm : Hid (∀ ve vk W, Row7 W 0 ve m.es ∧ RowK W 0 vk m.ks → Calls Try.prog 13 #[.agg (m.ms ve vk).arr] W fun e w' => ∃ a c, e = .returned (.tuple #[.slice a (msgB m.mg).length c, .int .i64 0]) ∧ Hid (OwnB w' W.heap.size (.slice a (msgB m.mg).length c) (msgB m.mg)) ∧ Below W.heap.size W w') := fun ve vk W hr => (encode_m m ve vk W hr.1 hr.2).mono fun e w' hh => by
    rw [hM] at hh
    obtain ⟨a, c, he', ho', hb'⟩ := hh.yes
    exact ⟨a, c, he', ho', hb'⟩
  have HEo : Hid (∀ ve vk W, Row7 W 0 ve o.es ∧ RowK W 0 vk o.ks → Calls Try.prog 13 #[.agg (o.ms ve vk).arr] W fun e w' => ∃ a c, e = .returned (.tuple #[.slice a (msgB o.mg).length c, .int .i64 0]) ∧ Hid (OwnB w' W.heap.size (.slice a (msgB o.mg).length c) (msgB o.mg)) ∧ Below W.heap.size W w') := fun ve vk W hr => (encode_m o ve vk W hr.1 hr.2).mono fun e w' hh => by
    rw [hO] at hh
    obtain ⟨a, c, he', ho', hb'⟩ := hh.yes
    exact ⟨a, c, he', ho', hb'⟩
  have hokM := ((m.plain_iff).1 hM).2
  have hokO := ((o.plain_iff).1 hO).2
  have hlM := msgB_len hokM
  have hlO := msgB_len hokO
  have HSb : Hid (∀ v v' W, RB W v (msgB m.mg) → RB W v' (msgB o.mg) → Calls Try.prog 23 #[v, v'] W fun e w' => e = .returned (.bool true) ∧ Below W.heap.size W w') := fun v v' W h1 h2 => by
    have := same_any v v' _ _ W h1 h2 (by unfold LB; omega) (by unfold LB; omega)
    rw [decide_eq_true (by rw [hS])] at this
    exact this
  have HSm : Hid (∀ ve vk ve2 vk2 W, Row7 W 0 ve m.es ∧ RowK W 0 vk m.ks → Row7 W 0 ve2 o.es ∧ RowK W 0 vk2 o.ks → Calls Try.prog 21 #[.agg (m.ms ve vk).arr, .agg (o.ms ve2 vk2).arr] W fun e w' => e = .returned (.bool true) ∧ Below W.heap.size W w') := fun ve vk ve2 vk2 W h1 h2 => sameMs_yes hM hO hS ve vk ve2 vk2 W h1 h2
  clear hlM hlO
  have HPn : Hid (∀ W, Calls Try.prog 17 #[.agg n.arr] W fun e w' => e = .returned (.tuple #[.slice none 0 0, .int .i64 50]) ∧ Below W.heap.size W w') := fun W => (pack_p n W).mono fun e w' hh => by
    rcases hh with ⟨h0, _⟩ | ⟨_, he, hb⟩
    · rw [hN] at h0; cases h0
    · exact ⟨he, hb⟩
  have HPp : Hid (∀ W, Calls Try.prog 17 #[.agg p.arr] W fun e w' => ∃ v E, e = .returned (.tuple #[v, .int .i64 E]) ∧ Below W.heap.size W w') := fun W => (pack_p p W).mono fun e w' hh => by
    rcases hh with ⟨_, v, he, _, hb⟩ | ⟨_, he, hb⟩
    · exact ⟨_, _, he, hb⟩
    · exact ⟨_, _, he, hb⟩
  have hzm : m.arr.size = 17 := rfl
  obtain ⟨Am, hAm⟩ : ∃ A, m.arr = A := ⟨_, rfl⟩
  have hzo : o.arr.size = 17 := rfl
  obtain ⟨Ao, hAo⟩ : ∃ A, o.arr = A := ⟨_, rfl⟩
  have hzn : n.arr.size = 22 := rfl
  obtain ⟨An, hAn⟩ : ∃ A, n.arr = A := ⟨_, rfl⟩
  have hzp : p.arr.size = 22 := rfl
  obtain ⟨Ap, hAp⟩ : ∃ A, p.arr = A := ⟨_, rfl⟩
  rw [hAm] at HGm hzm ⊢
  rw [hAo] at HGo hzo ⊢
  rw [hAn] at HPn hzn ⊢
  rw [hAp] at HPp hzp ⊢
  obtain ⟨W1, hW1⟩ : ∃ W, w.alloc (.cells Am 46) = W := ⟨_, rfl⟩
  obtain ⟨W2, hW2⟩ : ∃ W, W1.alloc (.cells Ao 46) = W := ⟨_, rfl⟩
  obtain ⟨W3, hW3⟩ : ∃ W, W2.alloc (.cells An 35) = W := ⟨_, rfl⟩
  obtain ⟨W, hW⟩ : ∃ W, W3.alloc (.cells Ap 35) = W := ⟨_, rfl⟩
  have b1 := boxB hW1
  have b2 := boxB hW2
  have b3 := boxB hW3
  have b4 := boxB hW
  have HS : Hid (∀ w', Below W.heap.size W w' → ((mmS (.pointer (some ⟨w.heap.size, 0, none⟩))).run Try.prog w' = .ok (.agg Am) w' ∧ (mmS (.pointer (some ⟨W1.heap.size, 0, none⟩))).run Try.prog w' = .ok (.agg Ao) w') ∧ ((noteS (.pointer (some ⟨W2.heap.size, 0, none⟩))).run Try.prog w' = .ok (.agg An) w' ∧ (noteS (.pointer (some ⟨W3.heap.size, 0, none⟩))).run Try.prog w' = .ok (.agg Ap) w')) := fun w' h' => by
    have c3 := chainB b4.2 h'
    have c2 := chainB b3.2 c3
    have c1 := chainB b2.2 c2
    exact ⟨⟨mmS_of (hkeep b1.1 c1) hzm, mmS_of (hkeep b2.1 c2) hzo⟩, noteS_of (hkeep b3.1 c3) hzn, noteS_of (hkeep b4.1 h') hzp⟩
  have HB : Hid (Below w.heap.size w W) := chainB b1.2 (chainB b2.2 (chainB b3.2 b4.2))
  obtain ⟨⟨nm, -⟩, -⟩ := HS.out W (Below.refl _ _)
  clear hAm hAo hAn hAp hzm hzo hzn hzp b1 b2 b3 b4
  clear hm ho hM hO hS hokM hokO hN
  go_enter Try.func6, Try.ntmps6
  go_upto_region 1 with fail
  clear hW1 hW2 hW3 hW
  go_upto_region 3 with (first
    | (go_at_call 13; rw [← HR3.out.1]; refine (HEo.out _ _ _ HR3.out.2).mono ?_; rintro e w4 ⟨a4, c4, rfl, ho4, hb4⟩; have HC4 : Hid (Below W.heap.size W w4) := chainB HC2.out (chainB hb3 hb4); have HO4 : Hid (RB w4 (.slice a2 (msgB m.mg).length c2) (msgB m.mg) ∧ RB w4 (.slice a4 (msgB o.mg).length c4) (msgB o.mg)) := ⟨HO2.out.below (chainB hb3 hb4), ho4.out.rb⟩; clear hb3 hb4 HR3 ho4)
    | (go_at_call 14; refine (HGo.out w2 (chainB HB.out HC2.out)).mono ?_; rintro e w3 ⟨ve3, vk3, rfl, hr3, hb3⟩; obtain ⟨Ar3, hAr3⟩ : ∃ A, (o.ms ve3 vk3).arr = A := ⟨_, rfl⟩; rw [hAr3]; have HR3 : Hid ((o.ms ve3 vk3).arr = Ar3 ∧ (Row7 w3 0 ve3 o.es ∧ RowK w3 0 vk3 o.ks)) := ⟨hAr3, hr3.out⟩; clear hAr3 hr3 nm2)
    | (go_at_call 13; rw [← HR1.out.1]; refine (HEm.out _ _ _ HR1.out.2).mono ?_; rintro e w2 ⟨a2, c2, rfl, ho2, hb2⟩; have HC2 : Hid (Below W.heap.size W w2) := chainB hb1 hb2; obtain ⟨⟨-, nm2⟩, -⟩ := HS.out w2 HC2.out; have HO2 : Hid (RB w2 (.slice a2 (msgB m.mg).length c2) (msgB m.mg)) := ho2.out.rb; clear hb1 hb2 HR1 ho2)
    | (go_at_call 14; refine (HGm.out W HB.out).mono ?_; rintro e w1 ⟨ve1, vk1, rfl, hr1, hb1⟩; obtain ⟨Ar1, hAr1⟩ : ∃ A, (m.ms ve1 vk1).arr = A := ⟨_, rfl⟩; rw [hAr1]; have HR1 : Hid ((m.ms ve1 vk1).arr = Ar1 ∧ (Row7 w1 0 ve1 m.es ∧ RowK w1 0 vk1 m.ks)) := ⟨hAr1, hr1.out⟩; clear hAr1 hr1 nm))
  have k0 := (HS.out w4.drew (HC4.out.drew)).1
  go_region_held3 (fun w' => (mmS (.pointer (some ⟨w.heap.size, 0, none⟩))).run Try.prog w' = .ok (.agg Am) w' ∧ (mmS (.pointer (some ⟨W1.heap.size, 0, none⟩))).run Try.prog w' = .ok (.agg Ao) w') (with_reducible first | exact k8 | exact k7 | exact k6 | exact k5 | exact k0) (first
    | (go_at_call 21; rw [← HR6.out.1, ← HR7.out.1]; refine (HSm.out _ _ _ _ _ ⟨HR6.out.2.1.below hb7, HR6.out.2.2.below hb7⟩ HR7.out.2).mono ?_; rintro e w8 ⟨rfl, hb8⟩; have HC8 : Hid (Below W.heap.size W w8) := chainB HC7.out hb8; have k8 := (HS.out w8 HC8.out).1)
    | (go_at_call 14; refine (HGo.out w6 (chainB HB.out HC6.out)).mono ?_; rintro e w7 ⟨ve7, vk7, rfl, hr7, hb7⟩; obtain ⟨Ar7, hAr7⟩ : ∃ A, (o.ms ve7 vk7).arr = A := ⟨_, rfl⟩; rw [hAr7]; have HR7 : Hid ((o.ms ve7 vk7).arr = Ar7 ∧ (Row7 w7 0 ve7 o.es ∧ RowK w7 0 vk7 o.ks)) := ⟨hAr7, hr7.out⟩; have HC7 : Hid (Below W.heap.size W w7) := chainB HC6.out hb7; have k7 := (HS.out w7 HC7.out).1; clear hAr7 hr7)
    | (go_at_call 14; refine (HGm.out w5 (chainB HB.out HC5.out)).mono ?_; rintro e w6 ⟨ve6, vk6, rfl, hr6, hb6⟩; obtain ⟨Ar6, hAr6⟩ : ∃ A, (m.ms ve6 vk6).arr = A := ⟨_, rfl⟩; rw [hAr6]; have HR6 : Hid ((m.ms ve6 vk6).arr = Ar6 ∧ (Row7 w6 0 ve6 m.es ∧ RowK w6 0 vk6 m.ks)) := ⟨hAr6, hr6.out⟩; have HC6 : Hid (Below W.heap.size W w6) := chainB HC5.out hb6; have k6 := (HS.out w6 HC6.out).1; clear hAr6 hr6)
    | (go_at_call 23; refine (HSb.out _ _ _ (HO4.out.1.below (Below.refl _ _).drew) (HO4.out.2.below (Below.refl _ _).drew)).mono ?_; rintro e w5 ⟨rfl, hb5⟩; have HC5 : Hid (Below W.heap.size W w5) := chainB HC4.out.drew hb5; have k5 := (HS.out w5 HC5.out).1))
  clear k0 k5 k6 k7 k8 hb5 hb6 hb7 hb8
  rename Hid (Below W.heap.size W w5) => HC5x
  have HC5 : Hid (Below W.heap.size W w8) := HC8.out
  obtain ⟨-, nn, -⟩ := HS.out _ HC5.out
  go_upto_region 7 with (first
    | (go_at_call 17; refine (HPp.out x1).mono ?_; rintro e x2 ⟨v2, E2, rfl, hx2⟩; have HX2 : Hid (Below W.heap.size W x2) := chainB HX1.out hx2; clear hx2 nn2)
    | (go_at_call 17; refine (HPn.out _).mono ?_; rintro e x1 ⟨rfl, hx1⟩; have HX1 : Hid (Below W.heap.size W x1) := chainB HC5.out hx1; obtain ⟨-, -, nn2⟩ := HS.out x1 HX1.out; clear hx1 nn))
  have y0 := (HS.out x2.drew HX2.out.drew).2
  refine wp_region_held_drew (S := fun w' => (noteS (.pointer (some ⟨W2.heap.size, 0, none⟩))).run Try.prog w' = .ok (.agg An) w' ∧ (noteS (.pointer (some ⟨W3.heap.size, 0, none⟩))).run Try.prog w' = .ok (.agg Ap) w') (by kernel_rfl) y0 (fun hHeld => ?_)
  refine tky 0 (some 56) rfl rfl ⟨?vb0, fun w hSw => ?ab0, fun _ _ _ h => h, ?bb0⟩
  case ab0 => (try dsimp only at hSw); go_simp; (try rfl)
  try simp only [Act.put, List.setIfInBounds_toArray, List.set_cons_zero, List.set_cons_succ]
  refine tky 1 (some 57) rfl rfl ⟨.bool true, fun w hSw => ?ab1, fun _ _ _ h => h, ?bb1⟩
  case ab1 => (try dsimp only at hSw); go_simp; (try rfl)
  try simp only [Act.put, List.setIfInBounds_toArray, List.set_cons_zero, List.set_cons_succ]
  refine tky 2 (some 58) rfl rfl ⟨?vb2, fun w hSw => ?ab2, fun _ _ _ h => h, ?bb2⟩
  case ab2 => (try dsimp only at hSw); go_simp; (try rfl)
  try simp only [Act.put, List.setIfInBounds_toArray, List.set_cons_zero, List.set_cons_succ]
  refine tkn 3 (some 59) rfl rfl ?_
  try simp only [Act.put, List.setIfInBounds_toArray, List.set_cons_zero, List.set_cons_succ]
  refine tkn 4 (some 60) rfl rfl ?_
  try simp only [Act.put, List.setIfInBounds_toArray, List.set_cons_zero, List.set_cons_succ]
  refine tky 5 (some 61) rfl rfl ⟨?vb5, fun w hSw => ?ab5, fun _ _ _ h => h, ?bb5⟩
  case ab5 => (try dsimp only at hSw); go_simp; (try rfl)
  try simp only [Act.put, List.setIfInBounds_toArray, List.set_cons_zero, List.set_cons_succ]
  refine tky 6 (some 62) rfl rfl ⟨?vb6, fun w hSw => ?ab6, fun _ _ _ h => h, ?bb6⟩
  case ab6 => (try dsimp only at hSw); go_simp; (try rfl)
  try simp only [Act.put, List.setIfInBounds_toArray, List.set_cons_zero, List.set_cons_succ]
  refine tkn 7 (some 63) rfl rfl ?_
  try simp only [Act.put, List.setIfInBounds_toArray, List.set_cons_zero, List.set_cons_succ]
  refine tkn 8 (some 64) rfl rfl ?_
  try simp only [Act.put, List.setIfInBounds_toArray, List.set_cons_zero, List.set_cons_succ]
  refine tkn 9 (some 65) rfl rfl ?_
  try simp only [Act.put, List.setIfInBounds_toArray, List.set_cons_zero, List.set_cons_succ]
  refine tkn 10 (some 66) rfl rfl ?_
  try simp only [Act.put, List.setIfInBounds_toArray, List.set_cons_zero, List.set_cons_succ]
  refine tkn 11 (some 67) rfl rfl ?_
  try simp only [Act.put, List.setIfInBounds_toArray, List.set_cons_zero, List.set_cons_succ]
  refine tkn 12 (some 68) rfl rfl ?_
  try simp only [Act.put, List.setIfInBounds_toArray, List.set_cons_zero, List.set_cons_succ]
  refine tkn 13 (some 69) rfl rfl ?_
  try simp only [Act.put, List.setIfInBounds_toArray, List.set_cons_zero, List.set_cons_succ]
  refine tky 14 (some 70) rfl rfl ⟨?vb14, fun w hSw => ?ab14, fun _ _ _ h => h, ?bb14⟩
  case ab14 => (try dsimp only at hSw); go_simp; (try rfl)
  try simp only [Act.put, List.setIfInBounds_toArray, List.set_cons_zero, List.set_cons_succ]
  refine tky 15 (some 71) rfl rfl ⟨?vb15, fun w hSw => ?ab15, fun _ _ _ h => h, ?bb15⟩
  case ab15 => (try dsimp only at hSw); go_simp; (try rfl)
  try simp only [Act.put, List.setIfInBounds_toArray, List.set_cons_zero, List.set_cons_succ]
  refine wpAnyH_ready (rs := [16]) (by kernel_rfl) (by simp) ?_
  refine AllReadyH.cons rfl (fun K hK => ?_) AllReadyH.nil
  go_simp
  go_at_call 12
  refine (HAw.out _).mono ?_
  rintro e x9 ⟨rfl, hx9⟩
  have HX9 : Hid (Below W.heap.size W x9) := chainB HX2.out.drew hx9
  have y9 := (HS.out x9 HX9.out).2
  refine hK.out _ _ y9 (fun hHeld => ?_)
  clear hK K
  try simp only [Act.put, List.setIfInBounds_toArray, List.set_cons_zero, List.set_cons_succ]
  refine tky 17 (some 73) rfl rfl ⟨?vb17, fun w hSw => ?ab17, fun _ _ _ h => h, ?bb17⟩
  case ab17 => (try dsimp only at hSw); go_simp; (try rfl)
  try simp only [Act.put, List.setIfInBounds_toArray, List.set_cons_zero, List.set_cons_succ]
  refine tky 18 (some 8) rfl rfl ⟨.bool true, fun w hSw => ?ab18, fun _ _ _ h => h, ?bb18⟩
  case ab18 => (try dsimp only at hSw); go_simp; (try rfl)
  try simp only [Act.put, List.setIfInBounds_toArray, List.set_cons_zero, List.set_cons_succ]
  refine wpAnyH_done (by kernel_rfl) ?_ _
  go_wp2
  go_ret
  exact ⟨rfl, chainB HB.out HX9.out⟩
set_option maxRecDepth 20000 in
set_option maxHeartbeats 8000000 in
theorem unl_TS_TF (m o : Mm) (n p : Nt) (w : World) (hm : ArgM w m) (ho : ArgM w o) (hM : m.plain = true) (hO : o.plain = true) (hS : m.mg = o.mg) (hN : plainN n = true) (hP : plainN p = false) :
    Calls Try.prog 6 #[.agg m.arr, .agg o.arr, .agg n.arr, .agg p.arr] w fun e w' => e = .returned (.bool true) ∧ Below w.heap.size w w' := by
  have HAw : Hid (∀ W, Calls Try.prog 12 #[] W fun e w' => e = .returned (.bool true) ∧ Below W.heap.size W w') := awake_w
  have HGm : Hid (∀ W, Below w.heap.size w W → Calls Try.prog 14 #[.agg m.arr] W fun e w' => ∃ ve vk, e = .returned (.agg (m.ms ve vk).arr) ∧ Hid (Row7 w' 0 ve m.es ∧ RowK w' 0 vk m.ks) ∧ Below W.heap.size W w') := fun W hb => (msg_any m W (hm.below hb)).mono fun e w' ⟨ve, vk, he, h1, h2, h3⟩ => ⟨ve, vk, he, ⟨owns_le h1 (Nat.zero_le _), owns_le h2 (Nat.zero_le _)⟩, h3⟩
  have HGo : Hid (∀ W, Below w.heap.size w W → Calls Try.prog 14 #[.agg o.arr] W fun e w' => ∃ ve vk, e = .returned (.agg (o.ms ve vk).arr) ∧ Hid (Row7 w' 0 ve o.es ∧ RowK w' 0 vk o.ks) ∧ Below W.heap.size W w') := fun W hb => (msg_any o W (ho.below hb)).mono fun e w' ⟨ve, vk, he, h1, h2, h3⟩ => ⟨ve, vk, he, ⟨owns_le h1 (Nat.zero_le _), owns_le h2 (Nat.zero_le _)⟩, h3⟩
  have HEm : Hid (∀ ve vk W, Row7 W 0 ve m.es ∧ RowK W 0 vk m.ks → Calls Try.prog 13 #[.agg (m.ms ve vk).arr] W fun e w' => ∃ a c, e = .returned (.tuple #[.slice a (msgB m.mg).length c, .int .i64 0]) ∧ Hid (OwnB w' W.heap.size (.slice a (msgB m.mg).length c) (msgB m.mg)) ∧ Below W.heap.size W w') := fun ve vk W hr => (encode_m m ve vk W hr.1 hr.2).mono fun e w' hh => by
    rw [hM] at hh
    obtain ⟨a, c, he', ho', hb'⟩ := hh.yes
    exact ⟨a, c, he', ho', hb'⟩
  have HEo : Hid (∀ ve vk W, Row7 W 0 ve o.es ∧ RowK W 0 vk o.ks → Calls Try.prog 13 #[.agg (o.ms ve vk).arr] W fun e w' => ∃ a c, e = .returned (.tuple #[.slice a (msgB o.mg).length c, .int .i64 0]) ∧ Hid (OwnB w' W.heap.size (.slice a (msgB o.mg).length c) (msgB o.mg)) ∧ Below W.heap.size W w') := fun ve vk W hr => (encode_m o ve vk W hr.1 hr.2).mono fun e w' hh => by
    rw [hO] at hh
    obtain ⟨a, c, he', ho', hb'⟩ := hh.yes
    exact ⟨a, c, he', ho', hb'⟩
  have hokM := ((m.plain_iff).1 hM).2
  have hokO := ((o.plain_iff).1 hO).2
  have hlM := msgB_len hokM
  have hlO := msgB_len hokO
  have HSb : Hid (∀ v v' W, RB W v (msgB m.mg) → RB W v' (msgB o.mg) → Calls Try.prog 23 #[v, v'] W fun e w' => e = .returned (.bool true) ∧ Below W.heap.size W w') := fun v v' W h1 h2 => by
    have := same_any v v' _ _ W h1 h2 (by unfold LB; omega) (by unfold LB; omega)
    rw [decide_eq_true (by rw [hS])] at this
    exact this
  have HSm : Hid (∀ ve vk ve2 vk2 W, Row7 W 0 ve m.es ∧ RowK W 0 vk m.ks → Row7 W 0 ve2 o.es ∧ RowK W 0 vk2 o.ks → Calls Try.prog 21 #[.agg (m.ms ve vk).arr, .agg (o.ms ve2 vk2).arr] W fun e w' => e = .returned (.bool true) ∧ Below W.heap.size W w') := fun ve vk ve2 vk2 W h1 h2 => sameMs_yes hM hO hS ve vk ve2 vk2 W h1 h2
  clear hlM hlO
  have HPn : Hid (∀ W, Calls Try.prog 17 #[.agg n.arr] W fun e w' => ∃ a c, e = .returned (.tuple #[.slice a (noteB n).length c, .int .i64 0]) ∧ Hid (OwnB w' W.heap.size (.slice a (noteB n).length c) (noteB n)) ∧ Below W.heap.size W w') := fun W => (pack_p n W).mono fun e w' hh => by
    rcases hh with ⟨_, v, he, ho, hb⟩ | ⟨h0, _⟩
    · obtain ⟨a, c, hv⟩ := owns_len ho
      subst hv
      exact ⟨a, c, he, ho, hb⟩
    · rw [hN] at h0; cases h0
  have HPp : Hid (∀ W, Calls Try.prog 17 #[.agg p.arr] W fun e w' => e = .returned (.tuple #[.slice none 0 0, .int .i64 50]) ∧ Below W.heap.size W w') := fun W => (pack_p p W).mono fun e w' hh => by
    rcases hh with ⟨h0, _⟩ | ⟨_, he, hb⟩
    · rw [hP] at h0; cases h0
    · exact ⟨he, hb⟩
  have hzm : m.arr.size = 17 := rfl
  obtain ⟨Am, hAm⟩ : ∃ A, m.arr = A := ⟨_, rfl⟩
  have hzo : o.arr.size = 17 := rfl
  obtain ⟨Ao, hAo⟩ : ∃ A, o.arr = A := ⟨_, rfl⟩
  have hzn : n.arr.size = 22 := rfl
  obtain ⟨An, hAn⟩ : ∃ A, n.arr = A := ⟨_, rfl⟩
  have hzp : p.arr.size = 22 := rfl
  obtain ⟨Ap, hAp⟩ : ∃ A, p.arr = A := ⟨_, rfl⟩
  rw [hAm] at HGm hzm ⊢
  rw [hAo] at HGo hzo ⊢
  rw [hAn] at HPn hzn ⊢
  rw [hAp] at HPp hzp ⊢
  obtain ⟨W1, hW1⟩ : ∃ W, w.alloc (.cells Am 46) = W := ⟨_, rfl⟩
  obtain ⟨W2, hW2⟩ : ∃ W, W1.alloc (.cells Ao 46) = W := ⟨_, rfl⟩
  obtain ⟨W3, hW3⟩ : ∃ W, W2.alloc (.cells An 35) = W := ⟨_, rfl⟩
  obtain ⟨W, hW⟩ : ∃ W, W3.alloc (.cells Ap 35) = W := ⟨_, rfl⟩
  have b1 := boxB hW1
  have b2 := boxB hW2
  have b3 := boxB hW3
  have b4 := boxB hW
  have HS : Hid (∀ w', Below W.heap.size W w' → ((mmS (.pointer (some ⟨w.heap.size, 0, none⟩))).run Try.prog w' = .ok (.agg Am) w' ∧ (mmS (.pointer (some ⟨W1.heap.size, 0, none⟩))).run Try.prog w' = .ok (.agg Ao) w') ∧ ((noteS (.pointer (some ⟨W2.heap.size, 0, none⟩))).run Try.prog w' = .ok (.agg An) w' ∧ (noteS (.pointer (some ⟨W3.heap.size, 0, none⟩))).run Try.prog w' = .ok (.agg Ap) w')) := fun w' h' => by
    have c3 := chainB b4.2 h'
    have c2 := chainB b3.2 c3
    have c1 := chainB b2.2 c2
    exact ⟨⟨mmS_of (hkeep b1.1 c1) hzm, mmS_of (hkeep b2.1 c2) hzo⟩, noteS_of (hkeep b3.1 c3) hzn, noteS_of (hkeep b4.1 h') hzp⟩
  have HB : Hid (Below w.heap.size w W) := chainB b1.2 (chainB b2.2 (chainB b3.2 b4.2))
  obtain ⟨⟨nm, -⟩, -⟩ := HS.out W (Below.refl _ _)
  clear hAm hAo hAn hAp hzm hzo hzn hzp b1 b2 b3 b4
  clear hm ho hM hO hS hokM hokO hN hP
  go_enter Try.func6, Try.ntmps6
  go_upto_region 1 with fail
  clear hW1 hW2 hW3 hW
  go_upto_region 3 with (first
    | (go_at_call 13; rw [← HR3.out.1]; refine (HEo.out _ _ _ HR3.out.2).mono ?_; rintro e w4 ⟨a4, c4, rfl, ho4, hb4⟩; have HC4 : Hid (Below W.heap.size W w4) := chainB HC2.out (chainB hb3 hb4); have HO4 : Hid (RB w4 (.slice a2 (msgB m.mg).length c2) (msgB m.mg) ∧ RB w4 (.slice a4 (msgB o.mg).length c4) (msgB o.mg)) := ⟨HO2.out.below (chainB hb3 hb4), ho4.out.rb⟩; clear hb3 hb4 HR3 ho4)
    | (go_at_call 14; refine (HGo.out w2 (chainB HB.out HC2.out)).mono ?_; rintro e w3 ⟨ve3, vk3, rfl, hr3, hb3⟩; obtain ⟨Ar3, hAr3⟩ : ∃ A, (o.ms ve3 vk3).arr = A := ⟨_, rfl⟩; rw [hAr3]; have HR3 : Hid ((o.ms ve3 vk3).arr = Ar3 ∧ (Row7 w3 0 ve3 o.es ∧ RowK w3 0 vk3 o.ks)) := ⟨hAr3, hr3.out⟩; clear hAr3 hr3 nm2)
    | (go_at_call 13; rw [← HR1.out.1]; refine (HEm.out _ _ _ HR1.out.2).mono ?_; rintro e w2 ⟨a2, c2, rfl, ho2, hb2⟩; have HC2 : Hid (Below W.heap.size W w2) := chainB hb1 hb2; obtain ⟨⟨-, nm2⟩, -⟩ := HS.out w2 HC2.out; have HO2 : Hid (RB w2 (.slice a2 (msgB m.mg).length c2) (msgB m.mg)) := ho2.out.rb; clear hb1 hb2 HR1 ho2)
    | (go_at_call 14; refine (HGm.out W HB.out).mono ?_; rintro e w1 ⟨ve1, vk1, rfl, hr1, hb1⟩; obtain ⟨Ar1, hAr1⟩ : ∃ A, (m.ms ve1 vk1).arr = A := ⟨_, rfl⟩; rw [hAr1]; have HR1 : Hid ((m.ms ve1 vk1).arr = Ar1 ∧ (Row7 w1 0 ve1 m.es ∧ RowK w1 0 vk1 m.ks)) := ⟨hAr1, hr1.out⟩; clear hAr1 hr1 nm))
  have k0 := (HS.out w4.drew (HC4.out.drew)).1
  go_region_held3 (fun w' => (mmS (.pointer (some ⟨w.heap.size, 0, none⟩))).run Try.prog w' = .ok (.agg Am) w' ∧ (mmS (.pointer (some ⟨W1.heap.size, 0, none⟩))).run Try.prog w' = .ok (.agg Ao) w') (with_reducible first | exact k8 | exact k7 | exact k6 | exact k5 | exact k0) (first
    | (go_at_call 21; rw [← HR6.out.1, ← HR7.out.1]; refine (HSm.out _ _ _ _ _ ⟨HR6.out.2.1.below hb7, HR6.out.2.2.below hb7⟩ HR7.out.2).mono ?_; rintro e w8 ⟨rfl, hb8⟩; have HC8 : Hid (Below W.heap.size W w8) := chainB HC7.out hb8; have k8 := (HS.out w8 HC8.out).1)
    | (go_at_call 14; refine (HGo.out w6 (chainB HB.out HC6.out)).mono ?_; rintro e w7 ⟨ve7, vk7, rfl, hr7, hb7⟩; obtain ⟨Ar7, hAr7⟩ : ∃ A, (o.ms ve7 vk7).arr = A := ⟨_, rfl⟩; rw [hAr7]; have HR7 : Hid ((o.ms ve7 vk7).arr = Ar7 ∧ (Row7 w7 0 ve7 o.es ∧ RowK w7 0 vk7 o.ks)) := ⟨hAr7, hr7.out⟩; have HC7 : Hid (Below W.heap.size W w7) := chainB HC6.out hb7; have k7 := (HS.out w7 HC7.out).1; clear hAr7 hr7)
    | (go_at_call 14; refine (HGm.out w5 (chainB HB.out HC5.out)).mono ?_; rintro e w6 ⟨ve6, vk6, rfl, hr6, hb6⟩; obtain ⟨Ar6, hAr6⟩ : ∃ A, (m.ms ve6 vk6).arr = A := ⟨_, rfl⟩; rw [hAr6]; have HR6 : Hid ((m.ms ve6 vk6).arr = Ar6 ∧ (Row7 w6 0 ve6 m.es ∧ RowK w6 0 vk6 m.ks)) := ⟨hAr6, hr6.out⟩; have HC6 : Hid (Below W.heap.size W w6) := chainB HC5.out hb6; have k6 := (HS.out w6 HC6.out).1; clear hAr6 hr6)
    | (go_at_call 23; refine (HSb.out _ _ _ (HO4.out.1.below (Below.refl _ _).drew) (HO4.out.2.below (Below.refl _ _).drew)).mono ?_; rintro e w5 ⟨rfl, hb5⟩; have HC5 : Hid (Below W.heap.size W w5) := chainB HC4.out.drew hb5; have k5 := (HS.out w5 HC5.out).1))
  clear k0 k5 k6 k7 k8 hb5 hb6 hb7 hb8
  rename Hid (Below W.heap.size W w5) => HC5x
  have HC5 : Hid (Below W.heap.size W w8) := HC8.out
  obtain ⟨-, nn, -⟩ := HS.out _ HC5.out
  go_upto_region 7 with (first
    | (go_at_call 17; refine (HPp.out x1).mono ?_; rintro e x2 ⟨rfl, hx2⟩; have HX2 : Hid (Below W.heap.size W x2) := chainB HX1.out hx2; clear hx2 nn2)
    | (go_at_call 17; refine (HPn.out _).mono ?_; rintro e x1 ⟨d1, f1, rfl, hq1, hx1⟩; have HX1 : Hid (Below W.heap.size W x1) := chainB HC5.out hx1; obtain ⟨-, -, nn2⟩ := HS.out x1 HX1.out; clear hx1 nn hq1))
  have y0 := (HS.out x2.drew HX2.out.drew).2
  refine wp_region_held_drew (S := fun w' => (noteS (.pointer (some ⟨W2.heap.size, 0, none⟩))).run Try.prog w' = .ok (.agg An) w' ∧ (noteS (.pointer (some ⟨W3.heap.size, 0, none⟩))).run Try.prog w' = .ok (.agg Ap) w') (by kernel_rfl) y0 (fun hHeld => ?_)
  refine tky 0 (some 56) rfl rfl ⟨?vb0, fun w hSw => ?ab0, fun _ _ _ h => h, ?bb0⟩
  case ab0 => (try dsimp only at hSw); go_simp; (try rfl)
  try simp only [Act.put, List.setIfInBounds_toArray, List.set_cons_zero, List.set_cons_succ]
  refine tky 1 (some 57) rfl rfl ⟨.bool false, fun w hSw => ?ab1, fun _ _ _ h => h, ?bb1⟩
  case ab1 => (try dsimp only at hSw); go_simp; (try rfl)
  try simp only [Act.put, List.setIfInBounds_toArray, List.set_cons_zero, List.set_cons_succ]
  refine tky 2 (some 58) rfl rfl ⟨?vb2, fun w hSw => ?ab2, fun _ _ _ h => h, ?bb2⟩
  case ab2 => (try dsimp only at hSw); go_simp; (try rfl)
  try simp only [Act.put, List.setIfInBounds_toArray, List.set_cons_zero, List.set_cons_succ]
  refine tky 3 (some 59) rfl rfl ⟨?vb3, fun w hSw => ?ab3, fun _ _ _ h => h, ?bb3⟩
  case ab3 => (try dsimp only at hSw); go_simp; (try rfl)
  try simp only [Act.put, List.setIfInBounds_toArray, List.set_cons_zero, List.set_cons_succ]
  refine tky 4 (some 60) rfl rfl ⟨.bool true, fun w hSw => ?ab4, fun _ _ _ h => h, ?bb4⟩
  case ab4 => (try dsimp only at hSw); go_simp; (try rfl)
  try simp only [Act.put, List.setIfInBounds_toArray, List.set_cons_zero, List.set_cons_succ]
  refine tky 5 (some 61) rfl rfl ⟨?vb5, fun w hSw => ?ab5, fun _ _ _ h => h, ?bb5⟩
  case ab5 => (try dsimp only at hSw); go_simp; (try rfl)
  try simp only [Act.put, List.setIfInBounds_toArray, List.set_cons_zero, List.set_cons_succ]
  refine tky 6 (some 62) rfl rfl ⟨?vb6, fun w hSw => ?ab6, fun _ _ _ h => h, ?bb6⟩
  case ab6 => (try dsimp only at hSw); go_simp; (try rfl)
  try simp only [Act.put, List.setIfInBounds_toArray, List.set_cons_zero, List.set_cons_succ]
  refine tkn 7 (some 63) rfl rfl ?_
  try simp only [Act.put, List.setIfInBounds_toArray, List.set_cons_zero, List.set_cons_succ]
  refine tkn 8 (some 64) rfl rfl ?_
  try simp only [Act.put, List.setIfInBounds_toArray, List.set_cons_zero, List.set_cons_succ]
  refine tkn 9 (some 65) rfl rfl ?_
  try simp only [Act.put, List.setIfInBounds_toArray, List.set_cons_zero, List.set_cons_succ]
  refine tkn 10 (some 66) rfl rfl ?_
  try simp only [Act.put, List.setIfInBounds_toArray, List.set_cons_zero, List.set_cons_succ]
  refine tkn 11 (some 67) rfl rfl ?_
  try simp only [Act.put, List.setIfInBounds_toArray, List.set_cons_zero, List.set_cons_succ]
  refine tkn 12 (some 68) rfl rfl ?_
  try simp only [Act.put, List.setIfInBounds_toArray, List.set_cons_zero, List.set_cons_succ]
  refine tkn 13 (some 69) rfl rfl ?_
  try simp only [Act.put, List.setIfInBounds_toArray, List.set_cons_zero, List.set_cons_succ]
  refine tky 14 (some 70) rfl rfl ⟨?vb14, fun w hSw => ?ab14, fun _ _ _ h => h, ?bb14⟩
  case ab14 => (try dsimp only at hSw); go_simp; (try rfl)
  try simp only [Act.put, List.setIfInBounds_toArray, List.set_cons_zero, List.set_cons_succ]
  refine tky 15 (some 71) rfl rfl ⟨?vb15, fun w hSw => ?ab15, fun _ _ _ h => h, ?bb15⟩
  case ab15 => (try dsimp only at hSw); go_simp; (try rfl)
  try simp only [Act.put, List.setIfInBounds_toArray, List.set_cons_zero, List.set_cons_succ]
  refine wpAnyH_ready (rs := [16]) (by kernel_rfl) (by simp) ?_
  refine AllReadyH.cons rfl (fun K hK => ?_) AllReadyH.nil
  go_simp
  go_at_call 12
  refine (HAw.out _).mono ?_
  rintro e x9 ⟨rfl, hx9⟩
  have HX9 : Hid (Below W.heap.size W x9) := chainB HX2.out.drew hx9
  have y9 := (HS.out x9 HX9.out).2
  refine hK.out _ _ y9 (fun hHeld => ?_)
  clear hK K
  try simp only [Act.put, List.setIfInBounds_toArray, List.set_cons_zero, List.set_cons_succ]
  refine tky 17 (some 73) rfl rfl ⟨?vb17, fun w hSw => ?ab17, fun _ _ _ h => h, ?bb17⟩
  case ab17 => (try dsimp only at hSw); go_simp; (try rfl)
  try simp only [Act.put, List.setIfInBounds_toArray, List.set_cons_zero, List.set_cons_succ]
  refine tky 18 (some 8) rfl rfl ⟨.bool true, fun w hSw => ?ab18, fun _ _ _ h => h, ?bb18⟩
  case ab18 => (try dsimp only at hSw); go_simp; (try rfl)
  try simp only [Act.put, List.setIfInBounds_toArray, List.set_cons_zero, List.set_cons_succ]
  refine wpAnyH_done (by kernel_rfl) ?_ _
  go_wp2
  go_ret
  exact ⟨rfl, chainB HB.out HX9.out⟩
end
section
open Go.RowKit Go.Lib
attribute [local go_sem ↓ high] loadN loadM storeN storeMg
attribute [local go_sem high] guardNt

set_option maxRecDepth 20000 in
set_option maxHeartbeats 8000000 in
theorem unl_TS_TT (m o : Mm) (n p : Nt) (w : World) (hm : ArgM w m) (ho : ArgM w o) (hM : m.plain = true) (hO : o.plain = true) (hS : m.mg = o.mg) (hN : plainN n = true) (hP : plainN p = true) :
    Calls Try.prog 6 #[.agg m.arr, .agg o.arr, .agg n.arr, .agg p.arr] w fun e w' => e = .returned (.bool true) ∧ Below w.heap.size w w' := by
  have HAw : Hid (∀ W, Calls Try.prog 12 #[] W fun e w' => e = .returned (.bool true) ∧ Below W.heap.size W w') := awake_w
  have HGm : Hid (∀ W, Below w.heap.size w W → Calls Try.prog 14 #[.agg m.arr] W fun e w' => ∃ ve vk, e = .returned (.agg (m.ms ve vk).arr) ∧ Hid (Row7 w' 0 ve m.es ∧ RowK w' 0 vk m.ks) ∧ Below W.heap.size W w') := fun W hb => (msg_any m W (hm.below hb)).mono fun e w' ⟨ve, vk, he, h1, h2, h3⟩ => ⟨ve, vk, he, ⟨owns_le h1 (Nat.zero_le _), owns_le h2 (Nat.zero_le _)⟩, h3⟩
  have HGo : Hid (∀ W, Below w.heap.size w W → Calls Try.prog 14 #[.agg o.arr] W fun e w' => ∃ ve vk, e = .returned (.agg (o.ms ve vk).arr) ∧ Hid (Row7 w' 0 ve o.es ∧ RowK w' 0 vk o.ks) ∧ Below W.heap.size W w') := fun W hb => (msg_any o W (ho.below hb)).mono fun e w' ⟨ve, vk, he, h1, h2, h3⟩ => ⟨ve, vk, he, ⟨owns_le h1 (Nat.zero_le _), owns_le h2 (Nat.zero_le _)⟩, h3⟩
  have HEm : Hid (∀ ve vk W, Row7 W 0 ve m.es ∧ RowK W 0 vk m.ks → Calls Try.prog 13 #[.agg (m.ms ve vk).arr] W fun e w' => ∃ a c, e = .returned (.tuple #[.slice a (msgB m.mg).length c, .int .i64 0]) ∧ Hid (OwnB w' W.heap.size (.slice a (msgB m.mg).length c) (msgB m.mg)) ∧ Below W.heap.size W w') := fun ve vk W hr => (encode_m m ve vk W hr.1 hr.2).mono fun e w' hh => by
    rw [hM] at hh
    obtain ⟨a, c, he', ho', hb'⟩ := hh.yes
    exact ⟨a, c, he', ho', hb'⟩
  have HEo : Hid (∀ ve vk W, Row7 W 0 ve o.es ∧ RowK W 0 vk o.ks → Calls Try.prog 13 #[.agg (o.ms ve vk).arr] W fun e w' => ∃ a c, e = .returned (.tuple #[.slice a (msgB o.mg).length c, .int .i64 0]) ∧ Hid (OwnB w' W.heap.size (.slice a (msgB o.mg).length c) (msgB o.mg)) ∧ Below W.heap.size W w') := fun ve vk W hr => (encode_m o ve vk W hr.1 hr.2).mono fun e w' hh => by
    rw [hO] at hh
    obtain ⟨a, c, he', ho', hb'⟩ := hh.yes
    exact ⟨a, c, he', ho', hb'⟩
  have hokM := ((m.plain_iff).1 hM).2
  have hokO := ((o.plain_iff).1 hO).2
  have hlM := msgB_len hokM
  have hlO := msgB_len hokO
  have HSb : Hid (∀ v v' W, RB W v (msgB m.mg) → RB W v' (msgB o.mg) → Calls Try.prog 23 #[v, v'] W fun e w' => e = .returned (.bool true) ∧ Below W.heap.size W w') := fun v v' W h1 h2 => by
    have := same_any v v' _ _ W h1 h2 (by unfold LB; omega) (by unfold LB; omega)
    rw [decide_eq_true (by rw [hS])] at this
    exact this
  have HSm : Hid (∀ ve vk ve2 vk2 W, Row7 W 0 ve m.es ∧ RowK W 0 vk m.ks → Row7 W 0 ve2 o.es ∧ RowK W 0 vk2 o.ks → Calls Try.prog 21 #[.agg (m.ms ve vk).arr, .agg (o.ms ve2 vk2).arr] W fun e w' => e = .returned (.bool true) ∧ Below W.heap.size W w') := fun ve vk ve2 vk2 W h1 h2 => sameMs_yes hM hO hS ve vk ve2 vk2 W h1 h2
  clear hlM hlO
  have HPn : Hid (∀ W, Calls Try.prog 17 #[.agg n.arr] W fun e w' => ∃ a c, e = .returned (.tuple #[.slice a (noteB n).length c, .int .i64 0]) ∧ Hid (OwnB w' W.heap.size (.slice a (noteB n).length c) (noteB n)) ∧ Below W.heap.size W w') := fun W => (pack_p n W).mono fun e w' hh => by
    rcases hh with ⟨_, v, he, ho, hb⟩ | ⟨h0, _⟩
    · obtain ⟨a, c, hv⟩ := owns_len ho
      subst hv
      exact ⟨a, c, he, ho, hb⟩
    · rw [hN] at h0; cases h0
  have HPp : Hid (∀ W, Calls Try.prog 17 #[.agg p.arr] W fun e w' => ∃ a c, e = .returned (.tuple #[.slice a (noteB p).length c, .int .i64 0]) ∧ Hid (OwnB w' W.heap.size (.slice a (noteB p).length c) (noteB p)) ∧ Below W.heap.size W w') := fun W => (pack_p p W).mono fun e w' hh => by
    rcases hh with ⟨_, v, he, ho, hb⟩ | ⟨h0, _⟩
    · obtain ⟨a, c, hv⟩ := owns_len ho
      subst hv
      exact ⟨a, c, he, ho, hb⟩
    · rw [hP] at h0; cases h0
  have hokN := (plainN_iff n).1 hN
  have hokP := (plainN_iff p).1 hP
  have hlN := noteB_len hokN
  have hlP := noteB_len hokP
  have hqq : eqNt n p = decide (noteB n = noteB p) := by
    by_cases h : n = p
    · rw [(eqNt_iff n p).2 h, decide_eq_true (by rw [h])]
    · rw [decide_eq_false (fun e => h (noteB_inj hokN hokP e))]
      cases hq : eqNt n p with
      | true => exact absurd ((eqNt_iff n p).1 hq) h
      | false => rfl
  have hq0 := fun w' => eqNtB w' n p
  rw [hqq] at hq0
  obtain ⟨D, hD⟩ : ∃ D, decide (noteB n = noteB p) = D := ⟨_, rfl⟩
  rw [hD] at hq0
  have HSc : Hid (∀ v v' W, RB W v (noteB n) → RB W v' (noteB p) → Calls Try.prog 23 #[v, v'] W fun e w' => e = .returned (.bool D) ∧ Below W.heap.size W w') := fun v v' W h1 h2 => by
    have := same_any v v' _ _ W h1 h2 (by unfold LB; omega) (by unfold LB; omega)
    rw [hD] at this
    exact this
  clear hD hqq hlN hlP hokN hokP
  have hzm : m.arr.size = 17 := rfl
  obtain ⟨Am, hAm⟩ : ∃ A, m.arr = A := ⟨_, rfl⟩
  have hzo : o.arr.size = 17 := rfl
  obtain ⟨Ao, hAo⟩ : ∃ A, o.arr = A := ⟨_, rfl⟩
  have hzn : n.arr.size = 22 := rfl
  obtain ⟨An, hAn⟩ : ∃ A, n.arr = A := ⟨_, rfl⟩
  have hzp : p.arr.size = 22 := rfl
  obtain ⟨Ap, hAp⟩ : ∃ A, p.arr = A := ⟨_, rfl⟩
  have hq : ∀ w', (binOp .eql 35 (.agg An) (.agg Ap)).run Try.prog w' = .ok (.bool D) w' := by rw [← hAn, ← hAp]; exact hq0
  clear hq0
  rw [hAm] at HGm hzm ⊢
  rw [hAo] at HGo hzo ⊢
  rw [hAn] at HPn hzn ⊢
  rw [hAp] at HPp hzp ⊢
  obtain ⟨W1, hW1⟩ : ∃ W, w.alloc (.cells Am 46) = W := ⟨_, rfl⟩
  obtain ⟨W2, hW2⟩ : ∃ W, W1.alloc (.cells Ao 46) = W := ⟨_, rfl⟩
  obtain ⟨W3, hW3⟩ : ∃ W, W2.alloc (.cells An 35) = W := ⟨_, rfl⟩
  obtain ⟨W, hW⟩ : ∃ W, W3.alloc (.cells Ap 35) = W := ⟨_, rfl⟩
  have b1 := boxB hW1
  have b2 := boxB hW2
  have b3 := boxB hW3
  have b4 := boxB hW
  have HS : Hid (∀ w', Below W.heap.size W w' → ((mmS (.pointer (some ⟨w.heap.size, 0, none⟩))).run Try.prog w' = .ok (.agg Am) w' ∧ (mmS (.pointer (some ⟨W1.heap.size, 0, none⟩))).run Try.prog w' = .ok (.agg Ao) w') ∧ ((noteS (.pointer (some ⟨W2.heap.size, 0, none⟩))).run Try.prog w' = .ok (.agg An) w' ∧ (noteS (.pointer (some ⟨W3.heap.size, 0, none⟩))).run Try.prog w' = .ok (.agg Ap) w')) := fun w' h' => by
    have c3 := chainB b4.2 h'
    have c2 := chainB b3.2 c3
    have c1 := chainB b2.2 c2
    exact ⟨⟨mmS_of (hkeep b1.1 c1) hzm, mmS_of (hkeep b2.1 c2) hzo⟩, noteS_of (hkeep b3.1 c3) hzn, noteS_of (hkeep b4.1 h') hzp⟩
  have HB : Hid (Below w.heap.size w W) := chainB b1.2 (chainB b2.2 (chainB b3.2 b4.2))
  obtain ⟨⟨nm, -⟩, -⟩ := HS.out W (Below.refl _ _)
  clear hAm hAo hAn hAp hzm hzo hzn hzp b1 b2 b3 b4
  clear hm ho hM hO hS hokM hokO hN hP
  go_enter Try.func6, Try.ntmps6
  go_upto_region 1 with fail
  clear hW1 hW2 hW3 hW
  go_upto_region 3 with (first
    | (go_at_call 13; rw [← HR3.out.1]; refine (HEo.out _ _ _ HR3.out.2).mono ?_; rintro e w4 ⟨a4, c4, rfl, ho4, hb4⟩; have HC4 : Hid (Below W.heap.size W w4) := chainB HC2.out (chainB hb3 hb4); have HO4 : Hid (RB w4 (.slice a2 (msgB m.mg).length c2) (msgB m.mg) ∧ RB w4 (.slice a4 (msgB o.mg).length c4) (msgB o.mg)) := ⟨HO2.out.below (chainB hb3 hb4), ho4.out.rb⟩; clear hb3 hb4 HR3 ho4)
    | (go_at_call 14; refine (HGo.out w2 (chainB HB.out HC2.out)).mono ?_; rintro e w3 ⟨ve3, vk3, rfl, hr3, hb3⟩; obtain ⟨Ar3, hAr3⟩ : ∃ A, (o.ms ve3 vk3).arr = A := ⟨_, rfl⟩; rw [hAr3]; have HR3 : Hid ((o.ms ve3 vk3).arr = Ar3 ∧ (Row7 w3 0 ve3 o.es ∧ RowK w3 0 vk3 o.ks)) := ⟨hAr3, hr3.out⟩; clear hAr3 hr3 nm2)
    | (go_at_call 13; rw [← HR1.out.1]; refine (HEm.out _ _ _ HR1.out.2).mono ?_; rintro e w2 ⟨a2, c2, rfl, ho2, hb2⟩; have HC2 : Hid (Below W.heap.size W w2) := chainB hb1 hb2; obtain ⟨⟨-, nm2⟩, -⟩ := HS.out w2 HC2.out; have HO2 : Hid (RB w2 (.slice a2 (msgB m.mg).length c2) (msgB m.mg)) := ho2.out.rb; clear hb1 hb2 HR1 ho2)
    | (go_at_call 14; refine (HGm.out W HB.out).mono ?_; rintro e w1 ⟨ve1, vk1, rfl, hr1, hb1⟩; obtain ⟨Ar1, hAr1⟩ : ∃ A, (m.ms ve1 vk1).arr = A := ⟨_, rfl⟩; rw [hAr1]; have HR1 : Hid ((m.ms ve1 vk1).arr = Ar1 ∧ (Row7 w1 0 ve1 m.es ∧ RowK w1 0 vk1 m.ks)) := ⟨hAr1, hr1.out⟩; clear hAr1 hr1 nm))
  have k0 := (HS.out w4.drew (HC4.out.drew)).1
  go_region_held3 (fun w' => (mmS (.pointer (some ⟨w.heap.size, 0, none⟩))).run Try.prog w' = .ok (.agg Am) w' ∧ (mmS (.pointer (some ⟨W1.heap.size, 0, none⟩))).run Try.prog w' = .ok (.agg Ao) w') (with_reducible first | exact k8 | exact k7 | exact k6 | exact k5 | exact k0) (first
    | (go_at_call 21; rw [← HR6.out.1, ← HR7.out.1]; refine (HSm.out _ _ _ _ _ ⟨HR6.out.2.1.below hb7, HR6.out.2.2.below hb7⟩ HR7.out.2).mono ?_; rintro e w8 ⟨rfl, hb8⟩; have HC8 : Hid (Below W.heap.size W w8) := chainB HC7.out hb8; have k8 := (HS.out w8 HC8.out).1)
    | (go_at_call 14; refine (HGo.out w6 (chainB HB.out HC6.out)).mono ?_; rintro e w7 ⟨ve7, vk7, rfl, hr7, hb7⟩; obtain ⟨Ar7, hAr7⟩ : ∃ A, (o.ms ve7 vk7).arr = A := ⟨_, rfl⟩; rw [hAr7]; have HR7 : Hid ((o.ms ve7 vk7).arr = Ar7 ∧ (Row7 w7 0 ve7 o.es ∧ RowK w7 0 vk7 o.ks)) := ⟨hAr7, hr7.out⟩; have HC7 : Hid (Below W.heap.size W w7) := chainB HC6.out hb7; have k7 := (HS.out w7 HC7.out).1; clear hAr7 hr7)
    | (go_at_call 14; refine (HGm.out w5 (chainB HB.out HC5.out)).mono ?_; rintro e w6 ⟨ve6, vk6, rfl, hr6, hb6⟩; obtain ⟨Ar6, hAr6⟩ : ∃ A, (m.ms ve6 vk6).arr = A := ⟨_, rfl⟩; rw [hAr6]; have HR6 : Hid ((m.ms ve6 vk6).arr = Ar6 ∧ (Row7 w6 0 ve6 m.es ∧ RowK w6 0 vk6 m.ks)) := ⟨hAr6, hr6.out⟩; have HC6 : Hid (Below W.heap.size W w6) := chainB HC5.out hb6; have k6 := (HS.out w6 HC6.out).1; clear hAr6 hr6)
    | (go_at_call 23; refine (HSb.out _ _ _ (HO4.out.1.below (Below.refl _ _).drew) (HO4.out.2.below (Below.refl _ _).drew)).mono ?_; rintro e w5 ⟨rfl, hb5⟩; have HC5 : Hid (Below W.heap.size W w5) := chainB HC4.out.drew hb5; have k5 := (HS.out w5 HC5.out).1))
  clear k0 k5 k6 k7 k8 hb5 hb6 hb7 hb8
  rename Hid (Below W.heap.size W w5) => HC5x
  have HC5 : Hid (Below W.heap.size W w8) := HC8.out
  obtain ⟨-, nn, -⟩ := HS.out _ HC5.out
  go_upto_region 7 with (first
    | (go_at_call 17; refine (HPp.out x1).mono ?_; rintro e x2 ⟨d2, f2, rfl, hq2, hx2⟩; have HQ2 : Hid (RB x2 (.slice d1 (noteB n).length f1) (noteB n) ∧ RB x2 (.slice d2 (noteB p).length f2) (noteB p)) := ⟨HQ1.out.below hx2, hq2.out.rb⟩; have HX2 : Hid (Below W.heap.size W x2) := chainB HX1.out hx2; clear hx2 nn2 hq2 HQ1)
    | (go_at_call 17; refine (HPn.out _).mono ?_; rintro e x1 ⟨d1, f1, rfl, hq1, hx1⟩; have HQ1 : Hid (RB x1 (.slice d1 (noteB n).length f1) (noteB n)) := hq1.out.rb; have HX1 : Hid (Below W.heap.size W x1) := chainB HC5.out hx1; obtain ⟨-, -, nn2⟩ := HS.out x1 HX1.out; clear hx1 nn hq1))
  have y0 := (HS.out x2.drew HX2.out.drew).2
  go_region_held3 (fun w' => (noteS (.pointer (some ⟨W2.heap.size, 0, none⟩))).run Try.prog w' = .ok (.agg An) w' ∧ (noteS (.pointer (some ⟨W3.heap.size, 0, none⟩))).run Try.prog w' = .ok (.agg Ap) w') (with_reducible first | exact y9 | exact y5 | exact y0) (first
    | (go_at_call 12; refine (HAw.out _).mono ?_; rintro e x9 ⟨rfl, hx9⟩; have HX9 : Hid (Below W.heap.size W x9) := chainB HX5.out hx9; have y9 := (HS.out x9 HX9.out).2)
    | (go_at_call 23; refine (HSc.out _ _ _ (HQ2.out.1.below (Below.refl _ _).drew) (HQ2.out.2.below (Below.refl _ _).drew)).mono ?_; rintro e x5 ⟨rfl, hx5⟩; have HX5 : Hid (Below W.heap.size W x5) := chainB HX2.out.drew hx5; have y5 := (HS.out x5 HX5.out).2))
  go_wp2
  go_ret
  exact ⟨rfl, chainB HB.out HX9.out⟩
set_option maxRecDepth 20000 in
set_option maxHeartbeats 8000000 in
theorem unl_TD_F (m o : Mm) (n p : Nt) (w : World) (hm : ArgM w m) (ho : ArgM w o) (hM : m.plain = true) (hO : o.plain = true) (hS : ¬ m.mg = o.mg) (hN : plainN n = false) :
    Calls Try.prog 6 #[.agg m.arr, .agg o.arr, .agg n.arr, .agg p.arr] w fun e w' => e = .returned (.bool true) ∧ Below w.heap.size w w' := by
  have HAw : Hid (∀ W, Calls Try.prog 12 #[] W fun e w' => e = .returned (.bool true) ∧ Below W.heap.size W w') := awake_w
  have HGm : Hid (∀ W, Below w.heap.size w W → Calls Try.prog 14 #[.agg m.arr] W fun e w' => ∃ ve vk, e = .returned (.agg (m.ms ve vk).arr) ∧ Hid (Row7 w' 0 ve m.es ∧ RowK w' 0 vk m.ks) ∧ Below W.heap.size W w') := fun W hb => (msg_any m W (hm.below hb)).mono fun e w' ⟨ve, vk, he, h1, h2, h3⟩ => ⟨ve, vk, he, ⟨owns_le h1 (Nat.zero_le _), owns_le h2 (Nat.zero_le _)⟩, h3⟩
  have HGo : Hid (∀ W, Below w.heap.size w W → Calls Try.prog 14 #[.agg o.arr] W fun e w' => ∃ ve vk, e = .returned (.agg (o.ms ve vk).arr) ∧ Hid (Row7 w' 0 ve o.es ∧ RowK w' 0 vk o.ks) ∧ Below W.heap.size W w') := fun W hb => (msg_any o W (ho.below hb)).mono fun e w' ⟨ve, vk, he, h1, h2, h3⟩ => ⟨ve, vk, he, ⟨owns_le h1 (Nat.zero_le _), owns_le h2 (Nat.zero_le _)⟩, h3⟩
  have HEm : Hid (∀ ve vk W, Row7 W 0 ve m.es ∧ RowK W 0 vk m.ks → Calls Try.prog 13 #[.agg (m.ms ve vk).arr] W fun e w' => ∃ a c, e = .returned (.tuple #[.slice a (msgB m.mg).length c, .int .i64 0]) ∧ Hid (OwnB w' W.heap.size (.slice a (msgB m.mg).length c) (msgB m.mg)) ∧ Below W.heap.size W w') := fun ve vk W hr => (encode_m m ve vk W hr.1 hr.2).mono fun e w' hh => by
    rw [hM] at hh
    obtain ⟨a, c, he', ho', hb'⟩ := hh.yes
    exact ⟨a, c, he', ho', hb'⟩
  have HEo : Hid (∀ ve vk W, Row7 W 0 ve o.es ∧ RowK W 0 vk o.ks → Calls Try.prog 13 #[.agg (o.ms ve vk).arr] W fun e w' => ∃ a c, e = .returned (.tuple #[.slice a (msgB o.mg).length c, .int .i64 0]) ∧ Hid (OwnB w' W.heap.size (.slice a (msgB o.mg).length c) (msgB o.mg)) ∧ Below W.heap.size W w') := fun ve vk W hr => (encode_m o ve vk W hr.1 hr.2).mono fun e w' hh => by
    rw [hO] at hh
    obtain ⟨a, c, he', ho', hb'⟩ := hh.yes
    exact ⟨a, c, he', ho', hb'⟩
  have hokM := ((m.plain_iff).1 hM).2
  have hokO := ((o.plain_iff).1 hO).2
  have hlM := msgB_len hokM
  have hlO := msgB_len hokO
  have HSb : Hid (∀ v v' W, RB W v (msgB m.mg) → RB W v' (msgB o.mg) → Calls Try.prog 23 #[v, v'] W fun e w' => e = .returned (.bool false) ∧ Below W.heap.size W w') := fun v v' W h1 h2 => by
    have := same_any v v' _ _ W h1 h2 (by unfold LB; omega) (by unfold LB; omega)
    rw [decide_eq_false (fun e => hS (msgB_inj hokM hokO e))] at this
    exact this
  have HSm : Hid (∀ ve vk ve2 vk2 W, Row7 W 0 ve m.es ∧ RowK W 0 vk m.ks → Row7 W 0 ve2 o.es ∧ RowK W 0 vk2 o.ks → Calls Try.prog 21 #[.agg (m.ms ve vk).arr, .agg (o.ms ve2 vk2).arr] W fun e w' => e = .returned (.bool false) ∧ Below W.heap.size W w') := fun ve vk ve2 vk2 W h1 h2 => sameMs_no hM hO hS ve vk ve2 vk2 W h1 h2
  clear hlM hlO
  have HPn : Hid (∀ W, Calls Try.prog 17 #[.agg n.arr] W fun e w' => e = .returned (.tuple #[.slice none 0 0, .int .i64 50]) ∧ Below W.heap.size W w') := fun W => (pack_p n W).mono fun e w' hh => by
    rcases hh with ⟨h0, _⟩ | ⟨_, he, hb⟩
    · rw [hN] at h0; cases h0
    · exact ⟨he, hb⟩
  have HPp : Hid (∀ W, Calls Try.prog 17 #[.agg p.arr] W fun e w' => ∃ v E, e = .returned (.tuple #[v, .int .i64 E]) ∧ Below W.heap.size W w') := fun W => (pack_p p W).mono fun e w' hh => by
    rcases hh with ⟨_, v, he, _, hb⟩ | ⟨_, he, hb⟩
    · exact ⟨_, _, he, hb⟩
    · exact ⟨_, _, he, hb⟩
  have hzm : m.arr.size = 17 := rfl
  obtain ⟨Am, hAm⟩ : ∃ A, m.arr = A := ⟨_, rfl⟩
  have hzo : o.arr.size = 17 := rfl
  obtain ⟨Ao, hAo⟩ : ∃ A, o.arr = A := ⟨_, rfl⟩
  have hzn : n.arr.size = 22 := rfl
  obtain ⟨An, hAn⟩ : ∃ A, n.arr = A := ⟨_, rfl⟩
  have hzp : p.arr.size = 22 := rfl
  obtain ⟨Ap, hAp⟩ : ∃ A, p.arr = A := ⟨_, rfl⟩
  rw [hAm] at HGm hzm ⊢
  rw [hAo] at HGo hzo ⊢
  rw [hAn] at HPn hzn ⊢
  rw [hAp] at HPp hzp ⊢
  obtain ⟨W1, hW1⟩ : ∃ W, w.alloc (.cells Am 46) = W := ⟨_, rfl⟩
  obtain ⟨W2, hW2⟩ : ∃ W, W1.alloc (.cells Ao 46) = W := ⟨_, rfl⟩
  obtain ⟨W3, hW3⟩ : ∃ W, W2.alloc (.cells An 35) = W := ⟨_, rfl⟩
  obtain ⟨W, hW⟩ : ∃ W, W3.alloc (.cells Ap 35) = W := ⟨_, rfl⟩
  have b1 := boxB hW1
  have b2 := boxB hW2
  have b3 := boxB hW3
  have b4 := boxB hW
  have HS : Hid (∀ w', Below W.heap.size W w' → ((mmS (.pointer (some ⟨w.heap.size, 0, none⟩))).run Try.prog w' = .ok (.agg Am) w' ∧ (mmS (.pointer (some ⟨W1.heap.size, 0, none⟩))).run Try.prog w' = .ok (.agg Ao) w') ∧ ((noteS (.pointer (some ⟨W2.heap.size, 0, none⟩))).run Try.prog w' = .ok (.agg An) w' ∧ (noteS (.pointer (some ⟨W3.heap.size, 0, none⟩))).run Try.prog w' = .ok (.agg Ap) w')) := fun w' h' => by
    have c3 := chainB b4.2 h'
    have c2 := chainB b3.2 c3
    have c1 := chainB b2.2 c2
    exact ⟨⟨mmS_of (hkeep b1.1 c1) hzm, mmS_of (hkeep b2.1 c2) hzo⟩, noteS_of (hkeep b3.1 c3) hzn, noteS_of (hkeep b4.1 h') hzp⟩
  have HB : Hid (Below w.heap.size w W) := chainB b1.2 (chainB b2.2 (chainB b3.2 b4.2))
  obtain ⟨⟨nm, -⟩, -⟩ := HS.out W (Below.refl _ _)
  clear hAm hAo hAn hAp hzm hzo hzn hzp b1 b2 b3 b4
  clear hm ho hM hO hS hokM hokO hN
  go_enter Try.func6, Try.ntmps6
  go_upto_region 1 with fail
  clear hW1 hW2 hW3 hW
  go_upto_region 3 with (first
    | (go_at_call 13; rw [← HR3.out.1]; refine (HEo.out _ _ _ HR3.out.2).mono ?_; rintro e w4 ⟨a4, c4, rfl, ho4, hb4⟩; have HC4 : Hid (Below W.heap.size W w4) := chainB HC2.out (chainB hb3 hb4); have HO4 : Hid (RB w4 (.slice a2 (msgB m.mg).length c2) (msgB m.mg) ∧ RB w4 (.slice a4 (msgB o.mg).length c4) (msgB o.mg)) := ⟨HO2.out.below (chainB hb3 hb4), ho4.out.rb⟩; clear hb3 hb4 HR3 ho4)
    | (go_at_call 14; refine (HGo.out w2 (chainB HB.out HC2.out)).mono ?_; rintro e w3 ⟨ve3, vk3, rfl, hr3, hb3⟩; obtain ⟨Ar3, hAr3⟩ : ∃ A, (o.ms ve3 vk3).arr = A := ⟨_, rfl⟩; rw [hAr3]; have HR3 : Hid ((o.ms ve3 vk3).arr = Ar3 ∧ (Row7 w3 0 ve3 o.es ∧ RowK w3 0 vk3 o.ks)) := ⟨hAr3, hr3.out⟩; clear hAr3 hr3 nm2)
    | (go_at_call 13; rw [← HR1.out.1]; refine (HEm.out _ _ _ HR1.out.2).mono ?_; rintro e w2 ⟨a2, c2, rfl, ho2, hb2⟩; have HC2 : Hid (Below W.heap.size W w2) := chainB hb1 hb2; obtain ⟨⟨-, nm2⟩, -⟩ := HS.out w2 HC2.out; have HO2 : Hid (RB w2 (.slice a2 (msgB m.mg).length c2) (msgB m.mg)) := ho2.out.rb; clear hb1 hb2 HR1 ho2)
    | (go_at_call 14; refine (HGm.out W HB.out).mono ?_; rintro e w1 ⟨ve1, vk1, rfl, hr1, hb1⟩; obtain ⟨Ar1, hAr1⟩ : ∃ A, (m.ms ve1 vk1).arr = A := ⟨_, rfl⟩; rw [hAr1]; have HR1 : Hid ((m.ms ve1 vk1).arr = Ar1 ∧ (Row7 w1 0 ve1 m.es ∧ RowK w1 0 vk1 m.ks)) := ⟨hAr1, hr1.out⟩; clear hAr1 hr1 nm))
  have k0 := (HS.out w4.drew (HC4.out.drew)).1
  go_region_held3 (fun w' => (mmS (.pointer (some ⟨w.heap.size, 0, none⟩))).run Try.prog w' = .ok (.agg Am) w' ∧ (mmS (.pointer (some ⟨W1.heap.size, 0, none⟩))).run Try.prog w' = .ok (.agg Ao) w') (with_reducible first | exact k8 | exact k7 | exact k6 | exact k5 | exact k0) (first
    | (go_at_call 21; rw [← HR6.out.1, ← HR7.out.1]; refine (HSm.out _ _ _ _ _ ⟨HR6.out.2.1.below hb7, HR6.out.2.2.below hb7⟩ HR7.out.2).mono ?_; rintro e w8 ⟨rfl, hb8⟩; have HC8 : Hid (Below W.heap.size W w8) := chainB HC7.out hb8; have k8 := (HS.out w8 HC8.out).1)
    | (go_at_call 14; refine (HGo.out w6 (chainB HB.out HC6.out)).mono ?_; rintro e w7 ⟨ve7, vk7, rfl, hr7, hb7⟩; obtain ⟨Ar7, hAr7⟩ : ∃ A, (o.ms ve7 vk7).arr = A := ⟨_, rfl⟩; rw [hAr7]; have HR7 : Hid ((o.ms ve7 vk7).arr = Ar7 ∧ (Row7 w7 0 ve7 o.es ∧ RowK w7 0 vk7 o.ks)) := ⟨hAr7, hr7.out⟩; have HC7 : Hid (Below W.heap.size W w7) := chainB HC6.out hb7; have k7 := (HS.out w7 HC7.out).1; clear hAr7 hr7)
    | (go_at_call 14; refine (HGm.out w5 (chainB HB.out HC5.out)).mono ?_; rintro e w6 ⟨ve6, vk6, rfl, hr6, hb6⟩; obtain ⟨Ar6, hAr6⟩ : ∃ A, (m.ms ve6 vk6).arr = A := ⟨_, rfl⟩; rw [hAr6]; have HR6 : Hid ((m.ms ve6 vk6).arr = Ar6 ∧ (Row7 w6 0 ve6 m.es ∧ RowK w6 0 vk6 m.ks)) := ⟨hAr6, hr6.out⟩; have HC6 : Hid (Below W.heap.size W w6) := chainB HC5.out hb6; have k6 := (HS.out w6 HC6.out).1; clear hAr6 hr6)
    | (go_at_call 23; refine (HSb.out _ _ _ (HO4.out.1.below (Below.refl _ _).drew) (HO4.out.2.below (Below.refl _ _).drew)).mono ?_; rintro e w5 ⟨rfl, hb5⟩; have HC5 : Hid (Below W.heap.size W w5) := chainB HC4.out.drew hb5; have k5 := (HS.out w5 HC5.out).1))
  clear k0 k5 k6 k7 k8 hb5 hb6 hb7 hb8
  rename Hid (Below W.heap.size W w5) => HC5x
  have HC5 : Hid (Below W.heap.size W w8) := HC8.out
  obtain ⟨-, nn, -⟩ := HS.out _ HC5.out
  go_upto_region 7 with (first
    | (go_at_call 17; refine (HPp.out x1).mono ?_; rintro e x2 ⟨v2, E2, rfl, hx2⟩; have HX2 : Hid (Below W.heap.size W x2) := chainB HX1.out hx2; clear hx2 nn2)
    | (go_at_call 17; refine (HPn.out _).mono ?_; rintro e x1 ⟨rfl, hx1⟩; have HX1 : Hid (Below W.heap.size W x1) := chainB HC5.out hx1; obtain ⟨-, -, nn2⟩ := HS.out x1 HX1.out; clear hx1 nn))
  have y0 := (HS.out x2.drew HX2.out.drew).2
  refine wp_region_held_drew (S := fun w' => (noteS (.pointer (some ⟨W2.heap.size, 0, none⟩))).run Try.prog w' = .ok (.agg An) w' ∧ (noteS (.pointer (some ⟨W3.heap.size, 0, none⟩))).run Try.prog w' = .ok (.agg Ap) w') (by kernel_rfl) y0 (fun hHeld => ?_)
  refine tky 0 (some 56) rfl rfl ⟨?vb0, fun w hSw => ?ab0, fun _ _ _ h => h, ?bb0⟩
  case ab0 => (try dsimp only at hSw); go_simp; (try rfl)
  try simp only [Act.put, List.setIfInBounds_toArray, List.set_cons_zero, List.set_cons_succ]
  refine tky 1 (some 57) rfl rfl ⟨.bool true, fun w hSw => ?ab1, fun _ _ _ h => h, ?bb1⟩
  case ab1 => (try dsimp only at hSw); go_simp; (try rfl)
  try simp only [Act.put, List.setIfInBounds_toArray, List.set_cons_zero, List.set_cons_succ]
  refine tky 2 (some 58) rfl rfl ⟨?vb2, fun w hSw => ?ab2, fun _ _ _ h => h, ?bb2⟩
  case ab2 => (try dsimp only at hSw); go_simp; (try rfl)
  try simp only [Act.put, List.setIfInBounds_toArray, List.set_cons_zero, List.set_cons_succ]
  refine tkn 3 (some 59) rfl rfl ?_
  try simp only [Act.put, List.setIfInBounds_toArray, List.set_cons_zero, List.set_cons_succ]
  refine tkn 4 (some 60) rfl rfl ?_
  try simp only [Act.put, List.setIfInBounds_toArray, List.set_cons_zero, List.set_cons_succ]
  refine tky 5 (some 61) rfl rfl ⟨?vb5, fun w hSw => ?ab5, fun _ _ _ h => h, ?bb5⟩
  case ab5 => (try dsimp only at hSw); go_simp; (try rfl)
  try simp only [Act.put, List.setIfInBounds_toArray, List.set_cons_zero, List.set_cons_succ]
  refine tky 6 (some 62) rfl rfl ⟨?vb6, fun w hSw => ?ab6, fun _ _ _ h => h, ?bb6⟩
  case ab6 => (try dsimp only at hSw); go_simp; (try rfl)
  try simp only [Act.put, List.setIfInBounds_toArray, List.set_cons_zero, List.set_cons_succ]
  refine tkn 7 (some 63) rfl rfl ?_
  try simp only [Act.put, List.setIfInBounds_toArray, List.set_cons_zero, List.set_cons_succ]
  refine tkn 8 (some 64) rfl rfl ?_
  try simp only [Act.put, List.setIfInBounds_toArray, List.set_cons_zero, List.set_cons_succ]
  refine tkn 9 (some 65) rfl rfl ?_
  try simp only [Act.put, List.setIfInBounds_toArray, List.set_cons_zero, List.set_cons_succ]
  refine tkn 10 (some 66) rfl rfl ?_
  try simp only [Act.put, List.setIfInBounds_toArray, List.set_cons_zero, List.set_cons_succ]
  refine tkn 11 (some 67) rfl rfl ?_
  try simp only [Act.put, List.setIfInBounds_toArray, List.set_cons_zero, List.set_cons_succ]
  refine tkn 12 (some 68) rfl rfl ?_
  try simp only [Act.put, List.setIfInBounds_toArray, List.set_cons_zero, List.set_cons_succ]
  refine tkn 13 (some 69) rfl rfl ?_
  try simp only [Act.put, List.setIfInBounds_toArray, List.set_cons_zero, List.set_cons_succ]
  refine tky 14 (some 70) rfl rfl ⟨?vb14, fun w hSw => ?ab14, fun _ _ _ h => h, ?bb14⟩
  case ab14 => (try dsimp only at hSw); go_simp; (try rfl)
  try simp only [Act.put, List.setIfInBounds_toArray, List.set_cons_zero, List.set_cons_succ]
  refine tky 15 (some 71) rfl rfl ⟨?vb15, fun w hSw => ?ab15, fun _ _ _ h => h, ?bb15⟩
  case ab15 => (try dsimp only at hSw); go_simp; (try rfl)
  try simp only [Act.put, List.setIfInBounds_toArray, List.set_cons_zero, List.set_cons_succ]
  refine wpAnyH_ready (rs := [16]) (by kernel_rfl) (by simp) ?_
  refine AllReadyH.cons rfl (fun K hK => ?_) AllReadyH.nil
  go_simp
  go_at_call 12
  refine (HAw.out _).mono ?_
  rintro e x9 ⟨rfl, hx9⟩
  have HX9 : Hid (Below W.heap.size W x9) := chainB HX2.out.drew hx9
  have y9 := (HS.out x9 HX9.out).2
  refine hK.out _ _ y9 (fun hHeld => ?_)
  clear hK K
  try simp only [Act.put, List.setIfInBounds_toArray, List.set_cons_zero, List.set_cons_succ]
  refine tky 17 (some 73) rfl rfl ⟨?vb17, fun w hSw => ?ab17, fun _ _ _ h => h, ?bb17⟩
  case ab17 => (try dsimp only at hSw); go_simp; (try rfl)
  try simp only [Act.put, List.setIfInBounds_toArray, List.set_cons_zero, List.set_cons_succ]
  refine tky 18 (some 8) rfl rfl ⟨.bool true, fun w hSw => ?ab18, fun _ _ _ h => h, ?bb18⟩
  case ab18 => (try dsimp only at hSw); go_simp; (try rfl)
  try simp only [Act.put, List.setIfInBounds_toArray, List.set_cons_zero, List.set_cons_succ]
  refine wpAnyH_done (by kernel_rfl) ?_ _
  go_wp2
  go_ret
  exact ⟨rfl, chainB HB.out HX9.out⟩
set_option maxRecDepth 20000 in
set_option maxHeartbeats 8000000 in
theorem unl_TD_TF (m o : Mm) (n p : Nt) (w : World) (hm : ArgM w m) (ho : ArgM w o) (hM : m.plain = true) (hO : o.plain = true) (hS : ¬ m.mg = o.mg) (hN : plainN n = true) (hP : plainN p = false) :
    Calls Try.prog 6 #[.agg m.arr, .agg o.arr, .agg n.arr, .agg p.arr] w fun e w' => e = .returned (.bool true) ∧ Below w.heap.size w w' := by
  have HAw : Hid (∀ W, Calls Try.prog 12 #[] W fun e w' => e = .returned (.bool true) ∧ Below W.heap.size W w') := awake_w
  have HGm : Hid (∀ W, Below w.heap.size w W → Calls Try.prog 14 #[.agg m.arr] W fun e w' => ∃ ve vk, e = .returned (.agg (m.ms ve vk).arr) ∧ Hid (Row7 w' 0 ve m.es ∧ RowK w' 0 vk m.ks) ∧ Below W.heap.size W w') := fun W hb => (msg_any m W (hm.below hb)).mono fun e w' ⟨ve, vk, he, h1, h2, h3⟩ => ⟨ve, vk, he, ⟨owns_le h1 (Nat.zero_le _), owns_le h2 (Nat.zero_le _)⟩, h3⟩
  have HGo : Hid (∀ W, Below w.heap.size w W → Calls Try.prog 14 #[.agg o.arr] W fun e w' => ∃ ve vk, e = .returned (.agg (o.ms ve vk).arr) ∧ Hid (Row7 w' 0 ve o.es ∧ RowK w' 0 vk o.ks) ∧ Below W.heap.size W w') := fun W hb => (msg_any o W (ho.below hb)).mono fun e w' ⟨ve, vk, he, h1, h2, h3⟩ => ⟨ve, vk, he, ⟨owns_le h1 (Nat.zero_le _), owns_le h2 (Nat.zero_le _)⟩, h3⟩
  have HEm : Hid (∀ ve vk W, Row7 W 0 ve m.es ∧ RowK W 0 vk m.ks → Calls Try.prog 13 #[.agg (m.ms ve vk).arr] W fun e w' => ∃ a c, e = .returned (.tuple #[.slice a (msgB m.mg).length c, .int .i64 0]) ∧ Hid (OwnB w' W.heap.size (.slice a (msgB m.mg).length c) (msgB m.mg)) ∧ Below W.heap.size W w') := fun ve vk W hr => (encode_m m ve vk W hr.1 hr.2).mono fun e w' hh => by
    rw [hM] at hh
    obtain ⟨a, c, he', ho', hb'⟩ := hh.yes
    exact ⟨a, c, he', ho', hb'⟩
  have HEo : Hid (∀ ve vk W, Row7 W 0 ve o.es ∧ RowK W 0 vk o.ks → Calls Try.prog 13 #[.agg (o.ms ve vk).arr] W fun e w' => ∃ a c, e = .returned (.tuple #[.slice a (msgB o.mg).length c, .int .i64 0]) ∧ Hid (OwnB w' W.heap.size (.slice a (msgB o.mg).length c) (msgB o.mg)) ∧ Below W.heap.size W w') := fun ve vk W hr => (encode_m o ve vk W hr.1 hr.2).mono fun e w' hh => by
    rw [hO] at hh
    obtain ⟨a, c, he', ho', hb'⟩ := hh.yes
    exact ⟨a, c, he', ho', hb'⟩
  have hokM := ((m.plain_iff).1 hM).2
  have hokO := ((o.plain_iff).1 hO).2
  have hlM := msgB_len hokM
  have hlO := msgB_len hokO
  have HSb : Hid (∀ v v' W, RB W v (msgB m.mg) → RB W v' (msgB o.mg) → Calls Try.prog 23 #[v, v'] W fun e w' => e = .returned (.bool false) ∧ Below W.heap.size W w') := fun v v' W h1 h2 => by
    have := same_any v v' _ _ W h1 h2 (by unfold LB; omega) (by unfold LB; omega)
    rw [decide_eq_false (fun e => hS (msgB_inj hokM hokO e))] at this
    exact this
  have HSm : Hid (∀ ve vk ve2 vk2 W, Row7 W 0 ve m.es ∧ RowK W 0 vk m.ks → Row7 W 0 ve2 o.es ∧ RowK W 0 vk2 o.ks → Calls Try.prog 21 #[.agg (m.ms ve vk).arr, .agg (o.ms ve2 vk2).arr] W fun e w' => e = .returned (.bool false) ∧ Below W.heap.size W w') := fun ve vk ve2 vk2 W h1 h2 => sameMs_no hM hO hS ve vk ve2 vk2 W h1 h2
  clear hlM hlO
  have HPn : Hid (∀ W, Calls Try.prog 17 #[.agg n.arr] W fun e w' => ∃ a c, e = .returned (.tuple #[.slice a (noteB n).length c, .int .i64 0]) ∧ Hid (OwnB w' W.heap.size (.slice a (noteB n).length c) (noteB n)) ∧ Below W.heap.size W w') := fun W => (pack_p n W).mono fun e w' hh => by
    rcases hh with ⟨_, v, he, ho, hb⟩ | ⟨h0, _⟩
    · obtain ⟨a, c, hv⟩ := owns_len ho
      subst hv
      exact ⟨a, c, he, ho, hb⟩
    · rw [hN] at h0; cases h0
  have HPp : Hid (∀ W, Calls Try.prog 17 #[.agg p.arr] W fun e w' => e = .returned (.tuple #[.slice none 0 0, .int .i64 50]) ∧ Below W.heap.size W w') := fun W => (pack_p p W).mono fun e w' hh => by
    rcases hh with ⟨h0, _⟩ | ⟨_, he, hb⟩
    · rw [hP] at h0; cases h0
    · exact ⟨he, hb⟩
  have hzm : m.arr.size = 17 := rfl
  obtain ⟨Am, hAm⟩ : ∃ A, m.arr = A := ⟨_, rfl⟩
  have hzo : o.arr.size = 17 := rfl
  obtain ⟨Ao, hAo⟩ : ∃ A, o.arr = A := ⟨_, rfl⟩
  have hzn : n.arr.size = 22 := rfl
  obtain ⟨An, hAn⟩ : ∃ A, n.arr = A := ⟨_, rfl⟩
  have hzp : p.arr.size = 22 := rfl
  obtain ⟨Ap, hAp⟩ : ∃ A, p.arr = A := ⟨_, rfl⟩
  rw [hAm] at HGm hzm ⊢
  rw [hAo] at HGo hzo ⊢
  rw [hAn] at HPn hzn ⊢
  rw [hAp] at HPp hzp ⊢
  obtain ⟨W1, hW1⟩ : ∃ W, w.alloc (.cells Am 46) = W := ⟨_, rfl⟩
  obtain ⟨W2, hW2⟩ : ∃ W, W1.alloc (.cells Ao 46) = W := ⟨_, rfl⟩
  obtain ⟨W3, hW3⟩ : ∃ W, W2.alloc (.cells An 35) = W := ⟨_, rfl⟩
  obtain ⟨W, hW⟩ : ∃ W, W3.alloc (.cells Ap 35) = W := ⟨_, rfl⟩
  have b1 := boxB hW1
  have b2 := boxB hW2
  have b3 := boxB hW3
  have b4 := boxB hW
  have HS : Hid (∀ w', Below W.heap.size W w' → ((mmS (.pointer (some ⟨w.heap.size, 0, none⟩))).run Try.prog w' = .ok (.agg Am) w' ∧ (mmS (.pointer (some ⟨W1.heap.size, 0, none⟩))).run Try.prog w' = .ok (.agg Ao) w') ∧ ((noteS (.pointer (some ⟨W2.heap.size, 0, none⟩))).run Try.prog w' = .ok (.agg An) w' ∧ (noteS (.pointer (some ⟨W3.heap.size, 0, none⟩))).run Try.prog w' = .ok (.agg Ap) w')) := fun w' h' => by
    have c3 := chainB b4.2 h'
    have c2 := chainB b3.2 c3
    have c1 := chainB b2.2 c2
    exact ⟨⟨mmS_of (hkeep b1.1 c1) hzm, mmS_of (hkeep b2.1 c2) hzo⟩, noteS_of (hkeep b3.1 c3) hzn, noteS_of (hkeep b4.1 h') hzp⟩
  have HB : Hid (Below w.heap.size w W) := chainB b1.2 (chainB b2.2 (chainB b3.2 b4.2))
  obtain ⟨⟨nm, -⟩, -⟩ := HS.out W (Below.refl _ _)
  clear hAm hAo hAn hAp hzm hzo hzn hzp b1 b2 b3 b4
  clear hm ho hM hO hS hokM hokO hN hP
  go_enter Try.func6, Try.ntmps6
  go_upto_region 1 with fail
  clear hW1 hW2 hW3 hW
  go_upto_region 3 with (first
    | (go_at_call 13; rw [← HR3.out.1]; refine (HEo.out _ _ _ HR3.out.2).mono ?_; rintro e w4 ⟨a4, c4, rfl, ho4, hb4⟩; have HC4 : Hid (Below W.heap.size W w4) := chainB HC2.out (chainB hb3 hb4); have HO4 : Hid (RB w4 (.slice a2 (msgB m.mg).length c2) (msgB m.mg) ∧ RB w4 (.slice a4 (msgB o.mg).length c4) (msgB o.mg)) := ⟨HO2.out.below (chainB hb3 hb4), ho4.out.rb⟩; clear hb3 hb4 HR3 ho4)
    | (go_at_call 14; refine (HGo.out w2 (chainB HB.out HC2.out)).mono ?_; rintro e w3 ⟨ve3, vk3, rfl, hr3, hb3⟩; obtain ⟨Ar3, hAr3⟩ : ∃ A, (o.ms ve3 vk3).arr = A := ⟨_, rfl⟩; rw [hAr3]; have HR3 : Hid ((o.ms ve3 vk3).arr = Ar3 ∧ (Row7 w3 0 ve3 o.es ∧ RowK w3 0 vk3 o.ks)) := ⟨hAr3, hr3.out⟩; clear hAr3 hr3 nm2)
    | (go_at_call 13; rw [← HR1.out.1]; refine (HEm.out _ _ _ HR1.out.2).mono ?_; rintro e w2 ⟨a2, c2, rfl, ho2, hb2⟩; have HC2 : Hid (Below W.heap.size W w2) := chainB hb1 hb2; obtain ⟨⟨-, nm2⟩, -⟩ := HS.out w2 HC2.out; have HO2 : Hid (RB w2 (.slice a2 (msgB m.mg).length c2) (msgB m.mg)) := ho2.out.rb; clear hb1 hb2 HR1 ho2)
    | (go_at_call 14; refine (HGm.out W HB.out).mono ?_; rintro e w1 ⟨ve1, vk1, rfl, hr1, hb1⟩; obtain ⟨Ar1, hAr1⟩ : ∃ A, (m.ms ve1 vk1).arr = A := ⟨_, rfl⟩; rw [hAr1]; have HR1 : Hid ((m.ms ve1 vk1).arr = Ar1 ∧ (Row7 w1 0 ve1 m.es ∧ RowK w1 0 vk1 m.ks)) := ⟨hAr1, hr1.out⟩; clear hAr1 hr1 nm))
  have k0 := (HS.out w4.drew (HC4.out.drew)).1
  go_region_held3 (fun w' => (mmS (.pointer (some ⟨w.heap.size, 0, none⟩))).run Try.prog w' = .ok (.agg Am) w' ∧ (mmS (.pointer (some ⟨W1.heap.size, 0, none⟩))).run Try.prog w' = .ok (.agg Ao) w') (with_reducible first | exact k8 | exact k7 | exact k6 | exact k5 | exact k0) (first
    | (go_at_call 21; rw [← HR6.out.1, ← HR7.out.1]; refine (HSm.out _ _ _ _ _ ⟨HR6.out.2.1.below hb7, HR6.out.2.2.below hb7⟩ HR7.out.2).mono ?_; rintro e w8 ⟨rfl, hb8⟩; have HC8 : Hid (Below W.heap.size W w8) := chainB HC7.out hb8; have k8 := (HS.out w8 HC8.out).1)
    | (go_at_call 14; refine (HGo.out w6 (chainB HB.out HC6.out)).mono ?_; rintro e w7 ⟨ve7, vk7, rfl, hr7, hb7⟩; obtain ⟨Ar7, hAr7⟩ : ∃ A, (o.ms ve7 vk7).arr = A := ⟨_, rfl⟩; rw [hAr7]; have HR7 : Hid ((o.ms ve7 vk7).arr = Ar7 ∧ (Row7 w7 0 ve7 o.es ∧ RowK w7 0 vk7 o.ks)) := ⟨hAr7, hr7.out⟩; have HC7 : Hid (Below W.heap.size W w7) := chainB HC6.out hb7; have k7 := (HS.out w7 HC7.out).1; clear hAr7 hr7)
    | (go_at_call 14; refine (HGm.out w5 (chainB HB.out HC5.out)).mono ?_; rintro e w6 ⟨ve6, vk6, rfl, hr6, hb6⟩; obtain ⟨Ar6, hAr6⟩ : ∃ A, (m.ms ve6 vk6).arr = A := ⟨_, rfl⟩; rw [hAr6]; have HR6 : Hid ((m.ms ve6 vk6).arr = Ar6 ∧ (Row7 w6 0 ve6 m.es ∧ RowK w6 0 vk6 m.ks)) := ⟨hAr6, hr6.out⟩; have HC6 : Hid (Below W.heap.size W w6) := chainB HC5.out hb6; have k6 := (HS.out w6 HC6.out).1; clear hAr6 hr6)
    | (go_at_call 23; refine (HSb.out _ _ _ (HO4.out.1.below (Below.refl _ _).drew) (HO4.out.2.below (Below.refl _ _).drew)).mono ?_; rintro e w5 ⟨rfl, hb5⟩; have HC5 : Hid (Below W.heap.size W w5) := chainB HC4.out.drew hb5; have k5 := (HS.out w5 HC5.out).1))
  clear k0 k5 k6 k7 k8 hb5 hb6 hb7 hb8
  rename Hid (Below W.heap.size W w5) => HC5x
  have HC5 : Hid (Below W.heap.size W w8) := HC8.out
  obtain ⟨-, nn, -⟩ := HS.out _ HC5.out
  go_upto_region 7 with (first
    | (go_at_call 17; refine (HPp.out x1).mono ?_; rintro e x2 ⟨rfl, hx2⟩; have HX2 : Hid (Below W.heap.size W x2) := chainB HX1.out hx2; clear hx2 nn2)
    | (go_at_call 17; refine (HPn.out _).mono ?_; rintro e x1 ⟨d1, f1, rfl, hq1, hx1⟩; have HX1 : Hid (Below W.heap.size W x1) := chainB HC5.out hx1; obtain ⟨-, -, nn2⟩ := HS.out x1 HX1.out; clear hx1 nn hq1))
  have y0 := (HS.out x2.drew HX2.out.drew).2
  refine wp_region_held_drew (S := fun w' => (noteS (.pointer (some ⟨W2.heap.size, 0, none⟩))).run Try.prog w' = .ok (.agg An) w' ∧ (noteS (.pointer (some ⟨W3.heap.size, 0, none⟩))).run Try.prog w' = .ok (.agg Ap) w') (by kernel_rfl) y0 (fun hHeld => ?_)
  refine tky 0 (some 56) rfl rfl ⟨?vb0, fun w hSw => ?ab0, fun _ _ _ h => h, ?bb0⟩
  case ab0 => (try dsimp only at hSw); go_simp; (try rfl)
  try simp only [Act.put, List.setIfInBounds_toArray, List.set_cons_zero, List.set_cons_succ]
  refine tky 1 (some 57) rfl rfl ⟨.bool false, fun w hSw => ?ab1, fun _ _ _ h => h, ?bb1⟩
  case ab1 => (try dsimp only at hSw); go_simp; (try rfl)
  try simp only [Act.put, List.setIfInBounds_toArray, List.set_cons_zero, List.set_cons_succ]
  refine tky 2 (some 58) rfl rfl ⟨?vb2, fun w hSw => ?ab2, fun _ _ _ h => h, ?bb2⟩
  case ab2 => (try dsimp only at hSw); go_simp; (try rfl)
  try simp only [Act.put, List.setIfInBounds_toArray, List.set_cons_zero, List.set_cons_succ]
  refine tky 3 (some 59) rfl rfl ⟨?vb3, fun w hSw => ?ab3, fun _ _ _ h => h, ?bb3⟩
  case ab3 => (try dsimp only at hSw); go_simp; (try rfl)
  try simp only [Act.put, List.setIfInBounds_toArray, List.set_cons_zero, List.set_cons_succ]
  refine tky 4 (some 60) rfl rfl ⟨.bool true, fun w hSw => ?ab4, fun _ _ _ h => h, ?bb4⟩
  case ab4 => (try dsimp only at hSw); go_simp; (try rfl)
  try simp only [Act.put, List.setIfInBounds_toArray, List.set_cons_zero, List.set_cons_succ]
  refine tky 5 (some 61) rfl rfl ⟨?vb5, fun w hSw => ?ab5, fun _ _ _ h => h, ?bb5⟩
  case ab5 => (try dsimp only at hSw); go_simp; (try rfl)
  try simp only [Act.put, List.setIfInBounds_toArray, List.set_cons_zero, List.set_cons_succ]
  refine tky 6 (some 62) rfl rfl ⟨?vb6, fun w hSw => ?ab6, fun _ _ _ h => h, ?bb6⟩
  case ab6 => (try dsimp only at hSw); go_simp; (try rfl)
  try simp only [Act.put, List.setIfInBounds_toArray, List.set_cons_zero, List.set_cons_succ]
  refine tkn 7 (some 63) rfl rfl ?_
  try simp only [Act.put, List.setIfInBounds_toArray, List.set_cons_zero, List.set_cons_succ]
  refine tkn 8 (some 64) rfl rfl ?_
  try simp only [Act.put, List.setIfInBounds_toArray, List.set_cons_zero, List.set_cons_succ]
  refine tkn 9 (some 65) rfl rfl ?_
  try simp only [Act.put, List.setIfInBounds_toArray, List.set_cons_zero, List.set_cons_succ]
  refine tkn 10 (some 66) rfl rfl ?_
  try simp only [Act.put, List.setIfInBounds_toArray, List.set_cons_zero, List.set_cons_succ]
  refine tkn 11 (some 67) rfl rfl ?_
  try simp only [Act.put, List.setIfInBounds_toArray, List.set_cons_zero, List.set_cons_succ]
  refine tkn 12 (some 68) rfl rfl ?_
  try simp only [Act.put, List.setIfInBounds_toArray, List.set_cons_zero, List.set_cons_succ]
  refine tkn 13 (some 69) rfl rfl ?_
  try simp only [Act.put, List.setIfInBounds_toArray, List.set_cons_zero, List.set_cons_succ]
  refine tky 14 (some 70) rfl rfl ⟨?vb14, fun w hSw => ?ab14, fun _ _ _ h => h, ?bb14⟩
  case ab14 => (try dsimp only at hSw); go_simp; (try rfl)
  try simp only [Act.put, List.setIfInBounds_toArray, List.set_cons_zero, List.set_cons_succ]
  refine tky 15 (some 71) rfl rfl ⟨?vb15, fun w hSw => ?ab15, fun _ _ _ h => h, ?bb15⟩
  case ab15 => (try dsimp only at hSw); go_simp; (try rfl)
  try simp only [Act.put, List.setIfInBounds_toArray, List.set_cons_zero, List.set_cons_succ]
  refine wpAnyH_ready (rs := [16]) (by kernel_rfl) (by simp) ?_
  refine AllReadyH.cons rfl (fun K hK => ?_) AllReadyH.nil
  go_simp
  go_at_call 12
  refine (HAw.out _).mono ?_
  rintro e x9 ⟨rfl, hx9⟩
  have HX9 : Hid (Below W.heap.size W x9) := chainB HX2.out.drew hx9
  have y9 := (HS.out x9 HX9.out).2
  refine hK.out _ _ y9 (fun hHeld => ?_)
  clear hK K
  try simp only [Act.put, List.setIfInBounds_toArray, List.set_cons_zero, List.set_cons_succ]
  refine tky 17 (some 73) rfl rfl ⟨?vb17, fun w hSw => ?ab17, fun _ _ _ h => h, ?bb17⟩
  case ab17 => (try dsimp only at hSw); go_simp; (try rfl)
  try simp only [Act.put, List.setIfInBounds_toArray, List.set_cons_zero, List.set_cons_succ]
  refine tky 18 (some 8) rfl rfl ⟨.bool true, fun w hSw => ?ab18, fun _ _ _ h => h, ?bb18⟩
  case ab18 => (try dsimp only at hSw); go_simp; (try rfl)
  try simp only [Act.put, List.setIfInBounds_toArray, List.set_cons_zero, List.set_cons_succ]
  refine wpAnyH_done (by kernel_rfl) ?_ _
  go_wp2
  go_ret
  exact ⟨rfl, chainB HB.out HX9.out⟩
set_option maxRecDepth 20000 in
set_option maxHeartbeats 8000000 in
theorem unl_TD_TT (m o : Mm) (n p : Nt) (w : World) (hm : ArgM w m) (ho : ArgM w o) (hM : m.plain = true) (hO : o.plain = true) (hS : ¬ m.mg = o.mg) (hN : plainN n = true) (hP : plainN p = true) :
    Calls Try.prog 6 #[.agg m.arr, .agg o.arr, .agg n.arr, .agg p.arr] w fun e w' => e = .returned (.bool true) ∧ Below w.heap.size w w' := by
  have HAw : Hid (∀ W, Calls Try.prog 12 #[] W fun e w' => e = .returned (.bool true) ∧ Below W.heap.size W w') := awake_w
  have HGm : Hid (∀ W, Below w.heap.size w W → Calls Try.prog 14 #[.agg m.arr] W fun e w' => ∃ ve vk, e = .returned (.agg (m.ms ve vk).arr) ∧ Hid (Row7 w' 0 ve m.es ∧ RowK w' 0 vk m.ks) ∧ Below W.heap.size W w') := fun W hb => (msg_any m W (hm.below hb)).mono fun e w' ⟨ve, vk, he, h1, h2, h3⟩ => ⟨ve, vk, he, ⟨owns_le h1 (Nat.zero_le _), owns_le h2 (Nat.zero_le _)⟩, h3⟩
  have HGo : Hid (∀ W, Below w.heap.size w W → Calls Try.prog 14 #[.agg o.arr] W fun e w' => ∃ ve vk, e = .returned (.agg (o.ms ve vk).arr) ∧ Hid (Row7 w' 0 ve o.es ∧ RowK w' 0 vk o.ks) ∧ Below W.heap.size W w') := fun W hb => (msg_any o W (ho.below hb)).mono fun e w' ⟨ve, vk, he, h1, h2, h3⟩ => ⟨ve, vk, he, ⟨owns_le h1 (Nat.zero_le _), owns_le h2 (Nat.zero_le _)⟩, h3⟩
  have HEm : Hid (∀ ve vk W, Row7 W 0 ve m.es ∧ RowK W 0 vk m.ks → Calls Try.prog 13 #[.agg (m.ms ve vk).arr] W fun e w' => ∃ a c, e = .returned (.tuple #[.slice a (msgB m.mg).length c, .int .i64 0]) ∧ Hid (OwnB w' W.heap.size (.slice a (msgB m.mg).length c) (msgB m.mg)) ∧ Below W.heap.size W w') := fun ve vk W hr => (encode_m m ve vk W hr.1 hr.2).mono fun e w' hh => by
    rw [hM] at hh
    obtain ⟨a, c, he', ho', hb'⟩ := hh.yes
    exact ⟨a, c, he', ho', hb'⟩
  have HEo : Hid (∀ ve vk W, Row7 W 0 ve o.es ∧ RowK W 0 vk o.ks → Calls Try.prog 13 #[.agg (o.ms ve vk).arr] W fun e w' => ∃ a c, e = .returned (.tuple #[.slice a (msgB o.mg).length c, .int .i64 0]) ∧ Hid (OwnB w' W.heap.size (.slice a (msgB o.mg).length c) (msgB o.mg)) ∧ Below W.heap.size W w') := fun ve vk W hr => (encode_m o ve vk W hr.1 hr.2).mono fun e w' hh => by
    rw [hO] at hh
    obtain ⟨a, c, he', ho', hb'⟩ := hh.yes
    exact ⟨a, c, he', ho', hb'⟩
  have hokM := ((m.plain_iff).1 hM).2
  have hokO := ((o.plain_iff).1 hO).2
  have hlM := msgB_len hokM
  have hlO := msgB_len hokO
  have HSb : Hid (∀ v v' W, RB W v (msgB m.mg) → RB W v' (msgB o.mg) → Calls Try.prog 23 #[v, v'] W fun e w' => e = .returned (.bool false) ∧ Below W.heap.size W w') := fun v v' W h1 h2 => by
    have := same_any v v' _ _ W h1 h2 (by unfold LB; omega) (by unfold LB; omega)
    rw [decide_eq_false (fun e => hS (msgB_inj hokM hokO e))] at this
    exact this
  have HSm : Hid (∀ ve vk ve2 vk2 W, Row7 W 0 ve m.es ∧ RowK W 0 vk m.ks → Row7 W 0 ve2 o.es ∧ RowK W 0 vk2 o.ks → Calls Try.prog 21 #[.agg (m.ms ve vk).arr, .agg (o.ms ve2 vk2).arr] W fun e w' => e = .returned (.bool false) ∧ Below W.heap.size W w') := fun ve vk ve2 vk2 W h1 h2 => sameMs_no hM hO hS ve vk ve2 vk2 W h1 h2
  clear hlM hlO
  have HPn : Hid (∀ W, Calls Try.prog 17 #[.agg n.arr] W fun e w' => ∃ a c, e = .returned (.tuple #[.slice a (noteB n).length c, .int .i64 0]) ∧ Hid (OwnB w' W.heap.size (.slice a (noteB n).length c) (noteB n)) ∧ Below W.heap.size W w') := fun W => (pack_p n W).mono fun e w' hh => by
    rcases hh with ⟨_, v, he, ho, hb⟩ | ⟨h0, _⟩
    · obtain ⟨a, c, hv⟩ := owns_len ho
      subst hv
      exact ⟨a, c, he, ho, hb⟩
    · rw [hN] at h0; cases h0
  have HPp : Hid (∀ W, Calls Try.prog 17 #[.agg p.arr] W fun e w' => ∃ a c, e = .returned (.tuple #[.slice a (noteB p).length c, .int .i64 0]) ∧ Hid (OwnB w' W.heap.size (.slice a (noteB p).length c) (noteB p)) ∧ Below W.heap.size W w') := fun W => (pack_p p W).mono fun e w' hh => by
    rcases hh with ⟨_, v, he, ho, hb⟩ | ⟨h0, _⟩
    · obtain ⟨a, c, hv⟩ := owns_len ho
      subst hv
      exact ⟨a, c, he, ho, hb⟩
    · rw [hP] at h0; cases h0
  have hokN := (plainN_iff n).1 hN
  have hokP := (plainN_iff p).1 hP
  have hlN := noteB_len hokN
  have hlP := noteB_len hokP
  have hqq : eqNt n p = decide (noteB n = noteB p) := by
    by_cases h : n = p
    · rw [(eqNt_iff n p).2 h, decide_eq_true (by rw [h])]
    · rw [decide_eq_false (fun e => h (noteB_inj hokN hokP e))]
      cases hq : eqNt n p with
      | true => exact absurd ((eqNt_iff n p).1 hq) h
      | false => rfl
  have hq0 := fun w' => eqNtB w' n p
  rw [hqq] at hq0
  obtain ⟨D, hD⟩ : ∃ D, decide (noteB n = noteB p) = D := ⟨_, rfl⟩
  rw [hD] at hq0
  have HSc : Hid (∀ v v' W, RB W v (noteB n) → RB W v' (noteB p) → Calls Try.prog 23 #[v, v'] W fun e w' => e = .returned (.bool D) ∧ Below W.heap.size W w') := fun v v' W h1 h2 => by
    have := same_any v v' _ _ W h1 h2 (by unfold LB; omega) (by unfold LB; omega)
    rw [hD] at this
    exact this
  clear hD hqq hlN hlP hokN hokP
  have hzm : m.arr.size = 17 := rfl
  obtain ⟨Am, hAm⟩ : ∃ A, m.arr = A := ⟨_, rfl⟩
  have hzo : o.arr.size = 17 := rfl
  obtain ⟨Ao, hAo⟩ : ∃ A, o.arr = A := ⟨_, rfl⟩
  have hzn : n.arr.size = 22 := rfl
  obtain ⟨An, hAn⟩ : ∃ A, n.arr = A := ⟨_, rfl⟩
  have hzp : p.arr.size = 22 := rfl
  obtain ⟨Ap, hAp⟩ : ∃ A, p.arr = A := ⟨_, rfl⟩
  have hq : ∀ w', (binOp .eql 35 (.agg An) (.agg Ap)).run Try.prog w' = .ok (.bool D) w' := by rw [← hAn, ← hAp]; exact hq0
  clear hq0
  rw [hAm] at HGm hzm ⊢
  rw [hAo] at HGo hzo ⊢
  rw [hAn] at HPn hzn ⊢
  rw [hAp] at HPp hzp ⊢
  obtain ⟨W1, hW1⟩ : ∃ W, w.alloc (.cells Am 46) = W := ⟨_, rfl⟩
  obtain ⟨W2, hW2⟩ : ∃ W, W1.alloc (.cells Ao 46) = W := ⟨_, rfl⟩
  obtain ⟨W3, hW3⟩ : ∃ W, W2.alloc (.cells An 35) = W := ⟨_, rfl⟩
  obtain ⟨W, hW⟩ : ∃ W, W3.alloc (.cells Ap 35) = W := ⟨_, rfl⟩
  have b1 := boxB hW1
  have b2 := boxB hW2
  have b3 := boxB hW3
  have b4 := boxB hW
  have HS : Hid (∀ w', Below W.heap.size W w' → ((mmS (.pointer (some ⟨w.heap.size, 0, none⟩))).run Try.prog w' = .ok (.agg Am) w' ∧ (mmS (.pointer (some ⟨W1.heap.size, 0, none⟩))).run Try.prog w' = .ok (.agg Ao) w') ∧ ((noteS (.pointer (some ⟨W2.heap.size, 0, none⟩))).run Try.prog w' = .ok (.agg An) w' ∧ (noteS (.pointer (some ⟨W3.heap.size, 0, none⟩))).run Try.prog w' = .ok (.agg Ap) w')) := fun w' h' => by
    have c3 := chainB b4.2 h'
    have c2 := chainB b3.2 c3
    have c1 := chainB b2.2 c2
    exact ⟨⟨mmS_of (hkeep b1.1 c1) hzm, mmS_of (hkeep b2.1 c2) hzo⟩, noteS_of (hkeep b3.1 c3) hzn, noteS_of (hkeep b4.1 h') hzp⟩
  have HB : Hid (Below w.heap.size w W) := chainB b1.2 (chainB b2.2 (chainB b3.2 b4.2))
  obtain ⟨⟨nm, -⟩, -⟩ := HS.out W (Below.refl _ _)
  clear hAm hAo hAn hAp hzm hzo hzn hzp b1 b2 b3 b4
  clear hm ho hM hO hS hokM hokO hN hP
  go_enter Try.func6, Try.ntmps6
  go_upto_region 1 with fail
  clear hW1 hW2 hW3 hW
  go_upto_region 3 with (first
    | (go_at_call 13; rw [← HR3.out.1]; refine (HEo.out _ _ _ HR3.out.2).mono ?_; rintro e w4 ⟨a4, c4, rfl, ho4, hb4⟩; have HC4 : Hid (Below W.heap.size W w4) := chainB HC2.out (chainB hb3 hb4); have HO4 : Hid (RB w4 (.slice a2 (msgB m.mg).length c2) (msgB m.mg) ∧ RB w4 (.slice a4 (msgB o.mg).length c4) (msgB o.mg)) := ⟨HO2.out.below (chainB hb3 hb4), ho4.out.rb⟩; clear hb3 hb4 HR3 ho4)
    | (go_at_call 14; refine (HGo.out w2 (chainB HB.out HC2.out)).mono ?_; rintro e w3 ⟨ve3, vk3, rfl, hr3, hb3⟩; obtain ⟨Ar3, hAr3⟩ : ∃ A, (o.ms ve3 vk3).arr = A := ⟨_, rfl⟩; rw [hAr3]; have HR3 : Hid ((o.ms ve3 vk3).arr = Ar3 ∧ (Row7 w3 0 ve3 o.es ∧ RowK w3 0 vk3 o.ks)) := ⟨hAr3, hr3.out⟩; clear hAr3 hr3 nm2)
    | (go_at_call 13; rw [← HR1.out.1]; refine (HEm.out _ _ _ HR1.out.2).mono ?_; rintro e w2 ⟨a2, c2, rfl, ho2, hb2⟩; have HC2 : Hid (Below W.heap.size W w2) := chainB hb1 hb2; obtain ⟨⟨-, nm2⟩, -⟩ := HS.out w2 HC2.out; have HO2 : Hid (RB w2 (.slice a2 (msgB m.mg).length c2) (msgB m.mg)) := ho2.out.rb; clear hb1 hb2 HR1 ho2)
    | (go_at_call 14; refine (HGm.out W HB.out).mono ?_; rintro e w1 ⟨ve1, vk1, rfl, hr1, hb1⟩; obtain ⟨Ar1, hAr1⟩ : ∃ A, (m.ms ve1 vk1).arr = A := ⟨_, rfl⟩; rw [hAr1]; have HR1 : Hid ((m.ms ve1 vk1).arr = Ar1 ∧ (Row7 w1 0 ve1 m.es ∧ RowK w1 0 vk1 m.ks)) := ⟨hAr1, hr1.out⟩; clear hAr1 hr1 nm))
  have k0 := (HS.out w4.drew (HC4.out.drew)).1
  go_region_held3 (fun w' => (mmS (.pointer (some ⟨w.heap.size, 0, none⟩))).run Try.prog w' = .ok (.agg Am) w' ∧ (mmS (.pointer (some ⟨W1.heap.size, 0, none⟩))).run Try.prog w' = .ok (.agg Ao) w') (with_reducible first | exact k8 | exact k7 | exact k6 | exact k5 | exact k0) (first
    | (go_at_call 21; rw [← HR6.out.1, ← HR7.out.1]; refine (HSm.out _ _ _ _ _ ⟨HR6.out.2.1.below hb7, HR6.out.2.2.below hb7⟩ HR7.out.2).mono ?_; rintro e w8 ⟨rfl, hb8⟩; have HC8 : Hid (Below W.heap.size W w8) := chainB HC7.out hb8; have k8 := (HS.out w8 HC8.out).1)
    | (go_at_call 14; refine (HGo.out w6 (chainB HB.out HC6.out)).mono ?_; rintro e w7 ⟨ve7, vk7, rfl, hr7, hb7⟩; obtain ⟨Ar7, hAr7⟩ : ∃ A, (o.ms ve7 vk7).arr = A := ⟨_, rfl⟩; rw [hAr7]; have HR7 : Hid ((o.ms ve7 vk7).arr = Ar7 ∧ (Row7 w7 0 ve7 o.es ∧ RowK w7 0 vk7 o.ks)) := ⟨hAr7, hr7.out⟩; have HC7 : Hid (Below W.heap.size W w7) := chainB HC6.out hb7; have k7 := (HS.out w7 HC7.out).1; clear hAr7 hr7)
    | (go_at_call 14; refine (HGm.out w5 (chainB HB.out HC5.out)).mono ?_; rintro e w6 ⟨ve6, vk6, rfl, hr6, hb6⟩; obtain ⟨Ar6, hAr6⟩ : ∃ A, (m.ms ve6 vk6).arr = A := ⟨_, rfl⟩; rw [hAr6]; have HR6 : Hid ((m.ms ve6 vk6).arr = Ar6 ∧ (Row7 w6 0 ve6 m.es ∧ RowK w6 0 vk6 m.ks)) := ⟨hAr6, hr6.out⟩; have HC6 : Hid (Below W.heap.size W w6) := chainB HC5.out hb6; have k6 := (HS.out w6 HC6.out).1; clear hAr6 hr6)
    | (go_at_call 23; refine (HSb.out _ _ _ (HO4.out.1.below (Below.refl _ _).drew) (HO4.out.2.below (Below.refl _ _).drew)).mono ?_; rintro e w5 ⟨rfl, hb5⟩; have HC5 : Hid (Below W.heap.size W w5) := chainB HC4.out.drew hb5; have k5 := (HS.out w5 HC5.out).1))
  clear k0 k5 k6 k7 k8 hb5 hb6 hb7 hb8
  rename Hid (Below W.heap.size W w5) => HC5x
  have HC5 : Hid (Below W.heap.size W w8) := HC8.out
  obtain ⟨-, nn, -⟩ := HS.out _ HC5.out
  go_upto_region 7 with (first
    | (go_at_call 17; refine (HPp.out x1).mono ?_; rintro e x2 ⟨d2, f2, rfl, hq2, hx2⟩; have HQ2 : Hid (RB x2 (.slice d1 (noteB n).length f1) (noteB n) ∧ RB x2 (.slice d2 (noteB p).length f2) (noteB p)) := ⟨HQ1.out.below hx2, hq2.out.rb⟩; have HX2 : Hid (Below W.heap.size W x2) := chainB HX1.out hx2; clear hx2 nn2 hq2 HQ1)
    | (go_at_call 17; refine (HPn.out _).mono ?_; rintro e x1 ⟨d1, f1, rfl, hq1, hx1⟩; have HQ1 : Hid (RB x1 (.slice d1 (noteB n).length f1) (noteB n)) := hq1.out.rb; have HX1 : Hid (Below W.heap.size W x1) := chainB HC5.out hx1; obtain ⟨-, -, nn2⟩ := HS.out x1 HX1.out; clear hx1 nn hq1))
  have y0 := (HS.out x2.drew HX2.out.drew).2
  go_region_held3 (fun w' => (noteS (.pointer (some ⟨W2.heap.size, 0, none⟩))).run Try.prog w' = .ok (.agg An) w' ∧ (noteS (.pointer (some ⟨W3.heap.size, 0, none⟩))).run Try.prog w' = .ok (.agg Ap) w') (with_reducible first | exact y9 | exact y5 | exact y0) (first
    | (go_at_call 12; refine (HAw.out _).mono ?_; rintro e x9 ⟨rfl, hx9⟩; have HX9 : Hid (Below W.heap.size W x9) := chainB HX5.out hx9; have y9 := (HS.out x9 HX9.out).2)
    | (go_at_call 23; refine (HSc.out _ _ _ (HQ2.out.1.below (Below.refl _ _).drew) (HQ2.out.2.below (Below.refl _ _).drew)).mono ?_; rintro e x5 ⟨rfl, hx5⟩; have HX5 : Hid (Below W.heap.size W x5) := chainB HX2.out.drew hx5; have y5 := (HS.out x5 HX5.out).2))
  go_wp2
  go_ret
  exact ⟨rfl, chainB HB.out HX9.out⟩
end
section
open Go.RowKit Go.Lib

theorem walk_WireUnlike (m o : Mm) (n p : Nt) (w : World) (hm : ArgM w m) (ho : ArgM w o) :
    Calls Try.prog 6 #[.agg m.arr, .agg o.arr, .agg n.arr, .agg p.arr] w fun e w' => e = .returned (.bool true) ∧ Below w.heap.size w w' := by
  cases hM : m.plain with
  | false =>
    cases hN : plainN n with
    | false => exact unl_F_F m o n p w hm ho hM hN
    | true =>
      cases hP : plainN p with
      | false => exact unl_F_TF m o n p w hm ho hM hN hP
      | true => exact unl_F_TT m o n p w hm ho hM hN hP
  | true =>
    cases hO : o.plain with
    | false =>
      cases hN : plainN n with
      | false => exact unl_TF_F m o n p w hm ho hM hO hN
      | true =>
        cases hP : plainN p with
        | false => exact unl_TF_TF m o n p w hm ho hM hO hN hP
        | true => exact unl_TF_TT m o n p w hm ho hM hO hN hP
    | true =>
      by_cases hS : m.mg = o.mg
      · cases hN : plainN n with
        | false => exact unl_TS_F m o n p w hm ho hM hO hS hN
        | true =>
          cases hP : plainN p with
          | false => exact unl_TS_TF m o n p w hm ho hM hO hS hN hP
          | true => exact unl_TS_TT m o n p w hm ho hM hO hS hN hP
      · cases hN : plainN n with
        | false => exact unl_TD_F m o n p w hm ho hM hO hS hN
        | true =>
          cases hP : plainN p with
          | false => exact unl_TD_TF m o n p w hm ho hM hO hS hN hP
          | true => exact unl_TD_TT m o n p w hm ho hM hO hS hN hP
end
end Go.Proofs.Ytihjhaafmdobmab
