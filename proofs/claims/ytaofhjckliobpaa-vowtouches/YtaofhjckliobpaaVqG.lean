/- VowTouches. -/
import Derived.Test.YtaofhjckliobpaaVpF
import Derived.Test.YtaofhjckliobpaaTkA
namespace Go.Proofs.Ytaofhjckliobpaa
open Go.RowKit Go.Shelf Go.Sort
attribute [local go_sem high] eqK neqK guardK

/-- a table that has only been granted these -/
structure PG (S : Vs) (l : List Ky) : Prop where
  e : S.e = 2
  n : S.n = 0
  q : S.q = []
  mp : S.mp = 32
  mq : S.mq = 16
  len : S.ks.length ≤ l.length
  mem : ∀ x, x ∈ S.ks ↔ x ∈ l
theorem PG.step {S : Vs} {l : List Ky} (h : PG S l) (hl : l.length < 32) (k : Ky) (ver : Int) : PG (S.grant k ver).1 (l ++ [k]) ∧ (S.grant k ver).2 = [] := by
  have hlen : (dropK S.ks k ++ [k]).length ≤ l.length + 1 := by rw [List.length_append]; have := dropK_le S.ks k; have := h.len; simp; omega
  rcases grant_cases S k ver with ⟨e, _⟩ | ⟨o, m, _, hn, _⟩
  · rw [e]
    have hl2 : (l ++ [k]).length = l.length + 1 := by simp
    refine ⟨⟨h.e, h.n, h.q, h.mp, h.mq, by rw [hl2]; exact hlen, fun x => ?_⟩, rfl⟩
    show x ∈ dropK S.ks k ++ [k] ↔ _
    rw [List.mem_append, List.mem_append, dropK_mem, h.mem]
    constructor
    · rintro (⟨h1, _⟩ | h1)
      · exact .inl h1
      · exact .inr h1
    · rintro (h1 | h1)
      · by_cases hx : x = k
        · exact .inr (by simp [hx])
        · exact .inl ⟨h1, hx⟩
      · exact .inr h1
  · exact absurd (show (dropK S.ks k ++ [k]).length ≤ S.mp by rw [h.mp]; omega) hn
/-- is a key told -/
def tld (K : List Ky) (x : Ky) : Bool := inK K x || inK K (bare x)
theorem PG.asks {S : Vs} {K : List Ky} (h : PG S K) (x : Ky) : (S.holds x || S.holds (bare x)) = tld K x := by
  have e : ∀ y, inK S.ks y = inK K y := fun y => by
    rw [Bool.eq_iff_iff, inK_iff, inK_iff, h.mem]
  unfold Vs.holds tld
  rw [e, e]
theorem PG.touch {S : Vs} {K : List Ky} (h : PG S K) (tl : List Ky) (ver : Int) : (S.touch tl ver = (S, []) ∧ ∀ x ∈ tl, tld K x = false) ∨ ∃ T, T ≠ [] ∧ (∀ x, x ∈ T ↔ x ∈ tl ∧ tld K x = true) ∧ (S.touch tl ver).2 = [⟨1, ver, false, T⟩] ∧ (∀ x ∈ T, inK (S.touch tl ver).1.ks x = false) ∧ tl.any (tld K) = true := by
  have hmem : ∀ x, x ∈ srtK (S.told tl) ↔ x ∈ tl ∧ tld K x = true := fun x => by
    rw [srtK_mem]
    unfold Vs.told
    rw [List.mem_filter, h.asks]
  rcases touch_cases S tl ver with ⟨e, e2⟩ | ⟨hne, e⟩
  · refine .inl ⟨e, fun x hx => ?_⟩
    cases hq : tld K x with
    | false => rfl
    | true =>
      have := (hmem x).2 ⟨hx, hq⟩
      rw [e2] at this; cases this
  · refine .inr ⟨srtK (S.told tl), hne, hmem, ?_, fun x hx => ?_, ?_⟩
    · rw [e]
      unfold Vs.tell
      rw [if_pos (by show S.n < MX; rw [h.n]; unfold MX; omega), if_neg (by show ¬ S.q.length = S.mq; rw [h.q, h.mq]; simp)]
      show [Bs.mk (S.n + 1) _ _ _] = _
      rw [h.n]; rfl
    · rw [e]
      rcases tell_ks { S with ks := minusK S.ks (srtK (S.told tl)) } (srtK (S.told tl)) ver with e2 | e2
      · rw [e2]
        exact inK_no fun hm => ((minusK_mem _ _ x).1 hm).2 hx
      · rw [e2]; rfl
    · obtain ⟨x, hx⟩ := List.exists_mem_of_ne_nil _ hne
      rw [List.any_eq_true]
      exact ⟨x, ((hmem x).1 hx).1, ((hmem x).1 hx).2⟩
theorem any_step {K tl : List Ky} {j : Nat} {x : Ky} (h : tl[j]? = some x) : (tl.take (j + 1)).any (tld K) = ((tl.take j).any (tld K) || tld K x) := by
  rw [List.take_add_one, h, List.any_append]; simp
set_option maxHeartbeats 8000000 in
set_option maxRecDepth 20000 in
theorem walk_VowTouches (v : Value) (keys : List Ky) (u : Value) (touch : List Ky) (ver : Int) (w : World) (hv : ArgK w v keys) (hvc : ∀ a n c, v = .slice a n c → n ≤ c) (hu : ArgK w u touch) (_ : ∀ a n c, u = .slice a n c → n ≤ c) (_ : (Lit.int .i64 ver).wf = true) :
    Calls Try.prog 7 #[v, u, .int .i64 ver] w fun e w' => e = .returned (.bool true) ∧ Below w.heap.size w w' := by
  obtain ⟨a, cap, rfl⟩ := hv.form
  obtain ⟨a2, cap2, rfl⟩ := hu.form
  have hcap := hvc _ _ _ rfl
  obtain ⟨n, hn⟩ : ∃ n, keys.length = n := ⟨_, rfl⟩
  obtain ⟨n2, hn2⟩ : ∃ n, touch.length = n := ⟨_, rfl⟩
  rw [hn] at hv hcap ⊢
  rw [hn2] at hu ⊢
  have hn13 : n ≤ 10000000000000 := by obtain ⟨_, _, _, hl, _⟩ := hv; omega
  have hn213 : n2 ≤ 10000000000000 := by obtain ⟨_, _, _, hl, _⟩ := hu; omega
  have hnew := lv_new w w (Below.refl _ _) 2 32 16 (by omega) (by omega) (by omega) (by omega) (by omega) (by omega)
  change Calls Try.prog 9 #[.int .i64 2, .int .i64 32, .int .i64 16] w _ at hnew
  obtain ⟨m, hm⟩ : ∃ m, (if 32 < n then 32 else n) = m := ⟨_, rfl⟩
  have hm32 : m ≤ 32 := by rw [← hm]; split <;> omega
  have hmn : m ≤ n := by rw [← hm]; split <;> omega
  have H : Hid (ArgK w (.slice a m cap) (keys.take m) ∧ (keys.take m).length = m ∧ ArgK w (.slice a2 n2 cap2) touch ∧ touch.length = n2) := ⟨hv.take hmn, by rw [List.length_take]; omega, hu, hn2⟩
  obtain ⟨K, hK⟩ : ∃ K, keys.take m = K := ⟨_, rfl⟩
  rw [hK] at H
  clear hv hu hvc hn hn2 hK
  go_enter Try.func7, Try.ntmps7
  go_upto_region 4 with (go_at_call 9; refine hnew.mono ?_; rintro e w1 ⟨rfl, hL1, -⟩)
  have HL1 : Hid (Lv w w1 w.heap.size (Vs.new 2 32 16) (fun _ => False)) := hL1.mono fun _ h => h.elim
  clear hnew hL1
  have hs1 : Hid (32 < n → Value.slice a 32 cap = Value.slice a m cap) := fun h => by rw [← hm, if_pos h]
  have hs2 : Hid (¬ 32 < n → Value.slice a n cap = Value.slice a m cap) := fun h => by rw [← hm, if_neg h]
  clear hm
  rename_i K6 h6 K5 h5
  have key : ∀ x24 x25 x26 x27 x28 : Value, K6 ⟨#[.slice a m cap, .slice a2 n2 cap2, .int .i64 ver, undef, undef, undef, .bool false, .pointer (some ⟨w.heap.size, 0, none⟩), .int .i64 0, undef, undef, undef, undef, undef, .tuple #[.pointer (some ⟨w.heap.size, 0, none⟩), .int .i64 0], .tuple #[.pointer (some ⟨w.heap.size, 0, none⟩), .int .i64 0], .pointer (some ⟨w.heap.size, 0, none⟩), .int .i64 0, .int .i64 0, .bool false, .bool false, .pointer (some ⟨w.heap.size, 0, none⟩), .bool false, .bool false, x24, x25, x26, x27, x28, undef, undef, undef, undef, undef, undef, undef, undef, undef, undef, undef, undef, undef, undef, undef, undef, undef, undef, undef, undef, undef, undef, undef, undef, undef, undef, undef, undef, undef, undef, undef, undef, undef, undef, undef, undef, undef, undef, undef, undef, undef, undef, undef, undef, undef, undef, undef, undef, undef, undef, undef, undef, undef, undef, undef, undef, undef, undef, undef, undef, undef, undef, undef, undef, undef, undef, undef, undef, undef, undef, undef, undef, undef, undef, undef, undef, undef, undef, undef, undef, undef, undef, undef, undef, undef, undef, undef, undef, undef, undef, undef, undef, undef, undef, undef, undef, undef, undef, undef, undef, undef, undef, undef, undef, undef, undef, undef, undef], []⟩ w1 := by
    intro x24 x25 x26 x27 x28
    apply h6
    clear hs1 hs2 hcap hmn hn13 K5 h5
    go_upto_region 6 with fail
    go_wp2
    go_loopw [9] (fun s9 wr => ∃ (i : Nat) (S : Vs), s9 = .int .i64 i ∧ i ≤ m ∧ Hid (Lv w wr w.heap.size S (fun _ => False) ∧ PG S (K.take i))) (fun s9 _ => m - (intOf s9).toNat)
    case atStart => exact ⟨0, _, rfl, Nat.zero_le _, HL1.out, ⟨rfl, rfl, rfl, rfl, rfl, Nat.zero_le _, fun x => by simp [Vs.new]⟩⟩
    case round =>
      obtain ⟨i, S, rfl, hi, HI⟩ := hrel
      by_cases hlt : i < m
      · obtain ⟨x, hx⟩ : ∃ x, K[i]? = some x := ⟨_, List.getElem?_eq_getElem (by rw [H.out.2.1]; exact hlt)⟩
        obtain ⟨g, off, hga, -, x0, x1⟩ := (H.out.1.below HI.out.1.below).key hx
        subst hga
        have hltz : (i : Int) < (m : Int) := by omega
        have hg := lv_grant HI.out.1 x ver
        obtain ⟨hP, hE⟩ := HI.out.2.step (by rw [List.length_take]; omega) x ver
        have htk : K.take (i + 1) = K.take i ++ [x] := by rw [List.take_add_one, hx]; rfl
        rw [← htk] at hP
        unfold Ky.agg at hg
        have HP : Hid (PG (S.grant x ver).1 (K.take (i + 1)) ∧ (S.grant x ver).2 = []) := ⟨hP, hE⟩
        clear hx hP hE htk
        go_wp2_with (go_at_call 17; refine hg.mono ?_; rintro e w3 ⟨v3, rfl, Bq, hc3⟩; obtain ⟨av, cv, hv3⟩ := hc3.rt.form; rw [HP.out.2] at hv3; subst hv3)
        exact ⟨⟨i + 1, _, by simp, by omega, hc3.lv.mono (fun _ h => h.elim), HP.out.1⟩, by simp [intOf]; omega⟩
      · obtain rfl : i = m := by omega
        have hltz : ¬ (i : Int) < (i : Int) := by omega
        have hP : PG S K := by have := HI.out.2; rw [List.take_of_length_le (by rw [H.out.2.1]; omega)] at this; exact this
        have hcp := fun W (hb : Below w.heap.size w W) => copyK_any _ touch W (H.out.2.2.1.below hb)
        have hL := HI.out.1
        have HT : Hid (∀ w2 v2, RowK w2 wr.heap.size v2 touch → Below wr.heap.size wr w2 → Calls Try.prog 19 #[.pointer (some ⟨w.heap.size, 0, none⟩), v2, .int .i64 ver] w2 fun x w' => ∃ v', x = .returned v' ∧ ∃ Bq, Lc w w2 w' w.heap.size (fun _ => False) v' (S.touch touch ver) S.e Bq) := fun w2 v2 hr hb => lv_touch ((hL.on hb).mono (fun _ h => h.elim)) v2 touch ver hr.rd (by have := H.out.2.2.2; obtain ⟨_, _, _, hl, _⟩ := H.out.2.2.1; exact hl)
        have HCp : Hid (Calls Try.prog 20 #[.slice a2 n2 cap2] wr fun e w' => ∃ v', e = .returned v' ∧ RowK w' wr.heap.size v' touch ∧ Below wr.heap.size wr w') := hcp wr hL.below
        have HP : Hid (PG S K) := hP
        clear hL hP hcp HI HL1
        go_upto_region 12 with (first
          | (go_at_call 20; refine HCp.out.mono ?_; rintro e w2 ⟨v2, rfl, hr2, hb2⟩; have htc := HT.out w2 v2 hr2 hb2; obtain ⟨av2, cv2, hv2⟩ := owns_len hr2; subst hv2)
          | (go_at_call 19; refine htc.mono ?_; rintro e w3 ⟨v3, rfl, Bq, hc3⟩; obtain ⟨av3, cv3, hv3⟩ := hc3.rt.form; subst hv3))
        have HIn : Hid (∀ (d : Int) (nm : ByteArray) W', Below w3.heap.size w3 W' → Calls Try.prog 32 #[.slice a i cap, .agg #[.int .i64 d, .string nm]] W' fun e w' => e = .returned (.bool (inK K ⟨d, nm⟩)) ∧ Below W'.heap.size W' w') := fun d nm W' hb => in_any _ ⟨d, nm⟩ K W' (H.out.1.below (chainB hc3.lv.below hb))
        have HAr : Hid (ArgK w3 (.slice a2 n2 cap2) touch) := H.out.2.2.1.below hc3.lv.below
        rcases HP.out.touch touch ver with ⟨eT, hno⟩ | ⟨T, hTne, hTm, eT, hTn, hTa⟩
        · rw [eT] at hc3
          have HNo : Hid (∀ x ∈ touch, tld K x = false) := hno
          have HB3 : Hid (Below w.heap.size w w3) := hc3.lv.below
          have e0 : (S.touch touch ver).2.length = 0 := by rw [eT]; rfl
          rw [e0]
          clear hc3 eT hno htc hr2 hb2 HT HCp e0
          go_wp2
          go_loopw [11, 12, 13] (fun s11 s12 _ wr2 => ∃ j : Nat, s11 = .bool false ∧ s12 = .int .i64 j ∧ j ≤ n2 ∧ Hid (Below w3.heap.size w3 wr2)) (fun _ s12 _ _ => n2 - (intOf s12).toNat)
          case atStart => exact ⟨0, rfl, rfl, Nat.zero_le _, Below.refl _ _⟩
          case round =>
            obtain ⟨j, rfl, rfl, hj, HB⟩ := hrel
            by_cases hlt2 : j < n2
            · obtain ⟨x, hx⟩ : ∃ x, touch[j]? = some x := ⟨_, List.getElem?_eq_getElem (by rw [H.out.2.2.2]; exact hlt2)⟩
              obtain ⟨g2, off2, hga2, -, x0, x1⟩ := (HAr.out.below HB.out).key hx
              subst hga2
              have hltz2 : (j : Int) < (n2 : Int) := by omega
              have htx := HNo.out x (List.mem_of_getElem? hx)
              unfold tld at htx
              rw [Bool.or_eq_false_iff] at htx
              have hA := HIn.out x.d x.nm
              have hB := HIn.out x.d ⟨#[]⟩
              rw [show inK K ⟨x.d, x.nm⟩ = false from htx.1] at hA
              rw [show inK K ⟨x.d, ⟨#[]⟩⟩ = false from htx.2] at hB
              clear hx htx
              go_upto_region 18 with (first
                | (go_at_call 32; refine (hB _ (chainB HB.out hb4)).mono ?_; rintro e w5 ⟨rfl, hb5⟩)
                | (go_at_call 32; refine (hA _ HB.out).mono ?_; rintro e w4 ⟨rfl, hb4⟩; have y0 := (hb4.cell (cellLt x0)).trans x0; have y1 := (hb4.cell (cellLt x1)).trans x1))
              have hb45 := chainB hb4 hb5
              have z0 := (hb45.cell (cellLt x0)).trans x0
              have z1 := (hb45.cell (cellLt x1)).trans x1
              have HB5 : Hid (Below w3.heap.size w3 w5) := chainB HB.out hb45
              clear x0 x1 y0 y1 hb45 hb4 hb5
              have k0 : w5.drew.cell? ⟨g2, off2 + j * 2, none⟩ = some (.int .i64 x.d) ∧ w5.drew.cell? ⟨g2, off2 + j * 2 + 1, none⟩ = some (.string x.nm) := ⟨z0, z1⟩
              refine wp_region_held_drew (S := fun w' => w'.cell? ⟨g2, off2 + j * 2, none⟩ = some (.int .i64 x.d) ∧ w'.cell? ⟨g2, off2 + j * 2 + 1, none⟩ = some (.string x.nm)) (by kernel_rfl) k0 (fun hHeld => ?_)
              refine tky 0 (some 75) rfl rfl ⟨?vxZ0, fun w hSw => ?axZ0, fun _ _ _ h => h, ?bxZ0⟩
              case axZ0 => (try dsimp only at hSw); go_simp; (try rfl)
              try simp only [Act.put, List.setIfInBounds_toArray, List.set_cons_zero, List.set_cons_succ]
              refine tky 1 (some 76) rfl rfl ⟨?vxZ1, fun w hSw => ?axZ1, fun _ _ _ h => h, ?bxZ1⟩
              case axZ1 => (try dsimp only at hSw); go_simp; (try rfl)
              try simp only [Act.put, List.setIfInBounds_toArray, List.set_cons_zero, List.set_cons_succ]
              refine tkn 2 (some 77) rfl rfl ?_
              try simp only [Act.put, List.setIfInBounds_toArray, List.set_cons_zero, List.set_cons_succ]
              refine tkn 3 (some 78) rfl rfl ?_
              try simp only [Act.put, List.setIfInBounds_toArray, List.set_cons_zero, List.set_cons_succ]
              refine tkn 4 (some 79) rfl rfl ?_
              try simp only [Act.put, List.setIfInBounds_toArray, List.set_cons_zero, List.set_cons_succ]
              refine tkn 5 (some 80) rfl rfl ?_
              try simp only [Act.put, List.setIfInBounds_toArray, List.set_cons_zero, List.set_cons_succ]
              refine tkn 6 (some 81) rfl rfl ?_
              try simp only [Act.put, List.setIfInBounds_toArray, List.set_cons_zero, List.set_cons_succ]
              refine tkn 7 (some 82) rfl rfl ?_
              try simp only [Act.put, List.setIfInBounds_toArray, List.set_cons_zero, List.set_cons_succ]
              refine tkn 8 (some 83) rfl rfl ?_
              try simp only [Act.put, List.setIfInBounds_toArray, List.set_cons_zero, List.set_cons_succ]
              refine tkn 9 (some 84) rfl rfl ?_
              try simp only [Act.put, List.setIfInBounds_toArray, List.set_cons_zero, List.set_cons_succ]
              refine tkn 10 (some 85) rfl rfl ?_
              try simp only [Act.put, List.setIfInBounds_toArray, List.set_cons_zero, List.set_cons_succ]
              refine tkn 11 (some 86) rfl rfl ?_
              try simp only [Act.put, List.setIfInBounds_toArray, List.set_cons_zero, List.set_cons_succ]
              refine tkn 12 (some 87) rfl rfl ?_
              try simp only [Act.put, List.setIfInBounds_toArray, List.set_cons_zero, List.set_cons_succ]
              refine tkn 13 (some 88) rfl rfl ?_
              try simp only [Act.put, List.setIfInBounds_toArray, List.set_cons_zero, List.set_cons_succ]
              refine tkn 14 (some 89) rfl rfl ?_
              try simp only [Act.put, List.setIfInBounds_toArray, List.set_cons_zero, List.set_cons_succ]
              refine tkn 15 (some 90) rfl rfl ?_
              try simp only [Act.put, List.setIfInBounds_toArray, List.set_cons_zero, List.set_cons_succ]
              refine tkn 16 (some 91) rfl rfl ?_
              try simp only [Act.put, List.setIfInBounds_toArray, List.set_cons_zero, List.set_cons_succ]
              refine tky 17 (some 92) rfl rfl ⟨?vxZ17, fun w hSw => ?axZ17, fun _ _ _ h => h, ?bxZ17⟩
              case axZ17 => (try dsimp only at hSw); go_simp; (try rfl)
              try simp only [Act.put, List.setIfInBounds_toArray, List.set_cons_zero, List.set_cons_succ]
              refine tky 18 (some 93) rfl rfl ⟨?vxZ18, fun w hSw => ?axZ18, fun _ _ _ h => h, ?bxZ18⟩
              case axZ18 => (try dsimp only at hSw); go_simp; (try rfl)
              try simp only [Act.put, List.setIfInBounds_toArray, List.set_cons_zero, List.set_cons_succ]
              refine tky 19 (some 94) rfl rfl ⟨?vxZ19, fun w hSw => ?axZ19, fun _ _ _ h => h, ?bxZ19⟩
              case axZ19 => (try dsimp only at hSw); go_simp; (try rfl)
              try simp only [Act.put, List.setIfInBounds_toArray, List.set_cons_zero, List.set_cons_succ]
              refine tky 20 (some 95) rfl rfl ⟨?vxZ20, fun w hSw => ?axZ20, fun _ _ _ h => h, ?bxZ20⟩
              case axZ20 => (try dsimp only at hSw); go_simp; (try rfl)
              try simp only [Act.put, List.setIfInBounds_toArray, List.set_cons_zero, List.set_cons_succ]
              refine tky 21 (some 96) rfl rfl ⟨?vxZ21, fun w hSw => ?axZ21, fun _ _ _ h => h, ?bxZ21⟩
              case axZ21 => (try dsimp only at hSw); go_simp; (try rfl)
              try simp only [Act.put, List.setIfInBounds_toArray, List.set_cons_zero, List.set_cons_succ]
              refine tky 22 (some 97) rfl rfl ⟨?vxZ22, fun w hSw => ?axZ22, fun _ _ _ h => h, ?bxZ22⟩
              case axZ22 => (try dsimp only at hSw); go_simp; (try rfl)
              try simp only [Act.put, List.setIfInBounds_toArray, List.set_cons_zero, List.set_cons_succ]
              refine tky 23 (some 98) rfl rfl ⟨?vxZ23, fun w hSw => ?axZ23, fun _ _ _ h => h, ?bxZ23⟩
              case axZ23 => (try dsimp only at hSw); go_simp; (try rfl)
              try simp only [Act.put, List.setIfInBounds_toArray, List.set_cons_zero, List.set_cons_succ]
              refine tky 24 (some 99) rfl rfl ⟨.bool false, fun w hSw => ?axZ24, fun _ _ _ h => h, ?bxZ24⟩
              case axZ24 => (try dsimp only at hSw); go_simp; (try rfl)
              try simp only [Act.put, List.setIfInBounds_toArray, List.set_cons_zero, List.set_cons_succ]
              refine tky 25 (some 100) rfl rfl ⟨?vxZ25, fun w hSw => ?axZ25, fun _ _ _ h => h, ?bxZ25⟩
              case axZ25 => (try dsimp only at hSw); go_simp; (try rfl)
              try simp only [Act.put, List.setIfInBounds_toArray, List.set_cons_zero, List.set_cons_succ]
              refine tky 26 (some 101) rfl rfl ⟨?vxZ26, fun w hSw => ?axZ26, fun _ _ _ h => h, ?bxZ26⟩
              case axZ26 => (try dsimp only at hSw); go_simp; (try rfl)
              try simp only [Act.put, List.setIfInBounds_toArray, List.set_cons_zero, List.set_cons_succ]
              refine tkn 27 (some 102) rfl rfl ?_
              try simp only [Act.put, List.setIfInBounds_toArray, List.set_cons_zero, List.set_cons_succ]
              refine tkn 28 (some 103) rfl rfl ?_
              try simp only [Act.put, List.setIfInBounds_toArray, List.set_cons_zero, List.set_cons_succ]
              refine tkn 29 (some 104) rfl rfl ?_
              try simp only [Act.put, List.setIfInBounds_toArray, List.set_cons_zero, List.set_cons_succ]
              refine tkn 30 (some 105) rfl rfl ?_
              try simp only [Act.put, List.setIfInBounds_toArray, List.set_cons_zero, List.set_cons_succ]
              refine tkn 31 (some 106) rfl rfl ?_
              try simp only [Act.put, List.setIfInBounds_toArray, List.set_cons_zero, List.set_cons_succ]
              refine tkn 32 (some 107) rfl rfl ?_
              try simp only [Act.put, List.setIfInBounds_toArray, List.set_cons_zero, List.set_cons_succ]
              refine tkn 33 (some 108) rfl rfl ?_
              try simp only [Act.put, List.setIfInBounds_toArray, List.set_cons_zero, List.set_cons_succ]
              refine tkn 34 (some 109) rfl rfl ?_
              try simp only [Act.put, List.setIfInBounds_toArray, List.set_cons_zero, List.set_cons_succ]
              refine tkn 35 (some 110) rfl rfl ?_
              try simp only [Act.put, List.setIfInBounds_toArray, List.set_cons_zero, List.set_cons_succ]
              refine tky 36 (some 111) rfl rfl ⟨?vxZ36, fun w hSw => ?axZ36, fun _ _ _ h => h, ?bxZ36⟩
              case axZ36 => (try dsimp only at hSw); go_simp; (try rfl)
              try simp only [Act.put, List.setIfInBounds_toArray, List.set_cons_zero, List.set_cons_succ]
              refine tky 37 (some 112) rfl rfl ⟨?vxZ37, fun w hSw => ?axZ37, fun _ _ _ h => h, ?bxZ37⟩
              case axZ37 => (try dsimp only at hSw); go_simp; (try rfl)
              try simp only [Act.put, List.setIfInBounds_toArray, List.set_cons_zero, List.set_cons_succ]
              refine tky 38 (some 113) rfl rfl ⟨?vxZ38, fun w hSw => ?axZ38, fun _ _ _ h => h, ?bxZ38⟩
              case axZ38 => (try dsimp only at hSw); go_simp; (try rfl)
              try simp only [Act.put, List.setIfInBounds_toArray, List.set_cons_zero, List.set_cons_succ]
              refine tky 39 (some 114) rfl rfl ⟨?vxZ39, fun w hSw => ?axZ39, fun _ _ _ h => h, ?bxZ39⟩
              case axZ39 => (try dsimp only at hSw); go_simp; (try rfl)
              try simp only [Act.put, List.setIfInBounds_toArray, List.set_cons_zero, List.set_cons_succ]
              refine tky 40 (some 115) rfl rfl ⟨?vxZ40, fun w hSw => ?axZ40, fun _ _ _ h => h, ?bxZ40⟩
              case axZ40 => (try dsimp only at hSw); go_simp; (try rfl)
              try simp only [Act.put, List.setIfInBounds_toArray, List.set_cons_zero, List.set_cons_succ]
              refine tky 41 (some 116) rfl rfl ⟨?vxZ41, fun w hSw => ?axZ41, fun _ _ _ h => h, ?bxZ41⟩
              case axZ41 => (try dsimp only at hSw); go_simp; (try rfl)
              try simp only [Act.put, List.setIfInBounds_toArray, List.set_cons_zero, List.set_cons_succ]
              refine tky 42 (some 117) rfl rfl ⟨?vxZ42, fun w hSw => ?axZ42, fun _ _ _ h => h, ?bxZ42⟩
              case axZ42 => (try dsimp only at hSw); go_simp; (try rfl)
              try simp only [Act.put, List.setIfInBounds_toArray, List.set_cons_zero, List.set_cons_succ]
              refine tky 43 (some 118) rfl rfl ⟨?vxZ43, fun w hSw => ?axZ43, fun _ _ _ h => h, ?bxZ43⟩
              case axZ43 => (try dsimp only at hSw); go_simp; (try rfl)
              try simp only [Act.put, List.setIfInBounds_toArray, List.set_cons_zero, List.set_cons_succ]
              refine wpAnyH_ready (rs := [44]) (by kernel_rfl) (by simp) ?_
              refine AllReadyH.cons rfl (fun K hK => ?_) AllReadyH.nil
              go_simp
              go_at_call 32
              refine (hA _ (HB5.out.drew)).mono ?_
              rintro e w6 ⟨rfl, hb60⟩
              have hb6 := undrew hb60
              have k6 : w6.cell? ⟨g2, off2 + j * 2, none⟩ = some (.int .i64 x.d) ∧ w6.cell? ⟨g2, off2 + j * 2 + 1, none⟩ = some (.string x.nm) := ⟨(hb6.cell (cellLt z0)).trans z0, (hb6.cell (cellLt z1)).trans z1⟩
              refine hK.out _ _ k6 (fun hHeld => ?_)
              clear hK K
              try simp only [Act.put, List.setIfInBounds_toArray, List.set_cons_zero, List.set_cons_succ]
              refine tky 45 (some 120) rfl rfl ⟨?vxZ45, fun w hSw => ?axZ45, fun _ _ _ h => h, ?bxZ45⟩
              case axZ45 => (try dsimp only at hSw); go_simp; (try rfl)
              try simp only [Act.put, List.setIfInBounds_toArray, List.set_cons_zero, List.set_cons_succ]
              refine tkn 46 (some 121) rfl rfl ?_
              try simp only [Act.put, List.setIfInBounds_toArray, List.set_cons_zero, List.set_cons_succ]
              refine tkn 47 (some 122) rfl rfl ?_
              try simp only [Act.put, List.setIfInBounds_toArray, List.set_cons_zero, List.set_cons_succ]
              refine tkn 48 (some 123) rfl rfl ?_
              try simp only [Act.put, List.setIfInBounds_toArray, List.set_cons_zero, List.set_cons_succ]
              refine tkn 49 (some 124) rfl rfl ?_
              try simp only [Act.put, List.setIfInBounds_toArray, List.set_cons_zero, List.set_cons_succ]
              refine tkn 50 (some 125) rfl rfl ?_
              try simp only [Act.put, List.setIfInBounds_toArray, List.set_cons_zero, List.set_cons_succ]
              refine tkn 51 (some 126) rfl rfl ?_
              try simp only [Act.put, List.setIfInBounds_toArray, List.set_cons_zero, List.set_cons_succ]
              refine tky 52 (some 127) rfl rfl ⟨?vxZ52, fun w hSw => ?axZ52, fun _ _ _ h => h, ?bxZ52⟩
              case axZ52 => (try dsimp only at hSw); go_simp; (try rfl)
              try simp only [Act.put, List.setIfInBounds_toArray, List.set_cons_zero, List.set_cons_succ]
              refine tky 53 (some 128) rfl rfl ⟨?vxZ53, fun w hSw => ?axZ53, fun _ _ _ h => h, ?bxZ53⟩
              case axZ53 => (try dsimp only at hSw); go_simp; (try rfl)
              try simp only [Act.put, List.setIfInBounds_toArray, List.set_cons_zero, List.set_cons_succ]
              refine wpAnyH_done (by kernel_rfl) ?_ _
              go_wp2
              exact ⟨⟨j + 1, by simp, by simp, by omega, chainB HB5.out hb6⟩, by simp [intOf]; omega⟩
            · have hltz2 : ¬ (j : Int) < (n2 : Int) := by omega
              go_wp2_with (go_at_call 11; refine (awake_p _).mono ?_; rintro e w7 ⟨rfl, hb7⟩)
              go_ret
              exact ⟨by simp, chainB HB3.out (chainB HB.out hb7)⟩
        · obtain ⟨g3, c3, b3, hv3, hg3l, -, -, -, y3, hM3, hK3⟩ := (show Rt w3 Bq _ [⟨1, ver, false, T⟩] _ from by have := hc3.rt; rw [eT] at this; exact this).one
          have e1 : (S.touch touch ver).2.length = 1 := by rw [eT]; rfl
          rw [e1]
          have hv3' : Value.slice av3 1 cv3 = Value.slice (some ⟨g3, 0, none⟩) 1 c3 := hv3
          cases hv3'
          clear hv3
          obtain ⟨NT, hNT⟩ : ∃ NT, T.length = NT := ⟨_, rfl⟩
          have hTs : T.length * 24 ≤ LK := by
            obtain ⟨_, -, -, -, hs⟩ := hc3.rt
            exact hs ⟨1, ver, false, T⟩ (by rw [eT]; simp)
          have HInT : Hid (∀ (d : Int) (nm : ByteArray) W', Below w3.heap.size w3 W' → Calls Try.prog 32 #[.slice b3.va NT b3.vc, .agg #[.int .i64 d, .string nm]] W' fun e w' => e = .returned (.bool (inK T ⟨d, nm⟩)) ∧ Below W'.heap.size W' w') := fun d nm W' hb => by
            have := in_any _ ⟨d, nm⟩ T W' (((hK3.below hb).rd).arg hTs)
            rw [show (Bs.mk 1 ver false T).ks.length = NT from hNT] at this
            exact this
          have HHo : Hid (∀ (d : Int) (nm : ByteArray) W', Below w3.heap.size w3 W' → Calls Try.prog 14 #[.pointer (some ⟨w.heap.size, 0, none⟩), .agg #[.int .i64 d, .string nm]] W' fun e w' => e = .returned (.bool (inK (S.touch touch ver).1.ks ⟨d, nm⟩)) ∧ Below W'.heap.size W' w') := fun d nm W' hb => lv_holds (hc3.lv.on hb) ⟨d, nm⟩
          have HTf : Hid ((∀ x, x ∈ T ↔ x ∈ touch ∧ tld K x = true) ∧ (∀ x ∈ T, inK (S.touch touch ver).1.ks x = false) ∧ touch.any (tld K) = true) := ⟨hTm, hTn, hTa⟩
          have HB3 : Hid (Below w.heap.size w w3) := hc3.lv.below
          simp only [hNT] at y3
          clear hc3 eT htc hr2 hb2 HT HCp e1 hM3 hK3 hTs hNT hTne hTm hTn hTa
          go_wp2
          go_loopw [11, 12, 13] (fun s11 s12 _ wr2 => ∃ (j : Nat) (c : Bool), s11 = .bool c ∧ s12 = .int .i64 j ∧ j ≤ n2 ∧ Hid (c = (touch.take j).any (tld K)) ∧ Hid (Below w3.heap.size w3 wr2)) (fun _ s12 _ _ => n2 - (intOf s12).toNat)
          case atStart => exact ⟨0, false, rfl, rfl, Nat.zero_le _, rfl, Below.refl _ _⟩
          case round =>
            obtain ⟨j, c, rfl, rfl, hj, HC, HB⟩ := hrel
            by_cases hlt2 : j < n2
            · obtain ⟨x, hx⟩ : ∃ x, touch[j]? = some x := ⟨_, List.getElem?_eq_getElem (by rw [H.out.2.2.2]; exact hlt2)⟩
              obtain ⟨g2, off2, hga2, -, x0, x1⟩ := (HAr.out.below HB.out).key hx
              subst hga2
              have hltz2 : (j : Int) < (n2 : Int) := by omega
              have HX : Hid (touch[j]? = some x) := hx
              have hA := HIn.out x.d x.nm
              have hB := HIn.out x.d ⟨#[]⟩
              have hD := HInT.out x.d x.nm
              have hE := HHo.out x.d x.nm
              have hxm := List.mem_of_getElem? hx
              clear hx
              have HTx : Hid (tld K x = (inK K ⟨x.d, x.nm⟩ || inK K ⟨x.d, ⟨#[]⟩⟩)) := rfl
              cases hqA : inK K ⟨x.d, x.nm⟩ with
              | true =>
                have htl : tld K x = true := by rw [HTx.out, hqA]; rfl
                have hxT : x ∈ T := (HTf.out.1 x).2 ⟨hxm, htl⟩
                have hiT : inK T ⟨x.d, x.nm⟩ = true := (inK_iff T x).2 hxT
                have hnS : inK (S.touch touch ver).1.ks ⟨x.d, x.nm⟩ = false := HTf.out.2.1 x hxT
                have HCn : Hid (true = (touch.take (j + 1)).any (tld K)) := by show _ = _; rw [any_step HX.out, htl]; simp
                rw [hqA] at hA
                rw [hiT] at hD
                rw [hnS] at hE
                clear htl hxT hiT hnS hqA hxm
                go_upto_region 17 with (go_at_call 32; refine (hA _ HB.out).mono ?_; rintro e w4 ⟨rfl, hb4⟩)
                go_upto_region 18 with fail
                · have z0 := (hb4.cell (cellLt x0)).trans x0
                  have z1 := (hb4.cell (cellLt x1)).trans x1
                  have z3 := ((chainB HB.out hb4).cell (cellLt y3)).trans y3
                  have HB5 : Hid (Below w3.heap.size w3 w4) := chainB HB.out hb4
                  have k0 : w4.drew.cell? ⟨g2, off2 + j * 2, none⟩ = some (.int .i64 x.d) ∧ w4.drew.cell? ⟨g2, off2 + j * 2 + 1, none⟩ = some (.string x.nm) ∧ w4.drew.cell? ⟨g3, 3, none⟩ = some (.slice b3.va NT b3.vc) := ⟨z0, z1, z3⟩
                  refine wp_region_held_drew (S := fun w' => w'.cell? ⟨g2, off2 + j * 2, none⟩ = some (.int .i64 x.d) ∧ w'.cell? ⟨g2, off2 + j * 2 + 1, none⟩ = some (.string x.nm) ∧ w'.cell? ⟨g3, 3, none⟩ = some (.slice b3.va NT b3.vc)) (by kernel_rfl) k0 (fun hHeld => ?_)
                  refine tky 0 (some 75) rfl rfl ⟨?vxAp0, fun w hSw => ?axAp0, fun _ _ _ h => h, ?bxAp0⟩
                  case axAp0 => (try dsimp only at hSw); go_simp; (try rfl)
                  try simp only [Act.put, List.setIfInBounds_toArray, List.set_cons_zero, List.set_cons_succ]
                  refine tky 1 (some 76) rfl rfl ⟨?vxAp1, fun w hSw => ?axAp1, fun _ _ _ h => h, ?bxAp1⟩
                  case axAp1 => (try dsimp only at hSw); go_simp; (try rfl)
                  try simp only [Act.put, List.setIfInBounds_toArray, List.set_cons_zero, List.set_cons_succ]
                  refine tky 2 (some 77) rfl rfl ⟨?vxAp2, fun w hSw => ?axAp2, fun _ _ _ h => h, ?bxAp2⟩
                  case axAp2 => (try dsimp only at hSw); go_simp; (try rfl)
                  try simp only [Act.put, List.setIfInBounds_toArray, List.set_cons_zero, List.set_cons_succ]
                  refine tky 3 (some 78) rfl rfl ⟨?vxAp3, fun w hSw => ?axAp3, fun _ _ _ h => h, ?bxAp3⟩
                  case axAp3 => (try dsimp only at hSw); go_simp; (try rfl)
                  try simp only [Act.put, List.setIfInBounds_toArray, List.set_cons_zero, List.set_cons_succ]
                  refine tky 4 (some 79) rfl rfl ⟨.bool false, fun w hSw => ?axAp4, fun _ _ _ h => h, ?bxAp4⟩
                  case axAp4 => (try dsimp only at hSw); go_simp; (try rfl)
                  try simp only [Act.put, List.setIfInBounds_toArray, List.set_cons_zero, List.set_cons_succ]
                  refine tky 5 (some 80) rfl rfl ⟨?vxAp5, fun w hSw => ?axAp5, fun _ _ _ h => h, ?bxAp5⟩
                  case axAp5 => (try dsimp only at hSw); go_simp; (try rfl)
                  try simp only [Act.put, List.setIfInBounds_toArray, List.set_cons_zero, List.set_cons_succ]
                  refine tky 6 (some 81) rfl rfl ⟨?vxAp6, fun w hSw => ?axAp6, fun _ _ _ h => h, ?bxAp6⟩
                  case axAp6 => (try dsimp only at hSw); go_simp; (try rfl)
                  try simp only [Act.put, List.setIfInBounds_toArray, List.set_cons_zero, List.set_cons_succ]
                  refine tky 7 (some 82) rfl rfl ⟨?vxAp7, fun w hSw => ?axAp7, fun _ _ _ h => h, ?bxAp7⟩
                  case axAp7 => (try dsimp only at hSw); go_simp; (try rfl)
                  try simp only [Act.put, List.setIfInBounds_toArray, List.set_cons_zero, List.set_cons_succ]
                  refine tky 8 (some 83) rfl rfl ⟨?vxAp8, fun w hSw => ?axAp8, fun _ _ _ h => h, ?bxAp8⟩
                  case axAp8 => (try dsimp only at hSw); go_simp; (try rfl)
                  try simp only [Act.put, List.setIfInBounds_toArray, List.set_cons_zero, List.set_cons_succ]
                  refine tky 9 (some 84) rfl rfl ⟨?vxAp9, fun w hSw => ?axAp9, fun _ _ _ h => h, ?bxAp9⟩
                  case axAp9 => (try dsimp only at hSw); go_simp; (try rfl)
                  try simp only [Act.put, List.setIfInBounds_toArray, List.set_cons_zero, List.set_cons_succ]
                  refine tky 10 (some 85) rfl rfl ⟨?vxAp10, fun w hSw => ?axAp10, fun _ _ _ h => h, ?bxAp10⟩
                  case axAp10 => (try dsimp only at hSw); go_simp; (try rfl)
                  try simp only [Act.put, List.setIfInBounds_toArray, List.set_cons_zero, List.set_cons_succ]
                  refine tky 11 (some 86) rfl rfl ⟨?vxAp11, fun w hSw => ?axAp11, fun _ _ _ h => h, ?bxAp11⟩
                  case axAp11 => (try dsimp only at hSw); go_simp; (try rfl)
                  try simp only [Act.put, List.setIfInBounds_toArray, List.set_cons_zero, List.set_cons_succ]
                  refine tky 12 (some 87) rfl rfl ⟨?vxAp12, fun w hSw => ?axAp12, fun _ _ _ h => h, ?bxAp12⟩
                  case axAp12 => (try dsimp only at hSw); go_simp; (try rfl)
                  try simp only [Act.put, List.setIfInBounds_toArray, List.set_cons_zero, List.set_cons_succ]
                  refine tky 13 (some 88) rfl rfl ⟨?vxAp13, fun w hSw => ?axAp13, fun _ _ _ h => h, ?bxAp13⟩
                  case axAp13 => (try dsimp only at hSw); go_simp; (try rfl)
                  try simp only [Act.put, List.setIfInBounds_toArray, List.set_cons_zero, List.set_cons_succ]
                  refine wpAnyH_ready (rs := [14]) (by kernel_rfl) (by simp) ?_
                  refine AllReadyH.cons rfl (fun K hK => ?_) AllReadyH.nil
                  go_simp
                  go_at_call 32
                  refine (hD _ (HB5.out.drew)).mono ?_
                  rintro e w6 ⟨rfl, hb60⟩
                  have hb6 := undrew hb60
                  have k6 : w6.cell? ⟨g2, off2 + j * 2, none⟩ = some (.int .i64 x.d) ∧ w6.cell? ⟨g2, off2 + j * 2 + 1, none⟩ = some (.string x.nm) ∧ w6.cell? ⟨g3, 3, none⟩ = some (.slice b3.va NT b3.vc) := keep3 ⟨z0, z1, z3⟩ hb6
                  refine hK.out _ _ k6 (fun hHeld => ?_)
                  clear hK K
                  try simp only [Act.put, List.setIfInBounds_toArray, List.set_cons_zero, List.set_cons_succ]
                  refine tky 15 (some 90) rfl rfl ⟨?vxAp15, fun w hSw => ?axAp15, fun _ _ _ h => h, ?bxAp15⟩
                  case axAp15 => (try dsimp only at hSw); go_simp; (try rfl)
                  try simp only [Act.put, List.setIfInBounds_toArray, List.set_cons_zero, List.set_cons_succ]
                  refine tky 16 (some 91) rfl rfl ⟨?vxAp16, fun w hSw => ?axAp16, fun _ _ _ h => h, ?bxAp16⟩
                  case axAp16 => (try dsimp only at hSw); go_simp; (try rfl)
                  try simp only [Act.put, List.setIfInBounds_toArray, List.set_cons_zero, List.set_cons_succ]
                  refine tky 17 (some 92) rfl rfl ⟨?vxAp17, fun w hSw => ?axAp17, fun _ _ _ h => h, ?bxAp17⟩
                  case axAp17 => (try dsimp only at hSw); go_simp; (try rfl)
                  try simp only [Act.put, List.setIfInBounds_toArray, List.set_cons_zero, List.set_cons_succ]
                  refine tky 18 (some 93) rfl rfl ⟨?vxAp18, fun w hSw => ?axAp18, fun _ _ _ h => h, ?bxAp18⟩
                  case axAp18 => (try dsimp only at hSw); go_simp; (try rfl)
                  try simp only [Act.put, List.setIfInBounds_toArray, List.set_cons_zero, List.set_cons_succ]
                  refine tky 19 (some 94) rfl rfl ⟨?vxAp19, fun w hSw => ?axAp19, fun _ _ _ h => h, ?bxAp19⟩
                  case axAp19 => (try dsimp only at hSw); go_simp; (try rfl)
                  try simp only [Act.put, List.setIfInBounds_toArray, List.set_cons_zero, List.set_cons_succ]
                  refine tky 20 (some 95) rfl rfl ⟨?vxAp20, fun w hSw => ?axAp20, fun _ _ _ h => h, ?bxAp20⟩
                  case axAp20 => (try dsimp only at hSw); go_simp; (try rfl)
                  try simp only [Act.put, List.setIfInBounds_toArray, List.set_cons_zero, List.set_cons_succ]
                  refine tky 21 (some 96) rfl rfl ⟨?vxAp21, fun w hSw => ?axAp21, fun _ _ _ h => h, ?bxAp21⟩
                  case axAp21 => (try dsimp only at hSw); go_simp; (try rfl)
                  try simp only [Act.put, List.setIfInBounds_toArray, List.set_cons_zero, List.set_cons_succ]
                  refine tkn 22 (some 97) rfl rfl ?_
                  try simp only [Act.put, List.setIfInBounds_toArray, List.set_cons_zero, List.set_cons_succ]
                  refine tkn 23 (some 98) rfl rfl ?_
                  try simp only [Act.put, List.setIfInBounds_toArray, List.set_cons_zero, List.set_cons_succ]
                  refine tkn 24 (some 99) rfl rfl ?_
                  try simp only [Act.put, List.setIfInBounds_toArray, List.set_cons_zero, List.set_cons_succ]
                  refine tky 25 (some 100) rfl rfl ⟨?vxAp25, fun w hSw => ?axAp25, fun _ _ _ h => h, ?bxAp25⟩
                  case axAp25 => (try dsimp only at hSw); go_simp; (try rfl)
                  try simp only [Act.put, List.setIfInBounds_toArray, List.set_cons_zero, List.set_cons_succ]
                  refine tky 26 (some 101) rfl rfl ⟨?vxAp26, fun w hSw => ?axAp26, fun _ _ _ h => h, ?bxAp26⟩
                  case axAp26 => (try dsimp only at hSw); go_simp; (try rfl)
                  try simp only [Act.put, List.setIfInBounds_toArray, List.set_cons_zero, List.set_cons_succ]
                  refine tkn 27 (some 102) rfl rfl ?_
                  try simp only [Act.put, List.setIfInBounds_toArray, List.set_cons_zero, List.set_cons_succ]
                  refine tkn 28 (some 103) rfl rfl ?_
                  try simp only [Act.put, List.setIfInBounds_toArray, List.set_cons_zero, List.set_cons_succ]
                  refine tkn 29 (some 104) rfl rfl ?_
                  try simp only [Act.put, List.setIfInBounds_toArray, List.set_cons_zero, List.set_cons_succ]
                  refine tkn 30 (some 105) rfl rfl ?_
                  try simp only [Act.put, List.setIfInBounds_toArray, List.set_cons_zero, List.set_cons_succ]
                  refine tkn 31 (some 106) rfl rfl ?_
                  try simp only [Act.put, List.setIfInBounds_toArray, List.set_cons_zero, List.set_cons_succ]
                  refine tkn 32 (some 107) rfl rfl ?_
                  try simp only [Act.put, List.setIfInBounds_toArray, List.set_cons_zero, List.set_cons_succ]
                  refine tkn 33 (some 108) rfl rfl ?_
                  try simp only [Act.put, List.setIfInBounds_toArray, List.set_cons_zero, List.set_cons_succ]
                  refine tkn 34 (some 109) rfl rfl ?_
                  try simp only [Act.put, List.setIfInBounds_toArray, List.set_cons_zero, List.set_cons_succ]
                  refine tkn 35 (some 110) rfl rfl ?_
                  try simp only [Act.put, List.setIfInBounds_toArray, List.set_cons_zero, List.set_cons_succ]
                  refine tky 36 (some 111) rfl rfl ⟨?vxAp36, fun w hSw => ?axAp36, fun _ _ _ h => h, ?bxAp36⟩
                  case axAp36 => (try dsimp only at hSw); go_simp; (try rfl)
                  try simp only [Act.put, List.setIfInBounds_toArray, List.set_cons_zero, List.set_cons_succ]
                  refine tky 37 (some 112) rfl rfl ⟨?vxAp37, fun w hSw => ?axAp37, fun _ _ _ h => h, ?bxAp37⟩
                  case axAp37 => (try dsimp only at hSw); go_simp; (try rfl)
                  try simp only [Act.put, List.setIfInBounds_toArray, List.set_cons_zero, List.set_cons_succ]
                  refine tky 38 (some 113) rfl rfl ⟨?vxAp38, fun w hSw => ?axAp38, fun _ _ _ h => h, ?bxAp38⟩
                  case axAp38 => (try dsimp only at hSw); go_simp; (try rfl)
                  try simp only [Act.put, List.setIfInBounds_toArray, List.set_cons_zero, List.set_cons_succ]
                  refine tky 39 (some 114) rfl rfl ⟨?vxAp39, fun w hSw => ?axAp39, fun _ _ _ h => h, ?bxAp39⟩
                  case axAp39 => (try dsimp only at hSw); go_simp; (try rfl)
                  try simp only [Act.put, List.setIfInBounds_toArray, List.set_cons_zero, List.set_cons_succ]
                  refine tky 40 (some 115) rfl rfl ⟨?vxAp40, fun w hSw => ?axAp40, fun _ _ _ h => h, ?bxAp40⟩
                  case axAp40 => (try dsimp only at hSw); go_simp; (try rfl)
                  try simp only [Act.put, List.setIfInBounds_toArray, List.set_cons_zero, List.set_cons_succ]
                  refine tky 41 (some 116) rfl rfl ⟨?vxAp41, fun w hSw => ?axAp41, fun _ _ _ h => h, ?bxAp41⟩
                  case axAp41 => (try dsimp only at hSw); go_simp; (try rfl)
                  try simp only [Act.put, List.setIfInBounds_toArray, List.set_cons_zero, List.set_cons_succ]
                  refine tky 42 (some 117) rfl rfl ⟨?vxAp42, fun w hSw => ?axAp42, fun _ _ _ h => h, ?bxAp42⟩
                  case axAp42 => (try dsimp only at hSw); go_simp; (try rfl)
                  try simp only [Act.put, List.setIfInBounds_toArray, List.set_cons_zero, List.set_cons_succ]
                  refine tky 43 (some 118) rfl rfl ⟨?vxAp43, fun w hSw => ?axAp43, fun _ _ _ h => h, ?bxAp43⟩
                  case axAp43 => (try dsimp only at hSw); go_simp; (try rfl)
                  try simp only [Act.put, List.setIfInBounds_toArray, List.set_cons_zero, List.set_cons_succ]
                  refine wpAnyH_ready (rs := [44]) (by kernel_rfl) (by simp) ?_
                  refine AllReadyH.cons rfl (fun K hK => ?_) AllReadyH.nil
                  go_simp
                  go_at_call 32
                  refine (hA _ (chainB HB5.out hb6)).mono ?_
                  rintro e w7 ⟨rfl, hb7⟩
                  have k7 : w7.cell? ⟨g2, off2 + j * 2, none⟩ = some (.int .i64 x.d) ∧ w7.cell? ⟨g2, off2 + j * 2 + 1, none⟩ = some (.string x.nm) ∧ w7.cell? ⟨g3, 3, none⟩ = some (.slice b3.va NT b3.vc) := keep3 k6 hb7
                  refine hK.out _ _ k7 (fun hHeld => ?_)
                  clear hK K
                  try simp only [Act.put, List.setIfInBounds_toArray, List.set_cons_zero, List.set_cons_succ]
                  refine tky 45 (some 120) rfl rfl ⟨?vxAp45, fun w hSw => ?axAp45, fun _ _ _ h => h, ?bxAp45⟩
                  case axAp45 => (try dsimp only at hSw); go_simp; (try rfl)
                  try simp only [Act.put, List.setIfInBounds_toArray, List.set_cons_zero, List.set_cons_succ]
                  refine tky 46 (some 121) rfl rfl ⟨?vxAp46, fun w hSw => ?axAp46, fun _ _ _ h => h, ?bxAp46⟩
                  case axAp46 => (try dsimp only at hSw); go_simp; (try rfl)
                  try simp only [Act.put, List.setIfInBounds_toArray, List.set_cons_zero, List.set_cons_succ]
                  refine tky 47 (some 122) rfl rfl ⟨?vxAp47, fun w hSw => ?axAp47, fun _ _ _ h => h, ?bxAp47⟩
                  case axAp47 => (try dsimp only at hSw); go_simp; (try rfl)
                  try simp only [Act.put, List.setIfInBounds_toArray, List.set_cons_zero, List.set_cons_succ]
                  refine tky 48 (some 123) rfl rfl ⟨?vxAp48, fun w hSw => ?axAp48, fun _ _ _ h => h, ?bxAp48⟩
                  case axAp48 => (try dsimp only at hSw); go_simp; (try rfl)
                  try simp only [Act.put, List.setIfInBounds_toArray, List.set_cons_zero, List.set_cons_succ]
                  refine tky 49 (some 124) rfl rfl ⟨?vxAp49, fun w hSw => ?axAp49, fun _ _ _ h => h, ?bxAp49⟩
                  case axAp49 => (try dsimp only at hSw); go_simp; (try rfl)
                  try simp only [Act.put, List.setIfInBounds_toArray, List.set_cons_zero, List.set_cons_succ]
                  refine tky 50 (some 125) rfl rfl ⟨?vxAp50, fun w hSw => ?axAp50, fun _ _ _ h => h, ?bxAp50⟩
                  case axAp50 => (try dsimp only at hSw); go_simp; (try rfl)
                  try simp only [Act.put, List.setIfInBounds_toArray, List.set_cons_zero, List.set_cons_succ]
                  refine wpAnyH_ready (rs := [51]) (by kernel_rfl) (by simp) ?_
                  refine AllReadyH.cons rfl (fun K hK => ?_) AllReadyH.nil
                  go_simp
                  go_at_call 14
                  refine (hE _ (chainB HB5.out (chainB hb6 hb7))).mono ?_
                  rintro e w8 ⟨rfl, hb8⟩
                  have k8 : w8.cell? ⟨g2, off2 + j * 2, none⟩ = some (.int .i64 x.d) ∧ w8.cell? ⟨g2, off2 + j * 2 + 1, none⟩ = some (.string x.nm) ∧ w8.cell? ⟨g3, 3, none⟩ = some (.slice b3.va NT b3.vc) := keep3 k7 hb8
                  refine hK.out _ _ k8 (fun hHeld => ?_)
                  clear hK K
                  try simp only [Act.put, List.setIfInBounds_toArray, List.set_cons_zero, List.set_cons_succ]
                  refine tky 52 (some 127) rfl rfl ⟨?vxAp52, fun w hSw => ?axAp52, fun _ _ _ h => h, ?bxAp52⟩
                  case axAp52 => (try dsimp only at hSw); go_simp; (try rfl)
                  try simp only [Act.put, List.setIfInBounds_toArray, List.set_cons_zero, List.set_cons_succ]
                  refine tky 53 (some 128) rfl rfl ⟨?vxAp53, fun w hSw => ?axAp53, fun _ _ _ h => h, ?bxAp53⟩
                  case axAp53 => (try dsimp only at hSw); go_simp; (try rfl)
                  try simp only [Act.put, List.setIfInBounds_toArray, List.set_cons_zero, List.set_cons_succ]
                  refine wpAnyH_done (by kernel_rfl) ?_ _
                  go_wp2
                  exact ⟨⟨j + 1, true, rfl, by simp, by omega, HCn, chainB HB5.out (chainB hb6 (chainB hb7 hb8))⟩, by simp [intOf]; omega⟩
                · have z0 := (hb4.cell (cellLt x0)).trans x0
                  have z1 := (hb4.cell (cellLt x1)).trans x1
                  have z3 := ((chainB HB.out hb4).cell (cellLt y3)).trans y3
                  have HB5 : Hid (Below w3.heap.size w3 w4) := chainB HB.out hb4
                  have k0 : w4.drew.cell? ⟨g2, off2 + j * 2, none⟩ = some (.int .i64 x.d) ∧ w4.drew.cell? ⟨g2, off2 + j * 2 + 1, none⟩ = some (.string x.nm) ∧ w4.drew.cell? ⟨g3, 3, none⟩ = some (.slice b3.va NT b3.vc) := ⟨z0, z1, z3⟩
                  refine wp_region_held_drew (S := fun w' => w'.cell? ⟨g2, off2 + j * 2, none⟩ = some (.int .i64 x.d) ∧ w'.cell? ⟨g2, off2 + j * 2 + 1, none⟩ = some (.string x.nm) ∧ w'.cell? ⟨g3, 3, none⟩ = some (.slice b3.va NT b3.vc)) (by kernel_rfl) k0 (fun hHeld => ?_)
                  refine tky 0 (some 75) rfl rfl ⟨?vxAq0, fun w hSw => ?axAq0, fun _ _ _ h => h, ?bxAq0⟩
                  case axAq0 => (try dsimp only at hSw); go_simp; (try rfl)
                  try simp only [Act.put, List.setIfInBounds_toArray, List.set_cons_zero, List.set_cons_succ]
                  refine tky 1 (some 76) rfl rfl ⟨?vxAq1, fun w hSw => ?axAq1, fun _ _ _ h => h, ?bxAq1⟩
                  case axAq1 => (try dsimp only at hSw); go_simp; (try rfl)
                  try simp only [Act.put, List.setIfInBounds_toArray, List.set_cons_zero, List.set_cons_succ]
                  refine tky 2 (some 77) rfl rfl ⟨?vxAq2, fun w hSw => ?axAq2, fun _ _ _ h => h, ?bxAq2⟩
                  case axAq2 => (try dsimp only at hSw); go_simp; (try rfl)
                  try simp only [Act.put, List.setIfInBounds_toArray, List.set_cons_zero, List.set_cons_succ]
                  refine tky 3 (some 78) rfl rfl ⟨?vxAq3, fun w hSw => ?axAq3, fun _ _ _ h => h, ?bxAq3⟩
                  case axAq3 => (try dsimp only at hSw); go_simp; (try rfl)
                  try simp only [Act.put, List.setIfInBounds_toArray, List.set_cons_zero, List.set_cons_succ]
                  refine tky 4 (some 79) rfl rfl ⟨.bool false, fun w hSw => ?axAq4, fun _ _ _ h => h, ?bxAq4⟩
                  case axAq4 => (try dsimp only at hSw); go_simp; (try rfl)
                  try simp only [Act.put, List.setIfInBounds_toArray, List.set_cons_zero, List.set_cons_succ]
                  refine tky 5 (some 80) rfl rfl ⟨?vxAq5, fun w hSw => ?axAq5, fun _ _ _ h => h, ?bxAq5⟩
                  case axAq5 => (try dsimp only at hSw); go_simp; (try rfl)
                  try simp only [Act.put, List.setIfInBounds_toArray, List.set_cons_zero, List.set_cons_succ]
                  refine tky 6 (some 81) rfl rfl ⟨?vxAq6, fun w hSw => ?axAq6, fun _ _ _ h => h, ?bxAq6⟩
                  case axAq6 => (try dsimp only at hSw); go_simp; (try rfl)
                  try simp only [Act.put, List.setIfInBounds_toArray, List.set_cons_zero, List.set_cons_succ]
                  refine tky 7 (some 82) rfl rfl ⟨?vxAq7, fun w hSw => ?axAq7, fun _ _ _ h => h, ?bxAq7⟩
                  case axAq7 => (try dsimp only at hSw); go_simp; (try rfl)
                  try simp only [Act.put, List.setIfInBounds_toArray, List.set_cons_zero, List.set_cons_succ]
                  refine tky 8 (some 83) rfl rfl ⟨?vxAq8, fun w hSw => ?axAq8, fun _ _ _ h => h, ?bxAq8⟩
                  case axAq8 => (try dsimp only at hSw); go_simp; (try rfl)
                  try simp only [Act.put, List.setIfInBounds_toArray, List.set_cons_zero, List.set_cons_succ]
                  refine tky 9 (some 84) rfl rfl ⟨?vxAq9, fun w hSw => ?axAq9, fun _ _ _ h => h, ?bxAq9⟩
                  case axAq9 => (try dsimp only at hSw); go_simp; (try rfl)
                  try simp only [Act.put, List.setIfInBounds_toArray, List.set_cons_zero, List.set_cons_succ]
                  refine tky 10 (some 85) rfl rfl ⟨?vxAq10, fun w hSw => ?axAq10, fun _ _ _ h => h, ?bxAq10⟩
                  case axAq10 => (try dsimp only at hSw); go_simp; (try rfl)
                  try simp only [Act.put, List.setIfInBounds_toArray, List.set_cons_zero, List.set_cons_succ]
                  refine tky 11 (some 86) rfl rfl ⟨?vxAq11, fun w hSw => ?axAq11, fun _ _ _ h => h, ?bxAq11⟩
                  case axAq11 => (try dsimp only at hSw); go_simp; (try rfl)
                  try simp only [Act.put, List.setIfInBounds_toArray, List.set_cons_zero, List.set_cons_succ]
                  refine tky 12 (some 87) rfl rfl ⟨?vxAq12, fun w hSw => ?axAq12, fun _ _ _ h => h, ?bxAq12⟩
                  case axAq12 => (try dsimp only at hSw); go_simp; (try rfl)
                  try simp only [Act.put, List.setIfInBounds_toArray, List.set_cons_zero, List.set_cons_succ]
                  refine tky 13 (some 88) rfl rfl ⟨?vxAq13, fun w hSw => ?axAq13, fun _ _ _ h => h, ?bxAq13⟩
                  case axAq13 => (try dsimp only at hSw); go_simp; (try rfl)
                  try simp only [Act.put, List.setIfInBounds_toArray, List.set_cons_zero, List.set_cons_succ]
                  refine wpAnyH_ready (rs := [14]) (by kernel_rfl) (by simp) ?_
                  refine AllReadyH.cons rfl (fun K hK => ?_) AllReadyH.nil
                  go_simp
                  go_at_call 32
                  refine (hD _ (HB5.out.drew)).mono ?_
                  rintro e w6 ⟨rfl, hb60⟩
                  have hb6 := undrew hb60
                  have k6 : w6.cell? ⟨g2, off2 + j * 2, none⟩ = some (.int .i64 x.d) ∧ w6.cell? ⟨g2, off2 + j * 2 + 1, none⟩ = some (.string x.nm) ∧ w6.cell? ⟨g3, 3, none⟩ = some (.slice b3.va NT b3.vc) := keep3 ⟨z0, z1, z3⟩ hb6
                  refine hK.out _ _ k6 (fun hHeld => ?_)
                  clear hK K
                  try simp only [Act.put, List.setIfInBounds_toArray, List.set_cons_zero, List.set_cons_succ]
                  refine tky 15 (some 90) rfl rfl ⟨?vxAq15, fun w hSw => ?axAq15, fun _ _ _ h => h, ?bxAq15⟩
                  case axAq15 => (try dsimp only at hSw); go_simp; (try rfl)
                  try simp only [Act.put, List.setIfInBounds_toArray, List.set_cons_zero, List.set_cons_succ]
                  refine tky 16 (some 91) rfl rfl ⟨?vxAq16, fun w hSw => ?axAq16, fun _ _ _ h => h, ?bxAq16⟩
                  case axAq16 => (try dsimp only at hSw); go_simp; (try rfl)
                  try simp only [Act.put, List.setIfInBounds_toArray, List.set_cons_zero, List.set_cons_succ]
                  refine tky 17 (some 92) rfl rfl ⟨?vxAq17, fun w hSw => ?axAq17, fun _ _ _ h => h, ?bxAq17⟩
                  case axAq17 => (try dsimp only at hSw); go_simp; (try rfl)
                  try simp only [Act.put, List.setIfInBounds_toArray, List.set_cons_zero, List.set_cons_succ]
                  refine tky 18 (some 93) rfl rfl ⟨?vxAq18, fun w hSw => ?axAq18, fun _ _ _ h => h, ?bxAq18⟩
                  case axAq18 => (try dsimp only at hSw); go_simp; (try rfl)
                  try simp only [Act.put, List.setIfInBounds_toArray, List.set_cons_zero, List.set_cons_succ]
                  refine tky 19 (some 94) rfl rfl ⟨?vxAq19, fun w hSw => ?axAq19, fun _ _ _ h => h, ?bxAq19⟩
                  case axAq19 => (try dsimp only at hSw); go_simp; (try rfl)
                  try simp only [Act.put, List.setIfInBounds_toArray, List.set_cons_zero, List.set_cons_succ]
                  refine tky 20 (some 95) rfl rfl ⟨?vxAq20, fun w hSw => ?axAq20, fun _ _ _ h => h, ?bxAq20⟩
                  case axAq20 => (try dsimp only at hSw); go_simp; (try rfl)
                  try simp only [Act.put, List.setIfInBounds_toArray, List.set_cons_zero, List.set_cons_succ]
                  refine tky 21 (some 96) rfl rfl ⟨?vxAq21, fun w hSw => ?axAq21, fun _ _ _ h => h, ?bxAq21⟩
                  case axAq21 => (try dsimp only at hSw); go_simp; (try rfl)
                  try simp only [Act.put, List.setIfInBounds_toArray, List.set_cons_zero, List.set_cons_succ]
                  refine tkn 22 (some 97) rfl rfl ?_
                  try simp only [Act.put, List.setIfInBounds_toArray, List.set_cons_zero, List.set_cons_succ]
                  refine tkn 23 (some 98) rfl rfl ?_
                  try simp only [Act.put, List.setIfInBounds_toArray, List.set_cons_zero, List.set_cons_succ]
                  refine tkn 24 (some 99) rfl rfl ?_
                  try simp only [Act.put, List.setIfInBounds_toArray, List.set_cons_zero, List.set_cons_succ]
                  refine tky 25 (some 100) rfl rfl ⟨?vxAq25, fun w hSw => ?axAq25, fun _ _ _ h => h, ?bxAq25⟩
                  case axAq25 => (try dsimp only at hSw); go_simp; (try rfl)
                  try simp only [Act.put, List.setIfInBounds_toArray, List.set_cons_zero, List.set_cons_succ]
                  refine tky 26 (some 101) rfl rfl ⟨?vxAq26, fun w hSw => ?axAq26, fun _ _ _ h => h, ?bxAq26⟩
                  case axAq26 => (try dsimp only at hSw); go_simp; (try rfl)
                  try simp only [Act.put, List.setIfInBounds_toArray, List.set_cons_zero, List.set_cons_succ]
                  refine tkn 27 (some 102) rfl rfl ?_
                  try simp only [Act.put, List.setIfInBounds_toArray, List.set_cons_zero, List.set_cons_succ]
                  refine tkn 28 (some 103) rfl rfl ?_
                  try simp only [Act.put, List.setIfInBounds_toArray, List.set_cons_zero, List.set_cons_succ]
                  refine tkn 29 (some 104) rfl rfl ?_
                  try simp only [Act.put, List.setIfInBounds_toArray, List.set_cons_zero, List.set_cons_succ]
                  refine tkn 30 (some 105) rfl rfl ?_
                  try simp only [Act.put, List.setIfInBounds_toArray, List.set_cons_zero, List.set_cons_succ]
                  refine tkn 31 (some 106) rfl rfl ?_
                  try simp only [Act.put, List.setIfInBounds_toArray, List.set_cons_zero, List.set_cons_succ]
                  refine tkn 32 (some 107) rfl rfl ?_
                  try simp only [Act.put, List.setIfInBounds_toArray, List.set_cons_zero, List.set_cons_succ]
                  refine tkn 33 (some 108) rfl rfl ?_
                  try simp only [Act.put, List.setIfInBounds_toArray, List.set_cons_zero, List.set_cons_succ]
                  refine tkn 34 (some 109) rfl rfl ?_
                  try simp only [Act.put, List.setIfInBounds_toArray, List.set_cons_zero, List.set_cons_succ]
                  refine tkn 35 (some 110) rfl rfl ?_
                  try simp only [Act.put, List.setIfInBounds_toArray, List.set_cons_zero, List.set_cons_succ]
                  refine tky 36 (some 111) rfl rfl ⟨?vxAq36, fun w hSw => ?axAq36, fun _ _ _ h => h, ?bxAq36⟩
                  case axAq36 => (try dsimp only at hSw); go_simp; (try rfl)
                  try simp only [Act.put, List.setIfInBounds_toArray, List.set_cons_zero, List.set_cons_succ]
                  refine tky 37 (some 112) rfl rfl ⟨?vxAq37, fun w hSw => ?axAq37, fun _ _ _ h => h, ?bxAq37⟩
                  case axAq37 => (try dsimp only at hSw); go_simp; (try rfl)
                  try simp only [Act.put, List.setIfInBounds_toArray, List.set_cons_zero, List.set_cons_succ]
                  refine tky 38 (some 113) rfl rfl ⟨?vxAq38, fun w hSw => ?axAq38, fun _ _ _ h => h, ?bxAq38⟩
                  case axAq38 => (try dsimp only at hSw); go_simp; (try rfl)
                  try simp only [Act.put, List.setIfInBounds_toArray, List.set_cons_zero, List.set_cons_succ]
                  refine tky 39 (some 114) rfl rfl ⟨?vxAq39, fun w hSw => ?axAq39, fun _ _ _ h => h, ?bxAq39⟩
                  case axAq39 => (try dsimp only at hSw); go_simp; (try rfl)
                  try simp only [Act.put, List.setIfInBounds_toArray, List.set_cons_zero, List.set_cons_succ]
                  refine tky 40 (some 115) rfl rfl ⟨?vxAq40, fun w hSw => ?axAq40, fun _ _ _ h => h, ?bxAq40⟩
                  case axAq40 => (try dsimp only at hSw); go_simp; (try rfl)
                  try simp only [Act.put, List.setIfInBounds_toArray, List.set_cons_zero, List.set_cons_succ]
                  refine tky 41 (some 116) rfl rfl ⟨?vxAq41, fun w hSw => ?axAq41, fun _ _ _ h => h, ?bxAq41⟩
                  case axAq41 => (try dsimp only at hSw); go_simp; (try rfl)
                  try simp only [Act.put, List.setIfInBounds_toArray, List.set_cons_zero, List.set_cons_succ]
                  refine tky 42 (some 117) rfl rfl ⟨?vxAq42, fun w hSw => ?axAq42, fun _ _ _ h => h, ?bxAq42⟩
                  case axAq42 => (try dsimp only at hSw); go_simp; (try rfl)
                  try simp only [Act.put, List.setIfInBounds_toArray, List.set_cons_zero, List.set_cons_succ]
                  refine tky 43 (some 118) rfl rfl ⟨?vxAq43, fun w hSw => ?axAq43, fun _ _ _ h => h, ?bxAq43⟩
                  case axAq43 => (try dsimp only at hSw); go_simp; (try rfl)
                  try simp only [Act.put, List.setIfInBounds_toArray, List.set_cons_zero, List.set_cons_succ]
                  refine wpAnyH_ready (rs := [44]) (by kernel_rfl) (by simp) ?_
                  refine AllReadyH.cons rfl (fun K hK => ?_) AllReadyH.nil
                  go_simp
                  go_at_call 32
                  refine (hA _ (chainB HB5.out hb6)).mono ?_
                  rintro e w7 ⟨rfl, hb7⟩
                  have k7 : w7.cell? ⟨g2, off2 + j * 2, none⟩ = some (.int .i64 x.d) ∧ w7.cell? ⟨g2, off2 + j * 2 + 1, none⟩ = some (.string x.nm) ∧ w7.cell? ⟨g3, 3, none⟩ = some (.slice b3.va NT b3.vc) := keep3 k6 hb7
                  refine hK.out _ _ k7 (fun hHeld => ?_)
                  clear hK K
                  try simp only [Act.put, List.setIfInBounds_toArray, List.set_cons_zero, List.set_cons_succ]
                  refine tky 45 (some 120) rfl rfl ⟨?vxAq45, fun w hSw => ?axAq45, fun _ _ _ h => h, ?bxAq45⟩
                  case axAq45 => (try dsimp only at hSw); go_simp; (try rfl)
                  try simp only [Act.put, List.setIfInBounds_toArray, List.set_cons_zero, List.set_cons_succ]
                  refine tky 46 (some 121) rfl rfl ⟨?vxAq46, fun w hSw => ?axAq46, fun _ _ _ h => h, ?bxAq46⟩
                  case axAq46 => (try dsimp only at hSw); go_simp; (try rfl)
                  try simp only [Act.put, List.setIfInBounds_toArray, List.set_cons_zero, List.set_cons_succ]
                  refine tky 47 (some 122) rfl rfl ⟨?vxAq47, fun w hSw => ?axAq47, fun _ _ _ h => h, ?bxAq47⟩
                  case axAq47 => (try dsimp only at hSw); go_simp; (try rfl)
                  try simp only [Act.put, List.setIfInBounds_toArray, List.set_cons_zero, List.set_cons_succ]
                  refine tky 48 (some 123) rfl rfl ⟨?vxAq48, fun w hSw => ?axAq48, fun _ _ _ h => h, ?bxAq48⟩
                  case axAq48 => (try dsimp only at hSw); go_simp; (try rfl)
                  try simp only [Act.put, List.setIfInBounds_toArray, List.set_cons_zero, List.set_cons_succ]
                  refine tky 49 (some 124) rfl rfl ⟨?vxAq49, fun w hSw => ?axAq49, fun _ _ _ h => h, ?bxAq49⟩
                  case axAq49 => (try dsimp only at hSw); go_simp; (try rfl)
                  try simp only [Act.put, List.setIfInBounds_toArray, List.set_cons_zero, List.set_cons_succ]
                  refine tky 50 (some 125) rfl rfl ⟨?vxAq50, fun w hSw => ?axAq50, fun _ _ _ h => h, ?bxAq50⟩
                  case axAq50 => (try dsimp only at hSw); go_simp; (try rfl)
                  try simp only [Act.put, List.setIfInBounds_toArray, List.set_cons_zero, List.set_cons_succ]
                  refine wpAnyH_ready (rs := [51]) (by kernel_rfl) (by simp) ?_
                  refine AllReadyH.cons rfl (fun K hK => ?_) AllReadyH.nil
                  go_simp
                  go_at_call 14
                  refine (hE _ (chainB HB5.out (chainB hb6 hb7))).mono ?_
                  rintro e w8 ⟨rfl, hb8⟩
                  have k8 : w8.cell? ⟨g2, off2 + j * 2, none⟩ = some (.int .i64 x.d) ∧ w8.cell? ⟨g2, off2 + j * 2 + 1, none⟩ = some (.string x.nm) ∧ w8.cell? ⟨g3, 3, none⟩ = some (.slice b3.va NT b3.vc) := keep3 k7 hb8
                  refine hK.out _ _ k8 (fun hHeld => ?_)
                  clear hK K
                  try simp only [Act.put, List.setIfInBounds_toArray, List.set_cons_zero, List.set_cons_succ]
                  refine tky 52 (some 127) rfl rfl ⟨?vxAq52, fun w hSw => ?axAq52, fun _ _ _ h => h, ?bxAq52⟩
                  case axAq52 => (try dsimp only at hSw); go_simp; (try rfl)
                  try simp only [Act.put, List.setIfInBounds_toArray, List.set_cons_zero, List.set_cons_succ]
                  refine tky 53 (some 128) rfl rfl ⟨?vxAq53, fun w hSw => ?axAq53, fun _ _ _ h => h, ?bxAq53⟩
                  case axAq53 => (try dsimp only at hSw); go_simp; (try rfl)
                  try simp only [Act.put, List.setIfInBounds_toArray, List.set_cons_zero, List.set_cons_succ]
                  refine wpAnyH_done (by kernel_rfl) ?_ _
                  go_wp2
                  exact ⟨⟨j + 1, true, rfl, by simp, by omega, HCn, chainB HB5.out (chainB hb6 (chainB hb7 hb8))⟩, by simp [intOf]; omega⟩
              | false =>
                rw [hqA] at hA
                cases hqB : inK K ⟨x.d, ⟨#[]⟩⟩ with
                | true =>
                  have htl : tld K x = true := by rw [HTx.out, hqA, hqB]; rfl
                  have hxT : x ∈ T := (HTf.out.1 x).2 ⟨hxm, htl⟩
                  have hiT : inK T ⟨x.d, x.nm⟩ = true := (inK_iff T x).2 hxT
                  have HCn : Hid (true = (touch.take (j + 1)).any (tld K)) := by show _ = _; rw [any_step HX.out, htl]; simp
                  rw [hqB] at hB
                  rw [hiT] at hD
                  clear htl hxT hiT hqA hqB hxm
                  go_upto_region 17 with (first
                    | (go_at_call 32; refine (hB _ (chainB HB.out hb4)).mono ?_; rintro e w5 ⟨rfl, hb5⟩)
                    | (go_at_call 32; refine (hA _ HB.out).mono ?_; rintro e w4 ⟨rfl, hb4⟩; have y0 := (hb4.cell (cellLt x0)).trans x0; have y1 := (hb4.cell (cellLt x1)).trans x1))
                  have hb45 := chainB hb4 hb5
                  go_upto_region 18 with fail
                  · have z0 := (hb45.cell (cellLt x0)).trans x0
                    have z1 := (hb45.cell (cellLt x1)).trans x1
                    have z3 := ((chainB HB.out hb45).cell (cellLt y3)).trans y3
                    have HB5 : Hid (Below w3.heap.size w3 w5) := chainB HB.out hb45
                    have k0 : w5.drew.cell? ⟨g2, off2 + j * 2, none⟩ = some (.int .i64 x.d) ∧ w5.drew.cell? ⟨g2, off2 + j * 2 + 1, none⟩ = some (.string x.nm) ∧ w5.drew.cell? ⟨g3, 3, none⟩ = some (.slice b3.va NT b3.vc) := ⟨z0, z1, z3⟩
                    refine wp_region_held_drew (S := fun w' => w'.cell? ⟨g2, off2 + j * 2, none⟩ = some (.int .i64 x.d) ∧ w'.cell? ⟨g2, off2 + j * 2 + 1, none⟩ = some (.string x.nm) ∧ w'.cell? ⟨g3, 3, none⟩ = some (.slice b3.va NT b3.vc)) (by kernel_rfl) k0 (fun hHeld => ?_)
                    refine tky 0 (some 75) rfl rfl ⟨?vxBp0, fun w hSw => ?axBp0, fun _ _ _ h => h, ?bxBp0⟩
                    case axBp0 => (try dsimp only at hSw); go_simp; (try rfl)
                    try simp only [Act.put, List.setIfInBounds_toArray, List.set_cons_zero, List.set_cons_succ]
                    refine tky 1 (some 76) rfl rfl ⟨?vxBp1, fun w hSw => ?axBp1, fun _ _ _ h => h, ?bxBp1⟩
                    case axBp1 => (try dsimp only at hSw); go_simp; (try rfl)
                    try simp only [Act.put, List.setIfInBounds_toArray, List.set_cons_zero, List.set_cons_succ]
                    refine tky 2 (some 77) rfl rfl ⟨?vxBp2, fun w hSw => ?axBp2, fun _ _ _ h => h, ?bxBp2⟩
                    case axBp2 => (try dsimp only at hSw); go_simp; (try rfl)
                    try simp only [Act.put, List.setIfInBounds_toArray, List.set_cons_zero, List.set_cons_succ]
                    refine tky 3 (some 78) rfl rfl ⟨?vxBp3, fun w hSw => ?axBp3, fun _ _ _ h => h, ?bxBp3⟩
                    case axBp3 => (try dsimp only at hSw); go_simp; (try rfl)
                    try simp only [Act.put, List.setIfInBounds_toArray, List.set_cons_zero, List.set_cons_succ]
                    refine tky 4 (some 79) rfl rfl ⟨.bool false, fun w hSw => ?axBp4, fun _ _ _ h => h, ?bxBp4⟩
                    case axBp4 => (try dsimp only at hSw); go_simp; (try rfl)
                    try simp only [Act.put, List.setIfInBounds_toArray, List.set_cons_zero, List.set_cons_succ]
                    refine tky 5 (some 80) rfl rfl ⟨?vxBp5, fun w hSw => ?axBp5, fun _ _ _ h => h, ?bxBp5⟩
                    case axBp5 => (try dsimp only at hSw); go_simp; (try rfl)
                    try simp only [Act.put, List.setIfInBounds_toArray, List.set_cons_zero, List.set_cons_succ]
                    refine tky 6 (some 81) rfl rfl ⟨?vxBp6, fun w hSw => ?axBp6, fun _ _ _ h => h, ?bxBp6⟩
                    case axBp6 => (try dsimp only at hSw); go_simp; (try rfl)
                    try simp only [Act.put, List.setIfInBounds_toArray, List.set_cons_zero, List.set_cons_succ]
                    refine tky 7 (some 82) rfl rfl ⟨?vxBp7, fun w hSw => ?axBp7, fun _ _ _ h => h, ?bxBp7⟩
                    case axBp7 => (try dsimp only at hSw); go_simp; (try rfl)
                    try simp only [Act.put, List.setIfInBounds_toArray, List.set_cons_zero, List.set_cons_succ]
                    refine tky 8 (some 83) rfl rfl ⟨?vxBp8, fun w hSw => ?axBp8, fun _ _ _ h => h, ?bxBp8⟩
                    case axBp8 => (try dsimp only at hSw); go_simp; (try rfl)
                    try simp only [Act.put, List.setIfInBounds_toArray, List.set_cons_zero, List.set_cons_succ]
                    refine tky 9 (some 84) rfl rfl ⟨?vxBp9, fun w hSw => ?axBp9, fun _ _ _ h => h, ?bxBp9⟩
                    case axBp9 => (try dsimp only at hSw); go_simp; (try rfl)
                    try simp only [Act.put, List.setIfInBounds_toArray, List.set_cons_zero, List.set_cons_succ]
                    refine tky 10 (some 85) rfl rfl ⟨?vxBp10, fun w hSw => ?axBp10, fun _ _ _ h => h, ?bxBp10⟩
                    case axBp10 => (try dsimp only at hSw); go_simp; (try rfl)
                    try simp only [Act.put, List.setIfInBounds_toArray, List.set_cons_zero, List.set_cons_succ]
                    refine tky 11 (some 86) rfl rfl ⟨?vxBp11, fun w hSw => ?axBp11, fun _ _ _ h => h, ?bxBp11⟩
                    case axBp11 => (try dsimp only at hSw); go_simp; (try rfl)
                    try simp only [Act.put, List.setIfInBounds_toArray, List.set_cons_zero, List.set_cons_succ]
                    refine tky 12 (some 87) rfl rfl ⟨?vxBp12, fun w hSw => ?axBp12, fun _ _ _ h => h, ?bxBp12⟩
                    case axBp12 => (try dsimp only at hSw); go_simp; (try rfl)
                    try simp only [Act.put, List.setIfInBounds_toArray, List.set_cons_zero, List.set_cons_succ]
                    refine tky 13 (some 88) rfl rfl ⟨?vxBp13, fun w hSw => ?axBp13, fun _ _ _ h => h, ?bxBp13⟩
                    case axBp13 => (try dsimp only at hSw); go_simp; (try rfl)
                    try simp only [Act.put, List.setIfInBounds_toArray, List.set_cons_zero, List.set_cons_succ]
                    refine wpAnyH_ready (rs := [14]) (by kernel_rfl) (by simp) ?_
                    refine AllReadyH.cons rfl (fun K hK => ?_) AllReadyH.nil
                    go_simp
                    go_at_call 32
                    refine (hD _ (HB5.out.drew)).mono ?_
                    rintro e w6 ⟨rfl, hb60⟩
                    have hb6 := undrew hb60
                    have k6 : w6.cell? ⟨g2, off2 + j * 2, none⟩ = some (.int .i64 x.d) ∧ w6.cell? ⟨g2, off2 + j * 2 + 1, none⟩ = some (.string x.nm) ∧ w6.cell? ⟨g3, 3, none⟩ = some (.slice b3.va NT b3.vc) := keep3 ⟨z0, z1, z3⟩ hb6
                    refine hK.out _ _ k6 (fun hHeld => ?_)
                    clear hK K
                    try simp only [Act.put, List.setIfInBounds_toArray, List.set_cons_zero, List.set_cons_succ]
                    refine tky 15 (some 90) rfl rfl ⟨?vxBp15, fun w hSw => ?axBp15, fun _ _ _ h => h, ?bxBp15⟩
                    case axBp15 => (try dsimp only at hSw); go_simp; (try rfl)
                    try simp only [Act.put, List.setIfInBounds_toArray, List.set_cons_zero, List.set_cons_succ]
                    refine tky 16 (some 91) rfl rfl ⟨?vxBp16, fun w hSw => ?axBp16, fun _ _ _ h => h, ?bxBp16⟩
                    case axBp16 => (try dsimp only at hSw); go_simp; (try rfl)
                    try simp only [Act.put, List.setIfInBounds_toArray, List.set_cons_zero, List.set_cons_succ]
                    refine tky 17 (some 92) rfl rfl ⟨?vxBp17, fun w hSw => ?axBp17, fun _ _ _ h => h, ?bxBp17⟩
                    case axBp17 => (try dsimp only at hSw); go_simp; (try rfl)
                    try simp only [Act.put, List.setIfInBounds_toArray, List.set_cons_zero, List.set_cons_succ]
                    refine tky 18 (some 93) rfl rfl ⟨?vxBp18, fun w hSw => ?axBp18, fun _ _ _ h => h, ?bxBp18⟩
                    case axBp18 => (try dsimp only at hSw); go_simp; (try rfl)
                    try simp only [Act.put, List.setIfInBounds_toArray, List.set_cons_zero, List.set_cons_succ]
                    refine tky 19 (some 94) rfl rfl ⟨?vxBp19, fun w hSw => ?axBp19, fun _ _ _ h => h, ?bxBp19⟩
                    case axBp19 => (try dsimp only at hSw); go_simp; (try rfl)
                    try simp only [Act.put, List.setIfInBounds_toArray, List.set_cons_zero, List.set_cons_succ]
                    refine tky 20 (some 95) rfl rfl ⟨?vxBp20, fun w hSw => ?axBp20, fun _ _ _ h => h, ?bxBp20⟩
                    case axBp20 => (try dsimp only at hSw); go_simp; (try rfl)
                    try simp only [Act.put, List.setIfInBounds_toArray, List.set_cons_zero, List.set_cons_succ]
                    refine tky 21 (some 96) rfl rfl ⟨?vxBp21, fun w hSw => ?axBp21, fun _ _ _ h => h, ?bxBp21⟩
                    case axBp21 => (try dsimp only at hSw); go_simp; (try rfl)
                    try simp only [Act.put, List.setIfInBounds_toArray, List.set_cons_zero, List.set_cons_succ]
                    refine tkn 22 (some 97) rfl rfl ?_
                    try simp only [Act.put, List.setIfInBounds_toArray, List.set_cons_zero, List.set_cons_succ]
                    refine tkn 23 (some 98) rfl rfl ?_
                    try simp only [Act.put, List.setIfInBounds_toArray, List.set_cons_zero, List.set_cons_succ]
                    refine tkn 24 (some 99) rfl rfl ?_
                    try simp only [Act.put, List.setIfInBounds_toArray, List.set_cons_zero, List.set_cons_succ]
                    refine tky 25 (some 100) rfl rfl ⟨?vxBp25, fun w hSw => ?axBp25, fun _ _ _ h => h, ?bxBp25⟩
                    case axBp25 => (try dsimp only at hSw); go_simp; (try rfl)
                    try simp only [Act.put, List.setIfInBounds_toArray, List.set_cons_zero, List.set_cons_succ]
                    refine tky 26 (some 101) rfl rfl ⟨?vxBp26, fun w hSw => ?axBp26, fun _ _ _ h => h, ?bxBp26⟩
                    case axBp26 => (try dsimp only at hSw); go_simp; (try rfl)
                    try simp only [Act.put, List.setIfInBounds_toArray, List.set_cons_zero, List.set_cons_succ]
                    refine tkn 27 (some 102) rfl rfl ?_
                    try simp only [Act.put, List.setIfInBounds_toArray, List.set_cons_zero, List.set_cons_succ]
                    refine tkn 28 (some 103) rfl rfl ?_
                    try simp only [Act.put, List.setIfInBounds_toArray, List.set_cons_zero, List.set_cons_succ]
                    refine tkn 29 (some 104) rfl rfl ?_
                    try simp only [Act.put, List.setIfInBounds_toArray, List.set_cons_zero, List.set_cons_succ]
                    refine tkn 30 (some 105) rfl rfl ?_
                    try simp only [Act.put, List.setIfInBounds_toArray, List.set_cons_zero, List.set_cons_succ]
                    refine tkn 31 (some 106) rfl rfl ?_
                    try simp only [Act.put, List.setIfInBounds_toArray, List.set_cons_zero, List.set_cons_succ]
                    refine tkn 32 (some 107) rfl rfl ?_
                    try simp only [Act.put, List.setIfInBounds_toArray, List.set_cons_zero, List.set_cons_succ]
                    refine tkn 33 (some 108) rfl rfl ?_
                    try simp only [Act.put, List.setIfInBounds_toArray, List.set_cons_zero, List.set_cons_succ]
                    refine tkn 34 (some 109) rfl rfl ?_
                    try simp only [Act.put, List.setIfInBounds_toArray, List.set_cons_zero, List.set_cons_succ]
                    refine tkn 35 (some 110) rfl rfl ?_
                    try simp only [Act.put, List.setIfInBounds_toArray, List.set_cons_zero, List.set_cons_succ]
                    refine tky 36 (some 111) rfl rfl ⟨?vxBp36, fun w hSw => ?axBp36, fun _ _ _ h => h, ?bxBp36⟩
                    case axBp36 => (try dsimp only at hSw); go_simp; (try rfl)
                    try simp only [Act.put, List.setIfInBounds_toArray, List.set_cons_zero, List.set_cons_succ]
                    refine tky 37 (some 112) rfl rfl ⟨?vxBp37, fun w hSw => ?axBp37, fun _ _ _ h => h, ?bxBp37⟩
                    case axBp37 => (try dsimp only at hSw); go_simp; (try rfl)
                    try simp only [Act.put, List.setIfInBounds_toArray, List.set_cons_zero, List.set_cons_succ]
                    refine tky 38 (some 113) rfl rfl ⟨?vxBp38, fun w hSw => ?axBp38, fun _ _ _ h => h, ?bxBp38⟩
                    case axBp38 => (try dsimp only at hSw); go_simp; (try rfl)
                    try simp only [Act.put, List.setIfInBounds_toArray, List.set_cons_zero, List.set_cons_succ]
                    refine tky 39 (some 114) rfl rfl ⟨?vxBp39, fun w hSw => ?axBp39, fun _ _ _ h => h, ?bxBp39⟩
                    case axBp39 => (try dsimp only at hSw); go_simp; (try rfl)
                    try simp only [Act.put, List.setIfInBounds_toArray, List.set_cons_zero, List.set_cons_succ]
                    refine tky 40 (some 115) rfl rfl ⟨?vxBp40, fun w hSw => ?axBp40, fun _ _ _ h => h, ?bxBp40⟩
                    case axBp40 => (try dsimp only at hSw); go_simp; (try rfl)
                    try simp only [Act.put, List.setIfInBounds_toArray, List.set_cons_zero, List.set_cons_succ]
                    refine tky 41 (some 116) rfl rfl ⟨?vxBp41, fun w hSw => ?axBp41, fun _ _ _ h => h, ?bxBp41⟩
                    case axBp41 => (try dsimp only at hSw); go_simp; (try rfl)
                    try simp only [Act.put, List.setIfInBounds_toArray, List.set_cons_zero, List.set_cons_succ]
                    refine tky 42 (some 117) rfl rfl ⟨?vxBp42, fun w hSw => ?axBp42, fun _ _ _ h => h, ?bxBp42⟩
                    case axBp42 => (try dsimp only at hSw); go_simp; (try rfl)
                    try simp only [Act.put, List.setIfInBounds_toArray, List.set_cons_zero, List.set_cons_succ]
                    refine tky 43 (some 118) rfl rfl ⟨?vxBp43, fun w hSw => ?axBp43, fun _ _ _ h => h, ?bxBp43⟩
                    case axBp43 => (try dsimp only at hSw); go_simp; (try rfl)
                    try simp only [Act.put, List.setIfInBounds_toArray, List.set_cons_zero, List.set_cons_succ]
                    refine wpAnyH_ready (rs := [44]) (by kernel_rfl) (by simp) ?_
                    refine AllReadyH.cons rfl (fun K hK => ?_) AllReadyH.nil
                    go_simp
                    go_at_call 32
                    refine (hA _ (chainB HB5.out hb6)).mono ?_
                    rintro e w7 ⟨rfl, hb7⟩
                    have k7 : w7.cell? ⟨g2, off2 + j * 2, none⟩ = some (.int .i64 x.d) ∧ w7.cell? ⟨g2, off2 + j * 2 + 1, none⟩ = some (.string x.nm) ∧ w7.cell? ⟨g3, 3, none⟩ = some (.slice b3.va NT b3.vc) := keep3 k6 hb7
                    refine hK.out _ _ k7 (fun hHeld => ?_)
                    clear hK K
                    try simp only [Act.put, List.setIfInBounds_toArray, List.set_cons_zero, List.set_cons_succ]
                    refine tky 45 (some 120) rfl rfl ⟨?vxBp45, fun w hSw => ?axBp45, fun _ _ _ h => h, ?bxBp45⟩
                    case axBp45 => (try dsimp only at hSw); go_simp; (try rfl)
                    try simp only [Act.put, List.setIfInBounds_toArray, List.set_cons_zero, List.set_cons_succ]
                    refine tkn 46 (some 121) rfl rfl ?_
                    try simp only [Act.put, List.setIfInBounds_toArray, List.set_cons_zero, List.set_cons_succ]
                    refine tkn 47 (some 122) rfl rfl ?_
                    try simp only [Act.put, List.setIfInBounds_toArray, List.set_cons_zero, List.set_cons_succ]
                    refine tkn 48 (some 123) rfl rfl ?_
                    try simp only [Act.put, List.setIfInBounds_toArray, List.set_cons_zero, List.set_cons_succ]
                    refine tkn 49 (some 124) rfl rfl ?_
                    try simp only [Act.put, List.setIfInBounds_toArray, List.set_cons_zero, List.set_cons_succ]
                    refine tkn 50 (some 125) rfl rfl ?_
                    try simp only [Act.put, List.setIfInBounds_toArray, List.set_cons_zero, List.set_cons_succ]
                    refine tkn 51 (some 126) rfl rfl ?_
                    try simp only [Act.put, List.setIfInBounds_toArray, List.set_cons_zero, List.set_cons_succ]
                    refine tky 52 (some 127) rfl rfl ⟨?vxBp52, fun w hSw => ?axBp52, fun _ _ _ h => h, ?bxBp52⟩
                    case axBp52 => (try dsimp only at hSw); go_simp; (try rfl)
                    try simp only [Act.put, List.setIfInBounds_toArray, List.set_cons_zero, List.set_cons_succ]
                    refine tky 53 (some 128) rfl rfl ⟨?vxBp53, fun w hSw => ?axBp53, fun _ _ _ h => h, ?bxBp53⟩
                    case axBp53 => (try dsimp only at hSw); go_simp; (try rfl)
                    try simp only [Act.put, List.setIfInBounds_toArray, List.set_cons_zero, List.set_cons_succ]
                    refine wpAnyH_done (by kernel_rfl) ?_ _
                    go_wp2
                    exact ⟨⟨j + 1, true, rfl, by simp, by omega, HCn, chainB HB5.out (chainB hb6 hb7)⟩, by simp [intOf]; omega⟩
                  · have z0 := (hb45.cell (cellLt x0)).trans x0
                    have z1 := (hb45.cell (cellLt x1)).trans x1
                    have z3 := ((chainB HB.out hb45).cell (cellLt y3)).trans y3
                    have HB5 : Hid (Below w3.heap.size w3 w5) := chainB HB.out hb45
                    have k0 : w5.drew.cell? ⟨g2, off2 + j * 2, none⟩ = some (.int .i64 x.d) ∧ w5.drew.cell? ⟨g2, off2 + j * 2 + 1, none⟩ = some (.string x.nm) ∧ w5.drew.cell? ⟨g3, 3, none⟩ = some (.slice b3.va NT b3.vc) := ⟨z0, z1, z3⟩
                    refine wp_region_held_drew (S := fun w' => w'.cell? ⟨g2, off2 + j * 2, none⟩ = some (.int .i64 x.d) ∧ w'.cell? ⟨g2, off2 + j * 2 + 1, none⟩ = some (.string x.nm) ∧ w'.cell? ⟨g3, 3, none⟩ = some (.slice b3.va NT b3.vc)) (by kernel_rfl) k0 (fun hHeld => ?_)
                    refine tky 0 (some 75) rfl rfl ⟨?vxBq0, fun w hSw => ?axBq0, fun _ _ _ h => h, ?bxBq0⟩
                    case axBq0 => (try dsimp only at hSw); go_simp; (try rfl)
                    try simp only [Act.put, List.setIfInBounds_toArray, List.set_cons_zero, List.set_cons_succ]
                    refine tky 1 (some 76) rfl rfl ⟨?vxBq1, fun w hSw => ?axBq1, fun _ _ _ h => h, ?bxBq1⟩
                    case axBq1 => (try dsimp only at hSw); go_simp; (try rfl)
                    try simp only [Act.put, List.setIfInBounds_toArray, List.set_cons_zero, List.set_cons_succ]
                    refine tky 2 (some 77) rfl rfl ⟨?vxBq2, fun w hSw => ?axBq2, fun _ _ _ h => h, ?bxBq2⟩
                    case axBq2 => (try dsimp only at hSw); go_simp; (try rfl)
                    try simp only [Act.put, List.setIfInBounds_toArray, List.set_cons_zero, List.set_cons_succ]
                    refine tky 3 (some 78) rfl rfl ⟨?vxBq3, fun w hSw => ?axBq3, fun _ _ _ h => h, ?bxBq3⟩
                    case axBq3 => (try dsimp only at hSw); go_simp; (try rfl)
                    try simp only [Act.put, List.setIfInBounds_toArray, List.set_cons_zero, List.set_cons_succ]
                    refine tky 4 (some 79) rfl rfl ⟨.bool false, fun w hSw => ?axBq4, fun _ _ _ h => h, ?bxBq4⟩
                    case axBq4 => (try dsimp only at hSw); go_simp; (try rfl)
                    try simp only [Act.put, List.setIfInBounds_toArray, List.set_cons_zero, List.set_cons_succ]
                    refine tky 5 (some 80) rfl rfl ⟨?vxBq5, fun w hSw => ?axBq5, fun _ _ _ h => h, ?bxBq5⟩
                    case axBq5 => (try dsimp only at hSw); go_simp; (try rfl)
                    try simp only [Act.put, List.setIfInBounds_toArray, List.set_cons_zero, List.set_cons_succ]
                    refine tky 6 (some 81) rfl rfl ⟨?vxBq6, fun w hSw => ?axBq6, fun _ _ _ h => h, ?bxBq6⟩
                    case axBq6 => (try dsimp only at hSw); go_simp; (try rfl)
                    try simp only [Act.put, List.setIfInBounds_toArray, List.set_cons_zero, List.set_cons_succ]
                    refine tky 7 (some 82) rfl rfl ⟨?vxBq7, fun w hSw => ?axBq7, fun _ _ _ h => h, ?bxBq7⟩
                    case axBq7 => (try dsimp only at hSw); go_simp; (try rfl)
                    try simp only [Act.put, List.setIfInBounds_toArray, List.set_cons_zero, List.set_cons_succ]
                    refine tky 8 (some 83) rfl rfl ⟨?vxBq8, fun w hSw => ?axBq8, fun _ _ _ h => h, ?bxBq8⟩
                    case axBq8 => (try dsimp only at hSw); go_simp; (try rfl)
                    try simp only [Act.put, List.setIfInBounds_toArray, List.set_cons_zero, List.set_cons_succ]
                    refine tky 9 (some 84) rfl rfl ⟨?vxBq9, fun w hSw => ?axBq9, fun _ _ _ h => h, ?bxBq9⟩
                    case axBq9 => (try dsimp only at hSw); go_simp; (try rfl)
                    try simp only [Act.put, List.setIfInBounds_toArray, List.set_cons_zero, List.set_cons_succ]
                    refine tky 10 (some 85) rfl rfl ⟨?vxBq10, fun w hSw => ?axBq10, fun _ _ _ h => h, ?bxBq10⟩
                    case axBq10 => (try dsimp only at hSw); go_simp; (try rfl)
                    try simp only [Act.put, List.setIfInBounds_toArray, List.set_cons_zero, List.set_cons_succ]
                    refine tky 11 (some 86) rfl rfl ⟨?vxBq11, fun w hSw => ?axBq11, fun _ _ _ h => h, ?bxBq11⟩
                    case axBq11 => (try dsimp only at hSw); go_simp; (try rfl)
                    try simp only [Act.put, List.setIfInBounds_toArray, List.set_cons_zero, List.set_cons_succ]
                    refine tky 12 (some 87) rfl rfl ⟨?vxBq12, fun w hSw => ?axBq12, fun _ _ _ h => h, ?bxBq12⟩
                    case axBq12 => (try dsimp only at hSw); go_simp; (try rfl)
                    try simp only [Act.put, List.setIfInBounds_toArray, List.set_cons_zero, List.set_cons_succ]
                    refine tky 13 (some 88) rfl rfl ⟨?vxBq13, fun w hSw => ?axBq13, fun _ _ _ h => h, ?bxBq13⟩
                    case axBq13 => (try dsimp only at hSw); go_simp; (try rfl)
                    try simp only [Act.put, List.setIfInBounds_toArray, List.set_cons_zero, List.set_cons_succ]
                    refine wpAnyH_ready (rs := [14]) (by kernel_rfl) (by simp) ?_
                    refine AllReadyH.cons rfl (fun K hK => ?_) AllReadyH.nil
                    go_simp
                    go_at_call 32
                    refine (hD _ (HB5.out.drew)).mono ?_
                    rintro e w6 ⟨rfl, hb60⟩
                    have hb6 := undrew hb60
                    have k6 : w6.cell? ⟨g2, off2 + j * 2, none⟩ = some (.int .i64 x.d) ∧ w6.cell? ⟨g2, off2 + j * 2 + 1, none⟩ = some (.string x.nm) ∧ w6.cell? ⟨g3, 3, none⟩ = some (.slice b3.va NT b3.vc) := keep3 ⟨z0, z1, z3⟩ hb6
                    refine hK.out _ _ k6 (fun hHeld => ?_)
                    clear hK K
                    try simp only [Act.put, List.setIfInBounds_toArray, List.set_cons_zero, List.set_cons_succ]
                    refine tky 15 (some 90) rfl rfl ⟨?vxBq15, fun w hSw => ?axBq15, fun _ _ _ h => h, ?bxBq15⟩
                    case axBq15 => (try dsimp only at hSw); go_simp; (try rfl)
                    try simp only [Act.put, List.setIfInBounds_toArray, List.set_cons_zero, List.set_cons_succ]
                    refine tky 16 (some 91) rfl rfl ⟨?vxBq16, fun w hSw => ?axBq16, fun _ _ _ h => h, ?bxBq16⟩
                    case axBq16 => (try dsimp only at hSw); go_simp; (try rfl)
                    try simp only [Act.put, List.setIfInBounds_toArray, List.set_cons_zero, List.set_cons_succ]
                    refine tky 17 (some 92) rfl rfl ⟨?vxBq17, fun w hSw => ?axBq17, fun _ _ _ h => h, ?bxBq17⟩
                    case axBq17 => (try dsimp only at hSw); go_simp; (try rfl)
                    try simp only [Act.put, List.setIfInBounds_toArray, List.set_cons_zero, List.set_cons_succ]
                    refine tky 18 (some 93) rfl rfl ⟨?vxBq18, fun w hSw => ?axBq18, fun _ _ _ h => h, ?bxBq18⟩
                    case axBq18 => (try dsimp only at hSw); go_simp; (try rfl)
                    try simp only [Act.put, List.setIfInBounds_toArray, List.set_cons_zero, List.set_cons_succ]
                    refine tky 19 (some 94) rfl rfl ⟨?vxBq19, fun w hSw => ?axBq19, fun _ _ _ h => h, ?bxBq19⟩
                    case axBq19 => (try dsimp only at hSw); go_simp; (try rfl)
                    try simp only [Act.put, List.setIfInBounds_toArray, List.set_cons_zero, List.set_cons_succ]
                    refine tky 20 (some 95) rfl rfl ⟨?vxBq20, fun w hSw => ?axBq20, fun _ _ _ h => h, ?bxBq20⟩
                    case axBq20 => (try dsimp only at hSw); go_simp; (try rfl)
                    try simp only [Act.put, List.setIfInBounds_toArray, List.set_cons_zero, List.set_cons_succ]
                    refine tky 21 (some 96) rfl rfl ⟨?vxBq21, fun w hSw => ?axBq21, fun _ _ _ h => h, ?bxBq21⟩
                    case axBq21 => (try dsimp only at hSw); go_simp; (try rfl)
                    try simp only [Act.put, List.setIfInBounds_toArray, List.set_cons_zero, List.set_cons_succ]
                    refine tkn 22 (some 97) rfl rfl ?_
                    try simp only [Act.put, List.setIfInBounds_toArray, List.set_cons_zero, List.set_cons_succ]
                    refine tkn 23 (some 98) rfl rfl ?_
                    try simp only [Act.put, List.setIfInBounds_toArray, List.set_cons_zero, List.set_cons_succ]
                    refine tkn 24 (some 99) rfl rfl ?_
                    try simp only [Act.put, List.setIfInBounds_toArray, List.set_cons_zero, List.set_cons_succ]
                    refine tky 25 (some 100) rfl rfl ⟨?vxBq25, fun w hSw => ?axBq25, fun _ _ _ h => h, ?bxBq25⟩
                    case axBq25 => (try dsimp only at hSw); go_simp; (try rfl)
                    try simp only [Act.put, List.setIfInBounds_toArray, List.set_cons_zero, List.set_cons_succ]
                    refine tky 26 (some 101) rfl rfl ⟨?vxBq26, fun w hSw => ?axBq26, fun _ _ _ h => h, ?bxBq26⟩
                    case axBq26 => (try dsimp only at hSw); go_simp; (try rfl)
                    try simp only [Act.put, List.setIfInBounds_toArray, List.set_cons_zero, List.set_cons_succ]
                    refine tkn 27 (some 102) rfl rfl ?_
                    try simp only [Act.put, List.setIfInBounds_toArray, List.set_cons_zero, List.set_cons_succ]
                    refine tkn 28 (some 103) rfl rfl ?_
                    try simp only [Act.put, List.setIfInBounds_toArray, List.set_cons_zero, List.set_cons_succ]
                    refine tkn 29 (some 104) rfl rfl ?_
                    try simp only [Act.put, List.setIfInBounds_toArray, List.set_cons_zero, List.set_cons_succ]
                    refine tkn 30 (some 105) rfl rfl ?_
                    try simp only [Act.put, List.setIfInBounds_toArray, List.set_cons_zero, List.set_cons_succ]
                    refine tkn 31 (some 106) rfl rfl ?_
                    try simp only [Act.put, List.setIfInBounds_toArray, List.set_cons_zero, List.set_cons_succ]
                    refine tkn 32 (some 107) rfl rfl ?_
                    try simp only [Act.put, List.setIfInBounds_toArray, List.set_cons_zero, List.set_cons_succ]
                    refine tkn 33 (some 108) rfl rfl ?_
                    try simp only [Act.put, List.setIfInBounds_toArray, List.set_cons_zero, List.set_cons_succ]
                    refine tkn 34 (some 109) rfl rfl ?_
                    try simp only [Act.put, List.setIfInBounds_toArray, List.set_cons_zero, List.set_cons_succ]
                    refine tkn 35 (some 110) rfl rfl ?_
                    try simp only [Act.put, List.setIfInBounds_toArray, List.set_cons_zero, List.set_cons_succ]
                    refine tky 36 (some 111) rfl rfl ⟨?vxBq36, fun w hSw => ?axBq36, fun _ _ _ h => h, ?bxBq36⟩
                    case axBq36 => (try dsimp only at hSw); go_simp; (try rfl)
                    try simp only [Act.put, List.setIfInBounds_toArray, List.set_cons_zero, List.set_cons_succ]
                    refine tky 37 (some 112) rfl rfl ⟨?vxBq37, fun w hSw => ?axBq37, fun _ _ _ h => h, ?bxBq37⟩
                    case axBq37 => (try dsimp only at hSw); go_simp; (try rfl)
                    try simp only [Act.put, List.setIfInBounds_toArray, List.set_cons_zero, List.set_cons_succ]
                    refine tky 38 (some 113) rfl rfl ⟨?vxBq38, fun w hSw => ?axBq38, fun _ _ _ h => h, ?bxBq38⟩
                    case axBq38 => (try dsimp only at hSw); go_simp; (try rfl)
                    try simp only [Act.put, List.setIfInBounds_toArray, List.set_cons_zero, List.set_cons_succ]
                    refine tky 39 (some 114) rfl rfl ⟨?vxBq39, fun w hSw => ?axBq39, fun _ _ _ h => h, ?bxBq39⟩
                    case axBq39 => (try dsimp only at hSw); go_simp; (try rfl)
                    try simp only [Act.put, List.setIfInBounds_toArray, List.set_cons_zero, List.set_cons_succ]
                    refine tky 40 (some 115) rfl rfl ⟨?vxBq40, fun w hSw => ?axBq40, fun _ _ _ h => h, ?bxBq40⟩
                    case axBq40 => (try dsimp only at hSw); go_simp; (try rfl)
                    try simp only [Act.put, List.setIfInBounds_toArray, List.set_cons_zero, List.set_cons_succ]
                    refine tky 41 (some 116) rfl rfl ⟨?vxBq41, fun w hSw => ?axBq41, fun _ _ _ h => h, ?bxBq41⟩
                    case axBq41 => (try dsimp only at hSw); go_simp; (try rfl)
                    try simp only [Act.put, List.setIfInBounds_toArray, List.set_cons_zero, List.set_cons_succ]
                    refine tky 42 (some 117) rfl rfl ⟨?vxBq42, fun w hSw => ?axBq42, fun _ _ _ h => h, ?bxBq42⟩
                    case axBq42 => (try dsimp only at hSw); go_simp; (try rfl)
                    try simp only [Act.put, List.setIfInBounds_toArray, List.set_cons_zero, List.set_cons_succ]
                    refine tky 43 (some 118) rfl rfl ⟨?vxBq43, fun w hSw => ?axBq43, fun _ _ _ h => h, ?bxBq43⟩
                    case axBq43 => (try dsimp only at hSw); go_simp; (try rfl)
                    try simp only [Act.put, List.setIfInBounds_toArray, List.set_cons_zero, List.set_cons_succ]
                    refine wpAnyH_ready (rs := [44]) (by kernel_rfl) (by simp) ?_
                    refine AllReadyH.cons rfl (fun K hK => ?_) AllReadyH.nil
                    go_simp
                    go_at_call 32
                    refine (hA _ (chainB HB5.out hb6)).mono ?_
                    rintro e w7 ⟨rfl, hb7⟩
                    have k7 : w7.cell? ⟨g2, off2 + j * 2, none⟩ = some (.int .i64 x.d) ∧ w7.cell? ⟨g2, off2 + j * 2 + 1, none⟩ = some (.string x.nm) ∧ w7.cell? ⟨g3, 3, none⟩ = some (.slice b3.va NT b3.vc) := keep3 k6 hb7
                    refine hK.out _ _ k7 (fun hHeld => ?_)
                    clear hK K
                    try simp only [Act.put, List.setIfInBounds_toArray, List.set_cons_zero, List.set_cons_succ]
                    refine tky 45 (some 120) rfl rfl ⟨?vxBq45, fun w hSw => ?axBq45, fun _ _ _ h => h, ?bxBq45⟩
                    case axBq45 => (try dsimp only at hSw); go_simp; (try rfl)
                    try simp only [Act.put, List.setIfInBounds_toArray, List.set_cons_zero, List.set_cons_succ]
                    refine tkn 46 (some 121) rfl rfl ?_
                    try simp only [Act.put, List.setIfInBounds_toArray, List.set_cons_zero, List.set_cons_succ]
                    refine tkn 47 (some 122) rfl rfl ?_
                    try simp only [Act.put, List.setIfInBounds_toArray, List.set_cons_zero, List.set_cons_succ]
                    refine tkn 48 (some 123) rfl rfl ?_
                    try simp only [Act.put, List.setIfInBounds_toArray, List.set_cons_zero, List.set_cons_succ]
                    refine tkn 49 (some 124) rfl rfl ?_
                    try simp only [Act.put, List.setIfInBounds_toArray, List.set_cons_zero, List.set_cons_succ]
                    refine tkn 50 (some 125) rfl rfl ?_
                    try simp only [Act.put, List.setIfInBounds_toArray, List.set_cons_zero, List.set_cons_succ]
                    refine tkn 51 (some 126) rfl rfl ?_
                    try simp only [Act.put, List.setIfInBounds_toArray, List.set_cons_zero, List.set_cons_succ]
                    refine tky 52 (some 127) rfl rfl ⟨?vxBq52, fun w hSw => ?axBq52, fun _ _ _ h => h, ?bxBq52⟩
                    case axBq52 => (try dsimp only at hSw); go_simp; (try rfl)
                    try simp only [Act.put, List.setIfInBounds_toArray, List.set_cons_zero, List.set_cons_succ]
                    refine tky 53 (some 128) rfl rfl ⟨?vxBq53, fun w hSw => ?axBq53, fun _ _ _ h => h, ?bxBq53⟩
                    case axBq53 => (try dsimp only at hSw); go_simp; (try rfl)
                    try simp only [Act.put, List.setIfInBounds_toArray, List.set_cons_zero, List.set_cons_succ]
                    refine wpAnyH_done (by kernel_rfl) ?_ _
                    go_wp2
                    exact ⟨⟨j + 1, true, rfl, by simp, by omega, HCn, chainB HB5.out (chainB hb6 hb7)⟩, by simp [intOf]; omega⟩
                | false =>
                  have htl : tld K x = false := by rw [HTx.out, hqA, hqB]; rfl
                  have hiT : inK T ⟨x.d, x.nm⟩ = false := inK_no fun hm => by
                    have := ((HTf.out.1 x).1 hm).2
                    rw [htl] at this; cases this
                  have HCn : Hid (c = (touch.take (j + 1)).any (tld K)) := by show _ = _; rw [any_step HX.out, htl, Bool.or_false]; exact HC.out
                  rw [hqB] at hB
                  rw [hiT] at hD
                  clear htl hiT hqA hqB hxm HC
                  cases c
                  · go_upto_region 17 with (first
                      | (go_at_call 32; refine (hB _ (chainB HB.out hb4)).mono ?_; rintro e w5 ⟨rfl, hb5⟩)
                      | (go_at_call 32; refine (hA _ HB.out).mono ?_; rintro e w4 ⟨rfl, hb4⟩; have y0 := (hb4.cell (cellLt x0)).trans x0; have y1 := (hb4.cell (cellLt x1)).trans x1))
                    have hb45 := chainB hb4 hb5
                    go_upto_region 18 with fail
                    have z0 := (hb45.cell (cellLt x0)).trans x0
                    have z1 := (hb45.cell (cellLt x1)).trans x1
                    have z3 := ((chainB HB.out hb45).cell (cellLt y3)).trans y3
                    have HB5 : Hid (Below w3.heap.size w3 w5) := chainB HB.out hb45
                    have k0 : w5.drew.cell? ⟨g2, off2 + j * 2, none⟩ = some (.int .i64 x.d) ∧ w5.drew.cell? ⟨g2, off2 + j * 2 + 1, none⟩ = some (.string x.nm) ∧ w5.drew.cell? ⟨g3, 3, none⟩ = some (.slice b3.va NT b3.vc) := ⟨z0, z1, z3⟩
                    refine wp_region_held_drew (S := fun w' => w'.cell? ⟨g2, off2 + j * 2, none⟩ = some (.int .i64 x.d) ∧ w'.cell? ⟨g2, off2 + j * 2 + 1, none⟩ = some (.string x.nm) ∧ w'.cell? ⟨g3, 3, none⟩ = some (.slice b3.va NT b3.vc)) (by kernel_rfl) k0 (fun hHeld => ?_)
                    refine tky 0 (some 75) rfl rfl ⟨?vxCp0, fun w hSw => ?axCp0, fun _ _ _ h => h, ?bxCp0⟩
                    case axCp0 => (try dsimp only at hSw); go_simp; (try rfl)
                    try simp only [Act.put, List.setIfInBounds_toArray, List.set_cons_zero, List.set_cons_succ]
                    refine tky 1 (some 76) rfl rfl ⟨?vxCp1, fun w hSw => ?axCp1, fun _ _ _ h => h, ?bxCp1⟩
                    case axCp1 => (try dsimp only at hSw); go_simp; (try rfl)
                    try simp only [Act.put, List.setIfInBounds_toArray, List.set_cons_zero, List.set_cons_succ]
                    refine tkn 2 (some 77) rfl rfl ?_
                    try simp only [Act.put, List.setIfInBounds_toArray, List.set_cons_zero, List.set_cons_succ]
                    refine tkn 3 (some 78) rfl rfl ?_
                    try simp only [Act.put, List.setIfInBounds_toArray, List.set_cons_zero, List.set_cons_succ]
                    refine tkn 4 (some 79) rfl rfl ?_
                    try simp only [Act.put, List.setIfInBounds_toArray, List.set_cons_zero, List.set_cons_succ]
                    refine tkn 5 (some 80) rfl rfl ?_
                    try simp only [Act.put, List.setIfInBounds_toArray, List.set_cons_zero, List.set_cons_succ]
                    refine tkn 6 (some 81) rfl rfl ?_
                    try simp only [Act.put, List.setIfInBounds_toArray, List.set_cons_zero, List.set_cons_succ]
                    refine tkn 7 (some 82) rfl rfl ?_
                    try simp only [Act.put, List.setIfInBounds_toArray, List.set_cons_zero, List.set_cons_succ]
                    refine tkn 8 (some 83) rfl rfl ?_
                    try simp only [Act.put, List.setIfInBounds_toArray, List.set_cons_zero, List.set_cons_succ]
                    refine tkn 9 (some 84) rfl rfl ?_
                    try simp only [Act.put, List.setIfInBounds_toArray, List.set_cons_zero, List.set_cons_succ]
                    refine tkn 10 (some 85) rfl rfl ?_
                    try simp only [Act.put, List.setIfInBounds_toArray, List.set_cons_zero, List.set_cons_succ]
                    refine tkn 11 (some 86) rfl rfl ?_
                    try simp only [Act.put, List.setIfInBounds_toArray, List.set_cons_zero, List.set_cons_succ]
                    refine tkn 12 (some 87) rfl rfl ?_
                    try simp only [Act.put, List.setIfInBounds_toArray, List.set_cons_zero, List.set_cons_succ]
                    refine tkn 13 (some 88) rfl rfl ?_
                    try simp only [Act.put, List.setIfInBounds_toArray, List.set_cons_zero, List.set_cons_succ]
                    refine tkn 14 (some 89) rfl rfl ?_
                    try simp only [Act.put, List.setIfInBounds_toArray, List.set_cons_zero, List.set_cons_succ]
                    refine tkn 15 (some 90) rfl rfl ?_
                    try simp only [Act.put, List.setIfInBounds_toArray, List.set_cons_zero, List.set_cons_succ]
                    refine tkn 16 (some 91) rfl rfl ?_
                    try simp only [Act.put, List.setIfInBounds_toArray, List.set_cons_zero, List.set_cons_succ]
                    refine tky 17 (some 92) rfl rfl ⟨?vxCp17, fun w hSw => ?axCp17, fun _ _ _ h => h, ?bxCp17⟩
                    case axCp17 => (try dsimp only at hSw); go_simp; (try rfl)
                    try simp only [Act.put, List.setIfInBounds_toArray, List.set_cons_zero, List.set_cons_succ]
                    refine tky 18 (some 93) rfl rfl ⟨?vxCp18, fun w hSw => ?axCp18, fun _ _ _ h => h, ?bxCp18⟩
                    case axCp18 => (try dsimp only at hSw); go_simp; (try rfl)
                    try simp only [Act.put, List.setIfInBounds_toArray, List.set_cons_zero, List.set_cons_succ]
                    refine tky 19 (some 94) rfl rfl ⟨?vxCp19, fun w hSw => ?axCp19, fun _ _ _ h => h, ?bxCp19⟩
                    case axCp19 => (try dsimp only at hSw); go_simp; (try rfl)
                    try simp only [Act.put, List.setIfInBounds_toArray, List.set_cons_zero, List.set_cons_succ]
                    refine tky 20 (some 95) rfl rfl ⟨?vxCp20, fun w hSw => ?axCp20, fun _ _ _ h => h, ?bxCp20⟩
                    case axCp20 => (try dsimp only at hSw); go_simp; (try rfl)
                    try simp only [Act.put, List.setIfInBounds_toArray, List.set_cons_zero, List.set_cons_succ]
                    refine tky 21 (some 96) rfl rfl ⟨?vxCp21, fun w hSw => ?axCp21, fun _ _ _ h => h, ?bxCp21⟩
                    case axCp21 => (try dsimp only at hSw); go_simp; (try rfl)
                    try simp only [Act.put, List.setIfInBounds_toArray, List.set_cons_zero, List.set_cons_succ]
                    refine tky 22 (some 97) rfl rfl ⟨?vxCp22, fun w hSw => ?axCp22, fun _ _ _ h => h, ?bxCp22⟩
                    case axCp22 => (try dsimp only at hSw); go_simp; (try rfl)
                    try simp only [Act.put, List.setIfInBounds_toArray, List.set_cons_zero, List.set_cons_succ]
                    refine tky 23 (some 98) rfl rfl ⟨?vxCp23, fun w hSw => ?axCp23, fun _ _ _ h => h, ?bxCp23⟩
                    case axCp23 => (try dsimp only at hSw); go_simp; (try rfl)
                    try simp only [Act.put, List.setIfInBounds_toArray, List.set_cons_zero, List.set_cons_succ]
                    refine tky 24 (some 99) rfl rfl ⟨.bool true, fun w hSw => ?axCp24, fun _ _ _ h => h, ?bxCp24⟩
                    case axCp24 => (try dsimp only at hSw); go_simp; (try rfl)
                    try simp only [Act.put, List.setIfInBounds_toArray, List.set_cons_zero, List.set_cons_succ]
                    refine tky 25 (some 100) rfl rfl ⟨?vxCp25, fun w hSw => ?axCp25, fun _ _ _ h => h, ?bxCp25⟩
                    case axCp25 => (try dsimp only at hSw); go_simp; (try rfl)
                    try simp only [Act.put, List.setIfInBounds_toArray, List.set_cons_zero, List.set_cons_succ]
                    refine tky 26 (some 101) rfl rfl ⟨?vxCp26, fun w hSw => ?axCp26, fun _ _ _ h => h, ?bxCp26⟩
                    case axCp26 => (try dsimp only at hSw); go_simp; (try rfl)
                    try simp only [Act.put, List.setIfInBounds_toArray, List.set_cons_zero, List.set_cons_succ]
                    refine tky 27 (some 102) rfl rfl ⟨?vxCp27, fun w hSw => ?axCp27, fun _ _ _ h => h, ?bxCp27⟩
                    case axCp27 => (try dsimp only at hSw); go_simp; (try rfl)
                    try simp only [Act.put, List.setIfInBounds_toArray, List.set_cons_zero, List.set_cons_succ]
                    refine tky 28 (some 103) rfl rfl ⟨?vxCp28, fun w hSw => ?axCp28, fun _ _ _ h => h, ?bxCp28⟩
                    case axCp28 => (try dsimp only at hSw); go_simp; (try rfl)
                    try simp only [Act.put, List.setIfInBounds_toArray, List.set_cons_zero, List.set_cons_succ]
                    refine tky 29 (some 104) rfl rfl ⟨?vxCp29, fun w hSw => ?axCp29, fun _ _ _ h => h, ?bxCp29⟩
                    case axCp29 => (try dsimp only at hSw); go_simp; (try rfl)
                    try simp only [Act.put, List.setIfInBounds_toArray, List.set_cons_zero, List.set_cons_succ]
                    refine tky 30 (some 105) rfl rfl ⟨?vxCp30, fun w hSw => ?axCp30, fun _ _ _ h => h, ?bxCp30⟩
                    case axCp30 => (try dsimp only at hSw); go_simp; (try rfl)
                    try simp only [Act.put, List.setIfInBounds_toArray, List.set_cons_zero, List.set_cons_succ]
                    refine tky 31 (some 106) rfl rfl ⟨?vxCp31, fun w hSw => ?axCp31, fun _ _ _ h => h, ?bxCp31⟩
                    case axCp31 => (try dsimp only at hSw); go_simp; (try rfl)
                    try simp only [Act.put, List.setIfInBounds_toArray, List.set_cons_zero, List.set_cons_succ]
                    refine tky 32 (some 107) rfl rfl ⟨?vxCp32, fun w hSw => ?axCp32, fun _ _ _ h => h, ?bxCp32⟩
                    case axCp32 => (try dsimp only at hSw); go_simp; (try rfl)
                    try simp only [Act.put, List.setIfInBounds_toArray, List.set_cons_zero, List.set_cons_succ]
                    refine tky 33 (some 108) rfl rfl ⟨?vxCp33, fun w hSw => ?axCp33, fun _ _ _ h => h, ?bxCp33⟩
                    case axCp33 => (try dsimp only at hSw); go_simp; (try rfl)
                    try simp only [Act.put, List.setIfInBounds_toArray, List.set_cons_zero, List.set_cons_succ]
                    refine tky 34 (some 109) rfl rfl ⟨?vxCp34, fun w hSw => ?axCp34, fun _ _ _ h => h, ?bxCp34⟩
                    case axCp34 => (try dsimp only at hSw); go_simp; (try rfl)
                    try simp only [Act.put, List.setIfInBounds_toArray, List.set_cons_zero, List.set_cons_succ]
                    refine wpAnyH_ready (rs := [35]) (by kernel_rfl) (by simp) ?_
                    refine AllReadyH.cons rfl (fun K hK => ?_) AllReadyH.nil
                    go_simp
                    go_at_call 32
                    refine (hD _ (HB5.out.drew)).mono ?_
                    rintro e w6 ⟨rfl, hb60⟩
                    have hb6 := undrew hb60
                    have k6 : w6.cell? ⟨g2, off2 + j * 2, none⟩ = some (.int .i64 x.d) ∧ w6.cell? ⟨g2, off2 + j * 2 + 1, none⟩ = some (.string x.nm) ∧ w6.cell? ⟨g3, 3, none⟩ = some (.slice b3.va NT b3.vc) := keep3 ⟨z0, z1, z3⟩ hb6
                    refine hK.out _ _ k6 (fun hHeld => ?_)
                    clear hK K
                    try simp only [Act.put, List.setIfInBounds_toArray, List.set_cons_zero, List.set_cons_succ]
                    refine tky 36 (some 111) rfl rfl ⟨?vxCp36, fun w hSw => ?axCp36, fun _ _ _ h => h, ?bxCp36⟩
                    case axCp36 => (try dsimp only at hSw); go_simp; (try rfl)
                    try simp only [Act.put, List.setIfInBounds_toArray, List.set_cons_zero, List.set_cons_succ]
                    refine tky 37 (some 112) rfl rfl ⟨?vxCp37, fun w hSw => ?axCp37, fun _ _ _ h => h, ?bxCp37⟩
                    case axCp37 => (try dsimp only at hSw); go_simp; (try rfl)
                    try simp only [Act.put, List.setIfInBounds_toArray, List.set_cons_zero, List.set_cons_succ]
                    refine tky 38 (some 113) rfl rfl ⟨?vxCp38, fun w hSw => ?axCp38, fun _ _ _ h => h, ?bxCp38⟩
                    case axCp38 => (try dsimp only at hSw); go_simp; (try rfl)
                    try simp only [Act.put, List.setIfInBounds_toArray, List.set_cons_zero, List.set_cons_succ]
                    refine tky 39 (some 114) rfl rfl ⟨?vxCp39, fun w hSw => ?axCp39, fun _ _ _ h => h, ?bxCp39⟩
                    case axCp39 => (try dsimp only at hSw); go_simp; (try rfl)
                    try simp only [Act.put, List.setIfInBounds_toArray, List.set_cons_zero, List.set_cons_succ]
                    refine tky 40 (some 115) rfl rfl ⟨?vxCp40, fun w hSw => ?axCp40, fun _ _ _ h => h, ?bxCp40⟩
                    case axCp40 => (try dsimp only at hSw); go_simp; (try rfl)
                    try simp only [Act.put, List.setIfInBounds_toArray, List.set_cons_zero, List.set_cons_succ]
                    refine tky 41 (some 116) rfl rfl ⟨?vxCp41, fun w hSw => ?axCp41, fun _ _ _ h => h, ?bxCp41⟩
                    case axCp41 => (try dsimp only at hSw); go_simp; (try rfl)
                    try simp only [Act.put, List.setIfInBounds_toArray, List.set_cons_zero, List.set_cons_succ]
                    refine tky 42 (some 117) rfl rfl ⟨?vxCp42, fun w hSw => ?axCp42, fun _ _ _ h => h, ?bxCp42⟩
                    case axCp42 => (try dsimp only at hSw); go_simp; (try rfl)
                    try simp only [Act.put, List.setIfInBounds_toArray, List.set_cons_zero, List.set_cons_succ]
                    refine tky 43 (some 118) rfl rfl ⟨?vxCp43, fun w hSw => ?axCp43, fun _ _ _ h => h, ?bxCp43⟩
                    case axCp43 => (try dsimp only at hSw); go_simp; (try rfl)
                    try simp only [Act.put, List.setIfInBounds_toArray, List.set_cons_zero, List.set_cons_succ]
                    refine wpAnyH_ready (rs := [44]) (by kernel_rfl) (by simp) ?_
                    refine AllReadyH.cons rfl (fun K hK => ?_) AllReadyH.nil
                    go_simp
                    go_at_call 32
                    refine (hA _ (chainB HB5.out hb6)).mono ?_
                    rintro e w7 ⟨rfl, hb7⟩
                    have k7 : w7.cell? ⟨g2, off2 + j * 2, none⟩ = some (.int .i64 x.d) ∧ w7.cell? ⟨g2, off2 + j * 2 + 1, none⟩ = some (.string x.nm) ∧ w7.cell? ⟨g3, 3, none⟩ = some (.slice b3.va NT b3.vc) := keep3 k6 hb7
                    refine hK.out _ _ k7 (fun hHeld => ?_)
                    clear hK K
                    try simp only [Act.put, List.setIfInBounds_toArray, List.set_cons_zero, List.set_cons_succ]
                    refine tky 45 (some 120) rfl rfl ⟨?vxCp45, fun w hSw => ?axCp45, fun _ _ _ h => h, ?bxCp45⟩
                    case axCp45 => (try dsimp only at hSw); go_simp; (try rfl)
                    try simp only [Act.put, List.setIfInBounds_toArray, List.set_cons_zero, List.set_cons_succ]
                    refine tkn 46 (some 121) rfl rfl ?_
                    try simp only [Act.put, List.setIfInBounds_toArray, List.set_cons_zero, List.set_cons_succ]
                    refine tkn 47 (some 122) rfl rfl ?_
                    try simp only [Act.put, List.setIfInBounds_toArray, List.set_cons_zero, List.set_cons_succ]
                    refine tkn 48 (some 123) rfl rfl ?_
                    try simp only [Act.put, List.setIfInBounds_toArray, List.set_cons_zero, List.set_cons_succ]
                    refine tkn 49 (some 124) rfl rfl ?_
                    try simp only [Act.put, List.setIfInBounds_toArray, List.set_cons_zero, List.set_cons_succ]
                    refine tkn 50 (some 125) rfl rfl ?_
                    try simp only [Act.put, List.setIfInBounds_toArray, List.set_cons_zero, List.set_cons_succ]
                    refine tkn 51 (some 126) rfl rfl ?_
                    try simp only [Act.put, List.setIfInBounds_toArray, List.set_cons_zero, List.set_cons_succ]
                    refine tky 52 (some 127) rfl rfl ⟨?vxCp52, fun w hSw => ?axCp52, fun _ _ _ h => h, ?bxCp52⟩
                    case axCp52 => (try dsimp only at hSw); go_simp; (try rfl)
                    try simp only [Act.put, List.setIfInBounds_toArray, List.set_cons_zero, List.set_cons_succ]
                    refine tky 53 (some 128) rfl rfl ⟨?vxCp53, fun w hSw => ?axCp53, fun _ _ _ h => h, ?bxCp53⟩
                    case axCp53 => (try dsimp only at hSw); go_simp; (try rfl)
                    try simp only [Act.put, List.setIfInBounds_toArray, List.set_cons_zero, List.set_cons_succ]
                    refine wpAnyH_done (by kernel_rfl) ?_ _
                    go_wp2
                    exact ⟨⟨j + 1, _, rfl, by simp, by omega, HCn, chainB HB5.out (chainB hb6 hb7)⟩, by simp [intOf]; omega⟩
                  · go_upto_region 17 with (first
                      | (go_at_call 32; refine (hB _ (chainB HB.out hb4)).mono ?_; rintro e w5 ⟨rfl, hb5⟩)
                      | (go_at_call 32; refine (hA _ HB.out).mono ?_; rintro e w4 ⟨rfl, hb4⟩; have y0 := (hb4.cell (cellLt x0)).trans x0; have y1 := (hb4.cell (cellLt x1)).trans x1))
                    have hb45 := chainB hb4 hb5
                    go_upto_region 18 with fail
                    have z0 := (hb45.cell (cellLt x0)).trans x0
                    have z1 := (hb45.cell (cellLt x1)).trans x1
                    have z3 := ((chainB HB.out hb45).cell (cellLt y3)).trans y3
                    have HB5 : Hid (Below w3.heap.size w3 w5) := chainB HB.out hb45
                    have k0 : w5.drew.cell? ⟨g2, off2 + j * 2, none⟩ = some (.int .i64 x.d) ∧ w5.drew.cell? ⟨g2, off2 + j * 2 + 1, none⟩ = some (.string x.nm) ∧ w5.drew.cell? ⟨g3, 3, none⟩ = some (.slice b3.va NT b3.vc) := ⟨z0, z1, z3⟩
                    refine wp_region_held_drew (S := fun w' => w'.cell? ⟨g2, off2 + j * 2, none⟩ = some (.int .i64 x.d) ∧ w'.cell? ⟨g2, off2 + j * 2 + 1, none⟩ = some (.string x.nm) ∧ w'.cell? ⟨g3, 3, none⟩ = some (.slice b3.va NT b3.vc)) (by kernel_rfl) k0 (fun hHeld => ?_)
                    refine tky 0 (some 75) rfl rfl ⟨?vxCq0, fun w hSw => ?axCq0, fun _ _ _ h => h, ?bxCq0⟩
                    case axCq0 => (try dsimp only at hSw); go_simp; (try rfl)
                    try simp only [Act.put, List.setIfInBounds_toArray, List.set_cons_zero, List.set_cons_succ]
                    refine tky 1 (some 76) rfl rfl ⟨?vxCq1, fun w hSw => ?axCq1, fun _ _ _ h => h, ?bxCq1⟩
                    case axCq1 => (try dsimp only at hSw); go_simp; (try rfl)
                    try simp only [Act.put, List.setIfInBounds_toArray, List.set_cons_zero, List.set_cons_succ]
                    refine tkn 2 (some 77) rfl rfl ?_
                    try simp only [Act.put, List.setIfInBounds_toArray, List.set_cons_zero, List.set_cons_succ]
                    refine tkn 3 (some 78) rfl rfl ?_
                    try simp only [Act.put, List.setIfInBounds_toArray, List.set_cons_zero, List.set_cons_succ]
                    refine tkn 4 (some 79) rfl rfl ?_
                    try simp only [Act.put, List.setIfInBounds_toArray, List.set_cons_zero, List.set_cons_succ]
                    refine tkn 5 (some 80) rfl rfl ?_
                    try simp only [Act.put, List.setIfInBounds_toArray, List.set_cons_zero, List.set_cons_succ]
                    refine tkn 6 (some 81) rfl rfl ?_
                    try simp only [Act.put, List.setIfInBounds_toArray, List.set_cons_zero, List.set_cons_succ]
                    refine tkn 7 (some 82) rfl rfl ?_
                    try simp only [Act.put, List.setIfInBounds_toArray, List.set_cons_zero, List.set_cons_succ]
                    refine tkn 8 (some 83) rfl rfl ?_
                    try simp only [Act.put, List.setIfInBounds_toArray, List.set_cons_zero, List.set_cons_succ]
                    refine tkn 9 (some 84) rfl rfl ?_
                    try simp only [Act.put, List.setIfInBounds_toArray, List.set_cons_zero, List.set_cons_succ]
                    refine tkn 10 (some 85) rfl rfl ?_
                    try simp only [Act.put, List.setIfInBounds_toArray, List.set_cons_zero, List.set_cons_succ]
                    refine tkn 11 (some 86) rfl rfl ?_
                    try simp only [Act.put, List.setIfInBounds_toArray, List.set_cons_zero, List.set_cons_succ]
                    refine tkn 12 (some 87) rfl rfl ?_
                    try simp only [Act.put, List.setIfInBounds_toArray, List.set_cons_zero, List.set_cons_succ]
                    refine tkn 13 (some 88) rfl rfl ?_
                    try simp only [Act.put, List.setIfInBounds_toArray, List.set_cons_zero, List.set_cons_succ]
                    refine tkn 14 (some 89) rfl rfl ?_
                    try simp only [Act.put, List.setIfInBounds_toArray, List.set_cons_zero, List.set_cons_succ]
                    refine tkn 15 (some 90) rfl rfl ?_
                    try simp only [Act.put, List.setIfInBounds_toArray, List.set_cons_zero, List.set_cons_succ]
                    refine tkn 16 (some 91) rfl rfl ?_
                    try simp only [Act.put, List.setIfInBounds_toArray, List.set_cons_zero, List.set_cons_succ]
                    refine tky 17 (some 92) rfl rfl ⟨?vxCq17, fun w hSw => ?axCq17, fun _ _ _ h => h, ?bxCq17⟩
                    case axCq17 => (try dsimp only at hSw); go_simp; (try rfl)
                    try simp only [Act.put, List.setIfInBounds_toArray, List.set_cons_zero, List.set_cons_succ]
                    refine tky 18 (some 93) rfl rfl ⟨?vxCq18, fun w hSw => ?axCq18, fun _ _ _ h => h, ?bxCq18⟩
                    case axCq18 => (try dsimp only at hSw); go_simp; (try rfl)
                    try simp only [Act.put, List.setIfInBounds_toArray, List.set_cons_zero, List.set_cons_succ]
                    refine tky 19 (some 94) rfl rfl ⟨?vxCq19, fun w hSw => ?axCq19, fun _ _ _ h => h, ?bxCq19⟩
                    case axCq19 => (try dsimp only at hSw); go_simp; (try rfl)
                    try simp only [Act.put, List.setIfInBounds_toArray, List.set_cons_zero, List.set_cons_succ]
                    refine tky 20 (some 95) rfl rfl ⟨?vxCq20, fun w hSw => ?axCq20, fun _ _ _ h => h, ?bxCq20⟩
                    case axCq20 => (try dsimp only at hSw); go_simp; (try rfl)
                    try simp only [Act.put, List.setIfInBounds_toArray, List.set_cons_zero, List.set_cons_succ]
                    refine tky 21 (some 96) rfl rfl ⟨?vxCq21, fun w hSw => ?axCq21, fun _ _ _ h => h, ?bxCq21⟩
                    case axCq21 => (try dsimp only at hSw); go_simp; (try rfl)
                    try simp only [Act.put, List.setIfInBounds_toArray, List.set_cons_zero, List.set_cons_succ]
                    refine tky 22 (some 97) rfl rfl ⟨?vxCq22, fun w hSw => ?axCq22, fun _ _ _ h => h, ?bxCq22⟩
                    case axCq22 => (try dsimp only at hSw); go_simp; (try rfl)
                    try simp only [Act.put, List.setIfInBounds_toArray, List.set_cons_zero, List.set_cons_succ]
                    refine tky 23 (some 98) rfl rfl ⟨?vxCq23, fun w hSw => ?axCq23, fun _ _ _ h => h, ?bxCq23⟩
                    case axCq23 => (try dsimp only at hSw); go_simp; (try rfl)
                    try simp only [Act.put, List.setIfInBounds_toArray, List.set_cons_zero, List.set_cons_succ]
                    refine tky 24 (some 99) rfl rfl ⟨.bool true, fun w hSw => ?axCq24, fun _ _ _ h => h, ?bxCq24⟩
                    case axCq24 => (try dsimp only at hSw); go_simp; (try rfl)
                    try simp only [Act.put, List.setIfInBounds_toArray, List.set_cons_zero, List.set_cons_succ]
                    refine tky 25 (some 100) rfl rfl ⟨?vxCq25, fun w hSw => ?axCq25, fun _ _ _ h => h, ?bxCq25⟩
                    case axCq25 => (try dsimp only at hSw); go_simp; (try rfl)
                    try simp only [Act.put, List.setIfInBounds_toArray, List.set_cons_zero, List.set_cons_succ]
                    refine tky 26 (some 101) rfl rfl ⟨?vxCq26, fun w hSw => ?axCq26, fun _ _ _ h => h, ?bxCq26⟩
                    case axCq26 => (try dsimp only at hSw); go_simp; (try rfl)
                    try simp only [Act.put, List.setIfInBounds_toArray, List.set_cons_zero, List.set_cons_succ]
                    refine tky 27 (some 102) rfl rfl ⟨?vxCq27, fun w hSw => ?axCq27, fun _ _ _ h => h, ?bxCq27⟩
                    case axCq27 => (try dsimp only at hSw); go_simp; (try rfl)
                    try simp only [Act.put, List.setIfInBounds_toArray, List.set_cons_zero, List.set_cons_succ]
                    refine tky 28 (some 103) rfl rfl ⟨?vxCq28, fun w hSw => ?axCq28, fun _ _ _ h => h, ?bxCq28⟩
                    case axCq28 => (try dsimp only at hSw); go_simp; (try rfl)
                    try simp only [Act.put, List.setIfInBounds_toArray, List.set_cons_zero, List.set_cons_succ]
                    refine tky 29 (some 104) rfl rfl ⟨?vxCq29, fun w hSw => ?axCq29, fun _ _ _ h => h, ?bxCq29⟩
                    case axCq29 => (try dsimp only at hSw); go_simp; (try rfl)
                    try simp only [Act.put, List.setIfInBounds_toArray, List.set_cons_zero, List.set_cons_succ]
                    refine tky 30 (some 105) rfl rfl ⟨?vxCq30, fun w hSw => ?axCq30, fun _ _ _ h => h, ?bxCq30⟩
                    case axCq30 => (try dsimp only at hSw); go_simp; (try rfl)
                    try simp only [Act.put, List.setIfInBounds_toArray, List.set_cons_zero, List.set_cons_succ]
                    refine tky 31 (some 106) rfl rfl ⟨?vxCq31, fun w hSw => ?axCq31, fun _ _ _ h => h, ?bxCq31⟩
                    case axCq31 => (try dsimp only at hSw); go_simp; (try rfl)
                    try simp only [Act.put, List.setIfInBounds_toArray, List.set_cons_zero, List.set_cons_succ]
                    refine tky 32 (some 107) rfl rfl ⟨?vxCq32, fun w hSw => ?axCq32, fun _ _ _ h => h, ?bxCq32⟩
                    case axCq32 => (try dsimp only at hSw); go_simp; (try rfl)
                    try simp only [Act.put, List.setIfInBounds_toArray, List.set_cons_zero, List.set_cons_succ]
                    refine tky 33 (some 108) rfl rfl ⟨?vxCq33, fun w hSw => ?axCq33, fun _ _ _ h => h, ?bxCq33⟩
                    case axCq33 => (try dsimp only at hSw); go_simp; (try rfl)
                    try simp only [Act.put, List.setIfInBounds_toArray, List.set_cons_zero, List.set_cons_succ]
                    refine tky 34 (some 109) rfl rfl ⟨?vxCq34, fun w hSw => ?axCq34, fun _ _ _ h => h, ?bxCq34⟩
                    case axCq34 => (try dsimp only at hSw); go_simp; (try rfl)
                    try simp only [Act.put, List.setIfInBounds_toArray, List.set_cons_zero, List.set_cons_succ]
                    refine wpAnyH_ready (rs := [35]) (by kernel_rfl) (by simp) ?_
                    refine AllReadyH.cons rfl (fun K hK => ?_) AllReadyH.nil
                    go_simp
                    go_at_call 32
                    refine (hD _ (HB5.out.drew)).mono ?_
                    rintro e w6 ⟨rfl, hb60⟩
                    have hb6 := undrew hb60
                    have k6 : w6.cell? ⟨g2, off2 + j * 2, none⟩ = some (.int .i64 x.d) ∧ w6.cell? ⟨g2, off2 + j * 2 + 1, none⟩ = some (.string x.nm) ∧ w6.cell? ⟨g3, 3, none⟩ = some (.slice b3.va NT b3.vc) := keep3 ⟨z0, z1, z3⟩ hb6
                    refine hK.out _ _ k6 (fun hHeld => ?_)
                    clear hK K
                    try simp only [Act.put, List.setIfInBounds_toArray, List.set_cons_zero, List.set_cons_succ]
                    refine tky 36 (some 111) rfl rfl ⟨?vxCq36, fun w hSw => ?axCq36, fun _ _ _ h => h, ?bxCq36⟩
                    case axCq36 => (try dsimp only at hSw); go_simp; (try rfl)
                    try simp only [Act.put, List.setIfInBounds_toArray, List.set_cons_zero, List.set_cons_succ]
                    refine tky 37 (some 112) rfl rfl ⟨?vxCq37, fun w hSw => ?axCq37, fun _ _ _ h => h, ?bxCq37⟩
                    case axCq37 => (try dsimp only at hSw); go_simp; (try rfl)
                    try simp only [Act.put, List.setIfInBounds_toArray, List.set_cons_zero, List.set_cons_succ]
                    refine tky 38 (some 113) rfl rfl ⟨?vxCq38, fun w hSw => ?axCq38, fun _ _ _ h => h, ?bxCq38⟩
                    case axCq38 => (try dsimp only at hSw); go_simp; (try rfl)
                    try simp only [Act.put, List.setIfInBounds_toArray, List.set_cons_zero, List.set_cons_succ]
                    refine tky 39 (some 114) rfl rfl ⟨?vxCq39, fun w hSw => ?axCq39, fun _ _ _ h => h, ?bxCq39⟩
                    case axCq39 => (try dsimp only at hSw); go_simp; (try rfl)
                    try simp only [Act.put, List.setIfInBounds_toArray, List.set_cons_zero, List.set_cons_succ]
                    refine tky 40 (some 115) rfl rfl ⟨?vxCq40, fun w hSw => ?axCq40, fun _ _ _ h => h, ?bxCq40⟩
                    case axCq40 => (try dsimp only at hSw); go_simp; (try rfl)
                    try simp only [Act.put, List.setIfInBounds_toArray, List.set_cons_zero, List.set_cons_succ]
                    refine tky 41 (some 116) rfl rfl ⟨?vxCq41, fun w hSw => ?axCq41, fun _ _ _ h => h, ?bxCq41⟩
                    case axCq41 => (try dsimp only at hSw); go_simp; (try rfl)
                    try simp only [Act.put, List.setIfInBounds_toArray, List.set_cons_zero, List.set_cons_succ]
                    refine tky 42 (some 117) rfl rfl ⟨?vxCq42, fun w hSw => ?axCq42, fun _ _ _ h => h, ?bxCq42⟩
                    case axCq42 => (try dsimp only at hSw); go_simp; (try rfl)
                    try simp only [Act.put, List.setIfInBounds_toArray, List.set_cons_zero, List.set_cons_succ]
                    refine tky 43 (some 118) rfl rfl ⟨?vxCq43, fun w hSw => ?axCq43, fun _ _ _ h => h, ?bxCq43⟩
                    case axCq43 => (try dsimp only at hSw); go_simp; (try rfl)
                    try simp only [Act.put, List.setIfInBounds_toArray, List.set_cons_zero, List.set_cons_succ]
                    refine wpAnyH_ready (rs := [44]) (by kernel_rfl) (by simp) ?_
                    refine AllReadyH.cons rfl (fun K hK => ?_) AllReadyH.nil
                    go_simp
                    go_at_call 32
                    refine (hA _ (chainB HB5.out hb6)).mono ?_
                    rintro e w7 ⟨rfl, hb7⟩
                    have k7 : w7.cell? ⟨g2, off2 + j * 2, none⟩ = some (.int .i64 x.d) ∧ w7.cell? ⟨g2, off2 + j * 2 + 1, none⟩ = some (.string x.nm) ∧ w7.cell? ⟨g3, 3, none⟩ = some (.slice b3.va NT b3.vc) := keep3 k6 hb7
                    refine hK.out _ _ k7 (fun hHeld => ?_)
                    clear hK K
                    try simp only [Act.put, List.setIfInBounds_toArray, List.set_cons_zero, List.set_cons_succ]
                    refine tky 45 (some 120) rfl rfl ⟨?vxCq45, fun w hSw => ?axCq45, fun _ _ _ h => h, ?bxCq45⟩
                    case axCq45 => (try dsimp only at hSw); go_simp; (try rfl)
                    try simp only [Act.put, List.setIfInBounds_toArray, List.set_cons_zero, List.set_cons_succ]
                    refine tkn 46 (some 121) rfl rfl ?_
                    try simp only [Act.put, List.setIfInBounds_toArray, List.set_cons_zero, List.set_cons_succ]
                    refine tkn 47 (some 122) rfl rfl ?_
                    try simp only [Act.put, List.setIfInBounds_toArray, List.set_cons_zero, List.set_cons_succ]
                    refine tkn 48 (some 123) rfl rfl ?_
                    try simp only [Act.put, List.setIfInBounds_toArray, List.set_cons_zero, List.set_cons_succ]
                    refine tkn 49 (some 124) rfl rfl ?_
                    try simp only [Act.put, List.setIfInBounds_toArray, List.set_cons_zero, List.set_cons_succ]
                    refine tkn 50 (some 125) rfl rfl ?_
                    try simp only [Act.put, List.setIfInBounds_toArray, List.set_cons_zero, List.set_cons_succ]
                    refine tkn 51 (some 126) rfl rfl ?_
                    try simp only [Act.put, List.setIfInBounds_toArray, List.set_cons_zero, List.set_cons_succ]
                    refine tky 52 (some 127) rfl rfl ⟨?vxCq52, fun w hSw => ?axCq52, fun _ _ _ h => h, ?bxCq52⟩
                    case axCq52 => (try dsimp only at hSw); go_simp; (try rfl)
                    try simp only [Act.put, List.setIfInBounds_toArray, List.set_cons_zero, List.set_cons_succ]
                    refine tky 53 (some 128) rfl rfl ⟨?vxCq53, fun w hSw => ?axCq53, fun _ _ _ h => h, ?bxCq53⟩
                    case axCq53 => (try dsimp only at hSw); go_simp; (try rfl)
                    try simp only [Act.put, List.setIfInBounds_toArray, List.set_cons_zero, List.set_cons_succ]
                    refine wpAnyH_done (by kernel_rfl) ?_ _
                    go_wp2
                    exact ⟨⟨j + 1, _, rfl, by simp, by omega, HCn, chainB HB5.out (chainB hb6 hb7)⟩, by simp [intOf]; omega⟩
            · have hltz2 : ¬ (j : Int) < (n2 : Int) := by omega
              have hct : c = true := by rw [HC.out, List.take_of_length_le (by rw [H.out.2.2.2]; omega)]; exact HTf.out.2.2
              subst hct
              go_wp2_with (go_at_call 11; refine (awake_p _).mono ?_; rintro e w7 ⟨rfl, hb7⟩)
              go_ret
              exact ⟨by simp, chainB HB3.out (chainB HB.out hb7)⟩
  clear h6
  rcases Nat.lt_or_ge 32 n with h32 | h32
  · have h32z : (32 : Int) < (n : Int) := by omega
    have hc32 : 32 ≤ cap := by omega
    go_wp2
    rw [hs1.out h32]
    exact key _ _ _ _ _
  · have h32z : ¬ (32 : Int) < (n : Int) := by omega
    go_wp2
    rw [hs2.out (by omega)]
    exact key _ _ _ _ _
end Go.Proofs.Ytaofhjckliobpaa
