/- walk: components, one after the other, and anew where a link is met. -/
import Derived.Test.YtppbbddlbfgpfaaJWUps30
import Derived.ScopeJumps
namespace Go.Proofs.Ytppbbddlbfgpfaa
section
open Go.RowKit
attribute [local go_sem ↓ high] loadEn storeEn loadNd storeNd storeOu buildNd

/-- as Q; by a goto to the label 0: J, at a lesser number -/
def JumpG (J : Nat → Act → World → Prop) (M : Nat) (Q : Exit → Act → World → Prop) : Exit → Act → World → Prop
  | .goto l, a, w => l = 0 ∧ ∃ n, n < M ∧ J n a w
  | e, a, w => Q e a w
theorem JumpG.ret {J : Nat → Act → World → Prop} {M : Nat} {Q : Exit → Act → World → Prop} {a : Act} {w : World} (h : Q .ret a w) : JumpG J M Q .ret a w := h
theorem wp_skip_seq {P : Program} {a : Act} {w : World} {Q : Exit → Act → World → Prop} {X : Code} (h : X.wp P Q a w) : (Code.skip.seq X).wp P Q a w := by
  apply wp_seq
  apply wp_skip
  exact h
theorem wp_scope_one {P : Program} {a : Act} {w : World} {Q : Exit → Act → World → Prop} {c r0 : Code} (J : Nat → Act → World → Prop)
    (h0 : findLabel c 0 = some (Code.skip.seq r0)) (q0 : ∀ M n a w, J n a w → n ≤ M → r0.wp P (JumpG J M Q) a w)
    (first : (∀ M n a w, J n a w → n ≤ M → r0.wp P (JumpG J M Q) a w) → ∃ M, c.wp P (JumpG J M Q) a w) : (Code.scope c).wp P Q a w := by
  obtain ⟨M0, first⟩ := first q0
  intro b k cs
  have hg : gotoIn 0 (.inScope c :: k) = some (.code (Code.skip.seq r0) :: .inScope c :: k) := by simp [gotoIn, h0]
  have key : ∀ n a w, J n a w → ∃ e a' w', Q e a' w' ∧ Arrives P (lone (b.at a (.code (Code.skip.seq r0) :: .inScope c :: k)) cs w) b k cs e a' w' := by
    intro n
    induction n using Nat.strongRecOn with
    | _ n ih =>
      intro a w hJ
      obtain ⟨e, a₁, w₁, hq, harr⟩ := wp_skip_seq (q0 n n a w hJ (Nat.le_refl _)) b (.inScope c :: k) cs
      cases e with
      | normal => exact ⟨.normal, a₁, w₁, hq, Steps.trans harr (.one step_inScope)⟩
      | exit id => exact ⟨.exit id, a₁, w₁, hq, fun k' hk => harr k' (by simp [exitTo, hk])⟩
      | goto l' =>
        obtain ⟨rfl, n', hlt, hJ'⟩ := hq
        obtain ⟨e₂, a₂, w₂, hq₂, harr₂⟩ := ih n' hlt a₁ w₁ hJ'
        exact ⟨e₂, a₂, w₂, hq₂, .of_steps (harr _ hg) harr₂⟩
      | ret => exact ⟨_, a₁, w₁, hq, harr⟩
      | panic ch => exact ⟨_, a₁, w₁, hq, harr⟩
      | outgrown => exact ⟨_, a₁, w₁, hq, harr⟩
  obtain ⟨e, a₁, w₁, hq, harr⟩ := first b (.inScope c :: k) cs
  cases e with
  | normal => exact ⟨.normal, a₁, w₁, hq, .head step_scope (Steps.trans harr (.one step_inScope))⟩
  | exit id => exact ⟨.exit id, a₁, w₁, hq, fun k' hk => .head step_scope (harr k' (by simp [exitTo, hk]))⟩
  | goto l' =>
    obtain ⟨rfl, n', hlt, hJ'⟩ := hq
    obtain ⟨e₂, a₂, w₂, hq₂, harr₂⟩ := key n' a₁ w₁ hJ'
    exact ⟨e₂, a₂, w₂, hq₂, .of_steps (.head step_scope (harr _ hg)) harr₂⟩
  | ret => exact ⟨_, a₁, w₁, hq, .of_steps (.one step_scope) harr⟩
  | panic ch => exact ⟨_, a₁, w₁, hq, .of_steps (.one step_scope) harr⟩
  | outgrown => exact ⟨_, a₁, w₁, hq, .of_steps (.one step_scope) harr⟩
theorem JumpG.go {J : Nat → Act → World → Prop} {M : Nat} {Q : Exit → Act → World → Prop} {a : Act} {w : World} (h : ∃ n, n < M ∧ J n a w) : JumpG J M Q (.goto 0) a w := ⟨rfl, h⟩
theorem jw_u (u0 u1 u2 u3 u4 u5 u6 u7 u8 u9 u10 u11 u12 u13 u14 u15 u16 u17 u18 u19 u20 u21 u22 u23 u24 u25 u26 u27 u28 u29 u30 u31 u32 u33 u34 u35 u36 u37 u38 u39 u40 u41 u42 u43 u44 u45 u46 u47 u48 u49 u50 u51 u52 u53 u54 u55 u56 u57 u58 u59 u60 u61 u62 u63 u64 u65 u66 u67 u68 u69 u70 u71 u72 u73 u74 u75 u76 u77 u78 u79 u80 u81 u82 u83 u84 u85 u86 u87 u88 u89 u90 u91 u92 u93 u94 u95 u96 u97 u98 u99 u100 u101 u102 u103 u104 u105 u106 u107 u108 u109 u110 u111 u112 u113 u114 u115 u116 u117 u118 u119 u120 u121 : Value) : ∃ u : Nat → Value, (⟨#[u0, u1, u2, u3, u4, u5, u6, u7, u8, u9, u10, u11, u12, u13, u14, u15, u16, u17, u18, u19, u20, u21, u22, u23, u24, u25, u26, u27, u28, u29, u30, u31, u32, u33, u34, u35, u36, u37, u38, u39, u40, u41, u42, u43, u44, u45, u46, u47, u48, u49, u50, u51, u52, u53, u54, u55, u56, u57, u58, u59, u60, u61, u62, u63, u64, u65, u66, u67, u68, u69, u70, u71, u72, u73, u74, u75, u76, u77, u78, u79, u80, u81, u82, u83, u84, u85, u86, u87, u88, u89, u90, u91, u92, u93, u94, u95, u96, u97, u98, u99, u100, u101, u102, u103, u104, u105, u106, u107, u108, u109, u110, u111, u112, u113, u114, u115, u116, u117, u118, u119, u120, u121], []⟩ : Act) = ⟨#[u0, u1, u 2, u 3, u4, u 5, u 6, u 7, u 8, u 9, u 10, u 11, u 12, u 13, u 14, u 15, u 16, u 17, u 18, u 19, u 20, u 21, u 22, u 23, u 24, u 25, u 26, u 27, u 28, u 29, u 30, u 31, u 32, u 33, u 34, u 35, u 36, u 37, u 38, u 39, u 40, u 41, u 42, u 43, u 44, u 45, u 46, u 47, u 48, u 49, u 50, u 51, u 52, u 53, u 54, u 55, u 56, u 57, u 58, u 59, u 60, u 61, u 62, u 63, u 64, u 65, u 66, u 67, u 68, u 69, u 70, u 71, u 72, u 73, u 74, u 75, u 76, u 77, u 78, u 79, u 80, u 81, u 82, u 83, u 84, u 85, u 86, u 87, u 88, u 89, u 90, u 91, u 92, u 93, u 94, u 95, u 96, u 97, u 98, u 99, u 100, u 101, u 102, u 103, u 104, u 105, u 106, u 107, u 108, u 109, u 110, u 111, u 112, u 113, u 114, u 115, u 116, u 117, u 118, u 119, u 120, u 121], []⟩ :=
  ⟨fun i => [u0, u1, u2, u3, u4, u5, u6, u7, u8, u9, u10, u11, u12, u13, u14, u15, u16, u17, u18, u19, u20, u21, u22, u23, u24, u25, u26, u27, u28, u29, u30, u31, u32, u33, u34, u35, u36, u37, u38, u39, u40, u41, u42, u43, u44, u45, u46, u47, u48, u49, u50, u51, u52, u53, u54, u55, u56, u57, u58, u59, u60, u61, u62, u63, u64, u65, u66, u67, u68, u69, u70, u71, u72, u73, u74, u75, u76, u77, u78, u79, u80, u81, u82, u83, u84, u85, u86, u87, u88, u89, u90, u91, u92, u93, u94, u95, u96, u97, u98, u99, u100, u101, u102, u103, u104, u105, u106, u107, u108, u109, u110, u111, u112, u113, u114, u115, u116, u117, u118, u119, u120, u121].getD i undef, rfl⟩
/-- where the label stands -/
def Jw (w0 w : World) (P : Pw) (O : Ou) (n : Nat) (a : Act) (w' : World) : Prop :=
  ∃ aS nS cS, (∃ u : Nat → Value, a = ⟨#[.pointer (some ⟨P.t, 0, none⟩), .slice aS nS cS, u 2, u 3, .pointer (some ⟨w.heap.size, 0, none⟩), u 5, u 6, u 7, u 8, u 9, u 10, u 11, u 12, u 13, u 14, u 15, u 16, u 17, u 18, u 19, u 20, u 21, u 22, u 23, u 24, u 25, u 26, u 27, u 28, u 29, u 30, u 31, u 32, u 33, u 34, u 35, u 36, u 37, u 38, u 39, u 40, u 41, u 42, u 43, u 44, u 45, u 46, u 47, u 48, u 49, u 50, u 51, u 52, u 53, u 54, u 55, u 56, u 57, u 58, u 59, u 60, u 61, u 62, u 63, u 64, u 65, u 66, u 67, u 68, u 69, u 70, u 71, u 72, u 73, u 74, u 75, u 76, u 77, u 78, u 79, u 80, u 81, u 82, u 83, u 84, u 85, u 86, u 87, u 88, u 89, u 90, u 91, u 92, u 93, u 94, u 95, u 96, u 97, u 98, u 99, u 100, u 101, u 102, u 103, u 104, u 105, u 106, u 107, u 108, u 109, u 110, u 111, u 112, u 113, u 114, u 115, u 116, u 117, u 118, u 119, u 120, u 121], []⟩) ∧ nS ≤ cS ∧ ∃ steps s wv uv, Wt w0 w w' P O aS nS steps 0 s n wv uv
theorem str_eq (x : ByteArray) (l : List UInt8) (y : ByteArray) (h : y.toList = l) : (x.toList == l) = decide (x = y) := by
  rw [← h, Bool.eq_iff_iff, beq_iff_eq, decide_eq_true_iff]
  exact bytes_eq
theorem dot1_list : dot1.toList = [46] := by kernel_rfl
theorem dot2_list : dot2.toList = [46, 46] := by kernel_rfl
set_option maxHeartbeats 64000000 in
set_option maxRecDepth 100000 in
theorem walkM_p {w0 w : World} {P : Pw} {wv uv : Value} {s : Ws} {l : Nat} {F : Nat → Prop} (aS : Option Addr) (nS cS : Nat) (steps : List ByteArray) (h : IsW w0 w P wv uv s l F) (hr : RowS w aS steps) (hlen : steps.length = nS) (hcap : nS ≤ cS) (hF : ∀ b o, aS = some ⟨b, o, none⟩ → F b)
    (h1 : s.way.length + nS + 97 * l ≤ 1000000000000) (h2 : s.used.length + nS + 97 * l ≤ 1000000000000) (h8 : l ≤ 8) :
    Calls Try.prog 31 #[.pointer (some ⟨P.t, 0, none⟩), .slice aS nS cS] w fun r w' => WalkR w0 P.t (goW (knF P.fl P.cs) P.fol l steps s) r w' := by
  obtain ⟨O, hO⟩ : ∃ O, goW (knF P.fl P.cs) P.fol l steps s = O := ⟨_, rfl⟩
  obtain ⟨W1, hW1⟩ : ∃ W, w.alloc (.cells zeroes9 34) = W := ⟨_, rfl⟩
  have b1 := boxO hW1
  have HS : Hid (Wt w0 w W1 P O aS nS steps 0 s l wv uv) := by
    refine ⟨(h.on b1.2.1).mono fun b hb => ?_, b1.1, hr.below b1.2.1, hlen, by rw [List.drop_zero, ← goW_eq]; exact hO, by rw [Nat.sub_zero]; exact h1, by rw [Nat.sub_zero]; exact h2, h8, Nat.zero_le _⟩
    rcases hb with rfl | ⟨o, e⟩
    · exact .inr ⟨Nat.le_refl _, by have := b1.2.2; omega⟩
    · exact .inl (hF b o e)
  have HW0 : Hid (w0.heap.size ≤ w.heap.size) := h.below.size
  have HC0 : Hid (nS ≤ cS) := hcap
  rw [hO]
  clear h hr hlen hcap hF h1 h2 h8 b1 hO
  go_enter Try.func31, Try.ntmps31
  go_wp2
  refine wp_scope_one (Jw w0 w P O) rfl ?_ ?_
  · intro M n a w' hJ hn
    obtain ⟨aS, nS, cS, ⟨u, rfl⟩, hcap, steps, s, wv, uv, hT⟩ := hJ
    have HT : Hid (Wt w0 w w' P O aS nS steps 0 s n wv uv) := hT
    have HCp : Hid (nS ≤ cS) := hcap
    have HMn : Hid (n ≤ M) := hn
    have hnb : nS ≤ 1000000000000 := by have := hT.b1; omega
    clear hT hcap hn HS
    go_wp2
    go_loopw [1, 15] (fun s1 i wr => s1 = .slice aS nS cS ∧ ∃ j : Nat, j ≤ nS ∧ i = .int .i64 j ∧ Hid (∃ s wv uv, Wt w0 w wr P O aS nS steps j s n wv uv)) (fun _ i _ => nS - (intOf i).toNat)
    case atStart => exact ⟨rfl, 0, Nat.zero_le _, rfl, _, _, _, HT.out⟩
    case round =>
      clear HT
      obtain ⟨rfl, j, hj, rfl, HJ⟩ := hrel
      obtain ⟨s, wv, uv, hW⟩ := HJ.out
      obtain ⟨au, cu, hu⟩ := owns_len hW.is.used
      obtain ⟨mu, hmu⟩ : ∃ m, s.used.length = m := ⟨_, rfl⟩
      rw [hmu] at hu
      subst hu
      obtain ⟨aw, cw, hwv⟩ := owns_len hW.is.way
      obtain ⟨mw, hmw⟩ : ∃ m, s.way.length = m := ⟨_, rfl⟩
      rw [hmw] at hwv
      subst hwv
      have HW : Hid (Wt w0 w wr P O aS nS steps j s n (.slice aw mw cw) (.slice au mu cu)) := hW
      have hwl : s.way.length ≤ 1000000000000 := by have := hW.b1; omega
      have HD : Hid (∀ W, Below wr.heap.size wr W → Calls Try.prog 45 #[.pointer (some ⟨P.t, 0, none⟩)] W fun r w' => r = .returned (.bool s.inD) ∧ Below W.heap.size W w') := fun W hb => inDir_p (hW.is.on' hb) hwl
      have HH : Hid (∀ W, Below wr.heap.size wr W → Calls Try.prog 48 #[.pointer (some ⟨P.t, 0, none⟩)] W fun r w' => r = .returned (.agg #[.int .i64 s.here.id, .int .i64 s.here.kind, .int .i64 s.here.mode, .string s.here.tg]) ∧ Below W.heap.size W w') := fun W hb => here_p (hW.is.on' hb) hwl
      have HFl : Hid (∀ e W, Below wr.heap.size wr W → Calls Try.prog 46 #[.pointer (some ⟨P.t, 0, none⟩), .int .i64 e] W fun r w' => r = .returned (ouAgg (s.fail e) (.slice au mu cu)) ∧ Below W.heap.size W w') := fun e W hb => fail_p e (hW.is.on' hb)
      have HOu : Hid (∀ W o, Below wr.heap.size wr W → o.used = s.used → ∃ Z, (ouSt (.pointer (some ⟨w.heap.size, 0, none⟩)) (ouAgg o (.slice au mu cu))).run Try.prog W = .ok () Z ∧ Z.heap[w.heap.size]? = some (.cells (ouVals o (.slice au mu cu)).toArray 34 (0, 0)) ∧ RowK Z (P.t + 1) (.slice au mu cu) o.used ∧ Below w0.heap.size w0 Z ∧ Only (· = w.heap.size) W Z) := fun W o hb hu => fin_out (hW.is.on' hb) (.inl rfl) HW0.out (hkeep hW.out hb) o hu
      by_cases hlt : j < nS
      · have hltz : (j : Int) < (nS : Int) := by omega
        obtain ⟨x, bS, off, hx, rfl, hcell, hgo⟩ := hW.at hlt
        have p0 := hcell wr (Below.refl _ _)
        have HG : Hid (goI (knF P.fl P.cs) P.fol (metL (knF P.fl P.cs) P.fol n) (x :: steps.drop (j + 1)) s = O) := hgo
        have hw4 : IntKind.i64.wrap ((j : Int) + 1) = ((j + 1 : Nat) : Int) := by
          rw [show ((j + 1 : Nat) : Int) = (j : Int) + 1 by omega]; exact IntWalk.i64_in _ (by omega)
        have d1 := str_eq x [46] dot1 dot1_list
        have d2 := str_eq x [46, 46] dot2 dot2_list
        clear hW HJ hgo hcell hmu hmw hx
        obtain ⟨iD, hiD⟩ : ∃ b, s.inD = b := ⟨_, rfl⟩
        rw [hiD] at HD
        have HiD : Hid (s.inD = iD) := hiD
        clear hiD
        cases iD with
        | false =>
          have HE : Hid (O = s.fail 42) := by
            have := HG.out
            rw [goI, if_pos HiD.out] at this
            exact this.symm
          clear d1 d2
          go_wp2_with (first
            | (go_at_call 46; refine (HFl.out 42 _ H1.out).mono ?_; rintro r w2 ⟨rfl, hb⟩; obtain ⟨Z, st, HZ⟩ := HOu.out w2 (s.fail 42) (chainB H1.out hb) rfl; have HZ' : Hid _ := HZ; clear hb HZ)
            | (go_at_call 45; refine (HD.out _ (Below.refl _ _)).mono ?_; rintro r w1 ⟨rfl, hb⟩; have H1 : Hid (Below wr.heap.size wr w1) := hb; clear hb))
          (try simp only [Exit.inBlock, Exit.then])
          refine JumpG.ret ?_
          refine bodyPost_ret (ret_out rfl _ _ w.heap.size rfl HZ'.out.1) rfl ?_
          rw [HE.out]
          exact ⟨_, rfl, HZ'.out.2.1, HZ'.out.2.2.1⟩
        | true =>
          by_cases hd1 : x = dot1
          · rw [decide_eq_true hd1] at d1
            have HE : Hid (∀ W, Below wr.heap.size wr W → Wt w0 w W P O (some ⟨bS, off, none⟩) nS steps (j + 1) s n (.slice aw mw cw) (.slice au mu cu)) := fun W hb => by
              have := HG.out
              rw [goI, if_neg (by rw [HiD.out]; decide), if_pos hd1] at this
              have hq := HW.out.on hb
              exact hq.went hq.is (fun _ _ => rfl) (Nat.le_refl _) this (by have := hq.b1; omega) (by have := hq.b2; omega) hq.l8 hlt
            clear d2 hd1
            go_wp2_with (go_at_call 45; refine (HD.out _ (Below.refl _ _)).mono ?_; rintro r w1 ⟨rfl, hb⟩; have H1 : Hid (Wt w0 w w1 P O (some ⟨bS, off, none⟩) nS steps (j + 1) s n (.slice aw mw cw) (.slice au mu cu)) := HE.out w1 hb; clear hb)
            go_roundw
            case rel => exact ⟨rfl, j + 1, by omega, rfl, _, _, _, H1.out⟩
            case measure => simp [intOf]; omega
          · rw [decide_eq_false hd1] at d1
            by_cases hd2 : x = dot2
            · rw [decide_eq_true hd2] at d2
              have HUp : Hid (∀ W, Below wr.heap.size wr W → Calls Try.prog 47 #[.pointer (some ⟨P.t, 0, none⟩)] W fun r w' => r = .returned (.tuple #[]) ∧ ∃ wv' uv', Wt w0 w w' P O (some ⟨bS, off, none⟩) nS steps (j + 1) s.up n wv' uv') := fun W hb => by
                have hq := HW.out.on hb
                refine (up_p hq.is hwl).mono ?_
                rintro r w' ⟨rfl, wv', uv', hI, hk, hs⟩
                have := HG.out
                rw [goI, if_neg (by rw [HiD.out]; decide), if_neg hd1, if_pos hd2] at this
                exact ⟨rfl, wv', uv', hq.went hI hk hs this (by have := hq.b1; have := up_len s; omega) (by have := hq.b2; show s.used.length + _ + _ ≤ _; omega) hq.l8 hlt⟩
              clear hd1 hd2
              go_wp2_with (first
                | (go_at_call 47; refine (HUp.out _ H1.out).mono ?_; rintro r w2 ⟨rfl, wv2, uv2, ht⟩; have H2 : Hid (Wt w0 w w2 P O (some ⟨bS, off, none⟩) nS steps (j + 1) s.up n wv2 uv2) := ht; clear ht)
                | (go_at_call 45; refine (HD.out _ (Below.refl _ _)).mono ?_; rintro r w1 ⟨rfl, hb⟩; have H1 : Hid (Below wr.heap.size wr w1) := hb; clear hb))
              go_roundw
              case rel => exact ⟨rfl, j + 1, by omega, rfl, _, _, _, H2.out⟩
              case measure => simp [intOf]; omega
            · rw [decide_eq_false hd2] at d2
              obtain ⟨kd, hkd⟩ : ∃ k, s.here.id = k := ⟨_, rfl⟩
              rw [hkd] at HH
              have HKn0 : Hid (∀ W, Below wr.heap.size wr W → Calls Try.prog 49 #[.pointer (some ⟨P.t, 0, none⟩), .agg #[.int .i64 kd, .string x]] W fun r w' => r = .returned (.tuple #[((knF P.fl P.cs ⟨kd, x⟩).getD zeroEn).agg, .bool (knF P.fl P.cs ⟨kd, x⟩).isSome]) ∧ Below W.heap.size W w') := fun W hb => known_p ⟨kd, x⟩ (HW.out.is.on' hb)
              have HG2 : Hid ((match knF P.fl P.cs ⟨kd, x⟩ with
      | none => (⟨true, ⟨kd, x⟩, 0, zeroNd, s.used⟩ : Ou)
      | some e =>
        if e.neg then (s.use ⟨kd, x⟩).fail 40
        else if meetsB P.fol s e.nd (steps.drop (j + 1)) then metL (knF P.fl P.cs) P.fol n e.tg (steps.drop (j + 1)) (s.use ⟨kd, x⟩)
        else goI (knF P.fl P.cs) P.fol (metL (knF P.fl P.cs) P.fol n) (steps.drop (j + 1)) ((s.use ⟨kd, x⟩).go e.nd)) = O) := by
                have := HG.out
                rw [goI, if_neg (by rw [HiD.out]; decide), if_neg hd1, if_neg hd2, hkd] at this
                exact this
              have bx := box7
              have f0 := fldN0
              obtain ⟨oe, hoe⟩ : ∃ o, knF P.fl P.cs ⟨kd, x⟩ = o := ⟨_, rfl⟩
              rw [hoe] at HKn0 HG2
              clear hd1 hd2 hkd hoe HG
              cases oe with
              | none =>
                have HKn : Hid (∀ W, Below wr.heap.size wr W → Calls Try.prog 49 #[.pointer (some ⟨P.t, 0, none⟩), .agg #[.int .i64 kd, .string x]] W fun r w' => r = .returned (.tuple #[zeroEn.agg, .bool false]) ∧ Below W.heap.size W w') := HKn0.out
                have HE : Hid (O = ⟨true, ⟨kd, x⟩, 0, zeroNd, s.used⟩) := HG2.out.symm
                clear HKn0 HG2
                go_upto_region 13 with (first
                  | (go_at_call 49; refine (HKn.out _ (chainB H2.out bV1.2.1)).mono ?_; rintro r w3 ⟨rfl, hb⟩; obtain ⟨V2, hV2⟩ : ∃ V, w3.alloc (.cells zeroEn.vals.toArray 42) = V := ⟨_, rfl⟩; have bV2 := boxO hV2; have bb := chainB hb bV2.2.1; have H4 : Hid (Below wr.heap.size wr V2) := chainB H2.out (chainB bV1.2.1 bb); have t0 : V2.cell? ⟨w2.heap.size, 0, none⟩ = some (.int .i64 kd) := (bb.cell (cellLt v0)).trans v0; have t1 : V2.cell? ⟨w2.heap.size, 1, none⟩ = some (.string x) := (bb.cell (cellLt v1)).trans v1; clear hb bV2 bb)
                  | (go_at_call 48; refine (HH.out _ H1.out).mono ?_; rintro r w2 ⟨rfl, hb⟩; have H2 : Hid (Below wr.heap.size wr w2) := chainB H1.out hb; obtain ⟨V1, hV1⟩ : ∃ V, w2.alloc (.cells #[.int .i64 kd, .string x] 28) = V := ⟨_, rfl⟩; have bV1 := boxO hV1; have v0 : V1.cell? ⟨w2.heap.size, 0, none⟩ = some (.int .i64 kd) := (by rw [cell_of bV1.1]; rfl); have v1 : V1.cell? ⟨w2.heap.size, 1, none⟩ = some (.string x) := (by rw [cell_of bV1.1]; rfl); clear hb)
                  | (go_at_call 45; refine (HD.out _ (Below.refl _ _)).mono ?_; rintro r w1 ⟨rfl, hb⟩; have H1 : Hid (Below wr.heap.size wr w1) := hb; clear hb))
                have hcu := (HW.out.is.on' H4.out).cells.2.2.1
                obtain ⟨Z, st, HZ⟩ := HOu.out V2.drew ⟨true, ⟨kd, x⟩, 0, zeroNd, s.used⟩ (below_drewN H4.out 1) rfl
                have st2 : (ouSt (.pointer (some ⟨w.heap.size, 0, none⟩)) (.agg #[.bool true, .int .i64 kd, .string x, .int .i64 0, .int .i64 0, .int .i64 0, .int .i64 0, .string ⟨#[]⟩, .slice au mu cu])).run Try.prog V2.drew = .ok () Z := st
                have HZ' : Hid (Z.heap[w.heap.size]? = some (.cells (ouVals ⟨true, ⟨kd, x⟩, 0, zeroNd, s.used⟩ (.slice au mu cu)).toArray 34 (0, 0)) ∧ RowK Z (P.t + 1) (.slice au mu cu) s.used ∧ Below w0.heap.size w0 Z) := ⟨HZ.1, HZ.2.1, HZ.2.2.1⟩
                have hne : w2.heap.size ≠ w.heap.size ∧ P.t ≠ w.heap.size := by
                  have := H2.out.size
                  have := (HW.out.is.fk _ (.inl rfl))
                  exact ⟨by omega, fun e => this.2.1 e.symm⟩
                have k0 : V2.drew.cell? ⟨w2.heap.size, 0, none⟩ = some (.int .i64 kd) ∧ V2.drew.cell? ⟨w2.heap.size, 1, none⟩ = some (.string x) ∧ V2.drew.cell? ⟨P.t, 2, none⟩ = some (.slice au mu cu) := ⟨t0, t1, hcu⟩
                have kq : ∀ q i v, q ≠ w.heap.size → V2.cell? ⟨q, i, none⟩ = some v → Z.cell? ⟨q, i, none⟩ = some v := fun q i v hq hv => by
                  rw [← hv]
                  simp only [World.cell?]
                  rw [HZ.2.2.2.block q (cellLt hv) hq]
                  rfl
                have k1 : Z.cell? ⟨w2.heap.size, 0, none⟩ = some (.int .i64 kd) ∧ Z.cell? ⟨w2.heap.size, 1, none⟩ = some (.string x) ∧ Z.cell? ⟨P.t, 2, none⟩ = some (.slice au mu cu) := ⟨kq _ _ _ hne.1 t0, kq _ _ _ hne.1 t1, kq _ _ _ hne.2 hcu⟩
                clear kq hne HZ st t0 t1 hcu v0 v1 bV1 hV1 hV2
                go_region_held3 (fun W => W.cell? ⟨w2.heap.size, 0, none⟩ = some (.int .i64 kd) ∧ W.cell? ⟨w2.heap.size, 1, none⟩ = some (.string x) ∧ W.cell? ⟨P.t, 2, none⟩ = some (.slice au mu cu))
                  (with_reducible first | exact k0 | exact k1)
                  (fail)
                all_goals (
                  go_wp2
                  (try simp only [Exit.inBlock, Exit.then])
                  refine JumpG.ret ?_
                  refine bodyPost_ret (ret_out rfl _ _ w.heap.size rfl HZ'.out.1) rfl ?_
                  rw [HE.out]
                  exact ⟨_, rfl, HZ'.out.2.1, HZ'.out.2.2⟩)
              | some e =>
                have HKn : Hid (∀ W, Below wr.heap.size wr W → Calls Try.prog 49 #[.pointer (some ⟨P.t, 0, none⟩), .agg #[.int .i64 kd, .string x]] W fun r w' => r = .returned (.tuple #[e.agg, .bool true]) ∧ Below W.heap.size W w') := HKn0.out
                clear HKn0
                go_upto_region 14 with (first
                  | (go_at_call 49; refine (HKn.out _ (chainB H2.out bV1.2.1)).mono ?_; rintro r w3 ⟨rfl, hb⟩; obtain ⟨V2, hV2⟩ : ∃ V, w3.alloc (.cells e.vals.toArray 42) = V := ⟨_, rfl⟩; have bV2 := boxO hV2; have bb := chainB hb bV2.2.1; have hb4 : Below wr.heap.size wr V2 := chainB H2.out (chainB bV1.2.1 bb); have H4 : Hid (Below wr.heap.size wr V2) := hb4; have t0 : V2.cell? ⟨w2.heap.size, 0, none⟩ = some (.int .i64 kd) := (bb.cell (cellLt v0)).trans v0; have t1 : V2.cell? ⟨w2.heap.size, 1, none⟩ = some (.string x) := (bb.cell (cellLt v1)).trans v1; have hs3 : wr.heap.size ≤ w3.heap.size ∧ w3.heap.size < V2.heap.size := ⟨(chainB H2.out (chainB bV1.2.1 hb)).size, by have := bV2.2.2; omega⟩; obtain ⟨a6, N6, c6, Y, Z, hp⟩ := pushU (b := w2.heap.size) (k := ⟨kd, x⟩) (HW.out.is.on hb4) t0 t1 (by have := HW.out.b2; omega); obtain ⟨hY, papp, x2, y2, z2, zf, y0, y1, hfin, hkept, hsize⟩ := hp; obtain ⟨X2, hX2⟩ : ∃ X, Z.setCell ⟨P.t, 2, none⟩ (.slice a6 N6 c6) = X := ⟨_, rfl⟩; rw [hX2] at hfin hkept hsize; have H5 : Hid (IsW w0 X2 P (.slice aw mw cw) (.slice a6 N6 c6) (s.use ⟨kd, x⟩) n (fun b => (b = w.heap.size ∨ ∃ o, some (⟨bS, off, none⟩ : Addr) = some ⟨b, o, none⟩) ∨ wr.heap.size ≤ b ∧ b < V2.heap.size) ∧ (∀ q, ((q = w.heap.size ∨ ∃ o, some (⟨bS, off, none⟩ : Addr) = some ⟨q, o, none⟩) ∨ wr.heap.size ≤ q ∧ q < V2.heap.size) → X2.heap[q]? = V2.heap[q]?) ∧ V2.heap.size ≤ X2.heap.size ∧ X2.heap[w3.heap.size]? = some (.cells e.vals.toArray 42 (0, 0))) := ⟨hfin, hkept, hsize, (hkept _ (.inr hs3)).trans bV2.1⟩; clear hb bV2 bb hb4 hfin hkept hsize hs3)
                  | (go_at_call 48; refine (HH.out _ H1.out).mono ?_; rintro r w2 ⟨rfl, hb⟩; have H2 : Hid (Below wr.heap.size wr w2) := chainB H1.out hb; obtain ⟨V1, hV1⟩ : ∃ V, w2.alloc (.cells #[.int .i64 kd, .string x] 28) = V := ⟨_, rfl⟩; have bV1 := boxO hV1; have v0 : V1.cell? ⟨w2.heap.size, 0, none⟩ = some (.int .i64 kd) := (by rw [cell_of bV1.1]; rfl); have v1 : V1.cell? ⟨w2.heap.size, 1, none⟩ = some (.string x) := (by rw [cell_of bV1.1]; rfl); clear hb)
                  | (go_at_call 45; refine (HD.out _ (Below.refl _ _)).mono ?_; rintro r w1 ⟨rfl, hb⟩; have H1 : Hid (Below wr.heap.size wr w1) := hb; clear hb))
                have e2 : X2.cell? ⟨w3.heap.size, 2, none⟩ = some (.bool e.neg) := by rw [cell_of H5.out.2.2.2]; rfl
                have HEb : Hid (∀ W, Below X2.heap.size X2 W → Cells4 W w3.heap.size 3 e.nd) := fun W hb => ((cells7_of H5.out.2.2.2).node).below hb
                have ndl : (ndLd (.pointer (some ⟨w3.heap.size, 3, none⟩))).run Try.prog X2 = .ok e.nd.agg X2 := ndLd_at (HEb.out X2 (Below.refl _ _))
                have hj1 : ((j + 1 : Nat) : Int) ≤ (nS : Int) := by omega
                have hj0 : (0 : Int) ≤ ((j + 1 : Nat) : Int) := by omega
                have hnc : (nS : Int) ≤ (cS : Int) := by have := HCp.out; omega
                obtain ⟨ng, hng⟩ : ∃ b, e.neg = b := ⟨_, rfl⟩
                rw [hng] at e2
                have Hng : Hid (e.neg = ng) := hng
                have HO2 : Hid (∀ W o, Below X2.heap.size X2 W → o.used = (s.use ⟨kd, x⟩).used → ∃ Z, (ouSt (.pointer (some ⟨w.heap.size, 0, none⟩)) (ouAgg o (.slice a6 N6 c6))).run Try.prog W = .ok () Z ∧ Z.heap[w.heap.size]? = some (.cells (ouVals o (.slice a6 N6 c6)).toArray 34 (0, 0)) ∧ RowK Z (P.t + 1) (.slice a6 N6 c6) o.used ∧ Below w0.heap.size w0 Z ∧ Only (· = w.heap.size) W Z) := fun W o hb hu => fin_out (H5.out.1.on' hb) (.inl (.inl rfl)) HW0.out (hkeep ((H5.out.2.1 _ (.inl (.inl rfl))).trans (hkeep HW.out.out H4.out)) hb) o hu
                have HF2 : Hid (∀ e W, Below X2.heap.size X2 W → Calls Try.prog 46 #[.pointer (some ⟨P.t, 0, none⟩), .int .i64 e] W fun r w' => r = .returned (ouAgg ((s.use ⟨kd, x⟩).fail e) (.slice a6 N6 c6)) ∧ Below W.heap.size W w') := fun e W hb => fail_p e (H5.out.1.on' hb)
                have HRs : Hid (RowS X2 (if cS = j + 1 then some ⟨bS, off, none⟩ else some ⟨bS, off + (j + 1), none⟩) (steps.drop (j + 1)) ∧ (steps.drop (j + 1)).length = nS - (j + 1)) := by
                  refine ⟨rest_row (rowS_kept (HW.out.on H4.out).row H5.out.2.2.1 fun b o e => H5.out.2.1 b (.inl (.inr ⟨o, e⟩))) (by rw [HW.out.len]; exact hlt) (by rw [HW.out.len]; exact HCp.out), by rw [List.length_drop, HW.out.len]⟩
                have HWn : Hid (∀ W' wv' uv' s' n' i', IsW w0 W' P wv' uv' s' n' (fun b => (b = w.heap.size ∨ ∃ o, some (⟨bS, off, none⟩ : Addr) = some ⟨b, o, none⟩) ∨ wr.heap.size ≤ b ∧ b < V2.heap.size) → (∀ q, ((q = w.heap.size ∨ ∃ o, some (⟨bS, off, none⟩ : Addr) = some ⟨q, o, none⟩) ∨ wr.heap.size ≤ q ∧ q < V2.heap.size) → W'.heap[q]? = X2.heap[q]?) → X2.heap.size ≤ W'.heap.size → goI (knF P.fl P.cs) P.fol (metL (knF P.fl P.cs) P.fol n') (steps.drop i') s' = O → s'.way.length + (nS - i') + 97 * n' ≤ 1000000000000 → s'.used.length + (nS - i') + 97 * n' ≤ 1000000000000 → n' ≤ 8 → i' ≤ nS → Wt w0 w W' P O (some ⟨bS, off, none⟩) nS steps i' s' n' wv' uv') := fun W' wv' uv' s' n' i' hI hk hs hg q1 q2 q3 q4 => HW.out.went (hI.mono fun b hb => .inl hb) (fun b hb => (hk b (.inl hb)).trans ((H5.out.2.1 b (.inl hb)).trans (H4.out.block b (HW.out.is.fk b hb).1))) (by have := H4.out.size; have := H5.out.2.2.1; omega) hg q1 q2 q3 q4
                clear v0 v1 bV1 hV1 hV2 hng
                go_region_law (first | (refine step_apR rfl (.tmp 55) (.tmp 57) 32 rfl _ _ (.slice a6 N6 c6) Z (by simp [Act.eval]) (by simp [Act.eval]) papp ?_))
                all_goals (
                  clear papp x2 y2 z2 zf y0 y1 hY hX2 t0 t1
                  cases ng with
                  | true =>
                    have HE : Hid (O = (s.use ⟨kd, x⟩).fail 40) := by
                      have := HG2.out
                      simp only [Hng.out, if_true] at this
                      exact this.symm
                    go_wp2_with (go_at_call 46; refine (HF2.out 40 _ (Below.refl _ _)).mono ?_; rintro r w5 ⟨rfl, hb⟩; obtain ⟨Z5, st, HZ⟩ := HO2.out w5 ((s.use ⟨kd, x⟩).fail 40) hb rfl; have HZ' : Hid _ := HZ; clear hb HZ)
                    (try simp only [Exit.inBlock, Exit.then])
                    refine JumpG.ret ?_
                    refine bodyPost_ret (ret_out rfl _ _ w.heap.size rfl HZ'.out.1) rfl ?_
                    rw [HE.out]
                    exact ⟨_, rfl, HZ'.out.2.1, HZ'.out.2.2.1⟩
                  | false =>
                    have HG3 : Hid ((if meetsB P.fol s e.nd (steps.drop (j + 1)) then metL (knF P.fl P.cs) P.fol n e.tg (steps.drop (j + 1)) (s.use ⟨kd, x⟩) else goI (knF P.fl P.cs) P.fol (metL (knF P.fl P.cs) P.fol n) (steps.drop (j + 1)) ((s.use ⟨kd, x⟩).go e.nd)) = O) := by
                      have := HG2.out
                      simp only [Hng.out, Bool.false_eq_true, if_false] at this
                      exact this
                    go_upto_region 18 with fail
                    obtain ⟨aR, haR⟩ : ∃ a, (if cS = j + 1 then some (⟨bS, off, none⟩ : Addr) else some ⟨bS, off + (j + 1), none⟩) = a := ⟨_, rfl⟩
                    obtain ⟨kR, hkR⟩ : ∃ k, nS - (j + 1) = k := ⟨_, rfl⟩
                    obtain ⟨cR, hcR⟩ : ∃ k, cS - (j + 1) = k := ⟨_, rfl⟩
                    rw [haR, hkR] at HRs
                    rw [haR, hkR, hcR]
                    obtain ⟨mb, hmb⟩ : ∃ b, meetsB P.fol s e.nd (steps.drop (j + 1)) = b := ⟨_, rfl⟩
                    have HMs : Hid (Calls Try.prog 50 #[.pointer (some ⟨P.t, 0, none⟩), e.nd.agg, .slice aR kR cR] X2 fun r w' => r = .returned (.bool mb) ∧ Below X2.heap.size X2 w') := by
                      have := meets_p e.nd aR kR cR H5.out.1
                      rw [show (decide (e.nd.kind = 3) && (decide (0 < kR) || (s.use ⟨kd, x⟩).dir || P.fol)) = mb by rw [← hmb]; unfold meetsB; rw [HRs.out.2]; rfl] at this
                      exact this
                    have HkR : Hid (nS - (j + 1) = kR ∧ ∀ b o, aR = some ⟨b, o, none⟩ → b = bS) := ⟨hkR, fun b o ea => by
                      rw [← haR] at ea
                      split at ea <;> (cases ea; rfl)⟩
                    rw [hmb] at HG3
                    clear haR hkR hcR hmb hj0 hj1 hnc
                    cases mb with
                    | false =>
                      go_upto_region 19 with (go_at_call 50; refine HMs.out.mono ?_; rintro r w5 ⟨rfl, hb⟩; have H6 : Hid (Below X2.heap.size X2 w5) := hb; clear hb ndl)
                      obtain ⟨b6, M6, d6, Y6, Z6, hp⟩ := pushN (b := w3.heap.size) (x := e.nd) (H5.out.1.on' H6.out) (HEb.out w5 H6.out) (by show s.way.length + 1 ≤ _; omega)
                      obtain ⟨pone, papp, x2, y2, z2, zf, ld, ldY, hfin, hkept, hsize⟩ := hp
                      obtain ⟨X3, hX3⟩ : ∃ X, Z6.setCell ⟨P.t, 1, none⟩ (.slice b6 M6 d6) = X := ⟨_, rfl⟩
                      rw [hX3] at hfin hkept hsize
                      have H7 : Hid (Wt w0 w X3 P O (some ⟨bS, off, none⟩) nS steps (j + 1) ((s.use ⟨kd, x⟩).go e.nd) n (.slice b6 M6 d6) (.slice a6 N6 c6)) := by
                        have hg := HG3.out
                        simp only [Bool.false_eq_true, if_false] at hg
                        have q1 := HW.out.b1
                        have q2 := HW.out.b2
                        refine HWn.out X3 _ _ _ n (j + 1) hfin (fun q hq => (hkept q hq).trans (H6.out.block q (H5.out.1.fk q hq).1)) (Nat.le_trans H6.out.size hsize) hg ?_ ?_ HW.out.l8 hlt
                        · show (s.way ++ [e.nd]).length + _ + _ ≤ _
                          rw [List.length_append]; simp only [List.length_cons, List.length_nil]; omega
                        · show (s.used ++ [_]).length + _ + _ ≤ _
                          rw [List.length_append]; simp only [List.length_cons, List.length_nil]; omega
                      clear hfin hkept hsize
                      go_region_law (first | (refine step_apR rfl (.tmp 79) (.tmp 82) 40 rfl _ _ (.slice b6 M6 d6) Z6 (by simp [Act.eval]) (by simp [Act.eval]) papp ?_))
                      all_goals (
                        clear pone papp x2 y2 z2 zf ld ldY
                        go_wp2
                        go_roundw
                        case rel => exact ⟨rfl, j + 1, by omega, rfl, _, _, _, H7.out⟩
                        case measure => simp [intOf]; omega)
                    | true =>
                      have HG4 : Hid (metL (knF P.fl P.cs) P.fol n e.tg (steps.drop (j + 1)) (s.use ⟨kd, x⟩) = O) := by
                        have := HG3.out
                        simp only [if_true] at this
                        exact this
                      clear HG3
                      rcases Nat.eq_zero_or_pos n with hn0 | hn1
                      · have HMt : Hid (∀ W, Below X2.heap.size X2 W → Calls Try.prog 51 #[.pointer (some ⟨P.t, 0, none⟩), e.nd.agg, .slice aR kR cR] W fun r w' => r = .returned (.tuple #[.slice none 0 0, .int .i64 49]) ∧ Below W.heap.size W w') := fun W hb => by
                          have hI := H5.out.1.on' hb
                          rw [hn0] at hI
                          exact meet_loop e.nd aR kR cR hI
                        have HE : Hid (O = (s.use ⟨kd, x⟩).fail 49) := by
                          have := HG4.out
                          rw [hn0] at this
                          exact this.symm
                        clear hn0
                        go_wp2_with (first
                          | (go_at_call 46; refine (HF2.out 49 _ H7.out).mono ?_; rintro r w7 ⟨rfl, hb⟩; obtain ⟨Z5, st, HZ⟩ := HO2.out w7 ((s.use ⟨kd, x⟩).fail 49) (chainB H7.out hb) rfl; have HZ' : Hid _ := HZ; clear hb HZ)
                          | (go_at_call 51; refine (HMt.out _ H6.out).mono ?_; rintro r w6 ⟨rfl, hb⟩; have H7 : Hid (Below X2.heap.size X2 w6) := chainB H6.out hb; clear hb)
                          | (go_at_call 50; refine HMs.out.mono ?_; rintro r w5 ⟨rfl, hb⟩; have H6 : Hid (Below X2.heap.size X2 w5) := hb; have ndl5 := ndLd_at (HEb.out w5 hb); clear hb))
                        (try simp only [Exit.inBlock, Exit.then])
                        refine JumpG.ret ?_
                        refine bodyPost_ret (ret_out rfl _ _ w.heap.size rfl HZ'.out.1) rfl ?_
                        rw [HE.out]
                        exact ⟨_, rfl, HZ'.out.2.1, HZ'.out.2.2.1⟩
                      · obtain ⟨n', hn'⟩ : ∃ n', n = n' + 1 := ⟨n - 1, by omega⟩
                        obtain ⟨E, hE⟩ : ∃ E, cutE e.tg (fullB e.tg) = E := ⟨_, rfl⟩
                        by_cases hE0 : E = 0
                        · subst hE0
                          obtain ⟨L, hL⟩ : ∃ L, cutL e.tg (fullB e.tg) = L := ⟨_, rfl⟩
                          obtain ⟨s', hs'⟩ : ∃ s', (s.use ⟨kd, x⟩).met e.tg (decide (kR = 0)) = s' := ⟨_, rfl⟩
                          obtain ⟨kL, hkL⟩ : ∃ k, L.length = k := ⟨_, rfl⟩
                          have HMt : Hid (∀ W, Below X2.heap.size X2 W → Calls Try.prog 51 #[.pointer (some ⟨P.t, 0, none⟩), e.nd.agg, .slice aR kR cR] W fun r w' => ∃ av cv, r = .returned (.tuple #[.slice av kL cv, .int .i64 0]) ∧ MetR w0 W w' P s' n' (fun b => (b = w.heap.size ∨ ∃ o, some (⟨bS, off, none⟩ : Addr) = some ⟨b, o, none⟩) ∨ wr.heap.size ≤ b ∧ b < V2.heap.size) (.slice av kL cv) L) := fun W hb => by
                            have hI := H5.out.1.on' hb
                            rw [hn'] at hI
                            refine (meet_ok e.nd aR kR cR hI (by have := HW.out.l8; omega) hE).mono ?_
                            rintro r w' ⟨v, rfl, hm⟩
                            rw [show cutL e.nd.tg (fullB e.nd.tg) = L from hL, show (s.use ⟨kd, x⟩).met e.nd.tg (decide (kR = 0)) = s' from hs'] at hm
                            obtain ⟨av, cv, hv⟩ := owns_len hm.1
                            rw [hkL] at hv
                            subst hv
                            exact ⟨av, cv, rfl, hm⟩
                          have HL : Hid (L.length = kL ∧ kL ≤ 97 ∧ n = n' + 1 ∧ s'.way.length ≤ s.way.length ∧ s'.used.length = s.used.length + 1) := by
                            have hm := met_len (s.use ⟨kd, x⟩) e.tg (decide (kR = 0)) H5.out.1.some1
                            rw [hs'] at hm
                            refine ⟨hkL, by rw [← hkL, ← hL]; exact cutL_len _ _, hn', hm.1, ?_⟩
                            rw [hm.2]
                            show (s.used ++ [_]).length = _
                            rw [List.length_append]; rfl
                          have HGo : Hid (goI (knF P.fl P.cs) P.fol (metL (knF P.fl P.cs) P.fol n') (L ++ steps.drop (j + 1)) s' = O) := by
                            have := HG4.out
                            rw [hn'] at this
                            change metW (goW (knF P.fl P.cs) P.fol n') e.tg (steps.drop (j + 1)) (s.use ⟨kd, x⟩) = O at this
                            unfold metW at this
                            rw [if_pos hE, hL, HRs.out.2, hs', goW_eq] at this
                            exact this
                          clear hn1 hn' hE hL hs' hkL
                          go_wp2_with (first
                            | (go_at_call 52; refine HCn.out.mono ?_; rintro r w7 ⟨a7, N7, c7, rfl, ho, hb⟩; have H9 : Hid (Own w7 V6.heap.size (.slice a7 N7 c7) (L ++ steps.drop (j + 1)) ∧ Below V6.heap.size V6 w7 ∧ N7 = (L ++ steps.drop (j + 1)).length) := ⟨ho, hb.1, hb.2⟩; clear ho hb)
                            | (go_at_call 51; refine (HMt.out _ H6.out).mono ?_; rintro r w6 ⟨av, cv, rfl, hm⟩; have H7 : Hid (MetR w0 w5 w6 P s' n' (fun b => (b = w.heap.size ∨ ∃ o, some (⟨bS, off, none⟩ : Addr) = some ⟨b, o, none⟩) ∨ wr.heap.size ≤ b ∧ b < V2.heap.size) (.slice av kL cv) L) := hm; obtain ⟨V6, hV6⟩ : ∃ V, w6.alloc (.cells #[.slice av kL cv, .slice aR kR cR] 36) = V := ⟨_, rfl⟩; have bV6 := boxO hV6; have H8 : Hid (V6.heap[w6.heap.size]? = some (.cells #[.slice av kL cv, .slice aR kR cR] 36 (0, 0)) ∧ Below w6.heap.size w6 V6) := ⟨bV6.1, bV6.2.1⟩; have HCn : Hid (Calls Try.prog 52 #[.slice (some ⟨w6.heap.size, 0, none⟩) 2 2] V6 fun r w' => ∃ a7 N7 c7, r = .returned (.slice a7 N7 c7) ∧ Own w' V6.heap.size (.slice a7 N7 c7) (L ++ steps.drop (j + 1)) ∧ Below V6.heap.size V6 w' ∧ N7 = (L ++ steps.drop (j + 1)).length) := (concat_call HL.out.1 HRs.out.2 hm (fun b o ea => .inl (.inr ⟨off, by rw [HkR.out.2 b o ea]⟩)) (HRs.out.1.below H6.out) bV6.1 bV6.2.1 (by have := HL.out; have := HW.out.b1; have := HkR.out.1; omega)); clear hm bV6)
                            | (go_at_call 50; refine HMs.out.mono ?_; rintro r w5 ⟨rfl, hb⟩; have H6 : Hid (Below X2.heap.size X2 w5) := hb; have ndl5 := ndLd_at (HEb.out w5 hb); clear hb))
                          apply wp_goto
                          have HLn : N7 = kL + kR := by rw [H9.out.2.2, List.length_append, HL.out.1, HRs.out.2]
                          have HWt : Wt w0 w w7 P O a7 N7 (L ++ steps.drop (j + 1)) 0 s' n' H7.out.2.choose H7.out.2.choose_spec.choose := by
                            have hI := H7.out.2.choose_spec.choose_spec.1
                            have hk := H7.out.2.choose_spec.choose_spec.2.1
                            have hb67 : Below w6.heap.size w6 w7 := chainB H8.out.2 H9.out.2.1
                            have hI7 := (hI.mono (G := fun b => b = w.heap.size) (fun b hb => .inl (.inl (.inl hb)))).on hb67
                            obtain ⟨ar, cr, er, hrow⟩ := Own.row H9.out.1
                            injection er with er1 er2 er3
                            subst er1
                            have hq1 := HW.out.b1
                            have hq2 := HW.out.b2
                            have hq8 := HW.out.l8
                            have hL5 := HL.out
                            have hk5 := HkR.out.1
                            refine ⟨hI7.mono fun b hb => ?_, hkeep ((hk _ (.inl (.inl rfl))).trans (hkeep ((H5.out.2.1 _ (.inl (.inl rfl))).trans (hkeep HW.out.out H4.out)) H6.out)) hb67, hrow, H9.out.2.2.symm, by rw [List.drop_zero]; exact HGo.out, by omega, by omega, by omega, Nat.zero_le _⟩
                            rcases hb with hb | ⟨o, ea⟩
                            · exact .inl hb
                            · have := World.ownsRow.lt H9.out.1 b (by rw [ea]; rfl)
                              exact .inr ⟨Nat.le_trans H8.out.2.size this.1, this.2⟩
                          exact JumpG.go (Q := fun _ _ _ => True) ⟨n', by have := HL.out.2.2.1; have := HMn.out; omega, a7, N7, c7, jw_u _ _ _ _ _ _ _ _ _ _ _ _ _ _ _ _ _ _ _ _ _ _ _ _ _ _ _ _ _ _ _ _ _ _ _ _ _ _ _ _ _ _ _ _ _ _ _ _ _ _ _ _ _ _ _ _ _ _ _ _ _ _ _ _ _ _ _ _ _ _ _ _ _ _ _ _ _ _ _ _ _ _ _ _ _ _ _ _ _ _ _ _ _ _ _ _ _ _ _ _ _ _ _ _ _ _ _ _ _ _ _ _ _ _ _ _ _ _ _ _ _ _, by rw [H9.out.2.2]; exact Own.lim H9.out.1, _, s', _, _, HWt⟩
                        · have HMt : Hid (∀ W, Below X2.heap.size X2 W → Calls Try.prog 51 #[.pointer (some ⟨P.t, 0, none⟩), e.nd.agg, .slice aR kR cR] W fun r w' => r = .returned (.tuple #[.slice none 0 0, .int .i64 E]) ∧ AfW w0 W w' P (s.use ⟨kd, x⟩) n' (fun b => (b = w.heap.size ∨ ∃ o, some (⟨bS, off, none⟩ : Addr) = some ⟨b, o, none⟩) ∨ wr.heap.size ≤ b ∧ b < V2.heap.size)) := fun W hb => by
                            have hI := H5.out.1.on' hb
                            rw [hn'] at hI
                            have := meet_bad e.nd aR kR cR hI (by have := HW.out.l8; omega) (by show cutE e.tg (fullB e.tg) ≠ 0; rw [hE]; exact hE0)
                            rw [show cutE e.nd.tg (fullB e.nd.tg) = E from hE] at this
                            exact this
                          have HE : Hid (O = (s.use ⟨kd, x⟩).fail E) := by
                            have := HG4.out
                            rw [hn'] at this
                            change metW (goW (knF P.fl P.cs) P.fol n') e.tg (steps.drop (j + 1)) (s.use ⟨kd, x⟩) = O at this
                            unfold metW at this
                            rw [hE, if_neg hE0] at this
                            exact this.symm
                          have hEb : (E != 0) = true := by simpa using hE0
                          clear hn1 hn' hE hE0
                          go_wp2_with (first
                            | (go_at_call 46; refine (HF6.out E _ (Below.refl _ _)).mono ?_; rintro r w7 ⟨rfl, hb⟩; obtain ⟨Z5, st, HZ⟩ := HO6.out w7 ((s.use ⟨kd, x⟩).fail E) hb rfl; have HZ' : Hid _ := HZ; clear hb HZ)
                            | (go_at_call 51; refine (HMt.out _ H6.out).mono ?_; rintro r w6 ⟨rfl, wv6, uv6, hI6, hk6, hs6⟩; obtain ⟨au6, cu6, hu6⟩ := owns_len hI6.used; obtain ⟨mu6, hmu6⟩ : ∃ m, (s.use ⟨kd, x⟩).used.length = m := ⟨_, rfl⟩; rw [hmu6] at hu6; subst hu6; have HF6 : Hid (∀ e W, Below w6.heap.size w6 W → Calls Try.prog 46 #[.pointer (some ⟨P.t, 0, none⟩), .int .i64 e] W fun r w' => r = .returned (ouAgg ((s.use ⟨kd, x⟩).fail e) (.slice au6 mu6 cu6)) ∧ Below W.heap.size W w') := fun e W hb => fail_p e (hI6.on' hb); have HO6 : Hid (∀ W o, Below w6.heap.size w6 W → o.used = (s.use ⟨kd, x⟩).used → ∃ Z, (ouSt (.pointer (some ⟨w.heap.size, 0, none⟩)) (ouAgg o (.slice au6 mu6 cu6))).run Try.prog W = .ok () Z ∧ Z.heap[w.heap.size]? = some (.cells (ouVals o (.slice au6 mu6 cu6)).toArray 34 (0, 0)) ∧ RowK Z (P.t + 1) (.slice au6 mu6 cu6) o.used ∧ Below w0.heap.size w0 Z ∧ Only (· = w.heap.size) W Z) := fun W o hb hu => fin_out (hI6.on' hb) (.inl (.inl rfl)) HW0.out (hkeep ((hk6 _ (.inl (.inl rfl))).trans (hkeep ((H5.out.2.1 _ (.inl (.inl rfl))).trans (hkeep HW.out.out H4.out)) H6.out)) hb) o hu; clear hI6 hk6 hs6 hmu6)
                            | (go_at_call 50; refine HMs.out.mono ?_; rintro r w5 ⟨rfl, hb⟩; have H6 : Hid (Below X2.heap.size X2 w5) := hb; have ndl5 := ndLd_at (HEb.out w5 hb); clear hb))
                          (try simp only [Exit.inBlock, Exit.then])
                          refine JumpG.ret ?_
                          refine bodyPost_ret (ret_out rfl _ _ w.heap.size rfl HZ'.out.1) rfl ?_
                          rw [HE.out]
                          exact ⟨_, rfl, HZ'.out.2.1, HZ'.out.2.2.1⟩)
      · obtain rfl : j = nS := by omega
        have hltz : ¬ (j : Int) < (j : Int) := by omega
        have HE : Hid (s.fin = O) := by
          have := hW.goal
          rw [List.drop_of_length_le (by rw [hW.len]; exact Nat.le_refl _), goI] at this
          exact this
        have hcell : ∀ W, Below wr.heap.size wr W → W.cell? ⟨P.t, 2, none⟩ = some (.slice au mu cu) ∧ W.cell? ⟨P.t, 3, none⟩ = some (.bool s.dir) := fun W hb => ⟨(hW.is.on' hb).cells.2.2.1, (hW.is.on' hb).cells.2.2.2.1⟩
        have HCl : Hid (∀ W, Below wr.heap.size wr W → W.cell? ⟨P.t, 2, none⟩ = some (.slice au mu cu) ∧ W.cell? ⟨P.t, 3, none⟩ = some (.bool s.dir)) := hcell
        have hnt : P.t ≠ w.heap.size := fun e => (hW.is.fk _ (.inl rfl)).2.1 e.symm
        obtain ⟨-, p3⟩ := hcell wr (Below.refl _ _)
        obtain ⟨dr, hdr⟩ : ∃ d, s.dir = d := ⟨_, rfl⟩
        obtain ⟨iD, hiD⟩ : ∃ d, s.inD = d := ⟨_, rfl⟩
        rw [hdr] at p3
        rw [hiD] at HD
        have Hdi : Hid (s.dir = dr ∧ s.inD = iD ∧ P.t ≠ w.heap.size) := ⟨hdr, hiD, hnt⟩
        clear hW HJ hmu hmw hcell hdr hiD hnt
        have key27 : ∀ V, Below wr.heap.size wr V → (s.dir && !s.inD) = false → Hid (O = ⟨false, zeroKy, 0, s.here, s.used⟩) := fun V hb hd => by
          have := HE.out
          unfold Ws.fin at this
          rw [hd] at this
          exact this.symm
        cases dr with
        | false =>
          have HE2 := key27 wr (Below.refl _ _) (by rw [Hdi.out.1]; rfl)
          clear key27
          go_upto_region 27 with fail
          have k0 := (HCl.out wr.drew (below_drewN (Below.refl _ _) 1)).1
          have H9 : Hid (Below wr.heap.size wr wr.drew) := below_drewN (Below.refl _ _) 1
          clear p3
          go_region_held3 (fun W => W.cell? ⟨P.t, 2, none⟩ = some (.slice au mu cu))
            (with_reducible first | exact k0 | exact k1 | exact k2)
            (first | (go_at_call 48; refine (HH.out _ H9.out).mono ?_; rintro r w8 ⟨rfl, hb⟩; have hb8 := chainB H9.out hb; obtain ⟨Z, st, HZ⟩ := HOu.out w8 ⟨false, zeroKy, 0, s.here, s.used⟩ hb8 rfl; have k1 := (HCl.out w8 hb8).1; have k2 : Z.cell? ⟨P.t, 2, none⟩ = some (.slice au mu cu) := (by rw [← k1]; simp only [World.cell?]; rw [HZ.2.2.2.block P.t (cellLt k1) Hdi.out.2.2]); have st2 : (ouSt (.pointer (some ⟨w.heap.size, 0, none⟩)) (.agg #[.bool false, .int .i64 0, .string ⟨#[]⟩, .int .i64 0, .int .i64 s.here.id, .int .i64 s.here.kind, .int .i64 s.here.mode, .string s.here.tg, .slice au mu cu])).run Try.prog w8 = .ok () Z := st; have HZ' : Hid (Z.heap[w.heap.size]? = some (.cells (ouVals ⟨false, zeroKy, 0, s.here, s.used⟩ (.slice au mu cu)).toArray 34 (0, 0)) ∧ RowK Z (P.t + 1) (.slice au mu cu) s.used ∧ Below w0.heap.size w0 Z) := ⟨HZ.1, HZ.2.1, HZ.2.2.1⟩; clear hb hb8 HZ st))
          all_goals (
            go_wp2
            (try simp only [Exit.inBlock, Exit.then])
            refine JumpG.ret ?_
            refine bodyPost_ret (ret_out rfl _ _ w.heap.size rfl HZ'.out.1) rfl ?_
            rw [HE2.out]
            exact ⟨_, rfl, HZ'.out.2.1, HZ'.out.2.2⟩)
        | true =>
          cases iD with
          | false =>
            have HE2 : Hid (O = s.fail 42) := by
              have := HE.out
              unfold Ws.fin at this
              rw [Hdi.out.1, Hdi.out.2.1] at this
              exact this.symm
            clear key27
            go_wp2_with (first
              | (go_at_call 46; refine (HFl.out 42 _ H1.out).mono ?_; rintro r w2 ⟨rfl, hb⟩; obtain ⟨Z, st, HZ⟩ := HOu.out w2 (s.fail 42) (chainB H1.out hb) rfl; have HZ' : Hid _ := HZ; clear hb HZ)
              | (go_at_call 45; refine (HD.out _ (Below.refl _ _)).mono ?_; rintro r w1 ⟨rfl, hb⟩; have H1 : Hid (Below wr.heap.size wr w1) := hb; clear hb))
            (try simp only [Exit.inBlock, Exit.then])
            refine JumpG.ret ?_
            refine bodyPost_ret (ret_out rfl _ _ w.heap.size rfl HZ'.out.1) rfl ?_
            rw [HE2.out]
            exact ⟨_, rfl, HZ'.out.2.1, HZ'.out.2.2.1⟩
          | true =>
            have HE2 := key27 wr (Below.refl _ _) (by rw [Hdi.out.1, Hdi.out.2.1]; rfl)
            clear key27
            go_upto_region 27 with (go_at_call 45; refine (HD.out _ (Below.refl _ _)).mono ?_; rintro r w1 ⟨rfl, hb⟩; have H1 : Hid (Below wr.heap.size wr w1) := hb; clear hb)
            have k0 := (HCl.out w1.drew (below_drewN H1.out 1)).1
            have H9 : Hid (Below wr.heap.size wr w1.drew) := below_drewN H1.out 1
            clear p3
            go_region_held3 (fun W => W.cell? ⟨P.t, 2, none⟩ = some (.slice au mu cu))
              (with_reducible first | exact k0 | exact k1 | exact k2)
              (first | (go_at_call 48; refine (HH.out _ H9.out).mono ?_; rintro r w8 ⟨rfl, hb⟩; have hb8 := chainB H9.out hb; obtain ⟨Z, st, HZ⟩ := HOu.out w8 ⟨false, zeroKy, 0, s.here, s.used⟩ hb8 rfl; have k1 := (HCl.out w8 hb8).1; have k2 : Z.cell? ⟨P.t, 2, none⟩ = some (.slice au mu cu) := (by rw [← k1]; simp only [World.cell?]; rw [HZ.2.2.2.block P.t (cellLt k1) Hdi.out.2.2]); have st2 : (ouSt (.pointer (some ⟨w.heap.size, 0, none⟩)) (.agg #[.bool false, .int .i64 0, .string ⟨#[]⟩, .int .i64 0, .int .i64 s.here.id, .int .i64 s.here.kind, .int .i64 s.here.mode, .string s.here.tg, .slice au mu cu])).run Try.prog w8 = .ok () Z := st; have HZ' : Hid (Z.heap[w.heap.size]? = some (.cells (ouVals ⟨false, zeroKy, 0, s.here, s.used⟩ (.slice au mu cu)).toArray 34 (0, 0)) ∧ RowK Z (P.t + 1) (.slice au mu cu) s.used ∧ Below w0.heap.size w0 Z) := ⟨HZ.1, HZ.2.1, HZ.2.2.1⟩; clear hb hb8 HZ st))
            all_goals (
              go_wp2
              (try simp only [Exit.inBlock, Exit.then])
              refine JumpG.ret ?_
              refine bodyPost_ret (ret_out rfl _ _ w.heap.size rfl HZ'.out.1) rfl ?_
              rw [HE2.out]
              exact ⟨_, rfl, HZ'.out.2.1, HZ'.out.2.2⟩)
  · intro q0
    refine ⟨l, ?_⟩
    go_wp2
    apply wp_label
    rename_i K hK
    refine hK _ _ ?_
    exact q0 l l _ _ ⟨aS, nS, cS, jw_u _ _ _ _ _ _ _ _ _ _ _ _ _ _ _ _ _ _ _ _ _ _ _ _ _ _ _ _ _ _ _ _ _ _ _ _ _ _ _ _ _ _ _ _ _ _ _ _ _ _ _ _ _ _ _ _ _ _ _ _ _ _ _ _ _ _ _ _ _ _ _ _ _ _ _ _ _ _ _ _ _ _ _ _ _ _ _ _ _ _ _ _ _ _ _ _ _ _ _ _ _ _ _ _ _ _ _ _ _ _ _ _ _ _ _ _ _ _ _ _ _ _, HC0.out, steps, s, wv, uv, HS.out⟩ (Nat.le_refl _)
end
end Go.Proofs.Ytppbbddlbfgpfaa
