/- Outcomes loaded whole, shut. -/
import Derived.Test.YtnmmieamcdffaaaJWOts27
import Derived.Test.YtnmmieamcdffaaaJWOts36
import Derived.Test.YtnmmieamcdffaaaJWOts33
import Derived.Test.YtnmmieamcdffaaaJWOts25
import Derived.Test.YtnmmieamcdffaaaJWOts02
import Derived.ProofKit
import Derived.OpenShut
import Derived.Deep.Slices
import Derived.SizedLaws
import Derived.Lib.SmallJoins
namespace Go.Proofs.Ytnmmieamcdffaaa
section
open Go.RowKit

def ouLd (v : Value) : Sem Value := Instr.loadAt 34 v
theorem loadOu (v : Value) : Instr.loadAt 34 v = ouLd v := rfl
theorem ouLd_of {w : World} {g : Nat} {o : Ou} {uv : Value} (h : w.heap[g]? = some (.cells (ouVals o uv).toArray 34 (0, 0))) : (ouLd (.pointer (some ⟨g, 0, none⟩))).run Try.prog w = .ok (ouAgg o uv) w := by
  have := run_loadAt_mid (P := Try.prog) w g 0 34 (ouVals o uv) _ (fun j v hv => by
    rw [Nat.zero_add, cell_of h]
    simpa using hv) Try.underlying34 rfl Try.sizeOu
  exact this
attribute [irreducible] ouLd
end
section
open Go.RowKit
attribute [local go_sem ↓ high] loadEn storeEn loadNd storeNd storeOu loadOu

theorem Own.take {w : World} {B : Nat} {a : Option Addr} {n cap : Nat} {l : List ByteArray} (h : Own w B (.slice a n cap) l) (k : Nat) (hk : k ≤ l.length) : Own w B (.slice a k cap) (l.take k) := by
  have hn : n = l.length := by
    obtain ⟨a', c', e⟩ := owns_len h
    injection e
  subst hn
  obtain ⟨d, hd⟩ : ∃ d, l.length - k = d := ⟨_, rfl⟩
  induction d generalizing k with
  | zero =>
    have : k = l.length := by omega
    subst this
    rw [List.take_length]; exact h
  | succ d ih =>
    have h1 := ih (k + 1) (by omega) (by omega)
    have hne : l.take (k + 1) ≠ [] := by
      intro e
      have := congrArg List.length e
      rw [List.length_take, List.length_nil] at this
      omega
    have hl : (l.take (k + 1)).length = k + 1 := by rw [List.length_take]; omega
    have h2 : Own w B (.slice a (l.take (k + 1)).length cap) (l.take (k + 1)) := by rw [hl]; exact h1
    have h3 := Own.pop h2 hne
    rw [hl, Nat.add_sub_cancel] at h3
    have : (l.take (k + 1)).dropLast = l.take k := by
      rw [List.dropLast_eq_take, hl, List.take_take, Nat.add_sub_cancel, Nat.min_eq_left (by omega)]
    rw [this] at h3
    exact h3
theorem RowS.drop {w : World} {g : Nat} {l : List ByteArray} (h : RowS w (some ⟨g, 0, none⟩) l) (k : Nat) : RowS w (some ⟨g, k, none⟩) (l.drop k) := by
  rcases h with rfl | ⟨b, off, e, hb, hc⟩
  · left; simp
  · cases e
    refine .inr ⟨g, k, rfl, hb, fun i x hx => ?_⟩
    rw [List.getElem?_drop] at hx
    have := hc _ x hx
    rw [Nat.zero_add] at this
    exact this
/-- the components with a dot more -/
def dotL (L : List ByteArray) (j : Nat) : List ByteArray := (L.take j ++ [dot1]) ++ L.drop j
theorem dotL_is (L : List ByteArray) (j : Nat) : dotL L j = L.take j ++ dot1 :: L.drop j := by unfold dotL; simp
theorem dotL_len {L : List ByteArray} {j : Nat} (h : j ≤ L.length) : (dotL L j).length = L.length + 1 := by
  unfold dotL
  simp only [List.length_append, List.length_take, List.length_drop, List.length_cons, List.length_nil]
  omega
/-- a copy of the first ones, a dot, the others: however the two are made -/
theorem dot_app {w W : World} {g j c c2 cc : Nat} {L : List ByteArray} {a2 : Option Addr} {B : Nat} (hs : RowS w (some ⟨g, 0, none⟩) L) (hb : Below w.heap.size w W) (h2 : Own W B (.slice a2 j c2) (L.take j)) (hB : B ≤ W.heap.size) (hw0 : w.heap.size ≤ B) (hd : W.cell? ⟨c, 0, none⟩ = some (.string dot1)) (hj : j ≤ L.length) (hL : L.length ≤ 97) :
    ∃ a3 N3 c3 W3, (∀ ty, (Builtin.append_ #[36, 36] ty #[.slice a2 j c2, .slice (some ⟨c, 0, none⟩) 1 1]).run Try.prog W = .ok (.slice a3 N3 c3) W3) ∧
      ∃ a4 c4 W4, (∀ ty, (Builtin.append_ #[36, 36] ty #[.slice a3 N3 c3, .slice (some ⟨g, j, none⟩) (L.length - j) (cc - j)]).run Try.prog W3 = .ok (.slice a4 (L.length + 1) c4) W4) ∧ Own W4 B (.slice a4 (L.length + 1) c4) (dotL L j) ∧ Below w.heap.size w W4 ∧ Only (fun k => B ≤ k) W W4 := by
  have hlt : (L.take j).length = j := by rw [List.length_take]; omega
  obtain ⟨a3, N3, c3, W3, r3, o3, k3⟩ := appS_any (w := W) (B := B) (l := L.take j) (l2 := [dot1]) (a := some ⟨c, 0, none⟩) (c := 1) h2 (.inr ⟨c, 0, rfl, (cellLt hd), fun i x hx => by
    cases i with
    | zero => simp at hx; subst hx; exact hd
    | succ i => simp at hx⟩) hB (by simp only [List.length_cons, List.length_nil]; omega)
  have hk3 : Only (fun k => B ≤ k) W W3 := k3.mono fun k hk => (World.ownsRow.lt h2 k hk).1
  have b3 : Below w.heap.size w W3 := hk3.below hb hb.size fun k hk => by omega
  have hr3 : RowS W3 (some ⟨g, j, none⟩) (L.drop j) := (RowS.drop hs j).below b3
  obtain ⟨a4, N4, c4, W4, r4, o4, k4⟩ := appS_any (w := W3) (B := B) (l := L.take j ++ [dot1]) (l2 := L.drop j) (a := some ⟨g, j, none⟩) (c := cc - j) o3 hr3 (Nat.le_trans hB k3.size) (by simp only [List.length_append, List.length_drop, List.length_cons, List.length_nil]; omega)
  have hN4 : N4 = L.length + 1 := by
    have := owns_len o4
    obtain ⟨_, _, e⟩ := this
    injection e with _ e2 _
    rw [e2]
    exact dotL_len hj
  subst hN4
  have hk4 : Only (fun k => B ≤ k) W3 W4 := k4.mono fun k hk => (World.ownsRow.lt o3 k hk).1
  refine ⟨a3, N3, c3, W3, r3, a4, c4, W4, fun ty => ?_, o4, hk4.below b3 b3.size fun k hk => by omega, hk3.trans hk4⟩
  have := r4 ty
  rw [List.length_drop] at this
  exact this
set_option maxRecDepth 100000 in
set_option maxHeartbeats 8000000 in
theorem walk_WalkDots (a : Option Addr) (cap : Nat) (ops : List Opn) (path : ByteArray) (place : Int) (fol : Bool) (links : Int) (w : World) (row : RowOps w a ops) (hlen : ops.length ≤ 3000000000000) (_ : (Lit.int .i64 place).wf = true) (_ : (Lit.int .i64 links).wf = true) :
    Calls Try.prog 5 #[.slice a ops.length cap, .string path, .int .i64 place, .bool fol, .int .i64 links] w fun x w' => x = .returned (.bool true) ∧ Below w.heap.size w w' := by
  have HFi : Hid (Calls Try.prog 9 #[.slice a ops.length cap] w fun e w' => FilR ops w w' e) := filled_p a cap ops w row hlen
  have HA : Hid (∀ w, Calls Try.prog 12 #[] w fun x w' => x = .returned (.bool true) ∧ Below w.heap.size w w') := awake14_p
  obtain ⟨n, hn⟩ : ∃ n, ops.length = n := ⟨_, rfl⟩
  rw [hn] at HFi ⊢
  obtain ⟨E, hE⟩ : ∃ E, cutE path (rootB path) = E := ⟨_, rfl⟩
  obtain ⟨D, hD⟩ : ∃ D, cutD path (rootB path) = D := ⟨_, rfl⟩
  obtain ⟨L, hL⟩ : ∃ L, cutL path (rootB path) = L := ⟨_, rfl⟩
  obtain ⟨k, hk⟩ : ∃ k, L.length = k := ⟨_, rfl⟩
  have hk97 : k ≤ 97 := by rw [← hk, ← hL]; exact cutL_len _ _
  have HSp : Hid (∀ W, Calls Try.prog 11 #[.string path] W fun x w' => ∃ a cc, x = .returned (.tuple #[.slice a k cc, .bool D, .int .i64 E]) ∧ Own w' W.heap.size (.slice a k cc) L ∧ Below W.heap.size W w') := fun W => by
    refine (split_any path W).mono ?_
    rintro r w' ⟨vv, rfl, ho, hb⟩
    rw [hE, hD]
    rw [hL] at ho
    obtain ⟨a, cc, rfl⟩ := owns_len ho
    rw [hk] at ho ⊢
    exact ⟨a, cc, rfl, ho, hb⟩
  have HK : Hid (L.length = k) := hk
  clear hE hD hL hk row hlen
  by_cases hE0 : E = 0
  · subst hE0
    by_cases hk0 : k = 0
    · subst hk0
      go_enter Try.func5, Try.ntmps5
      go_wp2_with (first
        | (go_at_call 12; refine (HA.out _).mono ?_; rintro r wZ ⟨rfl, hb⟩; have HZ : Hid (Below w.heap.size w wZ) := H1.out.below _ (chainB H2.out.2 hb); clear hb)
        | (go_at_call 11; refine (HSp.out _).mono ?_; rintro r w2 ⟨a2, c2, rfl, ho, hb⟩; have H2 : Hid (Own w2 w1.heap.size (.slice a2 0 c2) L ∧ Below w1.heap.size w1 w2) := ⟨ho, hb⟩; clear ho hb)
        | (go_at_call 9; refine HFi.out.mono ?_; rintro r w1 hF; obtain ⟨p, t, s, rfl, -, hfl⟩ := hF.fl; have H1 : Hid (Flw w w1 t s p ops.length) := hfl; clear hF hfl))
      go_ret
      exact ⟨rfl, HZ.out⟩
    · have hkz : ((k : Int) == 0) = false := by simp; omega
      obtain ⟨j, hj⟩ : ∃ j : Nat, placeV place k = (j : Int) := ⟨(placeV place k).toNat, by have := placeV_bd place k (by omega); omega⟩
      have hjk : j < k := by have := placeV_bd place k (by omega); omega
      have HPl : Hid (∀ W, Calls Try.prog 17 #[.int .i64 place, .int .i64 k] W fun x w' => x = .returned (.int .i64 j) ∧ W = w') := fun W => by
        refine (place_any place k W (by omega) (by omega)).mono ?_
        rintro x w' ⟨rfl, rfl⟩
        rw [hj]
        exact ⟨rfl, rfl⟩
      clear hj
      go_enter Try.func5, Try.ntmps5
      go_upto_region 8 with (first
        | (go_at_call 17; refine (HPl.out _).mono ?_; rintro r w3 ⟨rfl, e⟩; subst e)
        | (go_at_call 11; refine (HSp.out _).mono ?_; rintro r w2 ⟨a2, c2, rfl, ho, hb⟩; have H2 : Hid (Own w2 w1.heap.size (.slice a2 k c2) L ∧ Below w1.heap.size w1 w2) := ⟨ho, hb⟩; clear ho hb)
        | (go_at_call 9; refine HFi.out.mono ?_; rintro r w1 hF; obtain ⟨p, t, s, rfl, -, hfl⟩ := hF.fl; have H1 : Hid (Flw w w1 t s p ops.length) := hfl; clear hF hfl))
      obtain ⟨g, rfl⟩ : ∃ g, a2 = some ⟨g, 0, none⟩ := by
        rcases H2.out.1.2 with ⟨_, h0⟩ | ⟨g, cap', cur, e, _⟩
        · have := HK.out; omega
        · injection e with e1 e2 e3
          exact ⟨g, e1⟩
      have hkc : k ≤ c2 := by have := Own.lim H2.out.1; have := HK.out; omega
      have h0j : (0 : Int) ≤ (j : Int) := by omega
      have hjc : (j : Int) ≤ (c2 : Int) := by omega
      have hjc' : j ≤ c2 := by omega
      have hjkz : (j : Int) ≤ (k : Int) := by omega
      have hkcz : (k : Int) ≤ (c2 : Int) := by omega
      have hcj : ¬ c2 = j := by omega
      have hRS : RowS w2 (some ⟨g, 0, none⟩) L := by
        obtain ⟨a', c', ea, hrow⟩ := Own.row H2.out.1
        injection ea with ea1 ea2 ea3
        rw [ea1]; exact hrow
      have hTk : Own w2 w1.heap.size (.slice (some ⟨g, 0, none⟩) j c2) (L.take j) := Own.take H2.out.1 j (by have := HK.out; omega)
      have hd1 : Below w2.heap.size w2 w2.drew := below_drewN (Below.refl _ _) 1
      have hd2 : Below w2.heap.size w2 (w2.alloc (.cells #[.string ⟨#[46]⟩] 9)).drew := below_drewN (below_alloc _ _) 1
      have HC : Hid (∀ W, Below w2.heap.size w2 W → Calls Try.prog 18 #[.slice (some ⟨g, 0, none⟩) j c2] W fun e w' => ∃ aA cA, e = .returned (.slice aA j cA) ∧ Own w' W.heap.size (.slice aA j cA) (L.take j) ∧ Below W.heap.size W w') := fun W hb => by
        have hl : (L.take j).length = j := by rw [List.length_take]; have := HK.out; omega
        refine (copyT_any _ _ _ W (hTk.below hb) (by omega)).mono ?_
        rintro e w' ⟨v', rfl, ho, hb'⟩
        obtain ⟨aA, cA, rfl⟩ := owns_len ho
        rw [hl] at ho ⊢
        exact ⟨aA, cA, rfl, ho, hb'⟩
      -- the copy first
      have HP1 : Hid (∀ wA aA cA, Own wA w2.drew.heap.size (.slice aA j cA) (L.take j) → Below w2.drew.heap.size w2.drew wA → ∃ a3 N3 c3 W3, (∀ ty, (Builtin.append_ #[36, 36] ty #[.slice aA j cA, .slice (some ⟨wA.heap.size, 0, none⟩) 1 1]).run Try.prog (wA.alloc (.cells #[.string ⟨#[46]⟩] 9)) = .ok (.slice a3 N3 c3) W3) ∧
          ∃ a4 c4 W4, (∀ ty, (Builtin.append_ #[36, 36] ty #[.slice a3 N3 c3, .slice (some ⟨g, j, none⟩) (k - j) (c2 - j)]).run Try.prog W3 = .ok (.slice a4 (k + 1) c4) W4) ∧ Own W4 w2.heap.size (.slice a4 (k + 1) c4) (dotL L j) ∧ Below w2.heap.size w2 W4) := fun wA aA cA ho hb => by
        have bA := below_alloc wA (.cells #[.string ⟨#[46]⟩] 9)
        obtain ⟨a3, N3, c3, W3, r3, a4, c4, W4, r4, o4, b4, -⟩ := dot_app (w := w2) (W := wA.alloc (.cells #[.string ⟨#[46]⟩] 9)) (B := w2.heap.size) (cc := c2) (c := wA.heap.size) hRS (chainB (chainB hd1 hb) bA) (ho.below bA) (by have := (chainB hd1 (chainB hb bA)).size; exact this) (Nat.le_refl _) (by rw [cell_of (heap_new _ _)]; rfl) (by have := HK.out; omega) (by have := HK.out; omega)
        rw [HK.out] at r4 o4
        exact ⟨a3, N3, c3, W3, r3, a4, c4, W4, r4, o4, b4⟩
      -- the dot first
      have HP2 : Hid (∀ wA aA cA, Own wA (w2.alloc (.cells #[.string ⟨#[46]⟩] 9)).drew.heap.size (.slice aA j cA) (L.take j) → Below (w2.alloc (.cells #[.string ⟨#[46]⟩] 9)).drew.heap.size (w2.alloc (.cells #[.string ⟨#[46]⟩] 9)).drew wA → ∃ a3 N3 c3 W3, (∀ ty, (Builtin.append_ #[36, 36] ty #[.slice aA j cA, .slice (some ⟨w2.heap.size, 0, none⟩) 1 1]).run Try.prog wA = .ok (.slice a3 N3 c3) W3) ∧
          ∃ a4 c4 W4, (∀ ty, (Builtin.append_ #[36, 36] ty #[.slice a3 N3 c3, .slice (some ⟨g, j, none⟩) (k - j) (c2 - j)]).run Try.prog W3 = .ok (.slice a4 (k + 1) c4) W4) ∧ Own W4 w2.heap.size (.slice a4 (k + 1) c4) (dotL L j) ∧ Below w2.heap.size w2 W4) := fun wA aA cA ho hb => by
        obtain ⟨a3, N3, c3, W3, r3, a4, c4, W4, r4, o4, b4, -⟩ := dot_app (w := w2) (W := wA) (B := w2.heap.size) (cc := c2) (c := w2.heap.size) hRS (chainB hd2 hb) (ho.le hd2.size) (chainB hd2 hb).size (Nat.le_refl _) (by
          have h1 : (w2.alloc (.cells #[.string ⟨#[46]⟩] 9)).drew.heap[w2.heap.size]? = some (.cells #[.string ⟨#[46]⟩] 9 (0, 0)) := heap_new w2 _
          rw [cell_of (hkeep h1 hb)]; rfl) (by have := HK.out; omega) (by have := HK.out; omega)
        rw [HK.out] at r4 o4
        exact ⟨a3, N3, c3, W3, r3, a4, c4, W4, r4, o4, b4⟩
      have HD : Hid (Below w2.heap.size w2 w2.drew ∧ Below w2.heap.size w2 (w2.alloc (.cells #[.string ⟨#[46]⟩] 9)).drew) := ⟨hd1, hd2⟩
      clear hRS hTk hd1 hd2
      go_region_held3 (fun _ => True) (exact trivial)
        (first
          | (go_at_call 18; first
            | ((with_reducible refine (HC.out _ HD.out.1).mono ?_); rintro r wA ⟨aA, cA, rfl, ho, hb⟩; obtain ⟨a3, N3, c3, W3, r3, a4, c4, W4, r4, o4, b4⟩ := HP1.out wA aA cA ho hb; have H4 : Hid (Own W4 w2.heap.size (.slice a4 (k + 1) c4) (dotL L j) ∧ Below w2.heap.size w2 W4) := ⟨o4, b4⟩; clear ho hb o4 b4)
            | ((with_reducible refine (HC.out _ HD.out.2).mono ?_); rintro r wA ⟨aA, cA, rfl, ho, hb⟩; obtain ⟨a3, N3, c3, W3, r3, a4, c4, W4, r4, o4, b4⟩ := HP2.out wA aA cA ho hb; have H4 : Hid (Own W4 w2.heap.size (.slice a4 (k + 1) c4) (dotL L j) ∧ Below w2.heap.size w2 W4) := ⟨o4, b4⟩; clear ho hb o4 b4))
          | (with_reducible refine step_apR rfl (.tmp 50) (.tmp 51) 36 rfl _ _ (.slice a3 N3 c3) W3 (by simp [Act.eval]) (by simp [Act.eval]) r3 ?_)
          | (with_reducible refine step_apR rfl (.tmp 52) (.tmp 55) 36 rfl _ _ (.slice a4 (k + 1) c4) W4 (by simp [Act.eval]) (by simp [Act.eval]) r4 ?_))
      all_goals (
        obtain ⟨O, hO⟩ : ∃ O, stepsO (knC (fillS s.es)) L D fol links = O := ⟨_, rfl⟩
        obtain ⟨lo, hlo⟩ : ∃ lo, O.used.length = lo := ⟨_, rfl⟩
        have hl1 : lo ≤ 1000 := by
          rw [← hlo, ← hO]
          unfold stepsO
          have := goW_len (knC (fillS s.es)) fol (linksN links) L (startW D)
          have hl := linksN_le links
          have e : (startW D).used.length = 0 := rfl
          have := HK.out
          omega
        have HO : Hid (O.used.length = lo ∧ lo ≤ 1000) := ⟨hlo, hl1⟩
        have HS1 : Hid (Calls Try.prog 19 #[.pointer (some ⟨p, 0, none⟩), .slice none 0 0, .slice (some ⟨g, 0, none⟩) k c2, .bool D, .bool fol, .int .i64 links] W4 fun r w' => ∃ a c, r = .returned (ouAgg O (.slice a lo c)) ∧ RowK w' W4.heap.size (.slice a lo c) O.used ∧ Below W4.heap.size W4 w') := by
          refine (ld_steps (H1.out.ld W4 (chainB H2.out.2 H4.out.2)) (H2.out.1.below H4.out.2) (by omega) D fol links).mono ?_
          intro r w' hr
          rw [hO] at hr
          have := hr.fx
          rw [hlo] at this
          exact this
        have HS2 : Hid (∀ W, Below W4.heap.size W4 W → Calls Try.prog 19 #[.pointer (some ⟨p, 0, none⟩), .slice none 0 0, .slice a4 (k + 1) c4, .bool D, .bool fol, .int .i64 links] W fun r w' => ∃ a c, r = .returned (ouAgg O (.slice a lo c)) ∧ RowK w' W.heap.size (.slice a lo c) O.used ∧ Below W.heap.size W w') := fun W hb => by
          refine (ld_steps (H1.out.ld W (chainB H2.out.2 (chainB H4.out.2 hb))) (H4.out.1.below hb) (by omega) D fol links).mono ?_
          intro r w' hr
          rw [dotL_is, stepsO_dot _ _ _ (by have := HK.out; omega), hO] at hr
          have := hr.fx
          rw [hlo] at this
          exact this
        have HSa : Hid (∀ W a c a' c' B B', RowK W B (.slice a lo c) O.used → RowK W B' (.slice a' lo c') O.used → Calls Try.prog 15 #[ouAgg O (.slice a lo c), ouAgg O (.slice a' lo c')] W fun r w' => r = .returned (.bool true) ∧ Below W.heap.size W w') := fun W a c a' c' B B' h h' => sameOut_yes O _ _ B B' W h h' (by rw [HO.out.1]; exact HO.out.2)
        have bx := box9
        clear hO hlo hl1 r3 r4
        go_wp2_with (first
          | (go_at_call 12; refine (HA.out _).mono ?_; rintro r wZ ⟨rfl, hb⟩; have HZ : Hid (Below w.heap.size w wZ) := H1.out.below _ (chainB H2.out.2 (chainB H4.out.2 (chainB H7.out hb))); clear hb)
          | (go_at_call 15; refine (HSa.out _ _ _ _ _ _ _ H6.out.1 H6.out.2.1).mono ?_; rintro r w7 ⟨rfl, hb⟩; have H7 : Hid (Below W4.heap.size W4 w7) := chainB H6.out.2.2 hb; clear hb)
          | (go_at_call 19; first
            | ((with_reducible refine (HS2.out _ H5.out.2.2).mono ?_); rintro r w6 ⟨a6, c6, rfl, hr, hb⟩; obtain ⟨V6, hV6⟩ : ∃ V, w6.alloc (.cells (ouVals O (.slice a6 lo c6)).toArray 34) = V := ⟨_, rfl⟩; have bV6 := boxO hV6; have H6 : Hid (RowK V6 W4.heap.size (.slice a5 lo c5) O.used ∧ RowK V6 V5.heap.size (.slice a6 lo c6) O.used ∧ Below W4.heap.size W4 V6) := ⟨(H5.out.1.below hb).below bV6.2.1, hr.below bV6.2.1, chainB H5.out.2.2 (chainB hb bV6.2.1)⟩; have l6 := ouLd_of bV6.1; have l5 := ouLd_of (hkeep (hkeep H5.out.2.1 hb) bV6.2.1); clear hr hb bV6)
            | ((with_reducible refine HS1.out.mono ?_); rintro r w5 ⟨a5, c5, rfl, hr, hb⟩; obtain ⟨V5, hV5⟩ : ∃ V, w5.alloc (.cells (ouVals O (.slice a5 lo c5)).toArray 34) = V := ⟨_, rfl⟩; have bV5 := boxO hV5; have H5 : Hid (RowK V5 W4.heap.size (.slice a5 lo c5) O.used ∧ V5.heap[w5.heap.size]? = some (.cells (ouVals O (.slice a5 lo c5)).toArray 34 (0, 0)) ∧ Below W4.heap.size W4 V5) := ⟨hr.below bV5.2.1, bV5.1, chainB hb bV5.2.1⟩; clear hr hb bV5)))
        go_ret
        exact ⟨rfl, HZ.out⟩)
  · have hEb : (E != 0) = true := by simpa using hE0
    clear hE0
    go_enter Try.func5, Try.ntmps5
    go_wp2_with (first
      | (go_at_call 12; refine (HA.out _).mono ?_; rintro r wZ ⟨rfl, hb⟩; have HZ : Hid (Below w.heap.size w wZ) := H1.out.below _ (chainB H2.out hb); clear hb)
      | (go_at_call 11; refine (HSp.out _).mono ?_; rintro r w2 ⟨a2, c2, rfl, ho, hb⟩; have H2 : Hid (Below w1.heap.size w1 w2) := hb; clear ho hb)
      | (go_at_call 9; refine HFi.out.mono ?_; rintro r w1 hF; obtain ⟨p, t, s, rfl, -, hfl⟩ := hF.fl; have H1 : Hid (Flw w w1 t s p ops.length) := hfl; clear hF hfl))
    go_ret
    exact ⟨rfl, HZ.out⟩
end
section
open Go.RowKit

theorem Try.cellsWord : Try.prog.cellsOf 3 = 1 := by kernel_rfl
theorem Try.cellsText : Try.prog.cellsOf 9 = 1 := by kernel_rfl
theorem seven {α : Type} {l : List α} (h : l.length = 7) : ∃ c0 c1 c2 c3 c4 c5 c6, l = [c0, c1, c2, c3, c4, c5, c6] := by
  match l, h with
  | [c0, c1, c2, c3, c4, c5, c6], _ => exact ⟨c0, c1, c2, c3, c4, c5, c6, rfl⟩
end
end Go.Proofs.Ytnmmieamcdffaaa
