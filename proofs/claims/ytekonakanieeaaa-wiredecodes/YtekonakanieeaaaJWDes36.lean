/- The document's own Decode. -/
import Derived.Test.YtekonakanieeaaaJWDes25
import Derived.Test.YtekonakanieeaaaJWDes26
import Derived.Test.YtekonakanieeaaaJWDes27
import Derived.Test.YtekonakanieeaaaJWDes28
import Derived.Test.YtekonakanieeaaaJWDes33
import Derived.Test.YtekonakanieeaaaJWDes35
import Derived.ProofKit
import Derived.OpenShut
import Derived.Deep.Slices
import Derived.SizedLaws
import Derived.Lib.SmallJoins
namespace Go.Proofs.Ytekonakanieeaaa
section
open Go.RowKit Go.Lib

theorem said_any (v : Value) (l : List Int) (w : World) (hr : RC w v l) (hby : Byt l) (hlim : l.length ≤ 140737488351232) : Calls Try.prog 22 #[v] w fun e w' => SaidR l w w' e := by
  obtain ⟨a, c, rfl, h2⟩ := hr
  have hr : RC w (.slice a l.length c) l := ⟨a, c, rfl, h2⟩
  obtain ⟨K, hK⟩ : ∃ K, (octP (some l)).1 = K := ⟨_, rfl⟩
  have hk : octP (some l) = (K, (octP (some l)).2) := Prod.ext hK rfl
  by_cases e1 : K = 1
  · exact said_1 a _ c l w hr hby hlim _ (by rw [e1] at hk; exact hk)
  by_cases e2 : K = 2
  · exact said_2 a _ c l w hr hby hlim _ (by rw [e2] at hk; exact hk)
  by_cases e3 : K = 3
  · exact said_3 a _ c l w hr hby hlim _ (by rw [e3] at hk; exact hk)
  exact said_0 a _ c l w hr hby hlim K (by simpa using e1) (by simpa using e2) (by simpa using e3) _ hk
/-- a whole message stored, shut -/
def msgTd (a v : Value) : Sem Unit := Instr.storeAt 30 a v
theorem storeMd (a v : Value) : Instr.storeAt 30 a v = msgTd a v := rfl
theorem msgTd_of {w W : World} {g : Nat} {old cs : Array Value} {t : TypeId} (h : w.heap[g]? = some (.cells old t (0, 0))) (ho : old.size = 16) (hs : cs.size = 16) (h1 : cs.all (·.oneCell') = true) (hW : w.setRow g cs = W) : (msgTd (.pointer (some ⟨g, 0, none⟩)) (.agg cs)).run Try.prog w = .ok () W := by
  subst hW
  unfold msgTd Instr.storeAt Instr.sureAddr
  simp [run_storeVar_row w g t 30 old cs h (by rw [hs]; exact Try.sizeMsg8) (by rw [ho, hs]) h1]
attribute [irreducible] msgTd
attribute [local go_sem ↓ high] loadMg storeMd
theorem row_off {w w' : World} {B g : Nat} {v : Value} {es : List En} {t : TypeId} (h : Row7 w B v es) (ho : Only (· = g) w w') (hg : Tag w g t) (ht : 44 ≠ t) : Row7 w' B v es := owns_moved h fun q hq => ho.block q (Tag.own h hq).lt ((Tag.own h hq).ne hg ht)
theorem rowk_off {w w' : World} {B g : Nat} {v : Value} {es : List Ky} {t : TypeId} (h : RowK w B v es) (ho : Only (· = g) w w') (hg : Tag w g t) (ht : 40 ≠ t) : RowK w' B v es := owns_moved h fun q hq => ho.block q (Tag.own h hq).lt ((Tag.own h hq).ne hg ht)
theorem own_one {w : World} {B : Nat} {e : TypeId} {size : Nat} {v : Value} {n : Nat} {xs : List Value} (h : w.ownsRow B e size v n xs) : v.oneCell' = true := by
  obtain ⟨a, c, rfl⟩ := owns_len h
  rfl
theorem msv_one {w : World} {B : Nat} {m : Mg} {ve vk : Value} (h1 : Row7 w B ve m.es) (h2 : RowK w B vk m.ks) : (MsV m ve vk).arr.all (·.oneCell') = true := by
  have e1 := own_one h1
  have e2 := own_one h2
  unfold MsV Ms.arr
  simp [Value.oneCell'] <;> exact ⟨e1, e2⟩
/-- what Decode has behind its reading -/
structure Dd (w Z : World) (r y1 y2 : Nat) (A : Array Value) (a : Option Addr) (n c : Nat) (k : Bool) (s : St) (m : Mg) (ve vk : Value) : Prop where
  res : Z.heap[r]? = some (.cells #[.int .i64 0, .int .i64 0, .int .i64 0, .int .i64 0, .complex .f64 0 0, .int .i64 0, .int .i64 0, .int .i64 0, .int .i64 0, .string ⟨#[]⟩, .int .i64 0, .string ⟨#[]⟩, .int .i64 0, .string ⟨#[]⟩, .slice none 0 0, .slice none 0 0] 30 (0, 0))
  own : Z.heap[y1]? = some (.cells A 30 (0, 0))
  box : Z.heap[y2]? = some (.cells #[.slice a n c, .bool k] 68 (0, 0))
  es : Row7 Z w.heap.size ve m.es
  ks : RowK Z w.heap.size vk m.ks
  bel : Below w.heap.size w Z
  left : ∃ l, l.length = n ∧ ((k = true ∧ s = some l) ∨ (k = false ∧ s = none))
theorem Dd.below {w Z Z' : World} {r y1 y2 : Nat} {A : Array Value} {a : Option Addr} {n c : Nat} {k : Bool} {s : St} {m : Mg} {ve vk : Value} (h : Dd w Z r y1 y2 A a n c k s m ve vk) (hb : Below Z.heap.size Z Z') : Dd w Z' r y1 y2 A a n c k s m ve vk :=
  ⟨hkeep h.res hb, hkeep h.own hb, hkeep h.box hb, h.es.below hb, h.ks.below hb, chainB h.bel hb, h.left⟩
/-- the end: what is answered -/
theorem Dd.fin {w Z Z' : World} {y1 y2 : Nat} {A : Array Value} {a : Option Addr} {n c : Nat} {k : Bool} {s : St} {m : Mg} {ve vk : Value} (h : Dd w Z w.heap.size y1 y2 A a n c k s m ve vk) (D : Array Value) (hZ : Z.setRow w.heap.size D = Z') : Z'.heap[w.heap.size]? = some (.cells D 30 (0, 0)) ∧ Row7 Z' w.heap.size ve m.es ∧ RowK Z' w.heap.size vk m.ks ∧ Below w.heap.size w Z' := by
  rw [← hZ]
  have ht : Tag Z w.heap.size 30 := ⟨_, _, h.res⟩
  exact ⟨setRow_heap _ _ _ _ _ _ h.res, row_off h.es (setRow_only _ _ _) ht (by decide), rowk_off h.ks (setRow_only _ _ _) ht (by decide), below_setRow h.bel (Nat.le_refl _) _⟩
set_option maxRecDepth 20000 in
set_option maxHeartbeats 16000000 in
theorem decoded_any (v : Value) (l : List Int) (w : World) (hr : RC w v l) (hby : Byt l) (hlim : l.length ≤ 140737488351232) : Calls Try.prog 8 #[v] w fun e w' => DecR l w w' e := by
  obtain ⟨a0, c0, rfl, _⟩ := id hr
  obtain ⟨n0, hn0⟩ : ∃ n, l.length = n := ⟨_, rfl⟩
  rw [hn0] at hr ⊢
  have HR : Hid (RC w (.slice a0 n0 c0) l ∧ l.length ≤ 140737488351232) := ⟨hr, hlim⟩
  obtain ⟨W, hW⟩ : ∃ W, w.alloc (.cells #[.int .i64 0, .int .i64 0, .int .i64 0, .int .i64 0, .complex .f64 0 0, .int .i64 0, .int .i64 0, .int .i64 0, .int .i64 0, .string ⟨#[]⟩, .int .i64 0, .string ⟨#[]⟩, .int .i64 0, .string ⟨#[]⟩, .slice none 0 0, .slice none 0 0] 30) = W := ⟨_, rfl⟩
  have bW := boxB hW
  have HW : Hid (W.heap[w.heap.size]? = some (.cells #[.int .i64 0, .int .i64 0, .int .i64 0, .int .i64 0, .complex .f64 0 0, .int .i64 0, .int .i64 0, .int .i64 0, .int .i64 0, .string ⟨#[]⟩, .int .i64 0, .string ⟨#[]⟩, .int .i64 0, .string ⟨#[]⟩, .slice none 0 0, .slice none 0 0] 30 (0, 0)) ∧ Below w.heap.size w W) := bW
  obtain ⟨m, s, hm⟩ : ∃ m s, msgF (some l) = (m, s) := ⟨_, _, rfl⟩
  have HM : Hid (msgF (some l) = (m, s)) := hm
  have hmk := msgF_marks (some l)
  rw [hm] at hmk
  have HMk : Hid ((0 ≤ m.ep ∧ m.ep ≤ 4398046511103) ∧ (0 ≤ m.nb ∧ m.nb ≤ 4398046511103)) := hmk
  have HSd : Hid (Calls Try.prog 22 #[.slice a0 n0 c0] W fun e w' => ∃ ve vk A b k, e = .returned (.tuple #[.agg A, .agg #[b, .bool k]]) ∧ Hid ((Row7 w' W.heap.size ve m.es ∧ RowK w' W.heap.size vk m.ks ∧ RI W.heap.size w' b k s) ∧ (MsV m ve vk).arr = A) ∧ Below W.heap.size W w') := (said_any _ l W (hr.below bW.2) hby hlim).mono fun e w' ⟨ve, vk, b, k, he, h1, h2, h3, hb⟩ => by
    rw [hm] at he h1 h2 h3
    exact ⟨ve, vk, _, b, k, he, ⟨⟨h1, h2, h3⟩, rfl⟩, hb⟩
  clear hr hlim hn0 hby bW hm hmk
  go_enter Try.func8, Try.ntmps8
  go_upto_region 1 with fail
  clear hW
  go_upto_region 2 with (go_at_call 22; refine HSd.out.mono ?_; rintro e w1 ⟨ve, vk, A, b, k, rfl, h1', hb1⟩; obtain ⟨h1, hA⟩ := h1'.out; have h1 : Hid (Row7 w1 W.heap.size ve m.es ∧ RowK w1 W.heap.size vk m.ks ∧ RI W.heap.size w1 b k s) := h1; obtain ⟨a, n, c, hbv⟩ := h1.out.2.2.form; subst hbv; have hone : (MsV m ve vk).arr.all (·.oneCell') = true := msv_one h1.out.1 h1.out.2.1; have hsz : (MsV m ve vk).arr.size = 16 := rfl; rw [hA] at hone hsz; obtain ⟨V1, hV1⟩ : ∃ V, w1.alloc (.cells #[.int .i64 0, .int .i64 0, .int .i64 0, .int .i64 0, .complex .f64 0 0, .int .i64 0, .int .i64 0, .int .i64 0, .int .i64 0, .string ⟨#[]⟩, .int .i64 0, .string ⟨#[]⟩, .int .i64 0, .string ⟨#[]⟩, .slice none 0 0, .slice none 0 0] 30) = V := ⟨_, rfl⟩; obtain ⟨V2, hV2⟩ : ∃ V, V1.alloc (.cells #[.slice none 0 0, .bool false] 68) = V := ⟨_, rfl⟩; have bV1 := boxB hV1; have bV2 := boxB hV2; have hUV := chainB bV1.2 bV2.2; have b12' := hkeep bV1.1 bV2.2; obtain ⟨y1, hy1⟩ : ∃ y, w1.heap.size = y := ⟨_, rfl⟩; obtain ⟨y2, hy2⟩ : ∃ y, V1.heap.size = y := ⟨_, rfl⟩; have hsz2 : y2 = y1 + 1 := (by rw [← hy2, ← hV1, ← hy1]; simp); rw [hy2] at bV2; rw [hy1] at b12'; obtain ⟨V3, hV3⟩ : ∃ V, V2.setRow y1 A = V := ⟨_, rfl⟩; have nt := msgTd_of b12' rfl hsz hone hV3; have hO3 : Only (· = y1) V2 V3 := (by rw [← hV3]; exact setRow_only _ _ _); have hE3 : V3.heap[y1]? = some (.cells A 30 (0, 0)) := (by rw [← hV3]; exact setRow_heap _ _ _ _ _ _ b12'); have hN3 : V3.heap[y2]? = some (.cells #[.slice none 0 0, .bool false] 68 (0, 0)) := (hO3.block y2 (Array.getElem?_eq_some_iff.1 bV2.1).1 (by omega)).trans bV2.1; have m0 : V3.cell? ⟨y2, 0, none⟩ = some (.slice none 0 0) := (by rw [cell_of hN3]; rfl); have m1 : V3.cell? ⟨y2, 1, none⟩ = some (.bool false) := (by rw [cell_of hN3]; rfl); have mg0 := free_of hN3 0; have mg1 := free_of hN3 1; obtain ⟨V4, hV4⟩ : ∃ V, (V3.setCell ⟨y2, 0, none⟩ (.slice a n c)).setCell ⟨y2, 1, none⟩ (.bool k) = V := ⟨_, rfl⟩; have HA : Hid ((MsV m ve vk).arr = A ∧ A.size = 16 ∧ A.all (·.oneCell') = true) := ⟨hA, hsz, hone⟩; have hO4 : Only (· = y2) V3 V4 := (by rw [← hV4]; exact only2 _ _ _ _); have t2 : Tag V2 y1 30 := ⟨_, _, b12'⟩; have t3 : Tag V3 y2 68 := ⟨_, _, hN3⟩; have hwW := HW.out.2.size; have hlt1 : w.heap.size < w1.heap.size := (Nat.lt_of_lt_of_le (Array.getElem?_eq_some_iff.1 HW.out.1).1 hb1.size); have hB2 : Below w.heap.size w V2 := chainB (chainB HW.out.2 hb1) hUV; have D4 : Hid (Dd w V4 w.heap.size y1 y2 A a n c k s m ve vk) := ⟨(hO4.block _ (Array.getElem?_eq_some_iff.1 ((hO3.block _ (Array.getElem?_eq_some_iff.1 (hkeep (hkeep HW.out.1 hb1) hUV)).1 (by omega)).trans (hkeep (hkeep HW.out.1 hb1) hUV))).1 (by omega)).trans ((hO3.block _ (Array.getElem?_eq_some_iff.1 (hkeep (hkeep HW.out.1 hb1) hUV)).1 (by omega)).trans (hkeep (hkeep HW.out.1 hb1) hUV)), (hO4.block _ (Array.getElem?_eq_some_iff.1 hE3).1 (by omega)).trans hE3, (by rw [← hV4]; exact set2 hN3), owns_le (row_off (row_off (h1.out.1.below hUV) hO3 t2 (by decide)) hO4 t3 (by decide)) hwW, owns_le (rowk_off (rowk_off (h1.out.2.1.below hUV) hO3 t2 (by decide)) hO4 t3 (by decide)) hwW, below_on1 (below_on1 hB2 hO3 (by omega)) hO4 (by omega), (by obtain ⟨l', ⟨a', c', e', -⟩, -, -, hs⟩ := h1.out.2.2; injection e' with e1 e2; exact ⟨l', e2.symm, hs⟩)⟩; clear h1 h1' hb1 hA hone hsz bV1 bV2 hUV b12' hsz2 hO3 hE3 hN3 hO4 t2 t3 hwW hlt1 hB2)
  clear hV1 hV2 hV3 hV4 hy1 hy2 nt m0 m1 mg0 mg1
  have x0 : V4.cell? ⟨y2, 0, none⟩ = some (.slice a n c) := by rw [cell_of D4.out.box]; rfl
  have x1 : V4.cell? ⟨y2, 1, none⟩ = some (.bool k) := by rw [cell_of D4.out.box]; rfl
  go_cut [21] from 13 to 20 (fun x wx => ∃ B, x = .bool B ∧ Hid (B = true ↔ s ≠ some []) ∧ V4 = wx)
  case first =>
    obtain ⟨l', hl', hs⟩ := D4.out.left
    rcases hs with ⟨hkk, hs⟩ | ⟨hkk, hs⟩
    · subst hkk
      by_cases hm : n = 0
      · have hl0 : l' = [] := List.length_eq_zero_iff.1 (by omega)
        have HS0 : Hid (s = some []) := by show _ = _; rw [hs, hl0]
        clear hs hl' hl0
        subst hm
        go_wp2_with fail
        go_meet
        exact ⟨false, rfl, ⟨fun h => (by cases h), fun h => absurd HS0.out h⟩, rfl⟩
      · have hmi : (0 : Int) < (n : Int) := by omega
        have hmn : 0 < n := by omega
        have HS0 : Hid (s ≠ some []) := fun h => by
          rw [hs] at h
          injection h with h
          rw [h] at hl'
          exact hm hl'.symm
        clear hs hm hl'
        go_wp2_with fail
        go_meet
        exact ⟨true, rfl, ⟨fun _ => HS0.out, fun _ => rfl⟩, rfl⟩
    · subst hkk
      have HS0 : Hid (s ≠ some []) := fun h => by rw [hs] at h; cases h
      clear hs hl'
      go_wp2_with fail
      go_meet
      exact ⟨true, rfl, ⟨fun _ => HS0.out, fun _ => rfl⟩, rfl⟩
  case rest =>
    obtain ⟨B, rfl, HB, rfl⟩ := hcut
    clear x0 x1
    cases B with
    | true =>
      obtain ⟨W8, hW8⟩ : ∃ W, V4.setRow w.heap.size #[.int .i64 0, .int .i64 0, .int .i64 0, .int .i64 0, .complex .f64 0 0, .int .i64 0, .int .i64 0, .int .i64 0, .int .i64 0, .string ⟨#[]⟩, .int .i64 0, .string ⟨#[]⟩, .int .i64 0, .string ⟨#[]⟩, .slice none 0 0, .slice none 0 0] = W := ⟨_, rfl⟩
      have nt2 := msgTd_of D4.out.res rfl rfl (by simp [Value.oneCell']) hW8
      have HF : Hid (W8.heap[w.heap.size]? = some (.cells #[.int .i64 0, .int .i64 0, .int .i64 0, .int .i64 0, .complex .f64 0 0, .int .i64 0, .int .i64 0, .int .i64 0, .int .i64 0, .string ⟨#[]⟩, .int .i64 0, .string ⟨#[]⟩, .int .i64 0, .string ⟨#[]⟩, .slice none 0 0, .slice none 0 0] 30 (0, 0)) ∧ Below w.heap.size w W8) := by have h := D4.out.fin _ hW8; exact ⟨h.1, h.2.2.2⟩
      clear hW8
      go_wp2
      refine bodyPost_ret (ret_msg2 rfl _ _ w.heap.size rfl HF.out.1 rfl) rfl ?_
      exact decd_no HM.out (.inl (HB.out.1 (by trivial))) rfl HF.out.2
    | false =>
      have HS : Hid (s = some []) := Classical.byContradiction fun h => by have := HB.out.2 h; cases this
      have HEn : Hid (Calls Try.prog 17 #[.agg A] V4 fun e w' => ∃ aC nC cC E, e = .returned (.tuple #[.slice aC nC cC, .int .i64 E]) ∧ Hid ((msgOk m ∧ E = 0 ∧ RB w' (.slice aC nC cC) (msgB m)) ∨ (¬ msgOk m ∧ E = 50)) ∧ Below V4.heap.size V4 w') := by
        have hp := MsV_mgF (ve := ve) (vk := vk) HMk.out.1 HMk.out.2
        have h := encode_d (MsV m ve vk) V4 ⟨owns_le D4.out.es (Nat.zero_le _), owns_le D4.out.ks (Nat.zero_le _)⟩
        rw [HA.out.1, hp.1] at h
        refine h.mono fun e w' hh => ?_
        rcases hh with ⟨h0, v, he, ho, hb⟩ | ⟨h0, he, hb⟩
        · obtain ⟨aC, cC, rfl⟩ := owns_len ho
          exact ⟨aC, _, cC, 0, he, .inl ⟨hp.2.1 h0, rfl, ho.rb⟩, hb⟩
        · exact ⟨_, _, _, _, he, .inr ⟨fun h => (by rw [hp.2.2 h] at h0; cases h0), rfl⟩, hb⟩
      have nl := msgS_of D4.out.own HA.out.2.1
      go_upto_region 5 with (go_at_call 17; refine HEn.out.mono ?_; rintro e w5 ⟨aC, nC, cC, E, rfl, hP5, hb5⟩)
      have D5 : Hid (Dd w w5 w.heap.size y1 y2 A a n c k s m ve vk) := D4.out.below hb5
      clear nl HEn hb5 D4 HB
      go_cut [35] from 28 to 34 (fun x wx => ∃ B, x = .bool B ∧ Hid (B = true ↔ ¬ (msgOk m ∧ l = msgB m)) ∧ Below w5.heap.size w5 wx)
      case first =>
        rcases hP5.out with ⟨hp, hE, hrb⟩ | ⟨hp, hE⟩
        · subst hE
          obtain ⟨D, hD⟩ : ∃ D, decide (l = msgB m) = D := ⟨_, rfl⟩
          have HSm : Hid (Calls Try.prog 23 #[.slice a0 n0 c0, .slice aC nC cC] w5 fun e w' => e = .returned (.bool D) ∧ Below w5.heap.size w5 w') := by
            have := same6_any (.slice a0 n0 c0) (.slice aC nC cC) l (msgB m) w5 (HR.out.1.below D5.out.bel).rb hrb HR.out.2 (Nat.le_trans (msgB_len hp) (by omega))
            rw [hD] at this
            exact this
          have HD : Hid (D = true ↔ l = msgB m) := by rw [← hD]; exact decide_eq_true_iff
          have HPp : Hid (msgOk m) := hp
          clear hD hp hrb
          go_wp2_with (go_at_call 23; refine HSm.out.mono ?_; rintro e w10 ⟨rfl, hb10⟩)
          go_meet
          refine ⟨!D, rfl, ⟨fun h hh => ?_, fun h => ?_⟩, hb10⟩
          · rw [HD.out.2 hh.2] at h; cases h
          · cases D with
            | false => rfl
            | true => exact absurd ⟨HPp.out, HD.out.1 rfl⟩ h
        · subst hE
          have HPp : Hid (¬ msgOk m) := hp
          clear hp
          go_wp2_with fail
          go_meet
          exact ⟨true, rfl, ⟨fun _ h => HPp.out h.1, fun _ => rfl⟩, Below.refl _ _⟩
      case rest =>
        obtain ⟨B, rfl, HBq, hbc⟩ := hcut
        have D6 : Hid (Dd w wc w.heap.size y1 y2 A a n c k s m ve vk) := D5.out.below hbc
        clear hbc D5
        cases B with
        | true =>
          obtain ⟨W8, hW8⟩ : ∃ W, wc.setRow w.heap.size #[.int .i64 0, .int .i64 0, .int .i64 0, .int .i64 0, .complex .f64 0 0, .int .i64 0, .int .i64 0, .int .i64 0, .int .i64 0, .string ⟨#[]⟩, .int .i64 0, .string ⟨#[]⟩, .int .i64 0, .string ⟨#[]⟩, .slice none 0 0, .slice none 0 0] = W := ⟨_, rfl⟩
          have nt2 := msgTd_of D6.out.res rfl rfl (by simp [Value.oneCell']) hW8
          have HF : Hid (W8.heap[w.heap.size]? = some (.cells #[.int .i64 0, .int .i64 0, .int .i64 0, .int .i64 0, .complex .f64 0 0, .int .i64 0, .int .i64 0, .int .i64 0, .int .i64 0, .string ⟨#[]⟩, .int .i64 0, .string ⟨#[]⟩, .int .i64 0, .string ⟨#[]⟩, .slice none 0 0, .slice none 0 0] 30 (0, 0)) ∧ Below w.heap.size w W8) := by have h := D6.out.fin _ hW8; exact ⟨h.1, h.2.2.2⟩
          clear hW8
          go_wp2
          refine bodyPost_ret (ret_msg2 rfl _ _ w.heap.size rfl HF.out.1 rfl) rfl ?_
          refine decd_no HM.out ?_ rfl HF.out.2
          have hq := HBq.out.1 (by trivial)
          by_cases q2 : msgOk m
          · exact .inr (.inr fun q3 => hq ⟨q2, q3⟩)
          · exact .inr (.inl q2)
        | false =>
          have hq : msgOk m ∧ l = msgB m := Classical.byContradiction fun h => by have := HBq.out.2 h; cases this
          have HQ : Hid (msgOk m ∧ l = msgB m) := hq
          obtain ⟨W8, hW8⟩ : ∃ W, wc.setRow w.heap.size A = W := ⟨_, rfl⟩
          have nl2 := msgS_of D6.out.own HA.out.2.1
          have nt2 := msgTd_of D6.out.res rfl HA.out.2.1 HA.out.2.2 hW8
          have HF : Hid (W8.heap[w.heap.size]? = some (.cells A 30 (0, 0)) ∧ Row7 W8 w.heap.size ve m.es ∧ RowK W8 w.heap.size vk m.ks ∧ Below w.heap.size w W8) := D6.out.fin _ hW8
          clear hW8 hq
          go_wp2
          refine bodyPost_ret (ret_msg2 rfl _ _ w.heap.size rfl HF.out.1 HA.out.2.1) rfl ?_
          exact .inl ⟨m, ve, vk, HQ.out.1, HQ.out.2.symm, (by rw [HA.out.1]; rfl), HF.out.2.1, HF.out.2.2.1, HF.out.2.2.2⟩
end
section
open Go.ChangeShapes Go.WideShapes Go.ChangeAt Go.RowKit Go.Joins

theorem Try.cellsU : Try.prog.cellsOf 5 = 1 := by kernel_rfl
theorem Try.cellsWord : Try.prog.cellsOf 3 = 1 := by kernel_rfl
theorem Try.cellsText : Try.prog.cellsOf 9 = 1 := by kernel_rfl
theorem Try.cellsYes : Try.prog.cellsOf 4 = 1 := by kernel_rfl
theorem Try.cellsOpn : Try.prog.cellsOf 26 = 7 := by kernel_rfl
theorem Try.cellsKey : Try.prog.cellsOf 40 = 2 := by kernel_rfl
theorem Try.cellsNode : Try.prog.cellsOf 42 = 4 := by kernel_rfl
theorem Try.cellsEnt : Try.prog.cellsOf 44 = 7 := by kernel_rfl
theorem Try.cellsSlE : Try.prog.cellsOf 27 = 1 := by kernel_rfl
theorem Try.cellsSlK : Try.prog.cellsOf 28 = 1 := by kernel_rfl
theorem Try.cellsMm : Try.prog.cellsOf 54 = 17 := by kernel_rfl
theorem Try.bytesU : Try.prog.bytesOf 5 = 1 := by kernel_rfl
theorem Try.bytesEnt : Try.prog.bytesOf 44 = 72 := by kernel_rfl
theorem Try.bytesKey : Try.prog.bytesOf 40 = 24 := by kernel_rfl
theorem two {α : Type} {l : List α} (h : l.length = 2) : ∃ c0 c1, l = [c0, c1] := by
  match l, h with
  | [c0, c1], _ => exact ⟨c0, c1, rfl⟩
theorem three {α : Type} {l : List α} (h : l.length = 3) : ∃ c0 c1 c2, l = [c0, c1, c2] := by
  match l, h with
  | [c0, c1, c2], _ => exact ⟨c0, c1, c2, rfl⟩
theorem four {α : Type} {l : List α} (h : l.length = 4) : ∃ c0 c1 c2 c3, l = [c0, c1, c2, c3] := by
  match l, h with
  | [c0, c1, c2, c3], _ => exact ⟨c0, c1, c2, c3, rfl⟩
theorem seven {α : Type} {l : List α} (h : l.length = 7) : ∃ c0 c1 c2 c3 c4 c5 c6, l = [c0, c1, c2, c3, c4, c5, c6] := by
  match l, h with
  | [c0, c1, c2, c3, c4, c5, c6], _ => exact ⟨c0, c1, c2, c3, c4, c5, c6, rfl⟩
theorem eleven {α : Type} {l : List α} (h : l.length = 11) : ∃ c0 c1 c2 c3 c4 c5 c6 c7 c8 c9 c10, l = [c0, c1, c2, c3, c4, c5, c6, c7, c8, c9, c10] := by
  match l, h with
  | [c0, c1, c2, c3, c4, c5, c6, c7, c8, c9, c10], _ => exact ⟨c0, c1, c2, c3, c4, c5, c6, c7, c8, c9, c10, rfl⟩
theorem seventeen {α : Type} {l : List α} (h : l.length = 17) : ∃ c0 c1 c2 c3 c4 c5 c6 c7 c8 c9 c10 c11 c12 c13 c14 c15 c16, l = [c0, c1, c2, c3, c4, c5, c6, c7, c8, c9, c10, c11, c12, c13, c14, c15, c16] := by
  match l, h with
  | [c0, c1, c2, c3, c4, c5, c6, c7, c8, c9, c10, c11, c12, c13, c14, c15, c16], _ => exact ⟨c0, c1, c2, c3, c4, c5, c6, c7, c8, c9, c10, c11, c12, c13, c14, c15, c16, rfl⟩
theorem weightsAll_mem {H : Type} {P : Program} {e : TypeId} {d : DataW H} {n : Nat} : ∀ {ds : List (DataW H)}, d ∈ ds → n ∈ d.weights P e → n ∈ DataW.weightsAll P e ds
  | [], h, _ => by cases h
  | d0 :: ds, h, hn => by
    simp only [DataW.weightsAll, List.mem_append]
    rcases List.mem_cons.1 h with rfl | h
    · exact .inl hn
    · exact .inr (weightsAll_mem h hn)
/-- what a slice weighs -/
theorem weights_slice {H : Type} {P : Program} {t e : TypeId} {elems spare : List (DataW H)} (hu : P.underlying t = some (.slice e)) (h : ∀ n ∈ (DataW.slice elems spare).weights P t, n ≤ reachBytes) : elems.length * P.bytesOf e ≤ reachBytes := by
  simp only [DataW.weights, hu] at h
  exact Nat.le_trans (Nat.mul_le_mul_right _ (Nat.le_add_right _ _)) (h _ (List.mem_cons_self ..))

section
variable {H : Type} {enc : TypeId × Value → H} {W : World}
theorem op_of {fuel : Nat} {cs : List Value} {x : DataW H × List MemPlace} (h : DataW.trod enc Try.prog W 0 (fun _ => true) true fuel 26 cs = some x) : ∃ p : Opn, cs = p.arr.toList := by
  obtain ⟨xs, n, _, rfl, hl, hlen, hf⟩ := DataW.trod_struct Try.underlying26 h
  rw [Try.cellsOpn] at hl
  obtain ⟨c0, c1, c2, c3, c4, c5, c6, rfl⟩ := seven hl
  obtain ⟨y0, y1, y2, y3, y4, y5, y6, rfl⟩ := seven (l := xs) (by simpa using hlen)
  have h0 : DataW.trod enc Try.prog W 0 (fun _ => true) true n 3 (([c0, c1, c2, c3, c4, c5, c6].drop 0).take (Try.prog.cellsOf 3)) = some y0 := hf 0 _ rfl
  have h1 : DataW.trod enc Try.prog W 0 (fun _ => true) true n 3 (([c0, c1, c2, c3, c4, c5, c6].drop 1).take (Try.prog.cellsOf 3)) = some y1 := hf 1 _ rfl
  have h2 : DataW.trod enc Try.prog W 0 (fun _ => true) true n 9 (([c0, c1, c2, c3, c4, c5, c6].drop 2).take (Try.prog.cellsOf 9)) = some y2 := hf 2 _ rfl
  have h3 : DataW.trod enc Try.prog W 0 (fun _ => true) true n 3 (([c0, c1, c2, c3, c4, c5, c6].drop 3).take (Try.prog.cellsOf 3)) = some y3 := hf 3 _ rfl
  have h4 : DataW.trod enc Try.prog W 0 (fun _ => true) true n 9 (([c0, c1, c2, c3, c4, c5, c6].drop 4).take (Try.prog.cellsOf 9)) = some y4 := hf 4 _ rfl
  have h5 : DataW.trod enc Try.prog W 0 (fun _ => true) true n 3 (([c0, c1, c2, c3, c4, c5, c6].drop 5).take (Try.prog.cellsOf 3)) = some y5 := hf 5 _ rfl
  have h6 : DataW.trod enc Try.prog W 0 (fun _ => true) true n 9 (([c0, c1, c2, c3, c4, c5, c6].drop 6).take (Try.prog.cellsOf 9)) = some y6 := hf 6 _ rfl
  rw [Try.cellsWord] at h0 h1 h3 h5
  rw [Try.cellsText] at h2 h4 h6
  obtain ⟨p0, e0, _, _⟩ := DataW.trod_int Try.underlying3 h0
  obtain ⟨p1, e1, _, _⟩ := DataW.trod_int Try.underlying3 h1
  obtain ⟨p2, e2, _, _⟩ := DataW.trod_string Try.underlying9 h2
  obtain ⟨p3, e3, _, _⟩ := DataW.trod_int Try.underlying3 h3
  obtain ⟨p4, e4, _, _⟩ := DataW.trod_string Try.underlying9 h4
  obtain ⟨p5, e5, _, _⟩ := DataW.trod_int Try.underlying3 h5
  obtain ⟨p6, e6, _, _⟩ := DataW.trod_string Try.underlying9 h6
  simp at e0 e1 e2 e3 e4 e5 e6
  subst e0 e1 e2 e3 e4 e5 e6
  exact ⟨⟨p0, p1, p2, p3, p4, p5, p6⟩, rfl⟩
theorem ky_of {fuel : Nat} {cs : List Value} {x : DataW H × List MemPlace} (h : DataW.trod enc Try.prog W 0 (fun _ => true) true fuel 40 cs = some x) : ∃ p : Ky, cs = [.int .i64 p.d, .string p.nm] := by
  obtain ⟨xs, n, _, rfl, hl, hlen, hf⟩ := DataW.trod_struct Try.underlying40 h
  rw [Try.cellsKey] at hl
  obtain ⟨c0, c1, rfl⟩ := two hl
  obtain ⟨y0, y1, rfl⟩ := two (l := xs) (by simpa using hlen)
  have h0 : DataW.trod enc Try.prog W 0 (fun _ => true) true n 3 (([c0, c1].drop 0).take (Try.prog.cellsOf 3)) = some y0 := hf 0 _ rfl
  have h1 : DataW.trod enc Try.prog W 0 (fun _ => true) true n 9 (([c0, c1].drop 1).take (Try.prog.cellsOf 9)) = some y1 := hf 1 _ rfl
  rw [Try.cellsWord] at h0
  rw [Try.cellsText] at h1
  obtain ⟨p0, e0, _, _⟩ := DataW.trod_int Try.underlying3 h0
  obtain ⟨p1, e1, _, _⟩ := DataW.trod_string Try.underlying9 h1
  simp at e0 e1
  subst e0 e1
  exact ⟨⟨p0, p1⟩, rfl⟩
theorem nd_of {fuel : Nat} {cs : List Value} {x : DataW H × List MemPlace} (h : DataW.trod enc Try.prog W 0 (fun _ => true) true fuel 42 cs = some x) : ∃ (i k m : Int) (t : ByteArray), cs = [.int .i64 i, .int .i64 k, .int .i64 m, .string t] := by
  obtain ⟨xs, n, _, rfl, hl, hlen, hf⟩ := DataW.trod_struct Try.underlying42 h
  rw [Try.cellsNode] at hl
  obtain ⟨c0, c1, c2, c3, rfl⟩ := four hl
  obtain ⟨y0, y1, y2, y3, rfl⟩ := four (l := xs) (by simpa using hlen)
  have h0 : DataW.trod enc Try.prog W 0 (fun _ => true) true n 3 (([c0, c1, c2, c3].drop 0).take (Try.prog.cellsOf 3)) = some y0 := hf 0 _ rfl
  have h1 : DataW.trod enc Try.prog W 0 (fun _ => true) true n 3 (([c0, c1, c2, c3].drop 1).take (Try.prog.cellsOf 3)) = some y1 := hf 1 _ rfl
  have h2 : DataW.trod enc Try.prog W 0 (fun _ => true) true n 3 (([c0, c1, c2, c3].drop 2).take (Try.prog.cellsOf 3)) = some y2 := hf 2 _ rfl
  have h3 : DataW.trod enc Try.prog W 0 (fun _ => true) true n 9 (([c0, c1, c2, c3].drop 3).take (Try.prog.cellsOf 9)) = some y3 := hf 3 _ rfl
  rw [Try.cellsWord] at h0 h1 h2
  rw [Try.cellsText] at h3
  obtain ⟨p0, e0, _, _⟩ := DataW.trod_int Try.underlying3 h0
  obtain ⟨p1, e1, _, _⟩ := DataW.trod_int Try.underlying3 h1
  obtain ⟨p2, e2, _, _⟩ := DataW.trod_int Try.underlying3 h2
  obtain ⟨p3, e3, _, _⟩ := DataW.trod_string Try.underlying9 h3
  simp at e0 e1 e2 e3
  subst e0 e1 e2 e3
  exact ⟨p0, p1, p2, p3, rfl⟩
theorem en_of {fuel : Nat} {cs : List Value} {x : DataW H × List MemPlace} (h : DataW.trod enc Try.prog W 0 (fun _ => true) true fuel 44 cs = some x) : ∃ p : En, cs = p.vals := by
  obtain ⟨xs, n, _, rfl, hl, hlen, hf⟩ := DataW.trod_struct Try.underlying44 h
  rw [Try.cellsEnt] at hl
  obtain ⟨c0, c1, c2, c3, c4, c5, c6, rfl⟩ := seven hl
  obtain ⟨y0, y1, y2, rfl⟩ := three (l := xs) (by simpa using hlen)
  have h0 : DataW.trod enc Try.prog W 0 (fun _ => true) true n 40 (([c0, c1, c2, c3, c4, c5, c6].drop 0).take (Try.prog.cellsOf 40)) = some y0 := hf 0 _ rfl
  have h1 : DataW.trod enc Try.prog W 0 (fun _ => true) true n 4 (([c0, c1, c2, c3, c4, c5, c6].drop 2).take (Try.prog.cellsOf 4)) = some y1 := hf 1 _ rfl
  have h2 : DataW.trod enc Try.prog W 0 (fun _ => true) true n 42 (([c0, c1, c2, c3, c4, c5, c6].drop 3).take (Try.prog.cellsOf 42)) = some y2 := hf 2 _ rfl
  rw [Try.cellsKey] at h0
  rw [Try.cellsYes] at h1
  rw [Try.cellsNode] at h2
  obtain ⟨p0, e0⟩ := ky_of h0
  obtain ⟨p1, e1, _⟩ := DataW.trod_bool Try.underlying4 h1
  obtain ⟨i, k, m, t, e2⟩ := nd_of h2
  simp at e0 e1 e2
  obtain ⟨rfl, rfl⟩ := e0
  subst e1
  obtain ⟨rfl, rfl, rfl, rfl⟩ := e2
  exact ⟨⟨p0.d, p0.nm, p1, i, k, m, t⟩, rfl⟩
end
end
section
open Go.ChangeShapes Go.WideShapes Go.ChangeAt Go.RowKit Go.Joins

theorem kc_get' (ks : List Ky) (i j : Nat) (p : Ky) (h : ks[i]? = some p) (hj : j < 2) : (kc ks)[i * 2 + j]? = ([.int .i64 p.d, .string p.nm] : List Value)[j]? := by
  obtain ⟨h0, h1⟩ := kc_get ks i p h
  have : j = 0 ∨ j = 1 := by omega
  rcases this with rfl | rfl
  · exact h0
  · exact h1
section
variable {H : Type} {enc : TypeId × Value → H} {W : World}
theorem argE_of {fuel : Nat} {v : Value} {x : DataW H × List MemPlace} (h : DataW.trod enc Try.prog W 0 (fun _ => true) true fuel 27 [v] = some x) (hw : ∀ n ∈ x.1.weights Try.prog 27, n ≤ reachBytes) : ∃ es, ArgE W v es := by
  rcases Go.Deep.open_slice Try.underlying27 h with ⟨hcs, hx⟩ | ⟨a', len, cap, m, n, D, Pl, hcs, hb, hl, hm, hmm, rfl, hel⟩
  · simp at hcs
    subst hcs
    exact ⟨[], _, _, rfl, by simp, .inl rfl⟩
  · simp at hcs
    subst hcs
    simp only [if_true] at hmm
    subst hmm
    have hlen : len * 72 ≤ 140737488351232 := by
      have := weights_slice Try.underlying27 hw
      rw [Try.bytesEnt] at this
      simp [reachBytes] at this
      omega
    by_cases h0 : len = 0
    · subst h0; exact ⟨[], _, _, rfl, by simp, .inl rfl⟩
    have key : ∀ i, i < len → ∃ p : En, ∀ r u, p.vals[r]? = some u → W.cell? ((a'.add (i * 7)).add r) = some u := by
      intro i hi
      obtain ⟨cs', hc, ht⟩ := hel i (by omega)
      rw [Try.cellsEnt] at hc
      obtain ⟨_, hlen', hget⟩ := World.cells?_some hc
      obtain ⟨p, rfl⟩ := en_of ht
      refine ⟨p, fun r u hu => ?_⟩
      have hr : r < 7 := by have := (List.getElem?_eq_some_iff.1 hu).1; simpa [En.vals] using this
      have := hget r (by omega)
      rw [hu] at this
      exact this
    have iO : Inhabited En := ⟨⟨0, ⟨#[]⟩, false, 0, 0, 0, ⟨#[]⟩⟩⟩
    obtain ⟨X, hX⟩ := Go.Deep.choose_lt (α := En) key
    obtain ⟨b, off, spot⟩ := a'
    have hc0 := hX 0 (by omega) 0 _ rfl
    have hs := World.cell?_spot hc0
    have hspot : spot = none := by simpa [Addr.add] using hs
    subst hspot
    have hlt : b < W.heap.size := cellLt hc0
    refine ⟨(List.range len).map X, some ⟨b, off, none⟩, _, by simp; rfl, by simpa using hlen, .inr ⟨b, off, rfl, hlt, fun j u hu => ?_⟩⟩
    have hj : j < len * 7 := by have := (List.getElem?_eq_some_iff.1 hu).1; rw [ec_len] at this; simpa using this
    have hi : j / 7 < len := by omega
    have he : ((List.range len).map X)[j / 7]? = some (X (j / 7)) := by rw [List.getElem?_map, List.getElem?_range hi]; rfl
    have hg := ec_get _ (j / 7) (j % 7) _ he (by omega)
    rw [show j / 7 * 7 + j % 7 = j by omega, hu] at hg
    have := hX (j / 7) hi (j % 7) u hg.symm
    rw [add_plain', add_plain', show off + j / 7 * 7 + j % 7 = off + j by omega] at this
    exact this
theorem argK_of {fuel : Nat} {v : Value} {x : DataW H × List MemPlace} (h : DataW.trod enc Try.prog W 0 (fun _ => true) true fuel 28 [v] = some x) (hw : ∀ n ∈ x.1.weights Try.prog 28, n ≤ reachBytes) : ∃ ks, ArgK W v ks := by
  rcases Go.Deep.open_slice Try.underlying28 h with ⟨hcs, hx⟩ | ⟨a', len, cap, m, n, D, Pl, hcs, hb, hl, hm, hmm, rfl, hel⟩
  · simp at hcs
    subst hcs
    exact ⟨[], _, _, rfl, by simp, .inl rfl⟩
  · simp at hcs
    subst hcs
    simp only [if_true] at hmm
    subst hmm
    have hlen : len * 24 ≤ 140737488351232 := by
      have := weights_slice Try.underlying28 hw
      rw [Try.bytesKey] at this
      simp [reachBytes] at this
      omega
    by_cases h0 : len = 0
    · subst h0; exact ⟨[], _, _, rfl, by simp, .inl rfl⟩
    have key : ∀ i, i < len → ∃ p : Ky, ∀ r u, ([.int .i64 p.d, .string p.nm] : List Value)[r]? = some u → W.cell? ((a'.add (i * 2)).add r) = some u := by
      intro i hi
      obtain ⟨cs', hc, ht⟩ := hel i (by omega)
      rw [Try.cellsKey] at hc
      obtain ⟨_, hlen', hget⟩ := World.cells?_some hc
      obtain ⟨p, rfl⟩ := ky_of ht
      refine ⟨p, fun r u hu => ?_⟩
      have hr : r < 2 := by have := (List.getElem?_eq_some_iff.1 hu).1; simpa using this
      have := hget r (by omega)
      rw [hu] at this
      exact this
    have iO : Inhabited Ky := ⟨⟨0, ⟨#[]⟩⟩⟩
    obtain ⟨X, hX⟩ := Go.Deep.choose_lt (α := Ky) key
    obtain ⟨b, off, spot⟩ := a'
    have hc0 := hX 0 (by omega) 0 _ rfl
    have hs := World.cell?_spot hc0
    have hspot : spot = none := by simpa [Addr.add] using hs
    subst hspot
    have hlt : b < W.heap.size := cellLt hc0
    refine ⟨(List.range len).map X, some ⟨b, off, none⟩, _, by simp; rfl, by simpa using hlen, .inr ⟨b, off, rfl, hlt, fun j u hu => ?_⟩⟩
    have hj : j < len * 2 := by have := (List.getElem?_eq_some_iff.1 hu).1; rw [kc_len] at this; simpa using this
    have hi : j / 2 < len := by omega
    have he : ((List.range len).map X)[j / 2]? = some (X (j / 2)) := by rw [List.getElem?_map, List.getElem?_range hi]; rfl
    have hg := kc_get' _ (j / 2) (j % 2) _ he (by omega)
    rw [show j / 2 * 2 + j % 2 = j by omega, hu] at hg
    have := hX (j / 2) hi (j % 2) u hg.symm
    rw [add_plain', add_plain', show off + j / 2 * 2 + j % 2 = off + j by omega] at this
    exact this
/-- bytes that came in -/
theorem bytes_of {v : Value} {d : DataW H} {ps : List MemPlace} (h : DataW.Trod enc Try.prog W 0 (fun _ => true) true 22 v d ps) (hw : ∀ n ∈ d.weights Try.prog 22, n ≤ reachBytes) (hv : ∃ a len cap, v = .slice a len cap) : ∃ l, RC W v l ∧ l.length ≤ LB ∧ Byt l := by
  obtain ⟨fuel, hf⟩ := h
  obtain ⟨a0, len0, cap0, rfl⟩ := hv
  rcases Go.Deep.open_slice1 Try.underlying22 Try.cellsU hf with ⟨hcs, hx⟩ | ⟨a, len, cap, m, n, V, D, Pl, hcs, hb, hl, hm, hmm, hx, hel⟩
  · simp [Value.cells] at hcs
    obtain ⟨rfl, rfl, rfl⟩ := hcs
    exact ⟨[], ⟨_, _, rfl, by simp, .inl rfl⟩, by simp, Byt.nil⟩
  · simp [Value.cells] at hcs
    obtain ⟨rfl, rfl, rfl⟩ := hcs
    simp only [if_true] at hmm
    subst hmm
    simp only [Prod.mk.injEq] at hx
    have hlen : len0 ≤ LB := by
      rw [hx.1] at hw
      have := weights_slice Try.underlying22 hw
      rw [Try.bytesU] at this
      simp [reachBytes] at this
      unfold LB; omega
    have key : ∀ i, i < len0 → ∃ x : Int, W.cell? (a.add i) = some (.int .u8 x) ∧ 0 ≤ x ∧ x < 256 := by
      intro i hi
      obtain ⟨h1, h2⟩ := hel i (by omega)
      obtain ⟨p, e0, _, hwf⟩ := DataW.trod_int Try.underlying5 h2
      simp at e0
      rw [e0] at h1
      exact ⟨p, h1, by simp [Lit.wf, IntKind.min, IntKind.max, IntKind.bits, IntKind.signed] at hwf; omega⟩
    obtain ⟨X, hX⟩ := Go.Deep.choose_lt (α := Int) key
    refine ⟨(List.range len0).map X, ⟨some a, _, by simp; rfl, by simpa using hl, ?_⟩, by simpa using hlen, fun x hx => ?_⟩
    · by_cases h0 : len0 = 0
      · exact .inl (by simp [h0])
      · right
        obtain ⟨b, off, spot⟩ := a
        have hs := World.cell?_spot (hX 0 (by omega)).1
        have hspot : spot = none := by simpa [Addr.add] using hs
        subst hspot
        refine ⟨b, off, rfl, cellLt (hX 0 (by omega)).1, fun i x hx => ?_⟩
        have hi : i < len0 := by have := (List.getElem?_eq_some_iff.1 hx).1; simpa using this
        rw [List.getElem?_map, List.getElem?_range hi] at hx
        cases hx
        have := (hX i hi).1
        rw [add_plain'] at this
        exact this
    · obtain ⟨i, hi, rfl⟩ := List.mem_map.1 hx
      exact (hX i (List.mem_range.1 hi)).2
end
end
section
open Go.RowKit Go.Lib
attribute [local go_sem ↓ high] loadMg storeMd

/-- a message in memory: its cells, its lists -/
structure Sm (w : World) (A : Array Value) (re im : Nat) (m : Mg) : Prop where
  ex : ∃ ve vk, A = (Ms.arr ⟨m.kind, m.client, m.life, m.seq, re, im, m.vers, m.err, m.op, ve, vk, m.es, m.ks⟩) ∧ Row7 w 0 ve m.es ∧ RowK w 0 vk m.ks
theorem Sm.below {w w' : World} {A : Array Value} {re im : Nat} {m : Mg} (h : Sm w A re im m) (hb : Below w.heap.size w w') : Sm w' A re im m := by
  obtain ⟨ve, vk, e, h1, h2⟩ := h.ex
  exact ⟨ve, vk, e, h1.below hb, h2.below hb⟩
theorem Sm.off {w w' : World} {A : Array Value} {re im : Nat} {m : Mg} {g : Nat} (h : Sm w A re im m) (ho : Only (· = g) w w') (hg : Tag w g 30) : Sm w' A re im m := by
  obtain ⟨ve, vk, e, h1, h2⟩ := h.ex
  exact ⟨ve, vk, e, row_off h1 ho hg (by decide), rowk_off h2 ho hg (by decide)⟩
theorem Sm.size {w : World} {A : Array Value} {re im : Nat} {m : Mg} (h : Sm w A re im m) : A.size = 16 ∧ A.all (·.oneCell') = true := by
  obtain ⟨ve, vk, rfl, h1, h2⟩ := h.ex
  have e1 := own_one h1
  have e2 := own_one h2
  refine ⟨rfl, ?_⟩
  unfold Ms.arr
  simp [Value.oneCell'] <;> exact ⟨e1, e2⟩
theorem Sm.same {w : World} {A A' : Array Value} {re im : Nat} {m : Mg} (h : Sm w A re im m) (h' : Sm w A' re im m) (h1 : FloatKind.f64.format.order re re = some .eq) (h2 : FloatKind.f64.format.order im im = some .eq) (hle : m.es.length ≤ 1000000000) (hlk : m.ks.length ≤ 1000000000) :
    Calls Try.prog 9 #[.agg A, .agg A'] w fun e w' => e = .returned (.bool true) ∧ Below w.heap.size w w' := by
  obtain ⟨ve, vk, rfl, a1, a2⟩ := h.ex
  obtain ⟨ve', vk', rfl, b1, b2⟩ := h'.ex
  exact sameMsg_yes m.kind m.client m.life m.seq re im re im m.vers m.err m.op ve vk ve' vk' m.es m.ks w h1 h2 a1 b1 a2 b2 hle hlk
theorem order_int {n : Int} (h : 0 ≤ n ∧ n ≤ 4398046511103) : FloatKind.f64.format.order (floatOfInt .f64 n) (floatOfInt .f64 n) = some .eq := by
  rw [order_whole (ofInt_val n (by omega)) (ofInt_val n (by omega)), Int.compare_eq_eq.2 rfl]
/-- what both answer of the same bytes: the same message in memory, and the same error -/
theorem dec_both (l : List Int) (hby : Byt l) (hlim : l.length ≤ 140737488351232) : ∃ (m : Mg) (re im : Nat) (E : Int), FloatKind.f64.format.order re re = some .eq ∧ FloatKind.f64.format.order im im = some .eq ∧ m.es.length ≤ 1000000000 ∧ m.ks.length ≤ 1000000000 ∧
    (∀ v W, RC W v l → Calls Try.prog 6 #[v] W fun e w' => ∃ A, e = .returned (.tuple #[.agg A, .int .i64 E]) ∧ Hid (Sm w' A re im m) ∧ Below W.heap.size W w') ∧
    (∀ v W, RC W v l → Calls Try.prog 8 #[v] W fun e w' => ∃ A, e = .returned (.tuple #[.agg A, .int .i64 E]) ∧ Hid (Sm w' A re im m) ∧ Below W.heap.size W w') := by
  by_cases hU : ∃ m, msgOk m ∧ msgB m = l
  · obtain ⟨m, hm, hl⟩ := hU
    have key : ∀ {w w' : World} {e : Ending}, DecR l w w' e → ∃ A, e = .returned (.tuple #[.agg A, .int .i64 0]) ∧ Hid (Sm w' A (floatOfInt .f64 m.ep) (floatOfInt .f64 m.nb) m) ∧ Below w.heap.size w w' := fun hh => by
      rcases hh with ⟨m', ve, vk, hm', hB, he, h1, h2, hb⟩ | ⟨h0, _⟩
      · have := msgB_inj hm' hm (hB.trans hl.symm)
        subst this
        exact ⟨_, he, ⟨ve, vk, rfl, owns_le h1 (Nat.zero_le _), owns_le h2 (Nat.zero_le _)⟩, hb⟩
      · exact absurd hl (h0 m hm)
    have hn := hm.1
    have hb := hm.2
    refine ⟨m, _, _, 0, order_int ⟨hn.ep.1, by have := hn.ep.2; omega⟩, order_int ⟨hn.nb.1, by have := hn.nb.2; omega⟩, ?_, ?_, fun v W h => (decode_p v l W h hby (by omega)).mono fun _ _ hh => key hh, fun v W h => (decoded_any v l W h hby hlim).mono fun _ _ hh => key hh⟩
    · rcases hb with h | h | h | h
      · rw [h.2.2.1]; simp
      · have := h.2.2.1; omega
      · rw [h.2.2.1]; simp
      · rw [h.2.2.1]; simp
    · rcases hb with h | h | h | h
      · rw [h.2.2.2]; simp
      · rw [h.2.2.2.2]; simp
      · have := h.2.2.2.2.1; omega
      · rw [h.2.2.2]; simp
  · have key : ∀ {w w' : World} {e : Ending}, DecR l w w' e → ∃ A, e = .returned (.tuple #[.agg A, .int .i64 50]) ∧ Hid (Sm w' A 0 0 ⟨0, 0, 0, 0, 0, 0, 0, 0, zeroOp, [], []⟩) ∧ Below w.heap.size w w' := fun hh => by
      rcases hh with ⟨m, ve, vk, hm, hB, _⟩ | ⟨_, he, hb⟩
      · exact absurd ⟨m, hm, hB⟩ hU
      · exact ⟨_, he, ⟨.slice none 0 0, .slice none 0 0, rfl, World.ownsRow_nil _ _ _ _, World.ownsRow_nil _ _ _ _⟩, hb⟩
    exact ⟨⟨0, 0, 0, 0, 0, 0, 0, 0, zeroOp, [], []⟩, 0, 0, 50, by decide, by decide, by simp, by simp, fun v W h => (decode_p v l W h hby (by omega)).mono fun _ _ hh => key hh, fun v W h => (decoded_any v l W h hby hlim).mono fun _ _ hh => key hh⟩
/-- a box made and a message stored into it -/
theorem box_msg {w X Y : World} {A A' : Array Value} {re' im' : Nat} {m' : Mg} (h1 : w.alloc (.cells #[.int .i64 0, .int .i64 0, .int .i64 0, .int .i64 0, .complex .f64 0 0, .int .i64 0, .int .i64 0, .int .i64 0, .int .i64 0, .string ⟨#[]⟩, .int .i64 0, .string ⟨#[]⟩, .int .i64 0, .string ⟨#[]⟩, .slice none 0 0, .slice none 0 0] 30) = X) (h2 : X.setRow w.heap.size A = Y) (hs : Sm w A' re' im' m') : Y.heap[w.heap.size]? = some (.cells A 30 (0, 0)) ∧ Below w.heap.size w Y ∧ Sm Y A' re' im' m' := by
  have b := boxB h1
  rw [← h2]
  exact ⟨setRow_heap _ _ _ _ _ _ b.1, below_setRow b.2 (Nat.le_refl _) _, (hs.below b.2).off (setRow_only _ _ _) ⟨_, _, b.1⟩⟩
set_option maxRecDepth 20000 in
set_option maxHeartbeats 8000000 in
theorem walk_WireDecodes (a0 : Option Addr) (n0 c0 : Nat) (l : List Int) (w : World) (hr : RC w (.slice a0 n0 c0) l) (hlen : l.length ≤ LB) (hbyt : Byt l) :
    Calls Try.prog 3 #[.slice a0 n0 c0] w fun e w' => e = .returned (.bool true) ∧ Below w.heap.size w w' := by
  have hLB : l.length ≤ 140737488351232 := hlen
  have HAw : Hid (∀ W, Calls Try.prog 10 #[] W fun e w' => e = .returned (.bool true) ∧ Below W.heap.size W w') := awake_w
  have HR : Hid (RC w (.slice a0 n0 c0) l) := hr
  have HCp : Hid (Calls Try.prog 7 #[.slice a0 n0 c0] w fun e w' => ∃ v', e = .returned v' ∧ Hid (RC w' v' l) ∧ Below w.heap.size w w') := (copyB_any _ l w hr.rb hlen).mono fun e w' ⟨v', he, ho, hb⟩ => ⟨v', he, ho.rc, hb⟩
  obtain ⟨m, re, im, E, f1, f2, f3, f4, h1, h2⟩ := dec_both l hbyt hLB
  have HF : Hid (FloatKind.f64.format.order re re = some .eq ∧ FloatKind.f64.format.order im im = some .eq ∧ m.es.length ≤ 1000000000 ∧ m.ks.length ≤ 1000000000) := ⟨f1, f2, f3, f4⟩
  have H1 : Hid (∀ v W, RC W v l → Calls Try.prog 6 #[v] W fun e w' => ∃ A, e = .returned (.tuple #[.agg A, .int .i64 E]) ∧ Hid (Sm w' A re im m) ∧ Below W.heap.size W w') := h1
  have H2 : Hid (∀ v W, RC W v l → Calls Try.prog 8 #[v] W fun e w' => ∃ A, e = .returned (.tuple #[.agg A, .int .i64 E]) ∧ Hid (Sm w' A re im m) ∧ Below W.heap.size W w') := h2
  clear hr hlen hLB hbyt f1 f2 f3 f4 h1 h2
  go_enter Try.func3, Try.ntmps3
  go_upto_region 2 with (first
    | (go_at_call 7; refine HCp.out.mono ?_; rintro e w1 ⟨v1, rfl, hr1, hb1⟩)
    | (go_at_call 6; refine (H1.out v1 w1 hr1.out).mono ?_; rintro e w2 ⟨A, rfl, hs2, hb2⟩; obtain ⟨W3, hW3⟩ : ∃ W, w2.alloc (.cells #[.int .i64 0, .int .i64 0, .int .i64 0, .int .i64 0, .complex .f64 0 0, .int .i64 0, .int .i64 0, .int .i64 0, .int .i64 0, .string ⟨#[]⟩, .int .i64 0, .string ⟨#[]⟩, .int .i64 0, .string ⟨#[]⟩, .slice none 0 0, .slice none 0 0] 30) = W := ⟨_, rfl⟩; obtain ⟨W4, hW4⟩ : ∃ W, W3.setRow w2.heap.size A = W := ⟨_, rfl⟩; have nt := msgTd_of (boxB hW3).1 rfl hs2.out.size.1 hs2.out.size.2 hW4))
  have H4 : Hid (W4.heap[w2.heap.size]? = some (.cells A 30 (0, 0)) ∧ Below w.heap.size w W4 ∧ Sm W4 A re im m) := by
    have h := box_msg hW3 hW4 hs2.out
    exact ⟨h.1, chainB (chainB hb1 hb2) h.2.1, h.2.2⟩
  clear hW3 hW4 nt hr1 hb1 hb2 hs2
  go_upto_region 3 with (go_at_call 8; refine (H2.out _ W4 (HR.out.below H4.out.2.1)).mono ?_; rintro e w5 ⟨A2, rfl, hs5, hb5⟩; obtain ⟨W6, hW6⟩ : ∃ W, w5.alloc (.cells #[.int .i64 0, .int .i64 0, .int .i64 0, .int .i64 0, .complex .f64 0 0, .int .i64 0, .int .i64 0, .int .i64 0, .int .i64 0, .string ⟨#[]⟩, .int .i64 0, .string ⟨#[]⟩, .int .i64 0, .string ⟨#[]⟩, .slice none 0 0, .slice none 0 0] 30) = W := ⟨_, rfl⟩; obtain ⟨W7, hW7⟩ : ∃ W, W6.setRow w5.heap.size A2 = W := ⟨_, rfl⟩; have nt := msgTd_of (boxB hW6).1 rfl hs5.out.size.1 hs5.out.size.2 hW7)
  have H7 : Hid (W7.heap[w2.heap.size]? = some (.cells A 30 (0, 0)) ∧ W7.heap[w5.heap.size]? = some (.cells A2 30 (0, 0)) ∧ Below w.heap.size w W7 ∧ Sm W7 A re im m ∧ Sm W7 A2 re im m) := by
    have h := box_msg hW6 hW7 hs5.out
    have h' := box_msg hW6 hW7 (H4.out.2.2.below hb5)
    exact ⟨hkeep (hkeep H4.out.1 hb5) h.2.1, h.1, chainB (chainB H4.out.2.1 hb5) h.2.1, h'.2.2, h.2.2⟩
  have nl1 := msgS_of H7.out.1 H7.out.2.2.2.1.size.1
  have nl2 := msgS_of H7.out.2.1 H7.out.2.2.2.2.size.1
  clear hW6 hW7 nt hb5 hs5
  go_wp2_with (first
    | (go_at_call 9; refine (H7.out.2.2.2.1.same H7.out.2.2.2.2 HF.out.1 HF.out.2.1 HF.out.2.2.1 HF.out.2.2.2).mono ?_; rintro e w8 ⟨rfl, hb8⟩; clear nl1 nl2)
    | (go_at_call 10; refine (HAw.out _).mono ?_; rintro e w9 ⟨rfl, hb9⟩))
  go_ret
  exact ⟨rfl, chainB H7.out.2.2.1 (chainB hb8 hb9)⟩
end
end Go.Proofs.Ytekonakanieeaaa
