/- The contracts of SameLetters and awake. -/
import Derived.Test.YtminjmlneikllaaBgX
namespace Go.Proofs.Ytminjmlneikllaa
open Go.RowKit

theorem Mail.letter {w wr : World} {base B i cap n : Nat} {a : Option Addr} {ls : List Lt} {p : Lt} (h : Mail w base B (.slice a n cap) ls) (hi : ls[i]? = some p) (hb : Below w.heap.size w wr) : ∃ g av cv, a = some ⟨g, 0, none⟩ ∧ base ≤ g ∧ g < w.heap.size ∧ p.v = .slice av p.l.length cv ∧ wr.cell? ⟨g, i * 2, none⟩ = some (.int .i64 p.n) ∧ wr.cell? ⟨g, i * 2 + 1, none⟩ = some (.slice av p.l.length cv) ∧ OwnB wr B (.slice av p.l.length cv) p.l ∧ p.l.length ≤ LB := by
  have hlt : i < ls.length := (List.getElem?_eq_some_iff.1 hi).1
  have h2 := h.below hb
  have hrow := h.row
  obtain ⟨N, hN⟩ : ∃ N, ls.length = N + 1 := ⟨ls.length - 1, by omega⟩
  rw [hN] at hrow
  obtain ⟨g, cap', e⟩ := owns_form hrow
  cases e
  have hrow2 := h2.row
  rw [hN] at hrow2
  obtain ⟨hc, _, _, _, _, _⟩ := owns_cells hrow2
  obtain ⟨_, _, _, _, hbase, hg⟩ := owns_cells hrow
  obtain ⟨l0, l1⟩ := lc_get ls i p hi
  have hp := h2.each _ (List.mem_of_getElem? hi)
  obtain ⟨av, cv, ev⟩ := owns_len hp.1
  rw [ev] at l1 hp
  exact ⟨g, av, cv, rfl, hbase, hg, ev, hc _ _ l0, hc _ _ l1, hp.1, hp.2⟩
theorem Mail.len {w : World} {base B : Nat} {v : Value} {ls : List Lt} (h : Mail w base B v ls) : ∃ a cap, v = .slice a ls.length cap := owns_len h.row
theorem sayL_get {ls ls' : List Lt} (h : sayL ls = sayL ls') (i : Nat) {p p' : Lt} (hp : ls[i]? = some p) (hp' : ls'[i]? = some p') : p.n = p'.n ∧ p.l = p'.l := by
  have e1 : (sayL ls)[i]? = some (p.n, p.l) := by unfold sayL; rw [List.getElem?_map, hp]; rfl
  have e2 : (sayL ls')[i]? = some (p'.n, p'.l) := by unfold sayL; rw [List.getElem?_map, hp']; rfl
  rw [h, e2] at e1
  have e := Option.some.inj e1
  exact ⟨(congrArg Prod.fst e).symm, (congrArg Prod.snd e).symm⟩
theorem sayL_len {ls ls' : List Lt} (h : sayL ls = sayL ls') : ls.length = ls'.length := by
  have := congrArg List.length h
  unfold sayL at this
  rw [List.length_map, List.length_map] at this
  exact this
theorem keep4 {W W' : World} {p q r s : Addr} {x y u v : Value} (h : W.cell? p = some x ∧ W.cell? q = some y ∧ W.cell? r = some u ∧ W.cell? s = some v) (hb : Below W.heap.size W W') : W'.cell? p = some x ∧ W'.cell? q = some y ∧ W'.cell? r = some u ∧ W'.cell? s = some v :=
  ⟨(hb.cell (cellLt h.1)).trans h.1, (hb.cell (cellLt h.2.1)).trans h.2.1, (hb.cell (cellLt h.2.2.1)).trans h.2.2.1, (hb.cell (cellLt h.2.2.2)).trans h.2.2.2⟩

set_option maxHeartbeats 2000000 in
theorem sameL_any (v v' : Value) (ls ls' : List Lt) (base base' B B' : Nat) (w : World) (h : Mail w base B v ls) (h' : Mail w base' B' v' ls') (hs : sayL ls = sayL ls') (hl : ls.length ≤ 64) :
    Calls Try.prog 23 #[v, v'] w fun e w' => e = .returned (.bool true) ∧ Below w.heap.size w w' := by
  obtain ⟨a, cap, rfl⟩ := h.len
  obtain ⟨a', cap', rfl⟩ := h'.len
  have hll := sayL_len hs
  rw [← hll] at h' ⊢
  obtain ⟨n, hn⟩ : ∃ n, ls.length = n := ⟨_, rfl⟩
  rw [hn] at h h' hl ⊢
  have H : Hid (Mail w base B (.slice a n cap) ls ∧ Mail w base' B' (.slice a' n cap') ls' ∧ sayL ls = sayL ls' ∧ ls.length = n ∧ ls'.length = n) := ⟨h, h', hs, hn, hll ▸ hn⟩
  clear h h' hs hll hn
  go_enter Try.func23, Try.ntmps23
  go_wp2
  go_loopw [5] (fun i wr => ∃ k : Nat, k ≤ n ∧ i = .int .i64 k ∧ Below w.heap.size w wr) (fun i _ => n - (intOf i).toNat)
  case atStart => exact ⟨0, Nat.zero_le _, rfl, Below.refl _ _⟩
  case round =>
    obtain ⟨k, hk, rfl, hb⟩ := hrel
    by_cases hlt : k < n
    · obtain ⟨p, hp⟩ : ∃ p, ls[k]? = some p := ⟨_, List.getElem?_eq_getElem (by rw [H.out.2.2.2.1]; exact hlt)⟩
      obtain ⟨p', hp'⟩ : ∃ p, ls'[k]? = some p := ⟨_, List.getElem?_eq_getElem (by rw [H.out.2.2.2.2]; exact hlt)⟩
      obtain ⟨e1, e2⟩ := sayL_get H.out.2.2.1 k hp hp'
      obtain ⟨g, av, cv, rfl, _, _, _, c0, c1, ho, hlb⟩ := H.out.1.letter hp hb
      obtain ⟨g', av', cv', rfl, _, _, _, c0', c1', ho', hlb'⟩ := H.out.2.1.letter hp' hb
      obtain ⟨pn, pv, pl'⟩ := p
      obtain ⟨pn', pv', pl''⟩ := p'
      simp only at e1 e2 c0 c1 c0' c1' ho ho' hlb hlb'
      subst e1 e2
      have hki : (k : Int) < (n : Int) := by omega
      have HB : Hid (RB wr.drew (.slice av pl'.length cv) pl' ∧ RB wr.drew (.slice av' pl'.length cv') pl' ∧ pl'.length ≤ LB ∧ decide (pl' = pl') = true) := ⟨ho.rb.below (Below.refl _ _).drew, ho'.rb.below (Below.refl _ _).drew, hlb, decide_eq_true rfl⟩
      clear hp hp' ho ho' hlb hlb'
      go_upto_region 6 with fail
      go_region_held3 (fun w' => w'.cell? ⟨g, k * 2, none⟩ = some (.int .i64 pn) ∧ w'.cell? ⟨g, k * 2 + 1, none⟩ = some (.slice av pl'.length cv) ∧ w'.cell? ⟨g', k * 2, none⟩ = some (.int .i64 pn) ∧ w'.cell? ⟨g', k * 2 + 1, none⟩ = some (.slice av' pl'.length cv'))
        (first | exact ⟨c0, c1, c0', c1'⟩ | exact keep4 (by assumption) (by assumption) | assumption)
        (first | (go_at_call 17; refine (same_any _ _ pl' pl' _ HB.out.1 HB.out.2.1 HB.out.2.2.1 HB.out.2.2.1).mono ?_; rintro e w5 ⟨rfl, hb5⟩; rw [HB.out.2.2.2]))
      go_wp2
      go_roundw
      case rel => exact ⟨k + 1, by omega, by go_num, chainB (hb.drew) hb5⟩
      case measure => simp [intOf]; omega
    · have hkn : k = n := by omega
      subst hkn
      go_wp2
      go_ret
      exact ⟨rfl, hb⟩

theorem new2 (w : World) : Calls Try.prog 8 #[.int .i64 2] w fun e w' => ∃ b, e = .returned (.tuple #[.pointer (some ⟨b, 0, none⟩), .int .i64 0]) ∧ w.heap.size ≤ b ∧ (∀ B, IsB TB w' B b (Bg.new 2)) ∧ Below w.heap.size w w' := new_yes 2 w (by decide) (by decide)
theorem new64 (w : World) : Calls Try.prog 8 #[.int .i64 64] w fun e w' => ∃ b, e = .returned (.tuple #[.pointer (some ⟨b, 0, none⟩), .int .i64 0]) ∧ w.heap.size ≤ b ∧ (∀ B, IsB TB w' B b (Bg.new 64)) ∧ Below w.heap.size w w' := new_yes 64 w (by decide) (by decide)
theorem say_get {s : Bg} {i : Nat} {x : Int × List Int} (h : s.say[i]? = some x) : ∃ p, s.ls[i]? = some p ∧ p.n = x.1 ∧ p.l = x.2 := by
  unfold Bg.say at h
  rw [List.getElem?_map] at h
  cases e : s.ls[i]? with
  | none => rw [e] at h; cases h
  | some p => rw [e] at h; cases h; exact ⟨p, rfl, rfl, rfl⟩
theorem buildB (w : World) (x : Int) : RB (w.alloc (.cells #[.int .u8 x] 5)) (.slice (some ⟨w.heap.size, 0, none⟩) 1 1) [x] :=
  ⟨_, _, rfl, .inr ⟨_, _, rfl, by simp, fun i y hy => by
    match i, hy with
    | 0, hy => simp at hy; subst hy; rw [cell_of (heap_new _ _)]; rfl⟩⟩

/-- a bag of the law's own -/
structure Bx (w0 w : World) (B b : Nat) (s : Bg) : Prop where
  is : IsB TB w B b s
  bel : Below w0.heap.size w0 w
  lb : w0.heap.size ≤ b
  lv : ∀ q, s.v.ownBlock = some q → w0.heap.size ≤ q
  hB : B ≤ w.heap.size
theorem Bx.below {w0 w w' : World} {B b : Nat} {s : Bg} (h : Bx w0 w B b s) (hb : Below w.heap.size w w') : Bx w0 w' B b s := ⟨h.is.below hb, chainB h.bel hb, h.lb, h.lv, Nat.le_trans h.hB hb.size⟩
theorem Bx.alloc {w0 w : World} {B b : Nat} {s : Bg} (h : Bx w0 w B b s) (o : Obj) : Bx w0 (w.alloc o) B b s := h.below (below_alloc _ _)
theorem Bx.drew {w0 w : World} {B b : Nat} {s : Bg} (h : Bx w0 w B b s) : Bx w0 w.drew B b s := h.below (Below.refl _ _).drew
theorem Bx.step {w0 w w' : World} {B b : Nat} {s s' : Bg} {L : List (Int × List Int)} (h : Bx w0 w B b s) (hs : Step TB w w' B b s s' L) : Bx w0 w' B b s' := by
  refine ⟨hs.is, hs.only.below h.bel h.bel.size (fun k e => e.elim (fun e => e ▸ h.lb) (fun e => h.lv k e)), h.lb, fun q hq => ?_, Nat.le_trans h.hB hs.only.size⟩
  rcases hs.v with e | e
  · exact h.lv q (e ▸ hq)
  · exact Nat.le_trans h.bel.size (e q hq)
theorem Bx.new {w0 w : World} {b n : Nat} (B : Nat) (hb : w0.heap.size ≤ b) (hB : ∀ B, IsB TB w B b (Bg.new n)) (hW : Below w0.heap.size w0 w) (hle : B ≤ w.heap.size) : Bx w0 w B b (Bg.new n) :=
  ⟨hB B, hW, hb, fun q hq => (by cases hq), hle⟩
/-- the calls, by what the bag says -/
theorem post_x (w0 : World) (B b : Nat) (s : Bg) (t : Int) (v : Value) (l : List Int) (w : World) (h : Bx w0 w B b s) (hf : s.say.length < s.n) (hv : RB w v l) (hl : l.length ≤ LB) :
    Calls Try.prog 12 #[.pointer (some ⟨b, 0, none⟩), .agg #[.int .i64 t, v]] w fun e w' => e = .returned (.int .i64 0) ∧ ∃ s', Step TB w w' B b s s' (s.say ++ [(t, l)]) ∧ Bx w0 w' B b s' := by
  refine (post_ok B b s t v l w h.is h.hB (by rw [← say_len]; exact hf) hv hl).mono ?_
  rintro e w' ⟨rfl, s', hs⟩
  exact ⟨rfl, s', hs, h.step hs⟩
theorem post_fx (w0 : World) (B b : Nat) (s : Bg) (t : Int) (v : Value) (w : World) (h : Bx w0 w B b s) (hf : s.say.length = s.n) :
    Calls Try.prog 12 #[.pointer (some ⟨b, 0, none⟩), .agg #[.int .i64 t, v]] w fun e w' => e = .returned (.int .i64 2) ∧ Below w.heap.size w w' :=
  post_full B b s t v w h.is (by rw [← say_len]; exact hf)
theorem take_x (w0 : World) (B b i : Nat) (s : Bg) (t : Int) (l : List Int) (w : World) (h : Bx w0 w B b s) (hi : s.say[i]? = some (t, l)) :
    Calls Try.prog 15 #[.pointer (some ⟨b, 0, none⟩), .int .i64 i] w fun e w' => ∃ v', e = .returned (.tuple #[.agg #[.int .i64 t, v'], .int .i64 0]) ∧ OwnB w' w.heap.size v' l ∧ l.length ≤ LB ∧ ∃ s', Step TB w w' B b s s' (s.say.eraseIdx i) ∧ Bx w0 w' B b s' := by
  obtain ⟨p, hp, rfl, rfl⟩ := say_get hi
  refine (take_ok B b i s p w h.is hp).mono ?_
  rintro e w' ⟨v', rfl, ho, s', hs⟩
  exact ⟨v', rfl, ho, (h.is.each p (List.mem_of_getElem? hp)).2, s', hs, h.step hs⟩
theorem take_nx (w0 : World) (B b : Nat) (s : Bg) (i : Int) (w : World) (h : Bx w0 w B b s) (hi : ¬ (0 ≤ i ∧ i < s.say.length)) :
    Calls Try.prog 15 #[.pointer (some ⟨b, 0, none⟩), .int .i64 i] w fun e w' => e = .returned (.tuple #[.agg #[.int .i64 0, .slice none 0 0], .int .i64 30]) ∧ Below w.heap.size w w' :=
  take_no B b s i w h.is (by rw [← say_len]; exact hi)
theorem double_x (w0 : World) (B b i : Nat) (s : Bg) (t : Int) (l : List Int) (w : World) (h : Bx w0 w B b s) (hi : s.say[i]? = some (t, l)) (hf : s.say.length < s.n) :
    Calls Try.prog 20 #[.pointer (some ⟨b, 0, none⟩), .int .i64 i] w fun e w' => e = .returned (.int .i64 0) ∧ ∃ s', Step TB w w' B b s s' (s.say ++ [(t, l)]) ∧ Bx w0 w' B b s' := by
  obtain ⟨p, hp, rfl, rfl⟩ := say_get hi
  refine (double_ok B b i s p w h.is h.hB hp (by rw [← say_len]; exact hf)).mono ?_
  rintro e w' ⟨rfl, s', hs⟩
  exact ⟨rfl, s', hs, h.step hs⟩
theorem double_fx (w0 : World) (B b i : Nat) (s : Bg) (w : World) (h : Bx w0 w B b s) (hi : i < s.say.length) (hf : s.say.length = s.n) :
    Calls Try.prog 20 #[.pointer (some ⟨b, 0, none⟩), .int .i64 i] w fun e w' => e = .returned (.int .i64 2) ∧ Below w.heap.size w w' := by
  rw [say_len] at hi hf
  exact double_full B b i s _ w h.is (List.getElem?_eq_getElem hi) hf
theorem double_nx (w0 : World) (B b : Nat) (s : Bg) (i : Int) (w : World) (h : Bx w0 w B b s) (hi : ¬ (0 ≤ i ∧ i < s.say.length)) :
    Calls Try.prog 20 #[.pointer (some ⟨b, 0, none⟩), .int .i64 i] w fun e w' => e = .returned (.int .i64 30) ∧ w' = w :=
  double_no B b s i w h.is (by rw [← say_len]; exact hi)
theorem drop_x (w0 : World) (B b i : Nat) (s : Bg) (w : World) (h : Bx w0 w B b s) (hi : i < s.say.length) :
    Calls Try.prog 18 #[.pointer (some ⟨b, 0, none⟩), .int .i64 i] w fun e w' => e = .returned (.int .i64 0) ∧ ∃ s', Step TB w w' B b s s' (s.say.eraseIdx i) ∧ Bx w0 w' B b s' := by
  refine (drop_ok B b i s w h.is (by rw [← say_len]; exact hi)).mono ?_
  rintro e w' ⟨rfl, s', hs⟩
  exact ⟨rfl, s', hs, h.step hs⟩
theorem drop_nx (w0 : World) (B b : Nat) (s : Bg) (i : Int) (w : World) (h : Bx w0 w B b s) (hi : ¬ (0 ≤ i ∧ i < s.say.length)) :
    Calls Try.prog 18 #[.pointer (some ⟨b, 0, none⟩), .int .i64 i] w fun e w' => e = .returned (.int .i64 30) ∧ w' = w :=
  drop_no B b s i w h.is (by rw [← say_len]; exact hi)
theorem len_x (w0 : World) (B b : Nat) (s : Bg) (w : World) (h : Bx w0 w B b s) :
    Calls Try.prog 22 #[.pointer (some ⟨b, 0, none⟩)] w fun e w' => e = .returned (.int .i64 s.say.length) ∧ w' = w := by
  rw [say_len]; exact len_any B b s w h.is
theorem letters_x (w0 : World) (B b : Nat) (s : Bg) (w : World) (h : Bx w0 w B b s) :
    Calls Try.prog 24 #[.pointer (some ⟨b, 0, none⟩)] w fun e w' => ∃ v' ls', e = .returned v' ∧ Mail w' w.heap.size w.heap.size v' ls' ∧ sayL ls' = s.say ∧ Below w.heap.size w w' := letters_any B b s w h.is
theorem Bx.room {w0 w : World} {B b : Nat} {s : Bg} (h : Bx w0 w B b s) : s.say.length ≤ s.n ∧ s.n ≤ 64 := ⟨by rw [say_len]; exact h.is.few, h.is.lim⟩

set_option maxHeartbeats 2000000 in
theorem awake_any (w : World) : Calls Try.prog 10 #[] w fun e w' => e = .returned (.bool true) ∧ Below w.heap.size w w' := by
  go_enter Try.func10, Try.ntmps10
  go_wp2_with (first
    | (go_at_call 8; refine (new2 _).mono ?_; rintro e w1 ⟨b, rfl, hb, hB, hW⟩; have HX : Hid _ := Bx.new w.heap.size hb hB hW hW.size; clear hB hW)
    | (go_at_call 12; refine (post_x w w.heap.size b (Bg.new 2) 3 _ [7] _ (HX.out.alloc _) (by decide) (buildB _ _) (by decide)).mono ?_; rintro e w2 ⟨rfl, s2, hS2, hX2⟩; have H2 : Hid (Bx w w2 w.heap.size b s2 ∧ s2.say = [(3, [7])]) := ⟨hX2, hS2.say⟩; clear hS2 hX2)
    | (go_at_call 15; refine (take_x w w.heap.size b 0 s2 3 [7] _ H2.out.1 (by rw [H2.out.2]; rfl)).mono ?_; rintro e w3 ⟨v3, rfl, ho3, _, s3, hS3, hX3⟩; have H3 : Hid (Bx w w3 w.heap.size b s3 ∧ s3.say.length = 0) := ⟨hX3, by rw [hS3.say, H2.out.2]; rfl⟩; clear hS3 hX3; obtain ⟨g, cap, rfl, _, hg, _, hc, _⟩ := ho3.form.resolve_left (fun e => by cases e.2); have c7 := hc 0 7 rfl; clear hc ho3)
    | (go_at_call 22; refine (len_x w w.heap.size b s3 _ (H3.out.1.alloc _)).mono ?_; rintro e w4 ⟨rfl, rfl⟩; rw [H3.out.2]))
  go_ret
  exact ⟨rfl, (H3.out.1.alloc _).bel⟩
end Go.Proofs.Ytminjmlneikllaa
