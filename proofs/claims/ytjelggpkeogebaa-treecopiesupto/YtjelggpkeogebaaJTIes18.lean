/- The contracts of package name's Check, Split, Target and Parent, and that the law's own example is answered. -/
import Derived.Test.YtjelggpkeogebaaJTIes17
import Derived.Test.YtjelggpkeogebaaJTIes16
namespace Go.Proofs.Ytjelggpkeogebaa
section
open Go.RowKit

theorem has0 (s : ByteArray) (w : World) : Calls Try.prog 68 #[.string s, .int .i32 0] w fun e w' => e = .returned (.bool (hasB s 0)) ∧ Below w.heap.size w w' := has_any s 0 w (by decide)
theorem has_z (s : ByteArray) (z : Int) (w : World) (h0 : 0 ≤ z) (h1 : z < 128) : Calls Try.prog 68 #[.string s, .int .i32 z] w fun e w' => e = .returned (.bool (hasB s z.toNat)) ∧ Below w.heap.size w w' := by
  obtain ⟨c, rfl⟩ : ∃ c : Nat, z = c := ⟨z.toNat, by omega⟩
  exact has_any s c w (by omega)

set_option maxHeartbeats 2000000 in
theorem check_any (s : ByteArray) (w : World) : Calls Try.prog 40 #[.string s] w fun e w' => e = .returned (.int .i64 (chkE s)) ∧ Below w.heap.size w w' := by
  go_enter Try.func40, Try.ntmps40
  by_cases h1 : 12 < s.size
  · have he : chkE s = 11 := by unfold chkE; rw [if_pos h1]
    go_wp2
    go_ret
    exact ⟨by rw [he]; rfl, Below.refl _ _⟩
  · cases h2 : s.toList == []
    · have hz : ¬ s.size = 0 := by rw [toList_nil] at h2; exact of_decide_eq_false h2
      cases h3 : dotsB s
      · cases h4 : hasB s 0
        · cases h5 : hasB s 47
          · have he : chkE s = 0 := by unfold chkE; rw [if_neg h1, if_neg (by rw [h3, h4, h5]; simp [hz])]
            go_wp2_with (first
              | (go_at_call 67; refine (dots_any _ _).mono ?_; rintro e w' ⟨rfl, rfl⟩; rw [h3])
              | (go_at_call 68; refine (has_z _ _ _ (by decide) (by decide)).mono ?_; first | (rintro e w1 ⟨rfl, hb1⟩; rw [show hasB s (0 : Int).toNat = false from h4]) | (rintro e w2 ⟨rfl, hb2⟩; rw [show hasB s (47 : Int).toNat = _ from h5])))
            go_ret
            exact ⟨by rw [he]; rfl, chainB hb1 hb2⟩
          · have he : chkE s = 10 := by unfold chkE; rw [if_neg h1, if_pos (by rw [h5]; simp)]
            go_wp2_with (first
              | (go_at_call 67; refine (dots_any _ _).mono ?_; rintro e w' ⟨rfl, rfl⟩; rw [h3])
              | (go_at_call 68; refine (has_z _ _ _ (by decide) (by decide)).mono ?_; first | (rintro e w1 ⟨rfl, hb1⟩; rw [show hasB s (0 : Int).toNat = false from h4]) | (rintro e w2 ⟨rfl, hb2⟩; rw [show hasB s (47 : Int).toNat = _ from h5])))
            go_ret
            exact ⟨by rw [he]; rfl, chainB hb1 hb2⟩
        · have he : chkE s = 10 := by unfold chkE; rw [if_neg h1, if_pos (by rw [h4]; simp)]
          go_wp2_with (first
            | (go_at_call 67; refine (dots_any _ _).mono ?_; rintro e w' ⟨rfl, rfl⟩; rw [h3])
            | (go_at_call 68; refine (has0 _ _).mono ?_; rintro e w1 ⟨rfl, hb1⟩; rw [h4]))
          go_ret
          exact ⟨by rw [he]; rfl, hb1⟩
      · have he : chkE s = 10 := by unfold chkE; rw [if_neg h1, if_pos (by rw [h3]; simp)]
        go_wp2_with (go_at_call 67; refine (dots_any _ _).mono ?_; rintro e w' ⟨rfl, rfl⟩; rw [h3])
        go_ret
        exact ⟨by rw [he]; rfl, Below.refl _ _⟩
    · have hz : s.size = 0 := by rw [toList_nil] at h2; exact of_decide_eq_true h2
      have he : chkE s = 10 := by unfold chkE; rw [if_neg h1, if_pos (.inl hz)]
      go_wp2
      go_ret
      exact ⟨by rw [he]; rfl, Below.refl _ _⟩

/-- a component among the first ones is too long -/
theorem long_of {l : List ByteArray} {i : Nat} {x : ByteArray} (h : l[i]? = some x) (hx : 12 < x.size) : longB l = true := by
  unfold longB; rw [List.any_eq_true]
  exact ⟨x, List.mem_of_getElem? h, decide_eq_true hx⟩
theorem long_not {l : List ByteArray} (h : ∀ (i : Nat) (x : ByteArray), l[i]? = some x → x.size ≤ 12) : longB l = false := by
  unfold longB; rw [List.any_eq_false]
  intro x hx
  obtain ⟨i, hi⟩ := List.getElem?_of_mem hx
  have := h i x hi
  simp; omega

set_option maxHeartbeats 2000000 in
theorem cut_any (s : ByteArray) (b : Bool) (w : World) (hb0 : b = true → 0 < s.size) :
    Calls Try.prog 84 #[.string s, .bool b] w fun e w' => ∃ v, e = .returned (.tuple #[v, .bool (cutD s b), .int .i64 (cutE s b)]) ∧ Own w' w.heap.size v (cutL s b) ∧ Below w.heap.size w w' := by
  go_enter Try.func84, Try.ntmps84
  by_cases h1 : 96 < s.size
  · have he : cutE s b = 13 := by unfold cutE; rw [if_pos h1]
    have hd : cutD s b = false := by unfold cutD; rw [he]; rfl
    have hl : cutL s b = [] := by unfold cutL; rw [he]; rfl
    rw [he, hd, hl]
    go_wp2
    go_ret3
    exact ⟨_, rfl, Own.nil _ _, Below.refl _ _⟩
  cases b with
  | false =>
    have he : cutE s false = 12 := by unfold cutE; rw [if_neg h1, if_pos (.inl rfl)]
    have hd : cutD s false = false := by unfold cutD; rw [he]; rfl
    have hl : cutL s false = [] := by unfold cutL; rw [he]; rfl
    rw [he, hd, hl]
    go_wp2
    go_ret3
    exact ⟨_, rfl, Own.nil _ _, Below.refl _ _⟩
  | true =>
  have hpos := hb0 rfl
  clear hb0
  cases h2 : hasB s 0
  · have hpl : (pieces s).length ≤ s.size + 1 := pcs_len s _
    go_wp2_with (first
      | (go_at_call 68; refine (has0 _ _).mono ?_; rintro e w1 ⟨rfl, hb1⟩; rw [h2])
      | (go_at_call 96; refine (pieces_any _ _ (by omega)).mono ?_; rintro e w2 ⟨v, rfl, hown, hb2⟩; obtain ⟨a, cap, rfl, hrow⟩ := hown.row))
    have hb := chainB hb1 hb2
    have hown1 := hown.le hb1.size
    clear hown hb1 hb2
    go_loop [4, 22] (fun v i => v = .slice a (pieces s).length cap ∧ ∃ k : Nat, k ≤ (pieces s).length ∧ i = .int .i64 k ∧ ∀ j x, j < k → (pieces s)[j]? = some x → x.size ≤ 12) (fun _ i => (pieces s).length - (intOf i).toNat)
    case atStart => exact ⟨rfl, 0, Nat.zero_le _, rfl, fun j x h => by omega⟩
    case round =>
      obtain ⟨rfl, k, hk, rfl, hall⟩ := hrel
      by_cases hlt : k < (pieces s).length
      · rcases hrow with h0 | ⟨g, off, rfl, hbs, hc⟩
        · rw [h0] at hlt; simp at hlt
        obtain ⟨x, hx⟩ : ∃ x, (pieces s)[k]? = some x := ⟨_, List.getElem?_eq_getElem hlt⟩
        have hcell := hc k x hx
        by_cases hlong : 12 < x.size
        · have he : cutE s true = 11 := by unfold cutE; rw [if_neg h1, if_neg (by rw [h2]; simp), if_pos (long_of hx hlong)]
          have hd : cutD s true = false := by unfold cutD; rw [he]; rfl
          have hl : cutL s true = [] := by unfold cutL; rw [he]; rfl
          clear hc hall hown1 hx
          have HE : Hid (cutE s true = 11 ∧ cutD s true = false ∧ cutL s true = []) := ⟨he, hd, hl⟩
          clear he hd hl
          go_wp2
          go_ret3
          rw [HE.out.1, HE.out.2.1, HE.out.2.2]
          exact ⟨_, rfl, Own.nil _ _, hb⟩
        · have hall2 : ∀ j y, j < k + 1 → (pieces s)[j]? = some y → y.size ≤ 12 := fun j y hj hy => by
            by_cases hjk : j = k
            · subst hjk; rw [hx] at hy; cases hy; omega
            · exact hall j y (by omega) hy
          clear hc hall hown1 hx
          go_wp2
          go_round
          case rel => exact ⟨rfl, k + 1, by omega, by go_num, hall2⟩
          case measure => simp [intOf]; omega
      · have hkl : k = (pieces s).length := by omega
        have hnl : longB (pieces s) = false := long_not fun i x hx => hall i x (by have := (List.getElem?_eq_some_iff.1 hx).1; omega) hx
        have he : cutE s true = 0 := by unfold cutE; rw [if_neg h1, if_neg (by rw [h2]; simp), hnl]; rfl
        have hd : cutD s true = dirB s := by unfold cutD; rw [he]; rfl
        have hl : cutL s true = pieces s := by unfold cutL; rw [he]; rfl
        have HE : Hid (cutE s true = 0 ∧ cutD s true = dirB s ∧ cutL s true = pieces s) := ⟨he, hd, hl⟩
        clear hall hnl he hd hl
        subst hkl
        have hix : s.size - 1 < s.size := by omega
        have hbt : ((s[s.size - 1].toNat : Int) == 47) = decide (bt s (s.size - 1) = 47) := by rw [bt_at s _ hix]; exact int_beq _ 47
        have HD : Hid (dirB s = (decide (bt s (s.size - 1) = 47) || dotsB (lastT (pieces s)))) := (rfl : dirB s = _)
        cases h6 : decide (bt s (s.size - 1) = 47)
        · rw [h6] at hbt
          go_wp2_with (first
            | (go_at_call 97; refine (end_any _ _ _ _ hrow (by omega)).mono ?_; rintro e w' ⟨rfl, rfl⟩)
            | (go_at_call 67; refine (dots_any _ _).mono ?_; rintro e w' ⟨rfl, rfl⟩))
          go_ret3
          rw [HE.out.1, HE.out.2.1, HE.out.2.2, HD.out, h6]
          exact ⟨_, rfl, hown1, hb⟩
        · rw [h6] at hbt
          go_wp2
          go_ret3
          rw [HE.out.1, HE.out.2.1, HE.out.2.2, HD.out, h6]
          exact ⟨_, rfl, hown1, hb⟩
  · have he : cutE s true = 12 := by unfold cutE; rw [if_neg h1, if_pos (.inr h2)]
    have hd : cutD s true = false := by unfold cutD; rw [he]; rfl
    have hl : cutL s true = [] := by unfold cutL; rw [he]; rfl
    rw [he, hd, hl]
    go_wp2_with (go_at_call 68; refine (has0 _ _).mono ?_; rintro e w1 ⟨rfl, hb1⟩; rw [h2])
    go_ret3
    exact ⟨_, rfl, Own.nil _ _, hb1⟩
end
section
open Go.RowKit

theorem root_pos {s : ByteArray} (h : rootB s = true) : 0 < s.size := by
  unfold rootB at h; rw [Bool.and_eq_true] at h; exact of_decide_eq_true h.1

def fullB (s : ByteArray) : Bool := !s.toList.isEmpty
def tgtW (s : ByteArray) : Bool := decide (cutE s (fullB s) = 0) && rootB s
theorem full_iff (s : ByteArray) : fullB s = decide (0 < s.size) := by
  have h := toList_size s
  unfold fullB
  cases hl : s.toList with
  | nil => rw [hl] at h; simp at h; simp [← h]
  | cons a l => rw [hl] at h; simp at h; simp [← h]
theorem full_pos {s : ByteArray} (h : fullB s = true) : 0 < s.size := by rw [full_iff] at h; exact of_decide_eq_true h

theorem results_tmp4 {fn : Func} {t u v x : Tmp} (h : fn.results = #[.tmp t, .tmp u, .tmp v, .tmp x]) (tmps : Array Value) (P : Program) (w : World) :
    (results fn tmps).run P w = .ok (.tuple #[tmps.getD t undef, tmps.getD u undef, tmps.getD v undef, tmps.getD x undef]) w := by
  simp [results, h]

theorem target_any (s : ByteArray) (w : World) :
    Calls Try.prog 70 #[.string s] w fun e w' => ∃ v, e = .returned (.tuple #[v, .bool (tgtW s), .bool (cutD s (fullB s)), .int .i64 (cutE s (fullB s))]) ∧ Own w' w.heap.size v (cutL s (fullB s)) ∧ Below w.heap.size w w' := by
  have hf : (!s.toList.isEmpty) = fullB s := rfl
  have HT : Hid (tgtW s = (decide (cutE s (fullB s) = 0) && rootB s)) := (rfl : tgtW s = _)
  obtain ⟨E, hE⟩ : ∃ E, cutE s (fullB s) = E := ⟨_, rfl⟩
  have HI : Hid (cutE s (fullB s) = E) := hE
  clear hE
  go_enter Try.func70, Try.ntmps70
  by_cases h0 : E = 0
  · go_wp2_with (first
      | (go_at_call 85; refine (rooted_any _ _).mono ?_; rintro e w' ⟨rfl, rfl⟩)
      | (go_at_call 84; refine (cut_any _ (fullB s) _ full_pos).mono ?_; rintro e w1 ⟨v, rfl, hown, hb⟩; rw [HI.out, h0]))
    (try simp only [Exit.inBlock, Exit.then]); refine bodyPost_ret (results_tmp4 rfl _ _ _) rfl ?_
    rw [HT.out, HI.out, h0]
    exact ⟨_, rfl, hown, hb⟩
  · go_wp2_with (first
      | (go_at_call 84; refine (cut_any _ (fullB s) _ full_pos).mono ?_; rintro e w1 ⟨v, rfl, hown, hb⟩; rw [HI.out]))
    (try simp only [Exit.inBlock, Exit.then]); refine bodyPost_ret (results_tmp4 rfl _ _ _) rfl ?_
    rw [HT.out, HI.out, decide_eq_false h0]
    exact ⟨_, rfl, hown, hb⟩

theorem pcs_pos (s : ByteArray) (i : Nat) (hi : i ≤ s.size + 1) : ∀ x ∈ pcs s i, 0 < x.size := by
  induction i with
  | zero => intro x hx; cases hx
  | succ i ih =>
    intro x hx
    simp only [pcs] at hx
    split at hx
    · rename_i h
      rcases List.mem_append.1 hx with hx | hx
      · exact ih (by omega) x hx
      · obtain rfl := List.mem_singleton.1 hx
        rw [ByteArray.size_extract]; omega
    · exact ih (by omega) x hx
theorem last_zero (s : ByteArray) : (lastT (pieces s)).size = 0 ↔ pieces s = [] := by
  constructor
  · intro h
    cases hp : pieces s with
    | nil => rfl
    | cons a l =>
      have hg := lastT_get (l := pieces s) (by rw [hp]; simp)
      have := pcs_pos s (s.size + 1) (Nat.le_refl _) _ (List.mem_of_getElem? hg)
      omega
  · intro h; rw [h]; rfl

theorem Own.pop {w : World} {base : Nat} {a : Option Addr} {l : List ByteArray} {cap : Nat} (h : Own w base (.slice a l.length cap) l) (hl : l ≠ []) : Own w base (.slice a (l.length - 1) cap) l.dropLast := by
  obtain ⟨m, x, rfl⟩ : ∃ m x, l = m ++ [x] := ⟨l.dropLast, l.getLast hl, (List.dropLast_concat_getLast hl).symm⟩
  unfold Own at h ⊢
  rw [List.dropLast_concat]
  rw [List.length_append, List.map_append] at h
  rw [List.length_append]
  rcases h.2 with ⟨_, h2⟩ | ⟨g, cap', cur, hv, r⟩
  · simp at h2
  · cases hv
    exact ownsRow_pop (last := [Value.string x]) (by simp) h
theorem Own.lim {w : World} {base : Nat} {a : Option Addr} {l : List ByteArray} {n cap : Nat} (h : Own w base (.slice a n cap) l) : l.length ≤ cap := by
  rcases h.2 with ⟨_, h2⟩ | ⟨g, cap', cur, hv, _, _, hn, _⟩
  · omega
  · cases hv; exact hn
end
section
open Go.RowKit

def Mn : Nms := ⟨chkE, fun s => cutE s (fullB s)⟩
theorem nmsP : NmsP Mn := ⟨fun s w => check_any s w, fun s w => (target_any s w).mono fun _ _ ⟨v, he, _, hb⟩ => ⟨v, _, _, he, hb⟩⟩
end
section
open Go.RowKit
attribute [local go_sem high] eqK' neqK' eqE neqE eqN neqN guardK guardE guardN

def exS : Tr := ⟨.slice none 0 0, [], 0, 2⟩
def exO : Opn := ⟨6, 1, ⟨#[97]⟩, 0, ⟨#[]⟩, 7, ⟨#[]⟩⟩
def exE : En := ⟨1, ⟨#[97]⟩, false, 2, 1, 7, ⟨#[]⟩⟩
/-- a name of one letter -/
theorem chk_one (b : UInt8) (h0 : b ≠ 0) (h1 : b ≠ 46) (h2 : b ≠ 47) : chkE ⟨#[b]⟩ = 0 := by
  have e1 : (⟨#[b]⟩ : ByteArray).size = 1 := rfl
  have e2 : (⟨#[b]⟩ : ByteArray).toList = [b] := by rw [ByteArray.toList_eq]
  have hb : ∀ c : UInt8, b ≠ c → b.toNat ≠ c.toNat := fun c hc h => hc (UInt8.toNat_inj.1 h)
  have h3 : ∀ c : Nat, b.toNat ≠ c → hasB ⟨#[b]⟩ c = false := by
    intro c hc
    unfold hasB
    rw [e1]
    have : bt ⟨#[b]⟩ 0 = b.toNat := rfl
    simp [hasF, this, hc]
  unfold chkE dotsB
  rw [e1, e2, h3 0 (hb 0 h0), h3 47 (hb 47 h2)]
  simp [h1]
theorem ex_chk : chkE ⟨#[97]⟩ = 0 := chk_one 97 (by decide) (by decide) (by decide)
theorem ex_dir (es : List En) : dirE es 1 = 0 := rfl
theorem named_one (es : List En) (nm : ByteArray) (h : chkE nm = 0) : namedE Mn es 1 nm = 0 := by unfold namedE; rw [ex_dir, if_pos rfl]; exact h
theorem ex_does : doesE Mn exS exO = 0 := by
  unfold doesE
  rw [show namedE Mn exS.es exO.dir exO.nm = 0 from named_one _ _ ex_chk]
  rfl
theorem ex_list : srt (doesL exS exO) = [exE] := rfl
theorem ex_tell : tellL exS exO = [exE] := rfl
theorem ex_keys : keysL exO = [⟨1, ⟨#[97]⟩⟩] := rfl
theorem ex_look : namedE Mn [exE] 1 ⟨#[97]⟩ = 0 := named_one _ _ ex_chk
theorem ex_now : nowE [exE] 1 ⟨#[97]⟩ = exE := by rfl
/-- what the example's mutation leaves -/
theorem ex_step {t : Nat} {w w' : World} {e : Ending} (h : AppR Mn t exS exO w w' e) : ∃ g c g' c' s', e = .returned (.tuple #[.slice (some ⟨g, 0, none⟩) 1 c, .slice (some ⟨g', 0, none⟩) 1 c', .int .i64 0]) ∧ PS w w' t exS s' ∧ s'.es = [exE] ∧ s'.vers = 1 ∧ Cells7 w' g 0 exE ∧ w'.cell? ⟨g', 0, none⟩ = some (.int .i64 1) ∧ w'.cell? ⟨g', 1, none⟩ = some (.string ⟨#[97]⟩) := by
  obtain ⟨v, k, s', he, hps, hst, hr, hk, _⟩ := h
  unfold toldE at hr
  unfold toldK at hk
  rw [ex_does] at he
  rw [ex_does, if_pos rfl, ex_tell] at hr
  rw [ex_does, if_pos rfl, ex_keys] at hk
  have h1 := hst.es
  have h2 := hst.vers
  rw [ex_does, if_pos rfl] at h1 h2
  obtain ⟨a, c, rfl⟩ := owns_len hr
  obtain ⟨g, rfl, _, _, _, hc, _⟩ := owns_entry hr (i := 0) (e := exE) rfl
  obtain ⟨a', c', rfl⟩ := owns_len hk
  obtain ⟨g', rfl, _, _, k0, k1, _⟩ := RowK.key hk (i := 0) (p := ⟨1, ⟨#[97]⟩⟩) rfl
  exact ⟨g, c, g', c', s', he, hps, h1, h2, hc, k0, k1⟩
theorem look_ex {t : Nat} {s : Tr} (h : s.es = [exE]) (w : World) (hw : IsP w t s) : Calls Try.prog 30 #[.pointer (some ⟨t, 0, none⟩), .int .i64 1, .string ⟨#[97]⟩] w fun e w' => e = .returned (.tuple #[.agg #[.int .i64 1, .string ⟨#[97]⟩, .bool false, .int .i64 2, .int .i64 1, .int .i64 7, .string ⟨#[]⟩], .int .i64 0]) ∧ Below w.heap.size w w' := by
  have := Look_p Mn nmsP t s 1 ⟨#[97]⟩ w hw
  rw [lookV_form, h, ex_look, if_pos rfl, ex_now] at this
  exact this
theorem ps_below {w w1 w' : World} {t : Nat} {s s' : Tr} (h : PS w1 w' t s s') (hb : Below w.heap.size w w1) (ht : w.heap.size ≤ t) (hs : ∀ q, s.v.ownBlock = some q → w.heap.size ≤ q) : Below w.heap.size w w' ∧ ∀ q, s'.v.ownBlock = some q → w.heap.size ≤ q :=
  ⟨h.only.below hb hb.size (fun k hk => hk.elim (fun e => e ▸ ht) (hs k)), fun q hq => by
    rcases h.v with e | e
    · exact hs q (by rw [← e]; exact hq)
    · exact Nat.le_trans hb.size (e q hq)⟩
set_option maxRecDepth 20000 in
set_option maxHeartbeats 8000000 in
theorem awake_p (w : World) : Calls Try.prog 8 #[] w fun e w' => e = .returned (.bool true) ∧ Below w.heap.size w w' := by
  have HAp : Hid (∀ t w, IsP w t exS → Calls Try.prog 10 #[.pointer (some ⟨t, 0, none⟩), .agg #[.int .i64 6, .int .i64 1, .string ⟨#[97]⟩, .int .i64 0, .string ⟨#[]⟩, .int .i64 7, .string ⟨#[]⟩]] w fun e w' => ∃ g c g' c' s', e = .returned (.tuple #[.slice (some ⟨g, 0, none⟩) 1 c, .slice (some ⟨g', 0, none⟩) 1 c', .int .i64 0]) ∧ PS w w' t exS s' ∧ s'.es = [exE] ∧ s'.vers = 1 ∧ Cells7 w' g 0 exE ∧ w'.cell? ⟨g', 0, none⟩ = some (.int .i64 1) ∧ w'.cell? ⟨g', 1, none⟩ = some (.string ⟨#[97]⟩)) := fun t w h => (apply_p Mn nmsP t exS exO w h (WF.new _) (by decide) (by decide) (by decide)).mono fun _ _ hh => ex_step hh
  go_enter Try.func8, Try.ntmps8
  go_upto_region 6 with (first
    | (go_at_call 29; refine (new_p _).mono ?_; rintro x w1 ⟨rfl, hi1, hb1⟩)
    | (go_at_call 10; refine (HAp.out _ _ hi1).mono ?_; rintro x w2 ⟨g, c, g', c', s', rfl, hps, hes, hvs, hc, k0, k1⟩; have HB2 : Hid (Below w.heap.size w w2) := (ps_below hps hb1 (Nat.le_refl _) (fun q hq => by cases hq)).1; have HI2 : Hid (IsP w2 w.heap.size s' ∧ s'.es = [exE] ∧ s'.vers = 1) := ⟨hps.is, hes, hvs⟩; clear hps hes hvs)
    | (go_at_call 30; refine (look_ex HI2.out.2.1 _ HI2.out.1).mono ?_; rintro x w3 ⟨rfl, hb3⟩))
  obtain ⟨W4, hW4⟩ : ∃ W4, w3.alloc (.cells #[.int .i64 1, .string ⟨#[97]⟩, .bool false, .int .i64 2, .int .i64 1, .int .i64 7, .string ⟨#[]⟩] 56) = W4 := ⟨_, rfl⟩
  have hb4 : Below w2.heap.size w2 W4 := by rw [← hW4]; exact chainB hb3 (below_alloc _ _)
  have hbx : W4.heap[w3.heap.size]? = some (.cells exE.vals.toArray 56 (0, 0)) := by rw [← hW4]; exact heap_new _ _
  rw [hW4]
  have hb3 := hb4
  have hc3 := hc.below hb3
  have hcb := cells7_of hbx
  have z0 := hcb.c0
  have z1 := hcb.c1
  have z2 := hcb.c2
  have z3 := hcb.c3
  have z4 := hcb.c4
  have z5 := hcb.c5
  have z6 := hcb.c6
  simp only [Nat.zero_add, exE] at z0 z1 z2 z3 z4 z5 z6
  have x0 := hc3.c0
  have x1 := hc3.c1
  have x2 := hc3.c2
  have x3 := hc3.c3
  have x4 := hc3.c4
  have x5 := hc3.c5
  have x6 := hc3.c6
  simp only [Nat.zero_add, exE] at x0 x1 x2 x3 x4 x5 x6
  have y0 := (hb3.cell (cellLt k0)).trans k0
  have y1 := (hb3.cell (cellLt k1)).trans k1
  have HV : Hid (∀ n, Calls Try.prog 17 #[.pointer (some ⟨w.heap.size, 0, none⟩)] (W4.drewN n) fun e w' => e = .returned (.int .i64 1) ∧ w' = W4.drewN n) := fun n => by
    have := version_p w.heap.size s' (W4.drewN n) (HI2.out.1.below (below_drewN hb4 _))
    rw [HI2.out.2.2] at this
    exact this
  have hE : eqEn ⟨1, ⟨#[97]⟩, false, 2, 1, 7, ⟨#[]⟩⟩ ⟨1, ⟨#[97]⟩, false, 2, 1, 7, ⟨#[]⟩⟩ = true := rfl
  have hK : eqKy 1 ⟨#[97]⟩ 1 ⟨#[97]⟩ = true := rfl
  have HB4 : Hid (Below w.heap.size w W4) := chainB HB2.out hb4
  clear hW4 hb4 hbx hc3 hcb hc k0 k1 hi1 hb1 hb3
  go_quiet ((go_at_call 17; exact Calls.quiet_of_same (HV.out _)))
  go_wp2
  go_ret
  exact ⟨rfl, below_drewN HB4.out _⟩
end
end Go.Proofs.Ytjelggpkeogebaa
