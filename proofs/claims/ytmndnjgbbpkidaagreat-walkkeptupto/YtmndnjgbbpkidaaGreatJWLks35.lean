/- The document's walk: what memory keeps of it. -/
import Derived.Test.YtmndnjgbbpkidaaGreatJWLks34
import Derived.Test.YtmndnjgbbpkidaaGreatJWLks24
import Derived.Deep.QuietTactic
import Derived.BigQuiet
namespace Go.Proofs.YtmndnjgbbpkidaaGreat
section
open Go.RowKit

/-- texts that can be read, one behind the other -/
def LeftR (w : World) (v : Value) (L : List ByteArray) : Prop := ∃ a c, v = .slice a L.length c ∧ L.length ≤ c ∧ RowS w a L
/-- nodes that can be read -/
def WayR (w : World) (v : Value) (l : List Nd) : Prop := ∃ g c, v = .slice (some ⟨g, 0, none⟩) l.length c ∧ l.length ≤ c ∧ ∀ (j : Nat) u, (nc l)[j]? = some u → w.cell? ⟨g, j, none⟩ = some u
/-- a block that a list lies in -/
def InBlk (v : Value) (b : Nat) : Prop := ∃ o n c, v = .slice (some ⟨b, o, none⟩) n c
theorem LeftR.kept {w W : World} {v : Value} {L : List ByteArray} (h : LeftR w v L) (hs : w.heap.size ≤ W.heap.size) (hk : ∀ b, InBlk v b → W.heap[b]? = w.heap[b]?) : LeftR W v L := by
  obtain ⟨a, c, rfl, hc, hr⟩ := h
  exact ⟨a, c, rfl, hc, rowS_kept hr hs fun b o e => hk b (by subst e; exact ⟨_, _, _, rfl⟩)⟩
theorem WayR.kept {w W : World} {v : Value} {l : List Nd} (h : WayR w v l) (hk : ∀ b, InBlk v b → W.heap[b]? = w.heap[b]?) : WayR W v l := by
  obtain ⟨g, c, rfl, hc, hr⟩ := h
  refine ⟨g, c, rfl, hc, fun j u hu => ?_⟩
  rw [← hr j u hu]
  simp only [World.cell?, hk g ⟨_, _, _, rfl⟩]
structure Dm (w wr : World) (kc : Array Value) (gA : Nat) (lv wv uv : Value) (L : List ByteArray) (way : List Nd) (pl : Nd) (used : List Ky) : Prop where
  below : Below w.heap.size w wr
  kn : wr.heap[w.heap.size]? = some (.cells kc 41 (0, 0))
  out : wr.heap[w.heap.size + 1]? = some (.cells zeroes9 35 (0, 0))
  box : wr.heap[gA]? = some (.cells pl.vals.toArray 32 (0, 0))
  hgA : w.heap.size + 1 < gA
  left : LeftR wr lv L
  way : WayR wr wv way
  used : RowK wr (gA + 1) uv used
  ltL : ∀ b, InBlk lv b → b < wr.heap.size ∧ b ≠ gA ∧ uv.ownBlock ≠ some b
  ltW : ∀ b, InBlk wv b → b < wr.heap.size ∧ b ≠ gA ∧ uv.ownBlock ≠ some b
section
variable {w wr W : World} {kc : Array Value} {gA : Nat} {lv wv uv : Value} {L : List ByteArray} {way : List Nd} {pl : Nd} {used : List Ky}
theorem Dm.lt (h : Dm w wr kc gA lv wv uv L way pl used) : gA < wr.heap.size := (Array.getElem?_eq_some_iff.1 h.box).1
theorem Dm.on (h : Dm w wr kc gA lv wv uv L way pl used) (hb : Below wr.heap.size wr W) : Dm w W kc gA lv wv uv L way pl used :=
  ⟨chainB h.below hb, hkeep h.kn hb, hkeep h.out hb, hkeep h.box hb, h.hgA, h.left.kept hb.size fun b e => hb.block b (h.ltL b e).1, h.way.kept fun b e => hb.block b (h.ltW b e).1, h.used.below hb, fun b e => ⟨Nat.lt_of_lt_of_le (h.ltL b e).1 hb.size, (h.ltL b e).2⟩, fun b e => ⟨Nat.lt_of_lt_of_le (h.ltW b e).1 hb.size, (h.ltW b e).2⟩⟩
/-- it stands elsewhere -/
theorem Dm.setAt (h : Dm w wr kc gA lv wv uv L way pl used) (n : Nd) : Dm w (wr.setRow gA n.vals.toArray) kc gA lv wv uv L way n used := by
  have hO := onlyR wr gA n.vals.toArray
  have hg := h.hgA
  have hl := h.lt
  have k : ∀ b, b < wr.heap.size → b ≠ gA → (wr.setRow gA n.vals.toArray).heap[b]? = wr.heap[b]? := fun b h1 h2 => hO.block b h1 h2
  exact ⟨hO.below h.below h.below.size fun b hb => by omega, (k _ (by omega) (by omega)).trans h.kn, (k _ (by omega) (by omega)).trans h.out, setRow_heap _ _ _ _ _ _ h.box, hg, h.left.kept hO.size fun b e => k b (h.ltL b e).1 (h.ltL b e).2.1, h.way.kept fun b e => k b (h.ltW b e).1 (h.ltW b e).2.1, owns_moved h.used fun b hb => k b (World.ownsRow.lt h.used b hb).2 (by have := (World.ownsRow.lt h.used b hb).1; omega), fun b e => ⟨Nat.lt_of_lt_of_le (h.ltL b e).1 hO.size, (h.ltL b e).2⟩, fun b e => ⟨Nat.lt_of_lt_of_le (h.ltW b e).1 hO.size, (h.ltW b e).2⟩⟩
/-- a key is told -/
theorem Dm.use (h : Dm w wr kc gA lv wv uv L way pl used) {uv' : Value} {used' : List Ky} (hr : RowK W (gA + 1) uv' used') (hO : Only (fun k => uv.ownBlock = some k) wr W) (hn : ∀ b, uv'.ownBlock = some b → uv.ownBlock = some b ∨ wr.heap.size ≤ b) : Dm w W kc gA lv wv uv' L way pl used' := by
  have hg := h.hgA
  have hl := h.lt
  have k : ∀ b, b < wr.heap.size → uv.ownBlock ≠ some b → W.heap[b]? = wr.heap[b]? := fun b h1 h2 => hO.block b h1 h2
  have ku : ∀ b, b ≤ gA → uv.ownBlock ≠ some b := fun b hb e => by have := (World.ownsRow.lt h.used b e).1; omega
  have sp : ∀ b, b < wr.heap.size → uv.ownBlock ≠ some b → uv'.ownBlock ≠ some b := fun b h1 h2 e => by
    rcases hn b e with e' | e'
    · exact h2 e'
    · omega
  exact ⟨hO.below h.below h.below.size fun b hb => by have := (World.ownsRow.lt h.used b hb).1; omega, (k _ (by omega) (ku _ (by omega))).trans h.kn, (k _ (by omega) (ku _ (by omega))).trans h.out, (k _ (by omega) (ku _ (by omega))).trans h.box, hg, h.left.kept hO.size fun b e => k b (h.ltL b e).1 (h.ltL b e).2.2, h.way.kept fun b e => k b (h.ltW b e).1 (h.ltW b e).2.2, hr, fun b e => ⟨Nat.lt_of_lt_of_le (h.ltL b e).1 hO.size, (h.ltL b e).2.1, sp b (h.ltL b e).1 (h.ltL b e).2.2⟩, fun b e => ⟨Nat.lt_of_lt_of_le (h.ltW b e).1 hO.size, (h.ltW b e).2.1, sp b (h.ltW b e).1 (h.ltW b e).2.2⟩⟩
theorem Dm.setL (h : Dm w wr kc gA lv wv uv L way pl used) {lv' : Value} {L' : List ByteArray} (hl : LeftR wr lv' L') (hb : ∀ b, InBlk lv' b → InBlk lv b) : Dm w wr kc gA lv' wv uv L' way pl used :=
  ⟨h.below, h.kn, h.out, h.box, h.hgA, hl, h.way, h.used, fun b e => h.ltL b (hb b e), h.ltW⟩
theorem Dm.setW (h : Dm w wr kc gA lv wv uv L way pl used) {wv' : Value} {way' : List Nd} (hl : WayR wr wv' way') (hb : ∀ b, InBlk wv' b → InBlk wv b) : Dm w wr kc gA lv wv' uv L way' pl used :=
  ⟨h.below, h.kn, h.out, h.box, h.hgA, h.left, hl, h.used, h.ltL, fun b e => h.ltW b (hb b e)⟩
/-- a new list of components, in a block that is new -/
theorem Dm.newL (h : Dm w wr kc gA lv wv uv L way pl used) (hb : Below wr.heap.size wr W) {lv' : Value} {L' : List ByteArray} (hl : LeftR W lv' L') (hn : ∀ b, InBlk lv' b → wr.heap.size ≤ b ∧ b < W.heap.size) : Dm w W kc gA lv' wv uv L' way pl used := by
  have h2 := h.on hb
  have hg := h.lt
  exact ⟨h2.below, h2.kn, h2.out, h2.box, h2.hgA, hl, h2.way, h2.used, fun b e => ⟨(hn b e).2, by have := (hn b e).1; omega, fun e' => by have := (World.ownsRow.lt h.used b e').2; have := (hn b e).1; omega⟩, h2.ltW⟩
theorem Dm.newW (h : Dm w wr kc gA lv wv uv L way pl used) (hb : Below wr.heap.size wr W) {wv' : Value} {way' : List Nd} (hl : WayR W wv' way') (hn : ∀ b, InBlk wv' b → wr.heap.size ≤ b ∧ b < W.heap.size) : Dm w W kc gA lv wv' uv L way' pl used := by
  have h2 := h.on hb
  have hg := h.lt
  exact ⟨h2.below, h2.kn, h2.out, h2.box, h2.hgA, h2.left, hl, h2.used, h2.ltL, fun b e => ⟨(hn b e).2, by have := (hn b e).1; omega, fun e' => by have := (World.ownsRow.lt h.used b e').2; have := (hn b e).1; omega⟩⟩
end
end
section
open Go.RowKit

def ex1 : ByteArray := ⟨#[47, 47, 97, 47, 46, 47, 98]⟩
theorem ex1_cut : cutE ex1 (rootB ex1) = 0 ∧ cutD ex1 (rootB ex1) = false ∧ cutL ex1 (rootB ex1) = [⟨#[97]⟩, ⟨#[46]⟩, ⟨#[98]⟩] := by
  refine ⟨?_, ?_, ?_⟩
  · kernel_rfl
  · kernel_rfl
  · kernel_rfl
theorem ex2_chk : chkE ⟨#[46, 46]⟩ = 10 := by kernel_rfl

set_option maxHeartbeats 1000000 in
theorem same_any (a a' : Option Addr) (l : List ByteArray) (cap cap' : Nat) (w : World) (h : RowS w a l) (h' : RowS w a' l) (hl : l.length ≤ 140737488355328) :
    Calls Tryz.prog 17 #[.slice a l.length cap, .slice a' l.length cap'] w fun e w' => e = .returned (.bool true) ∧ Below w.heap.size w w' := by
  go_enter Tryz.func17, Tryz.ntmps17
  go_wp2
  go_loopw [5] (fun i wr => ∃ k : Nat, k ≤ l.length ∧ i = .int .i64 k ∧ Below w.heap.size w wr) (fun i _ => l.length - (intOf i).toNat)
  case atStart => exact ⟨0, Nat.zero_le _, rfl, Below.refl _ _⟩
  case round =>
    obtain ⟨k, hk, rfl, hb⟩ := hrel
    by_cases hlt : k < l.length
    · rcases h with h0 | ⟨g, off, rfl, hbs, hc⟩
      · rw [h0] at hlt; simp at hlt
      rcases h' with h0 | ⟨g', off', rfl, hbs', hc'⟩
      · rw [h0] at hlt; simp at hlt
      obtain ⟨x, hx⟩ : ∃ x, l[k]? = some x := ⟨_, List.getElem?_eq_getElem hlt⟩
      have c1 := (hb.cell (by exact hbs)).trans (hc k x hx)
      have c2 := (hb.cell (by exact hbs')).trans (hc' k x hx)
      have hki : (k : Int) < (l.length : Int) := by omega
      clear hc hc' hx
      go_wp2
      go_quiet (fail)
      go_wp2
      go_roundw
      case rel => exact ⟨k + 1, by omega, by go_num, below_drewN hb _⟩
      case measure => simp [intOf]; omega
    · have hkl : k = l.length := by omega
      subst hkl
      go_wp2
      go_ret
      exact ⟨rfl, hb⟩
end
section
open Go.RowKit

set_option maxHeartbeats 1000000 in
theorem rhas_any (s : ByteArray) (c : Nat) (w : World) (hs : s.size ≤ 1000) :
    Calls Tryz.prog 60 #[.string s, .int .u8 c] w fun e w' => e = .returned (.bool (hasB s c)) ∧ w' = w := by
  go_enter Tryz.func60, Tryz.ntmps60
  go_wp2
  go_loop [5] (fun i => ∃ k : Nat, k ≤ s.size ∧ i = .int .i64 k ∧ hasF s c k = false) (fun i => s.size - (intOf i).toNat)
  case atStart => exact ⟨0, Nat.zero_le _, rfl, rfl⟩
  case round =>
    obtain ⟨k, hk, rfl, hf⟩ := hrel
    by_cases hp : k < s.size
    · have hb : ((s[k].toNat : Int) == (c : Int)) = decide (bt s k = c) := by rw [bt_at s k hp]; exact int_beq _ _
      have hki : (k : Int) < (s.size : Int) := by omega
      by_cases he : bt s k = c
      · rw [decide_eq_true he] at hb
        have hh := hasB_of hp he
        clear hf he
        go_wp2
        go_ret
        exact ⟨by first | rfl | (rw [hh]; rfl), rfl⟩
      · rw [decide_eq_false he] at hb
        have hf2 : hasF s c (k + 1) = false := hasF_no hf fun i h1 h2 => by
          obtain rfl : i = k := by omega
          exact he
        clear hf he
        go_wp2
        go_round
        case rel => exact ⟨k + 1, by omega, by go_num, hf2⟩
        case measure => simp [intOf] <;> omega
    · have hh : hasB s c = false := by unfold hasB; have : k = s.size := by omega
                                       rw [← this]; exact hf
      obtain rfl : k = s.size := by omega
      clear hf
      go_wp2
      go_ret
      exact ⟨by first | rfl | (rw [hh]; rfl), rfl⟩
theorem rhas_z (s : ByteArray) (z : Int) (w : World) (hs : s.size ≤ 1000) (h0 : 0 ≤ z) : Calls Tryz.prog 60 #[.string s, .int .u8 z] w fun e w' => e = .returned (.bool (hasB s z.toNat)) ∧ w' = w := by
  obtain ⟨c, rfl⟩ : ∃ c : Nat, z = c := ⟨z.toNat, by omega⟩
  exact rhas_any s c w hs

set_option maxHeartbeats 2000000 in
theorem rcheck_any (s : ByteArray) (w : World) : Calls Tryz.prog 112 #[.string s] w fun e w' => e = .returned (.int .i64 (chkE s)) ∧ w' = w := by
  go_enter Tryz.func112, Tryz.ntmps112
  by_cases h1 : 12 < s.size
  · have he : chkE s = 11 := by unfold chkE; rw [if_pos h1]
    go_wp2
    go_ret
    exact ⟨by first | rfl | (rw [he]; rfl), rfl⟩
  · cases h2 : s.toList == []
    · have hz : ¬ s.size = 0 := by rw [toList_nil] at h2; exact of_decide_eq_false h2
      cases h3 : s.toList == [46]
      · cases h3' : s.toList == [46, 46]
        · have hd : dotsB s = false := by unfold dotsB; rw [h3, h3']; rfl
          cases h4 : hasB s 0
          · cases h5 : hasB s 47
            · have he : chkE s = 0 := by unfold chkE; rw [if_neg h1, if_neg (by rw [hd, h4, h5]; simp [hz])]
              go_wp2_with (go_at_call 60; refine (rhas_z _ _ _ (by omega) (by decide)).mono ?_; rintro e w1 ⟨rfl, rfl⟩; first | (rw [show hasB s (0 : Int).toNat = false from h4]) | (rw [show hasB s (47 : Int).toNat = _ from h5]))
              go_ret
              exact ⟨by first | rfl | (rw [he]; rfl), rfl⟩
            · have he : chkE s = 10 := by unfold chkE; rw [if_neg h1, if_pos (by rw [h5]; simp)]
              go_wp2_with (go_at_call 60; refine (rhas_z _ _ _ (by omega) (by decide)).mono ?_; rintro e w1 ⟨rfl, rfl⟩; first | (rw [show hasB s (0 : Int).toNat = false from h4]) | (rw [show hasB s (47 : Int).toNat = _ from h5]))
              go_ret
              exact ⟨by first | rfl | (rw [he]; rfl), rfl⟩
          · have he : chkE s = 10 := by unfold chkE; rw [if_neg h1, if_pos (by rw [h4]; simp)]
            go_wp2_with (go_at_call 60; refine (rhas_z _ _ _ (by omega) (by decide)).mono ?_; rintro e w1 ⟨rfl, rfl⟩; rw [show hasB s (0 : Int).toNat = _ from h4])
            go_ret
            exact ⟨by first | rfl | (rw [he]; rfl), rfl⟩
        · have he : chkE s = 10 := by unfold chkE; rw [if_neg h1, if_pos (by unfold dotsB; rw [h3']; simp)]
          go_wp2
          go_ret
          exact ⟨by first | rfl | (rw [he]; rfl), rfl⟩
      · have he : chkE s = 10 := by unfold chkE; rw [if_neg h1, if_pos (by unfold dotsB; rw [h3]; simp)]
        go_wp2
        go_ret
        exact ⟨by first | rfl | (rw [he]; rfl), rfl⟩
    · have hz : s.size = 0 := by rw [toList_nil] at h2; exact of_decide_eq_true h2
      have he : chkE s = 10 := by unfold chkE; rw [if_neg h1, if_pos (.inl hz)]
      go_wp2
      go_ret
      exact ⟨by first | rfl | (rw [he]; rfl), rfl⟩

set_option maxRecDepth 4000 in
set_option maxHeartbeats 2000000 in
theorem rPieces_any (s : ByteArray) (w : World) (hs : s.size ≤ 1000) :
    Calls Tryz.prog 82 #[.string s] w fun e w' => ∃ v, e = .returned v ∧ Own w' w.heap.size v (pieces s) ∧ Below w.heap.size w w' := by
  obtain ⟨i0, hi, hz0, hz1, hz2⟩ := info_parts Tryz.infoS
  go_enter Tryz.func82, Tryz.ntmps82
  go_wp2
  go_loopw [3, 4, 5] (fun v f i wr => ∃ k : Nat, f = .int .i64 (frm s k) ∧ i = .int .i64 k ∧ k ≤ s.size + 1 ∧ Own wr w.heap.size v (pcs s k) ∧ Below w.heap.size w wr) (fun _ _ i _ => s.size + 1 - (intOf i).toNat)
  case atStart => exact ⟨0, rfl, rfl, Nat.zero_le _, Own.nil _ _, Below.refl _ _⟩
  case round =>
    obtain ⟨k, rfl, rfl, hps, hown, hb⟩ := hrel
    by_cases hp : k ≤ s.size
    · by_cases he : bt s k = 47
      · have e1 := frm_succ_cut he
        have hfl := frm_le s k
        have hkey : (k = s.size) ∨ (∃ h : k < s.size, ((s[k].toNat : Int) == 47) = true) := by
          by_cases h : k = s.size
          · exact .inl h
          · refine .inr ⟨by omega, ?_⟩
            have : ((s[k].toNat : Int) == 47) = decide (bt s k = 47) := by rw [bt_at s k (by omega)]; exact int_beq _ 47
            rw [this, decide_eq_true he]
        by_cases hf : frm s k < k
        · have e2 := pcs_succ_cut he hf
          have hlen := pcs_len s k
          have hfi : ((frm s k : Nat) : Int) < (k : Int) := by omega
          have hki : (k : Int) ≤ (s.size : Int) := by omega
          have fin : ∀ v' w1, w1.ownsRow w.heap.size 9 1 v' ((pcs s k).length + 1) ((pcs s k).map Value.string ++ [.string (s.extract (frm s k) k)]) → ((wr.alloc (.cells #[.string (s.extract (frm s k) k)] 9))).grownBy w1 u3.ownBlock → Own w1 w.heap.size v' (pcs s (k + 1)) ∧ Below w.heap.size w w1 := by
            intro v' w1 hown' hgrow
            refine ⟨?_, Below.grown (hb.alloc hb.size _) hgrow (by have := hb.size; simp; omega) (fun q hq => (hown.lt q hq).1)⟩
            unfold Own
            rw [e2, List.length_append, List.map_append]; exact hown'
          have FIN := fin
          clear fin he
          rcases hkey with hkey | ⟨hlt, hkey⟩
          · subst hkey
            go_wp2_with (first
              | (at_builtin; refine wpList_append_own _ rfl _ _ 46 rfl (w.heap.size) 9 i0 (.string ⟨#[]⟩) 1 16 Tryz.underlying46 hi hz0 hz1 hz2 rfl (by decide) _ _ _ rfl (hown.alloc _) ⟨wr.heap.size, 0, none⟩ 1 1 [.string (s.extract (frm s s.size) s.size)] rfl rfl ?c1 ?c2 ?c3 ?c4 ?c5 ?_))
            case c1 =>
              intro j u hj
              match j, hj with
              | 0, hj => simp at hj; subst hj; simp [Addr.add]
            case c2 => intro u hu; simp at hu; subst hu; rfl
            case c3 => unfold maxLen; omega
            case c4 => omega
            case c5 => have := hb.size; simp; omega
            intro v' w1 hown' hgrow _
            have hfin := FIN v' w1 hown' hgrow
            clear hown' hgrow FIN hown
            go_wp2
            go_roundw
            case rel => exact ⟨s.size + 1, by rw [e1]; go_num, by go_num, by omega, hfin.1, hfin.2⟩
            case measure => simp [intOf] <;> omega
          · have hkk : ((k : Int) == (s.size : Int)) = false := by rw [int_beq]; exact decide_eq_false (by omega)
            have hki2 : (k : Int) < (s.size : Int) := by omega
            go_wp2_with (first
              | (at_builtin; refine wpList_append_own _ rfl _ _ 46 rfl (w.heap.size) 9 i0 (.string ⟨#[]⟩) 1 16 Tryz.underlying46 hi hz0 hz1 hz2 rfl (by decide) _ _ _ rfl (hown.alloc _) ⟨wr.heap.size, 0, none⟩ 1 1 [.string (s.extract (frm s k) k)] rfl rfl ?c1 ?c2 ?c3 ?c4 ?c5 ?_))
            case c1 =>
              intro j u hj
              match j, hj with
              | 0, hj => simp at hj; subst hj; simp [Addr.add]
            case c2 => intro u hu; simp at hu; subst hu; rfl
            case c3 => unfold maxLen; omega
            case c4 => omega
            case c5 => have := hb.size; simp; omega
            intro v' w1 hown' hgrow _
            have hfin := FIN v' w1 hown' hgrow
            clear hown' hgrow FIN hown
            go_wp2
            go_roundw
            case rel => exact ⟨k + 1, by rw [e1]; go_num, by go_num, by omega, hfin.1, hfin.2⟩
            case measure => simp [intOf] <;> omega
        · have e2 := pcs_succ_not (s := s) (i := k) (fun h => hf h.2)
          have hfd : decide ((frm s k : Int) < (k : Int)) = false := decide_eq_false (by omega)
          rw [← e2] at hown
          clear he
          rcases hkey with hkey | ⟨hlt, hkey⟩
          · subst hkey
            go_wp2
            go_roundw
            case rel => exact ⟨s.size + 1, by rw [e1]; go_num, by go_num, by omega, hown, hb⟩
            case measure => simp [intOf] <;> omega
          · have hkk : ((k : Int) == (s.size : Int)) = false := by rw [int_beq]; exact decide_eq_false (by omega)
            have hki2 : (k : Int) < (s.size : Int) := by omega
            go_wp2
            go_roundw
            case rel => exact ⟨k + 1, by rw [e1]; go_num, by go_num, by omega, hown, hb⟩
            case measure => simp [intOf] <;> omega
      · have hlt : k < s.size := by
          by_cases h : k = s.size
          · exact absurd (bt_end s k (by omega)) he
          · omega
        have e1 := frm_succ_not he
        have e2 := pcs_succ_not (s := s) (i := k) (fun h => he h.1)
        rw [← e2] at hown
        have hkey : ((s[k].toNat : Int) == 47) = false := by
          have : ((s[k].toNat : Int) == 47) = decide (bt s k = 47) := by rw [bt_at s k (by omega)]; exact int_beq _ 47
          rw [this, decide_eq_false he]
        have hkk : ((k : Int) == (s.size : Int)) = false := by rw [int_beq]; exact decide_eq_false (by omega)
        have hki2 : (k : Int) < (s.size : Int) := by omega
        clear he
        go_wp2
        go_roundw
        case rel => exact ⟨k + 1, by rw [e1], by go_num, by omega, hown, hb⟩
        case measure => simp [intOf] <;> omega
    · obtain rfl : k = s.size + 1 := by omega
      go_wp2
      go_ret
      exact ⟨_, rfl, hown, hb⟩
end
end Go.Proofs.YtmndnjgbbpkidaaGreat
