/- What appends and turns make of a scroll, plainly, with and without power. -/
import Derived.Test.YtajgaialnafdbaaJSAys16
namespace Go.Proofs.Ytajgaialnafdbaa
section
open Go.RowKit

theorem hS_len {cs cs' : List (List Int)} (h : cs'.length = cs.length) : hS cs' = hS cs := by unfold hS; rw [h]
theorem Sc.put {cs : List (List Int)} {g h : Nat} {R : List (List Int)} {u : Nat} (H : Sc cs g h R u) {h' u' g' r c : Nat} {l : List Int} {j : Nat} (hh : h' ≤ 1) (hn : h' ≠ h) (hu : u' + j ≤ hS cs) : Sc (putP cs (1 + h' * hS cs + u') g' r c l j) g h R u :=
  ⟨by rw [putP_zero _ _ _ _ _ _ _ (by omega)]; exact H.hdr, H.hf.same (putP_other cs h' h u' g' r c l j hh H.hf.hh hn hu)⟩
theorem layD_fits {s : Dsk} {h u c : Nat} (hh : h ≤ 1) (hu : u + c ≤ hS s.cs) (hc : 1 ≤ c) : 1 + h * hS s.cs + u + c ≤ s.cs.length := by
  have := half_fits s.cs h (u + c - 1) hh (by omega)
  omega
/-- an Append -/
theorem Sc.app {s : Dsk} {K : Int} {G Hh u : Nat} {R : List (List Int)} (H : Sc s.cs G Hh R u) (hok : s.ok K) {l : List Int} (hl : okR l) (hb : Byt l) (hby : BytC s.cs) (hu : u + nb l.length ≤ hS s.cs) {T : Dsk} (hT : T = layD s (1 + Hh * hS s.cs + u) G R.length (nb l.length) l (nb l.length)) :
    (T.on = true → Sc T.cs G Hh (R ++ [l]) (u + nb l.length)) ∧ (T.on = false → Sc T.cs G Hh R u) ∧ BytC T.cs ∧ T.cs.length = s.cs.length ∧ T.ok (K + 8) ∧ (T.on = true → s.on = true) := by
  have hc := nb_le424 hl
  have hh := H.hf.hh
  subst hT
  obtain ⟨j, hj, e, h1, h2⟩ := layD_cs (s := s) (1 + Hh * hS s.cs + u) G R.length (nb l.length) l (nb l.length) (layD_fits hh hu hc.1)
  have hz : (putP s.cs (1 + Hh * hS s.cs + u) G R.length (nb l.length) l j)[0]? = s.cs[0]? := putP_zero _ _ _ _ _ _ _ (by omega)
  refine ⟨fun ho => ?_, fun ho => ?_, by rw [e]; exact byt_put hby _ _ _ _ hb j, layD_len .., (layD_ok hok _ _ _ _ _ _).le (by omega), fun ho => ?_⟩
  · have := h1 ho
    subst this
    rw [e]
    exact ⟨by rw [hz]; exact H.hdr, H.hf.whole l hl.1 hl.2 hu⟩
  · have hj2 := h2 ho
    rw [e]
    exact ⟨by rw [hz]; exact H.hdr, H.hf.part l hl.2 j (by omega)⟩
  · cases hs : s.on with
    | true => rfl
    | false => rw [layD_dead hs (hok.dead hs), hs] at ho; exact ho
theorem lays_inv {G Hh u : Nat} {R : List (List Int)} {G' H' : Nat} (hn : H' ≠ Hh) : ∀ (ls : List (List Int)) (s : Dsk) (K : Int) (Rk : List (List Int)) (uk : Nat), Sc s.cs G Hh R u → Hf s.cs G' H' Rk uk → s.ok K → uk + tot ls ≤ hS s.cs → (∀ l ∈ ls, okR l ∧ Byt l) → BytC s.cs →
    Sc (laysD s (1 + H' * hS s.cs) G' Rk.length uk ls).cs G Hh R u ∧ ((laysD s (1 + H' * hS s.cs) G' Rk.length uk ls).on = true → Hf (laysD s (1 + H' * hS s.cs) G' Rk.length uk ls).cs G' H' (Rk ++ ls) (uk + tot ls)) ∧ BytC (laysD s (1 + H' * hS s.cs) G' Rk.length uk ls).cs
  | [], s, K, Rk, uk, hS1, hF, hok, hu, hl, hb => ⟨hS1, fun _ => by rw [List.append_nil, tot_nil]; exact hF, hb⟩
  | l :: ls, s, K, Rk, uk, hS1, hF, hok, hu, hl, hb => by
    have hl1 := hl l (by simp)
    have hc := nb_le424 hl1.1
    have ht : tot (l :: ls) = nb l.length + tot ls := by unfold tot; simp
    rw [ht] at hu
    have hfit := layD_fits (s := s) hF.hh (u := uk) (c := nb l.length) (by omega) hc.1
    obtain ⟨j, hj, e, h1, h2⟩ := layD_cs (s := s) (1 + H' * hS s.cs + uk) G' Rk.length (nb l.length) l (nb l.length) hfit
    have hok' := layD_ok hok (1 + H' * hS s.cs + uk) G' Rk.length (nb l.length) l (nb l.length)
    have hlen := layD_len s (1 + H' * hS s.cs + uk) G' Rk.length (nb l.length) l (nb l.length)
    have hb' : BytC (layD s (1 + H' * hS s.cs + uk) G' Rk.length (nb l.length) l (nb l.length)).cs := by rw [e]; exact byt_put hb _ _ _ _ hl1.2 j
    have hS' : Sc (layD s (1 + H' * hS s.cs + uk) G' Rk.length (nb l.length) l (nb l.length)).cs G Hh R u := by rw [e]; exact hS1.put hF.hh hn (by omega)
    have hSS : hS (layD s (1 + H' * hS s.cs + uk) G' Rk.length (nb l.length) l (nb l.length)).cs = hS s.cs := hS_len hlen
    show Sc (laysD (layD s (1 + H' * hS s.cs + uk) G' Rk.length (nb l.length) l (nb l.length)) (1 + H' * hS s.cs) G' (Rk.length + 1) (uk + nb l.length) ls).cs G Hh R u ∧ _ ∧ _
    cases ho : (layD s (1 + H' * hS s.cs + uk) G' Rk.length (nb l.length) l (nb l.length)).on with
    | false =>
      have hd := hok'.dead ho
      have hD := laysD_dead ho hd (1 + H' * hS s.cs) G' (Rk.length + 1) (uk + nb l.length) ls
      have hD' : laysD s (1 + H' * hS s.cs) G' Rk.length uk (l :: ls) = layD s (1 + H' * hS s.cs + uk) G' Rk.length (nb l.length) l (nb l.length) := hD
      rw [hD, hD']
      exact ⟨hS', (fun h => by rw [ho] at h; cases h), hb'⟩
    | true =>
      have hj1 := h1 ho
      subst hj1
      have hF' : Hf (layD s (1 + H' * hS s.cs + uk) G' Rk.length (nb l.length) l (nb l.length)).cs G' H' (Rk ++ [l]) (uk + nb l.length) := by rw [e]; exact hF.whole l hl1.1.1 hl1.1.2 (by omega)
      have := lays_inv hn ls _ _ (Rk ++ [l]) (uk + nb l.length) hS' hF' hok' (by rw [hSS]; omega) (fun x hx => hl x (by simp [hx])) hb'
      rw [hSS, List.length_append, List.length_singleton, List.append_assoc, List.singleton_append, show uk + nb l.length + tot ls = uk + tot (l :: ls) by omega] at this
      exact this
/-- a Turn -/
theorem sc_turn {s : Dsk} {K : Int} {G Hh u : Nat} {R : List (List Int)} (H : Sc s.cs G Hh R u) (hok : s.ok K) {ls : List (List Int)} (hl : ∀ l ∈ ls, okR l ∧ Byt l) (hby : BytC s.cs) (hu : tot ls ≤ hS s.cs) (hg : nextG s.cs ≤ 1073741824) (h1 : 1 ≤ s.cs.length) {T : Dsk} (hT : T = (laysD s (1 + nextH s.cs * hS s.cs) (nextG s.cs) 0 0 ls).wr 0 (hdrB (nextG s.cs) (nextH s.cs))) :
    (T.on = true → Sc T.cs (nextG s.cs) (nextH s.cs) ls (tot ls)) ∧ (T.on = false → Sc T.cs G Hh R u) ∧ BytC T.cs ∧ T.cs.length = s.cs.length ∧ T.ok (K + tot ls + 1) ∧ (T.on = true → s.on = true) := by
  have hn : nextH s.cs ≠ Hh := by have := H.nextH.1; have := H.g.2.2; omega
  obtain ⟨i1, i2, i3⟩ := lays_inv hn ls s K [] 0 H (next_half hg) hok (by omega) hl hby
  have e0 : ([] : List (List Int)).length = 0 := rfl
  rw [e0, List.nil_append, Nat.zero_add] at i2
  rw [e0] at i1 i3
  have hlen := laysD_len s (1 + nextH s.cs * hS s.cs) (nextG s.cs) 0 0 ls
  have hDok := laysD_ok hok (1 + nextH s.cs * hS s.cs) (nextG s.cs) 0 0 ls
  obtain ⟨D, hD⟩ : ∃ D, laysD s (1 + nextH s.cs * hS s.cs) (nextG s.cs) 0 0 ls = D := ⟨_, rfl⟩
  have hdd : s.on = false → D.on = false := fun hs => by rw [← hD, laysD_dead hs (hok.dead hs)]; exact hs
  rw [hD] at i1 i2 i3 hlen hDok hT
  have hon := wr_on (s := D) (i := 0) (by omega) (hdrB_len (nextG s.cs) (nextH s.cs))
  have hcs := wr_cs (s := D) (i := 0) (by omega) (hdrB_len (nextG s.cs) (nextH s.cs))
  have hon : T.on = D.spend.on := by rw [hT]; exact hon
  have hcs : T.cs = if D.spend.on then D.cs.set 0 (hdrB (nextG s.cs) (nextH s.cs)) else D.cs := by rw [hT]; exact hcs
  have hg1 : 1 ≤ nextG s.cs := by unfold nextG; omega
  refine ⟨fun ho => ?_, fun ho => ?_, ?_, ?_, ?_, fun ho => ?_⟩
  · rw [hon] at ho
    rw [hcs, ho, if_pos rfl]
    exact Sc.of (i2 (spend_on ho)) hg1 hg (by omega)
  · rw [hon] at ho
    rw [hcs, ho]
    exact i1
  · rw [hcs]
    split
    · intro x hx
      rcases List.mem_or_eq_of_mem_set hx with hx | rfl
      · exact i3 x hx
      · exact byt_hdr _ _
    · exact i3
  · rw [hT, wr_len, hlen]
  · rw [hT]; exact hDok.wr _ _
  · rw [hon] at ho
    have := spend_on ho
    cases hs : s.on with
    | true => rfl
    | false => rw [hdd hs] at this; cases this

theorem gmax_zero {bs : List (List Int)} (h : ∀ b ∈ bs, le4 b = 0) : gmax 0 bs = 0 := by
  unfold gmax
  induction bs with
  | nil => rfl
  | cons a bs ih => rw [List.foldl_cons, h a (by simp)]; exact ih fun b hb => h b (by simp [hb])
/-- a new disk, formatted -/
theorem fmt_new (N : Nat) (h3 : 3 ≤ N) : fmtE (Dsk.new N) = 0 ∧ ∃ T, fmtD (Dsk.new N) = T ∧ Sc T.cs 1 0 [] 0 ∧ T.ok 1 ∧ T.on = true ∧ T.burns = false ∧ T.cs.length = N ∧ BytC T.cs ∧ hS T.cs = (N - 1) / 2 ∧ T.left = 0 := by
  have hlen : (Dsk.new N).cs.length = N := List.length_replicate ..
  have hz : ((Dsk.new N).cs[0]?).getD [] = zeros := by
    show ((List.replicate N zeros)[0]?).getD [] = zeros
    rw [List.getElem?_replicate, if_pos (by omega)]; rfl
  have hh : hdrOf zeros = none := by decide
  have hall : ∀ b ∈ (Dsk.new N).cs, b = zeros := fun b hb => (List.mem_replicate.1 hb).2
  have hG : nextG (Dsk.new N).cs = 1 := by
    unfold nextG
    rw [hz, hh]
    show gmax 0 _ + 1 = 1
    rw [gmax_zero fun b hb => by rw [hall b (half_mem hb)]; rfl]
  have hH : nextH (Dsk.new N).cs = 0 := by unfold nextH; rw [hz, hh]; rfl
  have hS1 : hS (Dsk.new N).cs = (N - 1) / 2 := by unfold hS; rw [hlen]
  have hsp : (Dsk.new N).spend = Dsk.new N := rfl
  have hE := wrE_in (s := Dsk.new N) (i := 0) (by omega)
  have hW := wr_in (s := Dsk.new N) (i := 0) (by omega) (hdrB_len 1 0)
  have hF : fmtD (Dsk.new N) = (Dsk.new N).wr 0 (hdrB 1 0) := by unfold fmtD; rw [hS1, if_neg (by omega), hG, hH, if_pos (by decide)]
  have hW' : (Dsk.new N).wr 0 (hdrB 1 0) = { Dsk.new N with cs := (Dsk.new N).cs.set 0 (hdrB 1 0), writes := 0 + 1 } := hW
  refine ⟨?_, _, hF, ?_⟩
  · unfold fmtE; rw [hS1, if_neg (by omega), hG, if_pos (by decide)]; exact hE
  · rw [hW']
    have hf := next_half (cs := (Dsk.new N).cs) (by rw [hG]; decide)
    rw [hG, hH] at hf
    refine ⟨Sc.of hf (Nat.le_refl _) (by decide) (by omega), ⟨(fun e => by cases e), (by show (0 : Int) ≤ 0 + 1; decide), (by show (0 : Int) + 1 ≤ 1; decide), fun e => by cases e⟩, rfl, rfl, ?_, ?_, ?_, rfl⟩
    · show ((Dsk.new N).cs.set 0 _).length = N
      rw [List.length_set]; exact hlen
    · intro x hx
      rcases List.mem_or_eq_of_mem_set hx with hx | rfl
      · rw [hall x hx]; exact byt_zs 64
      · exact byt_hdr _ _
    · show hS ((Dsk.new N).cs.set 0 _) = _
      unfold hS; rw [List.length_set, hlen]
end
end Go.Proofs.Ytajgaialnafdbaa
