/- Append and Turn of both scrolls, by what they answer and leave. -/
import Derived.Test.YtajgaialnafdbaaJSAys30
import Derived.Test.YtajgaialnafdbaaJSAys31
namespace Go.Proofs.Ytajgaialnafdbaa
section
open Go.RowKit Go.Lib

theorem Sim.ok {s : Dsk} {R : Rf} (h : Sim s R) : s.ok R.did.length := by
  refine ⟨fun e => ?_, by rw [h.wr]; omega, by rw [h.wr]; omega, fun e => ?_⟩
  · rcases h.fz with ⟨e1, _⟩ | ⟨_, _, e3, e4, _⟩
    · rw [e1] at e; cases e
    · exact ⟨e3, e4⟩
  · rcases h.fz with ⟨e1, _⟩ | ⟨_, e2, _⟩
    · exact e1
    · rw [e2] at e; cases e
theorem byt_layD {s : Dsk} (h : BytC s.cs) (A g n C : Nat) {l : List Int} (hl : Byt l) : ∀ k, BytC (layD s A g n C l k).cs
  | 0 => h
  | k + 1 => byt_wr (byt_layD h A g n C hl k) _ (byt_piece (byt_cut hl k))
theorem byt_laysD (A G : Nat) : ∀ (L : List (List Int)) (s : Dsk) (n u : Nat), BytC s.cs → (∀ l ∈ L, Byt l) → BytC (laysD s A G n u L).cs
  | [], _, _, _, h, _ => h
  | l :: L, _, _, _, h, hL => byt_laysD A G L _ _ _ (byt_layD h _ _ _ _ (hL l (List.mem_cons_self ..)) _) fun x hx => hL x (List.mem_cons_of_mem _ hx)
/-- does a record go in? -/
abbrev apG (s : Dsk) (u : Nat) (l : List Int) : Prop := (1 ≤ l.length ∧ l.length ≤ 424) ∧ u + nb l.length ≤ hS s.cs
def apT (s : Dsk) (G H n u : Nat) (l : List Int) : Dsk := if apG s u l then layD s (1 + H * hS s.cs + u) G n (nb l.length) l (nb l.length) else s
def apE (s : Dsk) (G H n u : Nat) (l : List Int) : Int := if ¬ (1 ≤ l.length ∧ l.length ≤ 424) then 61 else if ¬ apG s u l then 2 else pwE (apT s G H n u l).on
def apU (s : Dsk) (G H n u : Nat) (l : List Int) : Nat := if apG s u l ∧ (apT s G H n u l).on = true then u + nb l.length else u
def apN (s : Dsk) (G H n u : Nat) (l : List Int) : Nat := if apG s u l ∧ (apT s G H n u l).on = true then n + 1 else n
theorem apU_le {s : Dsk} {G H n u : Nat} {l : List Int} (hu : u ≤ hS s.cs) (hn : n ≤ u) : apU s G H n u l ≤ hS s.cs ∧ apN s G H n u l ≤ apU s G H n u l := by
  unfold apU apN
  by_cases h : apG s u l ∧ (apT s G H n u l).on = true
  · rw [if_pos h, if_pos h]
    exact ⟨h.1.2, by have := nb_pos h.1.1.1; omega⟩
  · rw [if_neg h, if_neg h]
    exact ⟨hu, hn⟩
theorem apT_byt {s : Dsk} {G H n u : Nat} {l : List Int} (h : BytC s.cs) (hl : Byt l) : BytC (apT s G H n u l).cs := by
  unfold apT
  split
  · exact byt_layD h _ _ _ _ hl _
  · exact h
theorem apT_len {s : Dsk} {G H n u : Nat} {l : List Int} : (apT s G H n u l).cs.length = s.cs.length := by
  unfold apT
  split
  · exact layD_len ..
  · rfl
theorem app_p (sb b G H n u g : Nat) (s : Dsk) (K : Int) (hok : s.ok K) (hK : K + 8 < 9223372036854775807) (v : Value) (l : List Int) (w : World) (hs : IsS w sb b G H n u) (h : IsD w b g s) (h1 : 1 ≤ s.cs.length) (hv : RT w v l) (hl : l.length ≤ 1000000) (hG : G < 4294967296) (hn : n < 1000000) (hh : H ≤ 1) (hu : u ≤ hS s.cs) :
    Calls Try.prog 8 #[.pointer (some ⟨sb, 0, none⟩), v] w fun e w' => e = .returned (.int .i64 (apE s G H n u l)) ∧ IsD w' b g (apT s G H n u l) ∧ IsS w' sb b G H (apN s G H n u l) (apU s G H n u l) ∧ Only (fun x => x = b ∨ x = g ∨ x = sb) w w' := by
  by_cases hb : okR l
  · by_cases hf : u + nb l.length ≤ hS s.cs
    · have hg : apG s u l := ⟨hb, hf⟩
      refine (append_go sb b G H n u g s K v l w hs h hok hK hv hb hG hn hh hf).mono ?_
      rintro e w' ⟨T, hT, rfl, h2, h3, h4⟩
      have eT : apT s G H n u l = T := by unfold apT; rw [if_pos hg, hT]
      have eE : apE s G H n u l = pwE T.on := by unfold apE; rw [if_neg (fun hc => hc hb), if_neg (fun hc => hc hg), eT]
      refine ⟨by rw [eE], by rw [eT]; exact h2, ?_, h4⟩
      unfold apN apU
      rw [eT]
      cases hon : T.on with
      | true => rw [hon] at h3; rw [if_pos ⟨hg, rfl⟩, if_pos ⟨hg, rfl⟩]; exact h3
      | false => rw [hon] at h3; simpa [hg] using h3
    · have hg : ¬ apG s u l := fun hc => hf hc.2
      refine (append_full sb b G H n u g s v l w hs h h1 hu hv.rb hb (by omega)).mono ?_
      rintro e w' ⟨rfl, hb'⟩
      have eT : apT s G H n u l = s := by unfold apT; rw [if_neg hg]
      have eE : apE s G H n u l = 2 := by unfold apE; rw [if_neg (fun hc => hc hb), if_pos hg]
      refine ⟨by rw [eE], by rw [eT]; exact h.below hb', ?_, Only.of hb'⟩
      unfold apN apU
      rw [if_neg (fun hc => hg hc.1), if_neg (fun hc => hg hc.1)]
      exact hs.below hb'
  · have hg : ¬ apG s u l := fun hc => hb hc.1
    refine (append_bad sb v l w hv.rb hl hb).mono ?_
    rintro e w' ⟨rfl, rfl⟩
    have eT : apT s G H n u l = s := by unfold apT; rw [if_neg hg]
    have eE : apE s G H n u l = 61 := by unfold apE; rw [if_pos (show ¬ (1 ≤ l.length ∧ l.length ≤ 424) from hb)]
    refine ⟨by rw [eE], by rw [eT]; exact h, ?_, Only.refl _ _⟩
    unfold apN apU
    rw [if_neg (fun hc => hg hc.1), if_neg (fun hc => hg hc.1)]
    exact hs
theorem Dl.id {w w' : World} {q r N : Nat} {R : Rf} {s : Dsk} (h : IsRf w r R) (hs : Sim s R) (hn : R.n = N) (hb : Below w.heap.size w w') : Dl w w' q r N R s 8 R :=
  ⟨h.below hb, hs, hn, by omega, Only.of hb, .inl rfl⟩
theorem Dl.up {w w' : World} {q r N k k' : Nat} {R0 R : Rf} {T : Dsk} (h : Dl w w' q r N R0 T k R) (hk : k ≤ k') : Dl w w' q r N R0 T k' R :=
  ⟨h.rf, h.sim, h.n, by have := h.few; omega, h.only, h.own⟩
theorem app_d (q r G H u n N : Nat) (R0 : Rf) (s : Dsk) (v : Value) (l : List Int) (w : World) (ht : IsT w q r G H u n) (hr : IsRf w r R0) (hS' : Sim s R0) (hN : R0.n = N) (h1 : 1 ≤ N) (h2 : N ≤ 1024) (HV : ∀ w', Only (fun x => x = r ∨ R0.v.ownBlock = some x) w w' → RC w' v l) (hG : G < 4294967296) (hn : n < 1000000) (hh : H ≤ 1) (hu : u ≤ hS s.cs) (hbig : (R0.did.length + 9) * 32 ≤ 140737488355328) :
    Calls Try.prog 10 #[.pointer (some ⟨q, 0, none⟩), v] w fun e w' => e = .returned (.int .i64 (apE s G H n u l)) ∧ IsT w' q r G H (apU s G H n u l) (apN s G H n u l) ∧ ∃ R', Dl w w' q r N R0 (apT s G H n u l) 8 R' := by
  obtain ⟨a, c, hv, _⟩ := HV w (Only.refl _ _)
  have hM : hS s.cs = (N - 1) / 2 := by unfold hS; rw [hS'.n, hN]
  by_cases hb : okR l
  · by_cases hf : u + nb l.length ≤ hS s.cs
    · have hg : apG s u l := ⟨hb, hf⟩
      refine (append_goD q r G H u n N R0 s R0.did.length hS'.ok v l w ht ⟨hr, hS', hN, Nat.le_refl _, Only.refl _ _, .inl rfl⟩ HV hb hG hn hh hf h1 h2 hbig).mono ?_
      rintro e w' ⟨T, R', hT, rfl, h3, h4⟩
      have eT : apT s G H n u l = T := by unfold apT; rw [if_pos hg, hT]
      have eE : apE s G H n u l = pwE T.on := by unfold apE; rw [if_neg (fun hc => hc hb), if_neg (fun hc => hc hg), eT]
      refine ⟨by rw [eE], ?_, R', by rw [eT]; exact h3.up (nb_le424 hb).2⟩
      unfold apN apU
      rw [eT]
      cases hon : T.on with
      | true => rw [hon] at h4; rw [if_pos ⟨hg, rfl⟩, if_pos ⟨hg, rfl⟩]; exact h4
      | false => rw [hon] at h4; simpa [hg] using h4
    · have hg : ¬ apG s u l := fun hc => hf hc.2
      subst hv
      refine (append_fullD q r G H u n (hS s.cs) a l.length c w ht (by omega) hu (fun W hb' => by
        have := rhalf_d r R0 W (hr.below hb') (by omega) (by omega)
        rw [hN, ← hM] at this
        exact this) hb (by omega)).mono ?_
      rintro e w' ⟨rfl, hb'⟩
      have eT : apT s G H n u l = s := by unfold apT; rw [if_neg hg]
      have eE : apE s G H n u l = 2 := by unfold apE; rw [if_neg (fun hc => hc hb), if_pos hg]
      refine ⟨by rw [eE], ?_, R0, by rw [eT]; exact Dl.id hr hS' hN hb'⟩
      unfold apN apU
      rw [if_neg (fun hc => hg hc.1), if_neg (fun hc => hg hc.1)]
      exact ht.below hb'
  · have hg : ¬ apG s u l := fun hc => hb hc.1
    subst hv
    refine (append_badD q a l.length c w hb).mono ?_
    rintro e w' ⟨rfl, rfl⟩
    have eT : apT s G H n u l = s := by unfold apT; rw [if_neg hg]
    have eE : apE s G H n u l = 61 := by unfold apE; rw [if_pos (show ¬ (1 ≤ l.length ∧ l.length ≤ 424) from hb)]
    refine ⟨by rw [eE], ?_, R0, by rw [eT]; exact Dl.id hr hS' hN (Below.refl _ _)⟩
    unfold apN apU
    rw [if_neg (fun hc => hg hc.1), if_neg (fun hc => hg hc.1)]
    exact ht
end
section
open Go.RowKit Go.Lib

def okB (L : List (List Int)) : Bool := L.all fun l => decide (1 ≤ l.length ∧ l.length ≤ 424)
theorem okB_iff {L : List (List Int)} : okB L = true ↔ ∀ l ∈ L, okR l := by
  unfold okB
  rw [List.all_eq_true]
  exact ⟨fun h l hl => of_decide_eq_true (p := 1 ≤ l.length ∧ l.length ≤ 424) (h l hl), fun h l hl => decide_eq_true (p := 1 ≤ l.length ∧ l.length ≤ 424) (h l hl)⟩
abbrev tuG (s : Dsk) (L : List (List Int)) : Prop := okB L = true ∧ tot L ≤ hS s.cs ∧ nextG s.cs ≤ 1073741824
def tuT (s : Dsk) (L : List (List Int)) : Dsk := if tuG s L then (laysD s (1 + nextH s.cs * hS s.cs) (nextG s.cs) 0 0 L).wr 0 (hdrB (nextG s.cs) (nextH s.cs)) else s
def tuE (s : Dsk) (L : List (List Int)) : Int := if okB L = false then 61 else if hS s.cs < tot L then 2 else if ¬ nextG s.cs ≤ 1073741824 then 60 else pwE (tuT s L).on
/-- did it turn? -/
def tuD (s : Dsk) (L : List (List Int)) : Bool := decide (tuG s L) && (tuT s L).on
theorem tuT_byt {s : Dsk} {L : List (List Int)} (h : BytC s.cs) (hL : ∀ l ∈ L, Byt l) : BytC (tuT s L).cs := by
  unfold tuT
  split
  · exact byt_wr (byt_laysD _ _ L s _ _ h hL) _ (byt_hdr _ _)
  · exact h
theorem tuT_len {s : Dsk} {L : List (List Int)} : (tuT s L).cs.length = s.cs.length := by
  unfold tuT
  split
  · rw [wr_len]; exact laysD_len ..
  · rfl
theorem turn_p (sb b G H n u g : Nat) (s : Dsk) (K : Int) (hok : s.ok K) (hK : K + 9000 < 9223372036854775807) (a : Option Addr) (cap c : Nat) (L : List (List Int)) (w : World) (hs : IsS w sb b G H n u) (h : IsD w b g s) (h1 : 1 ≤ s.cs.length) (hby : BytC s.cs) (hr : Rs w (.slice a L.length cap) L) (hL : L.length ≤ 1000) (hc : ∀ l ∈ L, l.length = c) (hc2 : c ≤ 1000000) :
    Calls Try.prog 11 #[.pointer (some ⟨sb, 0, none⟩), .slice a L.length cap] w fun e w' => e = .returned (.int .i64 (tuE s L)) ∧ IsD w' b g (tuT s L) ∧ IsS w' sb b (if tuD s L then nextG s.cs else G) (if tuD s L then nextH s.cs else H) (if tuD s L then L.length else n) (if tuD s L then tot L else u) ∧ Only (fun x => x = b ∨ x = g ∨ x = sb) w w' := by
  have hno : ¬ tuG s L → tuT s L = s ∧ tuD s L = false := fun hg => ⟨by unfold tuT; rw [if_neg hg], by unfold tuD; rw [decide_eq_false hg, Bool.false_and]⟩
  cases hb : okB L with
  | false =>
    have hg : ¬ tuG s L := fun hc' => by have := hc'.1; rw [hb] at this; cases this
    obtain ⟨e1, e2⟩ := hno hg
    rw [e1, e2]
    obtain ⟨l0, hl0⟩ : ∃ l0, L[0]? = some l0 := by
      cases L with
      | nil => cases hb
      | cons x L => exact ⟨x, rfl⟩
    have hbad : ¬ okR l0 := fun ho => by
      have : okB L = true := okB_iff.2 fun l hl => by
        have h1 := hc l hl
        have h2 := hc l0 (List.mem_of_getElem? hl0)
        unfold okR at ho ⊢
        omega
      rw [hb] at this
      cases this
    refine (turn_bad sb a cap L w hr hL (fun l hl => by rw [hc l hl]; exact hc2) 0 l0 hl0 hbad (fun i l hi => by omega)).mono ?_
    rintro e w' ⟨rfl, rfl⟩
    exact ⟨by unfold tuE; rw [if_pos hb], h, hs, Only.refl _ _⟩
  | true =>
    have hall := okB_iff.1 hb
    have hb2 : ¬ okB L = false := fun e => by rw [hb] at e; cases e
    by_cases hf : hS s.cs < tot L
    · have hg : ¬ tuG s L := fun hc' => by have := hc'.2.1; omega
      obtain ⟨e1, e2⟩ := hno hg
      rw [e1, e2]
      refine (turn_full sb b G H n u g s a cap L w hs h h1 hr hL hall hf).mono ?_
      rintro e w' ⟨rfl, hb'⟩
      exact ⟨by unfold tuE; rw [if_neg hb2, if_pos hf], h.below hb', hs.below hb', Only.of hb'⟩
    · by_cases hx : nextG s.cs ≤ 1073741824
      · have hg : tuG s L := ⟨hb, by omega, hx⟩
        refine (turn_go sb b G H n u g s a cap L w hs h h1 hr hL hall K hok hK (by omega) hby hx).mono ?_
        rintro e w' ⟨T, hT, rfl, h2, h3, h4⟩
        have eT : tuT s L = T := by unfold tuT; rw [if_pos hg, hT]
        have eD : tuD s L = T.on := by unfold tuD; rw [decide_eq_true hg, eT, Bool.true_and]
        refine ⟨by unfold tuE; rw [if_neg hb2, if_neg hf, if_neg (fun hc' => hc' hx), eT], by rw [eT]; exact h2, ?_, h4⟩
        rw [eD]
        cases hon : T.on with
        | true => rw [hon] at h3; exact h3
        | false => rw [hon] at h3; exact h3
      · have hg : ¬ tuG s L := fun hc' => hx hc'.2.2
        obtain ⟨e1, e2⟩ := hno hg
        rw [e1, e2]
        refine (turn_60 sb b G H n u g s a cap L w hs h h1 hr hL hall (by omega) hby hx).mono ?_
        rintro e w' ⟨rfl, hb'⟩
        exact ⟨by unfold tuE; rw [if_neg hb2, if_neg hf, if_pos hx], h.below hb', hs.below hb', Only.of hb'⟩
theorem OwnR.rrf {w : World} {base m n cap r : Nat} {a : Option Addr} {L : List (List Int)} {R0 : Rf} (h : OwnR w base m (.slice a n cap) L) (hr : IsRf w r R0) : RrF w (fun x => x = r ∨ R0.v.ownBlock = some x) a L := fun i l hl => by
  have hR := h.rrl i l hl
  obtain ⟨vs, hrow, he⟩ := h
  have hi : i < L.length := (List.getElem?_eq_some_iff.1 hl).1
  obtain ⟨x, hx⟩ : ∃ x, vs[i]? = some x := ⟨_, List.getElem?_eq_getElem (by rw [he.len]; exact hi)⟩
  obtain ⟨k, hk⟩ : ∃ k, L.length = k + 1 := ⟨L.length - 1, by omega⟩
  have hr2 := hrow
  rw [hk] at hr2
  obtain ⟨g, c, e⟩ := owns_form hr2
  cases e
  have hne : ∀ {t : TypeId} {q : Nat}, Tag w q t → t ≠ 85 → t ≠ 92 → ¬ (q = r ∨ R0.v.ownBlock = some q) := fun ht h1 h2 hc => by
    rcases hc with e | e
    · exact ht.ne hr.tr h1 e
    · exact ht.ne (hr.tv e) h2 rfl
  have hcell := (owns_cells hr2).1 i x hx
  refine ⟨g, 0, x, rfl, fun w' hO => ⟨?_, ?_⟩⟩
  · rw [Nat.zero_add]
    have hblk := hO.block g (cellLt hcell) (hne (Tag.own hr2 rfl) (by decide) (by decide))
    rw [← hcell]
    simp only [World.cell?, hblk]
  · exact ((he.own i x l hx hl).moved fun q hq => hO.block q ((he.own i x l hx hl).tag hq).lt (hne ((he.own i x l hx hl).tag hq) (by decide) (by decide))).rc
theorem turn_dd (q r G H u n N : Nat) (R0 : Rf) (s : Dsk) (a : Option Addr) (cap : Nat) (L : List (List Int)) (w : World) (ht : IsT w q r G H u n) (hr : IsRf w r R0) (hS' : Sim s R0) (hN : R0.n = N) (hbk : Bk R0 s.cs) (base mm : Nat) (hl : OwnR w base mm (.slice a L.length cap) L) (hL : L.length ≤ 1000) (hLl : ∀ l ∈ L, l.length ≤ 1000000) (hbig : (R0.did.length + 8010) * 32 ≤ 140737488355328) :
    Calls Try.prog 13 #[.pointer (some ⟨q, 0, none⟩), .slice a L.length cap] w fun e w' => e = .returned (.int .i64 (tuE s L)) ∧ IsT w' q r (if tuD s L then nextG s.cs else G) (if tuD s L then nextH s.cs else H) (if tuD s L then tot L else u) (if tuD s L then L.length else n) ∧ ∃ R', Dl w w' q r N R0 (tuT s L) 8001 R' := by
  have hno : ¬ tuG s L → tuT s L = s ∧ tuD s L = false := fun hg => ⟨by unfold tuT; rw [if_neg hg], by unfold tuD; rw [decide_eq_false hg, Bool.false_and]⟩
  refine (turn_d q r G H u n N R0 s R0.did.length hS'.ok a cap L.length L w ht ⟨hr, hS', hN, Nat.le_refl _, Only.refl _ _, .inl rfl⟩ hbk (hl.rrf hr) rfl hL hLl hbig).mono ?_
  intro e w' hT
  rcases hT with ⟨⟨l, hm, hbad⟩, rfl, hb⟩ | ⟨hall, hf, rfl, hb⟩ | ⟨hall, hf, hx, rfl, hb⟩ | ⟨hall, hf, hx, T, R', hT, rfl, hD, hI⟩
  · have hb0 : okB L = false := by
      cases hq : okB L with
      | false => rfl
      | true => exact absurd (okB_iff.1 hq l hm) hbad
    obtain ⟨e1, e2⟩ := hno fun hc' => by have := hc'.1; rw [hb0] at this; cases this
    rw [e1, e2]
    exact ⟨by unfold tuE; rw [if_pos hb0], ht.below hb, R0, (Dl.id hr hS' hN hb).up (by omega)⟩
  · have hb2 : ¬ okB L = false := fun e => by rw [okB_iff.2 hall] at e; cases e
    obtain ⟨e1, e2⟩ := hno fun hc' => by have := hc'.2.1; omega
    rw [e1, e2]
    exact ⟨by unfold tuE; rw [if_neg hb2, if_pos hf], ht.below hb, R0, (Dl.id hr hS' hN hb).up (by omega)⟩
  · have hb2 : ¬ okB L = false := fun e => by rw [okB_iff.2 hall] at e; cases e
    obtain ⟨e1, e2⟩ := hno fun hc' => hx hc'.2.2
    rw [e1, e2]
    exact ⟨by unfold tuE; rw [if_neg hb2, if_neg (by omega), if_pos hx], ht.below hb, R0, (Dl.id hr hS' hN hb).up (by omega)⟩
  · have hg : tuG s L := ⟨okB_iff.2 hall, hf, hx⟩
    have hb2 : ¬ okB L = false := fun e => by rw [hg.1] at e; cases e
    have eT : tuT s L = T := by unfold tuT; rw [if_pos hg, hT]
    have eD : tuD s L = T.on := by unfold tuD; rw [decide_eq_true hg, eT, Bool.true_and]
    have ht8 : tot L ≤ 8000 := by
      have : ∀ ls : List (List Int), (∀ l ∈ ls, okR l) → tot ls ≤ 8 * ls.length := by
        intro ls
        induction ls with
        | nil => intro _; simp [tot_nil]
        | cons a ls ih =>
          intro hq
          have h2 := ih (fun l hl => hq l (by simp [hl]))
          have h3 := (nb_le424 (hq a (by simp))).2
          have : tot (a :: ls) = nb a.length + tot ls := by unfold tot; simp
          rw [this, List.length_cons]; omega
      have := this L hall
      omega
    refine ⟨by unfold tuE; rw [if_neg hb2, if_neg (by omega), if_neg (fun hc' => hc' hx), eT], ?_, R', by rw [eT]; exact hD.up (by omega)⟩
    rw [eD]
    cases hon : T.on with
    | true => rw [hon] at hI; exact hI
    | false => rw [hon] at hI; exact hI
end
end Go.Proofs.Ytajgaialnafdbaa
