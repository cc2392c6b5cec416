/- WalkWants, plainly. -/
import Derived.Test.YtppbbddlbfgpfaaJWOme34
import Derived.Test.YtppbbddlbfgpfaaJWOme36
import Derived.Test.YtppbbddlbfgpfaaJWOme37
import Derived.Test.YtppbbddlbfgpfaaJWOme33
import Derived.Test.YtppbbddlbfgpfaaJWNts00
namespace Go.Proofs.Ytppbbddlbfgpfaa
section
open Go.RowKit

theorem pcs_len2 (s : ByteArray) (i : Nat) : 2 * (pcs s i).length ≤ frm s i := by
  induction i with
  | zero => exact Nat.le_refl _
  | succ i ih =>
    simp only [pcs, frm]
    by_cases h : bt s i = 47
    · rw [if_pos h]
      have h2 := frm_le s i
      by_cases h3 : frm s i < i
      · rw [if_pos ⟨h, h3⟩, List.length_append]
        simp only [List.length_cons, List.length_nil]
        omega
      · rw [if_neg (fun hc => h3 hc.2)]
        omega
    · rw [if_neg h, if_neg (fun hc => h hc.1)]
      exact ih
theorem cutL_48 (s : ByteArray) (b : Bool) : (cutL s b).length ≤ 48 := by
  unfold cutL
  split
  · rename_i h
    have h1 : s.size ≤ 96 := by
      unfold cutE at h
      split at h
      · cases h
      · omega
    have h2 := pcs_len2 s (s.size + 1)
    have h3 := frm_le s (s.size + 1)
    unfold pieces
    omega
  · exact Nat.zero_le _
theorem goW_48 (kn : Ky → Option En) (fol : Bool) : ∀ (l : Nat) (steps : List ByteArray) (s : Ws), (goW kn fol l steps s).used.length ≤ s.used.length + steps.length + 48 * l
  | 0, steps, s => goI_len kn fol _ 0 (fun _ _ s => by show s.used.length ≤ _; omega) steps s
  | l + 1, steps, s => by
    have := goI_len kn fol (metW (goW kn fol l)) (48 * (l + 1)) (fun tg rest s => by
      unfold metW
      split
      · have h := goW_48 kn fol l (cutL tg (fullB tg) ++ rest) (s.met tg (decide (rest.length = 0)))
        have hc := cutL_48 tg (fullB tg)
        have e : (s.met tg (decide (rest.length = 0))).used = s.used := rfl
        rw [e, List.length_append] at h
        omega
      · show s.used.length ≤ _; omega) steps s
    exact this
theorem walkO_432 (kn : Ky → Option En) (path : ByteArray) (fol : Bool) (links : Int) : (walkO kn path fol links).used.length ≤ 432 := by
  unfold walkO
  split
  · unfold stepsO
    have := goW_48 kn fol (linksN links) (cutL path (rootB path)) (startW (cutD path (rootB path)))
    have hc := cutL_48 path (rootB path)
    have hl := linksN_le links
    have e : (startW (cutD path (rootB path))).used.length = 0 := rfl
    omega
  · simp
/-- components that a name may be -/
def Okn (L : List ByteArray) : Prop := ∀ x ∈ L, dotsB x = true ∨ chkE x = 0
theorem okn_cut (s : ByteArray) (b : Bool) : Okn (cutL s b) := fun x hx => by
  unfold cutL at hx
  split at hx
  · rename_i h; exact piece_chk h hx
  · simp at hx
theorem Okn.app {A B : List ByteArray} (h : Okn A) (h' : Okn B) : Okn (A ++ B) := fun x hx => (List.mem_append.1 hx).elim (h x) (h' x)
theorem okn_chk {x : ByteArray} (h : dotsB x = true ∨ chkE x = 0) (h1 : x ≠ dot1) (h2 : x ≠ dot2) : chkE x = 0 := by
  rcases h with h | h
  · exfalso
    unfold dotsB at h
    rw [str_eq x [46] dot1 dot1_list, str_eq x [46, 46] dot2 (by kernel_rfl), decide_eq_false h1, decide_eq_false h2] at h
    cases h
  · exact h
/-- what is known, is known as the tree says it -/
def SubK (es : List En) (kn : Ky → Option En) : Prop := ∀ k e, kn k = some e → e = nowE es k.d k.nm
/-- used keys are known; a wanted one is not, and is one of the tree's -/
def Res (kn : Ky → Option En) (es : List En) (s : Ws) (o : Ou) : Prop := (∀ k ∈ o.used, k ∈ s.used ∨ kn k ≠ none) ∧ (o.need = true → kn o.key = none ∧ dirE es o.key.d = 0 ∧ Ino es o.key.d ∧ chkE o.key.nm = 0)
theorem Res.fail (kn : Ky → Option En) (es : List En) (s : Ws) (e : Int) : Res kn es s (s.fail e) := ⟨fun k hk => .inl hk, fun h => by cases h⟩
theorem goI_res {kn : Ky → Option En} {es : List En} {next : Int} (wf : WF Mn es next) (hs : SubK es kn) (fol : Bool) (m : ByteArray → List ByteArray → Ws → Ou) (hm : ∀ tg rest s, WayT es s → Okn rest → Res kn es s (m tg rest s)) : ∀ (steps : List ByteArray) (s : Ws), WayT es s → Okn steps → Res kn es s (goI kn fol m steps s)
  | [], s, _, _ => by
    rw [goI]
    refine ⟨fun k hk => .inl (by rw [fin_used] at hk; exact hk), fun h => ?_⟩
    unfold Ws.fin at h
    split at h <;> cases h
  | x :: rest, s, hw, ho => by
    have ho' : Okn rest := fun y hy => ho y (List.mem_cons_of_mem _ hy)
    rw [goI]
    by_cases h1 : s.inD = false
    · rw [if_pos h1]; exact Res.fail _ _ _ _
    rw [if_neg h1]
    by_cases h2 : x = dot1
    · rw [if_pos h2]; exact goI_res wf hs fol m hm rest s hw ho'
    rw [if_neg h2]
    by_cases h3 : x = dot2
    · rw [if_pos h3]; exact goI_res wf hs fol m hm rest s.up hw.up ho'
    rw [if_neg h3]
    have hin : s.here.kind = 1 := by
      unfold Ws.inD at h1
      exact of_decide_eq_true (by cases h : decide (s.here.kind = 1) with | true => rfl | false => exact (h1 h).elim)
    cases hk : kn ⟨s.here.id, x⟩ with
    | none => exact ⟨fun k hk => .inl hk, fun _ => ⟨hk, hw.here.dir wf hin, hw.here.ino, okn_chk (ho x (by simp)) h2 h3⟩⟩
    | some e =>
      simp only
      have step : ∀ o, Res kn es (s.use ⟨s.here.id, x⟩) o → Res kn es s o := fun o hr => ⟨fun k hk' => by
        rcases hr.1 k hk' with h | h
        · rcases List.mem_append.1 h with h | h
          · exact .inl h
          · rw [List.mem_singleton.1 h]; exact .inr (by rw [hk]; intro hc; cases hc)
        · exact .inr h, hr.2⟩
      by_cases h4 : e.neg = true
      · rw [if_pos h4]; exact step _ (Res.fail _ _ _ _)
      rw [if_neg h4]
      have hnd : NdT es e.nd := by
        have he := hs _ _ hk
        rcases nowE_cases wf s.here.id x with ⟨e1, -⟩ | ⟨e', he', -, -, e1, -⟩
        · rw [he, e1] at h4; exact absurd rfl h4
        · rw [he, e1]; exact .inr ⟨e', he', rfl⟩
      by_cases h5 : meetsB fol s e.nd rest = true
      · rw [if_pos h5]; exact step _ (hm _ _ _ (hw.use _) ho')
      · rw [if_neg h5]
        exact step _ (goI_res wf hs fol m hm rest _ ((hw.use _).go hnd) ho')
theorem goW_res {kn : Ky → Option En} {es : List En} {next : Int} (wf : WF Mn es next) (hs : SubK es kn) (fol : Bool) : ∀ (l : Nat) (steps : List ByteArray) (s : Ws), WayT es s → Okn steps → Res kn es s (goW kn fol l steps s)
  | 0, steps, s, hw, ho => goI_res wf hs fol _ (fun _ _ s _ _ => Res.fail _ _ s _) steps s hw ho
  | l + 1, steps, s, hw, ho => goI_res wf hs fol _ (fun tg rest s hw ho => by
    unfold metW
    split
    · exact goW_res wf hs fol l _ (s.met tg (decide (rest.length = 0))) (hw.met _ _) ((okn_cut _ _).app ho)
    · exact Res.fail _ _ _ _) steps s hw ho
theorem walkO_res {kn : Ky → Option En} {es : List En} {next : Int} (wf : WF Mn es next) (hs : SubK es kn) (path : ByteArray) (fol : Bool) (links : Int) : (∀ k ∈ (walkO kn path fol links).used, kn k ≠ none) ∧ ((walkO kn path fol links).need = true → kn (walkO kn path fol links).key = none ∧ dirE es (walkO kn path fol links).key.d = 0 ∧ Ino es (walkO kn path fol links).key.d ∧ chkE (walkO kn path fol links).key.nm = 0) := by
  unfold walkO
  split
  · have h := goW_res wf hs fol (linksN links) (cutL path (rootB path)) (startW (cutD path (rootB path))) (WayT.start _ _) (okn_cut _ _)
    exact ⟨fun k hk => (h.1 k hk).elim (fun h => by cases h) id, h.2⟩
  · exact ⟨fun k hk => by simp at hk, fun h => by cases h⟩
/-- where nothing is wanted the walk is the whole tree's -/
theorem walkO_whole {kn : Ky → Option En} {es : List En} {next : Int} (wf : WF Mn es next) (hs : SubK es kn) (hi : ∀ k e, kn k = some e → Ino es k.d) (path : ByteArray) (fol : Bool) (links : Int) (hn : (walkO kn path fol links).need = false) : walkO (knC (fillS es)) path fol links = walkO kn path fol links := by
  refine walkO_same ⟨fun k hk => ?_, fun h => by rw [hn] at h; cases h⟩
  have h1 := (walkO_res wf hs path fol links).1 k hk
  cases hq : kn k with
  | none => exact (h1 hq).elim
  | some e =>
    rw [hs k e hq]
    exact knC_fill wf (hi k e hq) k.nm
/-- used keys come one behind the other -/
theorem goI_pre1 (kn : Ky → Option En) (fol : Bool) (m : ByteArray → List ByteArray → Ws → Ou) (hm : ∀ tg rest s, ∃ t, (m tg rest s).used = s.used ++ t) : ∀ (steps : List ByteArray) (s : Ws), ∃ t, (goI kn fol m steps s).used = s.used ++ t
  | [], s => ⟨[], by rw [goI, fin_used, List.append_nil]⟩
  | x :: rest, s => by
    rw [goI]
    split
    · exact ⟨[], (List.append_nil _).symm⟩
    split
    · exact goI_pre1 kn fol m hm rest s
    split
    · exact goI_pre1 kn fol m hm rest s.up
    split
    · exact ⟨[], (List.append_nil _).symm⟩
    · split
      · exact ⟨[⟨s.here.id, x⟩], rfl⟩
      split
      · obtain ⟨t, h⟩ := hm _ rest (s.use ⟨s.here.id, x⟩)
        exact ⟨⟨s.here.id, x⟩ :: t, by rw [h]; show (s.used ++ [_]) ++ t = _; rw [List.append_assoc]; rfl⟩
      · rename_i e _ _ _
        obtain ⟨t, h⟩ := goI_pre1 kn fol m hm rest ((s.use ⟨s.here.id, x⟩).go e.nd)
        exact ⟨⟨s.here.id, x⟩ :: t, by rw [h]; show (s.used ++ [_]) ++ t = _; rw [List.append_assoc]; rfl⟩
theorem goW_pre1 (kn : Ky → Option En) (fol : Bool) : ∀ (l : Nat) (steps : List ByteArray) (s : Ws), ∃ t, (goW kn fol l steps s).used = s.used ++ t
  | 0, steps, s => goI_pre1 kn fol _ (fun _ _ _ => ⟨[], (List.append_nil _).symm⟩) steps s
  | l + 1, steps, s => goI_pre1 kn fol _ (fun tg rest s => by
    unfold metW
    split
    · exact goW_pre1 kn fol l _ (s.met tg (decide (rest.length = 0)))
    · exact ⟨[], (List.append_nil _).symm⟩) steps s
/-- the wanted key made known -/
theorem goI_more {kn kn' : Ky → Option En} {K : Ky} {y : En} (h0 : kn K = none) (h1 : kn' K = some y) (h2 : ∀ k, k ≠ K → kn' k = kn k) (fol : Bool) (m m' : ByteArray → List ByteArray → Ws → Ou) (hp : ∀ tg rest s, ∃ t, (m' tg rest s).used = s.used ++ t) (hm : ∀ tg rest s, (m tg rest s).need = true → (m tg rest s).key = K → ∃ t, (m' tg rest s).used = (m tg rest s).used ++ K :: t) : ∀ (steps : List ByteArray) (s : Ws), (goI kn fol m steps s).need = true → (goI kn fol m steps s).key = K → ∃ t, (goI kn' fol m' steps s).used = (goI kn fol m steps s).used ++ K :: t
  | [], s, hn, _ => by
    rw [goI] at hn
    unfold Ws.fin at hn
    split at hn <;> cases hn
  | x :: rest, s, hn, hK => by
    rw [goI] at hn hK
    rw [goI, goI]
    by_cases c1 : s.inD = false
    · rw [if_pos c1] at hn; cases hn
    rw [if_neg c1] at hn hK
    rw [if_neg c1, if_neg c1]
    by_cases c2 : x = dot1
    · rw [if_pos c2] at hn hK
      rw [if_pos c2, if_pos c2]
      exact goI_more h0 h1 h2 fol m m' hp hm rest s hn hK
    rw [if_neg c2] at hn hK
    rw [if_neg c2, if_neg c2]
    by_cases c3 : x = dot2
    · rw [if_pos c3] at hn hK
      rw [if_pos c3, if_pos c3]
      exact goI_more h0 h1 h2 fol m m' hp hm rest s.up hn hK
    rw [if_neg c3] at hn hK
    rw [if_neg c3, if_neg c3]
    cases hk : kn ⟨s.here.id, x⟩ with
    | none =>
      rw [hk] at hn hK
      have hK : (⟨s.here.id, x⟩ : Ky) = K := hK
      rw [hK, h1]
      simp only
      have hu : (s.use K).used = s.used ++ [K] := rfl
      split
      · exact ⟨[], rfl⟩
      split
      · obtain ⟨t, h⟩ := hp y.tg rest (s.use K)
        exact ⟨t, by rw [h, hu, List.append_assoc]; rfl⟩
      · obtain ⟨t, h⟩ := goI_pre1 kn' fol m' hp rest ((s.use K).go y.nd)
        exact ⟨t, by rw [h]; show (s.used ++ [K]) ++ t = _; rw [List.append_assoc]; rfl⟩
    | some e =>
      rw [hk] at hn hK
      have hne : (⟨s.here.id, x⟩ : Ky) ≠ K := fun hc => by rw [hc, h0] at hk; cases hk
      rw [h2 _ hne, hk]
      simp only at hn hK ⊢
      by_cases c4 : e.neg = true
      · rw [if_pos c4] at hn; cases hn
      rw [if_neg c4] at hn hK
      rw [if_neg c4, if_neg c4]
      by_cases c5 : meetsB fol s e.nd rest = true
      · rw [if_pos c5] at hn hK
        rw [if_pos c5, if_pos c5]
        exact hm _ _ _ hn hK
      · rw [if_neg c5] at hn hK
        rw [if_neg c5, if_neg c5]
        exact goI_more h0 h1 h2 fol m m' hp hm rest _ hn hK
theorem goW_more {kn kn' : Ky → Option En} {K : Ky} {y : En} (h0 : kn K = none) (h1 : kn' K = some y) (h2 : ∀ k, k ≠ K → kn' k = kn k) (fol : Bool) : ∀ (l : Nat) (steps : List ByteArray) (s : Ws), (goW kn fol l steps s).need = true → (goW kn fol l steps s).key = K → ∃ t, (goW kn' fol l steps s).used = (goW kn fol l steps s).used ++ K :: t
  | 0, steps, s, hn, hK => goI_more h0 h1 h2 fol _ _ (fun _ _ _ => ⟨[], (List.append_nil _).symm⟩) (fun _ _ _ h _ => by cases h) steps s hn hK
  | l + 1, steps, s, hn, hK => goI_more h0 h1 h2 fol _ _ (fun tg rest s => by
    unfold metW
    split
    · exact goW_pre1 kn' fol l _ (s.met tg (decide (rest.length = 0)))
    · exact ⟨[], (List.append_nil _).symm⟩) (fun tg rest s h hK => by
    unfold metW at h hK ⊢
    split at h
    · rename_i hc
      rw [if_pos hc] at hK
      rw [if_pos hc, if_pos hc]
      exact goW_more h0 h1 h2 fol l _ _ h hK
    · cases h) steps s hn hK
theorem walkO_more {kn kn' : Ky → Option En} {y : En} (path : ByteArray) (fol : Bool) (links : Int) {O : Ou} (hO : walkO kn path fol links = O) (hn : O.need = true) (h0 : kn O.key = none) (h1 : kn' O.key = some y) (h2 : ∀ k, k ≠ O.key → kn' k = kn k) : ∃ t, (walkO kn' path fol links).used = O.used ++ O.key :: t := by
  subst hO
  unfold walkO at hn h0 h1 h2 ⊢
  split at hn
  · rename_i hE
    rw [if_pos hE] at h0 h1 h2
    rw [if_pos hE, if_pos hE]
    exact goW_more h0 h1 h2 fol _ _ _ hn rfl
  · cases hn
/-- a cache that knows what the tree said -/
structure Cw (es : List En) (C : Cs) : Prop where
  none : C.W = []
  now : ∀ e ∈ C.L, e = nowE es e.d e.nm ∧ Ino es e.d
theorem Cw.kn {es : List En} {C : Cs} (h : Cw es C) {k : Ky} {e : En} (hk : knC C k = some e) : e ∈ C.L ∧ e.d = k.d ∧ e.nm = k.nm := by
  unfold knC at hk
  cases hg : getL C.L k with
  | none => rw [hg, h.none] at hk; simp at hk
  | some x =>
    rw [hg] at hk
    injection hk with hk
    subst hk
    unfold getL at hg
    have h1 := hasK_iff.1 (List.find?_some hg)
    exact ⟨List.mem_of_find?_eq_some hg, h1.1, h1.2⟩
theorem Cw.sub {es : List En} {C : Cs} (h : Cw es C) : SubK es (knC C) := fun k e hk => by
  obtain ⟨h1, h2, h3⟩ := h.kn hk
  have := (h.now e h1).1
  rw [h2, h3] at this
  exact this
theorem Cw.ino {es : List En} {C : Cs} (h : Cw es C) : ∀ k e, knC C k = some e → Ino es k.d := fun k e hk => by
  obtain ⟨h1, h2, h3⟩ := h.kn hk
  rw [← h2]
  exact (h.now e h1).2
theorem nowE_kk {es : List En} {next : Int} (wf : WF Mn es next) (d : Int) (nm : ByteArray) : (nowE es d nm).d = d ∧ (nowE es d nm).nm = nm := by
  rcases nowE_cases wf d nm with ⟨e, -⟩ | ⟨e, -, h1, h2, e1, -⟩
  · rw [e]; exact ⟨rfl, rfl⟩
  · rw [e1]; exact ⟨h1, h2⟩
theorem Cw.put {es : List En} {C : Cs} (h : Cw es C) {e : En} (he : e = nowE es e.d e.nm) (hi : Ino es e.d) : Cw es (putS C e) := by
  unfold putS
  split
  · exact h
  · refine ⟨h.none, fun x hx => ?_⟩
    have hx : x ∈ (outL C.L e.key) ++ [e] := hx
    rcases List.mem_append.1 hx with hx | hx
    · unfold outL at hx; exact h.now x (List.mem_filter.1 hx).1
    · rw [List.mem_singleton.1 hx]; exact ⟨he, hi⟩
theorem knC_put_self {C : Cs} {e : En} (hn : e.nm ≠ nob) : knC (putS C e) e.key = some e := by
  unfold putS
  rw [if_neg hn]
  unfold knC
  have : getL (C.put e).L e.key = some e := by
    unfold Cs.put getL outL
    simp only
    rw [List.find?_append, List.find?_filter]
    have h0 : (C.L.find? fun a => decide ((!hasK e.key a) = true ∧ hasK e.key a = true)) = none := by
      rw [List.find?_eq_none]
      intro a _
      cases hasK e.key a <;> simp
    rw [h0]
    have : hasK e.key e = true := hasK_iff.2 ⟨rfl, rfl⟩
    simp [this]
  rw [this]
theorem knF_one_self (C : Cs) (e : En) : knF (firstsL [e]) C e.key = some e := by
  unfold knF
  have : fget (firstsL [e]) e.key = some e := by
    show fget [(e.key, e)] e.key = some e
    unfold fget
    simp [sameKy_self]
  rw [this]
end
end Go.Proofs.Ytppbbddlbfgpfaa
