/- What a walk comes to hangs on the keys that it used, and on the wanted one. -/
import Derived.Test.YtppbbddlbfgpfaaJWUps32
import Derived.Test.YtppbbddlbfgpfaaJWUps25
import Derived.Test.YtppbbddlbfgpfaaJWUps19
namespace Go.Proofs.Ytppbbddlbfgpfaa
section
/-- all that an outcome hangs on is known alike -/
def Alk (kn kn' : Ky → Option En) (o : Ou) : Prop := (∀ k ∈ o.used, kn' k = kn k) ∧ (o.need = true → kn' o.key = kn o.key)
theorem fin_used (s : Ws) : s.fin.used = s.used := by
  unfold Ws.fin
  split <;> rfl
theorem goI_used (kn : Ky → Option En) (fol : Bool) (m : ByteArray → List ByteArray → Ws → Ou) (hm : ∀ tg rest s, ∀ k ∈ s.used, k ∈ (m tg rest s).used) : ∀ (steps : List ByteArray) (s : Ws), ∀ k ∈ s.used, k ∈ (goI kn fol m steps s).used
  | [], s, k, hk => by rw [goI, fin_used]; exact hk
  | x :: rest, s, k, hk => by
    rw [goI]
    split
    · exact hk
    split
    · exact goI_used kn fol m hm rest s k hk
    split
    · exact goI_used kn fol m hm rest s.up k hk
    split
    · exact hk
    · have hk' : k ∈ (s.use ⟨s.here.id, x⟩).used := List.mem_append.2 (.inl hk)
      split
      · exact hk'
      split
      · exact hm _ _ _ k hk'
      · exact goI_used kn fol m hm rest _ k hk'
theorem goI_same (kn kn' : Ky → Option En) (fol : Bool) (m m' : ByteArray → List ByteArray → Ws → Ou) (hm : ∀ tg rest s, ∀ k ∈ s.used, k ∈ (m tg rest s).used) (hs : ∀ tg rest s, Alk kn kn' (m tg rest s) → m' tg rest s = m tg rest s) : ∀ (steps : List ByteArray) (s : Ws), Alk kn kn' (goI kn fol m steps s) → goI kn' fol m' steps s = goI kn fol m steps s
  | [], s, _ => by rw [goI, goI]
  | x :: rest, s, h => by
    rw [goI] at h ⊢
    rw [goI]
    by_cases h1 : s.inD = false
    · rw [if_pos h1, if_pos h1]
    rw [if_neg h1] at h ⊢
    rw [if_neg h1]
    by_cases h2 : x = dot1
    · rw [if_pos h2] at h ⊢
      rw [if_pos h2]
      exact goI_same kn kn' fol m m' hm hs rest s h
    rw [if_neg h2] at h ⊢
    rw [if_neg h2]
    by_cases h3 : x = dot2
    · rw [if_pos h3] at h ⊢
      rw [if_pos h3]
      exact goI_same kn kn' fol m m' hm hs rest s.up h
    rw [if_neg h3] at h ⊢
    rw [if_neg h3]
    cases hk : kn ⟨s.here.id, x⟩ with
    | none =>
      rw [hk] at h
      have hk' : kn' ⟨s.here.id, x⟩ = none := (h.2 rfl).trans hk
      rw [hk']
    | some e =>
      rw [hk] at h
      simp only at h ⊢
      have hin : ∀ o : Ou, (∀ k ∈ (s.use ⟨s.here.id, x⟩).used, k ∈ o.used) → Alk kn kn' o → kn' ⟨s.here.id, x⟩ = some e := fun o ho ha => (ha.1 _ (ho _ (List.mem_append.2 (.inr (List.mem_singleton.2 rfl))))).trans hk
      by_cases h4 : e.neg = true
      · rw [if_pos h4] at h ⊢
        rw [hin _ (fun k hk => hk) h]
        simp only
        rw [if_pos h4]
      rw [if_neg h4] at h ⊢
      by_cases h5 : meetsB fol s e.nd rest = true
      · rw [if_pos h5] at h ⊢
        rw [hin _ (hm _ _ _) h]
        simp only
        rw [if_neg h4, if_pos h5]
        exact hs _ _ _ h
      · rw [if_neg h5] at h ⊢
        rw [hin _ (goI_used kn fol m hm rest ((s.use ⟨s.here.id, x⟩).go e.nd)) h]
        simp only
        rw [if_neg h4, if_neg h5]
        exact goI_same kn kn' fol m m' hm hs rest _ h
theorem metW_used (g : List ByteArray → Ws → Ou) (hg : ∀ steps s, ∀ k ∈ s.used, k ∈ (g steps s).used) (tg : ByteArray) (rest : List ByteArray) (s : Ws) : ∀ k ∈ s.used, k ∈ (metW g tg rest s).used := by
  intro k hk
  unfold metW
  split
  · exact hg _ _ k hk
  · exact hk
theorem goW_used (kn : Ky → Option En) (fol : Bool) : ∀ (l : Nat) (steps : List ByteArray) (s : Ws), ∀ k ∈ s.used, k ∈ (goW kn fol l steps s).used
  | 0, steps, s => goI_used kn fol _ (fun _ _ _ _ hk => hk) steps s
  | l + 1, steps, s => goI_used kn fol _ (fun tg rest s => metW_used _ (goW_used kn fol l) tg rest s) steps s
theorem goW_same (kn kn' : Ky → Option En) (fol : Bool) : ∀ (l : Nat) (steps : List ByteArray) (s : Ws), Alk kn kn' (goW kn fol l steps s) → goW kn' fol l steps s = goW kn fol l steps s
  | 0, steps, s, h => goI_same kn kn' fol _ _ (fun _ _ _ _ hk => hk) (fun _ _ _ _ => rfl) steps s h
  | l + 1, steps, s, h => goI_same kn kn' fol _ _ (fun tg rest s => metW_used _ (goW_used kn fol l) tg rest s) (fun tg rest s h => by
    unfold metW at h ⊢
    split at h
    · rename_i hE
      rw [if_pos hE, if_pos hE]
      exact goW_same kn kn' fol l _ _ h
    · rename_i hE
      rw [if_neg hE, if_neg hE]) steps s h
/-- a walk over what is known alike -/
theorem walkO_same {kn kn' : Ky → Option En} {path : ByteArray} {fol : Bool} {links : Int} (h : Alk kn kn' (walkO kn path fol links)) : walkO kn' path fol links = walkO kn path fol links := by
  unfold walkO at h ⊢
  split at h
  · rename_i hE
    rw [if_pos hE, if_pos hE]
    exact goW_same kn kn' fol _ _ _ h
  · rename_i hE
    rw [if_neg hE, if_neg hE]
theorem knC_put {s : Cs} {e : En} {k : Ky} (hk : k ≠ e.key) : knC (putS s e) k = knC s k := by
  unfold putS
  split
  · rfl
  · have hg : getL (s.put e).L k = getL s.L k := by
      unfold Cs.put getL outL
      simp only
      have hne : hasK k e = false := hasK_no.2 fun hc => hk (by
        obtain ⟨k1, k2⟩ := k
        obtain ⟨h1, h2⟩ := hc
        simp only at h1 h2
        unfold En.key
        rw [h1, h2])
      rw [List.find?_append, List.find?_filter]
      have : (s.L.find? fun a => decide ((!hasK e.key a) = true ∧ hasK k a = true)) = s.L.find? (hasK k) := by
        congr 1
        funext a
        cases ha : hasK k a with
        | false => simp
        | true =>
          have h1 := hasK_iff.1 ha
          have h2 : hasK e.key a = false := hasK_no.2 fun hc => hk (by
            obtain ⟨k1, k2⟩ := k
            simp only at h1
            have e1 : a.d = e.d := hc.1
            have e2 : a.nm = e.nm := hc.2
            unfold En.key
            rw [← e1, ← e2, h1.1, h1.2])
          simp [h2]
      rw [this]
      cases s.L.find? (hasK k) with
      | some x => rfl
      | none => simp [hne]
    unfold knC
    rw [hg]
    rfl
theorem knF_one {s : Cs} {e : En} {k : Ky} (hk : k ≠ e.key) : knF (firstsL [e]) s k = knC s k := by
  have : fget (firstsL [e]) k = none := by
    show fget [(e.key, e)] k = none
    unfold fget
    have : sameKy k e.key = false := by
      cases hq : sameKy k e.key with
      | false => rfl
      | true => exact absurd ((sameKy_iff _ _).1 hq) hk
    simp [this]
  unfold knF
  rw [this]
end
section
open Go.RowKit

theorem meets_more (fol : Bool) (s : Ws) (n : Nd) {a b : List ByteArray} (h : 0 < a.length) (h' : 0 < b.length) : meetsB fol s n a = meetsB fol s n b := by
  unfold meetsB
  rw [decide_eq_true h, decide_eq_true h']
/-- a dot ahead of a component turns nothing -/
theorem goI_dot (kn : Ky → Option En) (fol : Bool) (m : ByteArray → List ByteArray → Ws → Ou) (B : List ByteArray) (hB : 0 < B.length) (hm : ∀ tg A s, m tg (A ++ dot1 :: B) s = m tg (A ++ B) s) : ∀ (A : List ByteArray) (s : Ws), goI kn fol m (A ++ dot1 :: B) s = goI kn fol m (A ++ B) s
  | [], s => by
    rw [List.nil_append, List.nil_append, goI]
    by_cases h1 : s.inD = false
    · rw [if_pos h1]
      cases B with
      | nil => simp at hB
      | cons b B => rw [goI, if_pos h1]
    · rw [if_neg h1, if_pos rfl]
  | a :: A, s => by
    rw [List.cons_append, List.cons_append, goI, goI]
    have hl1 : 0 < (A ++ dot1 :: B).length := by rw [List.length_append, List.length_cons]; omega
    have hl2 : 0 < (A ++ B).length := by rw [List.length_append]; omega
    rw [goI_dot kn fol m B hB hm A s, goI_dot kn fol m B hB hm A s.up]
    split
    · rfl
    split
    · rfl
    split
    · rfl
    split
    · rfl
    · rename_i e _
      rw [meets_more fol s e.nd hl1 hl2, hm, goI_dot kn fol m B hB hm A]
theorem metW_dot {g : List ByteArray → Ws → Ou} {B : List ByteArray} (hB : 0 < B.length) (hg : ∀ A s, g (A ++ dot1 :: B) s = g (A ++ B) s) (tg : ByteArray) (A : List ByteArray) (s : Ws) : metW g tg (A ++ dot1 :: B) s = metW g tg (A ++ B) s := by
  unfold metW
  rw [← List.append_assoc, ← List.append_assoc, hg]
  have h1 : decide ((A ++ dot1 :: B).length = 0) = false := by simp
  have h2 : decide ((A ++ B).length = 0) = false := by
    rw [decide_eq_false_iff_not, List.length_append]; omega
  rw [h1, h2]
theorem goW_dot (kn : Ky → Option En) (fol : Bool) {B : List ByteArray} (hB : 0 < B.length) : ∀ (l : Nat) (A : List ByteArray) (s : Ws), goW kn fol l (A ++ dot1 :: B) s = goW kn fol l (A ++ B) s
  | 0, A, s => goI_dot kn fol _ B hB (fun _ _ _ => rfl) A s
  | l + 1, A, s => goI_dot kn fol _ B hB (metW_dot hB (goW_dot kn fol hB l)) A s
theorem stepsO_dot (kn : Ky → Option En) (steps : List ByteArray) (k : Nat) (hk : k < steps.length) (dir fol : Bool) (links : Int) : stepsO kn (steps.take k ++ dot1 :: steps.drop k) dir fol links = stepsO kn steps dir fol links := by
  unfold stepsO
  rw [goW_dot kn fol (by rw [List.length_drop]; omega), List.take_append_drop]
theorem metL_s (kn : Ky → Option En) (fol : Bool) (l : Nat) (tg : ByteArray) (rest : List ByteArray) (s : Ws) : metL kn fol (l + 1) tg rest s = metW (goW kn fol l) tg rest s := rfl
/-- a walk that has come to a directory goes on from there -/
structure Came (s s' : Ws) : Prop where
  dir : s'.dir = true
  way : s.way ≠ [] → s'.way ≠ []
theorem goW_ext (kn : Ky → Option En) (fol : Bool) (P : Ws → Prop) (hup : ∀ s, P s → P s.up) (huse : ∀ s k, P s → P (s.use k)) (hgo : ∀ s x e, P s → kn ⟨s.here.id, x⟩ = some e → e.neg = false → P (s.go e.nd)) (hmet : ∀ s tg b, P s → P (s.met tg b)) : ∀ (l : Nat) (steps : List ByteArray) (s : Ws), s.dir = true → P s → (goW kn fol l steps s).need = false → (goW kn fol l steps s).err = 0 → ∃ l' s', l' ≤ l ∧ Came s s' ∧ P s' ∧ s'.inD = true ∧ goW kn fol l steps s = s'.fin ∧ ∀ ext, goW kn fol l (steps ++ ext) s = goW kn fol l' ext s' := by
  intro l
  induction l with
  | zero =>
    intro steps
    induction steps with
    | nil =>
      intro s hd hp hn he
      have hf : goW kn fol 0 [] s = s.fin := by rw [goW_eq, goI]
      have hin : s.inD = true := by
        rw [hf] at he
        cases hq : s.inD with
        | true => rfl
        | false => unfold Ws.fin at he; rw [hd, hq] at he; exact absurd (show (42 : Int) = 0 from he) (by decide)
      exact ⟨0, s, Nat.le_refl _, ⟨hd, id⟩, hp, hin, hf, fun ext => rfl⟩
    | cons x rest ih =>
      intro s hd hp hn he
      rw [goW_eq, goI] at hn he
      by_cases h1 : s.inD = false
      · rw [if_pos h1] at he; exact absurd he (show ¬ (42 : Int) = 0 by decide)
      rw [if_neg h1] at hn he
      by_cases h2 : x = dot1
      · rw [if_pos h2, ← goW_eq] at hn he
        obtain ⟨l', s', q1, q2, q3, q4, q5, q6⟩ := ih s hd hp hn he
        refine ⟨l', s', q1, q2, q3, q4, ?_, fun ext => ?_⟩
        · rw [goW_eq, goI, if_neg h1, if_pos h2, ← goW_eq]; exact q5
        · rw [List.cons_append, goW_eq, goI, if_neg h1, if_pos h2, ← goW_eq]; exact q6 ext
      rw [if_neg h2] at hn he
      by_cases h3 : x = dot2
      · rw [if_pos h3, ← goW_eq] at hn he
        obtain ⟨l', s', q1, q2, q3, q4, q5, q6⟩ := ih s.up hd (hup s hp) hn he
        refine ⟨l', s', q1, ⟨q2.dir, fun hw => q2.way ?_⟩, q3, q4, ?_, fun ext => ?_⟩
        · unfold Ws.up; simp only; split
          · rename_i hl; intro hc; rw [← List.length_eq_zero_iff, List.length_dropLast] at hc; omega
          · exact hw
        · rw [goW_eq, goI, if_neg h1, if_neg h2, if_pos h3, ← goW_eq]; exact q5
        · rw [List.cons_append, goW_eq, goI, if_neg h1, if_neg h2, if_pos h3, ← goW_eq]; exact q6 ext
      rw [if_neg h3] at hn he
      cases hk : kn ⟨s.here.id, x⟩ with
      | none => rw [hk] at hn; exact absurd hn (by simp)
      | some e =>
        rw [hk] at hn he
        simp only at hn he
        cases hneg : e.neg with
        | true => rw [if_pos hneg] at he; exact absurd he (show ¬ (40 : Int) = 0 by decide)
        | false =>
          rw [if_neg (by rw [hneg]; decide)] at hn he
          by_cases h5 : meetsB fol s e.nd rest = true
          · rw [if_pos h5] at he; exact absurd he (show ¬ (49 : Int) = 0 by decide)
          rw [if_neg h5, ← goW_eq] at hn he
          obtain ⟨l', s', q1, q2, q3, q4, q5, q6⟩ := ih ((s.use ⟨s.here.id, x⟩).go e.nd) hd (hgo _ x e (huse s _ hp) hk hneg) hn he
          refine ⟨l', s', q1, ⟨q2.dir, fun _ => q2.way (by unfold Ws.go; simp)⟩, q3, q4, ?_, fun ext => ?_⟩
          · rw [goW_eq, goI, if_neg h1, if_neg h2, if_neg h3, hk]
            simp only
            rw [if_neg (by rw [hneg]; decide), if_neg h5, ← goW_eq]; exact q5
          · have h6 : meetsB fol s e.nd (rest ++ ext) = meetsB fol s e.nd rest := by unfold meetsB; rw [hd]; simp
            rw [List.cons_append, goW_eq, goI, if_neg h1, if_neg h2, if_neg h3, hk]
            simp only
            rw [if_neg (by rw [hneg]; decide), h6, if_neg h5, ← goW_eq]; exact q6 ext
  | succ l ihl =>
    intro steps
    induction steps with
    | nil =>
      intro s hd hp hn he
      have hf : goW kn fol (l + 1) [] s = s.fin := by rw [goW_eq, goI]
      have hin : s.inD = true := by
        rw [hf] at he
        cases hq : s.inD with
        | true => rfl
        | false => unfold Ws.fin at he; rw [hd, hq] at he; exact absurd (show (42 : Int) = 0 from he) (by decide)
      exact ⟨l + 1, s, Nat.le_refl _, ⟨hd, id⟩, hp, hin, hf, fun ext => rfl⟩
    | cons x rest ih =>
      intro s hd hp hn he
      rw [goW_eq, goI] at hn he
      by_cases h1 : s.inD = false
      · rw [if_pos h1] at he; exact absurd he (show ¬ (42 : Int) = 0 by decide)
      rw [if_neg h1] at hn he
      by_cases h2 : x = dot1
      · rw [if_pos h2, ← goW_eq] at hn he
        obtain ⟨l', s', q1, q2, q3, q4, q5, q6⟩ := ih s hd hp hn he
        refine ⟨l', s', q1, q2, q3, q4, ?_, fun ext => ?_⟩
        · rw [goW_eq, goI, if_neg h1, if_pos h2, ← goW_eq]; exact q5
        · rw [List.cons_append, goW_eq, goI, if_neg h1, if_pos h2, ← goW_eq]; exact q6 ext
      rw [if_neg h2] at hn he
      by_cases h3 : x = dot2
      · rw [if_pos h3, ← goW_eq] at hn he
        obtain ⟨l', s', q1, q2, q3, q4, q5, q6⟩ := ih s.up hd (hup s hp) hn he
        refine ⟨l', s', q1, ⟨q2.dir, fun hw => q2.way ?_⟩, q3, q4, ?_, fun ext => ?_⟩
        · unfold Ws.up; simp only; split
          · rename_i hl; intro hc; rw [← List.length_eq_zero_iff, List.length_dropLast] at hc; omega
          · exact hw
        · rw [goW_eq, goI, if_neg h1, if_neg h2, if_pos h3, ← goW_eq]; exact q5
        · rw [List.cons_append, goW_eq, goI, if_neg h1, if_neg h2, if_pos h3, ← goW_eq]; exact q6 ext
      rw [if_neg h3] at hn he
      cases hk : kn ⟨s.here.id, x⟩ with
      | none => rw [hk] at hn; exact absurd hn (by simp)
      | some e =>
        rw [hk] at hn he
        simp only at hn he
        cases hneg : e.neg with
        | true => rw [if_pos hneg] at he; exact absurd he (show ¬ (40 : Int) = 0 by decide)
        | false =>
          rw [if_neg (by rw [hneg]; decide)] at hn he
          have h6 : ∀ ext, meetsB fol s e.nd (rest ++ ext) = meetsB fol s e.nd rest := fun ext => by unfold meetsB; rw [hd]; simp
          by_cases h5 : meetsB fol s e.nd rest = true
          · rw [if_pos h5] at hn he
            rw [metL_s] at hn he
            unfold metW at hn he
            by_cases hc : cutE e.tg (fullB e.tg) = 0
            · rw [if_pos hc] at hn he
              have hd2 : ∀ b, (s.use ⟨s.here.id, x⟩).met e.tg b = (s.use ⟨s.here.id, x⟩).met e.tg false := fun b => by
                cases b with
                | false => rfl
                | true =>
                  unfold Ws.met
                  have : (s.use ⟨s.here.id, x⟩).dir = true := hd
                  rw [this]; rfl
              rw [hd2] at hn he
              obtain ⟨l', s', q1, q2, q3, q4, q5, q6⟩ := ihl _ ((s.use ⟨s.here.id, x⟩).met e.tg false) hd (hmet _ _ _ (huse s _ hp)) hn he
              refine ⟨l', s', by omega, ⟨q2.dir, fun hw => q2.way ?_⟩, q3, q4, ?_, fun ext => ?_⟩
              · unfold Ws.met; simp only; split
                · simp
                · exact hw
              · rw [goW_eq, goI, if_neg h1, if_neg h2, if_neg h3, hk]
                simp only
                rw [if_neg (by rw [hneg]; decide), if_pos h5]
                rw [metL_s]
                unfold metW
                rw [if_pos hc, hd2]; exact q5
              · rw [List.cons_append, goW_eq, goI, if_neg h1, if_neg h2, if_neg h3, hk]
                simp only
                rw [if_neg (by rw [hneg]; decide), h6, if_pos h5]
                rw [metL_s]
                unfold metW
                rw [if_pos hc, hd2, ← List.append_assoc]; exact q6 ext
            · rw [if_neg hc] at he; exact absurd he hc
          rw [if_neg h5, ← goW_eq] at hn he
          obtain ⟨l', s', q1, q2, q3, q4, q5, q6⟩ := ih ((s.use ⟨s.here.id, x⟩).go e.nd) hd (hgo _ x e (huse s _ hp) hk hneg) hn he
          refine ⟨l', s', q1, ⟨q2.dir, fun _ => q2.way (by unfold Ws.go; simp)⟩, q3, q4, ?_, fun ext => ?_⟩
          · rw [goW_eq, goI, if_neg h1, if_neg h2, if_neg h3, hk]
            simp only
            rw [if_neg (by rw [hneg]; decide), if_neg h5, ← goW_eq]; exact q5
          · rw [List.cons_append, goW_eq, goI, if_neg h1, if_neg h2, if_neg h3, hk]
            simp only
            rw [if_neg (by rw [hneg]; decide), h6, if_neg h5, ← goW_eq]; exact q6 ext
/-- used keys go ahead of what is used -/
def Ws.pre (s : Ws) (u : List Ky) : Ws := ⟨s.way, u ++ s.used, s.dir⟩
def Ou.pre (o : Ou) (u : List Ky) : Ou := ⟨o.need, o.key, o.err, o.node, u ++ o.used⟩
theorem fin_pre (s : Ws) (u : List Ky) : (s.pre u).fin = s.fin.pre u := by
  unfold Ws.fin
  show (if s.dir && !s.inD then _ else _) = _
  split <;> rfl
theorem use_pre (s : Ws) (u : List Ky) (k : Ky) : (s.pre u).use k = (s.use k).pre u := by
  unfold Ws.use Ws.pre
  simp
theorem goI_pre (kn : Ky → Option En) (fol : Bool) (m : ByteArray → List ByteArray → Ws → Ou) (u : List Ky) (hm : ∀ tg rest s, m tg rest (Ws.pre s u) = (m tg rest s).pre u) : ∀ (steps : List ByteArray) (s : Ws), goI kn fol m steps (s.pre u) = (goI kn fol m steps s).pre u
  | [], s => by rw [goI, goI, fin_pre]
  | x :: rest, s => by
    rw [goI, goI, use_pre]
    have e1 : (s.pre u).inD = s.inD := rfl
    have e2 : (s.pre u).here = s.here := rfl
    have e3 : (s.pre u).up = s.up.pre u := rfl
    have e4 : ∀ e : En, ((s.use ⟨s.here.id, x⟩).pre u).go e.nd = ((s.use ⟨s.here.id, x⟩).go e.nd).pre u := fun _ => rfl
    have e5 : ∀ n, meetsB fol (s.pre u) n rest = meetsB fol s n rest := fun _ => rfl
    rw [e1, e2, e3, goI_pre kn fol m u hm rest s, goI_pre kn fol m u hm rest s.up]
    split
    · rfl
    split
    · rfl
    split
    · rfl
    split
    · rfl
    · rename_i e _
      rw [e5, hm, e4, goI_pre kn fol m u hm rest]
      split
      · rfl
      split <;> rfl
theorem goW_pre (kn : Ky → Option En) (fol : Bool) (u : List Ky) : ∀ (l : Nat) (steps : List ByteArray) (s : Ws), goW kn fol l steps (s.pre u) = (goW kn fol l steps s).pre u
  | 0, steps, s => goI_pre kn fol _ u (fun _ _ _ => rfl) steps s
  | l + 1, steps, s => goI_pre kn fol _ u (fun tg rest s => by
    unfold metW
    have : (s.pre u).met tg (decide (rest.length = 0)) = (s.met tg (decide (rest.length = 0))).pre u := rfl
    rw [this, goW_pre kn fol u l]
    split <;> rfl) steps s
/-- a link at the root: what its target's components lead to, with one link less -/
theorem goW_splice {kn : Ky → Option En} {e : En} (hk : kn ⟨1, e.nm⟩ = some e) (hn : e.neg = false) (h3 : e.kind = 3) (hc : cutE e.tg (fullB e.tg) = 0) (h1 : e.nm ≠ dot1) (h2 : e.nm ≠ dot2) {rest : List ByteArray} (hr : 0 < rest.length) (l : Nat) :
    goW kn true (l + 1) (e.nm :: rest) (startW false) = (goW kn true l (cutL e.tg (fullB e.tg) ++ rest) (startW false)).pre [⟨1, e.nm⟩] := by
  rw [goW_eq, goI]
  have e1 : ¬ (startW false).inD = false := by decide
  have e2 : (startW false).here.id = 1 := rfl
  rw [if_neg e1, if_neg h1, if_neg h2, e2, hk]
  simp only
  have e3 : meetsB true (startW false) e.nd rest = true := by
    unfold meetsB
    rw [decide_eq_true hr]
    show (decide (e.kind = 3) && _) = true
    rw [decide_eq_true h3]; rfl
  rw [if_neg (by rw [hn]; decide), if_pos e3]
  rw [metL_s]
  unfold metW
  rw [if_pos hc, ← goW_pre]
  have e4 : decide (rest.length = 0) = false := by rw [decide_eq_false_iff_not]; omega
  rw [e4]
  congr 1
  unfold Ws.met Ws.use Ws.pre startW
  simp
end
section
open Go.RowKit
attribute [local go_sem high] eqK' neqK' eqE neqE eqN neqN guardK guardE guardN

def exS : Tr := ⟨.slice none 0 0, [], 0, 2⟩
def exO : Opn := ⟨6, 1, ⟨#[97]⟩, 0, ⟨#[]⟩, 7, ⟨#[]⟩⟩
def exE : En := ⟨1, ⟨#[97]⟩, false, 2, 1, 7, ⟨#[]⟩⟩
/-- a name of one letter -/
theorem chk_one (b : UInt8) (h0 : b ≠ 0) (h1 : b ≠ 46) (h2 : b ≠ 47) : chkE ⟨#[b]⟩ = 0 := by
  have e1 : (⟨#[b]⟩ : ByteArray).size = 1 := rfl
  have e2 : (⟨#[b]⟩ : ByteArray).toList = [b] := by rw [ByteArray.toList_eq]
  have hb : ∀ c : UInt8, b ≠ c → b.toNat ≠ c.toNat := fun c hc h => hc (UInt8.toNat_inj.1 h)
  have h3 : ∀ c : Nat, b.toNat ≠ c → hasB ⟨#[b]⟩ c = false := by
    intro c hc
    unfold hasB
    rw [e1]
    have : bt ⟨#[b]⟩ 0 = b.toNat := rfl
    simp [hasF, this, hc]
  unfold chkE dotsB
  rw [e1, e2, h3 0 (hb 0 h0), h3 47 (hb 47 h2)]
  simp [h1]
theorem ex_chk : chkE ⟨#[97]⟩ = 0 := chk_one 97 (by decide) (by decide) (by decide)
theorem ex_dir (es : List En) : dirE es 1 = 0 := rfl
theorem named_one (es : List En) (nm : ByteArray) (h : chkE nm = 0) : namedE Mn es 1 nm = 0 := by unfold namedE; rw [ex_dir, if_pos rfl]; exact h
theorem ex_does : doesE Mn exS exO = 0 := by
  unfold doesE
  rw [show namedE Mn exS.es exO.dir exO.nm = 0 from named_one _ _ ex_chk]
  rfl
theorem ex_list : srt (doesL exS exO) = [exE] := rfl
theorem ex_tell : tellL exS exO = [exE] := rfl
theorem ex_keys : keysL exO = [⟨1, ⟨#[97]⟩⟩] := rfl
theorem ex_look : namedE Mn [exE] 1 ⟨#[97]⟩ = 0 := named_one _ _ ex_chk
theorem ex_now : nowE [exE] 1 ⟨#[97]⟩ = exE := by rfl
/-- what the example's mutation leaves -/
theorem ex_step {t : Nat} {w w' : World} {e : Ending} (h : AppR Mn t exS exO w w' e) : ∃ g c g' c' s', e = .returned (.tuple #[.slice (some ⟨g, 0, none⟩) 1 c, .slice (some ⟨g', 0, none⟩) 1 c', .int .i64 0]) ∧ PS w w' t exS s' ∧ s'.es = [exE] ∧ s'.vers = 1 ∧ Cells7 w' g 0 exE ∧ w'.cell? ⟨g', 0, none⟩ = some (.int .i64 1) ∧ w'.cell? ⟨g', 1, none⟩ = some (.string ⟨#[97]⟩) := by
  obtain ⟨v, k, s', he, hps, hst, hr, hk, _⟩ := h
  unfold toldE at hr
  unfold toldK at hk
  rw [ex_does] at he
  rw [ex_does, if_pos rfl, ex_tell] at hr
  rw [ex_does, if_pos rfl, ex_keys] at hk
  have h1 := hst.es
  have h2 := hst.vers
  rw [ex_does, if_pos rfl] at h1 h2
  obtain ⟨a, c, rfl⟩ := owns_len hr
  obtain ⟨g, rfl, _, _, _, hc, _⟩ := owns_entry hr (i := 0) (e := exE) rfl
  obtain ⟨a', c', rfl⟩ := owns_len hk
  obtain ⟨g', rfl, _, _, k0, k1, _⟩ := RowK.key hk (i := 0) (p := ⟨1, ⟨#[97]⟩⟩) rfl
  exact ⟨g, c, g', c', s', he, hps, h1, h2, hc, k0, k1⟩
theorem look_ex {t : Nat} {s : Tr} (h : s.es = [exE]) (w : World) (hw : IsP w t s) : Calls Try.prog 11 #[.pointer (some ⟨t, 0, none⟩), .int .i64 1, .string ⟨#[97]⟩] w fun e w' => e = .returned (.tuple #[.agg #[.int .i64 1, .string ⟨#[97]⟩, .bool false, .int .i64 2, .int .i64 1, .int .i64 7, .string ⟨#[]⟩], .int .i64 0]) ∧ Below w.heap.size w w' := by
  have := Look_p Mn nmsP t s 1 ⟨#[97]⟩ w hw
  rw [lookV_form, h, ex_look, if_pos rfl, ex_now] at this
  exact this
theorem ps_below {w w1 w' : World} {t : Nat} {s s' : Tr} (h : PS w1 w' t s s') (hb : Below w.heap.size w w1) (ht : w.heap.size ≤ t) (hs : ∀ q, s.v.ownBlock = some q → w.heap.size ≤ q) : Below w.heap.size w w' ∧ ∀ q, s'.v.ownBlock = some q → w.heap.size ≤ q :=
  ⟨h.only.below hb hb.size (fun k hk => hk.elim (fun e => e ▸ ht) (hs k)), fun q hq => by
    rcases h.v with e | e
    · exact hs q (by rw [← e]; exact hq)
    · exact Nat.le_trans hb.size (e q hq)⟩
end
end Go.Proofs.Ytppbbddlbfgpfaa
