/- What a walk comes to hangs on the keys that it used, and on the wanted one. -/
import Derived.Test.YtafefnmkhmjecaaJWOwn19
import Derived.Test.YtafefnmkhmjecaaJWOwn02
import Derived.Test.YtafefnmkhmjecaaJWOwn18
namespace Go.Proofs.Ytafefnmkhmjecaa
section
/-- all that an outcome hangs on is known alike -/
def Alk (kn kn' : Ky → Option En) (o : Ou) : Prop := (∀ k ∈ o.used, kn' k = kn k) ∧ (o.need = true → kn' o.key = kn o.key)
theorem fin_used (s : Ws) : s.fin.used = s.used := by
  unfold Ws.fin
  split <;> rfl
theorem goI_used (kn : Ky → Option En) (fol : Bool) (m : ByteArray → List ByteArray → Ws → Ou) (hm : ∀ tg rest s, ∀ k ∈ s.used, k ∈ (m tg rest s).used) : ∀ (steps : List ByteArray) (s : Ws), ∀ k ∈ s.used, k ∈ (goI kn fol m steps s).used
  | [], s, k, hk => by rw [goI, fin_used]; exact hk
  | x :: rest, s, k, hk => by
    rw [goI]
    split
    · exact hk
    split
    · exact goI_used kn fol m hm rest s k hk
    split
    · exact goI_used kn fol m hm rest s.up k hk
    split
    · exact hk
    · have hk' : k ∈ (s.use ⟨s.here.id, x⟩).used := List.mem_append.2 (.inl hk)
      split
      · exact hk'
      split
      · exact hm _ _ _ k hk'
      · exact goI_used kn fol m hm rest _ k hk'
theorem goI_same (kn kn' : Ky → Option En) (fol : Bool) (m m' : ByteArray → List ByteArray → Ws → Ou) (hm : ∀ tg rest s, ∀ k ∈ s.used, k ∈ (m tg rest s).used) (hs : ∀ tg rest s, Alk kn kn' (m tg rest s) → m' tg rest s = m tg rest s) : ∀ (steps : List ByteArray) (s : Ws), Alk kn kn' (goI kn fol m steps s) → goI kn' fol m' steps s = goI kn fol m steps s
  | [], s, _ => by rw [goI, goI]
  | x :: rest, s, h => by
    rw [goI] at h ⊢
    rw [goI]
    by_cases h1 : s.inD = false
    · rw [if_pos h1, if_pos h1]
    rw [if_neg h1] at h ⊢
    rw [if_neg h1]
    by_cases h2 : x = dot1
    · rw [if_pos h2] at h ⊢
      rw [if_pos h2]
      exact goI_same kn kn' fol m m' hm hs rest s h
    rw [if_neg h2] at h ⊢
    rw [if_neg h2]
    by_cases h3 : x = dot2
    · rw [if_pos h3] at h ⊢
      rw [if_pos h3]
      exact goI_same kn kn' fol m m' hm hs rest s.up h
    rw [if_neg h3] at h ⊢
    rw [if_neg h3]
    cases hk : kn ⟨s.here.id, x⟩ with
    | none =>
      rw [hk] at h
      have hk' : kn' ⟨s.here.id, x⟩ = none := (h.2 rfl).trans hk
      rw [hk']
    | some e =>
      rw [hk] at h
      simp only at h ⊢
      have hin : ∀ o : Ou, (∀ k ∈ (s.use ⟨s.here.id, x⟩).used, k ∈ o.used) → Alk kn kn' o → kn' ⟨s.here.id, x⟩ = some e := fun o ho ha => (ha.1 _ (ho _ (List.mem_append.2 (.inr (List.mem_singleton.2 rfl))))).trans hk
      by_cases h4 : e.neg = true
      · rw [if_pos h4] at h ⊢
        rw [hin _ (fun k hk => hk) h]
        simp only
        rw [if_pos h4]
      rw [if_neg h4] at h ⊢
      by_cases h5 : meetsB fol s e.nd rest = true
      · rw [if_pos h5] at h ⊢
        rw [hin _ (hm _ _ _) h]
        simp only
        rw [if_neg h4, if_pos h5]
        exact hs _ _ _ h
      · rw [if_neg h5] at h ⊢
        rw [hin _ (goI_used kn fol m hm rest ((s.use ⟨s.here.id, x⟩).go e.nd)) h]
        simp only
        rw [if_neg h4, if_neg h5]
        exact goI_same kn kn' fol m m' hm hs rest _ h
theorem metW_used (g : List ByteArray → Ws → Ou) (hg : ∀ steps s, ∀ k ∈ s.used, k ∈ (g steps s).used) (tg : ByteArray) (rest : List ByteArray) (s : Ws) : ∀ k ∈ s.used, k ∈ (metW g tg rest s).used := by
  intro k hk
  unfold metW
  split
  · exact hg _ _ k hk
  · exact hk
theorem goW_used (kn : Ky → Option En) (fol : Bool) : ∀ (l : Nat) (steps : List ByteArray) (s : Ws), ∀ k ∈ s.used, k ∈ (goW kn fol l steps s).used
  | 0, steps, s => goI_used kn fol _ (fun _ _ _ _ hk => hk) steps s
  | l + 1, steps, s => goI_used kn fol _ (fun tg rest s => metW_used _ (goW_used kn fol l) tg rest s) steps s
theorem goW_same (kn kn' : Ky → Option En) (fol : Bool) : ∀ (l : Nat) (steps : List ByteArray) (s : Ws), Alk kn kn' (goW kn fol l steps s) → goW kn' fol l steps s = goW kn fol l steps s
  | 0, steps, s, h => goI_same kn kn' fol _ _ (fun _ _ _ _ hk => hk) (fun _ _ _ _ => rfl) steps s h
  | l + 1, steps, s, h => goI_same kn kn' fol _ _ (fun tg rest s => metW_used _ (goW_used kn fol l) tg rest s) (fun tg rest s h => by
    unfold metW at h ⊢
    split at h
    · rename_i hE
      rw [if_pos hE, if_pos hE]
      exact goW_same kn kn' fol l _ _ h
    · rename_i hE
      rw [if_neg hE, if_neg hE]) steps s h
/-- a walk over what is known alike -/
theorem walkO_same {kn kn' : Ky → Option En} {path : ByteArray} {fol : Bool} {links : Int} (h : Alk kn kn' (walkO kn path fol links)) : walkO kn' path fol links = walkO kn path fol links := by
  unfold walkO at h ⊢
  split at h
  · rename_i hE
    rw [if_pos hE, if_pos hE]
    exact goW_same kn kn' fol _ _ _ h
  · rename_i hE
    rw [if_neg hE, if_neg hE]
theorem knC_put {s : Cs} {e : En} {k : Ky} (hk : k ≠ e.key) : knC (putS s e) k = knC s k := by
  unfold putS
  split
  · rfl
  · have hg : getL (s.put e).L k = getL s.L k := by
      unfold Cs.put getL outL
      simp only
      have hne : hasK k e = false := hasK_no.2 fun hc => hk (by
        obtain ⟨k1, k2⟩ := k
        obtain ⟨h1, h2⟩ := hc
        simp only at h1 h2
        unfold En.key
        rw [h1, h2])
      rw [List.find?_append, List.find?_filter]
      have : (s.L.find? fun a => decide ((!hasK e.key a) = true ∧ hasK k a = true)) = s.L.find? (hasK k) := by
        congr 1
        funext a
        cases ha : hasK k a with
        | false => simp
        | true =>
          have h1 := hasK_iff.1 ha
          have h2 : hasK e.key a = false := hasK_no.2 fun hc => hk (by
            obtain ⟨k1, k2⟩ := k
            simp only at h1
            have e1 : a.d = e.d := hc.1
            have e2 : a.nm = e.nm := hc.2
            unfold En.key
            rw [← e1, ← e2, h1.1, h1.2])
          simp [h2]
      rw [this]
      cases s.L.find? (hasK k) with
      | some x => rfl
      | none => simp [hne]
    unfold knC
    rw [hg]
    rfl
theorem knF_one {s : Cs} {e : En} {k : Ky} (hk : k ≠ e.key) : knF (firstsL [e]) s k = knC s k := by
  have : fget (firstsL [e]) k = none := by
    show fget [(e.key, e)] k = none
    unfold fget
    have : sameKy k e.key = false := by
      cases hq : sameKy k e.key with
      | false => rfl
      | true => exact absurd ((sameKy_iff _ _).1 hq) hk
    simp [this]
  unfold knF
  rw [this]
end
section
open Go.RowKit
attribute [local go_sem high] eqK neqK eqE neqE eqN neqN guardK guardE guardN

/-- are two lists the same -/
def sameKs : List Ky → List Ky → Bool
  | [], [] => true
  | a :: l, b :: m => (decide (a.d = b.d) && decide (a.nm = b.nm)) && sameKs l m
  | _, _ => false
theorem sameKs_iff : ∀ (l m : List Ky), sameKs l m = true ↔ l = m
  | [], [] => by simp [sameKs]
  | [], b :: m => by simp [sameKs]
  | a :: l, [] => by simp [sameKs]
  | a :: l, b :: m => by
    rw [sameKs, Bool.and_eq_true, sameKs_iff l m]
    obtain ⟨a1, a2⟩ := a
    obtain ⟨b1, b2⟩ := b
    simp
theorem sameKs_no {l m : List Ky} (h : ¬ l = m) : sameKs l m = false := by
  cases k : sameKs l m with
  | false => rfl
  | true => exact absurd ((sameKs_iff l m).1 k) h
set_option maxHeartbeats 4000000 in
theorem sameK_any (v v' : Value) (l l' : List Ky) (base base' : Nat) (w : World) (h : RowK w base v l) (h' : RowK w base' v' l') (hl : l.length ≤ 1000000000) (hl' : l'.length ≤ 1000000000) :
    Calls Try.prog 25 #[v, v'] w fun e w' => e = .returned (.bool (sameKs l l')) ∧ Below w.heap.size w w' := by
  obtain ⟨a, cap, rfl⟩ := owns_len h
  obtain ⟨a', cap', rfl⟩ := owns_len h'
  by_cases hn : l.length = l'.length
  · obtain ⟨n, hn1⟩ : ∃ n, l.length = n := ⟨_, rfl⟩
    have hn2 : l'.length = n := by omega
    rw [hn1] at hl
    have HC : Hid (RowK w base (.slice a n cap) l ∧ RowK w base' (.slice a' n cap') l' ∧ l.length = n ∧ l'.length = n) := ⟨by rw [← hn1]; exact h, by rw [← hn2]; exact h', hn1, hn2⟩
    rw [hn1, hn2]
    clear h h' hn hn1 hn2 hl'
    go_enter Try.func25, Try.ntmps25
    go_wp2
    go_loopw [5] (fun i wr => ∃ k : Nat, k ≤ n ∧ i = .int .i64 k ∧ l.take k = l'.take k ∧ Below w.heap.size w wr) (fun i _ => n - (intOf i).toNat)
    case atStart => exact ⟨0, Nat.zero_le _, rfl, rfl, Below.refl _ _⟩
    case round =>
      obtain ⟨k, hk, rfl, ht, hb⟩ := hrel
      by_cases hlt : k < n
      · obtain ⟨e, he⟩ : ∃ x, l[k]? = some x := ⟨_, List.getElem?_eq_getElem (by rw [HC.out.2.2.1]; exact hlt)⟩
        obtain ⟨f, hf⟩ : ∃ x, l'[k]? = some x := ⟨_, List.getElem?_eq_getElem (by rw [HC.out.2.2.2]; exact hlt)⟩
        obtain ⟨g, rfl, -, -, x0, x1, -⟩ := (HC.out.1.below hb).key he
        obtain ⟨g', rfl, -, -, y0, y1, -⟩ := (HC.out.2.1.below hb).key hf
        have hki : (k : Int) < (n : Int) := by omega
        by_cases hxx : e = f
        · have HT : Hid (l.take (k + 1) = l'.take (k + 1)) := take_snocK ht he (hxx ▸ hf)
          subst hxx
          clear he hf ht
          go_upto_region 6 with fail
          go_quiet (fail)
          go_wp2
          exact ⟨⟨k + 1, by omega, by simp, HT.out, below_drewN hb _⟩, by simp [intOf]; omega⟩
        · have HE : Hid (sameKs l l' = false) := sameKs_no (by rintro rfl; rw [he] at hf; exact hxx (Option.some.inj hf))
          have hne : decide (e.d = f.d ∧ e.nm = f.nm) = false := decide_eq_false (fun h => hxx (by cases e; cases f; simp only at h; rw [h.1, h.2]))
          clear he hf ht hxx
          go_upto_region 6 with fail
          go_quiet (fail)
          go_wp2
          go_ret
          exact ⟨by rw [HE.out]; rfl, below_drewN hb _⟩
      · have hkl : k = n := by omega
        subst hkl
        have HE : Hid (sameKs l l' = true) := (sameKs_iff l l').2 (take_eqK ht HC.out.2.2.1.symm HC.out.2.2.2.symm)
        clear ht
        go_wp2
        go_ret
        exact ⟨by rw [HE.out]; rfl, hb⟩
  · have HE : Hid (sameKs l l' = false) := sameKs_no (by rintro rfl; exact hn rfl)
    have hne : ((l.length : Int) != (l'.length : Int)) = true := by simp; omega
    clear h h'
    go_enter Try.func25, Try.ntmps25
    go_wp2
    go_ret
    exact ⟨by rw [HE.out]; rfl, Below.refl _ _⟩
end
section
open Go.RowKit
attribute [local go_sem high] eqK neqK guardK eqN neqN guardN

theorem goI_len (kn : Ky → Option En) (fol : Bool) (m : ByteArray → List ByteArray → Ws → Ou) (q : Nat) (hm : ∀ tg rest s, (m tg rest s).used.length ≤ s.used.length + rest.length + q) : ∀ (steps : List ByteArray) (s : Ws), (goI kn fol m steps s).used.length ≤ s.used.length + steps.length + q
  | [], s => by rw [goI, fin_used]; omega
  | x :: rest, s => by
    have hu : (s.use ⟨s.here.id, x⟩).used.length = s.used.length + 1 := by
      show (s.used ++ [_]).length = _
      rw [List.length_append]; rfl
    rw [goI, List.length_cons]
    split
    · show s.used.length ≤ _; omega
    split
    · have := goI_len kn fol m q hm rest s; omega
    split
    · have := goI_len kn fol m q hm rest s.up
      have e : s.up.used = s.used := rfl
      rw [e] at this; omega
    split
    · show s.used.length ≤ _; omega
    · split
      · show (s.use ⟨s.here.id, x⟩).used.length ≤ _; omega
      split
      · rename_i e _ _ _
        have := hm e.tg rest (s.use ⟨s.here.id, x⟩); omega
      · rename_i e _ _ _
        have := goI_len kn fol m q hm rest ((s.use ⟨s.here.id, x⟩).go e.nd)
        have e' : ((s.use ⟨s.here.id, x⟩).go e.nd).used = (s.use ⟨s.here.id, x⟩).used := rfl
        rw [e'] at this; omega
theorem goW_len (kn : Ky → Option En) (fol : Bool) : ∀ (l : Nat) (steps : List ByteArray) (s : Ws), (goW kn fol l steps s).used.length ≤ s.used.length + steps.length + 97 * l
  | 0, steps, s => goI_len kn fol _ 0 (fun _ _ s => by show s.used.length ≤ _; omega) steps s
  | l + 1, steps, s => by
    have := goI_len kn fol (metW (goW kn fol l)) (97 * (l + 1)) (fun tg rest s => by
      unfold metW
      split
      · have h := goW_len kn fol l (cutL tg (fullB tg) ++ rest) (s.met tg (decide (rest.length = 0)))
        have hc := cutL_len tg (fullB tg)
        have e : (s.met tg (decide (rest.length = 0))).used = s.used := rfl
        rw [e, List.length_append] at h
        omega
      · show s.used.length ≤ _; omega) steps s
    exact this
theorem walkO_len (kn : Ky → Option En) (path : ByteArray) (fol : Bool) (links : Int) : (walkO kn path fol links).used.length ≤ 1000 := by
  unfold walkO
  split
  · unfold stepsO
    have := goW_len kn fol (linksN links) (cutL path (rootB path)) (startW (cutD path (rootB path)))
    have hc := cutL_len path (rootB path)
    have hl := linksN_le links
    have e : (startW (cutD path (rootB path))).used.length = 0 := rfl
    omega
  · simp
theorem ouNode' {w : World} {g : Nat} {o : Ou} {uv : Value} (h : w.heap[g]? = some (.cells (ouVals o uv).toArray 34 (0, 0))) : w.cell? ⟨g, 5, none⟩ = some (.int .i64 o.node.kind) ∧ w.cell? ⟨g, 6, none⟩ = some (.int .i64 o.node.mode) ∧ w.cell? ⟨g, 7, none⟩ = some (.string o.node.tg) :=
  ⟨by rw [cell_of h]; rfl, by rw [cell_of h]; rfl, by rw [cell_of h]; rfl⟩
set_option maxRecDepth 100000 in
set_option maxHeartbeats 8000000 in
theorem sameOut_yes (o : Ou) (v v' : Value) (base base' : Nat) (w : World) (h : RowK w base v o.used) (h' : RowK w base' v' o.used) (hl : o.used.length ≤ 1000) :
    Calls Try.prog 15 #[ouAgg o v, ouAgg o v'] w fun r w' => r = .returned (.bool true) ∧ Below w.heap.size w w' := by
  obtain ⟨W1, hW1⟩ : ∃ W, w.alloc (.cells (ouVals o v).toArray 34) = W := ⟨_, rfl⟩
  have b1 := boxO hW1
  obtain ⟨W2, hW2⟩ : ∃ W, W1.alloc (.cells (ouVals o v').toArray 34) = W := ⟨_, rfl⟩
  have b2 := boxO hW2
  have hb := chainB b1.2.1 b2.2.1
  obtain ⟨x0, x1, x2, x3, x4, x8⟩ := ouCells (hkeep b1.1 b2.2.1)
  obtain ⟨y0, y1, y2, y3, y4, y8⟩ := ouCells b2.1
  have x5 := ouNode' (hkeep b1.1 b2.2.1)
  have y5 := ouNode' b2.1
  obtain ⟨x5, x6, x7⟩ := x5
  obtain ⟨y5, y6, y7⟩ := y5
  have HS : Hid (Calls Try.prog 25 #[v, v'] W2 fun e w' => e = .returned (.bool true) ∧ Below W2.heap.size W2 w') := by
    have := sameK_any v v' o.used o.used base base' W2 (h.below hb) (h'.below hb) (by omega) (by omega)
    rw [(sameKs_iff _ _).2 rfl] at this
    exact this
  have HB : Hid (Below w.heap.size w W2) := hb
  have e1 : w.heap.size + 1 = W1.heap.size := b1.2.2.symm
  rw [show ouAgg o v = .agg (ouVals o v).toArray from rfl, show ouAgg o v' = .agg (ouVals o v').toArray from rfl]
  clear h h' b1 b2 hb
  go_enter Try.func15, Try.ntmps15
  go_wp2_with (go_at_call 25; refine HS.out.mono ?_; rintro r w3 ⟨rfl, hb⟩; have HZ : Hid (Below w.heap.size w w3) := chainB HB.out hb; clear hb)
  go_ret
  exact ⟨rfl, HZ.out⟩
end
section

end
end Go.Proofs.Ytafefnmkhmjecaa
