/- A tree that is filled, plainly. -/
import Derived.Test.YtjkgafbknjpjbabTqF
namespace Go.Proofs.Ytjkgafbknjpjbab
open Go.RowKit

/-- the names that the law gives: two letters -/
def nmB (i : Nat) : ByteArray := ⟨#[UInt8.ofNat (97 + i % 26), UInt8.ofNat (97 + i / 26)]⟩
def abcB : ByteArray := ⟨#[97, 98, 99, 100, 101, 102, 103, 104, 105, 106, 107, 108, 109, 110, 111, 112, 113, 114, 115, 116, 117, 118, 119, 120, 121, 122]⟩
set_option maxRecDepth 20000 in
theorem abc_nm : ∀ r : Nat, r < 26 → ∀ d : Nat, d < 2 → (abcB.extract r (r + 1) ++ abcB.extract d (d + 1)).data.toList = [UInt8.ofNat (97 + r), UInt8.ofNat (97 + d)] := by decide
theorem abc_nmB (k : Nat) (h : k < 47) : abcB.extract (k % 26) (k % 26 + 1) ++ abcB.extract (k / 26) (k / 26 + 1) = nmB k := by
  have := abc_nm (k % 26) (Nat.mod_lt _ (by omega)) (k / 26) (by omega)
  rw [← ByteArray.toList_eq] at this
  rw [← bytes_eq, this]
  unfold nmB
  rw [ByteArray.toList_eq]
def nmMore : ByteArray := ⟨#[109, 111, 114, 101]⟩
def nmZz : ByteArray := ⟨#[122, 122]⟩
def tgA : ByteArray := ⟨#[97]⟩
def chkL (l : List UInt8) : Bool := decide (l.length ≤ 12) && !l.isEmpty && (l != [46]) && (l != [46, 46]) && !l.any (fun b => b == 0 || b == 47)
theorem chk_list (l : List UInt8) (h : chkL l = true) : chkE ⟨l.toArray⟩ = 0 := by
  unfold chkL at h
  simp only [Bool.and_eq_true, decide_eq_true_eq, Bool.not_eq_true', bne_iff_ne, ne_eq] at h
  obtain ⟨⟨⟨⟨h1, h2⟩, h3⟩, h4⟩, h5⟩ := h
  have e1 : (⟨l.toArray⟩ : ByteArray).size = l.length := rfl
  have e2 : (⟨l.toArray⟩ : ByteArray).toList = l := by rw [ByteArray.toList_eq]
  have hb : ∀ c : UInt8, (c = 0 ∨ c = 47) → hasB ⟨l.toArray⟩ c.toNat = false := by
    intro c hc
    rw [← Bool.not_eq_true]
    intro hh
    obtain ⟨i, hi, hbt⟩ := (hasF_iff _ _ _).1 hh
    rw [bt_at _ _ hi] at hbt
    have hm : l[i]'hi ∈ l := List.getElem_mem _
    have hq : l[i]'hi = c := UInt8.toNat_inj.1 hbt
    have := List.any_eq_false.1 h5 _ hm
    rw [hq] at this
    rcases hc with rfl | rfl <;> simp at this
  have hne : l.length ≠ 0 := by intro h; rw [List.length_eq_zero_iff.1 h] at h2; cases h2
  unfold chkE dotsB
  rw [e1, e2, show hasB ⟨l.toArray⟩ 0 = false from hb 0 (.inl rfl), show hasB ⟨l.toArray⟩ 47 = false from hb 47 (.inr rfl), if_neg (by omega), if_neg]
  simp [h3, h4, hne]
theorem nmB_chkL : ∀ i : Nat, i < 47 → chkL [UInt8.ofNat (97 + i % 26), UInt8.ofNat (97 + i / 26)] = true := by decide
theorem nmB_chk {i : Nat} (h : i < 47) : chkE (nmB i) = 0 := chk_list _ (nmB_chkL i h)
theorem nmB_inj : ∀ i : Nat, i < 47 → ∀ j : Nat, j < 47 → [UInt8.ofNat (97 + i % 26), UInt8.ofNat (97 + i / 26)] = [UInt8.ofNat (97 + j % 26), UInt8.ofNat (97 + j / 26)] → i = j := by decide
theorem nmB_one {i j : Nat} (hi : i < 47) (hj : j < 47) (h : nmB i = nmB j) : i = j := by
  refine nmB_inj i hi j hj ?_
  have := congrArg ByteArray.toList h
  unfold nmB at this
  rw [ByteArray.toList_eq, ByteArray.toList_eq] at this
  exact this
theorem more_chk : chkE nmMore = 0 := chk_list [109, 111, 114, 101] (by decide)
theorem zz_chk : chkE nmZz = 0 := chk_list [122, 122] (by decide)
theorem a_tgt : cutE tgA (fullB tgA) = 0 := by rw [full_iff]; decide
theorem nmB_more (i : Nat) : nmB i ≠ nmMore := by
  intro h
  have := congrArg ByteArray.size h
  unfold nmB nmMore at this
  cases this
theorem zz_notL : ∀ i : Nat, i < 47 → [UInt8.ofNat (97 + i % 26), UInt8.ofNat (97 + i / 26)] ≠ [122, 122] := by decide
theorem nmB_zz {i : Nat} (hi : i < 47) : nmB i ≠ nmZz := by
  intro h
  refine zz_notL i hi ?_
  have := congrArg ByteArray.toList h
  unfold nmB nmZz at this
  rw [ByteArray.toList_eq, ByteArray.toList_eq] at this
  exact this
/-- a tree behind i of the law's mutations -/
structure Full (i : Nat) (s : Tr) : Prop where
  next : s.next = (i : Int) + 2
  len : s.es.length = i
  all : ∀ e ∈ s.es, e.d = 1 ∧ ∃ j, j < i ∧ e.nm = nmB j
  has : ∀ j, j < i → ∃ e ∈ s.es, e.nm = nmB j
theorem Full.new : Full 0 emptyT := ⟨rfl, rfl, by intro e he; (cases he), by intro j hj; omega⟩
theorem Full.free {i : Nat} {s : Tr} (h : Full i s) (nm : ByteArray) (hn : ∀ j, j < i → nmB j ≠ nm) : atE s.es 1 nm = none :=
  (atE_none_iff _ _).2 fun e he hq => by
    obtain ⟨j, hj, hnm⟩ := (h.all e he).2
    exact hn j hj (by rw [← hnm]; exact hq.2)
theorem made_does {s : Tr} {k : Int} {nm : ByteArray} (hk : k = 5 ∨ k = 6 ∨ k = 7) (hc : chkE nm = 0) : doesE Mn s ⟨k, 1, nm, 0, ⟨#[]⟩, 0, tgA⟩ = madeE s.es 1 nm := by
  unfold doesE
  rw [if_neg (by show ¬ (k < 5 ∨ 11 < k); omega), if_neg (by show ¬ namedE Mn s.es 1 nm ≠ 0; rw [named_one _ _ hc]; simp)]
  rcases hk with rfl | rfl | rfl
  · rfl
  · rfl
  · have : Mn.tgt tgA = 0 := a_tgt
    show (if (7 : Int) = 5 ∨ (7 : Int) = 6 then _ else if (7 : Int) = 7 then _ else _) = _
    rw [if_neg (by decide), if_pos rfl]
    show (if Mn.tgt tgA ≠ 0 then _ else _) = _
    rw [if_neg (by rw [this]; decide)]
theorem Full.more {i : Nat} {s s' : Tr} {k : Int} (w : WF Mn s.es s.next) (h : Full i s) (hi : i < 47) (hk : k = 5 ∨ k = 6 ∨ k = 7) :
    doesE Mn s ⟨k, 1, nmB i, 0, ⟨#[]⟩, 0, tgA⟩ = 0 ∧ (s'.es = srt (doesL s ⟨k, 1, nmB i, 0, ⟨#[]⟩, 0, tgA⟩) → s'.next = doesN s ⟨k, 1, nmB i, 0, ⟨#[]⟩, 0, tgA⟩ → Full (i + 1) s') := by
  have hE : doesE Mn s ⟨k, 1, nmB i, 0, ⟨#[]⟩, 0, tgA⟩ = 0 := by
    rw [made_does hk (nmB_chk hi)]
    unfold madeE
    rw [h.free _ (fun j hj e => by have := nmB_one (by omega) hi e; omega), h.len]
    simp
    omega
  refine ⟨hE, fun h1 h2 => ?_⟩
  have hd := deed w hE
  cases hd using Deed.el with
  | made x hk' hd hnm hneg hid hkind hok hno hdir hchk hroom hT hL hN =>
    rw [hL] at h1
    rw [hN] at h2
    refine ⟨by rw [h2, h.next]; omega, by rw [h1, srt_len, List.length_append, h.len]; rfl, fun e he => ?_, fun j hj => ?_⟩
    · rw [h1, srt_mem, List.mem_append, List.mem_singleton] at he
      rcases he with he | rfl
      · obtain ⟨a, j, b, c⟩ := h.all e he
        exact ⟨a, j, by omega, c⟩
      · exact ⟨hd, i, by omega, hnm⟩
    · by_cases hji : j < i
      · obtain ⟨e, he, hn⟩ := h.has j hji
        exact ⟨e, by rw [h1, srt_mem, List.mem_append]; exact .inl he, hn⟩
      · have : j = i := by omega
        subst this
        exact ⟨x, by rw [h1, srt_mem, List.mem_append]; simp, hnm⟩
  | gone e hk' => exact absurd hk' (by show ¬ (k = 8 ∨ k = 9); omega)
  | moved e hk' => exact absurd hk' (by show ¬ k = 10; omega)
  | set e x he hed hen hx hm hk' => exact absurd hk' (by show ¬ (k = 11 ∧ _ ∨ k = 10 ∧ _); omega)
/-- the whole tree: no room, and a name that is there -/
theorem Full.room {s : Tr} {k : Int} (h : Full 47 s) (hk : k = 5 ∨ k = 6 ∨ k = 7) : doesE Mn s ⟨k, 1, nmMore, 0, ⟨#[]⟩, 0, tgA⟩ = 47 := by
  rw [made_does hk more_chk]
  unfold madeE
  rw [h.free _ (fun j _ => nmB_more j), h.len]
  rfl
theorem Full.there {s : Tr} {k : Int} (w : WF Mn s.es s.next) (h : Full 47 s) (hk : k = 5 ∨ k = 6 ∨ k = 7) : doesE Mn s ⟨k, 1, nmB 0, 0, ⟨#[]⟩, 0, tgA⟩ = 41 := by
  rw [made_does hk (nmB_chk (by omega))]
  obtain ⟨e, he, hn⟩ := h.has 0 (by omega)
  unfold madeE
  rw [(atE_iff w.keyed _ _ e).2 ⟨he, (h.all e he).1, hn⟩]
  rfl
/-- just one entry has a key -/
theorem gone_one {es : List En} (hk : Keyed es) (hd : es.Nodup) {e : En} (he : e ∈ es) : (goneL es e.d e.nm).length + 1 = es.length := by
  induction es with
  | nil => cases he
  | cons a l ih =>
    by_cases h : a.d = e.d ∧ a.nm = e.nm
    · have hae : a = e := hk a (by simp) e he h.1 h.2
      have hg : goneL (a :: l) e.d e.nm = l := by
        unfold goneL
        rw [List.filter_cons_of_neg (by simp [h])]
        refine List.filter_eq_self.2 fun y hy => ?_
        have hny : ¬ (y.d = e.d ∧ y.nm = e.nm) := fun q => by
          have hye := hk y (by simp [hy]) e he q.1 q.2
          rw [hye, ← hae] at hy
          exact (List.nodup_cons.1 hd).1 hy
        rw [decide_eq_false hny]; rfl
      rw [hg]; rfl
    · have hel : e ∈ l := by
        rcases List.mem_cons.1 he with rfl | h'
        · exact absurd ⟨rfl, rfl⟩ h
        · exact h'
      have hi := ih (fun x hx y hy => hk x (by simp [hx]) y (by simp [hy])) (List.nodup_cons.1 hd).2 hel
      unfold goneL at hi ⊢
      rw [List.filter_cons_of_pos (by rw [decide_eq_false h]; rfl), List.length_cons, List.length_cons]
      omega
theorem within_root {es : List En} {n : Nat} {a : Int} (h : (1 : Int) ≠ a) : withinF es n 1 a = false := by
  cases n with
  | zero => rfl
  | succ n => rw [withinF, if_neg h]; rfl
structure Part (n : Nat) (s : Tr) : Prop where
  next : s.next = 49
  len : s.es.length = n
  all : ∀ e ∈ s.es, e.d = 1 ∧ e.nm ≠ nmMore
theorem Part.free {n : Nat} {s : Tr} (h : Part n s) : atE s.es 1 nmMore = none := (atE_none_iff _ _).2 fun e he hq => (h.all e he).2 hq.2
theorem Full.ren {s s' : Tr} (w : WF Mn s.es s.next) (h : Full 47 s) :
    doesE Mn s ⟨10, 1, nmB 0, 1, nmZz, 0, ⟨#[]⟩⟩ = 0 ∧ (s'.es = srt (doesL s ⟨10, 1, nmB 0, 1, nmZz, 0, ⟨#[]⟩⟩) → s'.next = doesN s ⟨10, 1, nmB 0, 1, nmZz, 0, ⟨#[]⟩⟩ → Part 47 s' ∧ ∃ e ∈ s'.es, e.nm = nmB 1) := by
  obtain ⟨e, he, hn⟩ := h.has 0 (by omega)
  have ha : atE s.es 1 (nmB 0) = some e := (atE_iff w.keyed _ _ e).2 ⟨he, (h.all e he).1, hn⟩
  have hz : atE s.es 1 nmZz = none := h.free _ (fun j hj => nmB_zz hj)
  have hkey : ¬ ((1 : Int) = 1 ∧ nmZz = nmB 0) := fun q => nmB_zz (i := 0) (by omega) q.2.symm
  have hE : doesE Mn s ⟨10, 1, nmB 0, 1, nmZz, 0, ⟨#[]⟩⟩ = 0 := by
    unfold doesE
    rw [if_neg (by decide), if_neg (by show ¬ namedE Mn s.es 1 (nmB 0) ≠ 0; rw [named_one _ _ (nmB_chk (by omega))]; simp), if_neg (by decide), if_neg (by decide), if_neg (by decide), if_neg (by decide), if_pos rfl, if_neg (by show ¬ namedE Mn s.es 1 nmZz ≠ 0; rw [named_one _ _ zz_chk]; simp)]
    show renamedE s.es 1 (nmB 0) 1 nmZz = 0
    rw [renamedE_at, ha]
    show (if e.kind = 1 ∧ withinF s.es (s.es.length + 1) 1 e.id = true then (45 : Int) else renErr s.es e (if (1 : Int) = 1 ∧ nmZz = nmB 0 then none else atE s.es 1 nmZz)) = 0
    rw [if_neg hkey, hz, within_root (fun q => w.ne1 he q.symm)]
    simp [renErr]
  refine ⟨hE, fun h1 h2 => ?_⟩
  have hN : doesN s ⟨10, 1, nmB 0, 1, nmZz, 0, ⟨#[]⟩⟩ = s.next := rfl
  have hL : doesL s ⟨10, 1, nmB 0, 1, nmZz, 0, ⟨#[]⟩⟩ = goneL s.es 1 (nmB 0) ++ [movedEn e 1 nmZz] := by
    show renamedL s.es 1 (nmB 0) 1 nmZz = _
    rw [renamedL_at, ha]
    show goneL (if (if (1 : Int) = 1 ∧ nmZz = nmB 0 then none else atE s.es 1 nmZz).isSome = true then goneL s.es 1 nmZz else s.es) 1 (nmB 0) ++ [movedEn e 1 nmZz] = _
    rw [if_neg hkey, hz]
    rfl
  have hmem : ∀ y, y ∈ s'.es ↔ (y ∈ s.es ∧ ¬ (y.d = 1 ∧ y.nm = nmB 0)) ∨ y = movedEn e 1 nmZz := fun y => by rw [h1, srt_mem, hL, List.mem_append, List.mem_singleton, goneL_mem]
  refine ⟨⟨by rw [h2, hN, h.next]; rfl, ?_, fun y hy => ?_⟩, ?_⟩
  · rw [h1, srt_len, hL, List.length_append]
    have := gone_one w.keyed w.rises.apart.nodup he
    rw [(h.all e he).1, hn, h.len] at this
    simpa using this
  · rcases (hmem y).1 hy with hy | rfl
    · obtain ⟨a, j, b, c⟩ := h.all y hy.1
      exact ⟨a, by rw [c]; exact nmB_more j⟩
    · exact ⟨rfl, fun q => by have := congrArg ByteArray.size q; cases this⟩
  · obtain ⟨y, hy, hyn⟩ := h.has 1 (by omega)
    exact ⟨y, (hmem y).2 (.inl ⟨hy, fun q => by have := nmB_one (by omega) (by omega) (hyn.symm.trans q.2); omega⟩), hyn⟩
theorem Part.rm {s s' : Tr} {e : En} {K : Int} (w : WF Mn s.es s.next) (h : Part 47 s) (he : e ∈ s.es) (hn : e.nm = nmB 1) (hK : K = if e.kind = 1 then 9 else 8) :
    doesE Mn s ⟨K, 1, nmB 1, 0, ⟨#[]⟩, 0, ⟨#[]⟩⟩ = 0 ∧ (s'.es = srt (doesL s ⟨K, 1, nmB 1, 0, ⟨#[]⟩, 0, ⟨#[]⟩⟩) → s'.next = doesN s ⟨K, 1, nmB 1, 0, ⟨#[]⟩, 0, ⟨#[]⟩⟩ → Part 46 s') := by
  have ha : atE s.es 1 (nmB 1) = some e := (atE_iff w.keyed _ _ e).2 ⟨he, (h.all e he).1, hn⟩
  have hno : ¬ 0 < namesN s.es e.id := fun q => by
    obtain ⟨y, hy, hq⟩ := namesN_pos.1 q
    exact w.ne1 he (by rw [← hq]; exact (h.all y hy).1)
  have hc : namedE Mn s.es 1 (nmB 1) = 0 := named_one _ _ (nmB_chk (by omega))
  have hLN : doesL s ⟨K, 1, nmB 1, 0, ⟨#[]⟩, 0, ⟨#[]⟩⟩ = goneL s.es 1 (nmB 1) ∧ doesN s ⟨K, 1, nmB 1, 0, ⟨#[]⟩, 0, ⟨#[]⟩⟩ = s.next ∧ doesE Mn s ⟨K, 1, nmB 1, 0, ⟨#[]⟩, 0, ⟨#[]⟩⟩ = 0 := by
    by_cases hk : e.kind = 1
    · rw [if_pos hk] at hK
      subst hK
      refine ⟨rfl, rfl, ?_⟩
      unfold doesE
      rw [if_neg (by decide), if_neg (by show ¬ namedE Mn s.es 1 (nmB 1) ≠ 0; rw [hc]; simp), if_neg (by decide), if_neg (by decide), if_neg (by decide), if_pos rfl]
      show removedE s.es 1 (nmB 1) true = 0
      unfold removedE
      rw [ha]
      simp [hk, hno]
    · rw [if_neg hk] at hK
      subst hK
      refine ⟨rfl, rfl, ?_⟩
      unfold doesE
      rw [if_neg (by decide), if_neg (by show ¬ namedE Mn s.es 1 (nmB 1) ≠ 0; rw [hc]; simp), if_neg (by decide), if_neg (by decide), if_pos rfl]
      show removedE s.es 1 (nmB 1) false = 0
      unfold removedE
      rw [ha]
      simp [hk]
  refine ⟨hLN.2.2, fun h1 h2 => ⟨by rw [h2, hLN.2.1]; exact h.next, ?_, fun y hy => ?_⟩⟩
  · rw [h1, srt_len, hLN.1]
    have := gone_one w.keyed w.rises.apart.nodup he
    rw [(h.all e he).1, hn, h.len] at this
    omega
  · rw [h1, srt_mem, hLN.1, goneL_mem] at hy
    exact h.all y hy.1
theorem Part.mk' {s : Tr} (h : Part 46 s) : doesE Mn s ⟨6, 1, nmMore, 0, ⟨#[]⟩, 0, ⟨#[]⟩⟩ = 0 ∧ tellL s ⟨6, 1, nmMore, 0, ⟨#[]⟩, 0, ⟨#[]⟩⟩ = [⟨1, nmMore, false, 49, 1, 0, ⟨#[]⟩⟩] := by
  refine ⟨?_, by show [(⟨1, nmMore, false, s.next, 1, 0, ⟨#[]⟩⟩ : En)] = _; rw [h.next]⟩
  unfold doesE
  rw [if_neg (by decide), if_neg (by show ¬ namedE Mn s.es 1 nmMore ≠ 0; rw [named_one _ _ more_chk]; simp), if_pos (.inr rfl), if_neg (by decide)]
  show madeE s.es 1 nmMore = 0
  unfold madeE
  rw [h.free, h.len]
  rfl
end Go.Proofs.Ytjkgafbknjpjbab
