/- The cache, one change after the other: in memory, and what it says then. -/
import Derived.Test.YtppbbddlbfgpfaaJWUps20
import Derived.Carry
namespace Go.Proofs.Ytppbbddlbfgpfaa
section
open Go.RowKit

theorem PmOk.set {A B : Pm} {d : Int} {g g' : Nat} {l l' : List (ByteArray × En × Nat)} (h : PmOk (A ++ (d, g, l) :: B)) (hn : (l'.map (·.1)).Nodup) (hk : ∀ p ∈ l', p.2.1.d = d ∧ p.2.1.nm = p.1) : PmOk (A ++ (d, g', l') :: B) := by
  refine ⟨by have := h.dirs; simpa using this, fun x hx => ?_, fun x hx => ?_⟩
  · rcases List.mem_append.1 hx with hx | hx
    · exact h.names x (by simp [hx])
    · rcases List.mem_cons.1 hx with rfl | hx
      · exact hn
      · exact h.names x (by simp [hx])
  · rcases List.mem_append.1 hx with hx | hx
    · exact h.keys x (by simp [hx])
    · rcases List.mem_cons.1 hx with rfl | hx
      · exact hk
      · exact h.keys x (by simp [hx])
theorem PmOk.new {om : Pm} {d : Int} (h : PmOk om) (hn : ∀ x ∈ om, d ≠ x.1) (g : Nat) : PmOk (om ++ [(d, g, [])]) := by
  refine ⟨?_, fun x hx => ?_, fun x hx => ?_⟩
  · rw [List.map_append, List.nodup_append]
    refine ⟨h.dirs, by simp, ?_⟩
    intro a ha b hb
    simp at hb
    subst hb
    obtain ⟨x, hx, rfl⟩ := List.mem_map.1 ha
    exact fun e => hn x hx e.symm
  · rcases List.mem_append.1 hx with hx | hx
    · exact h.names x hx
    · simp at hx; subst hx; simp
  · rcases List.mem_append.1 hx with hx | hx
    · exact h.keys x hx
    · simp at hx; subst hx; simp
theorem PmOk.drop {A B : Pm} {x : Int × Nat × List (ByteArray × En × Nat)} (h : PmOk (A ++ x :: B)) : PmOk (A ++ B) := by
  have hs : (A ++ B).Sublist (A ++ x :: B) := (List.Sublist.refl A).append (List.sublist_cons_self x B)
  exact ⟨(hs.map _).nodup h.dirs, fun y hy => h.names y (hs.subset hy), fun y hy => h.keys y (hs.subset hy)⟩
theorem PmOk.l {A B : Pm} {d : Int} {g : Nat} {l : List (ByteArray × En × Nat)} (h : PmOk (A ++ (d, g, l) :: B)) : (l.map (·.1)).Nodup ∧ ∀ p ∈ l, p.2.1.d = d ∧ p.2.1.nm = p.1 := ⟨h.names (d, g, l) (by simp), h.keys (d, g, l) (by simp)⟩
theorem PmOk.lA {A B : Pm} {d : Int} {g : Nat} {l : List (ByteArray × En × Nat)} (h : PmOk (A ++ (d, g, l) :: B)) : (∀ y ∈ A, d ≠ y.1) ∧ ∀ y ∈ B, d ≠ y.1 := by
  have := h.dirs
  rw [List.map_append, List.nodup_append, List.map_cons, List.nodup_cons] at this
  exact ⟨fun y hy e => this.2.2 y.1 (List.mem_map.2 ⟨y, hy, rfl⟩) d (by simp) e.symm, fun y hy e => this.2.1.1 (List.mem_map.2 ⟨y, hy, e.symm⟩)⟩
theorem mem_mput {κ β : Type} [DecidableEq κ] {l : List (κ × β)} (hn : (l.map (·.1)).Nodup) {k : κ} {v : β} {p : κ × β} (h : p ∈ mput l k v) : p = (k, v) ∨ p ∈ l := by
  rcases List.mem_append.1 ((mput_perm hn k v).mem_iff.1 h) with h | h
  · exact .inr (List.mem_filter.1 h).1
  · exact .inl (List.mem_singleton.1 h)
theorem mem_mdel {κ β : Type} [DecidableEq κ] {l : List (κ × β)} (hn : (l.map (·.1)).Nodup) {k : κ} {p : κ × β} (h : p ∈ mdel l k) : p ∈ l := by
  rw [mdel_eq hn] at h; exact (List.mem_filter.1 h).1
/-- what a list of a directory tells of a key's filter -/
theorem filt_l {d : Int} {nm : ByteArray} {l : List (ByteArray × En × Nat)} (hk : ∀ p ∈ l, p.2.1.d = d ∧ p.2.1.nm = p.1) : (l.map (·.2)).filter (fun x => !hasK ⟨d, nm⟩ x.1) = (l.filter fun x => decide (nm ≠ x.1)).map (·.2) := by
  rw [List.filter_map]
  congr 1
  refine List.filter_congr fun p hp => ?_
  obtain ⟨h1, h2⟩ := hk p hp
  show (!hasK ⟨d, nm⟩ p.2.1) = _
  unfold hasK
  rw [h1, h2]
  by_cases e : nm = p.1
  · subst e; simp
  · have e' : ¬ p.1 = nm := fun h => e h.symm
    simp [e, e']
theorem filt_o {A : Pm} {d : Int} (f : En → Bool) (hf : ∀ x, f x = false → x.d = d) (hk : ∀ y ∈ A, ∀ p ∈ y.2.2, p.2.1.d = y.1 ∧ p.2.1.nm = p.1) (hA : ∀ y ∈ A, d ≠ y.1) : (cont A).filter (fun x => f x.1) = cont A := by
  refine List.filter_eq_self.2 fun x hx => ?_
  obtain ⟨y, hy, p, hp, rfl⟩ := mem_cont.1 hx
  cases h : f p.2.1 with
  | true => rfl
  | false => exact absurd (((hk y hy p hp).1.symm.trans (hf _ h)).symm) (hA y hy)
theorem filt_k {A B : Pm} {d : Int} {g : Nat} {l : List (ByteArray × En × Nat)} (h : PmOk (A ++ (d, g, l) :: B)) (nm : ByteArray) : (cont (A ++ (d, g, l) :: B)).filter (fun x => !hasK ⟨d, nm⟩ x.1) = cont A ++ (((l.filter fun x => decide (nm ≠ x.1)).map (·.2)) ++ cont B) := by
  obtain ⟨hA, hB⟩ := h.lA
  have hf : ∀ x : En, (fun e => !hasK ⟨d, nm⟩ e) x = false → x.d = d := fun x hx => by
    simp only [Bool.not_eq_false'] at hx
    exact (hasK_iff.1 hx).1
  rw [cont_app, cont_cons, List.filter_append, List.filter_append, filt_l h.l.2]
  have e1 := filt_o (A := A) (d := d) (fun e => !hasK ⟨d, nm⟩ e) hf (fun y hy => h.keys y (by simp [hy])) hA
  have e2 := filt_o (A := B) (d := d) (fun e => !hasK ⟨d, nm⟩ e) hf (fun y hy => h.keys y (by simp [hy])) hB
  rw [e1, e2]
theorem Says.put {c : Pc} {s : Cs} {A B : Pm} {g : Nat} {l : List (ByteArray × En × Nat)} {e : En} (h : Says c s) (hok : PmOk c.om) (ho : c.om = A ++ (e.d, g, l) :: B) : Says ⟨c.g0, c.g1, A ++ (e.d, g, mput l e.nm (e, c.uses + 1)) :: B, c.wl, c.uses + 1⟩ (s.put e) := by
  refine ⟨?_, h.wh⟩
  have r := h.rep
  rw [ho] at hok r
  refine RepL.push (C := cont A ++ (((l.filter fun x => decide (e.nm ≠ x.1)).map (·.2)) ++ cont B)) (r.filter (fun x => !hasK e.key x) (List.Perm.of_eq (filt_k hok e.nm).symm)) e ?_
  show (cont (A ++ (e.d, g, mput l e.nm (e, c.uses + 1)) :: B)).Perm _
  rw [cont_app, cont_cons, List.append_assoc, List.append_assoc]
  refine List.Perm.append_left _ ?_
  refine (((mput_perm hok.l.1 e.nm (e, c.uses + 1)).map (·.2)).append_right _).trans ?_
  rw [List.map_append, List.append_assoc]
  exact List.Perm.append_left _ List.perm_append_comm
theorem cont_del {A B : Pm} {d : Int} {g : Nat} {l : List (ByteArray × En × Nat)} (h : PmOk (A ++ (d, g, l) :: B)) (nm : ByteArray) : cont (A ++ (d, g, mdel l nm) :: B) = (cont (A ++ (d, g, l) :: B)).filter (fun x => !hasK ⟨d, nm⟩ x.1) := by
  rw [filt_k h, cont_app, cont_cons, mdel_eq h.l.1]
theorem cont_out {A B : Pm} {d : Int} {g : Nat} {l : List (ByteArray × En × Nat)} (h : PmOk (A ++ (d, g, l) :: B)) : cont (A ++ B) = (cont (A ++ (d, g, l) :: B)).filter (fun x => decide (x.1.d ≠ d)) := by
  obtain ⟨hA, hB⟩ := h.lA
  have hf : ∀ x : En, (fun e : En => decide (e.d ≠ d)) x = false → x.d = d := fun x hx => by simpa using hx
  rw [cont_app, cont_app, cont_cons, List.filter_append, List.filter_append]
  have e1 := filt_o (A := A) (d := d) (fun e => decide (e.d ≠ d)) hf (fun y hy => h.keys y (by simp [hy])) hA
  have e2 := filt_o (A := B) (d := d) (fun e => decide (e.d ≠ d)) hf (fun y hy => h.keys y (by simp [hy])) hB
  rw [e1, e2]
  have e3 : (l.map (·.2)).filter (fun x => decide (x.1.d ≠ d)) = [] := List.filter_eq_nil_iff.2 fun x hx => by
    obtain ⟨p, hp, rfl⟩ := List.mem_map.1 hx
    simp [(h.l.2 p hp).1]
  rw [e3]; rfl

/-- a count more -/
theorem IsC.count {w : World} {p : Nat} {c : Pc} (h : IsC w p c) (n : Nat) : IsC (w.setCell ⟨p, 2, none⟩ (.int .i64 n)) p { c with uses := n } ∧ Only (· = p) w (w.setCell ⟨p, 2, none⟩ (.int .i64 n)) := by
  have ho := only1 w p 2 (.int .i64 (n : Int))
  have hk : ∀ k, k ≠ p → (w.setCell ⟨p, 2, none⟩ (.int .i64 n)).heap[k]? = w.heap[k]? := fun k hk => heap_set_ne hk
  have tp : Tag w p 74 := ⟨_, _, h.head⟩
  refine ⟨⟨?_, h.outer.moved (hk _ (h.outer.neTag tp)), h.whole.moved (hk _ (h.whole.neTag tp)), fun x hx => (h.inner x hx).moved (hk _ ((h.inner x hx).neTag tp)), h.ne, h.n0, h.nb, h.ok, h.wn⟩, ho⟩
  have := heap_set h.head 2 (.int .i64 (n : Int))
  simpa using this
theorem om2_set (A B : Pm) (d : Int) (g : Nat) (l l' : List (ByteArray × En × Nat)) : om2 (A ++ (d, g, l) :: B) = om2 (A ++ (d, g, l') :: B) := by unfold om2; simp
/-- another list in a directory's block -/
theorem IsC.setI {w W : World} {p : Nat} {c : Pc} {A B : Pm} {d : Int} {g : Nat} {l l' : List (ByteArray × En × Nat)} (h : IsC w p c) (ho : c.om = A ++ (d, g, l) :: B) (hm : MapAt Value.string mvC W g l') (hW : Only (· = g) w W) (hn : (l'.map (·.1)).Nodup) (hk : ∀ p ∈ l', p.2.1.d = d ∧ p.2.1.nm = p.1) : Aft w W p c { c with om := A ++ (d, g, l') :: B } := by
  have hg : (d, g, l) ∈ c.om := by rw [ho]; simp
  have n0 := h.n0 _ hg
  have tp : Tag w p 74 := ⟨_, _, h.head⟩
  have gp := (h.inner _ hg).neTag tp
  have hb : ∀ k, k < w.heap.size → k ≠ g → W.heap[k]? = w.heap[k]? := fun k hk hne => hW.block k hk hne
  have nb := h.nb
  rw [ho, List.map_append, List.nodup_append, List.map_cons, List.nodup_cons] at nb
  refine ⟨⟨(hb p tp.lt gp.symm).trans h.head, ?_, h.whole.moved (hb _ h.whole.lt n0.2.symm), fun x hx => ?_, h.ne, fun x hx => ?_, ?_, ?_, h.wn⟩, hW.mono fun k e => ?_, fun k hk => ?_⟩
  · have := h.outer.moved (hb _ h.outer.lt n0.1.symm)
    rw [ho, om2_set A B d g l l'] at this; exact this
  · rcases List.mem_append.1 hx with hx | hx
    · have hx' : x ∈ c.om := by rw [ho]; simp [hx]
      exact (h.inner x hx').moved (hb _ (h.inner x hx').lt (nb.2.2 _ (List.mem_map.2 ⟨x, hx, rfl⟩) g (by simp)))
    · rcases List.mem_cons.1 hx with rfl | hx
      · exact hm
      · have hx' : x ∈ c.om := by rw [ho]; simp [hx]
        exact (h.inner x hx').moved (hb _ (h.inner x hx').lt (fun e => nb.2.1.1 (List.mem_map.2 ⟨x, hx, e⟩)))
  · rcases List.mem_append.1 hx with hx | hx
    · exact h.n0 x (by rw [ho]; simp [hx])
    · rcases List.mem_cons.1 hx with rfl | hx
      · exact n0
      · exact h.n0 x (by rw [ho]; simp [hx])
  · have := h.nb
    rw [ho] at this
    simpa using this
  · have := h.ok
    rw [ho] at this
    exact this.set hn hk
  · exact .inr (.inr (.inr ⟨_, hg, e.symm⟩))
  · left
    rcases hk with hk | hk | hk | ⟨x, hx, hk⟩
    · exact .inl hk
    · exact .inr (.inl hk)
    · exact .inr (.inr (.inl hk))
    · refine .inr (.inr (.inr ?_))
      rcases List.mem_append.1 hx with hx | hx
      · exact ⟨x, by rw [ho]; simp [hx], hk⟩
      · rcases List.mem_cons.1 hx with rfl | hx
        · exact ⟨_, hg, hk⟩
        · exact ⟨x, by rw [ho]; simp [hx], hk⟩
/-- a new directory -/
theorem IsC.newI {w W1 W : World} {p G : Nat} {c : Pc} {d : Int} (h : IsC w p c) (hn : ∀ x ∈ c.om, d ≠ x.1) (hG : w.heap.size ≤ G) (hb : Below w.heap.size w W1) (hm : MapAt (κ := ByteArray) (β := En × Nat) Value.string mvC W1 G []) (ho : MapAt (Value.int .i64) mvM W c.g0 (mput (om2 c.om) d G)) (hW : Only (· = c.g0) W1 W) : Aft w W p c { c with om := c.om ++ [(d, G, [])] } := by
  have h1 := h.below hb
  have tp : Tag w p 74 := ⟨_, _, h.head⟩
  have tp1 : Tag W1 p 74 := ⟨_, _, h1.head⟩
  have hk : ∀ k, k < W1.heap.size → k ≠ c.g0 → W.heap[k]? = W1.heap[k]? := fun k hk hne => hW.block k hk hne
  have glt : ∀ k, c.blk p k → k ≠ G := fun k hk => by have := h.lt hk; omega
  refine ⟨⟨(hk p tp1.lt (h1.outer.neTag tp1).symm).trans h1.head, ?_, h1.whole.moved (hk _ h1.whole.lt h.ne.symm), fun x hx => ?_, h.ne, fun x hx => ?_, ?_, h.ok.new hn G, h.wn⟩, ?_, fun k hk => ?_⟩
  · rw [mput_none (fun x hx => by obtain ⟨y, hy, rfl⟩ := List.mem_map.1 hx; exact hn y hy)] at ho
    unfold om2 at ho ⊢
    rw [List.map_append]; exact ho
  · rcases List.mem_append.1 hx with hx | hx
    · exact (h1.inner x hx).moved (hk _ (h1.inner x hx).lt (h.n0 x hx).1)
    · simp at hx; subst hx
      exact hm.moved (hk _ hm.lt (glt c.g0 (.inr (.inl rfl))).symm)
  · rcases List.mem_append.1 hx with hx | hx
    · exact h.n0 x hx
    · simp at hx; subst hx
      exact ⟨(glt c.g0 (.inr (.inl rfl))).symm, (glt c.g1 (.inr (.inr (.inl rfl)))).symm⟩
  · show ((c.om ++ [(d, G, ([] : List (ByteArray × En × Nat)))]).map (fun x => x.2.1)).Nodup
    rw [List.map_append, List.nodup_append]
    refine ⟨h.nb, by simp, ?_⟩
    intro a ha b hb'
    simp at hb'
    subst hb'
    obtain ⟨x, hx, rfl⟩ := List.mem_map.1 ha
    exact glt _ (.inr (.inr (.inr ⟨x, hx, rfl⟩)))
  · exact (Only.of hb).trans (hW.mono fun k e => .inr (.inl e))
  · rcases hk with hk | hk | hk | ⟨x, hx, hk⟩
    · exact .inl (.inl hk)
    · exact .inl (.inr (.inl hk))
    · exact .inl (.inr (.inr (.inl hk)))
    · rcases List.mem_append.1 hx with hx | hx
      · exact .inl (.inr (.inr (.inr ⟨x, hx, hk⟩)))
      · simp at hx; subst hx
        exact .inr (by rw [← hk]; exact hG)
/-- a directory gone -/
theorem IsC.delO {w W : World} {p : Nat} {c : Pc} {d : Int} (h : IsC w p c) (hm : MapAt (Value.int .i64) mvM W c.g0 (mdel (om2 c.om) d)) (hW : Only (· = c.g0) w W) : Aft w W p c { c with om := c.om.filter fun x => decide (d ≠ x.1) } := by
  have tp : Tag w p 74 := ⟨_, _, h.head⟩
  have hk : ∀ k, k < w.heap.size → k ≠ c.g0 → W.heap[k]? = w.heap[k]? := fun k hk hne => hW.block k hk hne
  have hs : (c.om.filter fun x => decide (d ≠ x.1)).Sublist c.om := List.filter_sublist
  refine ⟨⟨(hk p tp.lt (h.outer.neTag tp).symm).trans h.head, ?_, h.whole.moved (hk _ h.whole.lt h.ne.symm), fun x hx => ?_, h.ne, fun x hx => h.n0 x (hs.subset hx), (hs.map _).nodup h.nb, ⟨(hs.map _).nodup h.ok.dirs, fun y hy => h.ok.names y (hs.subset hy), fun y hy => h.ok.keys y (hs.subset hy)⟩, h.wn⟩, hW.mono fun k e => .inr (.inl e), fun k hk => ?_⟩
  · rw [mdel_eq (by rw [om2_keys]; exact h.ok.dirs)] at hm
    unfold om2 at hm ⊢
    rw [List.filter_map] at hm
    exact hm
  · exact (h.inner x (hs.subset hx)).moved (hk _ (h.inner x (hs.subset hx)).lt (h.n0 x (hs.subset hx)).1)
  · left
    rcases hk with hk | hk | hk | ⟨x, hx, hk⟩
    · exact .inl hk
    · exact .inr (.inl hk)
    · exact .inr (.inr (.inl hk))
    · exact .inr (.inr (.inr ⟨x, hs.subset hx, hk⟩))
/-- the set of whole directories -/
theorem IsC.setW {w W : World} {p : Nat} {c : Pc} {wl : List (Int × Unit)} (h : IsC w p c) (hm : MapAt (Value.int .i64) mvU W c.g1 wl) (hW : Only (· = c.g1) w W) (hn : (wl.map (·.1)).Nodup) : Aft w W p c { c with wl := wl } := by
  have tp : Tag w p 74 := ⟨_, _, h.head⟩
  have hk : ∀ k, k < w.heap.size → k ≠ c.g1 → W.heap[k]? = w.heap[k]? := fun k hk hne => hW.block k hk hne
  exact ⟨⟨(hk p tp.lt (h.whole.neTag tp).symm).trans h.head, h.outer.moved (hk _ h.outer.lt h.ne), hm, fun x hx => (h.inner x hx).moved (hk _ (h.inner x hx).lt (h.n0 x hx).2), h.ne, h.n0, h.nb, h.ok, hn⟩, hW.mono fun k e => .inr (.inr (.inl e)), fun k hk => .inl hk⟩
/-- all entries gone -/
theorem IsC.clearO {w W : World} {p : Nat} {c : Pc} (h : IsC w p c) (hm : MapAt (κ := Int) (β := Nat) (Value.int .i64) mvM W c.g0 []) (hW : Only (· = c.g0) w W) : Aft w W p c { c with om := [] } := by
  have tp : Tag w p 74 := ⟨_, _, h.head⟩
  have hk : ∀ k, k < w.heap.size → k ≠ c.g0 → W.heap[k]? = w.heap[k]? := fun k hk hne => hW.block k hk hne
  refine ⟨⟨(hk p tp.lt (h.outer.neTag tp).symm).trans h.head, hm, h.whole.moved (hk _ h.whole.lt h.ne.symm), fun x hx => (by cases hx), h.ne, fun x hx => (by cases hx), (by simp), ⟨(by simp), fun x hx => (by cases hx), fun x hx => (by cases hx)⟩, h.wn⟩, hW.mono fun k e => .inr (.inl e), fun k hk => ?_⟩
  left
  rcases hk with hk | hk | hk | ⟨x, hx, hk⟩
  · exact .inl hk
  · exact .inr (.inl hk)
  · exact .inr (.inr (.inl hk))
  · cases hx
theorem mem_putW {wl : List (Int × Unit)} (hn : (wl.map (·.1)).Nodup) {d x : Int} : x ∈ (mput wl d ()).map (·.1) ↔ x ∈ wl.map (·.1) ∨ x = d := by
  rw [((mput_perm hn d ()).map _).mem_iff, List.map_append, List.mem_append]
  constructor
  · rintro (h | h)
    · obtain ⟨y, hy, rfl⟩ := List.mem_map.1 h
      exact .inl (List.mem_map.2 ⟨y, (List.mem_filter.1 hy).1, rfl⟩)
    · simp at h; exact .inr h
  · rintro (h | rfl)
    · obtain ⟨y, hy, rfl⟩ := List.mem_map.1 h
      by_cases e : d = y.1
      · right; simp [e]
      · exact .inl (List.mem_map.2 ⟨y, List.mem_filter.2 ⟨hy, by simpa using e⟩, rfl⟩)
    · right; simp
theorem mem_delW {wl : List (Int × Unit)} (hn : (wl.map (·.1)).Nodup) {d x : Int} : x ∈ (mdel wl d).map (·.1) ↔ x ∈ wl.map (·.1) ∧ x ≠ d := by
  rw [mdel_eq hn]
  simp only [List.mem_map, List.mem_filter, decide_eq_true_eq]
  constructor
  · rintro ⟨y, ⟨h1, h2⟩, rfl⟩; exact ⟨⟨y, h1, rfl⟩, fun e => h2 e.symm⟩
  · rintro ⟨⟨y, h1, rfl⟩, h2⟩; exact ⟨y, ⟨h1, fun e => h2 e.symm⟩, rfl⟩
end
section
open Go.RowKit

theorem boxO {w W : World} {o : Obj} (hW : w.alloc o = W) : W.heap[w.heap.size]? = some o ∧ Below w.heap.size w W ∧ W.heap.size = w.heap.size + 1 := by
  subst hW; exact ⟨heap_new _ _, below_alloc _ _, by simp⟩
section
variable {w : World} {ops : Array Oper} {rest : List Oper} {o : Oper} {a : Act} {Q : Exit → Act → World → Prop} {K : Act → World → Prop} {E : Prop}
/-- steps by their run, in a plain list and in a region that draws -/
theorem wpList_updM (hg : o.guard = none) (m k x : Operand) (t : TypeId) (ho : o.op = .mapUpdate t m k x) (mv kv xv : Value) (hm : a.eval m = mv) (hk : a.eval k = kv) (hx : a.eval x = xv) (W : World) (hr : (Instr.mapUpdate t mv kv xv).run Try.prog w = .ok () W)
    (h : wpList Try.prog ops Q rest (a.put o.dst undef) W) : wpList Try.prog ops Q (o :: rest) a w := by
  refine wpList_plain hg fun K hK => ?_
  unfold Oper.wp execOp
  simp [ho, hm, hk, hx, hr, Result.andThen]
  exact hK _ _ h
theorem step_updM (hgd : o.guard = none) (m k x : Operand) (t : TypeId) (ho : o.op = .mapUpdate t m k x) (mv kv xv : Value) (hm : a.eval m = mv) (hk : a.eval k = kv) (hx : a.eval x = xv) (W : World) (hr : (Instr.mapUpdate t mv kv xv).run Try.prog w = .ok () W)
    (h : K (a.put o.dst undef) W) : if Region.wanted o (yielded ops a.tmps) = true then Oper.wp Try.prog o a w K Q else E := by
  have hw : Region.wanted o (yielded ops a.tmps) = true := by simp [Region.wanted, hgd]
  rw [if_pos hw]
  unfold Oper.wp execOp
  simp [ho, hm, hk, hx, hr, Result.andThen]
  exact h
theorem wpList_delM (hg : o.guard = none) (m k : Operand) (t kt : TypeId) (ho : o.op = .call { callee := .builtin .delete, args := #[m, k], argTypes := #[t, kt] }) (mv kv : Value) (hm : a.eval m = mv) (hk : a.eval k = kv) (W : World) (hr : ∀ ty, (Builtin.delete_ #[t, kt] ty #[mv, kv]).run Try.prog w = .ok (.tuple #[]) W)
    (h : wpList Try.prog ops Q rest (a.put o.dst (.tuple #[])) W) : wpList Try.prog ops Q (o :: rest) a w := by
  refine wpList_plain hg fun K hK => ?_
  unfold Oper.wp
  simp [execOp, ho, resolve, invoke, builtin, hm, hk, hr, Result.andThen]
  exact hK _ _ h
theorem step_delM (hgd : o.guard = none) (m k : Operand) (t kt : TypeId) (ho : o.op = .call { callee := .builtin .delete, args := #[m, k], argTypes := #[t, kt] }) (mv kv : Value) (hm : a.eval m = mv) (hk : a.eval k = kv) (W : World) (hr : ∀ ty, (Builtin.delete_ #[t, kt] ty #[mv, kv]).run Try.prog w = .ok (.tuple #[]) W)
    (h : K (a.put o.dst (.tuple #[])) W) : if Region.wanted o (yielded ops a.tmps) = true then Oper.wp Try.prog o a w K Q else E := by
  have hw : Region.wanted o (yielded ops a.tmps) = true := by simp [Region.wanted, hgd]
  rw [if_pos hw]
  unfold Oper.wp
  simp [execOp, ho, resolve, invoke, builtin, hm, hk, hr, Result.andThen]
  exact h
theorem wpList_clearM (hg : o.guard = none) (m : Operand) (t : TypeId) (ho : o.op = .call { callee := .builtin .clear, args := #[m], argTypes := #[t] }) (mv : Value) (hm : a.eval m = mv) (W : World) (hr : ∀ ty, (Builtin.clear_ #[t] ty #[mv]).run Try.prog w = .ok (.tuple #[]) W)
    (h : wpList Try.prog ops Q rest (a.put o.dst (.tuple #[])) W) : wpList Try.prog ops Q (o :: rest) a w := by
  refine wpList_plain hg fun K hK => ?_
  unfold Oper.wp
  simp [execOp, ho, resolve, invoke, builtin, hm, hr, Result.andThen]
  exact hK _ _ h
end
set_option maxHeartbeats 2000000 in
theorem newK_p (w : World) : Calls Try.prog 12 #[] w fun x w' => ∃ p c, x = .returned (.pointer (some ⟨p, 0, none⟩)) ∧ IsC w' p c ∧ Says c ⟨[], []⟩ ∧ c.uses = 0 ∧ Below w.heap.size w w' ∧ ∀ k, c.blk p k → w.heap.size ≤ k := by
  have hmm := @run_makeMap Try.prog
  go_enter Try.func12, Try.ntmps12
  go_wp2
  go_ret
  obtain ⟨W1, hW1⟩ : ∃ W, w.alloc (.map #[] 0) = W := ⟨_, rfl⟩
  have b1 := boxO hW1
  obtain ⟨W2, hW2⟩ : ∃ W, W1.alloc (.map #[] 0) = W := ⟨_, rfl⟩
  have b2 := boxO hW2
  have e1 : w.heap.size + 1 = W1.heap.size := b1.2.2.symm
  have e2 : W1.heap.size + 1 = W2.heap.size := b2.2.2.symm
  simp only [hW1, hW2, e1, e2]
  have hh := heap_new W2 (.cells #[.map (some w.heap.size), .map (some W1.heap.size), .int .i64 ((0 : Nat) : Int)] 74 (0, 0))
  have m0 : MapAt (κ := Int) (β := Nat) (Value.int .i64) mvM W2 w.heap.size [] := MapAt.moved (by rw [← hW1]; exact madeM w _ _) (b2.2.1.block _ (by omega))
  have m1 : MapAt (κ := Int) (β := Unit) (Value.int .i64) mvU W2 W1.heap.size [] := by rw [← hW2]; exact madeM W1 _ _
  have b3 := below_alloc W2 (.cells #[.map (some w.heap.size), .map (some W1.heap.size), .int .i64 ((0 : Nat) : Int)] 74 (0, 0))
  refine ⟨W2.heap.size, ⟨w.heap.size, W1.heap.size, [], [], 0⟩, rfl, ⟨hh, m0.moved (b3.block _ m0.lt), m1.moved (b3.block _ m1.lt), fun x hx => (by cases hx), by show w.heap.size ≠ W1.heap.size; omega, fun x hx => (by cases hx), (by simp), ⟨(by simp), fun x hx => (by cases hx), fun x hx => (by cases hx)⟩, (by simp)⟩, ⟨⟨[], (by simp), (by simp), List.Perm.refl _, rfl⟩, fun d => by simp⟩, rfl, chainB (chainB b1.2.1 b2.2.1) b3, fun k hk => ?_⟩
  rcases hk with rfl | rfl | rfl | ⟨x, hx, _⟩
  · omega
  · exact Nat.le_refl _
  · show w.heap.size ≤ W1.heap.size
    omega
  · cases hx
set_option maxHeartbeats 2000000 in
theorem whole_p (p : Nat) (c : Pc) (d : Int) (w : World) (h : IsC w p c) : Calls Try.prog 115 #[.pointer (some ⟨p, 0, none⟩), .int .i64 d] w fun x w' => x = .returned (.bool (mget c.wl d).isSome) ∧ Below w.heap.size w w' := by
  obtain ⟨-, c1, -, -⟩ := h.cells
  have hl := h.lookW d
  clear h
  go_enter Try.func115, Try.ntmps115
  go_wp2
  go_ret
  exact ⟨rfl, below_alloc _ _⟩
set_option maxHeartbeats 2000000 in
theorem setWhole_p (p : Nat) (c : Pc) (d : Int) (w : World) (h : IsC w p c) : Calls Try.prog 25 #[.pointer (some ⟨p, 0, none⟩), .int .i64 d] w fun x w' => x = .returned (.tuple #[]) ∧ Aft w w' p c { c with wl := mput c.wl d () } := by
  obtain ⟨-, c1, -, -⟩ := h.cells
  obtain ⟨W, hr, hm, hO, -⟩ := storeM kI undW w c.g1 c.wl h.whole d ()
  have HA : Hid (Aft w W p c { c with wl := mput c.wl d () }) := h.setW hm hO (mput_keys h.wn d ())
  clear h hm hO
  go_enter Try.func25, Try.ntmps25
  go_wp2_with (at_mapUpdate; refine wpList_updM rfl (.tmp 7) (.tmp 8) (.tmp 9) 72 rfl _ _ _ (by simp [Act.eval]) (by simp [Act.eval]) (by simp [Act.eval, mvU]) W hr ?_)
  go_end0
  exact ⟨rfl, HA.out⟩
end
end Go.Proofs.Ytppbbddlbfgpfaa
