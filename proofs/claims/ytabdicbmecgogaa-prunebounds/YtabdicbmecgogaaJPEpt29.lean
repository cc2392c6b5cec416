/- prune's evict: what it keeps while it goes on. -/
import Derived.Test.YtabdicbmecgogaaJPEpt28
namespace Go.Proofs.Ytabdicbmecgogaa
section
open Go.RowKit

/-- a list of places, or none -/
def NxV (w : World) (B : Nat) (v : Value) (l : List Nat) : Prop := (v = .slice none 0 0 ∧ l = []) ∨ IsNx w B v l
theorem NxV.moved {w w' : World} {B : Nat} {v : Value} {l : List Nat} (h : NxV w B v l) (hk : ∀ k, v.ownBlock = some k → w'.heap[k]? = w.heap[k]?) : NxV w' B v l := h.imp id fun h => h.moved hk
theorem NxV.tag {w : World} {B : Nat} {v : Value} {l : List Nat} (h : NxV w B v l) {k : Nat} (hk : v.ownBlock = some k) : B ≤ k ∧ k < w.heap.size ∧ Tag w k 3 := by
  rcases h with ⟨rfl, _⟩ | h
  · cases hk
  · exact h.lt hk
theorem NxV.sl {w : World} {B : Nat} {v : Value} {l : List Nat} (h : NxV w B v l) : ∃ a c, v = .slice a l.length c := by
  rcases h with ⟨rfl, rfl⟩ | ⟨g, off, cap, cur, rfl, _⟩
  · exact ⟨_, _, rfl⟩
  · exact ⟨_, _, rfl⟩
theorem nxv_of {w : World} {B B' : Nat} {v : Value} {l : List Nat} (h : RowI w B v (ints l)) (hB : B' ≤ B) : NxV w B' v l := by
  have hl : (ints l).length = l.length := ints_len l
  rcases h.2 with ⟨rfl, h0⟩ | ⟨g, cap, cur, hv, hb, hh, hc, hm, hs, ht⟩
  · exact .inl ⟨rfl, List.length_eq_zero_iff.1 (by omega)⟩
  · refine .inr ⟨g, 0, cap, cur, by rw [hv, hl], by omega, hh, by omega, by omega, hm, fun j x hj => ?_⟩
    have hjl := (List.getElem?_eq_some_iff.1 hj).1
    rw [Nat.zero_add, ← Array.getElem?_toList, ← List.getElem?_take_of_lt (show j < (ints l).length * 1 by omega), ht]
    unfold ci ints
    rw [List.getElem?_map, List.getElem?_map, hj]; rfl
/-- the first place, and what is left behind it -/
theorem NxV.head {w : World} {B : Nat} {v : Value} {p : Nat} {t : List Nat} (h : NxV w B v (p :: t)) : ∃ g off cap, v = .slice (some ⟨g, off, none⟩) (t.length + 1) cap ∧ t.length + 1 ≤ cap ∧ w.cell? ⟨g, off, none⟩ = some (.int .i64 (p : Int)) ∧ (∀ v', (cap = 1 → v' = .slice (some ⟨g, off, none⟩) t.length 0) → (cap ≠ 1 → v' = .slice (some ⟨g, off + 1, none⟩) t.length (cap - 1)) → NxV w B v' t ∧ v'.ownBlock = v.ownBlock) := by
  rcases h with ⟨_, h⟩ | ⟨g, off, cap, cur, rfl, hB, hh, h1, h2, h3, hc⟩
  · cases h
  · refine ⟨g, off, cap, rfl, h2, ?_, fun v' e1 e2 => ?_⟩
    · rw [cell_of hh]
      have := hc 0 p rfl
      simpa using this
    · rw [List.length_cons] at h2
      by_cases hcap : cap = 1
      · rw [e1 hcap]
        have ht : t = [] := List.length_eq_zero_iff.1 (by omega)
        subst ht
        exact ⟨.inr ⟨g, off, 0, cur, rfl, hB, hh, by omega, by simp, by unfold maxLen; omega, fun j x hj => by simp at hj⟩, rfl⟩
      · rw [e2 hcap]
        refine ⟨.inr ⟨g, off + 1, cap - 1, cur, rfl, hB, hh, by omega, by omega, by omega, fun j x hj => ?_⟩, rfl⟩
        have := hc (j + 1) x (by simpa using hj)
        rw [show off + 1 + j = off + (j + 1) by omega]
        exact this
theorem keepK2 {X : World} {B : Nat} {v : Value} {l : List Ky} (k : Ky) (h : RowK X B v l) (hB : B ≤ X.heap.size) (hl : l.length + 1 ≤ 1500000000000) : ∃ a6 N6 c6 Z, (∀ ty, (Builtin.append_ #[33, 33] ty #[v, .slice (some ⟨X.heap.size, 0, none⟩) 1 1]).run Try.prog (X.alloc (.cells #[.int .i64 k.d, .string k.nm] 28)) = .ok (.slice a6 N6 c6) Z) ∧ RowK Z B (.slice a6 N6 c6) (l ++ [k]) ∧ Only (fun b => v.ownBlock = some b) X Z ∧ (∀ b, (Value.slice a6 N6 c6).ownBlock = some b → v.ownBlock = some b ∨ X.heap.size ≤ b) ∧ N6 = l.length + 1 := by
  have bY := below_alloc X (.cells #[.int .i64 k.d, .string k.nm] 28)
  obtain ⟨v6, Z, r6, row6, o6, p6⟩ := appK (w := X.alloc (.cells #[.int .i64 k.d, .string k.nm] 28)) (B := B) (v := v) (l := l) (l2 := [k]) (ad := ⟨X.heap.size, 0, none⟩) (c := 1) (owns_below h bY) (by
    have : kc [k] = [.int .i64 k.d, .string k.nm] := by simp [kc]
    rw [this]
    exact one_atG (w := X) (cs := [.int .i64 k.d, .string k.nm])) (Nat.le_trans hB bY.size) (by simp only [List.length_cons, List.length_nil]; omega)
  obtain ⟨a6, c6, hv6⟩ := owns_len row6
  subst hv6
  refine ⟨a6, _, c6, Z, r6, row6, (Only.of bY).trans o6, fun b hb => ?_, by simp⟩
  rcases p6 with p6 | p6
  · rw [p6] at hb; exact .inl hb
  · rw [p6] at hb
    injection hb with hb
    have := bY.size
    exact .inr (by omega)
/-- the cache, and the blocks G that evict has made beside it -/
structure Ei (w0 w wr : World) (p : Nat) (s : Cs) (n : Nat) (F G : Nat → Prop) : Prop where
  ld : Ld w0 wr p s n (fun k => F k ∨ G k)
  kept : ∀ k, F k → wr.heap[k]? = w.heap[k]?
  lo : ∀ k, G k → w.heap.size ≤ k
  fl : ∀ k, F k → k < w.heap.size
  size : w.heap.size ≤ wr.heap.size
  b0 : w0.heap.size ≤ w.heap.size
theorem Ei.start {w0 w : World} {p : Nat} {s : Cs} {n : Nat} {F : Nat → Prop} (h : Ld w0 w p s n F) : Ei w0 w w p s n F (fun _ => False) :=
  ⟨h.mono (fun _ hk => hk.elim id False.elim) (Nat.le_refl _), fun _ _ => rfl, fun _ hk => hk.elim, h.fl, Nat.le_refl _, h.below.size⟩
theorem Ei.on {w0 w wr w' : World} {p : Nat} {s : Cs} {n : Nat} {F G : Nat → Prop} (h : Ei w0 w wr p s n F G) (hb : Below wr.heap.size wr w') : Ei w0 w w' p s n F (fun k => G k ∨ wr.heap.size ≤ k ∧ k < w'.heap.size) :=
  ⟨(h.ld.on hb).mono (fun k hk => by
    rcases hk with hk | hk | hk
    · exact .inl (.inl hk)
    · exact .inl (.inr hk)
    · exact .inr hk) (Nat.le_refl _), fun k hk => (hb.block k (Nat.lt_of_lt_of_le (h.fl k hk) h.size)).trans (h.kept k hk), fun k hk => by
    rcases hk with hk | hk
    · exact h.lo k hk
    · exact Nat.le_trans h.size hk.1, h.fl, Nat.le_trans h.size hb.size, h.b0⟩
theorem Ei.own {w0 w wr w' : World} {p : Nat} {s : Cs} {n : Nat} {F G : Nat → Prop} (h : Ei w0 w wr p s n F G) (hO : Only G wr w') : Ei w0 w w' p s n F (fun k => G k ∨ wr.heap.size ≤ k ∧ k < w'.heap.size) := by
  obtain ⟨c, h1, h2, h3, h4⟩ := h.ld.ex
  refine ⟨⟨⟨c, h1.moved fun k hk => hO.block k (h1.lt hk) fun hg => (h4 k hk).2 (.inr hg), h2, h3, fun k hk => ⟨(h4 k hk).1, fun e => ?_⟩⟩, hO.below h.ld.below h.ld.below.size (fun k hk => Nat.le_trans h.b0 (h.lo k hk)), h.ld.nn, fun k hk => ?_, h.ld.len⟩, fun k hk => ?_, fun k hk => ?_, h.fl, Nat.le_trans h.size hO.size, h.b0⟩
  · rcases e with e | e | e
    · exact (h4 k hk).2 (.inl e)
    · exact (h4 k hk).2 (.inr e)
    · have := h1.lt hk; omega
  · rcases hk with hk | hk | hk
    · exact Nat.lt_of_lt_of_le (Nat.lt_of_lt_of_le (h.fl k hk) h.size) hO.size
    · exact Nat.lt_of_lt_of_le (h.ld.fl k (.inr hk)) hO.size
    · exact hk.2
  · exact (hO.block k (Nat.lt_of_lt_of_le (h.fl k hk) h.size) fun hg => by have := h.lo k hg; have := h.fl k hk; omega).trans (h.kept k hk)
  · rcases hk with hk | hk
    · exact h.lo k hk
    · exact Nat.le_trans h.size hk.1
theorem Ei.gone {w0 w wr w' : World} {p : Nat} {s s' : Cs} {n : Nat} {F G : Nat → Prop} (h : Ei w0 w wr p s n F G) (hl : Ldc w0 wr w' p s' n (fun k => F k ∨ G k)) : Ei w0 w w' p s' n F G :=
  ⟨hl.ld, fun k hk => (hl.kept k (.inl hk)).trans (h.kept k hk), h.lo, h.fl, Nat.le_trans h.size hl.size, h.b0⟩
theorem Ei.mono {w0 w wr : World} {p : Nat} {s : Cs} {n : Nat} {F G G' : Nat → Prop} (h : Ei w0 w wr p s n F G) (hg : ∀ k, G' k → G k) : Ei w0 w wr p s n F G' :=
  ⟨h.ld.mono (fun k hk => hk.imp id (hg k)) (Nat.le_refl _), h.kept, fun k hk => h.lo k (hg k hk), h.fl, h.size, h.b0⟩
theorem Ei.ldc {w0 w wr : World} {p : Nat} {s : Cs} {n : Nat} {F G : Nat → Prop} (h : Ei w0 w wr p s n F G) : Ldc w0 w wr p s n F :=
  ⟨h.ld.mono (fun _ hk => .inl hk) (Nat.le_refl _), h.kept, h.size⟩
/-- evict under way -/
structure Ev (w0 w wr : World) (p : Nat) (s : Cs) (n : Nat) (F G : Nat → Prop) (vo : Value) (L0 : List En) (vn : Value) (next : List Nat) (gh : Nat) (hm : List (Int × Slv)) (hl : Int → List Nat) (vg : Value) (gone : List Ky) : Prop where
  ei : Ei w0 w wr p s n F G
  ord : Row7 wr w.heap.size vo L0
  nx : NxV wr w.heap.size vn next
  hd : HdAt wr w.heap.size gh hm hl
  off : ∀ x ∈ hm, ∀ k, (mvS x.2).ownBlock = some k → vn.ownBlock ≠ some k
  gn : RowK wr w.heap.size vg gone
  mo : ∀ k, vo.ownBlock = some k → G k
  mn : ∀ k, vn.ownBlock = some k → G k
  mh : G gh
  ml : ∀ x ∈ hm, ∀ k, (mvS x.2).ownBlock = some k → G k
  mg : ∀ k, vg.ownBlock = some k → G k
/-- what was made since is evict's too -/
def New (G : Nat → Prop) (wr w' : World) : Nat → Prop := fun k => G k ∨ wr.heap.size ≤ k ∧ k < w'.heap.size
theorem Ev.on {w0 w wr w' : World} {p : Nat} {s : Cs} {n : Nat} {F G : Nat → Prop} {vo : Value} {L0 : List En} {vn : Value} {next : List Nat} {gh : Nat} {hm : List (Int × Slv)} {hl : Int → List Nat} {vg : Value} {gone : List Ky} (h : Ev w0 w wr p s n F G vo L0 vn next gh hm hl vg gone) (hb : Below wr.heap.size wr w') : Ev w0 w w' p s n F (New G wr w') vo L0 vn next gh hm hl vg gone :=
  ⟨h.ei.on hb, owns_below h.ord hb, h.nx.moved fun _ hk => hb.block _ (h.nx.tag hk).2.1, h.hd.moved (hb.block _ h.hd.map.lt) (fun x hx _ hk => hb.block _ (RowI.tag (h.hd.row x hx) hk).2.1), h.off, owns_below h.gn hb, fun k hk => .inl (h.mo k hk), fun k hk => .inl (h.mn k hk), .inl h.mh, fun x hx k hk => .inl (h.ml x hx k hk), fun k hk => .inl (h.mg k hk)⟩
/-- the cache alone has changed -/
theorem Ev.gone {w0 w wr w' : World} {p : Nat} {s s' : Cs} {n : Nat} {F G : Nat → Prop} {vo : Value} {L0 : List En} {vn : Value} {next : List Nat} {gh : Nat} {hm : List (Int × Slv)} {hl : Int → List Nat} {vg : Value} {gone : List Ky} (h : Ev w0 w wr p s n F G vo L0 vn next gh hm hl vg gone) (hc : Ldc w0 wr w' p s' n (fun k => F k ∨ G k)) : Ev w0 w w' p s' n F G vo L0 vn next gh hm hl vg gone :=
  ⟨h.ei.gone hc, owns_moved h.ord fun k hk => hc.kept k (.inr (h.mo k hk)), h.nx.moved fun k hk => hc.kept k (.inr (h.mn k hk)), h.hd.moved (hc.kept _ (.inr h.mh)) (fun x hx k hk => hc.kept k (.inr (h.ml x hx k hk))), h.off, owns_moved h.gn fun k hk => hc.kept k (.inr (h.mg k hk)), h.mo, h.mn, h.mh, h.ml, h.mg⟩
/-- a key more has gone -/
theorem Ev.more {w0 w wr Z : World} {p : Nat} {s : Cs} {n : Nat} {F G : Nat → Prop} {vo : Value} {L0 : List En} {vn : Value} {next : List Nat} {gh : Nat} {hm : List (Int × Slv)} {hl : Int → List Nat} {vg vg' : Value} {gone gone' : List Ky} (h : Ev w0 w wr p s n F G vo L0 vn next gh hm hl vg gone) (hr : RowK Z w.heap.size vg' gone') (hO : Only (fun b => vg.ownBlock = some b) wr Z) (hn : ∀ b, vg'.ownBlock = some b → vg.ownBlock = some b ∨ wr.heap.size ≤ b) : Ev w0 w Z p s n F (New G wr Z) vo L0 vn next gh hm hl vg' gone' :=
  ⟨h.ei.own (hO.mono fun b hb => h.mg b hb), owns_moved h.ord fun k hk => hO.block _ (World.ownsRow.lt h.ord k hk).2 fun e => (Tag.own h.gn e).ne (Tag.own h.ord hk) (by decide) rfl, h.nx.moved fun k hk => hO.block _ (h.nx.tag hk).2.1 fun e => (Tag.own h.gn e).ne (h.nx.tag hk).2.2 (by decide) rfl, h.hd.moved (hO.block _ h.hd.map.lt fun e => h.hd.map.neTag (Tag.own h.gn e) rfl) (fun x hx k hk => hO.block _ (RowI.tag (h.hd.row x hx) hk).2.1 fun e => (Tag.own h.gn e).ne (RowI.tag (h.hd.row x hx) hk).2.2 (by decide) rfl), h.off, hr, fun k hk => .inl (h.mo k hk), fun k hk => .inl (h.mn k hk), .inl h.mh, fun x hx k hk => .inl (h.ml x hx k hk), fun k hk => by
    rcases hn k hk with hk' | hk'
    · exact .inl (h.mg k hk')
    · exact .inr ⟨hk', (World.ownsRow.lt hr k hk).2⟩⟩
/-- a place more -/
theorem Ev.ins {w0 w wr Z : World} {p : Nat} {s : Cs} {n : Nat} {F G : Nat → Prop} {vo : Value} {L0 : List En} {vn vn' : Value} {next next' : List Nat} {gh : Nat} {hm : List (Int × Slv)} {hl : Int → List Nat} {vg : Value} {gone : List Ky} (h : Ev w0 w wr p s n F G vo L0 vn next gh hm hl vg gone) (hr : NxV Z w.heap.size vn' next') (hO : Only (fun b => vn.ownBlock = some b) wr Z) (hn : ∀ b, vn'.ownBlock = some b → vn.ownBlock = some b ∨ wr.heap.size ≤ b) : Ev w0 w Z p s n F (New G wr Z) vo L0 vn' next' gh hm hl vg gone :=
  ⟨h.ei.own (hO.mono fun b hb => h.mn b hb), owns_moved h.ord fun k hk => hO.block _ (World.ownsRow.lt h.ord k hk).2 fun e => (h.nx.tag e).2.2.ne (Tag.own h.ord hk) (by decide) rfl, hr, h.hd.moved (hO.block _ h.hd.map.lt fun e => h.hd.map.neTag (h.nx.tag e).2.2 rfl) (fun x hx k hk => hO.block _ (RowI.tag (h.hd.row x hx) hk).2.1 fun e => h.off x hx k hk e), fun x hx k hk e => by
    rcases hn k e with e' | e'
    · exact h.off x hx k hk e'
    · have := (RowI.tag (h.hd.row x hx) hk).2.1
      omega, owns_moved h.gn fun k hk => hO.block _ (World.ownsRow.lt h.gn k hk).2 fun e => (h.nx.tag e).2.2.ne (Tag.own h.gn hk) (by decide) rfl, fun k hk => .inl (h.mo k hk), fun k hk => by
    rcases hn k hk with hk' | hk'
    · exact .inl (h.mn k hk')
    · exact .inr ⟨hk', (hr.tag hk).2.1⟩, .inl h.mh, fun x hx k hk => .inl (h.ml x hx k hk), fun k hk => .inl (h.mg k hk)⟩
/-- another view of the list of places -/
theorem Ev.view {w0 w wr : World} {p : Nat} {s : Cs} {n : Nat} {F G : Nat → Prop} {vo : Value} {L0 : List En} {vn vn' : Value} {next next' : List Nat} {gh : Nat} {hm : List (Int × Slv)} {hl : Int → List Nat} {vg : Value} {gone : List Ky} (h : Ev w0 w wr p s n F G vo L0 vn next gh hm hl vg gone) (hr : NxV wr w.heap.size vn' next') (e : vn'.ownBlock = vn.ownBlock) : Ev w0 w wr p s n F G vo L0 vn' next' gh hm hl vg gone :=
  ⟨h.ei, h.ord, hr, h.hd, fun x hx k hk => by rw [e]; exact h.off x hx k hk, h.gn, h.mo, fun k hk => h.mn k (by rw [← e]; exact hk), h.mh, h.ml, h.mg⟩
end
section
open Go.RowKit

theorem leaf_of {M L0 : List En} {x : En} (hk : KeysOk L0) (hM : ∀ y ∈ M, y ∈ L0) (hx : x ∈ L0) : leafB M x.key = true ↔ x ∈ M ∧ ∀ y ∈ M, y.d ≠ idOf x := by
  have uniq : ∀ y, y ∈ M → hasK x.key y = true → y = x := fun y hy hh => by
    have h2 := hasK_iff.1 hh
    refine key_inj hk (hM y hy) hx ?_
    unfold En.key
    obtain ⟨q1, q2⟩ := h2
    have q1' : y.d = x.d := q1
    have q2' : y.nm = x.nm := q2
    rw [q1', q2']
  unfold leafB
  by_cases hm : x ∈ M
  · have : getL M x.key = some x := by
      unfold getL
      cases hf : M.find? (hasK x.key) with
      | none =>
        rw [List.find?_eq_none] at hf
        exact absurd (hasK_iff.2 ⟨rfl, rfl⟩) (hf x hm)
      | some y => rw [uniq y (List.mem_of_find?_eq_some hf) (List.find?_some hf)]
    rw [this]
    simp [hm]
  · have : getL M x.key = none := by
      cases hg : getL M x.key with
      | none => rfl
      | some y =>
        unfold getL at hg
        have := uniq y (List.mem_of_find?_eq_some hg) (List.find?_some hg)
        rw [this] at hg
        exact absurd (List.mem_of_find?_eq_some hg) hm
    rw [this]
    simp [hm]
theorem held_out {b : Bool} {L0 L : List En} {p q : Nat} {t : List Nat} {e0 : En} (hk : KeysOk L0) (hs : ∀ x ∈ L, x ∈ L0) (h : Nx b L0 L (p :: t)) (hp : L0[p]? = some e0) (hq : heldP b L0 e0.d q) : q ∉ t := by
  intro hqt
  obtain ⟨e, he, hm, hmay⟩ := (h.mem q).1 (List.mem_cons_of_mem _ hqt)
  obtain ⟨e', he', hno, hid⟩ := hq
  rw [he] at he'
  injection he' with he'
  subst he'
  obtain ⟨e1, he1, hm1, _⟩ := (h.mem p).1 (by simp)
  rw [hp] at he1
  injection he1 with he1
  subst he1
  cases b with
  | true =>
    have h1 : e.neg = true := hmay
    have h2 : e.neg = false := hno
    rw [h1] at h2
    cases h2
  | false =>
    have h1 : leafB L e.key = true := hmay
    rw [leaf_of hk hs (hs e hm)] at h1
    exact h1.2 e0 hm1 hid.symm
theorem Nj.start {b : Bool} {L0 L' : List En} {t : List Nat} (h : t.Pairwise (· < ·)) : Nj b L0 L' t [] t := ⟨h, fun p => by simp⟩
theorem Nj.skip {b : Bool} {L0 L' : List En} {t done next : List Nat} {q : Nat} {e : En} (h : Nj b L0 L' t done next) (he : L0[q]? = some e) (hm : mayB b L' e = false) : Nj b L0 L' t (done ++ [q]) next := by
  refine ⟨h.rise, fun p => ?_⟩
  rw [h.mem p]
  refine or_congr_right ?_
  rw [List.mem_append, List.mem_singleton]
  constructor
  · rintro ⟨h1, h2⟩; exact ⟨.inl h1, h2⟩
  · rintro ⟨h1 | rfl, e', he', h2⟩
    · exact ⟨h1, e', he', h2⟩
    · rw [he] at he'
      injection he' with he'
      subst he'
      rw [hm] at h2
      cases h2
theorem Nj.take {b : Bool} {L0 L' : List En} {t done next : List Nat} {q : Nat} {e : En} (h : Nj b L0 L' t done next) (he : L0[q]? = some e) (hm : mayB b L' e = true) (hq : q ∉ next) : Nj b L0 L' t (done ++ [q]) (insP next q) := by
  refine ⟨insP_rise h.rise hq, fun p => ?_⟩
  rw [insP_mem, h.mem p, List.mem_append, List.mem_singleton]
  constructor
  · rintro (rfl | h1 | ⟨h1, h2⟩)
    · exact .inr ⟨.inr rfl, e, he, hm⟩
    · exact .inl h1
    · exact .inr ⟨.inl h1, h2⟩
  · rintro (h1 | ⟨h1 | rfl, h2⟩)
    · exact .inr (.inl h1)
    · exact .inr (.inr ⟨h1, h2⟩)
    · exact .inl rfl
/-- a place that is gone through is not among those already -/
theorem Nj.new {b : Bool} {L0 L' : List En} {t next held : List Nat} {q j : Nat} (h : Nj b L0 L' t (held.take j) next) (hr : held.Pairwise (· < ·)) (hj : held[j]? = some q) (ht : q ∉ t) : q ∉ next := by
  intro hq
  rcases (h.mem q).1 hq with h1 | ⟨h1, _⟩
  · exact ht h1
  · obtain ⟨i, hi, hiq⟩ := List.mem_take_iff_getElem.1 h1
    obtain ⟨hjl, hjq⟩ := List.getElem?_eq_some_iff.1 hj
    rw [List.pairwise_iff_getElem] at hr
    have := hr i j (by omega) hjl (by omega)
    omega
theorem rise_len : ∀ {l : List Nat} {m : Nat}, l.Pairwise (· < ·) → (∀ x ∈ l, x < m) → l.length ≤ m := by
  intro l m h hm
  have key : ∀ (l : List Nat) (b : Nat), l.Pairwise (· < ·) → (∀ x ∈ l, b ≤ x ∧ x < m) → l.length + b ≤ m ∨ l = [] := by
    intro l
    induction l with
    | nil => intro b _ _; exact .inr rfl
    | cons a l ih =>
      intro b hp hb
      rw [List.pairwise_cons] at hp
      have ha := hb a (by simp)
      rcases ih (a + 1) hp.2 (fun x hx => ⟨hp.1 x hx, (hb x (List.mem_cons_of_mem _ hx)).2⟩) with h | h
      · left; rw [List.length_cons]; omega
      · left; rw [h]; simp; omega
  rcases key l 0 h (fun x hx => ⟨Nat.zero_le _, hm x hx⟩) with h | h
  · omega
  · rw [h]; simp
theorem RowI.cellN {w : World} {B n c : Nat} {a : Option Addr} {l : List Nat} {j q : Nat} (h : RowI w B (.slice a n c) (ints l)) (hj : l[j]? = some q) : ∃ g, a = some ⟨g, 0, none⟩ ∧ w.cell? ⟨g, j, none⟩ = some (.int .i64 (q : Int)) := by
  have hjl := (List.getElem?_eq_some_iff.1 hj).1
  have hl := ints_len l
  rcases h.2 with ⟨_, h0⟩ | ⟨g, cap, cur, hv, hb, hh, hc, hm, hs, ht⟩
  · omega
  · injection hv with hv1 hv2 hv3
    subst hv1
    refine ⟨g, rfl, ?_⟩
    rw [cell_of hh, ← Array.getElem?_toList, ← List.getElem?_take_of_lt (show j < (ints l).length * 1 by omega), ht]
    unfold ci ints
    rw [List.getElem?_map, List.getElem?_map, hj]; rfl
/-- where evict stands -/
structure Pe (b : Bool) (s0 : Cs) (cnt : Nat) (s : Cs) (next : List Nat) (gone : List Ky) : Prop where
  nx : Nx b s0.L s.L next
  flt : ∃ g, s.L = s0.L.filter g
  run : evN b gone.length s0 = (gone, s)
  le : gone.length ≤ cnt
theorem Pe.sub {b : Bool} {s0 s : Cs} {cnt : Nat} {next : List Nat} {gone : List Ky} (h : Pe b s0 cnt s next gone) : ∀ x ∈ s.L, x ∈ s0.L := fun x hx => by
  obtain ⟨g, hg⟩ := h.flt
  rw [hg] at hx
  exact (List.mem_filter.1 hx).1
theorem Pe.start (b : Bool) (s0 : Cs) (cnt : Nat) : Pe b s0 cnt s0 (plcs (mayB b s0.L) s0.L s0.L.length) [] := by
  refine ⟨⟨plcs_rise _ _ _, fun p => ?_⟩, ⟨fun _ => true, by rw [List.filter_eq_self.2 fun _ _ => rfl]⟩, rfl, Nat.zero_le _⟩
  rw [plcs_mem]
  constructor
  · rintro ⟨_, e, he, hm⟩; exact ⟨e, he, List.mem_of_getElem? he, hm⟩
  · rintro ⟨e, he, _, hm⟩; exact ⟨(List.getElem?_eq_some_iff.1 he).1, e, he, hm⟩
theorem Pe.vic {b : Bool} {s0 s : Cs} {cnt p : Nat} {t : List Nat} {gone : List Ky} (h : Pe b s0 cnt s (p :: t) gone) : ∃ e, s0.L[p]? = some e ∧ e ∈ s.L ∧ vicS s b = some e := by
  obtain ⟨g, hg⟩ := h.flt
  obtain ⟨e, h1, h2, _, h4⟩ := (h.nx.vic hg).2 p t rfl
  exact ⟨e, h1, h2, h4⟩
theorem Pe.next {b : Bool} {s0 s : Cs} {cnt p : Nat} {t next' held : List Nat} {gone : List Ky} {e : En} (hk : KeysOk s0.L) (h : Pe b s0 cnt s (p :: t) gone) (he : s0.L[p]? = some e) (hv : vicS s b = some e) (hl : gone.length < cnt) (hheld : ∀ q, q ∈ held ↔ heldP b s0.L e.d q) (hj : Nj b s0.L (outL s.L e.key) t held next') : Pe b s0 cnt (s.evict e.key) next' (gone ++ [e.key]) := by
  obtain ⟨g, hg⟩ := h.flt
  refine ⟨?_, ?_, ?_, ?_⟩
  · rw [evict_L]
    exact h.nx.next hk h.sub he hheld hj
  · rw [evict_L]
    refine ⟨fun x => !hasK e.key x && g x, ?_⟩
    unfold outL
    rw [hg, List.filter_filter]
  · rw [List.length_append]
    exact evN_more h.run rfl hv
  · rw [List.length_append]
    exact hl
theorem Pe.stop {b : Bool} {s0 s : Cs} {cnt : Nat} {gone : List Ky} (h : Pe b s0 cnt s [] gone) : evN b cnt s0 = (gone, s) := by
  obtain ⟨g, hg⟩ := h.flt
  exact evN_stop h.run rfl ((h.nx.vic hg).1 rfl) h.le
theorem held_mem {b : Bool} {L0 : List En} {d : Int} {q : Nat} : q ∈ heldL (mayB b L0) L0 L0.length d ↔ heldP b L0 d q := by
  unfold heldL heldP
  rw [plcs_mem]
  constructor
  · rintro ⟨_, e, he, hq⟩
    unfold heldQ at hq
    rw [Bool.and_eq_true, decide_eq_true_iff] at hq
    exact ⟨e, he, by simpa using hq.1, hq.2⟩
  · rintro ⟨e, he, h1, h2⟩
    refine ⟨(List.getElem?_eq_some_iff.1 he).1, e, he, ?_⟩
    unfold heldQ
    rw [h1, decide_eq_true h2]; rfl
theorem HdAt.le {w : World} {B B' gh : Nat} {hm : List (Int × Slv)} {hl : Int → List Nat} (h : HdAt w B gh hm hl) (hB : B' ≤ B) : HdAt w B' gh hm hl := ⟨h.map, h.nd, fun x hx => owns_le (h.row x hx) hB, h.no, h.apart⟩
theorem Ev.start {w0 w w1 w3 : World} {p : Nat} {s : Cs} {n : Nat} {F : Nat → Prop} {vo vn : Value} {gh : Nat} {hm : List (Int × Slv)} {nl : List Nat} {hl : Int → List Nat} (h : Ld w0 w p s n F) (hb : Below w.heap.size w w1) (ho : Row7 w1 w.heap.size vo s.L) (so : So w1 w3 gh vn hm nl hl) : Ev w0 w w3 p s n F (New (fun _ => False) w w3) vo s.L vn nl gh hm hl (.slice none 0 0) [] := by
  have hb3 := chainB hb so.below
  have ho3 : Row7 w3 w.heap.size vo s.L := owns_below ho so.below
  refine ⟨(Ei.start h).on hb3, ho3, nxv_of so.nx hb.size, so.hd.le hb.size, so.off, World.ownsRow_nil _ _ _ _, fun k hk => .inr (World.ownsRow.lt ho3 k hk), fun k hk => .inr ⟨Nat.le_trans hb.size (RowI.tag so.nx hk).1, (RowI.tag so.nx hk).2.1⟩, .inr ⟨Nat.le_trans hb.size so.g0, so.hd.map.lt⟩, fun x hx k hk => .inr ⟨Nat.le_trans hb.size (RowI.tag (so.hd.row x hx) hk).1, (RowI.tag (so.hd.row x hx) hk).2.1⟩, fun k hk => (by cases hk)⟩
def slN : Value → Nat
  | .slice _ n _ => n
  | _ => 0
/-- what evict answers -/
def EvR (b : Bool) (s : Cs) (cnt : Nat) (w0 w : World) (p n : Nat) (F : Nat → Prop) (r : Ending) (w' : World) : Prop := ∃ v, r = .returned v ∧ RowK w' w.heap.size v (evN b cnt s).1 ∧ Ldc w0 w w' p (evN b cnt s).2 n F ∧ Ld w0 w' p (evN b cnt s).2 n (fun k => F k ∨ v.ownBlock = some k)
theorem Ev.fin {b : Bool} {w0 w wr : World} {p : Nat} {s0 s : Cs} {n cnt : Nat} {F G : Nat → Prop} {vo : Value} {L0 : List En} {vn : Value} {next : List Nat} {gh : Nat} {hm : List (Int × Slv)} {hl : Int → List Nat} {vg : Value} {gone : List Ky} (h : Ev w0 w wr p s n F G vo L0 vn next gh hm hl vg gone) (he : evN b cnt s0 = (gone, s)) : EvR b s0 cnt w0 w p n F (.returned vg) wr :=
  ⟨vg, rfl, by rw [he]; exact h.gn, by rw [he]; exact h.ei.ldc, by rw [he]; exact h.ei.ld.mono (fun k hk => hk.imp id (h.mg k)) (Nat.le_refl _)⟩
end
end Go.Proofs.Ytabdicbmecgogaa
