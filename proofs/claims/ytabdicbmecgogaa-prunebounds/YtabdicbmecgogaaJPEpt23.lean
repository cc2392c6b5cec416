/- Lists compared, of any length; keys, entries and calls among the arguments by value. -/
import Derived.Test.YtabdicbmecgogaaJPEpt22
namespace Go.Proofs.Ytabdicbmecgogaa
section
section
open Go.RowKit
attribute [local go_sem high] eqK neqK eqE neqE eqN neqN guardK guardE guardN
set_option maxHeartbeats 4000000 in
theorem sameE_big (v v' : Value) (l l' : List En) (base base' : Nat) (w : World) (h : Row7 w base v l) (h' : Row7 w base' v' l') (hl : l.length ≤ 140737488351232) (hl' : l'.length ≤ 140737488351232) :
    Calls Try.prog 38 #[v, v'] w fun e w' => e = .returned (.bool (sameEs l l')) ∧ Below w.heap.size w w' := by
  obtain ⟨a, cap, rfl⟩ := owns_len h
  obtain ⟨a', cap', rfl⟩ := owns_len h'
  by_cases hn : l.length = l'.length
  · obtain ⟨n, hn1⟩ : ∃ n, l.length = n := ⟨_, rfl⟩
    have hn2 : l'.length = n := by omega
    rw [hn1] at hl
    have HC : Hid (Row7 w base (.slice a n cap) l ∧ Row7 w base' (.slice a' n cap') l' ∧ l.length = n ∧ l'.length = n) := ⟨by rw [← hn1]; exact h, by rw [← hn2]; exact h', hn1, hn2⟩
    rw [hn1, hn2]
    clear h h' hn hn1 hn2 hl'
    go_enter Try.func38, Try.ntmps38
    go_wp2
    go_loopw [5] (fun i wr => ∃ k : Nat, k ≤ n ∧ i = .int .i64 k ∧ l.take k = l'.take k ∧ Below w.heap.size w wr) (fun i _ => n - (intOf i).toNat)
    case atStart => exact ⟨0, Nat.zero_le _, rfl, rfl, Below.refl _ _⟩
    case round =>
      obtain ⟨k, hk, rfl, ht, hb⟩ := hrel
      by_cases hlt : k < n
      · obtain ⟨e, he⟩ : ∃ x, l[k]? = some x := ⟨_, List.getElem?_eq_getElem (by rw [HC.out.2.2.1]; exact hlt)⟩
        obtain ⟨f, hf⟩ : ∃ x, l'[k]? = some x := ⟨_, List.getElem?_eq_getElem (by rw [HC.out.2.2.2]; exact hlt)⟩
        obtain ⟨g, rfl, -, -, -, hc, -⟩ := owns_entry (HC.out.1.below hb) he
        obtain ⟨g', rfl, -, -, -, hc', -⟩ := owns_entry (HC.out.2.1.below hb) hf
        have x0 := hc.c0
        have x1 := hc.c1
        have x2 := hc.c2
        have x3 := hc.c3
        have x4 := hc.c4
        have x5 := hc.c5
        have x6 := hc.c6
        have y0 := hc'.c0
        have y1 := hc'.c1
        have y2 := hc'.c2
        have y3 := hc'.c3
        have y4 := hc'.c4
        have y5 := hc'.c5
        have y6 := hc'.c6
        have hki : (k : Int) < (n : Int) := by omega
        by_cases hxx : e = f
        · have HT : Hid (l.take (k + 1) = l'.take (k + 1)) := take_snocE ht he (hxx ▸ hf)
          subst hxx
          obtain ⟨e0, e1, e2, e3, e4, e5, e6⟩ := e
          have heq : eqEn ⟨e0, e1, e2, e3, e4, e5, e6⟩ ⟨e0, e1, e2, e3, e4, e5, e6⟩ = true := (eqEn_iff _ _).2 rfl
          clear he hf ht hc hc'
          go_upto_region 6 with fail
          go_quiet (fail)
          go_wp2
          exact ⟨⟨k + 1, by omega, by simp, HT.out, below_drewN hb _⟩, by simp [intOf]; omega⟩
        · have HE : Hid (sameEs l l' = false) := sameEs_no (by rintro rfl; rw [he] at hf; exact hxx (Option.some.inj hf))
          obtain ⟨e0, e1, e2, e3, e4, e5, e6⟩ := e
          obtain ⟨f0, f1, f2, f3, f4, f5, f6⟩ := f
          have hne : eqEn ⟨e0, e1, e2, e3, e4, e5, e6⟩ ⟨f0, f1, f2, f3, f4, f5, f6⟩ = false := eqEn_no hxx
          clear he hf ht hc hc' hxx
          go_upto_region 6 with fail
          go_quiet (fail)
          go_wp2
          go_ret
          exact ⟨by rw [HE.out]; rfl, below_drewN hb _⟩
      · have hkl : k = n := by omega
        subst hkl
        have HE : Hid (sameEs l l' = true) := (sameEs_iff l l').2 (take_eqE ht HC.out.2.2.1.symm HC.out.2.2.2.symm)
        clear ht
        go_wp2
        go_ret
        exact ⟨by rw [HE.out]; rfl, hb⟩
  · have HE : Hid (sameEs l l' = false) := sameEs_no (by rintro rfl; exact hn rfl)
    have hne : ((l.length : Int) != (l'.length : Int)) = true := by simp; omega
    clear h h'
    go_enter Try.func38, Try.ntmps38
    go_wp2
    go_ret
    exact ⟨by rw [HE.out]; rfl, Below.refl _ _⟩
theorem sameE_yes (v v' : Value) (l : List En) (base base' : Nat) (w : World) (h : Row7 w base v l) (h' : Row7 w base' v' l) (hl : l.length ≤ 140737488351232) : Calls Try.prog 38 #[v, v'] w fun e w' => e = .returned (.bool true) ∧ Below w.heap.size w w' := by
  have := sameE_big v v' l l base base' w h h' hl hl
  rw [(sameEs_iff l l).2 rfl] at this; exact this
end
section
open Go.ChangeShapes Go.WideShapes Go.ChangeAt Go.RowKit Go.Joins
set_option maxRecDepth 100000 in
theorem key_arg {H : Type} {enc : TypeId × Value → H} {W : World} {r : Reach} {b0 : Nat} {v : Value} {d : DataW H} {ps : List MemPlace} (hv : Value.okWide Try.prog W r b0 28 v) (h : DataW.Trod enc Try.prog W 0 (fun _ => true) true 28 v d ps) : ∃ k : Ky, v = .agg #[.int .i64 k.d, .string k.nm] := by
  obtain ⟨cs, rfl, hsz⟩ := okWide_struct Try.underlying28 hv
  obtain ⟨fuel, hf⟩ := h
  obtain ⟨p, hp⟩ := ky_of hf
  refine ⟨p, ?_⟩
  have e : (Value.agg cs).cells.toList = cs.toList := rfl
  rw [e] at hp
  have : cs = #[.int .i64 p.d, .string p.nm] := Array.toList_inj.1 hp
  rw [this]
set_option maxRecDepth 100000 in
theorem ent_arg {H : Type} {enc : TypeId × Value → H} {W : World} {r : Reach} {b0 : Nat} {v : Value} {d : DataW H} {ps : List MemPlace} (hv : Value.okWide Try.prog W r b0 47 v) (h : DataW.Trod enc Try.prog W 0 (fun _ => true) true 47 v d ps) : ∃ e : En, v = e.agg := by
  obtain ⟨cs, rfl, hsz⟩ := okWide_struct Try.underlying47 hv
  obtain ⟨fuel, hf⟩ := h
  obtain ⟨p, hp⟩ := en_of hf
  refine ⟨p, ?_⟩
  have e : (Value.agg cs).cells.toList = cs.toList := rfl
  rw [e] at hp
  have : cs = p.vals.toArray := Array.toList_inj.1 (by rw [hp])
  rw [this]; rfl
set_option maxRecDepth 100000 in
theorem dop_arg {H : Type} {enc : TypeId × Value → H} {W : World} {r : Reach} {b0 : Nat} {v : Value} {d : DataW H} {ps : List MemPlace} (hv : Value.okWide Try.prog W r b0 54 v) (h : DataW.Trod enc Try.prog W 0 (fun _ => true) true 54 v d ps) (hw : ∀ n ∈ d.weights Try.prog 54, n ≤ reachBytes) : ∃ x : DOp, v = x.agg ∧ ArgK W x.vk x.ks := by
  obtain ⟨cs, rfl, hsz⟩ := okWide_struct Try.underlying54 hv
  obtain ⟨fuel, hf⟩ := h
  obtain ⟨p, hp, hk⟩ := dop_of hf hw
  refine ⟨p, ?_, hk⟩
  have e : (Value.agg cs).cells.toList = cs.toList := rfl
  rw [e] at hp
  have : cs = p.vals.toArray := Array.toList_inj.1 (by rw [hp])
  rw [this]; rfl
end
open Go.RowKit
/-- a law's cache told anew from an earlier world -/
theorem Ld.up {w0 w wr : World} {p : Nat} {s : Cs} {n : Nat} {F : Nat → Prop} (h : Ld w wr p s n F) (hb : Below w0.heap.size w0 w) : Ld w0 wr p s n (fun b => F b ∨ b < w.heap.size) := by
  obtain ⟨c, h1, h2, h3, h4⟩ := h.ex
  have hs := h.below.size
  refine ⟨⟨c, h1, h2, h3, fun k hk => ⟨Nat.le_trans hb.size (h4 k hk).1, fun e => ?_⟩⟩, ⟨h.below.os.trans hb.os, h.below.tape.trans hb.tape, h.below.output.trans hb.output, Nat.le_trans hb.size hs, fun k hk => (h.below.block k (Nat.lt_of_lt_of_le hk hb.size)).trans (hb.block k hk)⟩, h.nn, fun k hk => ?_, h.len⟩
  · rcases e with e | e
    · exact (h4 k hk).2 e
    · have := (h4 k hk).1; omega
  · rcases hk with hk | hk
    · exact h.fl k hk
    · omega
end
section
open Go.RowKit
attribute [local go_sem ↓ high] loadEn storeEn

def idxE (p : En → Bool) (l : List En) : Int := match l.findIdx? p with | some i => i | none => -1
theorem idxE_hit {p : En → Bool} {l : List En} {k : Nat} {x : En} (hx : l[k]? = some x) (hp : p x = true) (hno : ∀ y ∈ l.take k, p y = false) : idxE p l = k := by
  have hk : k < l.length := (List.getElem?_eq_some_iff.1 hx).1
  have he : l[k] = x := (List.getElem?_eq_some_iff.1 hx).2
  have : l.findIdx? p = some k := by
    rw [List.findIdx?_eq_some_iff_getElem]
    refine ⟨hk, by rw [he]; exact hp, fun j hj => ?_⟩
    have := hno l[j] (List.mem_take_iff_getElem.2 ⟨j, by omega, rfl⟩)
    simpa using this
  unfold idxE
  rw [this]
theorem idxE_miss {p : En → Bool} {l : List En} (h : ∀ y ∈ l, p y = false) : idxE p l = -1 := by
  have : l.findIdx? p = none := by
    rw [List.findIdx?_eq_none_iff]
    exact h
  unfold idxE
  rw [this]
theorem may1_p (x : En) (w : World) : Calls Try.prog 53 #[x.agg] w fun r w' => r = .returned (.bool x.neg) ∧ Below w.heap.size w w' := by
  obtain ⟨W, hW⟩ : ∃ W, w.alloc (.cells x.vals.toArray 47) = W := ⟨_, rfl⟩
  have b := boxO hW
  have c2 := (cells7_of b.1).c2
  simp only [Nat.zero_add] at c2
  have HB : Hid (Below w.heap.size w W) := b.2.1
  rw [show x.agg = .agg x.vals.toArray from rfl]
  clear b
  go_enter Try.func53, Try.ntmps53
  go_wp2
  go_ret
  exact ⟨rfl, HB.out⟩
theorem may2_p (x : En) (g p : Nat) (c : Pc) (s : Cs) (w : World) (hg : w.heap[g]? = some (.cells #[.pointer (some ⟨p, 0, none⟩)] 23 (0, 0))) (h : IsC w p c) (hs : Says c s) : Calls Try.prog 54 #[x.agg, .pointer (some ⟨g, 0, none⟩)] w fun r w' => r = .returned (.bool (leafB s.L x.key)) ∧ Below w.heap.size w w' := by
  obtain ⟨W, hW⟩ : ∃ W, w.alloc (.cells x.vals.toArray 47) = W := ⟨_, rfl⟩
  have b := boxO hW
  have c0 := (cells7_of b.1).c0
  have c1 := (cells7_of b.1).c1
  simp only [Nat.zero_add] at c0 c1
  have q0 : W.cell? ⟨g, 0, none⟩ = some (.pointer (some ⟨p, 0, none⟩)) := by rw [cell_of (hkeep hg b.2.1)]; rfl
  have HL : Hid (Calls Try.prog 41 #[.pointer (some ⟨p, 0, none⟩), .agg #[.int .i64 x.d, .string x.nm]] W fun r w' => r = .returned (.bool (leafB s.L x.key)) ∧ Below W.heap.size W w') := leaf_p p c s x.key W (h.below b.2.1) hs
  have HB : Hid (Below w.heap.size w W) := b.2.1
  rw [show x.agg = .agg x.vals.toArray from rfl]
  clear b hg h hs
  go_enter Try.func54, Try.ntmps54
  go_wp2_with (go_at_call 41; refine HL.out.mono ?_; rintro r w1 ⟨rfl, hb⟩; have H1 : Hid (Below w.heap.size w w1) := chainB HB.out hb; clear hb)
  go_ret
  exact ⟨rfl, H1.out⟩
set_option maxRecDepth 20000 in
set_option maxHeartbeats 4000000 in
theorem index1_p (p : En → Bool) (v : Value) (B : Nat) (l : List En) (w : World) (h : Row7 w B v l) (hl : l.length ≤ 1400000000000) (hp : ∀ W (x : En), Below w.heap.size w W → Calls Try.prog 53 #[x.agg] W fun r w' => r = .returned (.bool (p x)) ∧ Below W.heap.size W w') :
    Calls Try.prog 32 #[v, .func (.func 53) #[] #[]] w fun r w' => r = .returned (.int .i64 (idxE p l)) ∧ Below w.heap.size w w' := by
  obtain ⟨a, cap, rfl⟩ := owns_len h
  obtain ⟨n, hn⟩ : ∃ n, l.length = n := ⟨_, rfl⟩
  have HR : Hid (Row7 w B (.slice a n cap) l ∧ l.length = n) := ⟨by rw [← hn]; exact h, hn⟩
  have HP : Hid (∀ W (x : En), Below w.heap.size w W → Calls Try.prog 53 #[x.agg] W fun r w' => r = .returned (.bool (p x)) ∧ Below W.heap.size W w') := hp
  rw [hn] at hl ⊢
  clear h hn hp
  go_enter Try.func32, Try.ntmps32
  go_wp2
  go_loopw [8] (fun i wr => ∃ k : Nat, k ≤ n ∧ i = .int .i64 k ∧ Hid ((∀ x ∈ l.take k, p x = false) ∧ Below w.heap.size w wr)) (fun i _ => n - (intOf i).toNat)
  case atStart => exact ⟨0, Nat.zero_le _, rfl, fun x hx => by simp at hx, Below.refl _ _⟩
  case round =>
    obtain ⟨k, hk, rfl, HJ⟩ := hrel
    by_cases hlt : k < n
    · have hltz : (k : Int) < (n : Int) := by omega
      obtain ⟨x, hx⟩ : ∃ x, l[k]? = some x := ⟨_, List.getElem?_eq_getElem (by rw [HR.out.2]; exact hlt)⟩
      obtain ⟨g, rfl, -, -, -, hc, -⟩ := owns_entry (HR.out.1.below HJ.out.2) hx
      have hld := enLd_at hc
      have HPx : Hid (Calls Try.prog 53 #[x.agg] wr fun r w' => r = .returned (.bool (p x)) ∧ Below wr.heap.size wr w') := HP.out wr x HJ.out.2
      obtain ⟨b, hb⟩ : ∃ b, p x = b := ⟨_, rfl⟩
      rw [hb] at HPx
      have Hx : Hid (l[k]? = some x ∧ p x = b) := ⟨hx, hb⟩
      clear hx hb hc
      cases b with
      | true =>
        have HE : Hid (idxE p l = k) := idxE_hit Hx.out.1 Hx.out.2 HJ.out.1
        go_wp2_with (go_at_call 53; refine HPx.out.mono ?_; rintro r w1 ⟨rfl, hb⟩; have H1 : Hid (Below w.heap.size w w1) := chainB HJ.out.2 hb; clear hb)
        go_ret
        exact ⟨by rw [HE.out]; rfl, H1.out⟩
      | false =>
        have HE : Hid (∀ y ∈ l.take (k + 1), p y = false) := fun y hy => by
          rw [List.take_add_one, Hx.out.1, List.mem_append] at hy
          rcases hy with hy | hy
          · exact HJ.out.1 y hy
          · simp at hy; rw [hy]; exact Hx.out.2
        go_wp2_with (go_at_call 53; refine HPx.out.mono ?_; rintro r w1 ⟨rfl, hb⟩; have H1 : Hid (Below w.heap.size w w1) := chainB HJ.out.2 hb; clear hb)
        go_roundw
        case rel => exact ⟨k + 1, by omega, rfl, HE.out, H1.out⟩
        case measure => simp [intOf]; omega
    · obtain rfl : k = n := by omega
      have hltz : ¬ (k : Int) < (k : Int) := by omega
      have HE : Hid (idxE p l = -1 ∧ Below w.heap.size w wr) := ⟨idxE_miss fun y hy => HJ.out.1 y (by rw [List.take_of_length_le (by rw [HR.out.2]; exact Nat.le_refl _)]; exact hy), HJ.out.2⟩
      clear HJ
      go_wp2
      go_ret
      exact ⟨by rw [HE.out.1]; rfl, HE.out.2⟩
set_option maxRecDepth 20000 in
set_option maxHeartbeats 4000000 in
theorem index2_p (p : En → Bool) (gc : Nat) (v : Value) (B : Nat) (l : List En) (w : World) (h : Row7 w B v l) (hl : l.length ≤ 1400000000000) (hp : ∀ W (x : En), Below w.heap.size w W → Calls Try.prog 54 #[x.agg, .pointer (some ⟨gc, 0, none⟩)] W fun r w' => r = .returned (.bool (p x)) ∧ Below W.heap.size W w') :
    Calls Try.prog 32 #[v, .func (.func 54) #[] #[.pointer (some ⟨gc, 0, none⟩)]] w fun r w' => r = .returned (.int .i64 (idxE p l)) ∧ Below w.heap.size w w' := by
  obtain ⟨a, cap, rfl⟩ := owns_len h
  obtain ⟨n, hn⟩ : ∃ n, l.length = n := ⟨_, rfl⟩
  have HR : Hid (Row7 w B (.slice a n cap) l ∧ l.length = n) := ⟨by rw [← hn]; exact h, hn⟩
  have HP : Hid (∀ W (x : En), Below w.heap.size w W → Calls Try.prog 54 #[x.agg, .pointer (some ⟨gc, 0, none⟩)] W fun r w' => r = .returned (.bool (p x)) ∧ Below W.heap.size W w') := hp
  rw [hn] at hl ⊢
  clear h hn hp
  go_enter Try.func32, Try.ntmps32
  go_wp2
  go_loopw [8] (fun i wr => ∃ k : Nat, k ≤ n ∧ i = .int .i64 k ∧ Hid ((∀ x ∈ l.take k, p x = false) ∧ Below w.heap.size w wr)) (fun i _ => n - (intOf i).toNat)
  case atStart => exact ⟨0, Nat.zero_le _, rfl, fun x hx => by simp at hx, Below.refl _ _⟩
  case round =>
    obtain ⟨k, hk, rfl, HJ⟩ := hrel
    by_cases hlt : k < n
    · have hltz : (k : Int) < (n : Int) := by omega
      obtain ⟨x, hx⟩ : ∃ x, l[k]? = some x := ⟨_, List.getElem?_eq_getElem (by rw [HR.out.2]; exact hlt)⟩
      obtain ⟨g, rfl, -, -, -, hc, -⟩ := owns_entry (HR.out.1.below HJ.out.2) hx
      have hld := enLd_at hc
      have HPx : Hid (Calls Try.prog 54 #[x.agg, .pointer (some ⟨gc, 0, none⟩)] wr fun r w' => r = .returned (.bool (p x)) ∧ Below wr.heap.size wr w') := HP.out wr x HJ.out.2
      obtain ⟨b, hb⟩ : ∃ b, p x = b := ⟨_, rfl⟩
      rw [hb] at HPx
      have Hx : Hid (l[k]? = some x ∧ p x = b) := ⟨hx, hb⟩
      clear hx hb hc
      cases b with
      | true =>
        have HE : Hid (idxE p l = k) := idxE_hit Hx.out.1 Hx.out.2 HJ.out.1
        go_wp2_with (go_at_call 54; refine HPx.out.mono ?_; rintro r w1 ⟨rfl, hb⟩; have H1 : Hid (Below w.heap.size w w1) := chainB HJ.out.2 hb; clear hb)
        go_ret
        exact ⟨by rw [HE.out]; rfl, H1.out⟩
      | false =>
        have HE : Hid (∀ y ∈ l.take (k + 1), p y = false) := fun y hy => by
          rw [List.take_add_one, Hx.out.1, List.mem_append] at hy
          rcases hy with hy | hy
          · exact HJ.out.1 y hy
          · simp at hy; rw [hy]; exact Hx.out.2
        go_wp2_with (go_at_call 54; refine HPx.out.mono ?_; rintro r w1 ⟨rfl, hb⟩; have H1 : Hid (Below w.heap.size w w1) := chainB HJ.out.2 hb; clear hb)
        go_roundw
        case rel => exact ⟨k + 1, by omega, rfl, HE.out, H1.out⟩
        case measure => simp [intOf]; omega
    · obtain rfl : k = n := by omega
      have hltz : ¬ (k : Int) < (k : Int) := by omega
      have HE : Hid (idxE p l = -1 ∧ Below w.heap.size w wr) := ⟨idxE_miss fun y hy => HJ.out.1 y (by rw [List.take_of_length_le (by rw [HR.out.2]; exact Nat.le_refl _)]; exact hy), HJ.out.2⟩
      clear HJ
      go_wp2
      go_ret
      exact ⟨by rw [HE.out.1]; rfl, HE.out.2⟩
end
end Go.Proofs.Ytabdicbmecgogaa
