/- The laws' helpers: Place, SameKeys, SameBreaks. -/
import Derived.Test.YtaofhjckliobpaaVoR
namespace Go.Proofs.Ytaofhjckliobpaa
open Go.RowKit Go.Shelf Go.Sort
attribute [local go_sem high] eqK neqK guardK run_store_complex

def pl (v : Int) (n : Nat) : Nat := (if v.tmod n < 0 then v.tmod n + n else v.tmod n).toNat
theorem pl_lt (v : Int) (n : Nat) (h : 1 ≤ n) : pl v n < n := by
  have h1 := Int.tmod_lt_of_pos v (show (0 : Int) < n by omega)
  have h2 := Int.lt_tmod_of_pos v (show (0 : Int) < n by omega)
  unfold pl
  split <;> omega
theorem place_any (v : Int) (n : Nat) (w : World) (h : 1 ≤ n) (h2 : n ≤ 1024) :
    Calls Try.prog 12 #[.int .i64 v, .int .i64 n] w fun e w' => e = .returned (.int .i64 (pl v n)) ∧ w' = w := by
  have b1 := Int.tmod_lt_of_pos v (show (0 : Int) < n by omega)
  have b2 := Int.lt_tmod_of_pos v (show (0 : Int) < n by omega)
  by_cases hm : v.tmod n < 0
  · have e : (pl v n : Int) = v.tmod n + n := by unfold pl; rw [if_pos hm]; omega
    rw [e]
    clear e
    go_enter Try.func12, Try.ntmps12
    go_wp2
    go_ret
    exact ⟨rfl, rfl⟩
  · have e : (pl v n : Int) = v.tmod n := by unfold pl; rw [if_neg hm]; omega
    rw [e]
    clear e
    go_enter Try.func12, Try.ntmps12
    go_wp2
    go_ret
    exact ⟨rfl, rfl⟩

/-- are two lists the same -/
def sameKs : List Ky → List Ky → Bool
  | [], [] => true
  | a :: l, b :: m => eqKy a b && sameKs l m
  | _, _ => false
theorem sameKs_iff : ∀ (l m : List Ky), sameKs l m = true ↔ l = m
  | [], [] => by simp [sameKs]
  | [], b :: m => by simp [sameKs]
  | a :: l, [] => by simp [sameKs]
  | a :: l, b :: m => by rw [sameKs, Bool.and_eq_true, sameKs_iff l m, eqKy_iff]; simp
theorem sameKs_no {l m : List Ky} (h : ¬ l = m) : sameKs l m = false := by
  cases k : sameKs l m with
  | false => rfl
  | true => exact absurd ((sameKs_iff l m).1 k) h
theorem take_eqL {α : Type} {l l' : List α} {k : Nat} (h : l.take k = l'.take k) (hk : k = l.length) (hk' : k = l'.length) : l = l' := by
  rw [List.take_of_length_le (by omega), List.take_of_length_le (by omega)] at h; exact h
theorem take_snocL {α : Type} {l l' : List α} {k : Nat} {x : α} (h : l.take k = l'.take k) (h1 : l[k]? = some x) (h2 : l'[k]? = some x) : l.take (k + 1) = l'.take (k + 1) := by
  rw [List.take_add_one, List.take_add_one, h, h1, h2]
set_option maxHeartbeats 4000000 in
theorem sameK_any (v v' : Value) (l l' : List Ky) (w : World) (h : RdK w v l) (h' : RdK w v' l') (hl : l.length ≤ 10000000000000) (hl' : l'.length ≤ 10000000000000) :
    Calls Try.prog 27 #[v, v'] w fun e w' => e = .returned (.bool (sameKs l l')) ∧ Below w.heap.size w w' := by
  obtain ⟨a, cap, rfl⟩ := h.form
  obtain ⟨a', cap', rfl⟩ := h'.form
  by_cases hn : l.length = l'.length
  · obtain ⟨n, hn1⟩ : ∃ n, l.length = n := ⟨_, rfl⟩
    have hn2 : l'.length = n := by omega
    rw [hn1] at hl
    have HC : Hid (RdK w (.slice a n cap) l ∧ RdK w (.slice a' n cap') l' ∧ l.length = n ∧ l'.length = n) := ⟨by rw [← hn1]; exact h, by rw [← hn2]; exact h', hn1, hn2⟩
    rw [hn1, hn2]
    clear h h' hn hn1 hn2 hl'
    go_enter Try.func27, Try.ntmps27
    go_wp2
    go_loopw [5] (fun i wr => ∃ k : Nat, k ≤ n ∧ i = .int .i64 k ∧ l.take k = l'.take k ∧ Below w.heap.size w wr) (fun i _ => n - (intOf i).toNat)
    case atStart => exact ⟨0, Nat.zero_le _, rfl, rfl, Below.refl _ _⟩
    case round =>
      obtain ⟨k, hk, rfl, ht, hb⟩ := hrel
      by_cases hlt : k < n
      · obtain ⟨e, he⟩ : ∃ x, l[k]? = some x := ⟨_, List.getElem?_eq_getElem (by rw [HC.out.2.2.1]; exact hlt)⟩
        obtain ⟨f, hf⟩ : ∃ x, l'[k]? = some x := ⟨_, List.getElem?_eq_getElem (by rw [HC.out.2.2.2]; exact hlt)⟩
        obtain ⟨g, off, rfl, -, x0, x1⟩ := (HC.out.1.below hb).key he
        obtain ⟨g', off', rfl, -, y0, y1⟩ := (HC.out.2.1.below hb).key hf
        have hki : (k : Int) < (n : Int) := by omega
        by_cases hxx : e = f
        · have HT : Hid (l.take (k + 1) = l'.take (k + 1)) := take_snocL ht he (hxx ▸ hf)
          subst hxx
          have hself := eqKy_self e
          clear he hf ht
          go_upto_region 6 with fail
          go_quiet (fail)
          go_wp2
          exact ⟨⟨k + 1, by omega, by simp, HT.out, below_drewN hb _⟩, by simp [intOf]; omega⟩
        · have HE : Hid (sameKs l l' = false) := sameKs_no (by rintro rfl; rw [he] at hf; exact hxx (Option.some.inj hf))
          have hne : eqKy e f = false := eqKy_no hxx
          clear he hf ht hxx
          go_upto_region 6 with fail
          go_quiet (fail)
          go_wp2
          go_ret
          exact ⟨by rw [HE.out]; rfl, below_drewN hb _⟩
      · have hkl : k = n := by omega
        subst hkl
        have HE : Hid (sameKs l l' = true) := (sameKs_iff l l').2 (take_eqL ht HC.out.2.2.1.symm HC.out.2.2.2.symm)
        clear ht
        go_wp2
        go_ret
        exact ⟨by rw [HE.out]; rfl, hb⟩
  · have HE : Hid (sameKs l l' = false) := sameKs_no (by rintro rfl; exact hn rfl)
    have hne : ((l.length : Int) != (l'.length : Int)) = true := by simp; omega
    clear h h'
    go_enter Try.func27, Try.ntmps27
    go_wp2
    go_ret
    exact ⟨by rw [HE.out]; rfl, Below.refl _ _⟩

/-- breaks that a slice reads as, wherever it lies -/
def RdB (w : World) (v : Value) (bs : List Br) : Prop :=
  (∃ a cap, v = .slice a bs.length cap ∧ ((a = none ∧ bs = []) ∨ ∃ g off, a = some ⟨g, off, none⟩ ∧ g < w.heap.size ∧ ∀ j u, (bc bs)[j]? = some u → w.cell? ⟨g, off + j, none⟩ = some u)) ∧ ∀ b ∈ bs, RdK w b.v b.ks ∧ b.ks.length * 24 ≤ LK
theorem RdB.form {w : World} {v : Value} {bs : List Br} (h : RdB w v bs) : ∃ a cap, v = .slice a bs.length cap := by
  obtain ⟨⟨a, cap, e, _⟩, _⟩ := h
  exact ⟨a, cap, e⟩
theorem RdB.below {w w' : World} {v : Value} {bs : List Br} (h : RdB w v bs) (hb : Below w.heap.size w w') : RdB w' v bs := by
  obtain ⟨⟨a, cap, rfl, h⟩, he⟩ := h
  refine ⟨⟨a, cap, rfl, ?_⟩, fun b hm => ⟨(he b hm).1.below hb, (he b hm).2⟩⟩
  rcases h with h | ⟨g, off, rfl, hg, hc⟩
  · exact .inl h
  · exact .inr ⟨g, off, rfl, Nat.lt_of_lt_of_le hg hb.size, fun j u hu => (hb.cell (p := ⟨g, off + j, none⟩) hg).trans (hc j u hu)⟩
theorem Brs.rd {w : World} {base : Nat} {v : Value} {bs : List Br} (h : Brs w base v bs) (hl : ∀ b ∈ bs, b.ks.length * 24 ≤ LK) : RdB w v bs := by
  refine ⟨?_, fun b hb => ⟨(h.each b hb).rd, hl b hb⟩⟩
  rcases h.row.2 with ⟨rfl, h2⟩ | ⟨g, cap, cur, rfl, hg, hh, r⟩
  · obtain rfl := List.length_eq_zero_iff.1 h2
    exact ⟨none, 0, rfl, .inl ⟨rfl, rfl⟩⟩
  · refine ⟨_, _, rfl, .inr ⟨g, 0, rfl, (Array.getElem?_eq_some_iff.1 hh).1, fun j u hu => ?_⟩⟩
    obtain ⟨hc, _⟩ := owns_cells h.row
    rw [Nat.zero_add]; exact hc j u hu
theorem RdB.brk {w : World} {n cap i : Nat} {a : Option Addr} {bs : List Br} {p : Br} (h : RdB w (.slice a n cap) bs) (hi : bs[i]? = some p) : ∃ g off, a = some ⟨g, off, none⟩ ∧ g < w.heap.size ∧ w.cell? ⟨g, off + i * 4, none⟩ = some (.complex .f64 p.a p.b) ∧ w.cell? ⟨g, off + i * 4 + 1, none⟩ = some (.int .i64 p.ver) ∧ w.cell? ⟨g, off + i * 4 + 2, none⟩ = some (.bool p.all) ∧ w.cell? ⟨g, off + i * 4 + 3, none⟩ = some (.slice p.va p.vn p.vc) := by
  obtain ⟨⟨a', cap', e, h⟩, _⟩ := h
  cases e
  rcases h with ⟨_, rfl⟩ | ⟨g, off, rfl, hg, hc⟩
  · simp at hi
  · obtain ⟨l0, l1, l2, l3⟩ := bc_get bs i p hi
    exact ⟨g, off, rfl, hg, hc _ _ l0, by rw [Nat.add_assoc]; exact hc _ _ l1, by rw [Nat.add_assoc]; exact hc _ _ l2, by rw [Nat.add_assoc]; exact hc _ _ l3⟩
theorem mk_eq {a b c d : Nat} {e n m : Int} (h : Mk a b e n) (k : Mk c d e m) : FloatKind.f64.format.order a c = some .eq ∧ FloatKind.f64.format.order b d = some (compare n m) :=
  ⟨by rw [order_whole h.ha k.ha, cmp_eq rfl], order_whole h.hb k.hb⟩
theorem keep8 {W W' : World} {a b c d e f g h : Addr} {u1 u2 u3 u4 u5 u6 u7 u8 : Value} (x : W.cell? a = some u1 ∧ W.cell? b = some u2 ∧ W.cell? c = some u3 ∧ W.cell? d = some u4 ∧ W.cell? e = some u5 ∧ W.cell? f = some u6 ∧ W.cell? g = some u7 ∧ W.cell? h = some u8) (hb : Below W.heap.size W W') :
    W'.cell? a = some u1 ∧ W'.cell? b = some u2 ∧ W'.cell? c = some u3 ∧ W'.cell? d = some u4 ∧ W'.cell? e = some u5 ∧ W'.cell? f = some u6 ∧ W'.cell? g = some u7 ∧ W'.cell? h = some u8 := by
  obtain ⟨x1, x2, x3, x4, x5, x6, x7, x8⟩ := x
  exact ⟨(hb.cell (cellLt x1)).trans x1, (hb.cell (cellLt x2)).trans x2, (hb.cell (cellLt x3)).trans x3, (hb.cell (cellLt x4)).trans x4, (hb.cell (cellLt x5)).trans x5, (hb.cell (cellLt x6)).trans x6, (hb.cell (cellLt x7)).trans x7, (hb.cell (cellLt x8)).trans x8⟩
set_option maxHeartbeats 4000000 in
/-- breaks that say the same are the same -/
theorem sameB_yes (v v' : Value) (l l' : List Br) (e : Int) (w : World) (h : RdB w v l) (h' : RdB w v' l') (hl : l.length ≤ 1000) (hm : ∀ b ∈ l, Mk b.a b.b e (part b.b)) (hm' : ∀ b ∈ l', Mk b.a b.b e (part b.b)) (hs : l.map Br.say = l'.map Br.say) :
    Calls Try.prog 16 #[v, v'] w fun x w' => x = .returned (.bool true) ∧ Below w.heap.size w w' := by
  obtain ⟨a, cap, rfl⟩ := h.form
  obtain ⟨a', cap', rfl⟩ := h'.form
  obtain ⟨n, hn1⟩ : ∃ n, l.length = n := ⟨_, rfl⟩
  have hn2 : l'.length = n := by have := congrArg List.length hs; simp at this; omega
  rw [hn1] at hl
  have HC : Hid (RdB w (.slice a n cap) l ∧ RdB w (.slice a' n cap') l' ∧ l.length = n ∧ l'.length = n ∧ (∀ b ∈ l, Mk b.a b.b e (part b.b)) ∧ (∀ b ∈ l', Mk b.a b.b e (part b.b)) ∧ l.map Br.say = l'.map Br.say) := ⟨by rw [← hn1]; exact h, by rw [← hn2]; exact h', hn1, hn2, hm, hm', hs⟩
  rw [hn1, hn2]
  clear h h' hn1 hn2 hm hm' hs
  go_enter Try.func16, Try.ntmps16
  go_wp2
  go_loopw [5] (fun i wr => ∃ k : Nat, k ≤ n ∧ i = .int .i64 k ∧ Hid (Below w.heap.size w wr)) (fun i _ => n - (intOf i).toNat)
  case atStart => exact ⟨0, Nat.zero_le _, rfl, Below.refl _ _⟩
  case round =>
    obtain ⟨k, hk, rfl, HB⟩ := hrel
    by_cases hlt : k < n
    · obtain ⟨x, hx⟩ : ∃ x, l[k]? = some x := ⟨_, List.getElem?_eq_getElem (by rw [HC.out.2.2.1]; exact hlt)⟩
      obtain ⟨y, hy⟩ : ∃ x, l'[k]? = some x := ⟨_, List.getElem?_eq_getElem (by rw [HC.out.2.2.2.1]; exact hlt)⟩
      obtain ⟨g, off, rfl, -, x0, x1, x2, x3⟩ := (HC.out.1.below HB.out).brk hx
      obtain ⟨g', off', rfl, -, y0, y1, y2, y3⟩ := (HC.out.2.1.below HB.out).brk hy
      have hxy : x.say = y.say := by
        have h1 : (l.map Br.say)[k]? = some x.say := by rw [List.getElem?_map, hx]; rfl
        have h2 : (l'.map Br.say)[k]? = some y.say := by rw [List.getElem?_map, hy]; rfl
        rw [HC.out.2.2.2.2.2.2, h2] at h1
        exact (Option.some.inj h1).symm
      have mx := HC.out.2.2.2.2.1 x (List.mem_of_getElem? hx)
      have my := HC.out.2.2.2.2.2.1 y (List.mem_of_getElem? hy)
      have hnn : part x.b = part y.b := congrArg Bs.n hxy
      have hver : x.ver = y.ver := congrArg Bs.ver hxy
      have hall : x.all = y.all := congrArg Bs.all hxy
      have hks : x.ks = y.ks := congrArg Bs.ks hxy
      obtain ⟨o1, o2⟩ := mk_eq mx my
      rw [hnn, cmp_eq rfl] at o2
      rw [← hver] at y1
      rw [← hall] at y2
      have kx := HC.out.1.2 x (List.mem_of_getElem? hx)
      have ky := HC.out.2.1.2 y (List.mem_of_getElem? hy)
      have HK : Hid (∀ W, Below wr.heap.size wr W → Calls Try.prog 27 #[.slice x.va x.vn x.vc, .slice y.va y.vn y.vc] W fun e w' => e = .returned (.bool true) ∧ Below W.heap.size W w') := fun W hb => by
        have hlx : x.ks.length ≤ 10000000000000 := by have := kx.2; unfold LK at this; omega
        have hly : y.ks.length ≤ 10000000000000 := by rw [← hks]; exact hlx
        have := sameK_any _ _ x.ks y.ks W (kx.1.below (chainB HB.out hb)) (ky.1.below (chainB HB.out hb)) hlx hly
        rw [hks, (sameKs_iff y.ks y.ks).2 rfl] at this
        exact this
      have hki : (k : Int) < (n : Int) := by omega
      clear hx hy hxy mx my hnn hver hall hks kx ky
      go_upto_region 6 with fail
      go_region_held3 (fun w' => w'.cell? ⟨g, off + k * 4, none⟩ = some (.complex .f64 x.a x.b) ∧ w'.cell? ⟨g, off + k * 4 + 1, none⟩ = some (.int .i64 x.ver) ∧ w'.cell? ⟨g, off + k * 4 + 2, none⟩ = some (.bool x.all) ∧ w'.cell? ⟨g, off + k * 4 + 3, none⟩ = some (.slice x.va x.vn x.vc) ∧ w'.cell? ⟨g', off' + k * 4, none⟩ = some (.complex .f64 y.a y.b) ∧ w'.cell? ⟨g', off' + k * 4 + 1, none⟩ = some (.int .i64 x.ver) ∧ w'.cell? ⟨g', off' + k * 4 + 2, none⟩ = some (.bool x.all) ∧ w'.cell? ⟨g', off' + k * 4 + 3, none⟩ = some (.slice y.va y.vn y.vc))
        (first | exact ⟨x0, x1, x2, x3, y0, y1, y2, y3⟩ | exact keep8 ⟨x0, x1, x2, x3, y0, y1, y2, y3⟩ hb1 | assumption)
        (first | (go_at_call 27; refine (HK.out _ (Below.refl _ _).drew).mono ?_; rintro e w1 ⟨rfl, hb0⟩; have hb1 := undrew hb0))
      go_wp2
      exact ⟨⟨k + 1, by omega, by simp, chainB HB.out hb1⟩, by simp [intOf]; omega⟩
    · have hkl : k = n := by omega
      subst hkl
      have hltz : ¬ (k : Int) < (k : Int) := by omega
      go_wp2
      go_ret
      exact ⟨rfl, HB.out⟩
end Go.Proofs.Ytaofhjckliobpaa
