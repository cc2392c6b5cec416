/- The walk of the law MarkSpans: it returns true. -/
import Derived.Test.YtiecakeeekeidabBoxSpec
import Derived.Test.YtiecakeeekeidabLawsD
namespace Go.Proofs.Ytiecakeeekeidab
open Go.RowKit

theorem RowP.below {w w' : World} {a : Option Addr} {n : Nat} {A B : Nat → Int} (h : RowP w a n A B) (hb : Below w.heap.size w w') : RowP w' a n A B := by
  rcases h with h | ⟨b, off, rfl, hs, hc⟩
  · exact .inl h
  · exact .inr ⟨b, off, rfl, Nat.lt_of_lt_of_le hs hb.size, fun i hi => ⟨(hb.cell (by exact hs)).trans (hc i hi).1, (hb.cell (by exact hs)).trans (hc i hi).2.1, (hc i hi).2.2⟩⟩
theorem chain {w W w' : World} (h : Below w.heap.size w W) (hb : Below W.heap.size W w') : Below w.heap.size w w' := h.trans (hb.mono h.size)

theorem order_self {x : Nat} {a : Int} (h : fval x = some a) : FloatKind.f64.format.order x x = some .eq := by
  have := order_val h h
  rw [cmp_eq rfl] at this
  exact this
theorem last_val (F G : Nat → Nat) (n : Nat) : (∃ v, fval (lastRe (lastF F G n)) = some v) ∧ ∃ v, fval (lastIm (lastF F G n)) = some v := by
  cases h : lastF F G n with
  | none => exact ⟨⟨_, val_zero⟩, ⟨_, val_zero⟩⟩
  | some x =>
    obtain ⟨e, m⟩ := x
    have := lastF_bd F G n e m h
    exact ⟨⟨_, ofInt_val e (by omega)⟩, ⟨_, ofInt_val m (by omega)⟩⟩

def ValIs (x : Nat) (E : Int) : Prop := fval x = some (E * U)
theorem val_order (x y : Nat) (E : Int) (hx : ValIs x E) (hy : ValIs y E) : FloatKind.f64.format.order x y = some .eq := by
  have := order_whole hx hy
  rw [cmp_eq rfl] at this
  exact this

theorem last_e (a : Option Addr) (n cap : Nat) (F G : Nat → Nat) (w : World) (o : Option (Int × Int)) (hrow : RowC w a n F G) (hlen : n * 16 ≤ 140737488355328) (hl : lastF F G n = o) :
    Calls Try.prog 18 #[.slice a n cap] w fun e w' => e = .returned (.tuple #[.complex .f64 (lastRe o) (lastIm o), .bool o.isSome]) ∧ w' = w := by
  subst hl; exact last_any a n cap F G w hrow hlen
theorem span_e (a : Option Addr) (n cap : Nat) (F G : Nat → Nat) (w : World) (E N : Int) (hrow : RowC w a n F G) (hlen : n * 16 ≤ 140737488355328) (hE : boxE (boxF F G n) = E) (hN : boxN (boxF F G n) = N) :
    Calls Try.prog 19 #[.slice a n cap] w fun e w' => ∃ x y, e = .returned (.complex .f64 x y) ∧ ValIs x E ∧ ValIs y N ∧ w' = w := by
  subst hE hN; exact span_any a n cap F G w hrow hlen

/-- an append that is done under a guard -/
theorem wpList_append_wanted {P : Program} (w : World) {ops : Array Oper} {rest : List Oper} {o : Oper} {a : Act} {Q : Exit → Act → World → Prop} (hw : Region.wanted o (yielded ops a.tmps) = true) (s x : Operand) (t : TypeId)
    (ho : o.op = .call { callee := .builtin .append, args := #[s, x], argTypes := #[t, t] })
    (base : Nat) (e : TypeId) (i : TypeInfo) (z : Value) (size bytes : Nat) (ht : P.underlying t = some (.slice e)) (hi : P.info? e = some i) (hz : i.zero = some z)
    (hsize : i.size = size) (hby : i.bytes = bytes) (hzs : z.cells.size = size) (hsz : 0 < size)
    (v : Value) (n : Nat) (xs : List Value) (hs : a.eval s = v) (hown : w.ownsRow base e size v n xs)
    (ad : Addr) (m c : Nat) (news : List Value) (hx : a.eval x = .slice (some ad) m c) (hl : news.length = m * size) (hnews : ∀ j u, news[j]? = some u → w.cell? (ad.add j) = some u) (h1 : ∀ u ∈ news, u.oneCell' = true)
    (h63 : n + m ≤ maxLen) (hbytes : (n + m) * bytes ≤ 140737488355328) (hbase : base ≤ w.heap.size)
    (h : ∀ v' w', w'.ownsRow base e size v' (n + m) (xs ++ news) → w.grownBy w' v.ownBlock → wpList P ops Q rest (a.put o.dst v') w') : wpList P ops Q (o :: rest) a w :=
  wpList_step fun K hK => by
    rw [if_pos hw]
    exact wp_append_own w s x t ho base e i z size bytes ht hi hz hsize hby hzs hsz v n xs hs hown ad m c news hx hl hnews h1 h63 hbytes hbase fun v' w' h2 h3 _ => hK _ _ (h v' w' h2 h3)

theorem num_b (a b : Int) (w : World) (ha : (Lit.int .i64 a).wf = true) (hb : (Lit.int .i64 b).wf = true) :
    Calls Try.prog 8 #[.agg #[.int .i64 a, .int .i64 b]] w fun e w' => e = .returned (.complex .f64 (qt a) (qt b)) ∧ Below w.heap.size w w' :=
  (num_any a b w ha hb).mono fun e w' ⟨he, hw⟩ => ⟨he, by rw [hw]; exact (Below.refl _ _).alloc (Nat.le_refl _) _⟩

/-- behind an append: what the row has become, and that nothing else turned -/
theorem after_append {W w w1 : World} {base : Nat} {v v' : Value} {n : Nat} {xs ys : List Value} (hB : Below base W w) (hbs : base ≤ w.heap.size) (hown : w.ownsRow base 24 1 v n xs) (hg : w.grownBy w1 v.ownBlock)
    (ho : w1.ownsRow base 24 1 v' (n + 1) ys) : w1.ownsRow base 24 1 v' (n + 1) ys ∧ Below base W w1 :=
  ⟨ho, Below.grown hB hg hbs (fun q hq => (hown.lt q hq).1)⟩

theorem one_news (w : World) (x y : Nat) : ∀ (j : Nat) (u : Value), [Value.complex .f64 x y][j]? = some u → (w.alloc (.cells #[.complex .f64 x y] 24)).cell? ((⟨w.heap.size, 0, none⟩ : Addr).add j) = some u := by
  intro j u hj
  match j, hj with
  | 0, hj => simp at hj; subst hj; simp [Addr.add]
theorem one_cell (x y : Nat) : ∀ u ∈ [Value.complex .f64 x y], u.oneCell' = true := by
  intro u hu; simp at hu; subst hu; rfl

set_option maxHeartbeats 4000000 in
theorem spans_core (a : Option Addr) (len cap : Nat) (A B : Nat → Int) (F G : Nat → Nat) (p q : Int) (PX QX X Y : Nat) (w : World) (hF : (fun i => qt (A i)) = F) (hG : (fun i => qt (B i)) = G)
    (hrow : RowP w a len A B) (hlen : len * 16 ≤ 140737488351232)
    (hn : ∀ w, Calls Try.prog 8 #[.agg #[.int .i64 p, .int .i64 q]] w fun e w' => e = .returned (.complex .f64 PX QX) ∧ Below w.heap.size w w')
    (hx : (goodB PX QX = true ∧ ∀ w, (binOp .add 24 (.complex .f64 PX QX) (.complex .f64 4602678819172646912 0)).run Try.prog w = .ok (.complex .f64 X Y) w) ∨ (goodB PX QX = false ∧ X = PX ∧ Y = QX)) (hXY : goodB X Y = false) :
    Calls Try.prog 7 #[.slice a len cap, .agg #[.int .i64 p, .int .i64 q]] w fun e w' => e = .returned (.bool true) ∧ Below w.heap.size w w' := by
  obtain ⟨i0, hi, hz0, hz1, hz2⟩ := info_parts Try.infoC
  have hb0 : Below w.heap.size w (w.alloc (.cells #[.int .i64 p, .int .i64 q] 23)) := below_alloc (Below.refl _ _) _
  have hr0 := RowP.below hrow hb0
  have HX : Hid ((goodB PX QX = true ∧ ∀ w, (binOp .add 24 (.complex .f64 PX QX) (.complex .f64 4602678819172646912 0)).run Try.prog w = .ok (.complex .f64 X Y) w) ∨ (goodB PX QX = false ∧ X = PX ∧ Y = QX)) := hx
  clear hx hrow
  go_enter Try.func7, Try.ntmps7
  go_wp2_with (go_at_call 17; refine (nums_any _ _ _ A B _ hr0 hlen).mono ?_; rintro e w1 ⟨v, rfl, hown, hb⟩; rw [hF, hG] at hown; obtain ⟨a1, cap1, rfl, hrc⟩ := RowC.of_owns hown)
  have c1 : w1.cell? ⟨w.heap.size, 0, none⟩ = some (.int .i64 p) := (hb.cell (by simp)).trans (by simp)
  have c2 : w1.cell? ⟨w.heap.size, 1, none⟩ = some (.int .i64 q) := (hb.cell (by simp)).trans (by simp)
  have hr1 := RowP.below hr0 hb
  have hB1 := chain hb0 hb
  have hs1 : w.heap.size < w1.heap.size := by have := hb.size; simp at this; omega
  clear hown hb hb0 hr0
  go_loopw [6, 7] (fun v i wr => ∃ k : Nat, k ≤ len ∧ i = .int .i64 k ∧ wr.ownsRow w1.heap.size 24 1 v (filt F G k).length (cxs (filt F G k)) ∧ Below w1.heap.size w1 wr) (fun _ i _ => len - (intOf i).toNat)
  case atStart => exact ⟨0, Nat.zero_le _, rfl, World.ownsRow_nil _ _ _ _, Below.refl _ _⟩
  case round =>
    obtain ⟨k, hk, rfl, hown, hb⟩ := hrel
    by_cases hlt : k < len
    · rcases hrc with h0 | ⟨b, off, rfl, hbs, hc⟩
      · omega
      have d1 : wr.cell? ⟨b, off + k, none⟩ = some (.complex .f64 (F k) (G k)) := (hb.cell (by exact hbs)).trans (hc k hlt)
      have hfl := filt_len F G k
      clear hc c1 c2 hr1
      cases hg : goodB (F k) (G k)
      · have hs : Hid (filt F G (k + 1) = filt F G k) := (show filt F G (k + 1) = _ by simp only [filt]; rw [hg]; rfl)
        go_wp2_with (go_at_call 9; refine (good_any _ _ _).mono ?_; rintro e w' ⟨rfl, rfl⟩)
        go_roundw
        case rel => exact ⟨k + 1, by omega, by go_num, by rw [hs.out]; exact hown, hb⟩
        case measure => simp [intOf]; omega
      · have hs : Hid (filt F G (k + 1) = filt F G k ++ [(F k, G k)]) := (show filt F G (k + 1) = _ by simp only [filt]; rw [hg]; rfl)
        go_wp2_with (first
          | (go_at_call 9; refine (good_any _ _ _).mono ?_; rintro e w' ⟨rfl, rfl⟩)
          | (at_builtin; refine wpList_append_own _ rfl _ _ 37 rfl w1.heap.size 24 i0 (.complex .f64 0 0) 1 16 Try.underlying37 hi hz0 hz1 hz2 rfl (by decide) _ _ _ rfl (hown.alloc _) ⟨_, 0, none⟩ 1 1 [.complex .f64 (F k) (G k)] rfl rfl ?c1 ?c2 ?c3 ?c4 ?c5 ?_))
        case c1 =>
          intro j u hj
          match j, hj with
          | 0, hj => simp at hj; subst hj; simp [Addr.add]
        case c2 => intro u hu; simp at hu; subst hu; rfl
        case c3 => unfold maxLen; omega
        case c4 => omega
        case c5 => have := hb.size; simp; omega
        intro v' w2 hown' hgrow _
        have hb2 : Below w1.heap.size w1 w2 := Below.grown (hb.alloc hb.size _) hgrow (by have := hb.size; simp; omega) (fun q hq => (hown.lt q hq).1)
        have hown2 : w2.ownsRow w1.heap.size 24 1 v' (filt F G (k + 1)).length (cxs (filt F G (k + 1))) := by
          rw [hs.out, List.length_append]
          unfold cxs at hown' ⊢
          rw [List.map_append]; exact hown'
        clear hown' hgrow hown d1 hb
        go_wp2
        go_roundw
        case rel => exact ⟨k + 1, by omega, by go_num, hown2, hb2⟩
        case measure => simp [intOf]; omega
    · have hkl : k = len := by omega
      subst hkl
      obtain ⟨a2, cap2, rfl, hrc2⟩ := RowC.of_owns (by rw [cxs_eq] at hown; exact hown)
      have hra := RowC.below hrc hb
      have hfl := filt_len F G k
      obtain ⟨o, eo⟩ : ∃ o, lastF F G k = o := ⟨_, rfl⟩
      obtain ⟨E, eE⟩ : ∃ E, boxE (boxF F G k) = E := ⟨_, rfl⟩
      obtain ⟨N, eN⟩ : ∃ N, boxN (boxF F G k) = N := ⟨_, rfl⟩
      have eo2 := (last_same (filt_cover F G k) (cover_filt F G k)).trans eo
      have eE2 := (box_same (filt_cover F G k) (cover_filt F G k)).1.trans eE
      have eN2 := (box_same (filt_cover F G k) (cover_filt F G k)).2.trans eN
      have eo3 := (last_same (plus_cover F G k X Y hXY) (cover_plus F G k X Y)).trans eo
      have eE3 := (box_same (plus_cover F G k X Y hXY) (cover_plus F G k X Y)).1.trans eE
      have eN3 := (box_same (plus_cover F G k X Y hXY) (cover_plus F G k X Y)).2.trans eN
      have hsi : o.isSome = decide ((0 : Int) < ((filt F G k).length : Int)) := by rw [← eo]; exact some_iff F G k
      obtain ⟨⟨u1, v1⟩, ⟨u2, v2⟩⟩ := last_val F G k
      rw [eo] at v1 v2
      have o1 := order_self v1
      have o2 := order_self v2
      have hOE : ∀ x y, ValIs x E → ValIs y E → FloatKind.f64.format.order x y = some .eq := fun x y => val_order x y E
      have hON : ∀ x y, ValIs x N → ValIs y N → FloatKind.f64.format.order x y = some .eq := fun x y => val_order x y N
      have d1 : wr.cell? ⟨w.heap.size, 0, none⟩ = some (.int .i64 p) := (hb.cell (by exact hs1)).trans c1
      have d2 : wr.cell? ⟨w.heap.size, 1, none⟩ = some (.int .i64 q) := (hb.cell (by exact hs1)).trans c2
      have hr2 := RowP.below hr1 hb
      have hB2 := chain hB1 hb
      clear hrc hown hb c1 c2 hr1 hB1 hs1 v1 v2
      have hx := HX.out
      clear HX
      rcases hx with ⟨g1, hadd⟩ | ⟨g1, e1, e2⟩
      case' inr => subst e1 e2
      all_goals
        go_wp2_with (first
          | (go_at_call 18; refine (last_e _ _ _ _ _ _ o (by assumption) (by omega) (by assumption)).mono ?_; rintro e w' ⟨rfl, rfl⟩)
          | (go_at_call 19; refine (span_e _ _ _ _ _ _ E N (by assumption) (by omega) (by assumption) (by assumption)).mono ?_; rintro e w' ⟨x, y, rfl, vx, vy, rfl⟩)
          | (go_at_call 8; refine (hn _).mono ?_; rintro e w3 ⟨rfl, hb3⟩; have hra3 := RowC.below hra hb3; have hr3 := RowP.below hr2 hb3; have hB3 := chain hB2 hb3; clear hra hr2 hB2 hrc2 hb3 d1 d2)
          | (go_at_call 9; refine (good_any _ _ _).mono ?_; rintro e w' ⟨rfl, rfl⟩)
          | (go_at_call 17; refine (nums_any _ _ _ A B _ hr3 hlen).mono ?_; rintro e w4 ⟨v4, rfl, hown4, hb4⟩; rw [hF, hG] at hown4)
          | (at_builtin; refine wpList_append_own _ rfl _ _ 37 rfl _ 24 i0 (.complex .f64 0 0) 1 16 Try.underlying37 hi hz0 hz1 hz2 rfl (by decide) _ _ _ rfl (hown4.alloc _) ⟨_, 0, none⟩ 1 1 [.complex .f64 X Y] rfl rfl (one_news _ _ _) (one_cell _ _) (by unfold maxLen; omega) (by omega) (by have := hb4.size; simp; omega) ?_; intro v5 w5 hown5 hgrow5 _; have hb5 := Below.grown (hb4.alloc hb4.size _) hgrow5 (by have := hb4.size; simp; omega) (fun q hq => (hown4.lt q hq).1); have hra5 := RowC.below hra3 hb5; have hr5 := RowP.below hr3 hb5; have hB5 := chain hB3 hb5; rw [CL_plus] at hown5; obtain ⟨a5, cap5, rfl, hrc5⟩ := RowC.of_owns hown5; clear hown4 hgrow5 hb4 hra3 hr3 hB3 hown5 hb5)
          )
        refine (nums_any _ _ _ A B _ hr5 hlen).mono ?_
        rintro e w6 ⟨v6, rfl, hown6, hb6⟩
        rw [hF, hG] at hown6
        go_wp2_with (first
          | (at_builtin; go_must (refine wpList_append_wanted _ (by rfl) _ _ 37 rfl _ 24 i0 (.complex .f64 0 0) 1 16 Try.underlying37 hi hz0 hz1 hz2 rfl (by decide) _ _ _ rfl (hown6.alloc _) ⟨_, 0, none⟩ 1 1 [.complex .f64 X Y] rfl rfl (one_news _ _ _) (one_cell _ _) (by unfold maxLen; omega) (by omega) (by have := hb6.size; simp; omega) ?_; intro v7 w7 hown7 hgrow7; have hb7 := Below.grown (hb6.alloc hb6.size _) hgrow7 (by have := hb6.size; simp; omega) (fun q hq => (hown6.lt q hq).1); have hra7 := RowC.below hra5 hb7; have hB7 := chain hB5 hb7; rw [CL_plus] at hown7; obtain ⟨a7, cap7, rfl, hrc7⟩ := RowC.of_owns hown7; clear hown6 hgrow7 hb6 hra5 hr5 hB5 hown7 hb7))
          | (go_at_call 19; refine (span_e _ _ _ _ _ _ E N (by assumption) (by omega) (by assumption) (by assumption)).mono ?_; rintro e w' ⟨x, y, rfl, vx, vy, rfl⟩)
          | (go_at_call 11; refine (awake_any _).mono ?_; rintro e w' ⟨rfl, rfl⟩))
        go_ret
        exact ⟨rfl, hB7⟩

/-- a half more than a mark is no mark -/
def hexp : Nat := 1073
def HU : Int := ((2 ^ hexp : Nat) : Int)
theorem U_half : U = HU * 2 := by
  unfold U HU
  rw [show uexp = hexp + 1 from rfl, Nat.pow_succ, Int.natCast_mul]
  rfl
theorem HU_pos : 0 < HU := by unfold HU; exact Int.natCast_pos.2 (Nat.two_pow_pos hexp)
theorem val_half : fval 4602678819172646912 = some HU := by decide +kernel

theorem half_more (P Q : Nat) (h : goodB P Q = true) : ∃ X Y, (∀ w, (binOp .add 24 (.complex .f64 P Q) (.complex .f64 4602678819172646912 0)).run Try.prog w = .ok (.complex .f64 X Y) w) ∧ goodB X Y = false := by
  obtain ⟨p1, p2, p3, p4, v1, v2⟩ := good_parts h
  have hu := HU_pos
  obtain ⟨X, hX, vX⟩ := add_exact v1 val_half (2 * part P + 1) hexp (by omega) (by unfold hexp; omega) (by rw [U_half]; show _ = (2 * part P + 1) * HU; rw [Int.add_mul, Int.one_mul, Int.mul_comm HU 2, ← Int.mul_assoc, Int.mul_comm (part P) 2])
  obtain ⟨Y, hY, vY⟩ := add_whole v2 val_zeroU (by omega)
  refine ⟨X, Y, fun w => run_complex_sum w .add (.inl rfl) 24 .f64 P Q 4602678819172646912 0 X Y (csum hX hY), ?_⟩
  cases hg : goodB X Y
  · rfl
  · exfalso
    obtain ⟨_, _, _, _, w1, _⟩ := good_parts hg
    rw [vX] at w1
    simp only [Option.some.injEq] at w1
    rw [U_half] at w1
    have e : (2 * part P + 1) * HU = (2 * part X) * HU := by
      rw [Int.add_mul, Int.one_mul, Int.mul_comm 2 (part P), Int.mul_assoc, Int.mul_comm 2 HU, w1, Int.mul_comm 2 (part X), Int.mul_assoc, Int.mul_comm 2 HU]
    have := Int.eq_of_mul_eq_mul_right (Int.ne_of_gt hu) e
    omega

theorem walk_MarkSpans (a : Option Addr) (len cap : Nat) (A B : Nat → Int) (p q : Int) (w : World) (hrow : RowP w a len A B) (hlen : len * 16 ≤ 140737488351232) (hp : (Lit.int .i64 p).wf = true) (hq : (Lit.int .i64 q).wf = true) :
    Calls Try.prog 7 #[.slice a len cap, .agg #[.int .i64 p, .int .i64 q]] w fun e w' => e = .returned (.bool true) ∧ Below w.heap.size w w' := by
  cases hg : goodB (qt p) (qt q)
  · exact spans_core a len cap A B _ _ p q (qt p) (qt q) (qt p) (qt q) w rfl rfl hrow hlen (fun w => num_b p q w hp hq) (.inr ⟨hg, rfl, rfl⟩) hg
  · obtain ⟨X, Y, hr, hb⟩ := half_more _ _ hg
    exact spans_core a len cap A B _ _ p q (qt p) (qt q) X Y w rfl rfl hrow hlen (fun w => num_b p q w hp hq) (.inl ⟨hg, hr⟩) hb

end Go.Proofs.Ytiecakeeekeidab
