/- How far generations rise: no block behind the header bears a higher one than a bound. -/
import Derived.Test.YtpifjfhlelekjabSbR
namespace Go.Proofs.Ytpifjfhlelekjab
open Go.RowKit

/-- no block behind the header bears a higher number -/
def Gb (cs : List (List Int)) (B : Nat) : Prop := ∀ i b, 1 ≤ i → cs[i]? = some b → le4 b ≤ B
theorem Gb.le {cs : List (List Int)} {B B' : Nat} (h : Gb cs B) (hB : B ≤ B') : Gb cs B' := fun i b h1 h2 => Nat.le_trans (h i b h1 h2) hB
theorem gmax_le {g B : Nat} {bs : List (List Int)} (h0 : g ≤ B) (h : ∀ b ∈ bs, le4 b ≤ B) : gmax g bs ≤ B := by
  unfold gmax
  induction bs generalizing g with
  | nil => exact h0
  | cons a bs ih =>
    rw [List.foldl_cons]
    refine ih ?_ (fun b hb => h b (List.mem_cons_of_mem _ hb))
    have := h a (by simp)
    omega
theorem Gb.next {cs : List (List Int)} {B g h u : Nat} {R : List (List Int)} (hb : Gb cs B) (H : Sc cs g h R u) (hg : g ≤ B) : nextG cs ≤ B + 1 := by
  have e : nextO (hdrOf ((cs[0]?).getD [])) = (g, 1 - h) := by rw [H.hdr]; rfl
  unfold nextG
  rw [e]
  refine Nat.succ_le_succ (gmax_le hg fun b hm => ?_)
  obtain ⟨i, hi⟩ := List.getElem?_of_mem hm
  rw [halfL_get] at hi
  split at hi
  · exact hb _ b (by omega) hi
  · cases hi
theorem gb_wr {s : Dsk} {B : Nat} (h : Gb s.cs B) (i : Nat) (l : List Int) (hl : 1 ≤ i → le4 l ≤ B) : Gb (s.wr (i : Nat) l).cs B := by
  unfold Dsk.wr
  split
  · split
    · split
      · intro j b hj hb
        have hb' : (s.cs.set i l)[j]? = some b := hb
        rw [List.getElem?_set] at hb'
        split at hb'
        · rename_i e
          split at hb'
          · simp only [Option.some.injEq] at hb'
            rw [← hb']; exact hl (by omega)
          · cases hb'
        · exact h j b hj hb'
      · intro j b hj hb
        have hb' : s.spend.cs[j]? = some b := hb
        rw [spend_cs] at hb'
        exact h j b hj hb'
    · exact h
  · exact h
theorem le4_piece {g r k c : Nat} {p : List Int} (hg : g < 4294967296) : le4 (pieceB g r k c p) = g := by
  unfold pieceB fillB headL
  rw [List.append_assoc, List.append_assoc]
  exact le4_n4 g hg _
theorem gb_layD {s : Dsk} {B g : Nat} (h : Gb s.cs B) (hg : g ≤ B) (hB : B < 4294967296) (a r c : Nat) (l : List Int) (m : Nat) (_ : 1 ≤ a) : Gb (layD s a g r c l m).cs B := by
  induction m with
  | zero => exact h
  | succ m ih => unfold layD; exact gb_wr ih _ _ (fun _ => by rw [le4_piece (by omega)]; exact hg)
theorem gb_laysD {s : Dsk} {B G : Nat} (h : Gb s.cs B) (hg : G ≤ B) (hB : B < 4294967296) (A n u : Nat) (ls : List (List Int)) (hA : 1 ≤ A) : Gb (laysD s A G n u ls).cs B := by
  induction ls generalizing s n u with
  | nil => exact h
  | cons a ls ih => unfold laysD; exact ih (gb_layD h hg hB _ _ _ _ _ (by omega)) _ _
theorem gb_new (N : Nat) : Gb (Dsk.new N).cs 0 := fun i b _ hb => by
  have : b ∈ List.replicate N zeros := List.mem_of_getElem? hb
  rw [(List.mem_replicate.1 this).2]; decide
theorem gb_fmt (N : Nat) : Gb (fmtD (Dsk.new N)).cs 0 := by
  unfold fmtD
  split
  · exact gb_new N
  · split
    · exact gb_wr (gb_new N) 0 _ (fun e => absurd e (by decide))
    · exact gb_new N
theorem lw_appendG {w0 w : World} {b g sb G Hh u : Nat} {s : Dsk} {R : List (List Int)} {N : Nat} {K : Int} (h : Lw w0 w b g sb G Hh u s R N K) (hon : s.on = true) (hN : N ≤ 1024 ∧ 3 ≤ N) (hK : K + 9000 < 9223372036854775807) (v : Value) (l : List Int) (hv : RT w v l) (hb : Byt l) (hl : l.length ≤ 1000000) :
    Calls Try.prog 13 #[.pointer (some ⟨sb, 0, none⟩), v] w fun e w' => ∃ E s2 R2 u2, e = .returned (.int .i64 E) ∧ Lw w0 w' b g sb G Hh u2 s2 R2 N (K + 8) ∧ Only (fun x => x = b ∨ x = g ∨ x = sb) w w' ∧ Pw E s2.on ∧ ((E = 0 ∧ R2 = R ++ [l] ∧ okR l ∧ u + nb l.length ≤ Go.Proofs.Ytpifjfhlelekjab.hS s.cs ∧ u2 = u + nb l.length) ∨ (E ≠ 0 ∧ R2 = R ∧ u2 = u)) ∧ (¬ okR l → E = 61) ∧ (okR l → Go.Proofs.Ytpifjfhlelekjab.hS s.cs < u + nb l.length → E = 2) ∧ (okR l → ¬ Go.Proofs.Ytpifjfhlelekjab.hS s.cs < u + nb l.length → s.burns = false → E = 0 ∧ s2.on = true ∧ s2.burns = false) ∧ (E ≠ 0 → s.burns = false → s2.on = true ∧ s2.burns = false) ∧ (∀ B, Gb s.cs B → B < 4294967296 → G ≤ B → Gb s2.cs B) := by
  have hg := h.sc.g
  have hbd := h.bound
  have hHS := h.hS
  by_cases h1 : okR l
  · by_cases h2 : Go.Proofs.Ytpifjfhlelekjab.hS s.cs < u + nb l.length
    · refine (append_full sb b G Hh R.length u g s v l w h.ss h.dk (by rw [h.len]; omega) hbd.1 hv.rb h1 h2).mono ?_
      rintro e w' ⟨rfl, hB⟩
      exact ⟨2, s, R, u, rfl, ⟨h.dk.below hB, h.ss.below hB, h.sc, h.ok.le (by omega), h.by', h.len, chainB h.bel hB, h.lb, h.lg, h.ls⟩, Only.of hB, .inr ⟨by decide, hon⟩, .inr ⟨by decide, rfl, rfl⟩, fun hx => absurd h1 hx, fun _ _ => rfl, fun _ hx => absurd h2 hx, fun _ hbu => ⟨hon, hbu⟩, fun _ hx _ _ => hx⟩
    · refine (append_go sb b G Hh R.length u g s K v l w h.ss h.dk h.ok (by omega) hv h1 (by omega) (by omega) hg.2.2 (by omega)).mono ?_
      rintro e w' ⟨T, hT, rfl, hD, hS', hO⟩
      obtain ⟨a1, a2, a3, a4, a5, _⟩ := h.sc.app h.ok h1 hb h.by' (by omega) hT
      have hB := h.move hO
      have hk : s.burns = false → T.on = true ∧ T.burns = false := fun hbu => by rw [hT]; exact layD_keeps hon hbu _ _ _ _ _ _
      have hGb : ∀ B, Gb s.cs B → B < 4294967296 → G ≤ B → Gb T.cs B := fun B x1 x2 x3 => by rw [hT]; exact gb_layD x1 x3 x2 _ _ _ _ _ (by omega)
      cases ho : T.on with
      | true =>
        rw [ho] at hS'
        refine ⟨pwE true, T, R ++ [l], u + nb l.length, rfl, ⟨hD, by rw [List.length_append, List.length_singleton]; exact hS', a1 ho, a5, a3, a4.trans h.len, hB, h.lb, h.lg, h.ls⟩, hO, .inr ⟨by decide, ho⟩, .inl ⟨rfl, rfl, h1, by omega, rfl⟩, fun hx => absurd h1 hx, fun _ hx => absurd hx h2, fun _ _ hbu => ⟨rfl, hk hbu⟩, fun hE => absurd rfl hE, hGb⟩
      | false =>
        rw [ho] at hS'
        refine ⟨pwE false, T, R, u, rfl, ⟨hD, hS', a2 ho, a5, a3, a4.trans h.len, hB, h.lb, h.lg, h.ls⟩, hO, .inl ⟨rfl, ho⟩, .inr ⟨by decide, rfl, rfl⟩, fun hx => absurd h1 hx, fun _ hx => absurd hx h2, fun _ _ hbu => ?_, fun _ hbu => hk hbu, hGb⟩
        have := (hk hbu).1
        rw [ho] at this; cases this
  · refine (append_bad sb v l w hv.rb hl h1).mono ?_
    rintro e w' ⟨rfl, rfl⟩
    exact ⟨61, s, R, u, rfl, ⟨h.dk, h.ss, h.sc, h.ok.le (by omega), h.by', h.len, h.bel, h.lb, h.lg, h.ls⟩, Only.refl _ _, .inr ⟨by decide, hon⟩, .inr ⟨by decide, rfl, rfl⟩, fun _ => rfl, fun hx => absurd hx h1, fun hx => absurd hx h1, fun _ hbu => ⟨hon, hbu⟩, fun _ hx _ _ => hx⟩
theorem lw_turnG {w0 w : World} {b g sb G Hh u : Nat} {s : Dsk} {R : List (List Int)} {N : Nat} {K : Int} (h : Lw w0 w b g sb G Hh u s R N K) (hon : s.on = true) (hN : N ≤ 1024 ∧ 3 ≤ N) (hK : K + 9000 < 9223372036854775807) (v : Value) (L : List (List Int)) (hv : Rs w v L) (hb : ∀ l ∈ L, Byt l ∧ l.length ≤ 1000000) (hL : L.length ≤ 1000) :
    Calls Try.prog 9 #[.pointer (some ⟨sb, 0, none⟩), v] w fun e w' => ∃ E s2 R2 u2 G2 H2, e = .returned (.int .i64 E) ∧ Lw w0 w' b g sb G2 H2 u2 s2 R2 N (K + 600) ∧ Only (fun x => x = b ∨ x = g ∨ x = sb) w w' ∧ Pw E s2.on ∧ ((E = 0 ∧ R2 = L ∧ (∀ l ∈ L, okR l) ∧ tot L ≤ Go.Proofs.Ytpifjfhlelekjab.hS s.cs ∧ u2 = tot L ∧ G < G2 ∧ G2 = nextG s.cs) ∨ (E ≠ 0 ∧ R2 = R ∧ u2 = u ∧ G2 = G ∧ H2 = Hh)) ∧ ((¬ ∀ l ∈ L, okR l) → E = 61) ∧ ((∀ l ∈ L, okR l) → Go.Proofs.Ytpifjfhlelekjab.hS s.cs < tot L → E = 2) ∧ ((∀ l ∈ L, okR l) → ¬ Go.Proofs.Ytpifjfhlelekjab.hS s.cs < tot L → nextG s.cs ≤ 1073741824 → s.burns = false → E = 0 ∧ s2.burns = false) ∧ (E ≠ 0 → s.burns = false → s2.on = true ∧ s2.burns = false) ∧ (∀ B, Gb s.cs B → B < 4294967296 → nextG s.cs ≤ B → Gb s2.cs B) := by
  have hg := h.sc.g
  have hHS := h.hS
  have hnx := h.sc.nextH
  obtain ⟨a, cap, rfl, _⟩ := hv.form
  by_cases h1 : ∀ l ∈ L, okR l
  · by_cases h2 : Go.Proofs.Ytpifjfhlelekjab.hS s.cs < tot L
    · refine (turn_full sb b G Hh R.length u g s a cap L w h.ss h.dk (by rw [h.len]; omega) hv hL h1 h2).mono ?_
      rintro e w' ⟨rfl, hB⟩
      exact ⟨2, s, R, u, G, Hh, rfl, ⟨h.dk.below hB, h.ss.below hB, h.sc, h.ok.le (by omega), h.by', h.len, chainB h.bel hB, h.lb, h.lg, h.ls⟩, Only.of hB, .inr ⟨by decide, hon⟩, .inr ⟨by decide, rfl, rfl, rfl, rfl⟩, fun hx => absurd h1 hx, fun _ _ => rfl, fun _ hx => absurd h2 hx, fun _ hbu => ⟨hon, hbu⟩, fun _ hx _ _ => hx⟩
    · by_cases h3 : nextG s.cs ≤ 1073741824
      · refine (turn_go sb b G Hh R.length u g s a cap L w h.ss h.dk (by rw [h.len]; omega) hv hL h1 K h.ok (by omega) (by omega) h.by' h3).mono ?_
        rintro e w' ⟨T, hT, rfl, hD, hS', hO⟩
        obtain ⟨a1, a2, a3, a4, a5, _⟩ := sc_turn h.sc h.ok (fun l hl => ⟨h1 l hl, (hb l hl).1⟩) h.by' (by omega) h3 (by rw [h.len]; omega) hT
        have hB := h.move hO
        have hKt : K + (tot L : Nat) + 1 ≤ K + 600 := by omega
        have hk : s.burns = false → T.on = true ∧ T.burns = false := fun hbu => by
          rw [hT]
          have := laysD_keeps hon hbu (1 + nextH s.cs * Go.Proofs.Ytpifjfhlelekjab.hS s.cs) (nextG s.cs) 0 0 L
          exact wr_keeps this.1 this.2 _ _
        have hGb : ∀ B, Gb s.cs B → B < 4294967296 → nextG s.cs ≤ B → Gb T.cs B := fun B x1 x2 x3 => by rw [hT]; exact gb_wr (gb_laysD x1 x3 x2 _ _ _ _ (by omega)) 0 _ (fun e => absurd e (by decide))
        cases ho : T.on with
        | true =>
          rw [ho, if_pos rfl] at hS'
          exact ⟨pwE true, T, L, tot L, nextG s.cs, nextH s.cs, rfl, ⟨hD, hS', a1 ho, a5.le hKt, a3, a4.trans h.len, hB, h.lb, h.lg, h.ls⟩, hO, .inr ⟨by decide, ho⟩, .inl ⟨rfl, rfl, h1, by omega, rfl, hnx.2, rfl⟩, fun hx => absurd h1 hx, fun _ hx => absurd hx h2, fun _ _ _ hbu => ⟨rfl, (hk hbu).2⟩, fun hE => absurd rfl hE, hGb⟩
        | false =>
          rw [ho, if_neg (by decide)] at hS'
          refine ⟨pwE false, T, R, u, G, Hh, rfl, ⟨hD, hS', a2 ho, a5.le hKt, a3, a4.trans h.len, hB, h.lb, h.lg, h.ls⟩, hO, .inl ⟨rfl, ho⟩, .inr ⟨by decide, rfl, rfl, rfl, rfl⟩, fun hx => absurd h1 hx, fun _ hx => absurd hx h2, fun _ _ _ hbu => ?_, fun _ hbu => hk hbu, hGb⟩
          have := (hk hbu).1
          rw [ho] at this; cases this
      · refine (turn_60 sb b G Hh R.length u g s a cap L w h.ss h.dk (by rw [h.len]; omega) hv hL h1 (by omega) h.by' h3).mono ?_
        rintro e w' ⟨rfl, hB⟩
        exact ⟨60, s, R, u, G, Hh, rfl, ⟨h.dk.below hB, h.ss.below hB, h.sc, h.ok.le (by omega), h.by', h.len, chainB h.bel hB, h.lb, h.lg, h.ls⟩, Only.of hB, .inr ⟨by decide, hon⟩, .inr ⟨by decide, rfl, rfl, rfl, rfl⟩, fun hx => absurd h1 hx, fun _ hx => absurd hx h2, fun _ _ hx => absurd hx h3, fun _ hbu => ⟨hon, hbu⟩, fun _ hx _ _ => hx⟩
  · obtain ⟨q, lq, hq, hbad, hfirst⟩ := first_bad h1
    refine (turn_bad sb a cap L w hv hL (fun l hl => (hb l hl).2) q lq hq hbad hfirst).mono ?_
    rintro e w' ⟨rfl, rfl⟩
    exact ⟨61, s, R, u, G, Hh, rfl, ⟨h.dk, h.ss, h.sc, h.ok.le (by omega), h.by', h.len, h.bel, h.lb, h.lg, h.ls⟩, Only.refl _ _, .inr ⟨by decide, hon⟩, .inr ⟨by decide, rfl, rfl, rfl, rfl⟩, fun _ => rfl, fun hx => absurd hx h1, fun hx => absurd hx h1, fun _ hbu => ⟨hon, hbu⟩, fun _ hx _ _ => hx⟩
set_option maxRecDepth 100000 in
set_option maxHeartbeats 2000000 in
theorem fresh_g (n : Int) (w : World) :
    Calls Try.prog 5 #[.int .i64 n] w fun e w' => ∃ b g sb s, e = .returned (.tuple #[.pointer (some ⟨b, 0, none⟩), .pointer (some ⟨sb, 0, none⟩), .bool true]) ∧ Lw w w' b g sb 1 0 0 s [] (3 + pl n 97) 1 ∧ s.on = true ∧ s.burns = false ∧ Gb s.cs 0 := by
  have hp := pl_lt n 97 (by decide)
  obtain ⟨P, hP⟩ : ∃ P, pl n 97 = P := ⟨_, rfl⟩
  have HP : Hid (pl n 97 = P) := hP
  rw [hP] at hp ⊢
  obtain ⟨hE, T, hT, hsc, hok, hon, hbu, hlen, hby, hSS, _⟩ := fmt_new (3 + P) (by omega)
  have HF : Hid (fmtE (Dsk.new (3 + P)) = 0 ∧ fmtD (Dsk.new (3 + P)) = T ∧ Sc T.cs 1 0 [] 0 ∧ T.ok 1 ∧ T.on = true ∧ T.burns = false ∧ T.cs.length = 3 + P ∧ BytC T.cs) := ⟨hE, hT, hsc, hok, hon, hbu, hlen, hby⟩
  have HGb : Hid (Gb T.cs 0) := by show Gb _ _; rw [← hT]; exact gb_fmt _
  have HNw : Hid (∀ w, Calls Try.prog 20 #[.int .i64 (3 + (P : Int))] w fun e w' => ∃ b g, e = .returned (.tuple #[.pointer (some ⟨b, 0, none⟩), .int .i64 0]) ∧ w.heap.size ≤ b ∧ w.heap.size ≤ g ∧ IsD w' b g (Dsk.new (3 + P)) ∧ Below w.heap.size w w') := fun w => by
    have := new_yes (3 + P) w (by omega) (by omega)
    rw [Int.natCast_add] at this; exact this
  have HFm : Hid (∀ b g w, IsD w b g (Dsk.new (3 + P)) → Calls Try.prog 21 #[.pointer (some ⟨b, 0, none⟩)] w fun e w' => e = .returned (.int .i64 0) ∧ IsD w' b g T ∧ Only (fun x => x = b ∨ x = g) w w') := fun b g w h => by
    have := format_any b g (Dsk.new (3 + P)) w h ⟨(fun e => by cases e), show (0 : Int) ≤ 0 by decide, show (0 : Int) < 9223372036854775807 by decide⟩ (by show 1 ≤ (List.replicate (3 + P) zeros).length; rw [List.length_replicate]; omega) (fun l hl => by rw [(List.mem_replicate.1 hl).2]; exact byt_zs 64)
    rw [hE, hT] at this; exact this
  clear hE hT hsc hok hon hbu hlen hby hSS hP
  go_enter Try.func5, Try.ntmps5
  go_wp2_with (first
    | (go_at_call 17; refine (place_any n 97 _ (by decide) (by decide)).mono ?_; rintro e w1 ⟨rfl, rfl⟩; rw [HP.out])
    | (go_at_call 20; refine (HNw.out _).mono ?_; rintro e w2 ⟨b, g, rfl, hb, hg, hD, hB⟩)
    | (go_at_call 21; refine (HFm.out b g _ hD).mono ?_; rintro e w3 ⟨rfl, hD3, hO3⟩)
    | (go_at_call 14; refine (open_new b g (3 + P) T _ hD3 HF.out.2.2.2.2.2.2.1 (by omega) HF.out.2.2.2.2.2.2.2 HF.out.2.2.1).mono ?_; rintro e w4 ⟨sb, vR, rfl, hsb, hD4, hS4, hO4, hB4⟩; obtain ⟨a4, c4, e4⟩ : ∃ a c, vR = .slice a 0 c := (by obtain ⟨vs, h1, _⟩ := hO4; exact owns_len h1); subst e4))
  go_ret3
  have hB3 := hO3.below hB hB.size (fun k hk => by omega)
  exact ⟨b, g, sb, T, rfl, ⟨hD4, hS4, HF.out.2.2.1, HF.out.2.2.2.1, HF.out.2.2.2.2.2.2.2, HF.out.2.2.2.2.2.2.1, chainB hB3 hB4, hb, hg, Nat.le_trans hB3.size hsb⟩, HF.out.2.2.2.2.1, HF.out.2.2.2.2.2.1, HGb.out⟩
theorem OwnB.law {w0 w w' : World} {b g sb G Hh u : Nat} {s : Dsk} {R : List (List Int)} {N : Nat} {K : Int} {base : Nat} {v : Value} {l : List Int} (hv : OwnB w base v l) (h : Lw w0 w b g sb G Hh u s R N K) (ho : Only (fun x => x = b ∨ x = g ∨ x = sb) w w') : OwnB w' base v l :=
  hv.moved fun k hk => ho.block k (hv.at k hk).2 (fun e => by
    rcases e with e | e | e
    · exact (hv.tag hk).ne h.dk.tagb (by decide) e
    · exact (hv.tag hk).ne h.dk.tagg (by decide) e
    · exact (hv.tag hk).ne h.ss.tag (by decide) e)
theorem keep2 {W W' : World} {p q : Addr} {x y : Value} (h : W.cell? p = some x ∧ W.cell? q = some y) (hb : Below W.heap.size W W') : W'.cell? p = some x ∧ W'.cell? q = some y :=
  ⟨(hb.cell (cellLt h.1)).trans h.1, (hb.cell (cellLt h.2)).trans h.2⟩
theorem lw_room {w0 w : World} {b g sb G Hh u : Nat} {s : Dsk} {R : List (List Int)} {N : Nat} {K : Int} (h : Lw w0 w b g sb G Hh u s R N K) (hN : 3 ≤ N) :
    Calls Try.prog 11 #[.pointer (some ⟨sb, 0, none⟩)] w fun e w' => e = .returned (.int .i64 (((N - 1) / 2 - u : Nat) : Int)) ∧ Below w.heap.size w w' := by
  have := room_any sb b G Hh R.length u g s w h.ss h.dk (by rw [h.len]; omega) h.bound.1
  rw [h.hS] at this
  exact this.mono fun e w' hq => ⟨hq.1, hq.2.below⟩
theorem lw_gen {w0 w : World} {b g sb G Hh u : Nat} {s : Dsk} {R : List (List Int)} {N : Nat} {K : Int} (h : Lw w0 w b g sb G Hh u s R N K) :
    Calls Try.prog 6 #[.pointer (some ⟨sb, 0, none⟩)] w fun e w' => e = .returned (.int .i64 (G : Nat)) ∧ w = w' :=
  (gen_any sb b G Hh R.length u w h.ss).mono fun _ _ hq => ⟨hq.1, hq.2.symm⟩
theorem lw_half {w0 w : World} {b g sb G Hh u : Nat} {s : Dsk} {R : List (List Int)} {N : Nat} {K : Int} (h : Lw w0 w b g sb G Hh u s R N K) (hN : 3 ≤ N) :
    Calls Try.prog 10 #[.pointer (some ⟨sb, 0, none⟩)] w fun e w' => e = .returned (.int .i64 (((N - 1) / 2 : Nat) : Int)) ∧ w = w' := by
  have := half_any sb b G Hh R.length u g s w h.ss h.dk (by rw [h.len]; omega)
  rw [h.hS] at this
  exact this.mono fun e w' hq => ⟨hq.1, hq.2.symm⟩
theorem lw_roomS {w0 w : World} {b g sb G Hh u : Nat} {s : Dsk} {R : List (List Int)} {N : Nat} {K : Int} (h : Lw w0 w b g sb G Hh u s R N K) (hN : 3 ≤ N) :
    Calls Try.prog 11 #[.pointer (some ⟨sb, 0, none⟩)] w fun e w' => e = .returned (.int .i64 (((N - 1) / 2 - u : Nat) : Int)) ∧ Same w w' := by
  have := room_any sb b G Hh R.length u g s w h.ss h.dk (by rw [h.len]; omega) h.bound.1
  rw [h.hS] at this
  exact this
end Go.Proofs.Ytpifjfhlelekjab
