/- What a law's scroll is behind each call. -/
import Derived.Test.YtajgaialnafdbaaJSAys18
namespace Go.Proofs.Ytajgaialnafdbaa
section
open Go.RowKit

theorem Lw.hS {w0 w : World} {b g sb G Hh u : Nat} {s : Dsk} {R : List (List Int)} {N : Nat} {K : Int} (h : Lw w0 w b g sb G Hh u s R N K) : Go.Proofs.Ytajgaialnafdbaa.hS s.cs = (N - 1) / 2 := by unfold Go.Proofs.Ytajgaialnafdbaa.hS; rw [h.len]
theorem Lw.els {w0 w : World} {b g sb G Hh u : Nat} {s : Dsk} {R : List (List Int)} {N : Nat} {K : Int} (h : Lw w0 w b g sb G Hh u s R N K) : Els' w (fun x => x = b ∨ x = g ∨ x = sb) := els_three h.dk h.ss
theorem Lw.bound {w0 w : World} {b g sb G Hh u : Nat} {s : Dsk} {R : List (List Int)} {N : Nat} {K : Int} (h : Lw w0 w b g sb G Hh u s R N K) : u ≤ Go.Proofs.Ytajgaialnafdbaa.hS s.cs ∧ R.length ≤ u := h.sc.hf.le
theorem Lw.move {w0 w w' : World} {b g sb G Hh u : Nat} {s : Dsk} {R : List (List Int)} {N : Nat} {K : Int} (h : Lw w0 w b g sb G Hh u s R N K) (ho : Only (fun x => x = b ∨ x = g ∨ x = sb) w w') : Below w0.heap.size w0 w' := ho.below h.bel h.bel.size (fun k hk => by rcases hk with e | e | e <;> (have := h.lb; have := h.lg; have := h.ls; omega))
/-- how an answer and the power hang together -/
def Pw (E : Int) (on : Bool) : Prop := (E = 21 ∧ on = false) ∨ (E ≠ 21 ∧ on = true)
theorem lw_append {w0 w : World} {b g sb G Hh u : Nat} {s : Dsk} {R : List (List Int)} {N : Nat} {K : Int} (h : Lw w0 w b g sb G Hh u s R N K) (hon : s.on = true) (hN : N ≤ 1024 ∧ 3 ≤ N) (hK : K + 9000 < 9223372036854775807) (v : Value) (l : List Int) (hv : RT w v l) (hb : Byt l) (hl : l.length ≤ 1000000) :
    Calls Try.prog 8 #[.pointer (some ⟨sb, 0, none⟩), v] w fun e w' => ∃ E s2 R2 u2, e = .returned (.int .i64 E) ∧ Lw w0 w' b g sb G Hh u2 s2 R2 N (K + 8) ∧ Only (fun x => x = b ∨ x = g ∨ x = sb) w w' ∧ Pw E s2.on ∧ ((E = 0 ∧ R2 = R ++ [l] ∧ okR l ∧ u + nb l.length ≤ Go.Proofs.Ytajgaialnafdbaa.hS s.cs ∧ u2 = u + nb l.length) ∨ (E ≠ 0 ∧ R2 = R ∧ u2 = u)) ∧ (¬ okR l → E = 61) ∧ (okR l → Go.Proofs.Ytajgaialnafdbaa.hS s.cs < u + nb l.length → E = 2) ∧ (okR l → ¬ Go.Proofs.Ytajgaialnafdbaa.hS s.cs < u + nb l.length → s.burns = false → E = 0 ∧ s2.on = true ∧ s2.burns = false) ∧ (E ≠ 0 → s.burns = false → s2.on = true ∧ s2.burns = false) := by
  have hg := h.sc.g
  have hbd := h.bound
  have hHS := h.hS
  by_cases h1 : okR l
  · by_cases h2 : Go.Proofs.Ytajgaialnafdbaa.hS s.cs < u + nb l.length
    · refine (append_full sb b G Hh R.length u g s v l w h.ss h.dk (by rw [h.len]; omega) hbd.1 hv.rb h1 h2).mono ?_
      rintro e w' ⟨rfl, hB⟩
      exact ⟨2, s, R, u, rfl, ⟨h.dk.below hB, h.ss.below hB, h.sc, h.ok.le (by omega), h.by', h.len, chainB h.bel hB, h.lb, h.lg, h.ls⟩, Only.of hB, .inr ⟨by decide, hon⟩, .inr ⟨by decide, rfl, rfl⟩, fun hx => absurd h1 hx, fun _ _ => rfl, fun _ hx => absurd h2 hx, fun _ hbu => ⟨hon, hbu⟩⟩
    · refine (append_go sb b G Hh R.length u g s K v l w h.ss h.dk h.ok (by omega) hv h1 (by omega) (by omega) hg.2.2 (by omega)).mono ?_
      rintro e w' ⟨T, hT, rfl, hD, hS', hO⟩
      obtain ⟨a1, a2, a3, a4, a5, _⟩ := h.sc.app h.ok h1 hb h.by' (by omega) hT
      have hB := h.move hO
      have hk : s.burns = false → T.on = true ∧ T.burns = false := fun hbu => by rw [hT]; exact layD_keeps hon hbu _ _ _ _ _ _
      cases ho : T.on with
      | true =>
        rw [ho] at hS'
        refine ⟨pwE true, T, R ++ [l], u + nb l.length, rfl, ⟨hD, by rw [List.length_append, List.length_singleton]; exact hS', a1 ho, a5, a3, a4.trans h.len, hB, h.lb, h.lg, h.ls⟩, hO, .inr ⟨by decide, ho⟩, .inl ⟨rfl, rfl, h1, by omega, rfl⟩, fun hx => absurd h1 hx, fun _ hx => absurd hx h2, fun _ _ hbu => ⟨rfl, hk hbu⟩, fun hE => absurd rfl hE⟩
      | false =>
        rw [ho] at hS'
        refine ⟨pwE false, T, R, u, rfl, ⟨hD, hS', a2 ho, a5, a3, a4.trans h.len, hB, h.lb, h.lg, h.ls⟩, hO, .inl ⟨rfl, ho⟩, .inr ⟨by decide, rfl, rfl⟩, fun hx => absurd h1 hx, fun _ hx => absurd hx h2, fun _ _ hbu => ?_, fun _ hbu => hk hbu⟩
        have := (hk hbu).1
        rw [ho] at this; cases this
  · refine (append_bad sb v l w hv.rb hl h1).mono ?_
    rintro e w' ⟨rfl, rfl⟩
    exact ⟨61, s, R, u, rfl, ⟨h.dk, h.ss, h.sc, h.ok.le (by omega), h.by', h.len, h.bel, h.lb, h.lg, h.ls⟩, Only.refl _ _, .inr ⟨by decide, hon⟩, .inr ⟨by decide, rfl, rfl⟩, fun _ => rfl, fun hx => absurd hx h1, fun hx => absurd hx h1, fun _ hbu => ⟨hon, hbu⟩⟩
theorem first_bad {L : List (List Int)} (h : ¬ ∀ l ∈ L, okR l) : ∃ (q : Nat) (lq : List Int), L[q]? = some lq ∧ ¬ okR lq ∧ ∀ (i : Nat) (l : List Int), i < q → L[i]? = some l → okR l := by
  induction L with
  | nil => exact absurd (fun l hl => by cases hl) h
  | cons a L ih =>
    by_cases ha : okR a
    · obtain ⟨q, lq, h1, h2, h3⟩ := ih (fun hx => h fun l hl => (List.mem_cons.1 hl).elim (fun e => e ▸ ha) (hx l))
      refine ⟨q + 1, lq, h1, h2, fun i l hi hl => ?_⟩
      cases i with
      | zero => cases hl; exact ha
      | succ i => exact h3 i l (by omega) hl
    · exact ⟨0, a, rfl, ha, fun i l hi => absurd hi (by omega)⟩
theorem lw_turn {w0 w : World} {b g sb G Hh u : Nat} {s : Dsk} {R : List (List Int)} {N : Nat} {K : Int} (h : Lw w0 w b g sb G Hh u s R N K) (hon : s.on = true) (hN : N ≤ 1024 ∧ 3 ≤ N) (hK : K + 9000 < 9223372036854775807) (v : Value) (L : List (List Int)) (hv : Rs w v L) (hb : ∀ l ∈ L, Byt l ∧ l.length ≤ 1000000) (hL : L.length ≤ 1000) :
    Calls Try.prog 11 #[.pointer (some ⟨sb, 0, none⟩), v] w fun e w' => ∃ E s2 R2 u2 G2 H2, e = .returned (.int .i64 E) ∧ Lw w0 w' b g sb G2 H2 u2 s2 R2 N (K + 600) ∧ Only (fun x => x = b ∨ x = g ∨ x = sb) w w' ∧ Pw E s2.on ∧ ((E = 0 ∧ R2 = L ∧ (∀ l ∈ L, okR l) ∧ tot L ≤ Go.Proofs.Ytajgaialnafdbaa.hS s.cs ∧ u2 = tot L ∧ G < G2 ∧ G2 = nextG s.cs) ∨ (E ≠ 0 ∧ R2 = R ∧ u2 = u ∧ G2 = G ∧ H2 = Hh)) ∧ ((¬ ∀ l ∈ L, okR l) → E = 61) ∧ ((∀ l ∈ L, okR l) → Go.Proofs.Ytajgaialnafdbaa.hS s.cs < tot L → E = 2) ∧ ((∀ l ∈ L, okR l) → ¬ Go.Proofs.Ytajgaialnafdbaa.hS s.cs < tot L → nextG s.cs ≤ 1073741824 → s.burns = false → E = 0 ∧ s2.burns = false) ∧ (E ≠ 0 → s.burns = false → s2.on = true ∧ s2.burns = false) := by
  have hg := h.sc.g
  have hHS := h.hS
  have hnx := h.sc.nextH
  obtain ⟨a, cap, rfl, _⟩ := hv.form
  by_cases h1 : ∀ l ∈ L, okR l
  · by_cases h2 : Go.Proofs.Ytajgaialnafdbaa.hS s.cs < tot L
    · refine (turn_full sb b G Hh R.length u g s a cap L w h.ss h.dk (by rw [h.len]; omega) hv hL h1 h2).mono ?_
      rintro e w' ⟨rfl, hB⟩
      exact ⟨2, s, R, u, G, Hh, rfl, ⟨h.dk.below hB, h.ss.below hB, h.sc, h.ok.le (by omega), h.by', h.len, chainB h.bel hB, h.lb, h.lg, h.ls⟩, Only.of hB, .inr ⟨by decide, hon⟩, .inr ⟨by decide, rfl, rfl, rfl, rfl⟩, fun hx => absurd h1 hx, fun _ _ => rfl, fun _ hx => absurd h2 hx, fun _ hbu => ⟨hon, hbu⟩⟩
    · by_cases h3 : nextG s.cs ≤ 1073741824
      · refine (turn_go sb b G Hh R.length u g s a cap L w h.ss h.dk (by rw [h.len]; omega) hv hL h1 K h.ok (by omega) (by omega) h.by' h3).mono ?_
        rintro e w' ⟨T, hT, rfl, hD, hS', hO⟩
        obtain ⟨a1, a2, a3, a4, a5, _⟩ := sc_turn h.sc h.ok (fun l hl => ⟨h1 l hl, (hb l hl).1⟩) h.by' (by omega) h3 (by rw [h.len]; omega) hT
        have hB := h.move hO
        have hKt : K + (tot L : Nat) + 1 ≤ K + 600 := by omega
        have hk : s.burns = false → T.on = true ∧ T.burns = false := fun hbu => by
          rw [hT]
          have := laysD_keeps hon hbu (1 + nextH s.cs * Go.Proofs.Ytajgaialnafdbaa.hS s.cs) (nextG s.cs) 0 0 L
          exact wr_keeps this.1 this.2 _ _
        cases ho : T.on with
        | true =>
          rw [ho, if_pos rfl] at hS'
          exact ⟨pwE true, T, L, tot L, nextG s.cs, nextH s.cs, rfl, ⟨hD, hS', a1 ho, a5.le hKt, a3, a4.trans h.len, hB, h.lb, h.lg, h.ls⟩, hO, .inr ⟨by decide, ho⟩, .inl ⟨rfl, rfl, h1, by omega, rfl, hnx.2, rfl⟩, fun hx => absurd h1 hx, fun _ hx => absurd hx h2, fun _ _ _ hbu => ⟨rfl, (hk hbu).2⟩, fun hE => absurd rfl hE⟩
        | false =>
          rw [ho, if_neg (by decide)] at hS'
          refine ⟨pwE false, T, R, u, G, Hh, rfl, ⟨hD, hS', a2 ho, a5.le hKt, a3, a4.trans h.len, hB, h.lb, h.lg, h.ls⟩, hO, .inl ⟨rfl, ho⟩, .inr ⟨by decide, rfl, rfl, rfl, rfl⟩, fun hx => absurd h1 hx, fun _ hx => absurd hx h2, fun _ _ _ hbu => ?_, fun _ hbu => hk hbu⟩
          have := (hk hbu).1
          rw [ho] at this; cases this
      · refine (turn_60 sb b G Hh R.length u g s a cap L w h.ss h.dk (by rw [h.len]; omega) hv hL h1 (by omega) h.by' h3).mono ?_
        rintro e w' ⟨rfl, hB⟩
        exact ⟨60, s, R, u, G, Hh, rfl, ⟨h.dk.below hB, h.ss.below hB, h.sc, h.ok.le (by omega), h.by', h.len, chainB h.bel hB, h.lb, h.lg, h.ls⟩, Only.of hB, .inr ⟨by decide, hon⟩, .inr ⟨by decide, rfl, rfl, rfl, rfl⟩, fun hx => absurd h1 hx, fun _ hx => absurd hx h2, fun _ _ hx => absurd hx h3, fun _ hbu => ⟨hon, hbu⟩⟩
  · obtain ⟨q, lq, hq, hbad, hfirst⟩ := first_bad h1
    refine (turn_bad sb a cap L w hv hL (fun l hl => (hb l hl).2) q lq hq hbad hfirst).mono ?_
    rintro e w' ⟨rfl, rfl⟩
    exact ⟨61, s, R, u, G, Hh, rfl, ⟨h.dk, h.ss, h.sc, h.ok.le (by omega), h.by', h.len, h.bel, h.lb, h.lg, h.ls⟩, Only.refl _ _, .inr ⟨by decide, hon⟩, .inr ⟨by decide, rfl, rfl, rfl, rfl⟩, fun _ => rfl, fun hx => absurd hx h1, fun hx => absurd hx h1, fun _ hbu => ⟨hon, hbu⟩⟩
theorem lw_fuse {w0 w : World} {b g sb G Hh u : Nat} {s : Dsk} {R : List (List Int)} {N : Nat} {K : Int} (h : Lw w0 w b g sb G Hh u s R N K) (hon : s.on = true) (x : Int) (hx : 0 ≤ x ∧ x ≤ 9223372036854775807) :
    Calls Try.prog 14 #[.pointer (some ⟨b, 0, none⟩), .int .i64 x] w fun e w' => ∃ E s2, e = .returned (.int .i64 E) ∧ Lw w0 w' b g sb G Hh u s2 R N K ∧ s2.on = true ∧ Only (fun x => x = b ∨ x = g ∨ x = sb) w w' ∧ s2.burns = true ∧ s2.left = x ∧ s2.cs = s.cs := by
  refine (fuse_any b g s x w h.dk).mono ?_
  rintro e w' ⟨rfl, hD, hO⟩
  have e2 : s.fuse x = { s with burns := true, left := x } := by unfold Dsk.fuse; rw [if_neg (by omega), if_pos hon]
  rw [e2] at hD
  have hO' : Only (fun x => x = b ∨ x = g ∨ x = sb) w w' := hO.mono fun _ h => Or.inl h
  have hne := h.ss.ne h.dk
  exact ⟨_, _, rfl, ⟨hD, h.ss.only hO (by omega), h.sc, ⟨fun _ => hx, h.ok.w0, h.ok.wK, fun e => by have : s.on = false := e; rw [hon] at this; cases this⟩, h.by', h.len, h.move hO', h.lb, h.lg, h.ls⟩, hon, hO', rfl, rfl, rfl⟩
theorem lw_power {w0 w : World} {b g sb G Hh u : Nat} {s : Dsk} {R : List (List Int)} {N : Nat} {K : Int} (h : Lw w0 w b g sb G Hh u s R N K) :
    Calls Try.prog 16 #[.pointer (some ⟨b, 0, none⟩)] w fun e w' => ∃ s2, e = .returned (.tuple #[]) ∧ Lw w0 w' b g sb G Hh u s2 R N K ∧ s2.on = true ∧ s2.burns = false ∧ s2.cs = s.cs ∧ Only (fun x => x = b ∨ x = g ∨ x = sb) w w' := by
  refine (power_any b g s w h.dk).mono ?_
  rintro e w' ⟨rfl, hD, hO⟩
  have hO' : Only (fun x => x = b ∨ x = g ∨ x = sb) w w' := hO.mono fun _ h => Or.inl h
  have hne := h.ss.ne h.dk
  exact ⟨s.power, rfl, ⟨hD, h.ss.only hO (by omega), h.sc, ⟨(fun e => by cases e), h.ok.w0, h.ok.wK, fun _ => rfl⟩, h.by', h.len, h.move hO', h.lb, h.lg, h.ls⟩, rfl, rfl, rfl, hO'⟩
theorem lw_open {w0 w : World} {b g sb G Hh u : Nat} {s : Dsk} {R : List (List Int)} {N : Nat} {K : Int} (h : Lw w0 w b g sb G Hh u s R N K) (hN : 3 ≤ N) :
    Calls Try.prog 29 #[.pointer (some ⟨b, 0, none⟩)] w fun e w' => ∃ sb2 vR, e = .returned (.tuple #[.pointer (some ⟨sb2, 0, none⟩), vR, .int .i64 0]) ∧ Lw w0 w' b g sb2 G Hh u s R N K ∧ OwnR w' w.heap.size w'.heap.size vR R ∧ Below w.heap.size w w' := by
  refine (open_new b g N s w h.dk h.len hN h.by' h.sc).mono ?_
  rintro e w' ⟨sb2, vR, rfl, h1, h2, h3, h4, h5⟩
  exact ⟨sb2, vR, rfl, ⟨h2, h3, h.sc, h.ok, h.by', h.len, chainB h.bel h5, h.lb, h.lg, Nat.le_trans h.bel.size h1⟩, h4, h5⟩
/-- a list of the law's own, beside it -/
theorem OwnR.law {w0 w w' : World} {b g sb G Hh u : Nat} {s : Dsk} {R : List (List Int)} {N : Nat} {K : Int} {v : Value} {R2 : List (List Int)} (hv : OwnR w w0.heap.size w.heap.size v R2) (h : Lw w0 w b g sb G Hh u s R N K) (ho : Only (fun x => x = b ∨ x = g ∨ x = sb) w w') : OwnR w' w0.heap.size w'.heap.size v R2 := (hv.only ho h.els).up ho.size
theorem OwnR.go {w0 w w' : World} {v : Value} {R2 : List (List Int)} (hv : OwnR w w0.heap.size w.heap.size v R2) (hb : Below w.heap.size w w') : OwnR w' w0.heap.size w'.heap.size v R2 := (hv.below hb).up hb.size
end
section
open Go.RowKit

/-- a script that came in: five numbers a call -/
def RowV (w : World) (a : Option Addr) (len : Nat) (K A L F M : Nat → Int) : Prop :=
  len = 0 ∨ ∃ b off, a = some ⟨b, off, none⟩ ∧ b < w.heap.size ∧ ∀ i, i < len → w.cell? ⟨b, off + i * 5, none⟩ = some (.int .i64 (K i)) ∧ w.cell? ⟨b, off + i * 5 + 1, none⟩ = some (.int .i64 (A i)) ∧ w.cell? ⟨b, off + i * 5 + 2, none⟩ = some (.int .i64 (L i)) ∧ w.cell? ⟨b, off + i * 5 + 3, none⟩ = some (.int .i64 (F i)) ∧ w.cell? ⟨b, off + i * 5 + 4, none⟩ = some (.int .i64 (M i)) ∧ (Lit.int .i64 (A i)).wf = true ∧ (Lit.int .i64 (F i)).wf = true ∧ (Lit.int .i64 (L i)).wf = true
theorem RowV.at {w wr : World} {a : Option Addr} {len : Nat} {K A L F M : Nat → Int} (h : RowV w a len K A L F M) (hb : Below w.heap.size w wr) {k : Nat} (hk : k < len) : ∃ b off, a = some ⟨b, off, none⟩ ∧ b < w.heap.size ∧ wr.cell? ⟨b, off + k * 5, none⟩ = some (.int .i64 (K k)) ∧ wr.cell? ⟨b, off + k * 5 + 1, none⟩ = some (.int .i64 (A k)) ∧ wr.cell? ⟨b, off + k * 5 + 2, none⟩ = some (.int .i64 (L k)) ∧ wr.cell? ⟨b, off + k * 5 + 3, none⟩ = some (.int .i64 (F k)) ∧ wr.cell? ⟨b, off + k * 5 + 4, none⟩ = some (.int .i64 (M k)) ∧ (Lit.int .i64 (A k)).wf = true ∧ (Lit.int .i64 (F k)).wf = true ∧ (Lit.int .i64 (L k)).wf = true := by
  rcases h with h0 | ⟨b, off, rfl, hs, hc⟩
  · omega
  · obtain ⟨h0, h1, h2, h3, h4, h5⟩ := hc k hk
    exact ⟨b, off, rfl, hs, (hb.cell (p := ⟨b, off + k * 5, none⟩) hs).trans h0, (hb.cell (p := ⟨b, off + k * 5 + 1, none⟩) hs).trans h1, (hb.cell (p := ⟨b, off + k * 5 + 2, none⟩) hs).trans h2, (hb.cell (p := ⟨b, off + k * 5 + 3, none⟩) hs).trans h3, (hb.cell (p := ⟨b, off + k * 5 + 4, none⟩) hs).trans h4, h5⟩
/-- the call's own copy of an entry of the script -/
def Bx5 (w : World) (x : Nat) (k a l f m : Int) : Prop := w.heap[x]? = some (.cells #[.int .i64 k, .int .i64 a, .int .i64 l, .int .i64 f, .int .i64 m] 34 (0, 0))
theorem Bx5.cells {w : World} {x : Nat} {k a l f m : Int} (h : Bx5 w x k a l f m) : w.cell? ⟨x, 0, none⟩ = some (.int .i64 k) ∧ w.cell? ⟨x, 1, none⟩ = some (.int .i64 a) ∧ w.cell? ⟨x, 2, none⟩ = some (.int .i64 l) ∧ w.cell? ⟨x, 3, none⟩ = some (.int .i64 f) ∧ w.cell? ⟨x, 4, none⟩ = some (.int .i64 m) :=
  ⟨by rw [cell_of h]; rfl, by rw [cell_of h]; rfl, by rw [cell_of h]; rfl, by rw [cell_of h]; rfl, by rw [cell_of h]; rfl⟩
theorem Bx5.tag {w : World} {x : Nat} {k a l f m : Int} (h : Bx5 w x k a l f m) : Tag w x 34 := ⟨_, _, h⟩
theorem Bx5.below {w w' : World} {x : Nat} {k a l f m : Int} (h : Bx5 w x k a l f m) (hb : Below w.heap.size w w') : Bx5 w' x k a l f m := (hb.block _ h.tag.lt).trans h
theorem Bx5.law {w0 w w' : World} {b g sb G Hh u : Nat} {s : Dsk} {R : List (List Int)} {N : Nat} {K : Int} {x : Nat} {k a l f m : Int} (hx : Bx5 w x k a l f m) (h : Lw w0 w b g sb G Hh u s R N K) (ho : Only (fun x => x = b ∨ x = g ∨ x = sb) w w') : Bx5 w' x k a l f m :=
  (ho.block _ hx.tag.lt (fun hk => by
    rcases hk with e | e | e
    · exact hx.tag.ne h.dk.tagb (by decide) e
    · exact hx.tag.ne h.dk.tagg (by decide) e
    · exact hx.tag.ne h.ss.tag (by decide) e)).trans hx
theorem Lw.list {w0 w w' : World} {b g sb G Hh u : Nat} {s : Dsk} {R : List (List Int)} {N : Nat} {K : Int} {m : Nat} {v : Value} {R2 : List (List Int)} (h : Lw w0 w b g sb G Hh u s R N K) (hv : OwnR w w0.heap.size m v R2) (ho : Only (fun x => v.ownBlock = some x) w w') : Lw w0 w' b g sb G Hh u s R N K :=
  ⟨h.dk.only ho (fun e => (hv.tag e).ne h.dk.tagb (by decide) rfl) (fun e => (hv.tag e).ne h.dk.tagg (by decide) rfl), h.ss.only ho (fun e => (hv.tag e).ne h.ss.tag (by decide) rfl), h.sc, h.ok, h.by', h.len, ho.below h.bel h.bel.size (fun _ hk => (hv.at hk).1), h.lb, h.lg, h.ls⟩
theorem Lw.le {w0 w : World} {b g sb G Hh u : Nat} {s : Dsk} {R : List (List Int)} {N : Nat} {K K' : Int} (h : Lw w0 w b g sb G Hh u s R N K) (hK : K ≤ K') : Lw w0 w b g sb G Hh u s R N K' := ⟨h.dk, h.ss, h.sc, h.ok.le hK, h.by', h.len, h.bel, h.lb, h.lg, h.ls⟩
theorem Lw.few {w0 w : World} {b g sb G Hh u : Nat} {s : Dsk} {R : List (List Int)} {N : Nat} {K : Int} (h : Lw w0 w b g sb G Hh u s R N K) (hN : N ≤ 1024) : R.length ≤ 1024 := by have := h.bound; have := h.hS; omega
theorem Bx5.list {w w' : World} {x : Nat} {k a l f m : Int} {base m' : Nat} {v : Value} {R2 : List (List Int)} (hx : Bx5 w x k a l f m) (hv : OwnR w base m' v R2) (ho : Only (fun x => v.ownBlock = some x) w w') : Bx5 w' x k a l f m := (ho.block _ hx.tag.lt (fun e => (hv.tag e).ne hx.tag (by decide) rfl)).trans hx
theorem OwnR.lower {w : World} {b0 b1 m : Nat} {v : Value} {R : List (List Int)} (h : OwnR w b1 m v R) (hb : b0 ≤ b1) : OwnR w b0 m v R := by
  obtain ⟨vs, hr, he⟩ := h
  exact ⟨vs, Go.Joins.ownsRow_le hr hb, ⟨he.len, fun i x l h1 h2 => Go.Joins.ownsRow_le (he.own i x l h1 h2) hb, he.lt, he.ne⟩⟩
def Sm (R : List (List Int)) : Prop := ∀ l ∈ R, l.length ≤ 1000000
theorem Sm.app {R : List (List Int)} {l : List Int} (h : Sm R) (hl : l.length ≤ 1000000) : Sm (R ++ [l]) := fun x hx => by
  rcases List.mem_append.1 hx with h1 | h1
  · exact h x h1
  · rw [List.mem_singleton.1 h1]; exact hl
end
end Go.Proofs.Ytajgaialnafdbaa
