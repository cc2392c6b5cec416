/- What is plain, in the document's own words: messages, whole. -/
import Derived.Test.YtekonakanieeaaaJWEpt26
import Derived.Test.YtekonakanieeaaaJWEpt27
import Derived.Test.YtekonakanieeaaaJWEpt28
import Derived.Test.YtekonakanieeaaaJWEpt29
import Derived.Test.YtekonakanieeaaaJWEpt30
import Derived.Test.YtekonakanieeaaaJWEpt08
namespace Go.Proofs.Ytekonakanieeaaa
section
open Go.RowKit Go.Lib

theorem plainB_no {m : Ms} (h : goodB m.re m.im = true → msgOk m.mg → False) : plainB m = false := by
  cases hq : plainB m with
  | false => rfl
  | true => obtain ⟨h1, h2⟩ := (plainB_iff m).1 hq; exact (h h1 h2).elim
theorem nil_of_len {α : Type} {l : List α} (h : l.length = 0) : l = [] := List.length_eq_zero_iff.1 h
theorem plain_d (m : Ms) (w : World) (h : Rows w m) : Calls Try.prog 37 #[.agg m.arr] w fun x w' => x = .returned (.bool (plainB m)) ∧ Below w.heap.size w w' := by
  obtain ⟨kind, client, life, seq, re, im, vers, err, op, ve, vk, es, ks⟩ := m
  have key : ∀ (b : Bool), plainB ⟨kind, client, life, seq, re, im, vers, err, op, ve, vk, es, ks⟩ = b → (Calls Try.prog 37 #[.agg (Ms.arr ⟨kind, client, life, seq, re, im, vers, err, op, ve, vk, es, ks⟩)] w fun x w' => x = .returned (.bool b) ∧ Below w.heap.size w w') → Calls Try.prog 37 #[.agg (Ms.arr ⟨kind, client, life, seq, re, im, vers, err, op, ve, vk, es, ks⟩)] w fun x w' => x = .returned (.bool (plainB ⟨kind, client, life, seq, re, im, vers, err, op, ve, vk, es, ks⟩)) ∧ Below w.heap.size w w' := fun b h1 h2 => by rw [h1]; exact h2
  cases hG : goodB re im with
  | false => exact key false (plainB_no fun g _ => by have g : goodB re im = true := g; rw [hG] at g; cases g) (plm_G kind client life seq re im vers err op ve vk es ks w h.es h.ks hG)
  | true =>
  have hkk : msgOk (Ms.mg ⟨kind, client, life, seq, re, im, vers, err, op, ve, vk, es, ks⟩) → kind = 1 ∨ kind = 2 ∨ kind = 3 ∨ kind = 4 := fun ⟨_, hb⟩ => by
    rcases hb with hb | hb | hb | hb
    · exact .inl hb.1
    · exact .inr (.inl hb.1)
    · exact .inr (.inr (.inl hb.1))
    · exact .inr (.inr (.inr hb.1))
  by_cases hlo : kind < 1
  · exact key false (plainB_no fun _ o => by have := hkk o; omega) (plm_lo kind client life seq re im vers err op ve vk es ks w h.es h.ks hG hlo)
  by_cases hhi : 4 < kind
  · exact key false (plainB_no fun _ o => by have := hkk o; omega) (plm_hi kind client life seq re im vers err op ve vk es ks w h.es h.ks hG hhi)
  have hK : 1 ≤ kind ∧ kind ≤ 4 := by omega
  by_cases h0 : numOk client
  case neg => exact key false (plainB_no fun _ o => h0 o.1.client) (plm_n0 kind client life seq re im vers err op ve vk es ks w h.es h.ks hG hK h0)
  by_cases h1 : numOk life
  case neg => exact key false (plainB_no fun _ o => h1 o.1.life) (plm_n1 kind client life seq re im vers err op ve vk es ks w h.es h.ks hG hK h0 h1)
  by_cases h2 : numOk seq
  case neg => exact key false (plainB_no fun _ o => h2 o.1.seq) (plm_n2 kind client life seq re im vers err op ve vk es ks w h.es h.ks hG hK h0 h1 h2)
  by_cases h3 : numOk vers
  case neg => exact key false (plainB_no fun _ o => h3 o.1.vers) (plm_n3 kind client life seq re im vers err op ve vk es ks w h.es h.ks hG hK h0 h1 h2 h3)
  by_cases h4 : numOk err
  case neg => exact key false (plainB_no fun _ o => h4 o.1.err) (plm_n4 kind client life seq re im vers err op ve vk es ks w h.es h.ks hG hK h0 h1 h2 h3 h4)
  have hE : ∀ g : goodB re im = true, headOk (Ms.mg ⟨kind, client, life, seq, re, im, vers, err, op, ve, vk, es, ks⟩) := fun g => by
    obtain ⟨g1, g2, g3, g4, _⟩ := good_parts g
    exact ⟨h0, h1, h2, ⟨g1, g2⟩, ⟨g3, g4⟩, h3, h4⟩
  have hEh := hE hG
  have h14 : kind = 1 ∨ kind = 2 ∨ kind = 3 ∨ kind = 4 := by omega
  clear hlo hhi hK hkk hE
  rcases h14 with rfl | rfl | rfl | rfl
  · have hbo : bodyOk (Ms.mg ⟨1, client, life, seq, re, im, vers, err, op, ve, vk, es, ks⟩) → opOk op ∧ es = [] ∧ ks = [] := fun hb => by
      rcases hb with ⟨q, hb⟩ | ⟨q, hb⟩ | ⟨q, hb⟩ | ⟨q, hb⟩
      · exact hb
      · have q : (1 : Int) = 2 := q; exact absurd q (by decide)
      · have q : (1 : Int) = 3 := q; exact absurd q (by decide)
      · have q : (1 : Int) = 4 := q; exact absurd q (by decide)
    by_cases hop : opOk op
    case neg => exact key false (plainB_no fun _ o => hop (hbo o.2).1) (plm1_op client life seq re im vers err op ve vk es ks w h.es h.ks hG h0 h1 h2 h3 h4 hop)
    by_cases hl48 : es.length ≤ 48
    case neg => exact key false (plainB_no fun _ o => by have e : es = [] := (hbo o.2).2.1; rw [e] at hl48; simp at hl48) (plm1_e48 client life seq re im vers err op ve vk es ks w h.es h.ks hG h0 h1 h2 h3 h4 hop (by omega))
    by_cases hl : es.length = 0
    case neg => exact key false (plainB_no fun _ o => by have e : es = [] := (hbo o.2).2.1; rw [e] at hl; simp at hl) (plm1_e0 client life seq re im vers err op ve vk es ks w h.es h.ks hG h0 h1 h2 h3 h4 hop hl48 (by omega))
    by_cases hm48 : ks.length ≤ 48
    case neg => exact key false (plainB_no fun _ o => by have e : ks = [] := (hbo o.2).2.2; rw [e] at hm48; simp at hm48) (plm1_k48 client life seq re im vers err op ve vk es ks w h.es h.ks hG h0 h1 h2 h3 h4 hop hl (by omega))
    by_cases hm : ks.length = 0
    case neg => exact key false (plainB_no fun _ o => by have e : ks = [] := (hbo o.2).2.2; rw [e] at hm; simp at hm) (plm1_k0 client life seq re im vers err op ve vk es ks w h.es h.ks hG h0 h1 h2 h3 h4 hop hl hm48 (by omega))
    exact plm1_ok client life seq re im vers err op ve vk es ks w h.es h.ks (plainB ⟨1, client, life, seq, re, im, vers, err, op, ve, vk, es, ks⟩) ((plainB_iff _).trans ⟨fun _ => ⟨fun e he => (by rw [nil_of_len hl] at he; cases he), fun e he => (by rw [nil_of_len hm] at he; cases he)⟩, fun _ => ⟨hG, hEh, .inl ⟨rfl, hop, nil_of_len hl, nil_of_len hm⟩⟩⟩) hG h0 h1 h2 h3 h4 hop hl hm
  · have hbo : bodyOk (Ms.mg ⟨2, client, life, seq, re, im, vers, err, op, ve, vk, es, ks⟩) → op = zeroOp ∧ es.length ≤ 48 ∧ (∀ e ∈ es, entOk e) ∧ ks = [] := fun hb => by
      rcases hb with ⟨q, hb⟩ | ⟨q, hb⟩ | ⟨q, hb⟩ | ⟨q, hb⟩
      · have q : (2 : Int) = 1 := q; exact absurd q (by decide)
      · exact hb
      · have q : (2 : Int) = 3 := q; exact absurd q (by decide)
      · have q : (2 : Int) = 4 := q; exact absurd q (by decide)
    by_cases hop : op = zeroOp
    case neg => exact key false (plainB_no fun _ o => hop (hbo o.2).1) (plm2_op client life seq re im vers err op ve vk es ks w h.es h.ks hG h0 h1 h2 h3 h4 hop)
    by_cases hl : es.length ≤ 48
    case neg => exact key false (plainB_no fun _ o => hl (hbo o.2).2.1) (plm2_e48 client life seq re im vers err op ve vk es ks w h.es h.ks hG h0 h1 h2 h3 h4 hop (by omega))
    by_cases hm48 : ks.length ≤ 48
    case neg => exact key false (plainB_no fun _ o => by have e : ks = [] := (hbo o.2).2.2.2; rw [e] at hm48; simp at hm48) (plm2_k48 client life seq re im vers err op ve vk es ks w h.es h.ks hG h0 h1 h2 h3 h4 hop hl (by omega))
    by_cases hm : ks.length = 0
    case neg => exact key false (plainB_no fun _ o => by have e : ks = [] := (hbo o.2).2.2.2; rw [e] at hm; simp at hm) (plm2_k0 client life seq re im vers err op ve vk es ks w h.es h.ks hG h0 h1 h2 h3 h4 hop hl hm48 (by omega))
    exact plm2_ok client life seq re im vers err op ve vk es ks w h.es h.ks (plainB ⟨2, client, life, seq, re, im, vers, err, op, ve, vk, es, ks⟩) ((plainB_iff _).trans ⟨fun o => ⟨(hbo o.2.2).2.2.1, fun e he => (by rw [nil_of_len hm] at he; cases he)⟩, fun q => ⟨hG, hEh, .inr (.inl ⟨rfl, hop, hl, q.1, nil_of_len hm⟩)⟩⟩) hG h0 h1 h2 h3 h4 hop hl hm
  · have hbo : bodyOk (Ms.mg ⟨3, client, life, seq, re, im, vers, err, op, ve, vk, es, ks⟩) → op = zeroOp ∧ es = [] ∧ 0 < ks.length ∧ ks.length ≤ 48 ∧ (∀ k ∈ ks, keyOk k) := fun hb => by
      rcases hb with ⟨q, hb⟩ | ⟨q, hb⟩ | ⟨q, hb⟩ | ⟨q, hb⟩
      · have q : (3 : Int) = 1 := q; exact absurd q (by decide)
      · have q : (3 : Int) = 2 := q; exact absurd q (by decide)
      · exact hb
      · have q : (3 : Int) = 4 := q; exact absurd q (by decide)
    by_cases hop : op = zeroOp
    case neg => exact key false (plainB_no fun _ o => hop (hbo o.2).1) (plm3_op client life seq re im vers err op ve vk es ks w h.es h.ks hG h0 h1 h2 h3 h4 hop)
    by_cases hl48 : es.length ≤ 48
    case neg => exact key false (plainB_no fun _ o => by have e : es = [] := (hbo o.2).2.1; rw [e] at hl48; simp at hl48) (plm3_e48 client life seq re im vers err op ve vk es ks w h.es h.ks hG h0 h1 h2 h3 h4 hop (by omega))
    by_cases hl : es.length = 0
    case neg => exact key false (plainB_no fun _ o => by have e : es = [] := (hbo o.2).2.1; rw [e] at hl; simp at hl) (plm3_e0 client life seq re im vers err op ve vk es ks w h.es h.ks hG h0 h1 h2 h3 h4 hop hl48 (by omega))
    by_cases hm : ks.length ≤ 48
    case neg => exact key false (plainB_no fun _ o => hm (hbo o.2).2.2.2.1) (plm3_k48 client life seq re im vers err op ve vk es ks w h.es h.ks hG h0 h1 h2 h3 h4 hop hl (by omega))
    by_cases hm2 : 0 < ks.length
    case neg => exact key false (plainB_no fun _ o => hm2 (hbo o.2).2.2.1) (plm3_k0 client life seq re im vers err op ve vk es ks w h.es h.ks hG h0 h1 h2 h3 h4 hop hl (by omega))
    exact plm3_ok client life seq re im vers err op ve vk es ks w h.es h.ks (plainB ⟨3, client, life, seq, re, im, vers, err, op, ve, vk, es, ks⟩) ((plainB_iff _).trans ⟨fun o => ⟨fun e he => (by rw [nil_of_len hl] at he; cases he), (hbo o.2.2).2.2.2.2⟩, fun q => ⟨hG, hEh, .inr (.inr (.inl ⟨rfl, hop, nil_of_len hl, hm2, hm, q.2⟩))⟩⟩) hG h0 h1 h2 h3 h4 hop hl hm hm2
  · have hbo : bodyOk (Ms.mg ⟨4, client, life, seq, re, im, vers, err, op, ve, vk, es, ks⟩) → op = zeroOp ∧ es = [] ∧ ks = [] := fun hb => by
      rcases hb with ⟨q, hb⟩ | ⟨q, hb⟩ | ⟨q, hb⟩ | ⟨q, hb⟩
      · have q : (4 : Int) = 1 := q; exact absurd q (by decide)
      · have q : (4 : Int) = 2 := q; exact absurd q (by decide)
      · have q : (4 : Int) = 3 := q; exact absurd q (by decide)
      · exact hb
    by_cases hop : op = zeroOp
    case neg => exact key false (plainB_no fun _ o => hop (hbo o.2).1) (plm4_op client life seq re im vers err op ve vk es ks w h.es h.ks hG h0 h1 h2 h3 h4 hop)
    by_cases hl48 : es.length ≤ 48
    case neg => exact key false (plainB_no fun _ o => by have e : es = [] := (hbo o.2).2.1; rw [e] at hl48; simp at hl48) (plm4_e48 client life seq re im vers err op ve vk es ks w h.es h.ks hG h0 h1 h2 h3 h4 hop (by omega))
    by_cases hl : es.length = 0
    case neg => exact key false (plainB_no fun _ o => by have e : es = [] := (hbo o.2).2.1; rw [e] at hl; simp at hl) (plm4_e0 client life seq re im vers err op ve vk es ks w h.es h.ks hG h0 h1 h2 h3 h4 hop hl48 (by omega))
    by_cases hm48 : ks.length ≤ 48
    case neg => exact key false (plainB_no fun _ o => by have e : ks = [] := (hbo o.2).2.2; rw [e] at hm48; simp at hm48) (plm4_k48 client life seq re im vers err op ve vk es ks w h.es h.ks hG h0 h1 h2 h3 h4 hop hl (by omega))
    by_cases hm : ks.length = 0
    case neg => exact key false (plainB_no fun _ o => by have e : ks = [] := (hbo o.2).2.2; rw [e] at hm; simp at hm) (plm4_k0 client life seq re im vers err op ve vk es ks w h.es h.ks hG h0 h1 h2 h3 h4 hop hl hm48 (by omega))
    exact plm4_ok client life seq re im vers err op ve vk es ks w h.es h.ks (plainB ⟨4, client, life, seq, re, im, vers, err, op, ve, vk, es, ks⟩) ((plainB_iff _).trans ⟨fun _ => ⟨fun e he => (by rw [nil_of_len hl] at he; cases he), fun e he => (by rw [nil_of_len hm] at he; cases he)⟩, fun _ => ⟨hG, hEh, .inr (.inr (.inr ⟨rfl, hop, nil_of_len hl, nil_of_len hm⟩))⟩⟩) hG h0 h1 h2 h3 h4 hop hl hm
end
end Go.Proofs.Ytekonakanieeaaa
