/- The program's tree: mutations, found in a map of method values. -/
import Derived.Test.YtjelggpkeogebaaTpM
namespace Go.Proofs.Ytjelggpkeogebaa
open Go.RowKit
attribute [local go_sem high] eqK' neqK' eqE neqE eqN neqN guardK guardE guardN

/-- a method value of the tree -/
def mutF (t f : Nat) : Value := .func (.func f) #[.pointer (some ⟨t, 0, none⟩)] #[]
def mutMap (t : Nat) : Array MapEntry := #[⟨.int .i64 5, mutF t 49, 0⟩, ⟨.int .i64 6, mutF t 50, 1⟩, ⟨.int .i64 7, mutF t 51, 2⟩, ⟨.int .i64 8, mutF t 52, 3⟩, ⟨.int .i64 9, mutF t 53, 4⟩, ⟨.int .i64 10, mutF t 54, 5⟩, ⟨.int .i64 11, mutF t 55, 6⟩]
theorem run_make (w : World) : (Instr.makeMap 72 none).run Try.prog w = .ok (.map (some w.heap.size)) (w.alloc (.map #[] 0)) := rfl
theorem push_again (a : Array Obj) (o o' : Obj) : (a.push o).setIfInBounds a.size o' = a.push o' := by
  apply Array.ext_getElem?
  intro i
  rw [Array.getElem?_setIfInBounds]
  by_cases h : a.size = i
  · subst h; simp
  · rw [if_neg h]
    simp only [Array.getElem?_push]
    rw [if_neg (Ne.symm h), if_neg (Ne.symm h)]
theorem getO {P : Program} {w : World} {r c : Nat} {es : Array MapEntry} (hb : w.heap[r]? = some (.map es c)) : (getObj r).run P w = .ok (.map es c) w := by simp [getObj, Sem.run, hb]
theorem setO (P : Program) (w : World) (es : Array MapEntry) (c : Nat) (o' : Obj) : (setObj w.heap.size o').run P (w.alloc (.map es c)) = .ok () (w.alloc o') := by
  obtain ⟨o, ho⟩ : ∃ o, Obj.map es c = o := ⟨_, rfl⟩
  have hb : (w.alloc (.map es c)).heap[w.heap.size]? = some (.map es c) := heap_new _ _
  rw [ho] at hb ⊢
  have h1 : ({ w.alloc o with heap := (w.alloc o).heap.setIfInBounds w.heap.size o' } : World) = w.alloc o' := by
    show World.mk ((w.heap.push o).setIfInBounds w.heap.size o') w.tape w.drawn w.os w.output = World.mk (w.heap.push o') w.tape w.drawn w.os w.output
    rw [push_again]
  rw [← h1]
  simp only [setObj, Sem.run, hb]
  rw [← ho]
theorem check_int (b : Bool) (k : Int) (w : World) : (Instr.checkKey b 10000 3 (.int .i64 k)).run Try.prog w = .ok () w := by
  rw [show (10000 : Nat) = 9999 + 1 from rfl, Instr.checkKey]
  simp [run_underlying Try.underlying3]
theorem run_ins (w : World) (es : Array MapEntry) (c : Nat) (k : Int) (v : Value) (h : Instr.findNow (.int .i64) (.int .i64 k) es.toList 0 = some none) :
    (Instr.mapUpdate 72 (.map (some w.heap.size)) (.int .i64 k) v).run Try.prog (w.alloc (.map es c)) = .ok () (w.alloc (.map (es.push ⟨.int .i64 k, v, c⟩) (c + 1))) := by
  have hb : (w.alloc (.map es c)).heap[w.heap.size]? = some (.map es c) := heap_new _ _
  unfold Instr.mapUpdate
  simp [run_underlying Try.underlying72, getO hb, check_int, Instr.findKey, run_underlying Try.underlying3, h, setO]
theorem run_look (w : World) (b t : Nat) (k : Int) (i : Nat) (v : Value) (hb : w.heap[b]? = some (.map (mutMap t) 7)) (h : Instr.findNow (.int .i64) (.int .i64 k) (mutMap t).toList 0 = some (some (i, v))) :
    (Instr.lookup 72 (.map (some b)) (.int .i64 k) true).run Try.prog w = .ok (.tuple #[v, .bool true]) w := by
  unfold Instr.lookup
  simp [run_underlying Try.underlying72, getO hb, check_int, Instr.findKey, run_underlying Try.underlying3, h]
theorem run_look_no (w : World) (b t : Nat) (k : Int) (hb : w.heap[b]? = some (.map (mutMap t) 7)) (h : k < 5 ∨ 11 < k) :
    (Instr.lookup 72 (.map (some b)) (.int .i64 k) true).run Try.prog w = .ok (.tuple #[.nilFunc, .bool false]) w := by
  have hf : Instr.findNow (.int .i64) (.int .i64 k) (mutMap t).toList 0 = some none := by
    have h5 : (k == 5) = false := by simp; omega
    have h6 : (k == 6) = false := by simp; omega
    have h7 : (k == 7) = false := by simp; omega
    have h8 : (k == 8) = false := by simp; omega
    have h9 : (k == 9) = false := by simp; omega
    have h10 : (k == 10) = false := by simp; omega
    have h11 : (k == 11) = false := by simp; omega
    simp [mutMap, Instr.findNow, Instr.sameNow, h5, h6, h7, h8, h9, h10, h11]
  unfold Instr.lookup
  simp [run_underlying Try.underlying72, getO hb, check_int, Instr.findKey, run_underlying Try.underlying3, hf, Try.zeroValue70]

set_option maxHeartbeats 4000000 in
theorem mutations_p (t : Nat) (w : World) : Calls Try.prog 33 #[.pointer (some ⟨t, 0, none⟩)] w fun e w' => e = .returned (.map (some w.heap.size)) ∧ w' = w.alloc (.map (mutMap t) 7) := by
  have i0 := run_make w
  have i1 := run_ins w #[] 0 5 (mutF t 49) rfl
  have i2 := run_ins w #[⟨.int .i64 5, mutF t 49, 0⟩] 1 6 (mutF t 50) rfl
  have i3 := run_ins w #[⟨.int .i64 5, mutF t 49, 0⟩, ⟨.int .i64 6, mutF t 50, 1⟩] 2 7 (mutF t 51) rfl
  have i4 := run_ins w #[⟨.int .i64 5, mutF t 49, 0⟩, ⟨.int .i64 6, mutF t 50, 1⟩, ⟨.int .i64 7, mutF t 51, 2⟩] 3 8 (mutF t 52) rfl
  have i5 := run_ins w #[⟨.int .i64 5, mutF t 49, 0⟩, ⟨.int .i64 6, mutF t 50, 1⟩, ⟨.int .i64 7, mutF t 51, 2⟩, ⟨.int .i64 8, mutF t 52, 3⟩] 4 9 (mutF t 53) rfl
  have i6 := run_ins w #[⟨.int .i64 5, mutF t 49, 0⟩, ⟨.int .i64 6, mutF t 50, 1⟩, ⟨.int .i64 7, mutF t 51, 2⟩, ⟨.int .i64 8, mutF t 52, 3⟩, ⟨.int .i64 9, mutF t 53, 4⟩] 5 10 (mutF t 54) rfl
  have i7 := run_ins w #[⟨.int .i64 5, mutF t 49, 0⟩, ⟨.int .i64 6, mutF t 50, 1⟩, ⟨.int .i64 7, mutF t 51, 2⟩, ⟨.int .i64 8, mutF t 52, 3⟩, ⟨.int .i64 9, mutF t 53, 4⟩, ⟨.int .i64 10, mutF t 54, 5⟩] 6 11 (mutF t 55) rfl
  simp only [List.push_toArray, List.cons_append, List.nil_append, Nat.reduceAdd, mutF] at i1 i2 i3 i4 i5 i6 i7
  unfold mutMap mutF
  go_enter Try.func33, Try.ntmps33
  go_wp2
  go_ret
  exact ⟨rfl, rfl⟩
end Go.Proofs.Ytjelggpkeogebaa
