import PyProof.Rows.All
import Wide.All
import OpenK.AllK
import Wide.FinOn
import HandS.ForMost
import HandS.Exc
import HandS.TryOnly
import HandS.ExcOwn
import HandS.ExcBuiltin
import HandS.WordsExc
import HandS.IsInst
import HandS.Defaults
import HandS.Star
import HandS.Flow
import HandS.Wide
import HandS.Gcd
import HandS.Evl
import HandS.CallSlots
import KE.KExcSuper
import HandS.ExcInit
import HandS.FStr
import HandS.ExcIs
import HandS.ExcField
import KE.KExcIs
import KE.KOpsOwn
import KE.KCallOwn
import HandS.OwnEq
import PyProof.ListMulRight
import HandS.Codes
import HandS.SlotsOwn
import PyProof.Rows.TmSorted
import PyProof.Rows.StrMeet
import HandS.Walk
import HandS.RaiseMore
import HandS.TupAny
import HandS.Conv
import PyProof.Rows.StrDigitsNeg
import HandS.Zip
import HandS.DictComp
import KE.KDictWalk
import HandS.TupLen
import HandS.Deep
import HandS.SortRule
import HandS.Sort
import HandS.DictEq
import KE.KDictCopyH
import HandS.ClsMeth
import KE.KTupTruth
import HandS.Small
import PyProof.Rows.Range3
import KE.GoesMore
import PyProof.Draws
import KE.GoesZip
import PyProof.GenRules
import PyProof.GenQ
import HandS.GenList
import HandS.DictTup
import KE.KDictDisplayH
import PyProof.DictMoreH
import KE.KParD
import HandS.TryMany
import PyProof.StrBlock2
import PyProof.TupleKey
import HandS.SetFor
import HandS.SortInts
import PyProof.Rows.SetFrom
import PyProof.Rows.SortShellAny
import PySem.Challenge.RW_metehouse_k08_pieces_as_sets
set_option Elab.async false
set_option linter.all false
set_option maxRecDepth 100000
set_option maxHeartbeats 4000000
namespace My
open PySem PySem.Spec PyProof.Rows L2 StX
/-! ### rules of my own -/
section
variable {X : Cx}
/-- floor division by any divisor that is not 0, below 2 ^ 9000 in size -/
theorem op_fdivWN : OpR X (binaryOp .FloorDiv) (rI (fun _ j => j ≠ 0 ∧ j.natAbs.log2 < 9000) fun i j => .int (i.fdiv j)) :=
  opI fun _ _ _ _ _ _ _ hc q => floordiv_int hc.1 q (.inl (PyProof.noPylong_of_log2 hc.2))
theorem op_mulG : OpR X (binaryOp .Mult) (rI (fun i j => CMul i j ∨ CMulW i j) fun i j => .int (i * j)) := opI fun _ _ _ _ _ _ _ hc q => mul_int q (hc.elim CMul.ok CMulW.ok)
variable {CX : CXT} {k : Nat} {f : Addr} {sp : Sp} {E : XK} {x : Str} {p pos : Pos} {e : Expr} {es : List Expr} {t : TA}
end
section
variable {P : Program} {w : World} {K : PySem.W.Frag} {mg : Str → Option Value} {base : Heap}
end
/-! ### heaps: what is kept but at some addresses -/
def Keep (M : List Addr) (H H' : Hp) : Prop := ∀ b o, b ∉ M → H b = some o → H' b = some o
theorem Keep.refl (M : List Addr) (H : Hp) : Keep M H H := fun _ _ _ h => h
theorem Keep.trans {M : List Addr} {H H1 H2 : Hp} (a : Keep M H H1) (b : Keep M H1 H2) : Keep M H H2 := fun c o n h => b c o n (a c o n h)
theorem Keep.new {M : List Addr} {H : Hp} {p : Addr} {o : HO} (h : H p = none) : Keep M H (upd H p o) := fun b u _ e => by
  rw [upd_ne (ne_of_none e h)]; exact e
theorem Keep.at {M : List Addr} {H : Hp} {p : Addr} {o : HO} (h : p ∈ M) : Keep M H (upd H p o) := fun b u n e => by
  rw [upd_ne (fun z => n (by rw [z]; exact h))]; exact e
/-- an object that H does not know may change -/
theorem Keep.mut {M : List Addr} {H H' : Hp} {p : Addr} {o : HO} (e : Keep M H H') (h : H p = none) : Keep M H (upd H' p o) := fun b u n hb => by
  rw [upd_ne (ne_of_none hb h)]; exact e b u n hb
theorem Keep.mono {M N : List Addr} {H H' : Hp} (e : Keep M H H') (h : ∀ a ∈ M, a ∈ N) : Keep N H H' := fun b o n hb => e b o (fun z => n (h b z)) hb
theorem Keep.rd {M : List Addr} {H H' : Hp} {a : Addr} {u : HO} (e : Keep M H H') (n : a ∉ M) (h : Rd H a u) : Rd H' a u := by
  rcases h with h | ⟨o, h⟩
  · exact Or.inl (e a _ n h)
  · exact Or.inr ⟨o, e a _ n h⟩
theorem Keep.l {M : List Addr} {K : PySem.W.Frag} {H H' : Hp} {a : Addr} {xs : List V} (e : Keep M H H') (n : a ∉ M) (h : SqL K H a xs) : SqL K H' a xs := by
  rcases h with h | h
  · exact Or.inl (e.rd n h)
  · exact Or.inr h
theorem Keep.t {M : List Addr} {K : PySem.W.Frag} {H H' : Hp} {a : Addr} {xs : List V} (e : Keep M H H') (n : a ∉ M) (h : SqT K H a xs) : SqT K H' a xs := by
  rcases h with h | h
  · exact Or.inl (e.rd n h)
  · exact Or.inr h
theorem Keep.free {M : List Addr} {H H' : Hp} (e : Keep M H H') {l : Addr} (n : l ∉ M) (h : H' l = Option.none) : H l = Option.none := by
  cases q : H l with
  | none => rfl
  | some o => rw [e l o n q] at h; cases h
/-- an address that is untracked later, though tracked addresses stay (M's own, too) -/
theorem ne_free {H : Hp} {a p : Addr} {o : HO} (h : H a = some o) (n : H p = none) : p ≠ a := fun e => by rw [e, h] at n; cases n
theorem sqL_of {K : PySem.W.Frag} {H : Hp} {a : Addr} {xs : List V} (h : H a = some (.lst xs)) : SqL K H a xs := Or.inl (Or.inl h)
theorem sqT_of {K : PySem.W.Frag} {H : Hp} {a : Addr} {xs : List V} (h : H a = some (.tup xs)) : SqT K H a xs := Or.inl (Or.inl h)
theorem le_size {n : Nat} (h : n ≤ 100000) : n ≤ sizeLine := Nat.le_trans h (by decide)
theorem lt_size {n : Nat} (h : n < 100000) : n < sizeLine := Nat.lt_of_lt_of_le h (by decide)
theorem ixN_nn {n j : Nat} (h : j < n) : ixN n (j : Int) = some j := by
  unfold ixN; rw [if_pos (by omega), if_pos (by omega), Int.toNat_natCast]
theorem cxOf_K {CX : CXT} {P : Program} {w : World} {K : PySem.W.Frag} {mg : Str → Option Value} {base : Heap} {N : List Str} {qual : Str} {scope : Scope} {f : Addr} {cd : Value} {A : Around} {outer : List Env} {s : Shared} {H : Hp} {E : XK} :
    (cxOf CX P w K mg base N qual scope f cd A outer s H E).K = K := rfl
/-! ### readings, by the head of their terms -/
section
variable {K : PySem.W.Frag} {σ : L2.St} {H : Hp} {Q : VK} {QA : List V → Hp → Prop} {QB : Bool → Hp → Prop} {QO : Option Int → Hp → Prop} {D : Ends} {ta tb te tc : TE} {t u : TT} {ts tr : TS} {r : R2} {v x y : V} {G : TG} {tas : TA}
theorem r_nxE {a b d : L2.St → Hp → Prop} {c : VK} (k : a σ H) : Ends.nx ⟨a, c, b, d⟩ σ H := k
theorem r_rtE {a b d : L2.St → Hp → Prop} {c : VK} (k : c v H) : Ends.rt ⟨a, c, b, d⟩ v H := k
theorem r_var {i : Nat} (h : σ[i]? = some (some v)) (k : Q v H) : tVar i σ H Q := ⟨v, h, k⟩
theorem r_c (k : Q v H) : tC v σ H Q := k
theorem r_op (k : ta σ H fun x H1 => tb σ H1 fun y H2 => r x y H2 Q) : tOp r ta tb σ H Q := k
theorem r_un {r : V → Hp → VK → Prop} (k : ta σ H fun x H1 => r x H1 Q) : tUn r ta σ H Q := k
theorem r_I0 {g : Int → Int → V} {i j : Int} (k : Q (g i j) H) : rI0 g (.int i) (.int j) H Q := ⟨i, j, rfl, rfl, k⟩
theorem r_I {C : Int → Int → Prop} {g : Int → Int → V} {i j : Int} (c : C i j) (k : Q (g i j) H) : rI C g (.int i) (.int j) H Q := ⟨i, j, rfl, rfl, c, k⟩
theorem r_U {g : Int → V} {i : Int} (k : Q (g i) H) : rU g (.int i) H Q := ⟨i, rfl, k⟩
theorem dec_int {i j : Int} : decide (V.int i = V.int j) = decide (i = j) := by
  by_cases h : i = j
  · subst h; simp
  · rw [decide_eq_false h, decide_eq_false (fun e => h (V.int.inj e))]
theorem dec_str {i j : Str} : decide (V.str i = V.str j) = decide (i = j) := by
  by_cases h : i = j
  · subst h; simp
  · rw [decide_eq_false h, decide_eq_false (fun e => h (V.str.inj e))]
theorem dec_bl {i j : Bool} : decide (V.bl i = V.bl j) = decide (i = j) := by
  by_cases h : i = j
  · subst h; simp
  · rw [decide_eq_false h, decide_eq_false (fun e => h (V.bl.inj e))]
theorem r_eqI {i j : Int} (k : Q (.bl (decide (i = j))) H) : rEq (.int i) (.int j) H Q := ⟨rfl, by rw [dec_int]; exact k⟩
theorem r_neI {i j : Int} (k : Q (.bl (!decide (i = j))) H) : rNe (.int i) (.int j) H Q := ⟨rfl, by rw [dec_int]; exact k⟩
theorem r_neS {i j : Str} (k : Q (.bl (!decide (i = j))) H) : rNe (.str i) (.str j) H Q := ⟨rfl, by rw [dec_str]; exact k⟩
theorem r_eqB {i j : Bool} (k : Q (.bl (decide (i = j))) H) : rEq (.bl i) (.bl j) H Q := ⟨rfl, by rw [dec_bl]; exact k⟩
theorem r_neB {i j : Bool} (k : Q (.bl (!decide (i = j))) H) : rNe (.bl i) (.bl j) H Q := ⟨rfl, by rw [dec_bl]; exact k⟩
theorem r_test (k : te σ H fun x H' => ∃ k, x = .bl k ∧ QB k H') : tTest te σ H QB := k
theorem r_tB (k : te σ H fun x H' => ∃ k, x = .bl k ∧ QB k H') : tB te σ H QB := k
theorem r_bl {b : Bool} {P : Bool → Prop} (k : P b) : ∃ c, V.bl b = .bl c ∧ P c := ⟨b, rfl, k⟩
theorem r_and (k : t σ H fun c H1 => if c = true then u σ H1 QB else QB false H1) : tAnd t u σ H QB := k
theorem r_or (k : t σ H fun c H1 => if c = true then QB true H1 else u σ H1 QB) : tOr t u σ H QB := k
theorem r_not (k : t σ H fun c H1 => QB (!c) H1) : tNot t σ H QB := k
theorem r_andV (k : ta σ H fun x H1 => ∃ c, x = .bl c ∧ if c = true then tb σ H1 Q else Q (.bl false) H1) : tAndV ta tb σ H Q := k
theorem r_orV (k : ta σ H fun x H1 => ∃ c, x = .bl c ∧ if c = true then Q (.bl true) H1 else tb σ H1 Q) : tOrV ta tb σ H Q := k
theorem r_notV (k : ta σ H fun x H1 => ∃ c, x = .bl c ∧ Q (.bl (!c)) H1) : tNotV ta σ H Q := k
theorem r_if (k : t σ H fun c H1 => if c = true then ta σ H1 Q else tb σ H1 Q) : tIf t ta tb σ H Q := k
theorem r_seq (k : ts { D with nx := tr D } σ H) : tSeq ts tr D σ H := k
theorem r_asg (k : te σ H fun x H1 => G x σ H1 D.nx) : tAsg te G D σ H := k
theorem r_gName1 {x0 x1 : Option V} {Q : L2.St → Hp → Prop} (k : Q (x0 :: some v :: σ) H) : gName 1 v (x0 :: x1 :: σ) H Q := k
theorem r_gName2 {x0 x1 x2 : Option V} {Q : L2.St → Hp → Prop} (k : Q (x0 :: x1 :: some v :: σ) H) : gName 2 v (x0 :: x1 :: x2 :: σ) H Q := k
theorem r_gName3 {x0 x1 x2 x3 : Option V} {Q : L2.St → Hp → Prop} (k : Q (x0 :: x1 :: x2 :: some v :: σ) H) : gName 3 v (x0 :: x1 :: x2 :: x3 :: σ) H Q := k
theorem r_gName4 {x0 x1 x2 x3 x4 : Option V} {Q : L2.St → Hp → Prop} (k : Q (x0 :: x1 :: x2 :: x3 :: some v :: σ) H) : gName 4 v (x0 :: x1 :: x2 :: x3 :: x4 :: σ) H Q := k
theorem r_gName5 {x0 x1 x2 x3 x4 x5 : Option V} {Q : L2.St → Hp → Prop} (k : Q (x0 :: x1 :: x2 :: x3 :: x4 :: some v :: σ) H) : gName 5 v (x0 :: x1 :: x2 :: x3 :: x4 :: x5 :: σ) H Q := k
theorem r_gName6 {x0 x1 x2 x3 x4 x5 x6 : Option V} {Q : L2.St → Hp → Prop} (k : Q (x0 :: x1 :: x2 :: x3 :: x4 :: x5 :: some v :: σ) H) : gName 6 v (x0 :: x1 :: x2 :: x3 :: x4 :: x5 :: x6 :: σ) H Q := k
theorem r_gName7 {x0 x1 x2 x3 x4 x5 x6 x7 : Option V} {Q : L2.St → Hp → Prop} (k : Q (x0 :: x1 :: x2 :: x3 :: x4 :: x5 :: x6 :: some v :: σ) H) : gName 7 v (x0 :: x1 :: x2 :: x3 :: x4 :: x5 :: x6 :: x7 :: σ) H Q := k
theorem r_gName8 {x0 x1 x2 x3 x4 x5 x6 x7 x8 : Option V} {Q : L2.St → Hp → Prop} (k : Q (x0 :: x1 :: x2 :: x3 :: x4 :: x5 :: x6 :: x7 :: some v :: σ) H) : gName 8 v (x0 :: x1 :: x2 :: x3 :: x4 :: x5 :: x6 :: x7 :: x8 :: σ) H Q := k
theorem r_gName9 {x0 x1 x2 x3 x4 x5 x6 x7 x8 x9 : Option V} {Q : L2.St → Hp → Prop} (k : Q (x0 :: x1 :: x2 :: x3 :: x4 :: x5 :: x6 :: x7 :: x8 :: some v :: σ) H) : gName 9 v (x0 :: x1 :: x2 :: x3 :: x4 :: x5 :: x6 :: x7 :: x8 :: x9 :: σ) H Q := k
theorem r_gName10 {x0 x1 x2 x3 x4 x5 x6 x7 x8 x9 x10 : Option V} {Q : L2.St → Hp → Prop} (k : Q (x0 :: x1 :: x2 :: x3 :: x4 :: x5 :: x6 :: x7 :: x8 :: x9 :: some v :: σ) H) : gName 10 v (x0 :: x1 :: x2 :: x3 :: x4 :: x5 :: x6 :: x7 :: x8 :: x9 :: x10 :: σ) H Q := k
theorem r_gName11 {x0 x1 x2 x3 x4 x5 x6 x7 x8 x9 x10 x11 : Option V} {Q : L2.St → Hp → Prop} (k : Q (x0 :: x1 :: x2 :: x3 :: x4 :: x5 :: x6 :: x7 :: x8 :: x9 :: x10 :: some v :: σ) H) : gName 11 v (x0 :: x1 :: x2 :: x3 :: x4 :: x5 :: x6 :: x7 :: x8 :: x9 :: x10 :: x11 :: σ) H Q := k
theorem r_gName12 {x0 x1 x2 x3 x4 x5 x6 x7 x8 x9 x10 x11 x12 : Option V} {Q : L2.St → Hp → Prop} (k : Q (x0 :: x1 :: x2 :: x3 :: x4 :: x5 :: x6 :: x7 :: x8 :: x9 :: x10 :: x11 :: some v :: σ) H) : gName 12 v (x0 :: x1 :: x2 :: x3 :: x4 :: x5 :: x6 :: x7 :: x8 :: x9 :: x10 :: x11 :: x12 :: σ) H Q := k
theorem r_ret (k : te σ H D.rt) : tRet te D σ H := k
theorem r_drop (k : te σ H fun _ H1 => D.nx σ H1) : tDrop te D σ H := k
theorem r_ifS (k : t σ H fun b H1 => if b = true then ts D σ H1 else tr D σ H1) : tIfS t ts tr D σ H := k
theorem r_next (k : D.nx σ H) : tNext D σ H := k
theorem r_cb {r : List V → Hp → VK → Prop} (k : tas σ H fun vs H1 => r vs H1 Q) : tCB r tas σ H Q := k
theorem r_cons (k : ta σ H fun x H1 => tas σ H1 fun xs H2 => QA (x :: xs) H2) : tCons ta tas σ H QA := k
theorem r_nil (k : QA [] H) : tNil σ H QA := k
theorem r_call {sp : Sp} {dvs : List V} {E : XK} (k : tas σ H fun vs H1 => sp (vs ++ dvs) H1 Q E) : tCall sp dvs E tas σ H Q := k
theorem r_lst (k : tas σ H fun xs H1 => xs.length ≤ sizeLine ∧ ∀ p, H1 p = none → Q (.ref p) (upd H1 p (.lst xs))) : tLst tas σ H Q := k
theorem r_tup (k : tas σ H fun xs H1 => xs.length ≤ sizeLine ∧ ∀ p, H1 p = none → Q (.ref p) (upd H1 p (.tup xs))) : tTup tas σ H Q := k
theorem r_ixL {p : Addr} {xs : List V} {i : Int} (h : SqL K H p xs) (h2 : atI xs i = some v) (k : Q v H) : rIxL K (.ref p) (.int i) H Q := ⟨p, xs, i, v, rfl, rfl, h, h2, k⟩
theorem r_ixT {p : Addr} {xs : List V} {i : Int} (h : SqT K H p xs) (h2 : atI xs i = some v) (k : Q v H) : rIxT K (.ref p) (.int i) H Q := ⟨p, xs, i, v, rfl, rfl, h, h2, k⟩
theorem r_gSub {to ti : TE} {s : TSet} {Q : L2.St → Hp → Prop} (k : to σ H fun o H1 => ti σ H1 fun i H2 => s o i v H2 fun H3 => Q σ H3) : gSub to ti s v σ H Q := k
theorem r_setP0 {p : Addr} {x0 : V} {xs : List V} {Q : Hp → Prop} (h : H p = some (.lst (x0 :: xs))) (k : Q (upd H p (.lst (v :: xs)))) : rSetL (.ref p) (.int 0) v H Q := ⟨p, _, 0, 0, rfl, rfl, h, ixN_nn (j := 0) (by simp), k⟩
theorem r_setP1 {p : Addr} {x0 x1 : V} {xs : List V} {Q : Hp → Prop} (h : H p = some (.lst (x0 :: x1 :: xs))) (k : Q (upd H p (.lst (x0 :: v :: xs)))) : rSetL (.ref p) (.int 1) v H Q := ⟨p, _, 1, 1, rfl, rfl, h, ixN_nn (j := 1) (by simp), k⟩
theorem r_setP2 {p : Addr} {x0 x1 x2 : V} {xs : List V} {Q : Hp → Prop} (h : H p = some (.lst (x0 :: x1 :: x2 :: xs))) (k : Q (upd H p (.lst (x0 :: x1 :: v :: xs)))) : rSetL (.ref p) (.int 2) v H Q := ⟨p, _, 2, 2, rfl, rfl, h, ixN_nn (j := 2) (by simp), k⟩
theorem r_setP3 {p : Addr} {x0 x1 x2 x3 : V} {xs : List V} {Q : Hp → Prop} (h : H p = some (.lst (x0 :: x1 :: x2 :: x3 :: xs))) (k : Q (upd H p (.lst (x0 :: x1 :: x2 :: v :: xs)))) : rSetL (.ref p) (.int 3) v H Q := ⟨p, _, 3, 3, rfl, rfl, h, ixN_nn (j := 3) (by simp), k⟩
theorem r_cut (M : L2.St → Hp → Prop) (h : ts { D with nx := M } σ H) (k : ∀ σ' H', M σ' H' → tr D σ' H') : Evl.tCut ts tr D σ H := ⟨M, h, k⟩
theorem r_sl {r : V → Option Int → Option Int → Hp → VK → Prop} {tl th : TO} (k : te σ H fun x H1 => tl σ H1 fun l H2 => th σ H2 fun u H3 => r x l u H3 Q) : tSl r te tl th σ H Q := k
theorem r_ite {p : Prop} {_i : Decidable p} {A B : Prop} (h1 : p → A) (h2 : ¬ p → B) : if decide p = true then A else B := by
  by_cases h : p
  · rw [if_pos (decide_eq_true h)]; exact h1 h
  · rw [if_neg (by rw [decide_eq_false h]; decide)]; exact h2 h
theorem r_iteN {p : Prop} {_i : Decidable p} {A B : Prop} (h1 : ¬ p → A) (h2 : p → B) : if (!decide p) = true then A else B := by
  by_cases h : p
  · rw [if_neg (by rw [decide_eq_true h]; decide)]; exact h2 h
  · rw [if_pos (by rw [decide_eq_false h]; rfl)]; exact h1 h
theorem r_iteT {p : Prop} [Decidable p] {A B : Prop} (h : p) (k : A) : if decide p = true then A else B := by
  rw [if_pos (decide_eq_true h)]; exact k
theorem r_iteF {p : Prop} [Decidable p] {A B : Prop} (h : ¬ p) (k : B) : if decide p = true then A else B := by
  rw [if_neg (by rw [decide_eq_false h]; decide)]; exact k
theorem r_iteNT {p : Prop} [Decidable p] {A B : Prop} (h : ¬ p) (k : A) : if (!decide p) = true then A else B := by
  rw [if_pos (by rw [decide_eq_false h]; rfl)]; exact k
theorem r_iteNF {p : Prop} [Decidable p] {A B : Prop} (h : p) (k : B) : if (!decide p) = true then A else B := by
  rw [if_neg (by rw [decide_eq_true h]; decide)]; exact k
theorem r_int1 {i : Int} {F : Int → Prop} {G : Bool → Prop} (k : F i) : (∃ j, [V.int i] = [.int j] ∧ F j) ∨ ∃ b, [V.int i] = [.bl b] ∧ G b := .inl ⟨i, rfl, k⟩
theorem r_lenL {p : Addr} {xs : List V} {F : List V → Prop} (h : SqL K H p xs) (k : F xs) : ∃ q ys, [V.ref p] = [.ref q] ∧ (SqL K H q ys ∨ SqT K H q ys) ∧ F ys := ⟨p, xs, rfl, .inl h, k⟩
theorem r_lenT {p : Addr} {xs : List V} {F : List V → Prop} (h : SqT K H p xs) (k : F xs) : ∃ q ys, [V.ref p] = [.ref q] ∧ (SqL K H q ys ∨ SqT K H q ys) ∧ F ys := ⟨p, xs, rfl, .inr h, k⟩
theorem abs_if {i : Int} : (if i < 0 then -i else i) = (i.natAbs : Int) := by split <;> omega
theorem max_if {i j : Int} : (if j > i then j else i) = max i j := by split <;> omega
theorem r_in1 {i : Int} {F : Int → Prop} (k : F i) : ∃ j, [V.int i] = [.int j] ∧ F j := ⟨i, rfl, k⟩
theorem r_in2 {i j : Int} {F : Int → Int → Prop} (k : F i j) : ∃ a b, [V.int i, V.int j] = [.int a, .int b] ∧ F a b := ⟨i, j, rfl, k⟩
theorem r_isi {x : V} {T : String} {b : Bool} {ty : String} (ty1 : TyX K H x (.type ty)) (h : kitB ty T = some b) (k : Q (.bl b) H) : rIsi K [x, .ty T] H Q :=
  ⟨x, .ty T, .type ty, .type T, b, rfl, .ty T, ty1, kit_ty h, k⟩
end
/-! ### loops -/
def ForR1 (G : TG) (ts : TS) (D : Ends) (σ : L2.St) (vs : List V) (H : Hp) : Prop := ∃ j : Int, vs = [.int j] ∧ -(2 ^ 62) ≤ j ∧ j < 2 ^ 62 ∧ ∃ W : Nat → Nat → L2.St → Hp → Prop, (∃ m, W 0 m σ H) ∧ ∀ i m σ H, W i m σ H →
  ((Itr 0 j.toNat).stop i H ∧ D.nx σ H) ∨ ((Itr 0 j.toNat).go i H ∧ ∃ N : L2.St → Hp → Prop, (∀ σ' H', N σ' H' → ∃ m', m' < m ∧ W (i + 1) m' σ' H') ∧ ∀ x H', (Itr 0 j.toNat).yld i H x H' → G x σ H' fun σ2 H2 => ts { D with nx := N, ct := N, bk := D.nx } σ2 H2)
def ForR2 (G : TG) (ts : TS) (D : Ends) (σ : L2.St) (vs : List V) (H : Hp) : Prop := ∃ i j : Int, vs = [.int i, .int j] ∧ (-(2 ^ 62) ≤ i ∧ i < 2 ^ 62 ∧ -(2 ^ 62) ≤ j ∧ j < 2 ^ 62) ∧ ∃ W : Nat → Nat → L2.St → Hp → Prop, (∃ m, W 0 m σ H) ∧ ∀ k m σ H, W k m σ H →
  ((Itr i (j - i).toNat).stop k H ∧ D.nx σ H) ∨ ((Itr i (j - i).toNat).go k H ∧ ∃ N : L2.St → Hp → Prop, (∀ σ' H', N σ' H' → ∃ m', m' < m ∧ W (k + 1) m' σ' H') ∧ ∀ x H', (Itr i (j - i).toNat).yld k H x H' → G x σ H' fun σ2 H2 => ts { D with nx := N, ct := N, bk := D.nx } σ2 H2)
def ForL (K : PySem.W.Frag) (G : TG) (ts : TS) (D : Ends) (σ : L2.St) (v : V) (H : Hp) : Prop := ∃ a, v = .ref a ∧ (∃ xs, SqL K H a xs) ∧ ∃ W : Nat → Nat → L2.St → Hp → Prop, (∃ m, W 0 m σ H) ∧ ∀ i m σ H, W i m σ H →
  ((Itl K a).stop i H ∧ D.nx σ H) ∨ ((Itl K a).go i H ∧ ∃ N : L2.St → Hp → Prop, (∀ σ' H', N σ' H' → ∃ m', m' < m ∧ W (i + 1) m' σ' H') ∧ ∀ x H', (Itl K a).yld i H x H' → G x σ H' fun σ2 H2 => ts { D with nx := N, ct := N, bk := D.nx } σ2 H2)
def ForT (K : PySem.W.Frag) (G : TG) (ts : TS) (D : Ends) (σ : L2.St) (v : V) (H : Hp) : Prop := ∃ a, v = .ref a ∧ (∃ xs, SqT K H a xs) ∧ ∃ W : Nat → Nat → L2.St → Hp → Prop, (∃ m, W 0 m σ H) ∧ ∀ i m σ H, W i m σ H →
  ((Itt K a).stop i H ∧ D.nx σ H) ∨ ((Itt K a).go i H ∧ ∃ N : L2.St → Hp → Prop, (∀ σ' H', N σ' H' → ∃ m', m' < m ∧ W (i + 1) m' σ' H') ∧ ∀ x H', (Itt K a).yld i H x H' → G x σ H' fun σ2 H2 => ts { D with nx := N, ct := N, bk := D.nx } σ2 H2)
section
variable {K : PySem.W.Frag} {σ : L2.St} {H : Hp} {Q : VK} {D : Ends} {te tl : TE} {tt c : TT} {ts : TS} {G : TG} {tas : TA} {v : V} {vs : List Nat}
theorem r_forR1 (k : tas σ H fun vs H1 => ForR1 G ts D σ vs H1) : tFor (iRng1 tas) G ts D σ H := k
theorem r_forL (k : tl σ H fun x H1 => ForL K G ts D σ x H1) : tFor (iList K tl) G ts D σ H := k
theorem r_forT (k : tl σ H fun x H1 => ForT K G ts D σ x H1) : tFor (iTup K tl) G ts D σ H := k
theorem forR1_go {j : Int} (Pv : Nat → L2.St → Hp → Prop) (hb : -(2 ^ 62) ≤ j ∧ j < 2 ^ 62) (h0 : Pv 0 σ H)
    (hs : ∀ (i : Nat) σ' H', (i : Int) < j → Pv i σ' H' → G (.int i) σ' H' fun σ2 H2 => ts { D with nx := Pv (i + 1), ct := Pv (i + 1), bk := D.nx } σ2 H2) (hd : ∀ σ' H', Pv j.toNat σ' H' → D.nx σ' H') : ForR1 G ts D σ [.int j] H :=
  ⟨j, rfl, hb.1, hb.2, for_range (lo := 0) Pv h0 (fun i σ' H' hi p => by rw [Int.zero_add]; exact hs i σ' H' (by omega) p) hd⟩
theorem forL_go {a : Addr} {xs : List V} (Pv : Nat → L2.St → Hp → Prop) (hx : SqL K H a xs) (h0 : Pv 0 σ H) (hl : ∀ i σ' H', i ≤ xs.length → Pv i σ' H' → SqL K H' a xs)
    (hs : ∀ i x σ' H', xs[i]? = some x → Pv i σ' H' → G x σ' H' fun σ2 H2 => ts { D with nx := Pv (i + 1), ct := Pv (i + 1), bk := D.nx } σ2 H2) (hd : ∀ σ' H', Pv xs.length σ' H' → D.nx σ' H') : ForL K G ts D σ (.ref a) H :=
  ⟨a, rfl, ⟨xs, hx⟩, for_list Pv h0 hl hs hd⟩
theorem forT_go {a : Addr} {xs : List V} (Pv : Nat → L2.St → Hp → Prop) (hx : SqT K H a xs) (h0 : Pv 0 σ H) (hl : ∀ i σ' H', i ≤ xs.length → Pv i σ' H' → SqT K H' a xs)
    (hs : ∀ i x σ' H', xs[i]? = some x → Pv i σ' H' → G x σ' H' fun σ2 H2 => ts { D with nx := Pv (i + 1), ct := Pv (i + 1), bk := D.nx } σ2 H2) (hd : ∀ σ' H', Pv xs.length σ' H' → D.nx σ' H') : ForT K G ts D σ (.ref a) H :=
  ⟨a, rfl, ⟨xs, hx⟩, for_tup Pv h0 hl hs hd⟩
theorem r_while (W : Nat → L2.St → Hp → Prop) {m0 : Nat} (h0 : W m0 σ H)
    (hs : ∀ m σ' H', W m σ' H' → c σ' H' fun b H1 => if b = true then ∃ N : L2.St → Hp → Prop, (∀ σ2 H2, N σ2 H2 → ∃ m', m' < m ∧ W m' σ2 H2) ∧ ts { D with nx := N, ct := N, bk := D.nx } σ' H1 else D.nx σ' H1) : tWhile c ts D σ H := ⟨W, ⟨m0, h0⟩, hs⟩
theorem r_turn {B : L2.St → Hp → Prop} {R : VK} {Bk : L2.St → Hp → Prop} (k : ts { nx := B, rt := R, bk := Bk, ct := B } σ H) :
    ∃ N : L2.St → Hp → Prop, (∀ σ2 H2, N σ2 H2 → B σ2 H2) ∧ ts { nx := N, rt := R, bk := Bk, ct := N } σ H := ⟨_, fun _ _ h => h, k⟩
end
/-! ### comprehensions -/
section
variable {K : PySem.W.Frag} {σ : L2.St} {H : Hp} {Q : VK} {te tl : TE} {tt : TT} {G : TG} {tas : TA} {v : V} {vs : List Nat} {QB : Bool → Hp → Prop}
def CompW (J : It) (G : TG) (tt : TT) (te : TE) (vs : List Nat) (σ : L2.St) (Q : VK) (H1 : Hp) : Prop := ∀ D, H1 D = none → ∃ W : Nat → Nat → Hp → Prop, (∃ m, W 0 m (upd H1 D (.lst []))) ∧ ∀ i m H, W i m H → (J.stop i H ∧ Q (.ref D) H) ∨ (J.go i H ∧ ∃ Nx : Hp → Prop, (∀ H', Nx H' → ∃ m', m' < m ∧ W (i + 1) m' H') ∧
  ∀ x H', J.yld i H x H' → G x (wipe σ vs) H' fun σ2 H2 => wipe σ2 vs = wipe σ vs ∧ tt σ2 H2 fun b H3 => if b = true then te σ2 H3 fun y H4 => ∃ acc, H4 D = some (.lst acc) ∧ acc.length < sizeLine ∧ Nx (upd H4 D (.lst (acc ++ [y]))) else Nx H3)
def CompR1 (G : TG) (tt : TT) (te : TE) (vs : List Nat) (σ : L2.St) (Q : VK) (us : List V) (H1 : Hp) : Prop := ∃ j : Int, us = [.int j] ∧ -(2 ^ 62) ≤ j ∧ j < 2 ^ 62 ∧ CompW (Itr 0 j.toNat) G tt te vs σ Q H1
def CompL (K : PySem.W.Frag) (G : TG) (tt : TT) (te : TE) (vs : List Nat) (σ : L2.St) (Q : VK) (x : V) (H1 : Hp) : Prop := ∃ a, x = .ref a ∧ (∃ xs, SqL K H1 a xs) ∧ CompW (Itl K a) G tt te vs σ Q H1
def CompT (K : PySem.W.Frag) (G : TG) (tt : TT) (te : TE) (vs : List Nat) (σ : L2.St) (Q : VK) (x : V) (H1 : Hp) : Prop := ∃ a, x = .ref a ∧ (∃ xs, SqT K H1 a xs) ∧ CompW (Itt K a) G tt te vs σ Q H1
theorem r_lcR1 (k : tas σ H fun us H1 => CompR1 G tt te vs σ Q us H1) : tLc (iRng1 tas) G tt te vs σ H Q := k
theorem r_lcL (k : tl σ H fun x H1 => CompL K G tt te vs σ Q x H1) : tLc (iList K tl) G tt te vs σ H Q := k
theorem r_lcT (k : tl σ H fun x H1 => CompT K G tt te vs σ Q x H1) : tLc (iTup K tl) G tt te vs σ H Q := k
theorem r_wipe {σ2 : L2.St} {R : Prop} (h : wipe σ2 vs = wipe σ vs) (k : R) : wipe σ2 vs = wipe σ vs ∧ R := ⟨h, k⟩
theorem r_gNameW {i : Nat} {σ' : L2.St} {Q : L2.St → Hp → Prop} (h : wipe σ vs = σ') (k : gName i v σ' H Q) : gName i v (wipe σ vs) H Q := by rw [h]; exact k
theorem r_yes (k : QB true H) : tYes σ H QB := k
/-- the reading of one item, told with the list so far: P of the turn's number, the items made, the heap -/
def CompTurn (G : TG) (tt : TT) (te : TE) (vs : List Nat) (σ : L2.St) (D : Addr) (Nx : List V → Hp → Prop) (acc : List V) (x : V) (H : Hp) : Prop :=
  G x (wipe σ vs) H fun σ2 H2 => wipe σ2 vs = wipe σ vs ∧ tt σ2 H2 fun b H3 => if b = true then te σ2 H3 fun y H4 => H4 D = some (.lst acc) ∧ acc.length < sizeLine ∧ Nx (acc ++ [y]) (upd H4 D (.lst (acc ++ [y]))) else Nx acc H3
theorem lcR1_go {j : Int} (Pv : Addr → Nat → List V → Hp → Prop) (hb : -(2 ^ 62) ≤ j ∧ j < 2 ^ 62) (h0 : ∀ D, H D = none → Pv D 0 [] (upd H D (.lst [])))
    (hs : ∀ D (i : Nat) acc H', (i : Int) < j → H' D = some (.lst acc) → Pv D i acc H' → G (.int i) (wipe σ vs) H' fun σ2 H2 => wipe σ2 vs = wipe σ vs ∧ tt σ2 H2 fun b H3 =>
      if b = true then te σ2 H3 fun y H4 => ∃ acc, H4 D = some (.lst acc) ∧ acc.length < sizeLine ∧ (∃ ac, (upd H4 D (.lst (acc ++ [y]))) D = some (.lst ac) ∧ Pv D (i + 1) ac (upd H4 D (.lst (acc ++ [y])))) else ∃ ac, H3 D = some (.lst ac) ∧ Pv D (i + 1) ac H3)
    (hd : ∀ D acc H', H D = none → H' D = some (.lst acc) → Pv D j.toNat acc H' → Q (.ref D) H') : CompR1 G tt te vs σ Q [.int j] H :=
  ⟨j, rfl, hb.1, hb.2, fun D hD => lc_range (lo := 0) (fun i H' => ∃ acc, H' D = some (.lst acc) ∧ Pv D i acc H') ⟨[], upd_same, h0 D hD⟩ (fun i H' hi ⟨acc, ha, p⟩ => by rw [Int.zero_add]; exact hs D i acc H' (by omega) ha p) fun H' ⟨acc, ha, p⟩ => hd D acc H' hD ha p⟩
theorem lcL_go {a : Addr} {xs : List V} (Pv : Addr → Nat → List V → Hp → Prop) (hx : SqL K H a xs) (h0 : ∀ D, H D = none → Pv D 0 [] (upd H D (.lst []))) (hl : ∀ D i acc H', i ≤ xs.length → Pv D i acc H' → SqL K H' a xs)
    (hs : ∀ D (i : Nat) x acc H', xs[i]? = some x → H' D = some (.lst acc) → Pv D i acc H' → G x (wipe σ vs) H' fun σ2 H2 => wipe σ2 vs = wipe σ vs ∧ tt σ2 H2 fun b H3 =>
      if b = true then te σ2 H3 fun y H4 => ∃ acc, H4 D = some (.lst acc) ∧ acc.length < sizeLine ∧ (∃ ac, (upd H4 D (.lst (acc ++ [y]))) D = some (.lst ac) ∧ Pv D (i + 1) ac (upd H4 D (.lst (acc ++ [y])))) else ∃ ac, H3 D = some (.lst ac) ∧ Pv D (i + 1) ac H3)
    (hd : ∀ D acc H', H D = none → H' D = some (.lst acc) → Pv D xs.length acc H' → Q (.ref D) H') : CompL K G tt te vs σ Q (.ref a) H :=
  ⟨a, rfl, ⟨xs, hx⟩, fun D hD => lc_list (xs := xs) (fun i H' => ∃ acc, H' D = some (.lst acc) ∧ Pv D i acc H') ⟨[], upd_same, h0 D hD⟩ (fun i H' hi ⟨acc, ha, p⟩ => hl D i acc H' hi p) (fun i x H' hi ⟨acc, ha, p⟩ => hs D i x acc H' hi ha p) fun H' ⟨acc, ha, p⟩ => hd D acc H' hD ha p⟩
theorem lcT_go {a : Addr} {xs : List V} (Pv : Addr → Nat → List V → Hp → Prop) (hx : SqT K H a xs) (h0 : ∀ D, H D = none → Pv D 0 [] (upd H D (.lst []))) (hl : ∀ D i acc H', i ≤ xs.length → Pv D i acc H' → SqT K H' a xs)
    (hs : ∀ D (i : Nat) x acc H', xs[i]? = some x → H' D = some (.lst acc) → Pv D i acc H' → G x (wipe σ vs) H' fun σ2 H2 => wipe σ2 vs = wipe σ vs ∧ tt σ2 H2 fun b H3 =>
      if b = true then te σ2 H3 fun y H4 => ∃ acc, H4 D = some (.lst acc) ∧ acc.length < sizeLine ∧ (∃ ac, (upd H4 D (.lst (acc ++ [y]))) D = some (.lst ac) ∧ Pv D (i + 1) ac (upd H4 D (.lst (acc ++ [y])))) else ∃ ac, H3 D = some (.lst ac) ∧ Pv D (i + 1) ac H3)
    (hd : ∀ D acc H', H D = none → H' D = some (.lst acc) → Pv D xs.length acc H' → Q (.ref D) H') : CompT K G tt te vs σ Q (.ref a) H :=
  ⟨a, rfl, ⟨xs, hx⟩, fun D hD => lc_tup (xs := xs) (fun i H' => ∃ acc, H' D = some (.lst acc) ∧ Pv D i acc H') ⟨[], upd_same, h0 D hD⟩ (fun i H' hi ⟨acc, ha, p⟩ => hl D i acc H' hi p) (fun i x H' hi ⟨acc, ha, p⟩ => hs D i x acc H' hi ha p) fun H' ⟨acc, ha, p⟩ => hd D acc H' hD ha p⟩
/-- an item is kept: behind te, the list is known -/
theorem lc_put {D : Addr} {acc : List V} {y : V} {P : List V → List V → Prop} {H4 : Hp} (h : H4 D = some (.lst acc)) (hz : acc.length < sizeLine) (k : P acc (acc ++ [y])) :
    ∃ acc, H4 D = some (.lst acc) ∧ acc.length < sizeLine ∧ (∃ ac, (upd H4 D (.lst (acc ++ [y]))) D = some (.lst ac) ∧ P acc ac) := ⟨acc, h, hz, _, upd_same, k⟩
end
/-! ### lists, displays -/
section
variable {K : PySem.W.Frag} {H : Hp} {Q : VK}
theorem Keep.out {M : List Addr} {H H' : Hp} {a : Addr} {o : HO} (h : Keep M H H') (n : a ∉ M) (e : H a = some o) : H' a = some o := h a o n e
theorem r_slL {a : Addr} {xs : List V} {lo hi : Option Int} (h : SqL K H a xs) (k : ∀ p, H p = none → Q (.ref p) (upd H p (.lst (cutV xs lo hi)))) : rSlL K (.ref a) lo hi H Q := ⟨a, xs, rfl, h, k⟩
theorem r_cat {l b : Addr} {xs zs : List V} (h : H l = some (.lst xs)) (h2 : H b = some (.lst zs)) (hz : xs.length + zs.length ≤ sizeLine) (k : ∀ p, H p = none → Q (.ref p) (upd H p (.lst (xs ++ zs)))) : rCat (.ref l) (.ref b) H Q :=
  ⟨l, b, xs, zs, rfl, rfl, h, h2, hz, k⟩
theorem r_tPart {te : TE} {σ : L2.St} {QO : Option Int → Hp → Prop} (k : te σ H fun v H1 => ∃ i, v = .int i ∧ QO (some i) H1) : tPart te σ H QO := k
theorem r_noPart {σ : L2.St} {QO : Option Int → Hp → Prop} (k : QO none H) : tNoPart σ H QO := k
theorem r_gcd {a b : Int} (k : Q (.int ((Nat.gcd a.natAbs b.natAbs : Nat) : Int)) H) : rGcd [.int a, .int b] H Q := ⟨a, b, rfl, k⟩
theorem r_iteNT1 {A B : Prop} (k : B) : if (!true) = true then A else B := by rw [if_neg (by decide)]; exact k
theorem r_iteNF1 {A B : Prop} (k : A) : if (!false) = true then A else B := by rw [if_pos (by decide)]; exact k
theorem kit_ii : kitB "int" "int" = some true := by decide +kernel
theorem kit_ib : kitB "int" "bool" = some false := by decide +kernel
theorem kit_bb : kitB "bool" "bool" = some true := by decide +kernel
theorem kit_tt : kitB "tuple" "tuple" = some true := by decide +kernel
theorem kit_ss : kitB "str" "str" = some true := by decide +kernel
theorem mulw {i j : Int} (a b : Nat) (ha : i.natAbs < 2 ^ a) (hb : j.natAbs < 2 ^ b) (h0 : 0 < a := by decide) (h1 : 0 < b := by decide) (h : a + b ≤ 1000000 := by decide) : CMul i j ∨ CMulW i j := .inr (wide_mul ha hb h0 h1 h)
theorem r_callSD {sp : Sp} {dvs : List V} {E : L2.St → XK} {tas : TA} {σ : L2.St} (k : tas σ H fun vs H1 => sp (vs ++ dvs) H1 Q (E σ)) : tCallSD sp dvs E tas σ H Q := k
theorem r_par {i j : Nat} {ta : TA} {D : Ends} {σ : L2.St} (k : ta σ H fun vs H1 => ∃ v w, vs = [v, w] ∧ gName i v σ H1 fun σ1 H2 => gName j w σ1 H2 D.nx) : tPar i j ta D σ H := k
theorem r_exP {x y : V} {F : V → V → Prop} (k : F x y) : ∃ v w, [x, y] = [v, w] ∧ F v w := ⟨x, y, rfl, k⟩
theorem r_bm {T : String} {r : V → List V → Hp → VK → Prop} {to : TE} {ta : TA} {σ : L2.St} (k : to σ H fun x H1 => tyV K T x H1 ∧ ta σ H1 fun xs H2 => r x xs H2 Q) : tBM K T r to ta σ H Q := k
theorem r_tyL {p : Addr} {xs : List V} {R : Prop} (h : SqL K H p xs) (k : R) : tyV K "list" (.ref p) H ∧ R := ⟨.inl ⟨rfl, xs, h⟩, k⟩
theorem r_app {l : Addr} {xs : List V} {y : V} (h : H l = some (.lst xs)) (hz : xs.length < sizeLine) (k : Q .non (upd H l (.lst (xs ++ [y])))) : rAppend (.ref l) [y] H Q := ⟨l, xs, y, rfl, rfl, h, hz, k⟩
theorem r_exI {i : Int} {F : Int → Prop} (k : F i) : ∃ j, V.int i = .int j ∧ F j := ⟨i, rfl, k⟩
end
theorem start_cc {n : Str} {N : List Str} {v : V} {vs : List V} : L2.start (n :: N) (v :: vs) = some v :: L2.start N vs := by
  unfold L2.start
  rw [List.map_cons, List.length_cons, List.length_cons, Nat.add_sub_add_right, List.cons_append]
theorem start_cn {n : Str} {N : List Str} : L2.start (n :: N) [] = none :: L2.start N [] := rfl
theorem start_nn : L2.start [] [] = [] := rfl
theorem atI_map {P : List Int} {i : Int} (h0 : 0 ≤ i) (h1 : i < P.length) : atI (P.map V.int) i = some (.int (P.getD i.toNat 0)) := by
  obtain ⟨n, rfl⟩ : ∃ n : Nat, i = n := ⟨i.toNat, by omega⟩
  refine atI_nat ?_
  have h2 : n < P.length := by omega
  rw [List.getElem?_map, List.getElem?_eq_getElem h2, Int.toNat_natCast, List.getD_eq_getElem?_getD, List.getElem?_eq_getElem h2]; rfl
/-- sizes of ints -/
theorem log2_of {i : Int} {n : Nat} (h : i.natAbs < 2 ^ n) (h0 : 0 < n) : i.natAbs.log2 < n := PySem.Flt.log2_lt_of h0 h
theorem log_ok {j : Int} (n : Nat) (h : j.natAbs < 2 ^ n) (h0 : 0 < n := by decide) (h9 : n ≤ 9000 := by decide) : j.natAbs.log2 < 9000 := Nat.lt_of_lt_of_le (log2_of h h0) h9
/-! ### == of flat rows -/
def fdV : V → PyData
  | .bl b => .bool b
  | .int i => .int i
  | .str x => .str x
  | _ => .none
def flatV : V → Bool
  | .non => true
  | .bl _ => true
  | .int _ => true
  | .str x => PyData.canLay0 (.str x)
  | _ => false
theorem dp_flat {K : PySem.W.Frag} {H : Hp} : ∀ {v : V}, flatV v = true → Dp K H v (fdV v)
  | .non, _ => .non
  | .bl b, _ => .bl b
  | .int i, _ => .int i
  | .str x, _ => .str x
theorem dp_flats {K : PySem.W.Frag} {H : Hp} : ∀ {xs : List V}, xs.all flatV = true → DpAll K H xs (xs.map fdV)
  | [], _ => .nil
  | v :: xs, h => by
    rw [List.all_cons, Bool.and_eq_true] at h
    exact .cons (dp_flat h.1) (dp_flats h.2)
theorem flat_lay : ∀ {v : V}, flatV v = true → (fdV v).canLay0 = true ∧ (fdV v).depth = 0
  | .non, _ => by simp [fdV, PyData.canLay0, PyData.depth]
  | .bl b, _ => by simp [fdV, PyData.canLay0, PyData.depth]
  | .int i, _ => by simp [fdV, PyData.canLay0, PyData.depth]
  | .str x, h => ⟨h, by simp [fdV, PyData.depth]⟩
theorem flats_lay : ∀ {xs : List V}, xs.all flatV = true → PyData.canLayAll0 (xs.map fdV) = true ∧ PyData.depthAll (xs.map fdV) = 0
  | [], _ => by simp [PyData.canLayAll0, PyData.depthAll]
  | v :: xs, h => by
    rw [List.all_cons, Bool.and_eq_true] at h
    have a := flat_lay h.1
    have b := flats_lay h.2
    simp [PyData.canLayAll0, PyData.depthAll, a.1, a.2, b.1, b.2]
theorem shaped_flat {xs : List V} (h : xs.all flatV = true) : SeqAt.shaped (.list (xs.map fdV)) = true ∧ SeqAt.shaped (.tuple (xs.map fdV)) = true := by
  have b := flats_lay h
  constructor <;> simp [SeqAt.shaped, PyData.canLay0, PyData.depth, b.1, b.2]
theorem eqv_flat : ∀ {v : V}, flatV v = true → PyData.eqv (fdV v) (fdV v) = true
  | .non, _ => by simp [fdV, PyData.eqv]
  | .bl b, _ => by simp [fdV, PyData.eqv]
  | .int i, _ => by simp [fdV, PyData.eqv]
  | .str x, _ => by simp [fdV, PyData.eqv]
theorem eqv_flats : ∀ {xs : List V}, xs.all flatV = true → PyData.eqvAll (xs.map fdV) (xs.map fdV) = true
  | [], _ => by simp [PyData.eqvAll]
  | v :: xs, h => by
    rw [List.all_cons, Bool.and_eq_true] at h
    simp [PyData.eqvAll, eqv_flat h.1, eqv_flats h.2]
section
variable {K : PySem.W.Frag} {H : Hp} {Q : VK} {p q : Addr} {xs ys : List V} {b : Bool}
theorem eqvL {xs ys : List PyData} : PyData.eqv (.list xs) (.list ys) = PyData.eqvAll xs ys := by simp [PyData.eqv]
theorem eqvT {xs ys : List PyData} : PyData.eqv (.tuple xs) (.tuple ys) = PyData.eqvAll xs ys := by simp [PyData.eqv]
theorem r_eqL (hp : SqL K H p xs) (hq : SqL K H q ys) (fx : xs.all flatV = true) (fy : ys.all flatV = true) (hb : PyData.eqvAll (xs.map fdV) (ys.map fdV) = b) (k : Q (.bl b) H) : rEqD K (.ref p) (.ref q) H Q :=
  ⟨_, _, .lst hp (dp_flats fx), .lst hq (dp_flats fy), (shaped_flat fx).1, (shaped_flat fy).1, by rw [eqvL, hb]; exact k⟩
theorem r_eqT (hp : SqT K H p xs) (hq : SqT K H q ys) (fx : xs.all flatV = true) (fy : ys.all flatV = true) (hb : PyData.eqvAll (xs.map fdV) (ys.map fdV) = b) (k : Q (.bl b) H) : rEqD K (.ref p) (.ref q) H Q :=
  ⟨_, _, .tup hp (dp_flats fx), .tup hq (dp_flats fy), (shaped_flat fx).2, (shaped_flat fy).2, by rw [eqvT, hb]; exact k⟩
theorem r_neL (hp : SqL K H p xs) (hq : SqL K H q ys) (fx : xs.all flatV = true) (fy : ys.all flatV = true) (hb : PyData.eqvAll (xs.map fdV) (ys.map fdV) = b) (k : Q (.bl (!b)) H) : rNeD K (.ref p) (.ref q) H Q :=
  ⟨_, _, .lst hp (dp_flats fx), .lst hq (dp_flats fy), (shaped_flat fx).1, (shaped_flat fy).1, by rw [eqvL, hb]; exact k⟩
end
/-! ### rules whose reading names K, told for a context that hides it (a comprehension, an except suite) -/
section
variable {X : Cx} {K : PySem.W.Frag}
theorem ix_listK (hK : X.K = K) : IxR X (rIxL K) := by subst hK; exact ix_list
theorem ix_tupK (hK : X.K = K) : IxR X (rIxT K) := by subst hK; exact ix_tup
theorem call_len_seqK (hK : X.K = K) : CallR X (.builtin "len") (fun xs H Q => ∃ p ys, xs = [.ref p] ∧ (SqL K H p ys ∨ SqT K H p ys) ∧ Q (.int ys.length) H) := by subst hK; exact call_len_seq
end
section
variable {H : Hp}
def rIsN : R2 := fun x y H Q => y = .non ∧ Q (.bl (decide (x = .non))) H
def rNoN : R2 := fun x y H Q => y = .non ∧ Q (.bl (!decide (x = .non))) H
theorem op_isNc {X : Cx} : OpR X (compareOp .Is) rIsN := op_isN
theorem op_notNc {X : Cx} : OpR X (compareOp .IsNot) rNoN := op_notN
theorem r_isN {Q : VK} (k : Q (.bl true) H) : rIsN (V.non) .non H Q := ⟨rfl, by rw [decide_eq_true rfl]; exact k⟩
theorem r_noN {Q : VK} (k : Q (.bl false) H) : rNoN (V.non) .non H Q := ⟨rfl, by rw [decide_eq_true rfl]; exact k⟩
theorem r_isI {i : Int} {Q : VK} (k : Q (.bl false) H) : rIsN (.int i) .non H Q := ⟨rfl, by rw [decide_eq_false (fun e => by cases e)]; exact k⟩
theorem r_noI {i : Int} {Q : VK} (k : Q (.bl true) H) : rNoN (.int i) .non H Q := ⟨rfl, by rw [decide_eq_false (fun e => by cases e)]; exact k⟩
theorem r_isR {p : Addr} {Q : VK} (k : Q (.bl false) H) : rIsN (.ref p) .non H Q := ⟨rfl, by rw [decide_eq_false (fun e => by cases e)]; exact k⟩
theorem r_noR {p : Addr} {Q : VK} (k : Q (.bl true) H) : rNoN (.ref p) .non H Q := ⟨rfl, by rw [decide_eq_false (fun e => by cases e)]; exact k⟩
theorem r_ninL {K : PySem.W.Frag} {x : V} {p : Addr} {xs : List V} {Q : VK} (h : SqL K H p xs) (fx : L2.flatV x = true) (fs : xs.all L2.flatV = true) (k : Q (.bl (!inV x xs)) H) : rIn K true x (.ref p) H Q := ⟨p, xs, rfl, .inl h, fx, fs, by simpa using k⟩
theorem r_iteTT {A B : Prop} (k : A) : if true = true then A else B := by rw [if_pos rfl]; exact k
theorem r_iteFF {A B : Prop} (k : B) : if false = true then A else B := by rw [if_neg (by decide)]; exact k
end
/-! ### an own error over ValueError (through own classes) whose __init__ says super().__init__(a text), then stores its arguments -/
namespace Er
open PySem.W PySem.Calls PySem.HandSPX
section
variable {prog : Program} {w : World} {A : Around} {E : Value → Shared → Prop} {s : Shared} {K : Frag} {mg : Str → Option Value} {base : Heap} {m : Str → Option Value}
/-- what the written part says of the class at C: its __init__ at fI, the cell of __class__ at cc, the code at cda -/
structure Txt (P : Program) (K : Frag) (mg : Str → Option Value) (C fI cc cda : Addr) : Prop where
  cls : ∃ nm q N bs bm sn sub ab col dd k0 k1 k2 k3 k5, K.lookup C = some (excClassObj nm q C N bs bm true sn sub ab col dd k0 k1 k2 k3 k5 "ValueError.__new__") ∧ refsVE bm = true
  sa : findIn K (.ref C) "__setattr__" = some (some (.builtin "object.__setattr__"))
  iC : findIn K (.ref C) "__init__" = some (some (.ref fI))
  tI : typeIn K (.ref fI) = some (.type "function")
  cell : ∃ cl cld csl, K.lookup cc = some ⟨cl, cld, .cell (some (.ref C)), csl⟩
  code : ∃ ccl cdd vs ccs tf, K.lookup cda = some ⟨ccl, cdd, .fields vs, ccs⟩ ∧ vs[2]? = some (.str P.main.file tf)
  sup : ks_superIn K C C "__init__" = some (some (.builtin "ValueError.__init__"))
  supB : subIn K (.ref C) (.type "ValueError") = some true
  self : mroIn K C (.ref C) = some true
  opq : nsIn K cStatics "thirdparty.any" = some none
  mS : mg "super" = none
  top : (P.main.scope.names.lookup ("super" : Str)).isSome = false
theorem clsIn_of {C N : Addr} {nm q : Str} {bs bm : List Value} {hd : Bool} {sn : List Str} {sub : List Value} {ab : Bool} {col : Option Bool} {dd : Option Addr} {k0 k1 k2 k3 k5 : Option Value} {nw : String}
    (hC : K.lookup C = some (excClassObj nm q C N bs bm hd sn sub ab col dd k0 k1 k2 k3 k5 nw)) :
    clsIn K C = some { name := nm, bases := bs, mro := .ref C :: bm, ns := N, qualname := q, hasDict := hd, slotNames := sn, subclasses := sub, abstract := ab, collection := col, hasDel := false } := by
  unfold clsIn; rw [hC] <;> rfl
theorem call_mw {u e t0 C N : Addr} {nm q : Str} {bs bm : List Value} {hdct : Bool} {sn : List Str} {sub : List Value} {ab : Bool} {col : Option Bool} {dd : Option Addr} {k0 k1 k2 k3 k5 : Option Value} {h : Heap} {g : Array GenState} {d : Drawn} {t : Nat} {os : OsState} {rest : List Value} {Q : Value → Shared → Prop}
    (hC : h.get? C = some (excClassObj nm q C N bs bm hdct sn sub ab col dd k0 k1 k2 k3 k5 "ValueError.__new__")) (he : h.get? e = some (excObj C t0 none .none)) (hu : h.get? u = some (kxs_mw "ValueError.__init__" e)) (hrest : rest.length ≤ sizeLine)
    (hq : ∀ h' t1, (∀ b o, b ≠ e → h.get? b = some o → h'.get? b = some o) → h'.get? e = some (excObj C t1 none .none) → Q .none ⟨h', g, d, t, os⟩) :
    wpAny (model prog w) A (call (.ref u) rest) Q E ⟨h, g, d, t, os⟩ := by
  refine wpAny_call (codeAny_of_tree ?_)
  show wpAny _ A.in1 (callAny (.ref u) ⟨rest, []⟩) _ _ _
  simp only [callAny]
  refine wpAny_bind (wpAny_load hu ?_)
  simp only [kxs_mw, show (Value.type "method-wrapper" == Value.type "method" || Value.type "method-wrapper" == Value.type "builtin_function_or_method" || Value.type "method-wrapper" == Value.type "method-wrapper") = true by decide, if_true]
  refine KFB.if_so (by decide) ?_
  refine wpAny_bind (check_bound_init F.excBase_ValueError.toExcCallFacts hC he rfl ?_)
  refine wpAny_bind (wpAny_pure (wpAny_pure ?_))
  refine ⟨plainId_quiet F.excBase_ValueError.init.plain _, codeAny_builtin F.excBase_ValueError.initEntry ?_⟩
  exact exc_init_tree (cls := .ref C) (t0 := t0) (dv := none) (c2 := .none) (c3 := .none) (b4 := .bool false) he hrest fun h' k e' _ => hq h' _ k e'
theorem super_stmt {pl : Sem Bool} {C fI cc cda L x t0 : Addr} {fd : FuncData} {oc : Value} {od : Option Addr} {osl : Array (Option Value)} {ar : Arg} {q : Str} {scope : Scope} {body : List Stmt} {msg : Expr} {p0 p1 p2 p3 p4 : Pos} {Q : Flow → Shared → Prop}
    (T : Txt prog K mg C fI cc cda) (Mo : Mod K mg base) (kb : ∀ b o, base.get? b = some o → s.heap.get? b = some o)
    (hf : K.lookup fI = some ⟨oc, od, .func fd, osl⟩) (hp : (fd.params.posonlyargs ++ fd.params.args).head? = some ar) (har : ar.arg = "self")
    (hks : scope.names.lookup ("super" : Str) = some .globalImplicit) (hkc : scope.names.lookup ("__class__" : Str) = some .free) (hka : scope.names.lookup ("self" : Str) = some .local) (hk : scope.kind = .function)
    (hns : s.heap.Ns L m) (hv : m "self" = some (.ref x)) (hx : s.heap.get? x = some (excO C t0))
    (hmsg : ∀ (s' : Shared) (Q' : Value → Shared → Prop), s'.heap.Ns L m → (∀ (z : Str) tk n, Q' (.str z tk) { s' with toks := n }) → wpAny (model prog w) A (eval msg (ksEnv q scope L fI (.ref cda) cc)) Q' E s')
    (hq : ∀ h' tk t1, (∀ b o, b ≠ x → s.heap.get? b = some o → h'.get? b = some o) → h'.get? x = some (excO C t1) → Q .next { s with heap := h', toks := tk })
    (hin : interactive (ksEnv q scope L fI (.ref cda) cc) = false := by rfl)
    (he : starEach [msg] (ksEnv q scope L fI (.ref cda) cc) = (false, eval msg (ksEnv q scope L fI (.ref cda) cc)) :: starEach [] (ksEnv q scope L fI (.ref cda) cc) := by rfl)
    (hsw : swapsWith (.Call (.Attribute (.Call (.Name "super" p0) [] [] p1) "__init__" p2) [msg] [] p3) none p4.line (ksEnv q scope L fI (.ref cda) cc) = pure false := by rfl)
    (hmc : eval (.Call (.Attribute (.Call (.Name "super" p0) [] [] p1) "__init__" p2) [msg] [] p3) (ksEnv q scope L fI (.ref cda) cc) = (do
      let ov ← attributeBase (.Call (.Name "super" p0) [] [] p1) "__init__" (ksEnv q scope L fI (.ref cda) cc) (eval (.Call (.Name "super" p0) [] [] p1) (ksEnv q scope L fI (.ref cda) cc))
      standAt p2.atName
      let (f, first) ← holding [ov] (getMethod ov "__init__" pl)
      callWith p3 f first (backTo p3 (starEach [msg] (ksEnv q scope L fI (.ref cda) cc))) []) := by rfl) :
    PySem.wpAt (model prog w) A (.func body (ksEnv q scope L fI (.ref cda) cc)) (exec (.Expr (.Call (.Attribute (.Call (.Name "super" p0) [] [] p1) "__init__" p2) [msg] [] p3) p4) (ksEnv q scope L fI (.ref cda) cc)) Q E s := by
  obtain ⟨nm, q0, N, bs, bm, sn, sub, ab, col, dd, k0, k1, k2, k3, k5, hC, hbm⟩ := T.cls
  obtain ⟨cl, cld, csl, hcell⟩ := T.cell
  obtain ⟨ccl, cdd, vs, ccs, tf, hcode, hvs⟩ := T.code
  obtain ⟨mb, hb1, hb2⟩ := Mo.blt
  have X : K.In s.heap := Mo.kin.keeps kb
  have hcl := clsIn_of hC
  have hss : alongIn K "__init__" (((Value.ref C :: bm).dropWhile (· != .ref C)).drop 1) = some (some (.builtin "ValueError.__init__")) := by
    have z := T.sup
    unfold ks_superIn at z
    rw [hcl] at z
    exact z
  have Ix : InstAt s.heap x (excO C t0) C none := ⟨hx, rfl, rfl, trivial⟩
  have hxC : x ≠ C := ks_ne X Ix hcl
  obtain ⟨hh, g, d, t, os⟩ := s
  refine ks_wpAt_Expr_any (ks_wpAt_MethodCall (pl := pl) ?_ hmc) hin hsw
  refine ks_wpAt_super_base (env := ksEnv q scope L fI (.ref cda) cc) hks hkc rfl rfl (X _ _ hf) rfl hp rfl (X _ _ hcode) rfl hvs (beq_self_eq_true _) T.top ?_
  refine ks_loadName_global hk hks (loadGlobal_builtin (env := ksEnv q scope L fI (.ref cda) cc) (Mo.glob.keeps kb) T.mS (hb1.keeps kb) ((hb2 _ (by decide)).trans (by decide +kernel : bootBuiltins "super" = some (.type "super"))) ⟨rfl, ?_⟩)
  refine wpAny_loadName_free hk hkc rfl ⟨_, X _ _ hcell, rfl⟩ ?_
  rw [har]
  refine wpAny_loadName_local hk hka hns hv ?_
  refine ks_wpAny_isType_cls (X _ _ hC) rfl ⟨rfl, ?_⟩
  refine ks_wpAny_call_super (X _ _ hC) rfl hx rfl (fun c e => by cases e) (looks_mroIn X T.self) (fun h1 e1 kk1 => ?_)
  have X1 : K.In h1 := X.keeps kk1
  have hx1 := kk1 _ _ hx
  have I1 : InstAt h1 x (excO C t0) C none := ⟨hx1, rfl, rfl, trivial⟩
  refine kxs_getMethod kxs_ValueError e1 (looks_opaque X1 T.opq) (l₀ := .ref C :: bm) (fun A Q E s k q => wpAny_bind ((looks_clsIn X1 hcl) A _ E s k (wpAny_pure q))) rfl X1 hss (I1.type.andThen (looks_subIn X1 T.supB)) hxC rfl ?_
  have hns1 : (h1.push (kxs_mw "ValueError.__init__" x)).Ns L m := hns.keeps fun b o e => Heap.get?_push_of_some _ (kk1 b o e)
  rw [he]
  refine kxs_callWith (i := "ValueError.__init__") (x := x) rfl (evalArgs_plain (Calls.spliced_cons (hmsg _ _ hns1 fun z tk n => Calls.spliced_nil ⟨?_, ?_⟩)))
  · exact Heap.get?_push_size _ rfl
  · refine call_mw (Heap.get?_push_of_some _ (X1 _ _ hC)) (Heap.get?_push_of_some _ hx1) (Heap.get?_push_size _ rfl) (show 1 ≤ sizeLine by decide) fun h' t1 k e => ?_
    exact hq h' _ t1 (fun b o hb ho => k b o hb (Heap.get?_push_of_some _ (kk1 b o ho))) e
end
/-! ### the text -/
def TxE (prog : Program) (w : World) (env : Env) (m : Str → Option Value) (e : Expr) : Prop := ∀ (A : Around) (E : Value → Shared → Prop) (s : Shared) (Q : Value → Shared → Prop), s.heap.Ns env.locals m →
  (∀ (z : Str) tk n, z.length ≤ 100000 → Q (.str z tk) { s with toks := n }) → wpAny (model prog w) A (eval e env) Q E s
/-- what {x!r} is written of -/
def MsgV (v : Value) : Prop := (∃ i t, v = .int i t ∧ i.natAbs.log2 < 1920) ∨ ∃ y t, v = .str y t ∧ (reprText y).length ≤ 100000 ∧ y.length ≤ 100000
section
variable {prog : Program} {w : World} {env : Env} {m : Str → Option Value}
theorem small_size {n : Nat} (h : n ≤ 100000) : n ≤ sizeLine := Nat.le_trans h (by decide)
theorem tx_const {z : Str} {k : Nat} {pos : Pos} (h : z.length ≤ 100000) : TxE prog w env m (.Constant (.str z) k pos) := fun A E s Q _ q => by
  rw [eval_Constant]
  exact wpAny_mkText (q z _ _ h)
theorem ld_name {A : Around} {E : Value → Shared → Prop} {s : Shared} {Q : Value → Shared → Prop} {x : Str} {p : Pos} {v : Value} (hn : s.heap.Ns env.locals m) (hv : m x = some v) (hk : env.scope.kind = .function) (hl : env.kindOf x = some .local) (h : Q v s) (hd : (x == ("__debug__" : Str)) = false := by decide) :
    wpAny (model prog w) A (eval (.Name x p) env) Q E s := wpAny_Name (wpAny_loadName_local hk hl hn hv h) hd
theorem tx_repr {x : Str} {p pos : Pos} {v : Value} (hv : m x = some v) (ok : MsgV v) (hk : env.scope.kind = .function) (hl : env.kindOf x = some .local) (hd : (x == ("__debug__" : Str)) = false := by decide) : TxE prog w env m (.FormattedValue (.Name x p) 114 none pos) := fun A E s Q hn q => by
  refine wpAny_FormattedValue_repr (ld_name hn hv hk hl ?_ hd)
  rcases ok with ⟨i, t, rfl, hz⟩ | ⟨y, t, rfl, hz, _⟩
  · have hl : (Str.ofString (toString i)).length ≤ 100000 := by
      have e := int_text_length_le (k := 1920) (by decide) hz
      rw [PySem.ofString_length]; omega
    exact pyReprObj_int hz (wpAny_formatField_str (q _ _ _ hl) (q _ _ _ hl) (small_size hl))
  · exact pyReprObj_str (wpAny_formatField_str (q _ _ _ hz) (q _ _ _ hz) (small_size hz)) (small_size hz)
inductive TxP (prog : Program) (w : World) (env : Env) (m : Str → Option Value) : List Expr → Prop where
  | nil : TxP prog w env m []
  | cons {e : Expr} {es : List Expr} (h : TxE prog w env m e) (r : TxP prog w env m es) : TxP prog w env m (e :: es)
theorem txp_run {es : List Expr} (h : TxP prog w env m es) : ∀ (A : Around) (E : Value → Shared → Prop) (acc : Str) (s : Shared) (R : Str → Shared → Prop), acc.length + 100000 * es.length ≤ sizeLine → s.heap.Ns env.locals m →
    (∀ out n, out.length ≤ sizeLine → R out { s with toks := n }) → Joins (model prog w) A E (evalEach es env) acc R s := by
  induction h with
  | nil =>
    intro A E acc s R hz hn k
    have e0 : evalEach [] env = [] := by first | rfl | simp [evalEach]
    rw [e0]
    exact k acc s.toks (by simpa using hz)
  | @cons e es he r ih =>
    intro A E acc s R hz hn k
    have e0 : evalEach (e :: es) env = eval e env :: evalEach es env := by first | rfl | simp [evalEach]
    rw [e0]
    rw [List.length_cons] at hz
    refine he A E s _ hn fun z tk n hl => ⟨z, tk, rfl, ?_, ?_⟩
    · rw [Str.length_append]; omega
    · refine ih A E (acc ++ z) { s with toks := n } R (by rw [Str.length_append]; omega) hn fun out n' ho => ?_
      exact k out n' ho
theorem tx_joined {v1 v2 : Expr} {rest : List Expr} {pos : Pos} {A : Around} {E : Value → Shared → Prop} {s : Shared} {Q : Value → Shared → Prop} (h : TxP prog w env m (v1 :: v2 :: rest)) (hz : 100000 * (v1 :: v2 :: rest).length ≤ sizeLine) (hn : s.heap.Ns env.locals m)
    (q : ∀ (z : Str) tk n, Q (.str z tk) { s with toks := n }) : wpAny (model prog w) A (eval (.JoinedStr (v1 :: v2 :: rest) pos) env) Q E s :=
  wpAny_JoinedStr (txp_run h A E Str.empty s _ (by rw [show Str.empty.length = 0 from rfl, Nat.zero_add]; exact hz) hn fun out n ho => ⟨ho, q out _ _⟩)
end
/-! ### __init__ of one argument -/
/-- the text of def __init__(self, f): super().__init__(msg); self.f = f -/
structure Sh1 (prog : Program) (w : World) (st : Stmt) (f : Str) : Prop where
  body : ∃ (msg : Expr) (p0 p1 p2 p3 p4 q1 q2 q3 q4 : Pos) (pl : Sem Bool), defBody st = [.Expr (.Call (.Attribute (.Call (.Name "super" p0) [] [] p1) "__init__" p2) [msg] [] p3) p4, .Assign [.Attribute (.Name "self" q1) f q2] (.Name f q3) q4] ∧
    (∀ (q : Str) (L fI cda cc : Addr) (m : Str → Option Value) (v : Value) (A : Around) (E : Value → Shared → Prop) (s : Shared) (Q : Value → Shared → Prop), m f = some v → MsgV v → s.heap.Ns L m → (∀ (z : Str) tk n, Q (.str z tk) { s with toks := n }) →
      wpAny (model prog w) A (eval msg (ksEnv q (defScope st) L fI (.ref cda) cc)) Q E s) ∧
    (∀ (q : Str) (L fI cda cc : Addr), interactive (ksEnv q (defScope st) L fI (.ref cda) cc) = false ∧ starEach [msg] (ksEnv q (defScope st) L fI (.ref cda) cc) = (false, eval msg (ksEnv q (defScope st) L fI (.ref cda) cc)) :: starEach [] (ksEnv q (defScope st) L fI (.ref cda) cc) ∧
      swapsWith (.Call (.Attribute (.Call (.Name "super" p0) [] [] p1) "__init__" p2) [msg] [] p3) none p4.line (ksEnv q (defScope st) L fI (.ref cda) cc) = pure false ∧
      eval (.Call (.Attribute (.Call (.Name "super" p0) [] [] p1) "__init__" p2) [msg] [] p3) (ksEnv q (defScope st) L fI (.ref cda) cc) = (do
        let ov ← attributeBase (.Call (.Name "super" p0) [] [] p1) "__init__" (ksEnv q (defScope st) L fI (.ref cda) cc) (eval (.Call (.Name "super" p0) [] [] p1) (ksEnv q (defScope st) L fI (.ref cda) cc))
        standAt p2.atName
        let (f, first) ← holding [ov] (getMethod ov "__init__" pl)
        callWith p3 f first (backTo p3 (starEach [msg] (ksEnv q (defScope st) L fI (.ref cda) cc))) []) ∧
      swapsWith (.Name f q3) (some (.Attribute (.Name "self" q1) f q2)) q4.line (ksEnv q (defScope st) L fI (.ref cda) cc) = pure false)
  head : ∃ ar, ((defArgs st).posonlyargs ++ (defArgs st).args).head? = some ar ∧ ar.arg = "self"
  ks : (defScope st).names.lookup ("super" : Str) = some .globalImplicit
  kc : (defScope st).names.lookup ("__class__" : Str) = some .free
  ka : (defScope st).names.lookup ("self" : Str) = some .local
  kf : (defScope st).names.lookup f = some .local
  fd : (f == ("__debug__" : Str)) = false
  fs : (("self" : Str) == f) = false
  k : (defScope st).kind = .function
  co : (defScope st).isCoroutine = false
  gen : (defScope st).isGenerator = false
  nocell : ∀ x ∈ (defScope st).names, x.2 ≠ .cell
  binds : ∀ (s : Shared) (x : Addr) (v : Value) (qual : Str) (doc pm : Value) (an : Option Addr) (cda cc : Addr) (ct : Value), BindsTo s (ksFn "__init__" qual (defArgs st) (defBody st) (defScope st) .none .none doc pm an (.ref cda) ct cc) ⟨[.ref x, v], []⟩ [("self", .ref x), (f, v)]
/-- what __init__ leaves of a fresh exception at x -/
structure IEnd (h h' : Heap) (x C dx t1 : Addr) (mA : Str → Option Value) : Prop where
  keep : ∀ b o, b ≠ x → h.get? b = some o → h'.get? b = some o
  obj : h'.get? x = some { cls := .ref C, dict := some dx, data := .fields #[.ref t1, .none, .none, .none, .bool false, .none] }
  dbig : h.objs.size ≤ dx
  dne : dx ≠ x
  ns : h'.Ns1 dx mA
section
variable {prog : Program} {w : World} {A : Around} {E : Value → Shared → Prop} {R : Result → Shared → Prop} {s : Shared} {K : Frag} {mg : Str → Option Value} {base : Heap}
theorem init1 {C fI cc cda x t0 : Addr} {st : Stmt} {f qual : Str} {oc doc pm ct : Value} {od an : Option Addr} {osl : Array (Option Value)} {v : Value} (S : Sh1 prog w st f) (T : Txt prog K mg C fI cc cda) (Mo : Mod K mg base) (kb : ∀ b o, base.get? b = some o → s.heap.get? b = some o)
    (hf : K.lookup fI = some ⟨oc, od, .func (ksFn "__init__" qual (defArgs st) (defBody st) (defScope st) .none .none doc pm an (.ref cda) ct cc), osl⟩) (hcd : codeIn K (.ref cda) qual = true) (noN : findIn K (.ref C) f = some none)
    (hx : s.heap.get? x = some (excO C t0)) (hnx : K.lookup x = none) (hroom : A.depth < recursionLimit) (ok : MsgV v)
    (hq : ∀ h' tk dx t1, IEnd s.heap h' x C dx t1 (fun y => if y = f then some v else none) → R (.ok (.ret .none)) { s with heap := h', toks := tk }) :
    codeAny (model prog w) A (.call (.ref fI) ⟨[.ref x, v], []⟩) R s := by
  obtain ⟨msg, p0, p1, p2, p3, p4, q1, q2, q3, q4, pl, hb, hmsg, hev⟩ := S.body
  obtain ⟨ar, har, hself⟩ := S.head
  obtain ⟨nm, q0, N, bs, bm, sn, sub, ab, col, dd, k0, k1, k2, k3, k5, hC, hbm⟩ := T.cls
  have hcl := clsIn_of hC
  have X : K.In s.heap := Mo.kin.keeps kb
  refine ks_codeAny_call_defAt (fd := ksFn "__init__" qual (defArgs st) (defBody st) (defScope st) .none .none doc pm an (.ref cda) ct cc) (body := defBody st) (binds := [("self", .ref x), (f, v)]) hroom (X _ _ hf) rfl (Mo.nolimit.keeps kb) (codeRec_of X hcd) rfl (S.binds s x v qual doc pm an cda cc ct) S.nocell (fun y hy => ?_) (fun h1 hns k1 => ?_) S.co S.gen S.k
  · rcases List.mem_cons.mp hy with rfl | hy
    · exact S.ka
    · rw [List.mem_singleton.mp hy]; exact S.kf
  · have hx1 := k1 _ _ hx
    have kb1 : ∀ b o, base.get? b = some o → h1.get? b = some o := fun b o e => k1 b o (kb b o e)
    obtain ⟨e0, e1, e2, e3, e4⟩ := hev qual s.heap.objs.size fI cda cc
    have hv1 : (fun y => List.lookup y [(("self" : Str), Value.ref x), (f, v)].reverse) "self" = some (.ref x) := by
      show List.lookup ("self" : Str) ([(f, v), (("self" : Str), Value.ref x)] : List (Str × Value)) = _
      simp [List.lookup, S.fs]
    have hv2 : (fun y => List.lookup y [(("self" : Str), Value.ref x), (f, v)].reverse) f = some v := by
      show List.lookup f ([(f, v), (("self" : Str), Value.ref x)] : List (Str × Value)) = _
      simp [List.lookup]
    show PySem.wpAt (model prog w) (A.deeper (ksEnv qual (defScope st) s.heap.objs.size fI (.ref cda) cc)) (.func (defBody st) (ksEnv qual (defScope st) s.heap.objs.size fI (.ref cda) cc)) (execs (defBody st) (ksEnv qual (defScope st) s.heap.objs.size fI (.ref cda) cc)) _ _ _
    generalize hbb : defBody st = bb at hb ⊢
    rw [hb]
    refine ks_wpAt_execs_cons (super_stmt (pl := pl) T Mo kb1 hf har hself S.ks S.kc S.ka S.k hns hv1 hx1 (fun s' Q' hn q => hmsg _ _ _ _ _ _ v _ _ _ _ hv2 ok hn q) (fun h2 tk2 t1 k2 hx2 => ?_) e0 e1 e2 e3)
    refine wpAt_of_wpAny ?_
    have hL : s.heap.objs.size ≠ x := Nat.ne_of_gt (Heap.lt_size hx)
    obtain ⟨oL, es, ep, hoL, hr⟩ := hns
    have hns2 : h2.Ns s.heap.objs.size (fun y => List.lookup y [(("self" : Str), Value.ref x), (f, v)].reverse) := ⟨oL, es, ep, k2 _ _ hL hoL, hr⟩
    have X2 : K.In h2 := fun b o e => k2 b o (fun z => by rw [z, hnx] at e; cases e) (k1 b o (X _ _ e))
    refine wpAny_execs_cons (plainObj_wpAny_Assign_Attribute ?_ e4)
    refine ld_name (v := v) hns2 hv2 S.k S.kf (ld_name (v := .ref x) hns2 hv1 S.k S.ka ?_) S.fd
    refine set_plain X2 (ox := excO C t1) (od := none) ⟨hx2, rfl, rfl, trivial⟩ T.sa ?_
    refine PySem.HandSPX.exc_osa X2 hx2 hcl (show refsVE (.ref C :: bm) = true from hbm) rfl noN (fun h3 tk3 dx k3 dn dne hx3 hn3 => ?_)
    have z : s.heap.objs.size ≤ h2.objs.size := Nat.le_of_lt (Heap.lt_size (k2 _ _ hL hoL))
    exact wpAny_execs_nil (hq h3 _ dx t1 ⟨fun b o hb e => k3 b o hb (k2 b o hb (k1 b o e)), hx3, Nat.le_trans z dn, dne, hn3⟩)
/-- a made error: its own dict d holds the field -/
structure Made (h h' : Heap) (e C d : Addr) (mA : Str → Option Value) : Prop where
  keep : ∀ b o, h.get? b = some o → h'.get? b = some o
  new : h.objs.size ≤ e
  obj : ∃ oe vs, h'.get? e = some oe ∧ oe.cls = .ref C ∧ oe.dict = some d ∧ oe.data = .fields vs ∧ vs[1]? = some .none
  dbig : h.objs.size ≤ d
  dne : d ≠ e
  ns : h'.Ns1 d mA
/-- all that is told of an own error class of one argument -/
structure Cls1 (prog : Program) (w : World) (K : Frag) (mg : Str → Option Value) (cn f : Str) (C : Addr) : Prop where
  ex : ∃ (fI cc cda : Addr) (st : Stmt) (qual : Str) (oc doc pm ct : Value) (od an : Option Addr) (osl : Array (Option Value)), Sh1 prog w st f ∧ Txt prog K mg C fI cc cda ∧
    K.lookup fI = some ⟨oc, od, .func (ksFn "__init__" qual (defArgs st) (defBody st) (defScope st) .none .none doc pm an (.ref cda) ct cc), osl⟩ ∧ codeIn K (.ref cda) qual = true
  gC : mg cn = some (.ref C)
  kC : keepIn K (.ref C) = true
  noN : findIn K (.ref C) f = some none
  exC : subIn K (.ref C) (.type "BaseException") = some true
  tyC : typeIn K (.ref C) = some (.type "type")
theorem one_size (v : Value) : [v].length ≤ sizeLine := by
  rw [sizeLine_eq]
  exact (by decide : 1 ≤ 16777216)
theorem made1 {cn f : Str} {C : Addr} {v : Value} (Z : Cls1 prog w K mg cn f C) (Mo : Mod K mg base) (kb : ∀ b o, base.get? b = some o → s.heap.get? b = some o) (hroom : A.depth + 1 < recursionLimit) (ok : MsgV v)
    (hq : ∀ h' tk e d, Made s.heap h' e C d (fun y => if y = f then some v else none) → R (.ok (.ret (.ref e))) { s with heap := h', toks := tk }) :
    codeAny (model prog w) A (.call (.ref C) ⟨[v], []⟩) R s := by
  obtain ⟨fI, cc, cda, st, qual, oc, doc, pm, ct, od, an, osl, S, T, hf, hcd⟩ := Z.ex
  obtain ⟨nm, q, N, bs, bm, sn, sub, ab, col, dd, k0, k1, k2, k3, k5, hC, hbm⟩ := T.cls
  have X : K.In s.heap := Mo.kin.keeps kb
  obtain ⟨hp, g, dr, tk, os⟩ := s
  have k : ∀ b o, hp.get? b = some o → ((hp.push (kdv_tup [v])).push (excO C hp.objs.size)).get? b = some o := fun b o e => Heap.get?_push_of_some _ (Heap.get?_push_of_some _ e)
  have hget : ((hp.push (kdv_tup [v])).push (excO C hp.objs.size)).get? (hp.objs.size + 1) = some (excO C hp.objs.size) := by heap_get
  have hnx : K.lookup (hp.objs.size + 1) = none := by
    cases e : K.lookup (hp.objs.size + 1) with
    | none => rfl
    | some o =>
      have z : hp.get? (hp.objs.size + 1) = some o := X _ _ e
      exact absurd (Nat.lt_of_succ_lt (Heap.lt_size z)) (Nat.lt_irrefl _)
  refine PySem.HandSPX.call_own F.excBase_ValueError (fun X => PySem.HandSPX.refsVE_contains X bm hbm) (X _ _ hC) (looks_findIn X T.iC) (fun self => bind_fn X self T.tI) (one_size v) ?_
  refine init1 (s := ⟨(hp.push (kdv_tup [v])).push (excO C hp.objs.size), g, dr, tk, os⟩) S T Mo (fun b o e => k b o (kb b o e)) hf hcd Z.noN hget hnx ?_ ok fun h' tk' dx t1 ⟨k', hx, dn, dne, hns⟩ => ?_
  · show A.depth + 1 < recursionLimit
    exact hroom
  · have old : ∀ b o, hp.get? b = some o → h'.get? b = some o := fun b o e => k' b o (Nat.ne_of_lt (Nat.lt_succ_of_lt (Heap.lt_size e))) (k b o e)
    have z : hp.objs.size + 1 + 1 ≤ dx := by
      first
        | (simpa only [Heap.size_push] using dn)
        | exact dn
        | (have q := dn; rw [Heap.size_push, Heap.size_push] at q; exact q)
    exact ⟨rfl, hq h' tk' (hp.objs.size + 1) dx ⟨old, Nat.le_succ _, ⟨_, _, hx, rfl, rfl, rfl, rfl⟩, Nat.le_trans (Nat.le_trans (Nat.le_succ _) (Nat.le_succ _)) z, dne, hns⟩⟩
end
theorem relO_one {f : Str} {v : V} {v' : Value} (r : RelV v v') (g : Str) : RelO (List.lookup g [(f, v)]) (if g = f then some v' else none) := by
  by_cases hw : g = f
  · subst hw
    rw [if_pos rfl]
    have q : List.lookup g [(g, v)] = some v := by simp [List.lookup]
    rw [q]
    exact r
  · rw [if_neg hw]
    have qw : (g == f) = false := by simpa using hw
    have q2 : List.lookup g [(f, v)] = none := by simp [List.lookup, qw]
    rw [q2]
    trivial
/-- what may be written in the message: ints below 2 ^ 1920, short texts -/
def MsgA (v : V) : Prop := (∃ i, v = .int i ∧ i.natAbs.log2 < 1920) ∨ ∃ y, v = .str y ∧ (reprText y).length ≤ 100000 ∧ y.length ≤ 100000
theorem MsgA.v {v : V} {u : Value} (h : MsgA v) (r : RelV v u) : MsgV u := by
  rcases h with ⟨i, rfl, h⟩ | ⟨y, rfl, h⟩
  · obtain ⟨t, rfl⟩ := r; exact .inl ⟨i, t, rfl, h⟩
  · obtain ⟨t, rfl⟩ := r; exact .inr ⟨y, t, rfl, h⟩
section
variable {X : Cx} {C : Addr}
/-- the error of one argument, made -/
def tMk1 (C : Addr) (f : Str) (ta : TA) : L2.St → Hp → XK → Prop := fun σ H Q => ta σ H fun vs H1 => ∃ v, vs = [v] ∧ MsgA v ∧ ∀ d, H1 d = none → Q (.ref C) (some d) (upd H1 d (.xd [(f, v)]))
theorem pmk1 {cn f : Str} {a : Expr} {ta : TA} {p pos : Pos} {k : Nat} (Z : Cls1 X.prog X.w X.K X.mg cn f C) (hr : Room k X.A) (ha : PA X [a] ta) (hg : Gl X cn := by rfl) (hdb : (cn == ("__debug__" : Str)) = false := by decide)
    (he : starEach (a :: []) X.env = (false, eval a X.env) :: starEach [] X.env := by rfl) (hpl : (backTo pos (starEach [] X.env)).any (·.1) = false := by rfl) :
    PMk X (.Call (.Name cn p) [a] [] pos) (tMk1 C f ta) := by
  intro pins s σ H Q I h
  refine wpAny_Call_Name_kw (ld_glob I hg Z.gC ?_ hdb)
  refine PySem.W.callWith_K (h₀ := X.base) I.ok.mod.kin Z.kC (thn (ha.run pos pins s σ H _ I h) fun us s1 hh => ?_) he hpl
  obtain ⟨vs, H1, I1, r1, v, ev, hok, q1⟩ := hh
  subst ev
  refine ⟨I1.kIn, ?_⟩
  cases r1 with
  | cons rv rn =>
    rename_i v' us'
    cases rn
    show wpAny _ _ (call (.ref C) [v']) _ _ _
    have hbk := I1.bk
    obtain ⟨hp, g, dr, tk, os⟩ := s1
    refine wpAny_call (made1 Z I1.mod hbk (by have := hr.dp; omega) (hok.v rv) fun h' tk' e d M => ?_)
    show MkP X pins σ Q (.ref e) ⟨h', g, dr, tk', os⟩
    obtain ⟨oe, fv, hoe, hc, hd, hdat, h1⟩ := M.obj
    have hns := M.ns
    obtain ⟨G', g1, g2⟩ := restrict h' fun b => decide (b ≠ e)
    have gk : ∀ b, b ≠ e → G'.get? b = h'.get? b := fun b hb => g1 b (decide_eq_true hb)
    have ge : G'.get? e = none := g2 e (by simp)
    have old : ∀ b o, hp.get? b = some o → G'.get? b = some o := fun b o q => (gk b (Nat.ne_of_lt (Nat.lt_of_lt_of_le (Heap.lt_size q) M.new))).trans (M.keep b o q)
    have ob : ObjOk X.prog X.w (upd H1 d (.xd [(f, v)])) G' d (.xd [(f, v)]) :=
      ⟨_, hns.at (fun o q => (gk d M.dne).trans q), fun g => relO_one rv g⟩
    have J : Inv X pins σ (upd H1 d (.xd [(f, v)])) ⟨G', g, dr, tk', os⟩ := I1.laid (t' := tk') old M.dbig ob
    refine ⟨e, oe, fv, ⟨G', g, dr, tk', os⟩, _, .ref C, some d, rfl, J, fun b o q => ?_, ge, hoe, ⟨hc, hd⟩, hdat, h1, ?_, rfl, I1.bare, raises_own Z.exC Z.tyC, q1 d (I1.hok.fresh M.dbig)⟩
    · by_cases hb : b = e
      · have q' : G'.get? b = some o := q
        rw [hb, ge] at q'; cases q'
      · exact (gk b hb).symm.trans q
    · rw [upd_ne (Ne.symm M.dne)]
      exact I1.hok.fresh M.new
/-- raise C(e) -/
def tRaise1 (C : Addr) (f : Str) (W : WX) (ta : TA) : TS := fun _ σ H => tMk1 C f ta σ H fun cls d H' => W cls d σ H'
theorem ps_raise1 {cn f : Str} {a : Expr} {ta : TA} {W : WX} {p pos pos2 : Pos} {k : Nat} (hc : X.calm = true) (Z : Cls1 X.prog X.w X.K X.mg cn f C) (hr : Room k X.A) (tk : Takes X W) (ha : PA X [a] ta) (hg : Gl X cn := by rfl) (hdb : (cn == ("__debug__" : Str)) = false := by decide)
    (he : starEach (a :: []) X.env = (false, eval a X.env) :: starEach [] X.env := by rfl) (hpl : (backTo pos (starEach [] X.env)).any (·.1) = false := by rfl) :
    PS X (.Raise (some (.Call (.Name cn p) [a] [] pos)) none pos2) (tRaise1 C f W ta) := ps_raise hc tk (pmk1 Z hr ha hg hdb he hpl)
end
theorem r_raise1 {C : Addr} {f : Str} {W : WX} {ta : TA} {D : Ends} {σ : L2.St} {H : Hp} (k : ta σ H fun vs H1 => ∃ v, vs = [v] ∧ MsgA v ∧ ∀ d, H1 d = none → W (.ref C) (some d) σ (upd H1 d (.xd [(f, v)]))) : tRaise1 C f W ta D σ H := k
theorem r_msgI {i : Int} {F : V → Prop} (h : i.natAbs < 2 ^ 1000) (k : F (.int i)) : ∃ v, [V.int i] = [v] ∧ MsgA v ∧ F v := ⟨_, rfl, .inl ⟨i, rfl, Nat.lt_trans (log2_of h (by decide)) (by decide)⟩, k⟩
theorem r_xf {a C : Addr} {cls : Value} {d : Option Addr} {f : Str} {te : TE} {σ : L2.St} {H : Hp} {Q : VK}
    (k : te σ H fun x H1 => x = .ref a ∧ cls = .ref C ∧ ∃ (dd : Addr) (fs : List (Str × V)) (v : V), d = some dd ∧ H1 dd = some (.xd fs) ∧ fs.lookup f = some v ∧ Q v H1) : tXf a cls d C f te σ H Q := k
theorem r_xfE {a C dd : Addr} {f : Str} {H : Hp} {fs : List (Str × V)} {v : V} {Q : V → Prop} (hd : H dd = some (.xd fs)) (hv : fs.lookup f = some v) (k : Q v) :
    V.ref a = .ref a ∧ Value.ref C = .ref C ∧ ∃ (dd' : Addr) (fs : List (Str × V)) (v : V), some dd = some dd' ∧ H dd' = some (.xd fs) ∧ fs.lookup f = some v ∧ Q v := ⟨rfl, rfl, dd, fs, v, rfl, hd, hv, k⟩
theorem kit_self {K : PySem.W.Frag} {C : Addr} : PySem.W.kitOne K (.ref C) (.ref C) = some true := by
  unfold PySem.W.kitOne
  rw [if_pos (beq_self_eq_true _)]
theorem kit_refs {K : PySem.W.Frag} {C D : Addr} {b : Bool} (hdct : PySem.W.hasDictIn K D = true) (ht : PySem.W.typeIn K (.ref D) = some (.type "type")) (h4 : PySem.W.subIn K (.ref C) (.ref D) = some b) (hq : (Value.ref C == Value.ref D) = false) : PySem.W.kitOne K (.ref C) (.ref D) = some b := by
  obtain ⟨cd, hc, _⟩ := PySem.W.any_some hdct
  have e2 : ((PySem.W.clsIn K D).isSome && PySem.W.typeIn K (.ref D) == some (.type "type")) = true := by rw [hc, ht] <;> rfl
  unfold PySem.W.kitOne
  rw [if_neg (by rw [hq]; decide)]
  show (if ((PySem.W.clsIn K D).isSome && PySem.W.typeIn K (.ref D) == some (.type "type")) = true then PySem.W.subIn K (.ref C) (.ref D) else none) = some b
  rw [if_pos e2]
  exact h4
theorem kit_typ {K : PySem.W.Frag} {C : Addr} {T : String} {b : Bool} (hm : PySem.W.kitMeta T = true) (h4 : PySem.W.subIn K (.ref C) (.type T) = some b) : PySem.W.kitOne K (.ref C) (.type T) = some b := by
  unfold PySem.W.kitOne
  rw [if_neg (by show ¬ (Value.ref C == Value.type T) = true; intro z; cases (beq_iff_eq.mp z))]
  show (if PySem.W.kitMeta T = true then PySem.W.subIn K (.ref C) (.type T) else none) = some b
  rw [if_pos hm]
  exact h4
/-- the comparison within an except suite -/
theorem op_eqDK {X : Cx} {K : PySem.W.Frag} (hK : X.K = K) (hu : X.A.units + 64 < cLine) : OpR X (compareOp .Eq) (rEqD K) := by subst hK; exact op_eqD hu
theorem op_neDK {X : Cx} {K : PySem.W.Frag} (hK : X.K = K) (hu : X.A.units + 64 < cLine) : OpR X (compareOp .NotEq) (rNeD K) := by subst hK; exact op_neD hu
/-! ### isinstance(e, c), e a caught error of an own class with its dict -/
def rIsD (K : PySem.W.Frag) (a : Addr) (cls : Value) (d : Option Addr) : List V → Hp → VK → Prop := fun xs H Q => ∃ (D dd : Addr) (fs : List (Str × V)) (c : V) (cv : Value) (b : Bool), cls = .ref D ∧ d = some dd ∧ ExcC K D ∧ xs = [.ref a, c] ∧ H dd = some (.xd fs) ∧ (∀ u, RelV c u → u = cv) ∧ PySem.W.kitOne K (.ref D) cv = some b ∧ Q (.bl b) H
theorem call_isD {X : Cx} {a : Addr} {cls : Value} {d : Option Addr} {oe : Obj} {pn : List (Addr × Obj)} (hz : Zc cls d oe) (hf : ∃ vs, oe.data = .fields vs) : CallR (X.suite a ((a, oe) :: pn)) (.builtin "isinstance") (rIsD X.K a cls d) := by
  intro pins s σ H xs us Q I r h
  obtain ⟨D, dd, fs, c, cv, b, rfl, rfl, C, rfl, hdd, hcv, e, q⟩ := h
  cases r with
  | cons rx rr =>
    cases rr with
    | cons rt rr =>
      cases rr
      cases rx
      have ec := hcv _ rt
      subst ec
      obtain ⟨hget, _⟩ := I.pin (a, oe) (List.mem_append.mpr (.inl List.mem_cons_self))
      obtain ⟨vs, hv⟩ := hf
      have hx : ObjOk X.prog X.w H s.heap dd (.xd fs) := I.hok dd _ hdd
      obtain ⟨mA, ⟨od, es, ep, ho, hr⟩, hl⟩ := hx
      have J : PySem.W.InstAt s.heap a oe D (some od) := by
        refine ⟨hget, hz.1, by unfold PySem.W.notCls; rw [hv] <;> rfl, ?_⟩
        rw [hz.2]; exact ho
      obtain ⟨cd, hcd, _⟩ := PySem.W.any_some C.hd
      exact PySem.W.kia_one (PySem.W.kitx_exc (by rw [hcd]; rfl) C.hg C.hk C.hs C.ha C.hn C.ht C.hm) I.kIn J e (fun z => nomatch z) fun tk => ⟨.bl b, H, I.kept (t' := tk) fun _ _ z => z, rfl, q⟩
theorem r_isD {K : PySem.W.Frag} {a D dd : Addr} {fs : List (Str × V)} {c : V} {cv : Value} {b : Bool} {H : Hp} {Q : VK} (C : ExcC K D) (hd : H dd = some (.xd fs)) (hc : ∀ u, RelV c u → u = cv) (hk : PySem.W.kitOne K (.ref D) cv = some b) (k : Q (.bl b) H) :
    rIsD K a (.ref D) (some dd) [.ref a, c] H Q := ⟨D, dd, fs, c, cv, b, rfl, rfl, C, rfl, hd, hc, hk, k⟩
end Er
/-! ### operators of own classes, over the layer -/
namespace Ow
open PySem.W PySem.Calls
theorem inst_of {X : Cx} {pins : List (Addr × Obj)} {σ : L2.St} {H : Hp} {s : Shared} {a C dx : Addr} {fs : List (Str × V)} (I : Inv X pins σ H s) (h : H a = some (.ins C dx fs)) : ∃ ox od, InstAt s.heap a ox C od ∧ ox.data = .plain := by
  obtain ⟨mA, O, _⟩ := ins_get I.hok h
  obtain ⟨od, J, _⟩ := O.look
  exact ⟨_, _, J, rfl⟩
theorem not_ni {v : V} {u : Value} (r : RelV v u) : u ≠ .notImplemented := by
  rintro rfl
  cases v <;> first | (cases r; done) | (obtain ⟨t, e⟩ := r; cases e)
theorem cmpBack {X : Cx} {pins : List (Addr × Obj)} {σ : L2.St} {Q : VK} {u : Value} {s : Shared} (h : EP X pins σ Q u s) : PySem.W.CmpBack (EP X pins σ Q) u s := by
  obtain ⟨v, H', I, r, q⟩ := id h
  have n := not_ni r
  cases u <;> first | exact h | exact absurd rfl n
section
variable {X : Cx} {CX : CXT} {k : Nat} {C f : Addr} {sp : Sp} {E : XK}
/-- the callee, with values -/
theorem run_own {pins : List (Addr × Obj)} {σ : L2.St} {H : Hp} {s : Shared} {Q : VK} {us : List Value} {vs : List V} (F : FnR X.prog X.w X.K X.mg X.base CX k f sp) (hr : Room k X.A) (hx : Passes CX X E) (I : Inv X pins σ H s) (r : Vals vs us) (h : sp vs H Q E) :
    wpAny (model X.prog X.w) X.A (call (.ref f) us) (EP X pins σ Q) X.xe s := wpAny_call (run_fnR F hr hx I r h)
/-- x op y, both of the class C -/
def rOwn2 (C : Addr) (sp : Sp) (E : XK) : R2 := fun x y H Q => ∃ a dx fs b dy gs, x = .ref a ∧ y = .ref b ∧ H a = some (.ins C dx fs) ∧ H b = some (.ins C dy gs) ∧ sp [x, y] H Q E
theorem op_own2 {op : Operator} {m : Str} (sf : selfFirst X.K C = true) (M : Meth X.K C m f) (F : FnR X.prog X.w X.K X.mg X.base CX k f sp) (hr : Room k X.A) (hx : Passes CX X E) (hm : PySem.dunder op.info.2 = m := by rfl) : OpR X (binaryOp op) (rOwn2 C sp E) := by
  intro pins s σ H x y v u Q I rx ry h
  obtain ⟨a, dx, fs, b, dy, gs, rfl, rfl, ha, hb, q⟩ := h
  obtain rfl : v = Value.ref a := rx
  obtain rfl : u = Value.ref b := ry
  obtain ⟨ox, od, J, _⟩ := inst_of I ha
  obtain ⟨oy, od', J', _⟩ := inst_of I hb
  obtain ⟨mm, Fm⟩ := I.fr
  refine binop_K Fm I.ok.mod.kin J J'.type sf (by rw [hm]; exact M.at_) M.fn ?_
  exact wpAny_mono (run_own (vs := [.ref a, .ref b]) F hr hx I (.cons rfl (.cons rfl .nil)) q) (fun _ _ z => cmpBack z) fun _ _ e => e
/-- x op n, x of the class C, n an int -/
def rOwnI (C : Addr) (sp : Sp) (E : XK) : R2 := fun x y H Q => ∃ a dx fs n, x = .ref a ∧ y = .int n ∧ H a = some (.ins C dx fs) ∧ sp [x, y] H Q E
/-- -x -/
def rOwn1 (C : Addr) (sp : Sp) (E : XK) : V → Hp → VK → Prop := fun x H Q => ∃ a dx fs, x = .ref a ∧ H a = some (.ins C dx fs) ∧ sp [x] H Q E
/-- x == y, both of the class C -/
theorem op_ownEq {op : CmpOp} {m : Str} (M : Meth X.K C m f) (F : FnR X.prog X.w X.K X.mg X.base CX k f sp) (hr : Room k X.A) (hx : Passes CX X E) (hu : X.A.units < cLine) (hm : (cmpInfo op).2.1 = m := by rfl)
    (ho : ∀ a b, compareOp op a b = richCompare op a b := by intro _ _; rfl) : OpR X (compareOp op) (rOwn2 C sp E) := by
  intro pins s σ H x y v u Q I rx ry h
  obtain ⟨a, dx, fs, b, dy, gs, rfl, rfl, ha, hb, q⟩ := h
  obtain rfl : v = Value.ref a := rx
  obtain rfl : u = Value.ref b := ry
  obtain ⟨ox, od, J, _⟩ := inst_of I ha
  obtain ⟨oy, od', J', _⟩ := inst_of I hb
  obtain ⟨mm, Fm⟩ := I.fr
  rw [ho]
  refine cmp_K hu Fm I.ok.mod.kin J J'.type (by unfold notFirst; rw [beq_self_eq_true]; rfl) (by rw [hm]; exact M.at_) M.fn ?_
  exact wpAny_mono (run_own (vs := [.ref a, .ref b]) F hr hx I (.cons rfl (.cons rfl .nil)) q) (fun _ _ z => cmpBack z) fun _ _ e => e
end
section
open PySem.Builtin
section
variable {prog : Program} {w : World} {A : Around} {E : Value → Shared → Prop} {s : Shared} {K : Frag} {x C dx f : Addr} {od : Obj}
end
end
section
variable {X : Cx} {CX : CXT} {k : Nat} {C f : Addr} {sp : Sp} {E : XK}
/-- n * x, n an int, x of the class C: the reflected method -/
def rIntOwn (C : Addr) (sp : Sp) (E : XK) : R2 := fun x y H Q => ∃ b dx fs n, x = .int n ∧ y = .ref b ∧ H b = some (.ins C dx fs) ∧ sp [y, x] H Q E
/-- str(x), x of the class C -/
def rStrOwn (C : Addr) (sp : Sp) (E : XK) : List V → Hp → VK → Prop := fun xs H Q => ∃ a dx fs, xs = [.ref a] ∧ H a = some (.ins C dx fs) ∧ sp [.ref a] H (fun v H' => ∃ z, v = .str z ∧ Q v H') E
theorem call_strOwn (M : Meth X.K C "__str__" f) (F : FnR X.prog X.w X.K X.mg X.base CX k f sp) (hr : Room (k + 2) X.A) (hx : Passes CX X E) : CallR X (.type "str") (rStrOwn C sp E) := by
  intro pins s σ H xs us Q I r h
  obtain ⟨a, dx, fs, rfl, ha, q⟩ := h
  obtain ⟨u, rfl, ru⟩ := r.one
  obtain rfl : u = Value.ref a := ru
  obtain ⟨ox, od, J, _⟩ := inst_of I ha
  have hr2 : Room k X.A.in1.in1 := (show Room (k + 1) X.A.in1 from Room.in1 hr).in1
  refine kso_call hr2.units0 I.kIn J M.at_ M.fn (wpAny_mono (wpAny_call (SlX.run_at (us := [.ref a]) (ws := [.ref a]) F hr2 I.env0.in1.in1 hx I (.cons rfl .nil) q)) (fun u' s' z => ?_) fun _ _ x => x)
  obtain ⟨z', H', I', rz, y, ey, qz⟩ := z
  subst ey
  obtain ⟨t, e⟩ := (show ∃ t, u' = Value.str y t from rz)
  subst e
  exact ⟨.str y, H', I', ⟨t, rfl⟩, qz⟩
/-- x.f, read -/
def rFld (K : Frag) (f : Str) : V → Hp → VK → Prop := fun x H Q => ∃ a C dx fs v, x = .ref a ∧ H a = some (.ins C dx fs) ∧ Cls K C ∧ NoAttr K C f ∧ fs.lookup f = some v ∧ Q v H
theorem r_fld {K : Frag} {ta : TE} {f : Str} {σ : L2.St} {H : Hp} {Q : VK} (k : ta σ H fun x H1 => rFld K f x H1 Q) : tFld K ta f σ H Q := k
theorem r_fldAt {K : Frag} {f : Str} {H : Hp} {Q : VK} {a C dx : Addr} {fs : List (Str × V)} {v : V} (h : H a = some (.ins C dx fs)) (c : Cls K C) (n : NoAttr K C f) (l : fs.lookup f = some v) (k : Q v H) : rFld K f (.ref a) H Q := ⟨a, C, dx, fs, v, rfl, h, c, n, l, k⟩
/-- x.f = v -/
def rSFld (K : Frag) (f : Str) : V → V → Hp → (Hp → Prop) → Prop := fun x y H Q => ∃ a C dx fs, x = .ref a ∧ H a = some (.ins C dx fs) ∧ Cls K C ∧ NoAttr K C f ∧ fs.length < 1000 ∧ Q (upd H a (.ins C dx (putF f y fs)))
theorem r_sfld {K : Frag} {ta tv : TE} {f : Str} {D : Ends} {σ : L2.St} {H : Hp} (k : tv σ H fun y H1 => ta σ H1 fun x H2 => rSFld K f x y H2 fun H3 => D.nx σ H3) : sFld K ta tv f D σ H := k
theorem r_sfldAt {K : Frag} {f : Str} {H : Hp} {y : V} {Q : Hp → Prop} {a C dx : Addr} {fs : List (Str × V)} (h : H a = some (.ins C dx fs)) (c : Cls K C) (n : NoAttr K C f) (l : fs.length < 1000) (k : Q (upd H a (.ins C dx (putF f y fs)))) : rSFld K f (.ref a) y H Q := ⟨a, C, dx, fs, rfl, h, c, n, l, k⟩
/-- x.m(..) -/
def rMeth (C : Addr) (m : Str) (R : V → Hp → Prop) : V → Hp → Prop := fun x H => ∃ a dx fs, x = .ref a ∧ H a = some (.ins C dx fs) ∧ fs.lookup m = none ∧ R x H
theorem r_meth {C : Addr} {m : Str} {sp : Sp} {dvs : List V} {E : XK} {ta : TE} {t : TA} {σ : L2.St} {H : Hp} {Q : VK} (k : ta σ H fun x H1 => rMeth C m (fun x H1 => t σ H1 fun vs H2 => sp (x :: (vs ++ dvs)) H2 Q E) x H1) : tMeth C m sp dvs E ta t σ H Q := k
theorem r_methAt {C a dx : Addr} {m : Str} {fs : List (Str × V)} {R : V → Hp → Prop} {H : Hp} (h : H a = some (.ins C dx fs)) (l : fs.lookup m = none) (k : R (.ref a) H) : rMeth C m R (.ref a) H := ⟨a, dx, fs, rfl, h, l, k⟩
/-- the operators -/
theorem r_own2 {C a b dx dy : Addr} {fs gs : List (Str × V)} {sp : Sp} {E : XK} {H : Hp} {Q : VK} (ha : H a = some (.ins C dx fs)) (hb : H b = some (.ins C dy gs)) (k : sp [.ref a, .ref b] H Q E) : rOwn2 C sp E (.ref a) (.ref b) H Q := ⟨a, dx, fs, b, dy, gs, rfl, rfl, ha, hb, k⟩
theorem r_own1 {C a dx : Addr} {fs : List (Str × V)} {sp : Sp} {E : XK} {H : Hp} {Q : VK} (ha : H a = some (.ins C dx fs)) (k : sp [.ref a] H Q E) : rOwn1 C sp E (.ref a) H Q := ⟨a, dx, fs, rfl, ha, k⟩
/-- what is told of an own class -/
structure OC (K : Frag) (C : Addr) : Prop where
  cl : Cls K C
  sf : selfFirst K C = true
  ca : findIn K (.ref C) "__class__" = some (some (.builtin "object.__class__"))
  cn : specialIn K (.builtin "object.__class__") "__get__" = some (some (.builtin "getset_descriptor.__get__"))
  ct : takesIn K (.builtin "object.__class__") = some true
  cm : mroIn K C (.type "object") = some true
theorem OC.ty {K : Frag} {C a dx : Addr} {H : Hp} {fs : List (Str × V)} (o : OC K C) (h : H a = some (.ins C dx fs)) : TyX K H (.ref a) (.ref C) := .base (.ins h o.cl o.ca o.cn o.ct o.cm)
theorem r_isiOwn {K : Frag} {C a dx : Addr} {H : Hp} {fs : List (Str × V)} {Q : VK} (o : OC K C) (h : H a = some (.ins C dx fs)) (k : Q (.bl true) H) : rIsi K [.ref a, .ref C] H Q := ⟨_, _, _, _, true, rfl, .own C, o.ty h, Er.kit_self, k⟩
end
end Ow
namespace Fm
open PySem PySem.Spec PyProof.Rows L2
/-! ### the order of texts -/
theorem lt_irr : ∀ a : List Nat, ltCps a a = false
  | [] => rfl
  | a :: r => by simp [ltCps, lt_irr r]
theorem lt_tr : ∀ {a b c : List Nat}, ltCps a b = true → ltCps b c = true → ltCps a c = true
  | [], [], _, h, _ => by simp [ltCps] at h
  | [], _ :: _, [], _, h => by simp [ltCps] at h
  | [], _ :: _, _ :: _, _, _ => by simp [ltCps]
  | _ :: _, [], _, h, _ => by simp [ltCps] at h
  | _ :: _, _ :: _, [], _, h => by simp [ltCps] at h
  | x :: a, y :: b, z :: c, h, k => by
    simp only [ltCps, Bool.or_eq_true, decide_eq_true_eq, Bool.and_eq_true, beq_iff_eq] at h k ⊢
    rcases h with h | ⟨rfl, h⟩ <;> rcases k with k | ⟨rfl, k⟩
    · exact .inl (Nat.lt_trans h k)
    · exact .inl h
    · exact .inl k
    · exact .inr ⟨rfl, lt_tr h k⟩
theorem lt_tri : ∀ a b : List Nat, a = b ∨ ltCps a b = true ∨ ltCps b a = true
  | [], [] => .inl rfl
  | [], _ :: _ => .inr (.inl rfl)
  | _ :: _, [] => .inr (.inr rfl)
  | x :: a, y :: b => by
    simp only [ltCps, Bool.or_eq_true, decide_eq_true_eq, Bool.and_eq_true, beq_iff_eq]
    rcases Nat.lt_trichotomy x y with h | rfl | h
    · exact .inr (.inl (.inl h))
    · rcases lt_tri a b with rfl | h | h
      · exact .inl rfl
      · exact .inr (.inl (.inr ⟨rfl, h⟩))
      · exact .inr (.inr (.inr ⟨rfl, h⟩))
    · exact .inr (.inr (.inl h))
def Lt (x y : Str) : Prop := ltCps x.cps.toList y.cps.toList = true
theorem Lt.irr {x : Str} (h : Lt x x) : False := by unfold Lt at h; rw [lt_irr] at h; cases h
theorem Lt.tr {x y z : Str} (h : Lt x y) (k : Lt y z) : Lt x z := lt_tr h k
theorem str_ext {x y : Str} (h : x.cps.toList = y.cps.toList) : x = y := by
  cases x; cases y; simp only [Str.mk.injEq]; exact Array.ext' h
theorem Lt.tri (x y : Str) : x = y ∨ Lt x y ∨ Lt y x := (lt_tri x.cps.toList y.cps.toList).imp str_ext id
/-! ### weights of names -/
abbrev Tm := Str × Int
/-- the weight of a name -/
def wt (ts : List Tm) (x : Str) : Int := ((ts.filter fun p => decide (p.1 = x)).map (·.2)).sum
theorem wt_nil {x : Str} : wt [] x = 0 := rfl
theorem wt_cons {p : Tm} {ts : List Tm} {x : Str} : wt (p :: ts) x = (if p.1 = x then p.2 else 0) + wt ts x := by
  unfold wt
  by_cases h : p.1 = x
  · rw [List.filter_cons_of_pos (by simpa using h), if_pos h]; simp
  · rw [List.filter_cons_of_neg (by simpa using h), if_neg h]; simp
theorem wt_append {x : Str} : ∀ {ts us : List Tm}, wt (ts ++ us) x = wt ts x + wt us x
  | [], us => by rw [List.nil_append, wt_nil, Int.zero_add]
  | p :: ts, us => by rw [List.cons_append, wt_cons, wt_cons, wt_append, Int.add_assoc]
theorem wt_none {x : Str} : ∀ {ts : List Tm}, (∀ p ∈ ts, p.1 ≠ x) → wt ts x = 0
  | [], _ => rfl
  | p :: ts, h => by rw [wt_cons, if_neg (h p (by simp)), wt_none fun q hq => h q (by simp [hq])]; rfl
/-- all weights times k -/
def scl (k : Int) (ts : List Tm) : List Tm := ts.map fun p => (p.1, k * p.2)
def dropN (x : Str) (ts : List Tm) : List Tm := ts.filter fun p => decide (p.1 ≠ x)
/-- terms as a form has them -/
structure Canon (ts : List Tm) : Prop where
  asc : (ts.map (·.1)).Pairwise Lt
  nz : ∀ p ∈ ts, p.2 ≠ 0
theorem Canon.nil : Canon [] := ⟨by simp, by simp⟩
theorem Canon.tail {p : Tm} {ts : List Tm} (c : Canon (p :: ts)) : Canon ts := ⟨(List.pairwise_cons.mp c.asc).2, fun q hq => c.nz q (by simp [hq])⟩
theorem Canon.lt {p : Tm} {ts : List Tm} (c : Canon (p :: ts)) {q : Tm} (h : q ∈ ts) : Lt p.1 q.1 := (List.pairwise_cons.mp c.asc).1 q.1 (List.mem_map_of_mem h)
theorem Canon.head {p : Tm} {ts : List Tm} (c : Canon (p :: ts)) : wt (p :: ts) p.1 = p.2 := by
  rw [wt_cons, if_pos rfl, wt_none fun q hq e => ?_, Int.add_zero]
  exact (e ▸ c.lt hq).irr
theorem canon_eq : ∀ {ts us : List Tm}, Canon ts → Canon us → (∀ x, wt ts x = wt us x) → ts = us
  | [], [], _, _, _ => rfl
  | [], q :: us, _, d, h => by
    have := h q.1; rw [d.head, wt_nil] at this
    exact absurd this.symm (d.nz q (by simp))
  | p :: ts, [], c, _, h => by
    have := h p.1; rw [c.head, wt_nil] at this
    exact absurd this (c.nz p (by simp))
  | p :: ts, q :: us, c, d, h => by
    have e : p.1 = q.1 := by
      rcases Lt.tri p.1 q.1 with e | e | e
      · exact e
      · have := h p.1
        rw [c.head, wt_none (ts := q :: us) fun r hr z => ?_] at this
        · exact absurd this (c.nz p (by simp))
        · rcases List.mem_cons.mp hr with rfl | hr
          · exact (z ▸ e).irr
          · exact (z ▸ e.tr (d.lt hr)).irr
      · have := h q.1
        rw [d.head, wt_none (ts := p :: ts) fun r hr z => ?_] at this
        · exact absurd this.symm (d.nz q (by simp))
        · rcases List.mem_cons.mp hr with rfl | hr
          · exact (z ▸ e).irr
          · exact (z ▸ e.tr (c.lt hr)).irr
    have e2 : p.2 = q.2 := by rw [← c.head, ← d.head, h, e]
    have ep : p = q := Prod.ext e e2
    subst ep
    rw [canon_eq c.tail d.tail fun x => ?_]
    have := h x
    rw [wt_cons, wt_cons] at this
    omega
/-! ### what is linear in the weights -/
def lin (ts : List Tm) (L : Str → Int) : Int := (ts.map fun p => p.2 * L p.1).sum
/-! ### values in a world: a top and a bottom -/
abbrev Wd := Str → Int × Int
def accV (W : Wd) : List Tm → Int × Int → Int × Int
  | [], s => s
  | p :: ts, s => accV W ts (s.1 * (W p.1).2 + p.2 * (W p.1).1 * s.2, s.2 * (W p.1).2)
/-- the world in which x has another level -/
def moved (W : Wd) (x : Str) (v : Int × Int) : Wd := fun y => if y = x then v else W y
/-! ### the terms of a form, by its pairs -/
instance : DecidableRel Lt := fun x y => inferInstanceAs (Decidable (ltCps x.cps.toList y.cps.toList = true))
def ins (x : Str) (w : Int) : List Tm → List Tm
  | [] => if w = 0 then [] else [(x, w)]
  | p :: us => if x = p.1 then (if w + p.2 = 0 then us else (x, w + p.2) :: us) else if Lt x p.1 then (if w = 0 then p :: us else (x, w) :: p :: us) else p :: ins x w us
theorem ins_mem {x : Str} {w : Int} : ∀ {us : List Tm} {q : Tm}, q ∈ ins x w us → q.1 = x ∨ q ∈ us
  | [], q, h => by
    unfold ins at h; split at h
    · cases h
    · rw [List.mem_singleton.mp h]; exact .inl rfl
  | p :: us, q, h => by
    unfold ins at h
    split at h
    · split at h
      · exact .inr (by simp [h])
      · rcases List.mem_cons.mp h with rfl | h
        · exact .inl rfl
        · exact .inr (by simp [h])
    · split at h
      · split at h
        · exact .inr h
        · rcases List.mem_cons.mp h with rfl | h
          · exact .inl rfl
          · exact .inr h
      · rcases List.mem_cons.mp h with rfl | h
        · exact .inr (by simp)
        · exact (ins_mem h).imp id fun z => by simp [z]
theorem Canon.cons {p : Tm} {us : List Tm} (h : ∀ q ∈ us, Lt p.1 q.1) (n : p.2 ≠ 0) (c : Canon us) : Canon (p :: us) :=
  ⟨List.pairwise_cons.mpr ⟨fun y hy => by obtain ⟨q, hq, rfl⟩ := List.mem_map.mp hy; exact h q hq, c.asc⟩, fun q hq => by
    rcases List.mem_cons.mp hq with rfl | hq
    · exact n
    · exact c.nz q hq⟩
theorem ins_canon {x : Str} {w : Int} : ∀ {us : List Tm}, Canon us → Canon (ins x w us)
  | [], _ => by
    unfold ins; split
    · exact .nil
    · next h => exact .cons (by simp) h .nil
  | p :: us, c => by
    unfold ins
    split
    · next e =>
      split
      · exact c.tail
      · next h => exact .cons (fun q hq => e ▸ c.lt hq) h c.tail
    · next e =>
      split
      · next l =>
        split
        · exact c
        · next h => exact .cons (fun q hq => by
            rcases List.mem_cons.mp hq with rfl | hq
            · exact l
            · exact l.tr (c.lt hq)) h c
      · next l =>
        have l' : Lt p.1 x := by
          rcases Lt.tri x p.1 with z | z | z
          · exact absurd z e
          · exact absurd z l
          · exact z
        refine .cons (fun q hq => ?_) (c.nz p (by simp)) (ins_canon c.tail)
        rcases ins_mem hq with z | z
        · rw [z]; exact l'
        · exact c.lt z
theorem ins_wt {x y : Str} {w : Int} : ∀ {us : List Tm}, wt (ins x w us) y = (if x = y then w else 0) + wt us y
  | [] => by
    unfold ins; split
    · next h => subst h; simp [wt]
    · rw [wt_cons]
  | p :: us => by
    unfold ins
    split
    · next e =>
      split
      · next h =>
        rw [wt_cons, ← e]
        split <;> omega
      · rw [wt_cons, wt_cons, ← e]
        dsimp only
        split <;> omega
    · split
      · split
        · next h => subst h; simp
        · rw [wt_cons]
      · rw [wt_cons, ins_wt, wt_cons]; omega
def can : List Tm → List Tm
  | [] => []
  | p :: ts => ins p.1 p.2 (can ts)
theorem can_canon : ∀ ts : List Tm, Canon (can ts)
  | [] => .nil
  | _ :: ts => ins_canon (can_canon ts)
theorem can_wt : ∀ (ts : List Tm) (x : Str), wt (can ts) x = wt ts x
  | [], _ => rfl
  | p :: ts, x => by
    show wt (ins p.1 p.2 (can ts)) x = _
    rw [ins_wt, can_wt, wt_cons]
theorem can_eq {us ts : List Tm} (c : Canon us) (h : ∀ x, wt us x = wt ts x) : us = can ts := canon_eq c (can_canon ts) fun x => by rw [h, can_wt]
/-- a form within bounds: weights and constant below 2 ^ k, at most n terms, names that keep N -/
structure FOk (N : Str → Prop) (n k : Nat) (ts : List Tm) (c : Int) : Prop where
  can : Canon ts
  len : ts.length ≤ n
  nm : ∀ p ∈ ts, N p.1
  wb : ∀ p ∈ ts, p.2.natAbs < 2 ^ k
  cb : c.natAbs < 2 ^ k
/-! ### a row made by names -/
def rowOf (ys : List Str) (f : Str → Int) : List Tm := (ys.map fun x => (x, f x)).filter fun p => decide (p.2 ≠ 0)
/-! ### sums by names in a dict -/
def putT (ks : List Tm) (x : Str) (v : Int) : List Tm := if (ks.any fun p => decide (p.1 = x)) = true then ks.map (fun p => if p.1 = x then (p.1, v) else p) else ks ++ [(x, v)]
def kOf (ks : List Tm) : List (Key × V) := ks.map fun p => (Sum.inr p.1, V.int p.2)
/-- the sums so far -/
structure Sums (ks ts : List Tm) : Prop where
  nd : (ks.map (·.1)).Nodup
  iff : ∀ x, (x ∈ ks.map (·.1)) ↔ x ∈ ts.map (·.1)
  val : ∀ p ∈ ks, p.2 = wt ts p.1
  len : ks.length ≤ ts.length
theorem Sums.nil : Sums [] [] := ⟨by simp, by simp, by simp, Nat.le_refl _⟩
theorem Sums.put {ks ts : List Tm} (h : Sums ks ts) (p : Tm) : Sums (putT ks p.1 (wt ts p.1 + p.2)) (ts ++ [p]) := by
  have hw : ∀ x, wt (ts ++ [p]) x = wt ts x + if p.1 = x then p.2 else 0 := fun x => by rw [wt_append, wt_cons, wt_nil, Int.add_zero]
  unfold putT
  by_cases c : (ks.any fun q => decide (q.1 = p.1)) = true
  · rw [if_pos c]
    obtain ⟨q, hq, eq⟩ := List.any_eq_true.mp c
    have eq' : q.1 = p.1 := by simpa using eq
    have e : ((ks.map fun q => if q.1 = p.1 then (q.1, wt ts p.1 + p.2) else q).map (·.1)) = ks.map (·.1) := by
      rw [List.map_map]; congr 1; funext r; simp only [Function.comp]; split <;> rfl
    refine ⟨by rw [e]; exact h.nd, fun x => ?_, fun r hr => ?_, by rw [List.length_map, List.length_append]; have := h.len; simp; omega⟩
    · rw [e, h.iff, List.map_append]
      constructor
      · intro z; simp only [List.mem_append]; exact .inl z
      · intro z
        rcases List.mem_append.mp z with z | z
        · exact z
        · have : x = p.1 := by simpa using z
          rw [this, ← eq']; exact (h.iff _).mp (List.mem_map_of_mem hq)
    · obtain ⟨s, hs, rfl⟩ := List.mem_map.mp hr
      rw [hw]
      by_cases z : s.1 = p.1
      · simp only [if_pos z]; rw [if_pos z.symm, z]
      · simp only [if_neg z]; rw [if_neg (fun e => z e.symm), Int.add_zero]; exact h.val s hs
  · rw [if_neg c]
    have n : p.1 ∉ ks.map (·.1) := fun z => by
      obtain ⟨q, hq, e⟩ := List.mem_map.mp z
      exact c (List.any_eq_true.mpr ⟨q, hq, by simpa using e⟩)
    have n' : p.1 ∉ ts.map (·.1) := fun z => n ((h.iff _).mpr z)
    have w0 : wt ts p.1 = 0 := wt_none fun q hq e => n' (e ▸ List.mem_map_of_mem hq)
    refine ⟨?_, fun x => ?_, fun r hr => ?_, by have := h.len; simp; omega⟩
    · rw [List.map_append]
      refine List.nodup_append.mpr ⟨h.nd, by simp, fun x hx y hy e => n ?_⟩
      have hy' : y = p.1 := by simpa using hy
      rw [← hy', ← e]
      exact hx
    · simp only [List.map_append, List.mem_append, h.iff]; simp
    · rw [hw]
      rcases List.mem_append.mp hr with hr | hr
      · have : ¬ p.1 = r.1 := fun e => n (e ▸ List.mem_map_of_mem hr)
        rw [if_neg this, Int.add_zero]; exact h.val r hr
      · rw [List.mem_singleton.mp hr]; simp
/-! ### sizes -/
theorem nodup_len : ∀ {l xs : List Str}, l.Nodup → (∀ x ∈ l, x ∈ xs) → l.length ≤ xs.length
  | [], _, _, _ => Nat.zero_le _
  | x :: l, xs, n, h => by
    have hx := h x (by simp)
    have := nodup_len (l := l) (xs := xs.erase x) (List.nodup_cons.mp n).2 fun y hy => (List.mem_erase_of_ne (fun e => (List.nodup_cons.mp n).1 (by rw [← e]; exact hy))).mpr (h y (by simp [hy]))
    rw [List.length_erase_of_mem hx] at this
    have := List.length_pos_of_mem hx
    rw [List.length_cons]; omega
theorem Canon.nodup {ts : List Tm} (c : Canon ts) : (ts.map (·.1)).Nodup := c.asc.imp fun {a b} h (e : a = b) => by subst e; exact h.irr
theorem Canon.short {ts : List Tm} {xs : List Str} (c : Canon ts) (h : ∀ p ∈ ts, p.1 ∈ xs) : ts.length ≤ xs.length := by
  have := nodup_len c.nodup fun x hx => by
    obtain ⟨p, hp, rfl⟩ := List.mem_map.mp hx
    exact h p hp
  rwa [List.length_map] at this
end Fm
/-! ### the pot of a law, pairs in lowest terms -/
def Pot (P : List V) : Prop := ∃ (pos car cnt mix : Int) (sc : List Int), P = V.int pos :: V.int car :: V.int cnt :: V.int mix :: sc.map V.int ∧ 4 ≤ pos ∧ 0 ≤ car ∧ 0 ≤ mix ∧ mix < 2147483647 ∧ sc.length ≤ 63
def PotAt (a : Addr) (H : Hp) : Prop := ∃ P, H a = some (.lst P) ∧ Pot P
theorem pot_at {x0 x1 x2 x3 : V} {sc : List Int} {i : Int} (h : 4 ≤ i) (h2 : i < sc.length + 4) : atI (x0 :: x1 :: x2 :: x3 :: sc.map V.int) i = some (.int (sc.getD (i.toNat - 4) 0)) := by
  obtain ⟨n, rfl⟩ : ∃ n : Nat, i = ((n + 4 : Nat) : Int) := ⟨i.toNat - 4, by omega⟩
  refine atI_nat ?_
  have h3 : n < sc.length := by omega
  have e : ((n + 4 : Nat) : Int).toNat - 4 = n := by omega
  rw [e, List.getElem?_cons_succ, List.getElem?_cons_succ, List.getElem?_cons_succ, List.getElem?_cons_succ, List.getElem?_map, List.getElem?_eq_getElem h3, List.getD_eq_getElem?_getD, List.getElem?_eq_getElem h3]
  rfl
def spTake : Sp := fun vs H Q _ => ∃ (a : Addr) (n : Int), vs = [.ref a, .int n] ∧ PotAt a H ∧ 0 < n ∧ n < 2 ^ 200 ∧ ∀ (r : Int) (H' : Hp), 0 ≤ r → r < n → Keep [a] H H' → PotAt a H' → Q (.int r) H'
theorem PotAt.new {a p : Addr} {o : HO} {H : Hp} (h : PotAt a H) (n : H p = none) : PotAt a (upd H p o) := by
  obtain ⟨P, hP, hp⟩ := h
  exact ⟨P, by rw [upd_ne (ne_of_none hP n)]; exact hP, hp⟩
theorem PotAt.put {a p : Addr} {o : HO} {H : Hp} (h : PotAt a H) (n : p ≠ a) : PotAt a (upd H p o) := by
  obtain ⟨P, hP, hp⟩ := h
  exact ⟨P, by rw [upd_ne n.symm]; exact hP, hp⟩
theorem PotAt.ne {a p : Addr} {H : Hp} (h : PotAt a H) (n : H p = none) : p ≠ a := by
  obtain ⟨P, hP, _⟩ := h
  exact ne_free hP n
section
variable {Q : VK} {E : XK} {H : Hp}
theorem r_take {a : Addr} {n : Int} (hp : PotAt a H) (h0 : 0 < n) (h1 : n < 2 ^ 200) (k : ∀ (r : Int) (H' : Hp), 0 ≤ r → r < n → Keep [a] H H' → PotAt a H' → Q (.int r) H') : spTake [.ref a, .int n] H Q E := ⟨a, n, rfl, hp, h0, h1, k⟩
/-- a def of the pot that gives an int below m in size -/
def spPotInt (m : Nat) : Sp := fun vs H Q _ => ∃ a : Addr, vs = [.ref a] ∧ PotAt a H ∧ ∀ (r : Int) (H' : Hp), r.natAbs < m → Keep [a] H H' → PotAt a H' → Q (.int r) H'
def spPot (K : PySem.W.Frag) : Sp := fun vs H Q _ => ∃ (a : Addr) (ns : List Int), vs = [.ref a] ∧ SqL K H a (ns.map V.int) ∧ ns.length ≤ 63 ∧ ∀ (p : Addr) (H' : Hp), Keep [] H H' → H p = none → PotAt p H' → Q (.ref p) H'
/-- the divisor with the bottom's sign, and the pair in lowest terms -/
def dv (t b : Int) : Int := if b < 0 then -((Nat.gcd t.natAbs b.natAbs : Nat) : Int) else ((Nat.gcd t.natAbs b.natAbs : Nat) : Int)
def lowT (t b : Int) : Int := t.fdiv (dv t b)
def lowB (t b : Int) : Int := b.fdiv (dv t b)
def spLow : Sp := fun vs H Q _ => ∃ t b : Int, vs = [.int t, .int b] ∧ b ≠ 0 ∧ b.natAbs < 2 ^ 8000 ∧ ∀ (p : Addr) (H' : Hp), Keep [] H H' → H p = none → H' p = some (.tup [.int (lowT t b), .int (lowB t b)]) → Q (.ref p) H'
theorem r_low {t b : Int} (hb : b ≠ 0) (hz : b.natAbs < 2 ^ 8000) (k : ∀ (p : Addr) (H' : Hp), Keep [] H H' → H p = none → H' p = some (.tup [.int (lowT t b), .int (lowB t b)]) → Q (.ref p) H') : spLow [.int t, .int b] H Q E := ⟨t, b, rfl, hb, hz, k⟩
end
theorem gcd_pos {t b : Int} (h : b ≠ 0) : 0 < Nat.gcd t.natAbs b.natAbs := Nat.gcd_pos_of_pos_right _ (by omega)
theorem gcd_le {t b : Int} (h : b ≠ 0) : Nat.gcd t.natAbs b.natAbs ≤ b.natAbs := Nat.gcd_le_right _ (by omega)
theorem dv_ne {t b : Int} (h : b ≠ 0) : dv t b ≠ 0 := by
  have := gcd_pos (t := t) h
  unfold dv; split <;> omega
theorem dv_abs {t b : Int} : (dv t b).natAbs = Nat.gcd t.natAbs b.natAbs := by
  unfold dv; split <;> omega
theorem pow_mono {n : Nat} (a b : Nat) (h : n < 2 ^ a) (hab : a ≤ b := by decide) : n < 2 ^ b := Nat.lt_of_lt_of_le h (Nat.pow_le_pow_right (by decide) hab)
theorem lowT_one {x : Int} : lowT x 1 = x := by
  unfold lowT dv
  rw [if_neg (by decide), show (1 : Int).natAbs = 1 from rfl, Nat.gcd_one_right]
  exact Int.fdiv_one x
theorem lowB_one {x : Int} : lowB x 1 = 1 := by
  unfold lowB dv
  rw [if_neg (by decide), show (1 : Int).natAbs = 1 from rfl, Nat.gcd_one_right]
  rfl
theorem natAbs_fdiv_le {x g : Int} (hg : g ≠ 0) (hd : g ∣ x) : (x.fdiv g).natAbs ≤ x.natAbs := by
  obtain ⟨k, rfl⟩ := hd
  rw [Int.mul_fdiv_cancel_left _ hg, Int.natAbs_mul]
  exact Nat.le_mul_of_pos_left _ (by omega)
theorem dv_dvd_t {t b : Int} : dv t b ∣ t := by
  have h : ((Nat.gcd t.natAbs b.natAbs : Nat) : Int) ∣ t := Int.ofNat_dvd_left.mpr (Nat.gcd_dvd_left _ _)
  unfold dv; split
  · exact (Int.neg_dvd).mpr h
  · exact h
theorem dv_dvd_b {t b : Int} : dv t b ∣ b := by
  have h : ((Nat.gcd t.natAbs b.natAbs : Nat) : Int) ∣ b := Int.ofNat_dvd_left.mpr (Nat.gcd_dvd_right _ _)
  unfold dv; split
  · exact (Int.neg_dvd).mpr h
  · exact h
theorem lowT_le {t b : Int} (h : b ≠ 0) : (lowT t b).natAbs ≤ t.natAbs := natAbs_fdiv_le (dv_ne h) dv_dvd_t
theorem lowB_le {t b : Int} (h : b ≠ 0) : (lowB t b).natAbs ≤ b.natAbs := natAbs_fdiv_le (dv_ne h) dv_dvd_b
theorem sgn_abs {s x : Int} (h0 : 0 ≤ s) (h1 : s < 2) : ((1 - 2 * s) * x).natAbs = x.natAbs := by
  have h : s = 0 ∨ s = 1 := by omega
  rcases h with rfl | rfl <;> omega
section
variable {Q : VK} {E : XK} {H : Hp}
/-- two pairs, made one in lowest terms -/
def spTwo (f : Int → Int → Int → Int → Int × Int) : Sp := fun vs H Q _ => ∃ (p q : Addr) (a b c d : Int), vs = [.ref p, .ref q] ∧ H p = some (.tup [.int a, .int b]) ∧ H q = some (.tup [.int c, .int d]) ∧ b ≠ 0 ∧ d ≠ 0 ∧ a.natAbs < 2 ^ 9000 ∧ b.natAbs < 2 ^ 3000 ∧ c.natAbs < 2 ^ 9000 ∧ d.natAbs < 2 ^ 3000 ∧
  ∀ (r : Addr) (H' : Hp), Keep [] H H' → H r = none → H' r = some (.tup [.int (lowT (f a b c d).1 (f a b c d).2), .int (lowB (f a b c d).1 (f a b c d).2)]) → Q (.ref r) H'
def fPlus (a b c d : Int) : Int × Int := (a * d + c * b, b * d)
def fTimes (a b c d : Int) : Int × Int := (a * c, b * d)
theorem r_two {f : Int → Int → Int → Int → Int × Int} {p q : Addr} {a b c d : Int} (hp : H p = some (.tup [.int a, .int b])) (hq : H q = some (.tup [.int c, .int d])) (hb : b ≠ 0) (hd : d ≠ 0) (za : a.natAbs < 2 ^ 9000) (zb : b.natAbs < 2 ^ 3000) (zc : c.natAbs < 2 ^ 9000) (zd : d.natAbs < 2 ^ 3000)
  (k : ∀ (r : Addr) (H' : Hp), Keep [] H H' → H r = none → H' r = some (.tup [.int (lowT (f a b c d).1 (f a b c d).2), .int (lowB (f a b c d).1 (f a b c d).2)]) → Q (.ref r) H') : spTwo f [.ref p, .ref q] H Q E := ⟨p, q, a, b, c, d, rfl, hp, hq, hb, hd, za, zb, zc, zd, k⟩
def spWhole : Sp := fun vs H Q _ => ∃ i : Int, vs = [.int i] ∧ Q (.bl true) H
theorem r_whole {i : Int} (k : Q (.bl true) H) : spWhole [.int i] H Q E := ⟨i, rfl, k⟩
def spPairIs : Sp := fun vs H Q _ => ∃ (p q : Addr) (a b : Int), vs = [.ref p, .ref q] ∧ H p = some (.tup [.int a, .int b]) ∧ H q = some (.tup [.int a, .int b]) ∧ Q (.bl true) H
theorem r_pairIs {p q : Addr} {a b : Int} (hp : H p = some (.tup [.int a, .int b])) (hq : H q = some (.tup [.int a, .int b])) (k : Q (.bl true) H) : spPairIs [.ref p, .ref q] H Q E := ⟨p, q, a, b, rfl, hp, hq, k⟩
/-- the law's pair in lowest terms: a bottom above 0 -/
def spLow0 : Sp := fun vs H Q _ => ∃ t b : Int, vs = [.int t, .int b] ∧ 0 < b ∧ b.natAbs < 2 ^ 8000 ∧ ∀ (p : Addr) (H' : Hp), Keep [] H H' → H p = none → H' p = some (.tup [.int (lowT t b), .int (lowB t b)]) → Q (.ref p) H'
theorem r_low0 {t b : Int} (hb : 0 < b) (hz : b.natAbs < 2 ^ 8000) (k : ∀ (p : Addr) (H' : Hp), Keep [] H H' → H p = none → H' p = some (.tup [.int (lowT t b), .int (lowB t b)]) → Q (.ref p) H') : spLow0 [.int t, .int b] H Q E := ⟨t, b, rfl, hb, hz, k⟩
end
theorem low_mul {t b : Int} : lowT t b * dv t b = t ∧ lowB t b * dv t b = b := ⟨Int.fdiv_mul_cancel dv_dvd_t, Int.fdiv_mul_cancel dv_dvd_b⟩
theorem lowB_pos {t b : Int} (h : 0 < b) : 0 < lowB t b := by
  have e := (low_mul (t := t) (b := b)).2
  have g : 0 < dv t b := by
    have := gcd_pos (t := t) (show b ≠ 0 by omega)
    unfold dv; rw [if_neg (by omega)]; omega
  have : 0 < lowB t b * dv t b := by rw [e]; exact h
  exact Int.pos_of_mul_pos_left this g
theorem low_cross {t b : Int} : lowT t b * b = t * lowB t b := by
  have e := low_mul (t := t) (b := b)
  calc lowT t b * b = lowT t b * (lowB t b * dv t b) := by rw [e.2]
    _ = (lowT t b * dv t b) * lowB t b := by ac_rfl
    _ = t * lowB t b := by rw [e.1]
/-- equal ratios have one pair in lowest terms -/
theorem low_eq {t b t' b' : Int} (hb : 0 < b) (hb' : 0 < b') (h : t * b' = t' * b) : lowT t b = lowT t' b' ∧ lowB t b = lowB t' b' := by
  have cop : ∀ {t b : Int}, 0 < b → Nat.gcd (lowT t b).natAbs (lowB t b).natAbs = 1 := by
    intro t b hb
    have g := gcd_pos (t := t) (show b ≠ 0 by omega)
    have e := low_mul (t := t) (b := b)
    have z : Nat.gcd t.natAbs b.natAbs = Nat.gcd (lowT t b).natAbs (lowB t b).natAbs * Nat.gcd t.natAbs b.natAbs := by
      have a := dv_abs (t := t) (b := b)
      have et : t.natAbs = (lowT t b).natAbs * Nat.gcd t.natAbs b.natAbs := by rw [← a, ← Int.natAbs_mul, e.1]
      have eb : b.natAbs = (lowB t b).natAbs * Nat.gcd t.natAbs b.natAbs := by rw [← a, ← Int.natAbs_mul, e.2]
      calc Nat.gcd t.natAbs b.natAbs = Nat.gcd ((lowT t b).natAbs * Nat.gcd t.natAbs b.natAbs) ((lowB t b).natAbs * Nat.gcd t.natAbs b.natAbs) := by rw [← et, ← eb]
        _ = _ := Nat.gcd_mul_right _ _ _
    have : 1 * Nat.gcd t.natAbs b.natAbs = Nat.gcd (lowT t b).natAbs (lowB t b).natAbs * Nat.gcd t.natAbs b.natAbs := by rw [Nat.one_mul]; exact z
    exact (Nat.eq_of_mul_eq_mul_right g this).symm
  have p := lowB_pos (t := t) hb
  have p' := lowB_pos (t := t') hb'
  have x : lowT t b * lowB t' b' = lowT t' b' * lowB t b := by
    have c := low_cross (t := t) (b := b)
    have c' := low_cross (t := t') (b := b')
    have : lowT t b * lowB t' b' * (b * b') = lowT t' b' * lowB t b * (b * b') := by
      calc lowT t b * lowB t' b' * (b * b') = (lowT t b * b) * (lowB t' b' * b') := by ac_rfl
        _ = (t * lowB t b) * (lowB t' b' * b') := by rw [c]
        _ = (t * b') * (lowB t b * lowB t' b') := by ac_rfl
        _ = (t' * b) * (lowB t b * lowB t' b') := by rw [h]
        _ = (t' * lowB t' b') * (lowB t b * b) := by ac_rfl
        _ = (lowT t' b' * b') * (lowB t b * b) := by rw [c']
        _ = lowT t' b' * lowB t b * (b * b') := by ac_rfl
    exact Int.eq_of_mul_eq_mul_right (by have := Int.mul_pos hb hb'; omega) this
  have d1 : (lowB t b).natAbs ∣ (lowB t' b').natAbs := by
    refine Nat.Coprime.dvd_of_dvd_mul_left (k := (lowB t b).natAbs) (m := (lowT t b).natAbs) (Nat.Coprime.symm (cop hb)) ?_
    rw [← Int.natAbs_mul, x, Int.natAbs_mul]; exact Nat.dvd_mul_left _ _
  have d2 : (lowB t' b').natAbs ∣ (lowB t b).natAbs := by
    refine Nat.Coprime.dvd_of_dvd_mul_left (k := (lowB t' b').natAbs) (m := (lowT t' b').natAbs) (Nat.Coprime.symm (cop hb')) ?_
    rw [← Int.natAbs_mul, ← x, Int.natAbs_mul]; exact Nat.dvd_mul_left _ _
  have e := Nat.dvd_antisymm d1 d2
  have e' : lowB t b = lowB t' b' := by omega
  refine ⟨?_, e'⟩
  rw [e'] at x
  exact Int.eq_of_mul_eq_mul_right (by omega) x
/-! ### readings of texts, dicts, tuples as targets -/
def rInSg : R2 := fun x y H Q => ∃ (c : Nat) (z : Str), x = .str ⟨#[c]⟩ ∧ y = .str z ∧ Q (.bl (decide (c ∈ z.cps.toList))) H
def rNinSg : R2 := fun x y H Q => ∃ (c : Nat) (z : Str), x = .str ⟨#[c]⟩ ∧ y = .str z ∧ Q (.bl (!decide (c ∈ z.cps.toList))) H
def rAddS : R2 := fun x y H Q => ∃ i j, x = .str i ∧ y = .str j ∧ i.length + j.length ≤ sizeLine ∧ Q (.str (i ++ j)) H
theorem op_addS {X : Cx} : OpR X (binaryOp .Add) rAddS := op_add_str
section
variable {K : PySem.W.Frag} {σ : L2.St} {H : Hp} {Q : VK} {QB : Bool → Hp → Prop} {D : Ends} {ta tb td ty tv te : TE} {v x y : V} {i j z : Str} {n : Int} {c : Nat} {p : Addr}
theorem r_addS (h : i.length + j.length ≤ sizeLine) (k : Q (.str (i ++ j)) H) : rAddS (.str i) (.str j) H Q := ⟨i, j, rfl, rfl, h, k⟩
/-- dicts with texts as keys -/
def rDGet : V → V → Hp → VK → Prop := fun x y H Q => ∃ a v, x = .ref a ∧ DGet H a y (some v) ∧ Q v H
def rDGet2 : V → V → V → Hp → VK → Prop := fun x y z H Q => ∃ a o, x = .ref a ∧ DGet H a y o ∧ Q (o.getD z) H
def rDPut : V → V → V → Hp → (Hp → Prop) → Prop := fun x y v H Q => ∃ a H4, x = .ref a ∧ DPut H a y v H4 ∧ Q H4
def rDInB (f : Bool → Bool) : V → V → Hp → VK → Prop := fun y x H Q => ∃ a o, x = .ref a ∧ DGet H a y o ∧ Q (.bl (f o.isSome)) H
theorem r_isD {kvs : List (Key × V)} {R : Addr → Prop} (h : H p = some (.dK kvs)) (k : R p) : ∃ a, V.ref p = .ref a ∧ IsD H a ∧ R a := ⟨p, rfl, .inl ⟨kvs, .inl h⟩, k⟩
theorem r_gTup2 {i j : Nat} {Q : L2.St → Hp → Prop} (h : SqT K H p [x, y]) (k : Q ((σ.set i (some x)).set j (some y)) H) : gTup K 2 (gCons (gName i) (gCons (gName j) gNil)) (.ref p) σ H Q := ⟨p, [x, y], rfl, h, rfl, x, [y], rfl, y, [], rfl, rfl, k⟩
theorem r_strI {i : Int} {F : Int → Prop} (h : i.natAbs.log2 < 1920) (k : F i) : ∃ j, [V.int i] = [.int j] ∧ j.natAbs.log2 < 1920 ∧ F j := ⟨i, rfl, h, k⟩
theorem r_strS {i : Str} {F : Str → Prop} (k : F i) : ∃ j, [V.str i] = [.str j] ∧ F j := ⟨i, rfl, k⟩
theorem r_js {t : TE} {ts : List TE} {acc : Str} {Q : Str → Hp → Prop} (k : t σ H fun x H1 => ∃ y : Str, x = .str y ∧ (acc ++ y).length ≤ sizeLine ∧ tJs ts (acc ++ y) σ H1 Q) : tJs (t :: ts) acc σ H Q := k
theorem r_js0 {acc : Str} {Q : Str → Hp → Prop} (k : Q acc H) : tJs [] acc σ H Q := k
theorem r_jsS {y : Str} {A B : Str → Prop} (h : A y) (k : B y) : ∃ z, V.str y = .str z ∧ A z ∧ B z := ⟨y, rfl, h, k⟩
theorem r_fmt (k : te σ H fun x H1 => (∃ y : Str, x = .str y ∧ y.length ≤ sizeLine ∧ Q (.str y) H1) ∨ ∃ i : Int, x = .int i ∧ i.natAbs.log2 < 1920 ∧ Q (.str (toString i)) H1) : tFmt te σ H Q := k
end
/-! ### comprehensions over a text -/
section
variable {K : PySem.W.Frag} {σ : L2.St} {H : Hp} {Q : VK} {te tl : TE} {tt : TT} {G : TG} {vs : List Nat}
def CompS (G : TG) (tt : TT) (te : TE) (vs : List Nat) (σ : L2.St) (Q : VK) (x : V) (H1 : Hp) : Prop := ∃ z, x = .str z ∧ CompW (Its z) G tt te vs σ Q H1
end
namespace Wr
open PySem PySem.Spec PyProof.Rows L2
/-! ### forms written -/
theorem app_assoc (x y z : Str) : x ++ y ++ z = x ++ (y ++ z) := by
  show (⟨x.cps ++ y.cps ++ z.cps⟩ : Str) = ⟨x.cps ++ (y.cps ++ z.cps)⟩
  rw [Array.append_assoc]
theorem emp_app (x : Str) : Str.empty ++ x = x := by
  show (⟨#[] ++ x.cps⟩ : Str) = x
  rw [Array.empty_append]
theorem len_app (x y : Str) : (x ++ y).length = x.length + y.length := Array.size_append
theorem ne_emp {x : Str} (h : 0 < x.length) : x ≠ Str.empty := by rintro rfl; cases h
def num (i : Int) : Str := Str.ofString (toString i)
theorem of_app (s t : String) : Str.ofString (s ++ t) = Str.ofString s ++ Str.ofString t := by
  rw [Str.ofString_eq_toList, Str.ofString_eq_toList, Str.ofString_eq_toList]
  show _ = (⟨(s.toList.map Char.toNat).toArray ++ (t.toList.map Char.toNat).toArray⟩ : Str)
  rw [String.toList_append, List.map_append, List.append_toArray]
theorem num_neg {i : Int} (h : i < 0) : num i = Str.ofString "-" ++ num (i.natAbs : Int) := by
  unfold num
  rw [PyProof.Rows.toString_neg h, of_app, show (0 - i) = ((i.natAbs : Nat) : Int) by omega]
theorem num_len {i : Int} {k : Nat} (hk : 0 < k) (h : i.natAbs.log2 < k) : (num i).length ≤ k + 5 := by
  have e := int_text_length_le (k := k) hk h
  unfold num
  rw [PySem.ofString_length]; omega
def sp : Str := Str.ofString " "
def sg (w : Int) : Str := if w < 0 then Str.ofString "-" else Str.ofString "+"
/-- one term -/
def part (w : Int) (x : Str) : Str := if (w.natAbs : Int) = 1 then x else num (w.natAbs : Int) ++ sp ++ x
abbrev Pt := Int × Str
/-- the parts of a form -/
def pts (ts : List Fm.Tm) (c : Int) : List Pt := (ts.map fun p => (p.2, part p.2 p.1)) ++ (if c ≠ 0 ∨ ts = [] then [(c, num (c.natAbs : Int))] else [])
def tailW (ps : List Pt) : List Str := ps.flatMap fun p => [sg p.1, p.2]
def first (p : Pt) : Str := if p.1 < 0 then Str.ofString "-" ++ p.2 else p.2
def words : List Pt → List Str
  | [] => []
  | p :: r => first p :: tailW r
/-- as the program writes it -/
def prog (ts : List Fm.Tm) (c : Int) : Str := Str.join sp (words (pts ts c))
/-- as the law writes it -/
def step (line : Str) (p : Fm.Tm) : Str := (if line ≠ Str.empty then line ++ sp ++ sg p.2 ++ sp else if p.2 < 0 then Str.ofString "-" else line) ++ part p.2 p.1
def due (ts : List Fm.Tm) (c : Int) : Str := if ts = [] then num c else
  if 0 < c then ts.foldl step Str.empty ++ Str.ofString " + " ++ num c else if c < 0 then ts.foldl step Str.empty ++ Str.ofString " - " ++ num (-c) else ts.foldl step Str.empty
theorem join_snoc (s : Str) (t : Str) : ∀ (y : Str) (ws : List Str), Str.join s (y :: (ws ++ [t])) = Str.join s (y :: ws) ++ s ++ t
  | y, [] => rfl
  | y, z :: ws => by
    show y ++ s ++ Str.join s (z :: (ws ++ [t])) = (y ++ s ++ Str.join s (z :: ws)) ++ s ++ t
    rw [join_snoc s t z ws, ← app_assoc, ← app_assoc]
theorem part_pos {w : Int} {x : Str} (h : 0 < x.length) : 0 < (part w x).length := by
  unfold part; split
  · exact h
  · rw [len_app]; omega
theorem fold_step : ∀ (r : List Fm.Tm) (y : Str) (ws : List Str), 0 < (Str.join sp (y :: ws)).length → (∀ p ∈ r, 0 < p.1.length) →
    r.foldl step (Str.join sp (y :: ws)) = Str.join sp (y :: (ws ++ tailW (r.map fun p => (p.2, part p.2 p.1)))) ∧ 0 < (r.foldl step (Str.join sp (y :: ws))).length
  | [], y, ws, h, _ => ⟨by simp [tailW], h⟩
  | p :: r, y, ws, h, hn => by
    have e : step (Str.join sp (y :: ws)) p = Str.join sp (y :: (ws ++ [sg p.2, part p.2 p.1])) := by
      unfold step
      rw [if_pos (ne_emp h), show ws ++ [sg p.2, part p.2 p.1] = (ws ++ [sg p.2]) ++ [part p.2 p.1] by simp, join_snoc, join_snoc]
    have h2 : 0 < (Str.join sp (y :: (ws ++ [sg p.2, part p.2 p.1]))).length := by
      rw [← e]; unfold step; rw [len_app]; have := part_pos (w := p.2) (hn p (by simp)); omega
    have ih := fold_step r y (ws ++ [sg p.2, part p.2 p.1]) h2 fun q hq => hn q (by simp [hq])
    rw [List.foldl_cons, e]
    refine ⟨?_, ih.2⟩
    rw [ih.1]
    congr 2
    simp [tailW]
/-- both write the same -/
theorem same {ts : List Fm.Tm} {c : Int} (hn : ∀ p ∈ ts, 0 < p.1.length) : prog ts c = due ts c := by
  unfold prog due pts
  cases ts with
  | nil =>
    rw [if_pos rfl]
    simp only [List.map_nil, List.nil_append, or_true, if_true, words, tailW, List.flatMap_nil]
    show first (c, num (c.natAbs : Int)) = _
    unfold first
    split
    · next h => exact (num_neg h).symm
    · next h => show num (c.natAbs : Int) = _; rw [show ((c.natAbs : Nat) : Int) = c by have h' : ¬ c < 0 := h; omega]
  | cons p r =>
    rw [if_neg (show ¬ (p :: r = []) by simp)]
    have s0 : step Str.empty p = first (p.2, part p.2 p.1) := by
      unfold step first
      rw [if_neg (by simp)]
      split
      · rfl
      · exact emp_app _
    have h1 : 0 < (Str.join sp [first (p.2, part p.2 p.1)]).length := by
      show 0 < (first (p.2, part p.2 p.1)).length
      have := part_pos (w := p.2) (hn p (by simp))
      unfold first; split
      · rw [len_app]; dsimp only; omega
      · exact this
    have f := fold_step r (first (p.2, part p.2 p.1)) [] h1 fun q hq => hn q (by simp [hq])
    have f1 : (p :: r).foldl step Str.empty = Str.join sp (first (p.2, part p.2 p.1) :: tailW (r.map fun p => (p.2, part p.2 p.1))) := by
      rw [List.foldl_cons, s0]; exact f.1
    rw [f1]
    have wc : ∀ t : Pt, words (((p :: r).map fun p => (p.2, part p.2 p.1)) ++ [t]) = first (p.2, part p.2 p.1) :: (tailW (r.map fun p => (p.2, part p.2 p.1)) ++ [sg t.1] ++ [t.2]) := fun t => by
      simp [words, tailW]
    by_cases h : c = 0
    · subst h
      rw [if_neg (by simp), if_neg (by decide), if_neg (by decide), List.append_nil]; rfl
    · rw [if_pos (.inl h), wc, join_snoc, join_snoc]
      dsimp only
      by_cases h0 : 0 < c
      · rw [if_pos h0]
        unfold sg
        rw [if_neg (by omega), show ((c.natAbs : Nat) : Int) = c by omega, show Str.ofString " + " = sp ++ (Str.ofString "+" ++ sp) by decide +kernel]
        simp only [app_assoc]
      · rw [if_neg h0, if_pos (by omega)]
        unfold sg
        rw [if_pos (by omega), show ((c.natAbs : Nat) : Int) = -c by omega, show Str.ofString " - " = sp ++ (Str.ofString "-" ++ sp) by decide +kernel]
        simp only [app_assoc]
end Wr
/-! ### a row of objects, each told by its item -/
section
variable {α : Type} {f : α → HO} {H H' : Hp}
def AllAt (f : α → HO) (H : Hp) : List Addr → List α → Prop
  | [], [] => True
  | a :: as, x :: xs => H a = some (f x) ∧ AllAt f H as xs
  | _, _ => False
theorem AllAt.len : ∀ {as : List Addr} {xs : List α}, AllAt f H as xs → as.length = xs.length
  | [], [], _ => rfl
  | _ :: _, _ :: _, h => congrArg Nat.succ (AllAt.len h.2)
  | [], _ :: _, h => h.elim
  | _ :: _, [], h => h.elim
theorem AllAt.get : ∀ {as : List Addr} {xs : List α} {i : Nat} {a : Addr}, AllAt f H as xs → as[i]? = some a → ∃ x, xs[i]? = some x ∧ H a = some (f x)
  | [], _, _, _, _, e => by simp at e
  | _ :: _, [], _, _, h, _ => h.elim
  | b :: as, p :: ts, 0, a, h, e => by
    have : b = a := by simpa using e
    subst this; exact ⟨p, rfl, h.1⟩
  | b :: as, p :: ts, i + 1, a, h, e => by
    obtain ⟨q, h1, h2⟩ := AllAt.get (i := i) h.2 (by simpa using e)
    exact ⟨q, by simpa using h1, h2⟩
theorem AllAt.mono : ∀ {as : List Addr} {xs : List α}, AllAt f H as xs → (∀ a x, a ∈ as → x ∈ xs → H a = some (f x) → H' a = some (f x)) → AllAt f H' as xs
  | [], [], _, _ => trivial
  | a :: as, p :: ts, h, k => ⟨k a p (by simp) (by simp) h.1, h.2.mono fun b q hb hq => k b q (by simp [hb]) (by simp [hq])⟩
  | [], _ :: _, h, _ => h.elim
  | _ :: _, [], h, _ => h.elim
theorem AllAt.app : ∀ {as bs : List Addr} {xs ys : List α}, AllAt f H as xs → AllAt f H bs ys → AllAt f H (as ++ bs) (xs ++ ys)
  | [], _, [], _, _, k => k
  | _ :: _, _, _ :: _, _, h, k => ⟨h.1, h.2.app k⟩
  | [], _, _ :: _, _, h, _ => h.elim
  | _ :: _, _, [], _, h, _ => h.elim
/-- kept where the changed addresses hold other things -/
theorem AllAt.keep {M : List Addr} {as : List Addr} {xs : List α} (h : AllAt f H as xs) (k : Keep M H H') (n : ∀ m ∈ M, ∀ x, H m ≠ some (f x)) : AllAt f H' as xs := h.mono fun a p _ _ e => k a _ (fun hm => n a hm p e) e
end
/-! ### loops and comprehensions over zip of two lists, dict comprehensions over the items of a dict -/
section
variable {K : PySem.W.Frag} {σ : L2.St} {H : Hp} {Q : VK} {te tk tv : TE} {tt : TT} {G : TG} {tas : TA} {vs : List Nat} {ts : TS} {D : Ends}
def ForW (J : It) (G : TG) (ts : TS) (D : Ends) (σ : L2.St) (H : Hp) : Prop := ∃ W : Nat → Nat → L2.St → Hp → Prop, (∃ m, W 0 m σ H) ∧ ∀ i m σ H, W i m σ H →
  (J.stop i H ∧ D.nx σ H) ∨ (J.go i H ∧ ∃ N : L2.St → Hp → Prop, (∀ σ' H', N σ' H' → ∃ m', m' < m ∧ W (i + 1) m' σ' H') ∧ ∀ x H', J.yld i H x H' → G x σ H' fun σ2 H2 => ts { D with nx := N, ct := N, bk := D.nx } σ2 H2)
def ForZ (K : PySem.W.Frag) (G : TG) (ts : TS) (D : Ends) (σ : L2.St) (us : List V) (H : Hp) : Prop := ∃ a b xs ys, us = [.ref a, .ref b] ∧ SqL K H a xs ∧ SqL K H b ys ∧ ForW (Itz K a b) G ts D σ H
def CompZ (K : PySem.W.Frag) (G : TG) (tt : TT) (te : TE) (vs : List Nat) (σ : L2.St) (Q : VK) (us : List V) (H1 : Hp) : Prop := ∃ a b xs ys, us = [.ref a, .ref b] ∧ SqL K H1 a xs ∧ SqL K H1 b ys ∧ CompW (Itz K a b) G tt te vs σ Q H1
theorem r_any {a : Addr} {bs : List Bool} (h : SqL K H a (bs.map V.bl)) (k : Q (.bl (bs.any id)) H) : rAny K [V.ref a] H Q := ⟨a, bs, rfl, h, k⟩
end
/-! ### == and != of two dicts whose values are the same things -/
def SameV (v : V) : Prop := flatB v = true ∨ ∃ a, v = .ref a
def SameD (x y : V) (H : Hp) : Prop := ∃ a b ks ls, x = .ref a ∧ y = .ref b ∧ H a = some (.dK ks) ∧ H b = some (.dK ls) ∧ ks.length = ls.length ∧ (∀ p ∈ ks, valV ls p.1 = some p.2 ∧ SameV p.2)
def rEqSame : R2 := fun x y H Q => SameD x y H ∧ Q (.bl true) H
def rNeSame : R2 := fun x y H Q => SameD x y H ∧ Q (.bl false) H
namespace Dt
/-! ### dicts with tuples as keys: walked by values and by items -/
abbrev Tb := List (List Key × V)
/-- a locked dict, its entries as they are stored -/
theorem raw {X : Cx} {pins : List (Addr × Obj)} {σ : L2.St} {H : Hp} {s : Shared} {d : Addr} {o : Obj} {kvs : Tb} (I : Inv X pins σ H s) (h : H d = some (.frz o (.dT kvs))) :
    (d == sysModules) = false ∧ ∃ (es : Array DictEntry) (ep : Nat), o.data = .dict es ep ∧ es.size = kvs.length ∧ s.heap.DictRaw d es ep ∧
      ∀ (i : Nat) (hi : i < es.size), ∃ (k : List Key) (v : V) (q : Addr), kvs[i]? = some (k, v) ∧ es[i].key = .ref q ∧ H q = some (.tup (k.map kV)) ∧ RelV v es[i].val := by
  obtain ⟨stands, _, apart, cells, pairs, o2, es, ep, stands2, exact, data, list, _⟩ := I.hok d _ h
  obtain rfl : o2 = o := Option.some.inj (stands2.symm.trans stands)
  have len : es.size = cells.length := size_of_entries list
  have len2 : kvs.length = cells.length := Paired.length pairs
  refine ⟨apart, es, ep, data, by omega, ⟨_, stands, exact, data⟩, fun i hi => ?_⟩
  have more : i < kvs.length := by omega
  obtain ⟨c, at1, e1, e2, e3⟩ := L2.paired_get pairs (List.getElem?_eq_getElem more)
  have entry := entry_at list i
  rw [at1, Array.getElem?_eq_getElem hi] at entry
  have entry' : es[i] = entryOfKey (tupleKind (mixKind X.prog X.w)) c := Option.some.inj entry
  refine ⟨kvs[i].1, kvs[i].2, c.2.1, List.getElem?_eq_getElem more, by rw [entry']; rfl, e2, by rw [entry']; exact e3⟩
/-- the values, one by one -/
def Vals (d : Addr) (o : Obj) (kvs : Tb) : It :=
  ⟨fun i H => H d = some (.frz o (.dT kvs)) ∧ i < kvs.length, fun i H x H' => H' = H ∧ ∃ k, kvs[i]? = some (k, x), fun i H => H d = some (.frz o (.dT kvs)) ∧ kvs.length ≤ i⟩
/-- the pairs: the key's own tuple and the value, in a new tuple -/
def Items (d : Addr) (o : Obj) (kvs : Tb) : It :=
  ⟨fun i H => H d = some (.frz o (.dT kvs)) ∧ i < kvs.length, fun i H x H' => ∃ (T q : Addr) (k : List Key) (v : V), kvs[i]? = some (k, v) ∧ H q = some (.tup (k.map kV)) ∧ x = .ref T ∧ H T = none ∧ H' = upd H T (.tup [.ref q, v]), fun i H => H d = some (.frz o (.dT kvs)) ∧ kvs.length ≤ i⟩
section
variable {P : Program} {w : World} {K : PySem.W.Frag} {d : Addr} {o : Obj} {es : Array DictEntry} {ep : Nat} {kvs : Tb}
end
/-! ### d.values() and d.items() of a locked dict, in a loop's head -/
def iValsT (td : TE) : TI := fun σ H R => td σ H fun x H1 => ∃ d o kvs, x = .ref d ∧ H1 d = some (.frz o (.dT kvs)) ∧ R (Vals d o kvs) H1
def iItemsT (td : TE) : TI := fun σ H R => td σ H fun x H1 => ∃ d o kvs, x = .ref d ∧ H1 d = some (.frz o (.dT kvs)) ∧ R (Items d o kvs) H1
section
variable {X : Cx} {tg e : Expr} {td : TE} {apos cpos : Pos}
end
/-! ### a dict comprehension whose keys are tuples -/
section
variable {X : Cx}
/-- {k: v for target in iter if ..}, the keys tuples: D the new dict -/
def tDcT (wi : TI) (g : TG) (tt : TT) (tk tv : TE) (vs : List Nat) : TE := fun σ H Q => wi σ H fun J H1 => ∀ D, H1 D = none → ∃ W : Nat → Nat → Hp → Prop, (∃ m, W 0 m (upd H1 D (.dT []))) ∧ ∀ i m H, W i m H →
  (J.stop i H ∧ Q (.ref D) H) ∨ (J.go i H ∧ ∃ Nx : Hp → Prop, (∀ H', Nx H' → ∃ m', m' < m ∧ W (i + 1) m' H') ∧ ∀ x H', J.yld i H x H' → g x (wipe σ vs) H' fun σ2 H2 => wipe σ2 vs = wipe σ vs ∧ tt σ2 H2 fun b H3 =>
    if b = true then tk σ2 H3 fun y H4 => tv σ2 H4 fun z H5 => ∃ (kvs : Tb) (k : List Key) (q : Addr), y = .ref q ∧ H5 q = some (.tup (k.map kV)) ∧ H5 D = some (.dT kvs) ∧ kvs.length < sizeLine ∧ Nx (upd H5 D (.dT (putK kvs k z))) else Nx H3)
end
/-! ### d.setdefault(q, v), the keys tuples -/
def tSetdT (td ty tx : TE) : TE := fun σ H Q => td σ H fun x H1 => ∃ a, x = .ref a ∧ IsD H1 a ∧ ty σ H1 fun y H2 => tx σ H2 fun z H3 => ∃ (kvs : Tb) (k : List Key) (q : Addr), H3 a = some (.dT kvs) ∧ y = .ref q ∧ H3 q = some (.tup (k.map kV)) ∧ kvs.length < sizeLine ∧
  (∀ v, valV kvs k = some v → Q v H3) ∧ (valV kvs k = none → Q z (upd H3 a (.dT (putK kvs k z))))
/-! ### small rules -/
theorem pa_starK {X : Cx} {K : PySem.W.Frag} {e : Expr} {es : List Expr} {te : TE} {t : TA} {p : Pos} (hK : X.K = K) (he : PE X e te) (hr : PA X es t) (hs : starEach (.Starred e p :: es) X.env = (true, eval e X.env) :: starEach es X.env := by rfl) : PA X (.Starred e p :: es) (tStar K te t) := by
  subst hK; exact pa_star he hr hs
/-- o.m(e, ..) in a try: what is raised is wished for at the caller's slots -/
def tMethSD (C : Addr) (m : Str) (sp : Sp) (dvs : List V) (E : L2.St → XK) (ta : TE) (t : TA) : TE := fun σ H Q => ta σ H fun x H1 => ∃ a dx fs, x = .ref a ∧ H1 a = some (.ins C dx fs) ∧ fs.lookup m = none ∧ t σ H1 fun vs H2 => sp (x :: vs ++ dvs) H2 Q (E σ)
theorem pe_methSD {X : Cx} {CX : CXT} {C f : Addr} {fd : FuncData} {k : Nat} {sp : Sp} {ps : List Str} {ds : List Value} {dvs : List V} {E : L2.St → XK} {m : Str} {o e : Expr} {es : List Expr} {ta : TE} {t : TA} {pos apos : Pos} {pl : Sem Bool} (he : PE X o ta) (c : Cls X.K C) (hm : Meth X.K C m f) (F : FnOk X.prog X.w X.K X.mg X.base CX k f fd ps sp) (hr : Room k X.A)
    (hb : Binds X.K fd ps ds) (hd : L2.Vals dvs ds) (hx : ∀ σ, PassesAt CX X σ (E σ)) (ha : PA X (e :: es) t) (hst : starEach (e :: es) X.env = (false, eval e X.env) :: starEach es X.env := by rfl) (hpl : (backTo pos (starEach es X.env)).any (·.1) = false := by rfl)
    (ht : eval (.Call (.Attribute o m apos) (e :: es) [] pos) X.env = (do
      let ov ← eval o X.env
      standAt apos.atName
      let (g, first) ← holding [ov] (getMethod ov m pl)
      callWith pos g first (backTo pos (starEach (e :: es) X.env)) (backToKw pos (keywordEach [] X.env))) := by rfl) :
    PE X (.Call (.Attribute o m apos) (e :: es) [] pos) (tMethSD C m sp dvs E ta t) := by
  refine ⟨fun pins s σ H Q I h => PySem.W.methodCall_KW (pl := pl) (thn (he.run pins s σ H _ I h) fun u s1 got => ?_) ht⟩
  obtain ⟨_, H1, I1, rx, a, dx, fs, rfl, ea, l, q⟩ := got
  obtain rfl : u = Value.ref a := rx
  refine getmeth_ok I1 ea c hm l (PySem.W.callWith_K (first := [.ref a]) (h₀ := X.base) I.ok.mod.kin hm.kp (thn (ha.run pos pins s1 σ H1 _ I1 q) fun us s2 got2 => ?_) hst hpl)
  obtain ⟨vs, H2, I2, r, q2⟩ := got2
  exact ⟨I2.kIn, run_fnSD (us := .ref a :: us) (vs := .ref a :: vs) F hr hb hd (hx σ) I2 (.cons rfl r) q2⟩
end Dt
/-- a tuple of the written part -/
def SqTK (K : PySem.W.Frag) (a : Addr) (xs : List V) : Prop := ∃ (o : Obj) (its : Array Value) (n : Nat), K.lookup a = some o ∧ o.cls = .type "tuple" ∧ o.data = .seq its n ∧ its.size ≤ sizeLine ∧ L2.Vals xs its.toList
theorem SqTK.at {K : PySem.W.Frag} {a : Addr} {xs : List V} {H : Hp} (h : SqTK K a xs) : SqT K H a xs := .inr h
/-! ### loops over dicts with tuples as keys, and their copies -/
section
variable {d : Addr} {o : Obj} {kvs : Dt.Tb}
end
section
variable {K : PySem.W.Frag} {σ : L2.St} {H : Hp} {Q : VK} {te tk tv td : TE} {tt : TT} {G : TG} {vs : List Nat} {ts : TS} {D : L2.Ends} {d : Addr} {kvs : Dt.Tb}
end
namespace Dt
open PySem PySem.Spec PyProof.Rows PyProof.V L2 StX
/-! ### == of two dicts with the same keys, tuples, in the same order, and the same values -/
section
variable {prog : Program} {w : World} {Ky : Type} [DecidableEq Ky] {knd : HeapKind prog w Ky} {A : Around} {E : Value → Shared → Prop} {s : Shared}
end
def rEqSameT : R2 := fun x y H Q => ∃ a b kvs, x = .ref a ∧ y = .ref b ∧ H a = some (.dT kvs) ∧ H b = some (.dT kvs) ∧ (∀ p ∈ kvs, SameV p.2) ∧ Q (.bl true) H
end Dt
namespace Ow
open PySem PySem.Spec PyProof.Rows PyProof.V L2 StX
open PySem.W PySem.Calls
/-! ### x != y where the class has its own __eq__ and object's __ne__ -/
section
variable {prog : Program} {w : World} {M : Model} {A : Around} {E : Value → Shared → Prop} {s : Shared} {K : Frag} {x y C f : Addr} {ox oy : Obj} {od od' : Option Obj}
end
section
variable {X : Cx} {CX : CXT} {k : Nat} {C f : Addr} {sp : Sp} {E : XK}
def rOwnNe (C : Addr) (sp : Sp) (E : XK) : R2 := fun x y H Q => ∃ a dx fs b dy gs, x = .ref a ∧ y = .ref b ∧ H a = some (.ins C dx fs) ∧ H b = some (.ins C dy gs) ∧ sp [x, y] H (fun v H' => ∃ c, v = .bl c ∧ Q (.bl (!c)) H') E
end
end Ow
namespace Dt
open PySem PySem.Spec PyProof.Rows PyProof.V L2 StX
/-! ### d.clear(), the keys tuples -/
def rClearT : V → List V → Hp → VK → Prop := fun x vs H Q => ∃ (a : Addr) (kvs : Tb), x = .ref a ∧ vs = [] ∧ H a = some (.dT kvs) ∧ Q .non (upd H a (.dT []))
section
variable {X : Cx} {o : Expr} {to : TE} {apos cpos : Pos}
end
/-! ### == of two dicts with the same keys in the same order, the values flat -/
section
variable {prog : Program} {w : World} {Ky : Type} [DecidableEq Ky] {knd : HeapKind prog w Ky} {A : Around} {E : Value → Shared → Prop} {s : Shared}
end
/-- keys alike, values flat -/
def rEqFlatT : R2 := fun x y H Q => ∃ (a b : Addr) (kvs lvs : Tb), x = .ref a ∧ y = .ref b ∧ H a = some (.dT kvs) ∧ H b = some (.dT lvs) ∧ kvs.map (·.1) = lvs.map (·.1) ∧ (∀ p ∈ kvs, L2.flatV p.2 = true) ∧ (∀ p ∈ lvs, L2.flatV p.2 = true) ∧
  ((∀ i : Nat, ∀ p q, kvs[i]? = some p → lvs[i]? = some q → L2.eqV p.2 q.2 = true) → Q (.bl true) H) ∧ (∀ i : Nat, ∀ p q, kvs[i]? = some p → lvs[i]? = some q → L2.eqV p.2 q.2 = false → Q (.bl false) H)
end Dt
namespace Ow
open PySem PySem.Spec PyProof.Rows PyProof.V L2 StX
open PySem.W PySem.Calls
/-! ### x in o, o[x], len(o): the class of o has its own __contains__, __getitem__, __len__ -/
section
variable {X : Cx} {CX : CXT} {k : Nat} {C f : Addr} {sp : Sp} {E : XK}
def rOwnIn (C : Addr) (sp : Sp) (E : XK) (g : Bool → Bool) : R2 := fun x y H Q => ∃ a dx fs, y = .ref a ∧ H a = some (.ins C dx fs) ∧ sp [y, x] H (fun v H' => ∃ c, v = .bl c ∧ Q (.bl (g c)) H') E
theorem op_ownIn (M : Meth X.K C "__contains__" f) (F : FnR X.prog X.w X.K X.mg X.base CX k f sp) (hr : Room k X.A) (hx : Passes CX X E) : OpR X (compareOp .In) (rOwnIn C sp E id) := by
  intro pins s σ H x y v u Q I rx ry h
  obtain ⟨a, dx, fs, rfl, ha, q⟩ := h
  obtain rfl : u = Value.ref a := ry
  obtain ⟨ox, od, J, _⟩ := inst_of I ha
  obtain ⟨mm, Fm⟩ := I.fr
  refine in_K Fm I.ok.mod.kin J M.at_ M.fn ?_
  refine wpAny_mono (run_own (vs := [.ref a, x]) F hr hx I (.cons rfl (.cons rx .nil)) q) (fun r s' z => ?_) fun _ _ e => e
  obtain ⟨z', H', I', rz, c, ec, qz⟩ := z
  subst ec
  cases (show r = Value.bool c from rz)
  exact wpAny_truthy_bool ⟨.bl c, H', I', rfl, qz⟩
theorem r_ownIn {C a dx : Addr} {fs : List (Str × V)} {sp : Sp} {E : XK} {g : Bool → Bool} {H : Hp} {Q : VK} {x : V} (ha : H a = some (.ins C dx fs)) (k : sp [.ref a, x] H (fun v H' => ∃ c, v = .bl c ∧ Q (.bl (g c)) H') E) : rOwnIn C sp E g x (.ref a) H Q := ⟨a, dx, fs, rfl, ha, k⟩
/-- o[x] -/
def rOwnIx (C : Addr) (sp : Sp) (E : XK) : R2 := fun x y H Q => ∃ a dx fs, x = .ref a ∧ H a = some (.ins C dx fs) ∧ sp [x, y] H Q E
/-- len(o) -/
def rOwnLen (C : Addr) (sp : Sp) (E : XK) : List V → Hp → VK → Prop := fun xs H Q => ∃ a dx fs, xs = [.ref a] ∧ H a = some (.ins C dx fs) ∧ sp [.ref a] H (fun v H' => ∃ n : Int, v = .int n ∧ 0 ≤ n ∧ n < 2 ^ 63 ∧ Q (.int n) H') E
theorem call_lenOwn (M : Meth X.K C "__len__" f) (F : FnR X.prog X.w X.K X.mg X.base CX k f sp) (hr : Room (k + 1) X.A) (hx : Passes CX X E) : CallR X (.builtin "len") (rOwnLen C sp E) := by
  intro pins s σ H xs us Q I r h
  obtain ⟨a, dx, fs, rfl, ha, q⟩ := h
  obtain ⟨u, rfl, ru⟩ := r.one
  obtain rfl : u = Value.ref a := ru
  obtain ⟨ox, od, J, _⟩ := inst_of I ha
  obtain ⟨mm, Fm⟩ := I.fr
  have hr1 : Room k X.A.in1 := Room.in1 hr
  refine len_K Fm I.ok.mod.kin J M.at_ M.fn (wpAny_mono (wpAny_call (SlX.run_at (us := [.ref a]) (ws := [.ref a]) F hr1 I.env0.in1 hx I (.cons rfl .nil) q)) (fun u' s' z => ?_) fun _ _ x => x)
  obtain ⟨z', H', I', rz, n, en, n0, n1, qz⟩ := z
  subst en
  obtain ⟨t, e⟩ := (show ∃ t, u' = Value.int n t from rz)
  subst e
  exact ⟨⟨n0, n1⟩, .int n, H', I'.tok _, ⟨_, rfl⟩, qz⟩
theorem r_ownLen {C a dx : Addr} {fs : List (Str × V)} {sp : Sp} {E : XK} {H : Hp} {Q : VK} (ha : H a = some (.ins C dx fs)) (k : sp [.ref a] H (fun v H' => ∃ n : Int, v = .int n ∧ 0 ≤ n ∧ n < 2 ^ 63 ∧ Q (.int n) H') E) : rOwnLen C sp E [.ref a] H Q := ⟨a, dx, fs, rfl, ha, k⟩
end
/-! ### o == y, y no object of an own class -/
inductive Oth (H : Hp) : V → String → Prop where
  | int (i : Int) : Oth H (.int i) "int"
  | str (z : Str) : Oth H (.str z) "str"
  | tup {a : Addr} {xs : List V} (e : H a = some (.tup xs)) : Oth H (.ref a) "tuple"
section
variable {X : Cx} {CX : CXT} {k : Nat} {C f : Addr} {sp : Sp} {E : XK}
theorem oth_looks {M : Model} {pins : List (Addr × Obj)} {σ : L2.St} {H : Hp} {s : Shared} {y : V} {u : Value} {T : String} (I : Inv X pins σ H s) (ry : RelV y u) (o : Oth H y T) : Looks M s.heap (typeOf u) (.type T) := by
  cases o with
  | int i => obtain ⟨t, e⟩ := (show ∃ t, u = Value.int i t from ry); subst e; exact Looks.of_pure rfl
  | str z => obtain ⟨t, e⟩ := (show ∃ t, u = Value.str z t from ry); subst e; exact Looks.of_pure rfl
  | @tup a xs e =>
    cases (show u = Value.ref a from ry)
    obtain ⟨_, _, _, o, h1, h2, _⟩ := (show ObjOk X.prog X.w H s.heap a (.tup xs) from I.hok a _ e)
    have z := (Looks.ld (M := M) (part := none) h1)
    exact fun A Q E s' k q => wpAny_typeOf_ref (k _ _ h1) (by rw [h2]; exact q)
def rOwnX (K : Frag) (C : Addr) (sp : Sp) (E : XK) : R2 := fun x y H Q => ∃ a dx fs T, x = .ref a ∧ H a = some (.ins C dx fs) ∧ Oth H y T ∧ subIn K (.type T) (.ref C) = some false ∧ sp [x, y] H Q E
theorem op_ownEqX {op : CmpOp} {m : Str} (M : Meth X.K C m f) (F : FnR X.prog X.w X.K X.mg X.base CX k f sp) (hr : Room k X.A) (hx : Passes CX X E) (hu : X.A.units < cLine) (hm : (cmpInfo op).2.1 = m := by rfl)
    (ho : ∀ a b, compareOp op a b = richCompare op a b := by intro _ _; rfl) : OpR X (compareOp op) (rOwnX X.K C sp E) := by
  intro pins s σ H x y v u Q I rx ry h
  obtain ⟨a, dx, fs, T, rfl, ha, oy, hs, q⟩ := h
  obtain rfl : v = Value.ref a := rx
  obtain ⟨ox, od, J, _⟩ := inst_of I ha
  obtain ⟨mm, Fm⟩ := I.fr
  rw [ho]
  refine cmp_K hu Fm I.ok.mod.kin J (oth_looks I ry oy) (by unfold notFirst; rw [hs]; simp) (by rw [hm]; exact M.at_) M.fn ?_
  exact wpAny_mono (run_own (vs := [.ref a, y]) F hr hx I (.cons rfl (.cons ry .nil)) q) (fun _ _ z => cmpBack z) fun _ _ e => e
theorem r_ownX {K : Frag} {C a dx : Addr} {fs : List (Str × V)} {sp : Sp} {E : XK} {H : Hp} {Q : VK} {y : V} {T : String} (ha : H a = some (.ins C dx fs)) (o : Oth H y T) (hs : subIn K (.type T) (.ref C) = some false) (k : sp [.ref a, y] H Q E) : rOwnX K C sp E (.ref a) y H Q := ⟨a, dx, fs, T, rfl, ha, o, hs, k⟩
end
end Ow
namespace Ow
open PySem PySem.Spec PyProof.Rows PyProof.V L2 StX
open PySem.W PySem.Calls
/-! ### C.m(..), m a static method of the class C -/
/-- C.m is a static method: its record at p, its def at g -/
structure SMet (K : PySem.W.Frag) (C : Addr) (mc : Value) (m : Str) (p g : Addr) : Prop where
  at_ : PySem.W.findCls K (.ref C) mc m = some (.get (.builtin "staticmethod.__get__") (.ref p) .none (.ref C))
  rc : ∃ rest, PySem.W.recIn K p "staticmethod" = some (.ref g :: rest)
  kp : PySem.W.keepIn K (.ref g) = true
section
variable {X : Cx} {CX : CXT} {k : Nat} {C p g : Addr} {mc : Value} {sp : Sp} {E : XK} {o e : Expr} {es : List Expr} {m : Str} {pos apos : Pos} {ta : TE} {t : TA} {pl : Sem Bool} {fd : FuncData} {ps : List Str} {dvs : List V} {ds : List Value}
variable {pins : List (Addr × Obj)} {σ : L2.St} {H : Hp} {s : Shared} {A : Around} {Ex : Value → Shared → Prop}
theorem getsmet_ok {b : Bool} {Q : Value → Shared → Prop} (I : Inv X pins σ H s) (r : ClX.CRead X.K C mc) (k : SMet X.K C mc m p g) (h : ∀ s', Inv X pins σ H s' → Q (.ref g) s') : wpAny (model X.prog X.w) A (getAttr (.ref C) m b) Q Ex s := by
  obtain ⟨rest, hp⟩ := k.rc
  refine PySem.W.cls_bind I.kIn r.rd k.at_ ?_
  exact wpAny_call (PySem.W.sm_get (s := { s with toks := s.toks + 1 }) I.kIn hp (PySem.W.handed_on rfl (h _ (I.tok _))))
def tSMeth (C : Addr) (sp : Sp) (dvs : List V) (E : XK) (ta : TE) (t : TA) : TE := fun σ H Q => ta σ H fun x H1 => x = .ref C ∧ t σ H1 fun vs H2 => sp (vs ++ dvs) H2 Q E
theorem pe_smeth (he : PE X o ta) (r : ClX.CRead X.K C mc) (c : SMet X.K C mc m p g) (F : FnOk X.prog X.w X.K X.mg X.base CX k g fd ps sp) (hr : Room k X.A) (hb : Binds X.K fd ps ds) (hd : Vals dvs ds) (hx : Passes CX X E) (ha : PA X (e :: es) t)
    (hst : starEach (e :: es) X.env = (false, eval e X.env) :: starEach es X.env := by rfl) (hpl : (backTo pos (starEach es X.env)).any (·.1) = false := by rfl)
    (ht : eval (.Call (.Attribute o m apos) (e :: es) [] pos) X.env = (do
      let ov ← eval o X.env
      standAt apos.atName
      let (f, first) ← holding [ov] (getMethod ov m pl)
      callWith pos f first (backTo pos (starEach (e :: es) X.env)) (backToKw pos (keywordEach [] X.env))) := by rfl) :
    PE X (.Call (.Attribute o m apos) (e :: es) [] pos) (tSMeth C sp dvs E ta t) := by
  refine ⟨fun pins s σ H Q I h => ?_⟩
  refine PySem.W.methodCall_KW (pl := pl) (thn (he.run pins s σ H _ I h) fun u s1 ⟨x, H1, I1, rx, ex, q⟩ => ?_) ht
  subst ex
  obtain rfl : u = Value.ref C := rx
  refine PySem.W.method_cls I1.kIn r.ga (getsmet_ok I1 r c fun s2 I2 => ?_)
  exact PySem.W.callWith_K (h₀ := X.base) I2.ok.mod.kin c.kp (thn (ha.run pos _ s2 σ H1 _ I2 q) fun us s3 ⟨vs, H2, I3, rv, q2⟩ => ⟨I3.kIn, run_fn F hr hb hd hx I3 rv q2⟩) hst hpl
end
end Ow
namespace Bl
open PySem PySem.Spec PyProof.Rows PyProof.V L2 StX
open PySem.W PySem.Calls My.Ow
/-! ### bool(a tuple), bool(x) of a class with __bool__, ~x, C.m(..) and x.m() in a try -/
theorem meets_bool_tup (t : Addr) (items : Array Value) (hfit : (items.size : Int) < 2 ^ 63) :
    Meets (Builtin.«bool.__new__» ⟨[.type "bool", .ref t], []⟩) (fun _ R s => IsTup s.heap t items ∧ R (.ok (.ret (.bool (!items.isEmpty)))) { s with toks := s.toks + 1 + 1 }) :=
  Meets.of_wp fun prog w A R s hs => by
    obtain ⟨hl, hs⟩ := hs
    obtain ⟨hp, g, d, tk, os⟩ := s
    have f1 := PySem.F.conv_sub_bool
    repeat (any_goals (first | assumption | (with_reducible refine truthy_tuple hl hfit ?_) | wp_step))
    all_goals first | exact ⟨_, rfl, hs⟩ | exact hs | skip
section
variable {prog : Program} {w : World} {A : Around} {E : Value → Shared → Prop} {s : Shared} {K : Frag} {x C f : Addr} {ox : Obj} {od : Option Obj}
theorem truthy_own {M : Model} {Q : Bool → Shared → Prop} (X : K.In s.heap) (I : InstAt s.heap x ox C od) (hs : findIn K (.ref C) "__bool__" = some (some (.ref f))) (hf : isFn K (.ref f) = true)
    (h : wpAny M A (call (.ref f) [.ref x]) (PySem.W.BoolBack Q) E s) : wpAny M A (truthy (.ref x)) Q E s := by
  unfold truthy
  refine wpAny_bind (m := callSpecial? (.ref x) (Str.ofString "__bool__")) (special_fn X I hs (beq_iff_eq.mp hf) (wpAny_mono h (fun r s' hr => ?_) fun _ _ y => y))
  cases r <;> first | exact hr.elim | skip
  exact wpAny_pure hr
theorem meets_bool_own (X : K.In s.heap) (I : InstAt s.heap x ox C od) (hs : findIn K (.ref C) "__bool__" = some (some (.ref f))) (hf : isFn K (.ref f) = true) :
    MeetsIn prog w (Builtin.«bool.__new__» ⟨[.type "bool", .ref x], []⟩) (fun A R s' => s' = s ∧ wpAny (model prog w) A.in1 (call (.ref f) [.ref x]) (PySem.W.BoolBack fun b s2 => R (.ok (.ret (.bool b))) s2) (fun e s2 => R (.error e) s2) s) := by
  rintro A R s' ⟨rfl, h⟩
  have f1 := PySem.F.conv_sub_bool
  have key := truthy_own X I hs hf h
  obtain ⟨hp, g, d, tk, os⟩ := s'
  repeat (any_goals (first | assumption | (refine wpAny_mono key (fun b s2 hb => ?_) fun _ _ e => e) | wp_step))
  all_goals first | exact ⟨_, rfl, hb⟩ | exact hb | skip
theorem bool_own {Q : Value → Shared → Prop} (X : K.In s.heap) (I : InstAt s.heap x ox C od) (hs : findIn K (.ref C) "__bool__" = some (some (.ref f))) (hf : isFn K (.ref f) = true)
    (h : wpAny (model prog w) A.in1.in1 (call (.ref f) [.ref x]) (PySem.W.BoolBack fun b s2 => Q (.bool b) s2) E s) : wpAny (model prog w) A (call (.type "bool") [.ref x]) Q E s := by
  refine callType_newIn PySem.F.called_bool PySem.F.newNe_bool (PySem.F.typeCall_bool_1 _) (PySem.F.newCall_bool_1 _) (fun obj => PySem.F.args_object_init_2 obj _) PySem.F.entry_bool_new (meets_bool_own X I hs hf) ⟨rfl, ?_⟩
  refine wpAny_mono h (fun r s2 hr => ?_) fun _ _ e => e
  cases r <;> first | exact hr.elim | exact ⟨rfl, hr⟩
end
section
variable {X : Cx} {CX : CXT} {k : Nat} {C f : Addr} {sp : Sp} {E : XK}
/-- bool(a tuple) -/
theorem call_boolT {K : Frag} (hK : X.K = K) : CallR X (.type "bool") (fun xs H Q => ∃ (a : Addr) (zs : List V), xs = [.ref a] ∧ SqT K H a zs ∧ Q (.bl (!zs.isEmpty)) H) := by
  subst hK
  intro pins s σ H xs us Q I r h
  obtain ⟨a, zs, rfl, hq, q⟩ := h
  obtain rfl := Vals.ref1 r
  obtain ⟨its, rv, hl, hz⟩ := I.tuple hq
  have h63 := line63
  have hlen := rv.length
  refine call_bool_1 (meets_bool_tup a its.toArray (by simp only [List.size_toArray]; omega)) ⟨hl, rfl, ?_⟩
  exact ⟨.bl (!zs.isEmpty), H, I.tok _, by rw [isEmpty_of rv]; rfl, q⟩
theorem r_boolT {K : Frag} {H : Hp} {Q : VK} {a : Addr} {zs : List V} (h : SqT K H a zs) (k : Q (.bl (!zs.isEmpty)) H) : ∃ (a' : Addr) (zs' : List V), [V.ref a] = [.ref a'] ∧ SqT K H a' zs' ∧ Q (.bl (!zs'.isEmpty)) H := ⟨a, zs, rfl, h, k⟩
/-- bool(x), x of the class C -/
def rBoolOwn (C : Addr) (sp : Sp) (E : XK) : List V → Hp → VK → Prop := fun xs H Q => ∃ a dx fs, xs = [.ref a] ∧ H a = some (.ins C dx fs) ∧ sp [.ref a] H (fun v H' => ∃ b, v = .bl b ∧ Q v H') E
theorem call_boolOwn (M : Meth X.K C "__bool__" f) (F : FnR X.prog X.w X.K X.mg X.base CX k f sp) (hr : Room (k + 2) X.A) (hx : Passes CX X E) : CallR X (.type "bool") (rBoolOwn C sp E) := by
  intro pins s σ H xs us Q I r h
  obtain ⟨a, dx, fs, rfl, ha, q⟩ := h
  obtain ⟨u, rfl, ru⟩ := r.one
  obtain rfl : u = Value.ref a := ru
  obtain ⟨ox, od, J, _⟩ := inst_of I ha
  have hr2 : Room k X.A.in1.in1 := (show Room (k + 1) X.A.in1 from Room.in1 hr).in1
  refine bool_own I.kIn J M.at_ M.fn (wpAny_mono (wpAny_call (SlX.run_at (us := [.ref a]) (ws := [.ref a]) F hr2 I.env0.in1.in1 hx I (.cons rfl .nil) q)) (fun u' s' z => ?_) fun _ _ x => x)
  obtain ⟨z', H', I', rz, y, ey, qz⟩ := z
  subst ey
  cases (show u' = Value.bool y from rz)
  exact ⟨.bl y, H', I', rfl, qz⟩
theorem r_boolOwn {C a dx : Addr} {fs : List (Str × V)} {sp : Sp} {E : XK} {H : Hp} {Q : VK} (ha : H a = some (.ins C dx fs)) (k : sp [.ref a] H (fun v H' => ∃ b, v = .bl b ∧ Q v H') E) : rBoolOwn C sp E [.ref a] H Q := ⟨a, dx, fs, rfl, ha, k⟩
/-- ~x -/
theorem un_ownInv (M : Meth X.K C "__invert__" f) (F : FnR X.prog X.w X.K X.mg X.base CX k f sp) (hr : Room k X.A) (hx : Passes CX X E) : UnR X (unaryOp .Invert) (rOwn1 C sp E) := by
  intro pins s σ H x v Q I rx h
  obtain ⟨a, dx, fs, rfl, ha, q⟩ := h
  obtain rfl : v = Value.ref a := rx
  obtain ⟨ox, od, J, _⟩ := inst_of I ha
  obtain ⟨mm, Fm⟩ := I.fr
  exact ksp_inv Fm I.ok.mod.kin J M.at_ M.fn (run_own (vs := [.ref a]) F hr hx I (.cons rfl .nil) q)
end
section
variable {X : Cx} {CX : CXT} {C p g f : Addr} {mc : Value} {fd : FuncData} {k : Nat} {sp : Sp} {ps : List Str} {ds : List Value} {dvs : List V} {E : L2.St → XK} {m : Str} {o e : Expr} {es : List Expr} {ta : TE} {t : TA} {pos apos : Pos} {pl : Sem Bool}
/-- C.m(..) of a static method, in a try -/
def tSMethSD (C : Addr) (sp : Sp) (dvs : List V) (E : L2.St → XK) (ta : TE) (t : TA) : TE := fun σ H Q => ta σ H fun x H1 => x = .ref C ∧ t σ H1 fun vs H2 => sp (vs ++ dvs) H2 Q (E σ)
theorem pe_smethSD (he : PE X o ta) (r : ClX.CRead X.K C mc) (c : SMet X.K C mc m p g) (F : FnOk X.prog X.w X.K X.mg X.base CX k g fd ps sp) (hr : Room k X.A) (hb : Binds X.K fd ps ds) (hd : Vals dvs ds) (hx : ∀ σ, PassesAt CX X σ (E σ)) (ha : PA X (e :: es) t)
    (hst : starEach (e :: es) X.env = (false, eval e X.env) :: starEach es X.env := by rfl) (hpl : (backTo pos (starEach es X.env)).any (·.1) = false := by rfl)
    (ht : eval (.Call (.Attribute o m apos) (e :: es) [] pos) X.env = (do
      let ov ← eval o X.env
      standAt apos.atName
      let (f, first) ← holding [ov] (getMethod ov m pl)
      callWith pos f first (backTo pos (starEach (e :: es) X.env)) (backToKw pos (keywordEach [] X.env))) := by rfl) :
    PE X (.Call (.Attribute o m apos) (e :: es) [] pos) (tSMethSD C sp dvs E ta t) := by
  refine ⟨fun pins s σ H Q I h => ?_⟩
  refine PySem.W.methodCall_KW (pl := pl) (thn (he.run pins s σ H _ I h) fun u s1 ⟨x, H1, I1, rx, ex, q⟩ => ?_) ht
  subst ex
  obtain rfl : u = Value.ref C := rx
  refine PySem.W.method_cls I1.kIn r.ga (getsmet_ok I1 r c fun s2 I2 => ?_)
  exact PySem.W.callWith_K (h₀ := X.base) I2.ok.mod.kin c.kp (thn (ha.run pos _ s2 σ H1 _ I2 q) fun us s3 ⟨vs, H2, I3, rv, q2⟩ => ⟨I3.kIn, run_fnSD F hr hb hd (hx σ) I3 rv q2⟩) hst hpl
theorem r_smethSD {C : Addr} {sp : Sp} {dvs : List V} {E : L2.St → XK} {ta : TE} {t : TA} {σ : L2.St} {H : Hp} {Q : VK} (k : ta σ H fun x H1 => x = .ref C ∧ t σ H1 fun vs H2 => sp (vs ++ dvs) H2 Q (E σ)) : tSMethSD C sp dvs E ta t σ H Q := k
/-- C.m() of a static method -/
theorem pe_smeth0 {E : XK} (he : PE X o ta) (r : ClX.CRead X.K C mc) (c : SMet X.K C mc m p g) (F : FnOk X.prog X.w X.K X.mg X.base CX k g fd ps sp) (hr : Room k X.A) (hb : Binds X.K fd ps ds) (hd : Vals dvs ds) (hx : Passes CX X E)
    (ht : eval (.Call (.Attribute o m apos) [] [] pos) X.env = (do
      let ov ← eval o X.env
      standAt apos.atName
      let (f, first) ← holding [ov] (getMethod ov m pl)
      callWith pos f first (backTo pos (starEach [] X.env)) (backToKw pos (keywordEach [] X.env))) := by rfl) :
    PE X (.Call (.Attribute o m apos) [] [] pos) (tSMeth C sp dvs E ta tNil) := by
  refine ⟨fun pins s σ H Q I h => ?_⟩
  refine PySem.W.methodCall_KW (pl := pl) (thn (he.run pins s σ H _ I h) fun u s1 ⟨x, H1, I1, rx, ex, q⟩ => ?_) ht
  subst ex
  obtain rfl : u = Value.ref C := rx
  refine PySem.W.method_cls I1.kIn r.ga (getsmet_ok I1 r c fun s2 I2 => ?_)
  exact PySem.W.callWith_K0 I2.kIn c.kp (run_fn (us := []) (vs := []) F hr hb hd hx I2 .nil q)
/-- o.m() in a try -/
theorem pe_meth0SD (he : PE X o ta) (c : Cls X.K C) (hm : Meth X.K C m f) (F : FnOk X.prog X.w X.K X.mg X.base CX k f fd ps sp) (hr : Room k X.A)
    (hb : Binds X.K fd ps ds) (hd : L2.Vals dvs ds) (hx : ∀ σ, PassesAt CX X σ (E σ))
    (ht : eval (.Call (.Attribute o m apos) [] [] pos) X.env = (do
      let ov ← eval o X.env
      standAt apos.atName
      let (g, first) ← holding [ov] (getMethod ov m pl)
      callWith pos g first (backTo pos (starEach [] X.env)) (backToKw pos (keywordEach [] X.env))) := by rfl) :
    PE X (.Call (.Attribute o m apos) [] [] pos) (Dt.tMethSD C m sp dvs E ta tNil) := by
  refine ⟨fun pins s σ H Q I h => PySem.W.methodCall_KW (pl := pl) (thn (he.run pins s σ H _ I h) fun u s1 got => ?_) ht⟩
  obtain ⟨_, H1, I1, rx, a, dx, fs, rfl, ea, l, q⟩ := got
  obtain rfl : u = Value.ref a := rx
  refine getmeth_ok I1 ea c hm l ?_
  exact PySem.W.callWith_K0 (first := [.ref a]) I1.kIn hm.kp (run_fnSD (us := [.ref a]) (vs := [.ref a]) F hr hb hd (hx σ) I1 (.cons rfl .nil) q)
end
end Bl
/-! ### own errors with a constant text and a field of any kind; own errors without a field -/
namespace Er
open PySem.W PySem.Calls PySem.HandSPX
/-- the text of def __init__(self, f): super().__init__(msg); self.f = f -/
structure ShC (prog : Program) (w : World) (st : Stmt) (f : Str) : Prop where
  body : ∃ (msg : Expr) (p0 p1 p2 p3 p4 q1 q2 q3 q4 : Pos) (pl : Sem Bool), defBody st = [.Expr (.Call (.Attribute (.Call (.Name "super" p0) [] [] p1) "__init__" p2) [msg] [] p3) p4, .Assign [.Attribute (.Name "self" q1) f q2] (.Name f q3) q4] ∧
    (∀ (q : Str) (L fI cda cc : Addr) (m : Str → Option Value) (v : Value) (A : Around) (E : Value → Shared → Prop) (s : Shared) (Q : Value → Shared → Prop), m f = some v → s.heap.Ns L m → (∀ (z : Str) tk n, Q (.str z tk) { s with toks := n }) →
      wpAny (model prog w) A (eval msg (ksEnv q (defScope st) L fI (.ref cda) cc)) Q E s) ∧
    (∀ (q : Str) (L fI cda cc : Addr), interactive (ksEnv q (defScope st) L fI (.ref cda) cc) = false ∧ starEach [msg] (ksEnv q (defScope st) L fI (.ref cda) cc) = (false, eval msg (ksEnv q (defScope st) L fI (.ref cda) cc)) :: starEach [] (ksEnv q (defScope st) L fI (.ref cda) cc) ∧
      swapsWith (.Call (.Attribute (.Call (.Name "super" p0) [] [] p1) "__init__" p2) [msg] [] p3) none p4.line (ksEnv q (defScope st) L fI (.ref cda) cc) = pure false ∧
      eval (.Call (.Attribute (.Call (.Name "super" p0) [] [] p1) "__init__" p2) [msg] [] p3) (ksEnv q (defScope st) L fI (.ref cda) cc) = (do
        let ov ← attributeBase (.Call (.Name "super" p0) [] [] p1) "__init__" (ksEnv q (defScope st) L fI (.ref cda) cc) (eval (.Call (.Name "super" p0) [] [] p1) (ksEnv q (defScope st) L fI (.ref cda) cc))
        standAt p2.atName
        let (f, first) ← holding [ov] (getMethod ov "__init__" pl)
        callWith p3 f first (backTo p3 (starEach [msg] (ksEnv q (defScope st) L fI (.ref cda) cc))) []) ∧
      swapsWith (.Name f q3) (some (.Attribute (.Name "self" q1) f q2)) q4.line (ksEnv q (defScope st) L fI (.ref cda) cc) = pure false)
  head : ∃ ar, ((defArgs st).posonlyargs ++ (defArgs st).args).head? = some ar ∧ ar.arg = "self"
  ks : (defScope st).names.lookup ("super" : Str) = some .globalImplicit
  kc : (defScope st).names.lookup ("__class__" : Str) = some .free
  ka : (defScope st).names.lookup ("self" : Str) = some .local
  kf : (defScope st).names.lookup f = some .local
  fd : (f == ("__debug__" : Str)) = false
  fs : (("self" : Str) == f) = false
  k : (defScope st).kind = .function
  co : (defScope st).isCoroutine = false
  gen : (defScope st).isGenerator = false
  nocell : ∀ x ∈ (defScope st).names, x.2 ≠ .cell
  binds : ∀ (s : Shared) (x : Addr) (v : Value) (qual : Str) (doc pm : Value) (an : Option Addr) (cda cc : Addr) (ct : Value), BindsTo s (ksFn "__init__" qual (defArgs st) (defBody st) (defScope st) .none .none doc pm an (.ref cda) ct cc) ⟨[.ref x, v], []⟩ [("self", .ref x), (f, v)]
section
variable {prog : Program} {w : World} {A : Around} {E : Value → Shared → Prop} {R : Result → Shared → Prop} {s : Shared} {K : Frag} {mg : Str → Option Value} {base : Heap}
theorem initC {C fI cc cda x t0 : Addr} {st : Stmt} {f qual : Str} {oc doc pm ct : Value} {od an : Option Addr} {osl : Array (Option Value)} {v : Value} (S : ShC prog w st f) (T : Txt prog K mg C fI cc cda) (Mo : Mod K mg base) (kb : ∀ b o, base.get? b = some o → s.heap.get? b = some o)
    (hf : K.lookup fI = some ⟨oc, od, .func (ksFn "__init__" qual (defArgs st) (defBody st) (defScope st) .none .none doc pm an (.ref cda) ct cc), osl⟩) (hcd : codeIn K (.ref cda) qual = true) (noN : findIn K (.ref C) f = some none)
    (hx : s.heap.get? x = some (excO C t0)) (hnx : K.lookup x = none) (hroom : A.depth < recursionLimit)
    (hq : ∀ h' tk dx t1, IEnd s.heap h' x C dx t1 (fun y => if y = f then some v else none) → R (.ok (.ret .none)) { s with heap := h', toks := tk }) :
    codeAny (model prog w) A (.call (.ref fI) ⟨[.ref x, v], []⟩) R s := by
  obtain ⟨msg, p0, p1, p2, p3, p4, q1, q2, q3, q4, pl, hb, hmsg, hev⟩ := S.body
  obtain ⟨ar, har, hself⟩ := S.head
  obtain ⟨nm, q0, N, bs, bm, sn, sub, ab, col, dd, k0, k1, k2, k3, k5, hC, hbm⟩ := T.cls
  have hcl := clsIn_of hC
  have X : K.In s.heap := Mo.kin.keeps kb
  refine ks_codeAny_call_defAt (fd := ksFn "__init__" qual (defArgs st) (defBody st) (defScope st) .none .none doc pm an (.ref cda) ct cc) (body := defBody st) (binds := [("self", .ref x), (f, v)]) hroom (X _ _ hf) rfl (Mo.nolimit.keeps kb) (codeRec_of X hcd) rfl (S.binds s x v qual doc pm an cda cc ct) S.nocell (fun y hy => ?_) (fun h1 hns k1 => ?_) S.co S.gen S.k
  · rcases List.mem_cons.mp hy with rfl | hy
    · exact S.ka
    · rw [List.mem_singleton.mp hy]; exact S.kf
  · have hx1 := k1 _ _ hx
    have kb1 : ∀ b o, base.get? b = some o → h1.get? b = some o := fun b o e => k1 b o (kb b o e)
    obtain ⟨e0, e1, e2, e3, e4⟩ := hev qual s.heap.objs.size fI cda cc
    have hv1 : (fun y => List.lookup y [(("self" : Str), Value.ref x), (f, v)].reverse) "self" = some (.ref x) := by
      show List.lookup ("self" : Str) ([(f, v), (("self" : Str), Value.ref x)] : List (Str × Value)) = _
      simp [List.lookup, S.fs]
    have hv2 : (fun y => List.lookup y [(("self" : Str), Value.ref x), (f, v)].reverse) f = some v := by
      show List.lookup f ([(f, v), (("self" : Str), Value.ref x)] : List (Str × Value)) = _
      simp [List.lookup]
    show PySem.wpAt (model prog w) (A.deeper (ksEnv qual (defScope st) s.heap.objs.size fI (.ref cda) cc)) (.func (defBody st) (ksEnv qual (defScope st) s.heap.objs.size fI (.ref cda) cc)) (execs (defBody st) (ksEnv qual (defScope st) s.heap.objs.size fI (.ref cda) cc)) _ _ _
    generalize hbb : defBody st = bb at hb ⊢
    rw [hb]
    refine ks_wpAt_execs_cons (super_stmt (pl := pl) T Mo kb1 hf har hself S.ks S.kc S.ka S.k hns hv1 hx1 (fun s' Q' hn q => hmsg _ _ _ _ _ _ v _ _ _ _ hv2 hn q) (fun h2 tk2 t1 k2 hx2 => ?_) e0 e1 e2 e3)
    refine wpAt_of_wpAny ?_
    have hL : s.heap.objs.size ≠ x := Nat.ne_of_gt (Heap.lt_size hx)
    obtain ⟨oL, es, ep, hoL, hr⟩ := hns
    have hns2 : h2.Ns s.heap.objs.size (fun y => List.lookup y [(("self" : Str), Value.ref x), (f, v)].reverse) := ⟨oL, es, ep, k2 _ _ hL hoL, hr⟩
    have X2 : K.In h2 := fun b o e => k2 b o (fun z => by rw [z, hnx] at e; cases e) (k1 b o (X _ _ e))
    refine wpAny_execs_cons (plainObj_wpAny_Assign_Attribute ?_ e4)
    refine ld_name (v := v) hns2 hv2 S.k S.kf (ld_name (v := .ref x) hns2 hv1 S.k S.ka ?_) S.fd
    refine set_plain X2 (ox := excO C t1) (od := none) ⟨hx2, rfl, rfl, trivial⟩ T.sa ?_
    refine PySem.HandSPX.exc_osa X2 hx2 hcl (show refsVE (.ref C :: bm) = true from hbm) rfl noN (fun h3 tk3 dx k3 dn dne hx3 hn3 => ?_)
    have z : s.heap.objs.size ≤ h2.objs.size := Nat.le_of_lt (Heap.lt_size (k2 _ _ hL hoL))
    exact wpAny_execs_nil (hq h3 _ dx t1 ⟨fun b o hb e => k3 b o hb (k2 b o hb (k1 b o e)), hx3, Nat.le_trans z dn, dne, hn3⟩)
/-- all that is told of an own error class of one argument -/
structure ClsC (prog : Program) (w : World) (K : Frag) (mg : Str → Option Value) (cn f : Str) (C : Addr) : Prop where
  ex : ∃ (fI cc cda : Addr) (st : Stmt) (qual : Str) (oc doc pm ct : Value) (od an : Option Addr) (osl : Array (Option Value)), ShC prog w st f ∧ Txt prog K mg C fI cc cda ∧
    K.lookup fI = some ⟨oc, od, .func (ksFn "__init__" qual (defArgs st) (defBody st) (defScope st) .none .none doc pm an (.ref cda) ct cc), osl⟩ ∧ codeIn K (.ref cda) qual = true
  gC : mg cn = some (.ref C)
  kC : keepIn K (.ref C) = true
  noN : findIn K (.ref C) f = some none
  exC : subIn K (.ref C) (.type "BaseException") = some true
  tyC : typeIn K (.ref C) = some (.type "type")
theorem madeC {cn f : Str} {C : Addr} {v : Value} (Z : ClsC prog w K mg cn f C) (Mo : Mod K mg base) (kb : ∀ b o, base.get? b = some o → s.heap.get? b = some o) (hroom : A.depth + 1 < recursionLimit)
    (hq : ∀ h' tk e d, Made s.heap h' e C d (fun y => if y = f then some v else none) → R (.ok (.ret (.ref e))) { s with heap := h', toks := tk }) :
    codeAny (model prog w) A (.call (.ref C) ⟨[v], []⟩) R s := by
  obtain ⟨fI, cc, cda, st, qual, oc, doc, pm, ct, od, an, osl, S, T, hf, hcd⟩ := Z.ex
  obtain ⟨nm, q, N, bs, bm, sn, sub, ab, col, dd, k0, k1, k2, k3, k5, hC, hbm⟩ := T.cls
  have X : K.In s.heap := Mo.kin.keeps kb
  obtain ⟨hp, g, dr, tk, os⟩ := s
  have k : ∀ b o, hp.get? b = some o → ((hp.push (kdv_tup [v])).push (excO C hp.objs.size)).get? b = some o := fun b o e => Heap.get?_push_of_some _ (Heap.get?_push_of_some _ e)
  have hget : ((hp.push (kdv_tup [v])).push (excO C hp.objs.size)).get? (hp.objs.size + 1) = some (excO C hp.objs.size) := by heap_get
  have hnx : K.lookup (hp.objs.size + 1) = none := by
    cases e : K.lookup (hp.objs.size + 1) with
    | none => rfl
    | some o =>
      have z : hp.get? (hp.objs.size + 1) = some o := X _ _ e
      exact absurd (Nat.lt_of_succ_lt (Heap.lt_size z)) (Nat.lt_irrefl _)
  refine PySem.HandSPX.call_own F.excBase_ValueError (fun X => PySem.HandSPX.refsVE_contains X bm hbm) (X _ _ hC) (looks_findIn X T.iC) (fun self => bind_fn X self T.tI) (one_size v) ?_
  refine initC (s := ⟨(hp.push (kdv_tup [v])).push (excO C hp.objs.size), g, dr, tk, os⟩) S T Mo (fun b o e => k b o (kb b o e)) hf hcd Z.noN hget hnx ?_ fun h' tk' dx t1 ⟨k', hx, dn, dne, hns⟩ => ?_
  · show A.depth + 1 < recursionLimit
    exact hroom
  · have old : ∀ b o, hp.get? b = some o → h'.get? b = some o := fun b o e => k' b o (Nat.ne_of_lt (Nat.lt_succ_of_lt (Heap.lt_size e))) (k b o e)
    have z : hp.objs.size + 1 + 1 ≤ dx := by
      first
        | (simpa only [Heap.size_push] using dn)
        | exact dn
        | (have q := dn; rw [Heap.size_push, Heap.size_push] at q; exact q)
    exact ⟨rfl, hq h' tk' (hp.objs.size + 1) dx ⟨old, Nat.le_succ _, ⟨_, _, hx, rfl, rfl, rfl, rfl⟩, Nat.le_trans (Nat.le_trans (Nat.le_succ _) (Nat.le_succ _)) z, dne, hns⟩⟩
end
section
variable {X : Cx} {C : Addr}
/-- the error of one argument, made -/
def tMkC (C : Addr) (f : Str) (ta : TA) : L2.St → Hp → XK → Prop := fun σ H Q => ta σ H fun vs H1 => ∃ v, vs = [v] ∧ ∀ d, H1 d = none → Q (.ref C) (some d) (upd H1 d (.xd [(f, v)]))
theorem pmkC {cn f : Str} {a : Expr} {ta : TA} {p pos : Pos} {k : Nat} (Z : ClsC X.prog X.w X.K X.mg cn f C) (hr : Room k X.A) (ha : PA X [a] ta) (hg : Gl X cn := by rfl) (hdb : (cn == ("__debug__" : Str)) = false := by decide)
    (he : starEach (a :: []) X.env = (false, eval a X.env) :: starEach [] X.env := by rfl) (hpl : (backTo pos (starEach [] X.env)).any (·.1) = false := by rfl) :
    PMk X (.Call (.Name cn p) [a] [] pos) (tMkC C f ta) := by
  intro pins s σ H Q I h
  refine wpAny_Call_Name_kw (ld_glob I hg Z.gC ?_ hdb)
  refine PySem.W.callWith_K (h₀ := X.base) I.ok.mod.kin Z.kC (thn (ha.run pos pins s σ H _ I h) fun us s1 hh => ?_) he hpl
  obtain ⟨vs, H1, I1, r1, v, ev, q1⟩ := hh
  subst ev
  refine ⟨I1.kIn, ?_⟩
  cases r1 with
  | cons rv rn =>
    rename_i v' us'
    cases rn
    show wpAny _ _ (call (.ref C) [v']) _ _ _
    have hbk := I1.bk
    obtain ⟨hp, g, dr, tk, os⟩ := s1
    refine wpAny_call (madeC Z I1.mod hbk (by have := hr.dp; omega) fun h' tk' e d M => ?_)
    show MkP X pins σ Q (.ref e) ⟨h', g, dr, tk', os⟩
    obtain ⟨oe, fv, hoe, hc, hd, hdat, h1⟩ := M.obj
    have hns := M.ns
    obtain ⟨G', g1, g2⟩ := restrict h' fun b => decide (b ≠ e)
    have gk : ∀ b, b ≠ e → G'.get? b = h'.get? b := fun b hb => g1 b (decide_eq_true hb)
    have ge : G'.get? e = none := g2 e (by simp)
    have old : ∀ b o, hp.get? b = some o → G'.get? b = some o := fun b o q => (gk b (Nat.ne_of_lt (Nat.lt_of_lt_of_le (Heap.lt_size q) M.new))).trans (M.keep b o q)
    have ob : ObjOk X.prog X.w (upd H1 d (.xd [(f, v)])) G' d (.xd [(f, v)]) :=
      ⟨_, hns.at (fun o q => (gk d M.dne).trans q), fun g => relO_one rv g⟩
    have J : Inv X pins σ (upd H1 d (.xd [(f, v)])) ⟨G', g, dr, tk', os⟩ := I1.laid (t' := tk') old M.dbig ob
    refine ⟨e, oe, fv, ⟨G', g, dr, tk', os⟩, _, .ref C, some d, rfl, J, fun b o q => ?_, ge, hoe, ⟨hc, hd⟩, hdat, h1, ?_, rfl, I1.bare, raises_own Z.exC Z.tyC, q1 d (I1.hok.fresh M.dbig)⟩
    · by_cases hb : b = e
      · have q' : G'.get? b = some o := q
        rw [hb, ge] at q'; cases q'
      · exact (gk b hb).symm.trans q
    · rw [upd_ne (Ne.symm M.dne)]
      exact I1.hok.fresh M.new
/-- raise C(e) -/
def tRaiseC (C : Addr) (f : Str) (W : WX) (ta : TA) : TS := fun _ σ H => tMkC C f ta σ H fun cls d H' => W cls d σ H'
theorem ps_raiseC {cn f : Str} {a : Expr} {ta : TA} {W : WX} {p pos pos2 : Pos} {k : Nat} (hc : X.calm = true) (Z : ClsC X.prog X.w X.K X.mg cn f C) (hr : Room k X.A) (tk : Takes X W) (ha : PA X [a] ta) (hg : Gl X cn := by rfl) (hdb : (cn == ("__debug__" : Str)) = false := by decide)
    (he : starEach (a :: []) X.env = (false, eval a X.env) :: starEach [] X.env := by rfl) (hpl : (backTo pos (starEach [] X.env)).any (·.1) = false := by rfl) :
    PS X (.Raise (some (.Call (.Name cn p) [a] [] pos)) none pos2) (tRaiseC C f W ta) := ps_raise hc tk (pmkC Z hr ha hg hdb he hpl)
end
/-! ### an own error whose __init__ has no argument: super().__init__(a text) -/
structure Sh0 (prog : Program) (w : World) (st : Stmt) : Prop where
  body : ∃ (msg : Expr) (p0 p1 p2 p3 p4 : Pos) (pl : Sem Bool), defBody st = [.Expr (.Call (.Attribute (.Call (.Name "super" p0) [] [] p1) "__init__" p2) [msg] [] p3) p4] ∧
    (∀ (q : Str) (L fI cda cc : Addr) (m : Str → Option Value) (A : Around) (E : Value → Shared → Prop) (s : Shared) (Q : Value → Shared → Prop), s.heap.Ns L m → (∀ (z : Str) tk n, Q (.str z tk) { s with toks := n }) →
      wpAny (model prog w) A (eval msg (ksEnv q (defScope st) L fI (.ref cda) cc)) Q E s) ∧
    (∀ (q : Str) (L fI cda cc : Addr), interactive (ksEnv q (defScope st) L fI (.ref cda) cc) = false ∧ starEach [msg] (ksEnv q (defScope st) L fI (.ref cda) cc) = (false, eval msg (ksEnv q (defScope st) L fI (.ref cda) cc)) :: starEach [] (ksEnv q (defScope st) L fI (.ref cda) cc) ∧
      swapsWith (.Call (.Attribute (.Call (.Name "super" p0) [] [] p1) "__init__" p2) [msg] [] p3) none p4.line (ksEnv q (defScope st) L fI (.ref cda) cc) = pure false ∧
      eval (.Call (.Attribute (.Call (.Name "super" p0) [] [] p1) "__init__" p2) [msg] [] p3) (ksEnv q (defScope st) L fI (.ref cda) cc) = (do
        let ov ← attributeBase (.Call (.Name "super" p0) [] [] p1) "__init__" (ksEnv q (defScope st) L fI (.ref cda) cc) (eval (.Call (.Name "super" p0) [] [] p1) (ksEnv q (defScope st) L fI (.ref cda) cc))
        standAt p2.atName
        let (f, first) ← holding [ov] (getMethod ov "__init__" pl)
        callWith p3 f first (backTo p3 (starEach [msg] (ksEnv q (defScope st) L fI (.ref cda) cc))) []))
  head : ∃ ar, ((defArgs st).posonlyargs ++ (defArgs st).args).head? = some ar ∧ ar.arg = "self"
  ks : (defScope st).names.lookup ("super" : Str) = some .globalImplicit
  kc : (defScope st).names.lookup ("__class__" : Str) = some .free
  ka : (defScope st).names.lookup ("self" : Str) = some .local
  k : (defScope st).kind = .function
  co : (defScope st).isCoroutine = false
  gen : (defScope st).isGenerator = false
  nocell : ∀ x ∈ (defScope st).names, x.2 ≠ .cell
  binds : ∀ (s : Shared) (x : Addr) (qual : Str) (doc pm : Value) (an : Option Addr) (cda cc : Addr) (ct : Value), BindsTo s (ksFn "__init__" qual (defArgs st) (defBody st) (defScope st) .none .none doc pm an (.ref cda) ct cc) ⟨[.ref x], []⟩ [("self", .ref x)]
section
variable {prog : Program} {w : World} {A : Around} {E : Value → Shared → Prop} {R : Result → Shared → Prop} {s : Shared} {K : Frag} {mg : Str → Option Value} {base : Heap}
theorem init0 {C fI cc cda x t0 : Addr} {st : Stmt} {qual : Str} {oc doc pm ct : Value} {od an : Option Addr} {osl : Array (Option Value)} (S : Sh0 prog w st) (T : Txt prog K mg C fI cc cda) (Mo : Mod K mg base) (kb : ∀ b o, base.get? b = some o → s.heap.get? b = some o)
    (hf : K.lookup fI = some ⟨oc, od, .func (ksFn "__init__" qual (defArgs st) (defBody st) (defScope st) .none .none doc pm an (.ref cda) ct cc), osl⟩) (hcd : codeIn K (.ref cda) qual = true)
    (hx : s.heap.get? x = some (excO C t0)) (hroom : A.depth < recursionLimit)
    (hq : ∀ h' tk t1, (∀ b o, b ≠ x → s.heap.get? b = some o → h'.get? b = some o) → h'.get? x = some (excO C t1) → R (.ok (.ret .none)) { s with heap := h', toks := tk }) :
    codeAny (model prog w) A (.call (.ref fI) ⟨[.ref x], []⟩) R s := by
  obtain ⟨msg, p0, p1, p2, p3, p4, pl, hb, hmsg, hev⟩ := S.body
  obtain ⟨ar, har, hself⟩ := S.head
  have X : K.In s.heap := Mo.kin.keeps kb
  refine ks_codeAny_call_defAt (fd := ksFn "__init__" qual (defArgs st) (defBody st) (defScope st) .none .none doc pm an (.ref cda) ct cc) (body := defBody st) (binds := [("self", .ref x)]) hroom (X _ _ hf) rfl (Mo.nolimit.keeps kb) (codeRec_of X hcd) rfl (S.binds s x qual doc pm an cda cc ct) S.nocell (fun y hy => ?_) (fun h1 hns k1 => ?_) S.co S.gen S.k
  · rw [List.mem_singleton.mp hy]; exact S.ka
  · have hx1 := k1 _ _ hx
    have kb1 : ∀ b o, base.get? b = some o → h1.get? b = some o := fun b o e => k1 b o (kb b o e)
    obtain ⟨e0, e1, e2, e3⟩ := hev qual s.heap.objs.size fI cda cc
    have hv1 : (fun y => List.lookup y [(("self" : Str), Value.ref x)].reverse) "self" = some (.ref x) := by
      show List.lookup ("self" : Str) ([(("self" : Str), Value.ref x)] : List (Str × Value)) = _
      simp [List.lookup]
    show PySem.wpAt (model prog w) (A.deeper (ksEnv qual (defScope st) s.heap.objs.size fI (.ref cda) cc)) (.func (defBody st) (ksEnv qual (defScope st) s.heap.objs.size fI (.ref cda) cc)) (execs (defBody st) (ksEnv qual (defScope st) s.heap.objs.size fI (.ref cda) cc)) _ _ _
    generalize hbb : defBody st = bb at hb ⊢
    rw [hb]
    refine ks_wpAt_execs_cons (super_stmt (pl := pl) T Mo kb1 hf har hself S.ks S.kc S.ka S.k hns hv1 hx1 (fun s' Q' hn q => hmsg _ _ _ _ _ _ _ _ _ _ hn q) (fun h2 tk2 t1 k2 hx2 => ?_) e0 e1 e2 e3)
    refine wpAt_of_wpAny ?_
    exact wpAny_execs_nil (hq h2 _ t1 (fun b o hb e => k2 b o hb (k1 b o e)) hx2)
structure Cls0 (prog : Program) (w : World) (K : Frag) (mg : Str → Option Value) (cn : Str) (C : Addr) : Prop where
  ex : ∃ (fI cc cda : Addr) (st : Stmt) (qual : Str) (oc doc pm ct : Value) (od an : Option Addr) (osl : Array (Option Value)), Sh0 prog w st ∧ Txt prog K mg C fI cc cda ∧
    K.lookup fI = some ⟨oc, od, .func (ksFn "__init__" qual (defArgs st) (defBody st) (defScope st) .none .none doc pm an (.ref cda) ct cc), osl⟩ ∧ codeIn K (.ref cda) qual = true
  gC : mg cn = some (.ref C)
  kC : keepIn K (.ref C) = true
  exC : subIn K (.ref C) (.type "BaseException") = some true
  tyC : typeIn K (.ref C) = some (.type "type")
theorem nil_size : ([] : List Value).length ≤ sizeLine := Nat.zero_le _
theorem made0 {cn : Str} {C : Addr} (Z : Cls0 prog w K mg cn C) (Mo : Mod K mg base) (kb : ∀ b o, base.get? b = some o → s.heap.get? b = some o) (hroom : A.depth + 1 < recursionLimit)
    (hq : ∀ h' tk e t1, (∀ b o, s.heap.get? b = some o → h'.get? b = some o) → s.heap.objs.size ≤ e → h'.get? e = some (excO C t1) → R (.ok (.ret (.ref e))) { s with heap := h', toks := tk }) :
    codeAny (model prog w) A (.call (.ref C) ⟨[], []⟩) R s := by
  obtain ⟨fI, cc, cda, st, qual, oc, doc, pm, ct, od, an, osl, S, T, hf, hcd⟩ := Z.ex
  obtain ⟨nm, q, N, bs, bm, sn, sub, ab, col, dd, k0, k1, k2, k3, k5, hC, hbm⟩ := T.cls
  have X : K.In s.heap := Mo.kin.keeps kb
  obtain ⟨hp, g, dr, tk, os⟩ := s
  have k : ∀ b o, hp.get? b = some o → ((hp.push (kdv_tup [])).push (excO C hp.objs.size)).get? b = some o := fun b o e => Heap.get?_push_of_some _ (Heap.get?_push_of_some _ e)
  have hget : ((hp.push (kdv_tup [])).push (excO C hp.objs.size)).get? (hp.objs.size + 1) = some (excO C hp.objs.size) := by heap_get
  refine PySem.HandSPX.call_own F.excBase_ValueError (fun X => PySem.HandSPX.refsVE_contains X bm hbm) (X _ _ hC) (looks_findIn X T.iC) (fun self => bind_fn X self T.tI) nil_size ?_
  refine init0 (s := ⟨(hp.push (kdv_tup [])).push (excO C hp.objs.size), g, dr, tk, os⟩) S T Mo (fun b o e => k b o (kb b o e)) hf hcd hget ?_ fun h' tk' t1 k' hx => ?_
  · show A.depth + 1 < recursionLimit
    exact hroom
  · have old : ∀ b o, hp.get? b = some o → h'.get? b = some o := fun b o e => k' b o (Nat.ne_of_lt (Nat.lt_succ_of_lt (Heap.lt_size e))) (k b o e)
    exact ⟨rfl, hq h' tk' (hp.objs.size + 1) t1 old (Nat.le_succ _) hx⟩
end
section
variable {X : Cx} {C : Addr}
def tMk0 (C : Addr) : L2.St → Hp → XK → Prop := fun _ H Q => Q (.ref C) none H
theorem pmk0 {cn : Str} {p pos : Pos} {k : Nat} (Z : Cls0 X.prog X.w X.K X.mg cn C) (hr : Room k X.A) (hg : Gl X cn := by rfl) (hdb : (cn == ("__debug__" : Str)) = false := by decide) :
    PMk X (.Call (.Name cn p) [] [] pos) (tMk0 C) := by
  intro pins s σ H Q I h
  refine wpAny_Call_Name_kw (ld_glob I hg Z.gC ?_ hdb)
  refine PySem.W.callWith_K0 I.kIn Z.kC ?_
  have hbk := I.bk
  obtain ⟨hp, g, dr, tk, os⟩ := s
  refine wpAny_call (made0 Z I.mod hbk (by have := hr.dp; omega) fun h' tk' e t1 old new hx => ?_)
  show MkP X pins σ Q (.ref e) ⟨h', g, dr, tk', os⟩
  obtain ⟨G', g1, g2⟩ := restrict h' fun b => decide (b ≠ e)
  have gk : ∀ b, b ≠ e → G'.get? b = h'.get? b := fun b hb => g1 b (decide_eq_true hb)
  have ge : G'.get? e = none := g2 e (by simp)
  have old' : ∀ b o, hp.get? b = some o → G'.get? b = some o := fun b o q => (gk b (Nat.ne_of_lt (Nat.lt_of_lt_of_le (Heap.lt_size q) new))).trans (old b o q)
  have J : Inv X pins σ H ⟨G', g, dr, tk', os⟩ := I.kept (t' := tk') old'
  refine ⟨e, _, _, ⟨G', g, dr, tk', os⟩, _, .ref C, none, rfl, J, fun b o q => ?_, ge, hx, ⟨rfl, rfl⟩, rfl, rfl, ?_, rfl, I.bare, raises_own Z.exC Z.tyC, h⟩
  · by_cases hb : b = e
    · have q' : G'.get? b = some o := q
      rw [hb, ge] at q'; cases q'
    · exact (gk b hb).symm.trans q
  · exact I.hok.fresh new
def tRaise0 (C : Addr) (W : WX) : TS := fun _ σ H => W (.ref C) none σ H
theorem ps_raise0 {cn : Str} {W : WX} {p pos pos2 : Pos} {k : Nat} (hc : X.calm = true) (Z : Cls0 X.prog X.w X.K X.mg cn C) (hr : Room k X.A) (tk : Takes X W) (hg : Gl X cn := by rfl) (hdb : (cn == ("__debug__" : Str)) = false := by decide) :
    PS X (.Raise (some (.Call (.Name cn p) [] [] pos)) none pos2) (tRaise0 C W) := ps_raise hc tk (pmk0 Z hr hg hdb)
end
theorem r_raise0 {C : Addr} {W : WX} {D : Ends} {σ : L2.St} {H : Hp} (k : W (.ref C) none σ H) : tRaise0 C W D σ H := k
theorem r_raiseC {C : Addr} {f : Str} {W : WX} {ta : TA} {D : Ends} {σ : L2.St} {H : Hp} (k : ta σ H fun vs H1 => ∃ v, vs = [v] ∧ ∀ d, H1 d = none → W (.ref C) (some d) σ (upd H1 d (.xd [(f, v)]))) : tRaiseC C f W ta D σ H := k
/-! ### isinstance(e, c), e a caught error of an own class without a dict -/
def rIs0 (K : PySem.W.Frag) (a : Addr) (cls : Value) (d : Option Addr) : List V → Hp → VK → Prop := fun xs H Q => ∃ (D : Addr) (c : V) (cv : Value) (b : Bool), cls = .ref D ∧ d = none ∧ ExcC K D ∧ xs = [.ref a, c] ∧ (∀ u, RelV c u → u = cv) ∧ PySem.W.kitOne K (.ref D) cv = some b ∧ Q (.bl b) H
theorem call_is0 {X : Cx} {a : Addr} {cls : Value} {d : Option Addr} {oe : Obj} {pn : List (Addr × Obj)} (hz : Zc cls d oe) (hf : ∃ vs, oe.data = .fields vs) : CallR (X.suite a ((a, oe) :: pn)) (.builtin "isinstance") (rIs0 X.K a cls d) := by
  intro pins s σ H xs us Q I r h
  obtain ⟨D, c, cv, b, rfl, rfl, C, rfl, hcv, e, q⟩ := h
  cases r with
  | cons rx rr =>
    cases rr with
    | cons rt rr =>
      cases rr
      cases rx
      have ec := hcv _ rt
      subst ec
      obtain ⟨hget, _⟩ := I.pin (a, oe) (List.mem_append.mpr (.inl List.mem_cons_self))
      obtain ⟨vs, hv⟩ := hf
      have J : PySem.W.InstAt s.heap a oe D none := by
        refine ⟨hget, hz.1, by unfold PySem.W.notCls; rw [hv] <;> rfl, ?_⟩
        rw [hz.2]; trivial
      obtain ⟨cd, hcd, _⟩ := PySem.W.any_some C.hd
      exact PySem.W.kia_one (PySem.W.kitx_exc (by rw [hcd]; rfl) C.hg C.hk C.hs C.ha C.hn C.ht C.hm) I.kIn J e (fun z => nomatch z) fun tk => ⟨.bl b, H, I.kept (t' := tk) fun _ _ z => z, rfl, q⟩
theorem r_is0 {K : PySem.W.Frag} {a D : Addr} {c : V} {cv : Value} {b : Bool} {H : Hp} {Q : VK} (C : ExcC K D) (hc : ∀ u, RelV c u → u = cv) (hk : PySem.W.kitOne K (.ref D) cv = some b) (k : Q (.bl b) H) :
    rIs0 K a (.ref D) none [.ref a, c] H Q := ⟨D, c, cv, b, rfl, rfl, C, rfl, hc, hk, k⟩
end Er
namespace Tz
/-! ### for .. in zip(t, u), t and u tuples -/
section
variable {K : PySem.W.Frag} {σ : L2.St} {H : Hp} {G : TG} {tas : TA} {ts : TS} {D : Ends}
def ForZA (K : PySem.W.Frag) (G : TG) (ts : TS) (D : Ends) (σ : L2.St) (us : List V) (H : Hp) : Prop := ∃ a b xs ys, us = [.ref a, .ref b] ∧ ((SqL K H a xs ∧ SqL K H b ys ∧ ForW (Itz K a b) G ts D σ H) ∨ (SqT K H a xs ∧ SqT K H b ys ∧ ForW (RZ.ItzT K a b) G ts D σ H))
end
/-! ### enumerate(t), t a tuple -/
/-- the tuple at a, numbered -/
def Itn (K : PySem.W.Frag) (a : Addr) : It :=
  ⟨fun i H => ∃ (xs : List V) (x : V), SqT K H a xs ∧ xs[i]? = some x, fun i H v H' => ∃ T x, v = .ref T ∧ H T = none ∧ H' = upd H T (.tup [.int (i : Nat), x]) ∧ ∀ xs, SqT K H a xs → xs[i]? = some x, fun i H => ∃ xs : List V, SqT K H a xs ∧ xs.length ≤ i⟩
def iEnumT (K : PySem.W.Frag) (ta : TA) : TI := fun σ H R => ta σ H fun vs H1 => ∃ a xs, vs = [.ref a] ∧ SqT K H1 a xs ∧ R (Itn K a) H1
section
variable {K : PySem.W.Frag} {σ : L2.St} {H : Hp} {G : TG} {tas : TA} {ts : TS} {D : Ends}
def ForNT (K : PySem.W.Frag) (G : TG) (ts : TS) (D : Ends) (σ : L2.St) (us : List V) (H : Hp) : Prop := ∃ a xs, us = [.ref a] ∧ SqT K H a xs ∧ ForW (Itn K a) G ts D σ H
end
end Tz
/-! for .. in zip(l, t), l a list and t a tuple of one length -/
namespace Zm
def ItM (K : PySem.W.Frag) (a b : Addr) : It where
  go := fun i H => ∃ (ls ts : List V) (v u : V), SqL K H a ls ∧ SqT K H b ts ∧ ls[i]? = some v ∧ ts[i]? = some u
  yld := fun i H v H' => ∃ T x y, v = .ref T ∧ H T = none ∧ H' = upd H T (.tup [x, y]) ∧ (∀ ls, SqL K H a ls → ls[i]? = some x) ∧ ∀ ts, SqT K H b ts → ts[i]? = some y
  stop := fun i H => ∃ ls ts : List V, SqL K H a ls ∧ SqT K H b ts ∧ i = ls.length ∧ i = ts.length
/-- the cells of such a zip -/
def Cells (N : Nat) : List Addr := [N + 4, N + 2, N + 3, N, N + 1]
def ZSt (N a b : Addr) (i : Nat) (h : Heap) : Prop :=
  IsZip h (N + 4) (N + 2) (N + 3) .none ∧ IsTupOf2 h (N + 2) (.ref N) (.ref (N + 1)) ∧ (∃ x y, IsTupOf2 h (N + 3) x y) ∧ h.IsListIter N a i ∧ h.IsTupleIter (N + 1) b i
def iZipM (K : PySem.W.Frag) (ta : TA) : TI := fun σ H R => ta σ H fun us H1 => ∃ a b ls ts, us = [.ref a, .ref b] ∧ SqL K H1 a ls ∧ SqT K H1 b ts ∧ R (ItM K a b) H1
section
variable {K : PySem.W.Frag} {σ : L2.St} {H : Hp} {G : TG} {tas : TA} {ts : TS} {D : Ends}
def ForZM (K : PySem.W.Frag) (G : TG) (ts : TS) (D : Ends) (σ : L2.St) (us : List V) (H : Hp) : Prop := ∃ a b xs ys, us = [.ref a, .ref b] ∧ SqL K H a xs ∧ SqT K H b ys ∧ ForW (ItM K a b) G ts D σ H
/-! for .. in enumerate(l), l a list -/
def ForNL (K : PySem.W.Frag) (G : TG) (ts : TS) (D : Ends) (σ : L2.St) (us : List V) (H : Hp) : Prop := ∃ a xs, us = [.ref a] ∧ SqL K H a xs ∧ ForW (Ite K a) G ts D σ H
theorem r_forNL (k : tas σ H fun us H1 => ForNL K G ts D σ us H1) : tFor (iEnum K tas) G ts D σ H := k
theorem forNL_go {a : Addr} {xs : List V} (Pv : Nat → L2.St → Hp → Prop) (hx : SqL K H a xs) (h0 : Pv 0 σ H) (hq : ∀ i σ' H', Pv i σ' H' → SqL K H' a xs)
    (hs : ∀ (i : Nat) (x : V) (T : Addr) σ' H', xs[i]? = some x → Pv i σ' H' → H' T = none → G (.ref T) σ' (upd H' T (.tup [.int (i : Nat), x])) fun σ2 H2 => ts { D with nx := Pv (i + 1), ct := Pv (i + 1), bk := D.nx } σ2 H2)
    (hd : ∀ σ' H', Pv xs.length σ' H' → D.nx σ' H') : ForNL K G ts D σ [.ref a] H := by
  refine ⟨a, xs, rfl, hx, fun i m σ H => m + i = xs.length ∧ Pv i σ H, ⟨xs.length, rfl, h0⟩, ?_⟩
  rintro i m σ H ⟨e, p⟩
  have q := hq i σ H p
  rcases Nat.eq_or_lt_of_le (show i ≤ xs.length by omega) with full | lt
  · subst full
    exact .inl ⟨⟨xs, q, Nat.le_refl _⟩, hd σ H p⟩
  · refine .inr ⟨⟨xs, xs[i], q, List.getElem?_eq_getElem lt⟩, Pv (i + 1), fun σ' H' p' => ⟨m - 1, by omega, by omega, p'⟩, ?_⟩
    rintro v H' ⟨T, x, rfl, nT, rfl, ex⟩
    exact hs i x T σ H (ex xs q) p nT
/-! [.. for .. in enumerate(t)], t a tuple -/
variable {tt : TT} {te : TE} {vs : List Nat} {Q : VK}
def CompNT (K : PySem.W.Frag) (G : TG) (tt : TT) (te : TE) (vs : List Nat) (σ : L2.St) (Q : VK) (us : List V) (H1 : Hp) : Prop := ∃ a xs, us = [.ref a] ∧ SqT K H1 a xs ∧ CompW (Tz.Itn K a) G tt te vs σ Q H1
end
end Zm
/-! sorted() of triples of two ints and a text, the pairs of ints telling the text -/
namespace So
open PySem PySem.Spec PyProof.Rows SrtO Srt L2
def IsTri (h : Heap) (v : Value) (x y : Int) (z : Str) : Prop := ∃ a o t u r n, v = .ref a ∧ h.get? a = some o ∧ o.cls = .type "tuple" ∧ o.data = .seq #[.int x t, .int y u, .str z r] n
theorem IsTri.keeps {h h' : Heap} {v : Value} {x y : Int} {z : Str} (p : IsTri h v x y z) (k : ∀ b o, h.get? b = some o → o.cls = .type "tuple" → h'.get? b = some o) : IsTri h' v x y z := by
  obtain ⟨a, o, t, u, r, n, e, ho, hc, hd⟩ := p
  exact ⟨a, o, t, u, r, n, e, k _ _ ho hc, hc, hd⟩
section
variable {prog : Program} {w : World} {A : Around} {E : Value → Shared → Prop} {s : Shared}
end
end So
/-- sorted(xs), xs a list of triples (int, int, text) where the two ints tell the text -/
def rSorted3 (K : PySem.W.Frag) : List V → Hp → VK → Prop := fun vs H Q => ∃ (a : Addr) (xs : List V) (k : V → Int × Int) (g : V → Str), vs = [V.ref a] ∧ SqL K H a xs ∧ (∀ x ∈ xs, ∃ t, x = V.ref t ∧ H t = some (.tup [.int (k x).1, .int (k x).2, .str (g x)])) ∧ (∀ x ∈ xs, ∀ y ∈ xs, k x = k y → g x = g y) ∧
  ∀ ys p, SrtO.Srtd (ltP k) ys → ys.Perm xs → H p = none → Q (.ref p) (upd H p (.lst ys))
/-! a run that wakes no sleeping generator of some: it may be told over the others alone, and the sleepers stand as they stood -/
end My
namespace My.Si
open PySem PyProof.Rows L2
open Sem (wp)
variable {M : Model}
/-- frames of calls only -/
def NoG : List Frame → Prop
  | [] => True
  | .ret .. :: r => NoG r
  | .gen .. :: _ => False
theorem NoG.app : ∀ {a b : List Frame}, NoG a → NoG b → NoG (a ++ b)
  | [], _, _, hb => hb
  | .ret .. :: r, _, ha, hb => NoG.app (a := r) ha hb
  | .gen .. :: _, _, ha, _ => ha.elim
theorem NoG.split : ∀ {a : List Frame}, NoG a → splitAtGen a = none
  | [], _ => rfl
  | .ret .. :: r, h => by
    have := NoG.split (a := r) h
    show (splitAtGen r).map _ = none
    rw [this]; rfl
  | .gen .. :: _, h => h.elim
def NoGE : End → Prop
  | .ret _ => True
  | .susp _ _ _ _ _ _ fs => NoG fs
/-- all that sleep have frames of calls only -/
def Tame (G : Array GenState) : Prop := ∀ (i : Nat) k l c p fs cl, G[i]? = some (.suspended k l c p fs cl) → NoG fs
def gone (F : Frame) : Frame := .ret (fun _ => .unsupported "") none false [] F.where_.1 F.where_.2 []
/-- a sleeper that nothing can wake, and that looks the same -/
def mute : GenState → GenState
  | .suspended _ _ c p fs cl => .suspended (fun _ => .unsupported "") [] c p (fs.map gone) cl
  | x => x
theorem NoG.gone : ∀ (fs : List Frame), NoG (fs.map gone)
  | [] => trivial
  | _ :: r => NoG.gone r
def Sleeps : Option GenState → Prop
  | some (.suspended ..) => True
  | _ => False
/-- at an index where G0 sleeps: muted there, as in G0 here; elsewhere the same -/
structure Sim (G0 a b : Array GenState) : Prop where
  le : G0.size ≤ a.size
  sz : a.size = b.size
  asleep : ∀ (i : Nat) x, G0[i]? = some x → Sleeps (some x) → a[i]? = some (mute x) ∧ b[i]? = some x
  awake : ∀ (i : Nat), ¬ Sleeps G0[i]? → a[i]? = b[i]?
section
variable {G0 a b : Array GenState}
theorem Sim.push (h : Sim G0 a b) (x : GenState) : Sim G0 (a.push x) (b.push x) where
  le := by rw [Array.size_push]; exact Nat.le_succ_of_le h.le
  sz := by rw [Array.size_push, Array.size_push, h.sz]
  asleep := fun i y e z => by
    have hi : i < a.size := Nat.lt_of_lt_of_le (Array.getElem?_eq_some_iff.mp e).1 h.le
    obtain ⟨e1, e2⟩ := h.asleep i y e z
    rw [Array.getElem?_push, Array.getElem?_push, if_neg (Nat.ne_of_lt hi), if_neg (by rw [← h.sz]; exact Nat.ne_of_lt hi)]
    exact ⟨e1, e2⟩
  awake := fun i z => by
    rw [Array.getElem?_push, Array.getElem?_push, h.sz, h.awake i z]
theorem Sim.set (h : Sim G0 a b) {g : Nat} (z : ¬ Sleeps G0[g]?) (x : GenState) : Sim G0 (a.setIfInBounds g x) (b.setIfInBounds g x) where
  le := by rw [Array.size_setIfInBounds]; exact h.le
  sz := by rw [Array.size_setIfInBounds, Array.size_setIfInBounds, h.sz]
  asleep := fun i y e w => by
    have ne : g ≠ i := fun q => z (by rw [q, e]; exact w)
    rw [Array.getElem?_setIfInBounds_ne ne, Array.getElem?_setIfInBounds_ne ne]
    exact h.asleep i y e w
  awake := fun i w => by
    rw [Array.getElem?_setIfInBounds, Array.getElem?_setIfInBounds, h.sz, h.awake i w]
theorem Tame.push (h : Tame a) (c : Code) : Tame (a.push (.fresh c)) := fun i k l c' p fs cl e => by
  rw [Array.getElem?_push] at e
  split at e
  · cases e
  · exact h i k l c' p fs cl e
theorem Tame.set (h : Tame a) {g : Nat} {x : GenState} (n : ∀ k l c p fs cl, x = .suspended k l c p fs cl → NoG fs) : Tame (a.setIfInBounds g x) := fun i k l c' p fs cl e => by
  rw [Array.getElem?_setIfInBounds] at e
  split at e
  · split at e
    · cases e; exact n _ _ _ _ _ _ rfl
    · cases e
  · exact h i k l c' p fs cl e
theorem Sim.start (G : Array GenState) : Sim G (G.map mute) G where
  le := by rw [Array.size_map]; exact Nat.le_refl _
  sz := Array.size_map ..
  asleep := fun i x e _ => ⟨by rw [Array.getElem?_map, e]; rfl, e⟩
  awake := fun i z => by
    rw [Array.getElem?_map]
    cases q : G[i]? with
    | none => rfl
    | some x =>
      rw [q] at z
      cases x with
      | suspended => exact (z trivial).elim
      | _ => rfl
theorem Tame.start (G : Array GenState) : Tame (G.map mute) := fun i k l c p fs cl e => by
  rw [Array.getElem?_map] at e
  cases q : G[i]? with
  | none => rw [q] at e; cases e
  | some x =>
    rw [q] at e
    cases x with
    | suspended k' l' c' p' fs' cl' =>
      have e := Option.some.inj e
      simp only [mute] at e
      cases e
      exact NoG.gone fs'
    | _ => cases e
end
theorem NoGE.gen {e : End} (h : NoGE e) : ∀ k l c p fs cl, e.genState = .suspended k l c p fs cl → NoG fs := fun k l c p fs cl q => by
  cases e with
  | ret _ => cases q
  | susp v g l k c p fs => cases q; exact h
/-- behind: the same, but for the sleepers -/
def After (G0 : Array GenState) {α : Type} (Q : α → Pos → Shared → Prop) : α → Pos → Shared → Prop := fun x p u => ∃ s', Tame s'.gens ∧ Sim G0 s'.gens u.gens ∧ u = { s' with gens := u.gens } ∧ Q x p s'
theorem AllBare.mute {G : Array GenState} (h : AllBare G) : AllBare (G.map mute) := fun x hx => by
  obtain ⟨i, hi, e⟩ := Array.mem_iff_getElem.mp hx
  rw [Array.getElem_map] at e
  have hi' : i < G.size := by simpa using hi
  have := h G[i] (Array.getElem_mem hi')
  rw [← e]
  cases q : G[i] with
  | suspended k l c p fs cl => rw [q] at this; exact this
  | _ => rfl
theorem Sim.bare {G0 a b : Array GenState} (h : Sim G0 a b) (ha : AllBare a) (h0 : AllBare G0) : AllBare b := fun x hx => by
  obtain ⟨i, hi, e⟩ := Array.mem_iff_getElem.mp hx
  have eb : b[i]? = some x := by rw [Array.getElem?_eq_getElem hi, e]
  by_cases z : Sleeps G0[i]?
  · cases q : G0[i]? with
    | none => rw [q] at z; exact z.elim
    | some y =>
      rw [q] at z
      rw [(h.asleep i y q z).2] at eb
      cases eb
      exact h0 _ (Array.mem_of_getElem? q)
  · rw [← h.awake i z] at eb
    exact ha x (Array.mem_of_getElem? eb)
end My.Si
namespace My
open PySem PySem.Spec PyProof.Rows L2 StX
/-! generators that are walked by a for statement: the generator runs on while its consumer's loop sleeps, and the other way round -/
namespace Gn
open PySem PySem.Spec PyProof.Rows L2 StX GenW
/-! ### a heap up to an address -/
def cutHeap (L : Nat) (h : Heap) : Heap := { h with objs := h.objs.extract 0 L }
def cutS (L : Nat) (s : Shared) : Shared := { s with heap := cutHeap L s.heap }
theorem cut_lt {L b : Nat} {h : Heap} (hb : b < L) : (cutHeap L h).get? b = h.get? b := by
  have e : (h.objs.extract 0 L)[b]? = h.objs[b]? := by
    rw [Array.getElem?_extract]
    split
    · rw [Nat.zero_add]
    · rename_i z
      rw [Array.getElem?_eq_none (by omega)]
  unfold Heap.get? cutHeap
  simp only [e]
theorem cut_of {L b : Nat} {h : Heap} {o : Obj} (q : (cutHeap L h).get? b = some o) : b < L ∧ h.get? b = some o := by
  have hb : b < L := by
    have := Heap.lt_size q
    have : b < (h.objs.extract 0 L).size := this
    rw [Array.size_extract] at this
    omega
  exact ⟨hb, by rw [← cut_lt hb]; exact q⟩
theorem cut_size {L : Nat} {h : Heap} (hl : L ≤ h.objs.size) : (cutHeap L h).objs.size = L := by
  show (h.objs.extract 0 L).size = L
  rw [Array.size_extract]; omega
/-! ### a generator def's frame, at rest and running -/
structure GP where
  prog : Program
  w : World
  K : PySem.W.Frag
  mg : Str → Option Value
  base : Heap
  N : List Str
  qual : Str
  scope : Scope
  f : Addr
  cd : Value
  A : Around
  outer : List Env
  L : Addr
  pn : List (Addr × Obj)
abbrev GP.env (g : GP) : Env := envOfC g.qual g.scope g.L g.f g.cd
/-- its body's context, as woken at s, where H is known -/
abbrev GP.X (g : GP) (s : Shared) (H : Hp) : Cx where
  prog := g.prog
  w := g.w
  K := g.K
  mg := g.mg
  base := g.base
  A := g.A.deeper g.env
  N := g.N
  s_0 := cutS g.L s
  H_0 := H
  env := g.env
  outer := g.outer
  stack := g.env :: g.outer
  ex := []
  fn := fun _ => true
  calm := true
  pn := g.pn
  xe := fun _ _ => False
structure GP.Ok (g : GP) : Prop where
  mod : Mod g.K g.mg g.base
  kind : g.scope.kind = .function
  nocell : cellsFrom (g.L + 1) g.scope.names [] = []
  nofree : ∀ x, g.scope.names.lookup x ≠ some .cell ∧ g.scope.names.lookup x ≠ some .free
  bsz : g.base.objs.size ≤ g.L
  fr : ∀ b ∈ frs g.outer, b < g.L
  hd : g.A.handled = none
  frames : g.A.frames = some g.outer
/-- its own things, at rest -/
structure Rest (g : GP) (ip : List (Addr × Obj)) (σ : L2.St) (s : Shared) : Prop where
  loc : ∃ m, s.heap.Ns g.L m ∧ ∀ (i : Nat) (x : Str) (v : V), g.N[i]? = some x → σ[i]? = some (some v) → Vis g.scope x → ∃ u, RelV v u ∧ g.env.kindOf x = some .local ∧ m x = some u
  pin : ∀ p ∈ g.pn ++ ip, s.heap.get? p.1 = some p.2 ∧ p.1 ≠ g.L ∧ p.1 ∉ frs g.outer ∧ ∀ v, p.2.data ≠ .cell v
  len : σ.length = g.N.length
section
variable {g : GP} {ip : List (Addr × Obj)} {σ : L2.St} {s s0 s2 : Shared} {H Hw H2 : Hp}
theorem Rest.of (G : g.Ok) (I : Inv (g.X s0 Hw) ip σ H s) : Rest g ip σ s := by
  obtain ⟨m, hn, hl⟩ := I.loc
  refine ⟨⟨m, hn, fun i x v e1 e2 e3 => ?_⟩, fun p hp => ?_, I.len⟩
  · obtain ⟨u, r, l⟩ := hl i x v e1 e2 e3
    rcases l with ⟨k, e⟩ | ⟨k, _⟩
    · exact ⟨u, r, k, e⟩
    · exact (k.elim (G.nofree x).1 (G.nofree x).2).elim
  · obtain ⟨h1, _, h3, h4, h5⟩ := I.pin p hp
    exact ⟨h1, h3, h4, h5⟩
theorem Rest.keep (R : Rest g ip σ s) (hL : ∀ o, s.heap.get? g.L = some o → s2.heap.get? g.L = some o) (hp : ∀ p ∈ g.pn ++ ip, s.heap.get? p.1 = some p.2 → s2.heap.get? p.1 = some p.2) : Rest g ip σ s2 := by
  obtain ⟨m, ⟨o, es, ep, ho, r⟩, hl⟩ := R.loc
  refine ⟨⟨m, ⟨o, es, ep, hL o ho, r⟩, hl⟩, fun p h => ?_, R.len⟩
  obtain ⟨h1, h2⟩ := R.pin p h
  exact ⟨hp p h h1, h2⟩
/-- it is woken -/
theorem Rest.wake (G : g.Ok) {A : Around} (R : Rest g ip σ s) (e0 : Env0 g.prog g.w g.K g.mg g.base A g.outer s H) (hL : H g.L = Option.none) (hp : ∀ p ∈ g.pn ++ ip, H p.1 = Option.none) : Inv (g.X s H) ip σ H s := by
  obtain ⟨m, hn, hl⟩ := R.loc
  have hlt : g.L < s.heap.objs.size := hn.lt
  have nc : ∀ x c, g.env.cells.lookup x = some c → False := fun x c e => by
    have : (cellsFrom (g.L + 1) g.scope.names []).lookup x = some c := e
    rw [G.nocell] at this
    cases this
  have sz : (cutS g.L s).heap.objs.size = g.L := cut_size (Nat.le_of_lt hlt)
  refine ⟨⟨G.mod, G.kind, rfl, rfl, Nat.le_of_eq sz, fun x y c e => (nc x c e).elim, fun x hx => (hx.elim (G.nofree x).1 (G.nofree x).2).elim, fun x c _ e => (nc x c e).elim, fun _ => G.hd, Around.frames_deeper G.frames,
    .inr ⟨rfl, rfl⟩, fun b hb => (List.not_mem_nil hb).elim, fun b o e => ?_, by show g.base.objs.size ≤ (cutS g.L s).heap.objs.size; rw [sz]; exact G.bsz, fun b o _ hb => (List.not_mem_nil hb).elim, fun b hb => (List.not_mem_nil hb).elim, ?_, fun b hb => ?_⟩,
    rfl, e0.bare, ⟨fun b o e _ _ _ => (cut_of e).2, fun b o e _ _ _ => ⟨o.slots, (cut_of e).2⟩, fun b o e n _ => ?_, fun b o e _ => ⟨o, (cut_of e).2⟩, fun b xs e => e, fun b o u e => e, fun b ps e => ⟨#[], by rw [show H b = _ from e]; simp⟩⟩,
    ⟨m, hn, fun i x v e1 e2 e3 => ?_⟩, fun x c e => (nc x c e).elim, hL, fun x c e => (nc x c e).elim, fun p h => ?_, e0.hok, R.len⟩
  · have hb : b < g.L := Nat.lt_of_lt_of_le (Heap.lt_size e) G.bsz
    obtain ⟨h1, h2⟩ := e0.bs b o e
    exact ⟨by rw [show (cutS g.L s).heap = cutHeap g.L s.heap from rfl, cut_lt hb]; exact h1, h2⟩
  · show (cutHeap g.L s.heap).FunFrames g.base g.outer
    have all : ∀ (l : List Env), (∀ b ∈ frs l, b < g.L) → s.heap.FunFrames g.base l → (cutHeap g.L s.heap).FunFrames g.base l := by
      intro l
      induction l with
      | nil => intro _ _; trivial
      | cons env r ih =>
        intro hs hf
        obtain ⟨hk, ⟨L, o, hfr, hnn, ho, hd⟩, hr⟩ := hf
        have hLb : L < g.L := hs L (by unfold frs; rw [List.filterMap_cons, hfr]; exact List.mem_cons_self)
        exact ⟨hk, ⟨L, o, hfr, hnn, by rw [cut_lt hLb]; exact ho, hd⟩, ih (fun b hb => hs b (by unfold frs; rw [List.filterMap_cons, hfr]; exact List.mem_cons_of_mem _ hb)) hr⟩
    exact all g.outer G.fr e0.funs
  · exact e0.frf b hb
  · exact n
  · obtain ⟨u, r, k, e⟩ := hl i x v e1 e2 e3
    exact ⟨u, r, .inl ⟨k, e⟩⟩
  · obtain ⟨h1, h2, h3, h4⟩ := R.pin p h
    exact ⟨h1, hp p h, h2, h3, h4⟩
/-! ### the consumer, behind a turn of the generator -/
structure Fits (g : GP) (X : Cx) (pins : List (Addr × Obj)) : Prop where
  prog : g.prog = X.prog
  w : g.w = X.w
  outer : g.outer = X.stack
  sz : X.s_0.heap.objs.size ≤ g.L
  loc : X.env.locals < g.L
  cells : ∀ x c, X.env.cells.lookup x = some c → c < g.L
  pins : ∀ p ∈ X.pn ++ pins, p.1 < g.L
end
end Gn
namespace Gn
open PySem PySem.Spec PyProof.Rows L2 StX GenW
/-- what the two sides agree on: n items, the i-th with a heap as Φ says; the consumer changes the objects at M alone; CI is the consumer's own at the i-th waking -/
structure Deal where
  n : Nat
  Φ : Nat → V → Hp → Prop
  M : List Addr
  CI : Nat → Hp → Shared → Prop
def hKind : HO → Nat
  | .tup _ => 0
  | .lst _ => 1
  | .dK _ => 2
  | _ => 3
/-- but for M all is kept, and what M names keeps its kind -/
def KeepG (M : List Addr) (H H' : Hp) : Prop := Keep M H H' ∧ ∀ a ∈ M, ∀ o, H a = some o → ∃ o', H' a = some o' ∧ hKind o' = hKind o
theorem KeepG.refl (M : List Addr) (H : Hp) : KeepG M H H := ⟨Keep.refl _ _, fun _ _ o h => ⟨o, h, rfl⟩⟩
theorem KeepG.all {M : List Addr} {H H' : Hp} (h : Keep [] H H') : KeepG M H H' := ⟨fun a o _ e => h a o (by simp) e, fun a _ o e => ⟨o, h a o (by simp) e, rfl⟩⟩
theorem KeepG.trans {M : List Addr} {H H1 H2 : Hp} (a : KeepG M H H1) (b : KeepG M H1 H2) : KeepG M H H2 := ⟨a.1.trans b.1, fun c hc o e => by
  obtain ⟨o1, e1, k1⟩ := a.2 c hc o e
  obtain ⟨o2, e2, k2⟩ := b.2 c hc o1 e1
  exact ⟨o2, e2, k2.trans k1⟩⟩
theorem KeepG.at {M : List Addr} {H H' : Hp} {a : Addr} {o : HO} (h : KeepG M H H') (k : ∀ b ∈ M, ∀ o', H b = some o' → hKind o' ≠ hKind o) (e : H a = some o) : H' a = some o := h.1 a o (fun hm => k a hm o e rfl) e
structure Resumes (g : GP) (ip : List (Addr × Obj)) (M : List Addr) (H : Hp) (s : Shared) (H2 : Hp) (s2 : Shared) : Prop where
  env : Env0 g.prog g.w g.K g.mg g.base g.A g.outer s2 H2
  free : H2 g.L = Option.none
  fp : ∀ p ∈ g.pn ++ ip, H2 p.1 = Option.none ∧ s2.heap.get? p.1 = some p.2
  kL : ∀ o, s.heap.get? g.L = some o → s2.heap.get? g.L = some o
  keep : KeepG M H H2
def YP (g : GP) (d : Deal) : Protocol := fun m s0 v s kap =>
  ∃ i Hw x ip σ H, m + 1 + i = d.n ∧ d.CI i Hw s0 ∧ Inv (g.X s0 Hw) ip σ H s ∧ Keep [] Hw H ∧ d.Φ i x H ∧ RelV x v ∧ ∀ H2 s2, d.CI (i + 1) H2 s2 → Resumes g ip d.M H s H2 s2 → kap (.send .none) s2 ∧ kap (.send (.bool true)) s2
/-- behind a statement: (items so far, heap at the last waking, slots, heap) -/
abbrev TGn := (Nat → Hp → L2.St → Hp → Prop) → Nat → Hp → L2.St → Hp → Prop
structure GCc (g : GP) (c : Code) (fs : List Frame) (gd : Bool → Bool) : Prop where
  over : g.A.over c fs = g.A.deeper g.env
  split : splitAtGen fs = none
  guard : fs.any Frame.guarded = false
  gd : gd false = false
structure At (g : GP) (d : Deal) (ip : List (Addr × Obj)) (n i : Nat) (Hw : Hp) (s0 s : Shared) (σ : L2.St) (H : Hp) : Prop where
  cnt : n + i = d.n
  ci : d.CI i Hw s0
  lt : g.L < s0.heap.objs.size
  inv : Inv (g.X s0 Hw) ip σ H s
def GRun (g : GP) (d : Deal) {α : Type} (m : α → Sem Flow) (t : TGn) (st : α) : Prop :=
  ∀ (R : GenEnd) (n i : Nat) (Hw : Hp) (s0 s : Shared) (σ : L2.St) (H : Hp) (ip : List (Addr × Obj)) (c : Code) (fs : List Frame) (Kf : Flow → Sem PySem.Fin) (J : Value → Sem PySem.Fin) (gd : Bool → Bool) (lv : List Value → List Value) (nx : Nat → Hp → L2.St → Hp → Prop),
    GCc g c fs gd → At g d ip n i Hw s0 s σ H →
    (∀ n i Hw s0 s σ H, At g d ip n i Hw s0 s σ H → nx i Hw σ H → Seg (model g.prog g.w) g.A R (YP g d) n s0 c (Kf .next) fs s) →
    t nx i Hw σ H → Seg (model g.prog g.w) g.A R (YP g d) n s0 c ((m st).wrap Kf J gd lv) fs s
structure GS (g : GP) (d : Deal) (st : Stmt) (t : TGn) : Prop where
  run : GRun g d (fun st => exec st g.env) t st
structure GSs (g : GP) (d : Deal) (st : List Stmt) (t : TGn) : Prop where
  run : GRun g d (fun st => execs st g.env) t st
section
variable {g : GP} {d : Deal} {st : Stmt} {rest : List Stmt}
def tPlain (t : TS) : TGn := fun nx i Hw σ H => t { nx := fun σ' H' => nx i Hw σ' H', rt := fun _ _ => False } σ H
def tG0 : TGn := fun nx i Hw σ H => nx i Hw σ H
def tThen (t u : TGn) : TGn := fun nx i Hw σ H => t (fun i' Hw' σ' H' => u nx i' Hw' σ' H') i Hw σ H
/-- yield -/
def tYield (n : Nat) (Φ : Nat → V → Hp → Prop) (M : List Addr) (te : TE) : TGn := fun nx i Hw σ H => i < n ∧ te σ H fun x H1 => Φ i x H1 ∧ Keep [] Hw H1 ∧ ∀ H2, KeepG M H1 H2 → nx (i + 1) H2 σ H2
/-! ### for within a generator -/
def tFor (wi : TI) (tg : TG) (tb : TGn) : TGn := fun nx i Hw σ H => wi σ H fun J H1 => ∃ W : Nat → Nat → Nat → Hp → L2.St → Hp → Prop, (∃ m, W 0 m i Hw σ H1) ∧ ∀ j m i Hw σ H, W j m i Hw σ H →
  (J.stop j H ∧ nx i Hw σ H) ∨ (J.go j H ∧ ∀ x H', J.yld j H x H' → tg x σ H' fun σ2 H2 => tb (fun i' Hw' σ' H'' => ∃ m', m' < m ∧ W (j + 1) m' i' Hw' σ' H'') i Hw σ2 H2)
section
variable {M : Model} {A : Around} {R : GenEnd} {Y : Protocol} {n : Nat} {s₀ s : Shared} {c : Code} {fs : List Frame} {Kf : Flow → Sem PySem.Fin} {J : Value → Sem PySem.Fin} {gd : Bool → Bool} {lv : List Value → List Value} {env : Env}
end
section
variable {g : GP} {d : Deal}
end
end
end Gn
namespace Gn
open PySem PySem.Spec PyProof.Rows L2 StX GenW
/-! ### a generator def's promise -/
/-- from the arguments and the heap: n items, Φ, M -/
abbrev SpG := List V → Hp → Nat → (Nat → V → Hp → Prop) → List Addr → Prop
def GRp (g : GP) (d : Deal) : GenEnd := fun m s0 r s1 => ((r = .ok (.ret .none) ∨ r = .ok .next) ∧ ∃ Hw ip σ H, d.CI d.n Hw s0 ∧ Inv (g.X s0 Hw) ip σ H s1 ∧ Keep [] Hw H) ∨ ∃ e : Value, r = .error e ∧ False
abbrev gp (P : Program) (w : World) (K : PySem.W.Frag) (mg : Str → Option Value) (base : Heap) (N : List Str) (qual : Str) (scope : Scope) (f : Addr) (cd : Value) (A : Around) (outer : List Env) (L : Addr) (pn : List (Addr × Obj)) : GP :=
  ⟨P, w, K, mg, base, N, qual, scope, f, cd, A, outer, L, pn⟩
structure Made (P : Program) (w : World) (K : PySem.W.Frag) (mg : Str → Option Value) (base : Heap) (k : Nat) (outer : List Env) (H : Hp) (s : Shared) (n : Nat) (Φ : Nat → V → Hp → Prop) (M : List Addr) (a : Addr) (gi : Nat) (go : Obj) (c : Code) (s' : Shared) : Prop where
  lo : s.heap.objs.size < a
  hi : a < s'.heap.objs.size
  gen : s'.heap.IsGen a gi
  obj : s'.heap.get? a = some go
  ocls : go.cls = .type "generator"
  odat : ∃ vs, go.data = .fields vs
  st : s'.gens[gi]? = some (.fresh c)
  os : s'.os = s.os
  bare : AllBare s'.gens
  keep : ∀ b o, s.heap.get? b = some o → s'.heap.get? b = some o
  wake : ∀ Aw : Around, Room k Aw → Aw.frames = some outer → ∃ (g : GP) (σ : L2.St), g.Ok ∧ g.prog = P ∧ g.w = w ∧ g.A = Aw ∧ g.L = s.heap.objs.size ∧ g.outer = outer ∧ g.pn = [(a, go)] ∧ Rest g [] σ s' ∧
    (∀ A' s2 H2, Env0 P w K mg base A' outer s2 H2 → Env0 g.prog g.w g.K g.mg g.base g.A g.outer s2 H2) ∧
    ∀ d : Deal, d.n = n → d.Φ = Φ → d.M = M → ∀ H2 s2, d.CI 0 H2 s2 → Inv (g.X s2 H2) [] σ H2 s2 → KeepG M H H2 → Seg (model P w) Aw (GRp g d) (YP g d) n s2 c ((model P w).den c) [] s2
structure GFn (P : Program) (w : World) (K : PySem.W.Frag) (mg : Str → Option Value) (base : Heap) (k : Nat) (f : Addr) (fd : FuncData) (ps : List Str) (sp : SpG) : Prop where
  len : ∀ vs H n Φ M, sp vs H n Φ M → vs.length = ps.length
  run : ∀ (A : Around) (outer : List Env) (s : Shared) (H : Hp) (args : Args) (us : List Value) (vs : List V) n Φ M, Room k A → Env0 P w K mg base A outer s H → BindsTo s fd args (ps.zip us) → Vals vs us → sp vs H n Φ M →
    codeAny (model P w) A (.call (.ref f) args) (fun r s' => match r with | .ok (.ret u) => ∃ a gi go c, u = .ref a ∧ Made P w K mg base k outer H s n Φ M a gi go c s' | _ => False) s
end Gn
namespace Gn
open PySem PySem.Spec PyProof.Rows L2 StX GenW
/-- for .. in f(..): f a generator def -/
def tForG (sp : SpG) (ta : TA) (gt : TG) (tb : TS) : TS := fun D σ H => ta σ H fun vs H1 => ∃ n Φ M, sp vs H1 n Φ M ∧ ∃ W : Nat → L2.St → Hp → Prop, W 0 σ H1 ∧
  (∀ i σ H, i < n → W i σ H → ∀ x H', Keep [] H H' → Φ i x H' → gt x σ H' fun σ2 H2 => tb { nx := fun σ3 H3 => KeepG M H' H3 ∧ W (i + 1) σ3 H3, rt := D.rt, bk := D.nx, ct := fun σ3 H3 => KeepG M H' H3 ∧ W (i + 1) σ3 H3 } σ2 H2) ∧
  ∀ σ H, W n σ H → ∀ H', Keep [] H H' → D.nx σ H'
section
variable {X : Cx} {f : Addr} {fd : FuncData} {ps : List Str} {sp : SpG} {k : Nat} {x : Str} {p pos pos' : Pos} {e : Expr} {es : List Expr} {ta : TA} {tg : Expr} {gt : TG} {body : List Stmt} {tb : TS}
end
end Gn
/-! ### the same with two fields: def __init__(self, f, g): super().__init__(msg); self.f = f; self.g = g -/
namespace Er
open PySem.W PySem.Calls PySem.HandSPX
structure Sh2 (prog : Program) (w : World) (st : Stmt) (f g : Str) : Prop where
  body : ∃ (msg : Expr) (p0 p1 p2 p3 p4 q1 q2 q3 q4 r1 r2 r3 r4 : Pos) (pl : Sem Bool), defBody st = [.Expr (.Call (.Attribute (.Call (.Name "super" p0) [] [] p1) "__init__" p2) [msg] [] p3) p4, .Assign [.Attribute (.Name "self" q1) f q2] (.Name f q3) q4, .Assign [.Attribute (.Name "self" r1) g r2] (.Name g r3) r4] ∧
    (∀ (q : Str) (L fI cda cc : Addr) (m : Str → Option Value) (v u : Value) (A : Around) (E : Value → Shared → Prop) (s : Shared) (Q : Value → Shared → Prop), m f = some v → m g = some u → MsgV v → MsgV u → s.heap.Ns L m → (∀ (z : Str) tk n, Q (.str z tk) { s with toks := n }) →
      wpAny (model prog w) A (eval msg (ksEnv q (defScope st) L fI (.ref cda) cc)) Q E s) ∧
    (∀ (q : Str) (L fI cda cc : Addr), interactive (ksEnv q (defScope st) L fI (.ref cda) cc) = false ∧ starEach [msg] (ksEnv q (defScope st) L fI (.ref cda) cc) = (false, eval msg (ksEnv q (defScope st) L fI (.ref cda) cc)) :: starEach [] (ksEnv q (defScope st) L fI (.ref cda) cc) ∧
      swapsWith (.Call (.Attribute (.Call (.Name "super" p0) [] [] p1) "__init__" p2) [msg] [] p3) none p4.line (ksEnv q (defScope st) L fI (.ref cda) cc) = pure false ∧
      eval (.Call (.Attribute (.Call (.Name "super" p0) [] [] p1) "__init__" p2) [msg] [] p3) (ksEnv q (defScope st) L fI (.ref cda) cc) = (do
        let ov ← attributeBase (.Call (.Name "super" p0) [] [] p1) "__init__" (ksEnv q (defScope st) L fI (.ref cda) cc) (eval (.Call (.Name "super" p0) [] [] p1) (ksEnv q (defScope st) L fI (.ref cda) cc))
        standAt p2.atName
        let (f, first) ← holding [ov] (getMethod ov "__init__" pl)
        callWith p3 f first (backTo p3 (starEach [msg] (ksEnv q (defScope st) L fI (.ref cda) cc))) []) ∧
      swapsWith (.Name f q3) (some (.Attribute (.Name "self" q1) f q2)) q4.line (ksEnv q (defScope st) L fI (.ref cda) cc) = pure false ∧
      swapsWith (.Name g r3) (some (.Attribute (.Name "self" r1) g r2)) r4.line (ksEnv q (defScope st) L fI (.ref cda) cc) = pure false)
  head : ∃ ar, ((defArgs st).posonlyargs ++ (defArgs st).args).head? = some ar ∧ ar.arg = "self"
  ks : (defScope st).names.lookup ("super" : Str) = some .globalImplicit
  kc : (defScope st).names.lookup ("__class__" : Str) = some .free
  ka : (defScope st).names.lookup ("self" : Str) = some .local
  kf : (defScope st).names.lookup f = some .local
  kg : (defScope st).names.lookup g = some .local
  fd : (f == ("__debug__" : Str)) = false
  gd : (g == ("__debug__" : Str)) = false
  fs : (("self" : Str) == f) = false
  gs : (("self" : Str) == g) = false
  fg : (f == g) = false
  k : (defScope st).kind = .function
  co : (defScope st).isCoroutine = false
  gen : (defScope st).isGenerator = false
  nocell : ∀ x ∈ (defScope st).names, x.2 ≠ .cell
  binds : ∀ (s : Shared) (x : Addr) (v u : Value) (qual : Str) (doc pm : Value) (an : Option Addr) (cda cc : Addr) (ct : Value), BindsTo s (ksFn "__init__" qual (defArgs st) (defBody st) (defScope st) .none .none doc pm an (.ref cda) ct cc) ⟨[.ref x, v, u], []⟩ [("self", .ref x), (f, v), (g, u)]
section
variable {prog : Program} {w : World} {A : Around} {E : Value → Shared → Prop} {R : Result → Shared → Prop} {s : Shared} {K : Frag} {mg : Str → Option Value} {base : Heap}
def two (f g : Str) (v u : Value) : Str → Option Value := fun y => if y = g then some u else if y = f then some v else none
/-- all that is told of an own error class of two arguments -/
structure Cls2 (prog : Program) (w : World) (K : Frag) (mg : Str → Option Value) (cn f g : Str) (C : Addr) : Prop where
  ex : ∃ (fI cc cda : Addr) (st : Stmt) (qual : Str) (oc doc pm ct : Value) (od an : Option Addr) (osl : Array (Option Value)), Sh2 prog w st f g ∧ Txt prog K mg C fI cc cda ∧
    K.lookup fI = some ⟨oc, od, .func (ksFn "__init__" qual (defArgs st) (defBody st) (defScope st) .none .none doc pm an (.ref cda) ct cc), osl⟩ ∧ codeIn K (.ref cda) qual = true
  gC : mg cn = some (.ref C)
  kC : keepIn K (.ref C) = true
  noN : findIn K (.ref C) f = some none
  noM : findIn K (.ref C) g = some none
  exC : subIn K (.ref C) (.type "BaseException") = some true
  tyC : typeIn K (.ref C) = some (.type "type")
end
section
variable {X : Cx} {C : Addr}
def tMk2 (C : Addr) (f g : Str) (ta : TA) : L2.St → Hp → XK → Prop := fun σ H Q => ta σ H fun vs H1 => ∃ v u, vs = [v, u] ∧ MsgA v ∧ MsgA u ∧ ∀ d, H1 d = none → Q (.ref C) (some d) (upd H1 d (.xd [(g, u), (f, v)]))
/-- raise C(e, e2) -/
def tRaise2 (C : Addr) (f g : Str) (W : WX) (ta : TA) : TS := fun _ σ H => tMk2 C f g ta σ H fun cls d H' => W cls d σ H'
end
end Er
namespace Dt
open PySem PySem.Spec PyProof.Rows PyProof.V L2 StX
/-! ### {k: v}, the key a tuple -/
def tDisp1T (tk tv : TE) : TE := fun σ H Q => ∀ p, H p = none → tk σ (upd H p (.dT [])) fun y H1 => tv σ H1 fun z H2 => ∃ (k : List Key) (q : Addr), y = .ref q ∧ H2 p = some (.dT []) ∧ H2 q = some (.tup (k.map kV)) ∧ Q (.ref p) (upd H2 p (.dT [(k, z)]))
/-! ### d.pop(q), the key there -/
def tDPop1T (td ty : TE) : TE := fun σ H Q => td σ H fun x H1 => ∃ a, x = .ref a ∧ IsD H1 a ∧ ty σ H1 fun y H2 => ∃ (kvs : Tb) (k : List Key) (q : Addr) (v : V), H2 a = some (.dT kvs) ∧ y = .ref q ∧ H2 q = some (.tup (k.map kV)) ∧ valV kvs k = some v ∧ Q v (upd H2 a (.dT (dropK kvs k)))
/-! ### == and != of two dicts with tuples as keys, the values flat -/
section
variable {prog : Program} {w : World} {Ky : Type} [DecidableEq Ky] {knd : HeapKind prog w Ky} {A : Around} {E : Value → Shared → Prop} {s : Shared}
end
def eqB (lvs : Tb) (p : List Key × V) : Bool := match valV lvs p.1 with
  | some v => L2.eqV p.2 v
  | none => false
def mapEq (kvs lvs : Tb) : Bool := decide (kvs.length = lvs.length) && kvs.all (eqB lvs)
def rCmpM (neg : Bool) : R2 := fun x y H Q => ∃ (a b : Addr) (kvs lvs : Tb), x = .ref a ∧ y = .ref b ∧ Rd H a (.dT kvs) ∧ Rd H b (.dT lvs) ∧ (∀ p ∈ kvs, L2.flatV p.2 = true) ∧ (∀ p ∈ lvs, L2.flatV p.2 = true) ∧ Q (.bl (if neg then !mapEq kvs lvs else mapEq kvs lvs)) H
/-! ### C(..) in a try: what is raised is wished for at the caller's slots -/
section
variable {X : Cx} {CX : CXT} {C f : Addr} {fd : FuncData} {k : Nat} {sp : Sp} {ps : List Str} {ds : List Value} {dvs : List V} {E : L2.St → XK} {x : Str} {p pos : Pos} {e : Expr} {es : List Expr} {t : TA}
def tMakeSD (C : Addr) (sp : Sp) (dvs : List V) (E : L2.St → XK) (t : TA) : TE := fun σ H Q => t σ H fun vs H1 => ∀ x dx, H1 x = none → H1 dx = none → dx ≠ x → sp (.ref x :: (vs ++ dvs)) (upd (upd H1 dx (.own x)) x (.ins C dx [])) (fun v H2 => v = .non ∧ Q (.ref x) H2) (E σ)
end
end Dt
namespace Ow
open PySem PySem.Spec PyProof.Rows PyProof.V L2 StX
open PySem.W PySem.Calls
/-! ### n + x -/
section
open PySem.Builtin
section
variable {prog : Program} {w : World} {A : Around} {E : Value → Shared → Prop} {s : Shared} {K : Frag} {x C dx f : Addr} {od : Obj}
end
end
section
variable {X : Cx} {CX : CXT} {k : Nat} {C f : Addr} {sp : Sp} {E : XK}
end
/-! ### n - x -/
section
open PySem.Builtin
section
variable {prog : Program} {w : World} {A : Around} {E : Value → Shared → Prop} {s : Shared} {K : Frag} {x C dx f : Addr} {od : Obj}
end
end
section
variable {X : Cx} {CX : CXT} {k : Nat} {C f : Addr} {sp : Sp} {E : XK}
end
end Ow
namespace Dt
open PySem PySem.Spec PyProof.Rows PyProof.V L2 StX
/-! ### an object called within a try -/
section
variable {X : Cx} {CX : CXT} {C g : Addr} {k : Nat} {sp : Sp} {fe e : Expr} {es : List Expr} {tf : TE} {t : TA} {pos : Pos} {pins : List (Addr × Obj)} {σ : L2.St} {H : Hp} {s : Shared}
def tCallOSD (C : Addr) (sp : Sp) (E : L2.St → XK) (tf : TE) (t : TA) : TE := fun σ H Q => tf σ H fun y H1 => ∃ a, y = V.ref a ∧ t σ H1 fun vs H2 => (∃ dx fs, H2 a = some (.ins C dx fs)) ∧ sp (V.ref a :: vs) H2 Q (E σ)
end
end Dt
namespace Kw
open PySem PySem.Spec PyProof.Rows PyProof.V L2 StX
/-! ### def f(*a, **k), called with keywords -/
section
variable {prog : Program} {w : World} {A : Around} {E : Value → Shared → Prop}
end
/-- the keywords as the dict holds them -/
def kwD (ks : List Str) (zs : List V) : List (Key × V) := (ks.map (Sum.inr (α := Int))).zip zs
section
variable {P : Program} {w : World} {H : Hp}
end
/-- a call with the keywords ks -/
def FnKw (P : Program) (w : World) (K : PySem.W.Frag) (mg : Str → Option Value) (base : Heap) (CX : CXT) (k : Nat) (f : Addr) (ks : List Str) (sp : List V → List V → Hp → VK → XK → Prop) : Prop :=
  ∀ (A : Around) (outer : List Env) (s : Shared) (H : Hp) (us ws : List Value) (vs zs : List V) (Q : VK) (E : XK), Room k A → Env0 P w K mg base A outer s H → L2.Vals vs us → L2.Vals zs ws → zs.length = ks.length → sp vs zs H Q E →
    codeAny (model P w) A (.call (.ref f) ⟨us, ks.zip ws⟩) (CR CX outer P w H s Q E) s
section
variable {P : Program} {w : World} {K : PySem.W.Frag} {mg : Str → Option Value} {base : Heap} {CX : CXT} {k : Nat} {f : Addr} {name qual : Str} {params : Arguments} {body : List Stmt} {scope : Scope} {dV kV doc pm cdv ct oc : Value} {an od : Option Addr} {osl : Array (Option Value)} {N : List Str} {sp : Sp}
end
/-! ### the call, in plain code and within a try -/
def tCallKw (m : Nat) (sp : List V → List V → Hp → VK → XK → Prop) (E : L2.St → XK) (t tk : TA) : TE := fun σ H Q => t σ H fun vs H1 => tk σ H1 fun zs H2 => zs.length = m ∧ sp vs zs H2 Q (E σ)
section
variable {X : Cx} {CX : CXT} {k : Nat} {f : Addr} {ks : List Str} {sp : List V → List V → Hp → VK → XK → Prop} {x : Str} {p pos : Pos} {e : Expr} {es : List Expr} {kws : List Keyword} {t tk : TA}
end
end Kw
namespace Kw
open PySem PySem.Spec PyProof.Rows PyProof.V L2 StX
section
variable {P : Program} {w : World} {K : PySem.W.Frag} {mg : Str → Option Value} {base : Heap} {x qual : Str} {st : Stmt} {f : Addr} {fd : FuncData} {N : List Str} {k : Nat} {sp : Sp} {pv pd : Str} {ks : List Str}
/-- what binding does: a new tuple, a new dict, filled -/
def KwTo (pv pd : Str) (us : List Value) (kw : List (Str × Value)) : Sem (List (Str × Value)) :=
  newTuple us >>= fun t => (alloc ({ cls := .type "dict", data := .dict #[] } : Obj) : Sem Addr) >>= fun d => (forIn kw PUnit.unit fun x _ => (nsSet d x.1 x.2 >>= fun _ => pure (ForInStep.yield PUnit.unit))) >>= fun _ => pure [(pv, t), (pd, Value.ref d)]
def KwB (x qual : Str) (st : Stmt) (pv pd : Str) (ks : List Str) : Prop := ∀ (kV doc pm : Value) (an : Option Addr) (cdv ct : Value) (us ws : List Value), ws.length = ks.length →
  bindArgs (PySem.W.fnOf x qual (defArgs st) (defBody st) (defScope st) .none kV doc pm an cdv ct) ⟨us, ks.zip ws⟩ = KwTo pv pd us (ks.zip ws)
def kwSp (ks : List Str) (sp : Sp) : List V → List V → Hp → VK → XK → Prop := fun vs zs H Q E => vs.length ≤ sizeLine ∧ ∀ p d, H p = Option.none → H d = Option.none → d ≠ p → sp [V.ref p, V.ref d] (upd (upd H p (.tup vs)) d (.dK (kwD ks zs))) Q E
end
end Kw
namespace Kw
open PySem PySem.Spec PyProof.Rows PyProof.V L2 StX
/-! ### sum(t) of a tuple of ints -/
def rSumT (K : PySem.W.Frag) : List V → Hp → VK → Prop := fun vs H Q => ∃ (a : Addr) (ns : List Int), vs = [V.ref a] ∧ SqT K H a (ns.map V.int) ∧ Q (.int ns.sum) H
/-! ### [e for k, v in d.items()] -/
end Kw
namespace Cm
open PySem PySem.Spec PyProof.Rows PyProof.V L2 StX
/-! ### a sign many times -/
def rMulS : R2 := fun x y H Q => ∃ (c : Nat) (n : Int), x = .str ⟨#[c]⟩ ∧ y = .int n ∧ 0 ≤ n ∧ n ≤ 1000 ∧ Q (.str ⟨(List.replicate n.toNat c).toArray⟩) H
theorem fold_rep {c : Nat} : ∀ (k : Nat) (a : Array Nat), (List.replicate k #[c]).foldl (· ++ ·) a = a ++ (List.replicate k c).toArray
  | 0, a => by simp
  | k + 1, a => by
    rw [List.replicate_succ, List.foldl_cons, fold_rep k, List.replicate_succ]
    apply Array.ext'
    simp
theorem mul_one {c : Nat} {n : Int} (h : 0 ≤ n) : Txt.mul ⟨#[c]⟩ n = ⟨(List.replicate n.toNat c).toArray⟩ := by
  unfold Txt.mul
  by_cases h1 : n < 1
  · rw [if_pos h1, show n.toNat = 0 by omega]; rfl
  · rw [if_neg h1]
    by_cases h2 : n = 1
    · subst h2
      rw [if_pos (by simp)]; rfl
    · rw [if_neg (by simp [h2, Str.length]), fold_rep]; simp
section
variable {X : Cx}
end
/-! ### cls(..), C.m(..) of a classmethod within a try -/
def tMakeV (i : Nat) (C : Addr) (sp : Sp) (dvs : List V) (E : XK) (t : TA) : TE := fun σ H Q => σ[i]? = some (some (.ref C)) ∧ tMake C sp dvs E t σ H Q
section
variable {X : Cx} {CX : CXT} {k i : Nat} {f C p g : Addr} {fd : FuncData} {ps : List Str} {sp : Sp} {dvs : List V} {ds : List Value} {E : XK} {x m : Str} {mc : Value} {pz pos apos : Pos} {e o : Expr} {es : List Expr} {t : TA} {ta : TE}
def tCMethSD (C : Addr) (sp : Sp) (E : L2.St → XK) (ta : TE) (t : TA) : TE := fun σ H Q => ta σ H fun x H1 => x = .ref C ∧ t σ H1 fun vs H2 => sp (.ref C :: vs) H2 Q (E σ)
end
/-! ### several except clauses, each with a name -/
abbrev Cl := Value × Nat × (Addr → Value → Option Addr → TS)
def wManyA (K : PySem.W.Frag) (Wout : WX) (D : Ends) : List Cl → WX
  | [] => Wout
  | (c, i, ts) :: r => wAs K c i ts (wManyA K Wout D r) D
inductive HdsA (X : Cx) : List ExceptHandler → List Cl → Prop
  | nil : HdsA X [] []
  | cons {x n : Str} {c : Value} {i : Nat} {ts : Addr → Value → Option Addr → TS} {b₀ : Stmt} {suite : List Stmt} {np pos' : Pos} {hds : List ExceptHandler} {l : List Cl} (hi : X.N[i]? = some n) (hln : X.env.kindOf n = some .local) (hc : Names X x c)
      (hsu : ∀ (a : Addr) (oe : Obj) (cls : Value) (d : Option Addr) (pn : List (Addr × Obj)), Zc cls d oe → (∃ vs, oe.data = .fields vs) → PSs (X.suite a ((a, oe) :: pn)) (b₀ :: suite) (ts a cls d)) (r : HdsA X hds l) :
      HdsA X (.ExceptHandler (some (.Name x np)) (some n) (b₀ :: suite) pos' :: hds) ((c, i, ts) :: l)
section
variable {X : Cx} {body : List Stmt} {h₀ : ExceptHandler} {hds : List ExceptHandler} {l : List Cl} {pos : Pos} {tb : WX → TS} {Wout : WX}
end
end Cm
namespace Nk
open PySem PySem.Spec PyProof.Rows PyProof.V L2 StX
/-! ### keys ((.., ..), text) -/
abbrev NK := List Key × Str
section
variable {prog : Program} {w : World}
def IsNest (prog : Program) (w : World) (h : Heap) (k : NK) (a : Addr) : Prop := ∃ (o : Obj) (n : Nat) (t : Addr) (tk : Tok), h.get? a = some o ∧ o.cls = .type "tuple" ∧ o.data = .seq #[.ref t, .str k.2 tk] n ∧ (tupleKind (mixKind prog w)).is h k.1 t
def nkHash (prog : Program) (w : World) (k : NK) : Int := reduceHash (Builtin.Tuple.tupleHashOf [(tupleKind (mixKind prog w)).hash k.1, (mixKind prog w).hash (Sum.inr k.2)])
theorem IsNest.typeIs {s : Shared} {k : NK} {a : Addr} (x : IsNest prog w s.heap k a) : s.TypeIs (.ref a) "tuple" := let ⟨o, _, _, _, ho, hc, _⟩ := x; ⟨o, ho, hc⟩
theorem IsNest.inj {h : Heap} {a : Addr} {x y : NK} (hx : IsNest prog w h x a) (hy : IsNest prog w h y a) : x = y := by
  obtain ⟨o, n, t, tk, ho, _, hd, hi⟩ := hx
  obtain ⟨o', n', t', tk', ho', _, hd', hi'⟩ := hy
  obtain rfl : o = o' := Option.some.inj (ho.symm.trans ho')
  rw [hd] at hd'
  injection hd' with h1 _
  have h2 := congrArg Array.toList h1
  simp only [List.cons.injEq] at h2
  obtain ⟨h3, h4, _⟩ := h2
  injection h3 with h3
  injection h4 with h4 _
  subst h3
  exact Prod.ext ((tupleKind (mixKind prog w)).inj hi hi') h4
theorem IsNest.keeps {h h' : Heap} {k : NK} {a d : Addr} {o : Obj} {es ep} (x : IsNest prog w h k a) (ho : h.get? d = some o) (hd : o.data = .dict es ep) (hs : Heap.SameBut d h h') : IsNest prog w h' k a := by
  obtain ⟨o', n, t, tk, ho', hc, hd', hi⟩ := x
  have hne : a ≠ d := by
    rintro rfl
    obtain rfl : o' = o := Option.some.inj (ho'.symm.trans ho)
    rw [hd] at hd'; exact nomatch hd'
  exact ⟨o', n, t, tk, (hs.2 a hne).trans ho', hc, hd', (tupleKind (mixKind prog w)).keeps hi ho hd hs⟩
variable {A : Around} {E : Value → Shared → Prop} {s : Shared}
theorem nk_pyHash {k : NK} {a : Addr} {Q : Int → Shared → Prop} (hu : A.units + 8 < cLine) (hk : IsNest prog w s.heap k a) (h : Q (nkHash prog w k) { s with toks := s.toks + (k.1.length + 3) }) :
    wpAny (model prog w) A (pyHash (.ref a)) Q E s := by
  have hT := hk.typeIs
  obtain ⟨o, n, t, tk, ho, _, hd, hi⟩ := hk
  unfold pyHash
  first | unfold pyHashByItsType | skip
  first | refine wpAny_bind (wpAny_cRoomFor_or (.inr (by omega)) ?_) | skip
  refine wpAny_bind (wpAny_specialOf hT F.slot_tuple_hash.lookup ?_)
  show wpAny _ _ (if (some (Value.builtin "tuple.__hash__") == some Value.none) = true then _ else _) Q E s
  rw [if_neg (by rw [beq_builtin_none]; exact Bool.false_ne_true)]
  refine wpAny_bind (wpAny_specialOf hT F.slot_tuple_hash.lookup ?_)
  show wpAny _ _ (callSpecialIfBoundUnlessNone? (.ref a) "__hash__" _ >>= _) Q E s
  refine wpAny_bind (wpAny_callSpecialIfBoundUnlessNone?_slot hT F.slot_tuple_hash (wpAny_call_entry F.slot_tuple_hash hT F.entry_tuple_hash ?_ (F.args_tuple_hash_1 _)))
  show wpAny _ _ (Builtin.Tuple.tupleItemsOf (.ref a) >>= _) _ _ s
  refine wpAny_bind (wpAny_tupleItemsOf ho hd ?_)
  refine wpAny_bind ?_
  rw [← Array.forIn_toList]
  refine wpAny_forIn_list _
    (fun rest (b : Array Int) s' => (rest = [.ref t, .str k.2 tk] ∧ b.toList = [] ∧ s' = s) ∨ (rest = [.str k.2 tk] ∧ b.toList = [(tupleKind (mixKind prog w)).hash k.1] ∧ s' = { s with toks := s.toks + (k.1.length + 1) }) ∨
      (rest = [] ∧ b.toList = [(tupleKind (mixKind prog w)).hash k.1, (mixKind prog w).hash (Sum.inr k.2)] ∧ s' = { s with toks := s.toks + (k.1.length + 2) }))
    _ ?_ ?_ _ _ (.inl ⟨rfl, rfl, rfl⟩)
  · rintro x rest b s' (⟨hr, hb, rfl⟩ | ⟨hr, hb, rfl⟩ | ⟨hr, _⟩)
    · cases hr
      refine wpAny_bind ((tupleKind (mixKind prog w)).pyHash ?_ hi ?_)
      · exact tupleKind_room_in1 (by omega)
      · first
          | exact wpAny_pure (.inr (.inl ⟨rfl, by simp [hb], rfl⟩))
          | exact wpAny_bind (wpAny_pure (wpAny_pure (.inr (.inl ⟨rfl, by simp [hb], rfl⟩))))
    · cases hr
      refine wpAny_bind ((mixKind prog w).pyHash (k := Sum.inr k.2) (keyIs_str k.2 tk) ?_)
      first
        | exact wpAny_pure (.inr (.inr ⟨rfl, by simp [hb], by simp [Nat.add_assoc]⟩))
        | exact wpAny_bind (wpAny_pure (wpAny_pure (.inr (.inr ⟨rfl, by simp [hb], by simp [Nat.add_assoc]⟩))))
    · cases hr
  · rintro b s' (⟨hr, _⟩ | ⟨hr, _⟩ | ⟨_, hb, rfl⟩)
    · cases hr
    · cases hr
    show wpAny _ _ (retInt (Builtin.Tuple.tupleHashOf b.toList)) _ _ _
    rw [hb]
    refine wpAny_ret_mkInt ?_
    show wpAny _ _ (if (decide (-(2 : Int) ^ 63 ≤ Builtin.Tuple.tupleHashOf [(tupleKind (mixKind prog w)).hash k.1, (mixKind prog w).hash (Sum.inr k.2)]) && decide (Builtin.Tuple.tupleHashOf [(tupleKind (mixKind prog w)).hash k.1, (mixKind prog w).hash (Sum.inr k.2)] < 2 ^ 63)) = true then _ else _) Q E _
    unfold nkHash reduceHash at h
    by_cases hr : (decide (-(2 : Int) ^ 63 ≤ Builtin.Tuple.tupleHashOf [(tupleKind (mixKind prog w)).hash k.1, (mixKind prog w).hash (Sum.inr k.2)]) && decide (Builtin.Tuple.tupleHashOf [(tupleKind (mixKind prog w)).hash k.1, (mixKind prog w).hash (Sum.inr k.2)] < 2 ^ 63)) = true
    · rw [if_pos hr]
      rw [if_pos hr] at h
      exact wpAny_pure (by simpa [Nat.add_assoc] using h)
    · rw [if_neg hr]
      rw [if_neg hr] at h
      exact wpAny_bind (wpAny_rule (wpAny_pure (by simpa [Nat.add_assoc] using h)))
theorem nk_eq_tree {x y : NK} {a b : Addr} {P : Fin → Shared → Prop} (hu : A.units < cLine) (hx : IsNest prog w s.heap x a) (hy : IsNest prog w s.heap y b) (h : P (.done (.ret (.bool (decide (x = y))))) s) :
    wpAny (model prog w) A (Builtin.«tuple.__eq__» ⟨[.ref a, .ref b], []⟩) P E s := by
  have hTb := hy.typeIs
  obtain ⟨oa, na, ta, ka, hoa, _, hda, hia⟩ := hx
  obtain ⟨ob, nb, tb, kb, hob, _, hdb, hib⟩ := hy
  show wpAny _ _ (isInstance (.ref b) (.type "tuple") >>= _) _ _ s
  refine wpAny_bind (wpAny_isInstance hTb isSubtype_tuple_tuple ?_)
  simp only [Bool.not_true, Bool.false_eq_true, if_false]
  refine wpAny_bind (wpAny_tupleItemsOf hoa hda ?_)
  refine wpAny_bind (wpAny_tupleItemsOf hob hdb ?_)
  refine wpAny_bind ?_
  refine wpAny_forIn_list _
    (fun rest r s' => r.1 = none ∧ s' = s ∧ ((rest = [(.ref ta, .ref tb), (.str x.2 ka, .str y.2 kb)]) ∨ (rest = [(.str x.2 ka, .str y.2 kb)] ∧ x.1 = y.1) ∨ (rest = [] ∧ x = y)))
    _ ?_ ?_ _ _ ⟨rfl, rfl, .inl rfl⟩
  · rintro ⟨u, v⟩ rest r s' ⟨hr, rfl, hz | ⟨hz, e1⟩ | ⟨hz, _⟩⟩
    · simp only [List.cons.injEq, Prod.mk.injEq] at hz
      obtain ⟨⟨rfl, rfl⟩, rfl⟩ := hz
      refine wpAny_bind ((tupleKind (mixKind prog w)).eqBool (x := x.1) (y := y.1) hu hia hib ?_)
      by_cases hk : x.1 = y.1
      · rw [decide_eq_true hk]
        simp only [Bool.not_true, Bool.false_eq_true, if_false]
        exact wpAny_pure ⟨rfl, rfl, .inr (.inl ⟨trivial, hk⟩)⟩
      · rw [decide_eq_false hk]
        simp only [Bool.not_false, if_true]
        have hf : decide (x = y) = false := decide_eq_false fun e => hk (by rw [e])
        rw [hf] at h
        exact wpAny_bind (wpAny_pure (wpAny_pure (wpAny_pure h)))
    · simp only [List.cons.injEq, Prod.mk.injEq] at hz
      obtain ⟨⟨rfl, rfl⟩, rfl⟩ := hz
      refine wpAny_bind ((mixKind prog w).eqBool (a := Sum.inr x.2) (b := Sum.inr y.2) (keyIs_str x.2 ka) (keyIs_str y.2 kb) ?_)
      by_cases hk : x.2 = y.2
      · rw [decide_eq_true (by rw [hk])]
        simp only [Bool.not_true, Bool.false_eq_true, if_false]
        exact wpAny_pure ⟨rfl, rfl, .inr (.inr ⟨trivial, Prod.ext e1 hk⟩)⟩
      · rw [decide_eq_false (fun e => hk (Sum.inr.inj e))]
        simp only [Bool.not_false, if_true]
        have hf : decide (x = y) = false := decide_eq_false fun e => hk (by rw [e])
        rw [hf] at h
        exact wpAny_bind (wpAny_pure (wpAny_pure (wpAny_pure h)))
    · cases hz
  · rintro ⟨r1, r2⟩ s' ⟨hr, rfl, hz | ⟨hz, _⟩ | ⟨_, e⟩⟩
    · cases hz
    · cases hz
    simp only at hr
    subst hr
    refine wpAny_pure ?_
    show P (.done (.ret (.bool true))) s'
    rw [decide_eq_true e] at h
    exact h
theorem nk_eqBool {x y : NK} {a b : Addr} {Q : Bool → Shared → Prop} (hu : A.units + 8 < cLine) (hx : IsNest prog w s.heap x a) (hy : IsNest prog w s.heap y b) (h : Q (decide (x = y)) s) :
    wpAny (model prog w) A (eqBool (.ref a) (.ref b)) Q E s := by
  unfold eqBool
  try with_reducible refine wpAny_holding ?_
  show wpAny _ _ (if (Value.ref a == Value.ref b) = true then _ else _) Q E s
  by_cases hab : (Value.ref a == Value.ref b) = true
  · rw [if_pos hab]
    have e : a = b := by have := eq_of_beq hab; injection this
    subst e
    obtain rfl := hx.inj hy
    exact wpAny_bind (wpAny_rule (wpAny_pure (by simpa using h)))
  · rw [if_neg hab]
    refine wpAny_bind (wpAny_richCompare_same_room (op := .Eq) hx.typeIs hy.typeIs F.slot_tuple_eq
      (wpAny_call_entry F.slot_tuple_eq hx.typeIs F.entry_tuple_eq (nk_eq_tree ?_ hx hy ⟨_, rfl, (fun e => nomatch e), wpAny_truthy_bool h⟩) (F.args_tuple_eq_2 _ _)) (by omega))
    exact (tupleKind_room_in1 (by omega) : (tupleKind (mixKind prog w)).room A.in1)
theorem quiet_tuple {n : Nat} {ks : List Key} {a : Addr} {Q : Bool → Shared → Prop} (hk : (tupleKind (mixKind prog w)).is s.heap ks a) (h : Q true s) : wpAny (model prog w) A (eqIsQuiet (n + 1) (.ref a)) Q E s := by
  have hk : IsTupleKey (mixKind prog w) s.heap ks a := hk
  have hT := hk.typeIs
  obtain ⟨o, items, m, ho, _, hd, hi⟩ := hk
  unfold eqIsQuiet
  refine wpAny_bind (wpAny_specialOf hT F.slot_tuple_eq.lookup ?_)
  show wpAny _ _ (isInstance (.ref a) (.type "tuple") >>= _) _ _ s
  refine wpAny_bind (wpAny_isInstance hT isSubtype_tuple_tuple ?_)
  simp only [Bool.not_true, Bool.false_eq_true, if_false]
  refine wpAny_bind (wpAny_seqItems ho hd ?_)
  refine wpAny_bind ?_
  show wpAny _ _ (forIn items _ _) _ _ s
  rw [← Array.forIn_toList]
  refine wpAny_forIn_list _ (fun rest r s' => r.1 = none ∧ s' = s ∧ ∀ v ∈ rest, carriedByValue v = true) _ ?_ ?_ _ _ ⟨rfl, rfl, hi.byValue⟩
  · rintro v rest r s' ⟨hr, rfl, hall⟩
    rw [eqIsQuiet_byValue _ (hall v List.mem_cons_self)]
    refine wpAny_bind (wpAny_pure ?_)
    simp only [Bool.not_true, Bool.false_eq_true, if_false]
    exact wpAny_pure ⟨rfl, rfl, fun u hu' => hall u (List.mem_cons_of_mem _ hu')⟩
  · rintro ⟨r1, r2⟩ s' ⟨hr, rfl, _⟩
    simp only at hr
    subst hr
    exact wpAny_pure h
theorem nk_quiet {k : NK} {a : Addr} {Q : Bool → Shared → Prop} (hk : IsNest prog w s.heap k a) (h : Q true s) : wpAny (model prog w) A (eqIsQuiet 8 (.ref a)) Q E s := by
  have hT := hk.typeIs
  obtain ⟨o, m, t, tk, ho, _, hd, hi⟩ := hk
  unfold eqIsQuiet
  refine wpAny_bind (wpAny_specialOf hT F.slot_tuple_eq.lookup ?_)
  show wpAny _ _ (isInstance (.ref a) (.type "tuple") >>= _) _ _ s
  refine wpAny_bind (wpAny_isInstance hT isSubtype_tuple_tuple ?_)
  simp only [Bool.not_true, Bool.false_eq_true, if_false]
  refine wpAny_bind (wpAny_seqItems ho hd ?_)
  refine wpAny_bind ?_
  show wpAny _ _ (forIn #[Value.ref t, Value.str k.2 tk] _ _) _ _ s
  rw [← Array.forIn_toList]
  refine wpAny_forIn_list _ (fun rest r s' => r.1 = none ∧ s' = s ∧ (rest = [.ref t, .str k.2 tk] ∨ rest = [.str k.2 tk] ∨ rest = [])) _ ?_ ?_ _ _ ⟨rfl, rfl, .inl rfl⟩
  · rintro v rest r s' ⟨hr, rfl, hz | hz | hz⟩
    · cases hz
      refine wpAny_bind (quiet_tuple (n := 6) hi ?_)
      simp only [Bool.not_true, Bool.false_eq_true, if_false]
      exact wpAny_pure ⟨rfl, rfl, .inr (.inl trivial)⟩
    · cases hz
      rw [eqIsQuiet_byValue _ rfl]
      refine wpAny_bind (wpAny_pure ?_)
      simp only [Bool.not_true, Bool.false_eq_true, if_false]
      exact wpAny_pure ⟨rfl, rfl, .inr (.inr trivial)⟩
    · cases hz
  · rintro ⟨r1, r2⟩ s' ⟨hr, rfl, _⟩
    simp only at hr
    subst hr
    exact wpAny_pure h
end
def nestKind (prog : Program) (w : World) : HeapKind prog w NK where
  is := IsNest prog w
  hash := nkHash prog w
  draws := fun k => k.1.length + 3
  room := fun A => A.units + 8 < cLine
  inj := fun hx hy => hx.inj hy
  keeps := fun x ho hd hs => x.keeps ho hd hs
  pyHash := fun hu hk h => nk_pyHash hu hk h
  eqBool := fun hu hx hy h => nk_eqBool hu hx hy h
  quiet := fun hk h => nk_quiet hk h
/-! ### a dict of such keys, whatever it holds -/
section
variable {P : Program} {w : World}
def SeenR (P : Program) (w : World) (d : Addr) (xs : List (NK × Addr × Value)) (h : Heap) : Prop := ∃ o es ep, h.get? d = some o ∧ o.ExactDict ∧ o.data = .dict es ep ∧ es.toList = xs.map (entryOfKey (nestKind P w)) ∧ (xs.map (·.1)).Nodup
theorem SeenR.ok {H : Hp} {h : Heap} {d : Addr} {xs : List (NK × Addr × Value)} (x : SeenR P w d xs h) : ObjOk P w H h d (.ext (SeenR P w d xs)) :=
  ⟨x, let ⟨o, _, _, ho, _⟩ := x; ⟨o, ho⟩, fun h1 h2 ⟨o, es, ep, ho, r⟩ k => ⟨o, es, ep, k o ho, r⟩⟩
def KeyN (H : Hp) (q : Addr) (k : NK) : Prop := ∃ t, H q = some (.tup [.ref t, .str k.2]) ∧ H t = some (.tup (k.1.map kV))
theorem KeyN.keep {H H' : Hp} {q : Addr} {k : NK} (h : KeyN H q k) (kp : ∀ b ys, H b = some (.tup ys) → H' b = some (.tup ys)) : KeyN H' q k := let ⟨t, a, b⟩ := h; ⟨t, kp _ _ a, kp _ _ b⟩
/-- a dict of at most n such keys at d -/
def SeenAt (P : Program) (w : World) (H : Hp) (d : Addr) (n : Nat) : Prop := ∃ xs : List (NK × Addr × Value), H d = some (.ext (SeenR P w d xs)) ∧ (d == sysModules) = false ∧ xs.length ≤ n ∧ ∀ x ∈ xs, KeyN H x.2.1 x.1
theorem SeenAt.keep {H H' : Hp} {d : Addr} {n : Nat} (h : SeenAt P w H d n) (hd : H' d = H d) (kp : ∀ b ys, H b = some (.tup ys) → H' b = some (.tup ys)) : SeenAt P w H' d n :=
  let ⟨xs, a, b, c, e⟩ := h; ⟨xs, hd.trans a, b, c, fun x hx => (e x hx).keep kp⟩
end
def rInN (P : Program) (w : World) (f : Bool → Bool) : R2 := fun x y H Q => ∃ d q k n, x = .ref q ∧ y = .ref d ∧ KeyN H q k ∧ SeenAt P w H d n ∧ ∀ b, Q (.bl (f b)) H
def tDNewN (P : Program) (w : World) : TE := fun _ H Q => ∀ p, H p = none → SeenAt P w (upd H p (.ext (SeenR P w p []))) p 0 → Q (.ref p) (upd H p (.ext (SeenR P w p [])))
def sDPutN (P : Program) (w : World) (td ty tv : TE) : TS := fun D σ H => tv σ H fun v H1 => td σ H1 fun x H2 => ty σ H2 fun y H3 => ∃ d q k n, x = .ref d ∧ y = .ref q ∧ KeyN H3 q k ∧ SeenAt P w H3 d n ∧ n < sizeLine ∧ ∀ ob, SeenAt P w (upd H3 d ob) d (n + 1) → D.nx σ (upd H3 d ob)
section
variable {X : Cx} {pins : List (Addr × Obj)} {σ : L2.St} {H : Hp} {s : Shared} {td ty tv : TE} {o i value : Expr} {pos pos' : Pos}
end
end Nk
namespace Dt
open PySem PySem.Spec PyProof.Rows PyProof.V L2 StX
/-! ### name = {k: v for ..} on one line, the keys tuples, the name a local -/
section
variable {X : Cx}
end
/-! ### the reading over a range, D told with what it holds -/
section
variable {tas : TA} {G : TG} {tt : TT} {tk tv : TE} {vs : List Nat} {σ : L2.St} {H : Hp} {Q : VK}
def DcR1 (G : TG) (tt : TT) (tk tv : TE) (vs : List Nat) (σ : L2.St) (Q : VK) (us : List V) (H1 : Hp) : Prop := ∃ j : Int, us = [.int j] ∧ -(2 ^ 62) ≤ j ∧ j < 2 ^ 62 ∧ ∀ D, H1 D = none → ∃ W : Nat → Nat → Hp → Prop, (∃ m, W 0 m (upd H1 D (.dT []))) ∧ ∀ i m H, W i m H →
  ((Itr 0 j.toNat).stop i H ∧ Q (.ref D) H) ∨ ((Itr 0 j.toNat).go i H ∧ ∃ Nx : Hp → Prop, (∀ H', Nx H' → ∃ m', m' < m ∧ W (i + 1) m' H') ∧ ∀ x H', (Itr 0 j.toNat).yld i H x H' → G x (wipe σ vs) H' fun σ2 H2 => wipe σ2 vs = wipe σ vs ∧ tt σ2 H2 fun b H3 =>
    if b = true then tk σ2 H3 fun y H4 => tv σ2 H4 fun z H5 => ∃ (kvs : Tb) (k : List Key) (q : Addr), y = .ref q ∧ H5 q = some (.tup (k.map kV)) ∧ H5 D = some (.dT kvs) ∧ kvs.length < sizeLine ∧ Nx (upd H5 D (.dT (putK kvs k z))) else Nx H3)
end
end Dt
namespace Sr
open PySem PySem.Spec PyProof.Rows PyProof.V L2 StX
/-! ### C(*y): an instance made with the items of a sequence, __init__ with a star parameter -/
section
variable {X : Cx} {CX : CXT} {k : Nat} {f C : Addr} {sp : Sp} {E : XK} {x : Str} {e : Expr} {te : TE} {p sp_ pos : Pos}
def tMakeS (K : PySem.W.Frag) (C : Addr) (sp : Sp) (E : XK) (te : TE) : TE := fun σ H Q => te σ H fun y H1 => ∃ a xs, y = V.ref a ∧ (SqT K H1 a xs ∨ SqL K H1 a xs) ∧ ∀ x dx, H1 x = Option.none → H1 dx = Option.none → dx ≠ x → sp (V.ref x :: xs) (upd (upd H1 dx (.own x)) x (.ins C dx [])) (fun v H2 => v = .non ∧ Q (.ref x) H2) E
theorem pe_makeS (M : Mk X.K C f) (F : FnR X.prog X.w X.K X.mg X.base CX k f sp) (hr : Room (k + 1) X.A) (hg : Gl X x) (hm : X.mg x = some (.ref C)) (hx : Passes CX X E) (he : PE X e te) (hd : (x == ("__debug__" : Str)) = false := by decide)
    (hst : starEach [.Starred e sp_] X.env = [(true, eval e X.env)] := by rfl) : PE X (.Call (.Name x p) [.Starred e sp_] [] pos) (tMakeS X.K C sp E te) := by
  refine ⟨fun pins s σ H Q I h => ?_⟩
  refine wpAny_Call_Name_kw (ld_glob I hg hm ?_ hd)
  refine PySem.W.callWith_S (h₀ := X.base) I.ok.mod.kin M.kp (thn (he.run pins s σ H _ I h) fun v s1 ⟨y, H1, I1, ry, a, xs, ey, hxs, q⟩ => ?_) hst
  subst ey
  obtain rfl : v = Value.ref a := ry
  exact star_any I1 hxs fun us s2 I2 rv => ⟨I2.kIn, run_makeR M F hr hx I2 rv q⟩
/-- C() -/
theorem pe_makeR0 (M : Mk X.K C f) (F : FnR X.prog X.w X.K X.mg X.base CX k f sp) (hr : Room (k + 1) X.A) (hg : Gl X x) (hm : X.mg x = some (.ref C)) (hx : Passes CX X E) (hd : (x == ("__debug__" : Str)) = false := by decide) : PE X (.Call (.Name x p) [] [] pos) (tMakeR C sp E tNil) :=
  ⟨fun pins s σ H Q I h => wpAny_Call_Name_kw (ld_glob I hg hm (PySem.W.callWith_K0 I.kIn M.kp (run_makeR (us := []) M F hr hx I .nil h)) hd)⟩
end
end Sr
namespace Gk
open PySem PySem.Spec PyProof.Rows PyProof.V L2 StX
/-! ### sorted(set(l)), l a list of ints -/
section
variable {P : Program} {w : World} {A : Around} {E : Value → Shared → Prop} {s : Shared} {a : Addr}
end
section
open PySem.W
variable {P : Program} {w : World} {A : Around} {E : Value → Shared → Prop} {s : Shared}
/-- an empty set, as made -/
abbrev eset (w : World) : Obj := { cls := .type "set", dict := none, data := .set #[] 0 (.fresh 0 0 (!w.params.followText "set-order")) }
set_option maxRecDepth 100000 in
theorem setOf {l : Addr} {items : Array Value} (ns : List Int) {Q : Value → Shared → Prop} (calm : A.handled = none) (hl : s.heap.IsList l items) (hit : IntsAre items.toList ns) (hb : ns.length + 1 < scanBound)
    (k : ∀ (h' : Heap) (tk c : Nat), SetR w h' s.heap.objs.size (fun j => decide (j ∈ ns)) c → c ≤ ns.length → (∀ b o, s.heap.get? b = some o → h'.get? b = some o) → Q (.ref s.heap.objs.size) { s with heap := h', toks := tk }) :
    wpAny (model P w) A (call (.type "set") [.ref l]) Q E s := by
  have many : items.size = ns.length := by have := IntsAre.length hit; rwa [Array.length_toList] at this
  obtain ⟨c, tl, hmro⟩ := F.called_set.mro
  have made := F.called_set.made
  have sub := F.called_set.sub
  refine wpAny_call (codeAny_of_tree ?_)
  show wpAny _ _ (callAny (.type "set") _) _ _ _
  refine wpAny_pure ⟨Code.quiet_builtin _ (by decide +kernel), codeAny_builtin F.entry_type_call ?_⟩
  rw [Around.under_plain (weight_type_call_type "set" [.ref l] []) rfl]
  have n1 := F.called_set.notType
  have n2 := F.called_set.canCreate
  have n3 := F.typeCall_set_1 (.ref l)
  repeat (any_goals (first | assumption | wp_step))
  refine codeAny_mono (code_set_led1 (.ref l) (E := E) (Q₁ := fun obj s₁ => obj = .ref s.heap.objs.size ∧ s₁ = { s with heap := s.heap.push (eset w) }) ⟨rfl, rfl⟩) fun r s₁ hr => ?_
  cases r with
  | error e => exact hr
  | ok fl =>
  cases fl with
  | next => exact hr.elim
  | brk => exact hr.elim
  | cont => exact hr.elim
  | ret obj =>
  obtain ⟨rfl, rfl⟩ := hr
  have at1 : (s.heap.push (eset w)).get? s.heap.objs.size = some (eset w) := Heap.get?_push_size _ rfl
  have ty1 : Shared.TypeIs { s with heap := s.heap.push (eset w) } (.ref s.heap.objs.size) "set" := ⟨_, at1, rfl⟩
  have i1 := F.called_set.init.lookup
  have i2 := F.called_set.init.bind (.ref s.heap.objs.size)
  repeat (any_goals (first | assumption | wp_step))
  refine codeAny_mono (codeAny_call_builtin (R := wants (fun r s₂ => r = .none ∧ ∃ h' tk c, s₂ = { s with heap := h', toks := tk } ∧ SetR w h' s.heap.objs.size (fun j => decide (j ∈ ns)) c ∧ c ≤ ns.length ∧
    ∀ b o, s.heap.get? b = some o → h'.get? b = some o) E) F.called_set.init.plain F.entry_set_init (check_set_init_1 ty1 ?_)) fun r₂ s₂ hr₂ => ?_
  · obtain ⟨⟨lc, ld, ldat, lsl⟩, hol, hcl, nl, hdl⟩ := hl
    simp only at hcl hdl
    subst hcl; subst hdl
    have at2 : (s.heap.push (eset w)).get? l = some { cls := .type "list", dict := ld, data := .seq items nl, slots := lsl } := Heap.get?_push_of_some _ hol
    have s1 := F.sub_list_set
    have s2 := F.sub_list_frozenset
    have s3 : (Value.type "list" == Value.type "dict") = false := by decide
    have isl : (s.heap.push (eset w)).IsList l items := ⟨_, at2, rfl, nl, rfl⟩
    unfold Builtin.«set.__init__» noKeywords Builtin.Frozenset.updateFrom
    generalize hPI : pyIter = PI
    wp_walk
    subst hPI
    refine wpAny_pyIter_list isl (wpAny_bind (wpAny_runValue ?_))
    have ltl : l < s.heap.objs.size := Heap.lt_size hol
    have c3 : A.in1.in1.in1.handled = none := by simp [calm]
    have apart : l ≠ (s.heap.push (eset w)).objs.size := by rw [Heap.size_push]; exact Nat.ne_of_lt (Nat.lt_succ_of_lt ltl)
    have out : s.heap.objs.size ∉ [(s.heap.push (eset w)).objs.size, l] := by
      rw [Heap.size_push]
      simp only [List.mem_cons, List.mem_singleton, List.not_mem_nil, or_false, not_or]
      exact ⟨Nat.ne_of_lt (Nat.lt_succ_self _), Nat.ne_of_gt ltl⟩
    have val : ∀ (i : Nat) (v : Value), items[i]? = some v → ∃ k t, ns[i]? = some k ∧ v = .int k t := fun i v hv => by
      have hi : i < ns.length := by rw [← many]; exact (Array.getElem?_eq_some_iff.mp hv).1
      obtain ⟨t, e⟩ := IntsAre.int_at hit i v (by rw [Array.getElem?_toList]; exact hv)
      refine ⟨ns[i], t, List.getElem?_eq_getElem hi, ?_⟩
      rw [e, List.getD_eq_getElem?_getD, List.getElem?_eq_getElem hi] <;> rfl
    refine set_update_ints ((Walks.list c3 _ l apart items).toS) s.heap.objs.size out ns many hb val (items.size - 0) 0 _ (by omega) (Nat.zero_le _) ⟨⟨_, Heap.get?_push_size _ rfl, rfl, rfl⟩, (isl.push _)⟩
      ⟨0, Nat.le_refl 0, setR_new_at (Heap.get?_push_of_some _ at1)⟩ fun s' c' hm hc' hS' => ?_
    obtain ⟨h', g2, d', tk', os'⟩ := s'
    obtain rfl : g2 = s.gens := hm.gens
    obtain rfl : d' = s.drawn := hm.drawn
    obtain rfl : os' = s.os := hm.os
    show wpAny _ _ _ _ _ _
    refine wpAny_pure ?_
    show wpAny _ _ (ret Value.none) _ _ _
    rw [many] at hc'
    refine wpAny_pure ⟨rfl, h', tk', c', rfl, hS', hc', fun b o e => ?_⟩
    have lt := Heap.lt_size e
    refine hm.heap b o ?_ (Heap.get?_push_of_some _ (Heap.get?_push_of_some _ e))
    simp only [List.mem_cons, List.mem_singleton, List.not_mem_nil, or_false, not_or]
    exact ⟨Nat.ne_of_lt lt, by rw [Heap.size_push]; exact Nat.ne_of_lt (Nat.lt_succ_of_lt lt)⟩
  · cases r₂ with
    | error e => exact hr₂
    | ok fl₂ =>
    cases fl₂ with
    | next => exact hr₂.elim
    | brk => exact hr₂.elim
    | cont => exact hr₂.elim
    | ret r =>
    obtain ⟨rfl, h', tk, c', rfl, hS', hc', kp⟩ := hr₂
    repeat (any_goals (first | assumption | wp_step))
    exact k _ _ _ hS' hc' kp
end
def tSortedSet (K : PySem.W.Frag) (ta : TE) : TE := fun σ H Q => ta σ H fun x H1 => ∃ (l : Addr) (ns : List Int), x = .ref l ∧ SqL K H1 l (ns.map V.int) ∧ ns.length ≤ 1100 ∧
  ∀ (ms : List Int) (p : Addr), ms.Pairwise (· < ·) → (∀ k, k ∈ ms ↔ k ∈ ns) → H1 p = Option.none → Q (.ref p) (upd H1 p (.lst (ms.map V.int)))
end Gk
namespace Pc
/-! ### sets of cells: a stretch is [lo, hi) -/
abbrev Iv := Int × Int
def mem (L : List Iv) (z : Int) : Prop := ∃ p ∈ L, p.1 ≤ z ∧ z < p.2
structure Can (L : List Iv) : Prop where
  lt : ∀ p ∈ L, p.1 < p.2
  ap : L.Pairwise fun p q => p.2 < q.1
theorem Can.nil : Can [] := ⟨fun _ h => (List.not_mem_nil h).elim, .nil⟩
theorem Can.tl {p : Iv} {L : List Iv} (h : Can (p :: L)) : Can L := ⟨fun q m => h.lt q (List.mem_cons_of_mem _ m), (List.pairwise_cons.mp h.ap).2⟩
theorem Can.hd {p : Iv} {L : List Iv} (h : Can (p :: L)) : p.1 < p.2 ∧ ∀ q ∈ L, p.2 < q.1 := ⟨h.lt p (List.mem_cons_self ..), (List.pairwise_cons.mp h.ap).1⟩
theorem Can.app {F : List Iv} {p : Iv} (h : Can F) (hp : p.1 < p.2) (ha : ∀ q ∈ F, q.2 < p.1) : Can (F ++ [p]) := by
  refine ⟨fun q m => ?_, ?_⟩
  · rcases List.mem_append.mp m with m | m
    · exact h.lt q m
    · rw [List.mem_singleton.mp m]; exact hp
  · rw [List.pairwise_append]
    refine ⟨h.ap, List.pairwise_singleton .., fun a m b m2 => ?_⟩
    rw [List.mem_singleton.mp m2]; exact ha a m
theorem mem_nil {z : Int} : ¬ mem [] z := fun ⟨_, m, _⟩ => (List.not_mem_nil m).elim
theorem mem_cons {p : Iv} {L : List Iv} {z : Int} : mem (p :: L) z ↔ (p.1 ≤ z ∧ z < p.2) ∨ mem L z := by
  constructor
  · rintro ⟨q, m, h⟩
    rcases List.mem_cons.mp m with rfl | m
    · exact .inl h
    · exact .inr ⟨q, m, h⟩
  · rintro (h | ⟨q, m, h⟩)
    · exact ⟨p, List.mem_cons_self .., h⟩
    · exact ⟨q, List.mem_cons_of_mem _ m, h⟩
theorem mem_app {F G : List Iv} {z : Int} : mem (F ++ G) z ↔ mem F z ∨ mem G z := by
  constructor
  · rintro ⟨q, m, h⟩
    rcases List.mem_append.mp m with m | m
    · exact .inl ⟨q, m, h⟩
    · exact .inr ⟨q, m, h⟩
  · rintro (⟨q, m, h⟩ | ⟨q, m, h⟩)
    · exact ⟨q, List.mem_append.mpr (.inl m), h⟩
    · exact ⟨q, List.mem_append.mpr (.inr m), h⟩
theorem mem_one {p : Iv} {z : Int} : mem [p] z ↔ p.1 ≤ z ∧ z < p.2 := by
  rw [mem_cons]; exact ⟨fun h => h.elim id fun h => (mem_nil h).elim, .inl⟩
theorem Can.out {p : Iv} {L : List Iv} (h : Can (p :: L)) {z : Int} (hz : z ≤ p.2) : ¬ mem L z := by
  rintro ⟨q, m, a, _⟩
  have := h.hd.2 q m
  omega
theorem can_eq : ∀ {L M : List Iv}, Can L → Can M → (∀ z, mem L z ↔ mem M z) → L = M
  | [], [], _, _, _ => rfl
  | [], q :: M, _, hM, e => (mem_nil ((e q.1).mpr (mem_cons.mpr (.inl ⟨Int.le_refl _, hM.hd.1⟩)))).elim
  | p :: L, [], hL, _, e => (mem_nil ((e p.1).mp (mem_cons.mpr (.inl ⟨Int.le_refl _, hL.hd.1⟩)))).elim
  | p :: L, q :: M, hL, hM, e => by
    have lp := hL.hd.1
    have lq := hM.hd.1
    have a1 : q.1 ≤ p.1 := by
      rcases mem_cons.mp ((e p.1).mp (mem_cons.mpr (.inl ⟨Int.le_refl _, lp⟩))) with h | ⟨r, m, h⟩
      · exact h.1
      · have := hM.hd.2 r m; omega
    have a2 : p.1 ≤ q.1 := by
      rcases mem_cons.mp ((e q.1).mpr (mem_cons.mpr (.inl ⟨Int.le_refl _, lq⟩))) with h | ⟨r, m, h⟩
      · exact h.1
      · have := hL.hd.2 r m; omega
    have b1 : q.2 ≤ p.2 := by
      rcases Int.lt_or_le p.2 q.2 with h | h
      · have := (e p.2).mpr (mem_cons.mpr (.inl ⟨by omega, h⟩))
        rcases mem_cons.mp this with h | h
        · omega
        · exact (hL.out (Int.le_refl _) h).elim
      · exact h
    have b2 : p.2 ≤ q.2 := by
      rcases Int.lt_or_le q.2 p.2 with h | h
      · have := (e q.2).mp (mem_cons.mpr (.inl ⟨by omega, h⟩))
        rcases mem_cons.mp this with h | h
        · omega
        · exact (hM.out (Int.le_refl _) h).elim
      · exact h
    have pq : p = q := Prod.ext (by omega) (by omega)
    subst pq
    rw [can_eq hL.tl hM.tl fun z => ?_]
    constructor
    · intro h
      rcases mem_cons.mp ((e z).mp (mem_cons.mpr (.inr h))) with h2 | h2
      · exact (hL.out (by omega) h).elim
      · exact h2
    · intro h
      rcases mem_cons.mp ((e z).mpr (mem_cons.mpr (.inr h))) with h2 | h2
      · exact (hM.out (by omega) h).elim
      · exact h2
/-! ### steps: (cut, change) -/
def sumLe : List (Int × Int) → Int → Int
  | [], _ => 0
  | s :: T, z => (if s.1 ≤ z then s.2 else 0) + sumLe T z
theorem sumLe_app {A B : List (Int × Int)} {z : Int} : sumLe (A ++ B) z = sumLe A z + sumLe B z := by
  induction A with
  | nil => simp [sumLe]
  | cons a A ih => simp only [List.cons_append, sumLe, ih]; omega
theorem sumLe_perm {A B : List (Int × Int)} {z : Int} (h : A.Perm B) : sumLe A z = sumLe B z := by
  induction h with
  | nil => rfl
  | cons x _ ih => simp only [sumLe, ih]
  | swap x y l => simp only [sumLe]; omega
  | trans _ _ a b => exact a.trans b
def steps (S : List Iv) : List (Int × Int) := S.map (fun p => (p.1, 1)) ++ S.map fun p => (p.2, -1)
def depth : List Iv → Int → Int
  | [], _ => 0
  | p :: S, z => (if p.1 ≤ z ∧ z < p.2 then 1 else 0) + depth S z
theorem sumLe_steps {S : List Iv} {z : Int} (h : ∀ p ∈ S, p.1 < p.2) : sumLe (steps S) z = depth S z := by
  unfold steps
  rw [sumLe_app]
  induction S with
  | nil => rfl
  | cons p S ih =>
    have hp := h p (List.mem_cons_self ..)
    have := ih fun q m => h q (List.mem_cons_of_mem _ m)
    simp only [List.map_cons, sumLe, depth]
    rw [← this]
    by_cases a : p.1 ≤ z <;> by_cases b : p.2 ≤ z
    · rw [if_pos a, if_pos b, if_neg (by omega)]; omega
    · rw [if_pos a, if_neg b, if_pos (by omega)]; omega
    · omega
    · rw [if_neg a, if_neg b, if_neg (by omega)]; omega
theorem depth_nn {S : List Iv} {z : Int} : 0 ≤ depth S z := by
  induction S with
  | nil => exact Int.le_refl _
  | cons p S ih => simp only [depth]; split <;> omega
theorem depth_mem {S : List Iv} {z : Int} : 1 ≤ depth S z ↔ mem S z := by
  induction S with
  | nil => simp only [depth]; exact ⟨fun h => by omega, fun h => (mem_nil h).elim⟩
  | cons p S ih =>
    rw [mem_cons, ← ih]
    simp only [depth]
    have := depth_nn (S := S) (z := z)
    split <;> constructor <;> intro h <;> omega
theorem depth_le {L : List Iv} (h : Can L) {z : Int} : depth L z ≤ 1 := by
  induction L with
  | nil => simp [depth]
  | cons p L ih =>
    simp only [depth]
    split
    · rename_i c
      have : ¬ 1 ≤ depth L z := fun e => h.out (by omega) (depth_mem.mp e)
      omega
    · have := ih h.tl; omega
theorem depth_app {A B : List Iv} {z : Int} : depth (A ++ B) z = depth A z + depth B z := by
  induction A with
  | nil => simp [depth]
  | cons a A ih => simp only [List.cons_append, depth, ih]; omega
theorem depth_two {A B : List Iv} (hA : Can A) (hB : Can B) {z : Int} : 2 ≤ depth (A ++ B) z ↔ mem A z ∧ mem B z := by
  rw [depth_app, ← depth_mem, ← depth_mem]
  have := depth_le hA (z := z)
  have := depth_le hB (z := z)
  omega
theorem sumLe_out {T : List (Int × Int)} {z c : Int} (h : ∀ t ∈ T, t.1 ≤ z ↔ t.1 ≤ c) : sumLe T z = sumLe T c := by
  induction T with
  | nil => rfl
  | cons t T ih =>
    simp only [sumLe]
    rw [ih fun u m => h u (List.mem_cons_of_mem _ m)]
    have := h t (List.mem_cons_self ..)
    by_cases a : t.1 ≤ z
    · rw [if_pos a, if_pos (this.mp a)]
    · rw [if_neg a, if_neg fun b => a (this.mpr b)]
theorem sumLe_none {T : List (Int × Int)} {z : Int} (h : ∀ t ∈ T, z < t.1) : sumLe T z = 0 := by
  induction T with
  | nil => rfl
  | cons t T ih =>
    simp only [sumLe]
    have := h t (List.mem_cons_self ..)
    rw [ih fun u m => h u (List.mem_cons_of_mem _ m), if_neg (by omega)]; rfl
/-! ### the loop of depths -/
def tot (T : List (Int × Int)) : Int := (T.map (·.2)).sum
theorem sumLe_all {T : List (Int × Int)} {z : Int} (h : ∀ t ∈ T, t.1 ≤ z) : sumLe T z = tot T := by
  induction T with
  | nil => rfl
  | cons t T ih =>
    simp only [sumLe, tot, List.map_cons, List.sum_cons]
    rw [ih fun u m => h u (List.mem_cons_of_mem _ m), if_pos (h t (List.mem_cons_self ..))]; rfl
structure DI (T : List (Int × Int)) (i : Nat) (d : Int) (D : List (Int × Int)) : Prop where
  d : d = tot (T.take i)
  up : D.Pairwise fun a b => a.1 < b.1
  val : ∀ e ∈ D, e.2 = sumLe T e.1
  cut : ∀ e ∈ D, ∃ t ∈ T.take i, t.1 = e.1
  all : ∀ t ∈ T.take i, (∃ e ∈ D, e.1 = t.1) ∨ ∃ u, T[i]? = some u ∧ u.1 = t.1
  nx : ∀ e ∈ D, ∀ u, T[i]? = some u → e.1 < u.1
  len : D.length ≤ i
structure Dep (T D : List (Int × Int)) : Prop where
  up : D.Pairwise fun a b => a.1 < b.1
  val : ∀ e ∈ D, e.2 = sumLe T e.1
  cut : ∀ e ∈ D, ∃ t ∈ T, t.1 = e.1
  all : ∀ t ∈ T, ∃ e ∈ D, e.1 = t.1
  len : D.length ≤ T.length
theorem DI.zero {T : List (Int × Int)} : DI T 0 0 [] := ⟨by simp [tot], .nil, fun _ h => (List.not_mem_nil h).elim, fun _ h => (List.not_mem_nil h).elim, fun _ h => by simp at h, fun _ h => (List.not_mem_nil h).elim, Nat.le_refl _⟩
theorem tot_snoc {T : List (Int × Int)} {i : Nat} {t : Int × Int} (h : T[i]? = some t) : tot (T.take (i + 1)) = tot (T.take i) + t.2 := by
  rw [List.take_add_one, h]
  simp [tot]
theorem take_mem {α : Type} {T : List α} {i : Nat} {t x : α} (h : T[i]? = some t) : x ∈ T.take (i + 1) ↔ x ∈ T.take i ∨ x = t := by
  rw [List.take_add_one, h]
  simp
theorem sorted_le {T : List (Int × Int)} (h : T.Pairwise fun a b => a.1 ≤ b.1) {i : Nat} {t : Int × Int} (ht : T[i]? = some t) : (∀ u ∈ T.take i, u.1 ≤ t.1) ∧ ∀ u ∈ T.drop i, t.1 ≤ u.1 := by
  have hi := (List.getElem?_eq_some_iff.mp ht).1
  have e : T = T.take i ++ T.drop i := (List.take_append_drop i T).symm
  have e2 : T.drop i = t :: T.drop (i + 1) := by
    rw [List.drop_eq_getElem_cons hi, (List.getElem?_eq_some_iff.mp ht).2]
  rw [e, List.pairwise_append] at h
  refine ⟨fun u m => h.2.2 u m t (by rw [e2]; exact List.mem_cons_self ..), fun u m => ?_⟩
  have h2 := h.2.1
  rw [e2] at h2 m
  rcases List.mem_cons.mp m with rfl | m
  · exact Int.le_refl _
  · exact (List.pairwise_cons.mp h2).1 u m
theorem DI.skip {T D : List (Int × Int)} {i : Nat} {d : Int} {t u : Int × Int} (I : DI T i d D) (ht : T[i]? = some t) (hu : T[i + 1]? = some u) (e : t.1 = u.1) : DI T (i + 1) (d + t.2) D where
  d := by rw [tot_snoc ht, I.d]
  up := I.up
  val := I.val
  cut := fun a m => by obtain ⟨b, mb, e⟩ := I.cut a m; exact ⟨b, (take_mem ht).mpr (.inl mb), e⟩
  all := fun a m => by
    rcases (take_mem ht).mp m with m | rfl
    · rcases I.all a m with h | ⟨v, hv, ev⟩
      · exact .inl h
      · rw [ht] at hv; cases hv
        exact .inr ⟨u, hu, by omega⟩
    · exact .inr ⟨u, hu, e.symm⟩
  nx := fun a m v hv => by
    rw [hu] at hv; cases hv
    have := I.nx a m t ht
    omega
  len := Nat.le_succ_of_le I.len
theorem DI.put {T D : List (Int × Int)} {i : Nat} {d : Int} {t : Int × Int} (hs : T.Pairwise fun a b => a.1 ≤ b.1) (I : DI T i d D) (ht : T[i]? = some t) (e : ∀ u, T[i + 1]? = some u → t.1 ≠ u.1) : DI T (i + 1) (d + t.2) (D ++ [(t.1, d + t.2)]) where
  d := by rw [tot_snoc ht, I.d]
  up := by
    rw [List.pairwise_append]
    exact ⟨I.up, List.pairwise_singleton .., fun a m b mb => by rw [List.mem_singleton.mp mb]; exact I.nx a m t ht⟩
  val := fun a m => by
    rcases List.mem_append.mp m with m | m
    · exact I.val a m
    · rw [List.mem_singleton.mp m]
      show d + t.2 = sumLe T t.1
      have h1 := sorted_le hs ht
      have e0 : T = T.take (i + 1) ++ T.drop (i + 1) := (List.take_append_drop _ T).symm
      rw [e0, sumLe_app, sumLe_all fun u m => ?_, sumLe_none fun u m => ?_, tot_snoc ht, I.d]
      · omega
      · rcases Nat.lt_or_ge (i + 1) T.length with hl | hl
        · have hu : T[i + 1]? = some T[i + 1] := List.getElem?_eq_getElem hl
          have h2 := sorted_le hs hu
          have h3 := h2.2 u m
          have h4 := h1.2 T[i + 1] (by rw [List.mem_iff_getElem?]; exact ⟨1, by rw [List.getElem?_drop]; exact hu⟩)
          have h5 := e _ hu
          omega
        · rw [List.drop_eq_nil_of_le hl] at m; exact (List.not_mem_nil m).elim
      · rcases (take_mem ht).mp m with m | rfl
        · exact h1.1 u m
        · exact Int.le_refl _
  cut := fun a m => by
    rcases List.mem_append.mp m with m | m
    · obtain ⟨b, mb, e⟩ := I.cut a m; exact ⟨b, (take_mem ht).mpr (.inl mb), e⟩
    · rw [List.mem_singleton.mp m]; exact ⟨t, (take_mem ht).mpr (.inr rfl), rfl⟩
  all := fun a m => by
    left
    have new : ∃ e ∈ D ++ [(t.1, d + t.2)], e.1 = t.1 := ⟨(t.1, d + t.2), List.mem_append.mpr (.inr (List.mem_singleton.mpr rfl)), rfl⟩
    rcases (take_mem ht).mp m with m | rfl
    · rcases I.all a m with ⟨b, mb, eb⟩ | ⟨v, hv, ev⟩
      · exact ⟨b, List.mem_append.mpr (.inl mb), eb⟩
      · rw [ht] at hv; cases hv
        rw [← ev]; exact new
    · exact new
  nx := fun a m v hv => by
    have h1 := (sorted_le hs ht).2 v (by rw [List.mem_iff_getElem?]; exact ⟨1, by rw [List.getElem?_drop]; exact hv⟩)
    have h2 := e v hv
    rcases List.mem_append.mp m with m | m
    · have := I.nx a m t ht; omega
    · rw [List.mem_singleton.mp m]; show t.1 < v.1; omega
  len := by rw [List.length_append, List.length_singleton]; have := I.len; omega
theorem DI.fin {T D : List (Int × Int)} {d : Int} (I : DI T T.length d D) : Dep T D where
  up := I.up
  val := I.val
  cut := fun a m => by obtain ⟨b, mb, e⟩ := I.cut a m; exact ⟨b, by rwa [List.take_length] at mb, e⟩
  all := fun t m => by
    rcases I.all t (by rwa [List.take_length]) with h | ⟨u, hu, _⟩
    · exact h
    · rw [List.getElem?_eq_none (Nat.le_refl _)] at hu; cases hu
  len := I.len
/-! ### the loop of covered -/
structure CovI (T D : List (Int × Int)) (need : Int) (i : Nat) (st : Option Int) (F : List Iv) : Prop where
  can : Can F
  cut : ∀ p ∈ F, (∃ t ∈ T, t.1 = p.1) ∧ ∃ t ∈ T, t.1 = p.2
  len : 2 * F.length + (if st.isSome then 1 else 0) ≤ i
  nn : st = none → (∀ p ∈ F, ∀ e, D[i]? = some e → p.2 < e.1) ∧ ∀ z, (∀ e, D[i]? = some e → z < e.1) → (mem F z ↔ need ≤ sumLe T z)
  sm : ∀ s, st = some s → (∃ t ∈ T, t.1 = s) ∧ (∀ p ∈ F, p.2 < s) ∧ (∀ e, D[i]? = some e → s < e.1) ∧ (∀ z, z < s → (mem F z ↔ need ≤ sumLe T z)) ∧ ∀ z, s ≤ z → (∀ e, D[i]? = some e → z < e.1) → need ≤ sumLe T z
theorem CovI.zero {T D : List (Int × Int)} {need : Int} (h1 : 1 ≤ need) (hD : Dep T D) : CovI T D need 0 none [] := by
  refine ⟨Can.nil, fun _ h => (List.not_mem_nil h).elim, by simp, fun _ => ⟨fun _ h => (List.not_mem_nil h).elim, fun z hz => ⟨fun h => (mem_nil h).elim, fun h => ?_⟩⟩, fun s h => by cases h⟩
  rw [sumLe_none fun t m => ?_] at h
  · omega
  · obtain ⟨e, me, ee⟩ := hD.all t m
    obtain ⟨j, hj⟩ := List.mem_iff_getElem?.mp me
    have hl := (List.getElem?_eq_some_iff.mp hj).1
    have h0 : D[0]? = Option.some D[0] := List.getElem?_eq_getElem (by omega)
    have := hz _ h0
    rcases Nat.eq_zero_or_pos j with rfl | hp
    · rw [h0] at hj; have hj := Option.some.inj hj; rw [← ee, ← hj]; exact this
    · have := List.pairwise_iff_getElem.mp hD.up 0 j (by omega) hl hp
      rw [(List.getElem?_eq_some_iff.mp hj).2] at this
      omega
/-- between a cut and the next one nothing changes -/
theorem dep_between {T D : List (Int × Int)} (hD : Dep T D) {i : Nat} {e : Int × Int} (he : D[i]? = some e) {z : Int} (h1 : e.1 ≤ z) (h2 : ∀ u, D[i + 1]? = some u → z < u.1) : sumLe T z = e.2 := by
  rw [hD.val e (List.mem_of_getElem? he)]
  refine sumLe_out fun t m => ⟨fun h => ?_, fun h => by omega⟩
  obtain ⟨f, mf, ef⟩ := hD.all t m
  obtain ⟨j, hj⟩ := List.mem_iff_getElem?.mp mf
  have hl := (List.getElem?_eq_some_iff.mp hj).1
  have hi := (List.getElem?_eq_some_iff.mp he).1
  have e1 := (List.getElem?_eq_some_iff.mp hj).2
  have e2 := (List.getElem?_eq_some_iff.mp he).2
  rcases Nat.lt_trichotomy j i with h3 | h3 | h3
  · have := List.pairwise_iff_getElem.mp hD.up j i hl hi h3
    rw [e1, e2] at this; omega
  · subst h3; rw [e1] at e2; subst e2; omega
  · have hl2 : i + 1 < D.length := by omega
    have h4 := h2 _ (List.getElem?_eq_getElem hl2)
    rcases Nat.lt_or_ge (i + 1) j with h5 | h5
    · have := List.pairwise_iff_getElem.mp hD.up (i + 1) j hl2 hl h5
      rw [e1] at this; omega
    · have : j = i + 1 := by omega
      subst this
      rw [e1] at h4; omega
theorem dep_next {T D : List (Int × Int)} (hD : Dep T D) {i : Nat} {e u : Int × Int} (he : D[i]? = some e) (hu : D[i + 1]? = some u) : e.1 < u.1 := by
  have hi := (List.getElem?_eq_some_iff.mp he)
  have hj := (List.getElem?_eq_some_iff.mp hu)
  have := List.pairwise_iff_getElem.mp hD.up i (i + 1) hi.1 hj.1 (by omega)
  rwa [hi.2, hj.2] at this
section
variable {T D : List (Int × Int)} {need : Int} {i : Nat} {F : List Iv} {e : Int × Int} {s : Int}
theorem CovI.begin_ (hD : Dep T D) (I : CovI T D need i none F) (he : D[i]? = some e) (h : need ≤ e.2) : CovI T D need (i + 1) (some e.1) F := by
  obtain ⟨a, b⟩ := I.nn rfl
  refine ⟨I.can, I.cut, by (have := I.len; simp at this ⊢; omega), (fun x => by cases x), fun s x => ?_⟩
  cases x
  refine ⟨hD.cut e (List.mem_of_getElem? he), fun p m => a p m e he, fun u hu => dep_next hD he hu, fun z hz => b z fun u hu => by rw [he] at hu; cases hu; exact hz, fun z hz hn => ?_⟩
  rw [dep_between hD he hz hn]; exact h
theorem CovI.stay0 (hD : Dep T D) (I : CovI T D need i none F) (he : D[i]? = some e) (h : e.2 < need) : CovI T D need (i + 1) none F := by
  obtain ⟨a, b⟩ := I.nn rfl
  refine ⟨I.can, I.cut, Nat.le_succ_of_le I.len, fun _ => ⟨fun p m u hu => Int.lt_trans (a p m e he) (dep_next hD he hu), fun z hz => ?_⟩, fun s x => by cases x⟩
  rcases Int.lt_or_le z e.1 with h1 | h1
  · exact b z fun u hu => by rw [he] at hu; cases hu; exact h1
  · rw [dep_between hD he h1 hz]
    refine ⟨fun ⟨p, m, _, h2⟩ => ?_, fun h2 => by omega⟩
    have := a p m e he
    omega
theorem CovI.stay1 (hD : Dep T D) (I : CovI T D need i (some s) F) (he : D[i]? = some e) (h : need ≤ e.2) : CovI T D need (i + 1) (some s) F := by
  obtain ⟨a, b, c, d, f⟩ := I.sm s rfl
  refine ⟨I.can, I.cut, Nat.le_succ_of_le I.len, (fun x => by cases x), fun s' x => ?_⟩
  cases x
  refine ⟨a, b, fun u hu => Int.lt_trans (c e he) (dep_next hD he hu), d, fun z hz hn => ?_⟩
  rcases Int.lt_or_le z e.1 with h1 | h1
  · exact f z hz fun u hu => by rw [he] at hu; cases hu; exact h1
  · rw [dep_between hD he h1 hn]; exact h
theorem CovI.end_ (hD : Dep T D) (I : CovI T D need i (some s) F) (he : D[i]? = some e) (h : e.2 < need) : CovI T D need (i + 1) none (F ++ [(s, e.1)]) := by
  obtain ⟨a, b, c, d, f⟩ := I.sm s rfl
  have hse := c e he
  refine ⟨I.can.app hse b, fun p m => ?_, by have := I.len; simp at this ⊢; omega, fun _ => ⟨fun p m u hu => ?_, fun z hz => ?_⟩, fun s x => by cases x⟩
  · rcases List.mem_append.mp m with m | m
    · exact I.cut p m
    · rw [List.mem_singleton.mp m]; exact ⟨a, hD.cut e (List.mem_of_getElem? he)⟩
  · have := dep_next hD he hu
    rcases List.mem_append.mp m with m | m
    · have := b p m; omega
    · rw [List.mem_singleton.mp m]; exact this
  · rw [mem_app, mem_one]
    rcases Int.lt_or_le z s with h1 | h1
    · rw [d z h1]
      exact ⟨fun x => x.elim id fun y => by omega, .inl⟩
    rcases Int.lt_or_le z e.1 with h2 | h2
    · exact ⟨fun _ => f z h1 fun u hu => by rw [he] at hu; cases hu; exact h2, fun _ => .inr ⟨h1, h2⟩⟩
    · rw [dep_between hD he h2 hz]
      refine ⟨fun x => x.elim (fun ⟨p, m, _, h3⟩ => ?_) fun y => by omega, fun x => by omega⟩
      have := b p m
      omega
theorem CovI.fin {st : Option Int} (h1 : 1 ≤ need) (h0 : tot T = 0) (I : CovI T D need D.length st F) : st = none ∧ ∀ z, mem F z ↔ need ≤ sumLe T z := by
  have no : ∀ {x : Int × Int} {P : Prop}, D[D.length]? = some x → P := fun h => by rw [List.getElem?_eq_none (Nat.le_refl _)] at h; cases h
  cases st with
  | none => exact ⟨rfl, fun z => (I.nn rfl).2 z fun u hu => no hu⟩
  | some s =>
    obtain ⟨a, b, c, d, f⟩ := I.sm s rfl
    obtain ⟨M, hM⟩ : ∃ M, s ≤ M ∧ ∀ t ∈ T, t.1 ≤ M := by
      clear a b c d f I h0
      induction T with
      | nil => exact ⟨s, Int.le_refl _, fun _ h => (List.not_mem_nil h).elim⟩
      | cons t T ih =>
        obtain ⟨M, h1, h2⟩ := ih
        refine ⟨max M t.1, by omega, fun u m => ?_⟩
        rcases List.mem_cons.mp m with rfl | m
        · omega
        · have := h2 u m; omega
    have := f M hM.1 fun u hu => no hu
    rw [sumLe_all hM.2, h0] at this
    omega
end
theorem tot_steps {S : List Iv} : tot (steps S) = 0 := by
  have : ∀ (A B : List (Int × Int)), tot (A ++ B) = tot A + tot B := fun A B => by simp [tot]
  unfold steps
  rw [this]
  induction S with
  | nil => rfl
  | cons p S ih => simp only [List.map_cons, tot, List.sum_cons] at ih ⊢; omega
theorem tot_perm {A B : List (Int × Int)} (h : A.Perm B) : tot A = tot B := by
  induction h with
  | nil => rfl
  | cons x _ ih => simp only [tot, List.map_cons, List.sum_cons] at ih ⊢; omega
  | swap x y l => simp only [tot, List.map_cons, List.sum_cons]; omega
  | trans _ _ a b => exact a.trans b
/-! ### the loop of uncovered -/
structure UncI (B : Int) (L : List Iv) (i : Nat) (s : Int) (F : List Iv) : Prop where
  can : Can F
  bel : ∀ p ∈ F, p.2 < s
  nx : ∀ q, L[i]? = some q → s ≤ q.1
  old : ∀ q ∈ L.take i, q.2 ≤ s
  lo : -B ≤ s
  hi : s ≤ B
  is : ∀ z, z < s → (mem F z ↔ -B ≤ z ∧ ¬ mem L z)
  len : F.length ≤ i
  cut : ∀ p ∈ F, (p.1 = -B ∨ ∃ q ∈ L, q.2 = p.1) ∧ ∃ q ∈ L, q.1 = p.2
  st : s = -B ∨ ∃ q ∈ L, q.2 = s
theorem can_next {L : List Iv} (hL : Can L) {i : Nat} {p q : Iv} (hp : L[i]? = some p) (hq : L[i + 1]? = some q) : p.2 < q.1 := by
  have hi := (List.getElem?_eq_some_iff.mp hp)
  have hj := (List.getElem?_eq_some_iff.mp hq)
  have := List.pairwise_iff_getElem.mp hL.ap i (i + 1) hi.1 hj.1 (by omega)
  rwa [hi.2, hj.2] at this
theorem can_after {L : List Iv} (hL : Can L) {i j : Nat} {p q : Iv} (hp : L[i]? = some p) (hq : L[j]? = some q) (h : i < j) : p.2 < q.1 := by
  have hi := (List.getElem?_eq_some_iff.mp hp)
  have hj := (List.getElem?_eq_some_iff.mp hq)
  have := List.pairwise_iff_getElem.mp hL.ap i j hi.1 hj.1 h
  rwa [hi.2, hj.2] at this
section
variable {B : Int} {L : List Iv}
theorem UncI.zero (hB : 0 ≤ B) (hb : ∀ q ∈ L, -B ≤ q.1 ∧ q.2 ≤ B) : UncI B L 0 (-B) [] :=
  ⟨Can.nil, fun _ h => (List.not_mem_nil h).elim, fun q h => (hb q (List.mem_of_getElem? h)).1, fun q h => by simp at h, by omega, by omega, fun z hz => ⟨fun h => (mem_nil h).elim, fun h => by omega⟩, Nat.le_refl _, fun _ h => (List.not_mem_nil h).elim, .inl rfl⟩
theorem unc_mid (hL : Can L) {i : Nat} {q : Iv} {s : Int} (hq : L[i]? = some q) (old : ∀ q ∈ L.take i, q.2 ≤ s) {z : Int} (h1 : s ≤ z) (h2 : z < q.2) : mem L z ↔ q.1 ≤ z := by
  refine ⟨fun ⟨r, m, a, b⟩ => ?_, fun h => ⟨q, List.mem_of_getElem? hq, h, h2⟩⟩
  obtain ⟨j, hj⟩ := List.mem_iff_getElem?.mp m
  rcases Nat.lt_trichotomy j i with h | h | h
  · have := old r (by rw [List.mem_iff_getElem?]; exact ⟨j, by rw [List.getElem?_take, if_pos h]; exact hj⟩)
    omega
  · subst h; rw [hq] at hj; cases hj; exact a
  · have := can_after hL hq hj h; omega
theorem UncI.skip (hL : Can L) (hb : ∀ q ∈ L, -B ≤ q.1 ∧ q.2 ≤ B) {i : Nat} {s : Int} {F : List Iv} {q : Iv} (I : UncI B L i s F) (hq : L[i]? = some q) (h : ¬ s < q.1) : UncI B L (i + 1) q.2 F := by
  have m := List.mem_of_getElem? hq
  have hlt := hL.lt q m
  have h1 := I.nx q hq
  have es : s = q.1 := by omega
  refine ⟨I.can, fun p mp => by have := I.bel p mp; omega, fun r hr => by have := can_next hL hq hr; omega, fun r mr => ?_, by have := I.lo; omega, (hb q m).2, fun z hz => ?_, Nat.le_succ_of_le I.len, I.cut, .inr ⟨q, m, rfl⟩⟩
  · rcases (take_mem hq).mp mr with mr | rfl
    · have := I.old r mr; omega
    · exact Int.le_refl _
  · rcases Int.lt_or_le z s with h2 | h2
    · exact I.is z h2
    · rw [unc_mid hL hq I.old h2 hz]
      refine ⟨fun ⟨p, mp, _, h3⟩ => ?_, fun h3 => absurd (by omega) h3.2⟩
      have := I.bel p mp; omega
theorem UncI.put (hL : Can L) (hb : ∀ q ∈ L, -B ≤ q.1 ∧ q.2 ≤ B) {i : Nat} {s : Int} {F : List Iv} {q : Iv} (I : UncI B L i s F) (hq : L[i]? = some q) (h : s < q.1) : UncI B L (i + 1) q.2 (F ++ [(s, q.1)]) := by
  have m := List.mem_of_getElem? hq
  have hlt := hL.lt q m
  have hlo := I.lo
  refine ⟨I.can.app h I.bel, fun p mp => ?_, fun r hr => by have := can_next hL hq hr; omega, fun r mr => ?_, by omega, (hb q m).2, fun z hz => ?_, by rw [List.length_append, List.length_singleton]; have := I.len; omega, fun p mp => ?_, .inr ⟨q, m, rfl⟩⟩
  · rcases List.mem_append.mp mp with mp | mp
    · have := I.bel p mp; omega
    · rw [List.mem_singleton.mp mp]; exact hlt
  · rcases (take_mem hq).mp mr with mr | rfl
    · have := I.old r mr; omega
    · exact Int.le_refl _
  · rw [mem_app, mem_one]
    rcases Int.lt_or_le z s with h2 | h2
    · rw [I.is z h2]
      exact ⟨fun x => x.elim id fun y => by omega, .inl⟩
    · rw [unc_mid hL hq I.old h2 hz]
      refine ⟨fun x => x.elim (fun ⟨p, mp, _, h3⟩ => ?_) fun y => ⟨by omega, by omega⟩, fun y => .inr ⟨h2, by omega⟩⟩
      have := I.bel p mp; omega
  · rcases List.mem_append.mp mp with mp | mp
    · exact I.cut p mp
    · rw [List.mem_singleton.mp mp]; exact ⟨I.st, q, m, rfl⟩
/-- what uncovered gives -/
structure Unc (B : Int) (L F : List Iv) : Prop where
  can : Can F
  is : ∀ z, mem F z ↔ -B ≤ z ∧ z < B ∧ ¬ mem L z
  len : F.length ≤ L.length + 1
  cut : ∀ p ∈ F, (p.1 = -B ∨ ∃ q ∈ L, q.2 = p.1) ∧ (p.2 = B ∨ ∃ q ∈ L, q.1 = p.2)
theorem unc_out {s : Int} (old : ∀ q ∈ L.take L.length, q.2 ≤ s) {z : Int} (h : s ≤ z) : ¬ mem L z := fun ⟨q, m, _, b⟩ => by
  have := old q (by rwa [List.take_length]); omega
theorem UncI.fin0 {s : Int} {F : List Iv} (I : UncI B L L.length s F) (h : ¬ s < B) : Unc B L F := by
  have e : s = B := by have := I.hi; omega
  subst e
  refine ⟨I.can, fun z => ?_, Nat.le_succ_of_le I.len, fun p m => ⟨(I.cut p m).1, .inr (I.cut p m).2⟩⟩
  rcases Int.lt_or_le z s with h2 | h2
  · rw [I.is z h2]; exact ⟨fun x => ⟨x.1, h2, x.2⟩, fun x => ⟨x.1, x.2.2⟩⟩
  · refine ⟨fun ⟨p, m, _, h3⟩ => ?_, fun x => by omega⟩
    have := I.bel p m; omega
theorem UncI.fin1 {s : Int} {F : List Iv} (I : UncI B L L.length s F) (h : s < B) : Unc B L (F ++ [(s, B)]) := by
  have lo := I.lo
  refine ⟨I.can.app h I.bel, fun z => ?_, by rw [List.length_append, List.length_singleton]; have := I.len; omega, fun p m => ?_⟩
  · rw [mem_app, mem_one]
    rcases Int.lt_or_le z s with h2 | h2
    · rw [I.is z h2]; exact ⟨fun x => x.elim (fun x => ⟨x.1, by omega, x.2⟩) fun y => by omega, fun x => .inl ⟨x.1, x.2.2⟩⟩
    · refine ⟨fun x => x.elim (fun ⟨p, m, _, h3⟩ => ?_) fun y => ⟨by omega, y.2, unc_out I.old h2⟩, fun x => .inr ⟨h2, x.2.1⟩⟩
      have := I.bel p m; omega
  · rcases List.mem_append.mp m with m | m
    · exact ⟨(I.cut p m).1, .inr (I.cut p m).2⟩
    · rw [List.mem_singleton.mp m]; exact ⟨I.st, .inl rfl⟩
end
/-! ### merging -/
structure MI {α : Type} (k : α → Int) (l r : List α) (a b : Nat) (F : List α) : Prop where
  pm : F.Perm (l.take a ++ r.take b)
  so : F.Pairwise fun x y => k x ≤ k y
  l : ∀ x ∈ F, ∀ y ∈ l.drop a, k x ≤ k y
  r : ∀ x ∈ F, ∀ y ∈ r.drop b, k x ≤ k y
section
variable {α : Type} {k : α → Int} {l r F : List α} {a b : Nat}
theorem MI.zero : MI k l r 0 0 [] := ⟨by simp, .nil, fun _ h => (List.not_mem_nil h).elim, fun _ h => (List.not_mem_nil h).elim⟩
theorem drop_hd {l : List α} {a : Nat} {x : α} (h : l[a]? = some x) : l.drop a = x :: l.drop (a + 1) := by
  rw [List.drop_eq_getElem_cons (List.getElem?_eq_some_iff.mp h).1, (List.getElem?_eq_some_iff.mp h).2]
theorem so_drop (h : l.Pairwise fun x y => k x ≤ k y) {x : α} (hx : l[a]? = some x) : ∀ y ∈ l.drop a, k x ≤ k y := by
  intro y m
  have h2 : (l.drop a).Pairwise fun x y => k x ≤ k y := List.Pairwise.sublist (List.drop_sublist ..) h
  rw [drop_hd hx] at h2 m
  rcases List.mem_cons.mp m with rfl | m
  · exact Int.le_refl _
  · exact (List.pairwise_cons.mp h2).1 y m
theorem MI.left (hl : l.Pairwise fun x y => k x ≤ k y) (hr : r.Pairwise fun x y => k x ≤ k y) (I : MI k l r a b F) {x y : α} (hx : l[a]? = some x) (hy : r[b]? = some y) (h : k x ≤ k y) : MI k l r (a + 1) b (F ++ [x]) := by
  have ml : ∀ z ∈ l.drop (a + 1), z ∈ l.drop a := fun z m => by rw [drop_hd hx]; exact List.mem_cons_of_mem _ m
  refine ⟨?_, ?_, fun z m u mu => ?_, fun z m u mu => ?_⟩
  · rw [List.take_add_one, hx]
    simp only [Option.toList_some]
    refine (I.pm.append_right [x]).trans ?_
    rw [List.append_assoc, List.append_assoc]
    exact List.Perm.append_left _ List.perm_append_comm
  · rw [List.pairwise_append]
    refine ⟨I.so, List.pairwise_singleton .., fun z m u mu => ?_⟩
    rw [List.mem_singleton.mp mu]
    exact I.l z m x (by rw [drop_hd hx]; exact List.mem_cons_self ..)
  · rcases List.mem_append.mp m with m | m
    · exact I.l z m u (ml u mu)
    · rw [List.mem_singleton.mp m]; exact so_drop hl hx u (ml u mu)
  · rcases List.mem_append.mp m with m | m
    · exact I.r z m u mu
    · rw [List.mem_singleton.mp m]; exact Int.le_trans h (so_drop hr hy u mu)
theorem MI.right (hl : l.Pairwise fun x y => k x ≤ k y) (hr : r.Pairwise fun x y => k x ≤ k y) (I : MI k l r a b F) {x y : α} (hx : l[a]? = some x) (hy : r[b]? = some y) (h : k y ≤ k x) : MI k l r a (b + 1) (F ++ [y]) := by
  have mr : ∀ z ∈ r.drop (b + 1), z ∈ r.drop b := fun z m => by rw [drop_hd hy]; exact List.mem_cons_of_mem _ m
  refine ⟨?_, ?_, fun z m u mu => ?_, fun z m u mu => ?_⟩
  · rw [List.take_add_one, hy]
    simp only [Option.toList_some]
    refine (I.pm.append_right [y]).trans ?_
    rw [List.append_assoc]
  · rw [List.pairwise_append]
    refine ⟨I.so, List.pairwise_singleton .., fun z m u mu => ?_⟩
    rw [List.mem_singleton.mp mu]
    exact I.r z m y (by rw [drop_hd hy]; exact List.mem_cons_self ..)
  · rcases List.mem_append.mp m with m | m
    · exact I.l z m u mu
    · rw [List.mem_singleton.mp m]; exact Int.le_trans h (so_drop hl hx u mu)
  · rcases List.mem_append.mp m with m | m
    · exact I.r z m u (mr u mu)
    · rw [List.mem_singleton.mp m]; exact so_drop hr hy u (mr u mu)
theorem MI.fin (hl : l.Pairwise fun x y => k x ≤ k y) (hr : r.Pairwise fun x y => k x ≤ k y) (I : MI k l r a b F) (h : l.length ≤ a ∨ r.length ≤ b) : (F ++ l.drop a ++ r.drop b).Perm (l ++ r) ∧ (F ++ l.drop a ++ r.drop b).Pairwise fun x y => k x ≤ k y := by
  constructor
  · refine ((I.pm.append_right _).append_right _).trans ?_
    have e1 := List.take_append_drop a l
    have e2 := List.take_append_drop b r
    calc List.Perm (l.take a ++ r.take b ++ l.drop a ++ r.drop b) (l.take a ++ l.drop a ++ r.take b ++ r.drop b) := by
          refine List.Perm.append_right _ ?_
          rw [List.append_assoc, List.append_assoc]
          exact List.Perm.append_left _ List.perm_append_comm
      List.Perm _ (l ++ r) := by rw [e1, List.append_assoc, e2]
  · rcases h with h | h
    · rw [List.drop_eq_nil_of_le h, List.append_nil, List.pairwise_append]
      exact ⟨I.so, List.Pairwise.sublist (List.drop_sublist ..) hr, I.r⟩
    · rw [List.drop_eq_nil_of_le h, List.append_nil, List.pairwise_append]
      exact ⟨I.so, List.Pairwise.sublist (List.drop_sublist ..) hl, I.l⟩
end
end Pc
namespace Pc
/-! ### a stretch as it is written: ends in parts of 1 / g, and whether they belong to it -/
def BB : Int := 2 ^ 240
theorem BB_big : 2 ^ 230 < BB := by unfold BB; decide
abbrev Sc (c : Int) : Prop := -2 ^ 201 ≤ c ∧ c < 2 ^ 201
abbrev Rw := Option Int × Bool × Option Int × Bool
def loC (r : Rw) : Int := match r.1 with
  | none => -BB
  | some t => 2 * t + (if r.2.1 = true then 0 else 1)
def hiC (r : Rw) : Int := match r.2.2.1 with
  | none => BB
  | some t => 2 * t + (if r.2.2.2 = true then 1 else 0)
def iv (r : Rw) : Iv := (loC r, hiC r)
def Sm (t : Int) : Prop := -2 ^ 200 ≤ t ∧ t < 2 ^ 200
def SmO (o : Option Int) : Prop := ∀ t, o = some t → Sm t
def SmR (r : Rw) : Prop := SmO r.1 ∧ SmO r.2.2.1
def Bad0 (r : Rw) : Prop := (r.1 = none ∧ r.2.1 = true) ∨ (r.2.2.1 = none ∧ r.2.2.2 = true)
structure Good (r : Rw) : Prop where
  no : ¬ Bad0 r
  lt : loC r < hiC r
instance {r : Rw} : Decidable (Bad0 r) := by unfold Bad0; exact inferInstance
def good (r : Rw) : Bool := decide (¬ Bad0 r) && decide (loC r < hiC r)
theorem good_iff {r : Rw} : good r = true ↔ Good r := by
  unfold good
  rw [Bool.and_eq_true, decide_eq_true_iff, decide_eq_true_iff]
  exact ⟨fun h => ⟨h.1, h.2⟩, fun h => ⟨h.no, h.lt⟩⟩
/-- a cut: below all, above all, or at a small value -/
def CutOk (c : Int) : Prop := c = -BB ∨ c = BB ∨ Sc c
def SmI (p : Iv) : Prop := (p.1 = -BB ∨ Sc p.1) ∧ (p.2 = BB ∨ Sc p.2)
theorem loC_ok {r : Rw} (h : SmR r) : loC r = -BB ∧ r.1 = none ∨ (∃ t, r.1 = some t ∧ Sm t ∧ loC r = 2 * t + (if r.2.1 = true then 0 else 1)) := by
  cases e : r.1 with
  | none => exact .inl ⟨by unfold loC; rw [e], rfl⟩
  | some t => exact .inr ⟨t, rfl, h.1 t e, by unfold loC; rw [e]⟩
theorem hiC_ok {r : Rw} (h : SmR r) : hiC r = BB ∧ r.2.2.1 = none ∨ (∃ t, r.2.2.1 = some t ∧ Sm t ∧ hiC r = 2 * t + (if r.2.2.2 = true then 1 else 0)) := by
  cases e : r.2.2.1 with
  | none => exact .inl ⟨by unfold hiC; rw [e], rfl⟩
  | some t => exact .inr ⟨t, rfl, h.2 t e, by unfold hiC; rw [e]⟩
theorem sm_iv {r : Rw} (h : SmR r) : SmI (iv r) := by
  refine ⟨?_, ?_⟩
  · rcases loC_ok h with ⟨a, _⟩ | ⟨t, _, s, e⟩
    · exact .inl a
    · right; show Sc (loC r); rw [e]; unfold Sm at s; split <;> omega
  · rcases hiC_ok h with ⟨a, _⟩ | ⟨t, _, s, e⟩
    · exact .inl a
    · right; show Sc (hiC r); rw [e]; unfold Sm at s; split <;> omega
/-- the stretch between two cuts, as it is written -/
def rwOf (p : Iv) : Rw := (if Sc p.1 then some (p.1 / 2) else none, decide (Sc p.1) && decide (p.1 % 2 = 0), if Sc p.2 then some (p.2 / 2) else none, decide (Sc p.2) && decide (p.2 % 2 = 1))
theorem bb_not : ¬ Sc BB ∧ ¬ Sc (-BB) := by
  have := BB_big
  omega
theorem iv_rw {p : Iv} (h : SmI p) : iv (rwOf p) = p ∧ ¬ Bad0 (rwOf p) ∧ (rwOf p).1 = (if Sc p.1 then some (p.1 / 2) else none) := by
  obtain ⟨a, b⟩ := p
  obtain ⟨h1, h2⟩ := h
  simp only at h1 h2
  refine ⟨Prod.ext ?_ ?_, ?_, rfl⟩
  · show loC (rwOf (a, b)) = a
    unfold loC rwOf
    simp only
    rcases h1 with rfl | h1
    · rw [if_neg bb_not.2]
    · rw [if_pos h1]
      rw [decide_eq_true h1, Bool.true_and]
      by_cases e : a % 2 = 0
      · rw [decide_eq_true e, if_pos rfl]; show 2 * (a / 2) + 0 = a; omega
      · rw [decide_eq_false e, if_neg (by decide)]; show 2 * (a / 2) + 1 = a; omega
  · show hiC (rwOf (a, b)) = b
    unfold hiC rwOf
    simp only
    rcases h2 with rfl | h2
    · rw [if_neg bb_not.1]
    · rw [if_pos h2]
      rw [decide_eq_true h2, Bool.true_and]
      by_cases e : b % 2 = 1
      · rw [decide_eq_true e, if_pos rfl]; show 2 * (b / 2) + 1 = b; omega
      · rw [decide_eq_false e, if_neg (by decide)]; show 2 * (b / 2) + 0 = b; omega
  · unfold Bad0 rwOf
    simp only
    rintro (⟨x, y⟩ | ⟨x, y⟩)
    · by_cases c : Sc a
      · rw [if_pos c] at x; cases x
      · rw [decide_eq_false c] at y; cases y
    · by_cases c : Sc b
      · rw [if_pos c] at x; cases x
      · rw [decide_eq_false c] at y; cases y
theorem sm_rw {p : Iv} (h : SmI p) : SmR (rwOf p) := by
  refine ⟨fun t e => ?_, fun t e => ?_⟩
  · change (if Sc p.1 then some (p.1 / 2) else none) = some t at e
    split at e
    · cases e; unfold Sm; omega
    · cases e
  · change (if Sc p.2 then some (p.2 / 2) else none) = some t at e
    split at e
    · cases e; unfold Sm; omega
    · cases e
theorem rw_inj {p q : Iv} (hp : SmI p) (hq : SmI q) (h : rwOf p = rwOf q) : p = q := by
  rw [← (iv_rw hp).1, ← (iv_rw hq).1, h]
/-! ### the places between the ends -/
/-- the k-th border: below all, before or behind an end, above all -/
def R (E : List Int) (k : Nat) : Int := if k = 0 then -BB else match E[(k - 1) / 2]? with
  | some t => 2 * t + ((k - 1) % 2 : Nat)
  | none => BB
structure Ends (E : List Int) : Prop where
  up : E.Pairwise (· < ·)
  sm : ∀ t ∈ E, Sm t
  ev : ∀ t ∈ E, t % 2 = 0
theorem R_zero {E : List Int} : R E 0 = -BB := rfl
theorem R_at {E : List Int} {j : Nat} {t : Int} (h : E[j]? = some t) : R E (2 * j + 1) = 2 * t ∧ R E (2 * j + 2) = 2 * t + 1 := by
  unfold R
  rw [if_neg (by omega), if_neg (by omega), show (2 * j + 1 - 1) / 2 = j by omega, show (2 * j + 2 - 1) / 2 = j by omega, h]
  simp only
  rw [show (2 * j + 1 - 1) % 2 = 0 by omega, show (2 * j + 2 - 1) % 2 = 1 by omega]
  exact ⟨by simp, by simp⟩
theorem R_end {E : List Int} : R E (2 * E.length + 1) = BB := by
  unfold R
  rw [if_neg (by omega), show (2 * E.length + 1 - 1) / 2 = E.length by omega, List.getElem?_eq_none (Nat.le_refl _)]
theorem R_next {E : List Int} (h : Ends E) {k : Nat} (hk : k < 2 * E.length + 1) : R E k < R E (k + 1) := by
  have bb := BB_big
  rcases Nat.eq_zero_or_pos k with rfl | hp
  · rw [R_zero]
    rcases Nat.eq_zero_or_pos E.length with e | e
    · have := R_end (E := E); rw [e] at this; rw [this]; omega
    · have ht : E[0]? = some E[0] := List.getElem?_eq_getElem e
      have := (R_at ht).1
      rw [show 0 + 1 = 2 * 0 + 1 from rfl, this]
      have := h.sm E[0] (List.getElem_mem e); unfold Sm at this; omega
  · obtain ⟨j, hj⟩ : ∃ j, k = 2 * j + 1 ∨ k = 2 * j + 2 := ⟨(k - 1) / 2, by omega⟩
    have hl : j < E.length := by omega
    have ht : E[j]? = some E[j] := List.getElem?_eq_getElem hl
    have r := R_at ht
    rcases hj with rfl | rfl
    · rw [r.1, r.2]; omega
    · rw [r.2]
      rcases Nat.lt_or_ge (j + 1) E.length with h2 | h2
      · have ht2 : E[j + 1]? = some E[j + 1] := List.getElem?_eq_getElem h2
        rw [show 2 * j + 2 + 1 = 2 * (j + 1) + 1 by omega, (R_at ht2).1]
        have := List.pairwise_iff_getElem.mp h.up j (j + 1) hl h2 (by omega)
        omega
      · have : j + 1 = E.length := by omega
        rw [show 2 * j + 2 + 1 = 2 * E.length + 1 by omega, R_end]
        have := h.sm E[j] (List.getElem_mem hl); unfold Sm at this; omega
theorem R_up {E : List Int} (h : Ends E) {i j : Nat} (hij : i < j) (hj : j ≤ 2 * E.length + 1) : R E i < R E j := by
  induction j with
  | zero => omega
  | succ j ih =>
    have := R_next h (k := j) (by omega)
    rcases Nat.lt_or_ge i j with h2 | h2
    · have := ih h2 (by omega); omega
    · have : i = j := by omega
      subst this; assumption
theorem R_le {E : List Int} (h : Ends E) {i j : Nat} (hij : i ≤ j) (hj : j ≤ 2 * E.length + 1) : R E i ≤ R E j := by
  rcases Nat.lt_or_ge i j with h2 | h2
  · exact Int.le_of_lt (R_up h h2 hj)
  · have : i = j := by omega
    subst this; exact Int.le_refl _
/-- cell z lies in the k-th place -/
def At (E : List Int) (k : Nat) (z : Int) : Prop := k < 2 * E.length + 1 ∧ R E k ≤ z ∧ z < R E (k + 1)
theorem at_one {E : List Int} (h : Ends E) {j k : Nat} {z : Int} (a : At E j z) (b : At E k z) : j = k := by
  rcases Nat.lt_trichotomy j k with c | c | c
  · have := R_le h (i := j + 1) (j := k) (by omega) (by have := b.1; omega)
    have := a.2.2; have := b.2.1; omega
  · exact c
  · have := R_le h (i := k + 1) (j := j) (by omega) (by have := a.1; omega)
    have := b.2.2; have := a.2.1; omega
theorem at_some {E : List Int} {z : Int} (h1 : -BB ≤ z) (h2 : z < BB) : ∃ k, At E k z := by
  have key : ∀ n, n ≤ 2 * E.length + 1 → z < R E n → ∃ k, k < n ∧ R E k ≤ z ∧ z < R E (k + 1) := by
    intro n
    induction n with
    | zero => intro _ h; rw [R_zero] at h; omega
    | succ n ih =>
      intro hn h
      rcases Int.lt_or_le z (R E n) with c | c
      · obtain ⟨k, a, b⟩ := ih (by omega) c
        exact ⟨k, by omega, b⟩
      · exact ⟨n, by omega, c, h⟩
  obtain ⟨k, a, b⟩ := key (2 * E.length + 1) (Nat.le_refl _) (by rw [R_end]; exact h2)
  exact ⟨k, a, b⟩
theorem at_range {E : List Int} (h : Ends E) {k : Nat} {z : Int} (a : At E k z) : -BB ≤ z ∧ z < BB := by
  have h1 := R_le h (i := 0) (j := k) (by omega) (by have := a.1; omega)
  have h2 := R_le h (i := k + 1) (j := 2 * E.length + 1) (by have := a.1; omega) (Nat.le_refl _)
  rw [R_zero] at h1
  rw [R_end] at h2
  have := a.2
  omega
/-- all borders of the stretches are borders of the places -/
def Fits (E : List Int) (S : List Iv) : Prop := ∀ p ∈ S, (∃ j, j ≤ 2 * E.length + 1 ∧ p.1 = R E j) ∧ ∃ j, j ≤ 2 * E.length + 1 ∧ p.2 = R E j
theorem at_same {E : List Int} (h : Ends E) {S : List Iv} (f : Fits E S) {k : Nat} {z w : Int} (a : At E k z) (b : At E k w) : mem S z ↔ mem S w := by
  have one : ∀ {z w : Int}, At E k z → At E k w → ∀ j, j ≤ 2 * E.length + 1 → R E j ≤ z → R E j ≤ w := by
    intro z w a b j hj hz
    have : j ≤ k := by
      rcases Nat.lt_or_ge k j with c | c
      · have := R_le h (i := k + 1) (j := j) (by omega) hj
        have := a.2.2; omega
      · exact c
    have := R_le h this (by have := a.1; omega)
    have := b.2.1; omega
  have two : ∀ {z w : Int}, At E k z → At E k w → mem S z → mem S w := by
    rintro z w a b ⟨p, m, h1, h2⟩
    obtain ⟨⟨i, hi, ei⟩, ⟨j, hj, ej⟩⟩ := f p m
    refine ⟨p, m, by rw [ei]; exact one a b i hi (by omega), ?_⟩
    rcases Int.lt_or_le w p.2 with c | c
    · exact c
    · have := one b a j hj (by omega); omega
  exact ⟨two a b, two b a⟩
/-! ### the values that are asked -/
def probes (E : List Int) : List Int := if E = [] then [0] else (E.headD 0 - 1) :: ((List.range (E.length - 1)).flatMap (fun k => [E.getD k 0, (E.getD k 0 + E.getD (k + 1) 0).fdiv 2])) ++ [E.getLastD 0, E.getLastD 0 + 1]
def probe (E : List Int) (k : Nat) : Int := if E = [] then 0 else if k = 0 then E.headD 0 - 1 else if k = 2 * E.length then E.getLastD 0 + 1 else if k % 2 = 1 then E.getD ((k - 1) / 2) 0 else (E.getD (k / 2 - 1) 0 + E.getD (k / 2) 0).fdiv 2
theorem probe_at {E : List Int} (h : Ends E) {k : Nat} (hk : k < 2 * E.length + 1) : At E k (2 * probe E k) := by
  have bb := BB_big
  refine ⟨hk, ?_⟩
  unfold probe
  by_cases hE : E = []
  · subst hE
    rw [if_pos rfl]
    have : k = 0 := by simp at hk; exact hk
    subst this
    rw [R_zero]
    have : R ([] : List Int) (0 + 1) = BB := R_end (E := [])
    rw [this]; omega
  rw [if_neg hE]
  have hl : 0 < E.length := List.length_pos_iff.mpr hE
  have get : ∀ j, (hj : j < E.length) → E.getD j 0 = E[j] := fun j hj => by rw [List.getD_eq_getElem?_getD, List.getElem?_eq_getElem hj]; rfl
  by_cases h0 : k = 0
  · subst h0
    rw [if_pos rfl, R_zero]
    have e0 : E.headD 0 = E[0] := by cases E with
      | nil => exact (hE rfl).elim
      | cons a E => rfl
    rw [e0]
    have ht : E[0]? = some E[0] := List.getElem?_eq_getElem hl
    rw [show 0 + 1 = 2 * 0 + 1 from rfl, (R_at ht).1]
    have := h.sm E[0] (List.getElem_mem hl); unfold Sm at this; omega
  rw [if_neg h0]
  by_cases hn : k = 2 * E.length
  · rw [if_pos hn]
    have e0 : E.getLastD 0 = E[E.length - 1] := by
      rw [List.getLastD_eq_getLast?, List.getLast?_eq_getElem?, List.getElem?_eq_getElem (by omega)]; rfl
    rw [e0]
    have hl2 : E.length - 1 < E.length := by omega
    have ht : E[E.length - 1]? = some E[E.length - 1] := List.getElem?_eq_getElem hl2
    have r := (R_at ht).2
    rw [show 2 * (E.length - 1) + 2 = k by omega] at r
    rw [r, hn, R_end]
    have := h.sm E[E.length - 1] (List.getElem_mem hl2); unfold Sm at this; omega
  rw [if_neg hn]
  by_cases ho : k % 2 = 1
  · rw [if_pos ho]
    have hj : (k - 1) / 2 < E.length := by omega
    rw [get _ hj]
    have r := R_at (List.getElem?_eq_getElem hj)
    rw [show 2 * ((k - 1) / 2) + 1 = k by omega, show 2 * ((k - 1) / 2) + 2 = k + 1 by omega] at r
    rw [r.1, r.2]; omega
  · rw [if_neg ho]
    have hj : k / 2 - 1 < E.length := by omega
    have hj2 : k / 2 < E.length := by omega
    rw [get _ hj, get _ hj2]
    have r := (R_at (List.getElem?_eq_getElem hj)).2
    have r2 := (R_at (List.getElem?_eq_getElem hj2)).1
    rw [show 2 * (k / 2 - 1) + 2 = k by omega] at r
    rw [show 2 * (k / 2) + 1 = k + 1 by omega] at r2
    rw [r, r2]
    have h1 := List.pairwise_iff_getElem.mp h.up (k / 2 - 1) (k / 2) hj hj2 (by omega)
    have h2 := h.ev E[k / 2 - 1] (List.getElem_mem hj)
    have h3 := h.ev E[k / 2] (List.getElem_mem hj2)
    rw [Int.fdiv_eq_ediv_of_nonneg _ (by decide)]
    omega
/-! ### runs of marks -/
/-- the set that the marks tell -/
def Told (E : List Int) (m : List Bool) (z : Int) : Prop := ∃ k, m[k]? = some true ∧ At E k z
structure Run (E : List Int) (m : List Bool) (i first : Nat) (F : List Iv) : Prop where
  can : Can F
  le : first ≤ i
  all : ∀ k, first ≤ k → k < i → m[k]? = some true
  bel : ∀ p ∈ F, p.2 < R E first
  is : ∀ z, z < R E first → (mem F z ↔ Told E m z)
structure Clo (E : List Int) (m : List Bool) (i : Nat) (F : List Iv) : Prop where
  can : Can F
  bel : ∀ p ∈ F, p.2 ≤ R E i
  lt : m[i]? = some true → ∀ p ∈ F, p.2 < R E i
  is : ∀ z, z < R E i → (mem F z ↔ Told E m z)
def open_ (m : List Bool) (i : Nat) : Prop := 0 < i ∧ m[i - 1]? = some true ∧ m[i]? = some true
structure DueI (E : List Int) (m : List Bool) (i first : Nat) (F : List Iv) : Prop where
  o : open_ m i → Run E m i first F
  c : ¬ open_ m i → Clo E m i F
  len : F.length ≤ i
  cut : ∀ p ∈ F, ∃ a b, a < b ∧ b ≤ 2 * E.length + 1 ∧ p = (R E a, R E b)
section
variable {E : List Int} {m : List Bool} {i first : Nat} {F : List Iv}
theorem told_range (h : Ends E) {z : Int} (t : Told E m z) : -BB ≤ z := by
  obtain ⟨k, _, a⟩ := t; exact (at_range h a).1
theorem DueI.zero (h : Ends E) : DueI E m 0 0 [] :=
  ⟨fun o => absurd o.1 (by omega), fun _ => ⟨Can.nil, fun _ h => (List.not_mem_nil h).elim, fun _ _ h => (List.not_mem_nil h).elim, fun z hz => ⟨fun h => (mem_nil h).elim, fun t => by rw [R_zero] at hz; have := told_range h t; omega⟩⟩, Nat.le_refl _, fun _ h => (List.not_mem_nil h).elim⟩
/-- the mark at i is false -/
theorem DueI.no (h : Ends E) (hm : m.length = 2 * E.length + 1) (hi : i < m.length) (I : DueI E m i first F) (e : m[i]? = some false) : DueI E m (i + 1) first F := by
  have n : ¬ open_ m i := fun o => by rw [o.2.2] at e; cases e
  have n2 : ¬ open_ m (i + 1) := fun o => by have := o.2.1; rw [Nat.add_sub_cancel, e] at this; cases this
  have C := I.c n
  have up := R_next h (k := i) (by omega)
  refine ⟨fun o => absurd o n2, fun _ => ⟨C.can, fun p mp => by have := C.bel p mp; omega, fun _ p mp => by have := C.bel p mp; omega, fun z hz => ?_⟩, Nat.le_succ_of_le I.len, I.cut⟩
  rcases Int.lt_or_le z (R E i) with c | c
  · exact C.is z c
  · refine ⟨fun ⟨p, mp, _, x⟩ => by have := C.bel p mp; omega, fun ⟨k, hk, a⟩ => ?_⟩
    have := at_one h a ⟨by omega, c, hz⟩
    subst this
    rw [e] at hk; cases hk
/-- the mark at i is true: a run from first' on -/
theorem DueI.run (h : Ends E) (hm : m.length = 2 * E.length + 1) (hi : i < m.length) (I : DueI E m i first F) (e : m[i]? = some true) {f' : Nat} (hf : (open_ m i → f' = first) ∧ (¬ open_ m i → f' = i)) : Run E m (i + 1) f' F := by
  by_cases o : open_ m i
  · rw [hf.1 o]
    have Rn := I.o o
    exact ⟨Rn.can, by have := Rn.le; omega, fun k h1 h2 => by
      rcases Nat.lt_or_ge k i with c | c
      · exact Rn.all k h1 c
      · have : k = i := by omega
        subst this; exact e, Rn.bel, Rn.is⟩
  · rw [hf.2 o]
    have C := I.c o
    exact ⟨C.can, by omega, fun k h1 h2 => by
      have : k = i := by omega
      subst this; exact e, C.lt e, C.is⟩
theorem DueI.go (I : DueI E m i first F) (e : m[i]? = some true) (n : m[i + 1]? = some true) {f' : Nat} (Rn : Run E m (i + 1) f' F) : DueI E m (i + 1) f' F :=
  ⟨fun _ => Rn, fun o => absurd ⟨by omega, by rw [Nat.add_sub_cancel]; exact e, n⟩ o, Nat.le_succ_of_le I.len, I.cut⟩
theorem DueI.put (h : Ends E) (hm : m.length = 2 * E.length + 1) (hi : i < m.length) (I : DueI E m i first F) (n : m[i + 1]? ≠ some true) {f' : Nat} (hf : f' ≤ i) (Rn : Run E m (i + 1) f' F) : DueI E m (i + 1) f' (F ++ [(R E f', R E (i + 1))]) := by
  have n2 : ¬ open_ m (i + 1) := fun o => n o.2.2
  have up := R_up h (i := f') (j := i + 1) (by omega) (by omega)
  refine ⟨fun o => absurd o n2, fun _ => ⟨Rn.can.app up Rn.bel, fun p mp => ?_, fun x => absurd x n, fun z hz => ?_⟩, by rw [List.length_append, List.length_singleton]; have := I.len; omega, fun p mp => ?_⟩
  · rcases List.mem_append.mp mp with mp | mp
    · have := Rn.bel p mp; omega
    · rw [List.mem_singleton.mp mp]; exact Int.le_refl _
  · rw [mem_app, mem_one]
    rcases Int.lt_or_le z (R E f') with c | c
    · rw [Rn.is z c]
      exact ⟨fun x => x.elim id fun y => by omega, .inl⟩
    · refine ⟨fun _ => ?_, fun _ => .inr ⟨c, hz⟩⟩
      obtain ⟨k, a⟩ := at_some (E := E) (z := z) (by have := R_le h (i := 0) (j := f') (by omega) (by omega); rw [R_zero] at this; omega) (by have := R_le h (i := i + 1) (j := 2 * E.length + 1) (by omega) (Nat.le_refl _); rw [R_end] at this; omega)
      refine ⟨k, Rn.all k ?_ ?_, a⟩
      · rcases Nat.lt_or_ge k f' with d | d
        · have := R_le h (i := k + 1) (j := f') (by omega) (by omega); have := a.2.2; omega
        · exact d
      · rcases Nat.lt_or_ge k (i + 1) with d | d
        · exact d
        · have := R_le h (i := i + 1) (j := k) d (by have := a.1; omega); have := a.2.1; omega
  · rcases List.mem_append.mp mp with mp | mp
    · exact I.cut p mp
    · rw [List.mem_singleton.mp mp]; exact ⟨f', i + 1, by omega, by omega, rfl⟩
theorem DueI.fin (h : Ends E) (hm : m.length = 2 * E.length + 1) (I : DueI E m m.length first F) : Can F ∧ ∀ z, mem F z ↔ Told E m z := by
  have n : ¬ open_ m m.length := fun o => by have := o.2.2; rw [List.getElem?_eq_none (Nat.le_refl _)] at this; cases this
  have C := I.c n
  refine ⟨C.can, fun z => ?_⟩
  rcases Int.lt_or_le z (R E m.length) with c | c
  · exact C.is z c
  · refine ⟨fun ⟨p, mp, _, x⟩ => by have := C.bel p mp; omega, fun ⟨k, hk, a⟩ => ?_⟩
    have h1 := (at_range h a).2
    rw [hm, R_end] at c
    omega
end
/-- marks that tell a set -/
theorem told_iff {E : List Int} (h : Ends E) {m : List Bool} {T : Int → Prop} (hl : m.length = 2 * E.length + 1) (hm : ∀ k b, m[k]? = some b → (b = true ↔ T (2 * probe E k))) (hT : ∀ k z w, At E k z → At E k w → (T z ↔ T w)) {z : Int} (h1 : -BB ≤ z) (h2 : z < BB) : Told E m z ↔ T z := by
  obtain ⟨k, a⟩ := at_some (E := E) h1 h2
  have hk := a.1
  have hb : m[k]? = some m[k] := List.getElem?_eq_getElem (by omega)
  have key := hm k _ hb
  have eq := hT k _ _ a (probe_at h hk)
  constructor
  · rintro ⟨j, hj, b⟩
    have := at_one h b a
    subst this
    rw [hb] at hj
    exact eq.mpr (key.mp (Option.some.inj hj))
  · intro t
    exact ⟨k, by rw [hb, key.mpr (eq.mp t)], a⟩
/-! ### grown -/
def growC (b : Int) (c : Int) : Int := if Sc c then c + b else c
def growI (b a : Int) (p : Iv) : Iv := (growC (-b) p.1, growC a p.2)
theorem grow_mem {L : List Iv} {a b : Int} (ha : 0 ≤ a) (hb : 0 ≤ b) (sa : a.natAbs < 2 ^ 203) (sb : b.natAbs < 2 ^ 203) (hL : ∀ p ∈ L, SmI p ∧ p.1 < p.2) {z : Int} : mem (L.map (growI b a)) z ↔ -BB ≤ z ∧ z < BB ∧ ∃ y, mem L y ∧ y - b ≤ z ∧ z ≤ y + a := by
  have bb := BB_big
  have nb := bb_not
  have fwd : ∀ p ∈ L, ((growI b a p).1 ≤ z ∧ z < (growI b a p).2 ↔ -BB ≤ z ∧ z < BB ∧ ∃ y, (p.1 ≤ y ∧ y < p.2) ∧ y - b ≤ z ∧ z ≤ y + a) := by
    intro p m
    obtain ⟨⟨h1, h2⟩, lt⟩ := hL p m
    have e1 : (growI b a p).1 = if Sc p.1 then p.1 + -b else p.1 := rfl
    have e2 : (growI b a p).2 = if Sc p.2 then p.2 + a else p.2 := rfl
    rw [e1, e2]
    constructor
    · rintro ⟨x, y⟩
      have k1 : p.1 ≤ z + b := by split at x <;> omega
      have k2 : z - a < p.2 := by split at y <;> omega
      refine ⟨?_, ?_, max p.1 (z - a), ⟨by omega, by omega⟩, by omega, by omega⟩
      · rcases h1 with h1 | h1
        · rw [h1, if_neg nb.2] at x; exact x
        · rw [if_pos h1] at x; omega
      · rcases h2 with h2 | h2
        · rw [h2, if_neg nb.1] at y; exact y
        · rw [if_pos h2] at y; omega
    · rintro ⟨x, y, w, ⟨w1, w2⟩, w3, w4⟩
      refine ⟨?_, ?_⟩
      · rcases h1 with h1 | h1
        · rw [h1, if_neg nb.2]; exact x
        · rw [if_pos h1]; omega
      · rcases h2 with h2 | h2
        · rw [h2, if_neg nb.1]; exact y
        · rw [if_pos h2]; omega
  constructor
  · rintro ⟨q, mq, hq⟩
    obtain ⟨p, mp, rfl⟩ := List.mem_map.mp mq
    obtain ⟨x, y, w, hw, r⟩ := (fwd p mp).mp hq
    exact ⟨x, y, w, ⟨p, mp, hw⟩, r⟩
  · rintro ⟨x, y, w, ⟨p, mp, hw⟩, r⟩
    exact ⟨_, List.mem_map.mpr ⟨p, mp, rfl⟩, (fwd p mp).mpr ⟨x, y, w, hw, r⟩⟩
end Pc
open PySem PySem.Spec PyProof.Rows L2 StX Pc
abbrev PG : Program := PySem.Challenge.pw_metehouse_k08_pieces_as_sets
def topS (i : Nat) : Stmt := PySem.Challenge.pw_metehouse_k08_pieces_as_sets.main.body.getD i (.Pass ⟨0, 0, 0, 0⟩)
abbrev s_ratio : Stmt := topS 8
theorem sc_ratio : FnScope ["top", "bottom", "divisor"] ["top", "bottom"] (defScope s_ratio) := ⟨rfl, rfl, rfl, by decide +kernel, rfl, by decide +kernel, by decide +kernel⟩
abbrev s_compare : Stmt := topS 9
theorem sc_compare : FnScope ["first", "second", "left", "right"] ["first", "second"] (defScope s_compare) := ⟨rfl, rfl, rfl, by decide +kernel, rfl, by decide +kernel, by decide +kernel⟩
abbrev s_plus : Stmt := topS 10
theorem sc_plus : FnScope ["first", "second"] ["first", "second"] (defScope s_plus) := ⟨rfl, rfl, rfl, by decide +kernel, rfl, by decide +kernel, by decide +kernel⟩
abbrev s_times : Stmt := topS 11
theorem sc_times : FnScope ["first", "second"] ["first", "second"] (defScope s_times) := ⟨rfl, rfl, rfl, by decide +kernel, rfl, by decide +kernel, by decide +kernel⟩
abbrev s_compare_cuts : Stmt := topS 15
theorem sc_compare_cuts : FnScope ["first", "second", "found"] ["first", "second"] (defScope s_compare_cuts) := ⟨rfl, rfl, rfl, by decide +kernel, rfl, by decide +kernel, by decide +kernel⟩
abbrev s_low_cut : Stmt := topS 16
theorem sc_low_cut : FnScope ["stretch", "low", "low_in", "_"] ["stretch"] (defScope s_low_cut) := ⟨rfl, rfl, rfl, by decide +kernel, rfl, by decide +kernel, by decide +kernel⟩
abbrev s_high_cut : Stmt := topS 17
theorem sc_high_cut : FnScope ["stretch", "_", "high", "high_in"] ["stretch"] (defScope s_high_cut) := ⟨rfl, rfl, rfl, by decide +kernel, rfl, by decide +kernel, by decide +kernel⟩
abbrev s_stretch_between : Stmt := topS 18
theorem sc_stretch_between : FnScope ["first", "second", "low", "high"] ["first", "second"] (defScope s_stretch_between) := ⟨rfl, rfl, rfl, by decide +kernel, rfl, by decide +kernel, by decide +kernel⟩
abbrev s_check_stretch : Stmt := topS 19
theorem sc_check_stretch : FnScope ["stretch", "low", "low_in", "high", "high_in"] ["stretch"] (defScope s_check_stretch) := ⟨rfl, rfl, rfl, by decide +kernel, rfl, by decide +kernel, by decide +kernel⟩
abbrev s_merged : Stmt := topS 20
theorem sc_merged : FnScope ["left", "right", "found", "at", "behind"] ["left", "right"] (defScope s_merged) := ⟨rfl, rfl, rfl, by decide +kernel, rfl, by decide +kernel, by decide +kernel⟩
abbrev s_ascending : Stmt := topS 21
theorem sc_ascending : FnScope ["steps", "middle"] ["steps"] (defScope s_ascending) := ⟨rfl, rfl, rfl, by decide +kernel, rfl, by decide +kernel, by decide +kernel⟩
abbrev s_depths : Stmt := topS 22
theorem sc_depths : FnScope ["stretches", "steps", "stretch", "found", "depth", "index", "cut", "step", "last"] ["stretches"] (defScope s_depths) := ⟨rfl, rfl, rfl, by decide +kernel, rfl, by decide +kernel, by decide +kernel⟩
abbrev s_covered : Stmt := topS 23
theorem sc_covered : FnScope ["stretches", "need", "found", "start", "cut", "depth"] ["stretches", "need"] (defScope s_covered) := ⟨rfl, rfl, rfl, by decide +kernel, rfl, by decide +kernel, by decide +kernel⟩
abbrev s_uncovered : Stmt := topS 24
theorem sc_uncovered : FnScope ["parts", "found", "start", "part"] ["parts"] (defScope s_uncovered) := ⟨rfl, rfl, rfl, by decide +kernel, rfl, by decide +kernel, by decide +kernel⟩
abbrev s_in_both : Stmt := topS 25
theorem sc_in_both : FnScope ["first", "second"] ["first", "second"] (defScope s_in_both) := ⟨rfl, rfl, rfl, by decide +kernel, rfl, by decide +kernel, by decide +kernel⟩
abbrev s_has_value : Stmt := topS 26
theorem sc_has_value : FnScope ["part", "value", "before", "behind"] ["part", "value"] (defScope s_has_value) := ⟨rfl, rfl, rfl, by decide +kernel, rfl, by decide +kernel, by decide +kernel⟩
abbrev s_write_ratio : Stmt := topS 27
theorem sc_write_ratio : FnScope ["value", "top", "bottom"] ["value"] (defScope s_write_ratio) := ⟨rfl, rfl, rfl, by decide +kernel, rfl, by decide +kernel, by decide +kernel⟩
abbrev s_write_piece : Stmt := topS 28
theorem sc_write_piece : FnScope ["part", "low", "low_in", "high", "high_in", "start", "end", "low_text", "high_text"] ["part"] (defScope s_write_piece) := ⟨rfl, rfl, rfl, by decide +kernel, rfl, by decide +kernel, by decide +kernel⟩
abbrev s_write_pieces : Stmt := topS 29
theorem sc_write_pieces : FnScope ["parts", "part"] ["parts"] (defScope s_write_pieces) := ⟨rfl, rfl, rfl, by decide +kernel, rfl, by decide +kernel, by decide +kernel⟩
abbrev s_value_in : Stmt := topS 30
theorem sc_value_in : FnScope ["part", "low", "low_in", "high", "high_in"] ["part"] (defScope s_value_in) := ⟨rfl, rfl, rfl, by decide +kernel, rfl, by decide +kernel, by decide +kernel⟩
abbrev s_Pieces___init : Stmt := inClass (topS 31) 0
theorem sc_Pieces___init : FnScope ["self", "stretches", "stretch"] ["self", "stretches"] (defScope s_Pieces___init) := ⟨rfl, rfl, rfl, by decide +kernel, rfl, by decide +kernel, by decide +kernel⟩
abbrev s_Pieces_none : Stmt := inClass (topS 31) 1
theorem sc_Pieces_none : FnScope [] [] (defScope s_Pieces_none) := ⟨rfl, rfl, rfl, by decide +kernel, rfl, by decide +kernel, by decide +kernel⟩
abbrev s_Pieces_every : Stmt := inClass (topS 31) 2
theorem sc_Pieces_every : FnScope [] [] (defScope s_Pieces_every) := ⟨rfl, rfl, rfl, by decide +kernel, rfl, by decide +kernel, by decide +kernel⟩
abbrev s_Pieces_point : Stmt := inClass (topS 31) 3
theorem sc_Pieces_point : FnScope ["value"] ["value"] (defScope s_Pieces_point) := ⟨rfl, rfl, rfl, by decide +kernel, rfl, by decide +kernel, by decide +kernel⟩
abbrev s_Pieces_between : Stmt := inClass (topS 31) 4
theorem sc_Pieces_between : FnScope ["low", "high"] ["low", "high"] (defScope s_Pieces_between) := ⟨rfl, rfl, rfl, by decide +kernel, rfl, by decide +kernel, by decide +kernel⟩
abbrev s_Pieces_inside : Stmt := inClass (topS 31) 6
theorem sc_Pieces_inside : FnScope ["self", "other"] ["self", "other"] (defScope s_Pieces_inside) := ⟨rfl, rfl, rfl, by decide +kernel, rfl, by decide +kernel, by decide +kernel⟩
abbrev s_Pieces_grown : Stmt := inClass (topS 31) 7
theorem sc_Pieces_grown : FnScope ["self", "below", "above", "wider", "low", "low_in", "high", "high_in", "start", "end"] ["self", "below", "above"] (defScope s_Pieces_grown) := ⟨rfl, rfl, rfl, by decide +kernel, rfl, by decide +kernel, by decide +kernel⟩
abbrev s_Pieces_some : Stmt := inClass (topS 31) 8
theorem sc_Pieces_some : FnScope ["self"] ["self"] (defScope s_Pieces_some) := ⟨rfl, rfl, rfl, by decide +kernel, rfl, by decide +kernel, by decide +kernel⟩
abbrev s_Pieces___and : Stmt := inClass (topS 31) 9
theorem sc_Pieces___and : FnScope ["self", "other", "found"] ["self", "other"] (defScope s_Pieces___and) := ⟨rfl, rfl, rfl, by decide +kernel, rfl, by decide +kernel, by decide +kernel⟩
abbrev s_Pieces___or : Stmt := inClass (topS 31) 10
theorem sc_Pieces___or : FnScope ["self", "other", "found"] ["self", "other"] (defScope s_Pieces___or) := ⟨rfl, rfl, rfl, by decide +kernel, rfl, by decide +kernel, by decide +kernel⟩
abbrev s_Pieces___sub : Stmt := inClass (topS 31) 11
theorem sc_Pieces___sub : FnScope ["self", "other", "found"] ["self", "other"] (defScope s_Pieces___sub) := ⟨rfl, rfl, rfl, by decide +kernel, rfl, by decide +kernel, by decide +kernel⟩
abbrev s_Pieces___invert : Stmt := inClass (topS 31) 12
theorem sc_Pieces___invert : FnScope ["self", "found"] ["self"] (defScope s_Pieces___invert) := ⟨rfl, rfl, rfl, by decide +kernel, rfl, by decide +kernel, by decide +kernel⟩
abbrev s_Pieces___eq : Stmt := inClass (topS 31) 13
theorem sc_Pieces___eq : FnScope ["self", "other"] ["self", "other"] (defScope s_Pieces___eq) := ⟨rfl, rfl, rfl, by decide +kernel, rfl, by decide +kernel, by decide +kernel⟩
abbrev s_Pieces___contains : Stmt := inClass (topS 31) 14
theorem sc_Pieces___contains : FnScope ["self", "value", "part"] ["self", "value"] (defScope s_Pieces___contains) := ⟨rfl, rfl, rfl, by decide +kernel, rfl, by decide +kernel, by decide +kernel⟩
abbrev s_Pieces___len : Stmt := inClass (topS 31) 16
theorem sc_Pieces___len : FnScope ["self"] ["self"] (defScope s_Pieces___len) := ⟨rfl, rfl, rfl, by decide +kernel, rfl, by decide +kernel, by decide +kernel⟩
abbrev s_Pieces___bool : Stmt := inClass (topS 31) 17
theorem sc_Pieces___bool : FnScope ["self"] ["self"] (defScope s_Pieces___bool) := ⟨rfl, rfl, rfl, by decide +kernel, rfl, by decide +kernel, by decide +kernel⟩
abbrev s_Pieces___str : Stmt := inClass (topS 31) 18
theorem sc_Pieces___str : FnScope ["self"] ["self"] (defScope s_Pieces___str) := ⟨rfl, rfl, rfl, by decide +kernel, rfl, by decide +kernel, by decide +kernel⟩
abbrev s_w_pot : Stmt := topS 33
theorem sc_w_pot : FnScope ["_law_script"] ["_law_script"] (defScope s_w_pot) := ⟨rfl, rfl, rfl, by decide +kernel, rfl, by decide +kernel, by decide +kernel⟩
abbrev s_w_take : Stmt := topS 34
theorem sc_w_take : FnScope ["_law_pot_here", "_law_size", "_law_cell", "_law_mixed"] ["_law_pot_here", "_law_size"] (defScope s_w_take) := ⟨rfl, rfl, rfl, by decide +kernel, rfl, by decide +kernel, by decide +kernel⟩
abbrev s_w_whole : Stmt := topS 35
theorem sc_w_whole : FnScope ["_law_found"] ["_law_found"] (defScope s_w_whole) := ⟨rfl, rfl, rfl, by decide +kernel, rfl, by decide +kernel, by decide +kernel⟩
abbrev s_w_lowest : Stmt := topS 36
theorem sc_w_lowest : FnScope ["_law_top", "_law_bottom", "_law_first", "_law_second", "_law_rest"] ["_law_top", "_law_bottom"] (defScope s_w_lowest) := ⟨rfl, rfl, rfl, by decide +kernel, rfl, by decide +kernel, by decide +kernel⟩
abbrev s_w_pair_is : Stmt := topS 37
theorem sc_w_pair_is : FnScope ["_law_found", "_law_pair"] ["_law_found", "_law_pair"] (defScope s_w_pair_is) := ⟨rfl, rfl, rfl, by decide +kernel, rfl, by decide +kernel, by decide +kernel⟩
abbrev s_w_end : Stmt := topS 38
theorem sc_w_end : FnScope ["_law_pot_here", "_law_fine", "_law_ends_here", "_law_way", "_law_sign"] ["_law_pot_here", "_law_fine", "_law_ends_here"] (defScope s_w_end) := ⟨rfl, rfl, rfl, by decide +kernel, rfl, by decide +kernel, by decide +kernel⟩
abbrev s_w_stretch : Stmt := topS 39
theorem sc_w_stretch : FnScope ["_law_pot_here", "_law_fine", "_law_ends_here", "_law_one", "_law_two", "_law_low", "_law_high", "_law_low_in", "_law_high_in"] ["_law_pot_here", "_law_fine", "_law_ends_here"] (defScope s_w_stretch) := ⟨rfl, rfl, rfl, by decide +kernel, rfl, by decide +kernel, by decide +kernel⟩
abbrev s_w_stretches : Stmt := topS 40
theorem sc_w_stretches : FnScope ["_law_pot_here", "_law_fine", "_law_ends_here", "_law_most", "_law_k"] ["_law_pot_here", "_law_fine", "_law_ends_here", "_law_most"] (defScope s_w_stretches) := ⟨rfl, rfl, rfl, by decide +kernel, rfl, by decide +kernel, by decide +kernel⟩
abbrev s_w_end_pair : Stmt := topS 41
theorem sc_w_end_pair : FnScope ["_law_end_here", "_law_bottom"] ["_law_end_here", "_law_bottom"] (defScope s_w_end_pair) := ⟨rfl, rfl, rfl, by decide +kernel, rfl, by decide +kernel, by decide +kernel⟩
abbrev s_w_handed : Stmt := topS 42
theorem sc_w_handed : FnScope ["_law_stretches_here", "_law_fine", "_law_one"] ["_law_stretches_here", "_law_fine"] (defScope s_w_handed) := ⟨rfl, rfl, rfl, by decide +kernel, rfl, by decide +kernel, by decide +kernel⟩
abbrev s_w_in_one : Stmt := topS 43
theorem sc_w_in_one : FnScope ["_law_one", "_law_top", "_law_bottom", "_law_fine", "_law_below", "_law_above"] ["_law_one", "_law_top", "_law_bottom", "_law_fine"] (defScope s_w_in_one) := ⟨rfl, rfl, rfl, by decide +kernel, rfl, by decide +kernel, by decide +kernel⟩
abbrev s_w_in : Stmt := topS 44
theorem sc_w_in : FnScope ["_law_stretches_here", "_law_top", "_law_bottom", "_law_fine", "_law_one"] ["_law_stretches_here", "_law_top", "_law_bottom", "_law_fine"] (defScope s_w_in) := ⟨rfl, rfl, rfl, by decide +kernel, rfl, by decide +kernel, by decide +kernel⟩
abbrev s_w_ends : Stmt := topS 45
theorem sc_w_ends : FnScope ["_law_stretches_here", "_law_seen", "_law_one", "_law_end_here"] ["_law_stretches_here"] (defScope s_w_ends) := ⟨rfl, rfl, rfl, by decide +kernel, rfl, by decide +kernel, by decide +kernel⟩
abbrev s_w_probes : Stmt := topS 46
theorem sc_w_probes : FnScope ["_law_ends_here", "_law_probes_here", "_law_k"] ["_law_ends_here"] (defScope s_w_probes) := ⟨rfl, rfl, rfl, by decide +kernel, rfl, by decide +kernel, by decide +kernel⟩
abbrev s_w_marks : Stmt := topS 47
theorem sc_w_marks : FnScope ["_law_stretches_here", "_law_probes_here", "_law_fine", "_law_probe"] ["_law_stretches_here", "_law_probes_here", "_law_fine"] (defScope s_w_marks) := ⟨rfl, rfl, rfl, by decide +kernel, rfl, by decide +kernel, by decide +kernel⟩
abbrev s_w_piece : Stmt := topS 48
theorem sc_w_piece : FnScope ["_law_ends_here", "_law_first", "_law_last", "_law_fine", "_law_low", "_law_high"] ["_law_ends_here", "_law_first", "_law_last", "_law_fine"] (defScope s_w_piece) := ⟨rfl, rfl, rfl, by decide +kernel, rfl, by decide +kernel, by decide +kernel⟩
abbrev s_w_due_parts : Stmt := topS 49
theorem sc_w_due_parts : FnScope ["_law_ends_here", "_law_marks_here", "_law_fine", "_law_parts", "_law_first", "_law_k"] ["_law_ends_here", "_law_marks_here", "_law_fine"] (defScope s_w_due_parts) := ⟨rfl, rfl, rfl, by decide +kernel, rfl, by decide +kernel, by decide +kernel⟩
abbrev s_w_end_is : Stmt := topS 50
theorem sc_w_end_is : FnScope ["_law_found", "_law_due"] ["_law_found", "_law_due"] (defScope s_w_end_is) := ⟨rfl, rfl, rfl, by decide +kernel, rfl, by decide +kernel, by decide +kernel⟩
abbrev s_w_parts_are : Stmt := topS 51
theorem sc_w_parts_are : FnScope ["_law_found", "_law_due", "_law_k", "_law_piece_here"] ["_law_found", "_law_due"] (defScope s_w_parts_are) := ⟨rfl, rfl, rfl, by decide +kernel, rfl, by decide +kernel, by decide +kernel⟩
abbrev s_w_pieces : Stmt := topS 52
theorem sc_w_pieces : FnScope ["_law_given"] ["_law_given"] (defScope s_w_pieces) := ⟨rfl, rfl, rfl, by decide +kernel, rfl, by decide +kernel, by decide +kernel⟩
abbrev s_w_ratio_text : Stmt := topS 53
theorem sc_w_ratio_text : FnScope ["_law_pair"] ["_law_pair"] (defScope s_w_ratio_text) := ⟨rfl, rfl, rfl, by decide +kernel, rfl, by decide +kernel, by decide +kernel⟩
abbrev s_w_text : Stmt := topS 54
theorem sc_w_text : FnScope ["_law_due", "_law_texts", "_law_piece_here", "_law_line"] ["_law_due"] (defScope s_w_text) := ⟨rfl, rfl, rfl, by decide +kernel, rfl, by decide +kernel, by decide +kernel⟩
abbrev s_w_some_right : Stmt := topS 55
theorem sc_w_some_right : FnScope ["_law_found", "_law_stretches_here", "_law_due", "_law_fine", "_law_value", "e"] ["_law_found", "_law_stretches_here", "_law_due", "_law_fine"] (defScope s_w_some_right) := ⟨rfl, rfl, rfl, by decide +kernel, rfl, by decide +kernel, by decide +kernel⟩
abbrev s_w_right : Stmt := topS 56
theorem sc_w_right : FnScope ["_law_found", "_law_stretches_here", "_law_fine", "_law_ends_here", "_law_probes_here", "_law_marks_here", "_law_due", "_law_line", "_law_k"] ["_law_found", "_law_stretches_here", "_law_fine"] (defScope s_w_right) := ⟨rfl, rfl, rfl, by decide +kernel, rfl, by decide +kernel, by decide +kernel⟩
abbrev s_w_two_right : Stmt := topS 57
theorem sc_w_two_right : FnScope ["_law_one", "_law_two", "_law_left", "_law_right_here", "_law_fine", "_law_ends_here", "_law_probes_here", "_law_marks_here", "_law_other", "_law_places", "_law_k", "_law_mark", "_law_inside"] ["_law_one", "_law_two", "_law_left", "_law_right_here", "_law_fine"] (defScope s_w_two_right) := ⟨rfl, rfl, rfl, by decide +kernel, rfl, by decide +kernel, by decide +kernel⟩
abbrev s_w_grown : Stmt := topS 58
theorem sc_w_grown : FnScope ["_law_stretches_here", "_law_below", "_law_above", "_law_fine", "_law_grown_here", "_law_one", "_law_low", "_law_high"] ["_law_stretches_here", "_law_below", "_law_above", "_law_fine"] (defScope s_w_grown) := ⟨rfl, rfl, rfl, by decide +kernel, rfl, by decide +kernel, by decide +kernel⟩
abbrev s_w_grown_refused : Stmt := topS 59
theorem sc_w_grown_refused : FnScope ["_law_found", "_law_below", "_law_above", "_law_due", "e"] ["_law_found", "_law_below", "_law_above"] (defScope s_w_grown_refused) := ⟨rfl, rfl, rfl, by decide +kernel, rfl, by decide +kernel, by decide +kernel⟩
abbrev s_w_growth_right : Stmt := topS 60
theorem sc_w_growth_right : FnScope ["_law_pot_here", "_law_found", "_law_stretches_here", "_law_fine", "_law_below", "_law_above", "_law_low", "_law_high", "_law_one"] ["_law_pot_here", "_law_found", "_law_stretches_here", "_law_fine"] (defScope s_w_growth_right) := ⟨rfl, rfl, rfl, by decide +kernel, rfl, by decide +kernel, by decide +kernel⟩
abbrev s_w_wrong : Stmt := topS 61
theorem sc_w_wrong : FnScope ["_law_pot_here", "_law_fine", "_law_ends_here", "_law_one", "_law_two", "_law_low_in", "_law_way"] ["_law_pot_here", "_law_fine", "_law_ends_here"] (defScope s_w_wrong) := ⟨rfl, rfl, rfl, by decide +kernel, rfl, by decide +kernel, by decide +kernel⟩
abbrev s_w_good : Stmt := topS 62
theorem sc_w_good : FnScope ["_law_one"] ["_law_one"] (defScope s_w_good) := ⟨rfl, rfl, rfl, by decide +kernel, rfl, by decide +kernel, by decide +kernel⟩
abbrev s_w_refusal_right : Stmt := topS 63
theorem sc_w_refusal_right : FnScope ["_law_pot_here", "_law_stretches_here", "_law_fine", "_law_ends_here", "_law_given", "_law_turn", "_law_at", "_law_bad", "_law_one", "_law_found", "e"] ["_law_pot_here", "_law_stretches_here", "_law_fine", "_law_ends_here"] (defScope s_w_refusal_right) := ⟨rfl, rfl, rfl, by decide +kernel, rfl, by decide +kernel, by decide +kernel⟩
abbrev s_w_between_right : Stmt := topS 64
theorem sc_w_between_right : FnScope ["_law_low", "_law_high", "_law_found", "e"] ["_law_low", "_law_high"] (defScope s_w_between_right) := ⟨rfl, rfl, rfl, by decide +kernel, rfl, by decide +kernel, by decide +kernel⟩
abbrev s_w_single_right : Stmt := topS 65
theorem sc_w_single_right : FnScope ["_law_pot_here", "_law_fine", "_law_ends_here", "_law_end_here", "_law_other"] ["_law_pot_here", "_law_fine", "_law_ends_here"] (defScope s_w_single_right) := ⟨rfl, rfl, rfl, by decide +kernel, rfl, by decide +kernel, by decide +kernel⟩
abbrev s_law : Stmt := topS 66
theorem sc_law : FnScope ["_law_script", "_law_pot_here", "_law_fine", "_law_ends_here", "_law_left", "_law_right_here", "_law_one", "_law_two", "_law_turned", "_law_k"] ["_law_script"] (defScope s_law) := ⟨rfl, rfl, rfl, by decide +kernel, rfl, by decide +kernel, by decide +kernel⟩
abbrev s_BadNumber_init : Stmt := inClass (topS 4) 0
theorem sh_BadNumber {w : World} : Er.Sh1 PG w s_BadNumber_init "number" := by
  refine ⟨⟨_, _, _, _, _, _, _, _, _, _, _, rfl, fun q L fI cda cc m v A E s Q hm hv hn k => ?_, fun q L fI cda cc => ⟨rfl, rfl, rfl, rfl, rfl⟩⟩, ⟨_, rfl, rfl⟩, rfl, rfl, rfl, rfl, by decide, by decide, rfl, rfl, rfl, by decide +kernel, fun s x v qual doc pm an cda cc ct => .of_eq rfl⟩
  exact Er.tx_joined (.cons (Er.tx_repr hm hv rfl rfl) (.cons (Er.tx_const (by decide)) .nil)) (by decide) hn k
abbrev s_BadStretch_init : Stmt := inClass (topS 5) 0
theorem sh_BadStretch {w : World} : Er.ShC PG w s_BadStretch_init "stretch" := by
  refine ⟨⟨_, _, _, _, _, _, _, _, _, _, _, rfl, fun q L fI cda cc m v A E s Q hm hn k => ?_, fun q L fI cda cc => ⟨rfl, rfl, rfl, rfl, rfl⟩⟩, ⟨_, rfl, rfl⟩, rfl, rfl, rfl, rfl, by decide, by decide, rfl, rfl, rfl, by decide +kernel, fun s x v qual doc pm an cda cc ct => .of_eq rfl⟩
  exact Er.tx_const (by decide) A E s Q hn fun z tk n _ => k z tk n
abbrev s_NoValue_init : Stmt := inClass (topS 6) 0
theorem sh_NoValue {w : World} : Er.Sh0 PG w s_NoValue_init := by
  refine ⟨⟨_, _, _, _, _, _, _, rfl, fun q L fI cda cc m A E s Q hn k => ?_, fun q L fI cda cc => ⟨rfl, rfl, rfl, rfl⟩⟩, ⟨_, rfl, rfl⟩, rfl, rfl, rfl, rfl, rfl, rfl, by decide +kernel, fun s x qual doc pm an cda cc ct => .of_eq rfl⟩
  exact Er.tx_const (by decide) A E s Q hn fun z tk n _ => k z tk n
/-- what the top has written -/
structure Tx (K : PySem.W.Frag) (mg : Str → Option Value) : Type where
  f_ratio : Addr
  fd_ratio : FuncData
  F_ratio : FunD K "ratio" "ratio" (defArgs s_ratio) (defBody s_ratio) (defScope s_ratio) [V.int (1)] [] f_ratio fd_ratio
  g_ratio : mg "ratio" = some (.ref f_ratio)
  b1_ratio : ∃ ds, Vals (List.drop 0 [V.int (1)]) ds ∧ Binds K fd_ratio ["top", "bottom"] ds
  b2_ratio : ∃ ds, Vals (List.drop 1 [V.int (1)]) ds ∧ Binds K fd_ratio ["top", "bottom"] ds
  f_compare : Addr
  fd_compare : FuncData
  F_compare : Fun K "compare" "compare" s_compare f_compare fd_compare
  g_compare : mg "compare" = some (.ref f_compare)
  b_compare : Binds K fd_compare ["first", "second"] []
  f_plus : Addr
  fd_plus : FuncData
  F_plus : Fun K "plus" "plus" s_plus f_plus fd_plus
  g_plus : mg "plus" = some (.ref f_plus)
  b_plus : Binds K fd_plus ["first", "second"] []
  f_times : Addr
  fd_times : FuncData
  F_times : Fun K "times" "times" s_times f_times fd_times
  g_times : mg "times" = some (.ref f_times)
  b_times : Binds K fd_times ["first", "second"] []
  f_compare_cuts : Addr
  fd_compare_cuts : FuncData
  F_compare_cuts : Fun K "compare_cuts" "compare_cuts" s_compare_cuts f_compare_cuts fd_compare_cuts
  g_compare_cuts : mg "compare_cuts" = some (.ref f_compare_cuts)
  b_compare_cuts : Binds K fd_compare_cuts ["first", "second"] []
  f_low_cut : Addr
  fd_low_cut : FuncData
  F_low_cut : Fun K "low_cut" "low_cut" s_low_cut f_low_cut fd_low_cut
  g_low_cut : mg "low_cut" = some (.ref f_low_cut)
  b_low_cut : Binds K fd_low_cut ["stretch"] []
  f_high_cut : Addr
  fd_high_cut : FuncData
  F_high_cut : Fun K "high_cut" "high_cut" s_high_cut f_high_cut fd_high_cut
  g_high_cut : mg "high_cut" = some (.ref f_high_cut)
  b_high_cut : Binds K fd_high_cut ["stretch"] []
  f_stretch_between : Addr
  fd_stretch_between : FuncData
  F_stretch_between : Fun K "stretch_between" "stretch_between" s_stretch_between f_stretch_between fd_stretch_between
  g_stretch_between : mg "stretch_between" = some (.ref f_stretch_between)
  b_stretch_between : Binds K fd_stretch_between ["first", "second"] []
  f_check_stretch : Addr
  fd_check_stretch : FuncData
  F_check_stretch : Fun K "check_stretch" "check_stretch" s_check_stretch f_check_stretch fd_check_stretch
  g_check_stretch : mg "check_stretch" = some (.ref f_check_stretch)
  b_check_stretch : Binds K fd_check_stretch ["stretch"] []
  f_merged : Addr
  fd_merged : FuncData
  F_merged : Fun K "merged" "merged" s_merged f_merged fd_merged
  g_merged : mg "merged" = some (.ref f_merged)
  b_merged : Binds K fd_merged ["left", "right"] []
  f_ascending : Addr
  fd_ascending : FuncData
  F_ascending : Fun K "ascending" "ascending" s_ascending f_ascending fd_ascending
  g_ascending : mg "ascending" = some (.ref f_ascending)
  b_ascending : Binds K fd_ascending ["steps"] []
  f_depths : Addr
  fd_depths : FuncData
  F_depths : Fun K "depths" "depths" s_depths f_depths fd_depths
  g_depths : mg "depths" = some (.ref f_depths)
  b_depths : Binds K fd_depths ["stretches"] []
  f_covered : Addr
  fd_covered : FuncData
  F_covered : Fun K "covered" "covered" s_covered f_covered fd_covered
  g_covered : mg "covered" = some (.ref f_covered)
  b_covered : Binds K fd_covered ["stretches", "need"] []
  f_uncovered : Addr
  fd_uncovered : FuncData
  F_uncovered : Fun K "uncovered" "uncovered" s_uncovered f_uncovered fd_uncovered
  g_uncovered : mg "uncovered" = some (.ref f_uncovered)
  b_uncovered : Binds K fd_uncovered ["parts"] []
  f_in_both : Addr
  fd_in_both : FuncData
  F_in_both : Fun K "in_both" "in_both" s_in_both f_in_both fd_in_both
  g_in_both : mg "in_both" = some (.ref f_in_both)
  b_in_both : Binds K fd_in_both ["first", "second"] []
  f_has_value : Addr
  fd_has_value : FuncData
  F_has_value : Fun K "has_value" "has_value" s_has_value f_has_value fd_has_value
  g_has_value : mg "has_value" = some (.ref f_has_value)
  b_has_value : Binds K fd_has_value ["part", "value"] []
  f_write_ratio : Addr
  fd_write_ratio : FuncData
  F_write_ratio : Fun K "write_ratio" "write_ratio" s_write_ratio f_write_ratio fd_write_ratio
  g_write_ratio : mg "write_ratio" = some (.ref f_write_ratio)
  b_write_ratio : Binds K fd_write_ratio ["value"] []
  f_write_piece : Addr
  fd_write_piece : FuncData
  F_write_piece : Fun K "write_piece" "write_piece" s_write_piece f_write_piece fd_write_piece
  g_write_piece : mg "write_piece" = some (.ref f_write_piece)
  b_write_piece : Binds K fd_write_piece ["part"] []
  f_write_pieces : Addr
  fd_write_pieces : FuncData
  F_write_pieces : Fun K "write_pieces" "write_pieces" s_write_pieces f_write_pieces fd_write_pieces
  g_write_pieces : mg "write_pieces" = some (.ref f_write_pieces)
  b_write_pieces : Binds K fd_write_pieces ["parts"] []
  f_value_in : Addr
  fd_value_in : FuncData
  F_value_in : Fun K "value_in" "value_in" s_value_in f_value_in fd_value_in
  g_value_in : mg "value_in" = some (.ref f_value_in)
  b_value_in : Binds K fd_value_in ["part"] []
  f_Pieces___init : Addr
  fd_Pieces___init : FuncData
  F_Pieces___init : Fun K "__init__" "Pieces.__init__" s_Pieces___init f_Pieces___init fd_Pieces___init
  f_Pieces_none : Addr
  fd_Pieces_none : FuncData
  F_Pieces_none : Fun K "none" "Pieces.none" s_Pieces_none f_Pieces_none fd_Pieces_none
  b_Pieces_none : Binds K fd_Pieces_none [] []
  f_Pieces_every : Addr
  fd_Pieces_every : FuncData
  F_Pieces_every : Fun K "every" "Pieces.every" s_Pieces_every f_Pieces_every fd_Pieces_every
  b_Pieces_every : Binds K fd_Pieces_every [] []
  f_Pieces_point : Addr
  fd_Pieces_point : FuncData
  F_Pieces_point : Fun K "point" "Pieces.point" s_Pieces_point f_Pieces_point fd_Pieces_point
  b_Pieces_point : Binds K fd_Pieces_point ["value"] []
  f_Pieces_between : Addr
  fd_Pieces_between : FuncData
  F_Pieces_between : Fun K "between" "Pieces.between" s_Pieces_between f_Pieces_between fd_Pieces_between
  b_Pieces_between : Binds K fd_Pieces_between ["low", "high"] []
  f_Pieces_inside : Addr
  fd_Pieces_inside : FuncData
  F_Pieces_inside : Fun K "inside" "Pieces.inside" s_Pieces_inside f_Pieces_inside fd_Pieces_inside
  b_Pieces_inside : Binds K fd_Pieces_inside ["self", "other"] []
  f_Pieces_grown : Addr
  fd_Pieces_grown : FuncData
  F_Pieces_grown : Fun K "grown" "Pieces.grown" s_Pieces_grown f_Pieces_grown fd_Pieces_grown
  b_Pieces_grown : Binds K fd_Pieces_grown ["self", "below", "above"] []
  f_Pieces_some : Addr
  fd_Pieces_some : FuncData
  F_Pieces_some : Fun K "some" "Pieces.some" s_Pieces_some f_Pieces_some fd_Pieces_some
  b_Pieces_some : Binds K fd_Pieces_some ["self"] []
  f_Pieces___and : Addr
  fd_Pieces___and : FuncData
  F_Pieces___and : Fun K "__and__" "Pieces.__and__" s_Pieces___and f_Pieces___and fd_Pieces___and
  b_Pieces___and : Binds K fd_Pieces___and ["self", "other"] []
  f_Pieces___or : Addr
  fd_Pieces___or : FuncData
  F_Pieces___or : Fun K "__or__" "Pieces.__or__" s_Pieces___or f_Pieces___or fd_Pieces___or
  b_Pieces___or : Binds K fd_Pieces___or ["self", "other"] []
  f_Pieces___sub : Addr
  fd_Pieces___sub : FuncData
  F_Pieces___sub : Fun K "__sub__" "Pieces.__sub__" s_Pieces___sub f_Pieces___sub fd_Pieces___sub
  b_Pieces___sub : Binds K fd_Pieces___sub ["self", "other"] []
  f_Pieces___invert : Addr
  fd_Pieces___invert : FuncData
  F_Pieces___invert : Fun K "__invert__" "Pieces.__invert__" s_Pieces___invert f_Pieces___invert fd_Pieces___invert
  b_Pieces___invert : Binds K fd_Pieces___invert ["self"] []
  f_Pieces___eq : Addr
  fd_Pieces___eq : FuncData
  F_Pieces___eq : Fun K "__eq__" "Pieces.__eq__" s_Pieces___eq f_Pieces___eq fd_Pieces___eq
  b_Pieces___eq : Binds K fd_Pieces___eq ["self", "other"] []
  f_Pieces___contains : Addr
  fd_Pieces___contains : FuncData
  F_Pieces___contains : Fun K "__contains__" "Pieces.__contains__" s_Pieces___contains f_Pieces___contains fd_Pieces___contains
  b_Pieces___contains : Binds K fd_Pieces___contains ["self", "value"] []
  f_Pieces___len : Addr
  fd_Pieces___len : FuncData
  F_Pieces___len : Fun K "__len__" "Pieces.__len__" s_Pieces___len f_Pieces___len fd_Pieces___len
  b_Pieces___len : Binds K fd_Pieces___len ["self"] []
  f_Pieces___bool : Addr
  fd_Pieces___bool : FuncData
  F_Pieces___bool : Fun K "__bool__" "Pieces.__bool__" s_Pieces___bool f_Pieces___bool fd_Pieces___bool
  b_Pieces___bool : Binds K fd_Pieces___bool ["self"] []
  f_Pieces___str : Addr
  fd_Pieces___str : FuncData
  F_Pieces___str : Fun K "__str__" "Pieces.__str__" s_Pieces___str f_Pieces___str fd_Pieces___str
  b_Pieces___str : Binds K fd_Pieces___str ["self"] []
  f_w_pot : Addr
  fd_w_pot : FuncData
  F_w_pot : Fun K "_law_pot" "_law_pot" s_w_pot f_w_pot fd_w_pot
  g_w_pot : mg "_law_pot" = some (.ref f_w_pot)
  b_w_pot : Binds K fd_w_pot ["_law_script"] []
  f_w_take : Addr
  fd_w_take : FuncData
  F_w_take : Fun K "_law_take" "_law_take" s_w_take f_w_take fd_w_take
  g_w_take : mg "_law_take" = some (.ref f_w_take)
  b_w_take : Binds K fd_w_take ["_law_pot_here", "_law_size"] []
  f_w_whole : Addr
  fd_w_whole : FuncData
  F_w_whole : Fun K "_law_whole" "_law_whole" s_w_whole f_w_whole fd_w_whole
  g_w_whole : mg "_law_whole" = some (.ref f_w_whole)
  b_w_whole : Binds K fd_w_whole ["_law_found"] []
  f_w_lowest : Addr
  fd_w_lowest : FuncData
  F_w_lowest : Fun K "_law_lowest" "_law_lowest" s_w_lowest f_w_lowest fd_w_lowest
  g_w_lowest : mg "_law_lowest" = some (.ref f_w_lowest)
  b_w_lowest : Binds K fd_w_lowest ["_law_top", "_law_bottom"] []
  f_w_pair_is : Addr
  fd_w_pair_is : FuncData
  F_w_pair_is : Fun K "_law_pair_is" "_law_pair_is" s_w_pair_is f_w_pair_is fd_w_pair_is
  g_w_pair_is : mg "_law_pair_is" = some (.ref f_w_pair_is)
  b_w_pair_is : Binds K fd_w_pair_is ["_law_found", "_law_pair"] []
  f_w_end : Addr
  fd_w_end : FuncData
  F_w_end : Fun K "_law_end" "_law_end" s_w_end f_w_end fd_w_end
  g_w_end : mg "_law_end" = some (.ref f_w_end)
  b_w_end : Binds K fd_w_end ["_law_pot_here", "_law_fine", "_law_ends_here"] []
  f_w_stretch : Addr
  fd_w_stretch : FuncData
  F_w_stretch : Fun K "_law_stretch" "_law_stretch" s_w_stretch f_w_stretch fd_w_stretch
  g_w_stretch : mg "_law_stretch" = some (.ref f_w_stretch)
  b_w_stretch : Binds K fd_w_stretch ["_law_pot_here", "_law_fine", "_law_ends_here"] []
  f_w_stretches : Addr
  fd_w_stretches : FuncData
  F_w_stretches : Fun K "_law_stretches" "_law_stretches" s_w_stretches f_w_stretches fd_w_stretches
  g_w_stretches : mg "_law_stretches" = some (.ref f_w_stretches)
  b_w_stretches : Binds K fd_w_stretches ["_law_pot_here", "_law_fine", "_law_ends_here", "_law_most"] []
  f_w_end_pair : Addr
  fd_w_end_pair : FuncData
  F_w_end_pair : Fun K "_law_end_pair" "_law_end_pair" s_w_end_pair f_w_end_pair fd_w_end_pair
  g_w_end_pair : mg "_law_end_pair" = some (.ref f_w_end_pair)
  b_w_end_pair : Binds K fd_w_end_pair ["_law_end_here", "_law_bottom"] []
  f_w_handed : Addr
  fd_w_handed : FuncData
  F_w_handed : Fun K "_law_handed" "_law_handed" s_w_handed f_w_handed fd_w_handed
  g_w_handed : mg "_law_handed" = some (.ref f_w_handed)
  b_w_handed : Binds K fd_w_handed ["_law_stretches_here", "_law_fine"] []
  f_w_in_one : Addr
  fd_w_in_one : FuncData
  F_w_in_one : Fun K "_law_in_one" "_law_in_one" s_w_in_one f_w_in_one fd_w_in_one
  g_w_in_one : mg "_law_in_one" = some (.ref f_w_in_one)
  b_w_in_one : Binds K fd_w_in_one ["_law_one", "_law_top", "_law_bottom", "_law_fine"] []
  f_w_in : Addr
  fd_w_in : FuncData
  F_w_in : Fun K "_law_in" "_law_in" s_w_in f_w_in fd_w_in
  g_w_in : mg "_law_in" = some (.ref f_w_in)
  b_w_in : Binds K fd_w_in ["_law_stretches_here", "_law_top", "_law_bottom", "_law_fine"] []
  f_w_ends : Addr
  fd_w_ends : FuncData
  F_w_ends : Fun K "_law_ends" "_law_ends" s_w_ends f_w_ends fd_w_ends
  g_w_ends : mg "_law_ends" = some (.ref f_w_ends)
  b_w_ends : Binds K fd_w_ends ["_law_stretches_here"] []
  f_w_probes : Addr
  fd_w_probes : FuncData
  F_w_probes : Fun K "_law_probes" "_law_probes" s_w_probes f_w_probes fd_w_probes
  g_w_probes : mg "_law_probes" = some (.ref f_w_probes)
  b_w_probes : Binds K fd_w_probes ["_law_ends_here"] []
  f_w_marks : Addr
  fd_w_marks : FuncData
  F_w_marks : Fun K "_law_marks" "_law_marks" s_w_marks f_w_marks fd_w_marks
  g_w_marks : mg "_law_marks" = some (.ref f_w_marks)
  b_w_marks : Binds K fd_w_marks ["_law_stretches_here", "_law_probes_here", "_law_fine"] []
  f_w_piece : Addr
  fd_w_piece : FuncData
  F_w_piece : Fun K "_law_piece" "_law_piece" s_w_piece f_w_piece fd_w_piece
  g_w_piece : mg "_law_piece" = some (.ref f_w_piece)
  b_w_piece : Binds K fd_w_piece ["_law_ends_here", "_law_first", "_law_last", "_law_fine"] []
  f_w_due_parts : Addr
  fd_w_due_parts : FuncData
  F_w_due_parts : Fun K "_law_due_parts" "_law_due_parts" s_w_due_parts f_w_due_parts fd_w_due_parts
  g_w_due_parts : mg "_law_due_parts" = some (.ref f_w_due_parts)
  b_w_due_parts : Binds K fd_w_due_parts ["_law_ends_here", "_law_marks_here", "_law_fine"] []
  f_w_end_is : Addr
  fd_w_end_is : FuncData
  F_w_end_is : Fun K "_law_end_is" "_law_end_is" s_w_end_is f_w_end_is fd_w_end_is
  g_w_end_is : mg "_law_end_is" = some (.ref f_w_end_is)
  b_w_end_is : Binds K fd_w_end_is ["_law_found", "_law_due"] []
  f_w_parts_are : Addr
  fd_w_parts_are : FuncData
  F_w_parts_are : Fun K "_law_parts_are" "_law_parts_are" s_w_parts_are f_w_parts_are fd_w_parts_are
  g_w_parts_are : mg "_law_parts_are" = some (.ref f_w_parts_are)
  b_w_parts_are : Binds K fd_w_parts_are ["_law_found", "_law_due"] []
  f_w_pieces : Addr
  fd_w_pieces : FuncData
  F_w_pieces : Fun K "_law_pieces" "_law_pieces" s_w_pieces f_w_pieces fd_w_pieces
  g_w_pieces : mg "_law_pieces" = some (.ref f_w_pieces)
  b_w_pieces : Binds K fd_w_pieces ["_law_given"] []
  f_w_ratio_text : Addr
  fd_w_ratio_text : FuncData
  F_w_ratio_text : Fun K "_law_ratio_text" "_law_ratio_text" s_w_ratio_text f_w_ratio_text fd_w_ratio_text
  g_w_ratio_text : mg "_law_ratio_text" = some (.ref f_w_ratio_text)
  b_w_ratio_text : Binds K fd_w_ratio_text ["_law_pair"] []
  f_w_text : Addr
  fd_w_text : FuncData
  F_w_text : Fun K "_law_text" "_law_text" s_w_text f_w_text fd_w_text
  g_w_text : mg "_law_text" = some (.ref f_w_text)
  b_w_text : Binds K fd_w_text ["_law_due"] []
  f_w_some_right : Addr
  fd_w_some_right : FuncData
  F_w_some_right : Fun K "_law_some_right" "_law_some_right" s_w_some_right f_w_some_right fd_w_some_right
  g_w_some_right : mg "_law_some_right" = some (.ref f_w_some_right)
  b_w_some_right : Binds K fd_w_some_right ["_law_found", "_law_stretches_here", "_law_due", "_law_fine"] []
  f_w_right : Addr
  fd_w_right : FuncData
  F_w_right : Fun K "_law_right" "_law_right" s_w_right f_w_right fd_w_right
  g_w_right : mg "_law_right" = some (.ref f_w_right)
  b_w_right : Binds K fd_w_right ["_law_found", "_law_stretches_here", "_law_fine"] []
  f_w_two_right : Addr
  fd_w_two_right : FuncData
  F_w_two_right : Fun K "_law_two_right" "_law_two_right" s_w_two_right f_w_two_right fd_w_two_right
  g_w_two_right : mg "_law_two_right" = some (.ref f_w_two_right)
  b_w_two_right : Binds K fd_w_two_right ["_law_one", "_law_two", "_law_left", "_law_right_here", "_law_fine"] []
  f_w_grown : Addr
  fd_w_grown : FuncData
  F_w_grown : Fun K "_law_grown" "_law_grown" s_w_grown f_w_grown fd_w_grown
  g_w_grown : mg "_law_grown" = some (.ref f_w_grown)
  b_w_grown : Binds K fd_w_grown ["_law_stretches_here", "_law_below", "_law_above", "_law_fine"] []
  f_w_grown_refused : Addr
  fd_w_grown_refused : FuncData
  F_w_grown_refused : Fun K "_law_grown_refused" "_law_grown_refused" s_w_grown_refused f_w_grown_refused fd_w_grown_refused
  g_w_grown_refused : mg "_law_grown_refused" = some (.ref f_w_grown_refused)
  b_w_grown_refused : Binds K fd_w_grown_refused ["_law_found", "_law_below", "_law_above"] []
  f_w_growth_right : Addr
  fd_w_growth_right : FuncData
  F_w_growth_right : Fun K "_law_growth_right" "_law_growth_right" s_w_growth_right f_w_growth_right fd_w_growth_right
  g_w_growth_right : mg "_law_growth_right" = some (.ref f_w_growth_right)
  b_w_growth_right : Binds K fd_w_growth_right ["_law_pot_here", "_law_found", "_law_stretches_here", "_law_fine"] []
  f_w_wrong : Addr
  fd_w_wrong : FuncData
  F_w_wrong : Fun K "_law_wrong" "_law_wrong" s_w_wrong f_w_wrong fd_w_wrong
  g_w_wrong : mg "_law_wrong" = some (.ref f_w_wrong)
  b_w_wrong : Binds K fd_w_wrong ["_law_pot_here", "_law_fine", "_law_ends_here"] []
  f_w_good : Addr
  fd_w_good : FuncData
  F_w_good : Fun K "_law_good" "_law_good" s_w_good f_w_good fd_w_good
  g_w_good : mg "_law_good" = some (.ref f_w_good)
  b_w_good : Binds K fd_w_good ["_law_one"] []
  f_w_refusal_right : Addr
  fd_w_refusal_right : FuncData
  F_w_refusal_right : Fun K "_law_refusal_right" "_law_refusal_right" s_w_refusal_right f_w_refusal_right fd_w_refusal_right
  g_w_refusal_right : mg "_law_refusal_right" = some (.ref f_w_refusal_right)
  b_w_refusal_right : Binds K fd_w_refusal_right ["_law_pot_here", "_law_stretches_here", "_law_fine", "_law_ends_here"] []
  f_w_between_right : Addr
  fd_w_between_right : FuncData
  F_w_between_right : Fun K "_law_between_right" "_law_between_right" s_w_between_right f_w_between_right fd_w_between_right
  g_w_between_right : mg "_law_between_right" = some (.ref f_w_between_right)
  b_w_between_right : Binds K fd_w_between_right ["_law_low", "_law_high"] []
  f_w_single_right : Addr
  fd_w_single_right : FuncData
  F_w_single_right : Fun K "_law_single_right" "_law_single_right" s_w_single_right f_w_single_right fd_w_single_right
  g_w_single_right : mg "_law_single_right" = some (.ref f_w_single_right)
  b_w_single_right : Binds K fd_w_single_right ["_law_pot_here", "_law_fine", "_law_ends_here"] []
  f_law : Addr
  fd_law : FuncData
  F_law : Fun K "law" "law" s_law f_law fd_law
  g_law : mg "law" = some (.ref f_law)
  b_law : Binds K fd_law ["_law_script"] []
  C_Pieces : Addr
  gC_Pieces : mg "Pieces" = some (.ref C_Pieces)
  oc_Pieces : Ow.OC K C_Pieces
  ty_Pieces : PySem.W.typeIn K (.ref C_Pieces) = some (.type "type")
  kt_Pieces : PySem.W.subIn K (.type "tuple") (.ref C_Pieces) = some false
  ks_Pieces : PySem.W.subIn K (.type "str") (.ref C_Pieces) = some false
  na_Pieces_parts : NoAttr K C_Pieces "parts"
  mk_Pieces : Mk K C_Pieces f_Pieces___init
  sp_Pieces_none : Addr
  sm_Pieces_none : Ow.SMet K C_Pieces (.type "type") "none" sp_Pieces_none f_Pieces_none
  sp_Pieces_every : Addr
  sm_Pieces_every : Ow.SMet K C_Pieces (.type "type") "every" sp_Pieces_every f_Pieces_every
  sp_Pieces_point : Addr
  sm_Pieces_point : Ow.SMet K C_Pieces (.type "type") "point" sp_Pieces_point f_Pieces_point
  sp_Pieces_between : Addr
  sm_Pieces_between : Ow.SMet K C_Pieces (.type "type") "between" sp_Pieces_between f_Pieces_between
  me_Pieces_inside : Meth K C_Pieces "inside" f_Pieces_inside
  me_Pieces_grown : Meth K C_Pieces "grown" f_Pieces_grown
  me_Pieces_some : Meth K C_Pieces "some" f_Pieces_some
  me_Pieces___and : Meth K C_Pieces "__and__" f_Pieces___and
  me_Pieces___or : Meth K C_Pieces "__or__" f_Pieces___or
  me_Pieces___sub : Meth K C_Pieces "__sub__" f_Pieces___sub
  me_Pieces___invert : Meth K C_Pieces "__invert__" f_Pieces___invert
  me_Pieces___eq : Meth K C_Pieces "__eq__" f_Pieces___eq
  me_Pieces___contains : Meth K C_Pieces "__contains__" f_Pieces___contains
  me_Pieces___len : Meth K C_Pieces "__len__" f_Pieces___len
  me_Pieces___bool : Meth K C_Pieces "__bool__" f_Pieces___bool
  me_Pieces___str : Meth K C_Pieces "__str__" f_Pieces___str
  cr_Pieces : ClX.CRead K C_Pieces (.type "type")
  si_Pieces : PySem.W.subIn K (.ref C_Pieces) (.type "int") = some false
  is_Pieces : PySem.W.subIn K (.type "int") (.ref C_Pieces) = some false
  C_BadNumber : Addr
  gC_BadNumber : mg "BadNumber" = some (.ref C_BadNumber)
  C_BadStretch : Addr
  gC_BadStretch : mg "BadStretch" = some (.ref C_BadStretch)
  C_NoValue : Addr
  gC_NoValue : mg "NoValue" = some (.ref C_NoValue)
  C_MeteError : Addr
  gC_MeteError : mg "MeteError" = some (.ref C_MeteError)
  Z_BadNumber : ∀ w, Er.Cls1 PG w K mg "BadNumber" "number" C_BadNumber
  X_BadNumber : ExcC K C_BadNumber
  xf_BadNumber : XfC K C_BadNumber
  Z_BadStretch : ∀ w, Er.ClsC PG w K mg "BadStretch" "stretch" C_BadStretch
  X_BadStretch : ExcC K C_BadStretch
  xf_BadStretch : XfC K C_BadStretch
  Z_NoValue : ∀ w, Er.Cls0 PG w K mg "NoValue" C_NoValue
  X_NoValue : ExcC K C_NoValue
  kit_BadNumber_MeteError : PySem.W.kitOne K (.ref C_BadNumber) (.ref C_MeteError) = some true
  kit_BadNumber_ValueError : PySem.W.kitOne K (.ref C_BadNumber) (.type "ValueError") = some true
  kit_BadStretch_MeteError : PySem.W.kitOne K (.ref C_BadStretch) (.ref C_MeteError) = some true
  kit_BadStretch_ValueError : PySem.W.kitOne K (.ref C_BadStretch) (.type "ValueError") = some true
  kit_NoValue_MeteError : PySem.W.kitOne K (.ref C_NoValue) (.ref C_MeteError) = some true
  kit_NoValue_ValueError : PySem.W.kitOne K (.ref C_NoValue) (.type "ValueError") = some true
  exm_BadNumber_BadNumber : PySem.W.exmOne K (.ref C_BadNumber) (.ref C_BadNumber) = some true
  exm_BadStretch_BadStretch : PySem.W.exmOne K (.ref C_BadStretch) (.ref C_BadStretch) = some true
  exm_NoValue_NoValue : PySem.W.exmOne K (.ref C_NoValue) (.ref C_NoValue) = some true
  m_len : mg "len" = none
  m_range : mg "range" = none
  m_isinstance : mg "isinstance" = none
  m_int : mg "int" = none
  m_bool : mg "bool" = none
  m_str : mg "str" = none
  m_list : mg "list" = none
  m_tuple : mg "tuple" = none
  m_abs : mg "abs" = none
  m_max : mg "max" = none
  m_min : mg "min" = none
  m_sorted : mg "sorted" = none
  m_enumerate : mg "enumerate" = none
  m_any : mg "any" = none
  m_ZeroDivisionError : mg "ZeroDivisionError" = none
  m_ValueError : mg "ValueError" = none
  m_gcd : mg "gcd" = some (.builtin "math.gcd")
  a_BOTTOM : Addr
  c_BOTTOM : mg "BOTTOM" = some (.ref a_BOTTOM)
  b_BOTTOM_1 : Addr
  u_BOTTOM_1 : SqTK K b_BOTTOM_1 [V.int (0), V.int (1)]
  t_BOTTOM : SqTK K a_BOTTOM [V.int (-1), V.ref b_BOTTOM_1, V.int (0)]
  a_TOP : Addr
  c_TOP : mg "TOP" = some (.ref a_TOP)
  b_TOP_1 : Addr
  u_TOP_1 : SqTK K b_TOP_1 [V.int (0), V.int (1)]
  t_TOP : SqTK K a_TOP [V.int (1), V.ref b_TOP_1, V.int (0)]
open PySem PySem.Spec PyProof.Rows L2 StX Pc
local macro_rules | `(tactic| walk_at "st") => `(tactic| first
  | (with_reducible refine r_drop ?_)
  | (with_reducible refine r_neS ?_)
  | (with_reducible refine r_eqB ?_)
  | (with_reducible refine r_neB ?_)
  | (with_reducible refine r_orV ?_)
  | (with_reducible refine r_notV ?_)
  | (with_reducible refine r_if ?_)
  | ((with_reducible refine r_callSD ?_); try simp only [List.cons_append, List.nil_append])
  | (with_reducible refine r_sl ?_)
  | (with_reducible refine r_int1 ?_)
  | ((with_reducible refine r_in1 ?_); try simp only [abs_if])
  | ((with_reducible refine r_in2 ?_); try simp only [max_if])
  | (with_reducible refine r_forR1 ?_)
  | (with_reducible refine r_forL ?_)
  | (with_reducible refine r_forT ?_)
  | (with_reducible refine r_lcR1 ?_)
  | (with_reducible refine r_lcL ?_)
  | (with_reducible refine r_lcT ?_)
  | (with_reducible refine r_yes ?_)
  | (with_reducible refine r_tPart ?_)
  | (with_reducible refine r_noPart ?_)
  | (with_reducible refine r_exI ?_)
  | (with_reducible refine r_par ?_)
  | (with_reducible refine Er.r_raise1 ?_)
  | (with_reducible refine r_isN ?_)
  | (with_reducible refine r_isI ?_)
  | (with_reducible refine r_isR ?_)
  | (with_reducible refine r_noN ?_)
  | (with_reducible refine r_noI ?_)
  | (with_reducible refine r_noR ?_)
  | (with_reducible refine r_iteTT ?_)
  | (with_reducible refine r_iteFF ?_)
  | (with_reducible refine Er.r_xf ?_)
  | ((with_reducible refine' r_tyL ?h1 ?_); (case h1 => walk_at "sq"))
  | ((with_reducible refine' r_app ?h1 ?h2 ?_); (case h1 => walk_at "hp"); (case h2 => exact lt_size (by simp only [List.length_map, List.length_append, List.length_cons, List.length_nil]; omega)))
  | (with_reducible refine r_exP ?_)
  | (with_reducible refine r_iteT rfl ?_)
  | (with_reducible refine r_iteNF rfl ?_)
  | ((with_reducible refine' r_ixL ?h1 ?h2 ?_); (case h1 => walk_at "sq"); (case h2 => walk_at "at"))
  | ((with_reducible refine' r_ixT ?h1 ?h2 ?_); (case h1 => walk_at "sq"); (case h2 => walk_at "at"))
  | (with_reducible refine r_lenL (sqL_of (by assumption)) ?_)
  | (with_reducible refine r_lenT (sqT_of (by assumption)) ?_)
  | ((with_reducible refine' r_lenL ?h1 ?_); (case h1 => walk_at "sq"))
  | ((with_reducible refine' r_lenT ?h1 ?_); (case h1 => walk_at "sq"))
  | ((with_reducible refine' r_setP0 ?h1 ?_); (case h1 => walk_at "hp"); try simp only [upd_upd])
  | ((with_reducible refine' r_setP1 ?h1 ?_); (case h1 => walk_at "hp"); try simp only [upd_upd])
  | ((with_reducible refine' r_setP2 ?h1 ?_); (case h1 => walk_at "hp"); try simp only [upd_upd])
  | ((with_reducible refine' r_setP3 ?h1 ?_); (case h1 => walk_at "hp"); try simp only [upd_upd])
  | ((with_reducible refine r_I ?h1 ?_); (case h1 => walk_at "side"); try simp only [Int.reduceToNat, Int.reducePow])
  | ((with_reducible refine r_iteT ?h1 ?_); (case h1 => walk_at "dec"))
  | ((with_reducible refine r_iteF ?h1 ?_); (case h1 => walk_at "dec"))
  | ((with_reducible refine r_iteNT ?h1 ?_); (case h1 => walk_at "dec"))
  | ((with_reducible refine r_iteNF ?h1 ?_); (case h1 => walk_at "dec"))
  | ((with_reducible refine' r_gNameW ?h1 ?_); (case h1 => (simp only [L2.wipe, List.map_cons, List.map_nil, List.set_cons_zero, List.set_cons_succ]; try exact rfl)))
  | ((with_reducible refine r_wipe ?h1 ?_); (case h1 => rfl))
  | (with_reducible refine iteT ?_)
  | (with_reducible refine r_iteNT1 ?_)
  | (with_reducible refine r_iteNF1 ?_)
  | (with_reducible refine r_gcd ?_)
  | ((with_reducible refine' r_isi ?h1 ?h2 ?_); (case h1 => first | exact .base (.int _) | exact .base (.bl _) | exact .base (.str _) | exact .base .non | exact .base (.tup (by walk_at "hp")) | exact .base (.lst (by walk_at "hp")) | exact .base (.dK (by walk_at "hp"))); (case h2 => first | (with_reducible exact kit_ii) | (with_reducible exact kit_ib) | (with_reducible exact kit_tt) | (with_reducible exact kit_ss) | (with_reducible exact kit_ll) | (with_reducible exact kit_bb) | (with_reducible exact kit_bi) | (with_reducible exact kit_dd) | (with_reducible exact kit_nt) | (with_reducible exact kit_ni) | (with_reducible exact kit_is) | (with_reducible exact kit_si) | (with_reducible exact kit_it)))
  | (with_reducible refine iteF ?_)
  | ((with_reducible refine And.intro ?h1 ?_); (case h1 => exact le_size (by simp only [List.length_cons, List.length_nil]; omega)))
  | (with_reducible refine r_nxE ?_)
  | (with_reducible refine r_rtE ?_))
local macro_rules | `(tactic| walk_at "sts") => `(tactic| repeat walk_at "st")
local macro_rules | `(tactic| walk_at "hp") => `(tactic| first | assumption | exact upd_same | (rw [upd_ne (by walk_at "ne")]; walk_at "hp") | exact Keep.out (by assumption) (by walk_at "nin") (by walk_at "hp"))
local macro_rules | `(tactic| walk_at "nin") => `(tactic| (simp only [List.mem_cons, List.not_mem_nil, or_false, not_false_eq_true]; first | done | walk_at "ne"))
local macro_rules | `(tactic| walk_at "ne") => `(tactic| first | assumption | (apply Ne.symm; assumption) | exact ne_free (by assumption) (by assumption) | exact (ne_free (by assumption) (by assumption)).symm)
local macro_rules | `(tactic| walk_at "sq") => `(tactic| first | assumption | exact sqL_of (by walk_at "hp") | exact sqT_of (by walk_at "hp") | exact Keep.l (by assumption) (by walk_at "nin") (by walk_at "sq") | exact Keep.t (by assumption) (by walk_at "nin") (by walk_at "sq"))
local macro_rules | `(tactic| walk_at "at") => `(tactic| first
  | exact atI_nat (j := 0) rfl | exact atI_nat (j := 1) rfl | exact atI_nat (j := 2) rfl | exact atI_nat (j := 3) rfl | exact atI_nat (j := 4) rfl | exact atI_nat (j := 5) rfl
  | (refine atI_map ?_ ?_ <;> omega) | assumption)
local macro_rules | `(tactic| walk_at "ix") => `(tactic| first | exact ixN_of (by decide) (by simp; omega) | exact ixN_of (by omega) (by simp; omega))
local macro_rules | `(tactic| walk_at "side") => `(tactic| first | omega | decide | exact .inl (by omega) | exact .inr (by omega) | exact ⟨by omega, by omega⟩ | exact .inl (.inl (by omega)) | exact .inl (.inr (by omega)) | (exact ⟨by decide, by decide, by decide⟩) | (exact ⟨by omega, by decide⟩))
local macro_rules | `(tactic| walk_at "start") => `(tactic| simp only [start_cc, start_cn, start_nn, cxOf_K])
local macro_rules | `(tactic| walk_at "dec") => `(tactic| first | omega | (simp only [List.length_cons, List.length_nil, List.length_map, List.length_append]; omega))
local macro_rules | `(tactic| walk_at "st") => `(tactic| first
  | ((with_reducible refine' Ow.r_fldAt ?h1 ?h2 ?h3 ?h4 ?_); (case h1 => walk_at "hp"); (case h2 => exact Ow.OC.cl (by assumption)); (case h3 => assumption); (case h4 => rfl)))
local macro_rules | `(tactic| walk_at "st") => `(tactic| first
  | (with_reducible refine r_strS ?_)
  | ((with_reducible refine' r_isD ?h1 ?_); (case h1 => walk_at "hp"))
  | ((with_reducible refine' r_gTup2 ?h1 ?_); (case h1 => walk_at "sq"); try simp only [List.set_cons_zero, List.set_cons_succ]))
local macro_rules | `(tactic| walk_at "st") => `(tactic| first
  | (with_reducible refine r_js ?_)
  | (with_reducible refine r_js0 ?_)
  | (with_reducible refine r_fmt ?_))
local macro_rules | `(tactic| walk_at "st") => `(tactic| first
  | (with_reducible refine Ow.r_sfld ?_)
  | ((with_reducible refine' Ow.r_sfldAt ?h1 ?h2 ?h3 ?h4 ?_); (case h1 => walk_at "hp"); (case h2 => exact Ow.OC.cl (by assumption)); (case h3 => assumption); (case h4 => (simp only [List.length_cons, List.length_nil]; omega)))
  | ((with_reducible refine Ow.r_meth ?_); skip)
  | ((with_reducible refine' Ow.r_methAt ?h1 ?h2 ?_); (case h1 => walk_at "hp"); (case h2 => rfl); try simp only [List.cons_append, List.nil_append]))
local macro_rules | `(tactic| walk_at "st") => `(tactic| first
  | ((with_reducible refine' r_var ?h1 ?_); (case h1 => exact rfl))
  | (with_reducible refine r_cons ?_)
  | (with_reducible refine r_nil ?_)
  | (with_reducible refine r_op ?_)
  | (with_reducible refine r_c ?_)
  | (with_reducible refine r_seq ?_)
  | (with_reducible refine r_asg ?_)
  | ((with_reducible show gName _ _ _ _ _); first | (with_reducible refine r_gName1 ?_) | (with_reducible refine r_gName2 ?_) | (with_reducible refine r_gName3 ?_) | (with_reducible refine r_gName4 ?_) | (with_reducible refine r_gName5 ?_) | (with_reducible refine r_gName6 ?_) | (with_reducible refine r_gName7 ?_) | (with_reducible refine r_gName8 ?_) | (with_reducible refine r_gName9 ?_) | (with_reducible refine r_gName10 ?_) | (with_reducible refine r_gName11 ?_) | (with_reducible refine r_gName12 ?_))
  | (with_reducible refine r_I0 ?_)
  | ((with_reducible refine r_call ?_); try simp only [List.cons_append, List.nil_append])
  | (with_reducible refine r_test ?_)
  | (with_reducible refine r_cb ?_)
  | (with_reducible refine r_ifS ?_)
  | (with_reducible refine r_tB ?_)
  | (with_reducible refine r_not ?_)
  | (with_reducible refine r_or ?_)
  | (with_reducible refine r_next ?_)
  | (with_reducible refine r_ret ?_)
  | (with_reducible refine r_eqI ?_)
  | (with_reducible refine r_neI ?_)
  | (with_reducible refine r_tup ?_)
  | (with_reducible refine r_gSub ?_)
  | (with_reducible refine r_lst ?_)
  | (with_reducible refine r_andV ?_)
  | (with_reducible refine r_bm ?_)
  | (with_reducible refine r_and ?_)
  | (with_reducible refine r_un ?_)
  | (with_reducible refine r_U ?_)
  | (with_reducible refine r_bl ?_)
  | (with_reducible refine Ow.r_fld ?_))
/-! ### lists of objects -/
def AllP {α : Type} (P : Addr → α → Prop) : List Addr → List α → Prop
  | [], [] => True
  | a :: as, x :: xs => P a x ∧ AllP P as xs
  | _, _ => False
namespace AllP
variable {α : Type} {P P' : Addr → α → Prop}
theorem len : ∀ {as : List Addr} {xs : List α}, AllP P as xs → as.length = xs.length
  | [], [], _ => rfl
  | _ :: _, _ :: _, h => congrArg Nat.succ (len h.2)
theorem mono (h : ∀ a x, P a x → P' a x) : ∀ {as : List Addr} {xs : List α}, AllP P as xs → AllP P' as xs
  | [], [], _ => True.intro
  | _ :: _, _ :: _, k => ⟨h _ _ k.1, mono h k.2⟩
theorem get : ∀ {as : List Addr} {xs : List α}, AllP P as xs → ∀ {i : Nat} {a : Addr}, as[i]? = some a → ∃ x, xs[i]? = some x ∧ P a x
  | a :: as, x :: xs, h, 0, b, e => ⟨x, rfl, by cases e; exact h.1⟩
  | a :: as, x :: xs, h, i + 1, b, e => get h.2 (i := i) e
  | [], [], _, i, b, e => by simp at e
theorem getX : ∀ {as : List Addr} {xs : List α}, AllP P as xs → ∀ {i : Nat} {x : α}, xs[i]? = some x → ∃ a, as[i]? = some a ∧ P a x
  | a :: as, x :: xs, h, 0, b, e => ⟨a, rfl, by cases e; exact h.1⟩
  | a :: as, x :: xs, h, i + 1, b, e => getX h.2 (i := i) e
  | [], [], _, i, b, e => by simp at e
theorem app : ∀ {as bs : List Addr} {xs ys : List α}, AllP P as xs → AllP P bs ys → AllP P (as ++ bs) (xs ++ ys)
  | [], _, [], _, _, k => k
  | _ :: _, _, _ :: _, _, h, k => ⟨h.1, app h.2 k⟩
theorem snoc {as : List Addr} {xs : List α} {a : Addr} {x : α} (h : AllP P as xs) (k : P a x) : AllP P (as ++ [a]) (xs ++ [x]) := h.app ⟨k, True.intro⟩
theorem take : ∀ {as : List Addr} {xs : List α} {n : Nat}, AllP P as xs → AllP P (as.take n) (xs.take n)
  | _, _, 0, _ => by rw [List.take_zero, List.take_zero]; trivial
  | [], [], _ + 1, _ => trivial
  | _ :: _, _ :: _, n + 1, h => ⟨h.1, take h.2⟩
theorem drop : ∀ {as : List Addr} {xs : List α} {n : Nat}, AllP P as xs → AllP P (as.drop n) (xs.drop n)
  | _, _, 0, h => h
  | [], [], _ + 1, _ => trivial
  | _ :: _, _ :: _, n + 1, h => drop (n := n) h.2
theorem map {β : Type} {f : α → β} {P2 : Addr → β → Prop} (h : ∀ a x, P a x → P2 a (f x)) : ∀ {as : List Addr} {xs : List α}, AllP P as xs → AllP P2 as (xs.map f)
  | [], [], _ => True.intro
  | _ :: _, _ :: _, k => ⟨h _ _ k.1, map h k.2⟩
end AllP
theorem getRf {as : List Addr} {i : Nat} {v : V} (h : (as.map V.ref)[i]? = some v) : ∃ a, as[i]? = some a ∧ v = .ref a := by
  rw [List.getElem?_map] at h
  cases e : as[i]? with
  | none => rw [e] at h; cases h
  | some a => rw [e] at h; exact ⟨a, rfl, (Option.some.inj h).symm⟩
/-! ### tuples stay -/
def KeepT (H H' : Hp) : Prop := ∀ a xs, H a = some (.tup xs) → H' a = some (.tup xs)
theorem KeepT.refl (H : Hp) : KeepT H H := fun _ _ h => h
theorem KeepT.trans {H H1 H2 : Hp} (a : KeepT H H1) (b : KeepT H1 H2) : KeepT H H2 := fun c x h => b c x (a c x h)
def NoT (H : Hp) (m : Addr) : Prop := ∀ xs, H m ≠ some (.tup xs)
theorem noT_l {H : Hp} {m : Addr} {xs : List V} (h : H m = some (.lst xs)) : NoT H m := fun ys e => by rw [h] at e; cases e
theorem noT_i {H : Hp} {m C dx : Addr} {fs : List (Str × V)} (h : H m = some (.ins C dx fs)) : NoT H m := fun ys e => by rw [h] at e; cases e
theorem PotAt.noT {H : Hp} {a : Addr} (h : PotAt a H) : NoT H a := by obtain ⟨P, hP, _⟩ := h; exact noT_l hP
theorem Keep.tt {M : List Addr} {H H' : Hp} (k : Keep M H H') (n : ∀ m ∈ M, NoT H m) : KeepT H H' := fun a xs h => k a _ (fun m => n a m xs h) h
theorem Keep.t0 {H H' : Hp} (k : Keep [] H H') : KeepT H H' := fun a xs h => k a _ (by simp) h
theorem Keep.t1 {m : Addr} {H H' : Hp} (k : Keep [m] H H') (n : NoT H m) : KeepT H H' := k.tt fun a h => by rw [List.mem_singleton.mp h]; exact n
/-! ### pairs, ends, stretches, cuts -/
def sg (a b : Int) : Int := if a = b then 0 else if a < b then -1 else 1
structure GOk (g : Int) : Prop where
  pos : 0 < g
  lt : g < 2 ^ 40
def loP (t g : Int) : List V := [.int (lowT t g), .int (lowB t g)]
def PairAt (g : Int) (H : Hp) (p : Addr) (t : Int) : Prop := H p = some (.tup (loP t g))
def EndAt (g : Int) (H : Hp) (x : V) (o : Option Int) : Prop := match o with
  | none => x = .non
  | some t => ∃ p, x = .ref p ∧ PairAt g H p t
def RwAt (g : Int) (H : Hp) (a : Addr) (r : Rw) : Prop := ∃ x y, H a = some (.tup [x, .bl r.2.1, y, .bl r.2.2.2]) ∧ EndAt g H x r.1 ∧ EndAt g H y r.2.2.1
def PcAt (g : Int) (H : Hp) (a : Addr) (p : Iv) : Prop := RwAt g H a (rwOf p)
def TupAt (K : PySem.W.Frag) (H : Hp) (a : Addr) (xs : List V) : Prop := H a = some (.tup xs) ∨ SqTK K a xs
theorem TupAt.sq {K : PySem.W.Frag} {H : Hp} {a : Addr} {xs : List V} (h : TupAt K H a xs) : SqT K H a xs := h.imp (fun h => Or.inl h) id
theorem TupAt.k {K : PySem.W.Frag} {H H' : Hp} {a : Addr} {xs : List V} (h : TupAt K H a xs) (k : KeepT H H') : TupAt K H' a xs := h.imp (k a xs) id
def CutV (r x s c : Int) : Prop := (r = -1 ∧ x = 0 ∧ s = 0 ∧ c = -BB) ∨ (r = 1 ∧ x = 0 ∧ s = 0 ∧ c = BB) ∨ (r = 0 ∧ (s = 0 ∨ s = 1) ∧ Sm x ∧ c = 2 * x + s)
def CutAt (K : PySem.W.Frag) (g : Int) (H : Hp) (a : Addr) (c : Int) : Prop := ∃ (q : Addr) (r x s : Int), TupAt K H a [.int r, .ref q, .int s] ∧ TupAt K H q (loP x g) ∧ CutV r x s c ∧ (r = 0 → PairAt g H q x)
theorem EndAt.k {g : Int} {H H' : Hp} {x : V} {o : Option Int} (h : EndAt g H x o) (k : KeepT H H') : EndAt g H' x o := by
  cases o with
  | none => exact h
  | some t => obtain ⟨p, e, hp⟩ := h; exact ⟨p, e, k _ _ hp⟩
theorem RwAt.k {g : Int} {H H' : Hp} {a : Addr} {r : Rw} (h : RwAt g H a r) (k : KeepT H H') : RwAt g H' a r := by
  obtain ⟨x, y, e, h1, h2⟩ := h; exact ⟨x, y, k _ _ e, h1.k k, h2.k k⟩
theorem PcAt.k {g : Int} {H H' : Hp} {a : Addr} {r : Iv} (h : PcAt g H a r) (k : KeepT H H') : PcAt g H' a r := RwAt.k h k
theorem CutAt.k {K : PySem.W.Frag} {g : Int} {H H' : Hp} {a : Addr} {c : Int} (h : CutAt K g H a c) (k : KeepT H H') : CutAt K g H' a c := by
  obtain ⟨q, r, x, s, h1, h2, h3, h4⟩ := h; exact ⟨q, r, x, s, h1.k k, h2.k k, h3, fun e => k _ _ (h4 e)⟩
theorem lowT_z {g : Int} (h : 0 < g) : lowT 0 g = 0 ∧ lowB 0 g = 1 := by
  have e : dv 0 g = g := by unfold dv; rw [if_neg (by omega)]; simp; omega
  unfold lowT lowB
  rw [e]
  exact ⟨by simp, by rw [Int.fdiv_self (by omega)]⟩
/-- the comparison of two pairs is that of the parts -/
theorem low_sg {g t s : Int} (h : 0 < g) : (lowT t g * lowB s g = lowT s g * lowB t g ↔ t = s) ∧ (lowT t g * lowB s g < lowT s g * lowB t g ↔ t < s) := by
  have c1 := low_cross (t := t) (b := g)
  have c2 := low_cross (t := s) (b := g)
  have p1 := lowB_pos (t := t) h
  have p2 := lowB_pos (t := s) h
  have P := Int.mul_pos p1 p2
  have e1 : lowT t g * lowB s g * g = t * (lowB t g * lowB s g) := by
    calc lowT t g * lowB s g * g = lowT t g * g * lowB s g := by ac_rfl
      _ = t * lowB t g * lowB s g := by rw [c1]
      _ = _ := by ac_rfl
  have e2 : lowT s g * lowB t g * g = s * (lowB t g * lowB s g) := by
    calc lowT s g * lowB t g * g = lowT s g * g * lowB t g := by ac_rfl
      _ = s * lowB s g * lowB t g := by rw [c2]
      _ = _ := by ac_rfl
  generalize lowT t g * lowB s g = A at *
  generalize lowT s g * lowB t g = B at *
  generalize lowB t g * lowB s g = Z at *
  constructor
  · constructor
    · intro e; subst e
      exact Int.eq_of_mul_eq_mul_right (by omega) (e1.symm.trans e2)
    · intro e; subst e
      exact Int.eq_of_mul_eq_mul_right (by omega) (e1.trans e2.symm)
  · constructor
    · intro e
      have : A * g < B * g := Int.mul_lt_mul_of_pos_right e h
      rw [e1, e2] at this
      exact Int.lt_of_mul_lt_mul_right this (by omega)
    · intro e
      have : t * Z < s * Z := Int.mul_lt_mul_of_pos_right e P
      rw [← e1, ← e2] at this
      exact Int.lt_of_mul_lt_mul_right this (by omega)
theorem sm_lo {t : Int} (h : Sm t) {g : Int} (hg : GOk g) : (lowT t g).natAbs < 2 ^ 300 ∧ (lowB t g).natAbs < 2 ^ 300 ∧ 0 < lowB t g := by
  have a := lowT_le (t := t) (b := g) (by have := hg.pos; omega)
  have b := lowB_le (t := t) (b := g) (by have := hg.pos; omega)
  have c := lowB_pos (t := t) hg.pos
  have := hg.lt
  have := hg.pos
  unfold Sm at h
  refine ⟨?_, ?_, c⟩
  · have : (lowT t g).natAbs < 2 ^ 201 := by omega
    exact Nat.lt_of_lt_of_le this (Nat.pow_le_pow_right (by decide) (by decide))
  · have : (lowB t g).natAbs < 2 ^ 40 := by omega
    exact Nat.lt_of_lt_of_le this (Nat.pow_le_pow_right (by decide) (by decide))
theorem sm_z : Sm 0 := ⟨by decide, by decide⟩
theorem CutV.sm {r x s c : Int} (h : CutV r x s c) : Sm x := by
  rcases h with ⟨_, rfl, _⟩ | ⟨_, rfl, _⟩ | ⟨_, _, h, _⟩
  · exact sm_z
  · exact sm_z
  · exact h
/-! ### what raises may be called where nothing raises -/
theorem FnOk.calm {P : Program} {w : World} {K : PySem.W.Frag} {mg : Str → Option Value} {base : Heap} {k : Nat} {f : Addr} {fd : FuncData} {ps : List Str} {sp : Sp} (F : FnOk P w K mg base (L2.CX P w) k f fd ps sp) : FnOk P w K mg base CX0 k f fd ps (fun vs H Q _ => sp vs H Q fun _ _ _ => False) :=
  ⟨fun vs H Q E q => F.len vs H Q _ q, fun A outer s H args us vs Q E hr he hb hv hs => codeAny_mono (F.run A outer s H args us vs Q _ hr he hb hv hs) fun r s' h => by
    cases r with
    | ok f => cases f <;> exact h
    | error e => obtain ⟨_, _, _, _, _, _, _, _, _, _, _, _, h⟩ := h; exact h.elim⟩
theorem FnR.calm {P : Program} {w : World} {K : PySem.W.Frag} {mg : Str → Option Value} {base : Heap} {k : Nat} {f : Addr} {sp : Sp} (F : FnR P w K mg base (L2.CX P w) k f sp) : FnR P w K mg base CX0 k f (fun vs H Q _ => sp vs H Q fun _ _ _ => False) :=
  fun A outer s H us vs Q E hr he hv hs => codeAny_mono (F A outer s H us vs Q _ hr he hv hs) fun r s' h => by
    cases r with
    | ok f => cases f <;> exact h
    | error e => obtain ⟨_, _, _, _, _, _, _, _, _, _, _, _, h⟩ := h; exact h.elim
section
variable {P : Program} {w : World} {K : PySem.W.Frag} {mg : Str → Option Value} {base : Heap}
theorem ok_take (T : Tx K mg) : FnOk P w K mg base CX0 1 T.f_w_take T.fd_w_take ["_law_pot_here", "_law_size"] spTake := by
  refine T.F_w_take.ok sc_w_take (fun vs H Q E h => ?_) (fun cdv A outer s H vs Q E hr h => ?_)
  · obtain ⟨a, n, rfl, _⟩ := h; rfl
  · obtain ⟨a, n, rfl, ⟨P0, hP, pos, car, cnt, mix, sc, rfl, h4, hcar, hm0, hm1, hsc⟩, hn0, hn1, q⟩ := h
    refine ⟨_, (pss_cons (ps_asg (pe_op op_add (pe_ix ix_list (pv 0) pe_int (fun _ _ => rfl)) pe_int) (pg_sub (pv 0) pe_int set_list))
    (Evl.pss_cut (ps_if (PW.pt (pw_and (pt_cmpR op_eq (pe_ix ix_list (pv 0) pe_int (fun _ _ => rfl)) pe_int (nomark _)) (pw_and1 (pt_cmpR op_lt (pe_ix ix_list (pv 0) pe_int (fun _ _ => rfl)) (pe_callB call_len_seq (by rfl) T.m_len PySem.boot_len (pa_cons (pv 0) pa_nil)) (nomark _)))))
    (pss_cons (ps_set (i := 2) sc_w_take.nd rfl (Or.inl rfl) (pe_callTy call_int1 (by rfl) T.m_int (by decide +kernel) (pa_cons (pe_ix ix_list (pv 0) (pe_ix ix_list (pv 0) pe_int (fun _ _ => rfl)) (fun _ _ => rfl)) pa_nil)))
    (pss_cons (ps_asg (pe_op op_add (pe_ix ix_list (pv 0) pe_int (fun _ _ => rfl)) pe_int) (pg_sub (pv 0) pe_int set_list))
    (pss_one (ps_if (pt_cmpR op_ge (pv 2) (pe_op op_pow pe_int pe_int) (nomark _))
    (pss_one (ps_asg (pe_op op_sub (pv 2) (pe_op op_pow pe_int pe_int)) (pg_sub (pv 0) pe_int set_list)))
    (pss_one (ps_asg (pe_op op_mod (pe_callTy call_int1 (by rfl) T.m_int (by decide +kernel) (pa_cons (pe_op op_add (pe_op op_add (pe_op op_mul (pe_ix ix_list (pv 0) pe_int (fun _ _ => rfl)) pe_int) (pe_op op_mul (pv 2) pe_int)) pe_int) pa_nil)) pe_int) (pg_sub (pv 0) pe_int set_list)))))))
    pss_nil)
    (pss_cons (ps_if (pt_cmpR op_gt (pe_ix ix_list (pv 0) pe_int (fun _ _ => rfl)) pe_int (nomark _))
    (pss_cons (ps_set (i := 2) sc_w_take.nd rfl (Or.inl rfl) (pe_callTy call_int1 (by rfl) T.m_int (by decide +kernel) (pa_cons (pe_ix ix_list (pv 0) pe_int (fun _ _ => rfl)) pa_nil)))
    (pss_cons (ps_asg (pe_op op_fdivWN (pv 2) (pv 1)) (pg_sub (pv 0) pe_int set_list))
    (pss_one (ps_ret (pe_op op_mod (pe_callTy call_int1 (by rfl) T.m_int (by decide +kernel) (pa_cons (pv 2) pa_nil)) (pv 1))))))
    pss_nil)
    (pss_cons (ps_set (i := 3) sc_w_take.nd rfl (Or.inl rfl) (pe_op op_mod (pe_callTy call_int1 (by rfl) T.m_int (by decide +kernel) (pa_cons (pe_op op_mulG (pe_ix ix_list (pv 0) pe_int (fun _ _ => rfl)) (pe_op op_add (pe_op op_mul (pe_ix ix_list (pv 0) pe_int (fun _ _ => rfl)) pe_int) pe_int)) pa_nil)) pe_int))
    (pss_cons (ps_set (i := 3) sc_w_take.nd rfl (Or.inl rfl) (pe_op op_mod (pe_callTy call_int1 (by rfl) T.m_int (by decide +kernel) (pa_cons (pe_op op_mulG (pv 3) (pe_op op_add (pe_op op_add (pv 3) (pe_op op_mul (pe_ix ix_list (pv 0) pe_int (fun _ _ => rfl)) pe_int)) pe_int)) pa_nil)) pe_int))
    (pss_one (ps_ret (pe_op op_mod (pe_callTy call_int1 (by rfl) T.m_int (by decide +kernel) (pa_cons (pe_op op_add (pe_op op_fdiv (pv 3) pe_int) (pe_ix ix_list (pv 0) pe_int (fun _ _ => rfl))) pa_nil)) (pv 1))))))))), ?_⟩
    walk_at "start"
    walk_at "sts"
    refine r_cut (fun σ' H' => ∃ (pos car cnt mix : Int) (x : Option V), σ' = [some (.ref a), some (.int n), x, none] ∧ H' = upd H a (.lst (V.int pos :: V.int car :: V.int cnt :: V.int mix :: sc.map V.int)) ∧ 4 ≤ pos ∧ 0 ≤ car ∧ 0 ≤ mix ∧ mix < 2147483647) ?_ ?_
    · walk_at "sts"
      refine r_ite (fun c1 => ?_) (fun c1 => ?_)
      · walk_at "sts"
        refine r_ite (fun c2 => ?_) (fun c2 => ?_)
        · walk_at "sts"
          simp only [List.length_cons, List.length_map] at c2
          refine r_ixL (sqL_of upd_same) (pot_at h4 (by omega)) ?_
          walk_at "sts"
          refine r_ite (fun c3 => ?_) (fun c3 => ?_)
          · walk_at "sts"
            exact ⟨_, _, _, _, _, rfl, rfl, by omega, by omega, hm0, hm1⟩
          · walk_at "sts"
            exact ⟨_, _, _, _, _, rfl, rfl, by omega, by omega, Int.emod_nonneg _ (by decide), Int.emod_lt_of_pos _ (by decide)⟩
        · walk_at "sts"
          exact ⟨_, _, _, _, _, rfl, rfl, h4, hcar, hm0, hm1⟩
      · walk_at "sts"
        exact ⟨_, _, _, _, _, rfl, rfl, h4, hcar, hm0, hm1⟩
    · rintro σ' H' ⟨pos, car, cnt, mix, x, rfl, rfl, h4, hcar, hm0, hm1⟩
      walk_at "sts"
      refine r_ite (fun c1 => ?_) (fun c1 => ?_)
      · walk_at "sts"
        refine r_I ⟨by omega, log_ok 200 (by omega)⟩ ?_
        walk_at "sts"
        exact q _ _ (Int.emod_nonneg _ (by omega)) (Int.emod_lt_of_pos _ hn0) (Keep.at (by simp)) ⟨_, upd_same, pos, _, cnt, mix, sc, rfl, h4, Int.fdiv_nonneg (by omega) (by omega), hm0, hm1, hsc⟩
      · walk_at "sts"
        exact q _ _ (Int.emod_nonneg _ (by omega)) (Int.emod_lt_of_pos _ hn0) (Keep.at (by simp)) ⟨_, upd_same, pos, car, cnt, mix, sc, rfl, h4, hcar, hm0, hm1, hsc⟩
theorem ok_pot (T : Tx K mg) : FnOk P w K mg base CX0 1 T.f_w_pot T.fd_w_pot ["_law_script"] (spPot K) := by
  refine T.F_w_pot.ok sc_w_pot (fun vs H Q E h => ?_) (fun cdv A outer s H vs Q E hr h => ?_)
  · obtain ⟨a, ns, rfl, _⟩ := h; rfl
  · obtain ⟨a, ns, rfl, hs, hl, q⟩ := h
    refine ⟨_, (pss_one (ps_ret (pe_op op_cat (pe_lst (pa_cons pe_int (pa_cons pe_int (pa_cons pe_int (pa_cons pe_int pa_nil))))) (pe_callTy call_list_of (by rfl) T.m_list (by decide +kernel) (pa_cons (pe_slice sl_list (pv 0) po_none (po_some pe_int)) pa_nil))))), ?_⟩
    walk_at "start"
    walk_at "sts"
    intro p hp
    walk_at "sts"
    refine r_slL (Keep.l (Keep.new (M := []) hp) (by simp) hs) (fun p2 hp2 => ?_)
    walk_at "sts"
    intro p3 hp3
    have n2 : p ≠ p2 := ne_of_none (o := .lst [.int 4, .int 0, .int 0, .int 0]) upd_same hp2
    have n3 : p ≠ p3 := by
      refine ne_of_none (o := .lst [.int 4, .int 0, .int 0, .int 0]) ?_ hp3
      rw [upd_ne n2]; exact upd_same
    have e : cutV (ns.map V.int) none (some 63) = ns.map V.int := by
      unfold cutV
      rw [show HT.sIx (ns.map V.int).length (ns.map V.int).length (some 63) = min 63 (ns.map V.int).length from HT.sIx_nat _ _ 63, HT.sIx_none, List.length_map, Nat.min_eq_right hl, Nat.sub_zero, List.drop_zero]
      exact List.take_of_length_le (by rw [List.length_map]; exact Nat.le_refl _)
    refine r_cat (by rw [upd_ne n3, upd_ne n2]; exact upd_same) upd_same (le_size (by rw [e, List.length_map]; simp only [List.length_cons, List.length_nil]; omega)) (fun p4 hp4 => ?_)
    have k3 : Keep [] H (upd (upd (upd H p (.lst [.int 4, .int 0, .int 0, .int 0])) p2 (.lst (cutV (ns.map V.int) none (some 63)))) p3 (.lst (cutV (ns.map V.int) none (some 63)))) := ((Keep.new hp).trans (Keep.new hp2)).trans (Keep.new hp3)
    refine q p4 _ (k3.trans (Keep.new hp4)) (k3.free (by simp) hp4) ⟨_, upd_same, 4, 0, 0, 0, ns, ?_, by decide, by decide, by decide, by decide, hl⟩
    rw [e]; rfl
theorem ok_ratio (T : Tx K mg) : FnOk P w K mg base CX0 1 T.f_ratio T.fd_ratio ["top", "bottom"] spLow := by
  refine T.F_ratio.ok sc_ratio (fun vs H Q E h => ?_) (fun cdv A outer s H vs Q E hr h => ?_)
  · obtain ⟨a, b, rfl, _⟩ := h; rfl
  · obtain ⟨t, b, rfl, hb, hz, q⟩ := h
    refine ⟨_, PSs.nox (pss_cons (ps_if (pt_cmpR op_eq (pv 1) pe_int (nomark _))
    (pss_one ps_never)
    pss_nil)
    (pss_cons (ps_set (i := 2) sc_ratio.nd rfl (Or.inl rfl) (pe_callBfun cr_gcd rfl T.m_gcd (pa_cons (pv 0) (pa_cons (pv 1) pa_nil))))
    (pss_cons (ps_if (pt_cmpR op_lt (pv 1) pe_int (nomark _))
    (pss_one (ps_set (i := 2) sc_ratio.nd rfl (Or.inl rfl) (pe_un un_neg (pv 2))))
    pss_nil)
    (pss_one (ps_ret (pe_tup (pa_cons (pe_op op_fdivWN (pv 0) (pv 2)) (pa_cons (pe_op op_fdivWN (pv 1) (pv 2)) pa_nil)))))))), ?_⟩
    walk_at "start"
    walk_at "sts"
    have hl : (dv t b).natAbs.log2 < 9000 := log_ok 8000 (by rw [dv_abs]; exact Nat.lt_of_le_of_lt (gcd_le hb) hz)
    have hn := dv_ne (t := t) hb
    refine r_ite (fun c => ?_) (fun c => ?_)
    · have e : dv t b = -((Nat.gcd t.natAbs b.natAbs : Nat) : Int) := by unfold dv; rw [if_pos c]
      rw [e] at hl hn
      walk_at "sts"
      intro p hp
      refine q p _ (Keep.new hp) hp ?_
      rw [upd_same]; unfold lowT lowB; rw [e]
    · have e : dv t b = ((Nat.gcd t.natAbs b.natAbs : Nat) : Int) := by unfold dv; rw [if_neg c]
      rw [e] at hl hn
      walk_at "sts"
      intro p hp
      refine q p _ (Keep.new hp) hp ?_
      rw [upd_same]; unfold lowT lowB; rw [e]
theorem ok_plus (T : Tx K mg) (G_ratio : FnOk P w K mg base CX0 1 T.f_ratio T.fd_ratio ["top", "bottom"] spLow) : FnOk P w K mg base CX0 2 T.f_plus T.fd_plus ["first", "second"] (spTwo fPlus) := by
  refine T.F_plus.ok sc_plus (fun vs H Q E h => ?_) (fun cdv A outer s H vs Q E hr h => ?_)
  · obtain ⟨p, q, a, b, c, d, rfl, _⟩ := h; rfl
  · obtain ⟨p, q, a, b, c, d, rfl, hp, hq, hb, hd, za, zb, zc, zd, k⟩ := h
    refine ⟨_, (pss_one (ps_ret (pe_call G_ratio (hr.mono (by decide)) rfl T.g_ratio T.F_ratio.kp T.b2_ratio.choose_spec.2 T.b2_ratio.choose_spec.1 pass0 (pa_cons (pe_op op_add (pe_op op_mulG (pe_ix ix_tup (pv 0) pe_int (fun _ _ => rfl)) (pe_ix ix_tup (pv 1) pe_int (fun _ _ => rfl))) (pe_op op_mulG (pe_ix ix_tup (pv 1) pe_int (fun _ _ => rfl)) (pe_ix ix_tup (pv 0) pe_int (fun _ _ => rfl)))) (pa_cons (pe_op op_mulG (pe_ix ix_tup (pv 0) pe_int (fun _ _ => rfl)) (pe_ix ix_tup (pv 1) pe_int (fun _ _ => rfl))) pa_nil))))), ?_⟩
    walk_at "start"
    walk_at "sts"
    refine r_I (mulw 9000 3000 za zd) ?_
    walk_at "sts"
    refine r_I (mulw 9000 3000 zc zb) ?_
    walk_at "sts"
    refine r_I (mulw 3000 3000 zb zd) ?_
    walk_at "sts"
    exact r_low (Int.mul_ne_zero hb hd) (pow_mono 6000 8000 (wide_lt zb zd)) k
theorem ok_times (T : Tx K mg) (G_ratio : FnOk P w K mg base CX0 1 T.f_ratio T.fd_ratio ["top", "bottom"] spLow) : FnOk P w K mg base CX0 2 T.f_times T.fd_times ["first", "second"] (spTwo fTimes) := by
  refine T.F_times.ok sc_times (fun vs H Q E h => ?_) (fun cdv A outer s H vs Q E hr h => ?_)
  · obtain ⟨p, q, a, b, c, d, rfl, _⟩ := h; rfl
  · obtain ⟨p, q, a, b, c, d, rfl, hp, hq, hb, hd, za, zb, zc, zd, k⟩ := h
    refine ⟨_, (pss_one (ps_ret (pe_call G_ratio (hr.mono (by decide)) rfl T.g_ratio T.F_ratio.kp T.b2_ratio.choose_spec.2 T.b2_ratio.choose_spec.1 pass0 (pa_cons (pe_op op_mulG (pe_ix ix_tup (pv 0) pe_int (fun _ _ => rfl)) (pe_ix ix_tup (pv 1) pe_int (fun _ _ => rfl))) (pa_cons (pe_op op_mulG (pe_ix ix_tup (pv 0) pe_int (fun _ _ => rfl)) (pe_ix ix_tup (pv 1) pe_int (fun _ _ => rfl))) pa_nil))))), ?_⟩
    walk_at "start"
    walk_at "sts"
    refine r_I (mulw 9000 9000 za zc) ?_
    walk_at "sts"
    refine r_I (mulw 3000 3000 zb zd) ?_
    walk_at "sts"
    exact r_low (Int.mul_ne_zero hb hd) (pow_mono 6000 8000 (wide_lt zb zd)) k
theorem ok_whole (T : Tx K mg) : FnOk P w K mg base CX0 1 T.f_w_whole T.fd_w_whole ["_law_found"] spWhole := by
  refine T.F_w_whole.ok sc_w_whole (fun vs H Q E h => ?_) (fun cdv A outer s H vs Q E hr h => ?_)
  · obtain ⟨i, rfl, _⟩ := h; rfl
  · obtain ⟨i, rfl, k⟩ := h
    refine ⟨_, (pss_one (ps_ret (pe_and (pe_callB call_isi (by rfl) T.m_isinstance (by decide +kernel) (pa_cons (pv 0) (pa_cons (pe_bltn (v := .ty "int") (by rfl) T.m_int (by decide +kernel) rfl) pa_nil))) (pe_one (pe_not (pe_callB call_isi (by rfl) T.m_isinstance (by decide +kernel) (pa_cons (pv 0) (pa_cons (pe_bltn (v := .ty "bool") (by rfl) T.m_bool (by decide +kernel) rfl) pa_nil)))))))), ?_⟩
    walk_at "start"
    walk_at "sts"
    exact k
theorem ok_pairIs (T : Tx K mg) (G_w_whole : FnOk P w K mg base CX0 1 T.f_w_whole T.fd_w_whole ["_law_found"] spWhole) : FnOk P w K mg base CX0 2 T.f_w_pair_is T.fd_w_pair_is ["_law_found", "_law_pair"] spPairIs := by
  refine T.F_w_pair_is.ok sc_w_pair_is (fun vs H Q E h => ?_) (fun cdv A outer s H vs Q E hr h => ?_)
  · obtain ⟨p, q, a, b, rfl, _⟩ := h; rfl
  · obtain ⟨p, q, a, b, rfl, hp, hq, k⟩ := h
    refine ⟨_, (pss_cons (ps_if (PW.pt (pw_or (pt_not (pt_val (pe_callB call_isi (by rfl) T.m_isinstance (by decide +kernel) (pa_cons (pv 0) (pa_cons (pe_bltn (v := .ty "tuple") (by rfl) T.m_tuple (by decide +kernel) rfl) pa_nil))))) (pw_or1 (pt_cmpR op_ne (pe_callB call_len_seq (by rfl) T.m_len PySem.boot_len (pa_cons (pv 0) pa_nil)) pe_int (nomark _)))))
    (pss_one (ps_ret pe_bl))
    pss_nil)
    (pss_cons (ps_if (PW.pt (pw_or (pt_not (pt_val (pe_call G_w_whole (hr.mono (by decide)) rfl T.g_w_whole T.F_w_whole.kp T.b_w_whole .nil pass0 (pa_cons (pe_ix ix_tup (pv 0) pe_int (fun _ _ => rfl)) pa_nil)))) (pw_or1 (pt_not (pt_val (pe_call G_w_whole (hr.mono (by decide)) rfl T.g_w_whole T.F_w_whole.kp T.b_w_whole .nil pass0 (pa_cons (pe_ix ix_tup (pv 0) pe_int (fun _ _ => rfl)) pa_nil)))))))
    (pss_one (ps_ret pe_bl))
    pss_nil)
    (pss_one (ps_ret (pe_and (pe_cmpR op_eq (pe_ix ix_tup (pv 0) pe_int (fun _ _ => rfl)) (pe_ix ix_tup (pv 1) pe_int (fun _ _ => rfl)) (nomark _)) (pe_one (pe_cmpR op_eq (pe_ix ix_tup (pv 0) pe_int (fun _ _ => rfl)) (pe_ix ix_tup (pv 1) pe_int (fun _ _ => rfl)) (nomark _)))))))), ?_⟩
    walk_at "start"
    walk_at "sts"
    refine r_whole ?_
    walk_at "sts"
    refine r_whole ?_
    walk_at "sts"
    rw [decide_eq_true rfl]
    exact k
theorem ok_lowest (T : Tx K mg) : FnOk P w K mg base CX0 1 T.f_w_lowest T.fd_w_lowest ["_law_top", "_law_bottom"] spLow0 := by
  refine T.F_w_lowest.ok sc_w_lowest (fun vs H Q E h => ?_) (fun cdv A outer s H vs Q E hr h => ?_)
  · obtain ⟨a, b, rfl, _⟩ := h; rfl
  · obtain ⟨t, b, rfl, hb, hz, q⟩ := h
    refine ⟨_, (pss_cons (ps_set (i := 2) sc_w_lowest.nd rfl (Or.inl rfl) (pe_callB call_abs (by rfl) T.m_abs (by decide +kernel) (pa_cons (pv 0) pa_nil)))
    (pss_cons (ps_set (i := 3) sc_w_lowest.nd rfl (Or.inl rfl) (pv 1))
    (pss_cons (ps_while PassesOwn.never (pt_cmpR op_gt (pv 3) pe_int (nomark _))
    (pss_cons (ps_set (i := 4) sc_w_lowest.nd rfl (Or.inl rfl) (pe_op op_mod (pe_callTy call_int1 (by rfl) T.m_int (by decide +kernel) (pa_cons (pv 2) pa_nil)) (pv 3)))
    (pss_cons (ps_set (i := 2) sc_w_lowest.nd rfl (Or.inl rfl) (pv 3))
    (pss_one (ps_set (i := 3) sc_w_lowest.nd rfl (Or.inl rfl) (pv 4))))))
    (pss_one (ps_ret (pe_tup (pa_cons (pe_op op_fdivWN (pv 0) (pv 2)) (pa_cons (pe_op op_fdivWN (pv 1) (pv 2)) pa_nil)))))))), ?_⟩
    walk_at "start"
    walk_at "sts"
    refine r_while (fun m σ' H' => ∃ (x y : Int) (z : Option V), σ' = [some (.int t), some (.int b), some (.int x), some (.int y), z] ∧ H' = H ∧ 0 ≤ x ∧ 0 ≤ y ∧ m = y.toNat ∧ Nat.gcd x.natAbs y.natAbs = Nat.gcd t.natAbs b.natAbs) (m0 := b.toNat) ⟨_, _, _, rfl, rfl, by omega, by omega, rfl, by rw [Int.natAbs_natCast]⟩ ?_
    rintro m σ' H' ⟨x, y, z, rfl, rfl, hx, hy, rfl, hg⟩
    walk_at "sts"
    refine r_ite (fun c => ?_) (fun c => ?_)
    · refine r_turn ?_
      walk_at "sts"
      have h1 := Int.emod_nonneg x (show y ≠ 0 by omega)
      have h2 := Int.emod_lt_of_pos x c
      refine ⟨(x % y).toNat, by omega, y, x % y, _, rfl, rfl, by omega, h1, rfl, ?_⟩
      rw [← hg, Nat.gcd_comm y.natAbs, Int.natAbs_emod_of_nonneg hx, ← Nat.gcd_rec, Nat.gcd_comm]
    · have hy0 : y = 0 := by omega
      subst hy0
      rw [Int.natAbs_zero, Nat.gcd_zero_right] at hg
      have e : dv t b = x := by unfold dv; rw [if_neg (by omega), ← hg]; omega
      have hn : x ≠ 0 := by rw [← e]; exact dv_ne (by omega)
      have hl : x.natAbs.log2 < 9000 := log_ok 8000 (by rw [hg]; exact Nat.lt_of_le_of_lt (gcd_le (by omega)) hz)
      walk_at "sts"
      intro p hp
      refine q p _ (Keep.new hp) hp ?_
      rw [upd_same]; unfold lowT lowB; rw [e]
end
open PySem PySem.Spec PyProof.Rows L2 StX Pc
/-! ### cuts compared and made -/
def spCmpP (K : PySem.W.Frag) : Sp := fun vs H Q _ => ∃ (p q : Addr) (t s g : Int), vs = [.ref p, .ref q] ∧ GOk g ∧ Sm t ∧ Sm s ∧ SqT K H p (loP t g) ∧ SqT K H q (loP s g) ∧ Q (.int (sg t s)) H
def spCC (K : PySem.W.Frag) : Sp := fun vs H Q _ => ∃ (p q : Addr) (c d g : Int), vs = [.ref p, .ref q] ∧ GOk g ∧ CutAt K g H p c ∧ CutAt K g H q d ∧ Q (.int (sg c d)) H
def spLoC (K : PySem.W.Frag) (f : Rw → Int) : Sp := fun vs H Q _ => ∃ (p : Addr) (r : Rw) (g : Int), vs = [.ref p] ∧ GOk g ∧ RwAt g H p r ∧ SmR r ∧ ∀ q H', Keep [] H H' → CutAt K g H' q (f r) → Q (.ref q) H'
def spBet (K : PySem.W.Frag) : Sp := fun vs H Q _ => ∃ (p q : Addr) (c d g : Int), vs = [.ref p, .ref q] ∧ GOk g ∧ CutAt K g H p c ∧ CutAt K g H q d ∧ ∀ a H', Keep [] H H' → PcAt g H' a (c, d) → Q (.ref a) H'
def spChk (CB : Addr) : Sp := fun vs H Q E => ∃ (p : Addr) (r : Rw) (g : Int), vs = [.ref p] ∧ GOk g ∧ RwAt g H p r ∧ SmR r ∧ (Good r → ∀ H', Keep [] H H' → Q .non H') ∧ (¬ Good r → ∀ H' e, Keep [] H H' → H' e = none → E (.ref CB) (some e) (upd H' e (.xd [("stretch", .ref p)])))
theorem sg_lt {a b : Int} : sg a b < 0 ↔ a < b := by unfold sg; split; omega; split <;> omega
theorem sg_le {a b : Int} : sg a b ≤ 0 ↔ a ≤ b := by unfold sg; split; omega; split <;> omega
theorem sg_ge {a b : Int} : sg a b ≥ 0 ↔ b ≤ a := by unfold sg; split; omega; split <;> omega
theorem sg_z {a b : Int} : sg a b = 0 ↔ a = b := by unfold sg; split; omega; split <;> omega
theorem r_gTup4 {K : PySem.W.Frag} {σ : L2.St} {H : Hp} {p : Addr} {x y z u : V} {i j l m : Nat} {Q : L2.St → Hp → Prop} (h : SqT K H p [x, y, z, u]) (k : Q ((((σ.set i (some x)).set j (some y)).set l (some z)).set m (some u)) H) : gTup K 4 (gCons (gName i) (gCons (gName j) (gCons (gName l) (gCons (gName m) gNil)))) (.ref p) σ H Q :=
  ⟨p, [x, y, z, u], rfl, h, rfl, x, [y, z, u], rfl, y, [z, u], rfl, z, [u], rfl, u, [], rfl, rfl, k⟩
section
variable {P : Program} {w : World} {K : PySem.W.Frag} {mg : Str → Option Value} {base : Heap}
theorem ok_compare (T : Tx K mg) : FnOk P w K mg base CX0 1 T.f_compare T.fd_compare ["first", "second"] (spCmpP K) := by
  refine T.F_compare.ok sc_compare (fun vs H Q E h => ?_) (fun cdv A outer s H vs Q E hr h => ?_)
  · obtain ⟨p, q, t, u, g, rfl, _⟩ := h; rfl
  · obtain ⟨p, q, t, u, g, rfl, hg, st, su, hp, hq, k⟩ := h
    have a := sm_lo st hg
    have b := sm_lo su hg
    have z := low_sg (t := t) (s := u) hg.pos
    unfold loP at hp hq
    refine ⟨_, (pss_cons (ps_set (i := 2) sc_compare.nd rfl (Or.inl rfl) (pe_op op_mulG (pe_ix ix_tup (pv 0) pe_int (fun _ _ => rfl)) (pe_ix ix_tup (pv 1) pe_int (fun _ _ => rfl))))
    (pss_cons (ps_set (i := 3) sc_compare.nd rfl (Or.inl rfl) (pe_op op_mulG (pe_ix ix_tup (pv 1) pe_int (fun _ _ => rfl)) (pe_ix ix_tup (pv 0) pe_int (fun _ _ => rfl))))
    (pss_cons (ps_if (pt_cmpR op_eq (pv 2) (pv 3) (nomark _))
    (pss_one (ps_ret pe_int))
    pss_nil)
    (pss_one (ps_ret (pe_ifExp (pt_cmpR op_lt (pv 2) (pv 3) (nomark _)) (pe_un un_neg pe_int) pe_int)))))), ?_⟩
    walk_at "start"
    walk_at "sts"
    refine r_I (mulw 300 300 a.1 b.2.1) ?_
    walk_at "sts"
    refine r_I (mulw 300 300 b.1 a.2.1) ?_
    walk_at "sts"
    unfold sg at k
    refine r_ite (fun c1 => ?_) (fun c1 => ?_)
    · walk_at "sts"
      rw [if_pos (z.1.mp c1)] at k; exact k
    walk_at "sts"
    rw [if_neg (fun e => c1 (z.1.mpr e))] at k
    refine r_ite (fun c2 => ?_) (fun c2 => ?_)
    · walk_at "sts"
      rw [if_pos (z.2.mp c2)] at k; exact k
    · walk_at "sts"
      rw [if_neg (fun e => c2 (z.2.mpr e))] at k; exact k
theorem ok_cc (T : Tx K mg) (G_compare : FnOk P w K mg base CX0 1 T.f_compare T.fd_compare ["first", "second"] (spCmpP K)) : FnOk P w K mg base CX0 2 T.f_compare_cuts T.fd_compare_cuts ["first", "second"] (spCC K) := by
  refine T.F_compare_cuts.ok sc_compare_cuts (fun vs H Q E h => ?_) (fun cdv A outer s H vs Q E hr h => ?_)
  · obtain ⟨p, q, t, u, g, rfl, _⟩ := h; rfl
  · obtain ⟨p, q, c, d, g, rfl, hg, ⟨p1, r1, x1, s1, hp, hp1, v1, _⟩, ⟨q1, r2, x2, s2, hq, hq1, v2, _⟩, k⟩ := h
    have hp := hp.sq
    have hq := hq.sq
    have sm1 := v1.sm
    have sm2 := v2.sm
    have bb := BB_big
    refine ⟨_, (pss_cons (ps_if (pt_cmpR op_ne (pe_ix ix_tup (pv 0) pe_int (fun _ _ => rfl)) (pe_ix ix_tup (pv 1) pe_int (fun _ _ => rfl)) (nomark _))
    (pss_one (ps_ret (pe_ifExp (pt_cmpR op_lt (pe_ix ix_tup (pv 0) pe_int (fun _ _ => rfl)) (pe_ix ix_tup (pv 1) pe_int (fun _ _ => rfl)) (nomark _)) (pe_un un_neg pe_int) pe_int)))
    pss_nil)
    (pss_cons (ps_set (i := 2) sc_compare_cuts.nd rfl (Or.inl rfl) (pe_call G_compare (hr.mono (by decide)) rfl T.g_compare T.F_compare.kp T.b_compare .nil pass0 (pa_cons (pe_ix ix_tup (pv 0) pe_int (fun _ _ => rfl)) (pa_cons (pe_ix ix_tup (pv 1) pe_int (fun _ _ => rfl)) pa_nil))))
    (pss_cons (ps_if (PW.pt (pw_or (pt_cmpR op_ne (pv 2) pe_int (nomark _)) (pw_or1 (pt_cmpR op_eq (pe_ix ix_tup (pv 0) pe_int (fun _ _ => rfl)) (pe_ix ix_tup (pv 1) pe_int (fun _ _ => rfl)) (nomark _)))))
    (pss_one (ps_ret (pv 2)))
    pss_nil)
    (pss_one (ps_ret (pe_ifExp (pt_cmpR op_lt (pe_ix ix_tup (pv 0) pe_int (fun _ _ => rfl)) (pe_ix ix_tup (pv 1) pe_int (fun _ _ => rfl)) (nomark _)) (pe_un un_neg pe_int) pe_int)))))), ?_⟩
    walk_at "start"
    walk_at "sts"
    unfold CutV Sm at v1 v2
    refine r_iteN (fun c1 => ?_) (fun c1 => ?_)
    case refine_1 =>
      walk_at "sts"
      refine r_ite (fun c2 => ?_) (fun c2 => ?_)
      · walk_at "sts"
        have : sg c d = -1 := by unfold sg; rw [if_neg (by omega), if_pos (by omega)]
        rw [this] at k; exact k
      · walk_at "sts"
        have : sg c d = 1 := by unfold sg; rw [if_neg (by omega), if_neg (by omega)]
        rw [this] at k; exact k
    walk_at "sts"
    refine ⟨p1, q1, x1, x2, g, rfl, hg, sm1, sm2, hp1.sq, hq1.sq, ?_⟩
    walk_at "sts"
    have e0 : (sg x1 x2 = 0 ↔ x1 = x2) := sg_z
    refine r_iteN (fun c2 => ?_) (fun c2 => ?_)
    case refine_1 =>
      walk_at "sts"
      have hne : ¬ x1 = x2 := fun e => c2 (e0.mpr e)
      have : sg c d = sg x1 x2 := by
        unfold sg
        rw [if_neg (by omega), if_neg hne]
        by_cases h2 : x1 < x2
        · rw [if_pos h2, if_pos (by omega)]
        · rw [if_neg h2, if_neg (by omega)]
      rw [this] at k; exact k
    walk_at "sts"
    have ex : x1 = x2 := e0.mp c2
    refine r_ite (fun c3 => ?_) (fun c3 => ?_)
    · walk_at "sts"
      rw [c2]
      have : sg c d = 0 := sg_z.mpr (by omega)
      rw [this] at k; exact k
    walk_at "sts"
    refine r_ite (fun c4 => ?_) (fun c4 => ?_)
    · walk_at "sts"
      have : sg c d = -1 := by unfold sg; rw [if_neg (by omega), if_pos (by omega)]
      rw [this] at k; exact k
    · walk_at "sts"
      have : sg c d = 1 := by unfold sg; rw [if_neg (by omega), if_neg (by omega)]
      rw [this] at k; exact k
theorem ok_lowC (T : Tx K mg) : FnOk P w K mg base CX0 1 T.f_low_cut T.fd_low_cut ["stretch"] (spLoC K loC) := by
  refine T.F_low_cut.ok sc_low_cut (fun vs H Q E h => ?_) (fun cdv A outer s H vs Q E hr h => ?_)
  · obtain ⟨p, r, g, rfl, _⟩ := h; rfl
  · obtain ⟨p, ⟨lo, li, hi, hin⟩, g, rfl, hg, ⟨x, y, ep, h1, h2⟩, sm, k⟩ := h
    refine ⟨_, (pss_cons (ps_asg (pv 0) (pg_tup (n := 4) rfl (pgs_cons (pg_name (i := 1) sc_low_cut.nd rfl (Or.inl rfl)) (pgs_cons (pg_name (i := 2) sc_low_cut.nd rfl (Or.inl rfl)) (pgs_cons (pg_name (i := 3) sc_low_cut.nd rfl (Or.inl rfl)) (pgs_cons (pg_name (i := 3) sc_low_cut.nd rfl (Or.inl rfl)) pgs_nil))))))
    (pss_cons (ps_if (pt_cmpR op_isNc (pv 1) pe_non (nomark _))
    (pss_one (ps_ret (pe_glob (v := .ref T.a_BOTTOM) rfl T.c_BOTTOM rfl)))
    pss_nil)
    (pss_one (ps_ret (pe_tup (pa_cons pe_int (pa_cons (pv 1) (pa_cons (pe_ifExp (pt_val (pv 2)) pe_int pe_int) pa_nil)))))))), ?_⟩
    walk_at "start"
    walk_at "sts"
    refine r_gTup4 (sqT_of ep) ?_
    simp only [List.set_cons_zero, List.set_cons_succ]
    cases lo with
    | none =>
      obtain rfl : x = .non := h1
      walk_at "sts"
      refine k _ _ (Keep.refl _ _) ⟨T.b_BOTTOM_1, -1, 0, 0, .inr T.t_BOTTOM, .inr ?_, .inl ⟨rfl, rfl, rfl, rfl⟩, fun h => absurd h (by decide)⟩
      unfold loP
      rw [(lowT_z hg.pos).1, (lowT_z hg.pos).2]
      exact T.u_BOTTOM_1
    | some t =>
      obtain ⟨pp, rfl, hpp⟩ := h1
      have st := sm.1 t rfl
      walk_at "sts"
      have fin : ∀ b : Bool, b = li → ∀ (s : Int), s = (if b = true then 0 else 1) → ∀ u, H u = none → Q (.ref u) (upd H u (.tup [.int 0, .ref pp, .int s])) := by
        intro b hb s hs u nu
        have k1 : Keep [] H (upd H u (.tup [.int 0, .ref pp, .int s])) := Keep.new nu
        refine k u _ k1 ⟨pp, 0, t, s, .inl upd_same, .inl (k1 _ _ (by simp) hpp), .inr (.inr ⟨rfl, ?_, st, ?_⟩), fun _ => k1 _ _ (by simp) hpp⟩
        · rw [hs]; cases b <;> simp
        · show loC (some t, li, hi, hin) = _
          unfold loC
          rw [hs, ← hb]
      cases li with
      | false => walk_at "sts"; exact fin false rfl 1 rfl
      | true => walk_at "sts"; exact fin true rfl 0 rfl
theorem ok_highC (T : Tx K mg) : FnOk P w K mg base CX0 1 T.f_high_cut T.fd_high_cut ["stretch"] (spLoC K hiC) := by
  refine T.F_high_cut.ok sc_high_cut (fun vs H Q E h => ?_) (fun cdv A outer s H vs Q E hr h => ?_)
  · obtain ⟨p, r, g, rfl, _⟩ := h; rfl
  · obtain ⟨p, ⟨lo, li, hi, hin⟩, g, rfl, hg, ⟨x, y, ep, h1, h2⟩, sm, k⟩ := h
    refine ⟨_, (pss_cons (ps_asg (pv 0) (pg_tup (n := 4) rfl (pgs_cons (pg_name (i := 1) sc_high_cut.nd rfl (Or.inl rfl)) (pgs_cons (pg_name (i := 1) sc_high_cut.nd rfl (Or.inl rfl)) (pgs_cons (pg_name (i := 2) sc_high_cut.nd rfl (Or.inl rfl)) (pgs_cons (pg_name (i := 3) sc_high_cut.nd rfl (Or.inl rfl)) pgs_nil))))))
    (pss_cons (ps_if (pt_cmpR op_isNc (pv 2) pe_non (nomark _))
    (pss_one (ps_ret (pe_glob (v := .ref T.a_TOP) rfl T.c_TOP rfl)))
    pss_nil)
    (pss_one (ps_ret (pe_tup (pa_cons pe_int (pa_cons (pv 2) (pa_cons (pe_ifExp (pt_val (pv 3)) pe_int pe_int) pa_nil)))))))), ?_⟩
    walk_at "start"
    walk_at "sts"
    refine r_gTup4 (sqT_of ep) ?_
    simp only [List.set_cons_zero, List.set_cons_succ]
    cases hi with
    | none =>
      obtain rfl : y = .non := h2
      walk_at "sts"
      refine k _ _ (Keep.refl _ _) ⟨T.b_TOP_1, 1, 0, 0, .inr T.t_TOP, .inr ?_, .inr (.inl ⟨rfl, rfl, rfl, rfl⟩), fun h => absurd h (by decide)⟩
      unfold loP
      rw [(lowT_z hg.pos).1, (lowT_z hg.pos).2]
      exact T.u_TOP_1
    | some t =>
      obtain ⟨pp, rfl, hpp⟩ := h2
      have st := sm.2 t rfl
      walk_at "sts"
      have fin : ∀ b : Bool, b = hin → ∀ (s : Int), s = (if b = true then 1 else 0) → ∀ u, H u = none → Q (.ref u) (upd H u (.tup [.int 0, .ref pp, .int s])) := by
        intro b hb s hs u nu
        have k1 : Keep [] H (upd H u (.tup [.int 0, .ref pp, .int s])) := Keep.new nu
        refine k u _ k1 ⟨pp, 0, t, s, .inl upd_same, .inl (k1 _ _ (by simp) hpp), .inr (.inr ⟨rfl, ?_, st, ?_⟩), fun _ => k1 _ _ (by simp) hpp⟩
        · rw [hs]; cases b <;> simp
        · show hiC (lo, li, some t, hin) = _
          unfold hiC
          rw [hs, ← hb]
      cases hin with
      | false => walk_at "sts"; exact fin false rfl 0 rfl
      | true => walk_at "sts"; exact fin true rfl 1 rfl
theorem ok_bet (T : Tx K mg) : FnOk P w K mg base CX0 1 T.f_stretch_between T.fd_stretch_between ["first", "second"] (spBet K) := by
  refine T.F_stretch_between.ok sc_stretch_between (fun vs H Q E h => ?_) (fun cdv A outer s H vs Q E hr h => ?_)
  · obtain ⟨p, q, t, u, g, rfl, _⟩ := h; rfl
  · obtain ⟨p, q, c, d, g, rfl, hg, ⟨p1, r1, x1, s1, hp, hp1, v1, w1⟩, ⟨q1, r2, x2, s2, hq, hq1, v2, w2⟩, k⟩ := h
    have hp := hp.sq
    have hq := hq.sq
    have bb := BB_big
    unfold CutV Sm at v1 v2
    have a1 : (r1 = 0 ∧ Sc c ∧ c / 2 = x1 ∧ c % 2 = s1) ∨ (r1 ≠ 0 ∧ ¬ Sc c) := by
      rcases v1 with v | v | v
      · exact .inr ⟨by omega, by omega⟩
      · exact .inr ⟨by omega, by omega⟩
      · exact .inl ⟨by omega, by omega, by omega, by omega⟩
    have a2 : (r2 = 0 ∧ Sc d ∧ d / 2 = x2 ∧ d % 2 = s2) ∨ (r2 ≠ 0 ∧ ¬ Sc d) := by
      rcases v2 with v | v | v
      · exact .inr ⟨by omega, by omega⟩
      · exact .inr ⟨by omega, by omega⟩
      · exact .inl ⟨by omega, by omega, by omega, by omega⟩
    have fin : ∀ (x y : V) (b1 b2 : Bool), EndAt g H x (rwOf (c, d)).1 → EndAt g H y (rwOf (c, d)).2.2.1 → b1 = (rwOf (c, d)).2.1 → b2 = (rwOf (c, d)).2.2.2 → ∀ u, H u = none → Q (.ref u) (upd H u (.tup [x, .bl b1, y, .bl b2])) := by
      intro x y b1 b2 hx hy e1 e2 u nu
      have k1 : Keep [] H (upd H u (.tup [x, .bl b1, y, .bl b2])) := Keep.new nu
      refine k u _ k1 ⟨x, y, ?_, hx.k k1.t0, hy.k k1.t0⟩
      rw [upd_same, e1, e2]
    have f1 : (rwOf (c, d)).1 = if Sc c then some (c / 2) else none := rfl
    have f2 : (rwOf (c, d)).2.2.1 = if Sc d then some (d / 2) else none := rfl
    have f3 : (rwOf (c, d)).2.1 = (decide (Sc c) && decide (c % 2 = 0)) := rfl
    have f4 : (rwOf (c, d)).2.2.2 = (decide (Sc d) && decide (d % 2 = 1)) := rfl
    rw [f1, f2, f3, f4] at fin
    clear f1 f2 f3 f4 v1 v2 k
    refine ⟨_, (pss_cons (ps_set (i := 2) sc_stretch_between.nd rfl (Or.inl rfl) (pe_ifExp (pt_cmpR op_ne (pe_ix ix_tup (pv 0) pe_int (fun _ _ => rfl)) pe_int (nomark _)) pe_non (pe_ix ix_tup (pv 0) pe_int (fun _ _ => rfl))))
    (pss_cons (ps_set (i := 3) sc_stretch_between.nd rfl (Or.inl rfl) (pe_ifExp (pt_cmpR op_ne (pe_ix ix_tup (pv 1) pe_int (fun _ _ => rfl)) pe_int (nomark _)) pe_non (pe_ix ix_tup (pv 1) pe_int (fun _ _ => rfl))))
    (pss_one (ps_ret (pe_tup (pa_cons (pv 2) (pa_cons (pe_and (pe_cmpR op_notNc (pv 2) pe_non (nomark _)) (pe_one (pe_cmpR op_eq (pe_ix ix_tup (pv 0) pe_int (fun _ _ => rfl)) pe_int (nomark _)))) (pa_cons (pv 3) (pa_cons (pe_and (pe_cmpR op_notNc (pv 3) pe_non (nomark _)) (pe_one (pe_cmpR op_eq (pe_ix ix_tup (pv 1) pe_int (fun _ _ => rfl)) pe_int (nomark _)))) pa_nil))))))))), ?_⟩
    walk_at "start"
    walk_at "sts"
    rcases a1 with ⟨rfl, sc1, e1, e1'⟩ | ⟨n1, sc1⟩ <;> rcases a2 with ⟨rfl, sc2, e2, e2'⟩ | ⟨n2, sc2⟩
    · rw [if_pos sc1, if_pos sc2, decide_eq_true sc1, decide_eq_true sc2, e1, e1', e2, e2'] at fin
      walk_at "sts"
      exact fin _ _ _ _ ⟨p1, rfl, w1 rfl⟩ ⟨q1, rfl, w2 rfl⟩ (by simp) (by simp)
    · rw [if_pos sc1, if_neg sc2, decide_eq_true sc1, decide_eq_false sc2, e1, e1'] at fin
      walk_at "sts"
      exact fin _ _ _ _ ⟨p1, rfl, w1 rfl⟩ rfl (by simp) (by simp)
    · rw [if_neg sc1, if_pos sc2, decide_eq_false sc1, decide_eq_true sc2, e2, e2'] at fin
      walk_at "sts"
      exact fin _ _ _ _ rfl ⟨q1, rfl, w2 rfl⟩ (by simp) (by simp)
    · rw [if_neg sc1, if_neg sc2, decide_eq_false sc1, decide_eq_false sc2] at fin
      walk_at "sts"
      exact fin _ _ _ _ rfl rfl (by simp) (by simp)
end
section
variable {w : World} {K : PySem.W.Frag} {mg : Str → Option Value} {base : Heap}
theorem ok_chk (T : Tx K mg) (G_compare_cuts : FnOk PG w K mg base CX0 2 T.f_compare_cuts T.fd_compare_cuts ["first", "second"] (spCC K)) (G_low_cut : FnOk PG w K mg base CX0 1 T.f_low_cut T.fd_low_cut ["stretch"] (spLoC K loC)) (G_high_cut : FnOk PG w K mg base CX0 1 T.f_high_cut T.fd_high_cut ["stretch"] (spLoC K hiC)) : FnOk PG w K mg base (L2.CX PG w) 3 T.f_check_stretch T.fd_check_stretch ["stretch"] (spChk T.C_BadStretch) := by
  refine T.F_check_stretch.okX sc_check_stretch (fun vs H Q E h => ?_) (fun cdv A outer s H vs Q E hr h => ?_)
  · obtain ⟨p, r, g, rfl, _⟩ := h; rfl
  · obtain ⟨p, r, g, rfl, hg, hr0, sm, q1, q2⟩ := h
    obtain ⟨x, y, ep, h1, h2⟩ := id hr0
    have tk0 : Takes (cxOf (L2.CX PG w) PG w K mg base ["stretch", "low", "low_in", "high", "high_in"] "check_stretch" (defScope s_check_stretch) T.f_check_stretch cdv A outer s H E) (fun cls d _ H => E cls d H) := takes_of rfl rfl rfl rfl
    refine ⟨_, (pss_cons (ps_asg (pv 0) (pg_tup (n := 4) rfl (pgs_cons (pg_name (i := 1) sc_check_stretch.nd rfl (Or.inl rfl)) (pgs_cons (pg_name (i := 2) sc_check_stretch.nd rfl (Or.inl rfl)) (pgs_cons (pg_name (i := 3) sc_check_stretch.nd rfl (Or.inl rfl)) (pgs_cons (pg_name (i := 4) sc_check_stretch.nd rfl (Or.inl rfl)) pgs_nil))))))
    (pss_cons (ps_if (PW.pt (pw_or (PW.pt (pw_and (pt_cmpR op_isNc (pv 1) pe_non (nomark _)) (pw_and1 (pt_val (pv 2))))) (pw_or1 (PW.pt (pw_and (pt_cmpR op_isNc (pv 3) pe_non (nomark _)) (pw_and1 (pt_val (pv 4))))))))
    (pss_one (Er.ps_raiseC rfl (T.Z_BadStretch w) hr tk0 (pa_cons (pv 0) pa_nil)))
    pss_nil)
    (pss_one (ps_if (pt_cmpR op_ge (pe_call G_compare_cuts (hr.mono (by decide)) rfl T.g_compare_cuts T.F_compare_cuts.kp T.b_compare_cuts .nil pass0 (pa_cons (pe_call G_low_cut (hr.mono (by decide)) rfl T.g_low_cut T.F_low_cut.kp T.b_low_cut .nil pass0 (pa_cons (pv 0) pa_nil)) (pa_cons (pe_call G_high_cut (hr.mono (by decide)) rfl T.g_high_cut T.F_high_cut.kp T.b_high_cut .nil pass0 (pa_cons (pv 0) pa_nil)) pa_nil))) pe_int (nomark _))
    (pss_one (Er.ps_raiseC rfl (T.Z_BadStretch w) hr tk0 (pa_cons (pv 0) pa_nil)))
    pss_nil)))), ?_⟩
    walk_at "start"
    walk_at "sts"
    refine r_gTup4 (sqT_of ep) ?_
    simp only [List.set_cons_zero, List.set_cons_succ]
    obtain ⟨lo, li, hi, hin⟩ := r
    have hx : (x = .non ∧ lo = none) ∨ (∃ pp, x = .ref pp ∧ ∃ t, lo = some t) := by
      cases lo with
      | none => exact .inl ⟨h1, rfl⟩
      | some t => obtain ⟨pp, e, _⟩ := h1; exact .inr ⟨pp, e, t, rfl⟩
    have hy : (y = .non ∧ hi = none) ∨ (∃ pp, y = .ref pp ∧ ∃ t, hi = some t) := by
      cases hi with
      | none => exact .inl ⟨h2, rfl⟩
      | some t => obtain ⟨pp, e, _⟩ := h2; exact .inr ⟨pp, e, t, rfl⟩
    clear h1 h2
    have bad : Bad0 (lo, li, hi, hin) → ∀ e, H e = none → E (.ref T.C_BadStretch) (some e) (upd H e (.xd [("stretch", .ref p)])) := fun b e he => q2 (fun g => g.no b) H e (Keep.refl _ _) he
    rcases hx with ⟨rfl, rfl⟩ | ⟨pp, rfl, t, rfl⟩ <;> rcases hy with ⟨rfl, rfl⟩ | ⟨pp', rfl, t', rfl⟩ <;> cases li <;> cases hin
    all_goals first
      | (walk_at "sts"
         refine Er.r_raiseC ?_
         walk_at "sts"
         first | exact ⟨_, rfl, fun e he => bad (.inl ⟨rfl, rfl⟩) e he⟩ | exact ⟨_, rfl, fun e he => bad (.inr ⟨rfl, rfl⟩) e he⟩)
      | (walk_at "sts"
         refine ⟨p, _, g, rfl, hg, hr0, sm, fun q1' H1 k1 c1 => ?_⟩
         walk_at "sts"
         refine ⟨p, _, g, rfl, hg, hr0.k k1.t0, sm, fun q2' H2 k2 c2 => ?_⟩
         walk_at "sts"
         refine ⟨q1', q2', _, _, g, rfl, hg, c1.k k2.t0, c2, ?_⟩
         walk_at "sts"
         refine r_ite (fun c3 => ?_) (fun c3 => ?_)
         · walk_at "sts"
           refine Er.r_raiseC ?_
           walk_at "sts"
           exact ⟨_, rfl, fun e he => q2 (fun gd => absurd gd.lt (by have := sg_ge.mp c3; omega)) H2 e (k1.trans k2) he⟩
         · walk_at "sts"
           exact q1 ⟨by unfold Bad0; simp, by have : ¬ _ := fun z => c3 (sg_ge.mpr z); omega⟩ H2 (k1.trans k2))
end
open PySem PySem.Spec PyProof.Rows L2 StX Pc
/-! ### steps in order -/
abbrev Zt := Addr × Int × Int
def StpAt (K : PySem.W.Frag) (g : Int) (H : Hp) (a : Addr) (x : Int × Int) : Prop := ∃ b, H a = some (.tup [.ref b, .int x.2]) ∧ CutAt K g H b x.1
theorem StpAt.k {K : PySem.W.Frag} {g : Int} {H H' : Hp} {a : Addr} {x : Int × Int} (h : StpAt K g H a x) (k : KeepT H H') : StpAt K g H' a x := by
  obtain ⟨b, e, c⟩ := h; exact ⟨b, k _ _ e, c.k k⟩
def zv (z : Zt) : V := .ref z.1
def StepsIn (K : PySem.W.Frag) (g : Int) (H : Hp) (zs : List Zt) : Prop := ∀ z ∈ zs, StpAt K g H z.1 z.2
theorem StepsIn.k {K : PySem.W.Frag} {g : Int} {H H' : Hp} {zs : List Zt} (h : StepsIn K g H zs) (k : KeepT H H') : StepsIn K g H' zs := fun z m => (h z m).k k
abbrev zk (z : Zt) : Int := z.2.1
def SoZ (zs : List Zt) : Prop := zs.Pairwise fun x y => zk x ≤ zk y
theorem cutV_from {xs : List V} {n : Nat} (h : n ≤ xs.length) : cutV xs (some ((n : Nat) : Int)) none = xs.drop n := by
  unfold cutV
  rw [HT.sIx_nat, HT.sIx_none, Nat.min_eq_left h]
  exact List.take_of_length_le (by simp)
theorem cutV_to {xs : List V} {n : Nat} (h : n ≤ xs.length) : cutV xs none (some ((n : Nat) : Int)) = xs.take n := by
  unfold cutV
  rw [HT.sIx_nat, HT.sIx_none, Nat.min_eq_left h, List.drop_zero, Nat.sub_zero]
def spMrg (K : PySem.W.Frag) : Sp := fun vs H Q _ => ∃ (p q : Addr) (l r : List Zt) (g : Int), vs = [.ref p, .ref q] ∧ GOk g ∧ H p = some (.lst (l.map zv)) ∧ H q = some (.lst (r.map zv)) ∧ StepsIn K g H l ∧ StepsIn K g H r ∧ SoZ l ∧ SoZ r ∧ l.length + r.length ≤ 64 ∧ ∀ o us H', Keep [] H H' → H' o = some (.lst (us.map zv)) → us.Perm (l ++ r) → SoZ us → Q (.ref o) H'
def spAsc (K : PySem.W.Frag) (n : Nat) : Sp := fun vs H Q _ => ∃ (p : Addr) (l : List Zt) (g : Int), vs = [.ref p] ∧ GOk g ∧ H p = some (.lst (l.map zv)) ∧ StepsIn K g H l ∧ l.length ≤ n ∧ ∀ o us H', Keep [] H H' → H' o = some (.lst (us.map zv)) → us.Perm l → SoZ us → Q (.ref o) H'
section
variable {P : Program} {w : World} {K : PySem.W.Frag} {mg : Str → Option Value} {base : Heap}
theorem ok_mrg (T : Tx K mg) (G_compare_cuts : FnOk P w K mg base CX0 2 T.f_compare_cuts T.fd_compare_cuts ["first", "second"] (spCC K)) : FnOk P w K mg base CX0 3 T.f_merged T.fd_merged ["left", "right"] (spMrg K) := by
  refine T.F_merged.ok sc_merged (fun vs H Q E h => ?_) (fun cdv A outer s H vs Q E hr h => ?_)
  · obtain ⟨p, q, l, r, g, rfl, _⟩ := h; rfl
  · obtain ⟨p, q, l, r, g, rfl, hg, hp, hq, hl, hr', sl, sr, lz, k⟩ := h
    refine ⟨_, (pss_cons (ps_set (i := 2) sc_merged.nd rfl (Or.inl rfl) (pe_lst pa_nil))
    (pss_cons (ps_set (i := 3) sc_merged.nd rfl (Or.inl rfl) pe_int)
    (pss_cons (ps_set (i := 4) sc_merged.nd rfl (Or.inl rfl) pe_int)
    (pss_cons (ps_while PassesOwn.never (PW.pt (pw_and (pt_cmpR op_lt (pv 3) (pe_callB call_len_seq (by rfl) T.m_len PySem.boot_len (pa_cons (pv 0) pa_nil)) (nomark _)) (pw_and1 (pt_cmpR op_lt (pv 4) (pe_callB call_len_seq (by rfl) T.m_len PySem.boot_len (pa_cons (pv 1) pa_nil)) (nomark _)))))
    (pss_one (ps_if (pt_cmpR op_le (pe_call G_compare_cuts (hr.mono (by decide)) rfl T.g_compare_cuts T.F_compare_cuts.kp T.b_compare_cuts .nil pass0 (pa_cons (pe_ix ix_tup (pe_ix ix_list (pv 0) (pv 3) (fun _ _ => rfl)) pe_int (fun _ _ => rfl)) (pa_cons (pe_ix ix_tup (pe_ix ix_list (pv 1) (pv 4) (fun _ _ => rfl)) pe_int (fun _ _ => rfl)) pa_nil))) pe_int (nomark _))
    (pss_cons (ps_expr (pe_bm PySem.F.plainAttrs_list PySem.F.slot_list_append PySem.F.type_list_append mt_append (pv 2) (pa_cons (pe_ix ix_list (pv 0) (pv 3) (fun _ _ => rfl)) pa_nil)))
    (pss_one (ps_aug (i := 3) sc_merged.nd rfl (Or.inl rfl) pe_int ip_add)))
    (pss_cons (ps_expr (pe_bm PySem.F.plainAttrs_list PySem.F.slot_list_append PySem.F.type_list_append mt_append (pv 2) (pa_cons (pe_ix ix_list (pv 1) (pv 4) (fun _ _ => rfl)) pa_nil)))
    (pss_one (ps_aug (i := 4) sc_merged.nd rfl (Or.inl rfl) pe_int ip_add))))))
    (pss_one (ps_ret (pe_op op_cat (pe_op op_cat (pv 2) (pe_slice sl_list (pv 0) (po_some (pv 3)) po_none)) (pe_slice sl_list (pv 1) (po_some (pv 4)) po_none)))))))), ?_⟩
    walk_at "start"
    walk_at "sts"
    intro D nD
    have k0 : Keep [] H (upd H D (.lst [])) := Keep.new nD
    have eD : upd H D (.lst []) D = some (.lst []) := upd_same
    generalize upd H D (.lst []) = H1 at k0 eD ⊢
    walk_at "sts"
    refine r_while (fun m σ' H' => ∃ (a b : Nat) (F : List Zt), σ' = [some (.ref p), some (.ref q), some (.ref D), some (.int a), some (.int b)] ∧ Keep [] H H' ∧ H' D = some (.lst (F.map zv)) ∧ MI zk l r a b F ∧ a ≤ l.length ∧ b ≤ r.length ∧ m = (l.length - a) + (r.length - b)) (m0 := l.length + r.length) ⟨0, 0, [], by first | exact rfl | trivial, k0, eD, MI.zero, Nat.zero_le _, Nat.zero_le _, by omega⟩ ?_
    rintro m σ' H' ⟨a, b, F, rfl, k1, eD', I, ha, hb, rfl⟩
    have hp1 := k1 _ _ (by simp) hp
    have hq1 := k1 _ _ (by simp) hq
    have lF := I.pm.length_eq
    rw [List.length_append, List.length_take, List.length_take] at lF
    have nDp : D ≠ p := ne_free hp nD
    have nDq : D ≠ q := ne_free hq nD
    have ll : (l.map zv).length = l.length := List.length_map _
    have lr : (r.map zv).length = r.length := List.length_map _
    by_cases c : a < l.length ∧ b < r.length
    · obtain ⟨x, hx⟩ : ∃ x, l[a]? = some x := ⟨_, List.getElem?_eq_getElem c.1⟩
      obtain ⟨y, hy⟩ : ∃ y, r[b]? = some y := ⟨_, List.getElem?_eq_getElem c.2⟩
      obtain ⟨bx, ex, cx⟩ := (hl x (List.mem_of_getElem? hx)).k k1.t0
      obtain ⟨by_, ey, cy⟩ := (hr' y (List.mem_of_getElem? hy)).k k1.t0
      have vx : atI (l.map zv) (a : Int) = some (V.ref x.1) := atI_nat (by rw [List.getElem?_map, hx]; rfl)
      have vy : atI (r.map zv) (b : Int) = some (V.ref y.1) := atI_nat (by rw [List.getElem?_map, hy]; rfl)
      walk_at "sts"
      try refine r_iteT (by rw [ll]; omega) ?_
      walk_at "sts"
      try refine r_iteT (by rw [lr]; omega) ?_
      refine r_turn ?_
      walk_at "sts"
      refine ⟨bx, by_, _, _, g, rfl, hg, cx, cy, ?_⟩
      walk_at "sts"
      have fl : F.length < 100000 := by omega
      refine r_ite (fun c3 => ?_) (fun c3 => ?_)
      · walk_at "sts"
        refine ⟨_, rfl, _, _, rfl, rfl, ?_⟩
        walk_at "sts"
        refine ⟨_, ?_, a + 1, b, F ++ [x], by first | exact rfl | trivial, k1.mut nD, ?_, I.left sl sr hx hy (sg_le.mp c3), by omega, hb, rfl⟩
        · omega
        · rw [upd_same, List.map_append]; rfl
      · walk_at "sts"
        refine ⟨_, rfl, _, _, rfl, rfl, ?_⟩
        walk_at "sts"
        refine ⟨_, ?_, a, b + 1, F ++ [y], by first | exact rfl | trivial, k1.mut nD, ?_, I.right sl sr hx hy (by have : ¬ _ := fun z => c3 (sg_le.mpr z); show zk y ≤ zk x; unfold zk; omega), ha, by omega, rfl⟩
        · omega
        · rw [upd_same, List.map_append]; rfl
    · have hd : l.length ≤ a ∨ r.length ≤ b := by omega
      obtain ⟨pm, so⟩ := I.fin sl sr hd
      have zz : F.length + (l.length + r.length) ≤ 200 := by omega
      by_cases c1 : a < l.length
      · walk_at "sts"
        try refine r_iteT (by rw [ll]; omega) ?_
        walk_at "sts"
        try refine r_iteF (by rw [lr]; omega) ?_
        walk_at "sts"
        refine r_slL (sqL_of hp1) fun u nu => ?_
        rw [cutV_from (by rw [ll]; exact ha), ← List.map_drop]
        have k2 : Keep [] H' (upd H' u (.lst ((l.drop a).map zv))) := Keep.new nu
        have e2 : upd H' u (.lst ((l.drop a).map zv)) u = some (.lst ((l.drop a).map zv)) := upd_same
        generalize upd H' u (.lst ((l.drop a).map zv)) = H2 at k2 e2 ⊢
        refine r_cat (k2 _ _ (by simp) eD') e2 (le_size (by simp only [List.length_map, List.length_drop]; omega)) fun v nv => ?_
        rw [← List.map_append]
        have k3 := Keep.new (M := []) (o := HO.lst ((F ++ l.drop a).map zv)) nv
        have e3 : upd H2 v (.lst ((F ++ l.drop a).map zv)) v = some (.lst ((F ++ l.drop a).map zv)) := upd_same
        generalize upd H2 v (.lst ((F ++ l.drop a).map zv)) = H3 at k3 e3 ⊢
        walk_at "sts"
        refine r_slL (sqL_of (k3 _ _ (by simp) (k2 _ _ (by simp) hq1))) fun u' nu' => ?_
        rw [cutV_from (by rw [lr]; exact hb), ← List.map_drop]
        have k4 : Keep [] H3 (upd H3 u' (.lst ((r.drop b).map zv))) := Keep.new nu'
        have e4 : upd H3 u' (.lst ((r.drop b).map zv)) u' = some (.lst ((r.drop b).map zv)) := upd_same
        generalize upd H3 u' (.lst ((r.drop b).map zv)) = H4 at k4 e4 ⊢
        refine r_cat (k4 _ _ (by simp) e3) e4 (le_size (by simp only [List.length_map, List.length_drop, List.length_append]; omega)) fun v' nv' => ?_
        rw [← List.map_append]
        exact k v' _ _ ((((k1.trans k2).trans k3).trans k4).trans (Keep.new nv')) upd_same pm so
      · walk_at "sts"
        try refine r_iteF (by rw [ll]; omega) ?_
        walk_at "sts"
        refine r_slL (sqL_of hp1) fun u nu => ?_
        rw [cutV_from (by rw [ll]; exact ha), ← List.map_drop]
        have k2 : Keep [] H' (upd H' u (.lst ((l.drop a).map zv))) := Keep.new nu
        have e2 : upd H' u (.lst ((l.drop a).map zv)) u = some (.lst ((l.drop a).map zv)) := upd_same
        generalize upd H' u (.lst ((l.drop a).map zv)) = H2 at k2 e2 ⊢
        refine r_cat (k2 _ _ (by simp) eD') e2 (le_size (by simp only [List.length_map, List.length_drop]; omega)) fun v nv => ?_
        rw [← List.map_append]
        have k3 := Keep.new (M := []) (o := HO.lst ((F ++ l.drop a).map zv)) nv
        have e3 : upd H2 v (.lst ((F ++ l.drop a).map zv)) v = some (.lst ((F ++ l.drop a).map zv)) := upd_same
        generalize upd H2 v (.lst ((F ++ l.drop a).map zv)) = H3 at k3 e3 ⊢
        walk_at "sts"
        refine r_slL (sqL_of (k3 _ _ (by simp) (k2 _ _ (by simp) hq1))) fun u' nu' => ?_
        rw [cutV_from (by rw [lr]; exact hb), ← List.map_drop]
        have k4 : Keep [] H3 (upd H3 u' (.lst ((r.drop b).map zv))) := Keep.new nu'
        have e4 : upd H3 u' (.lst ((r.drop b).map zv)) u' = some (.lst ((r.drop b).map zv)) := upd_same
        generalize upd H3 u' (.lst ((r.drop b).map zv)) = H4 at k4 e4 ⊢
        refine r_cat (k4 _ _ (by simp) e3) e4 (le_size (by simp only [List.length_map, List.length_drop, List.length_append]; omega)) fun v' nv' => ?_
        rw [← List.map_append]
        exact k v' _ _ ((((k1.trans k2).trans k3).trans k4).trans (Keep.new nv')) upd_same pm so
theorem ok_asc (T : Tx K mg) {kk n : Nat} (hk : 3 ≤ kk) (hn : n ≤ 32) (G_merged : FnOk P w K mg base CX0 3 T.f_merged T.fd_merged ["left", "right"] (spMrg K)) (G_ascending : FnOk P w K mg base CX0 kk T.f_ascending T.fd_ascending ["steps"] (spAsc K n)) : FnOk P w K mg base CX0 (kk + 1) T.f_ascending T.fd_ascending ["steps"] (spAsc K (2 * n)) := by
  refine T.F_ascending.ok sc_ascending (fun vs H Q E h => ?_) (fun cdv A outer s H vs Q E hr h => ?_)
  · obtain ⟨p, l, g, rfl, _⟩ := h; rfl
  · obtain ⟨p, l, g, rfl, hg, hp, hl, ln, k⟩ := h
    have ll : (l.map zv).length = l.length := List.length_map _
    refine ⟨_, (pss_cons (ps_if (pt_cmpR op_lt (pe_callB call_len_seq (by rfl) T.m_len PySem.boot_len (pa_cons (pv 0) pa_nil)) pe_int (nomark _))
    (pss_one (ps_ret (pv 0)))
    pss_nil)
    (pss_cons (ps_set (i := 1) sc_ascending.nd rfl (Or.inl rfl) (pe_op op_fdiv (pe_callB call_len_seq (by rfl) T.m_len PySem.boot_len (pa_cons (pv 0) pa_nil)) pe_int))
    (pss_one (ps_ret (pe_call G_merged (hr.mono (by omega)) rfl T.g_merged T.F_merged.kp T.b_merged .nil pass0 (pa_cons (pe_call G_ascending (hr.mono (by omega)) rfl T.g_ascending T.F_ascending.kp T.b_ascending .nil pass0 (pa_cons (pe_slice sl_list (pv 0) po_none (po_some (pv 1))) pa_nil)) (pa_cons (pe_call G_ascending (hr.mono (by omega)) rfl T.g_ascending T.F_ascending.kp T.b_ascending .nil pass0 (pa_cons (pe_slice sl_list (pv 0) (po_some (pv 1)) po_none) pa_nil)) pa_nil))))))), ?_⟩
    walk_at "start"
    walk_at "sts"
    refine r_ite (fun c => ?_) (fun c => ?_)
    · walk_at "sts"
      rw [ll] at c
      refine k p l H (Keep.refl _ _) hp (List.Perm.refl _) ?_
      match l, c with
      | [], _ => exact .nil
      | [x], _ => exact List.pairwise_singleton ..
      | _ :: _ :: _, c => simp only [List.length_cons] at c; omega
    rw [ll] at c
    walk_at "sts"
    have em : ((l.map zv).length : Int) / 2 = ((l.length / 2 : Nat) : Int) := by rw [ll]; omega
    rw [em]
    refine r_slL (sqL_of hp) fun u nu => ?_
    rw [cutV_to (by rw [ll]; omega), ← List.map_take]
    have k1 : Keep [] H (upd H u (.lst ((l.take (l.length / 2)).map zv))) := Keep.new nu
    have e1 : upd H u (.lst ((l.take (l.length / 2)).map zv)) u = some (.lst ((l.take (l.length / 2)).map zv)) := upd_same
    generalize upd H u (.lst ((l.take (l.length / 2)).map zv)) = H1 at k1 e1 ⊢
    walk_at "sts"
    refine ⟨u, _, g, rfl, hg, e1, fun z m => (hl z (List.mem_of_mem_take m)).k k1.t0, by rw [List.length_take]; omega, fun o1 us1 H2 k2 eo1 pm1 so1 => ?_⟩
    walk_at "sts"
    refine r_slL (sqL_of (k2 _ _ (by simp) (k1 _ _ (by simp) hp))) fun u' nu' => ?_
    rw [cutV_from (by rw [ll]; omega), ← List.map_drop]
    have k3 : Keep [] H2 (upd H2 u' (.lst ((l.drop (l.length / 2)).map zv))) := Keep.new nu'
    have e3 : upd H2 u' (.lst ((l.drop (l.length / 2)).map zv)) u' = some (.lst ((l.drop (l.length / 2)).map zv)) := upd_same
    generalize upd H2 u' (.lst ((l.drop (l.length / 2)).map zv)) = H3 at k3 e3 ⊢
    have k13 := (k1.trans k2).trans k3
    walk_at "sts"
    refine ⟨u', _, g, rfl, hg, e3, fun z m => (hl z (List.mem_of_mem_drop m)).k k13.t0, by rw [List.length_drop]; omega, fun o2 us2 H4 k4 eo2 pm2 so2 => ?_⟩
    walk_at "sts"
    have k14 := k13.trans k4
    have pp : (us1 ++ us2).Perm l := by
      have := pm1.append pm2
      rwa [List.take_append_drop] at this
    have lz := pp.length_eq
    rw [List.length_append] at lz
    refine ⟨o1, o2, us1, us2, g, rfl, hg, k4 _ _ (by simp) (k3 _ _ (by simp) eo1), eo2, fun z m => (hl z (pp.mem_iff.mp (List.mem_append.mpr (.inl m)))).k k14.t0, fun z m => (hl z (pp.mem_iff.mp (List.mem_append.mpr (.inr m)))).k k14.t0, so1, so2, by omega, fun o us H5 k5 eo pm so => ?_⟩
    exact k o us H5 (k14.trans k5) eo (pm.trans pp) so
theorem ok_no {f : Addr} {fd : FuncData} {ps : List Str} {k : Nat} : FnOk P w K mg base CX0 k f fd ps (fun _ _ _ _ => False) := ⟨fun _ _ _ _ h => h.elim, fun _ _ _ _ _ _ _ _ _ _ _ _ _ h => h.elim⟩
theorem ok_asc1 (T : Tx K mg) (G_merged : FnOk P w K mg base CX0 3 T.f_merged T.fd_merged ["left", "right"] (spMrg K)) : FnOk P w K mg base CX0 4 T.f_ascending T.fd_ascending ["steps"] (spAsc K 1) := by
  have G_ascending : FnOk P w K mg base CX0 3 T.f_ascending T.fd_ascending ["steps"] (fun _ _ _ _ => False) := ok_no
  refine T.F_ascending.ok sc_ascending (fun vs H Q E h => ?_) (fun cdv A outer s H vs Q E hr h => ?_)
  · obtain ⟨p, l, g, rfl, _⟩ := h; rfl
  · obtain ⟨p, l, g, rfl, hg, hp, hl, ln, k⟩ := h
    have ll : (l.map zv).length = l.length := List.length_map _
    refine ⟨_, (pss_cons (ps_if (pt_cmpR op_lt (pe_callB call_len_seq (by rfl) T.m_len PySem.boot_len (pa_cons (pv 0) pa_nil)) pe_int (nomark _))
    (pss_one (ps_ret (pv 0)))
    pss_nil)
    (pss_cons (ps_set (i := 1) sc_ascending.nd rfl (Or.inl rfl) (pe_op op_fdiv (pe_callB call_len_seq (by rfl) T.m_len PySem.boot_len (pa_cons (pv 0) pa_nil)) pe_int))
    (pss_one (ps_ret (pe_call G_merged (hr.mono (by omega)) rfl T.g_merged T.F_merged.kp T.b_merged .nil pass0 (pa_cons (pe_call G_ascending (hr.mono (by omega)) rfl T.g_ascending T.F_ascending.kp T.b_ascending .nil pass0 (pa_cons (pe_slice sl_list (pv 0) po_none (po_some (pv 1))) pa_nil)) (pa_cons (pe_call G_ascending (hr.mono (by omega)) rfl T.g_ascending T.F_ascending.kp T.b_ascending .nil pass0 (pa_cons (pe_slice sl_list (pv 0) (po_some (pv 1)) po_none) pa_nil)) pa_nil))))))), ?_⟩
    walk_at "start"
    walk_at "sts"
    try refine r_iteT (by rw [ll]; omega) ?_
    walk_at "sts"
    refine k p l H (Keep.refl _ _) hp (List.Perm.refl _) ?_
    match l, ln with
    | [], _ => exact .nil
    | [x], _ => exact List.pairwise_singleton ..
    | _ :: _ :: _, c => simp only [List.length_cons] at c; omega
theorem ok_asc64 (T : Tx K mg) (G_merged : FnOk P w K mg base CX0 3 T.f_merged T.fd_merged ["left", "right"] (spMrg K)) : FnOk P w K mg base CX0 10 T.f_ascending T.fd_ascending ["steps"] (spAsc K 64) :=
  ok_asc T (kk := 9) (n := 32) (by decide) (by decide) G_merged (ok_asc T (kk := 8) (n := 16) (by decide) (by decide) G_merged (ok_asc T (kk := 7) (n := 8) (by decide) (by decide) G_merged (ok_asc T (kk := 6) (n := 4) (by decide) (by decide) G_merged (ok_asc T (kk := 5) (n := 2) (by decide) (by decide) G_merged (ok_asc T (kk := 4) (n := 1) (by decide) (by decide) G_merged (ok_asc1 T G_merged))))))
end
open PySem PySem.Spec PyProof.Rows L2 StX Pc
/-! ### the number of stretches at a cell -/
namespace Pc
structure CovN (S : List Iv) (need : Int) (F : List Iv) : Prop where
  can : Can F
  is : ∀ z, mem F z ↔ need ≤ depth S z
  len : F.length ≤ S.length
  cut : ∀ p ∈ F, (∃ q ∈ S, q.1 = p.1 ∨ q.2 = p.1) ∧ ∃ q ∈ S, q.1 = p.2 ∨ q.2 = p.2
theorem steps_mem {S : List Iv} {t : Int × Int} (h : t ∈ steps S) : ∃ q ∈ S, q.1 = t.1 ∨ q.2 = t.1 := by
  rcases List.mem_append.mp h with h | h
  · obtain ⟨q, m, rfl⟩ := List.mem_map.mp h; exact ⟨q, m, .inl rfl⟩
  · obtain ⟨q, m, rfl⟩ := List.mem_map.mp h; exact ⟨q, m, .inr rfl⟩
theorem cov_fin {S F : List Iv} {T D : List (Int × Int)} {need : Int} {st : Option Int} (hS : ∀ p ∈ S, p.1 < p.2) (hp : T.Perm (steps S)) (hD : Dep T D) (h1 : 1 ≤ need) (I : CovI T D need D.length st F) : CovN S need F := by
  obtain ⟨_, h⟩ := I.fin h1 ((tot_perm hp).trans tot_steps)
  refine ⟨I.can, fun z => ?_, ?_, fun p m => ?_⟩
  · rw [h z, sumLe_perm hp, sumLe_steps hS]
  · have a := I.len
    have b := hD.len
    have c := hp.length_eq
    unfold steps at c
    rw [List.length_append, List.length_map, List.length_map] at c
    omega
  · obtain ⟨⟨t, mt, et⟩, ⟨u, mu, eu⟩⟩ := I.cut p m
    rw [← et, ← eu]
    exact ⟨steps_mem (hp.mem_iff.mp mt), steps_mem (hp.mem_iff.mp mu)⟩
theorem iv_lt {rs : List Rw} (h : ∀ r ∈ rs, SmR r ∧ Good r) : ∀ p ∈ rs.map iv, p.1 < p.2 := fun p m => by
  obtain ⟨r, mr, rfl⟩ := List.mem_map.mp m; exact (h r mr).2.lt
/-- what may be said of the cuts of the stretches may be said of those of the pieces -/
theorem CovN.all {S F : List Iv} {need : Int} (C : CovN S need F) {G : Int → Prop} (h : ∀ p ∈ S, G p.1 ∧ G p.2) : ∀ p ∈ F, G p.1 ∧ G p.2 := fun p m => by
  obtain ⟨⟨q, mq, a⟩, ⟨u, mu, b⟩⟩ := C.cut p m
  refine ⟨?_, ?_⟩
  · rcases a with a | a <;> rw [← a]; exact (h q mq).1; exact (h q mq).2
  · rcases b with a | a <;> rw [← a]; exact (h u mu).1; exact (h u mu).2
theorem CovN.sm {S F : List Iv} {need : Int} (C : CovN S need F) (h1 : 1 ≤ need) (h : ∀ p ∈ S, SmI p) : ∀ p ∈ F, SmI p := fun p m => by
  have bb := BB_big
  have lt := C.can.lt p m
  have rg : ∀ z, mem F z → -BB ≤ z ∧ z < BB := fun z hz => by
    obtain ⟨q, mq, a, b⟩ := depth_mem.mp (show 1 ≤ depth S z from Int.le_trans h1 ((C.is z).mp hz))
    obtain ⟨s1, s2⟩ := h q mq
    refine ⟨?_, ?_⟩
    · rcases s1 with s | s <;> omega
    · rcases s2 with s | s <;> omega
  have r1 := rg p.1 ⟨p, m, Int.le_refl _, lt⟩
  have r2 := rg (p.2 - 1) ⟨p, m, by omega, by omega⟩
  have key : ∀ q ∈ S, (q.1 = -BB ∨ Sc q.1) ∧ (q.2 = BB ∨ Sc q.2) := fun q mq => h q mq
  obtain ⟨⟨q, mq, a⟩, ⟨u, mu, b⟩⟩ := C.cut p m
  have kq := key q mq
  have ku := key u mu
  refine ⟨?_, ?_⟩
  · rcases a with a | a
    · rw [← a]; exact kq.1
    · rcases kq.2 with e | e
      · omega
      · right; rw [← a]; exact e
  · rcases b with b | b
    · rcases ku.1 with e | e
      · omega
      · right; rw [← b]; exact e
    · rw [← b]; exact ku.2
end Pc
theorem take_s {α : Type} {xs : List α} {i : Nat} {x : α} (h : xs[i]? = some x) : xs.take (i + 1) = xs.take i ++ [x] := by
  rw [List.take_add_one, h]; rfl
theorem r_gTup2N {K : PySem.W.Frag} {σ : L2.St} {H : Hp} {p a : Addr} {x y z : V} {i j l : Nat} {Q : L2.St → Hp → Prop} (h : SqT K H p [x, .ref a]) (h2 : SqT K H a [y, z]) (k : Q (((σ.set i (some x)).set j (some y)).set l (some z)) H) :
    gTup K 2 (gCons (gName i) (gCons (gTup K 2 (gCons (gName j) (gCons (gName l) gNil))) gNil)) (.ref p) σ H Q :=
  ⟨p, [x, .ref a], rfl, h, rfl, x, [.ref a], rfl, .ref a, [], rfl, a, [y, z], rfl, h2, rfl, y, [z], rfl, z, [], rfl, rfl, rfl, k⟩
open PySem PySem.Spec PyProof.Rows L2 StX Pc
/-! ### depths, covered: of a tuple -/
def spDepT (K : PySem.W.Frag) : Sp := fun vs H Q _ => ∃ (p : Addr) (as : List Addr) (rs : List Rw) (g : Int), vs = [.ref p] ∧ GOk g ∧ H p = some (.tup (as.map V.ref)) ∧ AllP (RwAt g H) as rs ∧ (∀ r ∈ rs, SmR r ∧ Good r) ∧ rs.length ≤ 24 ∧ ∀ o ds T D H', Keep [] H H' → H' o = some (.lst (ds.map V.ref)) → AllP (StpAt K g H') ds D → T.Perm (steps (rs.map iv)) → Dep T D → Q (.ref o) H'
def spCovT (K : PySem.W.Frag) : Sp := fun vs H Q _ => ∃ (p : Addr) (as : List Addr) (rs : List Rw) (g need : Int), vs = [.ref p, .int need] ∧ 1 ≤ need ∧ GOk g ∧ H p = some (.tup (as.map V.ref)) ∧ AllP (RwAt g H) as rs ∧ (∀ r ∈ rs, SmR r ∧ Good r) ∧ rs.length ≤ 24 ∧ ∀ o bs F H', Keep [] H H' → H' o = some (.tup (bs.map V.ref)) → AllP (PcAt g H') bs F → CovN (rs.map iv) need F → Q (.ref o) H'
section
variable {P : Program} {w : World} {K : PySem.W.Frag} {mg : Str → Option Value} {base : Heap}
theorem ok_depT (T : Tx K mg) (G_compare_cuts : FnOk P w K mg base CX0 2 T.f_compare_cuts T.fd_compare_cuts ["first", "second"] (spCC K)) (G_low_cut : FnOk P w K mg base CX0 1 T.f_low_cut T.fd_low_cut ["stretch"] (spLoC K loC)) (G_high_cut : FnOk P w K mg base CX0 1 T.f_high_cut T.fd_high_cut ["stretch"] (spLoC K hiC)) (G_ascending : FnOk P w K mg base CX0 10 T.f_ascending T.fd_ascending ["steps"] (spAsc K 64)) : FnOk P w K mg base CX0 11 T.f_depths T.fd_depths ["stretches"] (spDepT K) := by
  refine T.F_depths.ok sc_depths (fun vs H Q E h => ?_) (fun cdv A outer s H vs Q E hr h => ?_)
  · obtain ⟨p, as, rs, g, rfl, _⟩ := h; rfl
  · obtain ⟨p, as, rs, g, rfl, hg, hp, har, hrs, lz, k⟩ := h
    have la := har.len
    have lam : (as.map V.ref).length = rs.length := by rw [List.length_map]; exact la
    refine ⟨_, (pss_cons (ps_setLc (i := 1) (own := [("stretch", 2)]) (g := gName 2) (tt := tYes) rfl sc_depths.nd rfl rfl (sw_true rfl rfl rfl (by decide +kernel)) (pi_tup (pv 0)) (blkOk_by (own := [("stretch", 2)]) (N := ["stretches", "steps", "stretch", "found", "depth", "index", "cut", "step", "last"]) (sc := defScope s_depths) (by decide +kernel)) (fun _ _ _ _ _ => pg_name (i := 2) sc_depths.nd rfl (Or.inl rfl)) (fun _ _ _ _ _ => pts_nil) (fun _ _ _ _ _ => (pe_tup (pa_cons (pe_call G_low_cut (hr.mono (by decide)) rfl T.g_low_cut T.F_low_cut.kp T.b_low_cut .nil pass0 (pa_cons (pv 2) pa_nil)) (pa_cons pe_int pa_nil)))))
    (pss_cons (ps_set (i := 1) sc_depths.nd rfl (Or.inl rfl) (pe_call G_ascending (hr.mono (by decide)) rfl T.g_ascending T.F_ascending.kp T.b_ascending .nil pass0 (pa_cons (pe_op op_cat (pv 1) (pe_lc (own := [("stretch", 2)]) (g := gName 2) (tt := tYes) rfl sc_depths.nd (pi_tup (pv 0)) (blkOk_by (own := [("stretch", 2)]) (N := ["stretches", "steps", "stretch", "found", "depth", "index", "cut", "step", "last"]) (sc := defScope s_depths) (by decide +kernel)) (fun _ _ _ _ _ => pg_name (i := 2) sc_depths.nd rfl (Or.inl rfl)) (fun _ _ _ _ _ => pts_nil) (fun _ _ _ _ _ => (pe_tup (pa_cons (pe_call G_high_cut (hr.mono (by decide)) rfl T.g_high_cut T.F_high_cut.kp T.b_high_cut .nil pass0 (pa_cons (pv 2) pa_nil)) (pa_cons (pe_un un_neg pe_int) pa_nil)))))) pa_nil)))
    (pss_cons (ps_set (i := 3) sc_depths.nd rfl (Or.inl rfl) (pe_lst pa_nil))
    (pss_cons (ps_set (i := 4) sc_depths.nd rfl (Or.inl rfl) pe_int)
    (pss_cons (ps_for PassesOwn.never rfl (pi_enum (by rfl) T.m_enumerate (pa_cons (pv 1) pa_nil)) (pg_tup (n := 2) rfl (pgs_cons (pg_name (i := 5) sc_depths.nd rfl (Or.inl rfl)) (pgs_cons (pg_tup (n := 2) rfl (pgs_cons (pg_name (i := 6) sc_depths.nd rfl (Or.inl rfl)) (pgs_cons (pg_name (i := 7) sc_depths.nd rfl (Or.inl rfl)) pgs_nil))) pgs_nil)))
    (pss_cons (ps_set (i := 4) sc_depths.nd rfl (Or.inl rfl) (pe_op op_add (pv 4) (pv 7)))
    (pss_cons (ps_set (i := 8) sc_depths.nd rfl (Or.inl rfl) (pe_cmpR op_eq (pe_op op_add (pv 5) pe_int) (pe_callB call_len_seq (by rfl) T.m_len PySem.boot_len (pa_cons (pv 1) pa_nil)) (nomark _)))
    (pss_one (ps_if (PW.pt (pw_or (pt_val (pv 8)) (pw_or1 (pt_cmpR op_ne (pe_call G_compare_cuts (hr.mono (by decide)) rfl T.g_compare_cuts T.F_compare_cuts.kp T.b_compare_cuts .nil pass0 (pa_cons (pv 6) (pa_cons (pe_ix ix_tup (pe_ix ix_list (pv 1) (pe_op op_add (pv 5) pe_int) (fun _ _ => rfl)) pe_int (fun _ _ => rfl)) pa_nil))) pe_int (nomark _)))))
    (pss_one (ps_expr (pe_bm PySem.F.plainAttrs_list PySem.F.slot_list_append PySem.F.type_list_append mt_append (pv 3) (pa_cons (pe_tup (pa_cons (pv 6) (pa_cons (pv 4) pa_nil))) pa_nil))))
    pss_nil)))))
    (pss_one (ps_ret (pv 3)))))))), ?_⟩
    walk_at "start"
    walk_at "sts"
    refine lcT_go (fun D i acc H' => ∃ zs : List Zt, acc = zs.map zv ∧ StepsIn K g H' zs ∧ zs.map (·.2) = (rs.take i).map (fun r => (loC r, (1 : Int))) ∧ Keep [] H H' ∧ H D = none) (sqT_of hp) (fun D nD => ⟨[], rfl, fun _ m => (List.not_mem_nil m).elim, rfl, Keep.new nD, nD⟩) (fun D i acc H' _ h => by obtain ⟨_, _, _, _, k, _⟩ := h; exact sqT_of (k _ _ (by simp) hp)) ?_ ?_
    · rintro D i v acc H' hv hD ⟨zs, rfl, hzs, ez, k1, nD⟩
      obtain ⟨a, ha, rfl⟩ := getRf hv
      obtain ⟨r, hr0, hra⟩ := har.get ha
      have hi := (List.getElem?_eq_some_iff.mp hr0).1
      have lzs : zs.length = i := by
        have := congrArg List.length ez
        rw [List.length_map, List.length_map, List.length_take] at this; omega
      walk_at "sts"
      try simp only [L2.wipe, List.map_cons, List.map_nil, List.set_cons_zero, List.set_cons_succ]
      refine ⟨by first | exact rfl | trivial, ?_⟩
      walk_at "sts"
      first | refine ⟨a, r, g, rfl, hg, hra.k k1.t0, (hrs r (List.mem_of_getElem? hr0)).1, fun q H2 k2 cq => ?_⟩ | refine ⟨r, g, rfl, hg, hra.k k1.t0, (hrs r (List.mem_of_getElem? hr0)).1, fun q H2 k2 cq => ?_⟩
      walk_at "sts"
      intro u nu
      have k3 : Keep [] H2 (upd H2 u (.tup [.ref q, .int 1])) := Keep.new nu
      have e3 : upd H2 u (.tup [.ref q, .int 1]) u = some (.tup [.ref q, .int 1]) := upd_same
      generalize upd H2 u (.tup [.ref q, .int 1]) = H3 at k3 e3 ⊢
      have k23 := k2.trans k3
      have hD3 := k23 _ _ (by simp) hD
      refine lc_put hD3 (by rw [List.length_map]; exact lt_size (by omega)) ?_
      have k4 : Keep [D] H3 (upd H3 D (.lst (zs.map zv ++ [V.ref u]))) := Keep.at (by simp)
      have t4 := k4.t1 (noT_l hD3)
      refine ⟨zs ++ [(u, loC r, 1)], by rw [List.map_append]; rfl, fun z m => ?_, ?_, (k1.trans k23).mut nD, nD⟩
      · rcases List.mem_append.mp m with m | m
        · exact ((hzs z m).k k23.t0).k t4
        · rw [List.mem_singleton.mp m]
          exact StpAt.k ⟨q, e3, cq.k k3.t0⟩ t4
      · rw [List.map_append, ez, take_s hr0, List.map_append]; rfl
    · rintro D acc H1 nD hD ⟨zs, rfl, hzs, ez, k1, _⟩
      rw [lam, List.take_length] at ez
      have lzs : zs.length = rs.length := by
        have := congrArg List.length ez
        rwa [List.length_map, List.length_map] at this
      have hp1 := k1 _ _ (by simp) hp
      walk_at "sts"
      refine lcT_go (fun D' i acc H' => ∃ ys : List Zt, acc = ys.map zv ∧ StepsIn K g H' ys ∧ ys.map (·.2) = (rs.take i).map (fun r => (hiC r, (-1 : Int))) ∧ Keep [] H1 H' ∧ H1 D' = none) (sqT_of hp1) (fun D nD => ⟨[], rfl, fun _ m => (List.not_mem_nil m).elim, rfl, Keep.new nD, nD⟩) (fun D i acc H' _ h => by obtain ⟨_, _, _, _, k, _⟩ := h; exact sqT_of (k _ _ (by simp) hp1)) ?_ ?_
      · rintro D' i v acc H' hv hD' ⟨ys, rfl, hys, ey, k1', nD'⟩
        obtain ⟨a, ha, rfl⟩ := getRf hv
        obtain ⟨r, hr0, hra⟩ := har.get ha
        have hi := (List.getElem?_eq_some_iff.mp hr0).1
        have lys : ys.length = i := by
          have := congrArg List.length ey
          rw [List.length_map, List.length_map, List.length_take] at this; omega
        walk_at "sts"
        try simp only [L2.wipe, List.map_cons, List.map_nil, List.set_cons_zero, List.set_cons_succ]
        refine ⟨by first | exact rfl | trivial, ?_⟩
        walk_at "sts"
        first | refine ⟨a, r, g, rfl, hg, hra.k (k1.trans k1').t0, (hrs r (List.mem_of_getElem? hr0)).1, fun q H2 k2 cq => ?_⟩ | refine ⟨r, g, rfl, hg, hra.k (k1.trans k1').t0, (hrs r (List.mem_of_getElem? hr0)).1, fun q H2 k2 cq => ?_⟩
        walk_at "sts"
        intro u nu
        have k3 : Keep [] H2 (upd H2 u (.tup [.ref q, .int (-1)])) := Keep.new nu
        have e3 : upd H2 u (.tup [.ref q, .int (-1)]) u = some (.tup [.ref q, .int (-1)]) := upd_same
        generalize upd H2 u (.tup [.ref q, .int (-1)]) = H3 at k3 e3 ⊢
        have k23 := k2.trans k3
        have hD3 := k23 _ _ (by simp) hD'
        refine lc_put hD3 (by rw [List.length_map]; exact lt_size (by omega)) ?_
        have k4 : Keep [D'] H3 (upd H3 D' (.lst (ys.map zv ++ [V.ref u]))) := Keep.at (by simp)
        have t4 := k4.t1 (noT_l hD3)
        refine ⟨ys ++ [(u, hiC r, -1)], by rw [List.map_append]; rfl, fun z m => ?_, ?_, (k1'.trans k23).mut nD', nD'⟩
        · rcases List.mem_append.mp m with m | m
          · exact ((hys z m).k k23.t0).k t4
          · rw [List.mem_singleton.mp m]
            exact StpAt.k ⟨q, e3, cq.k k3.t0⟩ t4
        · rw [List.map_append, ey, take_s hr0, List.map_append]; rfl
      · rintro D' acc H2 nD' hD' ⟨ys, rfl, hys, ey, k2, _⟩
        rw [lam, List.take_length] at ey
        have lys : ys.length = rs.length := by
          have := congrArg List.length ey
          rwa [List.length_map, List.length_map] at this
        walk_at "sts"
        refine r_cat (k2 _ _ (by simp) hD) hD' (le_size (by simp only [List.length_map]; omega)) fun v nv => ?_
        rw [← List.map_append]
        have k3 := Keep.new (M := []) (o := HO.lst ((zs ++ ys).map zv)) nv
        have e3 : upd H2 v (.lst ((zs ++ ys).map zv)) v = some (.lst ((zs ++ ys).map zv)) := upd_same
        generalize upd H2 v (.lst ((zs ++ ys).map zv)) = H3 at k3 e3 ⊢
        walk_at "sts"
        refine ⟨v, zs ++ ys, g, rfl, hg, e3, fun z m => ?_, by rw [List.length_append]; omega, fun q us H4 k4 eq pm so => ?_⟩
        · rcases List.mem_append.mp m with m | m
          · exact (hzs z m).k (k2.trans k3).t0
          · exact (hys z m).k k3.t0
        have lus : us.length = rs.length + rs.length := by rw [pm.length_eq, List.length_append]; omega
        have hus : StepsIn K g H4 us := fun z m => by
          rcases List.mem_append.mp (pm.mem_iff.mp m) with m | m
          · exact (hzs z m).k ((k2.trans k3).trans k4).t0
          · exact (hys z m).k (k3.trans k4).t0
        have k04 := ((k1.trans k2).trans k3).trans k4
        have pmT : (us.map (·.2)).Perm (steps (rs.map iv)) := by
          have := pm.map (·.2)
          rw [List.map_append, ez, ey] at this
          unfold steps
          rw [List.map_map, List.map_map]
          exact this
        have soT : (us.map (·.2)).Pairwise fun a b => a.1 ≤ b.1 := by
          rw [List.pairwise_map]; exact so
        clear hzs hys ez ey pm k1 k2 k3 k4 hD hD' e3 nD nD' nv
        walk_at "sts"
        intro F nF
        have k5 : Keep [] H4 (upd H4 F (.lst [])) := Keep.new nF
        have e5 : upd H4 F (.lst []) F = some (.lst []) := upd_same
        generalize upd H4 F (.lst []) = H5 at k5 e5 ⊢
        have q5 := k5 _ _ (by simp) eq
        walk_at "sts"
        refine Zm.r_forNL ?_
        walk_at "sts"
        refine Zm.forNL_go (fun i σ' H' => ∃ (d : Int) (ds : List Addr) (D : List (Int × Int)) (y5 y6 y7 y8 : Option V), σ' = [some (.ref p), some (.ref q), none, some (.ref F), some (.int d), y5, y6, y7, y8] ∧ Keep [] H4 H' ∧ H' F = some (.lst (ds.map V.ref)) ∧ AllP (StpAt K g H') ds D ∧ DI (us.map (·.2)) i d D) (sqL_of q5) ⟨0, [], [], _, _, _, _, by first | exact rfl | trivial, k5, e5, True.intro, DI.zero⟩ (fun i σ' H' h => by obtain ⟨_, _, _, _, _, _, _, _, k, _⟩ := h; exact sqL_of (k _ _ (by simp) eq)) ?_ ?_
        · rintro i v U σ' H' hv ⟨d, ds, D, y5, y6, y7, y8, rfl, k6, eF, hds, I⟩ nU
          obtain ⟨z, hz, rfl⟩ : ∃ z, us[i]? = some z ∧ v = zv z := by
            rw [List.getElem?_map] at hv
            cases e : us[i]? with
            | none => rw [e] at hv; cases hv
            | some z => rw [e] at hv; exact ⟨z, rfl, (Option.some.inj hv).symm⟩
          have hi := (List.getElem?_eq_some_iff.mp hz).1
          have hT : (us.map (·.2))[i]? = some z.2 := by rw [List.getElem?_map, hz]; rfl
          obtain ⟨b, eb, cb⟩ := (hus z (List.mem_of_getElem? hz)).k k6.t0
          have k7 : Keep [] H' (upd H' U (.tup [.int (i : Nat), zv z])) := Keep.new nU
          have e7 : upd H' U (.tup [.int (i : Nat), zv z]) U = some (.tup [.int (i : Nat), zv z]) := upd_same
          generalize upd H' U (.tup [.int (i : Nat), zv z]) = H6 at k7 e7 ⊢
          have eF6 := k7 _ _ (by simp) eF
          have hds6 := hds.mono fun a x h => StpAt.k h k7.t0
          have cb6 := cb.k k7.t0
          have q6 := (k6.trans k7) _ _ (by simp) eq
          have k67 := k6.trans k7
          refine r_gTup2N (sqT_of e7) (sqT_of (k7 _ _ (by simp) eb)) ?_
          simp only [List.set_cons_zero, List.set_cons_succ]
          have ld := hds.len
          have lD := I.len
          have lum : (us.map zv).length = us.length := List.length_map _
          walk_at "sts"
          have fin : ∀ (x8 : Option V) (H7 : Hp) (u : Addr), Keep [] H6 H7 → H7 u = some (.tup [.ref b, .int (d + z.2.2)]) → (∀ u', (us.map (·.2))[i + 1]? = some u' → z.2.1 ≠ u'.1) → ∃ (d' : Int) (ds' : List Addr) (D' : List (Int × Int)) (y5 y6 y7 y8 : Option V), [some (.ref p), some (.ref q), none, some (.ref F), some (.int (d + z.2.2)), some (.int (i : Nat)), some (.ref b), some (.int z.2.2), x8] = [some (V.ref p), some (V.ref q), none, some (V.ref F), some (V.int d'), y5, y6, y7, y8] ∧ Keep [] H4 (upd H7 F (.lst (ds.map V.ref ++ [V.ref u]))) ∧ (upd H7 F (.lst (ds.map V.ref ++ [V.ref u]))) F = some (.lst (ds'.map V.ref)) ∧ AllP (StpAt K g (upd H7 F (.lst (ds.map V.ref ++ [V.ref u])))) ds' D' ∧ DI (us.map (·.2)) (i + 1) d' D' := by
            intro x8 H7 u k8 eu hne
            have t8 := (Keep.at (M := [F]) (p := F) (H := H7) (o := HO.lst (ds.map V.ref ++ [V.ref u])) (by simp)).t1 (noT_l (k8 _ _ (by simp) eF6))
            refine ⟨_, ds ++ [u], _, _, _, _, _, rfl, (k67.trans k8).mut nF, by rw [List.map_append]; exact upd_same, (hds6.mono fun a x h => (StpAt.k h k8.t0).k t8).snoc (show StpAt K g _ u (z.2.1, d + z.2.2) from ⟨b, t8 _ _ eu, (cb6.k k8.t0).k t8⟩), I.put soT hT hne⟩
          by_cases c1 : i + 1 = us.length
          · try refine r_iteT (by rw [lum]; omega) ?_
            walk_at "sts"
            intro u nu
            have k8 : Keep [] H6 (upd H6 u (.tup [.ref b, .int (d + z.2.2)])) := Keep.new nu
            have e8 : upd H6 u (.tup [.ref b, .int (d + z.2.2)]) u = some (.tup [.ref b, .int (d + z.2.2)]) := upd_same
            generalize upd H6 u (.tup [.ref b, .int (d + z.2.2)]) = H7 at k8 e8 ⊢
            walk_at "sts"
            first
              | exact fin _ H7 u k8 e8 fun u' hu => by rw [List.getElem?_eq_none (by rw [List.length_map]; omega)] at hu; cases hu
              | (refine r_app (k8 _ _ (by simp) eF6) (by rw [List.length_map]; exact lt_size (by omega)) ?_
                 walk_at "sts"
                 exact fin _ H7 u k8 e8 fun u' hu => by rw [List.getElem?_eq_none (by rw [List.length_map]; omega)] at hu; cases hu)
          · obtain ⟨z', hz'⟩ : ∃ z', us[i + 1]? = some z' := ⟨_, List.getElem?_eq_getElem (by omega)⟩
            have hT' : (us.map (·.2))[i + 1]? = some z'.2 := by rw [List.getElem?_map, hz']; rfl
            obtain ⟨b', eb', cb'⟩ := (hus z' (List.mem_of_getElem? hz')).k k67.t0
            have vz : atI (us.map zv) ((i : Int) + 1) = some (V.ref z'.1) := by
              have : ((i : Int) + 1) = ((i + 1 : Nat) : Int) := by omega
              rw [this]
              exact atI_nat (by rw [List.getElem?_map, hz']; rfl)
            try refine r_iteF (by rw [lum]; omega) ?_
            walk_at "sts"
            refine ⟨b, b', _, _, g, rfl, hg, cb6, cb', ?_⟩
            walk_at "sts"
            refine r_iteN (fun c2 => ?_) (fun c2 => ?_)
            · walk_at "sts"
              intro u nu
              have k8 : Keep [] H6 (upd H6 u (.tup [.ref b, .int (d + z.2.2)])) := Keep.new nu
              have e8 : upd H6 u (.tup [.ref b, .int (d + z.2.2)]) u = some (.tup [.ref b, .int (d + z.2.2)]) := upd_same
              generalize upd H6 u (.tup [.ref b, .int (d + z.2.2)]) = H7 at k8 e8 ⊢
              walk_at "sts"
              first
                | exact fin _ H7 u k8 e8 fun u' hu e => c2 (sg_z.mpr (by rw [hT'] at hu; cases hu; exact e))
                | (refine r_app (k8 _ _ (by simp) eF6) (by rw [List.length_map]; exact lt_size (by omega)) ?_
                   walk_at "sts"
                   exact fin _ H7 u k8 e8 fun u' hu e => c2 (sg_z.mpr (by rw [hT'] at hu; cases hu; exact e)))
            · walk_at "sts"
              exact ⟨_, ds, D, _, _, _, _, by first | exact rfl | trivial, k67, eF6, hds6, I.skip hT hT' (sg_z.mp c2)⟩
        · rintro σ' H' ⟨d, ds, D, y5, y6, y7, y8, rfl, k6, eF, hds, I⟩
          rw [show (us.map zv).length = (us.map (·.2)).length by rw [List.length_map, List.length_map]] at I
          walk_at "sts"
          exact k F ds _ D H' (k04.trans k6) eF hds pmT I.fin
theorem ok_covT (T : Tx K mg) (G_stretch_between : FnOk P w K mg base CX0 1 T.f_stretch_between T.fd_stretch_between ["first", "second"] (spBet K)) (G_depths : FnOk P w K mg base CX0 11 T.f_depths T.fd_depths ["stretches"] (spDepT K)) : FnOk P w K mg base CX0 12 T.f_covered T.fd_covered ["stretches", "need"] (spCovT K) := by
  refine T.F_covered.ok sc_covered (fun vs H Q E h => ?_) (fun cdv A outer s H vs Q E hr h => ?_)
  · obtain ⟨p, as, rs, g, need, rfl, _⟩ := h; rfl
  · obtain ⟨p, as, rs, g, need, rfl, h1, hg, hp, har, hrs, lz, k⟩ := h
    refine ⟨_, (pss_cons (ps_set (i := 2) sc_covered.nd rfl (Or.inl rfl) (pe_lst pa_nil))
    (pss_cons (ps_set (i := 3) sc_covered.nd rfl (Or.inl rfl) pe_non)
    (pss_cons (ps_for PassesOwn.never rfl (pi_list (pe_call G_depths (hr.mono (by decide)) rfl T.g_depths T.F_depths.kp T.b_depths .nil pass0 (pa_cons (pv 0) pa_nil))) (pg_tup (n := 2) rfl (pgs_cons (pg_name (i := 4) sc_covered.nd rfl (Or.inl rfl)) (pgs_cons (pg_name (i := 5) sc_covered.nd rfl (Or.inl rfl)) pgs_nil)))
    (pss_one (ps_if (PW.pt (pw_and (pt_cmpR op_ge (pv 5) (pv 1) (nomark _)) (pw_and1 (pt_cmpR op_isNc (pv 3) pe_non (nomark _)))))
    (pss_one (ps_set (i := 3) sc_covered.nd rfl (Or.inl rfl) (pv 4)))
    (pss_one (ps_if (PW.pt (pw_and (pt_cmpR op_lt (pv 5) (pv 1) (nomark _)) (pw_and1 (pt_cmpR op_notNc (pv 3) pe_non (nomark _)))))
    (pss_cons (ps_expr (pe_bm PySem.F.plainAttrs_list PySem.F.slot_list_append PySem.F.type_list_append mt_append (pv 2) (pa_cons (pe_call G_stretch_between (hr.mono (by decide)) rfl T.g_stretch_between T.F_stretch_between.kp T.b_stretch_between .nil pass0 (pa_cons (pv 3) (pa_cons (pv 4) pa_nil))) pa_nil)))
    (pss_one (ps_set (i := 3) sc_covered.nd rfl (Or.inl rfl) pe_non)))
    pss_nil)))))
    (pss_one (ps_ret (pe_callTy call_tuple_of (by rfl) T.m_tuple (by decide +kernel) (pa_cons (pv 2) pa_nil))))))), ?_⟩
    walk_at "start"
    walk_at "sts"
    intro F nF
    have k0 : Keep [] H (upd H F (.lst [])) := Keep.new nF
    have e0 : upd H F (.lst []) F = some (.lst []) := upd_same
    generalize upd H F (.lst []) = H1 at k0 e0 ⊢
    walk_at "sts"
    refine ⟨p, as, rs, g, rfl, hg, k0 _ _ (by simp) hp, har.mono fun a x h => h.k k0.t0, hrs, lz, fun q ds T D H2 k2 eq hds pm hD => ?_⟩
    have e2 := k2 _ _ (by simp) e0
    have k02 := k0.trans k2
    have ld := hds.len
    have lD := hD.len
    have lT := pm.length_eq
    unfold steps at lT
    simp only [List.length_append, List.length_map] at lT
    have I0 := CovI.zero h1 hD
    refine forL_go (fun i σ' H' => ∃ (st : Option Int) (sv : V) (bs : List Addr) (L : List Iv) (y4 y5 : Option V), σ' = [some (.ref p), some (.int need), some (.ref F), some sv, y4, y5] ∧ Keep [] H H' ∧ KeepT H2 H' ∧ H' q = some (.lst (ds.map V.ref)) ∧ H' F = some (.lst (bs.map V.ref)) ∧ AllP (PcAt g H') bs L ∧ CovI T D need i st L ∧ ((st = none ∧ sv = .non) ∨ ∃ s b, st = some s ∧ sv = .ref b ∧ CutAt K g H' b s)) (sqL_of eq) ⟨none, .non, [], [], _, _, by first | exact rfl | trivial, k02, KeepT.refl _, eq, e2, True.intro, I0, .inl ⟨rfl, rfl⟩⟩ (fun i σ' H' _ h => by obtain ⟨_, _, _, _, _, _, _, _, _, e, _⟩ := h; exact sqL_of e) ?_ ?_
    · rintro i v σ' H' hv ⟨st, sv, bs, L, y4, y5, rfl, k3, t3, eq3, eF, hbs, I, hst⟩
      obtain ⟨a, ha, rfl⟩ := getRf hv
      obtain ⟨e, he, hea⟩ := hds.get ha
      have hi := (List.getElem?_eq_some_iff.mp he).1
      obtain ⟨b, eb, cb⟩ := hea.k t3
      have lb := hbs.len
      have lI := I.len
      have nFq : q ≠ F := fun e => by
        subst e; rw [e2] at eq
        have h := HO.lst.inj (Option.some.inj eq)
        have : ds = [] := List.map_eq_nil_iff.mp h.symm
        subst this; simp at ha
      refine r_gTup2 (sqT_of eb) ?_
      simp only [List.set_cons_zero, List.set_cons_succ]
      rcases hst with ⟨rfl, rfl⟩ | ⟨s0, b0, rfl, rfl, c0⟩
      · by_cases c : need ≤ e.2
        · walk_at "sts"
          try refine r_iteT (by omega) ?_
          walk_at "sts"
          exact ⟨some e.1, _, bs, L, _, _, by first | exact rfl | trivial, k3, t3, eq3, eF, hbs, I.begin_ hD he c, .inr ⟨e.1, b, rfl, rfl, cb⟩⟩
        · walk_at "sts"
          try refine r_iteF (by omega) ?_
          walk_at "sts"
          try refine r_iteT (by omega) ?_
          walk_at "sts"
          exact ⟨none, _, bs, L, _, _, by first | exact rfl | trivial, k3, t3, eq3, eF, hbs, I.stay0 hD he (by omega), .inl ⟨rfl, rfl⟩⟩
      · by_cases c : need ≤ e.2
        · walk_at "sts"
          try refine r_iteT (by omega) ?_
          walk_at "sts"
          try refine r_iteF (by omega) ?_
          walk_at "sts"
          exact ⟨some s0, _, bs, L, _, _, by first | exact rfl | trivial, k3, t3, eq3, eF, hbs, I.stay1 hD he c, .inr ⟨s0, b0, rfl, rfl, c0⟩⟩
        · walk_at "sts"
          try refine r_iteF (by omega) ?_
          walk_at "sts"
          try refine r_iteT (by omega) ?_
          walk_at "sts"
          refine ⟨b0, b, s0, e.1, g, rfl, hg, c0, cb, fun u H4 k4 hu => ?_⟩
          have eF4 := k4 _ _ (by simp) eF
          have t5 := (Keep.at (M := [F]) (p := F) (H := H4) (o := HO.lst (bs.map V.ref ++ [V.ref u])) (by simp)).t1 (noT_l eF4)
          have fin : ∃ (st : Option Int) (sv : V) (bs' : List Addr) (L : List Iv) (y4 y5 : Option V), [some (V.ref p), some (.int need), some (.ref F), some .non, some (.ref b), some (.int e.2)] = [some (.ref p), some (.int need), some (.ref F), some sv, y4, y5] ∧ Keep [] H (upd H4 F (.lst (bs.map V.ref ++ [V.ref u]))) ∧ KeepT H2 (upd H4 F (.lst (bs.map V.ref ++ [V.ref u]))) ∧ (upd H4 F (.lst (bs.map V.ref ++ [V.ref u]))) q = some (.lst (ds.map V.ref)) ∧ (upd H4 F (.lst (bs.map V.ref ++ [V.ref u]))) F = some (.lst (bs'.map V.ref)) ∧ AllP (PcAt g (upd H4 F (.lst (bs.map V.ref ++ [V.ref u])))) bs' L ∧ CovI T D need (i + 1) st L ∧ ((st = none ∧ sv = .non) ∨ ∃ s b, st = some s ∧ sv = .ref b ∧ CutAt K g (upd H4 F (.lst (bs.map V.ref ++ [V.ref u]))) b s) :=
            ⟨none, .non, bs ++ [u], _, _, _, rfl, (k3.trans k4).mut nF, (t3.trans k4.t0).trans t5, by rw [upd_ne nFq]; exact k4 _ _ (by simp) eq3, by rw [List.map_append]; exact upd_same, (hbs.mono fun a x h => (PcAt.k h k4.t0).k t5).snoc (hu.k t5), I.end_ hD he (by omega), .inl ⟨rfl, rfl⟩⟩
          simp at lI
          walk_at "sts"
          first
            | exact fin
            | (refine r_app eF4 (by rw [List.length_map]; exact lt_size (by omega)) ?_
               walk_at "sts"
               exact fin)
    · rintro σ' H' ⟨st, sv, bs, L, y4, y5, rfl, k3, t3, eq3, eF, hbs, I, hst⟩
      have lds : (ds.map V.ref).length = D.length := by rw [List.length_map]; exact ld
      rw [lds] at I
      have C := cov_fin (iv_lt hrs) pm hD h1 I
      walk_at "sts"
      refine ⟨F, _, rfl, .inl ⟨sqL_of eF, fun t nt => ?_⟩⟩
      have k4 : Keep [] H' (upd H' t (.tup (bs.map V.ref))) := Keep.new nt
      walk_at "sts"
      exact k t bs L _ (k3.trans k4) upd_same (hbs.mono fun a x h => PcAt.k h k4.t0) C
end
open PySem PySem.Spec PyProof.Rows L2 StX Pc
/-! ### depths, covered: of a list -/
def spDepL (K : PySem.W.Frag) : Sp := fun vs H Q _ => ∃ (p : Addr) (as : List Addr) (rs : List Rw) (g : Int), vs = [.ref p] ∧ GOk g ∧ H p = some (.lst (as.map V.ref)) ∧ AllP (RwAt g H) as rs ∧ (∀ r ∈ rs, SmR r ∧ Good r) ∧ rs.length ≤ 24 ∧ ∀ o ds T D H', Keep [] H H' → H' o = some (.lst (ds.map V.ref)) → AllP (StpAt K g H') ds D → T.Perm (steps (rs.map iv)) → Dep T D → Q (.ref o) H'
def spCovL (K : PySem.W.Frag) : Sp := fun vs H Q _ => ∃ (p : Addr) (as : List Addr) (rs : List Rw) (g need : Int), vs = [.ref p, .int need] ∧ 1 ≤ need ∧ GOk g ∧ H p = some (.lst (as.map V.ref)) ∧ AllP (RwAt g H) as rs ∧ (∀ r ∈ rs, SmR r ∧ Good r) ∧ rs.length ≤ 24 ∧ ∀ o bs F H', Keep [] H H' → H' o = some (.tup (bs.map V.ref)) → AllP (PcAt g H') bs F → CovN (rs.map iv) need F → Q (.ref o) H'
section
variable {P : Program} {w : World} {K : PySem.W.Frag} {mg : Str → Option Value} {base : Heap}
theorem ok_depL (T : Tx K mg) (G_compare_cuts : FnOk P w K mg base CX0 2 T.f_compare_cuts T.fd_compare_cuts ["first", "second"] (spCC K)) (G_low_cut : FnOk P w K mg base CX0 1 T.f_low_cut T.fd_low_cut ["stretch"] (spLoC K loC)) (G_high_cut : FnOk P w K mg base CX0 1 T.f_high_cut T.fd_high_cut ["stretch"] (spLoC K hiC)) (G_ascending : FnOk P w K mg base CX0 10 T.f_ascending T.fd_ascending ["steps"] (spAsc K 64)) : FnOk P w K mg base CX0 11 T.f_depths T.fd_depths ["stretches"] (spDepL K) := by
  refine T.F_depths.ok sc_depths (fun vs H Q E h => ?_) (fun cdv A outer s H vs Q E hr h => ?_)
  · obtain ⟨p, as, rs, g, rfl, _⟩ := h; rfl
  · obtain ⟨p, as, rs, g, rfl, hg, hp, har, hrs, lz, k⟩ := h
    have la := har.len
    have lam : (as.map V.ref).length = rs.length := by rw [List.length_map]; exact la
    refine ⟨_, (pss_cons (ps_setLc (i := 1) (own := [("stretch", 2)]) (g := gName 2) (tt := tYes) rfl sc_depths.nd rfl rfl (sw_true rfl rfl rfl (by decide +kernel)) (pi_list (pv 0)) (blkOk_by (own := [("stretch", 2)]) (N := ["stretches", "steps", "stretch", "found", "depth", "index", "cut", "step", "last"]) (sc := defScope s_depths) (by decide +kernel)) (fun _ _ _ _ _ => pg_name (i := 2) sc_depths.nd rfl (Or.inl rfl)) (fun _ _ _ _ _ => pts_nil) (fun _ _ _ _ _ => (pe_tup (pa_cons (pe_call G_low_cut (hr.mono (by decide)) rfl T.g_low_cut T.F_low_cut.kp T.b_low_cut .nil pass0 (pa_cons (pv 2) pa_nil)) (pa_cons pe_int pa_nil)))))
    (pss_cons (ps_set (i := 1) sc_depths.nd rfl (Or.inl rfl) (pe_call G_ascending (hr.mono (by decide)) rfl T.g_ascending T.F_ascending.kp T.b_ascending .nil pass0 (pa_cons (pe_op op_cat (pv 1) (pe_lc (own := [("stretch", 2)]) (g := gName 2) (tt := tYes) rfl sc_depths.nd (pi_list (pv 0)) (blkOk_by (own := [("stretch", 2)]) (N := ["stretches", "steps", "stretch", "found", "depth", "index", "cut", "step", "last"]) (sc := defScope s_depths) (by decide +kernel)) (fun _ _ _ _ _ => pg_name (i := 2) sc_depths.nd rfl (Or.inl rfl)) (fun _ _ _ _ _ => pts_nil) (fun _ _ _ _ _ => (pe_tup (pa_cons (pe_call G_high_cut (hr.mono (by decide)) rfl T.g_high_cut T.F_high_cut.kp T.b_high_cut .nil pass0 (pa_cons (pv 2) pa_nil)) (pa_cons (pe_un un_neg pe_int) pa_nil)))))) pa_nil)))
    (pss_cons (ps_set (i := 3) sc_depths.nd rfl (Or.inl rfl) (pe_lst pa_nil))
    (pss_cons (ps_set (i := 4) sc_depths.nd rfl (Or.inl rfl) pe_int)
    (pss_cons (ps_for PassesOwn.never rfl (pi_enum (by rfl) T.m_enumerate (pa_cons (pv 1) pa_nil)) (pg_tup (n := 2) rfl (pgs_cons (pg_name (i := 5) sc_depths.nd rfl (Or.inl rfl)) (pgs_cons (pg_tup (n := 2) rfl (pgs_cons (pg_name (i := 6) sc_depths.nd rfl (Or.inl rfl)) (pgs_cons (pg_name (i := 7) sc_depths.nd rfl (Or.inl rfl)) pgs_nil))) pgs_nil)))
    (pss_cons (ps_set (i := 4) sc_depths.nd rfl (Or.inl rfl) (pe_op op_add (pv 4) (pv 7)))
    (pss_cons (ps_set (i := 8) sc_depths.nd rfl (Or.inl rfl) (pe_cmpR op_eq (pe_op op_add (pv 5) pe_int) (pe_callB call_len_seq (by rfl) T.m_len PySem.boot_len (pa_cons (pv 1) pa_nil)) (nomark _)))
    (pss_one (ps_if (PW.pt (pw_or (pt_val (pv 8)) (pw_or1 (pt_cmpR op_ne (pe_call G_compare_cuts (hr.mono (by decide)) rfl T.g_compare_cuts T.F_compare_cuts.kp T.b_compare_cuts .nil pass0 (pa_cons (pv 6) (pa_cons (pe_ix ix_tup (pe_ix ix_list (pv 1) (pe_op op_add (pv 5) pe_int) (fun _ _ => rfl)) pe_int (fun _ _ => rfl)) pa_nil))) pe_int (nomark _)))))
    (pss_one (ps_expr (pe_bm PySem.F.plainAttrs_list PySem.F.slot_list_append PySem.F.type_list_append mt_append (pv 3) (pa_cons (pe_tup (pa_cons (pv 6) (pa_cons (pv 4) pa_nil))) pa_nil))))
    pss_nil)))))
    (pss_one (ps_ret (pv 3)))))))), ?_⟩
    walk_at "start"
    walk_at "sts"
    refine lcL_go (fun D i acc H' => ∃ zs : List Zt, acc = zs.map zv ∧ StepsIn K g H' zs ∧ zs.map (·.2) = (rs.take i).map (fun r => (loC r, (1 : Int))) ∧ Keep [] H H' ∧ H D = none) (sqL_of hp) (fun D nD => ⟨[], rfl, fun _ m => (List.not_mem_nil m).elim, rfl, Keep.new nD, nD⟩) (fun D i acc H' _ h => by obtain ⟨_, _, _, _, k, _⟩ := h; exact sqL_of (k _ _ (by simp) hp)) ?_ ?_
    · rintro D i v acc H' hv hD ⟨zs, rfl, hzs, ez, k1, nD⟩
      obtain ⟨a, ha, rfl⟩ := getRf hv
      obtain ⟨r, hr0, hra⟩ := har.get ha
      have hi := (List.getElem?_eq_some_iff.mp hr0).1
      have lzs : zs.length = i := by
        have := congrArg List.length ez
        rw [List.length_map, List.length_map, List.length_take] at this; omega
      walk_at "sts"
      try simp only [L2.wipe, List.map_cons, List.map_nil, List.set_cons_zero, List.set_cons_succ]
      refine ⟨by first | exact rfl | trivial, ?_⟩
      walk_at "sts"
      first | refine ⟨a, r, g, rfl, hg, hra.k k1.t0, (hrs r (List.mem_of_getElem? hr0)).1, fun q H2 k2 cq => ?_⟩ | refine ⟨r, g, rfl, hg, hra.k k1.t0, (hrs r (List.mem_of_getElem? hr0)).1, fun q H2 k2 cq => ?_⟩
      walk_at "sts"
      intro u nu
      have k3 : Keep [] H2 (upd H2 u (.tup [.ref q, .int 1])) := Keep.new nu
      have e3 : upd H2 u (.tup [.ref q, .int 1]) u = some (.tup [.ref q, .int 1]) := upd_same
      generalize upd H2 u (.tup [.ref q, .int 1]) = H3 at k3 e3 ⊢
      have k23 := k2.trans k3
      have hD3 := k23 _ _ (by simp) hD
      refine lc_put hD3 (by rw [List.length_map]; exact lt_size (by omega)) ?_
      have k4 : Keep [D] H3 (upd H3 D (.lst (zs.map zv ++ [V.ref u]))) := Keep.at (by simp)
      have t4 := k4.t1 (noT_l hD3)
      refine ⟨zs ++ [(u, loC r, 1)], by rw [List.map_append]; rfl, fun z m => ?_, ?_, (k1.trans k23).mut nD, nD⟩
      · rcases List.mem_append.mp m with m | m
        · exact ((hzs z m).k k23.t0).k t4
        · rw [List.mem_singleton.mp m]
          exact StpAt.k ⟨q, e3, cq.k k3.t0⟩ t4
      · rw [List.map_append, ez, take_s hr0, List.map_append]; rfl
    · rintro D acc H1 nD hD ⟨zs, rfl, hzs, ez, k1, _⟩
      rw [lam, List.take_length] at ez
      have lzs : zs.length = rs.length := by
        have := congrArg List.length ez
        rwa [List.length_map, List.length_map] at this
      have hp1 := k1 _ _ (by simp) hp
      walk_at "sts"
      refine lcL_go (fun D' i acc H' => ∃ ys : List Zt, acc = ys.map zv ∧ StepsIn K g H' ys ∧ ys.map (·.2) = (rs.take i).map (fun r => (hiC r, (-1 : Int))) ∧ Keep [] H1 H' ∧ H1 D' = none) (sqL_of hp1) (fun D nD => ⟨[], rfl, fun _ m => (List.not_mem_nil m).elim, rfl, Keep.new nD, nD⟩) (fun D i acc H' _ h => by obtain ⟨_, _, _, _, k, _⟩ := h; exact sqL_of (k _ _ (by simp) hp1)) ?_ ?_
      · rintro D' i v acc H' hv hD' ⟨ys, rfl, hys, ey, k1', nD'⟩
        obtain ⟨a, ha, rfl⟩ := getRf hv
        obtain ⟨r, hr0, hra⟩ := har.get ha
        have hi := (List.getElem?_eq_some_iff.mp hr0).1
        have lys : ys.length = i := by
          have := congrArg List.length ey
          rw [List.length_map, List.length_map, List.length_take] at this; omega
        walk_at "sts"
        try simp only [L2.wipe, List.map_cons, List.map_nil, List.set_cons_zero, List.set_cons_succ]
        refine ⟨by first | exact rfl | trivial, ?_⟩
        walk_at "sts"
        first | refine ⟨a, r, g, rfl, hg, hra.k (k1.trans k1').t0, (hrs r (List.mem_of_getElem? hr0)).1, fun q H2 k2 cq => ?_⟩ | refine ⟨r, g, rfl, hg, hra.k (k1.trans k1').t0, (hrs r (List.mem_of_getElem? hr0)).1, fun q H2 k2 cq => ?_⟩
        walk_at "sts"
        intro u nu
        have k3 : Keep [] H2 (upd H2 u (.tup [.ref q, .int (-1)])) := Keep.new nu
        have e3 : upd H2 u (.tup [.ref q, .int (-1)]) u = some (.tup [.ref q, .int (-1)]) := upd_same
        generalize upd H2 u (.tup [.ref q, .int (-1)]) = H3 at k3 e3 ⊢
        have k23 := k2.trans k3
        have hD3 := k23 _ _ (by simp) hD'
        refine lc_put hD3 (by rw [List.length_map]; exact lt_size (by omega)) ?_
        have k4 : Keep [D'] H3 (upd H3 D' (.lst (ys.map zv ++ [V.ref u]))) := Keep.at (by simp)
        have t4 := k4.t1 (noT_l hD3)
        refine ⟨ys ++ [(u, hiC r, -1)], by rw [List.map_append]; rfl, fun z m => ?_, ?_, (k1'.trans k23).mut nD', nD'⟩
        · rcases List.mem_append.mp m with m | m
          · exact ((hys z m).k k23.t0).k t4
          · rw [List.mem_singleton.mp m]
            exact StpAt.k ⟨q, e3, cq.k k3.t0⟩ t4
        · rw [List.map_append, ey, take_s hr0, List.map_append]; rfl
      · rintro D' acc H2 nD' hD' ⟨ys, rfl, hys, ey, k2, _⟩
        rw [lam, List.take_length] at ey
        have lys : ys.length = rs.length := by
          have := congrArg List.length ey
          rwa [List.length_map, List.length_map] at this
        walk_at "sts"
        refine r_cat (k2 _ _ (by simp) hD) hD' (le_size (by simp only [List.length_map]; omega)) fun v nv => ?_
        rw [← List.map_append]
        have k3 := Keep.new (M := []) (o := HO.lst ((zs ++ ys).map zv)) nv
        have e3 : upd H2 v (.lst ((zs ++ ys).map zv)) v = some (.lst ((zs ++ ys).map zv)) := upd_same
        generalize upd H2 v (.lst ((zs ++ ys).map zv)) = H3 at k3 e3 ⊢
        walk_at "sts"
        refine ⟨v, zs ++ ys, g, rfl, hg, e3, fun z m => ?_, by rw [List.length_append]; omega, fun q us H4 k4 eq pm so => ?_⟩
        · rcases List.mem_append.mp m with m | m
          · exact (hzs z m).k (k2.trans k3).t0
          · exact (hys z m).k k3.t0
        have lus : us.length = rs.length + rs.length := by rw [pm.length_eq, List.length_append]; omega
        have hus : StepsIn K g H4 us := fun z m => by
          rcases List.mem_append.mp (pm.mem_iff.mp m) with m | m
          · exact (hzs z m).k ((k2.trans k3).trans k4).t0
          · exact (hys z m).k (k3.trans k4).t0
        have k04 := ((k1.trans k2).trans k3).trans k4
        have pmT : (us.map (·.2)).Perm (steps (rs.map iv)) := by
          have := pm.map (·.2)
          rw [List.map_append, ez, ey] at this
          unfold steps
          rw [List.map_map, List.map_map]
          exact this
        have soT : (us.map (·.2)).Pairwise fun a b => a.1 ≤ b.1 := by
          rw [List.pairwise_map]; exact so
        clear hzs hys ez ey pm k1 k2 k3 k4 hD hD' e3 nD nD' nv
        walk_at "sts"
        intro F nF
        have k5 : Keep [] H4 (upd H4 F (.lst [])) := Keep.new nF
        have e5 : upd H4 F (.lst []) F = some (.lst []) := upd_same
        generalize upd H4 F (.lst []) = H5 at k5 e5 ⊢
        have q5 := k5 _ _ (by simp) eq
        walk_at "sts"
        refine Zm.r_forNL ?_
        walk_at "sts"
        refine Zm.forNL_go (fun i σ' H' => ∃ (d : Int) (ds : List Addr) (D : List (Int × Int)) (y5 y6 y7 y8 : Option V), σ' = [some (.ref p), some (.ref q), none, some (.ref F), some (.int d), y5, y6, y7, y8] ∧ Keep [] H4 H' ∧ H' F = some (.lst (ds.map V.ref)) ∧ AllP (StpAt K g H') ds D ∧ DI (us.map (·.2)) i d D) (sqL_of q5) ⟨0, [], [], _, _, _, _, by first | exact rfl | trivial, k5, e5, True.intro, DI.zero⟩ (fun i σ' H' h => by obtain ⟨_, _, _, _, _, _, _, _, k, _⟩ := h; exact sqL_of (k _ _ (by simp) eq)) ?_ ?_
        · rintro i v U σ' H' hv ⟨d, ds, D, y5, y6, y7, y8, rfl, k6, eF, hds, I⟩ nU
          obtain ⟨z, hz, rfl⟩ : ∃ z, us[i]? = some z ∧ v = zv z := by
            rw [List.getElem?_map] at hv
            cases e : us[i]? with
            | none => rw [e] at hv; cases hv
            | some z => rw [e] at hv; exact ⟨z, rfl, (Option.some.inj hv).symm⟩
          have hi := (List.getElem?_eq_some_iff.mp hz).1
          have hT : (us.map (·.2))[i]? = some z.2 := by rw [List.getElem?_map, hz]; rfl
          obtain ⟨b, eb, cb⟩ := (hus z (List.mem_of_getElem? hz)).k k6.t0
          have k7 : Keep [] H' (upd H' U (.tup [.int (i : Nat), zv z])) := Keep.new nU
          have e7 : upd H' U (.tup [.int (i : Nat), zv z]) U = some (.tup [.int (i : Nat), zv z]) := upd_same
          generalize upd H' U (.tup [.int (i : Nat), zv z]) = H6 at k7 e7 ⊢
          have eF6 := k7 _ _ (by simp) eF
          have hds6 := hds.mono fun a x h => StpAt.k h k7.t0
          have cb6 := cb.k k7.t0
          have q6 := (k6.trans k7) _ _ (by simp) eq
          have k67 := k6.trans k7
          refine r_gTup2N (sqT_of e7) (sqT_of (k7 _ _ (by simp) eb)) ?_
          simp only [List.set_cons_zero, List.set_cons_succ]
          have ld := hds.len
          have lD := I.len
          have lum : (us.map zv).length = us.length := List.length_map _
          walk_at "sts"
          have fin : ∀ (x8 : Option V) (H7 : Hp) (u : Addr), Keep [] H6 H7 → H7 u = some (.tup [.ref b, .int (d + z.2.2)]) → (∀ u', (us.map (·.2))[i + 1]? = some u' → z.2.1 ≠ u'.1) → ∃ (d' : Int) (ds' : List Addr) (D' : List (Int × Int)) (y5 y6 y7 y8 : Option V), [some (.ref p), some (.ref q), none, some (.ref F), some (.int (d + z.2.2)), some (.int (i : Nat)), some (.ref b), some (.int z.2.2), x8] = [some (V.ref p), some (V.ref q), none, some (V.ref F), some (V.int d'), y5, y6, y7, y8] ∧ Keep [] H4 (upd H7 F (.lst (ds.map V.ref ++ [V.ref u]))) ∧ (upd H7 F (.lst (ds.map V.ref ++ [V.ref u]))) F = some (.lst (ds'.map V.ref)) ∧ AllP (StpAt K g (upd H7 F (.lst (ds.map V.ref ++ [V.ref u])))) ds' D' ∧ DI (us.map (·.2)) (i + 1) d' D' := by
            intro x8 H7 u k8 eu hne
            have t8 := (Keep.at (M := [F]) (p := F) (H := H7) (o := HO.lst (ds.map V.ref ++ [V.ref u])) (by simp)).t1 (noT_l (k8 _ _ (by simp) eF6))
            refine ⟨_, ds ++ [u], _, _, _, _, _, rfl, (k67.trans k8).mut nF, by rw [List.map_append]; exact upd_same, (hds6.mono fun a x h => (StpAt.k h k8.t0).k t8).snoc (show StpAt K g _ u (z.2.1, d + z.2.2) from ⟨b, t8 _ _ eu, (cb6.k k8.t0).k t8⟩), I.put soT hT hne⟩
          by_cases c1 : i + 1 = us.length
          · try refine r_iteT (by rw [lum]; omega) ?_
            walk_at "sts"
            intro u nu
            have k8 : Keep [] H6 (upd H6 u (.tup [.ref b, .int (d + z.2.2)])) := Keep.new nu
            have e8 : upd H6 u (.tup [.ref b, .int (d + z.2.2)]) u = some (.tup [.ref b, .int (d + z.2.2)]) := upd_same
            generalize upd H6 u (.tup [.ref b, .int (d + z.2.2)]) = H7 at k8 e8 ⊢
            walk_at "sts"
            first
              | exact fin _ H7 u k8 e8 fun u' hu => by rw [List.getElem?_eq_none (by rw [List.length_map]; omega)] at hu; cases hu
              | (refine r_app (k8 _ _ (by simp) eF6) (by rw [List.length_map]; exact lt_size (by omega)) ?_
                 walk_at "sts"
                 exact fin _ H7 u k8 e8 fun u' hu => by rw [List.getElem?_eq_none (by rw [List.length_map]; omega)] at hu; cases hu)
          · obtain ⟨z', hz'⟩ : ∃ z', us[i + 1]? = some z' := ⟨_, List.getElem?_eq_getElem (by omega)⟩
            have hT' : (us.map (·.2))[i + 1]? = some z'.2 := by rw [List.getElem?_map, hz']; rfl
            obtain ⟨b', eb', cb'⟩ := (hus z' (List.mem_of_getElem? hz')).k k67.t0
            have vz : atI (us.map zv) ((i : Int) + 1) = some (V.ref z'.1) := by
              have : ((i : Int) + 1) = ((i + 1 : Nat) : Int) := by omega
              rw [this]
              exact atI_nat (by rw [List.getElem?_map, hz']; rfl)
            try refine r_iteF (by rw [lum]; omega) ?_
            walk_at "sts"
            refine ⟨b, b', _, _, g, rfl, hg, cb6, cb', ?_⟩
            walk_at "sts"
            refine r_iteN (fun c2 => ?_) (fun c2 => ?_)
            · walk_at "sts"
              intro u nu
              have k8 : Keep [] H6 (upd H6 u (.tup [.ref b, .int (d + z.2.2)])) := Keep.new nu
              have e8 : upd H6 u (.tup [.ref b, .int (d + z.2.2)]) u = some (.tup [.ref b, .int (d + z.2.2)]) := upd_same
              generalize upd H6 u (.tup [.ref b, .int (d + z.2.2)]) = H7 at k8 e8 ⊢
              walk_at "sts"
              first
                | exact fin _ H7 u k8 e8 fun u' hu e => c2 (sg_z.mpr (by rw [hT'] at hu; cases hu; exact e))
                | (refine r_app (k8 _ _ (by simp) eF6) (by rw [List.length_map]; exact lt_size (by omega)) ?_
                   walk_at "sts"
                   exact fin _ H7 u k8 e8 fun u' hu e => c2 (sg_z.mpr (by rw [hT'] at hu; cases hu; exact e)))
            · walk_at "sts"
              exact ⟨_, ds, D, _, _, _, _, by first | exact rfl | trivial, k67, eF6, hds6, I.skip hT hT' (sg_z.mp c2)⟩
        · rintro σ' H' ⟨d, ds, D, y5, y6, y7, y8, rfl, k6, eF, hds, I⟩
          rw [show (us.map zv).length = (us.map (·.2)).length by rw [List.length_map, List.length_map]] at I
          walk_at "sts"
          exact k F ds _ D H' (k04.trans k6) eF hds pmT I.fin
theorem ok_covL (T : Tx K mg) (G_stretch_between : FnOk P w K mg base CX0 1 T.f_stretch_between T.fd_stretch_between ["first", "second"] (spBet K)) (G_depths : FnOk P w K mg base CX0 11 T.f_depths T.fd_depths ["stretches"] (spDepL K)) : FnOk P w K mg base CX0 12 T.f_covered T.fd_covered ["stretches", "need"] (spCovL K) := by
  refine T.F_covered.ok sc_covered (fun vs H Q E h => ?_) (fun cdv A outer s H vs Q E hr h => ?_)
  · obtain ⟨p, as, rs, g, need, rfl, _⟩ := h; rfl
  · obtain ⟨p, as, rs, g, need, rfl, h1, hg, hp, har, hrs, lz, k⟩ := h
    refine ⟨_, (pss_cons (ps_set (i := 2) sc_covered.nd rfl (Or.inl rfl) (pe_lst pa_nil))
    (pss_cons (ps_set (i := 3) sc_covered.nd rfl (Or.inl rfl) pe_non)
    (pss_cons (ps_for PassesOwn.never rfl (pi_list (pe_call G_depths (hr.mono (by decide)) rfl T.g_depths T.F_depths.kp T.b_depths .nil pass0 (pa_cons (pv 0) pa_nil))) (pg_tup (n := 2) rfl (pgs_cons (pg_name (i := 4) sc_covered.nd rfl (Or.inl rfl)) (pgs_cons (pg_name (i := 5) sc_covered.nd rfl (Or.inl rfl)) pgs_nil)))
    (pss_one (ps_if (PW.pt (pw_and (pt_cmpR op_ge (pv 5) (pv 1) (nomark _)) (pw_and1 (pt_cmpR op_isNc (pv 3) pe_non (nomark _)))))
    (pss_one (ps_set (i := 3) sc_covered.nd rfl (Or.inl rfl) (pv 4)))
    (pss_one (ps_if (PW.pt (pw_and (pt_cmpR op_lt (pv 5) (pv 1) (nomark _)) (pw_and1 (pt_cmpR op_notNc (pv 3) pe_non (nomark _)))))
    (pss_cons (ps_expr (pe_bm PySem.F.plainAttrs_list PySem.F.slot_list_append PySem.F.type_list_append mt_append (pv 2) (pa_cons (pe_call G_stretch_between (hr.mono (by decide)) rfl T.g_stretch_between T.F_stretch_between.kp T.b_stretch_between .nil pass0 (pa_cons (pv 3) (pa_cons (pv 4) pa_nil))) pa_nil)))
    (pss_one (ps_set (i := 3) sc_covered.nd rfl (Or.inl rfl) pe_non)))
    pss_nil)))))
    (pss_one (ps_ret (pe_callTy call_tuple_of (by rfl) T.m_tuple (by decide +kernel) (pa_cons (pv 2) pa_nil))))))), ?_⟩
    walk_at "start"
    walk_at "sts"
    intro F nF
    have k0 : Keep [] H (upd H F (.lst [])) := Keep.new nF
    have e0 : upd H F (.lst []) F = some (.lst []) := upd_same
    generalize upd H F (.lst []) = H1 at k0 e0 ⊢
    walk_at "sts"
    refine ⟨p, as, rs, g, rfl, hg, k0 _ _ (by simp) hp, har.mono fun a x h => h.k k0.t0, hrs, lz, fun q ds T D H2 k2 eq hds pm hD => ?_⟩
    have e2 := k2 _ _ (by simp) e0
    have k02 := k0.trans k2
    have ld := hds.len
    have lD := hD.len
    have lT := pm.length_eq
    unfold steps at lT
    simp only [List.length_append, List.length_map] at lT
    have I0 := CovI.zero h1 hD
    refine forL_go (fun i σ' H' => ∃ (st : Option Int) (sv : V) (bs : List Addr) (L : List Iv) (y4 y5 : Option V), σ' = [some (.ref p), some (.int need), some (.ref F), some sv, y4, y5] ∧ Keep [] H H' ∧ KeepT H2 H' ∧ H' q = some (.lst (ds.map V.ref)) ∧ H' F = some (.lst (bs.map V.ref)) ∧ AllP (PcAt g H') bs L ∧ CovI T D need i st L ∧ ((st = none ∧ sv = .non) ∨ ∃ s b, st = some s ∧ sv = .ref b ∧ CutAt K g H' b s)) (sqL_of eq) ⟨none, .non, [], [], _, _, by first | exact rfl | trivial, k02, KeepT.refl _, eq, e2, True.intro, I0, .inl ⟨rfl, rfl⟩⟩ (fun i σ' H' _ h => by obtain ⟨_, _, _, _, _, _, _, _, _, e, _⟩ := h; exact sqL_of e) ?_ ?_
    · rintro i v σ' H' hv ⟨st, sv, bs, L, y4, y5, rfl, k3, t3, eq3, eF, hbs, I, hst⟩
      obtain ⟨a, ha, rfl⟩ := getRf hv
      obtain ⟨e, he, hea⟩ := hds.get ha
      have hi := (List.getElem?_eq_some_iff.mp he).1
      obtain ⟨b, eb, cb⟩ := hea.k t3
      have lb := hbs.len
      have lI := I.len
      have nFq : q ≠ F := fun e => by
        subst e; rw [e2] at eq
        have h := HO.lst.inj (Option.some.inj eq)
        have : ds = [] := List.map_eq_nil_iff.mp h.symm
        subst this; simp at ha
      refine r_gTup2 (sqT_of eb) ?_
      simp only [List.set_cons_zero, List.set_cons_succ]
      rcases hst with ⟨rfl, rfl⟩ | ⟨s0, b0, rfl, rfl, c0⟩
      · by_cases c : need ≤ e.2
        · walk_at "sts"
          try refine r_iteT (by omega) ?_
          walk_at "sts"
          exact ⟨some e.1, _, bs, L, _, _, by first | exact rfl | trivial, k3, t3, eq3, eF, hbs, I.begin_ hD he c, .inr ⟨e.1, b, rfl, rfl, cb⟩⟩
        · walk_at "sts"
          try refine r_iteF (by omega) ?_
          walk_at "sts"
          try refine r_iteT (by omega) ?_
          walk_at "sts"
          exact ⟨none, _, bs, L, _, _, by first | exact rfl | trivial, k3, t3, eq3, eF, hbs, I.stay0 hD he (by omega), .inl ⟨rfl, rfl⟩⟩
      · by_cases c : need ≤ e.2
        · walk_at "sts"
          try refine r_iteT (by omega) ?_
          walk_at "sts"
          try refine r_iteF (by omega) ?_
          walk_at "sts"
          exact ⟨some s0, _, bs, L, _, _, by first | exact rfl | trivial, k3, t3, eq3, eF, hbs, I.stay1 hD he c, .inr ⟨s0, b0, rfl, rfl, c0⟩⟩
        · walk_at "sts"
          try refine r_iteF (by omega) ?_
          walk_at "sts"
          try refine r_iteT (by omega) ?_
          walk_at "sts"
          refine ⟨b0, b, s0, e.1, g, rfl, hg, c0, cb, fun u H4 k4 hu => ?_⟩
          have eF4 := k4 _ _ (by simp) eF
          have t5 := (Keep.at (M := [F]) (p := F) (H := H4) (o := HO.lst (bs.map V.ref ++ [V.ref u])) (by simp)).t1 (noT_l eF4)
          have fin : ∃ (st : Option Int) (sv : V) (bs' : List Addr) (L : List Iv) (y4 y5 : Option V), [some (V.ref p), some (.int need), some (.ref F), some .non, some (.ref b), some (.int e.2)] = [some (.ref p), some (.int need), some (.ref F), some sv, y4, y5] ∧ Keep [] H (upd H4 F (.lst (bs.map V.ref ++ [V.ref u]))) ∧ KeepT H2 (upd H4 F (.lst (bs.map V.ref ++ [V.ref u]))) ∧ (upd H4 F (.lst (bs.map V.ref ++ [V.ref u]))) q = some (.lst (ds.map V.ref)) ∧ (upd H4 F (.lst (bs.map V.ref ++ [V.ref u]))) F = some (.lst (bs'.map V.ref)) ∧ AllP (PcAt g (upd H4 F (.lst (bs.map V.ref ++ [V.ref u])))) bs' L ∧ CovI T D need (i + 1) st L ∧ ((st = none ∧ sv = .non) ∨ ∃ s b, st = some s ∧ sv = .ref b ∧ CutAt K g (upd H4 F (.lst (bs.map V.ref ++ [V.ref u]))) b s) :=
            ⟨none, .non, bs ++ [u], _, _, _, rfl, (k3.trans k4).mut nF, (t3.trans k4.t0).trans t5, by rw [upd_ne nFq]; exact k4 _ _ (by simp) eq3, by rw [List.map_append]; exact upd_same, (hbs.mono fun a x h => (PcAt.k h k4.t0).k t5).snoc (hu.k t5), I.end_ hD he (by omega), .inl ⟨rfl, rfl⟩⟩
          simp at lI
          walk_at "sts"
          first
            | exact fin
            | (refine r_app eF4 (by rw [List.length_map]; exact lt_size (by omega)) ?_
               walk_at "sts"
               exact fin)
    · rintro σ' H' ⟨st, sv, bs, L, y4, y5, rfl, k3, t3, eq3, eF, hbs, I, hst⟩
      have lds : (ds.map V.ref).length = D.length := by rw [List.length_map]; exact ld
      rw [lds] at I
      have C := cov_fin (iv_lt hrs) pm hD h1 I
      walk_at "sts"
      refine ⟨F, _, rfl, .inl ⟨sqL_of eF, fun t nt => ?_⟩⟩
      have k4 : Keep [] H' (upd H' t (.tup (bs.map V.ref))) := Keep.new nt
      walk_at "sts"
      exact k t bs L _ (k3.trans k4) upd_same (hbs.mono fun a x h => PcAt.k h k4.t0) C
end
open PySem PySem.Spec PyProof.Rows L2 StX Pc
/-! ### uncovered, in_both, has_value -/
namespace Pc
theorem Unc.sm {L F : List Iv} (U : Unc BB L F) (h : ∀ q ∈ L, SmI q) : ∀ p ∈ F, SmI p := fun p m => by
  have bb := BB_big
  have lt := U.can.lt p m
  have r1 := (U.is p.1).mp ⟨p, m, Int.le_refl _, lt⟩
  have key : ∀ q ∈ L, (q.1 = -BB ∨ Sc q.1) ∧ (q.2 = BB ∨ Sc q.2) := fun q mq => h q mq
  obtain ⟨a, b⟩ := U.cut p m
  refine ⟨?_, ?_⟩
  · rcases a with a | ⟨q, mq, a⟩
    · exact .inl a
    · rcases (key q mq).2 with e | e
      · omega
      · right; rw [← a]; exact e
  · rcases b with b | ⟨q, mq, b⟩
    · exact .inl b
    · rcases (key q mq).1 with e | e
      · omega
      · right; rw [← b]; exact e
theorem Unc.all {L F : List Iv} (U : Unc BB L F) {G : Int → Prop} (g1 : G (-BB)) (g2 : G BB) (h : ∀ q ∈ L, G q.1 ∧ G q.2) : ∀ p ∈ F, G p.1 ∧ G p.2 := fun p m => by
  obtain ⟨a, b⟩ := U.cut p m
  refine ⟨?_, ?_⟩
  · rcases a with a | ⟨q, mq, a⟩
    · rw [a]; exact g1
    · rw [← a]; exact (h q mq).2
  · rcases b with b | ⟨q, mq, b⟩
    · rw [b]; exact g2
    · rw [← b]; exact (h q mq).1
theorem iv_all {L : List Iv} (h : ∀ q ∈ L, SmI q) : (L.map rwOf).map iv = L := by
  rw [List.map_map]
  conv => rhs; rw [← List.map_id L]
  refine List.map_congr_left fun q m => ?_
  exact (iv_rw (h q m)).1
theorem good_rw {p : Iv} (h : SmI p) (l : p.1 < p.2) : SmR (rwOf p) ∧ Good (rwOf p) := by
  have e := iv_rw h
  refine ⟨sm_rw h, e.2.1, ?_⟩
  have : (iv (rwOf p)).1 < (iv (rwOf p)).2 := by rw [e.1]; exact l
  exact this
end Pc
theorem PcAt.all {g : Int} {H : Hp} {as : List Addr} {L : List Iv} (h : AllP (PcAt g H) as L) : AllP (RwAt g H) as (L.map rwOf) := AllP.map (P := PcAt g H) (f := rwOf) (fun _ _ x => x) h
def spUnc (K : PySem.W.Frag) : Sp := fun vs H Q _ => ∃ (p : Addr) (as : List Addr) (L : List Iv) (g : Int), vs = [.ref p] ∧ GOk g ∧ H p = some (.tup (as.map V.ref)) ∧ AllP (PcAt g H) as L ∧ (∀ q ∈ L, SmI q) ∧ Can L ∧ L.length ≤ 24 ∧ ∀ o bs F H', Keep [] H H' → H' o = some (.tup (bs.map V.ref)) → AllP (PcAt g H') bs F → Unc BB L F → Q (.ref o) H'
def spBoth (K : PySem.W.Frag) : Sp := fun vs H Q _ => ∃ (p q : Addr) (as bs : List Addr) (L M : List Iv) (g : Int), vs = [.ref p, .ref q] ∧ GOk g ∧ H p = some (.tup (as.map V.ref)) ∧ H q = some (.tup (bs.map V.ref)) ∧ AllP (PcAt g H) as L ∧ AllP (PcAt g H) bs M ∧ (∀ q ∈ L ++ M, SmI q ∧ q.1 < q.2) ∧ L.length + M.length ≤ 24 ∧ ∀ o cs F H', Keep [] H H' → H' o = some (.tup (cs.map V.ref)) → AllP (PcAt g H') cs F → CovN (L ++ M) 2 F → Q (.ref o) H'
def spHas (K : PySem.W.Frag) : Sp := fun vs H Q _ => ∃ (a v : Addr) (p : Iv) (t g : Int), vs = [.ref a, .ref v] ∧ GOk g ∧ PcAt g H a p ∧ SmI p ∧ PairAt g H v t ∧ Sm t ∧ ∀ H', Keep [] H H' → Q (.bl (decide (p.1 ≤ 2 * t ∧ 2 * t < p.2))) H'
section
variable {P : Program} {w : World} {K : PySem.W.Frag} {mg : Str → Option Value} {base : Heap}
theorem top_cut (T : Tx K mg) {g : Int} (hg : GOk g) {H : Hp} : CutAt K g H T.a_TOP BB ∧ CutAt K g H T.a_BOTTOM (-BB) := by
  refine ⟨⟨T.b_TOP_1, 1, 0, 0, .inr T.t_TOP, .inr ?_, .inr (.inl ⟨rfl, rfl, rfl, rfl⟩), fun h => absurd h (by decide)⟩, ⟨T.b_BOTTOM_1, -1, 0, 0, .inr T.t_BOTTOM, .inr ?_, .inl ⟨rfl, rfl, rfl, rfl⟩, fun h => absurd h (by decide)⟩⟩
  · unfold loP
    rw [(lowT_z hg.pos).1, (lowT_z hg.pos).2]
    exact T.u_TOP_1
  · unfold loP
    rw [(lowT_z hg.pos).1, (lowT_z hg.pos).2]
    exact T.u_BOTTOM_1
theorem ok_unc (T : Tx K mg) (G_compare_cuts : FnOk P w K mg base CX0 2 T.f_compare_cuts T.fd_compare_cuts ["first", "second"] (spCC K)) (G_low_cut : FnOk P w K mg base CX0 1 T.f_low_cut T.fd_low_cut ["stretch"] (spLoC K loC)) (G_high_cut : FnOk P w K mg base CX0 1 T.f_high_cut T.fd_high_cut ["stretch"] (spLoC K hiC)) (G_stretch_between : FnOk P w K mg base CX0 1 T.f_stretch_between T.fd_stretch_between ["first", "second"] (spBet K)) : FnOk P w K mg base CX0 3 T.f_uncovered T.fd_uncovered ["parts"] (spUnc K) := by
  refine T.F_uncovered.ok sc_uncovered (fun vs H Q E h => ?_) (fun cdv A outer s H vs Q E hr h => ?_)
  · obtain ⟨p, as, rs, g, rfl, _⟩ := h; rfl
  · obtain ⟨p, as, L, g, rfl, hg, hp, har, hL, can, lz, k⟩ := h
    have bb := BB_big
    have hb : ∀ q ∈ L, -BB ≤ q.1 ∧ q.2 ≤ BB := fun q m => by
      obtain ⟨h1, h2⟩ := hL q m
      exact ⟨by rcases h1 with e | e <;> omega, by rcases h2 with e | e <;> omega⟩
    refine ⟨_, (pss_cons (ps_set (i := 1) sc_uncovered.nd rfl (Or.inl rfl) (pe_lst pa_nil))
    (pss_cons (ps_set (i := 2) sc_uncovered.nd rfl (Or.inl rfl) (pe_glob (v := .ref T.a_BOTTOM) rfl T.c_BOTTOM rfl))
    (pss_cons (ps_for PassesOwn.never rfl (pi_tup (pv 0)) (pg_name (i := 3) sc_uncovered.nd rfl (Or.inl rfl))
    (pss_cons (ps_if (pt_cmpR op_lt (pe_call G_compare_cuts (hr.mono (by decide)) rfl T.g_compare_cuts T.F_compare_cuts.kp T.b_compare_cuts .nil pass0 (pa_cons (pv 2) (pa_cons (pe_call G_low_cut (hr.mono (by decide)) rfl T.g_low_cut T.F_low_cut.kp T.b_low_cut .nil pass0 (pa_cons (pv 3) pa_nil)) pa_nil))) pe_int (nomark _))
    (pss_one (ps_expr (pe_bm PySem.F.plainAttrs_list PySem.F.slot_list_append PySem.F.type_list_append mt_append (pv 1) (pa_cons (pe_call G_stretch_between (hr.mono (by decide)) rfl T.g_stretch_between T.F_stretch_between.kp T.b_stretch_between .nil pass0 (pa_cons (pv 2) (pa_cons (pe_call G_low_cut (hr.mono (by decide)) rfl T.g_low_cut T.F_low_cut.kp T.b_low_cut .nil pass0 (pa_cons (pv 3) pa_nil)) pa_nil))) pa_nil))))
    pss_nil)
    (pss_one (ps_set (i := 2) sc_uncovered.nd rfl (Or.inl rfl) (pe_call G_high_cut (hr.mono (by decide)) rfl T.g_high_cut T.F_high_cut.kp T.b_high_cut .nil pass0 (pa_cons (pv 3) pa_nil))))))
    (pss_cons (ps_if (pt_cmpR op_lt (pe_call G_compare_cuts (hr.mono (by decide)) rfl T.g_compare_cuts T.F_compare_cuts.kp T.b_compare_cuts .nil pass0 (pa_cons (pv 2) (pa_cons (pe_glob (v := .ref T.a_TOP) rfl T.c_TOP rfl) pa_nil))) pe_int (nomark _))
    (pss_one (ps_expr (pe_bm PySem.F.plainAttrs_list PySem.F.slot_list_append PySem.F.type_list_append mt_append (pv 1) (pa_cons (pe_call G_stretch_between (hr.mono (by decide)) rfl T.g_stretch_between T.F_stretch_between.kp T.b_stretch_between .nil pass0 (pa_cons (pv 2) (pa_cons (pe_glob (v := .ref T.a_TOP) rfl T.c_TOP rfl) pa_nil))) pa_nil))))
    pss_nil)
    (pss_one (ps_ret (pe_callTy call_tuple_of (by rfl) T.m_tuple (by decide +kernel) (pa_cons (pv 1) pa_nil)))))))), ?_⟩
    walk_at "start"
    walk_at "sts"
    intro F nF
    have k0 : Keep [] H (upd H F (.lst [])) := Keep.new nF
    have e0 : upd H F (.lst []) F = some (.lst []) := upd_same
    generalize upd H F (.lst []) = H1 at k0 e0 ⊢
    walk_at "sts"
    have la := har.len
    have put : ∀ {H2 H3 : Hp} {bs : List Addr} {G : List Iv} {u : Addr} {x : Iv}, Keep [] H H2 → AllP (PcAt g H2) bs G → H2 F = some (.lst (bs.map V.ref)) → Keep [] H2 H3 → PcAt g H3 u x → Keep [] H (upd H3 F (.lst (bs.map V.ref ++ [V.ref u]))) ∧ (upd H3 F (.lst (bs.map V.ref ++ [V.ref u]))) F = some (.lst ((bs ++ [u]).map V.ref)) ∧ AllP (PcAt g (upd H3 F (.lst (bs.map V.ref ++ [V.ref u])))) (bs ++ [u]) (G ++ [x]) ∧ KeepT H3 (upd H3 F (.lst (bs.map V.ref ++ [V.ref u]))) := by
      intro H2 H3 bs G u x k2 hbs eF k3 hu
      have t5 := (Keep.at (M := [F]) (p := F) (H := H3) (o := HO.lst (bs.map V.ref ++ [V.ref u])) (by simp)).t1 (noT_l (k3 _ _ (by simp) eF))
      exact ⟨(k2.trans k3).mut nF, by rw [List.map_append]; exact upd_same, (hbs.mono fun a x h => (PcAt.k h k3.t0).k t5).snoc (hu.k t5), t5⟩
    refine forT_go (fun i σ' H' => ∃ (s : Int) (sa : Addr) (bs : List Addr) (G : List Iv) (y3 : Option V), σ' = [some (.ref p), some (.ref F), some (.ref sa), y3] ∧ Keep [] H H' ∧ H' F = some (.lst (bs.map V.ref)) ∧ AllP (PcAt g H') bs G ∧ CutAt K g H' sa s ∧ UncI BB L i s G) (sqT_of (k0 _ _ (by simp) hp)) ⟨_, _, [], [], _, by first | exact rfl | trivial, k0, e0, True.intro, (top_cut T hg).2, UncI.zero (by omega) hb⟩ (fun i σ' H' _ h => by obtain ⟨_, _, _, _, _, _, k, _⟩ := h; exact sqT_of (k _ _ (by simp) hp)) ?_ ?_
    · rintro i v σ' H2 hv ⟨s, sa, bs, G, y3, rfl, k2, eF, hbs, cs, I⟩
      obtain ⟨a, ha, rfl⟩ := getRf hv
      obtain ⟨q, hq, hqa⟩ := har.get ha
      have mq := List.mem_of_getElem? hq
      have hi := (List.getElem?_eq_some_iff.mp hq).1
      have sq := hL q mq
      have eq := iv_rw sq
      have eq1 : loC (rwOf q) = q.1 := congrArg Prod.fst eq.1
      have eq2 : hiC (rwOf q) = q.2 := congrArg Prod.snd eq.1
      have lb := hbs.len
      have lI := I.len
      have hq2 : RwAt g H2 a (rwOf q) := RwAt.k hqa k2.t0
      walk_at "sts"
      refine ⟨a, _, g, rfl, hg, hq2, sm_rw sq, fun c1 H3 k3 hc1 => ?_⟩
      rw [eq1] at hc1
      walk_at "sts"
      refine ⟨sa, c1, s, q.1, g, rfl, hg, cs.k k3.t0, hc1, ?_⟩
      walk_at "sts"
      refine r_ite (fun c => ?_) (fun c => ?_)
      · walk_at "sts"
        refine ⟨a, _, g, rfl, hg, hq2.k k3.t0, sm_rw sq, fun c2 H4 k4 hc2 => ?_⟩
        rw [eq1] at hc2
        walk_at "sts"
        refine ⟨sa, c2, s, q.1, g, rfl, hg, cs.k (k3.trans k4).t0, hc2, fun u H5 k5 hu => ?_⟩
        have k35 := (k3.trans k4).trans k5
        have pt := put k2 hbs eF k35 hu
        have nx := I.put can hb hq (sg_lt.mp c)
        walk_at "sts"
        try (refine r_app (k35 _ _ (by simp) eF) (by rw [List.length_map]; exact lt_size (by omega)) ?_; walk_at "sts")
        refine ⟨a, _, g, rfl, hg, (hq2.k k35.t0).k pt.2.2.2, sm_rw sq, fun c3 H6 k6 hc3 => ?_⟩
        rw [eq2] at hc3
        walk_at "sts"
        exact ⟨q.2, c3, bs ++ [u], _, _, by first | exact rfl | trivial, pt.1.trans k6, k6 _ _ (by simp) pt.2.1, pt.2.2.1.mono fun a x h => PcAt.k h k6.t0, hc3, nx⟩
      · walk_at "sts"
        refine ⟨a, _, g, rfl, hg, hq2.k k3.t0, sm_rw sq, fun c3 H6 k6 hc3 => ?_⟩
        rw [eq2] at hc3
        walk_at "sts"
        exact ⟨q.2, c3, bs, _, _, by first | exact rfl | trivial, (k2.trans k3).trans k6, (k3.trans k6) _ _ (by simp) eF, hbs.mono fun a x h => PcAt.k h (k3.trans k6).t0, hc3, I.skip can hb hq (fun e => c (sg_lt.mpr e))⟩
    · rintro σ' H2 ⟨s, sa, bs, G, y3, rfl, k2, eF, hbs, cs, I⟩
      have lm : (as.map V.ref).length = L.length := by rw [List.length_map]; exact la
      rw [lm] at I
      have lb := hbs.len
      have lI := I.len
      walk_at "sts"
      refine ⟨sa, T.a_TOP, s, BB, g, rfl, hg, cs, (top_cut T hg).1, ?_⟩
      walk_at "sts"
      refine r_ite (fun c => ?_) (fun c => ?_)
      · walk_at "sts"
        refine ⟨sa, T.a_TOP, s, BB, g, rfl, hg, cs, (top_cut T hg).1, fun u H3 k3 hu => ?_⟩
        have pt := put k2 hbs eF k3 hu
        walk_at "sts"
        try (refine r_app (k3 _ _ (by simp) eF) (by rw [List.length_map]; exact lt_size (by omega)) ?_; walk_at "sts")
        refine ⟨F, _, rfl, .inl ⟨sqL_of pt.2.1, fun t nt => ?_⟩⟩
        walk_at "sts"
        exact k t _ _ _ (pt.1.trans (Keep.new nt)) upd_same (pt.2.2.1.mono fun a x h => PcAt.k h (Keep.new nt : Keep [] _ _).t0) (I.fin1 (sg_lt.mp c))
      · walk_at "sts"
        refine ⟨F, _, rfl, .inl ⟨sqL_of eF, fun t nt => ?_⟩⟩
        walk_at "sts"
        exact k t _ _ _ (k2.trans (Keep.new nt)) upd_same (hbs.mono fun a x h => PcAt.k h (Keep.new nt : Keep [] _ _).t0) (I.fin0 fun e => c (sg_lt.mpr e))
theorem r_star {K : PySem.W.Frag} {te : TE} {t : TA} {σ : L2.St} {H : Hp} {Q : List V → Hp → Prop} (k : te σ H fun x H1 => ∃ p xs, x = V.ref p ∧ (SqT K H1 p xs ∨ SqL K H1 p xs) ∧ t σ H1 fun ys H2 => Q (xs ++ ys) H2) : tStar K te t σ H Q := k
theorem ok_both (T : Tx K mg) (G_covered : FnOk P w K mg base CX0 12 T.f_covered T.fd_covered ["stretches", "need"] (spCovL K)) : FnOk P w K mg base CX0 13 T.f_in_both T.fd_in_both ["first", "second"] (spBoth K) := by
  refine T.F_in_both.ok sc_in_both (fun vs H Q E h => ?_) (fun cdv A outer s H vs Q E hr h => ?_)
  · obtain ⟨p, q, as, bs, L, M, g, rfl, _⟩ := h; rfl
  · obtain ⟨p, q, as, bs, L, M, g, rfl, hg, hp, hq, ha, hb, hs, lz, k⟩ := h
    have la := ha.len
    have lb := hb.len
    refine ⟨_, (pss_one (ps_ret (pe_call G_covered (hr.mono (by decide)) rfl T.g_covered T.F_covered.kp T.b_covered .nil pass0 (pa_cons (pe_lst (Dt.pa_starK (K := K) rfl (pv 0) (Dt.pa_starK (K := K) rfl (pv 1) pa_nil))) (pa_cons pe_int pa_nil))))), ?_⟩
    walk_at "start"
    walk_at "sts"
    refine r_star ?_
    walk_at "sts"
    refine ⟨p, _, rfl, .inl (sqT_of hp), ?_⟩
    refine r_star ?_
    walk_at "sts"
    refine ⟨q, _, rfl, .inl (sqT_of hq), ?_⟩
    walk_at "sts"
    rw [List.append_nil, ← List.map_append]
    refine ⟨le_size (by rw [List.length_map, List.length_append]; omega), fun u nu => ?_⟩
    have k1 : Keep [] H (upd H u (.lst ((as ++ bs).map V.ref))) := Keep.new nu
    have e1 : upd H u (.lst ((as ++ bs).map V.ref)) u = some (.lst ((as ++ bs).map V.ref)) := upd_same
    generalize upd H u (.lst ((as ++ bs).map V.ref)) = H1 at k1 e1 ⊢
    walk_at "sts"
    have all : AllP (RwAt g H1) (as ++ bs) ((L ++ M).map rwOf) := PcAt.all ((ha.app hb).mono fun a x h => PcAt.k h k1.t0)
    refine ⟨u, as ++ bs, (L ++ M).map rwOf, g, 2, rfl, by decide, hg, e1, all, fun r m => ?_, by rw [List.length_map, List.length_append]; omega, fun o cs F H2 k2 eo hcs C => ?_⟩
    · obtain ⟨x, mx, rfl⟩ := List.mem_map.mp m
      exact good_rw (hs x mx).1 (hs x mx).2
    · rw [iv_all fun x m => (hs x m).1] at C
      exact k o cs F H2 (k1.trans k2) eo hcs C
theorem ok_has (T : Tx K mg) (G_compare_cuts : FnOk P w K mg base CX0 2 T.f_compare_cuts T.fd_compare_cuts ["first", "second"] (spCC K)) (G_low_cut : FnOk P w K mg base CX0 1 T.f_low_cut T.fd_low_cut ["stretch"] (spLoC K loC)) (G_high_cut : FnOk P w K mg base CX0 1 T.f_high_cut T.fd_high_cut ["stretch"] (spLoC K hiC)) : FnOk P w K mg base CX0 3 T.f_has_value T.fd_has_value ["part", "value"] (spHas K) := by
  refine T.F_has_value.ok sc_has_value (fun vs H Q E h => ?_) (fun cdv A outer s H vs Q E hr h => ?_)
  · obtain ⟨a, v, p, t, g, rfl, _⟩ := h; rfl
  · obtain ⟨a, v, p, t, g, rfl, hg, ha, sp, hv, st, k⟩ := h
    have e := iv_rw sp
    have e1 : loC (rwOf p) = p.1 := congrArg Prod.fst e.1
    have e2 : hiC (rwOf p) = p.2 := congrArg Prod.snd e.1
    refine ⟨_, (pss_cons (ps_par (i := 2) (j := 3) (by rfl) sc_has_value.nd rfl rfl (by decide) rfl rfl (pa_cons (pe_tup (pa_cons pe_int (pa_cons (pv 1) (pa_cons pe_int pa_nil)))) (pa_cons (pe_tup (pa_cons pe_int (pa_cons (pv 1) (pa_cons pe_int pa_nil)))) pa_nil)) (by rfl))
    (pss_one (ps_ret (pe_and (pe_cmpR op_le (pe_call G_compare_cuts (hr.mono (by decide)) rfl T.g_compare_cuts T.F_compare_cuts.kp T.b_compare_cuts .nil pass0 (pa_cons (pe_call G_low_cut (hr.mono (by decide)) rfl T.g_low_cut T.F_low_cut.kp T.b_low_cut .nil pass0 (pa_cons (pv 0) pa_nil)) (pa_cons (pv 2) pa_nil))) pe_int (nomark _)) (pe_one (pe_cmpR op_le (pe_call G_compare_cuts (hr.mono (by decide)) rfl T.g_compare_cuts T.F_compare_cuts.kp T.b_compare_cuts .nil pass0 (pa_cons (pv 3) (pa_cons (pe_call G_high_cut (hr.mono (by decide)) rfl T.g_high_cut T.F_high_cut.kp T.b_high_cut .nil pass0 (pa_cons (pv 0) pa_nil)) pa_nil))) pe_int (nomark _))))))), ?_⟩
    walk_at "start"
    walk_at "sts"
    intro u nu
    have k1 : Keep [] H (upd H u (.tup [.int 0, .ref v, .int 0])) := Keep.new nu
    have eu : upd H u (.tup [.int 0, .ref v, .int 0]) u = some (.tup [.int 0, .ref v, .int 0]) := upd_same
    generalize upd H u (.tup [.int 0, .ref v, .int 0]) = H1 at k1 eu ⊢
    walk_at "sts"
    intro u' nu'
    have k2 : Keep [] H1 (upd H1 u' (.tup [.int 0, .ref v, .int 1])) := Keep.new nu'
    have eu' : upd H1 u' (.tup [.int 0, .ref v, .int 1]) u' = some (.tup [.int 0, .ref v, .int 1]) := upd_same
    generalize upd H1 u' (.tup [.int 0, .ref v, .int 1]) = H2 at k2 eu' ⊢
    have k12 := k1.trans k2
    have hv2 : PairAt g H2 v t := k12 _ _ (by simp) hv
    have cu : CutAt K g H2 u (2 * t) := ⟨v, 0, t, 0, .inl (k2 _ _ (by simp) eu), .inl hv2, .inr (.inr ⟨rfl, .inl rfl, st, by omega⟩), fun _ => hv2⟩
    have cu' : CutAt K g H2 u' (2 * t + 1) := ⟨v, 0, t, 1, .inl eu', .inl hv2, .inr (.inr ⟨rfl, .inr rfl, st, by omega⟩), fun _ => hv2⟩
    walk_at "sts"
    refine ⟨a, _, g, rfl, hg, RwAt.k ha k12.t0, sm_rw sp, fun c1 H3 k3 hc1 => ?_⟩
    rw [e1] at hc1
    walk_at "sts"
    refine ⟨c1, u, p.1, 2 * t, g, rfl, hg, hc1, cu.k k3.t0, ?_⟩
    walk_at "sts"
    refine r_ite (fun c => ?_) (fun c => ?_)
    · walk_at "sts"
      refine ⟨a, _, g, rfl, hg, RwAt.k ha (k12.trans k3).t0, sm_rw sp, fun c2 H4 k4 hc2 => ?_⟩
      rw [e2] at hc2
      walk_at "sts"
      refine ⟨u', c2, 2 * t + 1, p.2, g, rfl, hg, cu'.k (k3.trans k4).t0, hc2, ?_⟩
      walk_at "sts"
      have : decide (sg (2 * t + 1) p.2 ≤ 0) = decide (p.1 ≤ 2 * t ∧ 2 * t < p.2) := by
        refine decide_eq_decide.mpr ?_
        rw [sg_le]
        have := sg_le.mp c
        omega
      rw [this]
      exact k _ ((k12.trans k3).trans k4)
    · walk_at "sts"
      have : false = decide (p.1 ≤ 2 * t ∧ 2 * t < p.2) := (decide_eq_false fun z => c (sg_le.mpr z.1)).symm
      rw [this]
      exact k _ (k12.trans k3)
end
open PySem PySem.Spec PyProof.Rows L2 StX Pc
/-! ### stretches written, a value of a stretch -/
def numT (i : Int) : Str := Str.ofString (toString i)
def ratT (a b : Int) : Str := if b = 1 then numT a else numT a ++ Str.ofString "/" ++ numT b
def endT (g : Int) (o : Option Int) : Str := match o with
  | none => Str.ofString ".."
  | some t => ratT (lowT t g) (lowB t g)
def rwT (g : Int) (r : Rw) : Str := (if r.2.1 = true then Str.ofString "[" else Str.ofString "(") ++ endT g r.1 ++ Str.ofString ", " ++ endT g r.2.2.1 ++ (if r.2.2.2 = true then Str.ofString "]" else Str.ofString ")")
def pcsT (g : Int) (L : List Iv) : Str := if L.length = 0 then Str.ofString "none" else Txt.join (Str.ofString " ") (L.map fun p => rwT g (rwOf p))
theorem num_len {i : Int} (h : i.natAbs < 2 ^ 300) : (numT i).length ≤ 400 := by
  have := int_text_length_le (a := i) (k := 300) (by decide) (log2_of h (by decide))
  unfold numT
  rw [PySem.ofString_length]; omega
theorem num_log {i : Int} (h : i.natAbs < 2 ^ 300) : i.natAbs.log2 < 1920 := log2_of (Nat.lt_of_lt_of_le h (Nat.pow_le_pow_right (by decide) (by decide : 300 ≤ 1920))) (by decide)
theorem one_len : (Str.ofString "/").length = 1 ∧ (Str.ofString "[").length = 1 ∧ (Str.ofString "(").length = 1 ∧ (Str.ofString "]").length = 1 ∧ (Str.ofString ")").length = 1 ∧ (Str.ofString ", ").length = 2 ∧ (Str.ofString "..").length = 2 ∧ (Str.ofString "none").length = 4 ∧ (Str.ofString " ").length = 1 := by decide +kernel
theorem rat_len {a b : Int} (h1 : a.natAbs < 2 ^ 300) (h2 : b.natAbs < 2 ^ 300) : (ratT a b).length ≤ 801 := by
  have := num_len h1
  have := num_len h2
  have := one_len.1
  unfold ratT
  split
  · omega
  · rw [Str.length_append, Str.length_append]; omega
def SmO' (o : Option Int) : Prop := ∀ t, o = some t → Sm t
theorem end_len {g : Int} (hg : GOk g) {o : Option Int} (h : SmO o) : (endT g o).length ≤ 801 := by
  cases o with
  | none => have := one_len.2.2.2.2.2.2.1; show (Str.ofString "..").length ≤ 801; omega
  | some t => have := sm_lo (h t rfl) hg; exact rat_len this.1 this.2.1
theorem rw_len {g : Int} (hg : GOk g) {r : Rw} (h : SmR r) : (rwT g r).length ≤ 2000 := by
  have a := end_len hg h.1
  have b := end_len hg h.2
  obtain ⟨_, o1, o2, o3, o4, o5, _⟩ := one_len
  unfold rwT
  rw [Str.length_append, Str.length_append, Str.length_append, Str.length_append]
  split <;> split <;> omega
def spWR : Sp := fun vs H Q _ => ∃ (p : Addr) (a b : Int), vs = [.ref p] ∧ H p = some (.tup [.int a, .int b]) ∧ a.natAbs < 2 ^ 300 ∧ b.natAbs < 2 ^ 300 ∧ Q (.str (ratT a b)) H
def spWP : Sp := fun vs H Q _ => ∃ (p : Addr) (r : Rw) (g : Int), vs = [.ref p] ∧ GOk g ∧ RwAt g H p r ∧ SmR r ∧ Q (.str (rwT g r)) H
def spWPs : Sp := fun vs H Q _ => ∃ (p : Addr) (as : List Addr) (L : List Iv) (g : Int), vs = [.ref p] ∧ GOk g ∧ H p = some (.tup (as.map V.ref)) ∧ AllP (PcAt g H) as L ∧ (∀ q ∈ L, SmI q) ∧ L.length ≤ 24 ∧ ∀ H', Keep [] H H' → Q (.str (pcsT g L)) H'
def Ev (c : Int) : Prop := Sc c → c / 2 % 2 = 0
def spVal : Sp := fun vs H Q _ => ∃ (a : Addr) (p : Iv) (g : Int), vs = [.ref a] ∧ GOk g ∧ PcAt g H a p ∧ SmI p ∧ p.1 < p.2 ∧ Ev p.1 ∧ Ev p.2 ∧ ∀ (q : Addr) (t : Int) H', Keep [] H H' → PairAt g H' q t → p.1 ≤ 2 * t → 2 * t < p.2 → t.natAbs < 2 ^ 202 → Q (.ref q) H'
theorem plus_low {g t s : Int} (h : 0 < g) : lowT (fPlus (lowT t g) (lowB t g) (lowT s g) (lowB s g)).1 (fPlus (lowT t g) (lowB t g) (lowT s g) (lowB s g)).2 = lowT (t + s) g ∧ lowB (fPlus (lowT t g) (lowB t g) (lowT s g) (lowB s g)).1 (fPlus (lowT t g) (lowB t g) (lowT s g) (lowB s g)).2 = lowB (t + s) g := by
  have c1 := low_cross (t := t) (b := g)
  have c2 := low_cross (t := s) (b := g)
  have p1 := lowB_pos (t := t) h
  have p2 := lowB_pos (t := s) h
  refine low_eq (Int.mul_pos p1 p2) h ?_
  show (lowT t g * lowB s g + lowT s g * lowB t g) * g = (t + s) * (lowB t g * lowB s g)
  calc (lowT t g * lowB s g + lowT s g * lowB t g) * g = lowT t g * g * lowB s g + lowT s g * g * lowB t g := by rw [Int.add_mul]; congr 1 <;> ac_rfl
    _ = t * lowB t g * lowB s g + s * lowB s g * lowB t g := by rw [c1, c2]
    _ = _ := by rw [Int.add_mul]; congr 1 <;> ac_rfl
theorem plus_int {g t n : Int} (h : 0 < g) : lowT (fPlus (lowT t g) (lowB t g) n 1).1 (fPlus (lowT t g) (lowB t g) n 1).2 = lowT (t + n * g) g ∧ lowB (fPlus (lowT t g) (lowB t g) n 1).1 (fPlus (lowT t g) (lowB t g) n 1).2 = lowB (t + n * g) g := by
  have c1 := low_cross (t := t) (b := g)
  have p1 := lowB_pos (t := t) h
  refine low_eq (by show 0 < lowB t g * 1; omega) h ?_
  show (lowT t g * 1 + n * lowB t g) * g = (t + n * g) * (lowB t g * 1)
  rw [Int.mul_one, Int.mul_one]
  calc (lowT t g + n * lowB t g) * g = lowT t g * g + n * lowB t g * g := Int.add_mul ..
    _ = t * lowB t g + n * g * lowB t g := by rw [c1]; congr 1; ac_rfl
    _ = _ := (Int.add_mul ..).symm
theorem half_low {g t : Int} (h : 0 < g) : lowT (fTimes (lowT (2 * t) g) (lowB (2 * t) g) 1 2).1 (fTimes (lowT (2 * t) g) (lowB (2 * t) g) 1 2).2 = lowT t g ∧ lowB (fTimes (lowT (2 * t) g) (lowB (2 * t) g) 1 2).1 (fTimes (lowT (2 * t) g) (lowB (2 * t) g) 1 2).2 = lowB t g := by
  have c1 := low_cross (t := 2 * t) (b := g)
  have p1 := lowB_pos (t := 2 * t) h
  refine low_eq (by show 0 < lowB (2 * t) g * 2; omega) h ?_
  show lowT (2 * t) g * 1 * g = t * (lowB (2 * t) g * 2)
  rw [Int.mul_one, c1]
  calc 2 * t * lowB (2 * t) g = t * (lowB (2 * t) g * 2) := by ac_rfl
    _ = _ := rfl
section
variable {P : Program} {w : World} {K : PySem.W.Frag} {mg : Str → Option Value} {base : Heap}
theorem ok_wr (T : Tx K mg) : FnOk P w K mg base CX0 1 T.f_write_ratio T.fd_write_ratio ["value"] spWR := by
  refine T.F_write_ratio.ok sc_write_ratio (fun vs H Q E h => ?_) (fun cdv A outer s H vs Q E hr h => ?_)
  · obtain ⟨p, a, b, rfl, _⟩ := h; rfl
  · obtain ⟨p, a, b, rfl, hp, za, zb, k⟩ := h
    have l1 := num_len za
    have l2 := num_len zb
    have l0 := one_len.1
    refine ⟨_, (pss_cons (ps_asg (pv 0) (pg_tup (n := 2) rfl (pgs_cons (pg_name (i := 1) sc_write_ratio.nd rfl (Or.inl rfl)) (pgs_cons (pg_name (i := 2) sc_write_ratio.nd rfl (Or.inl rfl)) pgs_nil))))
    (pss_one (ps_ret (pe_ifExp (pt_cmpR op_eq (pv 2) pe_int (nomark _)) (pe_callTy call_str_int (by rfl) T.m_str (by decide +kernel) (pa_cons (pv 1) pa_nil)) (pe_joined (.cons (pe_fmt (pv 1)) (.cons pe_str (.cons (pe_fmt (pv 2)) .nil)))))))), ?_⟩
    walk_at "start"
    walk_at "sts"
    unfold ratT at k
    refine r_ite (fun c => ?_) (fun c => ?_)
    · rw [if_pos c] at k
      walk_at "sts"
      first | exact ⟨_, rfl, num_log za, k⟩ | exact ⟨num_log za, k⟩ | exact r_strI (num_log za) k
    · rw [if_neg c] at k
      walk_at "sts"
      refine .inr ⟨a, rfl, num_log za, ?_⟩
      refine r_jsS (le_size (by rw [Wr.emp_app]; unfold numT at l1; omega)) ?_
      rw [Wr.emp_app]
      walk_at "sts"
      refine r_jsS (le_size (by rw [Str.length_append]; unfold numT at l1; omega)) ?_
      walk_at "sts"
      refine .inr ⟨b, rfl, num_log zb, ?_⟩
      refine r_jsS (le_size (by rw [Str.length_append, Str.length_append]; unfold numT at l1 l2; omega)) ?_
      walk_at "sts"
      exact k
theorem ok_wp (T : Tx K mg) (G_write_ratio : FnOk P w K mg base CX0 1 T.f_write_ratio T.fd_write_ratio ["value"] spWR) : FnOk P w K mg base CX0 2 T.f_write_piece T.fd_write_piece ["part"] spWP := by
  refine T.F_write_piece.ok sc_write_piece (fun vs H Q E h => ?_) (fun cdv A outer s H vs Q E hr h => ?_)
  · obtain ⟨p, r, g, rfl, _⟩ := h; rfl
  · obtain ⟨p, ⟨lo, li, hi, hin⟩, g, rfl, hg, ⟨x, y, ep, h1, h2⟩, sm, k⟩ := h
    have l1 := end_len hg sm.1
    have l2 := end_len hg sm.2
    obtain ⟨_, o1, o2, o3, o4, o5, o6, _⟩ := one_len
    have r1 := fun t (st : Sm t) => rat_len (sm_lo st hg).1 (sm_lo st hg).2.1
    have hx : (x = .non ∧ lo = none) ∨ (∃ pp t, x = .ref pp ∧ lo = some t ∧ PairAt g H pp t ∧ Sm t) := by
      cases lo with
      | none => exact .inl ⟨h1, rfl⟩
      | some t => obtain ⟨pp, e, h⟩ := h1; exact .inr ⟨pp, t, e, rfl, h, sm.1 t rfl⟩
    have hy : (y = .non ∧ hi = none) ∨ (∃ pp t, y = .ref pp ∧ hi = some t ∧ PairAt g H pp t ∧ Sm t) := by
      cases hi with
      | none => exact .inl ⟨h2, rfl⟩
      | some t => obtain ⟨pp, e, h⟩ := h2; exact .inr ⟨pp, t, e, rfl, h, sm.2 t rfl⟩
    clear h1 h2
    refine ⟨_, (pss_cons (ps_asg (pv 0) (pg_tup (n := 4) rfl (pgs_cons (pg_name (i := 1) sc_write_piece.nd rfl (Or.inl rfl)) (pgs_cons (pg_name (i := 2) sc_write_piece.nd rfl (Or.inl rfl)) (pgs_cons (pg_name (i := 3) sc_write_piece.nd rfl (Or.inl rfl)) (pgs_cons (pg_name (i := 4) sc_write_piece.nd rfl (Or.inl rfl)) pgs_nil))))))
    (pss_cons (ps_set (i := 5) sc_write_piece.nd rfl (Or.inl rfl) (pe_ifExp (pt_val (pv 2)) pe_str pe_str))
    (pss_cons (ps_set (i := 6) sc_write_piece.nd rfl (Or.inl rfl) (pe_ifExp (pt_val (pv 4)) pe_str pe_str))
    (pss_cons (ps_set (i := 7) sc_write_piece.nd rfl (Or.inl rfl) (pe_ifExp (pt_cmpR op_isNc (pv 1) pe_non (nomark _)) pe_str (pe_call G_write_ratio (hr.mono (by decide)) rfl T.g_write_ratio T.F_write_ratio.kp T.b_write_ratio .nil pass0 (pa_cons (pv 1) pa_nil))))
    (pss_cons (ps_set (i := 8) sc_write_piece.nd rfl (Or.inl rfl) (pe_ifExp (pt_cmpR op_isNc (pv 3) pe_non (nomark _)) pe_str (pe_call G_write_ratio (hr.mono (by decide)) rfl T.g_write_ratio T.F_write_ratio.kp T.b_write_ratio .nil pass0 (pa_cons (pv 3) pa_nil))))
    (pss_one (ps_ret (pe_joined (.cons (pe_fmt (pv 5)) (.cons (pe_fmt (pv 7)) (.cons pe_str (.cons (pe_fmt (pv 8)) (.cons (pe_fmt (pv 6)) .nil))))))))))))), ?_⟩
    walk_at "start"
    walk_at "sts"
    refine r_gTup4 (sqT_of ep) ?_
    simp only [List.set_cons_zero, List.set_cons_succ]
    have fin : ∀ (b1 b2 : Str), b1 = (if li = true then Str.ofString "[" else Str.ofString "(") → b2 = (if hin = true then Str.ofString "]" else Str.ofString ")") → Q (.str (b1 ++ endT g lo ++ Str.ofString ", " ++ endT g hi ++ b2)) H := by
      rintro b1 b2 rfl rfl; exact k
    have lb : ∀ {b1 : Str}, (b1 = Str.ofString "[" ∨ b1 = Str.ofString "(" ∨ b1 = Str.ofString "]" ∨ b1 = Str.ofString ")") → b1.length = 1 := by
      rintro b1 (rfl | rfl | rfl | rfl)
      · exact o1
      · exact o2
      · exact o3
      · exact o4
    rcases hx with ⟨rfl, rfl⟩ | ⟨pp, t, rfl, rfl, hp, st⟩ <;> rcases hy with ⟨rfl, rfl⟩ | ⟨pp', t', rfl, rfl, hp', st'⟩ <;> cases li <;> cases hin
    all_goals
      walk_at "sts"
      try (refine ⟨pp, _, _, rfl, hp, (sm_lo st hg).1, (sm_lo st hg).2.1, ?_⟩; walk_at "sts")
      try (refine ⟨pp', _, _, rfl, hp', (sm_lo st' hg).1, (sm_lo st' hg).2.1, ?_⟩; walk_at "sts")
      try have q1 := r1 t st
      try have q2 := r1 t' st'
      refine .inl ⟨_, rfl, le_size (by omega), ?_⟩
      refine r_jsS (le_size (by rw [Wr.emp_app]; omega)) ?_
      rw [Wr.emp_app]
      walk_at "sts"
      refine .inl ⟨_, rfl, le_size (by omega), ?_⟩
      refine r_jsS (le_size (by simp only [Str.length_append]; omega)) ?_
      walk_at "sts"
      refine r_jsS (le_size (by simp only [Str.length_append]; omega)) ?_
      walk_at "sts"
      refine .inl ⟨_, rfl, le_size (by omega), ?_⟩
      refine r_jsS (le_size (by simp only [Str.length_append]; omega)) ?_
      walk_at "sts"
      refine .inl ⟨_, rfl, le_size (by omega), ?_⟩
      refine r_jsS (le_size (by simp only [Str.length_append]; omega)) ?_
      walk_at "sts"
      exact fin _ _ rfl rfl
theorem ok_wps (T : Tx K mg) (G_write_piece : FnOk P w K mg base CX0 2 T.f_write_piece T.fd_write_piece ["part"] spWP) : FnOk P w K mg base CX0 3 T.f_write_pieces T.fd_write_pieces ["parts"] spWPs := by
  refine T.F_write_pieces.ok sc_write_pieces (fun vs H Q E h => ?_) (fun cdv A outer s H vs Q E hr h => ?_)
  · obtain ⟨p, as, L, g, rfl, _⟩ := h; rfl
  · obtain ⟨p, as, L, g, rfl, hg, hp, ha, hL, lz, k⟩ := h
    have la := ha.len
    have lm : (as.map V.ref).length = L.length := by rw [List.length_map]; exact la
    refine ⟨_, (pss_cons (ps_if (pt_cmpR op_eq (pe_callB call_len_seq (by rfl) T.m_len PySem.boot_len (pa_cons (pv 0) pa_nil)) pe_int (nomark _))
    (pss_one (ps_ret pe_str))
    pss_nil)
    (pss_one (ps_ret (pe_bm PySem.F.plainAttrs_str PySem.F.slot_str_join PySem.F.type_str_join mt_join pe_str (pa_cons (pe_lc (own := [("part", 1)]) (g := gName 1) (tt := tYes) rfl sc_write_pieces.nd (pi_tup (pv 0)) (blkOk_by (own := [("part", 1)]) (N := ["parts", "part"]) (sc := defScope s_write_pieces) (by decide +kernel)) (fun _ _ _ _ _ => pg_name (i := 1) sc_write_pieces.nd rfl (Or.inl rfl)) (fun _ _ _ _ _ => pts_nil) (fun _ _ _ _ _ => (pe_call G_write_piece (hr.mono (by decide)) rfl T.g_write_piece T.F_write_piece.kp T.b_write_piece .nil pass0 (pa_cons (pv 1) pa_nil)))) pa_nil))))), ?_⟩
    walk_at "start"
    walk_at "sts"
    unfold pcsT at k
    by_cases c : L.length = 0
    · rw [if_pos c] at k
      try refine r_iteT (by rw [lm]; omega) ?_
      walk_at "sts"
      exact k H (Keep.refl _ _)
    · rw [if_neg c] at k
      try refine r_iteF (by rw [lm]; omega) ?_
      walk_at "sts"
      refine ⟨rfl, ?_⟩
      walk_at "sts"
      refine lcT_go (fun D i acc H' => acc = ((L.take i).map fun p => rwT g (rwOf p)).map V.str ∧ Keep [] H H' ∧ H D = none) (sqT_of hp) (fun D nD => ⟨rfl, Keep.new nD, nD⟩) (fun D i acc H' _ h => by obtain ⟨_, k, _⟩ := h; exact sqT_of (k _ _ (by simp) hp)) ?_ ?_
      · rintro D i v acc H' hv hD ⟨rfl, k1, nD⟩
        obtain ⟨a, hai, rfl⟩ := getRf hv
        obtain ⟨x, hx, hxa⟩ := ha.get hai
        have hi := (List.getElem?_eq_some_iff.mp hx).1
        have sx := hL x (List.mem_of_getElem? hx)
        walk_at "sts"
        try simp only [L2.wipe, List.map_cons, List.map_nil, List.set_cons_zero, List.set_cons_succ]
        refine ⟨by first | exact rfl | trivial, ?_⟩
        walk_at "sts"
        first | refine ⟨a, _, g, rfl, hg, RwAt.k hxa k1.t0, sm_rw sx, ?_⟩ | refine ⟨_, g, rfl, hg, RwAt.k hxa k1.t0, sm_rw sx, ?_⟩
        refine lc_put hD (by simp only [List.length_map, List.length_take]; exact lt_size (by omega)) ⟨?_, k1.mut nD, nD⟩
        rw [take_s hx, List.map_append, List.map_append]; rfl
      · rintro D acc H' nD hD ⟨rfl, k1, _⟩
        rw [lm, List.take_length] at hD
        walk_at "sts"
        refine ⟨_, D, _, rfl, rfl, .inl (sqL_of hD), ?_, ?_⟩
        · have : ∀ (M : List Iv), (∀ q ∈ M, SmI q) → ((M.map fun p => rwT g (rwOf p)).map (·.length)).sum ≤ 2000 * M.length := by
            intro M
            induction M with
            | nil => intro _; simp
            | cons x M ih =>
              intro h
              have a := rw_len hg (sm_rw (h x (List.mem_cons_self ..)))
              have b := ih fun q m => h q (List.mem_cons_of_mem _ m)
              simp only [List.map_cons, List.sum_cons, List.length_cons]
              omega
          have h1 := this L hL
          have h2 := one_len.2.2.2.2.2.2.2.2
          rw [List.length_map, h2]
          omega
        · exact k H' k1
theorem ok_val (T : Tx K mg) (G_plus : FnOk P w K mg base CX0 2 T.f_plus T.fd_plus ["first", "second"] (spTwo fPlus)) (G_times : FnOk P w K mg base CX0 2 T.f_times T.fd_times ["first", "second"] (spTwo fTimes)) : FnOk P w K mg base CX0 3 T.f_value_in T.fd_value_in ["part"] spVal := by
  refine T.F_value_in.ok sc_value_in (fun vs H Q E h => ?_) (fun cdv A outer s H vs Q E hr h => ?_)
  · obtain ⟨a, p, g, rfl, _⟩ := h; rfl
  · obtain ⟨a, p, g, rfl, hg, ⟨x, y, ep, h1, h2⟩, sp, lt, ev1, ev2, k⟩ := h
    have bb := BB_big
    have g0 := hg.pos
    have g1 := hg.lt
    obtain ⟨p1, p2⟩ := p
    obtain ⟨s1, s2⟩ := sp
    simp only at s1 s2 lt ev1 ev2 k
    have f1 : (rwOf (p1, p2)).1 = if Sc p1 then some (p1 / 2) else none := rfl
    have f2 : (rwOf (p1, p2)).2.2.1 = if Sc p2 then some (p2 / 2) else none := rfl
    have f3 : (rwOf (p1, p2)).2.1 = (decide (Sc p1) && decide (p1 % 2 = 0)) := rfl
    have f4 : (rwOf (p1, p2)).2.2.2 = (decide (Sc p2) && decide (p2 % 2 = 1)) := rfl
    rw [f1] at h1
    rw [f2] at h2
    rw [f3, f4] at ep
    clear f1 f2 f3 f4
    refine ⟨_, (pss_cons (ps_asg (pv 0) (pg_tup (n := 4) rfl (pgs_cons (pg_name (i := 1) sc_value_in.nd rfl (Or.inl rfl)) (pgs_cons (pg_name (i := 2) sc_value_in.nd rfl (Or.inl rfl)) (pgs_cons (pg_name (i := 3) sc_value_in.nd rfl (Or.inl rfl)) (pgs_cons (pg_name (i := 4) sc_value_in.nd rfl (Or.inl rfl)) pgs_nil))))))
    (pss_cons (ps_if (pt_val (pv 2))
    (pss_one (ps_ret (pv 1)))
    pss_nil)
    (pss_cons (ps_if (pt_val (pv 4))
    (pss_one (ps_ret (pv 3)))
    pss_nil)
    (pss_cons (ps_if (pt_cmpR op_isNc (pv 1) pe_non (nomark _))
    (pss_one (ps_ret (pe_ifExp (pt_cmpR op_isNc (pv 3) pe_non (nomark _)) (pe_tup (pa_cons pe_int (pa_cons pe_int pa_nil))) (pe_call G_plus (hr.mono (by decide)) rfl T.g_plus T.F_plus.kp T.b_plus .nil pass0 (pa_cons (pv 3) (pa_cons (pe_tup (pa_cons (pe_un un_neg pe_int) (pa_cons pe_int pa_nil))) pa_nil))))))
    pss_nil)
    (pss_one (ps_ret (pe_ifExp (pt_cmpR op_isNc (pv 3) pe_non (nomark _)) (pe_call G_plus (hr.mono (by decide)) rfl T.g_plus T.F_plus.kp T.b_plus .nil pass0 (pa_cons (pv 1) (pa_cons (pe_tup (pa_cons pe_int (pa_cons pe_int pa_nil))) pa_nil))) (pe_call G_times (hr.mono (by decide)) rfl T.g_times T.F_times.kp T.b_times .nil pass0 (pa_cons (pe_call G_plus (hr.mono (by decide)) rfl T.g_plus T.F_plus.kp T.b_plus .nil pass0 (pa_cons (pv 1) (pa_cons (pv 3) pa_nil))) (pa_cons (pe_tup (pa_cons pe_int (pa_cons pe_int pa_nil))) pa_nil)))))))))), ?_⟩
    walk_at "start"
    walk_at "sts"
    refine r_gTup4 (sqT_of ep) ?_
    simp only [List.set_cons_zero, List.set_cons_succ]
    have pr : ∀ (H1 : Hp) (n d : Int) (u : Addr), H1 u = none → Keep [] H1 (upd H1 u (.tup [.int n, .int d])) ∧ upd H1 u (.tup [.int n, .int d]) u = some (.tup [.int n, .int d]) := fun H1 n d u nu => ⟨Keep.new nu, upd_same⟩
    have z300 : ∀ {x : Int}, x.natAbs < 2 ^ 300 → x.natAbs < 2 ^ 3000 := fun h => Nat.lt_of_lt_of_le h (Nat.pow_le_pow_right (by decide) (by decide))
    have z9 : ∀ {x : Int}, x.natAbs < 2 ^ 3000 → x.natAbs < 2 ^ 9000 := fun h => Nat.lt_of_lt_of_le h (Nat.pow_le_pow_right (by decide) (by decide))
    have one3 : (1 : Int).natAbs < 2 ^ 3000 := Nat.lt_of_lt_of_le (by decide : (1 : Int).natAbs < 2 ^ 1) (Nat.pow_le_pow_right (by decide) (by decide))
    have mone3 : (-1 : Int).natAbs < 2 ^ 3000 := Nat.lt_of_lt_of_le (by decide : (-1 : Int).natAbs < 2 ^ 1) (Nat.pow_le_pow_right (by decide) (by decide))
    have two3 : (2 : Int).natAbs < 2 ^ 3000 := Nat.lt_of_lt_of_le (by decide : (2 : Int).natAbs < 2 ^ 2) (Nat.pow_le_pow_right (by decide) (by decide))
    by_cases c1 : Sc p1
    · rw [if_pos c1] at h1
      rw [decide_eq_true c1, Bool.true_and] at ep ⊢
      obtain ⟨q1, rfl, hq1⟩ := h1
      have st1 : Sm (p1 / 2) := by unfold Sm; omega
      have z1 := sm_lo st1 hg
      by_cases e1 : p1 % 2 = 0
      · rw [decide_eq_true e1]
        walk_at "sts"
        exact k q1 (p1 / 2) H (Keep.refl _ _) hq1 (by omega) (by omega) (by omega)
      rw [decide_eq_false e1]
      by_cases c2 : Sc p2
      · rw [if_pos c2] at h2
        rw [decide_eq_true c2, Bool.true_and]
        obtain ⟨q2, rfl, hq2⟩ := h2
        have st2 : Sm (p2 / 2) := by unfold Sm; omega
        have z2 := sm_lo st2 hg
        by_cases e2 : p2 % 2 = 1
        · rw [decide_eq_true e2]
          walk_at "sts"
          exact k q2 (p2 / 2) H (Keep.refl _ _) hq2 (by omega) (by omega) (by omega)
        · rw [decide_eq_false e2]
          walk_at "sts"
          refine r_two hq1 hq2 (by omega) (by omega) (z9 (z300 z1.1)) (z300 z1.2.1) (z9 (z300 z2.1)) (z300 z2.2.1) fun r H1 k1 nr er => ?_
          obtain ⟨t, ht⟩ : ∃ t, p1 / 2 + p2 / 2 = 2 * t := ⟨(p1 / 2 + p2 / 2) / 2, by have := ev1 c1; have := ev2 c2; omega⟩
          rw [(plus_low g0).1, (plus_low g0).2, ht] at er
          have st3 : Sm t := by unfold Sm at *; omega
          have z3 : (lowT (2 * t) g).natAbs < 2 ^ 300 ∧ (lowB (2 * t) g).natAbs < 2 ^ 300 ∧ 0 < lowB (2 * t) g := by
            have a := lowT_le (t := 2 * t) (b := g) (by omega)
            have b := lowB_le (t := 2 * t) (b := g) (by omega)
            unfold Sm at st3
            refine ⟨?_, ?_, lowB_pos g0⟩
            · have : (lowT (2 * t) g).natAbs < 2 ^ 202 := by omega
              exact Nat.lt_of_lt_of_le this (Nat.pow_le_pow_right (by decide) (by decide))
            · have : (lowB (2 * t) g).natAbs < 2 ^ 40 := by omega
              exact Nat.lt_of_lt_of_le this (Nat.pow_le_pow_right (by decide) (by decide))
          walk_at "sts"
          intro u nu
          obtain ⟨k2, eu⟩ := pr _ 1 2 u nu
          generalize upd H1 u (.tup [.int 1, .int 2]) = H2 at k2 eu ⊢
          walk_at "sts"
          refine r_two (k2 _ _ (by simp) er) eu (by omega) (by decide) (z9 (z300 z3.1)) (z300 z3.2.1) (z9 one3) two3 fun r' H3 k3 nr' er' => ?_
          rw [(half_low g0).1, (half_low g0).2] at er'
          exact k r' t H3 ((k1.trans k2).trans k3) er' (by omega) (by omega) (by unfold Sm at st3; omega)
      · rw [if_neg c2] at h2
        rw [decide_eq_false c2, Bool.false_and]
        obtain rfl : y = .non := h2
        walk_at "sts"
        intro u nu
        obtain ⟨k2, eu⟩ := pr _ 1 1 u nu
        generalize upd H u (.tup [.int 1, .int 1]) = H2 at k2 eu ⊢
        walk_at "sts"
        refine r_two (k2 _ _ (by simp) hq1) eu (by omega) (by decide) (z9 (z300 z1.1)) (z300 z1.2.1) (z9 one3) one3 fun r H3 k3 nr er => ?_
        rw [(plus_int g0).1, (plus_int g0).2] at er
        exact k r (p1 / 2 + 1 * g) H3 (k2.trans k3) er (by omega) (by omega) (by omega)
    · rw [if_neg c1] at h1
      rw [decide_eq_false c1, Bool.false_and] at ep ⊢
      obtain rfl : x = .non := h1
      by_cases c2 : Sc p2
      · rw [if_pos c2] at h2
        rw [decide_eq_true c2, Bool.true_and]
        obtain ⟨q2, rfl, hq2⟩ := h2
        have st2 : Sm (p2 / 2) := by unfold Sm; omega
        have z2 := sm_lo st2 hg
        by_cases e2 : p2 % 2 = 1
        · rw [decide_eq_true e2]
          walk_at "sts"
          exact k q2 (p2 / 2) H (Keep.refl _ _) hq2 (by omega) (by omega) (by omega)
        · rw [decide_eq_false e2]
          walk_at "sts"
          intro u nu
          obtain ⟨k2, eu⟩ := pr _ (-1) 1 u nu
          generalize upd H u (.tup [.int (-1), .int 1]) = H2 at k2 eu ⊢
          walk_at "sts"
          refine r_two (k2 _ _ (by simp) hq2) eu (by omega) (by decide) (z9 (z300 z2.1)) (z300 z2.2.1) (z9 mone3) one3 fun r H3 k3 nr er => ?_
          rw [(plus_int g0).1, (plus_int g0).2] at er
          exact k r (p2 / 2 + -1 * g) H3 (k2.trans k3) er (by omega) (by omega) (by omega)
      · rw [if_neg c2] at h2
        rw [decide_eq_false c2, Bool.false_and]
        obtain rfl : y = .non := h2
        walk_at "sts"
        intro u nu
        have k2 : Keep [] H (upd H u (.tup [.int 0, .int 1])) := Keep.new nu
        refine k u 0 _ k2 ?_ (by omega) (by omega) (by decide)
        unfold PairAt loP
        rw [(lowT_z g0).1, (lowT_z g0).2]
        exact upd_same
end
open PySem PySem.Spec PyProof.Rows L2 StX Pc
/-! ### stretches as data -/
def endD (g : Int) (o : Option Int) : PyData := match o with
  | none => .none
  | some t => .tuple [.int (lowT t g), .int (lowB t g)]
def rwD (g : Int) (r : Rw) : PyData := .tuple [endD g r.1, .bool r.2.1, endD g r.2.2.1, .bool r.2.2.2]
theorem pair_inj {g t s : Int} (h : 0 < g) (a : lowT t g = lowT s g) (b : lowB t g = lowB s g) : t = s := (low_sg h).1.mp (by rw [a, b])
theorem eqv_end {g : Int} (h : 0 < g) {o u : Option Int} : PyData.eqv (endD g o) (endD g u) = decide (o = u) := by
  cases o with
  | none => cases u with
    | none => simp [endD, PyData.eqv]
    | some t => simp [endD, PyData.eqv]
  | some t => cases u with
    | none => simp [endD, PyData.eqv]
    | some s =>
      have e : PyData.eqv (endD g (some t)) (endD g (some s)) = (decide (lowT t g = lowT s g) && decide (lowB t g = lowB s g)) := by
        have e1 : (lowT t g == lowT s g) = decide (lowT t g = lowT s g) := by rw [Bool.eq_iff_iff]; simp
        have e2 : (lowB t g == lowB s g) = decide (lowB t g = lowB s g) := by rw [Bool.eq_iff_iff]; simp
        simp [endD, PyData.eqv, PyData.eqvAll, e1, e2]
      rw [e]
      by_cases c : t = s
      · subst c; simp
      · rw [decide_eq_false (fun z => c (Option.some.inj z)), Bool.and_eq_false_iff]
        by_cases a : lowT t g = lowT s g
        · right; exact decide_eq_false fun b => c (pair_inj h a b)
        · left; exact decide_eq_false a
theorem eqv_rw {g : Int} (h : 0 < g) {r s : Rw} : PyData.eqv (rwD g r) (rwD g s) = decide (r = s) := by
  obtain ⟨a, b, c, d⟩ := r
  obtain ⟨a', b', c', d'⟩ := s
  have e1 : (b == b') = decide (b = b') := by rw [Bool.eq_iff_iff]; simp
  have e2 : (d == d') = decide (d = d') := by rw [Bool.eq_iff_iff]; simp
  have e : PyData.eqv (rwD g (a, b, c, d)) (rwD g (a', b', c', d')) = (decide (a = a') && (decide (b = b') && (decide (c = c') && decide (d = d')))) := by
    show PyData.eqv (.tuple [endD g a, .bool b, endD g c, .bool d]) (.tuple [endD g a', .bool b', endD g c', .bool d']) = _
    rw [eqvT]
    simp only [PyData.eqvAll, eqv_end h]
    simp [PyData.eqv, e1, e2]
  rw [e, Bool.eq_iff_iff]
  simp only [Bool.and_eq_true, decide_eq_true_eq]
  constructor
  · rintro ⟨rfl, rfl, rfl, rfl⟩; rfl
  · intro z; cases z; exact ⟨rfl, rfl, rfl, rfl⟩
theorem eqv_rws {g : Int} (h : 0 < g) : ∀ {rs ss : List Rw}, PyData.eqvAll (rs.map (rwD g)) (ss.map (rwD g)) = decide (rs = ss)
  | [], [] => by simp [PyData.eqvAll]
  | [], s :: ss => by simp [PyData.eqvAll]
  | r :: rs, [] => by simp [PyData.eqvAll]
  | r :: rs, s :: ss => by
    simp only [List.map_cons, PyData.eqvAll, eqv_rw h, eqv_rws h]
    rw [Bool.eq_iff_iff]
    simp
theorem lay_end {g : Int} {o : Option Int} : (endD g o).canLay0 = true ∧ (endD g o).depth ≤ 1 := by
  cases o with
  | none => simp [endD, PyData.canLay0, PyData.depth]
  | some t => simp [endD, PyData.canLay0, PyData.canLayAll0, PyData.depth, PyData.depthAll]
theorem lay_rw {g : Int} {r : Rw} : (rwD g r).canLay0 = true ∧ (rwD g r).depth ≤ 2 := by
  have a := lay_end (g := g) (o := r.1)
  have b := lay_end (g := g) (o := r.2.2.1)
  unfold rwD
  simp only [PyData.canLay0, PyData.canLayAll0, PyData.depth, PyData.depthAll, a.1, b.1]
  refine ⟨by simp, ?_⟩
  omega
theorem lay_rws {g : Int} : ∀ {rs : List Rw}, PyData.canLayAll0 (rs.map (rwD g)) = true ∧ PyData.depthAll (rs.map (rwD g)) ≤ 2
  | [] => by simp [PyData.canLayAll0, PyData.depthAll]
  | r :: rs => by
    have a := lay_rw (g := g) (r := r)
    have b := lay_rws (g := g) (rs := rs)
    simp only [List.map_cons, PyData.canLayAll0, PyData.depthAll, a.1, b.1]
    exact ⟨by simp, by omega⟩
theorem shaped_rw {g : Int} {r : Rw} : SeqAt.shaped (rwD g r) = true := by
  have a := lay_rw (g := g) (r := r)
  unfold SeqAt.shaped
  unfold rwD at a ⊢
  simp [a.1]
  omega
theorem shaped_rws {g : Int} {rs : List Rw} : SeqAt.shaped (.tuple (rs.map (rwD g))) = true ∧ SeqAt.shaped (.list (rs.map (rwD g))) = true := by
  have a := lay_rws (g := g) (rs := rs)
  unfold SeqAt.shaped
  simp only [PyData.canLay0, PyData.depth, a.1]
  constructor <;> (simp; omega)
theorem dp_end {K : PySem.W.Frag} {g : Int} {H : Hp} {x : V} {o : Option Int} (h : EndAt g H x o) : Dp K H x (endD g o) := by
  cases o with
  | none => obtain rfl : x = .non := h; exact .non
  | some t => obtain ⟨p, rfl, hp⟩ := h; exact .tup (sqT_of hp) (.cons (.int _) (.cons (.int _) .nil))
theorem dp_rw {K : PySem.W.Frag} {g : Int} {H : Hp} {a : Addr} {r : Rw} (h : RwAt g H a r) : Dp K H (.ref a) (rwD g r) := by
  obtain ⟨x, y, e, h1, h2⟩ := h
  exact .tup (sqT_of e) (.cons (dp_end h1) (.cons (.bl _) (.cons (dp_end h2) (.cons (.bl _) .nil))))
theorem dp_rws {K : PySem.W.Frag} {g : Int} {H : Hp} : ∀ {as : List Addr} {rs : List Rw}, AllP (RwAt g H) as rs → DpAll K H (as.map V.ref) (rs.map (rwD g))
  | [], [], _ => .nil
  | _ :: _, _ :: _, h => .cons (dp_rw h.1) (dp_rws h.2)
theorem r_eqRw {K : PySem.W.Frag} {g : Int} (hg : 0 < g) {H : Hp} {Q : VK} {a b : Addr} {r s : Rw} (ha : RwAt g H a r) (hb : RwAt g H b s) (k : Q (.bl (decide (r = s))) H) : rEqD K (.ref a) (.ref b) H Q :=
  ⟨_, _, dp_rw ha, dp_rw hb, shaped_rw, shaped_rw, by rw [eqv_rw hg]; exact k⟩
theorem r_eqRws {K : PySem.W.Frag} {g : Int} (hg : 0 < g) {H : Hp} {Q : VK} {p q : Addr} {as bs : List Addr} {rs ss : List Rw} (hp : H p = some (.lst (as.map V.ref))) (hq : H q = some (.lst (bs.map V.ref))) (ha : AllP (RwAt g H) as rs) (hb : AllP (RwAt g H) bs ss) (k : Q (.bl (decide (rs = ss))) H) : rEqD K (.ref p) (.ref q) H Q :=
  ⟨_, _, .lst (sqL_of hp) (dp_rws ha), .lst (sqL_of hq) (dp_rws hb), shaped_rws.2, shaped_rws.2, by rw [eqvL, eqv_rws hg]; exact k⟩
theorem r_neRws {K : PySem.W.Frag} {g : Int} (hg : 0 < g) {H : Hp} {Q : VK} {p q : Addr} {as bs : List Addr} {rs ss : List Rw} (hp : H p = some (.lst (as.map V.ref))) (hq : H q = some (.lst (bs.map V.ref))) (ha : AllP (RwAt g H) as rs) (hb : AllP (RwAt g H) bs ss) (k : Q (.bl (!decide (rs = ss))) H) : rNeD K (.ref p) (.ref q) H Q :=
  ⟨_, _, .lst (sqL_of hp) (dp_rws ha), .lst (sqL_of hq) (dp_rws hb), shaped_rws.2, shaped_rws.2, by rw [eqvL, eqv_rws hg]; exact k⟩
/-! ### sets -/
def PiecesAt (C : Addr) (g : Int) (H : Hp) (x : Addr) (L : List Iv) : Prop := ∃ dx p as, H x = some (.ins C dx [("parts", .ref p)]) ∧ H p = some (.tup (as.map V.ref)) ∧ AllP (PcAt g H) as L
theorem PiecesAt.k {C : Addr} {g : Int} {M : List Addr} {H H' : Hp} {x : Addr} {L : List Iv} (h : PiecesAt C g H x L) (k : Keep M H H') (n : ∀ m ∈ M, ∃ xs, H m = some (.lst xs)) : PiecesAt C g H' x L := by
  obtain ⟨dx, p, as, e1, e2, e3⟩ := h
  have t := k.tt fun m hm => by obtain ⟨xs, e⟩ := n m hm; exact noT_l e
  exact ⟨dx, p, as, k _ _ (fun m => by obtain ⟨xs, e⟩ := n _ m; rw [e1] at e; cases e) e1, t _ _ e2, e3.mono fun a x h => PcAt.k h t⟩
theorem PiecesAt.k0 {C : Addr} {g : Int} {H H' : Hp} {x : Addr} {L : List Iv} (h : PiecesAt C g H x L) (k : Keep [] H H') : PiecesAt C g H' x L := h.k k fun m hm => (List.not_mem_nil hm).elim
structure Lk (L : List Iv) (n : Nat) : Prop where
  can : Can L
  sm : ∀ q ∈ L, SmI q
  len : L.length ≤ n
theorem Lk.mono {L : List Iv} {m n : Nat} (h : Lk L m) (l : m ≤ n) : Lk L n := ⟨h.can, h.sm, Nat.le_trans h.len l⟩
theorem Lk.good {L : List Iv} {n : Nat} (h : Lk L n) : ∀ r ∈ L.map rwOf, SmR r ∧ Good r := fun r m => by
  obtain ⟨q, mq, rfl⟩ := List.mem_map.mp m
  exact good_rw (h.sm q mq) (h.can.lt q mq)
theorem sm_range {L : List Iv} (h : ∀ q ∈ L, SmI q) {z : Int} (m : mem L z) : -BB ≤ z ∧ z < BB := by
  have bb := BB_big
  obtain ⟨q, mq, a, b⟩ := m
  obtain ⟨s1, s2⟩ := h q mq
  refine ⟨?_, ?_⟩
  · rcases s1 with s | s <;> omega
  · rcases s2 with s | s <;> omega
theorem Pc.CovN.one {S F : List Iv} (C : CovN S 1 F) (z : Int) : mem F z ↔ mem S z := (C.is z).trans depth_mem
/-- canonical pieces make themselves -/
theorem Pc.CovN.self {F L : List Iv} (C : CovN F 1 L) (h : Can F) : L = F := can_eq C.can h C.one
def spInitP (C CB : Addr) : Sp := fun vs H Q E => ∃ (x p dx : Addr) (as : List Addr) (rs : List Rw) (g : Int), vs = [.ref x, .ref p] ∧ H x = some (.ins C dx []) ∧ GOk g ∧ H p = some (.tup (as.map V.ref)) ∧ AllP (RwAt g H) as rs ∧ (∀ r ∈ rs, SmR r) ∧ rs.length ≤ 24 ∧
  ((∀ r ∈ rs, Good r) → ∀ L H', Keep [x] H H' → PiecesAt C g H' x L → CovN (rs.map iv) 1 L → Q .non H') ∧
  (∀ (i : Nat) a r, as[i]? = some a → rs[i]? = some r → (∀ (j : Nat) r', j < i → rs[j]? = some r' → Good r') → ¬ Good r → ∀ H' e, Keep [] H H' → H' e = none → E (.ref CB) (some e) (upd H' e (.xd [("stretch", .ref a)])))
abbrev spStarP (C CB : Addr) : Sp := fun vs H Q E => ∃ ws rest, vs = ws ++ rest ∧ ws.length = 1 ∧ rest.length ≤ sizeLine ∧ ∀ p, H p = Option.none → spInitP C CB (ws ++ [V.ref p]) (upd H p (.tup rest)) Q E
theorem mk_pcs {C CB : Addr} {H : Hp} {as : List Addr} {rs : List Rw} {g : Int} {E : XK} {Q : VK} (hg : GOk g) (har : AllP (RwAt g H) as rs) (sm : ∀ r ∈ rs, SmR r) (l24 : rs.length ≤ 24)
    (k : (∀ r ∈ rs, Good r) → ∀ x L H2, Keep [] H H2 → H x = none → PiecesAt C g H2 x L → CovN (rs.map iv) 1 L → Q (.ref x) H2)
    (ke : ∀ (i : Nat) a r, as[i]? = some a → rs[i]? = some r → (∀ (j : Nat) r', j < i → rs[j]? = some r' → Good r') → ¬ Good r → ∀ H' e, Keep [] H H' → H' e = none → E (.ref CB) (some e) (upd H' e (.xd [("stretch", .ref a)])))
    (x dx : Addr) (nx : H x = none) (nd : H dx = none) (ne : dx ≠ x) :
    spStarP C CB (V.ref x :: as.map V.ref) (upd (upd H dx (.own x)) x (.ins C dx [])) (fun v H2 => v = .non ∧ Q (.ref x) H2) E := by
  have la := har.len
  refine ⟨[.ref x], as.map V.ref, rfl, rfl, by rw [List.length_map]; exact le_size (by omega), fun p np => ?_⟩
  have k0 : Keep [] H (upd (upd H dx (.own x)) x (.ins C dx [])) := (Keep.new nd).mut nx
  have e1 : upd (upd H dx (.own x)) x (.ins C dx []) x = some (.ins C dx []) := upd_same
  generalize upd (upd H dx (.own x)) x (.ins C dx []) = H1 at k0 e1 np ⊢
  have k1 : Keep [] H1 (upd H1 p (.tup (as.map V.ref))) := Keep.new np
  refine ⟨x, p, dx, as, rs, g, rfl, k1 _ _ (by simp) e1, hg, upd_same, har.mono fun a r h => h.k (k0.trans k1).t0, sm, l24, fun gd L H' k' pa cv => ⟨rfl, k gd x L H' ?_ nx pa cv⟩, fun i a r ha hr hj ng H' e k' he => ke i a r ha hr hj ng H' e ((k0.trans k1).trans k') he⟩
  intro b o _ hb
  exact k' b o (by simp only [List.mem_cons, List.not_mem_nil, or_false]; rintro rfl; rw [nx] at hb; cases hb) (k1 _ _ (by simp) (k0 _ _ (by simp) hb))
theorem mk_good {C CB : Addr} {H : Hp} {as : List Addr} {rs : List Rw} {g : Int} {E : XK} {Q : VK} (hg : GOk g) (har : AllP (RwAt g H) as rs) (gd : ∀ r ∈ rs, SmR r ∧ Good r) (l24 : rs.length ≤ 24)
    (k : ∀ x L H2, Keep [] H H2 → H x = none → PiecesAt C g H2 x L → CovN (rs.map iv) 1 L → Q (.ref x) H2) (x dx : Addr) (nx : H x = none) (nd : H dx = none) (ne : dx ≠ x) :
    spStarP C CB (V.ref x :: as.map V.ref) (upd (upd H dx (.own x)) x (.ins C dx [])) (fun v H2 => v = .non ∧ Q (.ref x) H2) E :=
  mk_pcs hg har (fun r m => (gd r m).1) l24 (fun _ => k) (fun i a r _ hr _ ng => absurd (gd r (List.mem_of_getElem? hr)).2 ng) x dx nx nd ne
theorem r_mkR {C : Addr} {sp : Sp} {E : XK} {t : TA} {σ : L2.St} {H : Hp} {Q : VK} (k : t σ H fun vs H1 => ∀ x dx, H1 x = Option.none → H1 dx = Option.none → dx ≠ x → sp (V.ref x :: vs) (upd (upd H1 dx (.own x)) x (.ins C dx [])) (fun v H2 => v = .non ∧ Q (.ref x) H2) E) : tMakeR C sp E t σ H Q := k
section
variable {P : Program} {w : World} {K : PySem.W.Frag} {mg : Str → Option Value} {base : Heap}
/-- def f(a, .., *v) that may raise -/
theorem Fun.okStarX {x qual : Str} {st : Stmt} {f : Addr} {fd : FuncData} {N ps : List Str} {pv : Str} {k : Nat} {sp : Sp} (F : Fun K x qual st f fd) (S : FnScope N (ps ++ [pv]) (defScope st))
    (hb : ∀ (kV doc pm : Value) (an : Option Addr) (cdv ct : Value) (us rest : List Value), us.length = ps.length → bindArgs (PySem.W.fnOf x qual (defArgs st) (defBody st) (defScope st) .none kV doc pm an cdv ct) ⟨us ++ rest, []⟩ = (newTuple rest >>= fun t => pure (ps.zip us ++ [(pv, t)])))
    (hbody : ∀ (cdv : Value) (A : Around) (outer : List Env) (s : Shared) (H : Hp) (vs : List V) (Q : VK) (E : XK), Room k (A.deeper (envOfC qual (defScope st) s.heap.objs.size f cdv)) → sp vs H Q E →
      ∃ t, PSs (cxOf (L2.CX P w) P w K mg base N qual (defScope st) f cdv A outer s H E) (defBody st) t ∧ t { nx := fun _ H' => Q .non H', rt := Q } (start N vs) H) :
    FnR P w K mg base (L2.CX P w) (k + 1) f (fun vs H Q E => ∃ ws rest, vs = ws ++ rest ∧ ws.length = ps.length ∧ rest.length ≤ sizeLine ∧ ∀ p, H p = Option.none → sp (ws ++ [V.ref p]) (upd H p (.tup rest)) Q E) := by
  obtain ⟨oc, od, kV, doc, pm, an, cdv, ct, osl, rfl, lk, hcd⟩ := F.ex
  refine fn_star lk hcd S cxUp (hb kV doc pm an cdv ct) fun A outer s H vs Q E hr hsp => ?_
  obtain ⟨t, h, q⟩ := hbody cdv A outer s H vs Q E hr hsp
  exact ⟨t, h, q⟩
end
section
variable {w : World} {K : PySem.W.Frag} {mg : Str → Option Value} {base : Heap}
theorem ok_initX (T : Tx K mg) (G_check_stretch : FnOk PG w K mg base (L2.CX PG w) 3 T.f_check_stretch T.fd_check_stretch ["stretch"] (spChk T.C_BadStretch)) (G_covered : FnOk PG w K mg base CX0 12 T.f_covered T.fd_covered ["stretches", "need"] (spCovT K)) : FnR PG w K mg base (L2.CX PG w) 13 T.f_Pieces___init (spStarP T.C_Pieces T.C_BadStretch) := by
  refine My.Fun.okStarX (ps := ["self"]) T.F_Pieces___init sc_Pieces___init (fun _ _ _ _ _ _ us rest hl => ?_) (fun cdv A outer s H vs Q E hr h => ?_)
  · match us, hl with
    | [_], _ => cases rest <;> rfl
  · obtain ⟨x, p, dx, as, rs, g, rfl, ex, hg, hp, har, sm, l24, q1, q2⟩ := h
    have tk0 : Takes (cxOf (L2.CX PG w) PG w K mg base ["self", "stretches", "stretch"] "Pieces.__init__" (defScope s_Pieces___init) T.f_Pieces___init cdv A outer s H E) (fun cls d _ H => E cls d H) := takes_of rfl rfl rfl rfl
    have la := har.len
    have oc := T.oc_Pieces
    have na := T.na_Pieces_parts
    refine ⟨_, (pss_cons (ps_for (passes_of rfl) rfl (pi_tup (pv 1)) (pg_name (i := 2) sc_Pieces___init.nd rfl (Or.inl rfl))
    (pss_one (ps_expr (pe_call G_check_stretch (hr.mono (by decide)) rfl T.g_check_stretch T.F_check_stretch.kp T.b_check_stretch .nil (passes_call tk0 (fun _ _ _ _ h => h)) (pa_cons (pv 2) pa_nil)))))
    (pss_one (ps_fld (pv 0) (pe_call G_covered (hr.mono (by decide)) rfl T.g_covered T.F_covered.kp T.b_covered .nil pass0 (pa_cons (pv 1) (pa_cons pe_int pa_nil))) rfl))), ?_⟩
    walk_at "start"
    walk_at "sts"
    refine forT_go (fun i σ' H' => ∃ y2 : Option V, σ' = [some (.ref x), some (.ref p), y2] ∧ Keep [] H H' ∧ ∀ j r, j < i → rs[j]? = some r → Good r) (sqT_of hp) ⟨_, by first | exact rfl | trivial, Keep.refl _ _, fun _ _ h => absurd h (by omega)⟩ (fun i σ' H' _ h => by obtain ⟨_, _, k, _⟩ := h; exact sqT_of (k _ _ (by simp) hp)) ?_ ?_
    · rintro i v σ' H2 hv ⟨y2, rfl, k2, gd⟩
      obtain ⟨a, ha, rfl⟩ := getRf hv
      obtain ⟨r, hr0, hra⟩ := har.get ha
      walk_at "sts"
      refine ⟨a, r, g, rfl, hg, hra.k k2.t0, sm r (List.mem_of_getElem? hr0), fun gr H3 k3 => ?_, fun ng H3 e k3 he => q2 i a r ha hr0 gd ng H3 e (k2.trans k3) he⟩
      walk_at "sts"
      refine ⟨_, by first | exact rfl | trivial, k2.trans k3, fun j r' hj hr' => ?_⟩
      rcases Nat.lt_or_ge j i with c | c
      · exact gd j r' c hr'
      · have : j = i := by omega
        subst this; rw [hr0] at hr'; cases hr'; exact gr
    · rintro σ' H2 ⟨y2, rfl, k2, gd⟩
      have gall : ∀ r ∈ rs, Good r := fun r m => by
        obtain ⟨j, hj⟩ := List.mem_iff_getElem?.mp m
        exact gd j r (by rw [List.length_map, la]; exact (List.getElem?_eq_some_iff.mp hj).1) hj
      walk_at "sts"
      refine ⟨p, as, rs, g, 1, rfl, by decide, hg, k2 _ _ (by simp) hp, har.mono fun a r h => h.k k2.t0, fun r m => ⟨sm r m, gall r m⟩, l24, fun o bs F H3 k3 eo hbs cv => ?_⟩
      have k23 := k2.trans k3
      have ex3 := k23 _ _ (by simp) ex
      walk_at "sts"
      have t4 : KeepT H3 (upd H3 x (.ins T.C_Pieces dx (putF "parts" (V.ref o) []))) := (Keep.at (M := [x]) (p := x) (by simp)).t1 (noT_i ex3)
      refine q1 gall F _ (fun b o' n hb => ?_) ⟨dx, o, bs, upd_same, t4 _ _ eo, hbs.mono fun a x h => PcAt.k h t4⟩ cv
      rw [upd_ne (fun e => n (by rw [e]; exact List.mem_singleton.mpr rfl))]
      exact k23 _ _ (by simp) hb
end
open PySem PySem.Spec PyProof.Rows L2 StX Pc
/-! ### the methods of a set -/
abbrev spStar0 (C CB : Addr) : Sp := fun vs H Q _ => spStarP C CB vs H Q fun _ _ _ => False
abbrev GMk (P : Program) (w : World) (K : PySem.W.Frag) (mg : Str → Option Value) (base : Heap) (T : Tx K mg) : Prop := FnR P w K mg base CX0 13 T.f_Pieces___init (spStar0 T.C_Pieces T.C_BadStretch)
def spNone (C : Addr) : Sp := fun vs H Q _ => vs = [] ∧ ∀ x H', Keep [] H H' → H x = none → (∀ g, PiecesAt C g H' x []) → Q (.ref x) H'
def spEvery (C : Addr) : Sp := fun vs H Q _ => vs = [] ∧ ∃ g, GOk g ∧ ∀ x L H', Keep [] H H' → H x = none → PiecesAt C g H' x L → CovN [(-BB, BB)] 1 L → Q (.ref x) H'
def spPoint (C : Addr) : Sp := fun vs H Q _ => ∃ (v : Addr) (t g : Int), vs = [.ref v] ∧ GOk g ∧ PairAt g H v t ∧ Sm t ∧ ∀ x L H', Keep [] H H' → H x = none → PiecesAt C g H' x L → CovN [(2 * t, 2 * t + 1)] 1 L → Q (.ref x) H'
def spBetw (C CB : Addr) : Sp := fun vs H Q E => ∃ lo hi : Int, vs = [.int lo, .int hi] ∧ Sm (2 * lo) ∧ Sm (2 * hi) ∧ (lo ≤ hi → ∀ x L H', Keep [] H H' → H x = none → PiecesAt C 2 H' x L → CovN [(4 * lo, 4 * hi + 1)] 1 L → Q (.ref x) H') ∧
  (hi < lo → ∀ H' a e, Keep [] H H' → RwAt 2 H' a (some (2 * lo), true, some (2 * hi), true) → H' e = none → E (.ref CB) (some e) (upd H' e (.xd [("stretch", .ref a)])))
def spOp2 (C : Addr) (R : List Iv → List Iv → Int → Prop) : Sp := fun vs H Q _ => ∃ (x y : Addr) (L M : List Iv) (g : Int), vs = [.ref x, .ref y] ∧ GOk g ∧ PiecesAt C g H x L ∧ PiecesAt C g H y M ∧ Lk L 12 ∧ Lk M 11 ∧ ∀ z F H', Keep [] H H' → H z = none → PiecesAt C g H' z F → Lk F (L.length + M.length + 1) → (∀ c, mem F c ↔ R L M c) → Q (.ref z) H'
def spInv (C : Addr) : Sp := fun vs H Q _ => ∃ (x : Addr) (L : List Iv) (g : Int), vs = [.ref x] ∧ GOk g ∧ PiecesAt C g H x L ∧ Lk L 22 ∧ ∀ z F H', Keep [] H H' → H z = none → PiecesAt C g H' z F → Lk F (L.length + 1) → (∀ c, mem F c ↔ -BB ≤ c ∧ c < BB ∧ ¬ mem L c) → Q (.ref z) H'
def spInside (C : Addr) : Sp := fun vs H Q _ => ∃ (x y : Addr) (L M : List Iv) (g : Int), vs = [.ref x, .ref y] ∧ GOk g ∧ PiecesAt C g H x L ∧ PiecesAt C g H y M ∧ Lk L 12 ∧ Lk M 11 ∧ ∀ b H', Keep [] H H' → (b = true ↔ ∀ c, mem L c → mem M c) → Q (.bl b) H'
def spEqP (K : PySem.W.Frag) (C : Addr) : Sp := fun vs H Q _ => (∃ (x y : Addr) (L M : List Iv) (g : Int), vs = [.ref x, .ref y] ∧ GOk g ∧ PiecesAt C g H x L ∧ PiecesAt C g H y M ∧ (∀ q ∈ L, SmI q) ∧ (∀ q ∈ M, SmI q) ∧ Q (.bl (decide (L = M))) H) ∨
  ∃ (x : Addr) (L : List Iv) (g : Int) (y : V) (T : String), vs = [.ref x, y] ∧ PiecesAt C g H x L ∧ Ow.Oth H y T ∧ PySem.W.subIn K (.type T) (.ref C) = some false ∧ Q (.bl false) H
def spCon (C : Addr) : Sp := fun vs H Q _ => ∃ (x v : Addr) (L : List Iv) (t g : Int), vs = [.ref x, .ref v] ∧ GOk g ∧ PiecesAt C g H x L ∧ Lk L 24 ∧ PairAt g H v t ∧ Sm t ∧ ∀ b H', Keep [] H H' → (b = true ↔ mem L (2 * t)) → Q (.bl b) H'
def spLenP (C : Addr) : Sp := fun vs H Q _ => ∃ (x : Addr) (L : List Iv) (g : Int), vs = [.ref x] ∧ PiecesAt C g H x L ∧ Q (.int L.length) H
def spBoolP (C : Addr) : Sp := fun vs H Q _ => ∃ (x : Addr) (L : List Iv) (g : Int), vs = [.ref x] ∧ PiecesAt C g H x L ∧ Q (.bl (!L.isEmpty)) H
def spStrP (C : Addr) : Sp := fun vs H Q _ => ∃ (x : Addr) (L : List Iv) (g : Int), vs = [.ref x] ∧ GOk g ∧ PiecesAt C g H x L ∧ Lk L 24 ∧ ∀ H', Keep [] H H' → Q (.str (pcsT g L)) H'
theorem rw_inj_map : ∀ {L M : List Iv}, (∀ q ∈ L, SmI q) → (∀ q ∈ M, SmI q) → L.map rwOf = M.map rwOf → L = M
  | [], [], _, _, _ => rfl
  | [], _ :: _, _, _, e => by simp at e
  | _ :: _, [], _, _, e => by simp at e
  | p :: L, q :: M, h1, h2, e => by
    simp only [List.map_cons, List.cons.injEq] at e
    rw [rw_inj (h1 p (List.mem_cons_self ..)) (h2 q (List.mem_cons_self ..)) e.1, rw_inj_map (fun x m => h1 x (List.mem_cons_of_mem _ m)) (fun x m => h2 x (List.mem_cons_of_mem _ m)) e.2]
theorem dec_map {L M : List Iv} (h1 : ∀ q ∈ L, SmI q) (h2 : ∀ q ∈ M, SmI q) : decide (L.map rwOf = M.map rwOf) = decide (L = M) := decide_eq_decide.mpr ⟨rw_inj_map h1 h2, fun e => by rw [e]⟩
theorem gpos2 : GOk 2 := ⟨by decide, by decide⟩
theorem one_two {n : Int} : lowT n 1 = lowT (2 * n) 2 ∧ lowB n 1 = lowB (2 * n) 2 := low_eq (by decide) (by decide) (by omega)
section
variable {P : Program} {w : World} {K : PySem.W.Frag} {mg : Str → Option Value} {base : Heap}
theorem ok_none (T : Tx K mg) (G_Pieces___init : GMk P w K mg base T) : FnOk P w K mg base CX0 15 T.f_Pieces_none T.fd_Pieces_none [] (spNone T.C_Pieces) := by
  refine T.F_Pieces_none.ok sc_Pieces_none (fun vs H Q E h => ?_) (fun cdv A outer s H vs Q E hr h => ?_)
  · obtain ⟨rfl, _⟩ := h; rfl
  · obtain ⟨rfl, k⟩ := h
    refine ⟨_, PSs.nox (pss_one (ps_ret (Sr.pe_makeR0 T.mk_Pieces G_Pieces___init (hr.mono (by decide)) rfl T.gC_Pieces pass0))), ?_⟩
    walk_at "start"
    walk_at "sts"
    refine r_mkR ?_
    walk_at "sts"
    refine mk_good (as := []) (rs := []) gpos2 True.intro (fun r m => (List.not_mem_nil m).elim) (by simp) fun x L H2 k2 nx pa cv => ?_
    have e : L = [] := cv.self Can.nil
    subst e
    obtain ⟨dx, p, as, e1, e2, e3⟩ := pa
    refine k x H2 k2 nx fun g => ⟨dx, p, as, e1, e2, ?_⟩
    cases as with
    | nil => trivial
    | cons _ _ => exact e3.elim
theorem ok_every (T : Tx K mg) (G_Pieces___init : GMk P w K mg base T) : FnOk P w K mg base CX0 15 T.f_Pieces_every T.fd_Pieces_every [] (spEvery T.C_Pieces) := by
  refine T.F_Pieces_every.ok sc_Pieces_every (fun vs H Q E h => ?_) (fun cdv A outer s H vs Q E hr h => ?_)
  · obtain ⟨rfl, _⟩ := h; rfl
  · obtain ⟨rfl, g, hg, k⟩ := h
    have bb := BB_big
    refine ⟨_, PSs.nox (pss_one (ps_ret (pe_makeR T.mk_Pieces G_Pieces___init (hr.mono (by decide)) rfl T.gC_Pieces pass0 (pa_cons (pe_tup (pa_cons pe_non (pa_cons pe_bl (pa_cons pe_non (pa_cons pe_bl pa_nil))))) pa_nil)))), ?_⟩
    walk_at "start"
    walk_at "sts"
    refine r_mkR ?_
    walk_at "sts"
    intro u nu
    have k1 : Keep [] H (upd H u (.tup [.non, .bl false, .non, .bl false])) := Keep.new nu
    have e1 : upd H u (.tup [.non, .bl false, .non, .bl false]) u = some (.tup [.non, .bl false, .non, .bl false]) := upd_same
    generalize upd H u (.tup [.non, .bl false, .non, .bl false]) = H1 at k1 e1 ⊢
    walk_at "sts"
    refine mk_good (as := [u]) (rs := [(none, false, none, false)]) hg ⟨⟨.non, .non, e1, rfl, rfl⟩, trivial⟩ (fun r m => ?_) (by simp) fun x L H2 k2 nx pa cv => ?_
    · rw [List.mem_singleton.mp m]
      refine ⟨⟨(fun t h => by cases h), (fun t h => by cases h)⟩, ⟨by unfold Bad0; simp, ?_⟩⟩
      show -BB < BB
      omega
    · exact k x L H2 (k1.trans k2) (k1.free (by simp) nx) pa cv
theorem ok_point (T : Tx K mg) (G_Pieces___init : GMk P w K mg base T) : FnOk P w K mg base CX0 15 T.f_Pieces_point T.fd_Pieces_point ["value"] (spPoint T.C_Pieces) := by
  refine T.F_Pieces_point.ok sc_Pieces_point (fun vs H Q E h => ?_) (fun cdv A outer s H vs Q E hr h => ?_)
  · obtain ⟨v, t, g, rfl, _⟩ := h; rfl
  · obtain ⟨v, t, g, rfl, hg, hv, st, k⟩ := h
    refine ⟨_, PSs.nox (pss_one (ps_ret (pe_makeR T.mk_Pieces G_Pieces___init (hr.mono (by decide)) rfl T.gC_Pieces pass0 (pa_cons (pe_tup (pa_cons (pv 0) (pa_cons pe_bl (pa_cons (pv 0) (pa_cons pe_bl pa_nil))))) pa_nil)))), ?_⟩
    walk_at "start"
    walk_at "sts"
    refine r_mkR ?_
    walk_at "sts"
    intro u nu
    have k1 : Keep [] H (upd H u (.tup [.ref v, .bl true, .ref v, .bl true])) := Keep.new nu
    have e1 : upd H u (.tup [.ref v, .bl true, .ref v, .bl true]) u = some (.tup [.ref v, .bl true, .ref v, .bl true]) := upd_same
    generalize upd H u (.tup [.ref v, .bl true, .ref v, .bl true]) = H1 at k1 e1 ⊢
    have hv1 : PairAt g H1 v t := k1 _ _ (by simp) hv
    walk_at "sts"
    refine mk_good (as := [u]) (rs := [(some t, true, some t, true)]) hg ⟨⟨.ref v, .ref v, e1, ⟨v, rfl, hv1⟩, ⟨v, rfl, hv1⟩⟩, trivial⟩ (fun r m => ?_) (by simp) fun x L H2 k2 nx pa cv => ?_
    · rw [List.mem_singleton.mp m]
      refine ⟨⟨fun t h => by cases h; exact st, fun t h => by cases h; exact st⟩, ⟨by unfold Bad0; simp, ?_⟩⟩
      show 2 * t + 0 < 2 * t + 1
      omega
    · have : [(some t, true, some t, true)].map iv = [(2 * t, 2 * t + 1)] := by
        show [((2 * t + 0 : Int), (2 * t + 1 : Int))] = _
        rw [Int.add_zero]
      rw [this] at cv
      exact k x L H2 (k1.trans k2) (k1.free (by simp) nx) pa cv
theorem ok_and (T : Tx K mg) (G_Pieces___init : GMk P w K mg base T) (G_in_both : FnOk P w K mg base CX0 13 T.f_in_both T.fd_in_both ["first", "second"] (spBoth K)) : FnOk P w K mg base CX0 15 T.f_Pieces___and T.fd_Pieces___and ["self", "other"] (spOp2 T.C_Pieces fun L M c => mem L c ∧ mem M c) := by
  refine T.F_Pieces___and.ok sc_Pieces___and (fun vs H Q E h => ?_) (fun cdv A outer s H vs Q E hr h => ?_)
  · obtain ⟨x, y, L, M, g, rfl, _⟩ := h; rfl
  · obtain ⟨x, y, L, M, g, rfl, hg, ⟨dx, p, as, ex, ep, ha⟩, ⟨dy, q, bs, ey, eq, hb⟩, kL, kM, k⟩ := h
    have oc := T.oc_Pieces
    have na := T.na_Pieces_parts
    have lL := kL.len
    have lM := kM.len
    refine ⟨_, PSs.nox (pss_cons (ps_set (i := 2) sc_Pieces___and.nd rfl (Or.inl rfl) (pe_call G_in_both (hr.mono (by decide)) rfl T.g_in_both T.F_in_both.kp T.b_in_both .nil pass0 (pa_cons (pe_fld (pv 0) rfl) (pa_cons (pe_fld (pv 1) rfl) pa_nil))))
    (pss_one (ps_ret (Sr.pe_makeS T.mk_Pieces G_Pieces___init (hr.mono (by decide)) rfl T.gC_Pieces pass0 (pv 2))))), ?_⟩
    walk_at "start"
    walk_at "sts"
    refine ⟨p, q, as, bs, L, M, g, rfl, hg, ep, eq, ha, hb, fun r m => ?_, by omega, fun o cs F H1 k1 eo hcs C => ?_⟩
    · rcases List.mem_append.mp m with m | m
      · exact ⟨kL.sm r m, kL.can.lt r m⟩
      · exact ⟨kM.sm r m, kM.can.lt r m⟩
    have sF : ∀ r ∈ F, SmI r := C.sm (by decide) fun r m => by
      rcases List.mem_append.mp m with m | m
      · exact kL.sm r m
      · exact kM.sm r m
    have lF := C.len
    rw [List.length_append] at lF
    have kF : Lk F (L.length + M.length + 1) := ⟨C.can, sF, by omega⟩
    walk_at "sts"
    refine ⟨.ref o, rfl, o, _, rfl, .inl (sqT_of eo), fun z dz nz nd ne => ?_⟩
    refine mk_good hg (PcAt.all hcs) kF.good (by rw [List.length_map]; omega) (fun z' G H2 k2 nz' pa cv => ?_) z dz nz nd ne
    rw [iv_all sF] at cv
    rw [cv.self C.can] at pa
    exact k z' F H2 (k1.trans k2) (k1.free (by simp) nz') pa kF fun c => (C.is c).trans (depth_two kL.can kM.can)
theorem ok_or (T : Tx K mg) (G_Pieces___init : GMk P w K mg base T) : FnOk P w K mg base CX0 15 T.f_Pieces___or T.fd_Pieces___or ["self", "other"] (spOp2 T.C_Pieces fun L M c => mem L c ∨ mem M c) := by
  refine T.F_Pieces___or.ok sc_Pieces___or (fun vs H Q E h => ?_) (fun cdv A outer s H vs Q E hr h => ?_)
  · obtain ⟨x, y, L, M, g, rfl, _⟩ := h; rfl
  · obtain ⟨x, y, L, M, g, rfl, hg, ⟨dx, p, as, ex, ep, ha⟩, ⟨dy, q, bs, ey, eq, hb⟩, kL, kM, k⟩ := h
    have oc := T.oc_Pieces
    have na := T.na_Pieces_parts
    have lL := kL.len
    have lM := kM.len
    have la := ha.len
    have lb := hb.len
    refine ⟨_, PSs.nox (pss_cons (ps_set (i := 2) sc_Pieces___or.nd rfl (Or.inl rfl) (pe_lst (Dt.pa_starK (K := K) rfl (pe_fld (pv 0) rfl) (Dt.pa_starK (K := K) rfl (pe_fld (pv 1) rfl) pa_nil))))
    (pss_one (ps_ret (Sr.pe_makeS T.mk_Pieces G_Pieces___init (hr.mono (by decide)) rfl T.gC_Pieces pass0 (pv 2))))), ?_⟩
    walk_at "start"
    walk_at "sts"
    refine r_star ?_
    walk_at "sts"
    refine ⟨p, _, rfl, .inl (sqT_of ep), ?_⟩
    refine r_star ?_
    walk_at "sts"
    refine ⟨q, _, rfl, .inl (sqT_of eq), ?_⟩
    walk_at "sts"
    rw [List.append_nil, ← List.map_append]
    refine ⟨le_size (by rw [List.length_map, List.length_append]; omega), fun u nu => ?_⟩
    have k1 : Keep [] H (upd H u (.lst ((as ++ bs).map V.ref))) := Keep.new nu
    have e1 : upd H u (.lst ((as ++ bs).map V.ref)) u = some (.lst ((as ++ bs).map V.ref)) := upd_same
    generalize upd H u (.lst ((as ++ bs).map V.ref)) = H1 at k1 e1 ⊢
    walk_at "sts"
    have all : AllP (RwAt g H1) (as ++ bs) ((L ++ M).map rwOf) := PcAt.all ((ha.app hb).mono fun a x h => PcAt.k h k1.t0)
    have sS : ∀ r ∈ L ++ M, SmI r ∧ r.1 < r.2 := fun r m => by
      rcases List.mem_append.mp m with m | m
      · exact ⟨kL.sm r m, kL.can.lt r m⟩
      · exact ⟨kM.sm r m, kM.can.lt r m⟩
    refine ⟨.ref u, rfl, u, _, rfl, .inr (sqL_of e1), fun z dz nz nd ne => ?_⟩
    refine mk_good hg all (fun r m => ?_) (by rw [List.length_map, List.length_append]; omega) (fun z' G H2 k2 nz' pa cv => ?_) z dz nz nd ne
    · obtain ⟨x', mx, rfl⟩ := List.mem_map.mp m
      exact good_rw (sS x' mx).1 (sS x' mx).2
    rw [iv_all fun r m => (sS r m).1] at cv
    have lG := cv.len
    rw [List.length_append] at lG
    exact k z' G H2 (k1.trans k2) (k1.free (by simp) nz') pa ⟨cv.can, cv.sm (by decide) fun r m => (sS r m).1, by omega⟩ fun c => (cv.one c).trans mem_app
theorem ok_sub (T : Tx K mg) (G_Pieces___init : GMk P w K mg base T) (G_in_both : FnOk P w K mg base CX0 13 T.f_in_both T.fd_in_both ["first", "second"] (spBoth K)) (G_uncovered : FnOk P w K mg base CX0 3 T.f_uncovered T.fd_uncovered ["parts"] (spUnc K)) : FnOk P w K mg base CX0 15 T.f_Pieces___sub T.fd_Pieces___sub ["self", "other"] (spOp2 T.C_Pieces fun L M c => mem L c ∧ ¬ mem M c) := by
  refine T.F_Pieces___sub.ok sc_Pieces___sub (fun vs H Q E h => ?_) (fun cdv A outer s H vs Q E hr h => ?_)
  · obtain ⟨x, y, L, M, g, rfl, _⟩ := h; rfl
  · obtain ⟨x, y, L, M, g, rfl, hg, ⟨dx, p, as, ex, ep, ha⟩, ⟨dy, q, bs, ey, eq, hb⟩, kL, kM, k⟩ := h
    have oc := T.oc_Pieces
    have na := T.na_Pieces_parts
    have lL := kL.len
    have lM := kM.len
    refine ⟨_, PSs.nox (pss_cons (ps_set (i := 2) sc_Pieces___sub.nd rfl (Or.inl rfl) (pe_call G_in_both (hr.mono (by decide)) rfl T.g_in_both T.F_in_both.kp T.b_in_both .nil pass0 (pa_cons (pe_fld (pv 0) rfl) (pa_cons (pe_call G_uncovered (hr.mono (by decide)) rfl T.g_uncovered T.F_uncovered.kp T.b_uncovered .nil pass0 (pa_cons (pe_fld (pv 1) rfl) pa_nil)) pa_nil))))
    (pss_one (ps_ret (Sr.pe_makeS T.mk_Pieces G_Pieces___init (hr.mono (by decide)) rfl T.gC_Pieces pass0 (pv 2))))), ?_⟩
    walk_at "start"
    walk_at "sts"
    refine ⟨q, bs, M, g, rfl, hg, eq, hb, kM.sm, kM.can, by omega, fun u us U H1 k1 eu hus un => ?_⟩
    have lU := un.len
    have sU := un.sm kM.sm
    walk_at "sts"
    refine ⟨p, u, as, us, L, U, g, rfl, hg, k1 _ _ (by simp) ep, eu, ha.mono fun a x h => PcAt.k h k1.t0, hus, fun r m => ?_, by omega, fun o cs F H2 k2 eo hcs C => ?_⟩
    · rcases List.mem_append.mp m with m | m
      · exact ⟨kL.sm r m, kL.can.lt r m⟩
      · exact ⟨sU r m, un.can.lt r m⟩
    have sF : ∀ r ∈ F, SmI r := C.sm (by decide) fun r m => by
      rcases List.mem_append.mp m with m | m
      · exact kL.sm r m
      · exact sU r m
    have lF := C.len
    rw [List.length_append] at lF
    have kF : Lk F (L.length + M.length + 1) := ⟨C.can, sF, by omega⟩
    walk_at "sts"
    refine ⟨.ref o, rfl, o, _, rfl, .inl (sqT_of eo), fun z dz nz nd ne => ?_⟩
    refine mk_good hg (PcAt.all hcs) kF.good (by rw [List.length_map]; omega) (fun z' G H3 k3 nz' pa cv => ?_) z dz nz nd ne
    rw [iv_all sF] at cv
    rw [cv.self C.can] at pa
    have k12 := k1.trans k2
    refine k z' F H3 (k12.trans k3) (k12.free (by simp) nz') pa kF fun c => ((C.is c).trans (depth_two kL.can un.can)).trans ?_
    rw [un.is c]
    exact ⟨fun h => ⟨h.1, h.2.2.2⟩, fun h => ⟨h.1, (sm_range kL.sm h.1).1, (sm_range kL.sm h.1).2, h.2⟩⟩
theorem ok_inside (T : Tx K mg) (G_in_both : FnOk P w K mg base CX0 13 T.f_in_both T.fd_in_both ["first", "second"] (spBoth K)) (G_uncovered : FnOk P w K mg base CX0 3 T.f_uncovered T.fd_uncovered ["parts"] (spUnc K)) : FnOk P w K mg base CX0 14 T.f_Pieces_inside T.fd_Pieces_inside ["self", "other"] (spInside T.C_Pieces) := by
  refine T.F_Pieces_inside.ok sc_Pieces_inside (fun vs H Q E h => ?_) (fun cdv A outer s H vs Q E hr h => ?_)
  · obtain ⟨x, y, L, M, g, rfl, _⟩ := h; rfl
  · obtain ⟨x, y, L, M, g, rfl, hg, ⟨dx, p, as, ex, ep, ha⟩, ⟨dy, q, bs, ey, eq, hb⟩, kL, kM, k⟩ := h
    have oc := T.oc_Pieces
    have na := T.na_Pieces_parts
    have lL := kL.len
    have lM := kM.len
    refine ⟨_, PSs.nox (pss_one (ps_ret (pe_cmpR op_eq (pe_callB call_len_seq (by rfl) T.m_len PySem.boot_len (pa_cons (pe_call G_in_both (hr.mono (by decide)) rfl T.g_in_both T.F_in_both.kp T.b_in_both .nil pass0 (pa_cons (pe_fld (pv 0) rfl) (pa_cons (pe_call G_uncovered (hr.mono (by decide)) rfl T.g_uncovered T.F_uncovered.kp T.b_uncovered .nil pass0 (pa_cons (pe_fld (pv 1) rfl) pa_nil)) pa_nil))) pa_nil)) pe_int (nomark _)))), ?_⟩
    walk_at "start"
    walk_at "sts"
    refine ⟨q, bs, M, g, rfl, hg, eq, hb, kM.sm, kM.can, by omega, fun u us U H1 k1 eu hus un => ?_⟩
    have lU := un.len
    have sU := un.sm kM.sm
    walk_at "sts"
    refine ⟨p, u, as, us, L, U, g, rfl, hg, k1 _ _ (by simp) ep, eu, ha.mono fun a x h => PcAt.k h k1.t0, hus, fun r m => ?_, by omega, fun o cs F H2 k2 eo hcs C => ?_⟩
    · rcases List.mem_append.mp m with m | m
      · exact ⟨kL.sm r m, kL.can.lt r m⟩
      · exact ⟨sU r m, un.can.lt r m⟩
    walk_at "sts"
    refine k _ H2 (k1.trans k2) ?_
    have lc := hcs.len
    rw [decide_eq_true_iff, List.length_map, lc]
    constructor
    · intro e c hc
      have : F = [] := List.length_eq_zero_iff.mp (by omega)
      subst this
      by_cases hm : mem M c
      · exact hm
      · exact (mem_nil ((C.is c).mpr ((depth_two kL.can un.can).mpr ⟨hc, (un.is c).mpr ⟨(sm_range kL.sm hc).1, (sm_range kL.sm hc).2, hm⟩⟩))).elim
    · intro h
      rcases F with _ | ⟨f, F⟩
      · rfl
      · have hf := (C.is f.1).mp ⟨f, List.mem_cons_self .., Int.le_refl _, C.can.lt f (List.mem_cons_self ..)⟩
        have := (depth_two kL.can un.can).mp hf
        exact absurd (h _ this.1) ((un.is _).mp this.2).2.2
theorem ok_inv (T : Tx K mg) (G_Pieces___init : GMk P w K mg base T) (G_uncovered : FnOk P w K mg base CX0 3 T.f_uncovered T.fd_uncovered ["parts"] (spUnc K)) : FnOk P w K mg base CX0 15 T.f_Pieces___invert T.fd_Pieces___invert ["self"] (spInv T.C_Pieces) := by
  refine T.F_Pieces___invert.ok sc_Pieces___invert (fun vs H Q E h => ?_) (fun cdv A outer s H vs Q E hr h => ?_)
  · obtain ⟨x, L, g, rfl, _⟩ := h; rfl
  · obtain ⟨x, L, g, rfl, hg, ⟨dx, p, as, ex, ep, ha⟩, kL, k⟩ := h
    have oc := T.oc_Pieces
    have na := T.na_Pieces_parts
    have lL := kL.len
    refine ⟨_, PSs.nox (pss_cons (ps_set (i := 1) sc_Pieces___invert.nd rfl (Or.inl rfl) (pe_call G_uncovered (hr.mono (by decide)) rfl T.g_uncovered T.F_uncovered.kp T.b_uncovered .nil pass0 (pa_cons (pe_fld (pv 0) rfl) pa_nil)))
    (pss_one (ps_ret (Sr.pe_makeS T.mk_Pieces G_Pieces___init (hr.mono (by decide)) rfl T.gC_Pieces pass0 (pv 1))))), ?_⟩
    walk_at "start"
    walk_at "sts"
    refine ⟨p, as, L, g, rfl, hg, ep, ha, kL.sm, kL.can, by omega, fun u us U H1 k1 eu hus un => ?_⟩
    have kU : Lk U (L.length + 1) := ⟨un.can, un.sm kL.sm, un.len⟩
    have lU := un.len
    walk_at "sts"
    refine ⟨.ref u, rfl, u, _, rfl, .inl (sqT_of eu), fun z dz nz nd ne => ?_⟩
    refine mk_good hg (PcAt.all hus) kU.good (by rw [List.length_map]; omega) (fun z' G H3 k3 nz' pa cv => ?_) z dz nz nd ne
    rw [iv_all kU.sm] at cv
    rw [cv.self un.can] at pa
    exact k z' U H3 (k1.trans k3) (k1.free (by simp) nz') pa kU un.is
theorem kit_into {K : PySem.W.Frag} {C : Addr} {T : String} {b : Bool} (hdct : PySem.W.hasDictIn K C = true) (ht : PySem.W.typeIn K (.ref C) = some (.type "type")) (h4 : PySem.W.subIn K (.type T) (.ref C) = some b) : PySem.W.kitOne K (.type T) (.ref C) = some b := by
  obtain ⟨cd, hc, _⟩ := PySem.W.any_some hdct
  have e2 : ((PySem.W.clsIn K C).isSome && PySem.W.typeIn K (.ref C) == some (.type "type")) = true := by rw [hc, ht] <;> rfl
  unfold PySem.W.kitOne
  rw [if_neg (by show ¬ (Value.type T == Value.ref C) = true; intro z; cases (beq_iff_eq.mp z))]
  show (if ((PySem.W.clsIn K C).isSome && PySem.W.typeIn K (.ref C) == some (.type "type")) = true then PySem.W.subIn K (.type T) (.ref C) else none) = some b
  rw [if_pos e2]
  exact h4
theorem oth_ty {K : PySem.W.Frag} {H : Hp} {y : V} {T : String} (o : Ow.Oth H y T) : TyX K H y (.type T) := by
  cases o with
  | int i => exact .base (.int i)
  | str z => exact .base (.str z)
  | tup e => exact .base (.tup e)
theorem ok_eqP (T : Tx K mg) : FnOk P w K mg base CX0 1 T.f_Pieces___eq T.fd_Pieces___eq ["self", "other"] (spEqP K T.C_Pieces) := by
  refine T.F_Pieces___eq.ok sc_Pieces___eq (fun vs H Q E h => ?_) (fun cdv A outer s H vs Q E hr h => ?_)
  · rcases h with ⟨x, y, L, M, g, rfl, _⟩ | ⟨x, L, g, y, Ty, rfl, _⟩ <;> rfl
  · have oc := T.oc_Pieces
    have na := T.na_Pieces_parts
    rcases h with ⟨x, y, L, M, g, rfl, hg, ⟨dx, p, as, ex, ep, ha⟩, ⟨dy, q, bs, ey, eq, hb⟩, sL, sM, k⟩ | ⟨x, L, g, y, Ty, rfl, ⟨dx, p, as, ex, ep, ha⟩, oy, hs, k⟩
    · refine ⟨_, PSs.nox (pss_one (ps_ret (pe_and (pe_callB call_isi (by rfl) T.m_isinstance (by decide +kernel) (pa_cons (pv 1) (pa_cons (pe_glob (v := .ref T.C_Pieces) rfl T.gC_Pieces rfl) pa_nil))) (pe_one (pe_cmpR (op_eqD hr.units) (pe_fld (pv 0) rfl) (pe_fld (pv 1) rfl) (nomark _)))))), ?_⟩
      walk_at "start"
      walk_at "sts"
      refine Ow.r_isiOwn oc ey ?_
      walk_at "sts"
      refine ⟨_, _, .tup (sqT_of ep) (dp_rws (PcAt.all ha)), .tup (sqT_of eq) (dp_rws (PcAt.all hb)), shaped_rws.1, shaped_rws.1, ?_⟩
      rw [eqvT, eqv_rws hg.pos, dec_map sL sM]
      walk_at "sts"
      exact k
    · refine ⟨_, PSs.nox (pss_one (ps_ret (pe_and (pe_callB call_isi (by rfl) T.m_isinstance (by decide +kernel) (pa_cons (pv 1) (pa_cons (pe_glob (v := .ref T.C_Pieces) rfl T.gC_Pieces rfl) pa_nil))) (pe_one (pe_cmpR (op_eqD hr.units) (pe_fld (pv 0) rfl) (pe_fld (pv 1) rfl) (nomark _)))))), ?_⟩
      walk_at "start"
      walk_at "sts"
      refine ⟨_, _, _, _, false, rfl, .own _, oth_ty oy, kit_into oc.cl.hd T.ty_Pieces hs, ?_⟩
      walk_at "sts"
      exact k
theorem ok_lenP (T : Tx K mg) : FnOk P w K mg base CX0 1 T.f_Pieces___len T.fd_Pieces___len ["self"] (spLenP T.C_Pieces) := by
  refine T.F_Pieces___len.ok sc_Pieces___len (fun vs H Q E h => ?_) (fun cdv A outer s H vs Q E hr h => ?_)
  · obtain ⟨x, L, g, rfl, _⟩ := h; rfl
  · obtain ⟨x, L, g, rfl, ⟨dx, p, as, ex, ep, ha⟩, k⟩ := h
    have oc := T.oc_Pieces
    have na := T.na_Pieces_parts
    refine ⟨_, PSs.nox (pss_one (ps_ret (pe_callB call_len_seq (by rfl) T.m_len PySem.boot_len (pa_cons (pe_fld (pv 0) rfl) pa_nil)))), ?_⟩
    walk_at "start"
    walk_at "sts"
    rw [List.length_map, ha.len]
    exact k
theorem ok_boolP (T : Tx K mg) : FnOk P w K mg base CX0 1 T.f_Pieces___bool T.fd_Pieces___bool ["self"] (spBoolP T.C_Pieces) := by
  refine T.F_Pieces___bool.ok sc_Pieces___bool (fun vs H Q E h => ?_) (fun cdv A outer s H vs Q E hr h => ?_)
  · obtain ⟨x, L, g, rfl, _⟩ := h; rfl
  · obtain ⟨x, L, g, rfl, ⟨dx, p, as, ex, ep, ha⟩, k⟩ := h
    have oc := T.oc_Pieces
    have na := T.na_Pieces_parts
    refine ⟨_, PSs.nox (pss_one (ps_ret (pe_callTy (Bl.call_boolT (K := K) rfl) (by rfl) T.m_bool (by decide +kernel) (pa_cons (pe_fld (pv 0) rfl) pa_nil)))), ?_⟩
    walk_at "start"
    walk_at "sts"
    refine Bl.r_boolT (sqT_of ep) ?_
    have : (as.map V.ref).isEmpty = L.isEmpty := by
      have := ha.len
      cases as <;> cases L <;> simp_all
    rw [this]
    exact k
theorem ok_strP (T : Tx K mg) (G_write_pieces : FnOk P w K mg base CX0 3 T.f_write_pieces T.fd_write_pieces ["parts"] spWPs) : FnOk P w K mg base CX0 4 T.f_Pieces___str T.fd_Pieces___str ["self"] (spStrP T.C_Pieces) := by
  refine T.F_Pieces___str.ok sc_Pieces___str (fun vs H Q E h => ?_) (fun cdv A outer s H vs Q E hr h => ?_)
  · obtain ⟨x, L, g, rfl, _⟩ := h; rfl
  · obtain ⟨x, L, g, rfl, hg, ⟨dx, p, as, ex, ep, ha⟩, kL, k⟩ := h
    have oc := T.oc_Pieces
    have na := T.na_Pieces_parts
    refine ⟨_, PSs.nox (pss_one (ps_ret (pe_callTy SkE.call_str_str (by rfl) T.m_str (by decide +kernel) (pa_cons (pe_call G_write_pieces (hr.mono (by decide)) rfl T.g_write_pieces T.F_write_pieces.kp T.b_write_pieces .nil pass0 (pa_cons (pe_fld (pv 0) rfl) pa_nil)) pa_nil)))), ?_⟩
    walk_at "start"
    walk_at "sts"
    refine ⟨p, as, L, g, rfl, hg, ep, ha, kL.sm, kL.len, fun H1 k1 => ?_⟩
    walk_at "sts"
    exact k H1 k1
theorem ok_con (T : Tx K mg) (G_has_value : FnOk P w K mg base CX0 3 T.f_has_value T.fd_has_value ["part", "value"] (spHas K)) : FnOk P w K mg base CX0 4 T.f_Pieces___contains T.fd_Pieces___contains ["self", "value"] (spCon T.C_Pieces) := by
  refine T.F_Pieces___contains.ok sc_Pieces___contains (fun vs H Q E h => ?_) (fun cdv A outer s H vs Q E hr h => ?_)
  · obtain ⟨x, v, L, t, g, rfl, _⟩ := h; rfl
  · obtain ⟨x, v, L, t, g, rfl, hg, ⟨dx, p, as, ex, ep, ha⟩, kL, hv, st, k⟩ := h
    have oc := T.oc_Pieces
    have na := T.na_Pieces_parts
    have la := ha.len
    have lL := kL.len
    have lm : (as.map V.ref).length = L.length := by rw [List.length_map]; exact la
    refine ⟨_, PSs.nox (pss_one (ps_ret (pe_callB (cr_any rfl) (by rfl) T.m_any (by decide +kernel) (pa_cons (pe_lc (own := [("part", 2)]) (g := gName 2) (tt := tYes) rfl sc_Pieces___contains.nd (pi_tup (pe_fld (pv 0) rfl)) (blkOk_by (own := [("part", 2)]) (N := ["self", "value", "part"]) (sc := defScope s_Pieces___contains) (by decide +kernel)) (fun _ _ _ _ _ => pg_name (i := 2) sc_Pieces___contains.nd rfl (Or.inl rfl)) (fun _ _ _ _ _ => pts_nil) (fun _ _ _ _ _ => (pe_call G_has_value (hr.mono (by decide)) rfl T.g_has_value T.F_has_value.kp T.b_has_value .nil pass0 (pa_cons (pv 2) (pa_cons (pv 1) pa_nil))))) pa_nil)))), ?_⟩
    walk_at "start"
    walk_at "sts"
    refine lcT_go (fun D i acc H' => acc = ((L.take i).map fun q => decide (q.1 ≤ 2 * t ∧ 2 * t < q.2)).map V.bl ∧ Keep [] H H' ∧ H D = none) (sqT_of ep) (fun D nD => ⟨rfl, Keep.new nD, nD⟩) (fun D i acc H' _ h => by obtain ⟨_, k, _⟩ := h; exact sqT_of (k _ _ (by simp) ep)) ?_ ?_
    · rintro D i u acc H' hu hD ⟨rfl, k1, nD⟩
      obtain ⟨a, hai, rfl⟩ := getRf hu
      obtain ⟨q, hq, hqa⟩ := ha.get hai
      have hi := (List.getElem?_eq_some_iff.mp hq).1
      walk_at "sts"
      try simp only [L2.wipe, List.map_cons, List.map_nil, List.set_cons_zero, List.set_cons_succ]
      refine ⟨by first | exact rfl | trivial, ?_⟩
      walk_at "sts"
      first
        | refine ⟨a, v, q, t, g, rfl, hg, PcAt.k hqa k1.t0, kL.sm q (List.mem_of_getElem? hq), k1 _ _ (by simp) hv, st, fun H2 k2 => ?_⟩
        | refine ⟨v, q, t, g, rfl, hg, PcAt.k hqa k1.t0, kL.sm q (List.mem_of_getElem? hq), k1 _ _ (by simp) hv, st, fun H2 k2 => ?_⟩
        | refine ⟨q, t, g, rfl, hg, PcAt.k hqa k1.t0, kL.sm q (List.mem_of_getElem? hq), k1 _ _ (by simp) hv, st, fun H2 k2 => ?_⟩
      refine lc_put (k2 _ _ (by simp) hD) (by simp only [List.length_map, List.length_take]; exact lt_size (by omega)) ⟨?_, (k1.trans k2).mut nD, nD⟩
      rw [take_s hq, List.map_append, List.map_append]; rfl
    · rintro D acc H' nD hD ⟨rfl, k1, _⟩
      rw [lm, List.take_length] at hD
      walk_at "sts"
      refine r_any (bs := L.map fun q => decide (q.1 ≤ 2 * t ∧ 2 * t < q.2)) (sqL_of hD) ?_
      refine k _ H' k1 ?_
      rw [List.any_map, List.any_eq_true]
      exact ⟨fun ⟨q, m, h⟩ => ⟨q, m, by simpa using h⟩, fun ⟨q, m, h⟩ => ⟨q, m, by simpa using h⟩⟩
end
open PySem PySem.Spec PyProof.Rows L2 StX Pc
/-! ### what may raise -/
def spGrown (C CN : Addr) : Sp := fun vs H Q E => ∃ (x : Addr) (b a : Int) (L : List Iv) (g : Int), vs = [.ref x, .int b, .int a] ∧ GOk g ∧ PiecesAt C g H x L ∧ Lk L 24 ∧ (∀ q ∈ L, (Sc q.1 → q.1.natAbs < 2 ^ 150) ∧ (Sc q.2 → q.2.natAbs < 2 ^ 150)) ∧ b.natAbs < 2 ^ 100 ∧ a.natAbs < 2 ^ 100 ∧
  (0 ≤ b → 0 ≤ a → ∀ z F H', Keep [] H H' → H z = none → PiecesAt C g H' z F → CovN (L.map (growI (2 * (b * g)) (2 * (a * g)))) 1 F → Q (.ref z) H') ∧
  (b < 0 → ∀ e, H e = none → E (.ref CN) (some e) (upd H e (.xd [("number", .int b)]))) ∧ (0 ≤ b → a < 0 → ∀ e, H e = none → E (.ref CN) (some e) (upd H e (.xd [("number", .int a)])))
def spSome (C CN : Addr) : Sp := fun vs H Q E => ∃ (x : Addr) (L : List Iv) (g : Int), vs = [.ref x] ∧ GOk g ∧ PiecesAt C g H x L ∧ Lk L 24 ∧ (∀ q ∈ L, Ev q.1 ∧ Ev q.2) ∧ (L = [] → E (.ref CN) none H) ∧
  (∀ p M, L = p :: M → ∀ (q : Addr) (t : Int) H', Keep [] H H' → PairAt g H' q t → p.1 ≤ 2 * t → 2 * t < p.2 → t.natAbs < 2 ^ 202 → Q (.ref q) H')
def spLPs (C CB : Addr) : Sp := fun vs H Q E => ∃ (p : Addr) (as : List Addr) (rs : List Rw) (g : Int), vs = [.ref p] ∧ GOk g ∧ H p = some (.lst (as.map V.ref)) ∧ AllP (RwAt g H) as rs ∧ (∀ r ∈ rs, SmR r) ∧ rs.length ≤ 7 ∧
  ((∀ r ∈ rs, Good r) → ∀ x L H', Keep [] H H' → H x = none → PiecesAt C g H' x L → CovN (rs.map iv) 1 L → Q (.ref x) H') ∧
  (∀ (i : Nat) a r, as[i]? = some a → rs[i]? = some r → (∀ (j : Nat) r', j < i → rs[j]? = some r' → Good r') → ¬ Good r → ∀ H' e, Keep [] H H' → H' e = none → E (.ref CB) (some e) (upd H' e (.xd [("stretch", .ref a)])))
theorem grow_end {g B : Int} {c : Int} (h : Sc c → c.natAbs < 2 ^ 150) (hB : B.natAbs < 2 ^ 140) : (Sc c → Sc (c + 2 * B) ∧ (c + 2 * B) / 2 = c / 2 + B ∧ (c + 2 * B) % 2 = c % 2) := fun s => by
  have := h s
  refine ⟨by omega, by omega, by omega⟩
section
variable {w : World} {K : PySem.W.Frag} {mg : Str → Option Value} {base : Heap}
theorem ok_betw (T : Tx K mg) (G_Pieces___init : FnR PG w K mg base (L2.CX PG w) 13 T.f_Pieces___init (spStarP T.C_Pieces T.C_BadStretch)) (G_ratio : FnOk PG w K mg base CX0 1 T.f_ratio T.fd_ratio ["top", "bottom"] spLow) : FnOk PG w K mg base (L2.CX PG w) 15 T.f_Pieces_between T.fd_Pieces_between ["low", "high"] (spBetw T.C_Pieces T.C_BadStretch) := by
  refine T.F_Pieces_between.okX sc_Pieces_between (fun vs H Q E h => ?_) (fun cdv A outer s H vs Q E hr h => ?_)
  · obtain ⟨lo, hi, rfl, _⟩ := h; rfl
  · obtain ⟨lo, hi, rfl, s1, s2, q1, q2⟩ := h
    have tk0 : Takes (cxOf (L2.CX PG w) PG w K mg base ["low", "high"] "Pieces.between" (defScope s_Pieces_between) T.f_Pieces_between cdv A outer s H E) (fun cls d _ H => E cls d H) := takes_of rfl rfl rfl rfl
    refine ⟨_, (pss_one (ps_ret (pe_makeR T.mk_Pieces G_Pieces___init (hr.mono (by decide)) rfl T.gC_Pieces (passes_call tk0 (fun _ _ _ _ h => h)) (pa_cons (pe_tup (pa_cons (pe_call G_ratio (hr.mono (by decide)) rfl T.g_ratio T.F_ratio.kp T.b1_ratio.choose_spec.2 T.b1_ratio.choose_spec.1 pass0 (pa_cons (pv 0) pa_nil)) (pa_cons pe_bl (pa_cons (pe_call G_ratio (hr.mono (by decide)) rfl T.g_ratio T.F_ratio.kp T.b1_ratio.choose_spec.2 T.b1_ratio.choose_spec.1 pass0 (pa_cons (pv 1) pa_nil)) (pa_cons pe_bl pa_nil))))) pa_nil)))), ?_⟩
    walk_at "start"
    walk_at "sts"
    refine r_mkR ?_
    walk_at "sts"
    refine ⟨lo, 1, rfl, by decide, Nat.lt_of_lt_of_le (by decide : (1 : Int).natAbs < 2 ^ 1) (Nat.pow_le_pow_right (by decide) (by decide)), fun p1 H1 k1 n1 e1 => ?_⟩
    walk_at "sts"
    refine ⟨hi, 1, rfl, by decide, Nat.lt_of_lt_of_le (by decide : (1 : Int).natAbs < 2 ^ 1) (Nat.pow_le_pow_right (by decide) (by decide)), fun p2 H2 k2 n2 e2 => ?_⟩
    rw [one_two.1, one_two.2] at e1 e2
    walk_at "sts"
    intro u nu
    have k3 : Keep [] H2 (upd H2 u (.tup [.ref p1, .bl true, .ref p2, .bl true])) := Keep.new nu
    have e3 : upd H2 u (.tup [.ref p1, .bl true, .ref p2, .bl true]) u = some (.tup [.ref p1, .bl true, .ref p2, .bl true]) := upd_same
    generalize upd H2 u (.tup [.ref p1, .bl true, .ref p2, .bl true]) = H3 at k3 e3 ⊢
    have k03 := (k1.trans k2).trans k3
    walk_at "sts"
    have hu : RwAt 2 H3 u (some (2 * lo), true, some (2 * hi), true) := ⟨.ref p1, .ref p2, e3, ⟨p1, rfl, (k2.trans k3) _ _ (by simp) e1⟩, ⟨p2, rfl, k3 _ _ (by simp) e2⟩⟩
    have ge : Good (some (2 * lo), true, some (2 * hi), true) ↔ lo ≤ hi := by
      constructor
      · intro h
        have : 2 * (2 * lo) + 0 < 2 * (2 * hi) + 1 := h.lt
        omega
      · intro h
        refine ⟨by unfold Bad0; simp, ?_⟩
        show 2 * (2 * lo) + 0 < 2 * (2 * hi) + 1
        omega
    refine mk_pcs (as := [u]) (rs := [(some (2 * lo), true, some (2 * hi), true)]) gpos2 ⟨hu, trivial⟩ (fun r m => ?_) (by simp) (fun gd x L H4 k4 nx pa cv => ?_) (fun i a r ha hr0 hj ng H4 e k4 he => ?_)
    · rw [List.mem_singleton.mp m]
      exact ⟨(fun t h => by cases h; exact s1), (fun t h => by cases h; exact s2)⟩
    · have : [(some (2 * lo), true, some (2 * hi), true)].map iv = [(4 * lo, 4 * hi + 1)] := by
        show [((2 * (2 * lo) + 0 : Int), (2 * (2 * hi) + 1 : Int))] = _
        congr 1
        exact Prod.ext (show 2 * (2 * lo) + 0 = 4 * lo by omega) (show 2 * (2 * hi) + 1 = 4 * hi + 1 by omega)
      rw [this] at cv
      exact q1 (ge.mp (gd _ (List.mem_singleton.mpr rfl))) x L H4 (k03.trans k4) (k03.free (by simp) nx) pa cv
    · match i, ha, hr0 with
      | 0, ha, hr0 =>
        cases ha; cases hr0
        exact q2 (by have : ¬ lo ≤ hi := fun z => ng (ge.mpr z); omega) H4 u e (k03.trans k4) (hu.k k4.t0) he
      | i + 1, ha, hr0 => simp at ha
theorem ok_some (T : Tx K mg) (G_value_in : FnOk PG w K mg base CX0 3 T.f_value_in T.fd_value_in ["part"] spVal) : FnOk PG w K mg base (L2.CX PG w) 4 T.f_Pieces_some T.fd_Pieces_some ["self"] (spSome T.C_Pieces T.C_NoValue) := by
  refine T.F_Pieces_some.okX sc_Pieces_some (fun vs H Q E h => ?_) (fun cdv A outer s H vs Q E hr h => ?_)
  · obtain ⟨x, L, g, rfl, _⟩ := h; rfl
  · obtain ⟨x, L, g, rfl, hg, ⟨dx, p, as, ex, ep, ha⟩, kL, ev, q1, q2⟩ := h
    have tk0 : Takes (cxOf (L2.CX PG w) PG w K mg base ["self"] "Pieces.some" (defScope s_Pieces_some) T.f_Pieces_some cdv A outer s H E) (fun cls d _ H => E cls d H) := takes_of rfl rfl rfl rfl
    have oc := T.oc_Pieces
    have na := T.na_Pieces_parts
    refine ⟨_, (pss_cons (ps_if (pt_cmpR op_eq (pe_callB call_len_seq (by rfl) T.m_len PySem.boot_len (pa_cons (pe_fld (pv 0) rfl) pa_nil)) pe_int (nomark _))
    (pss_one (Er.ps_raise0 rfl (T.Z_NoValue w) hr tk0))
    pss_nil)
    (pss_one (ps_ret (pe_call G_value_in (hr.mono (by decide)) rfl T.g_value_in T.F_value_in.kp T.b_value_in .nil pass0 (pa_cons (pe_ix ix_tup (pe_fld (pv 0) rfl) pe_int (fun _ _ => rfl)) pa_nil))))), ?_⟩
    walk_at "start"
    walk_at "sts"
    rcases L with _ | ⟨q, L⟩
    · rcases as with _ | ⟨_, _⟩
      · try refine r_iteT (by simp) ?_
        walk_at "sts"
        exact Er.r_raise0 (q1 rfl)
      · exact ha.elim
    · rcases as with _ | ⟨a, as⟩
      · exact ha.elim
      have ep' : H p = some (.tup (V.ref a :: as.map V.ref)) := ep
      try refine r_iteF (by simp; omega) ?_
      walk_at "sts"
      refine ⟨a, q, g, rfl, hg, ha.1, kL.sm q (List.mem_cons_self ..), kL.can.lt q (List.mem_cons_self ..), (ev q (List.mem_cons_self ..)).1, (ev q (List.mem_cons_self ..)).2, fun o t H1 k1 eo h1 h2 h3 => ?_⟩
      exact q2 q L rfl o t H1 k1 eo h1 h2 h3
theorem ok_lps (T : Tx K mg) (G_Pieces___init : FnR PG w K mg base (L2.CX PG w) 13 T.f_Pieces___init (spStarP T.C_Pieces T.C_BadStretch)) : FnOk PG w K mg base (L2.CX PG w) 15 T.f_w_pieces T.fd_w_pieces ["_law_given"] (spLPs T.C_Pieces T.C_BadStretch) := by
  refine T.F_w_pieces.okX sc_w_pieces (fun vs H Q E h => ?_) (fun cdv A outer s H vs Q E hr h => ?_)
  · obtain ⟨p, as, rs, g, rfl, _⟩ := h; rfl
  · obtain ⟨p, as, rs, g, rfl, hg, ep, har, sm, l7, q1, q2⟩ := h
    have tk0 : Takes (cxOf (L2.CX PG w) PG w K mg base ["_law_given"] "_law_pieces" (defScope s_w_pieces) T.f_w_pieces cdv A outer s H E) (fun cls d _ H => E cls d H) := takes_of rfl rfl rfl rfl
    have oc := T.oc_Pieces
    refine ⟨_, (pss_cons (ps_if (pt_cmpR op_eq (pe_callB call_len_seq (by rfl) T.m_len PySem.boot_len (pa_cons (pv 0) pa_nil)) pe_int (nomark _))
    (pss_one (ps_ret (Sr.pe_makeR0 T.mk_Pieces G_Pieces___init (hr.mono (by decide)) rfl T.gC_Pieces (passes_call tk0 (fun _ _ _ _ h => h)))))
    pss_nil)
    (pss_cons (ps_if (pt_cmpR op_eq (pe_callB call_len_seq (by rfl) T.m_len PySem.boot_len (pa_cons (pv 0) pa_nil)) pe_int (nomark _))
    (pss_one (ps_ret (pe_makeR T.mk_Pieces G_Pieces___init (hr.mono (by decide)) rfl T.gC_Pieces (passes_call tk0 (fun _ _ _ _ h => h)) (pa_cons (pe_ix ix_list (pv 0) pe_int (fun _ _ => rfl)) pa_nil))))
    pss_nil)
    (pss_cons (ps_if (pt_cmpR op_eq (pe_callB call_len_seq (by rfl) T.m_len PySem.boot_len (pa_cons (pv 0) pa_nil)) pe_int (nomark _))
    (pss_one (ps_ret (pe_makeR T.mk_Pieces G_Pieces___init (hr.mono (by decide)) rfl T.gC_Pieces (passes_call tk0 (fun _ _ _ _ h => h)) (pa_cons (pe_ix ix_list (pv 0) pe_int (fun _ _ => rfl)) (pa_cons (pe_ix ix_list (pv 0) pe_int (fun _ _ => rfl)) pa_nil)))))
    pss_nil)
    (pss_cons (ps_if (pt_cmpR op_eq (pe_callB call_len_seq (by rfl) T.m_len PySem.boot_len (pa_cons (pv 0) pa_nil)) pe_int (nomark _))
    (pss_one (ps_ret (pe_makeR T.mk_Pieces G_Pieces___init (hr.mono (by decide)) rfl T.gC_Pieces (passes_call tk0 (fun _ _ _ _ h => h)) (pa_cons (pe_ix ix_list (pv 0) pe_int (fun _ _ => rfl)) (pa_cons (pe_ix ix_list (pv 0) pe_int (fun _ _ => rfl)) (pa_cons (pe_ix ix_list (pv 0) pe_int (fun _ _ => rfl)) pa_nil))))))
    pss_nil)
    (pss_cons (ps_if (pt_cmpR op_eq (pe_callB call_len_seq (by rfl) T.m_len PySem.boot_len (pa_cons (pv 0) pa_nil)) pe_int (nomark _))
    (pss_one (ps_ret (pe_makeR T.mk_Pieces G_Pieces___init (hr.mono (by decide)) rfl T.gC_Pieces (passes_call tk0 (fun _ _ _ _ h => h)) (pa_cons (pe_ix ix_list (pv 0) pe_int (fun _ _ => rfl)) (pa_cons (pe_ix ix_list (pv 0) pe_int (fun _ _ => rfl)) (pa_cons (pe_ix ix_list (pv 0) pe_int (fun _ _ => rfl)) (pa_cons (pe_ix ix_list (pv 0) pe_int (fun _ _ => rfl)) pa_nil)))))))
    pss_nil)
    (pss_cons (ps_if (pt_cmpR op_eq (pe_callB call_len_seq (by rfl) T.m_len PySem.boot_len (pa_cons (pv 0) pa_nil)) pe_int (nomark _))
    (pss_one (ps_ret (pe_makeR T.mk_Pieces G_Pieces___init (hr.mono (by decide)) rfl T.gC_Pieces (passes_call tk0 (fun _ _ _ _ h => h)) (pa_cons (pe_ix ix_list (pv 0) pe_int (fun _ _ => rfl)) (pa_cons (pe_ix ix_list (pv 0) pe_int (fun _ _ => rfl)) (pa_cons (pe_ix ix_list (pv 0) pe_int (fun _ _ => rfl)) (pa_cons (pe_ix ix_list (pv 0) pe_int (fun _ _ => rfl)) (pa_cons (pe_ix ix_list (pv 0) pe_int (fun _ _ => rfl)) pa_nil))))))))
    pss_nil)
    (pss_cons (ps_if (pt_cmpR op_eq (pe_callB call_len_seq (by rfl) T.m_len PySem.boot_len (pa_cons (pv 0) pa_nil)) pe_int (nomark _))
    (pss_one (ps_ret (pe_makeR T.mk_Pieces G_Pieces___init (hr.mono (by decide)) rfl T.gC_Pieces (passes_call tk0 (fun _ _ _ _ h => h)) (pa_cons (pe_ix ix_list (pv 0) pe_int (fun _ _ => rfl)) (pa_cons (pe_ix ix_list (pv 0) pe_int (fun _ _ => rfl)) (pa_cons (pe_ix ix_list (pv 0) pe_int (fun _ _ => rfl)) (pa_cons (pe_ix ix_list (pv 0) pe_int (fun _ _ => rfl)) (pa_cons (pe_ix ix_list (pv 0) pe_int (fun _ _ => rfl)) (pa_cons (pe_ix ix_list (pv 0) pe_int (fun _ _ => rfl)) pa_nil)))))))))
    pss_nil)
    (pss_one (ps_ret (pe_makeR T.mk_Pieces G_Pieces___init (hr.mono (by decide)) rfl T.gC_Pieces (passes_call tk0 (fun _ _ _ _ h => h)) (pa_cons (pe_ix ix_list (pv 0) pe_int (fun _ _ => rfl)) (pa_cons (pe_ix ix_list (pv 0) pe_int (fun _ _ => rfl)) (pa_cons (pe_ix ix_list (pv 0) pe_int (fun _ _ => rfl)) (pa_cons (pe_ix ix_list (pv 0) pe_int (fun _ _ => rfl)) (pa_cons (pe_ix ix_list (pv 0) pe_int (fun _ _ => rfl)) (pa_cons (pe_ix ix_list (pv 0) pe_int (fun _ _ => rfl)) (pa_cons (pe_ix ix_list (pv 0) pe_int (fun _ _ => rfl)) pa_nil))))))))))))))))), ?_⟩
    walk_at "start"
    rcases rs with _ | ⟨r0, rs⟩
    · rcases as with _ | ⟨_, _⟩
      · replace ep : H p = some (.lst []) := ep
        walk_at "sts"
        refine r_mkR ?_
        walk_at "sts"
        exact mk_pcs (as := []) (rs := []) hg har sm (by simp) q1 q2
      · exact har.elim
    rcases as with _ | ⟨a0, as⟩
    · exact har.elim
    rcases rs with _ | ⟨r1, rs⟩
    · rcases as with _ | ⟨_, _⟩
      · replace ep : H p = some (.lst [.ref a0]) := ep
        walk_at "sts"
        refine r_mkR ?_
        walk_at "sts"
        exact mk_pcs (as := [a0]) (rs := [r0]) hg har sm (by simp) q1 q2
      · exact har.2.elim
    rcases as with _ | ⟨a1, as⟩
    · exact har.2.elim
    rcases rs with _ | ⟨r2, rs⟩
    · rcases as with _ | ⟨_, _⟩
      · replace ep : H p = some (.lst [.ref a0, .ref a1]) := ep
        walk_at "sts"
        refine r_mkR ?_
        walk_at "sts"
        exact mk_pcs (as := [a0, a1]) (rs := [r0, r1]) hg har sm (by simp) q1 q2
      · exact har.2.2.elim
    rcases as with _ | ⟨a2, as⟩
    · exact har.2.2.elim
    rcases rs with _ | ⟨r3, rs⟩
    · rcases as with _ | ⟨_, _⟩
      · replace ep : H p = some (.lst [.ref a0, .ref a1, .ref a2]) := ep
        walk_at "sts"
        refine r_mkR ?_
        walk_at "sts"
        exact mk_pcs (as := [a0, a1, a2]) (rs := [r0, r1, r2]) hg har sm (by simp) q1 q2
      · exact har.2.2.2.elim
    rcases as with _ | ⟨a3, as⟩
    · exact har.2.2.2.elim
    rcases rs with _ | ⟨r4, rs⟩
    · rcases as with _ | ⟨_, _⟩
      · replace ep : H p = some (.lst [.ref a0, .ref a1, .ref a2, .ref a3]) := ep
        walk_at "sts"
        refine r_mkR ?_
        walk_at "sts"
        exact mk_pcs (as := [a0, a1, a2, a3]) (rs := [r0, r1, r2, r3]) hg har sm (by simp) q1 q2
      · exact har.2.2.2.2.elim
    rcases as with _ | ⟨a4, as⟩
    · exact har.2.2.2.2.elim
    rcases rs with _ | ⟨r5, rs⟩
    · rcases as with _ | ⟨_, _⟩
      · replace ep : H p = some (.lst [.ref a0, .ref a1, .ref a2, .ref a3, .ref a4]) := ep
        walk_at "sts"
        refine r_mkR ?_
        walk_at "sts"
        exact mk_pcs (as := [a0, a1, a2, a3, a4]) (rs := [r0, r1, r2, r3, r4]) hg har sm (by simp) q1 q2
      · exact har.2.2.2.2.2.elim
    rcases as with _ | ⟨a5, as⟩
    · exact har.2.2.2.2.2.elim
    rcases rs with _ | ⟨r6, rs⟩
    · rcases as with _ | ⟨_, _⟩
      · replace ep : H p = some (.lst [.ref a0, .ref a1, .ref a2, .ref a3, .ref a4, .ref a5]) := ep
        walk_at "sts"
        refine r_mkR ?_
        walk_at "sts"
        exact mk_pcs (as := [a0, a1, a2, a3, a4, a5]) (rs := [r0, r1, r2, r3, r4, r5]) hg har sm (by simp) q1 q2
      · exact har.2.2.2.2.2.2.elim
    rcases as with _ | ⟨a6, as⟩
    · exact har.2.2.2.2.2.2.elim
    rcases rs with _ | ⟨r7, rs⟩
    · rcases as with _ | ⟨_, _⟩
      · replace ep : H p = some (.lst [.ref a0, .ref a1, .ref a2, .ref a3, .ref a4, .ref a5, .ref a6]) := ep
        walk_at "sts"
        refine r_mkR ?_
        walk_at "sts"
        refine r_ixL (sqL_of ep) (atI_nat (j := 6) rfl) ?_
        walk_at "sts"
        exact mk_pcs (as := [a0, a1, a2, a3, a4, a5, a6]) (rs := [r0, r1, r2, r3, r4, r5, r6]) hg har sm (by simp) q1 q2
      · exact har.2.2.2.2.2.2.2.elim
    · simp only [List.length_cons] at l7; omega
theorem ok_grown (T : Tx K mg) (G_Pieces___init : FnR PG w K mg base (L2.CX PG w) 13 T.f_Pieces___init (spStarP T.C_Pieces T.C_BadStretch)) (G_plus : FnOk PG w K mg base CX0 2 T.f_plus T.fd_plus ["first", "second"] (spTwo fPlus)) : FnOk PG w K mg base (L2.CX PG w) 15 T.f_Pieces_grown T.fd_Pieces_grown ["self", "below", "above"] (spGrown T.C_Pieces T.C_BadNumber) := by
  refine T.F_Pieces_grown.okX sc_Pieces_grown (fun vs H Q E h => ?_) (fun cdv A outer s H vs Q E hr h => ?_)
  · obtain ⟨x, b, a, L, g, rfl, _⟩ := h; rfl
  · obtain ⟨x, b, a, L, g, rfl, hg, ⟨dx, p, as, ex, ep, har⟩, kL, tiny, zb, za, q1, q2, q3⟩ := h
    have tk0 : Takes (cxOf (L2.CX PG w) PG w K mg base ["self", "below", "above", "wider", "low", "low_in", "high", "high_in", "start", "end"] "Pieces.grown" (defScope s_Pieces_grown) T.f_Pieces_grown cdv A outer s H E) (fun cls d _ H => E cls d H) := takes_of rfl rfl rfl rfl
    have oc := T.oc_Pieces
    have na := T.na_Pieces_parts
    have la := har.len
    have lL := kL.len
    have g0 := hg.pos
    have g1 := hg.lt
    have zg : g.natAbs < 2 ^ 40 := by omega
    have zB : (b * g).natAbs < 2 ^ 140 := wide_lt zb zg
    have zA : (a * g).natAbs < 2 ^ 140 := wide_lt za zg
    have zBn : (-b * g).natAbs < 2 ^ 140 := wide_lt (by omega) zg
    have nB : -b * g = -(b * g) := Int.neg_mul ..
    have z300 : ∀ {x : Int}, x.natAbs < 2 ^ 300 → x.natAbs < 2 ^ 3000 := fun h => Nat.lt_of_lt_of_le h (Nat.pow_le_pow_right (by decide) (by decide))
    have z9 : ∀ {x : Int}, x.natAbs < 2 ^ 3000 → x.natAbs < 2 ^ 9000 := fun h => Nat.lt_of_lt_of_le h (Nat.pow_le_pow_right (by decide) (by decide))
    have z100 : ∀ {x : Int}, x.natAbs < 2 ^ 100 → x.natAbs < 2 ^ 9000 := fun h => Nat.lt_of_lt_of_le h (Nat.pow_le_pow_right (by decide) (by decide))
    have one3 : (1 : Int).natAbs < 2 ^ 3000 := Nat.lt_of_lt_of_le (by decide : (1 : Int).natAbs < 2 ^ 1) (Nat.pow_le_pow_right (by decide) (by decide))
    have zmsg : ∀ {x : Int}, x.natAbs < 2 ^ 100 → x.natAbs < 2 ^ 1000 := fun h => Nat.lt_of_lt_of_le h (Nat.pow_le_pow_right (by decide) (by decide))
    refine ⟨_, (pss_cons (ps_if (pt_cmpR op_lt (pv 1) pe_int (nomark _))
    (pss_one (Er.ps_raise1 rfl (T.Z_BadNumber w) hr tk0 (pa_cons (pv 1) pa_nil)))
    pss_nil)
    (pss_cons (ps_if (pt_cmpR op_lt (pv 2) pe_int (nomark _))
    (pss_one (Er.ps_raise1 rfl (T.Z_BadNumber w) hr tk0 (pa_cons (pv 2) pa_nil)))
    pss_nil)
    (pss_cons (ps_set (i := 3) sc_Pieces_grown.nd rfl (Or.inl rfl) (pe_lst pa_nil))
    (pss_cons (ps_for (passes_of rfl) rfl (pi_tup (pe_fld (pv 0) rfl)) (pg_tup (n := 4) rfl (pgs_cons (pg_name (i := 4) sc_Pieces_grown.nd rfl (Or.inl rfl)) (pgs_cons (pg_name (i := 5) sc_Pieces_grown.nd rfl (Or.inl rfl)) (pgs_cons (pg_name (i := 6) sc_Pieces_grown.nd rfl (Or.inl rfl)) (pgs_cons (pg_name (i := 7) sc_Pieces_grown.nd rfl (Or.inl rfl)) pgs_nil)))))
    (pss_cons (ps_set (i := 8) sc_Pieces_grown.nd rfl (Or.inl rfl) (pe_ifExp (pt_cmpR op_isNc (pv 4) pe_non (nomark _)) pe_non (pe_call G_plus (hr.mono (by decide)) rfl T.g_plus T.F_plus.kp T.b_plus .nil pass0 (pa_cons (pv 4) (pa_cons (pe_tup (pa_cons (pe_un un_neg (pv 1)) (pa_cons pe_int pa_nil))) pa_nil)))))
    (pss_cons (ps_set (i := 9) sc_Pieces_grown.nd rfl (Or.inl rfl) (pe_ifExp (pt_cmpR op_isNc (pv 6) pe_non (nomark _)) pe_non (pe_call G_plus (hr.mono (by decide)) rfl T.g_plus T.F_plus.kp T.b_plus .nil pass0 (pa_cons (pv 6) (pa_cons (pe_tup (pa_cons (pv 2) (pa_cons pe_int pa_nil))) pa_nil)))))
    (pss_one (ps_expr (pe_bm PySem.F.plainAttrs_list PySem.F.slot_list_append PySem.F.type_list_append mt_append (pv 3) (pa_cons (pe_tup (pa_cons (pv 8) (pa_cons (pv 5) (pa_cons (pv 9) (pa_cons (pv 7) pa_nil))))) pa_nil)))))))
    (pss_one (ps_ret (Sr.pe_makeS T.mk_Pieces G_Pieces___init (hr.mono (by decide)) rfl T.gC_Pieces (passes_call tk0 (fun _ _ _ _ h => h)) (pv 3)))))))), ?_⟩
    walk_at "start"
    walk_at "sts"
    refine r_ite (fun c1 => ?_) (fun c1 => ?_)
    · walk_at "sts"
      exact Er.r_msgI (zmsg zb) fun e he => q2 c1 e he
    walk_at "sts"
    refine r_ite (fun c2 => ?_) (fun c2 => ?_)
    · walk_at "sts"
      exact Er.r_msgI (zmsg za) fun e he => q3 (by omega) c2 e he
    walk_at "sts"
    intro F nF
    have k0 : Keep [] H (upd H F (.lst [])) := Keep.new nF
    have e0 : upd H F (.lst []) F = some (.lst []) := upd_same
    generalize upd H F (.lst []) = H1 at k0 e0 ⊢
    have ex1 := k0 _ _ (by simp) ex
    have ep1 := k0 _ _ (by simp) ep
    walk_at "sts"
    refine forT_go (fun i σ' H' => ∃ (bs : List Addr) (y4 y5 y6 y7 y8 y9 : Option V), σ' = [some (.ref x), some (.int b), some (.int a), some (.ref F), y4, y5, y6, y7, y8, y9] ∧ Keep [] H H' ∧ H' F = some (.lst (bs.map V.ref)) ∧ AllP (RwAt g H') bs ((L.take i).map fun q => rwOf (growI (2 * (b * g)) (2 * (a * g)) q))) (sqT_of ep1) ⟨[], _, _, _, _, _, _, by first | exact rfl | trivial, k0, e0, True.intro⟩ (fun i σ' H' _ h => by obtain ⟨_, _, _, _, _, _, _, _, k, _⟩ := h; exact sqT_of (k _ _ (by simp) ep)) ?_ ?_
    · rintro i v σ' H2 hv ⟨bs, y4, y5, y6, y7, y8, y9, rfl, k2, eF, hbs⟩
      obtain ⟨u, hu, rfl⟩ := getRf hv
      obtain ⟨q, hq, hqa⟩ := har.get hu
      have mq := List.mem_of_getElem? hq
      have hi := (List.getElem?_eq_some_iff.mp hq).1
      have lb := hbs.len
      rw [List.length_map, List.length_take] at lb
      obtain ⟨xl, xh, eq, h1, h2⟩ := RwAt.k (show RwAt g H u (rwOf q) from hqa) k2.t0
      obtain ⟨t1, t2⟩ := tiny q mq
      have G1 := grow_end (g := g) (B := -b * g) t1 zBn
      have G2 := grow_end (g := g) (B := a * g) t2 zA
      have put : ∀ (H3 : Hp) (v1 v2 : V), Keep [] H2 H3 → EndAt g H3 v1 (rwOf (growI (2 * (b * g)) (2 * (a * g)) q)).1 → EndAt g H3 v2 (rwOf (growI (2 * (b * g)) (2 * (a * g)) q)).2.2.1 → ∀ o, H3 o = none →
          Keep [] H (upd (upd H3 o (.tup [v1, .bl (rwOf q).2.1, v2, .bl (rwOf q).2.2.2])) F (.lst (bs.map V.ref ++ [V.ref o]))) ∧ AllP (RwAt g (upd (upd H3 o (.tup [v1, .bl (rwOf q).2.1, v2, .bl (rwOf q).2.2.2])) F (.lst (bs.map V.ref ++ [V.ref o])))) (bs ++ [o]) ((L.take (i + 1)).map fun q => rwOf (growI (2 * (b * g)) (2 * (a * g)) q)) := by
        intro H3 v1 v2 k3 e1 e2 o no
        have k4 : Keep [] H3 (upd H3 o (.tup [v1, .bl (rwOf q).2.1, v2, .bl (rwOf q).2.2.2])) := Keep.new no
        have e4 : upd H3 o (.tup [v1, .bl (rwOf q).2.1, v2, .bl (rwOf q).2.2.2]) o = some (.tup [v1, .bl (rwOf q).2.1, v2, .bl (rwOf q).2.2.2]) := upd_same
        generalize upd H3 o (.tup [v1, .bl (rwOf q).2.1, v2, .bl (rwOf q).2.2.2]) = H4 at k4 e4 ⊢
        have k34 := k3.trans k4
        have t5 := (Keep.at (M := [F]) (p := F) (H := H4) (o := HO.lst (bs.map V.ref ++ [V.ref o])) (by simp)).t1 (noT_l (k34 _ _ (by simp) eF))
        refine ⟨(k2.trans k34).mut nF, ?_⟩
        rw [take_s hq, List.map_append]
        refine (hbs.mono fun a x h => (RwAt.k h k34.t0).k t5).snoc ⟨v1, v2, ?_, (e1.k k4.t0).k t5, (e2.k k4.t0).k t5⟩
        have f1 : (rwOf (growI (2 * (b * g)) (2 * (a * g)) q)).2.1 = (rwOf q).2.1 := by
          show (decide (Sc (growC _ q.1)) && decide (growC _ q.1 % 2 = 0)) = (decide (Sc q.1) && decide (q.1 % 2 = 0))
          unfold growC
          by_cases c : Sc q.1
          · rw [if_pos c]
            have := G1 c
            rw [show q.1 + -(2 * (b * g)) = q.1 + 2 * (-b * g) by rw [nB]; omega, decide_eq_true this.1, decide_eq_true c, this.2.2]
          · rw [if_neg c]
        have f2 : (rwOf (growI (2 * (b * g)) (2 * (a * g)) q)).2.2.2 = (rwOf q).2.2.2 := by
          show (decide (Sc (growC _ q.2)) && decide (growC _ q.2 % 2 = 1)) = (decide (Sc q.2) && decide (q.2 % 2 = 1))
          unfold growC
          by_cases c : Sc q.2
          · rw [if_pos c]
            have := G2 c
            rw [decide_eq_true this.1, decide_eq_true c, this.2.2]
          · rw [if_neg c]
        rw [f1, f2]
        exact t5 _ _ e4
      have f3 : (rwOf (growI (2 * (b * g)) (2 * (a * g)) q)).1 = if Sc q.1 then some (q.1 / 2 + -b * g) else none := by
        show (if Sc (growC _ q.1) then some (growC _ q.1 / 2) else none) = _
        unfold growC
        by_cases c : Sc q.1
        · have := G1 c
          rw [if_pos c, show q.1 + -(2 * (b * g)) = q.1 + 2 * (-b * g) by rw [nB]; omega, if_pos this.1, this.2.1, if_pos c]
        · rw [if_neg c, if_neg c, if_neg c]
      have f4 : (rwOf (growI (2 * (b * g)) (2 * (a * g)) q)).2.2.1 = if Sc q.2 then some (q.2 / 2 + a * g) else none := by
        show (if Sc (growC _ q.2) then some (growC _ q.2 / 2) else none) = _
        unfold growC
        by_cases c : Sc q.2
        · have := G2 c
          rw [if_pos c, if_pos this.1, this.2.1, if_pos c]
        · rw [if_neg c, if_neg c, if_neg c]
      rw [f3, f4] at put
      have l1 : (rwOf q).1 = if Sc q.1 then some (q.1 / 2) else none := rfl
      have l2 : (rwOf q).2.2.1 = if Sc q.2 then some (q.2 / 2) else none := rfl
      rw [l1] at h1
      rw [l2] at h2
      generalize (rwOf q).2.1 = b1 at eq put
      generalize (rwOf q).2.2.2 = b2 at eq put
      refine r_gTup4 (sqT_of eq) ?_
      simp only [List.set_cons_zero, List.set_cons_succ]
      have low : ∃ (σ3 : V) , True := ⟨.non, trivial⟩
      clear G1 G2 f3 f4 l1 l2
      by_cases s1 : Sc q.1
      · rw [if_pos s1] at h1 put
        obtain ⟨p1, rfl, hp1⟩ := h1
        have z1 := sm_lo (show Sm (q.1 / 2) by unfold Sm; omega) hg
        by_cases s2 : Sc q.2
        · rw [if_pos s2] at h2 put
          obtain ⟨p2, rfl, hp2⟩ := h2
          have z2 := sm_lo (show Sm (q.2 / 2) by unfold Sm; omega) hg
          walk_at "sts"
          intro u1 nu1
          have k3 : Keep [] H2 (upd H2 u1 (.tup [.int (-b), .int 1])) := Keep.new nu1
          have e3 : upd H2 u1 (.tup [.int (-b), .int 1]) u1 = some (.tup [.int (-b), .int 1]) := upd_same
          generalize upd H2 u1 (.tup [.int (-b), .int 1]) = H3 at k3 e3 ⊢
          walk_at "sts"
          refine r_two (k3 _ _ (by simp) hp1) e3 (by omega) (by decide) (z9 (z300 z1.1)) (z300 z1.2.1) (z100 (by omega)) one3 fun r1 H4 k4 nr1 er1 => ?_
          rw [(plus_int g0).1, (plus_int g0).2] at er1
          have kA := k3.trans k4
          walk_at "sts"
          intro u2 nu2
          have k5 : Keep [] H4 (upd H4 u2 (.tup [.int a, .int 1])) := Keep.new nu2
          have e5 : upd H4 u2 (.tup [.int a, .int 1]) u2 = some (.tup [.int a, .int 1]) := upd_same
          generalize upd H4 u2 (.tup [.int a, .int 1]) = H5 at k5 e5 ⊢
          walk_at "sts"
          refine r_two ((kA.trans k5) _ _ (by simp) hp2) e5 (by omega) (by decide) (z9 (z300 z2.1)) (z300 z2.2.1) (z100 za) one3 fun r2 H6 k6 nr2 er2 => ?_
          rw [(plus_int g0).1, (plus_int g0).2] at er2
          have kB := (kA.trans k5).trans k6
          walk_at "sts"
          intro o no
          have pt := put H6 (.ref r1) (.ref r2) kB ⟨r1, rfl, (k5.trans k6) _ _ (by simp) er1⟩ ⟨r2, rfl, er2⟩ o no
          have eF' : (upd H6 o (.tup [(.ref r1), .bl b1, (.ref r2), .bl b2])) F = some (.lst (bs.map V.ref)) := (Keep.new no : Keep [] H6 _) _ _ (by simp) (kB _ _ (by simp) eF)
          walk_at "sts"
          try (refine r_app eF' (by rw [List.length_map]; exact lt_size (by omega)) ?_; walk_at "sts")
          exact ⟨bs ++ [o], _, _, _, _, _, _, by first | exact rfl | trivial, pt.1, by rw [List.map_append]; exact upd_same, pt.2⟩
        · rw [if_neg s2] at h2 put
          obtain rfl : xh = .non := h2
          walk_at "sts"
          intro u1 nu1
          have k3 : Keep [] H2 (upd H2 u1 (.tup [.int (-b), .int 1])) := Keep.new nu1
          have e3 : upd H2 u1 (.tup [.int (-b), .int 1]) u1 = some (.tup [.int (-b), .int 1]) := upd_same
          generalize upd H2 u1 (.tup [.int (-b), .int 1]) = H3 at k3 e3 ⊢
          walk_at "sts"
          refine r_two (k3 _ _ (by simp) hp1) e3 (by omega) (by decide) (z9 (z300 z1.1)) (z300 z1.2.1) (z100 (by omega)) one3 fun r1 H4 k4 nr1 er1 => ?_
          rw [(plus_int g0).1, (plus_int g0).2] at er1
          have kA := k3.trans k4
          walk_at "sts"
          intro o no
          have pt := put H4 (.ref r1) .non kA ⟨r1, rfl, er1⟩ rfl o no
          have eF' : (upd H4 o (.tup [(.ref r1), .bl b1, .non, .bl b2])) F = some (.lst (bs.map V.ref)) := (Keep.new no : Keep [] H4 _) _ _ (by simp) (kA _ _ (by simp) eF)
          walk_at "sts"
          try (refine r_app eF' (by rw [List.length_map]; exact lt_size (by omega)) ?_; walk_at "sts")
          exact ⟨bs ++ [o], _, _, _, _, _, _, by first | exact rfl | trivial, pt.1, by rw [List.map_append]; exact upd_same, pt.2⟩
      · rw [if_neg s1] at h1 put
        obtain rfl : xl = .non := h1
        by_cases s2 : Sc q.2
        · rw [if_pos s2] at h2 put
          obtain ⟨p2, rfl, hp2⟩ := h2
          have z2 := sm_lo (show Sm (q.2 / 2) by unfold Sm; omega) hg
          walk_at "sts"
          intro u2 nu2
          have k5 : Keep [] H2 (upd H2 u2 (.tup [.int a, .int 1])) := Keep.new nu2
          have e5 : upd H2 u2 (.tup [.int a, .int 1]) u2 = some (.tup [.int a, .int 1]) := upd_same
          generalize upd H2 u2 (.tup [.int a, .int 1]) = H5 at k5 e5 ⊢
          walk_at "sts"
          refine r_two (k5 _ _ (by simp) hp2) e5 (by omega) (by decide) (z9 (z300 z2.1)) (z300 z2.2.1) (z100 za) one3 fun r2 H6 k6 nr2 er2 => ?_
          rw [(plus_int g0).1, (plus_int g0).2] at er2
          have kB := k5.trans k6
          walk_at "sts"
          intro o no
          have pt := put H6 .non (.ref r2) kB rfl ⟨r2, rfl, er2⟩ o no
          have eF' : (upd H6 o (.tup [.non, .bl b1, (.ref r2), .bl b2])) F = some (.lst (bs.map V.ref)) := (Keep.new no : Keep [] H6 _) _ _ (by simp) (kB _ _ (by simp) eF)
          walk_at "sts"
          try (refine r_app eF' (by rw [List.length_map]; exact lt_size (by omega)) ?_; walk_at "sts")
          exact ⟨bs ++ [o], _, _, _, _, _, _, by first | exact rfl | trivial, pt.1, by rw [List.map_append]; exact upd_same, pt.2⟩
        · rw [if_neg s2] at h2 put
          obtain rfl : xh = .non := h2
          walk_at "sts"
          intro o no
          have pt := put H2 .non .non (Keep.refl [] _) rfl rfl o no
          have eF' : (upd H2 o (.tup [.non, .bl b1, .non, .bl b2])) F = some (.lst (bs.map V.ref)) := (Keep.new no : Keep [] H2 _) _ _ (by simp) ((Keep.refl [] _) _ _ (by simp) eF)
          walk_at "sts"
          try (refine r_app eF' (by rw [List.length_map]; exact lt_size (by omega)) ?_; walk_at "sts")
          exact ⟨bs ++ [o], _, _, _, _, _, _, by first | exact rfl | trivial, pt.1, by rw [List.map_append]; exact upd_same, pt.2⟩
    · rintro σ' H2 ⟨bs, y4, y5, y6, y7, y8, y9, rfl, k2, eF, hbs⟩
      have lm : (as.map V.ref).length = L.length := by rw [List.length_map]; exact la
      rw [lm, List.take_length] at hbs
      have lb := hbs.len
      rw [List.length_map] at lb
      have sG : ∀ r ∈ L.map (growI (2 * (b * g)) (2 * (a * g))), SmI r ∧ r.1 < r.2 := fun r m => by
        obtain ⟨q, mq, rfl⟩ := List.mem_map.mp m
        obtain ⟨t1, t2⟩ := tiny q mq
        have lt := kL.can.lt q mq
        have b0 : 0 ≤ b * g := Int.mul_nonneg (by omega) (by omega)
        have a0 : 0 ≤ a * g := Int.mul_nonneg (by omega) (by omega)
        obtain ⟨s1, s2⟩ := kL.sm q mq
        have nb := Pc.bb_not
        refine ⟨⟨?_, ?_⟩, ?_⟩
        · show growC _ q.1 = -BB ∨ Sc (growC _ q.1)
          unfold growC
          rcases s1 with s | s
          · left; rw [s, if_neg nb.2]
          · right; rw [if_pos s]; have := t1 s; omega
        · show growC _ q.2 = BB ∨ Sc (growC _ q.2)
          unfold growC
          rcases s2 with s | s
          · left; rw [s, if_neg nb.1]
          · right; rw [if_pos s]; have := t2 s; omega
        · show growC _ q.1 < growC _ q.2
          unfold growC
          split <;> split <;> omega
      have em : (L.map fun q => rwOf (growI (2 * (b * g)) (2 * (a * g)) q)) = (L.map (growI (2 * (b * g)) (2 * (a * g)))).map rwOf := by rw [List.map_map]; rfl
      rw [em] at hbs
      walk_at "sts"
      refine ⟨.ref F, rfl, F, _, rfl, .inr (sqL_of eF), fun z dz nz nd ne => ?_⟩
      refine mk_good hg hbs (fun r m => ?_) (by rw [List.length_map, List.length_map]; omega) (fun z' G H3 k3 nz' pa cv => ?_) z dz nz nd ne
      · obtain ⟨q, mq, rfl⟩ := List.mem_map.mp m
        exact good_rw (sG q mq).1 (sG q mq).2
      rw [iv_all fun r m => (sG r m).1] at cv
      exact q1 (by omega) (by omega) z' G H3 (k2.trans k3) (k2.free (by simp) nz') pa cv
end
open PySem PySem.Spec PyProof.Rows L2 StX Pc
/-! ### the law's draws -/
def oV : Option Int → V
  | none => .non
  | some t => .int t
def RawAt (H : Hp) (a : Addr) (r : Rw) : Prop := H a = some (.tup [oV r.1, .bl r.2.1, oV r.2.2.1, .bl r.2.2.2])
theorem RawAt.k {H H' : Hp} {a : Addr} {r : Rw} (h : RawAt H a r) (k : KeepT H H') : RawAt H' a r := k _ _ h
def dbl (r : Rw) : Rw := (r.1.map (2 * ·), r.2.1, r.2.2.1.map (2 * ·), r.2.2.2)
def Bd (t : Int) : Prop := t.natAbs ≤ 3 * 10 ^ 20
def BdR (r : Rw) : Prop := (∀ t, r.1 = some t → Bd t) ∧ ∀ t, r.2.2.1 = some t → Bd t
structure EsAt (H : Hp) (e : Addr) (es : List Int) : Prop where
  at_ : H e = some (.lst (es.map V.int))
  bd : ∀ x ∈ es, x.natAbs ≤ 2 * 10 ^ 20 + es.length
  len : es.length ≤ 60
theorem bdr_sm {r : Rw} (h : BdR r) : SmR (dbl r) := by
  obtain ⟨a, b, c, d⟩ := r
  refine ⟨fun t e => ?_, fun t e => ?_⟩
  · cases a with
    | none => cases e
    | some x => cases e; have := h.1 x rfl; unfold Bd at this; show Sm (2 * x); unfold Sm; omega
  · cases c with
    | none => cases e
    | some x => cases e; have := h.2 x rfl; unfold Bd at this; show Sm (2 * x); unfold Sm; omega
def FOk (f : Int) : Prop := 1 ≤ f ∧ f ≤ 10 ^ 6
theorem FOk.g {f : Int} (h : FOk f) : GOk (2 * f) := by unfold FOk at h; exact ⟨by omega, by omega⟩
def spEnd : Sp := fun vs H Q _ => ∃ (a e : Addr) (f : Int) (es : List Int), vs = [.ref a, .int f, .ref e] ∧ PotAt a H ∧ FOk f ∧ e ≠ a ∧ EsAt H e es ∧ ∀ (r : Int) H', Keep [a] H H' → PotAt a H' → r.natAbs ≤ 2 * 10 ^ 20 + es.length + 1 → Q (.int r) H'
def spStr1 : Sp := fun vs H Q _ => ∃ (a e : Addr) (f : Int) (es : List Int), vs = [.ref a, .int f, .ref e] ∧ PotAt a H ∧ FOk f ∧ e ≠ a ∧ EsAt H e es ∧ es.length + 2 ≤ 60 ∧ ∀ (p : Addr) (r : Rw) (us : List Int) H', Keep [a, e] H H' → H p = none → PotAt a H' → EsAt H' e us → us.length = es.length + 2 → RawAt H' p r → BdR r → Good (dbl r) → Q (.ref p) H'
def spWrong : Sp := fun vs H Q _ => ∃ (a e : Addr) (f : Int) (es : List Int), vs = [.ref a, .int f, .ref e] ∧ PotAt a H ∧ FOk f ∧ e ≠ a ∧ EsAt H e es ∧ ∀ (p : Addr) (r : Rw) H', Keep [a] H H' → PotAt a H' → RawAt H' p r → BdR r → Q (.ref p) H'
def spGood : Sp := fun vs H Q _ => ∃ (p : Addr) (r : Rw), vs = [.ref p] ∧ BdR r ∧ RawAt H p r ∧ Q (.bl (good (dbl r))) H
theorem r_neNil {K : PySem.W.Frag} {H : Hp} {Q : VK} {p q : Addr} {xs : List V} (hp : SqL K H p xs) (hq : SqL K H q []) (fx : xs.all flatV = true) (k : Q (.bl (!xs.isEmpty)) H) : rNeD K (.ref p) (.ref q) H Q :=
  r_neL hp hq fx rfl (by cases xs <;> simp [PyData.eqvAll]) k
theorem r_eqNil {K : PySem.W.Frag} {H : Hp} {Q : VK} {p q : Addr} {xs : List V} (hp : SqL K H p xs) (hq : SqL K H q []) (fx : xs.all flatV = true) (k : Q (.bl xs.isEmpty) H) : rEqD K (.ref p) (.ref q) H Q :=
  r_eqL hp hq fx rfl (by cases xs <;> simp [PyData.eqvAll]) k
theorem EsAt.k {H H' : Hp} {e a : Addr} {es : List Int} (h : EsAt H e es) (k : Keep [a] H H') (n : e ≠ a) : EsAt H' e es := ⟨k _ _ (by simpa using n) h.at_, h.bd, h.len⟩
section
variable {P : Program} {w : World} {K : PySem.W.Frag} {mg : Str → Option Value} {base : Heap}
theorem ok_end (T : Tx K mg) (G_w_take : FnOk P w K mg base CX0 1 T.f_w_take T.fd_w_take ["_law_pot_here", "_law_size"] spTake) : FnOk P w K mg base CX0 2 T.f_w_end T.fd_w_end ["_law_pot_here", "_law_fine", "_law_ends_here"] spEnd := by
  refine T.F_w_end.ok sc_w_end (fun vs H Q E h => ?_) (fun cdv A outer s H vs Q E hr h => ?_)
  · obtain ⟨a, e, f, es, rfl, _⟩ := h; rfl
  · obtain ⟨a, e, f, es, rfl, pa, hf, ne, he, k⟩ := h
    unfold FOk at hf
    have le := he.len
    have fl : (es.map V.int).all L2.flatV = true := by rw [List.all_eq_true]; intro x hx; obtain ⟨u, _, rfl⟩ := List.mem_map.mp hx; rfl
    refine ⟨_, (pss_cons (ps_set (i := 3) sc_w_end.nd rfl (Or.inl rfl) (pe_call G_w_take (hr.mono (by decide)) rfl T.g_w_take T.F_w_take.kp T.b_w_take .nil pass0 (pa_cons (pv 0) (pa_cons pe_int pa_nil))))
    (pss_cons (ps_if (pt_cmpR op_lt (pv 3) pe_int (nomark _))
    (pss_one (ps_ret (pe_op op_sub (pe_call G_w_take (hr.mono (by decide)) rfl T.g_w_take T.F_w_take.kp T.b_w_take .nil pass0 (pa_cons (pv 0) (pa_cons pe_int pa_nil))) pe_int)))
    pss_nil)
    (pss_cons (ps_if (pt_cmpR op_eq (pv 3) pe_int (nomark _))
    (pss_one (ps_ret (pe_op op_mulG (pe_op op_sub (pe_call G_w_take (hr.mono (by decide)) rfl T.g_w_take T.F_w_take.kp T.b_w_take .nil pass0 (pa_cons (pv 0) (pa_cons pe_int pa_nil))) pe_int) (pv 1))))
    pss_nil)
    (pss_cons (ps_if (PW.pt (pw_and (pt_cmpR op_lt (pv 3) pe_int (nomark _)) (pw_and1 (pt_cmpR (op_neD hr.units) (pv 2) (pe_lst pa_nil) (nomark _)))))
    (pss_one (ps_ret (pe_op op_sub (pe_op op_add (pe_ix ix_list (pv 2) (pe_call G_w_take (hr.mono (by decide)) rfl T.g_w_take T.F_w_take.kp T.b_w_take .nil pass0 (pa_cons (pv 0) (pa_cons (pe_callB call_len_seq (by rfl) T.m_len PySem.boot_len (pa_cons (pv 2) pa_nil)) pa_nil))) (fun _ _ => rfl)) (pe_call G_w_take (hr.mono (by decide)) rfl T.g_w_take T.F_w_take.kp T.b_w_take .nil pass0 (pa_cons (pv 0) (pa_cons pe_int pa_nil)))) pe_int)))
    pss_nil)
    (pss_cons (ps_set (i := 4) sc_w_end.nd rfl (Or.inl rfl) (pe_op op_sub pe_int (pe_op op_mul pe_int (pe_call G_w_take (hr.mono (by decide)) rfl T.g_w_take T.F_w_take.kp T.b_w_take .nil pass0 (pa_cons (pv 0) (pa_cons pe_int pa_nil))))))
    (pss_cons (ps_if (pt_cmpR op_lt (pv 3) pe_int (nomark _))
    (pss_one (ps_ret (pe_op op_mulG (pv 4) (pe_call G_w_take (hr.mono (by decide)) rfl T.g_w_take T.F_w_take.kp T.b_w_take .nil pass0 (pa_cons (pv 0) (pa_cons (pe_op op_pow pe_int pe_int) pa_nil))))))
    pss_nil)
    (pss_one (ps_ret (pe_op op_mulG (pv 4) (pe_op op_add (pe_op op_mul (pe_call G_w_take (hr.mono (by decide)) rfl T.g_w_take T.F_w_take.kp T.b_w_take .nil pass0 (pa_cons (pv 0) (pa_cons (pe_op op_pow pe_int pe_int) pa_nil))) (pe_op op_pow pe_int pe_int)) (pe_call G_w_take (hr.mono (by decide)) rfl T.g_w_take T.F_w_take.kp T.b_w_take .nil pass0 (pa_cons (pv 0) (pa_cons (pe_op op_pow pe_int pe_int) pa_nil))))))))))))), ?_⟩
    walk_at "start"
    walk_at "sts"
    refine r_take pa (by decide) (by decide) fun y H1 y0 y1 k1 p1 => ?_
    walk_at "sts"
    refine r_ite (fun c1 => ?_) (fun c1 => ?_)
    · walk_at "sts"
      refine r_take p1 (by decide) (by decide) fun z H2 z0 z1 k2 p2 => ?_
      walk_at "sts"
      exact k _ H2 (k1.trans k2) p2 (by omega)
    walk_at "sts"
    refine r_ite (fun c2 => ?_) (fun c2 => ?_)
    · walk_at "sts"
      refine r_take p1 (by decide) (by decide) fun z H2 z0 z1 k2 p2 => ?_
      walk_at "sts"
      have : ((z - 6) * f).natAbs ≤ 6 * 10 ^ 6 := by
        rw [Int.natAbs_mul]
        exact Nat.mul_le_mul (by omega) (by omega)
      exact k _ H2 (k1.trans k2) p2 (by omega)
    walk_at "sts"
    have sign : ∀ (H1 : Hp), Keep [a] H H1 → PotAt a H1 → ∀ (s x : Int), 0 ≤ s → s < 2 → x.natAbs ≤ 2 * 10 ^ 20 → Q (.int ((1 - 2 * s) * x)) H1 := by
      intro H1 k1 p1 s x s0 s1 hx
      exact k _ H1 k1 p1 (by rw [sgn_abs s0 s1]; omega)
    have tail : ∀ (H1 : Hp), True := fun _ => trivial
    refine r_ite (fun c3 => ?_) (fun c3 => ?_)
    · walk_at "sts"
      have e1 := k1 _ _ (by simpa using ne) he.at_
      intro q nq
      have kq : Keep [] H1 (upd H1 q (.lst [])) := Keep.new nq
      have eq : upd H1 q (.lst []) q = some (.lst []) := upd_same
      generalize upd H1 q (.lst []) = H1' at kq eq ⊢
      have p1' : PotAt a H1' := by obtain ⟨PP, hP, hp⟩ := p1; exact ⟨PP, kq _ _ (by simp) hP, hp⟩
      have e1' := kq _ _ (by simp) e1
      have k1' : Keep [a] H H1' := k1.trans (kq.mono fun _ h => (List.not_mem_nil h).elim)
      refine r_neNil (sqL_of e1') (sqL_of eq) (by rw [List.all_eq_true]; intro x hx; obtain ⟨u, _, rfl⟩ := List.mem_map.mp hx; rfl) ?_
      rcases es with _ | ⟨x0, es⟩
      · rw [show (([] : List Int).map V.int).isEmpty = true from rfl]
        walk_at "sts"
        refine r_take p1' (by decide) (by decide) fun sg0 H2 z0 z1 k2 p2 => ?_
        walk_at "sts"
        try refine r_iteT (by omega) ?_
        walk_at "sts"
        refine r_take p2 (by decide) (by decide) fun x H3 x0 x1 k3 p3 => ?_
        walk_at "sts"
        exact sign H3 ((k1'.trans k2).trans k3) p3 _ _ z0 z1 (by omega)
      · generalize hus : x0 :: es = us at *
        have lu : 0 < us.length := by rw [← hus]; simp
        have nb : (us.map V.int).isEmpty = false := by rw [← hus]; rfl
        rw [nb]
        have lm : (us.map V.int).length = us.length := List.length_map _
        walk_at "sts"
        rw [lm]
        refine r_take p1' (by omega) (by have : (us.length : Int) ≤ 60 := by omega
                                         omega) fun j H2 z0 z1 k2 p2 => ?_
        obtain ⟨n, rfl⟩ : ∃ n : Nat, j = (n : Int) := ⟨j.toNat, by omega⟩
        have hn : n < us.length := by omega
        have e2 := k2 _ _ (by simpa using ne) e1'
        refine r_ixL (sqL_of e2) (atI_nat (by rw [List.getElem?_map, List.getElem?_eq_getElem hn]; rfl)) ?_
        have bx := he.bd us[n] (List.getElem_mem hn)
        walk_at "sts"
        refine r_take p2 (by decide) (by decide) fun z H3 z0' z1' k3 p3 => ?_
        walk_at "sts"
        exact k _ H3 ((k1'.trans k2).trans k3) p3 (by omega)
    · walk_at "sts"
      refine r_take p1 (by decide) (by decide) fun sg0 H2 z0 z1 k2 p2 => ?_
      walk_at "sts"
      refine r_ite (fun c4 => ?_) (fun c4 => ?_)
      · walk_at "sts"
        refine r_take p2 (by decide) (by decide) fun x H3 x0 x1 k3 p3 => ?_
        walk_at "sts"
        exact sign H3 ((k1.trans k2).trans k3) p3 _ _ z0 z1 (by omega)
      · walk_at "sts"
        refine r_take p2 (by decide) (by decide) fun x H3 x0 x1 k3 p3 => ?_
        walk_at "sts"
        refine r_take p3 (by decide) (by decide) fun x' H4 x0' x1' k4 p4 => ?_
        walk_at "sts"
        exact sign H4 (((k1.trans k2).trans k3).trans k4) p4 _ _ z0 z1 (by omega)
end
open PySem PySem.Spec PyProof.Rows L2 StX Pc
/-! ### a stretch drawn -/
theorem EsAt.app {H : Hp} {e : Addr} {es : List Int} {r : Int} (h : EsAt H e es) (b : r.natAbs ≤ 2 * 10 ^ 20 + es.length + 1) (l : es.length + 1 ≤ 60) : EsAt (upd H e (.lst (es.map V.int ++ [.int r]))) e (es ++ [r]) := by
  refine ⟨by rw [List.map_append]; exact upd_same, fun x m => ?_, by rw [List.length_append, List.length_singleton]; exact l⟩
  rw [List.length_append, List.length_singleton]
  rcases List.mem_append.mp m with m | m
  · have := h.bd x m; omega
  · rw [List.mem_singleton.mp m]; omega
section
variable {P : Program} {w : World} {K : PySem.W.Frag} {mg : Str → Option Value} {base : Heap}
theorem ok_str1 (T : Tx K mg) (G_w_take : FnOk P w K mg base CX0 1 T.f_w_take T.fd_w_take ["_law_pot_here", "_law_size"] spTake) (G_w_end : FnOk P w K mg base CX0 2 T.f_w_end T.fd_w_end ["_law_pot_here", "_law_fine", "_law_ends_here"] spEnd) : FnOk P w K mg base CX0 3 T.f_w_stretch T.fd_w_stretch ["_law_pot_here", "_law_fine", "_law_ends_here"] spStr1 := by
  refine T.F_w_stretch.ok sc_w_stretch (fun vs H Q E h => ?_) (fun cdv A outer s H vs Q E hr h => ?_)
  · obtain ⟨a, e, f, es, rfl, _⟩ := h; rfl
  · obtain ⟨a, e, f, es, rfl, pa, hf, ne, he, l60, k⟩ := h
    refine ⟨_, (pss_cons (ps_set (i := 3) sc_w_stretch.nd rfl (Or.inl rfl) (pe_call G_w_end (hr.mono (by decide)) rfl T.g_w_end T.F_w_end.kp T.b_w_end .nil pass0 (pa_cons (pv 0) (pa_cons (pv 1) (pa_cons (pv 2) pa_nil)))))
    (pss_cons (ps_expr (pe_bm PySem.F.plainAttrs_list PySem.F.slot_list_append PySem.F.type_list_append mt_append (pv 2) (pa_cons (pv 3) pa_nil)))
    (pss_cons (ps_set (i := 4) sc_w_stretch.nd rfl (Or.inl rfl) (pe_call G_w_end (hr.mono (by decide)) rfl T.g_w_end T.F_w_end.kp T.b_w_end .nil pass0 (pa_cons (pv 0) (pa_cons (pv 1) (pa_cons (pv 2) pa_nil)))))
    (pss_cons (ps_expr (pe_bm PySem.F.plainAttrs_list PySem.F.slot_list_append PySem.F.type_list_append mt_append (pv 2) (pa_cons (pv 4) pa_nil)))
    (pss_cons (ps_set (i := 5) sc_w_stretch.nd rfl (Or.inl rfl) (pe_callB (call_min2 rfl) (by rfl) T.m_min (by decide +kernel) (pa_cons (pv 3) (pa_cons (pv 4) pa_nil))))
    (pss_cons (ps_set (i := 6) sc_w_stretch.nd rfl (Or.inl rfl) (pe_callB (call_max2 rfl) (by rfl) T.m_max (by decide +kernel) (pa_cons (pv 3) (pa_cons (pv 4) pa_nil))))
    (Evl.pss_cut (ps_set (i := 7) sc_w_stretch.nd rfl (Or.inl rfl) (pe_or (pe_cmpR op_eq (pv 5) (pv 6) (nomark _)) (pe_one (pe_cmpR op_eq (pe_call G_w_take (hr.mono (by decide)) rfl T.g_w_take T.F_w_take.kp T.b_w_take .nil pass0 (pa_cons (pv 0) (pa_cons pe_int pa_nil))) pe_int (nomark _)))))
    (Evl.pss_cut (ps_set (i := 8) sc_w_stretch.nd rfl (Or.inl rfl) (pe_or (pe_cmpR op_eq (pv 5) (pv 6) (nomark _)) (pe_one (pe_cmpR op_eq (pe_call G_w_take (hr.mono (by decide)) rfl T.g_w_take T.F_w_take.kp T.b_w_take .nil pass0 (pa_cons (pv 0) (pa_cons pe_int pa_nil))) pe_int (nomark _)))))
    (Evl.pss_cut (ps_if (pt_cmpR op_eq (pe_call G_w_take (hr.mono (by decide)) rfl T.g_w_take T.F_w_take.kp T.b_w_take .nil pass0 (pa_cons (pv 0) (pa_cons pe_int pa_nil))) pe_int (nomark _))
    (pss_cons (ps_set (i := 5) sc_w_stretch.nd rfl (Or.inl rfl) pe_non)
    (pss_one (ps_set (i := 7) sc_w_stretch.nd rfl (Or.inl rfl) pe_bl)))
    pss_nil)
    (pss_cons (ps_if (pt_cmpR op_eq (pe_call G_w_take (hr.mono (by decide)) rfl T.g_w_take T.F_w_take.kp T.b_w_take .nil pass0 (pa_cons (pv 0) (pa_cons pe_int pa_nil))) pe_int (nomark _))
    (pss_cons (ps_set (i := 6) sc_w_stretch.nd rfl (Or.inl rfl) pe_non)
    (pss_one (ps_set (i := 8) sc_w_stretch.nd rfl (Or.inl rfl) pe_bl)))
    pss_nil)
    (pss_one (ps_ret (pe_tup (pa_cons (pv 5) (pa_cons (pv 7) (pa_cons (pv 6) (pa_cons (pv 8) pa_nil))))))))))))))))), ?_⟩
    walk_at "start"
    walk_at "sts"
    refine ⟨a, e, f, es, rfl, pa, hf, ne, he, fun x H1 k1 p1 b1 => ?_⟩
    have he1 := he.k k1 ne
    have e1 := he1.at_
    have le := he.len
    walk_at "sts"
    try (refine r_app he1.at_ (by rw [List.length_map]; exact lt_size (by omega)) ?_; walk_at "sts")
    have he2 := he1.app b1 (by omega)
    have p1' : PotAt a (upd H1 e (.lst (es.map V.int ++ [.int x]))) := p1.put ne
    have k1' : Keep [a, e] H (upd H1 e (.lst (es.map V.int ++ [.int x]))) := (k1.mono (N := [a, e]) (by simp)).trans (Keep.at (by simp))
    generalize upd H1 e (.lst (es.map V.int ++ [.int x])) = H2 at he2 p1' k1' ⊢
    refine ⟨a, e, f, es ++ [x], rfl, p1', hf, ne, he2, fun y H3 k3 p3 b3 => ?_⟩
    have he3 := he2.k k3 ne
    have e3 := he3.at_
    have l3 : (es ++ [x]).length = es.length + 1 := by simp
    walk_at "sts"
    try (refine r_app he3.at_ (by rw [List.length_map]; exact lt_size (by omega)) ?_; walk_at "sts")
    have he4 := he3.app b3 (by omega)
    have p4 : PotAt a (upd H3 e (.lst ((es ++ [x]).map V.int ++ [.int y]))) := p3.put ne
    have k4 : Keep [a, e] H (upd H3 e (.lst ((es ++ [x]).map V.int ++ [.int y]))) := (k1'.trans (k3.mono (N := [a, e]) (by simp))).trans (Keep.at (by simp))
    generalize upd H3 e (.lst ((es ++ [x]).map V.int ++ [.int y])) = H4 at he4 p4 k4 ⊢
    have l4 : (es ++ [x] ++ [y]).length = es.length + 2 := by simp
    generalize es ++ [x] ++ [y] = us at he4 l4
    have bx : Bd x := by unfold Bd; omega
    have by_ : Bd y := by unfold Bd; omega
    obtain ⟨lo, hlo⟩ : ∃ lo, (if y < x then y else x) = lo := ⟨_, rfl⟩
    obtain ⟨hi, hhi⟩ : ∃ hi, max x y = hi := ⟨_, rfl⟩
    have lh : lo ≤ hi ∧ Bd lo ∧ Bd hi := by
      unfold Bd at *
      rw [← hlo, ← hhi]
      refine ⟨?_, ?_, ?_⟩
      · split <;> omega
      · split <;> omega
      · omega
    rw [hlo]
    walk_at "sts"
    rw [hhi]
    clear hlo hhi bx by_ b1 b3 k1 k3 p1 p3 he1 he2 he3 e1 e3 p1' k1' l3
    refine r_cut (fun σ' H' => ∃ b : Bool, σ' = [some (.ref a), some (.int f), some (.ref e), some (.int x), some (.int y), some (.int lo), some (.int hi), some (.bl b), none] ∧ (lo = hi → b = true) ∧ Keep [a] H4 H' ∧ PotAt a H') ?_ ?_
    · walk_at "sts"
      refine r_ite (fun c => ?_) (fun c => ?_)
      · walk_at "sts"
        exact ⟨true, by first | exact rfl | trivial, fun _ => rfl, Keep.refl _ _, p4⟩
      · walk_at "sts"
        refine r_take p4 (by decide) (by decide) fun z H5 z0 z1 k5 p5 => ?_
        walk_at "sts"
        exact ⟨_, by first | exact rfl | trivial, fun z => absurd z c, k5, p5⟩
    rintro σ' H5 ⟨b, rfl, hb, k5, p5⟩
    refine r_cut (fun σ' H' => ∃ c : Bool, σ' = [some (.ref a), some (.int f), some (.ref e), some (.int x), some (.int y), some (.int lo), some (.int hi), some (.bl b), some (.bl c)] ∧ (lo = hi → c = true) ∧ Keep [a] H4 H' ∧ PotAt a H') ?_ ?_
    · walk_at "sts"
      refine r_ite (fun c => ?_) (fun c => ?_)
      · walk_at "sts"
        exact ⟨true, by first | exact rfl | trivial, fun _ => rfl, k5, p5⟩
      · walk_at "sts"
        refine r_take p5 (by decide) (by decide) fun z H5 z0 z1 k6 p6 => ?_
        walk_at "sts"
        exact ⟨_, by first | exact rfl | trivial, fun z => absurd z c, k5.trans k6, p6⟩
    clear p5 k5
    rintro σ' H5 ⟨c, rfl, hc, k5, p5⟩
    refine r_cut (fun σ' H' => ∃ (o : Option Int) (b' : Bool), σ' = [some (.ref a), some (.int f), some (.ref e), some (.int x), some (.int y), some (oV o), some (.int hi), some (.bl b'), some (.bl c)] ∧ ((o = some lo ∧ b' = b) ∨ (o = none ∧ b' = false)) ∧ Keep [a] H4 H' ∧ PotAt a H') ?_ ?_
    · walk_at "sts"
      refine r_take p5 (by decide) (by decide) fun z H6 z0 z1 k6 p6 => ?_
      walk_at "sts"
      refine r_ite (fun c => ?_) (fun c => ?_)
      · walk_at "sts"
        exact ⟨none, false, by first | exact rfl | trivial, .inr ⟨rfl, rfl⟩, k5.trans k6, p6⟩
      · walk_at "sts"
        exact ⟨some lo, b, by first | exact rfl | trivial, .inl ⟨rfl, rfl⟩, k5.trans k6, p6⟩
    clear p5 k5
    rintro σ' H5 ⟨o, b', rfl, ho, k5, p5⟩
    have fin : ∀ (o' : Option Int) (c' : Bool) (H6 : Hp), ((o' = some hi ∧ c' = c) ∨ (o' = none ∧ c' = false)) → Keep [a] H4 H6 → PotAt a H6 → ∀ u, H6 u = none → Q (.ref u) (upd H6 u (.tup [oV o, .bl b', oV o', .bl c'])) := by
      intro o' c' H6 ho' k6 p6 u nu
      have k7 : Keep [] H6 (upd H6 u (.tup [oV o, .bl b', oV o', .bl c'])) := Keep.new nu
      have k46 : Keep [a, e] H H6 := k4.trans (k6.mono (by simp))
      have nu0 : H u = none := by
        refine k46.free ?_ nu
        intro m
        simp only [List.mem_cons, List.not_mem_nil, or_false] at m
        rcases m with rfl | rfl
        · obtain ⟨PP, hP, _⟩ := p6; rw [hP] at nu; cases nu
        · have := k6 _ _ (by simpa using ne) he4.at_; rw [this] at nu; cases nu
      refine k u (o, b', o', c') us _ (k46.trans (k7.mono fun _ h => (List.not_mem_nil h).elim)) nu0 ?_ ?_ l4 upd_same ?_ ?_
      · obtain ⟨PP, hP, hp⟩ := p6; exact ⟨PP, k7 _ _ (by simp) hP, hp⟩
      · have := he4.k k6 ne
        exact ⟨k7 _ _ (by simp) this.at_, this.bd, this.len⟩
      · refine ⟨fun t ht => ?_, fun t ht => ?_⟩
        · rcases ho with ⟨rfl, _⟩ | ⟨rfl, _⟩
          · cases ht; exact lh.2.1
          · cases ht
        · rcases ho' with ⟨rfl, _⟩ | ⟨rfl, _⟩
          · cases ht; exact lh.2.2
          · cases ht
      · have bb := BB_big
        have l1 := lh.2.1
        have l2 := lh.2.2
        unfold Bd at l1 l2
        have l0 := lh.1
        rcases ho with ⟨rfl, rfl⟩ | ⟨rfl, rfl⟩ <;> rcases ho' with ⟨rfl, rfl⟩ | ⟨rfl, rfl⟩
        · refine ⟨by unfold Bad0 dbl; simp, ?_⟩
          show 2 * (2 * lo) + (if b' = true then 0 else 1) < 2 * (2 * hi) + (if c' = true then 1 else 0)
          by_cases e : lo = hi
          · rw [hb e, hc e]; simp; omega
          · split <;> split <;> omega
        · refine ⟨by unfold Bad0 dbl; simp, ?_⟩
          show 2 * (2 * lo) + (if b' = true then 0 else 1) < BB
          split <;> omega
        · refine ⟨by unfold Bad0 dbl; simp, ?_⟩
          show -BB < 2 * (2 * hi) + (if c' = true then 1 else 0)
          split <;> omega
        · refine ⟨by unfold Bad0 dbl; simp, ?_⟩
          show -BB < BB
          omega
    walk_at "sts"
    refine r_take p5 (by decide) (by decide) fun z H6 z0 z1 k6 p6 => ?_
    walk_at "sts"
    refine r_ite (fun c9 => ?_) (fun c9 => ?_)
    · walk_at "sts"
      exact fin none false H6 (.inr ⟨rfl, rfl⟩) (k5.trans k6) p6
    · walk_at "sts"
      exact fin (some hi) c H6 (.inl ⟨rfl, rfl⟩) (k5.trans k6) p6
theorem ok_wrong (T : Tx K mg) (G_w_take : FnOk P w K mg base CX0 1 T.f_w_take T.fd_w_take ["_law_pot_here", "_law_size"] spTake) (G_w_end : FnOk P w K mg base CX0 2 T.f_w_end T.fd_w_end ["_law_pot_here", "_law_fine", "_law_ends_here"] spEnd) : FnOk P w K mg base CX0 3 T.f_w_wrong T.fd_w_wrong ["_law_pot_here", "_law_fine", "_law_ends_here"] spWrong := by
  refine T.F_w_wrong.ok sc_w_wrong (fun vs H Q E h => ?_) (fun cdv A outer s H vs Q E hr h => ?_)
  · obtain ⟨a, e, f, es, rfl, _⟩ := h; rfl
  · obtain ⟨a, e, f, es, rfl, pa, hf, ne, he, k⟩ := h
    have le := he.len
    refine ⟨_, (pss_cons (ps_set (i := 3) sc_w_wrong.nd rfl (Or.inl rfl) (pe_call G_w_end (hr.mono (by decide)) rfl T.g_w_end T.F_w_end.kp T.b_w_end .nil pass0 (pa_cons (pv 0) (pa_cons (pv 1) (pa_cons (pv 2) pa_nil)))))
    (pss_cons (ps_set (i := 4) sc_w_wrong.nd rfl (Or.inl rfl) (pe_call G_w_end (hr.mono (by decide)) rfl T.g_w_end T.F_w_end.kp T.b_w_end .nil pass0 (pa_cons (pv 0) (pa_cons (pv 1) (pa_cons (pv 2) pa_nil)))))
    (pss_cons (ps_set (i := 5) sc_w_wrong.nd rfl (Or.inl rfl) (pe_cmpR op_eq (pe_call G_w_take (hr.mono (by decide)) rfl T.g_w_take T.F_w_take.kp T.b_w_take .nil pass0 (pa_cons (pv 0) (pa_cons pe_int pa_nil))) pe_int (nomark _)))
    (pss_cons (ps_set (i := 6) sc_w_wrong.nd rfl (Or.inl rfl) (pe_call G_w_take (hr.mono (by decide)) rfl T.g_w_take T.F_w_take.kp T.b_w_take .nil pass0 (pa_cons (pv 0) (pa_cons pe_int pa_nil))))
    (pss_cons (ps_if (pt_cmpR op_eq (pv 6) pe_int (nomark _))
    (pss_one (ps_ret (pe_tup (pa_cons (pe_callB (call_max2 rfl) (by rfl) T.m_max (by decide +kernel) (pa_cons (pv 3) (pa_cons (pv 4) pa_nil))) (pa_cons (pv 5) (pa_cons (pe_callB (call_min2 rfl) (by rfl) T.m_min (by decide +kernel) (pa_cons (pv 3) (pa_cons (pv 4) pa_nil))) (pa_cons pe_bl pa_nil)))))))
    pss_nil)
    (pss_cons (ps_if (pt_cmpR op_eq (pv 6) pe_int (nomark _))
    (pss_one (ps_ret (pe_tup (pa_cons (pv 3) (pa_cons (pv 5) (pa_cons (pv 3) (pa_cons (pe_not (pv 5)) pa_nil)))))))
    pss_nil)
    (pss_cons (ps_if (pt_cmpR op_eq (pv 6) pe_int (nomark _))
    (pss_one (ps_ret (pe_tup (pa_cons (pv 3) (pa_cons pe_bl (pa_cons (pv 3) (pa_cons pe_bl pa_nil)))))))
    pss_nil)
    (pss_cons (ps_if (pt_cmpR op_eq (pv 6) pe_int (nomark _))
    (pss_one (ps_ret (pe_tup (pa_cons pe_non (pa_cons pe_bl (pa_cons (pv 3) (pa_cons (pv 5) pa_nil)))))))
    pss_nil)
    (pss_cons (ps_if (pt_cmpR op_eq (pv 6) pe_int (nomark _))
    (pss_one (ps_ret (pe_tup (pa_cons (pv 3) (pa_cons (pv 5) (pa_cons pe_non (pa_cons pe_bl pa_nil)))))))
    pss_nil)
    (pss_one (ps_ret (pe_tup (pa_cons (pv 3) (pa_cons (pv 5) (pa_cons (pv 4) (pa_cons pe_bl pa_nil)))))))))))))))), ?_⟩
    walk_at "start"
    walk_at "sts"
    refine ⟨a, e, f, es, rfl, pa, hf, ne, he, fun x H1 k1 p1 b1 => ?_⟩
    have he1 := he.k k1 ne
    walk_at "sts"
    refine ⟨a, e, f, es, rfl, p1, hf, ne, he1, fun y H2 k2 p2 b2 => ?_⟩
    walk_at "sts"
    refine r_take p2 (by decide) (by decide) fun z H3 z0 z1 k3 p3 => ?_
    walk_at "sts"
    refine r_take p3 (by decide) (by decide) fun v H4 v0 v1 k4 p4 => ?_
    have k04 := ((k1.trans k2).trans k3).trans k4
    have bx : Bd x := by unfold Bd; omega
    have by_ : Bd y := by unfold Bd; omega
    clear k1 k2 k3 k4 p1 p2 p3 he1 b1 b2
    have fin : ∀ (o o' : Option Int) (b b' : Bool), (∀ t, o = some t → Bd t) → (∀ t, o' = some t → Bd t) → ∀ u, H4 u = none → Q (.ref u) (upd H4 u (.tup [oV o, .bl b, oV o', .bl b'])) := by
      intro o o' b b' h1 h2 u nu
      have k7 : Keep [] H4 (upd H4 u (.tup [oV o, .bl b, oV o', .bl b'])) := Keep.new nu
      refine k u (o, b, o', b') _ (k04.trans (k7.mono fun _ h => (List.not_mem_nil h).elim)) ?_ upd_same ⟨h1, h2⟩
      obtain ⟨PP, hP, hp⟩ := p4; exact ⟨PP, k7 _ _ (by simp) hP, hp⟩
    have sm : ∀ {t : Int}, Bd t → ∀ u, some t = some u → Bd u := fun h u e => by cases e; exact h
    have nn : ∀ u, (none : Option Int) = some u → Bd u := fun u e => by cases e
    walk_at "sts"
    refine r_ite (fun c => ?_) (fun c => ?_)
    · walk_at "sts"
      have b1 : Bd (max x y) := by unfold Bd at *; omega
      have b2 : Bd (if y < x then y else x) := by unfold Bd at *; split <;> omega
      exact fin (some _) (some _) _ _ (sm b1) (sm b2)
    walk_at "sts"
    refine r_ite (fun c => ?_) (fun c => ?_)
    · walk_at "sts"
      exact fin (some _) (some _) _ _ (sm bx) (sm bx)
    walk_at "sts"
    refine r_ite (fun c => ?_) (fun c => ?_)
    · walk_at "sts"
      exact fin (some _) (some _) _ _ (sm bx) (sm bx)
    walk_at "sts"
    refine r_ite (fun c => ?_) (fun c => ?_)
    · walk_at "sts"
      exact fin none (some _) _ _ nn (sm bx)
    walk_at "sts"
    refine r_ite (fun c => ?_) (fun c => ?_)
    · walk_at "sts"
      exact fin (some _) none _ _ (sm bx) nn
    · walk_at "sts"
      exact fin (some _) (some _) _ _ (sm bx) (sm by_)
theorem good_dbl {o o' : Option Int} {b b' : Bool} : good (dbl (o, b, o', b')) = (!(o.isNone && b || o'.isNone && b') && (match o, o' with
    | some x, some y => decide (x < y) || (decide (x = y) && b && b')
    | _, _ => true)) ∨ ¬ BdR (o, b, o', b') := by
  by_cases hb : BdR (o, b, o', b')
  · left
    have bb := BB_big
    have key : ∀ x : Bool, (good (dbl (o, b, o', b')) = true ↔ x = true) → good (dbl (o, b, o', b')) = x := fun x h => by rw [Bool.eq_iff_iff]; exact h
    refine key _ ?_
    rw [good_iff]
    cases o with
    | none => cases o' with
      | none =>
        have : Good (dbl (none, b, none, b')) ↔ b = false ∧ b' = false := by
          constructor
          · intro h
            have := h.no
            unfold Bad0 dbl at this
            cases b <;> cases b' <;> simp_all
          · rintro ⟨rfl, rfl⟩
            exact ⟨by unfold Bad0 dbl; simp, by show -BB < BB; omega⟩
        rw [this]; cases b <;> cases b' <;> simp
      | some y =>
        have hy := hb.2 y rfl
        unfold Bd at hy
        have : Good (dbl (none, b, some y, b')) ↔ b = false := by
          constructor
          · intro h
            have := h.no
            unfold Bad0 dbl at this
            cases b <;> simp_all
          · rintro rfl
            exact ⟨by unfold Bad0 dbl; simp, by show -BB < 2 * (2 * y) + (if b' = true then 1 else 0); split <;> omega⟩
        rw [this]; cases b <;> simp
    | some x => cases o' with
      | none =>
        have hx := hb.1 x rfl
        unfold Bd at hx
        have : Good (dbl (some x, b, none, b')) ↔ b' = false := by
          constructor
          · intro h
            have := h.no
            unfold Bad0 dbl at this
            cases b' <;> simp_all
          · rintro rfl
            exact ⟨by unfold Bad0 dbl; simp, by show 2 * (2 * x) + (if b = true then 0 else 1) < BB; split <;> omega⟩
        rw [this]; cases b' <;> simp
      | some y =>
        have : Good (dbl (some x, b, some y, b')) ↔ (x < y ∨ (x = y ∧ b = true ∧ b' = true)) := by
          constructor
          · intro h
            have : 2 * (2 * x) + (if b = true then 0 else 1) < 2 * (2 * y) + (if b' = true then 1 else 0) := h.lt
            cases b <;> cases b' <;> simp at this ⊢ <;> omega
          · intro h
            refine ⟨by unfold Bad0 dbl; simp, ?_⟩
            show 2 * (2 * x) + (if b = true then 0 else 1) < 2 * (2 * y) + (if b' = true then 1 else 0)
            rcases h with h | ⟨rfl, rfl, rfl⟩
            · split <;> split <;> omega
            · simp; omega
        rw [this]; simp [and_assoc]
  · exact .inr hb
theorem ok_good (T : Tx K mg) : FnOk P w K mg base CX0 1 T.f_w_good T.fd_w_good ["_law_one"] spGood := by
  refine T.F_w_good.ok sc_w_good (fun vs H Q E h => ?_) (fun cdv A outer s H vs Q E hr h => ?_)
  · obtain ⟨p, r, rfl, _⟩ := h; rfl
  · obtain ⟨p, ⟨o, b, o', b'⟩, rfl, hb, hp, k⟩ := h
    rw [good_dbl.resolve_right fun z => z hb] at k
    have hp' : H p = some (.tup [oV o, .bl b, oV o', .bl b']) := hp
    refine ⟨_, (pss_cons (ps_if (PW.pt (pw_or (PW.pt (pw_and (pt_cmpR op_isNc (pe_ix ix_tup (pv 0) pe_int (fun _ _ => rfl)) pe_non (nomark _)) (pw_and1 (pt_val (pe_ix ix_tup (pv 0) pe_int (fun _ _ => rfl)))))) (pw_or1 (PW.pt (pw_and (pt_cmpR op_isNc (pe_ix ix_tup (pv 0) pe_int (fun _ _ => rfl)) pe_non (nomark _)) (pw_and1 (pt_val (pe_ix ix_tup (pv 0) pe_int (fun _ _ => rfl)))))))))
    (pss_one (ps_ret pe_bl))
    pss_nil)
    (pss_cons (ps_if (PW.pt (pw_or (pt_cmpR op_isNc (pe_ix ix_tup (pv 0) pe_int (fun _ _ => rfl)) pe_non (nomark _)) (pw_or (pt_cmpR op_isNc (pe_ix ix_tup (pv 0) pe_int (fun _ _ => rfl)) pe_non (nomark _)) (pw_or1 (pt_cmpR op_lt (pe_ix ix_tup (pv 0) pe_int (fun _ _ => rfl)) (pe_ix ix_tup (pv 0) pe_int (fun _ _ => rfl)) (nomark _))))))
    (pss_one (ps_ret pe_bl))
    pss_nil)
    (pss_one (ps_ret (pe_and (pe_cmpR op_eq (pe_ix ix_tup (pv 0) pe_int (fun _ _ => rfl)) (pe_ix ix_tup (pv 0) pe_int (fun _ _ => rfl)) (nomark _)) (pe_and (pe_ix ix_tup (pv 0) pe_int (fun _ _ => rfl)) (pe_one (pe_ix ix_tup (pv 0) pe_int (fun _ _ => rfl))))))))), ?_⟩
    walk_at "start"
    cases o with
    | none => cases o' with
      | none => cases b <;> cases b' <;> (simp only [oV] at hp'; walk_at "sts"; exact k)
      | some y => cases b <;> (simp only [oV] at hp'; walk_at "sts"; simpa using k)
    | some x => cases o' with
      | none => cases b' <;> (simp only [oV] at hp'; walk_at "sts"; simpa using k)
      | some y =>
        simp only [oV] at hp'
        walk_at "sts"
        refine r_ite (fun c => ?_) (fun c => ?_)
        · walk_at "sts"
          simpa [c] using k
        · walk_at "sts"
          refine r_ite (fun c2 => ?_) (fun c2 => ?_)
          · cases b <;> (walk_at "sts"; simpa [c, c2] using k)
          · walk_at "sts"
            simpa [c, c2] using k
end
open PySem PySem.Spec PyProof.Rows L2 StX Pc
/-! ### stretches drawn, handed -/
structure RawsAt (H : Hp) (p : Addr) (rs : List Rw) : Prop where
  ex : ∃ as : List Addr, H p = some (.lst (as.map V.ref)) ∧ AllP (RawAt H) as rs
theorem RawsAt.k {M : List Addr} {H H' : Hp} {p : Addr} {rs : List Rw} (h : RawsAt H p rs) (k : Keep M H H') (n : p ∉ M) (t : KeepT H H') : RawsAt H' p rs := by
  obtain ⟨as, e, a⟩ := h.ex
  exact ⟨as, k _ _ n e, a.mono fun a x h => h.k t⟩
theorem RawsAt.k0 {H H' : Hp} {p : Addr} {rs : List Rw} (h : RawsAt H p rs) (k : Keep [] H H') : RawsAt H' p rs := h.k k (by simp) k.t0
def Okr (r : Rw) : Prop := BdR r ∧ Good (dbl r)
def spStrs (n : Nat) : Sp := fun vs H Q _ => ∃ (a e : Addr) (f : Int) (es : List Int), vs = [.ref a, .int f, .ref e, .int n] ∧ PotAt a H ∧ FOk f ∧ e ≠ a ∧ EsAt H e es ∧ es.length + 2 * n ≤ 60 ∧ ∀ (p : Addr) (rs : List Rw) (us : List Int) H', Keep [a, e] H H' → H p = none → PotAt a H' → EsAt H' e us → us.length ≤ es.length + 2 * n → RawsAt H' p rs → rs.length ≤ n → (∀ r ∈ rs, Okr r) → Q (.ref p) H'
def spEndP : Sp := fun vs H Q _ => ∃ (o : Option Int) (f : Int), vs = [oV o, .int f] ∧ 0 < f ∧ f.natAbs < 2 ^ 100 ∧ ∀ (v : V) H', Keep [] H H' → (match o with | none => v = .non | some t => ∃ p, v = .ref p ∧ H' p = some (.tup [.int (lowT t f), .int (lowB t f)])) → Q v H'
def spHand : Sp := fun vs H Q _ => ∃ (p : Addr) (f : Int) (rs : List Rw), vs = [.ref p, .int f] ∧ FOk f ∧ RawsAt H p rs ∧ rs.length ≤ 30 ∧ ∀ (q : Addr) (as : List Addr) H', Keep [] H H' → H q = none → H' q = some (.lst (as.map V.ref)) → AllP (RwAt (2 * f) H') as (rs.map dbl) → Q (.ref q) H'
theorem low_dbl {t f : Int} (h : 0 < f) : lowT t f = lowT (2 * t) (2 * f) ∧ lowB t f = lowB (2 * t) (2 * f) := low_eq h (by omega) (by ac_rfl)
section
variable {P : Program} {w : World} {K : PySem.W.Frag} {mg : Str → Option Value} {base : Heap}
theorem ok_strs (T : Tx K mg) {n : Nat} (hn : n ≤ 20) (G_w_take : FnOk P w K mg base CX0 1 T.f_w_take T.fd_w_take ["_law_pot_here", "_law_size"] spTake) (G_w_stretch : FnOk P w K mg base CX0 3 T.f_w_stretch T.fd_w_stretch ["_law_pot_here", "_law_fine", "_law_ends_here"] spStr1) : FnOk P w K mg base CX0 4 T.f_w_stretches T.fd_w_stretches ["_law_pot_here", "_law_fine", "_law_ends_here", "_law_most"] (spStrs n) := by
  refine T.F_w_stretches.ok sc_w_stretches (fun vs H Q E h => ?_) (fun cdv A outer s H vs Q E hr h => ?_)
  · obtain ⟨a, e, f, es, rfl, _⟩ := h; rfl
  · obtain ⟨a, e, f, es, rfl, pa, hf, ne, he, l60, k⟩ := h
    refine ⟨_, (pss_one (ps_ret (pe_lc (own := [("_law_k", 4)]) (g := gName 4) (tt := tYes) rfl sc_w_stretches.nd (pi_range1 rfl T.m_range (pa_cons (pe_call G_w_take (hr.mono (by decide)) rfl T.g_w_take T.F_w_take.kp T.b_w_take .nil pass0 (pa_cons (pv 0) (pa_cons (pe_op op_add (pv 3) pe_int) pa_nil))) pa_nil)) (blkOk_by (own := [("_law_k", 4)]) (N := ["_law_pot_here", "_law_fine", "_law_ends_here", "_law_most", "_law_k"]) (sc := defScope s_w_stretches) (by decide +kernel)) (fun _ _ _ _ _ => pg_name (i := 4) sc_w_stretches.nd rfl (Or.inl rfl)) (fun _ _ _ _ _ => pts_nil) (fun _ _ _ _ _ => (pe_call G_w_stretch (hr.mono (by decide)) rfl T.g_w_stretch T.F_w_stretch.kp T.b_w_stretch .nil pass0 (pa_cons (pv 0) (pa_cons (pv 1) (pa_cons (pv 2) pa_nil)))))))), ?_⟩
    walk_at "start"
    walk_at "sts"
    refine r_take pa (by omega) (by have : (n : Int) ≤ 20 := by omega
                                    omega) fun z H1 z0 z1 k1 p1 => ?_
    have he1 := he.k k1 ne
    walk_at "sts"
    refine lcR1_go (fun D i acc H' => ∃ (as : List Addr) (rs : List Rw) (us : List Int), acc = as.map V.ref ∧ AllP (RawAt H') as rs ∧ rs.length = i ∧ (∀ r ∈ rs, Okr r) ∧ Keep [a, e] H H' ∧ PotAt a H' ∧ EsAt H' e us ∧ us.length = es.length + 2 * i ∧ H1 D = none) ⟨by omega, by omega⟩ (fun D nD => ?_) ?_ ?_
    · have kD : Keep [] H1 (upd H1 D (.lst [])) := Keep.new nD
      exact ⟨[], [], es, rfl, trivial, rfl, fun _ m => (List.not_mem_nil m).elim, (k1.mono (by simp)).trans (kD.mono fun _ h => (List.not_mem_nil h).elim), p1.new nD, ⟨kD _ _ (by simp) he1.at_, he1.bd, he1.len⟩, by omega, nD⟩
    · rintro D i acc H' hi hD ⟨as, rs, us, rfl, has, lrs, ok, k2, p2, he2, lus, nD⟩
      have las := has.len
      have nDa : D ≠ a := p1.ne nD
      have nDe : D ≠ e := ne_free he1.at_ nD
      walk_at "sts"
      try simp only [L2.wipe, List.map_cons, List.map_nil, List.set_cons_zero, List.set_cons_succ]
      have fin : ∀ (p : Addr) (r : Rw) (ws : List Int) (H3 : Hp), Keep [a, e] H' H3 → H' p = none → PotAt a H3 → EsAt H3 e ws → ws.length = us.length + 2 → RawAt H3 p r → BdR r → Good (dbl r) → ∃ acc, H3 D = some (.lst acc) ∧ acc.length < sizeLine ∧ (∃ ac, (upd H3 D (.lst (acc ++ [V.ref p]))) D = some (.lst ac) ∧ ∃ (as : List Addr) (rs : List Rw) (us : List Int), ac = as.map V.ref ∧ AllP (RawAt (upd H3 D (.lst (acc ++ [V.ref p])))) as rs ∧ rs.length = i + 1 ∧ (∀ r ∈ rs, Okr r) ∧ Keep [a, e] H (upd H3 D (.lst (acc ++ [V.ref p]))) ∧ PotAt a (upd H3 D (.lst (acc ++ [V.ref p]))) ∧ EsAt (upd H3 D (.lst (acc ++ [V.ref p]))) e us ∧ us.length = es.length + 2 * (i + 1) ∧ H1 D = none) := by
        intro p r ws H3 k3 np p3 he3 lws hr br gr
        have t3 := k3.tt fun m hm => by
          simp only [List.mem_cons, List.not_mem_nil, or_false] at hm
          rcases hm with rfl | rfl
          · exact p2.noT
          · exact noT_l he2.at_
        have eD3 := k3 _ _ (by simp only [List.mem_cons, List.not_mem_nil, or_false, not_or]; exact ⟨nDa, nDe⟩) hD
        refine lc_put eD3 (by rw [List.length_map]; exact lt_size (by omega)) ?_
        have k4 : Keep [D] H3 (upd H3 D (.lst (as.map V.ref ++ [V.ref p]))) := Keep.at (by simp)
        have t4 := k4.t1 (noT_l eD3)
        have nH : H D = none := by
          refine (k1.free ?_ nD)
          simpa using nDa
        refine ⟨as ++ [p], rs ++ [r], ws, by rw [List.map_append]; rfl, (has.mono fun a x h => (h.k t3).k t4).snoc (hr.k t4), by rw [List.length_append, List.length_singleton, lrs], fun x m => ?_, (k2.trans k3).mut nH, p3.put nDa, ⟨k4 _ _ (by simpa using nDe.symm) he3.at_, he3.bd, he3.len⟩, by omega, nD⟩
        rcases List.mem_append.mp m with m | m
        · exact ok x m
        · rw [List.mem_singleton.mp m]; exact ⟨br, gr⟩
      refine ⟨a, e, f, us, rfl, p2, hf, ne, he2, by omega, fun p r ws H3 k3 np p3 he3 lws hr br gr => fin p r ws H3 k3 np p3 he3 lws hr br gr⟩
    · rintro D acc H' nD hD ⟨as, rs, us, rfl, has, lrs, ok, k2, p2, he2, lus, _⟩
      walk_at "sts"
      have nDa : D ≠ a := p1.ne nD
      exact k D rs us H' k2 (k1.free (by simpa using nDa) nD) p2 he2 (by omega) ⟨as, hD, has⟩ (by omega) ok
theorem ok_endP (T : Tx K mg) (G_w_lowest : FnOk P w K mg base CX0 1 T.f_w_lowest T.fd_w_lowest ["_law_top", "_law_bottom"] spLow0) : FnOk P w K mg base CX0 2 T.f_w_end_pair T.fd_w_end_pair ["_law_end_here", "_law_bottom"] spEndP := by
  refine T.F_w_end_pair.ok sc_w_end_pair (fun vs H Q E h => ?_) (fun cdv A outer s H vs Q E hr h => ?_)
  · obtain ⟨o, f, rfl, _⟩ := h; rfl
  · obtain ⟨o, f, rfl, f0, fz, k⟩ := h
    refine ⟨_, (pss_cons (ps_if (pt_cmpR op_isNc (pv 0) pe_non (nomark _))
    (pss_one (ps_ret pe_non))
    pss_nil)
    (pss_one (ps_ret (pe_call G_w_lowest (hr.mono (by decide)) rfl T.g_w_lowest T.F_w_lowest.kp T.b_w_lowest .nil pass0 (pa_cons (pv 0) (pa_cons (pv 1) pa_nil)))))), ?_⟩
    walk_at "start"
    cases o with
    | none =>
      simp only [oV]
      walk_at "sts"
      exact k .non H (Keep.refl _ _) rfl
    | some t =>
      simp only [oV]
      walk_at "sts"
      refine r_low0 f0 (Nat.lt_of_lt_of_le fz (Nat.pow_le_pow_right (by decide) (by decide))) fun p H1 k1 np ep => ?_
      exact k _ H1 k1 ⟨p, rfl, ep⟩
theorem ok_hand (T : Tx K mg) (G_w_end_pair : FnOk P w K mg base CX0 2 T.f_w_end_pair T.fd_w_end_pair ["_law_end_here", "_law_bottom"] spEndP) : FnOk P w K mg base CX0 3 T.f_w_handed T.fd_w_handed ["_law_stretches_here", "_law_fine"] spHand := by
  refine T.F_w_handed.ok sc_w_handed (fun vs H Q E h => ?_) (fun cdv A outer s H vs Q E hr h => ?_)
  · obtain ⟨p, f, rs, rfl, _⟩ := h; rfl
  · obtain ⟨p, f, rs, rfl, hf, ⟨as, ep, ha⟩, l30, k⟩ := h
    have la := ha.len
    have lm : (as.map V.ref).length = rs.length := by rw [List.length_map]; exact la
    have f0 : 0 < f := by unfold FOk at hf; omega
    have fz : f.natAbs < 2 ^ 100 := by unfold FOk at hf; omega
    have toE : ∀ {H' : Hp} {v : V} {o : Option Int}, (match o with | none => v = .non | some t => ∃ p, v = .ref p ∧ H' p = some (.tup [.int (lowT t f), .int (lowB t f)])) → EndAt (2 * f) H' v (o.map (2 * ·)) := by
      intro H' v o h
      cases o with
      | none => exact h
      | some t =>
        obtain ⟨q, e, hq⟩ := h
        rw [(low_dbl f0).1, (low_dbl f0).2] at hq
        exact ⟨q, e, hq⟩
    refine ⟨_, (pss_one (ps_ret (pe_lc (own := [("_law_one", 2)]) (g := gName 2) (tt := tYes) rfl sc_w_handed.nd (pi_list (pv 0)) (blkOk_by (own := [("_law_one", 2)]) (N := ["_law_stretches_here", "_law_fine", "_law_one"]) (sc := defScope s_w_handed) (by decide +kernel)) (fun _ _ _ _ _ => pg_name (i := 2) sc_w_handed.nd rfl (Or.inl rfl)) (fun _ _ _ _ _ => pts_nil) (fun _ _ _ _ _ => (pe_tup (pa_cons (pe_call G_w_end_pair (hr.mono (by decide)) rfl T.g_w_end_pair T.F_w_end_pair.kp T.b_w_end_pair .nil pass0 (pa_cons (pe_ix (ix_tupK (K := K) rfl) (pv 2) pe_int (fun _ _ => rfl)) (pa_cons (pv 1) pa_nil))) (pa_cons (pe_ix (ix_tupK (K := K) rfl) (pv 2) pe_int (fun _ _ => rfl)) (pa_cons (pe_call G_w_end_pair (hr.mono (by decide)) rfl T.g_w_end_pair T.F_w_end_pair.kp T.b_w_end_pair .nil pass0 (pa_cons (pe_ix (ix_tupK (K := K) rfl) (pv 2) pe_int (fun _ _ => rfl)) (pa_cons (pv 1) pa_nil))) (pa_cons (pe_ix (ix_tupK (K := K) rfl) (pv 2) pe_int (fun _ _ => rfl)) pa_nil))))))))), ?_⟩
    walk_at "start"
    walk_at "sts"
    refine lcL_go (fun D i acc H' => ∃ bs : List Addr, acc = bs.map V.ref ∧ AllP (RwAt (2 * f) H') bs ((rs.take i).map dbl) ∧ Keep [] H H' ∧ H D = none) (sqL_of ep) (fun D nD => ⟨[], rfl, trivial, Keep.new nD, nD⟩) (fun D i acc H' _ h => by obtain ⟨_, _, _, k, _⟩ := h; exact sqL_of (k _ _ (by simp) ep)) ?_ ?_
    · rintro D i v acc H' hv hD ⟨bs, rfl, hbs, k1, nD⟩
      obtain ⟨a, hai, rfl⟩ := getRf hv
      obtain ⟨r, hr0, hra⟩ := ha.get hai
      have hi := (List.getElem?_eq_some_iff.mp hr0).1
      have lb := hbs.len
      rw [List.length_map, List.length_take] at lb
      obtain ⟨o, b, o', b'⟩ := r
      have ea : H' a = some (.tup [oV o, .bl b, oV o', .bl b']) := k1.t0 _ _ hra
      walk_at "sts"
      try simp only [L2.wipe, List.map_cons, List.map_nil, List.set_cons_zero, List.set_cons_succ]
      refine ⟨o, f, rfl, f0, fz, fun v1 H2 k2 hv1 => ?_⟩
      have ea2 := k2 _ _ (by simp) ea
      walk_at "sts"
      refine ⟨o', f, rfl, f0, fz, fun v2 H3 k3 hv2 => ?_⟩
      have ea3 := k3 _ _ (by simp) ea2
      walk_at "sts"
      intro u nu
      have k4 : Keep [] H3 (upd H3 u (.tup [v1, .bl b, v2, .bl b'])) := Keep.new nu
      have e4 : upd H3 u (.tup [v1, .bl b, v2, .bl b']) u = some (.tup [v1, .bl b, v2, .bl b']) := upd_same
      generalize upd H3 u (.tup [v1, .bl b, v2, .bl b']) = H4 at k4 e4 ⊢
      have k24 := (k2.trans k3).trans k4
      have hD4 := k24 _ _ (by simp) hD
      refine lc_put hD4 (by rw [List.length_map]; exact lt_size (by omega)) ?_
      have k5 : Keep [D] H4 (upd H4 D (.lst (bs.map V.ref ++ [V.ref u]))) := Keep.at (by simp)
      have t5 := k5.t1 (noT_l hD4)
      refine ⟨bs ++ [u], by rw [List.map_append]; rfl, ?_, (k1.trans k24).mut nD, nD⟩
      rw [take_s hr0, List.map_append]
      exact (hbs.mono fun a x h => (RwAt.k h k24.t0).k t5).snoc (RwAt.k (r := dbl (o, b, o', b')) ⟨v1, v2, e4, ((toE hv1).k k3.t0).k k4.t0, (toE hv2).k k4.t0⟩ t5)
    · rintro D acc H' nD hD ⟨bs, rfl, hbs, k1, _⟩
      rw [lm, List.take_length] at hbs
      walk_at "sts"
      exact k D bs H' k1 nD hD hbs
end
open PySem PySem.Spec PyProof.Rows L2 StX Pc
/-! ### whether a value belongs to a stretch; the ends -/
def BdW (t : Int) : Prop := t.natAbs ≤ 10 ^ 30
def BdRW (r : Rw) : Prop := (∀ t, r.1 = some t → BdW t) ∧ ∀ t, r.2.2.1 = some t → BdW t
theorem BdR.w {r : Rw} (h : BdR r) : BdRW r := ⟨fun t e => by have := h.1 t e; unfold Bd at this; unfold BdW; omega, fun t e => by have := h.2 t e; unfold Bd at this; unfold BdW; omega⟩
theorem bdw_sm {r : Rw} (h : BdRW r) : SmR (dbl r) := by
  obtain ⟨a, b, c, d⟩ := r
  refine ⟨fun t e => ?_, fun t e => ?_⟩
  · cases a with
    | none => cases e
    | some x => cases e; have := h.1 x rfl; unfold BdW at this; show Sm (2 * x); unfold Sm; omega
  · cases c with
    | none => cases e
    | some x => cases e; have := h.2 x rfl; unfold BdW at this; show Sm (2 * x); unfold Sm; omega
def InOne (r : Rw) (t : Int) : Prop := (iv (dbl r)).1 ≤ 2 * t ∧ 2 * t < (iv (dbl r)).2
instance {r : Rw} {t : Int} : Decidable (InOne r t) := by unfold InOne; exact inferInstance
def setOf (rs : List Rw) : List Iv := rs.map fun r => iv (dbl r)
theorem mem_set {rs : List Rw} {t : Int} : mem (setOf rs) (2 * t) ↔ ∃ r ∈ rs, InOne r t := by
  constructor
  · rintro ⟨p, m, h⟩
    obtain ⟨r, mr, rfl⟩ := List.mem_map.mp m
    exact ⟨r, mr, h⟩
  · rintro ⟨r, mr, h⟩
    exact ⟨_, List.mem_map.mpr ⟨r, mr, rfl⟩, h⟩
theorem in_sign {top f t b x : Int} (h : top * (2 * f) = t * b) (b0 : 0 < b) : ((top * f - x * b < 0 ↔ t < 2 * x) ∧ (top * f - x * b = 0 ↔ t = 2 * x)) ∧ (x * b - top * f < 0 ↔ 2 * x < t) ∧ (x * b - top * f = 0 ↔ t = 2 * x) := by
  have e : 2 * (top * f - x * b) = b * (t - 2 * x) := by
    have h1 : top * (2 * f) = 2 * (top * f) := by ac_rfl
    have h2 : b * (t - 2 * x) = t * b - 2 * (x * b) := by rw [Int.mul_sub]; congr 1 <;> ac_rfl
    rw [h2, ← h, h1]; omega
  have e2 : x * b - top * f = -(top * f - x * b) := by omega
  rw [e2]
  generalize top * f - x * b = y at e ⊢
  generalize hz : t - 2 * x = z at e
  have k1 : y < 0 ↔ z < 0 := by
    constructor
    · intro hy
      rcases Int.lt_or_le z 0 with c | c
      · exact c
      · have := Int.mul_nonneg (Int.le_of_lt b0) c; omega
    · intro hz
      have := Int.mul_neg_of_pos_of_neg b0 hz; omega
  have k2 : y = 0 ↔ z = 0 := by
    constructor
    · intro hy
      rw [hy, Int.mul_zero] at e
      rcases Int.mul_eq_zero.mp e.symm with c | c
      · omega
      · exact c
    · intro hz
      rw [hz, Int.mul_zero] at e; omega
  exact ⟨⟨by omega, by omega⟩, by omega, by omega⟩
def spInOne : Sp := fun vs H Q _ => ∃ (p : Addr) (r : Rw) (top b f t : Int), vs = [.ref p, .int top, .int b, .int f] ∧ RawAt H p r ∧ BdRW r ∧ FOk f ∧ 0 < b ∧ b.natAbs < 2 ^ 300 ∧ top.natAbs < 2 ^ 300 ∧ (-BB ≤ 2 * t ∧ 2 * t < BB) ∧ top * (2 * f) = t * b ∧ Q (.bl (decide (InOne r t))) H
def spIn : Sp := fun vs H Q _ => ∃ (p : Addr) (rs : List Rw) (top b f t : Int), vs = [.ref p, .int top, .int b, .int f] ∧ RawsAt H p rs ∧ (∀ r ∈ rs, BdRW r) ∧ FOk f ∧ 0 < b ∧ b.natAbs < 2 ^ 300 ∧ top.natAbs < 2 ^ 300 ∧ (-BB ≤ 2 * t ∧ 2 * t < BB) ∧ top * (2 * f) = t * b ∧ ∀ x : Bool, (x = true ↔ mem (setOf rs) (2 * t)) → Q (.bl x) H
def endsOk (rs : List Rw) (us : List Int) : Prop := ∀ r ∈ rs, (∀ t, r.1 = some t → 2 * t ∈ us) ∧ ∀ t, r.2.2.1 = some t → 2 * t ∈ us
structure Seen (us : List Int) : Prop where
  nd : us.Nodup
  ev : ∀ t ∈ us, t % 2 = 0
  sm : ∀ t ∈ us, t.natAbs ≤ 2 * 10 ^ 30
theorem Seen.ends {us ys : List Int} (h : Seen us) (p : ys.Perm us) (s : ys.Pairwise (· ≤ ·)) : Ends ys := by
  refine ⟨?_, fun t m => by have := h.sm t (p.mem_iff.mp m); unfold Sm; omega, fun t m => h.ev t (p.mem_iff.mp m)⟩
  have nd : ys.Nodup := p.nodup_iff.mpr h.nd
  exact (s.and nd).imp fun {a b} h => by omega
theorem fits_of {rs : List Rw} {E : List Int} (h : endsOk rs E) (gd : ∀ r ∈ rs, BdRW r ∧ ¬ Bad0 (dbl r)) : Fits E (setOf rs) := by
  intro p m
  obtain ⟨⟨o, b, o', b'⟩, mr, rfl⟩ := List.mem_map.mp m
  have h := h _ mr
  have at_ : ∀ t, 2 * t ∈ E → ∃ j, j < E.length ∧ E[j]? = some (2 * t) := fun t m => by
    obtain ⟨j, hj⟩ := List.mem_iff_getElem?.mp m
    exact ⟨j, (List.getElem?_eq_some_iff.mp hj).1, hj⟩
  constructor
  · show ∃ j, j ≤ 2 * E.length + 1 ∧ loC (dbl (o, b, o', b')) = R E j
    cases o with
    | none => exact ⟨0, by omega, rfl⟩
    | some t =>
      obtain ⟨j, hj, e⟩ := at_ t (h.1 t rfl)
      have r := R_at e
      cases b with
      | true => exact ⟨2 * j + 1, by omega, by rw [r.1]; show 2 * (2 * t) + 0 = _; omega⟩
      | false => exact ⟨2 * j + 2, by omega, by rw [r.2]; rfl⟩
  · show ∃ j, j ≤ 2 * E.length + 1 ∧ hiC (dbl (o, b, o', b')) = R E j
    cases o' with
    | none => exact ⟨2 * E.length + 1, by omega, by rw [R_end]; rfl⟩
    | some t =>
      obtain ⟨j, hj, e⟩ := at_ t (h.2 t rfl)
      have r := R_at e
      cases b' with
      | true => exact ⟨2 * j + 2, by omega, by rw [r.2]; rfl⟩
      | false => exact ⟨2 * j + 1, by omega, by rw [r.1]; show 2 * (2 * t) + 0 = _; omega⟩
def spEnds : Sp := fun vs H Q _ => ∃ (p : Addr) (rs : List Rw), vs = [.ref p] ∧ RawsAt H p rs ∧ (∀ r ∈ rs, BdRW r) ∧ rs.length ≤ 20 ∧ ∀ (q : Addr) (E : List Int) H', Keep [] H H' → H' q = some (.lst (E.map V.int)) → Ends E → endsOk rs E → E.length ≤ 40 → (∀ t ∈ E, t.natAbs ≤ 2 * 10 ^ 30) → Q (.ref q) H'
theorem probe_sm {E : List Int} (h : ∀ t ∈ E, t.natAbs ≤ 2 * 10 ^ 30) (k : Nat) : (probe E k).natAbs ≤ 2 * 10 ^ 30 + 1 := by
  have g : ∀ j, (E.getD j 0).natAbs ≤ 2 * 10 ^ 30 := fun j => by
    rw [List.getD_eq_getElem?_getD]
    cases e : E[j]? with
    | none => decide
    | some x => exact h x (List.mem_of_getElem? e)
  have g1 : (E.headD 0).natAbs ≤ 2 * 10 ^ 30 := by
    cases E with
    | nil => decide
    | cons a E => exact h a (List.mem_cons_self ..)
  have g2 : (E.getLastD 0).natAbs ≤ 2 * 10 ^ 30 := by
    rw [List.getLastD_eq_getLast?]
    cases e : E.getLast? with
    | none => decide
    | some x => exact h x (List.mem_of_getLast? e)
  unfold probe
  split
  · decide
  split
  · omega
  split
  · omega
  split
  · have := g ((k - 1) / 2); omega
  · have a := g (k / 2 - 1)
    have b := g (k / 2)
    rw [Int.fdiv_eq_ediv_of_nonneg _ (by decide)]
    omega
theorem inV_int {x : Int} {us : List Int} : L2.inV (.int x) (us.map V.int) = decide (x ∈ us) := by
  rw [Bool.eq_iff_iff, decide_eq_true_iff]
  unfold L2.inV
  rw [List.any_map, List.any_eq_true]
  constructor
  · rintro ⟨y, m, h⟩
    have : y = x := by simpa [L2.eqV] using h
    rw [← this]; exact m
  · intro m
    exact ⟨x, m, by simp [L2.eqV]⟩
theorem fl_int {us : List Int} : (us.map V.int).all L2.flatV = true := by rw [List.all_eq_true]; intro x hx; obtain ⟨u, _, rfl⟩ := List.mem_map.mp hx; rfl
theorem fl_int' {us : List Int} : (us.map V.int).all flatV = true := by rw [List.all_eq_true]; intro x hx; obtain ⟨u, _, rfl⟩ := List.mem_map.mp hx; rfl
section
variable {P : Program} {w : World} {K : PySem.W.Frag} {mg : Str → Option Value} {base : Heap}
theorem ok_inOne (T : Tx K mg) : FnOk P w K mg base CX0 1 T.f_w_in_one T.fd_w_in_one ["_law_one", "_law_top", "_law_bottom", "_law_fine"] spInOne := by
  refine T.F_w_in_one.ok sc_w_in_one (fun vs H Q E h => ?_) (fun cdv A outer s H vs Q E hr h => ?_)
  · obtain ⟨p, r, top, b, f, t, rfl, _⟩ := h; rfl
  · obtain ⟨p, ⟨o, li, o', hin⟩, top, b, f, t, rfl, hp, hb, hf, b0, zb, zt, z, e, k⟩ := h
    have bb := BB_big
    unfold FOk at hf
    have zf : f.natAbs < 2 ^ 300 := by omega
    have sg := fun x => in_sign (x := x) e b0
    have hp' : H p = some (.tup [oV o, .bl li, oV o', .bl hin]) := hp
    have zx : ∀ {x : Int}, BdW x → x.natAbs < 2 ^ 300 := fun h => by unfold BdW at h; omega
    have e1 : InOne (o, li, o', hin) t ↔ loC (dbl (o, li, o', hin)) ≤ 2 * t ∧ 2 * t < hiC (dbl (o, li, o', hin)) := Iff.rfl
    refine ⟨_, (Evl.pss_cut (ps_if (pt_cmpR op_notNc (pe_ix ix_tup (pv 0) pe_int (fun _ _ => rfl)) pe_non (nomark _))
    (pss_cons (ps_set (i := 4) sc_w_in_one.nd rfl (Or.inl rfl) (pe_op op_sub (pe_op op_mulG (pv 1) (pv 3)) (pe_op op_mulG (pe_ix ix_tup (pv 0) pe_int (fun _ _ => rfl)) (pv 2))))
    (pss_one (ps_if (PW.pt (pw_or (pt_cmpR op_lt (pv 4) pe_int (nomark _)) (pw_or1 (PW.pt (pw_and (pt_cmpR op_eq (pv 4) pe_int (nomark _)) (pw_and1 (pt_not (pt_val (pe_ix ix_tup (pv 0) pe_int (fun _ _ => rfl))))))))))
    (pss_one (ps_ret pe_bl))
    pss_nil)))
    pss_nil)
    (pss_cons (ps_if (pt_cmpR op_notNc (pe_ix ix_tup (pv 0) pe_int (fun _ _ => rfl)) pe_non (nomark _))
    (pss_cons (ps_set (i := 5) sc_w_in_one.nd rfl (Or.inl rfl) (pe_op op_sub (pe_op op_mulG (pe_ix ix_tup (pv 0) pe_int (fun _ _ => rfl)) (pv 2)) (pe_op op_mulG (pv 1) (pv 3))))
    (pss_one (ps_if (PW.pt (pw_or (pt_cmpR op_lt (pv 5) pe_int (nomark _)) (pw_or1 (PW.pt (pw_and (pt_cmpR op_eq (pv 5) pe_int (nomark _)) (pw_and1 (pt_not (pt_val (pe_ix ix_tup (pv 0) pe_int (fun _ _ => rfl))))))))))
    (pss_one (ps_ret pe_bl))
    pss_nil)))
    pss_nil)
    (pss_one (ps_ret pe_bl)))), ?_⟩
    walk_at "start"
    have fin : ∀ v : Bool, (v = true ↔ loC (dbl (o, li, o', hin)) ≤ 2 * t ∧ 2 * t < hiC (dbl (o, li, o', hin))) → Q (.bl v) H := by
      intro v hv
      have : v = decide (InOne (o, li, o', hin) t) := by rw [Bool.eq_iff_iff, decide_eq_true_iff]; exact hv
      rw [this]; exact k
    have no : ∀ {A : Prop}, ¬ A → (false = true ↔ A) := fun h => ⟨(fun e => by cases e), fun a => (h a).elim⟩
    refine r_cut (fun σ' H' => ∃ y4 y5 : Option V, σ' = [some (.ref p), some (.int top), some (.int b), some (.int f), y4, y5] ∧ H' = H ∧ loC (dbl (o, li, o', hin)) ≤ 2 * t) ?_ ?_
    · cases o with
      | none =>
        simp only [oV] at hp'
        walk_at "sts"
        exact ⟨_, _, by first | exact rfl | trivial, rfl, by show -BB ≤ 2 * t; omega⟩
      | some x =>
        have zX := zx (hb.1 x rfl)
        have sgx := sg x
        simp only [oV] at hp'
        walk_at "sts"
        try (refine r_I (mulw 300 300 zt zf) ?_; walk_at "sts")
        try (refine r_I (mulw 300 300 zX zb) ?_; walk_at "sts")
        refine r_ite (fun c1 => ?_) (fun c1 => ?_)
        · walk_at "sts"
          refine fin false (no fun h => ?_)
          have h1 := sgx.1.1.mp c1
          have h2 : 2 * (2 * x) + (if li = true then 0 else 1) ≤ 2 * t := h.1
          split at h2 <;> omega
        walk_at "sts"
        have n1 : ¬ t < 2 * x := fun z => c1 (sgx.1.1.mpr z)
        cases li with
        | true =>
          have good : loC (dbl (some x, true, o', hin)) ≤ 2 * t := by show 2 * (2 * x) + 0 ≤ 2 * t; omega
          refine r_ite (fun c2 => ?_) (fun c2 => ?_)
          · walk_at "sts"
            exact ⟨_, _, by first | exact rfl | trivial, rfl, good⟩
          · walk_at "sts"
            exact ⟨_, _, by first | exact rfl | trivial, rfl, good⟩
        | false =>
          refine r_ite (fun c2 => ?_) (fun c2 => ?_)
          · walk_at "sts"
            refine fin false (no fun h => ?_)
            have h1 := sgx.1.2.mp c2
            have h2 : 2 * (2 * x) + 1 ≤ 2 * t := h.1
            omega
          · walk_at "sts"
            have h1 : ¬ t = 2 * x := fun z => c2 (sgx.1.2.mpr z)
            exact ⟨_, _, by first | exact rfl | trivial, rfl, by show 2 * (2 * x) + 1 ≤ 2 * t; omega⟩
    rintro σ' H' ⟨y4, y5, rfl, rfl, hlo⟩
    cases o' with
    | none =>
      simp only [oV] at hp'
      walk_at "sts"
      exact fin true ⟨fun _ => ⟨hlo, by show 2 * t < BB; omega⟩, fun _ => rfl⟩
    | some x =>
      have zX := zx (hb.2 x rfl)
      have sgx := sg x
      simp only [oV] at hp'
      walk_at "sts"
      try (refine r_I (mulw 300 300 zX zb) ?_; walk_at "sts")
      try (refine r_I (mulw 300 300 zt zf) ?_; walk_at "sts")
      refine r_ite (fun c1 => ?_) (fun c1 => ?_)
      · walk_at "sts"
        refine fin false (no fun h => ?_)
        have h1 := sgx.2.1.mp c1
        have h2 : 2 * t < 2 * (2 * x) + (if hin = true then 1 else 0) := h.2
        split at h2 <;> omega
      walk_at "sts"
      have n1 : ¬ 2 * x < t := fun z => c1 (sgx.2.1.mpr z)
      cases hin with
      | true =>
        have good : 2 * t < hiC (dbl (o, li, some x, true)) := by show 2 * t < 2 * (2 * x) + 1; omega
        refine r_ite (fun c2 => ?_) (fun c2 => ?_)
        · walk_at "sts"
          exact fin true ⟨fun _ => ⟨hlo, good⟩, fun _ => rfl⟩
        · walk_at "sts"
          exact fin true ⟨fun _ => ⟨hlo, good⟩, fun _ => rfl⟩
      | false =>
        refine r_ite (fun c2 => ?_) (fun c2 => ?_)
        · walk_at "sts"
          refine fin false (no fun h => ?_)
          have h1 := sgx.2.2.mp c2
          have h2 : 2 * t < 2 * (2 * x) + 0 := h.2
          omega
        · walk_at "sts"
          have h1 : ¬ t = 2 * x := fun z => c2 (sgx.2.2.mpr z)
          exact fin true ⟨fun _ => ⟨hlo, by show 2 * t < 2 * (2 * x) + 0; omega⟩, fun _ => rfl⟩
theorem ok_in (T : Tx K mg) (G_w_in_one : FnOk P w K mg base CX0 1 T.f_w_in_one T.fd_w_in_one ["_law_one", "_law_top", "_law_bottom", "_law_fine"] spInOne) : FnOk P w K mg base CX0 2 T.f_w_in T.fd_w_in ["_law_stretches_here", "_law_top", "_law_bottom", "_law_fine"] spIn := by
  refine T.F_w_in.ok sc_w_in (fun vs H Q E h => ?_) (fun cdv A outer s H vs Q E hr h => ?_)
  · obtain ⟨p, rs, top, b, f, t, rfl, _⟩ := h; rfl
  · obtain ⟨p, rs, top, b, f, t, rfl, ⟨as, ep, ha⟩, hb, hf, b0, zb, zt, z, e, k⟩ := h
    have la := ha.len
    have lm : (as.map V.ref).length = rs.length := by rw [List.length_map]; exact la
    refine ⟨_, (pss_cons (ps_for PassesOwn.never rfl (pi_list (pv 0)) (pg_name (i := 4) sc_w_in.nd rfl (Or.inl rfl))
    (pss_one (ps_if (pt_val (pe_call G_w_in_one (hr.mono (by decide)) rfl T.g_w_in_one T.F_w_in_one.kp T.b_w_in_one .nil pass0 (pa_cons (pv 4) (pa_cons (pv 1) (pa_cons (pv 2) (pa_cons (pv 3) pa_nil))))))
    (pss_one (ps_ret pe_bl))
    pss_nil)))
    (pss_one (ps_ret pe_bl))), ?_⟩
    walk_at "start"
    walk_at "sts"
    refine forL_go (fun i σ' H' => ∃ y4 : Option V, σ' = [some (.ref p), some (.int top), some (.int b), some (.int f), y4] ∧ H' = H ∧ ∀ j r, j < i → rs[j]? = some r → ¬ InOne r t) (sqL_of ep) ⟨_, by first | exact rfl | trivial, rfl, fun _ _ h => absurd h (by omega)⟩ (fun i σ' H' _ h => by obtain ⟨_, _, rfl, _⟩ := h; exact sqL_of ep) ?_ ?_
    · rintro i v σ' H2 hv ⟨y4, rfl, rfl, no⟩
      obtain ⟨a, hai, rfl⟩ := getRf hv
      obtain ⟨r, hr0, hra⟩ := ha.get hai
      have mr := List.mem_of_getElem? hr0
      walk_at "sts"
      refine ⟨a, r, top, b, f, t, rfl, hra, hb r mr, hf, b0, zb, zt, z, e, ?_⟩
      walk_at "sts"
      refine r_ite (fun c => ?_) (fun c => ?_)
      · walk_at "sts"
        exact k true ⟨fun _ => mem_set.mpr ⟨r, mr, c⟩, fun _ => rfl⟩
      · walk_at "sts"
        refine ⟨_, by first | exact rfl | trivial, rfl, fun j r' hj hr' => ?_⟩
        rcases Nat.lt_or_ge j i with c2 | c2
        · exact no j r' c2 hr'
        · have : j = i := by omega
          subst this; rw [hr0] at hr'; cases hr'; exact c
    · rintro σ' H2 ⟨y4, rfl, rfl, no⟩
      walk_at "sts"
      refine k false ⟨(fun e => by cases e), fun m => ?_⟩
      obtain ⟨r, mr, hr1⟩ := mem_set.mp m
      obtain ⟨j, hj⟩ := List.mem_iff_getElem?.mp mr
      exact (no j r (by rw [lm]; exact (List.getElem?_eq_some_iff.mp hj).1) hj hr1).elim
theorem ok_ends (T : Tx K mg) : FnOk P w K mg base CX0 1 T.f_w_ends T.fd_w_ends ["_law_stretches_here"] spEnds := by
  refine T.F_w_ends.ok sc_w_ends (fun vs H Q E h => ?_) (fun cdv A outer s H vs Q E hr h => ?_)
  · obtain ⟨p, rs, rfl, _⟩ := h; rfl
  · obtain ⟨p, rs, rfl, ⟨as, ep, ha⟩, hb, l20, k⟩ := h
    have la := ha.len
    have lm : (as.map V.ref).length = rs.length := by rw [List.length_map]; exact la
    refine ⟨_, (pss_cons (ps_set (i := 1) sc_w_ends.nd rfl (Or.inl rfl) (pe_lst pa_nil))
    (pss_cons (ps_for PassesOwn.never rfl (pi_list (pv 0)) (pg_name (i := 2) sc_w_ends.nd rfl (Or.inl rfl))
    (pss_one (ps_for PassesOwn.never rfl (pi_list (pe_lst (pa_cons (pe_ix ix_tup (pv 2) pe_int (fun _ _ => rfl)) (pa_cons (pe_ix ix_tup (pv 2) pe_int (fun _ _ => rfl)) pa_nil)))) (pg_name (i := 3) sc_w_ends.nd rfl (Or.inl rfl))
    (pss_one (ps_if (PW.pt (pw_and (pt_cmpR op_notNc (pv 3) pe_non (nomark _)) (pw_and1 (pt_cmpR op_notIn_seq (pe_op op_mul pe_int (pv 3)) (pv 1) (by rfl)))))
    (pss_one (ps_expr (pe_bm PySem.F.plainAttrs_list PySem.F.slot_list_append PySem.F.type_list_append mt_append (pv 1) (pa_cons (pe_op op_mul pe_int (pv 3)) pa_nil))))
    pss_nil)))))
    (pss_one (ps_ret (pe_callB cr_sortedI (by rfl) T.m_sorted (by decide +kernel) (pa_cons (pv 1) pa_nil)))))), ?_⟩
    walk_at "start"
    walk_at "sts"
    intro D nD
    have k0 : Keep [] H (upd H D (.lst [])) := Keep.new nD
    have e0 : upd H D (.lst []) D = some (.lst []) := upd_same
    generalize upd H D (.lst []) = H1 at k0 e0 ⊢
    have ep1 := k0 _ _ (by simp) ep
    walk_at "sts"
    refine forL_go (fun i σ' H' => ∃ (us : List Int) (y2 y3 : Option V), σ' = [some (.ref p), some (.ref D), y2, y3] ∧ Keep [] H H' ∧ H' D = some (.lst (us.map V.int)) ∧ Seen us ∧ endsOk (rs.take i) us ∧ us.length ≤ 2 * i) (sqL_of ep1) ⟨[], _, _, by first | exact rfl | trivial, k0, e0, ⟨.nil, fun _ m => (List.not_mem_nil m).elim, fun _ m => (List.not_mem_nil m).elim⟩, fun r m => by simp at m, by simp⟩ (fun i σ' H' _ h => by obtain ⟨_, _, _, _, k, _⟩ := h; exact sqL_of (k _ _ (by simp) ep)) ?_ ?_
    · rintro i v σ' H2 hv ⟨us, y2, y3, rfl, k2, eD, se, eo, lu⟩
      obtain ⟨a, hai, rfl⟩ := getRf hv
      obtain ⟨⟨o, b, o', b'⟩, hr0, hra⟩ := ha.get hai
      have mr := List.mem_of_getElem? hr0
      have hi := (List.getElem?_eq_some_iff.mp hr0).1
      have br := hb _ mr
      have ea : H2 a = some (.tup [oV o, .bl b, oV o', .bl b']) := k2.t0 _ _ hra
      walk_at "sts"
      intro q nq
      have k3 : Keep [] H2 (upd H2 q (.lst [oV o, oV o'])) := Keep.new nq
      have e3 : upd H2 q (.lst [oV o, oV o']) q = some (.lst [oV o, oV o']) := upd_same
      generalize upd H2 q (.lst [oV o, oV o']) = H3 at k3 e3 ⊢
      have eD3 := k3 _ _ (by simp) eD
      have k03 := k2.trans k3
      have nqD : q ≠ D := ne_free eD nq
      have nDH : H D = none := nD
      walk_at "sts"
      have inner : ∀ (n : Nat) (us1 : List Int), endsOk (rs.take i) us1 → (1 ≤ n → ∀ t, o = some t → 2 * t ∈ us1) → (2 ≤ n → ∀ t, o' = some t → 2 * t ∈ us1) → True := fun _ _ _ _ _ => trivial
      refine forL_go (fun n σ' H' => ∃ (us1 : List Int) (y3 : Option V), σ' = [some (.ref p), some (.ref D), some (.ref a), y3] ∧ Keep [] H H' ∧ H' q = some (.lst [oV o, oV o']) ∧ H' D = some (.lst (us1.map V.int)) ∧ Seen us1 ∧ (∀ t ∈ us, t ∈ us1) ∧ (1 ≤ n → ∀ t, o = some t → 2 * t ∈ us1) ∧ (2 ≤ n → ∀ t, o' = some t → 2 * t ∈ us1) ∧ us1.length ≤ us.length + n) (sqL_of e3) ⟨us, _, by first | exact rfl | trivial, k03, e3, eD3, se, fun _ m => m, fun h => absurd h (by omega), fun h => absurd h (by omega), by omega⟩ (fun i σ' H' _ h => by obtain ⟨_, _, _, _, e, _⟩ := h; exact sqL_of e) ?_ ?_
      · rintro n v σ' H4 hv ⟨us1, y3', rfl, k4, eq4, eD4, se1, sub, m1, m2, l1⟩
        obtain ⟨u, rfl, hu⟩ : ∃ u : Option Int, v = oV u ∧ ((n = 0 ∧ u = o) ∨ (n = 1 ∧ u = o')) := by
          match n, hv with
          | 0, hv => exact ⟨o, (Option.some.inj hv).symm, .inl ⟨rfl, rfl⟩⟩
          | 1, hv => exact ⟨o', (Option.some.inj hv).symm, .inr ⟨rfl, rfl⟩⟩
          | n + 2, hv => simp at hv
        have hn : n ≤ 1 := by rcases hu with ⟨h, _⟩ | ⟨h, _⟩ <;> omega
        have bu : ∀ t, u = some t → BdW t := by
          intro t e
          rcases hu with ⟨_, rfl⟩ | ⟨_, rfl⟩
          · exact br.1 t e
          · exact br.2 t e
        have done : ∀ (us2 : List Int), (∀ t ∈ us1, t ∈ us2) → (∀ t, u = some t → 2 * t ∈ us2) → (1 ≤ n + 1 → ∀ t, o = some t → 2 * t ∈ us2) ∧ (2 ≤ n + 1 → ∀ t, o' = some t → 2 * t ∈ us2) := by
          intro us2 s2 h2
          rcases hu with ⟨rfl, rfl⟩ | ⟨rfl, rfl⟩
          · exact ⟨fun _ => h2, fun h => absurd h (by omega)⟩
          · exact ⟨fun _ t e => s2 _ (m1 (by omega) t e), fun _ => h2⟩
        walk_at "sts"
        cases u with
        | none =>
          simp only [oV]
          walk_at "sts"
          have d := done us1 (fun _ m => m) (fun t e => by cases e)
          exact ⟨us1, _, by first | exact rfl | trivial, k4, eq4, eD4, se1, sub, d.1, d.2, by omega⟩
        | some t =>
          have bt := bu t rfl
          unfold BdW at bt
          simp only [oV]
          walk_at "sts"
          refine r_ninL (sqL_of eD4) rfl fl_int ?_
          rw [inV_int]
          refine ⟨_, rfl, ?_⟩
          by_cases c : 2 * t ∈ us1
          · rw [decide_eq_true c, Bool.not_true, if_neg (by decide)]
            walk_at "sts"
            have d := done us1 (fun _ m => m) (fun t' e => by cases e; exact c)
            exact ⟨us1, _, by first | exact rfl | trivial, k4, eq4, eD4, se1, sub, d.1, d.2, by omega⟩
          · rw [decide_eq_false c, Bool.not_false, if_pos rfl]
            walk_at "sts"
            have d := done (us1 ++ [2 * t]) (fun _ m => List.mem_append.mpr (.inl m)) (fun t' e => by cases e; exact List.mem_append.mpr (.inr (List.mem_singleton.mpr rfl)))
            have fin : ∃ (us1' : List Int) (y3 : Option V), [some (V.ref p), some (.ref D), some (.ref a), some (.int t)] = [some (.ref p), some (.ref D), some (.ref a), y3] ∧ Keep [] H (upd H4 D (.lst (us1.map V.int ++ [.int (2 * t)]))) ∧ (upd H4 D (.lst (us1.map V.int ++ [.int (2 * t)]))) q = some (.lst [oV o, oV o']) ∧ (upd H4 D (.lst (us1.map V.int ++ [.int (2 * t)]))) D = some (.lst (us1'.map V.int)) ∧ Seen us1' ∧ (∀ t ∈ us, t ∈ us1') ∧ (1 ≤ n + 1 → ∀ t, o = some t → 2 * t ∈ us1') ∧ (2 ≤ n + 1 → ∀ t, o' = some t → 2 * t ∈ us1') ∧ us1'.length ≤ us.length + (n + 1) := by
              refine ⟨us1 ++ [2 * t], _, rfl, k4.mut nDH, by rw [upd_ne nqD]; exact eq4, by rw [List.map_append]; exact upd_same, ⟨?_, fun x m => ?_, fun x m => ?_⟩, fun x m => List.mem_append.mpr (.inl (sub x m)), d.1, d.2, by rw [List.length_append, List.length_singleton]; omega⟩
              · rw [List.nodup_append]
                exact ⟨se1.nd, by simp, fun x m y my => by rw [List.mem_singleton.mp my]; rintro rfl; exact c m⟩
              · rcases List.mem_append.mp m with m | m
                · exact se1.ev x m
                · rw [List.mem_singleton.mp m]; omega
              · rcases List.mem_append.mp m with m | m
                · exact se1.sm x m
                · rw [List.mem_singleton.mp m]; omega
            first
              | exact fin
              | (refine r_app eD4 (by rw [List.length_map]; exact lt_size (by omega)) ?_
                 walk_at "sts"
                 exact fin)
      · rintro σ' H4 ⟨us1, y3', rfl, k4, eq4, eD4, se1, sub, m1, m2, l1⟩
        walk_at "sts"
        refine ⟨us1, _, _, by first | exact rfl | trivial, k4, eD4, se1, fun r m => ?_, by simp at l1; omega⟩
        rcases (take_mem hr0).mp m with m | rfl
        · have := eo r m
          exact ⟨fun t e => sub _ (this.1 t e), fun t e => sub _ (this.2 t e)⟩
        · exact ⟨m1 (by simp), m2 (by simp)⟩
    · rintro σ' H2 ⟨us, y2, y3, rfl, k2, eD, se, eo, lu⟩
      rw [lm] at eo lu
      rw [List.take_length] at eo
      walk_at "sts"
      refine ⟨D, us, rfl, sqL_of eD, fun ys q pm so nq => ?_⟩
      have k3 : Keep [] H2 (upd H2 q (.lst (ys.map V.int))) := Keep.new nq
      exact k q ys _ (k2.trans k3) upd_same (se.ends pm so) (fun r m => ⟨fun t e => pm.mem_iff.mpr ((eo r m).1 t e), fun t e => pm.mem_iff.mpr ((eo r m).2 t e)⟩) (by rw [pm.length_eq]; omega) (fun t m => se.sm t (pm.mem_iff.mp m))
end
open PySem PySem.Spec PyProof.Rows L2 StX Pc
/-! ### probes, marks, the parts that are due -/
theorem atI_last {xs : List V} {c : V} (h : xs.getLast? = some c) : atI xs (-1) = some c := by
  have hne : xs ≠ [] := by rintro rfl; simp at h
  have hl : 0 < xs.length := List.length_pos_iff.mpr hne
  unfold atI ixN
  rw [if_neg (by decide), if_pos (by omega)]
  show xs[((-1 : Int) + xs.length).toNat]? = some c
  rw [show ((-1 : Int) + xs.length).toNat = xs.length - 1 by omega, ← List.getLast?_eq_getElem?]
  exact h
def prs (E : List Int) : List Int := (List.range (2 * E.length + 1)).map (probe E)
def spProbes : Sp := fun vs H Q _ => ∃ (p : Addr) (E : List Int), vs = [.ref p] ∧ H p = some (.lst (E.map V.int)) ∧ Ends E ∧ E.length ≤ 40 ∧ ∀ q H', Keep [] H H' → H' q = some (.lst ((prs E).map V.int)) → Q (.ref q) H'
/-- marks of a set -/
structure Marks (E : List Int) (T : Int → Prop) (m : List Bool) : Prop where
  len : m.length = 2 * E.length + 1
  is : ∀ k b, m[k]? = some b → (b = true ↔ T (2 * probe E k))
def spMarks : Sp := fun vs H Q _ => ∃ (p q : Addr) (rs : List Rw) (E : List Int) (f : Int), vs = [.ref p, .ref q, .int f] ∧ RawsAt H p rs ∧ (∀ r ∈ rs, BdRW r) ∧ H q = some (.lst ((prs E).map V.int)) ∧ Ends E ∧ E.length ≤ 40 ∧ FOk f ∧ ∀ (o : Addr) (m : List Bool) H', Keep [] H H' → H' o = some (.lst (m.map V.bl)) → Marks E (mem (setOf rs)) m → Q (.ref o) H'
def spPiece : Sp := fun vs H Q _ => ∃ (p : Addr) (E : List Int) (i j : Nat) (f : Int), vs = [.ref p, .int i, .int j, .int f] ∧ H p = some (.lst (E.map V.int)) ∧ Ends E ∧ E.length ≤ 40 ∧ FOk f ∧ i ≤ j ∧ j < 2 * E.length + 1 ∧ ∀ u H', Keep [] H H' → PcAt (2 * f) H' u (R E i, R E (j + 1)) → Q (.ref u) H'
def spDue : Sp := fun vs H Q _ => ∃ (p q : Addr) (E : List Int) (m : List Bool) (f : Int), vs = [.ref p, .ref q, .int f] ∧ H p = some (.lst (E.map V.int)) ∧ H q = some (.lst (m.map V.bl)) ∧ m.length = 2 * E.length + 1 ∧ Ends E ∧ E.length ≤ 40 ∧ FOk f ∧ ∀ o as F H', Keep [] H H' → H' o = some (.lst (as.map V.ref)) → AllP (PcAt (2 * f) H') as F → Can F → (∀ z, mem F z ↔ Told E m z) → (∀ q ∈ F, SmI q) → F.length ≤ 90 → Q (.ref o) H'
theorem R_sm {E : List Int} (h : Ends E) {i j : Nat} (hij : i < j) (hj : j ≤ 2 * E.length + 1) : SmI (R E i, R E j) := by
  have key : ∀ k, k ≤ 2 * E.length + 1 → (k = 0 ∧ R E k = -BB) ∨ (k = 2 * E.length + 1 ∧ R E k = BB) ∨ Sc (R E k) := by
    intro k hk
    rcases Nat.eq_zero_or_pos k with rfl | hp
    · exact .inl ⟨rfl, rfl⟩
    · obtain ⟨n, hn⟩ : ∃ n, k = 2 * n + 1 ∨ k = 2 * n + 2 := ⟨(k - 1) / 2, by omega⟩
      by_cases hl : n < E.length
      · have r := R_at (List.getElem?_eq_getElem hl)
        have s := h.sm E[n] (List.getElem_mem hl)
        unfold Sm at s
        rcases hn with rfl | rfl
        · rw [r.1]; exact .inr (.inr (by omega))
        · rw [r.2]; exact .inr (.inr (by omega))
      · have : k = 2 * E.length + 1 := by omega
        subst this
        exact .inr (.inl ⟨rfl, R_end⟩)
  refine ⟨?_, ?_⟩
  · rcases key i (by omega) with ⟨_, e⟩ | ⟨e, _⟩ | s
    · exact .inl e
    · omega
    · exact .inr s
  · rcases key j hj with ⟨e, _⟩ | ⟨_, e⟩ | s
    · omega
    · exact .inl e
    · exact .inr s
theorem rg_snoc {f : Nat → Int} {n : Nat} : ((List.range (n + 1)).map f).map V.int = ((List.range n).map f).map V.int ++ [V.int (f n)] := by
  rw [List.range_succ, List.map_append, List.map_append]; rfl
section
variable {P : Program} {w : World} {K : PySem.W.Frag} {mg : Str → Option Value} {base : Heap}
theorem ok_probes (T : Tx K mg) : FnOk P w K mg base CX0 1 T.f_w_probes T.fd_w_probes ["_law_ends_here"] spProbes := by
  refine T.F_w_probes.ok sc_w_probes (fun vs H Q E h => ?_) (fun cdv A outer s H vs Q E hr h => ?_)
  · obtain ⟨p, E, rfl, _⟩ := h; rfl
  · obtain ⟨p, U, rfl, ep, hU, l40, k⟩ := h
    refine ⟨_, (pss_cons (ps_if (pt_cmpR (op_eqD hr.units) (pv 0) (pe_lst pa_nil) (nomark _))
    (pss_one (ps_ret (pe_lst (pa_cons pe_int pa_nil))))
    pss_nil)
    (pss_cons (ps_set (i := 1) sc_w_probes.nd rfl (Or.inl rfl) (pe_lst (pa_cons (pe_op op_sub (pe_ix ix_list (pv 0) pe_int (fun _ _ => rfl)) pe_int) pa_nil)))
    (pss_cons (ps_for PassesOwn.never rfl (pi_range1 rfl T.m_range (pa_cons (pe_op op_sub (pe_callB call_len_seq (by rfl) T.m_len PySem.boot_len (pa_cons (pv 0) pa_nil)) pe_int) pa_nil)) (pg_name (i := 2) sc_w_probes.nd rfl (Or.inl rfl))
    (pss_cons (ps_expr (pe_bm PySem.F.plainAttrs_list PySem.F.slot_list_append PySem.F.type_list_append mt_append (pv 1) (pa_cons (pe_ix ix_list (pv 0) (pv 2) (fun _ _ => rfl)) pa_nil)))
    (pss_one (ps_expr (pe_bm PySem.F.plainAttrs_list PySem.F.slot_list_append PySem.F.type_list_append mt_append (pv 1) (pa_cons (pe_op op_fdiv (pe_op op_add (pe_ix ix_list (pv 0) (pv 2) (fun _ _ => rfl)) (pe_ix ix_list (pv 0) (pe_op op_add (pv 2) pe_int) (fun _ _ => rfl))) pe_int) pa_nil))))))
    (pss_cons (ps_expr (pe_bm PySem.F.plainAttrs_list PySem.F.slot_list_append PySem.F.type_list_append mt_append (pv 1) (pa_cons (pe_ix ix_list (pv 0) (pe_un un_neg pe_int) (fun _ _ => rfl)) pa_nil)))
    (pss_cons (ps_expr (pe_bm PySem.F.plainAttrs_list PySem.F.slot_list_append PySem.F.type_list_append mt_append (pv 1) (pa_cons (pe_op op_add (pe_ix ix_list (pv 0) (pe_un un_neg pe_int) (fun _ _ => rfl)) pe_int) pa_nil)))
    (pss_one (ps_ret (pv 1)))))))), ?_⟩
    walk_at "start"
    walk_at "sts"
    intro q nq
    have k0 : Keep [] H (upd H q (.lst [])) := Keep.new nq
    have eq : upd H q (.lst []) q = some (.lst []) := upd_same
    generalize upd H q (.lst []) = H1 at k0 eq ⊢
    have ep1 := k0 _ _ (by simp) ep
    refine r_eqNil (sqL_of ep1) (sqL_of eq) fl_int' ?_
    by_cases hE : U = []
    · subst hE
      rw [show (([] : List Int).map V.int).isEmpty = true from rfl]
      walk_at "sts"
      intro o no
      exact k o _ (k0.trans (Keep.new no)) upd_same
    have hl : 0 < U.length := List.length_pos_iff.mpr hE
    have nE : (U.map V.int).isEmpty = false := by cases U with
      | nil => exact (hE rfl).elim
      | cons _ _ => rfl
    rw [nE]
    have gD : ∀ j, (hj : j < U.length) → U.getD j 0 = U[j] := fun j hj => by rw [List.getD_eq_getElem?_getD, List.getElem?_eq_getElem hj]; rfl
    have po : ∀ j, j < U.length → probe U (2 * j + 1) = U.getD j 0 := by
      intro j h
      unfold probe
      rw [if_neg hE, if_neg (by omega), if_neg (by omega), if_pos (by omega), show (2 * j + 1 - 1) / 2 = j by omega]
    have pe : ∀ j, j + 1 < U.length → probe U (2 * j + 2) = (U.getD j 0 + U.getD (j + 1) 0) / 2 := by
      intro j h
      unfold probe
      rw [if_neg hE, if_neg (by omega), if_neg (by omega), if_neg (by omega), show (2 * j + 2) / 2 - 1 = j by omega, show (2 * j + 2) / 2 = j + 1 by omega]
      rw [Int.fdiv_eq_ediv_of_nonneg _ (by decide)]
    have p0 : probe U 0 = U.getD 0 0 - 1 := by
      unfold probe
      rw [if_neg hE, if_pos rfl]
      cases U with
      | nil => exact (hE rfl).elim
      | cons a E => rfl
    have lastE : U.getLast? = some (U[U.length - 1]) := by rw [List.getLast?_eq_getElem?, List.getElem?_eq_getElem (by omega)]
    have pl : probe U (2 * U.length) = U[U.length - 1] + 1 := by
      unfold probe
      rw [if_neg hE, if_neg (by omega), if_pos rfl, List.getLastD_eq_getLast?, lastE]; rfl
    have pl' : probe U (2 * U.length - 1) = U[U.length - 1] := by
      rw [show 2 * U.length - 1 = 2 * (U.length - 1) + 1 by omega, po _ (by omega), gD _ (by omega)]
    have am : atI (U.map V.int) (-1) = some (.int U[U.length - 1]) := atI_last (by rw [List.getLast?_map, lastE]; rfl)
    have lm : (U.map V.int).length = U.length := List.length_map _
    clear gD
    walk_at "sts"
    rw [show U.getD (Int.toNat 0) 0 - 1 = probe U 0 from p0.symm]
    intro D nD
    have k1 : Keep [] H1 (upd H1 D (.lst [.int (probe U 0)])) := Keep.new nD
    have eD : upd H1 D (.lst [.int (probe U 0)]) D = some (.lst [.int (probe U 0)]) := upd_same
    generalize upd H1 D (.lst [.int (probe U 0)]) = H2 at k1 eD ⊢
    have k02 := k0.trans k1
    have nDH : H D = none := k0.free (by simp) nD
    have ep2 := k1 _ _ (by simp) ep1
    clear k1 nD ep1 k0 eq nq
    walk_at "sts"
    rw [lm]
    refine forR1_go (fun i σ' H' => ∃ y2 : Option V, σ' = [some (.ref p), some (.ref D), y2] ∧ Keep [] H H' ∧ H' D = some (.lst (((List.range (2 * i + 1)).map (probe U)).map V.int))) ⟨by omega, by omega⟩ ⟨_, by first | exact rfl | trivial, k02, eD⟩ ?_ ?_
    · rintro i σ' H' hi ⟨y2, rfl, k2, eD'⟩
      have ep' := k2 _ _ (by simp) ep
      have e1 := po i (by omega)
      have e2 := pe i (by omega)
      have nDp : D ≠ p := ne_free ep nDH
      have zl : (((List.range (2 * i + 1)).map (probe U)).map V.int).length < 100000 := by simp only [List.length_map, List.length_range]; omega
      walk_at "sts"
      rw [Int.toNat_natCast, ← e1]
      try refine r_app eD' (lt_size zl) ?_
      rw [← rg_snoc]
      have k3 : Keep [] H (upd H' D (.lst (((List.range (2 * i + 1 + 1)).map (probe U)).map V.int))) := k2.mut nDH
      have eD3 : upd H' D (.lst (((List.range (2 * i + 1 + 1)).map (probe U)).map V.int)) D = some (.lst (((List.range (2 * i + 1 + 1)).map (probe U)).map V.int)) := upd_same
      generalize upd H' D (.lst (((List.range (2 * i + 1 + 1)).map (probe U)).map V.int)) = H3 at k3 eD3 ⊢
      have ep3 := k3 _ _ (by simp) ep
      have zl2 : (((List.range (2 * i + 1 + 1)).map (probe U)).map V.int).length < 100000 := by simp only [List.length_map, List.length_range]; omega
      clear eD' ep' k2
      walk_at "sts"
      rw [Int.toNat_natCast, show ((i : Int) + 1).toNat = i + 1 by omega, ← e2]
      try refine r_app eD3 (lt_size zl2) ?_
      rw [← rg_snoc]
      walk_at "sts"
      exact ⟨_, by first | exact rfl | trivial, k3.mut nDH, by rw [upd_same]; rfl⟩
    · rintro σ' H' ⟨y2, rfl, k2, eD'⟩
      have ep' := k2 _ _ (by simp) ep
      have nDp : D ≠ p := ne_free ep nDH
      rw [show ((U.length : Int) - 1).toNat = U.length - 1 by omega, show 2 * (U.length - 1) + 1 = 2 * U.length - 1 by omega] at eD'
      have zl : (((List.range (2 * U.length - 1)).map (probe U)).map V.int).length < 100000 := by simp only [List.length_map, List.length_range]; omega
      walk_at "sts"
      rw [← pl']
      try refine r_app eD' (lt_size zl) ?_
      rw [← rg_snoc]
      have k3 : Keep [] H (upd H' D (.lst (((List.range (2 * U.length - 1 + 1)).map (probe U)).map V.int))) := k2.mut nDH
      have eD3 : upd H' D (.lst (((List.range (2 * U.length - 1 + 1)).map (probe U)).map V.int)) D = some (.lst (((List.range (2 * U.length - 1 + 1)).map (probe U)).map V.int)) := upd_same
      generalize upd H' D (.lst (((List.range (2 * U.length - 1 + 1)).map (probe U)).map V.int)) = H3 at k3 eD3 ⊢
      have ep3 := k3 _ _ (by simp) ep
      have zl2 : (((List.range (2 * U.length - 1 + 1)).map (probe U)).map V.int).length < 100000 := by simp only [List.length_map, List.length_range]; omega
      clear eD' ep' k2
      walk_at "sts"
      rw [← pl, show (probe U (2 * U.length)) = probe U (2 * U.length - 1 + 1) by rw [show 2 * U.length - 1 + 1 = 2 * U.length by omega]]
      try refine r_app eD3 (lt_size zl2) ?_
      rw [← rg_snoc]
      walk_at "sts"
      refine k D _ (k3.mut nDH) ?_
      rw [upd_same, show 2 * U.length - 1 + 1 + 1 = 2 * U.length + 1 by omega]; rfl
theorem ok_marks (T : Tx K mg) (G_w_in : FnOk P w K mg base CX0 2 T.f_w_in T.fd_w_in ["_law_stretches_here", "_law_top", "_law_bottom", "_law_fine"] spIn) : FnOk P w K mg base CX0 3 T.f_w_marks T.fd_w_marks ["_law_stretches_here", "_law_probes_here", "_law_fine"] spMarks := by
  refine T.F_w_marks.ok sc_w_marks (fun vs H Q E h => ?_) (fun cdv A outer s H vs Q E hr h => ?_)
  · obtain ⟨p, q, rs, E, f, rfl, _⟩ := h; rfl
  · obtain ⟨p, q, rs, U, f, rfl, hp, hb, eq, hU, l40, hf, k⟩ := h
    have f1 : 1 ≤ f ∧ f ≤ 10 ^ 6 := hf
    have lp : (prs U).length = 2 * U.length + 1 := by unfold prs; simp
    have pz : ∀ j x, (prs U)[j]? = some x → j < 2 * U.length + 1 ∧ x = probe U j := by
      intro j x h
      have hj : j < 2 * U.length + 1 := by have := (List.getElem?_eq_some_iff.mp h).1; omega
      unfold prs at h
      rw [List.getElem?_map, List.getElem?_range hj] at h
      exact ⟨hj, (Option.some.inj h).symm⟩
    have lm : ((prs U).map V.int).length = 2 * U.length + 1 := by rw [List.length_map]; exact lp
    refine ⟨_, (pss_one (ps_ret (pe_lc (own := [("_law_probe", 3)]) (g := gName 3) (tt := tYes) rfl sc_w_marks.nd (pi_list (pv 1)) (blkOk_by (own := [("_law_probe", 3)]) (N := ["_law_stretches_here", "_law_probes_here", "_law_fine", "_law_probe"]) (sc := defScope s_w_marks) (by decide +kernel)) (fun _ _ _ _ _ => pg_name (i := 3) sc_w_marks.nd rfl (Or.inl rfl)) (fun _ _ _ _ _ => pts_nil) (fun _ _ _ _ _ => (pe_call G_w_in (hr.mono (by decide)) rfl T.g_w_in T.F_w_in.kp T.b_w_in .nil pass0 (pa_cons (pv 0) (pa_cons (pv 3) (pa_cons (pe_op op_mul pe_int (pv 2)) (pa_cons (pv 2) pa_nil))))))))), ?_⟩
    walk_at "start"
    walk_at "sts"
    refine lcL_go (fun D i acc H' => ∃ m : List Bool, acc = m.map V.bl ∧ m.length = i ∧ (∀ k b, m[k]? = some b → (b = true ↔ mem (setOf rs) (2 * probe U k))) ∧ Keep [] H H' ∧ H D = none) (sqL_of eq) (fun D nD => ⟨[], rfl, rfl, fun k b h => by simp at h, Keep.new nD, nD⟩) (fun D i acc H' _ h => by obtain ⟨_, _, _, _, k, _⟩ := h; exact sqL_of (k _ _ (by simp) eq)) ?_ ?_
    · rintro D i v acc H' hv hD ⟨m, rfl, lm', im, k1, nD⟩
      obtain ⟨x, hx, rfl⟩ : ∃ x, (prs U)[i]? = some x ∧ v = V.int x := by
        rw [List.getElem?_map] at hv
        cases e : (prs U)[i]? with
        | none => rw [e] at hv; cases hv
        | some x => rw [e] at hv; exact ⟨x, rfl, (Option.some.inj hv).symm⟩
      obtain ⟨hi, rfl⟩ := pz i x hx
      have rg := at_range hU (probe_at hU hi)
      have zt : (probe U i).natAbs < 2 ^ 300 := by
        have : BB < 2 ^ 241 := by unfold BB; decide
        have : (probe U i).natAbs < 2 ^ 241 := by omega
        exact Nat.lt_of_lt_of_le this (Nat.pow_le_pow_right (by decide) (by decide))
      walk_at "sts"
      try simp only [L2.wipe, List.map_cons, List.map_nil, List.set_cons_zero, List.set_cons_succ]
      have fin : ∀ x : Bool, (x = true ↔ mem (setOf rs) (2 * probe U i)) → ∃ acc, H' D = some (.lst acc) ∧ acc.length < sizeLine ∧ (∃ ac, (upd H' D (.lst (acc ++ [V.bl x]))) D = some (.lst ac) ∧ ∃ m : List Bool, ac = m.map V.bl ∧ m.length = i + 1 ∧ (∀ k b, m[k]? = some b → (b = true ↔ mem (setOf rs) (2 * probe U k))) ∧ Keep [] H (upd H' D (.lst (acc ++ [V.bl x]))) ∧ H D = none) := by
        intro x hx'
        refine lc_put hD (by rw [List.length_map]; exact lt_size (by omega)) ⟨m ++ [x], by rw [List.map_append]; rfl, by rw [List.length_append, lm', List.length_singleton], fun k b h => ?_, k1.mut nD, nD⟩
        rcases Nat.lt_or_ge k m.length with c | c
        · rw [List.getElem?_append_left c] at h; exact im k b h
        · rw [List.getElem?_append_right c] at h
          have : k = i := by
            have := (List.getElem?_eq_some_iff.mp h).1
            simp at this; omega
          subst this
          rw [lm', Nat.sub_self] at h
          cases h; exact hx'
      exact ⟨p, rs, probe U i, 2 * f, f, probe U i, rfl, hp.k0 k1, hb, hf, by omega, by omega, zt, rg, rfl, fun x hx' => fin x hx'⟩
    · rintro D acc H' nD hD ⟨m, rfl, lm', im, k1, _⟩
      walk_at "sts"
      exact k D m H' k1 hD ⟨by rw [lm', lm], im⟩
theorem ok_piece (T : Tx K mg) (G_w_lowest : FnOk P w K mg base CX0 1 T.f_w_lowest T.fd_w_lowest ["_law_top", "_law_bottom"] spLow0) : FnOk P w K mg base CX0 2 T.f_w_piece T.fd_w_piece ["_law_ends_here", "_law_first", "_law_last", "_law_fine"] spPiece := by
  refine T.F_w_piece.ok sc_w_piece (fun vs H Q E h => ?_) (fun cdv A outer s H vs Q E hr h => ?_)
  · obtain ⟨p, E, i, j, f, rfl, _⟩ := h; rfl
  · obtain ⟨p, U, i, j, f, rfl, ep, hU, l40, hf, hij, hj, k⟩ := h
    have f1 : 1 ≤ f ∧ f ≤ 10 ^ 6 := hf
    have bb := BB_big
    have lm : (U.map V.int).length = U.length := List.length_map _
    have fz : (2 * f).natAbs < 2 ^ 8000 := Nat.lt_of_lt_of_le (show (2 * f).natAbs < 2 ^ 30 by omega) (Nat.pow_le_pow_right (by decide) (by decide))
    have gt : ∀ n, (h : n < U.length) → U.getD n 0 = U[n] := fun n h => by rw [List.getD_eq_getElem?_getD, List.getElem?_eq_getElem h]; rfl
    -- the low end
    have lo : ∀ n, i = n + 1 → ∃ t, U.getD (n / 2) 0 = t ∧ Sc (R U i) ∧ R U i / 2 = t ∧ (R U i % 2 = 0 ↔ i % 2 = 1) ∧ n / 2 < U.length := by
      intro n e
      subst e
      have hn : n / 2 < U.length := by omega
      have r := R_at (List.getElem?_eq_getElem hn)
      have s := hU.sm U[n / 2] (List.getElem_mem hn)
      unfold Sm at s
      refine ⟨_, rfl, ?_⟩
      rw [gt _ hn]
      rcases Nat.mod_two_eq_zero_or_one n with h | h
      · rw [show n + 1 = 2 * (n / 2) + 1 by omega, r.1]
        exact ⟨by omega, by omega, by omega, hn⟩
      · rw [show n + 1 = 2 * (n / 2) + 2 by omega, r.2]
        exact ⟨by omega, by omega, by omega, hn⟩
    have hi : j < 2 * U.length → ∃ t, U.getD (j / 2) 0 = t ∧ Sc (R U (j + 1)) ∧ R U (j + 1) / 2 = t ∧ (R U (j + 1) % 2 = 1 ↔ j % 2 = 1) ∧ j / 2 < U.length := by
      intro e
      have hn : j / 2 < U.length := by omega
      have r := R_at (List.getElem?_eq_getElem hn)
      have s := hU.sm U[j / 2] (List.getElem_mem hn)
      unfold Sm at s
      refine ⟨_, rfl, ?_⟩
      rw [gt _ hn]
      rcases Nat.mod_two_eq_zero_or_one j with h | h
      · rw [show j + 1 = 2 * (j / 2) + 1 by omega, r.1]
        exact ⟨by omega, by omega, by omega, hn⟩
      · rw [show j + 1 = 2 * (j / 2) + 2 by omega, r.2]
        exact ⟨by omega, by omega, by omega, hn⟩
    have f1' : (rwOf (R U i, R U (j + 1))).1 = if Sc (R U i) then some (R U i / 2) else none := rfl
    have f2' : (rwOf (R U i, R U (j + 1))).2.2.1 = if Sc (R U (j + 1)) then some (R U (j + 1) / 2) else none := rfl
    have f3' : (rwOf (R U i, R U (j + 1))).2.1 = (decide (Sc (R U i)) && decide (R U i % 2 = 0)) := rfl
    have f4' : (rwOf (R U i, R U (j + 1))).2.2.2 = (decide (Sc (R U (j + 1))) && decide (R U (j + 1) % 2 = 1)) := rfl
    refine ⟨_, (pss_cons (ps_set (i := 4) sc_w_piece.nd rfl (Or.inl rfl) pe_non)
    (pss_cons (ps_set (i := 5) sc_w_piece.nd rfl (Or.inl rfl) pe_non)
    (Evl.pss_cut (ps_if (pt_cmpR op_gt (pv 1) pe_int (nomark _))
    (pss_one (ps_set (i := 4) sc_w_piece.nd rfl (Or.inl rfl) (pe_call G_w_lowest (hr.mono (by decide)) rfl T.g_w_lowest T.F_w_lowest.kp T.b_w_lowest .nil pass0 (pa_cons (pe_ix ix_list (pv 0) (pe_op op_fdiv (pe_op op_sub (pv 1) pe_int) pe_int) (fun _ _ => rfl)) (pa_cons (pe_op op_mul pe_int (pv 3)) pa_nil)))))
    pss_nil)
    (pss_cons (ps_if (pt_cmpR op_lt (pv 2) (pe_op op_mul pe_int (pe_callB call_len_seq (by rfl) T.m_len PySem.boot_len (pa_cons (pv 0) pa_nil))) (nomark _))
    (pss_one (ps_set (i := 5) sc_w_piece.nd rfl (Or.inl rfl) (pe_call G_w_lowest (hr.mono (by decide)) rfl T.g_w_lowest T.F_w_lowest.kp T.b_w_lowest .nil pass0 (pa_cons (pe_ix ix_list (pv 0) (pe_op op_fdiv (pv 2) pe_int) (fun _ _ => rfl)) (pa_cons (pe_op op_mul pe_int (pv 3)) pa_nil)))))
    pss_nil)
    (pss_one (ps_ret (pe_tup (pa_cons (pv 4) (pa_cons (pe_cmpR op_eq (pe_op op_mod (pe_callTy call_int1 (by rfl) T.m_int (by decide +kernel) (pa_cons (pv 1) pa_nil)) pe_int) pe_int (nomark _)) (pa_cons (pv 5) (pa_cons (pe_cmpR op_eq (pe_op op_mod (pe_callTy call_int1 (by rfl) T.m_int (by decide +kernel) (pa_cons (pv 2) pa_nil)) pe_int) pe_int (nomark _)) pa_nil))))))))))), ?_⟩
    walk_at "start"
    walk_at "sts"
    refine r_cut (fun σ' H' => ∃ v : V, σ' = [some (.ref p), some (.int i), some (.int j), some (.int f), some v, some .non] ∧ Keep [] H H' ∧ EndAt (2 * f) H' v (rwOf (R U i, R U (j + 1))).1 ∧ (rwOf (R U i, R U (j + 1))).2.1 = decide ((i : Int) % 2 = 1)) ?_ ?_
    · rw [f1', f3']
      rcases i with _ | n
      · walk_at "sts"
        have e0 : R U 0 = -BB := R_zero
        refine ⟨_, by first | exact rfl | trivial, Keep.refl _ _, ?_, ?_⟩
        · rw [e0, if_neg Pc.bb_not.2]; rfl
        · rw [e0, decide_eq_false Pc.bb_not.2]; rfl
      · obtain ⟨t, et, sc, e2, e3, hn⟩ := lo n rfl
        walk_at "sts"
        rw [show ((((n + 1 : Nat) : Int) - 1) / 2).toNat = n / 2 by omega, et]
        refine r_low0 (by omega) fz fun q H1 k1 nq eq => ?_
        walk_at "sts"
        refine ⟨_, by first | exact rfl | trivial, k1, ?_, ?_⟩
        · rw [if_pos sc, e2]; exact ⟨q, rfl, eq⟩
        · rw [decide_eq_true sc, Bool.true_and]
          exact decide_eq_decide.mpr ⟨fun h => by have := e3.mp h; omega, fun h => e3.mpr (by omega)⟩
    rintro σ' H1 ⟨v, rfl, k1, hv, ev⟩
    have ep1 := k1 _ _ (by simp) ep
    have fin : ∀ (H2 : Hp) (v2 : V), Keep [] H1 H2 → EndAt (2 * f) H2 v2 (rwOf (R U i, R U (j + 1))).2.2.1 → (rwOf (R U i, R U (j + 1))).2.2.2 = decide ((j : Int) % 2 = 1) → ∀ u, H2 u = none → Q (.ref u) (upd H2 u (.tup [v, .bl (decide ((i : Int) % 2 = 1)), v2, .bl (decide ((j : Int) % 2 = 1))])) := by
      intro H2 v2 k2 h2 e2 u nu
      have k3 : Keep [] H2 (upd H2 u (.tup [v, .bl (decide ((i : Int) % 2 = 1)), v2, .bl (decide ((j : Int) % 2 = 1))])) := Keep.new nu
      refine k u _ ((k1.trans k2).trans k3) ⟨v, v2, ?_, hv.k (k2.trans k3).t0, h2.k k3.t0⟩
      rw [ev, e2]; exact upd_same
    rw [f2', f4'] at fin
    by_cases c : j < 2 * U.length
    · obtain ⟨t, et, sc, e2, e3, hn⟩ := hi c
      walk_at "sts"
      rw [show ((j : Int) / 2).toNat = j / 2 by omega, et]
      refine r_low0 (by omega) fz fun q H2 k2 nq eq => ?_
      walk_at "sts"
      refine fin H2 _ k2 ?_ ?_
      · rw [if_pos sc, e2]; exact ⟨q, rfl, eq⟩
      · rw [decide_eq_true sc, Bool.true_and]
        exact decide_eq_decide.mpr ⟨fun h => by have := e3.mp h; omega, fun h => e3.mpr (by omega)⟩
    · have ej : j = 2 * U.length := by omega
      subst ej
      have e1 : R U (2 * U.length + 1) = BB := R_end
      walk_at "sts"
      refine fin H1 _ (Keep.refl _ _) ?_ ?_
      · rw [e1, if_neg Pc.bb_not.1]; rfl
      · rw [e1, decide_eq_false Pc.bb_not.1, Bool.false_and]
        exact (decide_eq_false (by omega)).symm
theorem ok_due (T : Tx K mg) (G_w_piece : FnOk P w K mg base CX0 2 T.f_w_piece T.fd_w_piece ["_law_ends_here", "_law_first", "_law_last", "_law_fine"] spPiece) : FnOk P w K mg base CX0 3 T.f_w_due_parts T.fd_w_due_parts ["_law_ends_here", "_law_marks_here", "_law_fine"] spDue := by
  refine T.F_w_due_parts.ok sc_w_due_parts (fun vs H Q E h => ?_) (fun cdv A outer s H vs Q E hr h => ?_)
  · obtain ⟨p, q, E, m, f, rfl, _⟩ := h; rfl
  · obtain ⟨p, q, U, m, f, rfl, ep, eq, hm, hU, l40, hf, k⟩ := h
    have lm : (m.map V.bl).length = m.length := List.length_map _
    refine ⟨_, (pss_cons (ps_set (i := 3) sc_w_due_parts.nd rfl (Or.inl rfl) (pe_lst pa_nil))
    (pss_cons (ps_set (i := 4) sc_w_due_parts.nd rfl (Or.inl rfl) pe_int)
    (pss_cons (ps_for PassesOwn.never rfl (pi_range1 rfl T.m_range (pa_cons (pe_callB call_len_seq (by rfl) T.m_len PySem.boot_len (pa_cons (pv 1) pa_nil)) pa_nil)) (pg_name (i := 5) sc_w_due_parts.nd rfl (Or.inl rfl))
    (Evl.pss_cut (ps_if (PW.pt (pw_and (pt_val (pe_ix ix_list (pv 1) (pv 5) (fun _ _ => rfl))) (pw_and1 (PW.pt (pw_or (pt_cmpR op_eq (pv 5) pe_int (nomark _)) (pw_or1 (pt_not (pt_val (pe_ix ix_list (pv 1) (pe_op op_sub (pv 5) pe_int) (fun _ _ => rfl))))))))))
    (pss_one (ps_set (i := 4) sc_w_due_parts.nd rfl (Or.inl rfl) (pv 5)))
    pss_nil)
    (pss_one (ps_if (PW.pt (pw_and (pt_val (pe_ix ix_list (pv 1) (pv 5) (fun _ _ => rfl))) (pw_and1 (PW.pt (pw_or (pt_cmpR op_eq (pe_op op_add (pv 5) pe_int) (pe_callB call_len_seq (by rfl) T.m_len PySem.boot_len (pa_cons (pv 1) pa_nil)) (nomark _)) (pw_or1 (pt_not (pt_val (pe_ix ix_list (pv 1) (pe_op op_add (pv 5) pe_int) (fun _ _ => rfl))))))))))
    (pss_one (ps_expr (pe_bm PySem.F.plainAttrs_list PySem.F.slot_list_append PySem.F.type_list_append mt_append (pv 3) (pa_cons (pe_call G_w_piece (hr.mono (by decide)) rfl T.g_w_piece T.F_w_piece.kp T.b_w_piece .nil pass0 (pa_cons (pv 0) (pa_cons (pv 4) (pa_cons (pv 5) (pa_cons (pv 2) pa_nil))))) pa_nil))))
    pss_nil))))
    (pss_one (ps_ret (pv 3)))))), ?_⟩
    walk_at "start"
    walk_at "sts"
    intro D nD
    have k0 : Keep [] H (upd H D (.lst [])) := Keep.new nD
    have e0 : upd H D (.lst []) D = some (.lst []) := upd_same
    generalize upd H D (.lst []) = H1 at k0 e0 ⊢
    have eq1 := k0 _ _ (by simp) eq
    walk_at "sts"
    rw [lm]
    refine forR1_go (fun i σ' H' => ∃ (first : Nat) (y5 : Option V) (as : List Addr) (F : List Iv), σ' = [some (.ref p), some (.ref q), some (.int f), some (.ref D), some (.int first), y5] ∧ Keep [] H H' ∧ H' D = some (.lst (as.map V.ref)) ∧ AllP (PcAt (2 * f) H') as F ∧ DueI U m i first F) ⟨by omega, by omega⟩ ⟨0, _, [], [], by first | exact rfl | trivial, k0, e0, trivial, DueI.zero hU⟩ ?_ ?_
    · rintro i σ' H' hi ⟨first, y5, as, F, rfl, k2, eD, has, I⟩
      have hi' : i < m.length := by omega
      have ep' := k2 _ _ (by simp) ep
      have eq' := k2 _ _ (by simp) eq
      obtain ⟨b, hb⟩ : ∃ b, m[i]? = some b := ⟨_, List.getElem?_eq_getElem hi'⟩
      have ab : atI (m.map V.bl) (i : Int) = some (.bl b) := atI_nat (by rw [List.getElem?_map, hb]; rfl)
      have las := has.len
      have lI := I.len
      have nDp : D ≠ p := ne_free ep nD
      have nDq : D ≠ q := ne_free eq nD
      walk_at "sts"
      refine r_cut (fun σ' H2 => ∃ f' : Nat, σ' = [some (.ref p), some (.ref q), some (.int f), some (.ref D), some (.int f'), some (.int i)] ∧ H' = H2 ∧ (b = false → f' = first) ∧ (b = true → (open_ m i → f' = first) ∧ (¬ open_ m i → f' = i))) ?_ ?_
      · cases b with
        | false =>
          walk_at "sts"
          exact ⟨first, by first | exact rfl | trivial, rfl, fun _ => rfl, fun h => (by cases h)⟩
        | true =>
          by_cases c0 : i = 0
          · subst c0
            walk_at "sts"
            try (refine r_iteT (by omega) ?_; walk_at "sts")
            exact ⟨0, by first | exact rfl | trivial, rfl, fun h => (by cases h), fun _ => ⟨fun o => absurd o.1 (by omega), fun _ => rfl⟩⟩
          · obtain ⟨b1, hb1⟩ : ∃ b, m[i - 1]? = some b := ⟨_, List.getElem?_eq_getElem (by omega)⟩
            have ab1 : atI (m.map V.bl) ((i : Int) - 1) = some (.bl b1) := by
              rw [show (i : Int) - 1 = ((i - 1 : Nat) : Int) by omega]
              exact atI_nat (by rw [List.getElem?_map, hb1]; rfl)
            walk_at "sts"
            try (refine r_iteF (by omega) ?_; walk_at "sts")
            cases b1 with
            | true =>
              walk_at "sts"
              exact ⟨first, by first | exact rfl | trivial, rfl, fun h => (by cases h), fun _ => ⟨fun _ => rfl, fun o => absurd ⟨by omega, hb1, hb⟩ o⟩⟩
            | false =>
              walk_at "sts"
              exact ⟨i, by first | exact rfl | trivial, rfl, fun h => (by cases h), fun _ => ⟨fun o => (by have := o.2.1; rw [hb1] at this; cases this), fun _ => rfl⟩⟩
      rintro σ' H2 ⟨f', rfl, rfl, hf0, hf1⟩
      have put : ∀ (f' : Nat) (H3 : Hp) (u : Addr), f' ≤ i → Run U m (i + 1) f' F → m[i + 1]? ≠ some true → Keep [] H' H3 → PcAt (2 * f) H3 u (R U f', R U (i + 1)) → ∃ (first : Nat) (y5 : Option V) (as' : List Addr) (F : List Iv), [some (.ref p), some (.ref q), some (.int f), some (.ref D), some (.int f'), some (.int i)] = [some (V.ref p), some (V.ref q), some (V.int f), some (V.ref D), some (V.int first), y5] ∧ Keep [] H (upd H3 D (.lst (as.map V.ref ++ [V.ref u]))) ∧ (upd H3 D (.lst (as.map V.ref ++ [V.ref u]))) D = some (.lst (as'.map V.ref)) ∧ AllP (PcAt (2 * f) (upd H3 D (.lst (as.map V.ref ++ [V.ref u])))) as' F ∧ DueI U m (i + 1) first F := by
        intro f' H3 u hf' Rn n k3 hu
        have eD3 := k3 _ _ (by simp) eD
        have t5 := (Keep.at (M := [D]) (p := D) (H := H3) (o := HO.lst (as.map V.ref ++ [V.ref u])) (by simp)).t1 (noT_l eD3)
        exact ⟨f', _, as ++ [u], _, rfl, (k2.trans k3).mut nD, by rw [List.map_append]; exact upd_same, (has.mono fun a x h => (PcAt.k h k3.t0).k t5).snoc (hu.k t5), I.put hU hm hi' n hf' Rn⟩
      cases b with
      | false =>
        rw [hf0 rfl]
        walk_at "sts"
        exact ⟨first, _, as, F, by first | exact rfl | trivial, k2, eD, has, I.no hU hm hi' hb⟩
      | true =>
        have hfi : f' ≤ i := by
          by_cases o : open_ m i
          · rw [(hf1 rfl).1 o]; exact (I.o o).le
          · rw [(hf1 rfl).2 o]; exact Nat.le_refl _
        have Rn : Run U m (i + 1) f' F := I.run hU hm hi' hb (hf1 rfl)
        by_cases c1 : i + 1 = m.length
        · walk_at "sts"
          try (refine r_iteT (by rw [lm]; omega) ?_; walk_at "sts")
          refine ⟨p, U, f', i, f, rfl, ep', hU, l40, hf, hfi, by omega, fun u H3 k3 hu => ?_⟩
          have eD3 := k3 _ _ (by simp) eD
          have n1 : m[i + 1]? ≠ some true := by rw [List.getElem?_eq_none (by omega)]; simp
          walk_at "sts"
          first
            | exact put f' H3 u hfi Rn n1 k3 hu
            | (refine r_app eD3 (by rw [List.length_map]; exact lt_size (by omega)) ?_
               walk_at "sts"
               exact put f' H3 u hfi Rn n1 k3 hu)
        · obtain ⟨b2, hb2⟩ : ∃ b, m[i + 1]? = some b := ⟨_, List.getElem?_eq_getElem (by omega)⟩
          have ab2 : atI (m.map V.bl) ((i : Int) + 1) = some (.bl b2) := by
            rw [show (i : Int) + 1 = ((i + 1 : Nat) : Int) by omega]
            exact atI_nat (by rw [List.getElem?_map, hb2]; rfl)
          walk_at "sts"
          try (refine r_iteF (by rw [lm]; omega) ?_; walk_at "sts")
          cases b2 with
          | true =>
            walk_at "sts"
            exact ⟨f', _, as, F, by first | exact rfl | trivial, k2, eD, has, I.go hb hb2 Rn⟩
          | false =>
            walk_at "sts"
            refine ⟨p, U, f', i, f, rfl, ep', hU, l40, hf, hfi, by omega, fun u H3 k3 hu => ?_⟩
            have eD3 := k3 _ _ (by simp) eD
            have n1 : m[i + 1]? ≠ some true := by rw [hb2]; simp
            walk_at "sts"
            first
              | exact put f' H3 u hfi Rn n1 k3 hu
              | (refine r_app eD3 (by rw [List.length_map]; exact lt_size (by omega)) ?_
                 walk_at "sts"
                 exact put f' H3 u hfi Rn n1 k3 hu)
    · rintro σ' H' ⟨first, y5, as, F, rfl, k2, eD, has, I⟩
      rw [Int.toNat_natCast] at I
      obtain ⟨can, is_⟩ := I.fin hU hm
      walk_at "sts"
      refine k D as F H' k2 eD has can is_ (fun x mx => ?_) (by have := I.len; omega)
      obtain ⟨i, j, hij, hj, rfl⟩ := I.cut x mx
      exact R_sm hU hij hj
end
open PySem PySem.Spec PyProof.Rows L2 StX Pc
/-! ### parts compared, written -/
theorem sok_str (s : String) : PyData.strOk (Str.ofString s) = true := by
  rw [Str.ofString_eq_toList]
  unfold PyData.strOk
  rw [← Array.all_toList, List.all_eq_true]
  intro c hc
  obtain ⟨ch, _, rfl⟩ := List.mem_map.mp (show c ∈ s.toList.map Char.toNat from hc)
  have h : ch.val.toNat < 0xd800 ∨ (0xdfff < ch.val.toNat ∧ ch.val.toNat < 0x110000) := ch.valid
  refine decide_eq_true ?_
  show ch.val.toNat < 0x110000
  omega
theorem sok_app {a b : Str} (h1 : PyData.strOk a = true) (h2 : PyData.strOk b = true) : PyData.strOk (a ++ b) = true := by
  unfold PyData.strOk at *
  show (a.cps ++ b.cps).all _ = true
  rw [Array.all_append, h1, h2]; rfl
theorem sok_rat {a b : Int} : PyData.strOk (ratT a b) = true := by
  unfold ratT
  split
  · exact sok_str _
  · exact sok_app (sok_app (sok_str _) (sok_str _)) (sok_str _)
theorem sok_end {g : Int} {o : Option Int} : PyData.strOk (endT g o) = true := by
  cases o with
  | none => exact sok_str _
  | some t => exact sok_rat
theorem sok_rw {g : Int} {r : Rw} : PyData.strOk (rwT g r) = true := by
  unfold rwT
  refine sok_app (sok_app (sok_app (sok_app ?_ sok_end) (sok_str _)) sok_end) ?_
  · split <;> exact sok_str _
  · split <;> exact sok_str _
theorem fl_str {ts : List Str} (h : ∀ t ∈ ts, PyData.strOk t = true) : (ts.map V.str).all flatV = true := by
  rw [List.all_eq_true]
  intro x hx
  obtain ⟨u, hu, rfl⟩ := List.mem_map.mp hx
  exact h u hu
def spEndIs : Sp := fun vs H Q _ => ∃ (v d : V) (o : Option Int) (g : Int), vs = [v, d] ∧ EndAt g H v o ∧ EndAt g H d o ∧ Q (.bl true) H
def spParts (C : Addr) : Sp := fun vs H Q _ => ∃ (x q : Addr) (bs : List Addr) (L : List Iv) (g : Int), vs = [.ref x, .ref q] ∧ PiecesAt C g H x L ∧ H q = some (.lst (bs.map V.ref)) ∧ AllP (PcAt g H) bs L ∧ L.length ≤ 90 ∧ Q (.bl true) H
def spRT : Sp := fun vs H Q _ => ∃ (v : V) (o : Option Int) (g : Int), vs = [v] ∧ GOk g ∧ EndAt g H v o ∧ SmO o ∧ Q (.str (endT g o)) H
def spTxt : Sp := fun vs H Q _ => ∃ (q : Addr) (bs : List Addr) (L : List Iv) (g : Int), vs = [.ref q] ∧ GOk g ∧ H q = some (.lst (bs.map V.ref)) ∧ AllP (PcAt g H) bs L ∧ (∀ p ∈ L, SmI p) ∧ L.length ≤ 90 ∧ ∀ H', Keep [] H H' → Q (.str (pcsT g L)) H'
section
variable {P : Program} {w : World} {K : PySem.W.Frag} {mg : Str → Option Value} {base : Heap}
theorem ok_endIs (T : Tx K mg) (G_w_pair_is : FnOk P w K mg base CX0 2 T.f_w_pair_is T.fd_w_pair_is ["_law_found", "_law_pair"] spPairIs) : FnOk P w K mg base CX0 3 T.f_w_end_is T.fd_w_end_is ["_law_found", "_law_due"] spEndIs := by
  refine T.F_w_end_is.ok sc_w_end_is (fun vs H Q E h => ?_) (fun cdv A outer s H vs Q E hr h => ?_)
  · obtain ⟨v, d, o, g, rfl, _⟩ := h; rfl
  · obtain ⟨v, d, o, g, rfl, hv, hd, k⟩ := h
    refine ⟨_, (pss_cons (ps_if (pt_cmpR op_isNc (pv 1) pe_non (nomark _))
    (pss_one (ps_ret (pe_cmpR op_isNc (pv 0) pe_non (nomark _))))
    pss_nil)
    (pss_one (ps_ret (pe_call G_w_pair_is (hr.mono (by decide)) rfl T.g_w_pair_is T.F_w_pair_is.kp T.b_w_pair_is .nil pass0 (pa_cons (pv 0) (pa_cons (pv 1) pa_nil)))))), ?_⟩
    walk_at "start"
    cases o with
    | none =>
      obtain rfl : v = .non := hv
      obtain rfl : d = .non := hd
      walk_at "sts"
      exact k
    | some t =>
      obtain ⟨p, rfl, hp⟩ := hv
      obtain ⟨q, rfl, hq⟩ := hd
      walk_at "sts"
      exact r_pairIs hp hq k
theorem ok_parts (T : Tx K mg) (G_w_end_is : FnOk P w K mg base CX0 3 T.f_w_end_is T.fd_w_end_is ["_law_found", "_law_due"] spEndIs) : FnOk P w K mg base CX0 4 T.f_w_parts_are T.fd_w_parts_are ["_law_found", "_law_due"] (spParts T.C_Pieces) := by
  refine T.F_w_parts_are.ok sc_w_parts_are (fun vs H Q E h => ?_) (fun cdv A outer s H vs Q E hr h => ?_)
  · obtain ⟨x, q, bs, L, g, rfl, _⟩ := h; rfl
  · obtain ⟨x, q, bs, L, g, rfl, ⟨dx, p, as, ex, ep, ha⟩, eq, hb, l90, k⟩ := h
    have oc := T.oc_Pieces
    have na := T.na_Pieces_parts
    have la := ha.len
    have lb := hb.len
    have lma : (as.map V.ref).length = L.length := by rw [List.length_map]; exact la
    have lmb : (bs.map V.ref).length = L.length := by rw [List.length_map]; exact lb
    refine ⟨_, (pss_cons (ps_if (PW.pt (pw_or (pt_not (pt_val (pe_callB call_isi (by rfl) T.m_isinstance (by decide +kernel) (pa_cons (pv 0) (pa_cons (pe_glob (v := .ref T.C_Pieces) rfl T.gC_Pieces rfl) pa_nil))))) (pw_or (pt_not (pt_val (pe_callB call_isi (by rfl) T.m_isinstance (by decide +kernel) (pa_cons (pe_fld (pv 0) rfl) (pa_cons (pe_bltn (v := .ty "tuple") (by rfl) T.m_tuple (by decide +kernel) rfl) pa_nil))))) (pw_or1 (pt_cmpR op_ne (pe_callB call_len_seq (by rfl) T.m_len PySem.boot_len (pa_cons (pe_fld (pv 0) rfl) pa_nil)) (pe_callB call_len_seq (by rfl) T.m_len PySem.boot_len (pa_cons (pv 1) pa_nil)) (nomark _))))))
    (pss_one (ps_ret pe_bl))
    pss_nil)
    (pss_cons (ps_for PassesOwn.never rfl (pi_range1 rfl T.m_range (pa_cons (pe_callB call_len_seq (by rfl) T.m_len PySem.boot_len (pa_cons (pv 1) pa_nil)) pa_nil)) (pg_name (i := 2) sc_w_parts_are.nd rfl (Or.inl rfl))
    (pss_cons (ps_set (i := 3) sc_w_parts_are.nd rfl (Or.inl rfl) (pe_ix ix_tup (pe_fld (pv 0) rfl) (pv 2) (fun _ _ => rfl)))
    (pss_cons (ps_if (PW.pt (pw_or (pt_not (pt_val (pe_callB call_isi (by rfl) T.m_isinstance (by decide +kernel) (pa_cons (pv 3) (pa_cons (pe_bltn (v := .ty "tuple") (by rfl) T.m_tuple (by decide +kernel) rfl) pa_nil))))) (pw_or1 (pt_cmpR op_ne (pe_callB call_len_seq (by rfl) T.m_len PySem.boot_len (pa_cons (pv 3) pa_nil)) pe_int (nomark _)))))
    (pss_one (ps_ret pe_bl))
    pss_nil)
    (pss_cons (ps_if (PW.pt (pw_or (pt_not (pt_val (pe_callB call_isi (by rfl) T.m_isinstance (by decide +kernel) (pa_cons (pe_ix ix_tup (pv 3) pe_int (fun _ _ => rfl)) (pa_cons (pe_bltn (v := .ty "bool") (by rfl) T.m_bool (by decide +kernel) rfl) pa_nil))))) (pw_or1 (pt_not (pt_val (pe_callB call_isi (by rfl) T.m_isinstance (by decide +kernel) (pa_cons (pe_ix ix_tup (pv 3) pe_int (fun _ _ => rfl)) (pa_cons (pe_bltn (v := .ty "bool") (by rfl) T.m_bool (by decide +kernel) rfl) pa_nil))))))))
    (pss_one (ps_ret pe_bl))
    pss_nil)
    (pss_cons (ps_if (PW.pt (pw_or (pt_not (pt_val (pe_call G_w_end_is (hr.mono (by decide)) rfl T.g_w_end_is T.F_w_end_is.kp T.b_w_end_is .nil pass0 (pa_cons (pe_ix ix_tup (pv 3) pe_int (fun _ _ => rfl)) (pa_cons (pe_ix ix_tup (pe_ix ix_list (pv 1) (pv 2) (fun _ _ => rfl)) pe_int (fun _ _ => rfl)) pa_nil))))) (pw_or1 (pt_not (pt_val (pe_call G_w_end_is (hr.mono (by decide)) rfl T.g_w_end_is T.F_w_end_is.kp T.b_w_end_is .nil pass0 (pa_cons (pe_ix ix_tup (pv 3) pe_int (fun _ _ => rfl)) (pa_cons (pe_ix ix_tup (pe_ix ix_list (pv 1) (pv 2) (fun _ _ => rfl)) pe_int (fun _ _ => rfl)) pa_nil))))))))
    (pss_one (ps_ret pe_bl))
    pss_nil)
    (pss_one (ps_if (PW.pt (pw_or (pt_cmpR op_ne (pe_ix ix_tup (pv 3) pe_int (fun _ _ => rfl)) (pe_ix ix_tup (pe_ix ix_list (pv 1) (pv 2) (fun _ _ => rfl)) pe_int (fun _ _ => rfl)) (nomark _)) (pw_or1 (pt_cmpR op_ne (pe_ix ix_tup (pv 3) pe_int (fun _ _ => rfl)) (pe_ix ix_tup (pe_ix ix_list (pv 1) (pv 2) (fun _ _ => rfl)) pe_int (fun _ _ => rfl)) (nomark _)))))
    (pss_one (ps_ret pe_bl))
    pss_nil)))))))
    (pss_one (ps_ret pe_bl)))), ?_⟩
    walk_at "start"
    walk_at "sts"
    refine Ow.r_isiOwn oc ex ?_
    walk_at "sts"
    try (refine r_iteNF (by rw [lma, lmb]) ?_; walk_at "sts")
    rw [lmb]
    refine forR1_go (fun i σ' H' => ∃ y2 y3 : Option V, σ' = [some (.ref x), some (.ref q), y2, y3] ∧ H' = H) ⟨by omega, by omega⟩ ⟨_, _, by first | exact rfl | trivial, rfl⟩ ?_ ?_
    · rintro i σ' H' hi ⟨y2, y3, rfl, rfl⟩
      have hi' : i < L.length := by omega
      obtain ⟨z, hz⟩ : ∃ z, L[i]? = some z := ⟨_, List.getElem?_eq_getElem hi'⟩
      obtain ⟨a, hai, hza⟩ := ha.getX hz
      obtain ⟨b, hbi, hzb⟩ := hb.getX hz
      obtain ⟨xl, xh, ea, h1, h2⟩ := hza
      obtain ⟨yl, yh, eb, h3, h4⟩ := hzb
      have aa : atI (as.map V.ref) (i : Int) = some (.ref a) := atI_nat (by rw [List.getElem?_map, hai]; rfl)
      have ab : atI (bs.map V.ref) (i : Int) = some (.ref b) := atI_nat (by rw [List.getElem?_map, hbi]; rfl)
      walk_at "sts"
      refine ⟨xl, yl, _, g, rfl, h1, h3, ?_⟩
      walk_at "sts"
      try (rw [if_neg (by decide)])
      walk_at "sts"
      refine ⟨xh, yh, _, g, rfl, h2, h4, ?_⟩
      walk_at "sts"
      first
        | exact ⟨_, _, by first | exact rfl | trivial, rfl⟩
        | (refine r_iteNF rfl ?_
           walk_at "sts"
           exact ⟨_, _, by first | exact rfl | trivial, rfl⟩)
    · rintro σ' H' ⟨y2, y3, rfl, rfl⟩
      walk_at "sts"
      exact k
theorem ok_rt (T : Tx K mg) : FnOk P w K mg base CX0 1 T.f_w_ratio_text T.fd_w_ratio_text ["_law_pair"] spRT := by
  refine T.F_w_ratio_text.ok sc_w_ratio_text (fun vs H Q E h => ?_) (fun cdv A outer s H vs Q E hr h => ?_)
  · obtain ⟨v, o, g, rfl, _⟩ := h; rfl
  · obtain ⟨v, o, g, rfl, hg, hv, sm, k⟩ := h
    refine ⟨_, (pss_cons (ps_if (pt_cmpR op_isNc (pv 0) pe_non (nomark _))
    (pss_one (ps_ret pe_str))
    pss_nil)
    (pss_cons (ps_if (pt_cmpR op_eq (pe_ix ix_tup (pv 0) pe_int (fun _ _ => rfl)) pe_int (nomark _))
    (pss_one (ps_ret (pe_callTy call_str_int (by rfl) T.m_str (by decide +kernel) (pa_cons (pe_ix ix_tup (pv 0) pe_int (fun _ _ => rfl)) pa_nil))))
    pss_nil)
    (pss_one (ps_ret (pe_op op_addS (pe_op op_addS (pe_callTy call_str_int (by rfl) T.m_str (by decide +kernel) (pa_cons (pe_ix ix_tup (pv 0) pe_int (fun _ _ => rfl)) pa_nil)) pe_str) (pe_callTy call_str_int (by rfl) T.m_str (by decide +kernel) (pa_cons (pe_ix ix_tup (pv 0) pe_int (fun _ _ => rfl)) pa_nil))))))), ?_⟩
    walk_at "start"
    cases o with
    | none =>
      obtain rfl : v = .non := hv
      walk_at "sts"
      exact k
    | some t =>
      obtain ⟨p, rfl, hp⟩ := hv
      have z := sm_lo (sm t rfl) hg
      have l1 := num_len z.1
      have l2 := num_len z.2.1
      have l0 := one_len.1
      have hp' : H p = some (.tup [.int (lowT t g), .int (lowB t g)]) := hp
      have k' : Q (.str (ratT (lowT t g) (lowB t g))) H := k
      unfold ratT at k'
      walk_at "sts"
      refine r_ite (fun c => ?_) (fun c => ?_)
      · rw [if_pos c] at k'
        walk_at "sts"
        first | exact ⟨_, rfl, num_log z.1, k'⟩ | exact ⟨num_log z.1, k'⟩ | exact r_strI (num_log z.1) k'
      · rw [if_neg c] at k'
        walk_at "sts"
        refine ⟨num_log z.1, ?_⟩
        walk_at "sts"
        refine r_addS (le_size (by unfold numT at l1; omega)) ?_
        walk_at "sts"
        refine ⟨num_log z.2.1, ?_⟩
        refine r_addS (le_size (by rw [Str.length_append]; unfold numT at l1 l2; omega)) ?_
        exact k'
theorem ok_txt (T : Tx K mg) (G_w_ratio_text : FnOk P w K mg base CX0 1 T.f_w_ratio_text T.fd_w_ratio_text ["_law_pair"] spRT) : FnOk P w K mg base CX0 2 T.f_w_text T.fd_w_text ["_law_due"] spTxt := by
  refine T.F_w_text.ok sc_w_text (fun vs H Q E h => ?_) (fun cdv A outer s H vs Q E hr h => ?_)
  · obtain ⟨q, bs, L, g, rfl, _⟩ := h; rfl
  · obtain ⟨q, bs, L, g, rfl, hg, eq, hb, hL, l90, k⟩ := h
    have lb := hb.len
    have lmb : (bs.map V.ref).length = L.length := by rw [List.length_map]; exact lb
    obtain ⟨_, o1, o2, o3, o4, o5, o6, o7, o8⟩ := one_len
    refine ⟨_, (pss_cons (ps_set (i := 1) sc_w_text.nd rfl (Or.inl rfl) (pe_lst pa_nil))
    (pss_cons (ps_for PassesOwn.never rfl (pi_list (pv 0)) (pg_name (i := 2) sc_w_text.nd rfl (Or.inl rfl))
    (pss_cons (ps_set (i := 3) sc_w_text.nd rfl (Or.inl rfl) (pe_ifExp (pt_val (pe_ix ix_tup (pv 2) pe_int (fun _ _ => rfl))) pe_str pe_str))
    (pss_cons (ps_set (i := 3) sc_w_text.nd rfl (Or.inl rfl) (pe_op op_addS (pe_op op_addS (pe_op op_addS (pv 3) (pe_call G_w_ratio_text (hr.mono (by decide)) rfl T.g_w_ratio_text T.F_w_ratio_text.kp T.b_w_ratio_text .nil pass0 (pa_cons (pe_ix ix_tup (pv 2) pe_int (fun _ _ => rfl)) pa_nil))) pe_str) (pe_call G_w_ratio_text (hr.mono (by decide)) rfl T.g_w_ratio_text T.F_w_ratio_text.kp T.b_w_ratio_text .nil pass0 (pa_cons (pe_ix ix_tup (pv 2) pe_int (fun _ _ => rfl)) pa_nil))))
    (pss_one (ps_expr (pe_bm PySem.F.plainAttrs_list PySem.F.slot_list_append PySem.F.type_list_append mt_append (pv 1) (pa_cons (pe_op op_addS (pv 3) (pe_ifExp (pt_val (pe_ix ix_tup (pv 2) pe_int (fun _ _ => rfl))) pe_str pe_str)) pa_nil)))))))
    (pss_cons (ps_if (pt_cmpR (op_eqD hr.units) (pv 1) (pe_lst pa_nil) (nomark _))
    (pss_one (ps_ret pe_str))
    pss_nil)
    (pss_one (ps_ret (pe_bm PySem.F.plainAttrs_str PySem.F.slot_str_join PySem.F.type_str_join mt_join pe_str (pa_cons (pv 1) pa_nil))))))), ?_⟩
    walk_at "start"
    walk_at "sts"
    intro D nD
    have k0 : Keep [] H (upd H D (.lst [])) := Keep.new nD
    have e0 : upd H D (.lst []) D = some (.lst []) := upd_same
    generalize upd H D (.lst []) = H1 at k0 e0 ⊢
    have eq1 := k0 _ _ (by simp) eq
    walk_at "sts"
    refine forL_go (fun i σ' H' => ∃ y2 y3 : Option V, σ' = [some (.ref q), some (.ref D), y2, y3] ∧ Keep [] H H' ∧ H' D = some (.lst (((L.take i).map fun p => rwT g (rwOf p)).map V.str))) (sqL_of eq1) ⟨_, _, by first | exact rfl | trivial, k0, e0⟩ (fun i σ' H' _ h => by obtain ⟨_, _, _, k, _⟩ := h; exact sqL_of (k _ _ (by simp) eq)) ?_ ?_
    · rintro i v σ' H' hv ⟨y2, y3, rfl, k2, eD⟩
      obtain ⟨b, hbi, rfl⟩ := getRf hv
      obtain ⟨z, hz, hzb⟩ := hb.get hbi
      have hi := (List.getElem?_eq_some_iff.mp hz).1
      have sz := sm_rw (hL z (List.mem_of_getElem? hz))
      obtain ⟨xl, xh, eb, h1, h2⟩ := RwAt.k (show RwAt g H b (rwOf z) from hzb) k2.t0
      have sz1 : SmO (rwOf z).1 := sz.1
      have sz2 : SmO (rwOf z).2.2.1 := sz.2
      have l1 := end_len hg sz1
      have l2 := end_len hg sz2
      have zl : (((L.take i).map fun p => rwT g (rwOf p)).map V.str).length < 100000 := by simp only [List.length_map, List.length_take]; omega
      have fin : ∀ (b1 b2 : Str), b1 = (if (rwOf z).2.1 = true then Str.ofString "[" else Str.ofString "(") → b2 = (if (rwOf z).2.2.2 = true then Str.ofString "]" else Str.ofString ")") → (upd H' D (.lst (((L.take i).map fun p => rwT g (rwOf p)).map V.str ++ [.str (b1 ++ endT g (rwOf z).1 ++ Str.ofString ", " ++ endT g (rwOf z).2.2.1 ++ b2)]))) D = some (.lst (((L.take (i + 1)).map fun p => rwT g (rwOf p)).map V.str)) := by
        rintro b1 b2 rfl rfl
        rw [upd_same, take_s hz, List.map_append, List.map_append]; rfl
      generalize (rwOf z).1 = o at *
      generalize (rwOf z).2.2.1 = o' at *
      generalize (rwOf z).2.1 = c1 at *
      generalize (rwOf z).2.2.2 = c2 at *
      cases c1 <;> cases c2
      all_goals
        walk_at "sts"
        refine ⟨xl, o, g, rfl, hg, h1, sz1, ?_⟩
        refine r_addS (le_size (by omega)) ?_
        walk_at "sts"
        refine r_addS (le_size (by simp only [Str.length_append]; omega)) ?_
        walk_at "sts"
        refine ⟨xh, o', g, rfl, hg, h2, sz2, ?_⟩
        refine r_addS (le_size (by simp only [Str.length_append]; omega)) ?_
        walk_at "sts"
        refine r_addS (le_size (by simp only [Str.length_append]; omega)) ?_
        walk_at "sts"
        try (refine r_app eD (lt_size zl) ?_; walk_at "sts")
        exact ⟨_, _, by first | exact rfl | trivial, k2.mut nD, fin _ _ rfl rfl⟩
    · rintro σ' H' ⟨y2, y3, rfl, k2, eD⟩
      rw [lmb, List.take_length] at eD
      walk_at "sts"
      intro u nu
      have k3 : Keep [] H' (upd H' u (.lst [])) := Keep.new nu
      have e3 : upd H' u (.lst []) u = some (.lst []) := upd_same
      generalize upd H' u (.lst []) = H3 at k3 e3 ⊢
      have eD3 := k3 _ _ (by simp) eD
      refine r_eqNil (sqL_of eD3) (sqL_of e3) (fl_str fun t m => by obtain ⟨p, _, rfl⟩ := List.mem_map.mp m; exact sok_rw) ?_
      have k03 := k2.trans k3
      unfold pcsT at k
      rcases L with _ | ⟨p0, L⟩
      · rw [show ((([] : List Iv).map fun p => rwT g (rwOf p)).map V.str).isEmpty = true from rfl]
        walk_at "sts"
        exact k H3 k03
      · generalize hM : p0 :: L = M at *
        have nM : M.length ≠ 0 := by rw [← hM]; simp
        have nE : ((M.map fun p => rwT g (rwOf p)).map V.str).isEmpty = false := by rw [← hM]; rfl
        rw [nE]
        rw [if_neg nM] at k
        walk_at "sts"
        refine ⟨rfl, ?_⟩
        walk_at "sts"
        refine ⟨_, D, _, rfl, rfl, .inl (sqL_of eD3), ?_, ?_⟩
        · have : ∀ (M : List Iv), (∀ q ∈ M, SmI q) → ((M.map fun p => rwT g (rwOf p)).map (·.length)).sum ≤ 2000 * M.length := by
            intro M
            induction M with
            | nil => intro _; simp
            | cons x M ih =>
              intro h
              have a := rw_len hg (sm_rw (h x (List.mem_cons_self ..)))
              have b := ih fun q m => h q (List.mem_cons_of_mem _ m)
              simp only [List.map_cons, List.sum_cons, List.length_cons]
              omega
          have h1 := this M hL
          rw [List.length_map, o8]
          omega
        · exact k H3 k03
end
open PySem PySem.Spec PyProof.Rows L2 StX Pc
/-! ### a set is right -/
structure RO (rs : List Rw) (L : List Iv) : Prop where
  can : Can L
  is : ∀ z, mem L z ↔ mem (setOf rs) z
  sm : ∀ q ∈ L, SmI q
  ev : ∀ q ∈ L, Ev q.1 ∧ Ev q.2
  len : L.length ≤ 24
def spSomeR (C : Addr) : Sp := fun vs H Q _ => ∃ (x p q : Addr) (rs : List Rw) (bs : List Addr) (L : List Iv) (f : Int), vs = [.ref x, .ref p, .ref q, .int f] ∧ FOk f ∧ PiecesAt C (2 * f) H x L ∧ RawsAt H p rs ∧ (∀ r ∈ rs, BdRW r) ∧ H q = some (.lst (bs.map V.ref)) ∧ AllP (PcAt (2 * f) H) bs L ∧ Lk L 24 ∧ (∀ q ∈ L, Ev q.1 ∧ Ev q.2) ∧ (∀ z, mem L z ↔ mem (setOf rs) z) ∧ ∀ H', Keep [] H H' → Q (.bl true) H'
def spRight (C : Addr) : Sp := fun vs H Q _ => ∃ (x p : Addr) (rs : List Rw) (L : List Iv) (f : Int), vs = [.ref x, .ref p, .int f] ∧ FOk f ∧ PiecesAt C (2 * f) H x L ∧ RawsAt H p rs ∧ (∀ r ∈ rs, BdRW r ∧ Good (dbl r)) ∧ rs.length ≤ 20 ∧ RO rs L ∧ ∀ H', Keep [] H H' → Q (.bl true) H'
theorem set_sm {rs : List Rw} (h : ∀ r ∈ rs, BdRW r) : ∀ p ∈ setOf rs, SmI p := fun p m => by
  obtain ⟨r, mr, rfl⟩ := List.mem_map.mp m
  exact sm_iv (bdw_sm (h r mr))
theorem ev_dbl {r : Rw} : Ev (iv (dbl r)).1 ∧ Ev (iv (dbl r)).2 := by
  have bb := BB_big
  obtain ⟨a, b, c, d⟩ := r
  constructor
  · show Sc (loC (dbl (a, b, c, d))) → _
    intro s
    cases a with
    | none => exact absurd s Pc.bb_not.2
    | some t =>
      show (2 * (2 * t) + (if b = true then 0 else 1)) / 2 % 2 = 0
      split <;> omega
  · show Sc (hiC (dbl (a, b, c, d))) → _
    intro s
    cases c with
    | none => exact absurd s Pc.bb_not.1
    | some t =>
      show (2 * (2 * t) + (if d = true then 1 else 0)) / 2 % 2 = 0
      split <;> omega
theorem ev_set {rs : List Rw} : ∀ p ∈ setOf rs, Ev p.1 ∧ Ev p.2 := fun p m => by
  obtain ⟨r, mr, rfl⟩ := List.mem_map.mp m
  exact ev_dbl
theorem CovN.ro {rs : List Rw} {L : List Iv} (C : CovN (setOf rs) 1 L) (h : ∀ r ∈ rs, BdRW r) (l : rs.length ≤ 20) : RO rs L := by
  have lL := C.len
  have ls : (setOf rs).length = rs.length := List.length_map _
  exact ⟨C.can, fun z => Pc.CovN.one C z, Pc.CovN.sm C (by decide) (set_sm h), Pc.CovN.all C ev_set, by omega⟩
theorem setOf_map {rs : List Rw} : setOf rs = (rs.map dbl).map iv := by unfold setOf; rw [List.map_map]; rfl
theorem low_low {t g : Int} (h : 0 < g) : lowT (lowT t g) (lowB t g) = lowT t g ∧ lowB (lowT t g) (lowB t g) = lowB t g := by
  have := low_eq (t := lowT t g) (b := lowB t g) (t' := t) (b' := g) (lowB_pos h) h low_cross
  exact this
/-- marks of a set that the ends fit tell its pieces -/
theorem due_eq {E : List Int} (hU : Ends E) {m : List Bool} {T : Int → Prop} {F L : List Iv} (M : Marks E T m) (hT : ∀ k z w, At E k z → At E k w → (T z ↔ T w)) (cF : Can F) (iF : ∀ z, mem F z ↔ Told E m z) (cL : Can L) (sL : ∀ q ∈ L, SmI q) (iL : ∀ z, -BB ≤ z → z < BB → (mem L z ↔ T z)) : F = L := by
  refine can_eq cF cL fun z => ?_
  rw [iF z]
  constructor
  · intro t
    obtain ⟨k, _, a⟩ := id t
    have rg := at_range hU a
    exact (iL z rg.1 rg.2).mpr ((told_iff hU M.len M.is hT rg.1 rg.2).mp t)
  · intro h
    have rg := sm_range sL h
    exact (told_iff hU M.len M.is hT rg.1 rg.2).mpr ((iL z rg.1 rg.2).mp h)
theorem r_methSD {C : Addr} {m : Str} {sp : Sp} {dvs : List V} {E : L2.St → XK} {ta : TE} {t : TA} {σ : L2.St} {H : Hp} {Q : VK} (k : ta σ H fun x H1 => ∃ a dx fs, x = .ref a ∧ H1 a = some (.ins C dx fs) ∧ fs.lookup m = none ∧ t σ H1 fun vs H2 => sp (x :: vs ++ dvs) H2 Q (E σ)) : Dt.tMethSD C m sp dvs E ta t σ H Q := k
section
variable {w : World} {K : PySem.W.Frag} {mg : Str → Option Value} {base : Heap}
theorem ok_someR (T : Tx K mg) (G_Pieces_someX : FnOk PG w K mg base (L2.CX PG w) 4 T.f_Pieces_some T.fd_Pieces_some ["self"] (spSome T.C_Pieces T.C_NoValue)) (G_w_whole : FnOk PG w K mg base CX0 1 T.f_w_whole T.fd_w_whole ["_law_found"] spWhole) (G_w_lowest : FnOk PG w K mg base CX0 1 T.f_w_lowest T.fd_w_lowest ["_law_top", "_law_bottom"] spLow0) (G_w_in : FnOk PG w K mg base CX0 2 T.f_w_in T.fd_w_in ["_law_stretches_here", "_law_top", "_law_bottom", "_law_fine"] spIn) : FnOk PG w K mg base CX0 5 T.f_w_some_right T.fd_w_some_right ["_law_found", "_law_stretches_here", "_law_due", "_law_fine"] (spSomeR T.C_Pieces) := by
  refine T.F_w_some_right.ok sc_w_some_right (fun vs H Q E h => ?_) (fun cdv A outer s H vs Q E hr h => ?_)
  · obtain ⟨x, p, q, rs, bs, L, f, rfl, _⟩ := h; rfl
  · obtain ⟨x, p, q, rs, bs, L, f, rfl, hf, hx, hp, hb, eq, hbs, kL, ev, iL, k⟩ := h
    have oc := T.oc_Pieces
    have g0 := hf.g.pos
    refine ⟨_, PSs.nox (pss_cons (ps_try_as (i := 5) (Wout := fun _ _ _ _ => False) rfl rfl sc_w_some_right.nd rfl rfl ⟨rfl, by decide, Or.inl T.gC_NoValue⟩ takes0 (fun W pn xe tk _ => (pss_one (ps_set (i := 4) sc_w_some_right.nd rfl (Or.inl rfl) (Bl.pe_meth0SD (pv 0) T.oc_Pieces.cl T.me_Pieces_some G_Pieces_someX (hr.mono (by decide)) T.b_Pieces_some .nil (fun σ => passAt tk σ))))) (fun a oe cls d pn hz hf => (pss_one (ps_ret (pe_and (pe_cmpR (Er.op_eqDK (K := K) rfl hr.units) (pv 2) (pe_lst pa_nil) (nomark _)) (pe_and (pe_callB (Er.call_is0 hz hf) (by rfl) T.m_isinstance (by decide +kernel) (pa_cons (pv 5) (pa_cons (pe_glob (v := .ref T.C_MeteError) rfl T.gC_MeteError rfl) pa_nil))) (pe_one (pe_callB (Er.call_is0 hz hf) (by rfl) T.m_isinstance (by decide +kernel) (pa_cons (pv 5) (pa_cons (pe_bltn (v := .ty "ValueError") (by rfl) T.m_ValueError boot_ValueError rfl) pa_nil))))))))))
    (pss_cons (ps_if (PW.pt (pw_or (pt_cmpR (op_eqD hr.units) (pv 2) (pe_lst pa_nil) (nomark _)) (pw_or (pt_not (pt_val (pe_callB call_isi (by rfl) T.m_isinstance (by decide +kernel) (pa_cons (pv 4) (pa_cons (pe_bltn (v := .ty "tuple") (by rfl) T.m_tuple (by decide +kernel) rfl) pa_nil))))) (pw_or1 (pt_cmpR op_ne (pe_callB call_len_seq (by rfl) T.m_len PySem.boot_len (pa_cons (pv 4) pa_nil)) pe_int (nomark _))))))
    (pss_one (ps_ret pe_bl))
    pss_nil)
    (pss_cons (ps_if (PW.pt (pw_or (pt_not (pt_val (pe_call G_w_whole (hr.mono (by decide)) rfl T.g_w_whole T.F_w_whole.kp T.b_w_whole .nil pass0 (pa_cons (pe_ix ix_tup (pv 4) pe_int (fun _ _ => rfl)) pa_nil)))) (pw_or (pt_not (pt_val (pe_call G_w_whole (hr.mono (by decide)) rfl T.g_w_whole T.F_w_whole.kp T.b_w_whole .nil pass0 (pa_cons (pe_ix ix_tup (pv 4) pe_int (fun _ _ => rfl)) pa_nil)))) (pw_or1 (pt_cmpR op_lt (pe_ix ix_tup (pv 4) pe_int (fun _ _ => rfl)) pe_int (nomark _))))))
    (pss_one (ps_ret pe_bl))
    pss_nil)
    (pss_one (ps_ret (pe_and (pe_cmpR (op_eqD hr.units) (pe_call G_w_lowest (hr.mono (by decide)) rfl T.g_w_lowest T.F_w_lowest.kp T.b_w_lowest .nil pass0 (pa_cons (pe_ix ix_tup (pv 4) pe_int (fun _ _ => rfl)) (pa_cons (pe_ix ix_tup (pv 4) pe_int (fun _ _ => rfl)) pa_nil))) (pv 4) (nomark _)) (pe_one (pe_call G_w_in (hr.mono (by decide)) rfl T.g_w_in T.F_w_in.kp T.b_w_in .nil pass0 (pa_cons (pv 1) (pa_cons (pe_ix ix_tup (pv 4) pe_int (fun _ _ => rfl)) (pa_cons (pe_ix ix_tup (pv 4) pe_int (fun _ _ => rfl)) (pa_cons (pv 3) pa_nil)))))))))))), ?_⟩
    walk_at "start"
    walk_at "sts"
    obtain ⟨dx, pp, as, ex, ep, ha⟩ := id hx
    refine r_methSD ?_
    walk_at "sts"
    refine ⟨x, dx, _, rfl, ex, rfl, ?_⟩
    walk_at "sts"
    refine ⟨x, L, 2 * f, rfl, hf.g, hx, kL, ev, fun hL => ?_, fun p0 M eL o t H1 k1 eo h1 h2 h3 => ?_⟩
    · subst hL
      refine ⟨true, T.exm_NoValue_NoValue, fun _ o ho => ?_, fun z => nomatch z⟩
      try simp only [List.set_cons_succ, List.set_cons_zero]
      rcases bs with _ | ⟨_, _⟩
      · walk_at "sts"
        intro u nu
        have k3 : Keep [] H (upd H u (.lst [])) := Keep.new nu
        have e3 : upd H u (.lst []) u = some (.lst []) := upd_same
        generalize upd H u (.lst []) = H3 at k3 e3 ⊢
        refine r_eqNil (xs := []) (sqL_of (k3 _ _ (by simp) eq)) (sqL_of e3) rfl ?_
        rw [show ([] : List V).isEmpty = true from rfl]
        walk_at "sts"
        refine Er.r_is0 T.X_NoValue (fun u r => r) T.kit_NoValue_MeteError ?_
        walk_at "sts"
        refine Er.r_is0 T.X_NoValue (fun u r => r) T.kit_NoValue_ValueError ?_
        first | exact k _ k3 | (walk_at "sts"; exact k _ k3)
      · exact hbs.elim
    · have hM : L ≠ [] := by rw [eL]; simp
      have mp : p0 ∈ L := by rw [eL]; exact List.mem_cons_self ..
      have cell : mem L (2 * t) := ⟨p0, mp, h1, h2⟩
      have rg := sm_range kL.sm cell
      have eo' : H1 o = some (.tup [.int (lowT t (2 * f)), .int (lowB t (2 * f))]) := eo
      have lb := lowB_pos (t := t) g0
      have zt : (lowT t (2 * f)).natAbs < 2 ^ 300 := Nat.lt_of_le_of_lt (lowT_le (by omega)) (Nat.lt_of_lt_of_le h3 (Nat.pow_le_pow_right (by decide) (by decide)))
      have zb : (lowB t (2 * f)).natAbs < 2 ^ 300 := by
        have := hf.g.lt
        have a := lowB_le (t := t) (b := 2 * f) (by omega)
        exact Nat.lt_of_lt_of_le (show (lowB t (2 * f)).natAbs < 2 ^ 40 by omega) (Nat.pow_le_pow_right (by decide) (by decide))
      try simp only [List.set_cons_succ, List.set_cons_zero]
      walk_at "sts"
      intro u nu
      have k3 : Keep [] H1 (upd H1 u (.lst [])) := Keep.new nu
      have e3 : upd H1 u (.lst []) u = some (.lst []) := upd_same
      generalize upd H1 u (.lst []) = H3 at k3 e3 ⊢
      have k13 := k1.trans k3
      have eo3 := k3 _ _ (by simp) eo'
      refine r_eqRws (as := bs) (bs := []) (rs := L.map rwOf) (ss := []) g0 (k13 _ _ (by simp) eq) e3 (PcAt.all (hbs.mono fun a x h => PcAt.k h k13.t0)) trivial ?_
      rw [decide_eq_false (fun e => hM (List.map_eq_nil_iff.mp e))]
      walk_at "sts"
      refine r_whole ?_
      walk_at "sts"
      refine r_whole ?_
      walk_at "sts"
      refine r_low0 lb (Nat.lt_of_lt_of_le zb (Nat.pow_le_pow_right (by decide) (by decide))) fun q2 H4 k4 nq eq2 => ?_
      rw [(low_low g0).1, (low_low g0).2] at eq2
      walk_at "sts"
      have k14 := k13.trans k4
      refine r_eqT (sqT_of eq2) (sqT_of (k4 _ _ (by simp) eo3)) rfl rfl (eqv_flats rfl) ?_
      have eo4 := k4 _ _ (by simp) eo3
      walk_at "sts"
      refine ⟨p, rs, lowT t (2 * f), lowB t (2 * f), f, t, rfl, hp.k0 k14, hb, hf, lb, zb, zt, rg, low_cross, fun b hb' => ?_⟩
      rw [hb'.mpr ((iL _).mp cell)]
      exact k _ k14
theorem ok_right (T : Tx K mg) (G_w_ends : FnOk PG w K mg base CX0 1 T.f_w_ends T.fd_w_ends ["_law_stretches_here"] spEnds) (G_w_probes : FnOk PG w K mg base CX0 1 T.f_w_probes T.fd_w_probes ["_law_ends_here"] spProbes)
    (G_w_marks : FnOk PG w K mg base CX0 3 T.f_w_marks T.fd_w_marks ["_law_stretches_here", "_law_probes_here", "_law_fine"] spMarks) (G_w_due_parts : FnOk PG w K mg base CX0 3 T.f_w_due_parts T.fd_w_due_parts ["_law_ends_here", "_law_marks_here", "_law_fine"] spDue)
    (G_w_parts_are : FnOk PG w K mg base CX0 4 T.f_w_parts_are T.fd_w_parts_are ["_law_found", "_law_due"] (spParts T.C_Pieces)) (G_Pieces___len : FnOk PG w K mg base CX0 1 T.f_Pieces___len T.fd_Pieces___len ["self"] (spLenP T.C_Pieces)) (G_Pieces___bool : FnOk PG w K mg base CX0 1 T.f_Pieces___bool T.fd_Pieces___bool ["self"] (spBoolP T.C_Pieces))
    (G_Pieces___str : FnOk PG w K mg base CX0 4 T.f_Pieces___str T.fd_Pieces___str ["self"] (spStrP T.C_Pieces)) (G_w_text : FnOk PG w K mg base CX0 2 T.f_w_text T.fd_w_text ["_law_due"] spTxt) (G_w_lowest : FnOk PG w K mg base CX0 1 T.f_w_lowest T.fd_w_lowest ["_law_top", "_law_bottom"] spLow0)
    (G_Pieces___contains : FnOk PG w K mg base CX0 4 T.f_Pieces___contains T.fd_Pieces___contains ["self", "value"] (spCon T.C_Pieces)) (G_Pieces___eq : FnOk PG w K mg base CX0 1 T.f_Pieces___eq T.fd_Pieces___eq ["self", "other"] (spEqP K T.C_Pieces))
    (G_w_some_right : FnOk PG w K mg base CX0 5 T.f_w_some_right T.fd_w_some_right ["_law_found", "_law_stretches_here", "_law_due", "_law_fine"] (spSomeR T.C_Pieces)) : FnOk PG w K mg base CX0 8 T.f_w_right T.fd_w_right ["_law_found", "_law_stretches_here", "_law_fine"] (spRight T.C_Pieces) := by
  refine T.F_w_right.ok sc_w_right (fun vs H Q E h => ?_) (fun cdv A outer s H vs Q E hr h => ?_)
  · obtain ⟨x, p, rs, L, f, rfl, _⟩ := h; rfl
  · obtain ⟨x, p, rs, L, f, rfl, hf, hx, hp, hrs, l20, cv, k⟩ := h
    have oc := T.oc_Pieces
    have na := T.na_Pieces_parts
    have g0 := hf.g.pos
    have bw : ∀ r ∈ rs, BdRW r := fun r m => (hrs r m).1
    have sL : ∀ q ∈ L, SmI q := cv.sm
    have lL := cv.len
    have kL : Lk L 24 := ⟨cv.can, sL, lL⟩
    have ev : ∀ q ∈ L, Ev q.1 ∧ Ev q.2 := cv.ev
    obtain ⟨dx, pp, as, ex, ep, ha⟩ := id hx
    refine ⟨_, PSs.nox (pss_cons (ps_set (i := 3) sc_w_right.nd rfl (Or.inl rfl) (pe_call G_w_ends (hr.mono (by decide)) rfl T.g_w_ends T.F_w_ends.kp T.b_w_ends .nil pass0 (pa_cons (pv 1) pa_nil)))
    (pss_cons (ps_set (i := 4) sc_w_right.nd rfl (Or.inl rfl) (pe_call G_w_probes (hr.mono (by decide)) rfl T.g_w_probes T.F_w_probes.kp T.b_w_probes .nil pass0 (pa_cons (pv 3) pa_nil)))
    (pss_cons (ps_set (i := 5) sc_w_right.nd rfl (Or.inl rfl) (pe_call G_w_marks (hr.mono (by decide)) rfl T.g_w_marks T.F_w_marks.kp T.b_w_marks .nil pass0 (pa_cons (pv 1) (pa_cons (pv 4) (pa_cons (pv 2) pa_nil)))))
    (pss_cons (ps_set (i := 6) sc_w_right.nd rfl (Or.inl rfl) (pe_call G_w_due_parts (hr.mono (by decide)) rfl T.g_w_due_parts T.F_w_due_parts.kp T.b_w_due_parts .nil pass0 (pa_cons (pv 3) (pa_cons (pv 5) (pa_cons (pv 2) pa_nil)))))
    (pss_cons (ps_if (PW.pt (pw_or (pt_not (pt_val (pe_call G_w_parts_are (hr.mono (by decide)) rfl T.g_w_parts_are T.F_w_parts_are.kp T.b_w_parts_are .nil pass0 (pa_cons (pv 0) (pa_cons (pv 6) pa_nil))))) (pw_or (pt_cmpR op_ne (pe_callB (Ow.call_lenOwn T.me_Pieces___len (G_Pieces___len.raw T.b_Pieces___len .nil) (hr.mono (by decide)) pass0) (by rfl) T.m_len PySem.boot_len (pa_cons (pv 0) pa_nil)) (pe_callB call_len_seq (by rfl) T.m_len PySem.boot_len (pa_cons (pv 6) pa_nil)) (nomark _)) (pw_or1 (pt_cmpR op_ne (pe_callTy (Bl.call_boolOwn T.me_Pieces___bool (G_Pieces___bool.raw T.b_Pieces___bool .nil) (hr.mono (by decide)) pass0) (by rfl) T.m_bool (by decide +kernel) (pa_cons (pv 0) pa_nil)) (pe_cmpR (op_neD hr.units) (pv 6) (pe_lst pa_nil) (nomark _)) (nomark _))))))
    (pss_one (ps_ret pe_bl))
    pss_nil)
    (pss_cons (ps_set (i := 7) sc_w_right.nd rfl (Or.inl rfl) (pe_callTy (Ow.call_strOwn T.me_Pieces___str (G_Pieces___str.raw T.b_Pieces___str .nil) (hr.mono (by decide)) pass0) (by rfl) T.m_str (by decide +kernel) (pa_cons (pv 0) pa_nil)))
    (pss_cons (ps_if (PW.pt (pw_or (pt_not (pt_val (pe_callB call_isi (by rfl) T.m_isinstance (by decide +kernel) (pa_cons (pv 7) (pa_cons (pe_bltn (v := .ty "str") (by rfl) T.m_str (by decide +kernel) rfl) pa_nil))))) (pw_or1 (pt_cmpR op_ne (pv 7) (pe_call G_w_text (hr.mono (by decide)) rfl T.g_w_text T.F_w_text.kp T.b_w_text .nil pass0 (pa_cons (pv 6) pa_nil)) (nomark _)))))
    (pss_one (ps_ret pe_bl))
    pss_nil)
    (pss_cons (ps_for PassesOwn.never rfl (pi_range1 rfl T.m_range (pa_cons (pe_callB call_len_seq (by rfl) T.m_len PySem.boot_len (pa_cons (pv 4) pa_nil)) pa_nil)) (pg_name (i := 8) sc_w_right.nd rfl (Or.inl rfl))
    (pss_one (ps_if (pt_cmpR op_ne (pe_cmpR (Ow.op_ownIn T.me_Pieces___contains (G_Pieces___contains.raw T.b_Pieces___contains .nil) (hr.mono (by decide)) pass0) (pe_call G_w_lowest (hr.mono (by decide)) rfl T.g_w_lowest T.F_w_lowest.kp T.b_w_lowest .nil pass0 (pa_cons (pe_ix ix_list (pv 4) (pv 8) (fun _ _ => rfl)) (pa_cons (pe_op op_mul pe_int (pv 2)) pa_nil))) (pv 0) (by rfl)) (pe_ix ix_list (pv 5) (pv 8) (fun _ _ => rfl)) (nomark _))
    (pss_one (ps_ret pe_bl))
    pss_nil)))
    (pss_cons (ps_if (PW.pt (pw_or (pt_cmpR (Ow.op_ownEqX T.me_Pieces___eq (G_Pieces___eq.raw T.b_Pieces___eq .nil) (hr.mono (by decide)) pass0 hr.units0) (pv 0) (pe_fld (pv 0) rfl) (nomark _)) (pw_or (pt_cmpR (Ow.op_ownEqX T.me_Pieces___eq (G_Pieces___eq.raw T.b_Pieces___eq .nil) (hr.mono (by decide)) pass0 hr.units0) (pv 0) (pv 7) (nomark _)) (pw_or1 (pt_cmpR (Ow.op_ownEqX T.me_Pieces___eq (G_Pieces___eq.raw T.b_Pieces___eq .nil) (hr.mono (by decide)) pass0 hr.units0) (pv 0) pe_int (nomark _))))))
    (pss_one (ps_ret pe_bl))
    pss_nil)
    (pss_one (ps_ret (pe_call G_w_some_right (hr.mono (by decide)) rfl T.g_w_some_right T.F_w_some_right.kp T.b_w_some_right .nil pass0 (pa_cons (pv 0) (pa_cons (pv 1) (pa_cons (pv 6) (pa_cons (pv 2) pa_nil)))))))))))))))), ?_⟩
    walk_at "start"
    walk_at "sts"
    refine ⟨p, rs, rfl, hp, bw, l20, fun q U H1 k1 eU hU fU lU zU => ?_⟩
    have fits := fits_of fU fun r m => ⟨(hrs r m).1, (hrs r m).2.no⟩
    walk_at "sts"
    refine ⟨q, U, rfl, eU, hU, lU, fun pq H2 k2 epq => ?_⟩
    have k12 := k1.trans k2
    walk_at "sts"
    refine ⟨p, pq, rs, U, f, rfl, hp.k0 k12, bw, epq, hU, lU, hf, fun mq m H3 k3 em M => ?_⟩
    have k13 := k12.trans k3
    walk_at "sts"
    refine ⟨q, mq, U, m, f, rfl, (k2.trans k3) _ _ (by simp) eU, em, M.len, hU, lU, hf, fun dq bs F H4 k4 ed hbs cF iF sF lF => ?_⟩
    have k14 := k13.trans k4
    have eF : F = L := due_eq hU M (fun k z w a b => at_same hU fits a b) cF iF cv.can sL fun z _ _ => cv.is z
    subst eF
    have ex4 := k14 _ _ (by simp) ex
    have hx4 := hx.k0 k14
    have lb := hbs.len
    have lmb : (bs.map V.ref).length = F.length := by rw [List.length_map]; exact lb
    walk_at "sts"
    refine ⟨x, dq, bs, F, 2 * f, rfl, hx4, ed, hbs, lF, ?_⟩
    walk_at "sts"
    refine Ow.r_ownLen ex4 ⟨x, F, 2 * f, rfl, hx4, F.length, rfl, by omega, by omega, ?_⟩
    walk_at "sts"
    refine Bl.r_boolOwn ex4 ⟨x, F, 2 * f, rfl, hx4, _, rfl, ?_⟩
    walk_at "sts"
    intro u nu
    have k5 : Keep [] H4 (upd H4 u (.lst [])) := Keep.new nu
    have e5 : upd H4 u (.lst []) u = some (.lst []) := upd_same
    generalize upd H4 u (.lst []) = H5 at k5 e5 ⊢
    have k15 := k14.trans k5
    have hx5 := hx4.k0 k5
    have ex5 := k5 _ _ (by simp) ex4
    have ed5 := k5 _ _ (by simp) ed
    have hbs5 := hbs.mono fun a x h => PcAt.k h k5.t0
    refine r_neRws (as := bs) (bs := []) (rs := F.map rwOf) (ss := []) g0 ed5 e5 (PcAt.all hbs5) trivial ?_
    have eE : decide (F.map rwOf = []) = F.isEmpty := by cases F <;> simp
    rw [eE]
    walk_at "sts"
    try (refine r_iteNF rfl ?_)
    walk_at "sts"
    refine ⟨x, dx, _, rfl, ex5, x, F, 2 * f, rfl, hf.g, hx5, kL, fun H6 k6 => ?_⟩
    have k16 := k15.trans k6
    have ed6 := k6 _ _ (by simp) ed5
    have hbs6 := hbs5.mono fun a x h => PcAt.k h k6.t0
    have hx6 := hx5.k0 k6
    have ex6 := k6 _ _ (by simp) ex5
    refine ⟨_, rfl, ?_⟩
    walk_at "sts"
    refine ⟨dq, bs, F, 2 * f, rfl, hf.g, ed6, hbs6, sL, lF, fun H7 k7 => ?_⟩
    have k17 := k16.trans k7
    have k27 := ((((k3.trans k4).trans k5).trans k6).trans k7)
    have epq7 := k27 _ _ (by simp) epq
    have em7 := (((k4.trans k5).trans k6).trans k7) _ _ (by simp) em
    have ex7 := k7 _ _ (by simp) ex6
    walk_at "sts"
    try (refine r_iteNF rfl ?_; walk_at "sts")
    have lpr : ((prs U).map V.int).length = 2 * U.length + 1 := by unfold prs; simp
    rw [lpr]
    refine forR1_go (fun i σ' H' => ∃ y8 : Option V, σ' = [some (.ref x), some (.ref p), some (.int f), some (.ref q), some (.ref pq), some (.ref mq), some (.ref dq), some (.str (pcsT (2 * f) F)), y8] ∧ Keep [] H7 H') ⟨by omega, by omega⟩ ⟨_, by first | exact rfl | trivial, Keep.refl _ _⟩ ?_ ?_
    · rintro i σ' H8 hi ⟨y8, rfl, k8⟩
      have hi' : i < 2 * U.length + 1 := by omega
      have epq8 := k8 _ _ (by simp) epq7
      have em8 := k8 _ _ (by simp) em7
      have ap : atI ((prs U).map V.int) (i : Int) = some (.int (probe U i)) := atI_nat (by
        unfold prs
        rw [List.getElem?_map, List.getElem?_map, List.getElem?_range hi']; rfl)
      obtain ⟨b, hb⟩ : ∃ b, m[i]? = some b := ⟨_, List.getElem?_eq_getElem (by rw [M.len]; exact hi')⟩
      have amk : atI (m.map V.bl) (i : Int) = some (.bl b) := atI_nat (by rw [List.getElem?_map, hb]; rfl)
      have Mi := M.is i b hb
      have sp := probe_sm zU i
      have fz : (2 * f).natAbs < 2 ^ 8000 := Nat.lt_of_lt_of_le (show (2 * f).natAbs < 2 ^ 40 by have := hf.g.lt; omega) (Nat.pow_le_pow_right (by decide) (by decide))
      walk_at "sts"
      refine r_low0 g0 fz fun v H9 k9 nv ev' => ?_
      have k79 := k8.trans k9
      have hx9 := (hx6.k0 k7).k0 k79
      have ex9 := k79 _ _ (by simp) ex7
      have em9 := k9 _ _ (by simp) em8
      walk_at "sts"
      refine Ow.r_ownIn ex9 ⟨x, v, F, probe U i, 2 * f, rfl, hf.g, hx9, kL, ev', by unfold Sm; omega, fun c H10 k10 hc => ⟨c, rfl, ?_⟩⟩
      have em10 := k10 _ _ (by simp) em9
      walk_at "sts"
      have ecb : c = b := by
        rw [Bool.eq_iff_iff, hc, Mi]
        exact cv.is _
      subst ecb
      first
        | exact ⟨_, by first | exact rfl | trivial, k79.trans k10⟩
        | (try (refine r_ixL (sqL_of em10) amk ?_)
           walk_at "sts"
           first
             | exact ⟨_, by first | exact rfl | trivial, k79.trans k10⟩
             | (refine r_iteNF rfl ?_
                walk_at "sts"
                exact ⟨_, by first | exact rfl | trivial, k79.trans k10⟩))
    · rintro σ' H8 ⟨y8, rfl, k8⟩
      have k18 := k17.trans k8
      have hx8 := (hx6.k0 k7).k0 k8
      have ex8 := k8 _ _ (by simp) ex7
      have ep8 := k18 _ _ (by simp) ep
      have k78 := k7.trans k8
      have eqO : ∀ {y : V} {Ty : String} {Q' : VK}, Ow.Oth H8 y Ty → PySem.W.subIn K (.type Ty) (.ref T.C_Pieces) = some false → Q' (.bl false) H8 → Ow.rOwnX K T.C_Pieces (fun vs H Q E => spEqP K T.C_Pieces (vs ++ []) H Q E) E0 (.ref x) y H8 Q' := fun o hs k => Ow.r_ownX ex8 o hs (.inr ⟨x, F, 2 * f, _, _, rfl, hx8, o, hs, k⟩)
      walk_at "sts"
      refine eqO (.tup ep8) T.kt_Pieces ?_
      walk_at "sts"
      refine eqO (.str _) T.ks_Pieces ?_
      walk_at "sts"
      refine eqO (.int _) T.is_Pieces ?_
      walk_at "sts"
      refine ⟨x, p, dq, rs, bs, F, f, rfl, hf, hx8, hp.k0 k18, bw, k78 _ _ (by simp) ed6, hbs6.mono fun a x h => PcAt.k h k78.t0, kL, ev, cv.is, fun H9 k9 => ?_⟩
      exact k _ (k18.trans k9)
end
open PySem PySem.Spec PyProof.Rows L2 StX Pc
/-! ### grown -/
def growR (B A : Int) (r : Rw) : Rw := (r.1.map (· - B), r.2.1, r.2.2.1.map (· + A), r.2.2.2)
def spLGrow : Sp := fun vs H Q _ => ∃ (p : Addr) (rs : List Rw) (b a f : Int), vs = [.ref p, .int b, .int a, .int f] ∧ RawsAt H p rs ∧ (∀ r ∈ rs, BdR r) ∧ rs.length ≤ 20 ∧ FOk f ∧ 0 ≤ b ∧ b ≤ 10 ^ 9 ∧ 0 ≤ a ∧ a ≤ 10 ^ 9 ∧ ∀ q H', Keep [] H H' → RawsAt H' q (rs.map (growR (b * f) (a * f))) → Q (.ref q) H'
def spRef (C : Addr) : Sp := fun vs H Q _ => ∃ (x : Addr) (b a : Int) (L : List Iv) (g : Int), vs = [.ref x, .int b, .int a] ∧ GOk g ∧ PiecesAt C g H x L ∧ Lk L 24 ∧ (∀ q ∈ L, (Sc q.1 → q.1.natAbs < 2 ^ 150) ∧ (Sc q.2 → q.2.natAbs < 2 ^ 150)) ∧ b.natAbs < 2 ^ 100 ∧ a.natAbs < 2 ^ 100 ∧ (b < 0 ∨ a < 0) ∧ ∀ H', Keep [] H H' → Q (.bl true) H'
def spGrowR (C : Addr) : Sp := fun vs H Q _ => ∃ (o x p : Addr) (rs : List Rw) (L : List Iv) (f : Int), vs = [.ref o, .ref x, .ref p, .int f] ∧ PotAt o H ∧ FOk f ∧ PiecesAt C (2 * f) H x L ∧ RawsAt H p rs ∧ p ≠ o ∧ (∀ r ∈ rs, Okr r) ∧ rs.length ≤ 20 ∧ CovN (setOf rs) 1 L ∧ ∀ H', Keep [o] H H' → PotAt o H' → Q (.bl true) H'
theorem bd_mul {b f : Int} (b0 : 0 ≤ b) (b9 : b ≤ 10 ^ 9) (hf : FOk f) : 0 ≤ b * f ∧ b * f ≤ 10 ^ 15 := by
  unfold FOk at hf
  refine ⟨Int.mul_nonneg b0 (by omega), ?_⟩
  calc b * f ≤ 10 ^ 9 * f := Int.mul_le_mul_of_nonneg_right b9 (by omega)
    _ ≤ 10 ^ 9 * 10 ^ 6 := Int.mul_le_mul_of_nonneg_left hf.2 (by decide)
    _ = 10 ^ 15 := by decide
theorem grow_bd {r : Rw} {B A : Int} (h : BdR r) (hB : 0 ≤ B ∧ B ≤ 10 ^ 15) (hA : 0 ≤ A ∧ A ≤ 10 ^ 15) : BdRW (growR B A r) := by
  obtain ⟨o, b, o', b'⟩ := r
  refine ⟨fun t e => ?_, fun t e => ?_⟩
  · cases o with
    | none => cases e
    | some x => cases e; have := h.1 x rfl; unfold Bd at this; show BdW (x - B); unfold BdW; omega
  · cases o' with
    | none => cases e
    | some x => cases e; have := h.2 x rfl; unfold Bd at this; show BdW (x + A); unfold BdW; omega
theorem tiny_c {r : Rw} (h : BdR r) : (Sc (iv (dbl r)).1 → (iv (dbl r)).1.natAbs < 2 ^ 150) ∧ (Sc (iv (dbl r)).2 → (iv (dbl r)).2.natAbs < 2 ^ 150) := by
  obtain ⟨o, b, o', b'⟩ := r
  constructor
  · intro s
    cases o with
    | none => exact absurd s Pc.bb_not.2
    | some x =>
      have := h.1 x rfl
      unfold Bd at this
      show (2 * (2 * x) + (if b = true then 0 else 1)).natAbs < 2 ^ 150
      split <;> omega
  · intro s
    cases o' with
    | none => exact absurd s Pc.bb_not.1
    | some x =>
      have := h.2 x rfl
      unfold Bd at this
      show (2 * (2 * x) + (if b' = true then 1 else 0)).natAbs < 2 ^ 150
      split <;> omega
theorem grow_iv {r : Rw} {b a f : Int} (h : BdR r) : iv (dbl (growR (b * f) (a * f) r)) = growI (2 * (b * (2 * f))) (2 * (a * (2 * f))) (iv (dbl r)) := by
  have e1 : b * (2 * f) = 2 * (b * f) := by ac_rfl
  have e2 : a * (2 * f) = 2 * (a * f) := by ac_rfl
  rw [e1, e2]
  generalize b * f = B
  generalize a * f = A
  obtain ⟨o, c, o', c'⟩ := r
  refine Prod.ext ?_ ?_
  · show loC (dbl (growR B A (o, c, o', c'))) = growC _ (loC (dbl (o, c, o', c')))
    unfold growC
    cases o with
    | none => exact (if_neg Pc.bb_not.2).symm
    | some x =>
      have := h.1 x rfl
      unfold Bd at this
      have z0 : loC (dbl (some x, c, o', c')) = 2 * (2 * x) + (if c = true then 0 else 1) := rfl
      have z1 : loC (dbl (growR B A (some x, c, o', c'))) = 2 * (2 * (x - B)) + (if c = true then 0 else 1) := rfl
      have s : Sc (loC (dbl (some x, c, o', c'))) := by rw [z0]; split <;> omega
      rw [if_pos s, z0, z1]; omega
  · show hiC (dbl (growR B A (o, c, o', c'))) = growC _ (hiC (dbl (o, c, o', c')))
    unfold growC
    cases o' with
    | none => exact (if_neg Pc.bb_not.1).symm
    | some x =>
      have := h.2 x rfl
      unfold Bd at this
      have z0 : hiC (dbl (o, c, some x, c')) = 2 * (2 * x) + (if c' = true then 1 else 0) := rfl
      have z1 : hiC (dbl (growR B A (o, c, some x, c'))) = 2 * (2 * (x + A)) + (if c' = true then 1 else 0) := rfl
      have s : Sc (hiC (dbl (o, c, some x, c'))) := by rw [z0]; split <;> omega
      rw [if_pos s, z0, z1]; omega
theorem grow_good {r : Rw} {b a f : Int} (h : BdR r) (g : Good (dbl r)) (hB : 0 ≤ b * f) (hA : 0 ≤ a * f) : Good (dbl (growR (b * f) (a * f) r)) := by
  have bb := BB_big
  refine ⟨?_, ?_⟩
  · have := g.no
    obtain ⟨o, c, o', c'⟩ := r
    unfold Bad0 dbl growR at *
    cases o <;> cases o' <;> simpa using this
  · have lt := g.lt
    obtain ⟨o, c, o', c'⟩ := r
    generalize b * f = B at *
    generalize a * f = A at *
    have h1 := fun x e => h.1 x e
    have h2 := fun x e => h.2 x e
    cases o with
    | none => cases o' with
      | none => exact lt
      | some y =>
        have := h2 y rfl
        unfold Bd at this
        have lt' : -BB < 2 * (2 * y) + (if c' = true then 1 else 0) := lt
        show -BB < 2 * (2 * (y + A)) + (if c' = true then 1 else 0)
        omega
    | some x => cases o' with
      | none =>
        have lt' : 2 * (2 * x) + (if c = true then 0 else 1) < BB := lt
        show 2 * (2 * (x - B)) + (if c = true then 0 else 1) < BB
        omega
      | some y =>
        have lt' : 2 * (2 * x) + (if c = true then 0 else 1) < 2 * (2 * y) + (if c' = true then 1 else 0) := lt
        show 2 * (2 * (x - B)) + (if c = true then 0 else 1) < 2 * (2 * (y + A)) + (if c' = true then 1 else 0)
        omega
theorem ev_grow {n c : Int} (h : Ev c) (hn : n % 4 = 0) : Ev (growC n c) := by
  unfold growC Ev at *
  intro s
  by_cases k : Sc c
  · rw [if_pos k] at s ⊢; have := h k; omega
  · rw [if_neg k] at s; exact absurd s k
section
variable {w : World} {K : PySem.W.Frag} {mg : Str → Option Value} {base : Heap}
theorem ok_lgrow (T : Tx K mg) : FnOk PG w K mg base CX0 1 T.f_w_grown T.fd_w_grown ["_law_stretches_here", "_law_below", "_law_above", "_law_fine"] spLGrow := by
  refine T.F_w_grown.ok sc_w_grown (fun vs H Q E h => ?_) (fun cdv A outer s H vs Q E hr h => ?_)
  · obtain ⟨p, rs, b, a, f, rfl, _⟩ := h; rfl
  · obtain ⟨p, rs, b, a, f, rfl, ⟨as, ep, ha⟩, hb, l20, hf, b0, b9, a0, a9, k⟩ := h
    have la := ha.len
    have lm : (as.map V.ref).length = rs.length := by rw [List.length_map]; exact la
    have hf1 : 1 ≤ f ∧ f ≤ 10 ^ 6 := hf
    refine ⟨_, PSs.nox (pss_cons (ps_set (i := 4) sc_w_grown.nd rfl (Or.inl rfl) (pe_lst pa_nil))
    (pss_cons (ps_for PassesOwn.never rfl (pi_list (pv 0)) (pg_name (i := 5) sc_w_grown.nd rfl (Or.inl rfl))
    (pss_cons (ps_set (i := 6) sc_w_grown.nd rfl (Or.inl rfl) (pe_ix ix_tup (pv 5) pe_int (fun _ _ => rfl)))
    (pss_cons (ps_set (i := 7) sc_w_grown.nd rfl (Or.inl rfl) (pe_ix ix_tup (pv 5) pe_int (fun _ _ => rfl)))
    (pss_cons (ps_if (pt_cmpR op_notNc (pv 6) pe_non (nomark _))
    (pss_one (ps_set (i := 6) sc_w_grown.nd rfl (Or.inl rfl) (pe_op op_sub (pv 6) (pe_op op_mulG (pv 1) (pv 3)))))
    pss_nil)
    (pss_cons (ps_if (pt_cmpR op_notNc (pv 7) pe_non (nomark _))
    (pss_one (ps_set (i := 7) sc_w_grown.nd rfl (Or.inl rfl) (pe_op op_add (pv 7) (pe_op op_mulG (pv 2) (pv 3)))))
    pss_nil)
    (pss_one (ps_expr (pe_bm PySem.F.plainAttrs_list PySem.F.slot_list_append PySem.F.type_list_append mt_append (pv 4) (pa_cons (pe_tup (pa_cons (pv 6) (pa_cons (pe_ix ix_tup (pv 5) pe_int (fun _ _ => rfl)) (pa_cons (pv 7) (pa_cons (pe_ix ix_tup (pv 5) pe_int (fun _ _ => rfl)) pa_nil))))) pa_nil)))))))))
    (pss_one (ps_ret (pv 4))))), ?_⟩
    walk_at "start"
    walk_at "sts"
    intro D nD
    have k0 : Keep [] H (upd H D (.lst [])) := Keep.new nD
    have e0 : upd H D (.lst []) D = some (.lst []) := upd_same
    generalize upd H D (.lst []) = H1 at k0 e0 ⊢
    have ep1 := k0 _ _ (by simp) ep
    walk_at "sts"
    refine forL_go (fun i σ' H' => ∃ (bs : List Addr) (y5 y6 y7 : Option V), σ' = [some (.ref p), some (.int b), some (.int a), some (.int f), some (.ref D), y5, y6, y7] ∧ Keep [] H H' ∧ H' D = some (.lst (bs.map V.ref)) ∧ AllP (RawAt H') bs ((rs.take i).map (growR (b * f) (a * f)))) (sqL_of ep1) ⟨[], _, _, _, by first | exact rfl | trivial, k0, e0, trivial⟩ (fun i σ' H' _ h => by obtain ⟨_, _, _, _, _, k, _⟩ := h; exact sqL_of (k _ _ (by simp) ep)) ?_ ?_
    · rintro i v σ' H2 hv ⟨bs, y5, y6, y7, rfl, k2, eD, hbs⟩
      obtain ⟨u, hu, rfl⟩ := getRf hv
      obtain ⟨⟨o, c, o', c'⟩, hr0, hra⟩ := ha.get hu
      have hi := (List.getElem?_eq_some_iff.mp hr0).1
      have lb := hbs.len
      rw [List.length_map, List.length_take] at lb
      have eu : H2 u = some (.tup [oV o, .bl c, oV o', .bl c']) := k2.t0 _ _ hra
      have fin : ∀ (y5 y6 y7 : Option V) (z : Addr), H2 z = none → ∃ (bs' : List Addr) (z5 z6 z7 : Option V), [some (V.ref p), some (.int b), some (.int a), some (.int f), some (.ref D), y5, y6, y7] = [some (.ref p), some (.int b), some (.int a), some (.int f), some (.ref D), z5, z6, z7] ∧ Keep [] H (upd (upd H2 z (.tup [oV (o.map (· - b * f)), .bl c, oV (o'.map (· + a * f)), .bl c'])) D (.lst (bs.map V.ref ++ [V.ref z]))) ∧ (upd (upd H2 z (.tup [oV (o.map (· - b * f)), .bl c, oV (o'.map (· + a * f)), .bl c'])) D (.lst (bs.map V.ref ++ [V.ref z]))) D = some (.lst (bs'.map V.ref)) ∧ AllP (RawAt (upd (upd H2 z (.tup [oV (o.map (· - b * f)), .bl c, oV (o'.map (· + a * f)), .bl c'])) D (.lst (bs.map V.ref ++ [V.ref z])))) bs' ((rs.take (i + 1)).map (growR (b * f) (a * f))) := by
        intro y5 y6 y7 z nz
        have k3 : Keep [] H2 (upd H2 z (.tup [oV (o.map (· - b * f)), .bl c, oV (o'.map (· + a * f)), .bl c'])) := Keep.new nz
        have e3 : upd H2 z (.tup [oV (o.map (· - b * f)), .bl c, oV (o'.map (· + a * f)), .bl c']) z = some (.tup [oV (o.map (· - b * f)), .bl c, oV (o'.map (· + a * f)), .bl c']) := upd_same
        generalize upd H2 z (.tup [oV (o.map (· - b * f)), .bl c, oV (o'.map (· + a * f)), .bl c']) = H3 at k3 e3 ⊢
        have t5 := (Keep.at (M := [D]) (p := D) (H := H3) (o := HO.lst (bs.map V.ref ++ [V.ref z])) (by simp)).t1 (noT_l (k3 _ _ (by simp) eD))
        refine ⟨bs ++ [z], _, _, _, rfl, (k2.trans k3).mut nD, by rw [List.map_append]; exact upd_same, ?_⟩
        rw [take_s hr0, List.map_append]
        exact (hbs.mono fun a x h => (h.k k3.t0).k t5).snoc (t5 _ _ e3)
      have zb : b.natAbs < 2 ^ 300 := by omega
      have za : a.natAbs < 2 ^ 300 := by omega
      have zf : f.natAbs < 2 ^ 300 := by omega
      cases o with
      | none => cases o' with
        | none =>
          simp only [oV, Option.map] at eu fin
          walk_at "sts"
          intro z nz
          have eD3 : (upd H2 z (.tup [.non, .bl c, .non, .bl c'])) D = some (.lst (bs.map V.ref)) := (Keep.new nz : Keep [] H2 _) _ _ (by simp) eD
          walk_at "sts"
          try (refine r_app eD3 (by rw [List.length_map]; exact lt_size (by omega)) ?_; walk_at "sts")
          exact fin _ _ _ z nz
        | some y =>
          simp only [oV, Option.map] at eu fin
          walk_at "sts"
          try (refine r_I (mulw 300 300 za zf) ?_; walk_at "sts")
          intro z nz
          have eD3 : (upd H2 z (.tup [.non, .bl c, .int (y + a * f), .bl c'])) D = some (.lst (bs.map V.ref)) := (Keep.new nz : Keep [] H2 _) _ _ (by simp) eD
          walk_at "sts"
          try (refine r_app eD3 (by rw [List.length_map]; exact lt_size (by omega)) ?_; walk_at "sts")
          exact fin _ _ _ z nz
      | some x => cases o' with
        | none =>
          simp only [oV, Option.map] at eu fin
          walk_at "sts"
          try (refine r_I (mulw 300 300 zb zf) ?_; walk_at "sts")
          intro z nz
          have eD3 : (upd H2 z (.tup [.int (x - b * f), .bl c, .non, .bl c'])) D = some (.lst (bs.map V.ref)) := (Keep.new nz : Keep [] H2 _) _ _ (by simp) eD
          walk_at "sts"
          try (refine r_app eD3 (by rw [List.length_map]; exact lt_size (by omega)) ?_; walk_at "sts")
          exact fin _ _ _ z nz
        | some y =>
          simp only [oV, Option.map] at eu fin
          walk_at "sts"
          try (refine r_I (mulw 300 300 zb zf) ?_; walk_at "sts")
          try (refine r_I (mulw 300 300 za zf) ?_; walk_at "sts")
          intro z nz
          have eD3 : (upd H2 z (.tup [.int (x - b * f), .bl c, .int (y + a * f), .bl c'])) D = some (.lst (bs.map V.ref)) := (Keep.new nz : Keep [] H2 _) _ _ (by simp) eD
          walk_at "sts"
          try (refine r_app eD3 (by rw [List.length_map]; exact lt_size (by omega)) ?_; walk_at "sts")
          exact fin _ _ _ z nz
    · rintro σ' H2 ⟨bs, y5, y6, y7, rfl, k2, eD, hbs⟩
      rw [lm, List.take_length] at hbs
      walk_at "sts"
      exact k D H2 k2 ⟨bs, eD, hbs⟩
theorem ok_ref (T : Tx K mg) (G_Pieces_grownX : FnOk PG w K mg base (L2.CX PG w) 15 T.f_Pieces_grown T.fd_Pieces_grown ["self", "below", "above"] (spGrown T.C_Pieces T.C_BadNumber)) : FnOk PG w K mg base CX0 16 T.f_w_grown_refused T.fd_w_grown_refused ["_law_found", "_law_below", "_law_above"] (spRef T.C_Pieces) := by
  refine T.F_w_grown_refused.ok sc_w_grown_refused (fun vs H Q E h => ?_) (fun cdv A outer s H vs Q E hr h => ?_)
  · obtain ⟨x, b, a, L, g, rfl, _⟩ := h; rfl
  · obtain ⟨x, b, a, L, g, rfl, hg, hx, kL, tiny, zb, za, neg, k⟩ := h
    obtain ⟨dx, pp, as, ex, ep, ha⟩ := id hx
    refine ⟨_, PSs.nox (pss_cons (ps_set (i := 3) sc_w_grown_refused.nd rfl (Or.inl rfl) (pv 2))
    (pss_cons (ps_if (pt_cmpR op_lt (pv 1) pe_int (nomark _))
    (pss_one (ps_set (i := 3) sc_w_grown_refused.nd rfl (Or.inl rfl) (pv 1)))
    pss_nil)
    (pss_cons (ps_try_as (i := 4) (Wout := fun _ _ _ _ => False) rfl rfl sc_w_grown_refused.nd rfl rfl ⟨rfl, by decide, Or.inl T.gC_BadNumber⟩ takes0 (fun W pn xe tk _ => (pss_one (ps_expr (Dt.pe_methSD (pv 0) T.oc_Pieces.cl T.me_Pieces_grown G_Pieces_grownX (hr.mono (by decide)) T.b_Pieces_grown .nil (fun σ => passAt tk σ) (pa_cons (pv 1) (pa_cons (pv 2) pa_nil)))))) (fun a oe cls d pn hz hf => (pss_one (ps_ret (pe_and (pe_cmpR op_eq (pe_xf T.xf_BadNumber (T.Z_BadNumber w).noN hz hf (pv 4)) (pv 3) (nomark _)) (pe_and (pe_callB (Er.call_isD hz hf) (by rfl) T.m_isinstance (by decide +kernel) (pa_cons (pv 4) (pa_cons (pe_glob (v := .ref T.C_MeteError) rfl T.gC_MeteError rfl) pa_nil))) (pe_one (pe_callB (Er.call_isD hz hf) (by rfl) T.m_isinstance (by decide +kernel) (pa_cons (pv 4) (pa_cons (pe_bltn (v := .ty "ValueError") (by rfl) T.m_ValueError boot_ValueError rfl) pa_nil))))))))))
    (pss_one (ps_ret pe_bl))))), ?_⟩
    walk_at "start"
    walk_at "sts"
    by_cases c : b < 0
    · try (refine r_iteT c ?_)
      walk_at "sts"
      refine r_methSD ?_
      walk_at "sts"
      refine ⟨x, dx, _, rfl, ex, rfl, ?_⟩
      walk_at "sts"
      refine ⟨x, b, a, L, g, rfl, hg, hx, kL, tiny, zb, za, fun b0 => by omega, fun _ e he => ?_, fun b0 => by omega⟩
      refine ⟨true, T.exm_BadNumber_BadNumber, fun _ o ho => ?_, fun z => nomatch z⟩
      have he' : upd H e (.xd [("number", .int b)]) e = some (.xd [("number", .int b)]) := upd_same
      have k4 : Keep [] H (upd H e (.xd [("number", .int b)])) := Keep.new he
      generalize upd H e (.xd [("number", .int b)]) = H5 at he' k4 ho ⊢
      try simp only [List.set_cons_succ, List.set_cons_zero]
      walk_at "sts"
      refine Er.r_xfE he' rfl ?_
      walk_at "sts"
      try (refine r_iteT rfl ?_; walk_at "sts")
      refine Er.r_isD T.X_BadNumber he' (fun u r => r) T.kit_BadNumber_MeteError ?_
      walk_at "sts"
      refine Er.r_isD T.X_BadNumber he' (fun u r => r) T.kit_BadNumber_ValueError ?_
      first | exact k _ k4 | (walk_at "sts"; exact k _ k4)
    · try (refine r_iteF c ?_)
      walk_at "sts"
      refine r_methSD ?_
      walk_at "sts"
      refine ⟨x, dx, _, rfl, ex, rfl, ?_⟩
      walk_at "sts"
      refine ⟨x, b, a, L, g, rfl, hg, hx, kL, tiny, zb, za, fun b0 a0 => by omega, fun b0 => by omega, fun _ _ e he => ?_⟩
      refine ⟨true, T.exm_BadNumber_BadNumber, fun _ o ho => ?_, fun z => nomatch z⟩
      have he' : upd H e (.xd [("number", .int a)]) e = some (.xd [("number", .int a)]) := upd_same
      have k4 : Keep [] H (upd H e (.xd [("number", .int a)])) := Keep.new he
      generalize upd H e (.xd [("number", .int a)]) = H5 at he' k4 ho ⊢
      try simp only [List.set_cons_succ, List.set_cons_zero]
      walk_at "sts"
      refine Er.r_xfE he' rfl ?_
      walk_at "sts"
      try (refine r_iteT rfl ?_; walk_at "sts")
      refine Er.r_isD T.X_BadNumber he' (fun u r => r) T.kit_BadNumber_MeteError ?_
      walk_at "sts"
      refine Er.r_isD T.X_BadNumber he' (fun u r => r) T.kit_BadNumber_ValueError ?_
      first | exact k _ k4 | (walk_at "sts"; exact k _ k4)
end
open PySem PySem.Spec PyProof.Rows L2 StX Pc
/-! ### grown sets are right -/
theorem grow_ro {rs : List Rw} {L G : List Iv} {b a f : Int} (hf : FOk f) (b0 : 0 ≤ b) (b9 : b ≤ 10 ^ 9) (a0 : 0 ≤ a) (a9 : a ≤ 10 ^ 9) (ok : ∀ r ∈ rs, Okr r) (l20 : rs.length ≤ 20) (cL : CovN (setOf rs) 1 L) (cG : CovN (L.map (growI (2 * (b * (2 * f))) (2 * (a * (2 * f))))) 1 G) : RO (rs.map (growR (b * f) (a * f))) G := by
  have hB := bd_mul b0 b9 hf
  have hA := bd_mul a0 a9 hf
  have e1 : b * (2 * f) = 2 * (b * f) := by ac_rfl
  have e2 : a * (2 * f) = 2 * (a * f) := by ac_rfl
  have sS : ∀ p ∈ setOf rs, SmI p ∧ p.1 < p.2 := fun p m => by
    obtain ⟨r, mr, rfl⟩ := List.mem_map.mp m
    exact ⟨sm_iv (bdr_sm (ok r mr).1), (ok r mr).2.lt⟩
  have sL : ∀ p ∈ L, SmI p ∧ p.1 < p.2 := fun p m => ⟨Pc.CovN.sm cL (by decide) (fun q mq => (sS q mq).1) p m, cL.can.lt p m⟩
  have eS : setOf (rs.map (growR (b * f) (a * f))) = (setOf rs).map (growI (2 * (b * (2 * f))) (2 * (a * (2 * f)))) := by
    unfold setOf
    rw [List.map_map, List.map_map]
    exact List.map_congr_left fun r m => grow_iv (ok r m).1
  have ls : (setOf rs).length = rs.length := List.length_map _
  have lL := cL.len
  have lG := cG.len
  rw [List.length_map] at lG
  have tinyS : ∀ p ∈ setOf rs, (Sc p.1 → p.1.natAbs < 2 ^ 150) ∧ (Sc p.2 → p.2.natAbs < 2 ^ 150) := fun p m => by
    obtain ⟨r, mr, rfl⟩ := List.mem_map.mp m
    exact tiny_c (ok r mr).1
  have tinyL : ∀ p ∈ L, (Sc p.1 → p.1.natAbs < 2 ^ 150) ∧ (Sc p.2 → p.2.natAbs < 2 ^ 150) := Pc.CovN.all cL (G := fun c => Sc c → c.natAbs < 2 ^ 150) tinyS
  have sG : ∀ p ∈ L.map (growI (2 * (b * (2 * f))) (2 * (a * (2 * f)))), SmI p := fun p m => by
    obtain ⟨q, mq, rfl⟩ := List.mem_map.mp m
    obtain ⟨t1, t2⟩ := tinyL q mq
    obtain ⟨s1, s2⟩ := (sL q mq).1
    refine ⟨?_, ?_⟩
    · show growC _ q.1 = -BB ∨ Sc (growC _ q.1)
      unfold growC
      rcases s1 with s | s
      · left; rw [s, if_neg Pc.bb_not.2]
      · right; rw [if_pos s]; have := t1 s; omega
    · show growC _ q.2 = BB ∨ Sc (growC _ q.2)
      unfold growC
      rcases s2 with s | s
      · left; rw [s, if_neg Pc.bb_not.1]
      · right; rw [if_pos s]; have := t2 s; omega
  refine ⟨cG.can, fun z => ?_, Pc.CovN.sm cG (by decide) sG, Pc.CovN.all cG fun p m => ?_, by omega⟩
  · rw [Pc.CovN.one cG z, eS, grow_mem (by omega) (by omega) (by omega) (by omega) sL, grow_mem (by omega) (by omega) (by omega) (by omega) sS]
    constructor
    · rintro ⟨r1, r2, y, hy, r⟩; exact ⟨r1, r2, y, (Pc.CovN.one cL y).mp hy, r⟩
    · rintro ⟨r1, r2, y, hy, r⟩; exact ⟨r1, r2, y, (Pc.CovN.one cL y).mpr hy, r⟩
  · obtain ⟨q, mq, rfl⟩ := List.mem_map.mp m
    have e := Pc.CovN.all cL ev_set q mq
    exact ⟨ev_grow e.1 (by omega), ev_grow e.2 (by omega)⟩
theorem Lk_of {rs : List Rw} {L : List Iv} (ok : ∀ r ∈ rs, Okr r) (l20 : rs.length ≤ 20) (cL : CovN (setOf rs) 1 L) : Lk L 24 ∧ ∀ p ∈ L, (Sc p.1 → p.1.natAbs < 2 ^ 150) ∧ (Sc p.2 → p.2.natAbs < 2 ^ 150) := by
  have ls : (setOf rs).length = rs.length := List.length_map _
  have lL := cL.len
  refine ⟨⟨cL.can, Pc.CovN.sm cL (by decide) (set_sm fun r m => (ok r m).1.w), by omega⟩, Pc.CovN.all cL (G := fun c => Sc c → c.natAbs < 2 ^ 150) fun p m => ?_⟩
  obtain ⟨r, mr, rfl⟩ := List.mem_map.mp m
  exact tiny_c (ok r mr).1
theorem PotAt.k0 {a : Addr} {H H' : Hp} (h : PotAt a H) (k : Keep [] H H') : PotAt a H' := by
  obtain ⟨P, hP, hp⟩ := h; exact ⟨P, k _ _ (by simp) hP, hp⟩
section
variable {w : World} {K : PySem.W.Frag} {mg : Str → Option Value} {base : Heap}
theorem ok_growR (T : Tx K mg) (G_w_take : FnOk PG w K mg base CX0 1 T.f_w_take T.fd_w_take ["_law_pot_here", "_law_size"] spTake) (G_w_right : FnOk PG w K mg base CX0 8 T.f_w_right T.fd_w_right ["_law_found", "_law_stretches_here", "_law_fine"] (spRight T.C_Pieces))
    (G_Pieces_grown : FnOk PG w K mg base CX0 15 T.f_Pieces_grown T.fd_Pieces_grown ["self", "below", "above"] (fun vs H Q _ => spGrown T.C_Pieces T.C_BadNumber vs H Q fun _ _ _ => False)) (G_w_grown : FnOk PG w K mg base CX0 1 T.f_w_grown T.fd_w_grown ["_law_stretches_here", "_law_below", "_law_above", "_law_fine"] spLGrow)
    (G_Pieces_none : FnOk PG w K mg base CX0 15 T.f_Pieces_none T.fd_Pieces_none [] (spNone T.C_Pieces)) (G_w_grown_refused : FnOk PG w K mg base CX0 16 T.f_w_grown_refused T.fd_w_grown_refused ["_law_found", "_law_below", "_law_above"] (spRef T.C_Pieces)) :
    FnOk PG w K mg base CX0 17 T.f_w_growth_right T.fd_w_growth_right ["_law_pot_here", "_law_found", "_law_stretches_here", "_law_fine"] (spGrowR T.C_Pieces) := by
  refine T.F_w_growth_right.ok sc_w_growth_right (fun vs H Q E h => ?_) (fun cdv A outer s H vs Q E hr h => ?_)
  · obtain ⟨o, x, p, rs, L, f, rfl, _⟩ := h; rfl
  · obtain ⟨o, x, p, rs, L, f, rfl, po, hf, hx, hp, npo, ok, l20, cL, k⟩ := h
    obtain ⟨kL, tiny⟩ := Lk_of ok l20 cL
    refine ⟨_, PSs.nox (pss_cons (ps_set (i := 4) sc_w_growth_right.nd rfl (Or.inl rfl) (pe_call G_w_take (hr.mono (by decide)) rfl T.g_w_take T.F_w_take.kp T.b_w_take .nil pass0 (pa_cons (pv 0) (pa_cons pe_int pa_nil))))
    (pss_cons (ps_set (i := 5) sc_w_growth_right.nd rfl (Or.inl rfl) (pe_call G_w_take (hr.mono (by decide)) rfl T.g_w_take T.F_w_take.kp T.b_w_take .nil pass0 (pa_cons (pv 0) (pa_cons pe_int pa_nil))))
    (Evl.pss_cut (ps_if (pt_cmpR op_eq (pe_call G_w_take (hr.mono (by decide)) rfl T.g_w_take T.F_w_take.kp T.b_w_take .nil pass0 (pa_cons (pv 0) (pa_cons pe_int pa_nil))) pe_int (nomark _))
    (pss_one (ps_set (i := 4) sc_w_growth_right.nd rfl (Or.inl rfl) (pe_call G_w_take (hr.mono (by decide)) rfl T.g_w_take T.F_w_take.kp T.b_w_take .nil pass0 (pa_cons (pv 0) (pa_cons (pe_op op_pow pe_int pe_int) pa_nil)))))
    pss_nil)
    (Evl.pss_cut (ps_if (pt_cmpR op_eq (pe_call G_w_take (hr.mono (by decide)) rfl T.g_w_take T.F_w_take.kp T.b_w_take .nil pass0 (pa_cons (pv 0) (pa_cons pe_int pa_nil))) pe_int (nomark _))
    (pss_one (ps_set (i := 5) sc_w_growth_right.nd rfl (Or.inl rfl) (pe_call G_w_take (hr.mono (by decide)) rfl T.g_w_take T.F_w_take.kp T.b_w_take .nil pass0 (pa_cons (pv 0) (pa_cons (pe_op op_pow pe_int pe_int) pa_nil)))))
    pss_nil)
    (pss_cons (ps_if (pt_not (pt_val (pe_call G_w_right (hr.mono (by decide)) rfl T.g_w_right T.F_w_right.kp T.b_w_right .nil pass0 (pa_cons (pe_meth (pv 1) T.oc_Pieces.cl T.me_Pieces_grown G_Pieces_grown (hr.mono (by decide)) T.b_Pieces_grown .nil pass0 (pa_cons (pv 4) (pa_cons (pv 5) pa_nil))) (pa_cons (pe_call G_w_grown (hr.mono (by decide)) rfl T.g_w_grown T.F_w_grown.kp T.b_w_grown .nil pass0 (pa_cons (pv 2) (pa_cons (pv 4) (pa_cons (pv 5) (pa_cons (pv 3) pa_nil))))) (pa_cons (pv 3) pa_nil))))))
    (pss_one (ps_ret pe_bl))
    pss_nil)
    (pss_cons (ps_set (i := 6) sc_w_growth_right.nd rfl (Or.inl rfl) (pe_op op_sub (pe_un un_neg pe_int) (pe_call G_w_take (hr.mono (by decide)) rfl T.g_w_take T.F_w_take.kp T.b_w_take .nil pass0 (pa_cons (pv 0) (pa_cons (pe_op op_pow pe_int pe_int) pa_nil)))))
    (pss_cons (ps_set (i := 7) sc_w_growth_right.nd rfl (Or.inl rfl) (pe_op op_sub (pe_un un_neg pe_int) (pe_call G_w_take (hr.mono (by decide)) rfl T.g_w_take T.F_w_take.kp T.b_w_take .nil pass0 (pa_cons (pv 0) (pa_cons (pe_op op_pow pe_int pe_int) pa_nil)))))
    (pss_cons (ps_for PassesOwn.never rfl (pi_list (pe_lst (pa_cons (pv 1) (pa_cons (Bl.pe_smeth0 (pe_glob (v := .ref T.C_Pieces) rfl T.gC_Pieces rfl) T.cr_Pieces T.sm_Pieces_none G_Pieces_none (hr.mono (by decide)) T.b_Pieces_none .nil pass0) pa_nil)))) (pg_name (i := 8) sc_w_growth_right.nd rfl (Or.inl rfl))
    (pss_cons (ps_if (PW.pt (pw_or (pt_not (pt_val (pe_call G_w_grown_refused (hr.mono (by decide)) rfl T.g_w_grown_refused T.F_w_grown_refused.kp T.b_w_grown_refused .nil pass0 (pa_cons (pv 8) (pa_cons (pv 6) (pa_cons (pv 5) pa_nil)))))) (pw_or1 (pt_not (pt_val (pe_call G_w_grown_refused (hr.mono (by decide)) rfl T.g_w_grown_refused T.F_w_grown_refused.kp T.b_w_grown_refused .nil pass0 (pa_cons (pv 8) (pa_cons (pv 4) (pa_cons (pv 7) pa_nil)))))))))
    (pss_one (ps_ret pe_bl))
    pss_nil)
    (pss_one (ps_if (pt_not (pt_val (pe_call G_w_grown_refused (hr.mono (by decide)) rfl T.g_w_grown_refused T.F_w_grown_refused.kp T.b_w_grown_refused .nil pass0 (pa_cons (pv 8) (pa_cons (pv 6) (pa_cons (pv 7) pa_nil))))))
    (pss_one (ps_ret pe_bl))
    pss_nil))))
    (pss_one (ps_ret pe_bl)))))))))), ?_⟩
    walk_at "start"
    walk_at "sts"
    refine r_take po (by decide) (by decide) fun b0 H1 z0 z1 k1 p1 => ?_
    walk_at "sts"
    refine r_take p1 (by decide) (by decide) fun a0 H2 y0 y1 k2 p2 => ?_
    walk_at "sts"
    refine r_cut (fun σ' H' => ∃ b : Int, σ' = [some (.ref o), some (.ref x), some (.ref p), some (.int f), some (.int b), some (.int a0), none, none, none] ∧ Keep [o] H H' ∧ PotAt o H' ∧ 0 ≤ b ∧ b ≤ 10 ^ 9) ?_ ?_
    · walk_at "sts"
      refine r_take p2 (by decide) (by decide) fun v H3 v0 v1 k3 p3 => ?_
      walk_at "sts"
      refine r_ite (fun c => ?_) (fun c => ?_)
      · walk_at "sts"
        refine r_take p3 (by decide) (by decide) fun u H4 u0 u1 k4 p4 => ?_
        walk_at "sts"
        exact ⟨u, by first | exact rfl | trivial, ((k1.trans k2).trans k3).trans k4, p4, u0, by omega⟩
      · walk_at "sts"
        exact ⟨b0, by first | exact rfl | trivial, (k1.trans k2).trans k3, p3, z0, by omega⟩
    clear k1 k2 p1 p2
    rintro σ' H1 ⟨b, rfl, k1, p1, b0', b9⟩
    refine r_cut (fun σ' H' => ∃ a : Int, σ' = [some (.ref o), some (.ref x), some (.ref p), some (.int f), some (.int b), some (.int a), none, none, none] ∧ Keep [o] H H' ∧ PotAt o H' ∧ 0 ≤ a ∧ a ≤ 10 ^ 9) ?_ ?_
    · walk_at "sts"
      refine r_take p1 (by decide) (by decide) fun v H3 v0 v1 k3 p3 => ?_
      walk_at "sts"
      refine r_ite (fun c => ?_) (fun c => ?_)
      · walk_at "sts"
        refine r_take p3 (by decide) (by decide) fun u H4 u0 u1 k4 p4 => ?_
        walk_at "sts"
        exact ⟨u, by first | exact rfl | trivial, (k1.trans k3).trans k4, p4, u0, by omega⟩
      · walk_at "sts"
        exact ⟨a0, by first | exact rfl | trivial, k1.trans k3, p3, y0, by omega⟩
    clear k1 p1
    rintro σ' H1 ⟨a, rfl, k1, p1, a0', a9⟩
    have one : ∀ {H' : Hp}, PotAt o H → ∀ m ∈ [o], ∃ xs, H m = some (.lst xs) := fun h m hm => by rw [List.mem_singleton.mp hm]; obtain ⟨PP, hP, _⟩ := h; exact ⟨_, hP⟩
    have hx1 := hx.k k1 (one (H' := H1) po)
    have hp1 := hp.k k1 (by simpa using npo) (k1.t1 po.noT)
    obtain ⟨dx, pp, as, ex, ep, ha⟩ := id hx1
    walk_at "sts"
    refine ⟨x, b, a, L, 2 * f, rfl, hf.g, hx1, kL, tiny, by omega, by omega, fun _ _ z G H2 k2 nz hz cG => ?_, fun h => by omega, fun _ h => by omega⟩
    walk_at "sts"
    refine ⟨p, rs, b, a, f, rfl, hp1.k0 k2, fun r m => (ok r m).1, l20, hf, b0', b9, a0', a9, fun q H3 k3 hq => ?_⟩
    walk_at "sts"
    have hB := bd_mul b0' b9 hf
    have hA := bd_mul a0' a9 hf
    refine ⟨z, q, _, G, f, rfl, hf, hz.k0 k3, hq, fun r m => ?_, by rw [List.length_map]; exact l20, grow_ro hf b0' b9 a0' a9 ok l20 cL cG, fun H4 k4 => ?_⟩
    · obtain ⟨r', mr, rfl⟩ := List.mem_map.mp m
      exact ⟨grow_bd (ok r' mr).1 hB hA, grow_good (ok r' mr).1 (ok r' mr).2 hB.1 hA.1⟩
    have k14 := (k2.trans k3).trans k4
    have p4 := p1.k0 k14
    have hx4 := hx1.k0 k14
    have k04 : Keep [o] H H4 := k1.trans (k14.mono fun _ h => (List.not_mem_nil h).elim)
    clear hz hq cG k2 k3 k4 nz ex ep ha
    walk_at "sts"
    refine r_take p4 (by decide) (by decide) fun u H5 u0 u1 k5 p5 => ?_
    walk_at "sts"
    refine r_take p5 (by decide) (by decide) fun v H6 v0 v1 k6 p6 => ?_
    have k46 := k5.trans k6
    have hx6 := hx4.k k46 fun m hm => by rw [List.mem_singleton.mp hm]; obtain ⟨PP, hP, _⟩ := p4; exact ⟨_, hP⟩
    have k06 := k04.trans k46
    clear k5 k6 k46 p4 p5 hx4 k04
    walk_at "sts"
    refine ⟨rfl, ?_⟩
    walk_at "sts"
    refine ⟨rfl, fun n H7 k7 nn hn => ?_⟩
    walk_at "sts"
    intro l nl
    have k8 : Keep [] H7 (upd H7 l (.lst [.ref x, .ref n])) := Keep.new nl
    have el : upd H7 l (.lst [.ref x, .ref n]) l = some (.lst [.ref x, .ref n]) := upd_same
    generalize upd H7 l (.lst [.ref x, .ref n]) = H8 at k8 el ⊢
    have k68 := k7.trans k8
    have k08 : Keep [o] H H8 := k06.trans (k68.mono fun _ h => (List.not_mem_nil h).elim)
    have p8 := p6.k0 k68
    have hx8 := hx6.k0 k68
    have hn8 := fun g => (hn g).k0 k8
    walk_at "sts"
    refine forL_go (fun i σ' H' => ∃ y8 : Option V, σ' = [some (.ref o), some (.ref x), some (.ref p), some (.int f), some (.int b), some (.int a), some (.int (-1 - u)), some (.int (-1 - v)), y8] ∧ Keep [] H8 H') (sqL_of el) ⟨_, by first | exact rfl | trivial, Keep.refl _ _⟩ (fun i σ' H' _ h => by obtain ⟨_, _, k⟩ := h; exact sqL_of (k _ _ (by simp) el)) ?_ ?_
    · rintro i e σ' H9 he ⟨y8, rfl, k9⟩
      obtain ⟨y, My, rfl, hy, kMy, tMy⟩ : ∃ (y : Addr) (My : List Iv), e = .ref y ∧ (∀ {H'}, Keep [] H8 H' → PiecesAt T.C_Pieces (2 * f) H' y My) ∧ Lk My 24 ∧ ∀ p ∈ My, (Sc p.1 → p.1.natAbs < 2 ^ 150) ∧ (Sc p.2 → p.2.natAbs < 2 ^ 150) := by
        match i, he with
        | 0, he => exact ⟨x, L, (Option.some.inj he).symm, fun k => hx8.k0 k, kL, tiny⟩
        | 1, he => exact ⟨n, [], (Option.some.inj he).symm, fun k => (hn8 _).k0 k, ⟨Can.nil, fun _ m => (List.not_mem_nil m).elim, by simp⟩, fun _ m => (List.not_mem_nil m).elim⟩
        | i + 2, he => simp at he
      walk_at "sts"
      refine ⟨y, -1 - u, a, My, 2 * f, rfl, hf.g, hy k9, kMy, tMy, by omega, by omega, .inl (by omega), fun H10 k10 => ?_⟩
      have k19 := k9.trans k10
      walk_at "sts"
      refine ⟨y, b, -1 - v, My, 2 * f, rfl, hf.g, hy k19, kMy, tMy, by omega, by omega, .inr (by omega), fun H11 k11 => ?_⟩
      have k110 := k19.trans k11
      walk_at "sts"
      refine ⟨y, -1 - u, -1 - v, My, 2 * f, rfl, hf.g, hy k110, kMy, tMy, by omega, by omega, .inl (by omega), fun H12 k12 => ?_⟩
      walk_at "sts"
      exact ⟨_, by first | exact rfl | trivial, k110.trans k12⟩
    · rintro σ' H9 ⟨y8, rfl, k9⟩
      walk_at "sts"
      exact k _ (k08.trans (k9.mono fun _ h => (List.not_mem_nil h).elim)) (p8.k0 k9)
end
open PySem PySem.Spec PyProof.Rows L2 StX Pc
/-! ### refusals -/
def spRefuse : Sp := fun vs H Q _ => ∃ (o e p : Addr) (rs : List Rw) (es : List Int) (f : Int), vs = [.ref o, .ref p, .int f, .ref e] ∧ PotAt o H ∧ FOk f ∧ e ≠ o ∧ p ≠ o ∧ p ≠ e ∧ EsAt H e es ∧ RawsAt H p rs ∧ (∀ r ∈ rs, Okr r) ∧ rs.length ≤ 5 ∧ ∀ H', Keep [o] H H' → PotAt o H' → Q (.bl true) H'
def spBetR : Sp := fun vs H Q _ => ∃ lo hi : Int, vs = [.int lo, .int hi] ∧ Bd lo ∧ Bd hi ∧ ∀ H', Keep [] H H' → Q (.bl true) H'
theorem f1ok : FOk 1 := ⟨by decide, by decide⟩
theorem filter_hd {α : Type} {p : α → Bool} {l : List α} {i : Nat} {x : α} (hx : l[i]? = some x) (px : p x = true) (h : ∀ (j : Nat) y, j < i → l[j]? = some y → p y = false) : ∃ t, l.filter p = x :: t := by
  have e : l = l.take i ++ l.drop i := (List.take_append_drop i l).symm
  rw [e, List.filter_append, drop_hd hx]
  have : (l.take i).filter p = [] := by
    rw [List.filter_eq_nil_iff]
    intro y my
    obtain ⟨j, hj⟩ := List.mem_iff_getElem?.mp my
    have hl := (List.getElem?_eq_some_iff.mp hj).1
    rw [List.length_take] at hl
    have := h j y (by omega) (by rw [List.getElem?_take, if_pos (by omega)] at hj; exact hj)
    rw [this]; decide
  rw [this, List.nil_append, List.filter_cons, if_pos px]
  exact ⟨_, rfl⟩
section
variable {w : World} {K : PySem.W.Frag} {mg : Str → Option Value} {base : Heap}
theorem ok_betR (T : Tx K mg) (G_Pieces_betweenX : FnOk PG w K mg base (L2.CX PG w) 15 T.f_Pieces_between T.fd_Pieces_between ["low", "high"] (spBetw T.C_Pieces T.C_BadStretch)) (G_w_right : FnOk PG w K mg base CX0 8 T.f_w_right T.fd_w_right ["_law_found", "_law_stretches_here", "_law_fine"] (spRight T.C_Pieces)) : FnOk PG w K mg base CX0 16 T.f_w_between_right T.fd_w_between_right ["_law_low", "_law_high"] spBetR := by
  refine T.F_w_between_right.ok sc_w_between_right (fun vs H Q E h => ?_) (fun cdv A outer s H vs Q E hr h => ?_)
  · obtain ⟨lo, hi, rfl, _⟩ := h; rfl
  · obtain ⟨lo, hi, rfl, bl, bh, k⟩ := h
    have bl' := bl
    have bh' := bh
    unfold Bd at bl' bh'
    refine ⟨_, PSs.nox (pss_cons (ps_try_as (i := 3) (Wout := fun _ _ _ _ => False) rfl rfl sc_w_between_right.nd rfl rfl ⟨rfl, by decide, Or.inl T.gC_BadStretch⟩ takes0 (fun W pn xe tk _ => (pss_one (ps_set (i := 2) sc_w_between_right.nd rfl (Or.inl rfl) (Bl.pe_smethSD (pe_glob (v := .ref T.C_Pieces) rfl T.gC_Pieces rfl) T.cr_Pieces T.sm_Pieces_between G_Pieces_betweenX (hr.mono (by decide)) T.b_Pieces_between .nil (fun σ => passAt tk σ) (pa_cons (pv 0) (pa_cons (pv 1) pa_nil)))))) (fun a oe cls d pn hz hf => (pss_one (ps_ret (pe_and (pe_cmpR op_gt (pv 0) (pv 1) (nomark _)) (pe_one (pe_cmpR (Er.op_eqDK (K := K) rfl hr.units) (pe_xf T.xf_BadStretch (T.Z_BadStretch w).noN hz hf (pv 3)) (pe_tup (pa_cons (pe_tup (pa_cons (pv 0) (pa_cons pe_int pa_nil))) (pa_cons pe_bl (pa_cons (pe_tup (pa_cons (pv 1) (pa_cons pe_int pa_nil))) (pa_cons pe_bl pa_nil))))) (nomark _))))))))
    (pss_one (ps_ret (pe_and (pe_cmpR op_le (pv 0) (pv 1) (nomark _)) (pe_one (pe_call G_w_right (hr.mono (by decide)) rfl T.g_w_right T.F_w_right.kp T.b_w_right .nil pass0 (pa_cons (pv 2) (pa_cons (pe_lst (pa_cons (pe_tup (pa_cons (pv 0) (pa_cons pe_bl (pa_cons (pv 1) (pa_cons pe_bl pa_nil))))) pa_nil)) (pa_cons pe_int pa_nil))))))))), ?_⟩
    walk_at "start"
    walk_at "sts"
    refine Bl.r_smethSD ?_
    walk_at "sts"
    refine ⟨rfl, ?_⟩
    walk_at "sts"
    refine ⟨lo, hi, rfl, by unfold Sm; omega, by unfold Sm; omega, fun le x L H1 k1 nx hx cv => ?_, fun lt H1 a e k1 hra he => ?_⟩
    · try simp only [List.set_cons_succ, List.set_cons_zero]
      walk_at "sts"
      try (refine r_iteT le ?_; walk_at "sts")
      intro u nu
      have k2 : Keep [] H1 (upd H1 u (.tup [.int lo, .bl true, .int hi, .bl true])) := Keep.new nu
      have e2 : upd H1 u (.tup [.int lo, .bl true, .int hi, .bl true]) u = some (.tup [.int lo, .bl true, .int hi, .bl true]) := upd_same
      generalize upd H1 u (.tup [.int lo, .bl true, .int hi, .bl true]) = H2 at k2 e2 ⊢
      walk_at "sts"
      intro v nv
      have k3 : Keep [] H2 (upd H2 v (.lst [.ref u])) := Keep.new nv
      have e3 : upd H2 v (.lst [.ref u]) v = some (.lst [.ref u]) := upd_same
      generalize upd H2 v (.lst [.ref u]) = H3 at k3 e3 ⊢
      walk_at "sts"
      have gd : BdRW (some lo, true, some hi, true) ∧ Good (dbl (some lo, true, some hi, true)) := by
        refine ⟨⟨fun t e => by cases e; unfold BdW; omega, fun t e => by cases e; unfold BdW; omega⟩, ⟨by unfold Bad0 dbl; simp, ?_⟩⟩
        show 2 * (2 * lo) + 0 < 2 * (2 * hi) + 1
        omega
      have es : setOf [(some lo, true, some hi, true)] = [(4 * lo, 4 * hi + 1)] := by
        show [((2 * (2 * lo) + 0 : Int), (2 * (2 * hi) + 1 : Int))] = _
        congr 1
        exact Prod.ext (show 2 * (2 * lo) + 0 = 4 * lo by omega) (show 2 * (2 * hi) + 1 = 4 * hi + 1 by omega)
      rw [← es] at cv
      refine ⟨x, v, [(some lo, true, some hi, true)], L, 1, rfl, f1ok, hx.k0 (k2.trans k3), ⟨[u], e3, ⟨k3 _ _ (by simp) e2, trivial⟩⟩, fun r m => by rw [List.mem_singleton.mp m]; exact gd, by simp, CovN.ro cv (fun r m => by rw [List.mem_singleton.mp m]; exact gd.1) (by simp), fun H4 k4 => ?_⟩
      exact k _ (((k1.trans k2).trans k3).trans k4)
    · refine ⟨true, T.exm_BadStretch_BadStretch, fun _ o ho => ?_, fun z => nomatch z⟩
      have he' : upd H1 e (.xd [("stretch", .ref a)]) e = some (.xd [("stretch", .ref a)]) := upd_same
      have k4 : Keep [] H1 (upd H1 e (.xd [("stretch", .ref a)])) := Keep.new he
      have hra4 := hra.k k4.t0
      generalize upd H1 e (.xd [("stretch", .ref a)]) = H5 at he' k4 ho hra4 ⊢
      try simp only [List.set_cons_succ, List.set_cons_zero]
      walk_at "sts"
      try (refine r_iteT lt ?_; walk_at "sts")
      refine Er.r_xfE he' rfl ?_
      walk_at "sts"
      intro u nu
      have k6 : Keep [] H5 (upd H5 u (.tup [.int lo, .int 1])) := Keep.new nu
      have e6 : upd H5 u (.tup [.int lo, .int 1]) u = some (.tup [.int lo, .int 1]) := upd_same
      generalize upd H5 u (.tup [.int lo, .int 1]) = H6 at k6 e6 ⊢
      walk_at "sts"
      intro v nv
      have k7 : Keep [] H6 (upd H6 v (.tup [.int hi, .int 1])) := Keep.new nv
      have e7 : upd H6 v (.tup [.int hi, .int 1]) v = some (.tup [.int hi, .int 1]) := upd_same
      generalize upd H6 v (.tup [.int hi, .int 1]) = H7 at k7 e7 ⊢
      walk_at "sts"
      intro z nz
      have k8 : Keep [] H7 (upd H7 z (.tup [.ref u, .bl true, .ref v, .bl true])) := Keep.new nz
      have e8 : upd H7 z (.tup [.ref u, .bl true, .ref v, .bl true]) z = some (.tup [.ref u, .bl true, .ref v, .bl true]) := upd_same
      generalize upd H7 z (.tup [.ref u, .bl true, .ref v, .bl true]) = H8 at k8 e8 ⊢
      have k58 := (k6.trans k7).trans k8
      have one : ∀ x : Int, (.tup [.int x, .int 1] : HO) = .tup (loP (2 * x) 2) := fun x => by
        unfold loP
        rw [← one_two.1, ← one_two.2, lowT_one, lowB_one]
      have hz : RwAt 2 H8 z (some (2 * lo), true, some (2 * hi), true) := ⟨.ref u, .ref v, e8, ⟨u, rfl, by unfold PairAt; rw [← one lo]; exact (k7.trans k8) _ _ (by simp) e6⟩, ⟨v, rfl, by unfold PairAt; rw [← one hi]; exact k8 _ _ (by simp) e7⟩⟩
      have he8 := k58 _ _ (by simp) he'
      refine r_eqRw (by decide) (hra4.k k58.t0) hz ?_
      rw [decide_eq_true rfl]
      have kk := (k1.trans k4).trans k58
      first | exact k _ kk | (walk_at "sts"; first | exact k _ kk | skip)
theorem ok_refuse (T : Tx K mg) (G_w_take : FnOk PG w K mg base CX0 1 T.f_w_take T.fd_w_take ["_law_pot_here", "_law_size"] spTake) (G_w_wrong : FnOk PG w K mg base CX0 3 T.f_w_wrong T.fd_w_wrong ["_law_pot_here", "_law_fine", "_law_ends_here"] spWrong)
    (G_w_good : FnOk PG w K mg base CX0 1 T.f_w_good T.fd_w_good ["_law_one"] spGood) (G_w_handed : FnOk PG w K mg base CX0 3 T.f_w_handed T.fd_w_handed ["_law_stretches_here", "_law_fine"] spHand)
    (G_w_piecesX : FnOk PG w K mg base (L2.CX PG w) 15 T.f_w_pieces T.fd_w_pieces ["_law_given"] (spLPs T.C_Pieces T.C_BadStretch)) (G_w_right : FnOk PG w K mg base CX0 8 T.f_w_right T.fd_w_right ["_law_found", "_law_stretches_here", "_law_fine"] (spRight T.C_Pieces)) :
    FnOk PG w K mg base CX0 16 T.f_w_refusal_right T.fd_w_refusal_right ["_law_pot_here", "_law_stretches_here", "_law_fine", "_law_ends_here"] spRefuse := by
  refine T.F_w_refusal_right.ok sc_w_refusal_right (fun vs H Q E h => ?_) (fun cdv A outer s H vs Q E hr h => ?_)
  · obtain ⟨o, e, p, rs, es, f, rfl, _⟩ := h; rfl
  · obtain ⟨o, e, p, rs, es, f, rfl, po, hf, neo, npo, npe, he, ⟨as, ep, ha⟩, ok, l5, k⟩ := h
    have la := ha.len
    refine ⟨_, PSs.nox (pss_cons (ps_set (i := 4) sc_w_refusal_right.nd rfl (Or.inl rfl) (pe_callTy call_list_of (by rfl) T.m_list (by decide +kernel) (pa_cons (pv 1) pa_nil)))
    (pss_cons (ps_for PassesOwn.never rfl (pi_range1 rfl T.m_range (pa_cons pe_int pa_nil)) (pg_name (i := 5) sc_w_refusal_right.nd rfl (Or.inl rfl))
    (pss_cons (ps_set (i := 6) sc_w_refusal_right.nd rfl (Or.inl rfl) (pe_call G_w_take (hr.mono (by decide)) rfl T.g_w_take T.F_w_take.kp T.b_w_take .nil pass0 (pa_cons (pv 0) (pa_cons (pe_op op_add (pe_callB call_len_seq (by rfl) T.m_len PySem.boot_len (pa_cons (pv 4) pa_nil)) pe_int) pa_nil))))
    (pss_one (ps_set (i := 4) sc_w_refusal_right.nd rfl (Or.inl rfl) (pe_op op_cat (pe_op op_cat (pe_slice sl_list (pv 4) po_none (po_some (pv 6))) (pe_lst (pa_cons (pe_call G_w_wrong (hr.mono (by decide)) rfl T.g_w_wrong T.F_w_wrong.kp T.b_w_wrong .nil pass0 (pa_cons (pv 0) (pa_cons (pv 2) (pa_cons (pv 3) pa_nil)))) pa_nil))) (pe_slice sl_list (pv 4) (po_some (pv 6)) po_none))))))
    (pss_cons (ps_set (i := 7) sc_w_refusal_right.nd rfl (Or.inl rfl) (pe_call G_w_handed (hr.mono (by decide)) rfl T.g_w_handed T.F_w_handed.kp T.b_w_handed .nil pass0 (pa_cons (pe_lc (own := [("_law_one", 8)]) (g := gName 8)  rfl sc_w_refusal_right.nd (pi_list (pv 4)) (blkOk_by (own := [("_law_one", 8)]) (N := ["_law_pot_here", "_law_stretches_here", "_law_fine", "_law_ends_here", "_law_given", "_law_turn", "_law_at", "_law_bad", "_law_one", "_law_found", "e"]) (sc := defScope s_w_refusal_right) (by decide +kernel)) (fun _ _ _ _ _ => pg_name (i := 8) sc_w_refusal_right.nd rfl (Or.inl rfl)) (fun _ _ _ _ _ => pts_one (pt_not (pt_val (pe_call G_w_good (hr.mono (by decide)) rfl T.g_w_good T.F_w_good.kp T.b_w_good .nil pass0 (pa_cons (pv 8) pa_nil))))) (fun _ _ _ _ _ => (pv 8))) (pa_cons (pv 2) pa_nil))))
    (pss_cons (ps_try_as (i := 10) (Wout := fun _ _ _ _ => False) rfl rfl sc_w_refusal_right.nd rfl rfl ⟨rfl, by decide, Or.inl T.gC_BadStretch⟩ takes0 (fun W pn xe tk _ => (pss_one (ps_set (i := 9) sc_w_refusal_right.nd rfl (Or.inl rfl) (pe_callSD G_w_piecesX (hr.mono (by decide)) rfl T.g_w_pieces T.F_w_pieces.kp T.b_w_pieces .nil (fun σ => passAt tk σ) (pa_cons (pe_call G_w_handed (hr.mono (by decide)) rfl T.g_w_handed T.F_w_handed.kp T.b_w_handed .nil pass0 (pa_cons (pv 4) (pa_cons (pv 2) pa_nil))) pa_nil))))) (fun a oe cls d pn hz hf => (pss_one (ps_ret (pe_and (pe_cmpR (Er.op_neDK (K := K) rfl hr.units) (pv 7) (pe_lst pa_nil) (nomark _)) (pe_and (pe_cmpR (Er.op_eqDK (K := K) rfl hr.units) (pe_xf T.xf_BadStretch (T.Z_BadStretch w).noN hz hf (pv 10)) (pe_ix (ix_listK (K := K) rfl) (pv 7) pe_int (fun _ _ => rfl)) (nomark _)) (pe_and (pe_callB (Er.call_isD hz hf) (by rfl) T.m_isinstance (by decide +kernel) (pa_cons (pv 10) (pa_cons (pe_glob (v := .ref T.C_MeteError) rfl T.gC_MeteError rfl) pa_nil))) (pe_one (pe_callB (Er.call_isD hz hf) (by rfl) T.m_isinstance (by decide +kernel) (pa_cons (pv 10) (pa_cons (pe_bltn (v := .ty "ValueError") (by rfl) T.m_ValueError boot_ValueError rfl) pa_nil)))))))))))
    (pss_one (ps_ret (pe_and (pe_cmpR (op_eqD hr.units) (pv 7) (pe_lst pa_nil) (nomark _)) (pe_one (pe_call G_w_right (hr.mono (by decide)) rfl T.g_w_right T.F_w_right.kp T.b_w_right .nil pass0 (pa_cons (pv 9) (pa_cons (pv 4) (pa_cons (pv 2) pa_nil)))))))))))), ?_⟩
    walk_at "start"
    walk_at "sts"
    intro g0 ng
    have k0 : Keep [] H (upd H g0 (.lst (as.map V.ref))) := Keep.new ng
    have eg : upd H g0 (.lst (as.map V.ref)) g0 = some (.lst (as.map V.ref)) := upd_same
    generalize upd H g0 (.lst (as.map V.ref)) = H1 at k0 eg ⊢
    walk_at "sts"
    refine forR1_go (fun i σ' H' => ∃ (g : Addr) (bs : List Addr) (gs : List Rw) (y5 y6 y7 y8 y9 y10 : Option V), σ' = [some (.ref o), some (.ref p), some (.int f), some (.ref e), some (.ref g), y5, y6, y7, y8, y9, y10] ∧ (y7 = none ∧ y8 = none ∧ y9 = none ∧ y10 = none) ∧ Keep [o] H H' ∧ PotAt o H' ∧ EsAt H' e es ∧ g ≠ o ∧ H' g = some (.lst (bs.map V.ref)) ∧ AllP (RawAt H') bs gs ∧ (∀ r ∈ gs, BdR r) ∧ gs.length = rs.length + i) ⟨by omega, by omega⟩ ⟨g0, as, rs, _, _, _, _, _, _, by first | exact rfl | trivial, ⟨rfl, rfl, rfl, rfl⟩, k0.mono (fun _ h => (List.not_mem_nil h).elim), po.k0 k0, ⟨k0 _ _ (by simp) he.at_, he.bd, he.len⟩, po.ne ng, eg, ha.mono fun a x h => h.k k0.t0, fun r m => (ok r m).1, rfl⟩ ?_ ?_
    · rintro i σ' H2 hi ⟨g, bs, gs, y5, y6, y7, y8, y9, y10, rfl, ⟨rfl, rfl, rfl, rfl⟩, k2, p2, he2, ngo, eg2, hbs, bd, lg⟩
      have lb := hbs.len
      have lmb : (bs.map V.ref).length = gs.length := by rw [List.length_map]; exact lb
      walk_at "sts"
      rw [lmb]
      have lg7 : gs.length ≤ 6 := by omega
      refine r_take p2 (by omega) (by have : (gs.length : Int) ≤ 6 := by omega
                                      omega) fun at' H3 z0 z1 k3 p3 => ?_
      obtain ⟨n, rfl⟩ : ∃ n : Nat, at' = (n : Int) := ⟨at'.toNat, by omega⟩
      have eg3 := k3 _ _ (by simpa using ngo) eg2
      have he3 := he2.k k3 neo
      walk_at "sts"
      refine r_slL (sqL_of eg3) fun u nu => ?_
      rw [cutV_to (by rw [lmb]; omega), ← List.map_take]
      have k4 : Keep [] H3 (upd H3 u (.lst ((bs.take n).map V.ref))) := Keep.new nu
      have e4 : upd H3 u (.lst ((bs.take n).map V.ref)) u = some (.lst ((bs.take n).map V.ref)) := upd_same
      generalize upd H3 u (.lst ((bs.take n).map V.ref)) = H4 at k4 e4 ⊢
      have p4 := p3.k0 k4
      have he4 : EsAt H4 e es := ⟨k4 _ _ (by simp) he3.at_, he3.bd, he3.len⟩
      have nuo : u ≠ o := p3.ne nu
      walk_at "sts"
      refine ⟨o, e, f, es, rfl, p4, hf, neo, he4, fun q r H5 k5 p5 hr5 br => ?_⟩
      have he5 := he4.k k5 neo
      have e5 := k5 _ _ (by simpa using nuo) e4
      have eg5 := k5 _ _ (by simpa using ngo) (k4 _ _ (by simp) eg3)
      walk_at "sts"
      intro v nv
      have k6 : Keep [] H5 (upd H5 v (.lst [.ref q])) := Keep.new nv
      have e6 : upd H5 v (.lst [.ref q]) v = some (.lst [.ref q]) := upd_same
      generalize upd H5 v (.lst [.ref q]) = H6 at k6 e6 ⊢
      walk_at "sts"
      refine r_cat (k6 _ _ (by simp) e5) e6 (le_size (by simp only [List.length_map, List.length_take, List.length_cons, List.length_nil]; omega)) fun c nc => ?_
      rw [show (bs.take n).map V.ref ++ [V.ref q] = (bs.take n ++ [q]).map V.ref by rw [List.map_append]; rfl]
      have k7 : Keep [] H6 (upd H6 c (.lst ((bs.take n ++ [q]).map V.ref))) := Keep.new nc
      have e7 : upd H6 c (.lst ((bs.take n ++ [q]).map V.ref)) c = some (.lst ((bs.take n ++ [q]).map V.ref)) := upd_same
      generalize upd H6 c (.lst ((bs.take n ++ [q]).map V.ref)) = H7 at k7 e7 ⊢
      walk_at "sts"
      refine r_slL (sqL_of ((k6.trans k7) _ _ (by simp) eg5)) fun d nd => ?_
      rw [cutV_from (by rw [lmb]; omega), ← List.map_drop]
      have k8 : Keep [] H7 (upd H7 d (.lst ((bs.drop n).map V.ref))) := Keep.new nd
      have e8 : upd H7 d (.lst ((bs.drop n).map V.ref)) d = some (.lst ((bs.drop n).map V.ref)) := upd_same
      generalize upd H7 d (.lst ((bs.drop n).map V.ref)) = H8 at k8 e8 ⊢
      refine r_cat (k8 _ _ (by simp) e7) e8 (le_size (by simp only [List.length_map, List.length_take, List.length_drop, List.length_append, List.length_cons, List.length_nil]; omega)) fun g' ng' => ?_
      rw [← List.map_append]
      have k9 : Keep [] H8 (upd H8 g' (.lst ((bs.take n ++ [q] ++ bs.drop n).map V.ref))) := Keep.new ng'
      have e9 : upd H8 g' (.lst ((bs.take n ++ [q] ++ bs.drop n).map V.ref)) g' = some (.lst ((bs.take n ++ [q] ++ bs.drop n).map V.ref)) := upd_same
      generalize upd H8 g' (.lst ((bs.take n ++ [q] ++ bs.drop n).map V.ref)) = H9 at k9 e9 ⊢
      have k59 := ((k6.trans k7).trans k8).trans k9
      have t23 := k3.t1 p2.noT
      have t45 := k5.t1 p4.noT
      have t29 := ((t23.trans k4.t0).trans t45).trans k59.t0
      have hbs9 := hbs.mono fun a x (h : RawAt H2 a x) => h.k t29
      have all9 : AllP (RawAt H9) (bs.take n ++ [q] ++ bs.drop n) (gs.take n ++ [r] ++ gs.drop n) := ((hbs9.take (n := n)).snoc (hr5.k k59.t0)).app hbs9.drop
      have p9 := p5.k0 k59
      walk_at "sts"
      refine ⟨g', _, _, _, _, _, _, _, _, by first | exact rfl | trivial, ⟨rfl, rfl, rfl, rfl⟩, (((k2.trans k3).trans (k4.mono fun _ h => (List.not_mem_nil h).elim)).trans k5).trans (k59.mono fun _ h => (List.not_mem_nil h).elim), p9, ⟨k59 _ _ (by simp) he5.at_, he5.bd, he5.len⟩, (p5.k0 ((k6.trans k7).trans k8)).ne ng', e9, all9, fun x m => ?_, by simp only [List.length_append, List.length_take, List.length_drop, List.length_cons, List.length_nil]; omega⟩
      rcases List.mem_append.mp m with m | m
      · rcases List.mem_append.mp m with m | m
        · exact bd x (List.mem_of_mem_take m)
        · rw [List.mem_singleton.mp m]; exact br
      · exact bd x (List.mem_of_mem_drop m)
    · rintro σ' H2 ⟨g, bs, gs, y5, y6, y7, y8, y9, y10, rfl, ⟨rfl, rfl, rfl, rfl⟩, k2, p2, he2, ngo, eg2, hbs, bd, lg⟩
      have lb := hbs.len
      have lmb : (bs.map V.ref).length = gs.length := by rw [List.length_map]; exact lb
      replace lg : gs.length = rs.length + 2 := lg
      walk_at "sts"
      refine lcL_go (fun D i acc H' => ∃ (cs : List Addr), acc = cs.map V.ref ∧ AllP (RawAt H') cs ((gs.take i).filter fun r => !good (dbl r)) ∧ Keep [] H2 H' ∧ H2 D = none) (sqL_of eg2) (fun D nD => ⟨[], rfl, trivial, Keep.new nD, nD⟩) (fun D i acc H' _ h => by obtain ⟨_, _, _, k, _⟩ := h; exact sqL_of (k _ _ (by simp) eg2)) ?_ ?_
      · rintro D i v acc H' hv hD ⟨cs, rfl, hcs, kc, nD⟩
        obtain ⟨a, hai, rfl⟩ := getRf hv
        obtain ⟨r, hr0, hra⟩ := hbs.get hai
        have hi := (List.getElem?_eq_some_iff.mp hr0).1
        have lc := hcs.len
        have lf : cs.length ≤ 10 := by
          rw [lc]
          exact Nat.le_trans (List.length_filter_le ..) (by rw [List.length_take]; omega)
        have hra' := hra.k kc.t0
        walk_at "sts"
        refine ⟨a, r, rfl, bd r (List.mem_of_getElem? hr0), hra', ?_⟩
        refine ⟨_, rfl, ?_⟩
        cases hgd : good (dbl r) with
        | true =>
          try rw [Bool.not_true, if_neg (by decide)]
          refine ⟨_, hD, cs, rfl, ?_, kc, nD⟩
          rw [take_s hr0, List.filter_append]
          have : [r].filter (fun r => !good (dbl r)) = [] := by simp [hgd]
          rw [this, List.append_nil]; exact hcs
        | false =>
          try rw [Bool.not_false, if_pos rfl]
          walk_at "sts"
          refine lc_put hD (by rw [List.length_map]; exact lt_size (by omega)) ⟨cs ++ [a], by rw [List.map_append]; rfl, ?_, kc.mut nD, nD⟩
          have t5 := (Keep.at (M := [D]) (p := D) (H := H') (o := HO.lst (cs.map V.ref ++ [V.ref a])) (by simp)).t1 (noT_l hD)
          rw [take_s hr0, List.filter_append]
          have : [r].filter (fun r => !good (dbl r)) = [r] := by simp [hgd]
          rw [this]
          exact (hcs.mono fun a x (h : RawAt H' a x) => h.k t5).snoc (hra'.k t5)
      · rintro D acc H3 nD hD ⟨cs, rfl, hcs, kc, _⟩
        rw [lmb, List.take_length] at hcs
        have lf : (gs.filter fun r => !good (dbl r)).length ≤ 7 := Nat.le_trans (List.length_filter_le ..) (by omega)
        walk_at "sts"
        refine ⟨D, f, _, rfl, hf, ⟨cs, hD, hcs⟩, by omega, fun bq bs2 H4 k4 nbq eb hb2 => ?_⟩
        have k24 := kc.trans k4
        have hg4 : RawsAt H4 g gs := ⟨bs, k24 _ _ (by simp) eg2, hbs.mono fun a x h => h.k k24.t0⟩
        walk_at "sts"
        refine ⟨g, f, gs, rfl, hf, hg4, by omega, fun q2 ds H5 k5 nq2 eq2 hds => ?_⟩
        have k25 := k24.trans k5
        have eb5 := k5 _ _ (by simp) eb
        have hb5 := hb2.mono fun a x (h : RwAt (2 * f) H4 a x) => h.k k5.t0
        walk_at "sts"
        have g0 := hf.g.pos
        have k05 : Keep [o] H H5 := k2.trans (k25.mono fun _ h => (List.not_mem_nil h).elim)
        refine ⟨q2, ds, gs.map dbl, 2 * f, rfl, hf.g, eq2, hds, fun r m => ?_, by rw [List.length_map]; omega, fun gall x L H6 k6 nx hx cv => ?_, fun i a r ha' hr' hj ngd H6 ex k6 hex => ?_⟩
        · obtain ⟨r', mr, rfl⟩ := List.mem_map.mp m
          exact bdr_sm (bd r' mr)
        · have gd : ∀ r ∈ gs, Good (dbl r) := fun r m => gall _ (List.mem_map.mpr ⟨r, m, rfl⟩)
          have fe : (gs.filter fun r => !good (dbl r)) = [] := by
            rw [List.filter_eq_nil_iff]
            intro r m
            rw [good_iff.mpr (gd r m)]; decide
          have eb6 := k6 _ _ (by simp) eb5
          have hb6 := hb5.mono fun a x (h : RwAt (2 * f) H5 a x) => h.k k6.t0
          try simp only [List.set_cons_succ, List.set_cons_zero]
          walk_at "sts"
          intro u nu
          have k7 : Keep [] H6 (upd H6 u (.lst [])) := Keep.new nu
          have e7 : upd H6 u (.lst []) u = some (.lst []) := upd_same
          generalize upd H6 u (.lst []) = H7 at k7 e7 ⊢
          refine r_eqRws (as := bs2) (bs := []) (rs := (gs.filter fun r => !good (dbl r)).map dbl) (ss := []) g0 (k7 _ _ (by simp) eb6) e7 (hb6.mono fun a x (h : RwAt (2 * f) H6 a x) => h.k k7.t0) trivial ?_
          rw [fe, show decide (([] : List Rw).map dbl = []) = true from rfl]
          walk_at "sts"
          have k57 := k6.trans k7
          rw [← setOf_map] at cv
          have hg7 : RawsAt H7 g gs := (hg4.k0 k5).k0 k57
          have okW : ∀ r ∈ gs, BdRW r ∧ Good (dbl r) := fun r m => ⟨(bd r m).w, gd r m⟩
          refine ⟨x, g, gs, L, f, rfl, hf, hx.k0 k7, hg7, okW, by omega, CovN.ro cv (fun r m => (okW r m).1) (by omega), fun H8 k8 => ?_⟩
          have k58 := k57.trans k8
          exact k _ (k05.trans (k58.mono fun _ h => (List.not_mem_nil h).elim)) (p2.k0 (k25.trans k58))
        · refine ⟨true, T.exm_BadStretch_BadStretch, fun _ o' ho => ?_, fun z => nomatch z⟩
          obtain ⟨r0, hr00, er⟩ : ∃ r0, gs[i]? = some r0 ∧ r = dbl r0 := by
            rw [List.getElem?_map] at hr'
            cases e : gs[i]? with
            | none => rw [e] at hr'; cases hr'
            | some r0 => rw [e] at hr'; exact ⟨r0, rfl, (Option.some.inj hr').symm⟩
          subst er
          obtain ⟨t, ft⟩ := filter_hd (p := fun r => !good (dbl r)) hr00 (by
            have : good (dbl r0) = false := by
              cases hh : good (dbl r0) with
              | false => rfl
              | true => exact (ngd (good_iff.mp hh)).elim
            simp [this]) (fun j y hj' hy => by
            have := hj j (dbl y) hj' (by rw [List.getElem?_map, hy]; rfl)
            simp [good_iff.mpr this])
          have hra : RwAt (2 * f) H5 a (dbl r0) := by
            obtain ⟨x0, hx0, hxa⟩ := hds.get ha'
            rw [List.getElem?_map, hr00] at hx0
            cases hx0; exact hxa
          have he' : upd H6 ex (.xd [("stretch", .ref a)]) ex = some (.xd [("stretch", .ref a)]) := upd_same
          have k7 : Keep [] H6 (upd H6 ex (.xd [("stretch", .ref a)])) := Keep.new hex
          generalize upd H6 ex (.xd [("stretch", .ref a)]) = H7 at he' k7 ho ⊢
          have k57 := k6.trans k7
          rw [ft] at hb5
          rcases bs2 with _ | ⟨b0, bs2⟩
          · exact hb5.elim
          have hb0 : RwAt (2 * f) H5 b0 (dbl r0) := hb5.1
          try simp only [List.set_cons_succ, List.set_cons_zero]
          walk_at "sts"
          intro u nu
          have k8 : Keep [] H7 (upd H7 u (.lst [])) := Keep.new nu
          have e8 : upd H7 u (.lst []) u = some (.lst []) := upd_same
          generalize upd H7 u (.lst []) = H8 at k8 e8 ⊢
          have k58 := k57.trans k8
          have eb8 := k58 _ _ (by simp) eb5
          have he8 := k8 _ _ (by simp) he'
          refine r_neRws (as := b0 :: bs2) (bs := []) (rs := (r0 :: t).map dbl) (ss := []) g0 eb8 e8 (hb5.mono fun a x (h : RwAt (2 * f) H5 a x) => h.k k58.t0) trivial ?_
          rw [show decide ((r0 :: t).map dbl = []) = false from decide_eq_false (by simp)]
          have eb8' : H8 bq = some (.lst (V.ref b0 :: bs2.map V.ref)) := eb8
          walk_at "sts"
          refine Er.r_xfE he8 rfl ?_
          walk_at "sts"
          refine r_eqRw g0 (hra.k k58.t0) (hb0.k k58.t0) ?_
          rw [decide_eq_true rfl]
          walk_at "sts"
          refine Er.r_isD T.X_BadStretch he8 (fun u r => r) T.kit_BadStretch_MeteError ?_
          walk_at "sts"
          refine Er.r_isD T.X_BadStretch he8 (fun u r => r) T.kit_BadStretch_ValueError ?_
          have fin := k H8 (k05.trans (k58.mono fun _ h => (List.not_mem_nil h).elim)) (p2.k0 (k25.trans k58))
          first | exact fin | (walk_at "sts"; exact fin)
end
open PySem PySem.Spec PyProof.Rows L2 StX Pc
/-! ### two sets are right -/
def spTwoR (C : Addr) : Sp := fun vs H Q _ => ∃ (x y p q : Addr) (rs ss : List Rw) (L M : List Iv) (f : Int), vs = [.ref x, .ref y, .ref p, .ref q, .int f] ∧ FOk f ∧ PiecesAt C (2 * f) H x L ∧ PiecesAt C (2 * f) H y M ∧ RawsAt H p rs ∧ RawsAt H q ss ∧ (∀ r ∈ rs, BdRW r ∧ Good (dbl r)) ∧ (∀ r ∈ ss, BdRW r ∧ Good (dbl r)) ∧ rs.length ≤ 5 ∧ ss.length ≤ 5 ∧ CovN (setOf rs) 1 L ∧ CovN (setOf ss) 1 M ∧ ∀ H', Keep [] H H' → Q (.bl true) H'
def rgL (n : Nat) : List V := (List.range n).map fun (k : Nat) => V.int (k : Int)
theorem r_listRg {ta : TE} {σ : L2.St} {H : Hp} {Q : VK} (k : ta σ H fun x H1 => ∃ n : Int, x = .int n ∧ RgOk 0 n ∧ ∀ q, H1 q = none → Q (.ref q) (upd H1 q (.lst (rgV 0 n)))) : tLstRg (tRg1 ta) σ H Q := k
theorem rgV_rgL {n : Nat} : rgV 0 (n : Int) = rgL n := by
  unfold rgV rgL
  rw [Int.sub_zero, Int.toNat_natCast]
  exact List.map_congr_left fun i _ => by rw [Int.zero_add]
/-- what stands through it all -/
structure Tw (C : Addr) (f : Int) (x y e a b c : Addr) (L M : List Iv) (U : List Int) (m1 m2 : List Bool) (H : Hp) : Prop where
  hx : PiecesAt C (2 * f) H x L
  hy : PiecesAt C (2 * f) H y M
  ee : H e = some (.lst (U.map V.int))
  e1 : H a = some (.lst (m1.map V.bl))
  e2 : H b = some (.lst (m2.map V.bl))
  pl : H c = some (.lst (rgL (2 * U.length + 1)))
theorem Tw.k {C : Addr} {f : Int} {x y e a b c : Addr} {L M : List Iv} {U : List Int} {m1 m2 : List Bool} {H H' : Hp} (t : Tw C f x y e a b c L M U m1 m2 H) (k : Keep [] H H') : Tw C f x y e a b c L M U m1 m2 H' :=
  ⟨t.hx.k0 k, t.hy.k0 k, k _ _ (by simp) t.ee, k _ _ (by simp) t.e1, k _ _ (by simp) t.e2, k _ _ (by simp) t.pl⟩
theorem rgL_at {n i : Nat} (h : i < n) : (rgL n)[i]? = some (V.int (i : Int)) := by unfold rgL; rw [List.getElem?_map, List.getElem?_range h]; rfl
theorem rgL_len {n : Nat} : (rgL n).length = n := by unfold rgL; simp
theorem Marks.comb {E : List Int} {T1 T2 T : Int → Prop} {m1 m2 ms : List Bool} {φ : Bool → Bool → Bool} (M1 : Marks E T1 m1) (M2 : Marks E T2 m2) (l : ms.length = 2 * E.length + 1) (h : ∀ k b1 b2, k < ms.length → m1[k]? = some b1 → m2[k]? = some b2 → ms[k]? = some (φ b1 b2))
    (hT : ∀ z b1 b2, (b1 = true ↔ T1 z) → (b2 = true ↔ T2 z) → (φ b1 b2 = true ↔ T z)) : Marks E T ms := by
  refine ⟨l, fun k b hb => ?_⟩
  have hk := (List.getElem?_eq_some_iff.mp hb).1
  obtain ⟨b1, h1⟩ : ∃ b, m1[k]? = some b := ⟨_, List.getElem?_eq_getElem (by rw [M1.len]; omega)⟩
  obtain ⟨b2, h2⟩ : ∃ b, m2[k]? = some b := ⟨_, List.getElem?_eq_getElem (by rw [M2.len]; omega)⟩
  have := h k b1 b2 hk h1 h2
  rw [hb] at this
  rw [Option.some.inj this]
  exact hT _ _ _ (M1.is k b1 h1) (M2.is k b2 h2)
theorem snoc_at {ms : List Bool} {i : Nat} {φ : Bool → Bool → Bool} {m1 m2 : List Bool} {c1 c2 x : Bool} (l : ms.length = i) (h : ∀ k b1 b2, k < i → m1[k]? = some b1 → m2[k]? = some b2 → ms[k]? = some (φ b1 b2)) (h1 : m1[i]? = some c1) (h2 : m2[i]? = some c2) (hx : x = φ c1 c2) :
    (ms ++ [x]).length = i + 1 ∧ ∀ k b1 b2, k < i + 1 → m1[k]? = some b1 → m2[k]? = some b2 → (ms ++ [x])[k]? = some (φ b1 b2) := by
  refine ⟨by rw [List.length_append, List.length_singleton, l], fun k b1 b2 hk e1 e2 => ?_⟩
  rcases Nat.lt_or_ge k i with c | c
  · rw [List.getElem?_append_left (by omega)]; exact h k b1 b2 c e1 e2
  · have : k = i := by omega
    subst this
    rw [h1] at e1; rw [h2] at e2
    cases e1; cases e2
    rw [List.getElem?_append_right (by omega), l, Nat.sub_self, hx]; rfl
theorem eqv_bls : ∀ {a b : List Bool}, PyData.eqvAll ((a.map V.bl).map fdV) ((b.map V.bl).map fdV) = decide (a = b)
  | [], [] => by simp [PyData.eqvAll]
  | [], _ :: _ => by simp [PyData.eqvAll]
  | _ :: _, [] => by simp [PyData.eqvAll]
  | x :: a, y :: b => by
    have e : (x == y) = decide (x = y) := by rw [Bool.eq_iff_iff]; simp
    simp only [List.map_cons, PyData.eqvAll, eqv_bls, fdV, PyData.eqv, e]
    rw [Bool.eq_iff_iff]; simp
theorem fl_bl' {us : List Bool} : (us.map V.bl).all flatV = true := by rw [List.all_eq_true]; intro x hx; obtain ⟨u, _, rfl⟩ := List.mem_map.mp hx; rfl
section
variable {w : World} {K : PySem.W.Frag} {mg : Str → Option Value} {base : Heap}
set_option maxHeartbeats 8000000 in
theorem ok_twoR (T : Tx K mg) (G_w_ends : FnOk PG w K mg base CX0 1 T.f_w_ends T.fd_w_ends ["_law_stretches_here"] spEnds) (G_w_probes : FnOk PG w K mg base CX0 1 T.f_w_probes T.fd_w_probes ["_law_ends_here"] spProbes)
    (G_w_marks : FnOk PG w K mg base CX0 3 T.f_w_marks T.fd_w_marks ["_law_stretches_here", "_law_probes_here", "_law_fine"] spMarks) (G_w_due_parts : FnOk PG w K mg base CX0 3 T.f_w_due_parts T.fd_w_due_parts ["_law_ends_here", "_law_marks_here", "_law_fine"] spDue)
    (G_w_parts_are : FnOk PG w K mg base CX0 4 T.f_w_parts_are T.fd_w_parts_are ["_law_found", "_law_due"] (spParts T.C_Pieces)) (G_Pieces___eq : FnOk PG w K mg base CX0 1 T.f_Pieces___eq T.fd_Pieces___eq ["self", "other"] (spEqP K T.C_Pieces))
    (G_Pieces___and : FnOk PG w K mg base CX0 15 T.f_Pieces___and T.fd_Pieces___and ["self", "other"] (spOp2 T.C_Pieces fun L M c => mem L c ∧ mem M c)) (G_Pieces___or : FnOk PG w K mg base CX0 15 T.f_Pieces___or T.fd_Pieces___or ["self", "other"] (spOp2 T.C_Pieces fun L M c => mem L c ∨ mem M c))
    (G_Pieces___sub : FnOk PG w K mg base CX0 15 T.f_Pieces___sub T.fd_Pieces___sub ["self", "other"] (spOp2 T.C_Pieces fun L M c => mem L c ∧ ¬ mem M c)) (G_Pieces___invert : FnOk PG w K mg base CX0 15 T.f_Pieces___invert T.fd_Pieces___invert ["self"] (spInv T.C_Pieces)) (G_Pieces_inside : FnOk PG w K mg base CX0 14 T.f_Pieces_inside T.fd_Pieces_inside ["self", "other"] (spInside T.C_Pieces)) :
    FnOk PG w K mg base CX0 16 T.f_w_two_right T.fd_w_two_right ["_law_one", "_law_two", "_law_left", "_law_right_here", "_law_fine"] (spTwoR T.C_Pieces) := by
  refine T.F_w_two_right.ok sc_w_two_right (fun vs H Q E h => ?_) (fun cdv A outer s H vs Q E hr h => ?_)
  · obtain ⟨x, y, p, q, rs, ss, L, M, f, rfl, _⟩ := h; rfl
  · obtain ⟨x, y, p, q, rs, ss, L, M, f, rfl, hf, hx, hy, hp, hq, hrs, hss, l5, l5', cL, cM, k⟩ := h
    have oc := T.oc_Pieces
    have na := T.na_Pieces_parts
    have g0 := hf.g.pos
    have bb := BB_big
    have bL : ∀ r ∈ rs, BdRW r := fun r m => (hrs r m).1
    have bM : ∀ r ∈ ss, BdRW r := fun r m => (hss r m).1
    have sL : ∀ q ∈ L, SmI q := cL.sm (by decide) (set_sm bL)
    have sM : ∀ q ∈ M, SmI q := cM.sm (by decide) (set_sm bM)
    have lL : L.length ≤ 5 := Nat.le_trans cL.len (by rw [show (setOf rs).length = rs.length from List.length_map _]; exact l5)
    have lM : M.length ≤ 5 := Nat.le_trans cM.len (by rw [show (setOf ss).length = ss.length from List.length_map _]; exact l5')
    have kL : Lk L 5 := ⟨cL.can, sL, lL⟩
    have kM : Lk M 5 := ⟨cM.can, sM, lM⟩
    obtain ⟨as, ep, ha⟩ := hp.ex
    obtain ⟨bs, eq, hb⟩ := hq.ex
    have la := ha.len
    have lb := hb.len
    refine ⟨_, PSs.nox (pss_cons (ps_set (i := 5) sc_w_two_right.nd rfl (Or.inl rfl) (pe_call G_w_ends (hr.mono (by decide)) rfl T.g_w_ends T.F_w_ends.kp T.b_w_ends .nil pass0 (pa_cons (pe_op op_cat (pv 2) (pv 3)) pa_nil)))
    (pss_cons (ps_set (i := 6) sc_w_two_right.nd rfl (Or.inl rfl) (pe_call G_w_probes (hr.mono (by decide)) rfl T.g_w_probes T.F_w_probes.kp T.b_w_probes .nil pass0 (pa_cons (pv 5) pa_nil)))
    (pss_cons (ps_set (i := 7) sc_w_two_right.nd rfl (Or.inr rfl) (pe_call G_w_marks (hr.mono (by decide)) rfl T.g_w_marks T.F_w_marks.kp T.b_w_marks .nil pass0 (pa_cons (pv 2) (pa_cons (pv 6) (pa_cons (pv 4) pa_nil)))))
    (pss_cons (ps_set (i := 8) sc_w_two_right.nd rfl (Or.inr rfl) (pe_call G_w_marks (hr.mono (by decide)) rfl T.g_w_marks T.F_w_marks.kp T.b_w_marks .nil pass0 (pa_cons (pv 3) (pa_cons (pv 6) (pa_cons (pv 4) pa_nil)))))
    (pss_cons (ps_set (i := 9) sc_w_two_right.nd rfl (Or.inl rfl) (pe_listRg rfl (by rfl) T.m_list (prg_1 (by rfl) T.m_range (pe_callB call_len_seq (by rfl) T.m_len PySem.boot_len (pa_cons (pv 6) pa_nil)))))
    (pss_cons (ps_if (pt_not (pt_val (pe_call G_w_parts_are (hr.mono (by decide)) rfl T.g_w_parts_are T.F_w_parts_are.kp T.b_w_parts_are .nil pass0 (pa_cons (pe_op (Ow.op_own2 T.oc_Pieces.sf T.me_Pieces___and (G_Pieces___and.raw T.b_Pieces___and .nil) (hr.mono (by decide)) pass0) (pv 0) (pv 1)) (pa_cons (pe_call G_w_due_parts (hr.mono (by decide)) rfl T.g_w_due_parts T.F_w_due_parts.kp T.b_w_due_parts .nil pass0 (pa_cons (pv 5) (pa_cons (pe_lc (own := [("_law_k", 10)]) (g := gName 10) (tt := tYes) rfl sc_w_two_right.nd (pi_list (pv 9)) (blkOk_by (own := [("_law_k", 10)]) (N := ["_law_one", "_law_two", "_law_left", "_law_right_here", "_law_fine", "_law_ends_here", "_law_probes_here", "_law_marks_here", "_law_other", "_law_places", "_law_k", "_law_mark", "_law_inside"]) (sc := defScope s_w_two_right) (by decide +kernel)) (fun _ _ _ _ _ => pg_name (i := 10) sc_w_two_right.nd rfl (Or.inl rfl)) (fun _ _ _ _ _ => pts_nil) (fun _ _ _ _ _ => (pe_and (pe_ix (ix_listK (K := K) rfl) (pv 7) (pv 10) (fun _ _ => rfl)) (pe_one (pe_ix (ix_listK (K := K) rfl) (pv 8) (pv 10) (fun _ _ => rfl)))))) (pa_cons (pv 4) pa_nil)))) pa_nil)))))
    (pss_one (ps_ret pe_bl))
    pss_nil)
    (pss_cons (ps_if (pt_not (pt_val (pe_call G_w_parts_are (hr.mono (by decide)) rfl T.g_w_parts_are T.F_w_parts_are.kp T.b_w_parts_are .nil pass0 (pa_cons (pe_op (Ow.op_own2 T.oc_Pieces.sf T.me_Pieces___or (G_Pieces___or.raw T.b_Pieces___or .nil) (hr.mono (by decide)) pass0) (pv 0) (pv 1)) (pa_cons (pe_call G_w_due_parts (hr.mono (by decide)) rfl T.g_w_due_parts T.F_w_due_parts.kp T.b_w_due_parts .nil pass0 (pa_cons (pv 5) (pa_cons (pe_lc (own := [("_law_k", 10)]) (g := gName 10) (tt := tYes) rfl sc_w_two_right.nd (pi_list (pv 9)) (blkOk_by (own := [("_law_k", 10)]) (N := ["_law_one", "_law_two", "_law_left", "_law_right_here", "_law_fine", "_law_ends_here", "_law_probes_here", "_law_marks_here", "_law_other", "_law_places", "_law_k", "_law_mark", "_law_inside"]) (sc := defScope s_w_two_right) (by decide +kernel)) (fun _ _ _ _ _ => pg_name (i := 10) sc_w_two_right.nd rfl (Or.inl rfl)) (fun _ _ _ _ _ => pts_nil) (fun _ _ _ _ _ => (pe_or (pe_ix (ix_listK (K := K) rfl) (pv 7) (pv 10) (fun _ _ => rfl)) (pe_one (pe_ix (ix_listK (K := K) rfl) (pv 8) (pv 10) (fun _ _ => rfl)))))) (pa_cons (pv 4) pa_nil)))) pa_nil)))))
    (pss_one (ps_ret pe_bl))
    pss_nil)
    (pss_cons (ps_if (pt_not (pt_val (pe_call G_w_parts_are (hr.mono (by decide)) rfl T.g_w_parts_are T.F_w_parts_are.kp T.b_w_parts_are .nil pass0 (pa_cons (pe_op (Ow.op_own2 T.oc_Pieces.sf T.me_Pieces___sub (G_Pieces___sub.raw T.b_Pieces___sub .nil) (hr.mono (by decide)) pass0) (pv 0) (pv 1)) (pa_cons (pe_call G_w_due_parts (hr.mono (by decide)) rfl T.g_w_due_parts T.F_w_due_parts.kp T.b_w_due_parts .nil pass0 (pa_cons (pv 5) (pa_cons (pe_lc (own := [("_law_k", 10)]) (g := gName 10) (tt := tYes) rfl sc_w_two_right.nd (pi_list (pv 9)) (blkOk_by (own := [("_law_k", 10)]) (N := ["_law_one", "_law_two", "_law_left", "_law_right_here", "_law_fine", "_law_ends_here", "_law_probes_here", "_law_marks_here", "_law_other", "_law_places", "_law_k", "_law_mark", "_law_inside"]) (sc := defScope s_w_two_right) (by decide +kernel)) (fun _ _ _ _ _ => pg_name (i := 10) sc_w_two_right.nd rfl (Or.inl rfl)) (fun _ _ _ _ _ => pts_nil) (fun _ _ _ _ _ => (pe_and (pe_ix (ix_listK (K := K) rfl) (pv 7) (pv 10) (fun _ _ => rfl)) (pe_one (pe_not (pe_ix (ix_listK (K := K) rfl) (pv 8) (pv 10) (fun _ _ => rfl))))))) (pa_cons (pv 4) pa_nil)))) pa_nil)))))
    (pss_one (ps_ret pe_bl))
    pss_nil)
    (pss_cons (ps_if (pt_not (pt_val (pe_call G_w_parts_are (hr.mono (by decide)) rfl T.g_w_parts_are T.F_w_parts_are.kp T.b_w_parts_are .nil pass0 (pa_cons (pe_op (Ow.op_own2 T.oc_Pieces.sf T.me_Pieces___sub (G_Pieces___sub.raw T.b_Pieces___sub .nil) (hr.mono (by decide)) pass0) (pv 1) (pv 0)) (pa_cons (pe_call G_w_due_parts (hr.mono (by decide)) rfl T.g_w_due_parts T.F_w_due_parts.kp T.b_w_due_parts .nil pass0 (pa_cons (pv 5) (pa_cons (pe_lc (own := [("_law_k", 10)]) (g := gName 10) (tt := tYes) rfl sc_w_two_right.nd (pi_list (pv 9)) (blkOk_by (own := [("_law_k", 10)]) (N := ["_law_one", "_law_two", "_law_left", "_law_right_here", "_law_fine", "_law_ends_here", "_law_probes_here", "_law_marks_here", "_law_other", "_law_places", "_law_k", "_law_mark", "_law_inside"]) (sc := defScope s_w_two_right) (by decide +kernel)) (fun _ _ _ _ _ => pg_name (i := 10) sc_w_two_right.nd rfl (Or.inl rfl)) (fun _ _ _ _ _ => pts_nil) (fun _ _ _ _ _ => (pe_and (pe_ix (ix_listK (K := K) rfl) (pv 8) (pv 10) (fun _ _ => rfl)) (pe_one (pe_not (pe_ix (ix_listK (K := K) rfl) (pv 7) (pv 10) (fun _ _ => rfl))))))) (pa_cons (pv 4) pa_nil)))) pa_nil)))))
    (pss_one (ps_ret pe_bl))
    pss_nil)
    (pss_cons (ps_if (pt_not (pt_val (pe_call G_w_parts_are (hr.mono (by decide)) rfl T.g_w_parts_are T.F_w_parts_are.kp T.b_w_parts_are .nil pass0 (pa_cons (pe_un (Bl.un_ownInv T.me_Pieces___invert (G_Pieces___invert.raw T.b_Pieces___invert .nil) (hr.mono (by decide)) pass0) (pv 0)) (pa_cons (pe_call G_w_due_parts (hr.mono (by decide)) rfl T.g_w_due_parts T.F_w_due_parts.kp T.b_w_due_parts .nil pass0 (pa_cons (pv 5) (pa_cons (pe_lc (own := [("_law_mark", 11)]) (g := gName 11) (tt := tYes) rfl sc_w_two_right.nd (pi_list (pv 7)) (blkOk_by (own := [("_law_mark", 11)]) (N := ["_law_one", "_law_two", "_law_left", "_law_right_here", "_law_fine", "_law_ends_here", "_law_probes_here", "_law_marks_here", "_law_other", "_law_places", "_law_k", "_law_mark", "_law_inside"]) (sc := defScope s_w_two_right) (by decide +kernel)) (fun _ _ _ _ _ => pg_name (i := 11) sc_w_two_right.nd rfl (Or.inl rfl)) (fun _ _ _ _ _ => pts_nil) (fun _ _ _ _ _ => (pe_not (pv 11)))) (pa_cons (pv 4) pa_nil)))) pa_nil)))))
    (pss_one (ps_ret pe_bl))
    pss_nil)
    (pss_cons (ps_set (i := 12) sc_w_two_right.nd rfl (Or.inl rfl) (pe_meth (pv 0) T.oc_Pieces.cl T.me_Pieces_inside G_Pieces_inside (hr.mono (by decide)) T.b_Pieces_inside .nil pass0 (pa_cons (pv 1) pa_nil)))
    (pss_cons (ps_if (PW.pt (pw_or (pt_not (pt_val (pe_callB call_isi (by rfl) T.m_isinstance (by decide +kernel) (pa_cons (pv 12) (pa_cons (pe_bltn (v := .ty "bool") (by rfl) T.m_bool (by decide +kernel) rfl) pa_nil))))) (pw_or1 (pt_cmpR op_ne (pv 12) (pe_cmpR (op_eqD hr.units) (pe_lc (own := [("_law_k", 10)]) (g := gName 10)  rfl sc_w_two_right.nd (pi_list (pv 9)) (blkOk_by (own := [("_law_k", 10)]) (N := ["_law_one", "_law_two", "_law_left", "_law_right_here", "_law_fine", "_law_ends_here", "_law_probes_here", "_law_marks_here", "_law_other", "_law_places", "_law_k", "_law_mark", "_law_inside"]) (sc := defScope s_w_two_right) (by decide +kernel)) (fun _ _ _ _ _ => pg_name (i := 10) sc_w_two_right.nd rfl (Or.inl rfl)) (fun _ _ _ _ _ => pts_one (PW.pt (pw_and (pt_val (pe_ix (ix_listK (K := K) rfl) (pv 7) (pv 10) (fun _ _ => rfl))) (pw_and1 (pt_not (pt_val (pe_ix (ix_listK (K := K) rfl) (pv 8) (pv 10) (fun _ _ => rfl)))))))) (fun _ _ _ _ _ => (pv 10))) (pe_lst pa_nil) (nomark _)) (nomark _)))))
    (pss_one (ps_ret pe_bl))
    pss_nil)
    (pss_one (ps_ret (pe_and (pe_cmpR op_eq (pe_cmpR (Ow.op_ownEq T.me_Pieces___eq (G_Pieces___eq.raw T.b_Pieces___eq .nil) (hr.mono (by decide)) pass0 hr.units0) (pv 0) (pv 1) (nomark _)) (pe_cmpR (op_eqD hr.units) (pv 7) (pv 8) (nomark _)) (nomark _)) (pe_and (pe_cmpR (Ow.op_ownEq T.me_Pieces___eq (G_Pieces___eq.raw T.b_Pieces___eq .nil) (hr.mono (by decide)) pass0 hr.units0) (pe_un (Bl.un_ownInv T.me_Pieces___invert (G_Pieces___invert.raw T.b_Pieces___invert .nil) (hr.mono (by decide)) pass0) (pe_un (Bl.un_ownInv T.me_Pieces___invert (G_Pieces___invert.raw T.b_Pieces___invert .nil) (hr.mono (by decide)) pass0) (pv 1))) (pv 1) (nomark _)) (pe_one (pe_meth (pe_op (Ow.op_own2 T.oc_Pieces.sf T.me_Pieces___and (G_Pieces___and.raw T.b_Pieces___and .nil) (hr.mono (by decide)) pass0) (pv 0) (pv 1)) T.oc_Pieces.cl T.me_Pieces_inside G_Pieces_inside (hr.mono (by decide)) T.b_Pieces_inside .nil pass0 (pa_cons (pv 0) pa_nil))))))))))))))))))), ?_⟩
    walk_at "start"
    walk_at "sts"
    refine r_cat ep eq (le_size (by simp only [List.length_map]; omega)) fun u nu => ?_
    rw [← List.map_append]
    have k1 : Keep [] H (upd H u (.lst ((as ++ bs).map V.ref))) := Keep.new nu
    have eu : upd H u (.lst ((as ++ bs).map V.ref)) u = some (.lst ((as ++ bs).map V.ref)) := upd_same
    generalize upd H u (.lst ((as ++ bs).map V.ref)) = H1 at k1 eu ⊢
    have hu : RawsAt H1 u (rs ++ ss) := ⟨as ++ bs, eu, (ha.app hb).mono fun a x h => h.k k1.t0⟩
    have hrss : ∀ r ∈ rs ++ ss, BdRW r ∧ Good (dbl r) := fun r m => by
      rcases List.mem_append.mp m with m | m
      · exact hrs r m
      · exact hss r m
    walk_at "sts"
    refine ⟨u, rs ++ ss, rfl, hu, fun r m => (hrss r m).1, by rw [List.length_append]; omega, fun e U H2 k2 eU hU fU lU zU => ?_⟩
    have fits := fits_of fU fun r m => ⟨(hrss r m).1, (hrss r m).2.no⟩
    have fL : Fits U (setOf rs) := fun p m => fits p (by unfold setOf at m ⊢; rw [List.map_append]; exact List.mem_append.mpr (.inl m))
    have fM : Fits U (setOf ss) := fun p m => fits p (by unfold setOf at m ⊢; rw [List.map_append]; exact List.mem_append.mpr (.inr m))
    walk_at "sts"
    refine ⟨e, U, rfl, eU, hU, lU, fun pq H3 k3 epq => ?_⟩
    have k13 := (k1.trans k2).trans k3
    walk_at "sts"
    refine ⟨p, pq, rs, U, f, rfl, hp.k0 k13, bL, epq, hU, lU, hf, fun a m1 H4 k4 e1 M1 => ?_⟩
    have k14 := k13.trans k4
    walk_at "sts"
    refine ⟨q, pq, ss, U, f, rfl, hq.k0 k14, bM, k4 _ _ (by simp) epq, hU, lU, hf, fun b m2 H5 k5 e2 M2 => ?_⟩
    have k15 := k14.trans k5
    have epq5 := (k4.trans k5) _ _ (by simp) epq
    have lpr : ((prs U).map V.int).length = 2 * U.length + 1 := by unfold prs; simp
    walk_at "sts"
    refine r_listRg ?_
    walk_at "sts"
    refine ⟨RgOk.of_le (Int.le_refl _) (by rw [lpr]; omega) (by decide) (by omega), fun c nc => ?_⟩
    rw [lpr, show rgV 0 ((2 * U.length + 1 : Nat) : Int) = rgL (2 * U.length + 1) from rgV_rgL]
    have k6 : Keep [] H5 (upd H5 c (.lst (rgL (2 * U.length + 1)))) := Keep.new nc
    have ec : upd H5 c (.lst (rgL (2 * U.length + 1))) c = some (.lst (rgL (2 * U.length + 1))) := upd_same
    generalize upd H5 c (.lst (rgL (2 * U.length + 1))) = H6 at k6 ec ⊢
    have K0 := k15.trans k6
    have W0 : Tw T.C_Pieces f x y e a b c L M U m1 m2 H6 := ⟨hx.k0 K0, hy.k0 K0, ((k3.trans k4).trans (k5.trans k6)) _ _ (by simp) eU, (k5.trans k6) _ _ (by simp) e1, k6 _ _ (by simp) e2, ec⟩
    clear k1 k2 k3 k4 k5 k6 k13 k14 k15 eU e1 e2 ec epq epq5 eu hu ep eq ha hb hp hq hx hy nu nc
    have lrg : ∀ H', True := fun (_ : Hp) => trivial
    have am1 : ∀ i, (h : i < 2 * U.length + 1) → ∃ b, m1[i]? = some b := fun i h => ⟨_, List.getElem?_eq_getElem (by rw [M1.len]; exact h)⟩
    have am2 : ∀ i, (h : i < 2 * U.length + 1) → ∃ b, m2[i]? = some b := fun i h => ⟨_, List.getElem?_eq_getElem (by rw [M2.len]; exact h)⟩
    have atb : ∀ {m : List Bool} {i : Nat} {b : Bool}, m[i]? = some b → atI (m.map V.bl) (i : Int) = some (.bl b) := fun h => atI_nat (by rw [List.getElem?_map, h]; rfl)
    have inL : ∀ z, -BB ≤ z → z < BB → (mem L z ↔ mem (setOf rs) z) := fun z _ _ => cL.one z
    have inM : ∀ z, -BB ≤ z → z < BB → (mem M z ↔ mem (setOf ss) z) := fun z _ _ => cM.one z
    have sameL := fun k z w (a : At U k z) (b : At U k w) => at_same hU fL a b
    have sameM := fun k z w (a : At U k z) (b : At U k w) => at_same hU fM a b
    -- 0
    obtain ⟨dx, px, as0, ex, epx, ha0⟩ := id W0.hx
    obtain ⟨dy, py, bs0, ey, epy, hb0⟩ := id W0.hy
    clear epx ha0 epy hb0
    walk_at "sts"
    refine Ow.r_own2 ex ey ⟨x, y, L, M, 2 * f, rfl, hf.g, W0.hx, W0.hy, kL.mono (by decide), kM.mono (by decide), fun z F Hn kn nz hz kF iF => ?_⟩
    have WA := W0.k kn
    have pla := WA.pl
    clear ex ey
    walk_at "sts"
    refine lcL_go (fun D i acc H' => ∃ ms : List Bool, acc = ms.map V.bl ∧ ms.length = i ∧ (∀ k b1 b2, k < i → m1[k]? = some b1 → m2[k]? = some b2 → ms[k]? = some ((fun b1 b2 => b1 && b2) b1 b2)) ∧ Keep [] Hn H' ∧ Hn D = none) (sqL_of pla) (fun D nD => ⟨[], rfl, rfl, fun k b1 b2 h => absurd h (by omega), Keep.new nD, nD⟩) (fun D i acc H' _ h => by obtain ⟨_, _, _, _, k, _⟩ := h; exact sqL_of (k _ _ (by simp) pla)) ?_ ?_
    · rintro D i v acc H' hv hD ⟨ms, rfl, lms, ims, kc, nD⟩
      have hi : i < 2 * U.length + 1 := by have := (List.getElem?_eq_some_iff.mp hv).1; rw [rgL_len] at this; exact this
      rw [rgL_at hi] at hv
      cases hv
      obtain ⟨b1, hb1⟩ := am1 i hi
      obtain ⟨b2, hb2⟩ := am2 i hi
      have e1' := (WA.k kc).e1
      have e2' := (WA.k kc).e2
      have a1 := atb hb1
      have a2 := atb hb2
      have fin : ∀ x : Bool, x = (fun b1 b2 => b1 && b2) b1 b2 → ∃ acc, H' D = some (.lst acc) ∧ acc.length < sizeLine ∧ (∃ ac, (upd H' D (.lst (acc ++ [V.bl x]))) D = some (.lst ac) ∧ ∃ ms : List Bool, ac = ms.map V.bl ∧ ms.length = i + 1 ∧ (∀ k b1 b2, k < i + 1 → m1[k]? = some b1 → m2[k]? = some b2 → ms[k]? = some ((fun b1 b2 => b1 && b2) b1 b2)) ∧ Keep [] Hn (upd H' D (.lst (acc ++ [V.bl x]))) ∧ Hn D = none) := by
        intro x hx
        have sn := snoc_at (φ := fun b1 b2 => b1 && b2) lms ims hb1 hb2 hx
        exact lc_put hD (by rw [List.length_map]; exact lt_size (by omega)) ⟨ms ++ [x], by rw [List.map_append]; rfl, sn.1, sn.2, kc.mut nD, nD⟩
      cases b1 <;> cases b2 <;> (walk_at "sts"; first | exact fin _ rfl | (refine ⟨by first | exact rfl | trivial, ?_⟩; walk_at "sts"; exact fin _ rfl))
    rintro D acc H' nD hD ⟨ms, rfl, lms, ims, kc, _⟩
    rw [rgL_len] at lms ims
    have WB := WA.k kc
    have eeB := WB.ee
    have Mk : Marks U (fun z => mem (setOf rs) z ∧ mem (setOf ss) z) ms := Marks.comb (φ := fun b1 b2 => b1 && b2) M1 M2 lms (fun k b1 b2 hk => ims k b1 b2 (by omega)) (fun z b1 b2 h1 h2 => by rw [Bool.and_eq_true, h1, h2])
    walk_at "sts"
    refine ⟨e, D, U, ms, f, rfl, eeB, hD, lms, hU, lU, hf, fun dq cs G H'' kd ed hcs cG iG sG lG => ?_⟩
    have eG : G = F := due_eq hU Mk (fun k z w a b => by rw [sameL k z w a b, sameM k z w a b]) cG iG kF.can kF.sm (fun z r1 r2 => (iF z).trans (by rw [← inL z r1 r2, ← inM z r1 r2]))
    subst eG
    have K1 := K0.trans ((kn.trans kc).trans kd)
    have W1 := WB.k kd
    walk_at "sts"
    refine ⟨z, dq, cs, G, 2 * f, rfl, hz.k0 (kc.trans kd), ed, hcs, lG, ?_⟩
    clear WA WB eeB hD ed hcs Mk ims lms kn kc kd hz pla
    -- 1
    obtain ⟨dx, px, as0, ex, epx, ha0⟩ := id W1.hx
    obtain ⟨dy, py, bs0, ey, epy, hb0⟩ := id W1.hy
    clear epx ha0 epy hb0
    walk_at "sts"
    refine Ow.r_own2 ex ey ⟨x, y, L, M, 2 * f, rfl, hf.g, W1.hx, W1.hy, kL.mono (by decide), kM.mono (by decide), fun z F Hn kn nz hz kF iF => ?_⟩
    have WA := W1.k kn
    have pla := WA.pl
    clear ex ey
    walk_at "sts"
    refine lcL_go (fun D i acc H' => ∃ ms : List Bool, acc = ms.map V.bl ∧ ms.length = i ∧ (∀ k b1 b2, k < i → m1[k]? = some b1 → m2[k]? = some b2 → ms[k]? = some ((fun b1 b2 => b1 || b2) b1 b2)) ∧ Keep [] Hn H' ∧ Hn D = none) (sqL_of pla) (fun D nD => ⟨[], rfl, rfl, fun k b1 b2 h => absurd h (by omega), Keep.new nD, nD⟩) (fun D i acc H' _ h => by obtain ⟨_, _, _, _, k, _⟩ := h; exact sqL_of (k _ _ (by simp) pla)) ?_ ?_
    · rintro D i v acc H' hv hD ⟨ms, rfl, lms, ims, kc, nD⟩
      have hi : i < 2 * U.length + 1 := by have := (List.getElem?_eq_some_iff.mp hv).1; rw [rgL_len] at this; exact this
      rw [rgL_at hi] at hv
      cases hv
      obtain ⟨b1, hb1⟩ := am1 i hi
      obtain ⟨b2, hb2⟩ := am2 i hi
      have e1' := (WA.k kc).e1
      have e2' := (WA.k kc).e2
      have a1 := atb hb1
      have a2 := atb hb2
      have fin : ∀ x : Bool, x = (fun b1 b2 => b1 || b2) b1 b2 → ∃ acc, H' D = some (.lst acc) ∧ acc.length < sizeLine ∧ (∃ ac, (upd H' D (.lst (acc ++ [V.bl x]))) D = some (.lst ac) ∧ ∃ ms : List Bool, ac = ms.map V.bl ∧ ms.length = i + 1 ∧ (∀ k b1 b2, k < i + 1 → m1[k]? = some b1 → m2[k]? = some b2 → ms[k]? = some ((fun b1 b2 => b1 || b2) b1 b2)) ∧ Keep [] Hn (upd H' D (.lst (acc ++ [V.bl x]))) ∧ Hn D = none) := by
        intro x hx
        have sn := snoc_at (φ := fun b1 b2 => b1 || b2) lms ims hb1 hb2 hx
        exact lc_put hD (by rw [List.length_map]; exact lt_size (by omega)) ⟨ms ++ [x], by rw [List.map_append]; rfl, sn.1, sn.2, kc.mut nD, nD⟩
      cases b1 <;> cases b2 <;> (walk_at "sts"; first | exact fin _ rfl | (refine ⟨by first | exact rfl | trivial, ?_⟩; walk_at "sts"; exact fin _ rfl))
    rintro D acc H' nD hD ⟨ms, rfl, lms, ims, kc, _⟩
    rw [rgL_len] at lms ims
    have WB := WA.k kc
    have eeB := WB.ee
    have Mk : Marks U (fun z => mem (setOf rs) z ∨ mem (setOf ss) z) ms := Marks.comb (φ := fun b1 b2 => b1 || b2) M1 M2 lms (fun k b1 b2 hk => ims k b1 b2 (by omega)) (fun z b1 b2 h1 h2 => by rw [Bool.or_eq_true, h1, h2])
    walk_at "sts"
    refine ⟨e, D, U, ms, f, rfl, eeB, hD, lms, hU, lU, hf, fun dq cs G H'' kd ed hcs cG iG sG lG => ?_⟩
    have eG : G = F := due_eq hU Mk (fun k z w a b => by rw [sameL k z w a b, sameM k z w a b]) cG iG kF.can kF.sm (fun z r1 r2 => (iF z).trans (by rw [← inL z r1 r2, ← inM z r1 r2]))
    subst eG
    have K2 := K1.trans ((kn.trans kc).trans kd)
    have W2 := WB.k kd
    walk_at "sts"
    refine ⟨z, dq, cs, G, 2 * f, rfl, hz.k0 (kc.trans kd), ed, hcs, lG, ?_⟩
    clear WA WB eeB hD ed hcs Mk ims lms kn kc kd hz pla
    -- 2
    obtain ⟨dx, px, as0, ex, epx, ha0⟩ := id W2.hx
    obtain ⟨dy, py, bs0, ey, epy, hb0⟩ := id W2.hy
    clear epx ha0 epy hb0
    walk_at "sts"
    refine Ow.r_own2 ex ey ⟨x, y, L, M, 2 * f, rfl, hf.g, W2.hx, W2.hy, kL.mono (by decide), kM.mono (by decide), fun z F Hn kn nz hz kF iF => ?_⟩
    have WA := W2.k kn
    have pla := WA.pl
    clear ex ey
    walk_at "sts"
    refine lcL_go (fun D i acc H' => ∃ ms : List Bool, acc = ms.map V.bl ∧ ms.length = i ∧ (∀ k b1 b2, k < i → m1[k]? = some b1 → m2[k]? = some b2 → ms[k]? = some ((fun b1 b2 => b1 && !b2) b1 b2)) ∧ Keep [] Hn H' ∧ Hn D = none) (sqL_of pla) (fun D nD => ⟨[], rfl, rfl, fun k b1 b2 h => absurd h (by omega), Keep.new nD, nD⟩) (fun D i acc H' _ h => by obtain ⟨_, _, _, _, k, _⟩ := h; exact sqL_of (k _ _ (by simp) pla)) ?_ ?_
    · rintro D i v acc H' hv hD ⟨ms, rfl, lms, ims, kc, nD⟩
      have hi : i < 2 * U.length + 1 := by have := (List.getElem?_eq_some_iff.mp hv).1; rw [rgL_len] at this; exact this
      rw [rgL_at hi] at hv
      cases hv
      obtain ⟨b1, hb1⟩ := am1 i hi
      obtain ⟨b2, hb2⟩ := am2 i hi
      have e1' := (WA.k kc).e1
      have e2' := (WA.k kc).e2
      have a1 := atb hb1
      have a2 := atb hb2
      have fin : ∀ x : Bool, x = (fun b1 b2 => b1 && !b2) b1 b2 → ∃ acc, H' D = some (.lst acc) ∧ acc.length < sizeLine ∧ (∃ ac, (upd H' D (.lst (acc ++ [V.bl x]))) D = some (.lst ac) ∧ ∃ ms : List Bool, ac = ms.map V.bl ∧ ms.length = i + 1 ∧ (∀ k b1 b2, k < i + 1 → m1[k]? = some b1 → m2[k]? = some b2 → ms[k]? = some ((fun b1 b2 => b1 && !b2) b1 b2)) ∧ Keep [] Hn (upd H' D (.lst (acc ++ [V.bl x]))) ∧ Hn D = none) := by
        intro x hx
        have sn := snoc_at (φ := fun b1 b2 => b1 && !b2) lms ims hb1 hb2 hx
        exact lc_put hD (by rw [List.length_map]; exact lt_size (by omega)) ⟨ms ++ [x], by rw [List.map_append]; rfl, sn.1, sn.2, kc.mut nD, nD⟩
      cases b1 <;> cases b2 <;> (walk_at "sts"; first | exact fin _ rfl | (refine ⟨by first | exact rfl | trivial, ?_⟩; walk_at "sts"; exact fin _ rfl))
    rintro D acc H' nD hD ⟨ms, rfl, lms, ims, kc, _⟩
    rw [rgL_len] at lms ims
    have WB := WA.k kc
    have eeB := WB.ee
    have Mk : Marks U (fun z => mem (setOf rs) z ∧ ¬ mem (setOf ss) z) ms := Marks.comb (φ := fun b1 b2 => b1 && !b2) M1 M2 lms (fun k b1 b2 hk => ims k b1 b2 (by omega)) (fun z b1 b2 h1 h2 => by rw [Bool.and_eq_true, Bool.not_eq_true', h1, ← h2]; simp)
    walk_at "sts"
    refine ⟨e, D, U, ms, f, rfl, eeB, hD, lms, hU, lU, hf, fun dq cs G H'' kd ed hcs cG iG sG lG => ?_⟩
    have eG : G = F := due_eq hU Mk (fun k z w a b => by rw [sameL k z w a b, sameM k z w a b]) cG iG kF.can kF.sm (fun z r1 r2 => (iF z).trans (by rw [← inL z r1 r2, ← inM z r1 r2]))
    subst eG
    have K3 := K2.trans ((kn.trans kc).trans kd)
    have W3 := WB.k kd
    walk_at "sts"
    refine ⟨z, dq, cs, G, 2 * f, rfl, hz.k0 (kc.trans kd), ed, hcs, lG, ?_⟩
    clear WA WB eeB hD ed hcs Mk ims lms kn kc kd hz pla
    -- 3
    obtain ⟨dx, px, as0, ex, epx, ha0⟩ := id W3.hx
    obtain ⟨dy, py, bs0, ey, epy, hb0⟩ := id W3.hy
    clear epx ha0 epy hb0
    walk_at "sts"
    refine Ow.r_own2 ey ex ⟨y, x, M, L, 2 * f, rfl, hf.g, W3.hy, W3.hx, kM.mono (by decide), kL.mono (by decide), fun z F Hn kn nz hz kF iF => ?_⟩
    have WA := W3.k kn
    have pla := WA.pl
    clear ex ey
    walk_at "sts"
    refine lcL_go (fun D i acc H' => ∃ ms : List Bool, acc = ms.map V.bl ∧ ms.length = i ∧ (∀ k b1 b2, k < i → m1[k]? = some b1 → m2[k]? = some b2 → ms[k]? = some ((fun b1 b2 => b2 && !b1) b1 b2)) ∧ Keep [] Hn H' ∧ Hn D = none) (sqL_of pla) (fun D nD => ⟨[], rfl, rfl, fun k b1 b2 h => absurd h (by omega), Keep.new nD, nD⟩) (fun D i acc H' _ h => by obtain ⟨_, _, _, _, k, _⟩ := h; exact sqL_of (k _ _ (by simp) pla)) ?_ ?_
    · rintro D i v acc H' hv hD ⟨ms, rfl, lms, ims, kc, nD⟩
      have hi : i < 2 * U.length + 1 := by have := (List.getElem?_eq_some_iff.mp hv).1; rw [rgL_len] at this; exact this
      rw [rgL_at hi] at hv
      cases hv
      obtain ⟨b1, hb1⟩ := am1 i hi
      obtain ⟨b2, hb2⟩ := am2 i hi
      have e1' := (WA.k kc).e1
      have e2' := (WA.k kc).e2
      have a1 := atb hb1
      have a2 := atb hb2
      have fin : ∀ x : Bool, x = (fun b1 b2 => b2 && !b1) b1 b2 → ∃ acc, H' D = some (.lst acc) ∧ acc.length < sizeLine ∧ (∃ ac, (upd H' D (.lst (acc ++ [V.bl x]))) D = some (.lst ac) ∧ ∃ ms : List Bool, ac = ms.map V.bl ∧ ms.length = i + 1 ∧ (∀ k b1 b2, k < i + 1 → m1[k]? = some b1 → m2[k]? = some b2 → ms[k]? = some ((fun b1 b2 => b2 && !b1) b1 b2)) ∧ Keep [] Hn (upd H' D (.lst (acc ++ [V.bl x]))) ∧ Hn D = none) := by
        intro x hx
        have sn := snoc_at (φ := fun b1 b2 => b2 && !b1) lms ims hb1 hb2 hx
        exact lc_put hD (by rw [List.length_map]; exact lt_size (by omega)) ⟨ms ++ [x], by rw [List.map_append]; rfl, sn.1, sn.2, kc.mut nD, nD⟩
      cases b1 <;> cases b2 <;> (walk_at "sts"; first | exact fin _ rfl | (refine ⟨by first | exact rfl | trivial, ?_⟩; walk_at "sts"; exact fin _ rfl))
    rintro D acc H' nD hD ⟨ms, rfl, lms, ims, kc, _⟩
    rw [rgL_len] at lms ims
    have WB := WA.k kc
    have eeB := WB.ee
    have Mk : Marks U (fun z => mem (setOf ss) z ∧ ¬ mem (setOf rs) z) ms := Marks.comb (φ := fun b1 b2 => b2 && !b1) M1 M2 lms (fun k b1 b2 hk => ims k b1 b2 (by omega)) (fun z b1 b2 h1 h2 => by rw [Bool.and_eq_true, Bool.not_eq_true', h2, ← h1]; simp)
    walk_at "sts"
    refine ⟨e, D, U, ms, f, rfl, eeB, hD, lms, hU, lU, hf, fun dq cs G H'' kd ed hcs cG iG sG lG => ?_⟩
    have eG : G = F := due_eq hU Mk (fun k z w a b => by rw [sameL k z w a b, sameM k z w a b]) cG iG kF.can kF.sm (fun z r1 r2 => (iF z).trans (by rw [← inL z r1 r2, ← inM z r1 r2]))
    subst eG
    have K4 := K3.trans ((kn.trans kc).trans kd)
    have W4 := WB.k kd
    walk_at "sts"
    refine ⟨z, dq, cs, G, 2 * f, rfl, hz.k0 (kc.trans kd), ed, hcs, lG, ?_⟩
    clear WA WB eeB hD ed hcs Mk ims lms kn kc kd hz pla
    -- 4
    obtain ⟨dx, px, as0, ex, epx, ha0⟩ := id W4.hx
    obtain ⟨dy, py, bs0, ey, epy, hb0⟩ := id W4.hy
    clear epx ha0 epy hb0
    walk_at "sts"
    refine Ow.r_own1 ex ⟨x, L, 2 * f, rfl, hf.g, W4.hx, kL.mono (by decide), fun z F Hn kn nz hz kF iF => ?_⟩
    have WA := W4.k kn
    have pla := WA.pl
    clear ex ey
    walk_at "sts"
    refine lcL_go (fun D i acc H' => ∃ ms : List Bool, acc = ms.map V.bl ∧ ms.length = i ∧ (∀ k b1 b2, k < i → m1[k]? = some b1 → m2[k]? = some b2 → ms[k]? = some ((fun b1 b2 => !b1) b1 b2)) ∧ Keep [] Hn H' ∧ Hn D = none) (sqL_of WA.e1) (fun D nD => ⟨[], rfl, rfl, fun k b1 b2 h => absurd h (by omega), Keep.new nD, nD⟩) (fun D i acc H' _ h => by obtain ⟨_, _, _, _, k, _⟩ := h; exact sqL_of (k _ _ (by simp) WA.e1)) ?_ ?_
    · rintro D i v acc H' hv hD ⟨ms, rfl, lms, ims, kc, nD⟩
      have hi : i < 2 * U.length + 1 := by have := (List.getElem?_eq_some_iff.mp hv).1; rw [List.length_map, M1.len] at this; exact this
      obtain ⟨b1, hb1⟩ := am1 i hi
      obtain ⟨b2, hb2⟩ := am2 i hi
      rw [List.getElem?_map, hb1] at hv
      cases hv
      have e1' := (WA.k kc).e1
      have e2' := (WA.k kc).e2
      have a1 := atb hb1
      have a2 := atb hb2
      have fin : ∀ x : Bool, x = (fun b1 b2 => !b1) b1 b2 → ∃ acc, H' D = some (.lst acc) ∧ acc.length < sizeLine ∧ (∃ ac, (upd H' D (.lst (acc ++ [V.bl x]))) D = some (.lst ac) ∧ ∃ ms : List Bool, ac = ms.map V.bl ∧ ms.length = i + 1 ∧ (∀ k b1 b2, k < i + 1 → m1[k]? = some b1 → m2[k]? = some b2 → ms[k]? = some ((fun b1 b2 => !b1) b1 b2)) ∧ Keep [] Hn (upd H' D (.lst (acc ++ [V.bl x]))) ∧ Hn D = none) := by
        intro x hx
        have sn := snoc_at (φ := fun b1 b2 => !b1) lms ims hb1 hb2 hx
        exact lc_put hD (by rw [List.length_map]; exact lt_size (by omega)) ⟨ms ++ [x], by rw [List.map_append]; rfl, sn.1, sn.2, kc.mut nD, nD⟩
      cases b1 <;> cases b2 <;> (walk_at "sts"; first | exact fin _ rfl | (refine ⟨by first | exact rfl | trivial, ?_⟩; walk_at "sts"; exact fin _ rfl))
    rintro D acc H' nD hD ⟨ms, rfl, lms, ims, kc, _⟩
    rw [List.length_map, M1.len] at lms ims
    have WB := WA.k kc
    have eeB := WB.ee
    have Mk : Marks U (fun z => ¬ mem (setOf rs) z) ms := Marks.comb (φ := fun b1 b2 => !b1) M1 M2 lms (fun k b1 b2 hk => ims k b1 b2 (by omega)) (fun z b1 b2 h1 h2 => by rw [Bool.not_eq_true', ← h1]; simp)
    walk_at "sts"
    refine ⟨e, D, U, ms, f, rfl, eeB, hD, lms, hU, lU, hf, fun dq cs G H'' kd ed hcs cG iG sG lG => ?_⟩
    have eG : G = F := due_eq hU Mk (fun k z w a b => by rw [sameL k z w a b]) cG iG kF.can kF.sm (fun z r1 r2 => by rw [iF z, inL z r1 r2]; exact ⟨fun h => h.2.2, fun h => ⟨r1, r2, h⟩⟩)
    subst eG
    have K5 := K4.trans ((kn.trans kc).trans kd)
    have W5 := WB.k kd
    walk_at "sts"
    refine ⟨z, dq, cs, G, 2 * f, rfl, hz.k0 (kc.trans kd), ed, hcs, lG, ?_⟩
    clear WA WB eeB hD ed hcs Mk ims lms kn kc kd hz pla
    obtain ⟨dx, px, as0, ex, epx, ha0⟩ := id W5.hx
    clear epx ha0
    walk_at "sts"
    refine ⟨x, y, L, M, 2 * f, rfl, hf.g, W5.hx, W5.hy, kL.mono (by decide), kM.mono (by decide), fun bi Hi ki hbi => ?_⟩
    have W6 := W5.k ki
    have K6 := K5.trans ki
    have pl6 := W6.pl
    clear ex
    walk_at "sts"
    refine lcL_go (fun D i acc H' => ∃ ns : List Int, acc = ns.map V.int ∧ ns.length ≤ i ∧ (ns = [] ↔ ∀ k b1 b2, k < i → m1[k]? = some b1 → m2[k]? = some b2 → (b1 && !b2) = false) ∧ Keep [] Hi H' ∧ Hi D = none) (sqL_of pl6) (fun D nD => ⟨[], rfl, Nat.le_refl _, ⟨fun _ k b1 b2 h => absurd h (by omega), fun _ => rfl⟩, Keep.new nD, nD⟩) (fun D i acc H' _ h => by obtain ⟨_, _, _, _, k, _⟩ := h; exact sqL_of (k _ _ (by simp) pl6)) ?_ ?_
    · rintro D i v acc H' hv hD ⟨ns, rfl, lns, ins, kc, nD⟩
      have hi : i < 2 * U.length + 1 := by have := (List.getElem?_eq_some_iff.mp hv).1; rw [rgL_len] at this; exact this
      rw [rgL_at hi] at hv
      cases hv
      obtain ⟨b1, hb1⟩ := am1 i hi
      obtain ⟨b2, hb2⟩ := am2 i hi
      have e1' := (W6.k kc).e1
      have e2' := (W6.k kc).e2
      have a1 := atb hb1
      have a2 := atb hb2
      have skip : (b1 && !b2) = false → ∃ ac, H' D = some (.lst ac) ∧ ∃ ns : List Int, ac = ns.map V.int ∧ ns.length ≤ i + 1 ∧ (ns = [] ↔ ∀ k b1 b2, k < i + 1 → m1[k]? = some b1 → m2[k]? = some b2 → (b1 && !b2) = false) ∧ Keep [] Hi H' ∧ Hi D = none := by
        intro hx
        refine ⟨_, hD, ns, rfl, by omega, ?_, kc, nD⟩
        rw [ins]
        constructor
        · intro h k c1 c2 hk g1 g2
          rcases Nat.lt_or_ge k i with c | c
          · exact h k c1 c2 c g1 g2
          · have : k = i := by omega
            subst this; rw [hb1] at g1; rw [hb2] at g2; cases g1; cases g2; exact hx
        · exact fun h k c1 c2 hk => h k c1 c2 (by omega)
      have put : (b1 && !b2) = true → ∃ acc, H' D = some (.lst acc) ∧ acc.length < sizeLine ∧ (∃ ac, (upd H' D (.lst (acc ++ [V.int (i : Int)]))) D = some (.lst ac) ∧ ∃ ns : List Int, ac = ns.map V.int ∧ ns.length ≤ i + 1 ∧ (ns = [] ↔ ∀ k b1 b2, k < i + 1 → m1[k]? = some b1 → m2[k]? = some b2 → (b1 && !b2) = false) ∧ Keep [] Hi (upd H' D (.lst (acc ++ [V.int (i : Int)]))) ∧ Hi D = none) := by
        intro hx
        refine lc_put hD (by rw [List.length_map]; exact lt_size (by omega)) ⟨ns ++ [(i : Int)], by rw [List.map_append]; rfl, by rw [List.length_append, List.length_singleton]; omega, ⟨fun h => by simp at h, fun h => ?_⟩, kc.mut nD, nD⟩
        have := h i b1 b2 (by omega) hb1 hb2
        rw [hx] at this; cases this
      cases b1 <;> cases b2 <;> (walk_at "sts"; first | exact skip rfl | exact put rfl | (refine ⟨by first | exact rfl | trivial, ?_⟩; walk_at "sts"; first | exact skip rfl | exact put rfl))
    rintro D acc H' nD hD ⟨ns, rfl, lns, ins, kc, _⟩
    rw [rgL_len] at lns ins
    walk_at "sts"
    intro u nu
    have ku : Keep [] H' (upd H' u (.lst [])) := Keep.new nu
    have eu : upd H' u (.lst []) u = some (.lst []) := upd_same
    generalize upd H' u (.lst []) = Hu at ku eu ⊢
    refine r_eqNil (sqL_of (ku _ _ (by simp) hD)) (sqL_of eu) fl_int' ?_
    have W7 := (W6.k kc).k ku
    have K7 := (K6.trans kc).trans ku
    have eb : bi = (ns.map V.int).isEmpty := by
      have h0 : (ns.map V.int).isEmpty = true ↔ ns = [] := by cases ns <;> simp
      rw [Bool.eq_iff_iff, hbi, h0, ins]
      constructor
      · intro h k b1 b2 hk g1 g2
        cases b1 with
        | false => rfl
        | true =>
          cases b2 with
          | true => rfl
          | false =>
            have h1 := (M1.is k _ g1).mp rfl
            have h2 := h _ ((cL.one _).mpr h1)
            have h3 := (M2.is k _ g2).mpr ((cM.one _).mp h2)
            cases h3
      · intro h z hz
        have rg := sm_range sL hz
        obtain ⟨k, a⟩ := at_some (E := U) rg.1 rg.2
        obtain ⟨b1, hb1⟩ := am1 k a.1
        obtain ⟨b2, hb2⟩ := am2 k a.1
        have p := probe_at hU a.1
        have t1 : b1 = true := (M1.is k _ hb1).mpr ((sameL k _ _ a p).mp ((cL.one z).mp hz))
        have := h k b1 b2 a.1 hb1 hb2
        rw [t1] at this
        have t2 : b2 = true := by cases b2 with
          | true => rfl
          | false => cases this
        exact (cM.one z).mpr ((sameM k _ _ a p).mpr ((M2.is k _ hb2).mp t2))
    rw [← eb]
    clear W6 pl6 kc ku hD eu ins
    obtain ⟨dx, px, as0, ex, epx, ha0⟩ := id W7.hx
    obtain ⟨dy, py, bs0, ey, epy, hb0⟩ := id W7.hy
    clear epx ha0 epy hb0
    have e17 := W7.e1
    have e27 := W7.e2
    walk_at "sts"
    try (refine r_iteNF rfl ?_; walk_at "sts")
    refine Ow.r_own2 ex ey (.inl ⟨x, y, L, M, 2 * f, rfl, hf.g, W7.hx, W7.hy, sL, sM, ?_⟩)
    walk_at "sts"
    refine r_eqL (sqL_of e17) (sqL_of e27) fl_bl' fl_bl' eqv_bls ?_
    have e12 : decide (L = M) = decide (m1 = m2) := by
      refine decide_eq_decide.mpr ⟨?_, ?_⟩
      · intro e
        refine List.ext_getElem? fun k => ?_
        by_cases hk : k < 2 * U.length + 1
        · obtain ⟨b1, hb1⟩ := am1 k hk
          obtain ⟨b2, hb2⟩ := am2 k hk
          rw [hb1, hb2]
          congr 1
          rw [Bool.eq_iff_iff, M1.is k b1 hb1, M2.is k b2 hb2, ← cL.one, ← cM.one, e]
        · rw [List.getElem?_eq_none (by rw [M1.len]; omega), List.getElem?_eq_none (by rw [M2.len]; omega)]
      · intro e
        refine can_eq cL.can cM.can fun z => ?_
        by_cases rg : -BB ≤ z ∧ z < BB
        · obtain ⟨k, a⟩ := at_some (E := U) rg.1 rg.2
          obtain ⟨b1, hb1⟩ := am1 k a.1
          have hb2 : m2[k]? = some b1 := by rw [← e]; exact hb1
          have p := probe_at hU a.1
          rw [cL.one, cM.one, sameL k _ _ a p, sameM k _ _ a p, ← M1.is k _ hb1, ← M2.is k _ hb2]
        · exact ⟨fun h => absurd (sm_range sL h) rg, fun h => absurd (sm_range sM h) rg⟩
    rw [e12]
    walk_at "sts"
    try (refine r_iteT rfl ?_; walk_at "sts")
    refine Ow.r_own1 ey ⟨y, M, 2 * f, rfl, hf.g, W7.hy, kM.mono (by decide), fun z1 F1 H8 k8 n1 h1 kF1 iF1 => ?_⟩
    have W8 := W7.k k8
    obtain ⟨d1, p1, as1, ez1, _, _⟩ := id h1
    refine Ow.r_own1 ez1 ⟨z1, F1, 2 * f, rfl, hf.g, h1, kF1.mono (by omega), fun z2 F2 H9 k9 n2 h2 kF2 iF2 => ?_⟩
    have W9 := W8.k k9
    have eF2 : F2 = M := can_eq kF2.can cM.can fun z => by
      rw [iF2 z, iF1 z]
      constructor
      · rintro ⟨r1, r2, h⟩
        by_cases hm : mem M z
        · exact hm
        · exact absurd ⟨r1, r2, hm⟩ h
      · intro hm
        have rg := sm_range sM hm
        exact ⟨rg.1, rg.2, fun h => h.2.2 hm⟩
    subst eF2
    obtain ⟨d2, p2, as2, ez2, _, _⟩ := id h2
    obtain ⟨dy9, py9, bs9, ey9, _, _⟩ := id W9.hy
    walk_at "sts"
    refine Ow.r_own2 ez2 ey9 (.inl ⟨z2, y, F2, F2, 2 * f, rfl, hf.g, h2, W9.hy, kF2.sm, kF2.sm, ?_⟩)
    rw [decide_eq_true rfl]
    obtain ⟨dx9, px9, as9, ex9, _, _⟩ := id W9.hx
    walk_at "sts"
    refine Ow.r_own2 ex9 ey9 ⟨x, y, L, F2, 2 * f, rfl, hf.g, W9.hx, W9.hy, kL.mono (by decide), kM.mono (by decide), fun z3 F3 H10 k10 n3 h3 kF3 iF3 => ?_⟩
    have W10 := W9.k k10
    obtain ⟨d3, p3, as3, ez3, _, _⟩ := id h3
    walk_at "sts"
    refine ⟨z3, x, F3, L, 2 * f, rfl, hf.g, h3, W10.hx, kF3.mono (by omega), kL.mono (by decide), fun bf H11 k11 hbf => ?_⟩
    rw [hbf.mpr fun c hc => ((iF3 c).mp hc).1]
    exact k _ ((((K7.trans k8).trans k9).trans k10).trans k11)
end
open PySem PySem.Spec PyProof.Rows L2 StX Pc
/-! ### the law -/
def spSingle : Sp := fun vs H Q _ => ∃ (o e : Addr) (es : List Int) (f : Int), vs = [.ref o, .int f, .ref e] ∧ PotAt o H ∧ FOk f ∧ e ≠ o ∧ EsAt H e es ∧ ∀ H', Keep [o] H H' → PotAt o H' → Q (.bl true) H'
def spLaw (K : PySem.W.Frag) : Sp := fun vs H Q _ => ∃ (a : Addr) (ns : List Int), vs = [.ref a] ∧ SqL K H a (ns.map V.int) ∧ ns.length ≤ 63 ∧ ∀ H', Q (.bl true) H'
theorem nil_m {o : Addr} {H H' : Hp} (k : Keep [] H H') : Keep [o] H H' := k.mono fun _ h => (List.not_mem_nil h).elim
theorem pot_ex {o : Addr} {H : Hp} (h : PotAt o H) : ∀ m ∈ [o], ∃ xs, H m = some (.lst xs) := fun m hm => by
  rw [List.mem_singleton.mp hm]; obtain ⟨PP, hP, _⟩ := h; exact ⟨_, hP⟩
section
variable {w : World} {K : PySem.W.Frag} {mg : Str → Option Value} {base : Heap}
theorem ok_single (T : Tx K mg) (G_w_end : FnOk PG w K mg base CX0 2 T.f_w_end T.fd_w_end ["_law_pot_here", "_law_fine", "_law_ends_here"] spEnd) (G_w_lowest : FnOk PG w K mg base CX0 1 T.f_w_lowest T.fd_w_lowest ["_law_top", "_law_bottom"] spLow0)
    (G_w_right : FnOk PG w K mg base CX0 8 T.f_w_right T.fd_w_right ["_law_found", "_law_stretches_here", "_law_fine"] (spRight T.C_Pieces)) (G_Pieces_point : FnOk PG w K mg base CX0 15 T.f_Pieces_point T.fd_Pieces_point ["value"] (spPoint T.C_Pieces))
    (G_Pieces_none : FnOk PG w K mg base CX0 15 T.f_Pieces_none T.fd_Pieces_none [] (spNone T.C_Pieces)) (G_Pieces_every : FnOk PG w K mg base CX0 15 T.f_Pieces_every T.fd_Pieces_every [] (spEvery T.C_Pieces))
    (G_w_between_right : FnOk PG w K mg base CX0 16 T.f_w_between_right T.fd_w_between_right ["_law_low", "_law_high"] spBetR) : FnOk PG w K mg base CX0 17 T.f_w_single_right T.fd_w_single_right ["_law_pot_here", "_law_fine", "_law_ends_here"] spSingle := by
  refine T.F_w_single_right.ok sc_w_single_right (fun vs H Q E h => ?_) (fun cdv A outer s H vs Q E hr h => ?_)
  · obtain ⟨o, e, es, f, rfl, _⟩ := h; rfl
  · obtain ⟨o, e, es, f, rfl, po, hf, neo, he, k⟩ := h
    have le := he.len
    have g0 := hf.g.pos
    have hf1 : 1 ≤ f ∧ f ≤ 10 ^ 6 := hf
    refine ⟨_, PSs.nox (pss_cons (ps_set (i := 3) sc_w_single_right.nd rfl (Or.inl rfl) (pe_call G_w_end (hr.mono (by decide)) rfl T.g_w_end T.F_w_end.kp T.b_w_end .nil pass0 (pa_cons (pv 0) (pa_cons (pv 1) (pa_cons (pv 2) pa_nil)))))
    (pss_cons (ps_set (i := 4) sc_w_single_right.nd rfl (Or.inl rfl) (pe_call G_w_end (hr.mono (by decide)) rfl T.g_w_end T.F_w_end.kp T.b_w_end .nil pass0 (pa_cons (pv 0) (pa_cons pe_int (pa_cons (pv 2) pa_nil)))))
    (pss_cons (ps_if (pt_not (pt_val (pe_call G_w_right (hr.mono (by decide)) rfl T.g_w_right T.F_w_right.kp T.b_w_right .nil pass0 (pa_cons (Ow.pe_smeth (pe_glob (v := .ref T.C_Pieces) rfl T.gC_Pieces rfl) T.cr_Pieces T.sm_Pieces_point G_Pieces_point (hr.mono (by decide)) T.b_Pieces_point .nil pass0 (pa_cons (pe_call G_w_lowest (hr.mono (by decide)) rfl T.g_w_lowest T.F_w_lowest.kp T.b_w_lowest .nil pass0 (pa_cons (pv 3) (pa_cons (pv 1) pa_nil))) pa_nil)) (pa_cons (pe_lst (pa_cons (pe_tup (pa_cons (pv 3) (pa_cons pe_bl (pa_cons (pv 3) (pa_cons pe_bl pa_nil))))) pa_nil)) (pa_cons (pv 1) pa_nil))))))
    (pss_one (ps_ret pe_bl))
    pss_nil)
    (pss_cons (ps_if (PW.pt (pw_or (pt_not (pt_val (pe_call G_w_right (hr.mono (by decide)) rfl T.g_w_right T.F_w_right.kp T.b_w_right .nil pass0 (pa_cons (Bl.pe_smeth0 (pe_glob (v := .ref T.C_Pieces) rfl T.gC_Pieces rfl) T.cr_Pieces T.sm_Pieces_none G_Pieces_none (hr.mono (by decide)) T.b_Pieces_none .nil pass0) (pa_cons (pe_lst pa_nil) (pa_cons pe_int pa_nil)))))) (pw_or1 (pt_not (pt_val (pe_call G_w_right (hr.mono (by decide)) rfl T.g_w_right T.F_w_right.kp T.b_w_right .nil pass0 (pa_cons (Bl.pe_smeth0 (pe_glob (v := .ref T.C_Pieces) rfl T.gC_Pieces rfl) T.cr_Pieces T.sm_Pieces_every G_Pieces_every (hr.mono (by decide)) T.b_Pieces_every .nil pass0) (pa_cons (pe_lst (pa_cons (pe_tup (pa_cons pe_non (pa_cons pe_bl (pa_cons pe_non (pa_cons pe_bl pa_nil))))) pa_nil)) (pa_cons pe_int pa_nil)))))))))
    (pss_one (ps_ret pe_bl))
    pss_nil)
    (pss_one (ps_ret (pe_and (pe_call G_w_between_right (hr.mono (by decide)) rfl T.g_w_between_right T.F_w_between_right.kp T.b_w_between_right .nil pass0 (pa_cons (pv 3) (pa_cons (pv 4) pa_nil))) (pe_and (pe_call G_w_between_right (hr.mono (by decide)) rfl T.g_w_between_right T.F_w_between_right.kp T.b_w_between_right .nil pass0 (pa_cons (pv 4) (pa_cons (pv 3) pa_nil))) (pe_one (pe_call G_w_between_right (hr.mono (by decide)) rfl T.g_w_between_right T.F_w_between_right.kp T.b_w_between_right .nil pass0 (pa_cons (pv 3) (pa_cons (pv 3) pa_nil)))))))))))), ?_⟩
    walk_at "start"
    walk_at "sts"
    refine ⟨o, e, f, es, rfl, po, hf, neo, he, fun x H1 k1 p1 bx => ?_⟩
    have he1 := he.k k1 neo
    walk_at "sts"
    refine ⟨o, e, 1, es, rfl, p1, f1ok, neo, he1, fun y H2 k2 p2 by_ => ?_⟩
    have k02 := k1.trans k2
    have bdx : Bd x := by unfold Bd; omega
    have bdy : Bd y := by unfold Bd; omega
    walk_at "sts"
    refine ⟨rfl, ?_⟩
    walk_at "sts"
    refine r_low0 (by omega) (Nat.lt_of_lt_of_le (show f.natAbs < 2 ^ 30 by omega) (Nat.pow_le_pow_right (by decide) (by decide))) fun v H3 k3 nv ev => ?_
    rw [(low_dbl (by omega)).1, (low_dbl (by omega)).2] at ev
    walk_at "sts"
    refine ⟨v, 2 * x, 2 * f, rfl, hf.g, ev, by unfold Sm; omega, fun z L H4 k4 nz hz cv => ?_⟩
    walk_at "sts"
    intro u nu
    have k5 : Keep [] H4 (upd H4 u (.tup [.int x, .bl true, .int x, .bl true])) := Keep.new nu
    have e5 : upd H4 u (.tup [.int x, .bl true, .int x, .bl true]) u = some (.tup [.int x, .bl true, .int x, .bl true]) := upd_same
    generalize upd H4 u (.tup [.int x, .bl true, .int x, .bl true]) = H5 at k5 e5 ⊢
    walk_at "sts"
    intro l nl
    have k6 : Keep [] H5 (upd H5 l (.lst [.ref u])) := Keep.new nl
    have e6 : upd H5 l (.lst [.ref u]) l = some (.lst [.ref u]) := upd_same
    generalize upd H5 l (.lst [.ref u]) = H6 at k6 e6 ⊢
    walk_at "sts"
    have gx : BdRW (some x, true, some x, true) ∧ Good (dbl (some x, true, some x, true)) := by
      refine ⟨⟨(fun t e => by cases e; unfold BdW; omega), (fun t e => by cases e; unfold BdW; omega)⟩, ⟨by unfold Bad0 dbl; simp, ?_⟩⟩
      show 2 * (2 * x) + 0 < 2 * (2 * x) + 1
      omega
    have es1 : setOf [(some x, true, some x, true)] = [(2 * (2 * x), 2 * (2 * x) + 1)] := by
      show [((2 * (2 * x) + 0 : Int), (2 * (2 * x) + 1 : Int))] = _
      rw [Int.add_zero]
    rw [← es1] at cv
    refine ⟨z, l, [(some x, true, some x, true)], L, f, rfl, hf, hz.k0 (k5.trans k6), ⟨[u], e6, ⟨k6 _ _ (by simp) e5, trivial⟩⟩, fun r m => by rw [List.mem_singleton.mp m]; exact gx, by simp, CovN.ro cv (fun r m => by rw [List.mem_singleton.mp m]; exact gx.1) (by simp), fun H7 k7 => ?_⟩
    have k27 := (((k3.trans k4).trans k5).trans k6).trans k7
    clear k3 k4 k5 k6 k7 e5 e6 cv hz ev
    walk_at "sts"
    refine ⟨rfl, ?_⟩
    walk_at "sts"
    refine ⟨rfl, fun n H8 k8 nn hn => ?_⟩
    walk_at "sts"
    intro l2 nl2
    have k9 : Keep [] H8 (upd H8 l2 (.lst [])) := Keep.new nl2
    have e9 : upd H8 l2 (.lst []) l2 = some (.lst []) := upd_same
    generalize upd H8 l2 (.lst []) = H9 at k9 e9 ⊢
    walk_at "sts"
    refine ⟨n, l2, [], [], 1, rfl, f1ok, (hn _).k0 k9, ⟨[], e9, trivial⟩, fun r m => (List.not_mem_nil m).elim, by simp, ⟨Can.nil, fun z => ⟨fun h => (mem_nil h).elim, fun h => (mem_nil h).elim⟩, fun _ m => (List.not_mem_nil m).elim, fun _ m => (List.not_mem_nil m).elim, by simp⟩, fun H10 k10 => ?_⟩
    have k210 := ((k27.trans k8).trans k9).trans k10
    clear k27 k8 k9 k10 hn e9
    walk_at "sts"
    refine ⟨rfl, ?_⟩
    walk_at "sts"
    refine ⟨rfl, 2 * 1, f1ok.g, fun ev0 L2 H11 k11 nev hev cv2 => ?_⟩
    walk_at "sts"
    intro u2 nu2
    have k12 : Keep [] H11 (upd H11 u2 (.tup [.non, .bl false, .non, .bl false])) := Keep.new nu2
    have e12 : upd H11 u2 (.tup [.non, .bl false, .non, .bl false]) u2 = some (.tup [.non, .bl false, .non, .bl false]) := upd_same
    generalize upd H11 u2 (.tup [.non, .bl false, .non, .bl false]) = H12 at k12 e12 ⊢
    walk_at "sts"
    intro l3 nl3
    have k13 : Keep [] H12 (upd H12 l3 (.lst [.ref u2])) := Keep.new nl3
    have e13 : upd H12 l3 (.lst [.ref u2]) l3 = some (.lst [.ref u2]) := upd_same
    generalize upd H12 l3 (.lst [.ref u2]) = H13 at k13 e13 ⊢
    walk_at "sts"
    have ge : BdRW (none, false, none, false) ∧ Good (dbl (none, false, none, false)) := by
      have bb := BB_big
      refine ⟨⟨(fun t e => by cases e), (fun t e => by cases e)⟩, ⟨by unfold Bad0 dbl; simp, ?_⟩⟩
      show -BB < BB
      omega
    refine ⟨ev0, l3, [(none, false, none, false)], L2, 1, rfl, f1ok, hev.k0 (k12.trans k13), ⟨[u2], e13, ⟨k13 _ _ (by simp) e12, trivial⟩⟩, fun r m => by rw [List.mem_singleton.mp m]; exact ge, by simp, CovN.ro (rs := [(none, false, none, false)]) cv2 (fun r m => by rw [List.mem_singleton.mp m]; exact ge.1) (by simp), fun H14 k14 => ?_⟩
    have k214 := (((k210.trans k11).trans k12).trans k13).trans k14
    walk_at "sts"
    refine ⟨x, y, rfl, bdx, bdy, fun H15 k15 => ?_⟩
    walk_at "sts"
    refine ⟨y, x, rfl, bdy, bdx, fun H16 k16 => ?_⟩
    walk_at "sts"
    refine ⟨x, x, rfl, bdx, bdx, fun H17 k17 => ?_⟩
    have kk := ((k214.trans k15).trans k16).trans k17
    exact k _ (k02.trans (nil_m kk)) (p2.k0 kk)
end
open PySem PySem.Spec PyProof.Rows L2 StX Pc
/-! ### the law -/
namespace AllP
theorem rev {α : Type} {P : Addr → α → Prop} : ∀ {as : List Addr} {xs : List α}, AllP P as xs → AllP P as.reverse xs.reverse
  | [], [], _ => trivial
  | _ :: _, _ :: _, h => by rw [List.reverse_cons, List.reverse_cons]; exact (rev h.2).snoc h.1
end AllP
theorem turn_mem {α : Type} {l : List α} {x : α} {n : Nat} : x ∈ l.reverse ++ l.take n ↔ x ∈ l := by
  rw [List.mem_append, List.mem_reverse]
  exact ⟨fun h => h.elim id List.mem_of_mem_take, .inl⟩
theorem mem_sub {L M : List Iv} (h : ∀ p ∈ L, p ∈ M) {z : Int} (m : mem L z) : mem M z := by
  obtain ⟨p, mp, q⟩ := m
  exact ⟨p, h p mp, q⟩
theorem mem_turn {rs : List Rw} {n : Nat} {z : Int} : mem (setOf (rs.reverse ++ rs.take n)) z ↔ mem (setOf rs) z := by
  constructor
  · refine mem_sub fun p m => ?_
    obtain ⟨r, mr, rfl⟩ := List.mem_map.mp m
    exact List.mem_map_of_mem (turn_mem.mp mr)
  · refine mem_sub fun p m => ?_
    obtain ⟨r, mr, rfl⟩ := List.mem_map.mp m
    exact List.mem_map_of_mem (turn_mem.mpr mr)
theorem cutV_one : ∀ {xs : List V}, cutV xs none (some 1) = xs.take 1
  | [] => by unfold cutV; simp
  | _ :: _ => cutV_to (n := 1) (by simp)
section
variable {w : World} {K : PySem.W.Frag} {mg : Str → Option Value} {base : Heap}
theorem ok_law (T : Tx K mg) (G_w_pot : FnOk PG w K mg base CX0 1 T.f_w_pot T.fd_w_pot ["_law_script"] (spPot K)) (G_w_take : FnOk PG w K mg base CX0 1 T.f_w_take T.fd_w_take ["_law_pot_here", "_law_size"] spTake)
    (G_w_stretches : FnOk PG w K mg base CX0 4 T.f_w_stretches T.fd_w_stretches ["_law_pot_here", "_law_fine", "_law_ends_here", "_law_most"] (spStrs 5)) (G_w_handed : FnOk PG w K mg base CX0 3 T.f_w_handed T.fd_w_handed ["_law_stretches_here", "_law_fine"] spHand)
    (G_w_pieces : FnOk PG w K mg base CX0 15 T.f_w_pieces T.fd_w_pieces ["_law_given"] (fun vs H Q _ => spLPs T.C_Pieces T.C_BadStretch vs H Q fun _ _ _ => False)) (G_w_right : FnOk PG w K mg base CX0 8 T.f_w_right T.fd_w_right ["_law_found", "_law_stretches_here", "_law_fine"] (spRight T.C_Pieces))
    (G_Pieces___eq : FnOk PG w K mg base CX0 1 T.f_Pieces___eq T.fd_Pieces___eq ["self", "other"] (spEqP K T.C_Pieces)) (G_w_two_right : FnOk PG w K mg base CX0 16 T.f_w_two_right T.fd_w_two_right ["_law_one", "_law_two", "_law_left", "_law_right_here", "_law_fine"] (spTwoR T.C_Pieces))
    (G_w_growth_right : FnOk PG w K mg base CX0 17 T.f_w_growth_right T.fd_w_growth_right ["_law_pot_here", "_law_found", "_law_stretches_here", "_law_fine"] (spGrowR T.C_Pieces)) (G_w_refusal_right : FnOk PG w K mg base CX0 16 T.f_w_refusal_right T.fd_w_refusal_right ["_law_pot_here", "_law_stretches_here", "_law_fine", "_law_ends_here"] spRefuse)
    (G_w_single_right : FnOk PG w K mg base CX0 17 T.f_w_single_right T.fd_w_single_right ["_law_pot_here", "_law_fine", "_law_ends_here"] spSingle) : FnOk PG w K mg base CX0 18 T.f_law T.fd_law ["_law_script"] (spLaw K) := by
  refine T.F_law.ok sc_law (fun vs H Q E h => ?_) (fun cdv A outer s H vs Q E hr h => ?_)
  · obtain ⟨a, ns, rfl, _⟩ := h; rfl
  · obtain ⟨a, ns, rfl, hs, l63, k⟩ := h
    refine ⟨_, PSs.nox (pss_cons (ps_set (i := 1) sc_law.nd rfl (Or.inl rfl) (pe_call G_w_pot (hr.mono (by decide)) rfl T.g_w_pot T.F_w_pot.kp T.b_w_pot .nil pass0 (pa_cons (pv 0) pa_nil)))
    (pss_cons (ps_set (i := 2) sc_law.nd rfl (Or.inl rfl) (pe_op op_add pe_int (pe_call G_w_take (hr.mono (by decide)) rfl T.g_w_take T.F_w_take.kp T.b_w_take .nil pass0 (pa_cons (pv 1) (pa_cons (pe_ix ix_list (pe_lst (pa_cons pe_int (pa_cons pe_int (pa_cons pe_int (pa_cons pe_int (pa_cons (pe_op op_pow pe_int pe_int) pa_nil)))))) (pe_call G_w_take (hr.mono (by decide)) rfl T.g_w_take T.F_w_take.kp T.b_w_take .nil pass0 (pa_cons (pv 1) (pa_cons pe_int pa_nil))) (fun _ _ => rfl)) pa_nil)))))
    (pss_cons (ps_set (i := 3) sc_law.nd rfl (Or.inl rfl) (pe_lst pa_nil))
    (pss_cons (ps_set (i := 4) sc_law.nd rfl (Or.inr rfl) (pe_call G_w_stretches (hr.mono (by decide)) rfl T.g_w_stretches T.F_w_stretches.kp T.b_w_stretches .nil pass0 (pa_cons (pv 1) (pa_cons (pv 2) (pa_cons (pv 3) (pa_cons pe_int pa_nil))))))
    (pss_cons (ps_set (i := 5) sc_law.nd rfl (Or.inl rfl) (pe_call G_w_stretches (hr.mono (by decide)) rfl T.g_w_stretches T.F_w_stretches.kp T.b_w_stretches .nil pass0 (pa_cons (pv 1) (pa_cons (pv 2) (pa_cons (pv 3) (pa_cons pe_int pa_nil))))))
    (pss_cons (ps_set (i := 6) sc_law.nd rfl (Or.inl rfl) (pe_call G_w_pieces (hr.mono (by decide)) rfl T.g_w_pieces T.F_w_pieces.kp T.b_w_pieces .nil pass0 (pa_cons (pe_call G_w_handed (hr.mono (by decide)) rfl T.g_w_handed T.F_w_handed.kp T.b_w_handed .nil pass0 (pa_cons (pv 4) (pa_cons (pv 2) pa_nil))) pa_nil)))
    (pss_cons (ps_set (i := 7) sc_law.nd rfl (Or.inl rfl) (pe_call G_w_pieces (hr.mono (by decide)) rfl T.g_w_pieces T.F_w_pieces.kp T.b_w_pieces .nil pass0 (pa_cons (pe_call G_w_handed (hr.mono (by decide)) rfl T.g_w_handed T.F_w_handed.kp T.b_w_handed .nil pass0 (pa_cons (pv 5) (pa_cons (pv 2) pa_nil))) pa_nil)))
    (pss_cons (ps_if (PW.pt (pw_or (pt_not (pt_val (pe_call G_w_right (hr.mono (by decide)) rfl T.g_w_right T.F_w_right.kp T.b_w_right .nil pass0 (pa_cons (pv 6) (pa_cons (pv 4) (pa_cons (pv 2) pa_nil)))))) (pw_or1 (pt_not (pt_val (pe_call G_w_right (hr.mono (by decide)) rfl T.g_w_right T.F_w_right.kp T.b_w_right .nil pass0 (pa_cons (pv 7) (pa_cons (pv 5) (pa_cons (pv 2) pa_nil)))))))))
    (pss_one (ps_ret pe_bl))
    pss_nil)
    (pss_cons (ps_set (i := 8) sc_law.nd rfl (Or.inl rfl) (pe_call G_w_pieces (hr.mono (by decide)) rfl T.g_w_pieces T.F_w_pieces.kp T.b_w_pieces .nil pass0 (pa_cons (pe_call G_w_handed (hr.mono (by decide)) rfl T.g_w_handed T.F_w_handed.kp T.b_w_handed .nil pass0 (pa_cons (pe_op op_cat (pe_lc (own := [("_law_k", 9)]) (g := gName 9) (tt := tYes) rfl sc_law.nd (pi_range1 rfl T.m_range (pa_cons (pe_callB call_len_seq (by rfl) T.m_len PySem.boot_len (pa_cons (pv 4) pa_nil)) pa_nil)) (blkOk_by (own := [("_law_k", 9)]) (N := ["_law_script", "_law_pot_here", "_law_fine", "_law_ends_here", "_law_left", "_law_right_here", "_law_one", "_law_two", "_law_turned", "_law_k"]) (sc := defScope s_law) (by decide +kernel)) (fun _ _ _ _ _ => pg_name (i := 9) sc_law.nd rfl (Or.inl rfl)) (fun _ _ _ _ _ => pts_nil) (fun _ _ _ _ _ => (pe_ix (ix_listK (K := K) rfl) (pv 4) (pe_op op_sub (pe_op op_sub (pe_callB (call_len_seqK (K := K) rfl) (by rfl) T.m_len PySem.boot_len (pa_cons (pv 4) pa_nil)) pe_int) (pv 9)) (fun _ _ => rfl)))) (pe_slice sl_list (pv 4) po_none (po_some pe_int))) (pa_cons (pv 2) pa_nil))) pa_nil)))
    (pss_cons (ps_if (PW.pt (pw_or (pt_not (pt_cmpR (Ow.op_ownEq T.me_Pieces___eq (G_Pieces___eq.raw T.b_Pieces___eq .nil) (hr.mono (by decide)) pass0 hr.units0) (pv 8) (pv 6) (nomark _))) (pw_or1 (pt_not (pt_val (pe_call G_w_two_right (hr.mono (by decide)) rfl T.g_w_two_right T.F_w_two_right.kp T.b_w_two_right .nil pass0 (pa_cons (pv 6) (pa_cons (pv 7) (pa_cons (pv 4) (pa_cons (pv 5) (pa_cons (pv 2) pa_nil)))))))))))
    (pss_one (ps_ret pe_bl))
    pss_nil)
    (pss_cons (ps_if (PW.pt (pw_or (pt_not (pt_val (pe_call G_w_growth_right (hr.mono (by decide)) rfl T.g_w_growth_right T.F_w_growth_right.kp T.b_w_growth_right .nil pass0 (pa_cons (pv 1) (pa_cons (pv 6) (pa_cons (pv 4) (pa_cons (pv 2) pa_nil))))))) (pw_or1 (pt_not (pt_val (pe_call G_w_refusal_right (hr.mono (by decide)) rfl T.g_w_refusal_right T.F_w_refusal_right.kp T.b_w_refusal_right .nil pass0 (pa_cons (pv 1) (pa_cons (pv 4) (pa_cons (pv 2) (pa_cons (pv 3) pa_nil))))))))))
    (pss_one (ps_ret pe_bl))
    pss_nil)
    (pss_one (ps_ret (pe_and (pe_call G_w_single_right (hr.mono (by decide)) rfl T.g_w_single_right T.F_w_single_right.kp T.b_w_single_right .nil pass0 (pa_cons (pv 1) (pa_cons (pv 2) (pa_cons (pv 3) pa_nil)))) (pe_and (pe_call G_w_right (hr.mono (by decide)) rfl T.g_w_right T.F_w_right.kp T.b_w_right .nil pass0 (pa_cons (pv 6) (pa_cons (pv 4) (pa_cons (pv 2) pa_nil)))) (pe_one (pe_call G_w_right (hr.mono (by decide)) rfl T.g_w_right T.F_w_right.kp T.b_w_right .nil pass0 (pa_cons (pv 7) (pa_cons (pv 5) (pa_cons (pv 2) pa_nil)))))))))))))))))))), ?_⟩
    walk_at "start"
    walk_at "sts"
    refine ⟨a, ns, rfl, hs, l63, fun o H1 k1 no po => ?_⟩
    walk_at "sts"
    intro q nq
    have p1 : PotAt o (upd H1 q (.lst [.int 1, .int 2, .int 6, .int 60, .int 1000000])) := po.new nq
    have nqo : q ≠ o := po.ne nq
    have eq1 : upd H1 q (.lst [.int 1, .int 2, .int 6, .int 60, .int 1000000]) q = some (.lst [.int 1, .int 2, .int 6, .int 60, .int 1000000]) := upd_same
    generalize upd H1 q (.lst [.int 1, .int 2, .int 6, .int 60, .int 1000000]) = H2 at p1 eq1 ⊢
    walk_at "sts"
    refine r_take p1 (by decide) (by decide) fun y H3 y0 y1 k3 p3 => ?_
    have eq3 := k3 _ _ (by simpa using nqo) eq1
    obtain ⟨n, rfl⟩ : ∃ n : Nat, y = (n : Int) := ⟨y.toNat, by omega⟩
    obtain ⟨d, hd, d0, d1⟩ : ∃ d : Int, ([.int 1, .int 2, .int 6, .int 60, .int 1000000] : List V)[n]? = some (.int d) ∧ 1 ≤ d ∧ d ≤ 1000000 := by
      have : n = 0 ∨ n = 1 ∨ n = 2 ∨ n = 3 ∨ n = 4 := by omega
      rcases this with rfl | rfl | rfl | rfl | rfl
      · exact ⟨1, rfl, by decide, by decide⟩
      · exact ⟨2, rfl, by decide, by decide⟩
      · exact ⟨6, rfl, by decide, by decide⟩
      · exact ⟨60, rfl, by decide, by decide⟩
      · exact ⟨1000000, rfl, by decide, by decide⟩
    walk_at "sts"
    refine r_ixL (sqL_of eq3) (atI_nat hd) ?_
    walk_at "sts"
    refine r_take p3 (by omega) (by omega) fun z H4 z0 z1 k4 p4 => ?_
    clear eq3 eq1 k3 hd p3 p1
    walk_at "sts"
    obtain ⟨f, ef, hf⟩ : ∃ f : Int, 1 + z = f ∧ FOk f := ⟨_, rfl, by omega, by omega⟩
    rw [ef]
    intro e ne
    have neo : e ≠ o := p4.ne ne
    have p5 : PotAt o (upd H4 e (.lst [])) := p4.new ne
    have he : EsAt (upd H4 e (.lst [])) e [] := ⟨upd_same, fun _ m => (List.not_mem_nil m).elim, by simp⟩
    generalize upd H4 e (.lst []) = H5 at p5 he ⊢
    have he' := he.at_
    walk_at "sts"
    refine ⟨o, e, f, [], rfl, p5, hf, neo, he, by decide, fun p rs us H6 k6 np p6 he6 lus hp lrs ok => ?_⟩
    have npo : p ≠ o := p5.ne np
    have npe : p ≠ e := ne_free he' np
    have lus' : us.length ≤ 10 := by simpa using lus
    have he6' := he6.at_
    clear he'
    walk_at "sts"
    refine ⟨o, e, f, us, rfl, p6, hf, neo, he6, by omega, fun p2 ss ws H7 k7 np2 p7 he7 lws hp2 lss ok2 => ?_⟩
    have t7 := k7.tt fun m hm => by
      simp only [List.mem_cons, List.not_mem_nil, or_false] at hm
      rcases hm with rfl | rfl
      · exact p6.noT
      · exact noT_l he6.at_
    have hp7 := hp.k k7 (by simp only [List.mem_cons, List.not_mem_nil, or_false, not_or]; exact ⟨npo, npe⟩) t7
    have he7' := he7.at_
    have np2o0 : p2 ≠ o := p6.ne np2
    clear he6 he6' hp k6 k7 t7 p6 p5 he np2 np
    obtain ⟨asp, epp, hap⟩ := id hp7.ex
    obtain ⟨asp2, epp2, _⟩ := id hp2.ex
    walk_at "sts"
    have gd : ∀ r ∈ rs.map dbl, Good r := fun r m => by obtain ⟨r0, m0, rfl⟩ := List.mem_map.mp m; exact (ok r0 m0).2
    have gd2 : ∀ r ∈ ss.map dbl, Good r := fun r m => by obtain ⟨r0, m0, rfl⟩ := List.mem_map.mp m; exact (ok2 r0 m0).2
    have sm : ∀ r ∈ rs.map dbl, SmR r := fun r m => by obtain ⟨r0, m0, rfl⟩ := List.mem_map.mp m; exact bdr_sm (ok r0 m0).1
    have sm2 : ∀ r ∈ ss.map dbl, SmR r := fun r m => by obtain ⟨r0, m0, rfl⟩ := List.mem_map.mp m; exact bdr_sm (ok2 r0 m0).1
    refine ⟨p, f, rs, rfl, hf, hp7, by omega, fun h1 as1 H8 k8 nh1 eh1 ha1 => ?_⟩
    walk_at "sts"
    refine ⟨h1, as1, rs.map dbl, 2 * f, rfl, hf.g, eh1, ha1, sm, by rw [List.length_map]; omega, fun _ x L H9 k9 nx hx cv => ?_, fun i a r _ hr _ ng => (ng (gd r (List.mem_of_getElem? hr))).elim⟩
    rw [← setOf_map] at cv
    have k79 := k8.trans k9
    have p9 := p7.k0 k79
    have he9 := he7.k (nil_m (o := o) k79) neo
    have hp9 := hp7.k0 k79
    have hs9 := hp2.k0 k79
    have e9 := he9.at_
    have epp9 := k79 _ _ (by simp) epp
    have hap9 : AllP (RawAt H9) asp rs := hap.mono fun a x h => h.k k79.t0
    have epp29 := k79 _ _ (by simp) epp2
    clear hap k8 k9 k79 ha1 eh1 nh1 hp7 hp2 he7 he7' p7 epp epp2 nx
    walk_at "sts"
    refine ⟨p2, f, ss, rfl, hf, hs9, by omega, fun h2 as2 H10 k10 nh2 eh2 ha2 => ?_⟩
    walk_at "sts"
    refine ⟨h2, as2, ss.map dbl, 2 * f, rfl, hf.g, eh2, ha2, sm2, by rw [List.length_map]; omega, fun _ y M H11 k11 ny hy cv2 => ?_, fun i a r _ hr _ ng => (ng (gd2 r (List.mem_of_getElem? hr))).elim⟩
    rw [← setOf_map] at cv2
    have k91 := k10.trans k11
    have p11 := p9.k0 k91
    have he11 := he9.k (nil_m (o := o) k91) neo
    have hp11 := hp9.k0 k91
    have hs11 := hs9.k0 k91
    have e11 := he11.at_
    have ep11 := k91 _ _ (by simp) epp9
    have hap11 : AllP (RawAt H11) asp rs := hap9.mono fun a x h => h.k k91.t0
    have ep211 := k91 _ _ (by simp) epp29
    have hx11 := hx.k0 k91
    clear hap9 k10 k11 k91 ha2 eh2 nh2 hp9 hs9 he9 e9 p9 epp9 epp29 hx ny
    have rok : ∀ r ∈ rs, BdRW r ∧ Good (dbl r) := fun r m => ⟨(ok r m).1.w, (ok r m).2⟩
    have sok : ∀ r ∈ ss, BdRW r ∧ Good (dbl r) := fun r m => ⟨(ok2 r m).1.w, (ok2 r m).2⟩
    have ro1 := CovN.ro cv (fun r m => (rok r m).1) (by omega)
    have ro2 := CovN.ro cv2 (fun r m => (sok r m).1) (by omega)
    walk_at "sts"
    refine ⟨x, p, rs, L, f, rfl, hf, hx11, hp11, rok, by omega, ro1, fun H12 k12 => ?_⟩
    walk_at "sts"
    have hs12 := hs11.k0 k12
    have hy12 := hy.k0 k12
    refine ⟨y, p2, ss, M, f, rfl, hf, hy12, hs12, sok, by omega, ro2, fun H13 k13 => ?_⟩
    have k113 := k12.trans k13
    have p13 := p11.k0 k113
    have he13 := he11.k (nil_m (o := o) k113) neo
    have hp13 := hp11.k0 k113
    have hs13 := hs11.k0 k113
    have e13 := he13.at_
    have ep13 := k113 _ _ (by simp) ep11
    have ep213 := k113 _ _ (by simp) ep211
    have hx13 := hx11.k0 k113
    have hy13 := hy.k0 k113
    have hap13 : AllP (RawAt H13) asp rs := hap11.mono fun a x h => h.k k113.t0
    clear k12 k13 k113 p11 he11 hp11 hs11 e11 ep11 ep211 hx11 hy hap11 hs12 hy12
    have lap := hap13.len
    walk_at "sts"
    refine lcR1_go (fun D i acc H' => acc = (asp.reverse.take i).map V.ref ∧ Keep [] H13 H' ∧ H13 D = none) ⟨by omega, by simp only [List.length_map]; omega⟩ (fun D nD => ?_) ?_ ?_
    · exact ⟨rfl, Keep.new nD, nD⟩
    · rintro D i acc H' hi hD ⟨rfl, k14, nD⟩
      have ep14 := k14 _ _ (by simp) ep13
      walk_at "sts"
      have hil : i < asp.length := by simp only [List.length_map] at hi; omega
      obtain ⟨u, hu⟩ : ∃ u, asp[asp.length - 1 - i]? = some u := ⟨_, List.getElem?_eq_getElem (by omega)⟩
      have ie : (((asp.map V.ref).length : Int) - 1 - (i : Int)) = ((asp.length - 1 - i : Nat) : Int) := by rw [List.length_map]; omega
      rw [ie]
      refine r_ixL (sqL_of ep14) (atI_nat (v := .ref u) (by rw [List.getElem?_map, hu]; rfl)) ?_
      have tk : asp.reverse.take (i + 1) = asp.reverse.take i ++ [u] := by
        first
          | rw [List.take_add_one, List.getElem?_reverse hil, hu]; rfl
          | rw [List.take_succ, List.getElem?_reverse hil, hu]; rfl
      exact ⟨_, hD, by rw [List.length_map, List.length_take, List.length_reverse]; exact lt_size (by omega), _, upd_same, by rw [tk, List.map_append]; rfl, k14.mut nD, nD⟩
    · rintro D acc H' nD hD ⟨rfl, k14, _⟩
      have ep14 := k14 _ _ (by simp) ep13
      rw [List.take_of_length_le (by simp)] at hD
      walk_at "sts"
      refine r_slL (sqL_of ep14) fun u nu => ?_
      rw [cutV_one, ← List.map_take]
      have k15 : Keep [] H' (upd H' u (.lst ((asp.take 1).map V.ref))) := Keep.new nu
      have e15 : upd H' u (.lst ((asp.take 1).map V.ref)) u = some (.lst ((asp.take 1).map V.ref)) := upd_same
      generalize upd H' u (.lst ((asp.take 1).map V.ref)) = H15 at k15 e15 ⊢
      refine r_cat (k15 _ _ (by simp) hD) e15 (le_size (by simp only [List.length_map, List.length_take, List.length_reverse]; omega)) fun c nc => ?_
      rw [← List.map_append]
      have k16 : Keep [] H15 (upd H15 c (.lst ((asp.reverse ++ asp.take 1).map V.ref))) := Keep.new nc
      have e16 : upd H15 c (.lst ((asp.reverse ++ asp.take 1).map V.ref)) c = some (.lst ((asp.reverse ++ asp.take 1).map V.ref)) := upd_same
      generalize upd H15 c (.lst ((asp.reverse ++ asp.take 1).map V.ref)) = H16 at k16 e16 ⊢
      have k17 := (k14.trans k15).trans k16
      have hap16 : AllP (RawAt H16) asp rs := hap13.mono fun a x h => h.k k17.t0
      have ht16 : RawsAt H16 c (rs.reverse ++ rs.take 1) := ⟨_, e16, hap16.rev.app hap16.take⟩
      have lt1 : (rs.reverse ++ rs.take 1).length ≤ 6 := by
        rw [List.length_append, List.length_reverse, List.length_take]; omega
      clear k14 k15 k16 e15 hD hap16 hap13 nu nc nD ep14
      walk_at "sts"
      refine ⟨c, f, rs.reverse ++ rs.take 1, rfl, hf, ht16, by omega, fun h3 as3 H18 k18 nh3 eh3 ha3 => ?_⟩
      walk_at "sts"
      have ok3 : ∀ r ∈ rs.reverse ++ rs.take 1, Okr r := fun r m => ok r (turn_mem.mp m)
      have gd3 : ∀ r ∈ (rs.reverse ++ rs.take 1).map dbl, Good r := fun r m => by obtain ⟨r0, m0, rfl⟩ := List.mem_map.mp m; exact (ok3 r0 m0).2
      have sm3 : ∀ r ∈ (rs.reverse ++ rs.take 1).map dbl, SmR r := fun r m => by obtain ⟨r0, m0, rfl⟩ := List.mem_map.mp m; exact bdr_sm (ok3 r0 m0).1
      refine ⟨h3, as3, (rs.reverse ++ rs.take 1).map dbl, 2 * f, rfl, hf.g, eh3, ha3, sm3, by rw [List.length_map]; omega, fun _ t L3 H19 k19 nt ht cv3 => ?_, fun i a r _ hr _ ng => (ng (gd3 r (List.mem_of_getElem? hr))).elim⟩
      rw [← setOf_map] at cv3
      have ro3 := CovN.ro cv3 (fun r m => (ok3 r m).1.w) (by omega)
      have eqL : L3 = L := can_eq cv3.can cv.can fun z => by rw [CovN.one cv3, CovN.one cv]; exact mem_turn
      subst eqL
      have k139 := (k17.trans k18).trans k19
      have p19 := p13.k0 k139
      have he19 := he13.k (nil_m (o := o) k139) neo
      have hp19 := hp13.k0 k139
      have hs19 := hs13.k0 k139
      have hx19 := hx13.k0 k139
      have hy19 := hy13.k0 k139
      have e19 := he19.at_
      have ep19 := k139 _ _ (by simp) ep13
      have ep219 := k139 _ _ (by simp) ep213
      obtain ⟨dt, pt, ast, et, _, _⟩ := id ht
      obtain ⟨dx, px, asx, ex, _, _⟩ := id hx19
      clear k17 k18 k19 k139 ha3 eh3 nh3 ht16 p13 he13 hp13 hs13 hx13 hy13 e13 ep13 ep213 e16
      walk_at "sts"
      refine Ow.r_own2 et ex (.inl ⟨t, x, _, _, 2 * f, rfl, hf.g, ht, hx19, ro1.sm, ro1.sm, ?_⟩)
      rw [decide_eq_true rfl]
      walk_at "sts"
      refine ⟨x, y, p, p2, rs, ss, _, M, f, rfl, hf, hx19, hy19, hp19, hs19, rok, sok, lrs, lss, cv, cv2, fun H20 k20 => ?_⟩
      have p20 := p19.k0 k20
      have he20 := he19.k (nil_m (o := o) k20) neo
      have hp20 := hp19.k0 k20
      have hs20 := hs19.k0 k20
      have hx20 := hx19.k0 k20
      have hy20 := hy19.k0 k20
      have e20 := he20.at_
      have lw : ws.length ≤ 20 := by omega
      have np2o : p2 ≠ o := np2o0
      clear k20 p19 he19 hp19 hs19 hx19 hy19 e19 ep19 ep219 et ht ex
      walk_at "sts"
      refine ⟨o, x, p, rs, _, f, rfl, p20, hf, hx20, hp20, npo, ok, by omega, cv, fun H21 k21 p21 => ?_⟩
      have he21 := he20.k k21 neo
      have hp21 := hp20.k k21 (by simpa using npo) (k21.t1 p20.noT)
      have hs21 := hs20.k k21 (by simpa using np2o) (k21.t1 p20.noT)
      have hx21 := hx20.k k21 (pot_ex p20)
      have hy21 := hy20.k k21 (pot_ex p20)
      have e21 := he21.at_
      clear k21 p20 he20 hp20 hs20 hx20 hy20 e20
      walk_at "sts"
      refine ⟨o, e, p, rs, ws, f, rfl, p21, hf, neo, npo, npe, he21, hp21, ok, lrs, fun H22 k22 p22 => ?_⟩
      have he22 := he21.k k22 neo
      have hp22 := hp21.k k22 (by simpa using npo) (k22.t1 p21.noT)
      have hs22 := hs21.k k22 (by simpa using np2o) (k22.t1 p21.noT)
      have hx22 := hx21.k k22 (pot_ex p21)
      have hy22 := hy21.k k22 (pot_ex p21)
      have e22 := he22.at_
      clear k22 p21 he21 hp21 hs21 hx21 hy21 e21
      walk_at "sts"
      refine ⟨o, e, ws, f, rfl, p22, hf, neo, he22, fun H23 k23 p23 => ?_⟩
      have hp23 := hp22.k k23 (by simpa using npo) (k23.t1 p22.noT)
      have hs23 := hs22.k k23 (by simpa using np2o) (k23.t1 p22.noT)
      have hx23 := hx22.k k23 (pot_ex p22)
      have hy23 := hy22.k k23 (pot_ex p22)
      clear k23 p22 p23 he22 hp22 hs22 hx22 hy22 e22
      walk_at "sts"
      refine ⟨x, p, rs, _, f, rfl, hf, hx23, hp23, rok, by omega, ro1, fun H24 k24 => ?_⟩
      walk_at "sts"
      refine ⟨y, p2, ss, M, f, rfl, hf, hy23.k0 k24, hs23.k0 k24, sok, by omega, ro2, fun H25 _ => ?_⟩
      exact k H25
end
open PySem PySem.Spec PyProof.Rows L2 StX Pc
/-! ### all -/
theorem law_of {w : World} {K : PySem.W.Frag} {mg : Str → Option Value} {base : Heap} (T : Tx K mg) : FnOk PG w K mg base CX0 18 T.f_law T.fd_law ["_law_script"] (spLaw K) := by
  have gt := ok_take (w := w) (base := base) (P := PG) T
  have gpo := ok_pot (w := w) (base := base) (P := PG) T
  have gra := ok_ratio (w := w) (base := base) (P := PG) T
  have gpl := ok_plus T gra
  have gti := ok_times T gra
  have gwh := ok_whole (w := w) (base := base) (P := PG) T
  have gpi := ok_pairIs T gwh
  have glo := ok_lowest (w := w) (base := base) (P := PG) T
  have gcm := ok_compare (w := w) (base := base) (P := PG) T
  have gcc := ok_cc T gcm
  have glc := ok_lowC (w := w) (base := base) (P := PG) T
  have ghc := ok_highC (w := w) (base := base) (P := PG) T
  have gbe := ok_bet (w := w) (base := base) (P := PG) T
  have gck := ok_chk T gcc glc ghc
  have gmr := ok_mrg T gcc
  have gas := ok_asc64 T gmr
  have gdt := ok_depT T gcc glc ghc gas
  have gct := ok_covT T gbe gdt
  have gdl := ok_depL T gcc glc ghc gas
  have gcl := ok_covL T gbe gdl
  have gun := ok_unc T gcc glc ghc gbe
  have gbo := ok_both T gcl
  have gha := ok_has T gcc glc ghc
  have gwr := ok_wr (w := w) (base := base) (P := PG) T
  have gwp := ok_wp T gwr
  have gws := ok_wps T gwp
  have gva := ok_val T gpl gti
  have giX := ok_initX T gck gct
  have gi : GMk PG w K mg base T := FnR.calm giX
  have gno := ok_none T gi
  have gev := ok_every T gi
  have gpt := ok_point T gi
  have gan := ok_and T gi gbo
  have gor := ok_or T gi
  have gsu := ok_sub T gi gbo gun
  have gin := ok_inside T gbo gun
  have giv := ok_inv T gi gun
  have geq := ok_eqP (w := w) (base := base) (P := PG) T
  have gle := ok_lenP (w := w) (base := base) (P := PG) T
  have gbl := ok_boolP (w := w) (base := base) (P := PG) T
  have gst := ok_strP T gws
  have gcn := ok_con T gha
  have gbw := ok_betw T giX gra
  have gso := ok_some T gva
  have glp := ok_lps T giX
  have ggr := ok_grown T giX gpl
  have gen := ok_end T gt
  have gs1 := ok_str1 T gt gen
  have gwg := ok_wrong T gt gen
  have ggd := ok_good (w := w) (base := base) (P := PG) T
  have gss := ok_strs T (n := 5) (by decide) gt gs1
  have gep := ok_endP T glo
  have ghd := ok_hand T gep
  have gio := ok_inOne (w := w) (base := base) (P := PG) T
  have gi2 := ok_in T gio
  have ged := ok_ends (w := w) (base := base) (P := PG) T
  have gpr := ok_probes (w := w) (base := base) (P := PG) T
  have gma := ok_marks T gi2
  have gpc := ok_piece T glo
  have gdu := ok_due T gpc
  have gei := ok_endIs T gpi
  have gpa := ok_parts T gei
  have grt := ok_rt (w := w) (base := base) (P := PG) T
  have gtx := ok_txt T grt
  have gsr := ok_someR T gso gwh glo gi2
  have grg := ok_right T ged gpr gma gdu gpa gle gbl gst gtx glo gcn geq gsr
  have gtw := ok_twoR T ged gpr gma gdu gpa geq gan gor gsu giv gin
  have glg := ok_lgrow (w := w) (base := base) T
  have grf := ok_ref T ggr
  have ggw := ok_growR T gt grg (FnOk.calm ggr) glg gno grf
  have gbr := ok_betR T gbw grg
  have grs := ok_refuse T gt gwg ggd ghd glp grg
  have gsi := ok_single T gen glo grg gpt gno gev gbr
  exact ok_law T gpo gt gss ghd (FnOk.calm glp) grg geq gtw ggw grs gsi
theorem all_mk {w : World} {K : PySem.W.Frag} {h : Heap} {mg : Str → Option Value} {fa : Addr} (X : K.In h) (G : h.Ns mainGlobals mg) (hfa : mg "law" = some (.ref fa))
    {C_Pieces : Addr} {f0 : Addr} {od0 an0 : Option Addr} {sl0 : Array (Option Value)} {oc0 kV0 dc0 pm0 cd0 ct0 : Value} {T0 : Addr} {ocT0 : Value} {odT0 : Option Addr} {nT0 : Nat} {slT0 : Array (Option Value)} {tT0_0 : Tok} {f1 : Addr} {od1 an1 : Option Addr} {sl1 : Array (Option Value)} {oc1 kV1 dc1 pm1 cd1 ct1 : Value} {f2 : Addr} {od2 an2 : Option Addr} {sl2 : Array (Option Value)} {oc2 kV2 dc2 pm2 cd2 ct2 : Value} {f3 : Addr} {od3 an3 : Option Addr} {sl3 : Array (Option Value)} {oc3 kV3 dc3 pm3 cd3 ct3 : Value} {f4 : Addr} {od4 an4 : Option Addr} {sl4 : Array (Option Value)} {oc4 kV4 dc4 pm4 cd4 ct4 : Value} {f5 : Addr} {od5 an5 : Option Addr} {sl5 : Array (Option Value)} {oc5 kV5 dc5 pm5 cd5 ct5 : Value} {f6 : Addr} {od6 an6 : Option Addr} {sl6 : Array (Option Value)} {oc6 kV6 dc6 pm6 cd6 ct6 : Value} {f7 : Addr} {od7 an7 : Option Addr} {sl7 : Array (Option Value)} {oc7 kV7 dc7 pm7 cd7 ct7 : Value} {f8 : Addr} {od8 an8 : Option Addr} {sl8 : Array (Option Value)} {oc8 kV8 dc8 pm8 cd8 ct8 : Value} {f9 : Addr} {od9 an9 : Option Addr} {sl9 : Array (Option Value)} {oc9 kV9 dc9 pm9 cd9 ct9 : Value} {f10 : Addr} {od10 an10 : Option Addr} {sl10 : Array (Option Value)} {oc10 kV10 dc10 pm10 cd10 ct10 : Value} {f11 : Addr} {od11 an11 : Option Addr} {sl11 : Array (Option Value)} {oc11 kV11 dc11 pm11 cd11 ct11 : Value} {f12 : Addr} {od12 an12 : Option Addr} {sl12 : Array (Option Value)} {oc12 kV12 dc12 pm12 cd12 ct12 : Value} {f13 : Addr} {od13 an13 : Option Addr} {sl13 : Array (Option Value)} {oc13 kV13 dc13 pm13 cd13 ct13 : Value} {f14 : Addr} {od14 an14 : Option Addr} {sl14 : Array (Option Value)} {oc14 kV14 dc14 pm14 cd14 ct14 : Value} {f15 : Addr} {od15 an15 : Option Addr} {sl15 : Array (Option Value)} {oc15 kV15 dc15 pm15 cd15 ct15 : Value} {f16 : Addr} {od16 an16 : Option Addr} {sl16 : Array (Option Value)} {oc16 kV16 dc16 pm16 cd16 ct16 : Value} {f17 : Addr} {od17 an17 : Option Addr} {sl17 : Array (Option Value)} {oc17 kV17 dc17 pm17 cd17 ct17 : Value} {f18 : Addr} {od18 an18 : Option Addr} {sl18 : Array (Option Value)} {oc18 kV18 dc18 pm18 cd18 ct18 : Value} {f19 : Addr} {od19 an19 : Option Addr} {sl19 : Array (Option Value)} {oc19 kV19 dc19 pm19 cd19 ct19 : Value} {f20 : Addr} {od20 an20 : Option Addr} {sl20 : Array (Option Value)} {oc20 kV20 dc20 pm20 cd20 ct20 : Value} {f21 : Addr} {od21 an21 : Option Addr} {sl21 : Array (Option Value)} {oc21 kV21 dc21 pm21 cd21 ct21 : Value} {ps21 : Addr} {rs21 : List Value} {f22 : Addr} {od22 an22 : Option Addr} {sl22 : Array (Option Value)} {oc22 kV22 dc22 pm22 cd22 ct22 : Value} {ps22 : Addr} {rs22 : List Value} {f23 : Addr} {od23 an23 : Option Addr} {sl23 : Array (Option Value)} {oc23 kV23 dc23 pm23 cd23 ct23 : Value} {ps23 : Addr} {rs23 : List Value} {f24 : Addr} {od24 an24 : Option Addr} {sl24 : Array (Option Value)} {oc24 kV24 dc24 pm24 cd24 ct24 : Value} {ps24 : Addr} {rs24 : List Value} {f25 : Addr} {od25 an25 : Option Addr} {sl25 : Array (Option Value)} {oc25 kV25 dc25 pm25 cd25 ct25 : Value} {f26 : Addr} {od26 an26 : Option Addr} {sl26 : Array (Option Value)} {oc26 kV26 dc26 pm26 cd26 ct26 : Value} {f27 : Addr} {od27 an27 : Option Addr} {sl27 : Array (Option Value)} {oc27 kV27 dc27 pm27 cd27 ct27 : Value} {f28 : Addr} {od28 an28 : Option Addr} {sl28 : Array (Option Value)} {oc28 kV28 dc28 pm28 cd28 ct28 : Value} {f29 : Addr} {od29 an29 : Option Addr} {sl29 : Array (Option Value)} {oc29 kV29 dc29 pm29 cd29 ct29 : Value} {f30 : Addr} {od30 an30 : Option Addr} {sl30 : Array (Option Value)} {oc30 kV30 dc30 pm30 cd30 ct30 : Value} {f31 : Addr} {od31 an31 : Option Addr} {sl31 : Array (Option Value)} {oc31 kV31 dc31 pm31 cd31 ct31 : Value} {f32 : Addr} {od32 an32 : Option Addr} {sl32 : Array (Option Value)} {oc32 kV32 dc32 pm32 cd32 ct32 : Value} {f33 : Addr} {od33 an33 : Option Addr} {sl33 : Array (Option Value)} {oc33 kV33 dc33 pm33 cd33 ct33 : Value} {f34 : Addr} {od34 an34 : Option Addr} {sl34 : Array (Option Value)} {oc34 kV34 dc34 pm34 cd34 ct34 : Value} {f35 : Addr} {od35 an35 : Option Addr} {sl35 : Array (Option Value)} {oc35 kV35 dc35 pm35 cd35 ct35 : Value} {f36 : Addr} {od36 an36 : Option Addr} {sl36 : Array (Option Value)} {oc36 kV36 dc36 pm36 cd36 ct36 : Value} {f37 : Addr} {od37 an37 : Option Addr} {sl37 : Array (Option Value)} {oc37 kV37 dc37 pm37 cd37 ct37 : Value} {f38 : Addr} {od38 an38 : Option Addr} {sl38 : Array (Option Value)} {oc38 kV38 dc38 pm38 cd38 ct38 : Value} {f39 : Addr} {od39 an39 : Option Addr} {sl39 : Array (Option Value)} {oc39 kV39 dc39 pm39 cd39 ct39 : Value} {f40 : Addr} {od40 an40 : Option Addr} {sl40 : Array (Option Value)} {oc40 kV40 dc40 pm40 cd40 ct40 : Value} {f41 : Addr} {od41 an41 : Option Addr} {sl41 : Array (Option Value)} {oc41 kV41 dc41 pm41 cd41 ct41 : Value} {f42 : Addr} {od42 an42 : Option Addr} {sl42 : Array (Option Value)} {oc42 kV42 dc42 pm42 cd42 ct42 : Value} {f43 : Addr} {od43 an43 : Option Addr} {sl43 : Array (Option Value)} {oc43 kV43 dc43 pm43 cd43 ct43 : Value} {f44 : Addr} {od44 an44 : Option Addr} {sl44 : Array (Option Value)} {oc44 kV44 dc44 pm44 cd44 ct44 : Value} {f45 : Addr} {od45 an45 : Option Addr} {sl45 : Array (Option Value)} {oc45 kV45 dc45 pm45 cd45 ct45 : Value} {f46 : Addr} {od46 an46 : Option Addr} {sl46 : Array (Option Value)} {oc46 kV46 dc46 pm46 cd46 ct46 : Value} {f47 : Addr} {od47 an47 : Option Addr} {sl47 : Array (Option Value)} {oc47 kV47 dc47 pm47 cd47 ct47 : Value} {f48 : Addr} {od48 an48 : Option Addr} {sl48 : Array (Option Value)} {oc48 kV48 dc48 pm48 cd48 ct48 : Value} {f49 : Addr} {od49 an49 : Option Addr} {sl49 : Array (Option Value)} {oc49 kV49 dc49 pm49 cd49 ct49 : Value} {f50 : Addr} {od50 an50 : Option Addr} {sl50 : Array (Option Value)} {oc50 kV50 dc50 pm50 cd50 ct50 : Value} {f51 : Addr} {od51 an51 : Option Addr} {sl51 : Array (Option Value)} {oc51 kV51 dc51 pm51 cd51 ct51 : Value} {f52 : Addr} {od52 an52 : Option Addr} {sl52 : Array (Option Value)} {oc52 kV52 dc52 pm52 cd52 ct52 : Value} {f53 : Addr} {od53 an53 : Option Addr} {sl53 : Array (Option Value)} {oc53 kV53 dc53 pm53 cd53 ct53 : Value} {f54 : Addr} {od54 an54 : Option Addr} {sl54 : Array (Option Value)} {oc54 kV54 dc54 pm54 cd54 ct54 : Value} {f55 : Addr} {od55 an55 : Option Addr} {sl55 : Array (Option Value)} {oc55 kV55 dc55 pm55 cd55 ct55 : Value} {f56 : Addr} {od56 an56 : Option Addr} {sl56 : Array (Option Value)} {oc56 kV56 dc56 pm56 cd56 ct56 : Value} {f57 : Addr} {od57 an57 : Option Addr} {sl57 : Array (Option Value)} {oc57 kV57 dc57 pm57 cd57 ct57 : Value} {f58 : Addr} {od58 an58 : Option Addr} {sl58 : Array (Option Value)} {oc58 kV58 dc58 pm58 cd58 ct58 : Value} {f59 : Addr} {od59 an59 : Option Addr} {sl59 : Array (Option Value)} {oc59 kV59 dc59 pm59 cd59 ct59 : Value} {f60 : Addr} {od60 an60 : Option Addr} {sl60 : Array (Option Value)} {oc60 kV60 dc60 pm60 cd60 ct60 : Value} {f61 : Addr} {od61 an61 : Option Addr} {sl61 : Array (Option Value)} {oc61 kV61 dc61 pm61 cd61 ct61 : Value} {f62 : Addr} {od62 an62 : Option Addr} {sl62 : Array (Option Value)} {oc62 kV62 dc62 pm62 cd62 ct62 : Value} {f63 : Addr} {od63 an63 : Option Addr} {sl63 : Array (Option Value)} {oc63 kV63 dc63 pm63 cd63 ct63 : Value} {f64 : Addr} {od64 an64 : Option Addr} {sl64 : Array (Option Value)} {oc64 kV64 dc64 pm64 cd64 ct64 : Value} {f65 : Addr} {od65 an65 : Option Addr} {sl65 : Array (Option Value)} {oc65 kV65 dc65 pm65 cd65 ct65 : Value} {f66 : Addr} {od66 an66 : Option Addr} {sl66 : Array (Option Value)} {oc66 kV66 dc66 pm66 cd66 ct66 : Value} {f67 : Addr} {od67 an67 : Option Addr} {sl67 : Array (Option Value)} {oc67 kV67 dc67 pm67 cd67 ct67 : Value} {f68 : Addr} {od68 an68 : Option Addr} {sl68 : Array (Option Value)} {oc68 kV68 dc68 pm68 cd68 ct68 : Value} {f69 : Addr} {od69 an69 : Option Addr} {sl69 : Array (Option Value)} {oc69 kV69 dc69 pm69 cd69 ct69 : Value} {f70 : Addr} {od70 an70 : Option Addr} {sl70 : Array (Option Value)} {oc70 kV70 dc70 pm70 cd70 ct70 : Value} {bt17_1 : Addr} {oab17_1 : Option Addr} {nab17_1 : Nat} {sab17_1 : Array (Option Value)} {tb17_1_0 : Tok} {tb17_1_1 : Tok} {at17 : Addr} {oat17 : Option Addr} {nat17 : Nat} {sat17 : Array (Option Value)} {tt17_0 : Tok} {tt17_2 : Tok} {bt18_1 : Addr} {oab18_1 : Option Addr} {nab18_1 : Nat} {sab18_1 : Array (Option Value)} {tb18_1_0 : Tok} {tb18_1_1 : Tok} {at18 : Addr} {oat18 : Option Addr} {nat18 : Nat} {sat18 : Array (Option Value)} {tt18_0 : Tok} {tt18_2 : Tok} {C_BadNumber : Addr} {C_BadStretch : Addr} {C_NoValue : Addr} {C_MeteError : Addr} {fE0 NE0 ccE0 cdaE0 : Addr} {nmE0 qE0 : Str} {bsE0 bmE0 : List Value} {snE0 : List Str} {subE0 : List Value} {abE0 : Bool} {colE0 : Option Bool} {ddE0 : Option Addr} {m0E0 m1E0 m2E0 m3E0 m5E0 : Option Value} {ocE0 docE0 pmE0 ctE0 clE0 cclE0 : Value} {odE0 anE0 cldE0 cddE0 : Option Addr} {oslE0 cslE0 ccsE0 : Array (Option Value)} {vsE0 : Array Value} {tfE0 : Tok} {fE1 NE1 ccE1 cdaE1 : Addr} {nmE1 qE1 : Str} {bsE1 bmE1 : List Value} {snE1 : List Str} {subE1 : List Value} {abE1 : Bool} {colE1 : Option Bool} {ddE1 : Option Addr} {m0E1 m1E1 m2E1 m3E1 m5E1 : Option Value} {ocE1 docE1 pmE1 ctE1 clE1 cclE1 : Value} {odE1 anE1 cldE1 cddE1 : Option Addr} {oslE1 cslE1 ccsE1 : Array (Option Value)} {vsE1 : Array Value} {tfE1 : Tok} {fE2 NE2 ccE2 cdaE2 : Addr} {nmE2 qE2 : Str} {bsE2 bmE2 : List Value} {snE2 : List Str} {subE2 : List Value} {abE2 : Bool} {colE2 : Option Bool} {ddE2 : Option Addr} {m0E2 m1E2 m2E2 m3E2 m5E2 : Option Value} {ocE2 docE2 pmE2 ctE2 clE2 cclE2 : Value} {odE2 anE2 cldE2 cddE2 : Option Addr} {oslE2 cslE2 ccsE2 : Array (Option Value)} {vsE2 : Array Value} {tfE2 : Tok}
    (o0g : PySem.W.nsIn K mainGlobals "Pieces" = some (some (.ref C_Pieces)))
    (a0 : PySem.W.nsIn K mainGlobals "ratio" = some (some (.ref f0)))
    (l0 : K.lookup f0 = some ⟨oc0, od0, .func (PySem.W.fnOf "ratio" "ratio" (defArgs s_ratio) (defBody s_ratio) (defScope s_ratio) (.ref T0) kV0 dc0 pm0 an0 cd0 ct0), sl0⟩)
    (c0 : PySem.W.codeIn K cd0 "ratio" = true)
    (k0 : PySem.W.keepIn K (.ref f0) = true)
    (d0 : K.lookup T0 = some ⟨ocT0, odT0, .seq #[.int (1) tT0_0] nT0, slT0⟩)
    (a1 : PySem.W.nsIn K mainGlobals "compare" = some (some (.ref f1)))
    (l1 : K.lookup f1 = some ⟨oc1, od1, .func (PySem.W.fnOf "compare" "compare" (defArgs s_compare) (defBody s_compare) (defScope s_compare) .none kV1 dc1 pm1 an1 cd1 ct1), sl1⟩)
    (c1 : PySem.W.codeIn K cd1 "compare" = true)
    (k1 : PySem.W.keepIn K (.ref f1) = true)
    (a2 : PySem.W.nsIn K mainGlobals "plus" = some (some (.ref f2)))
    (l2 : K.lookup f2 = some ⟨oc2, od2, .func (PySem.W.fnOf "plus" "plus" (defArgs s_plus) (defBody s_plus) (defScope s_plus) .none kV2 dc2 pm2 an2 cd2 ct2), sl2⟩)
    (c2 : PySem.W.codeIn K cd2 "plus" = true)
    (k2 : PySem.W.keepIn K (.ref f2) = true)
    (a3 : PySem.W.nsIn K mainGlobals "times" = some (some (.ref f3)))
    (l3 : K.lookup f3 = some ⟨oc3, od3, .func (PySem.W.fnOf "times" "times" (defArgs s_times) (defBody s_times) (defScope s_times) .none kV3 dc3 pm3 an3 cd3 ct3), sl3⟩)
    (c3 : PySem.W.codeIn K cd3 "times" = true)
    (k3 : PySem.W.keepIn K (.ref f3) = true)
    (a4 : PySem.W.nsIn K mainGlobals "compare_cuts" = some (some (.ref f4)))
    (l4 : K.lookup f4 = some ⟨oc4, od4, .func (PySem.W.fnOf "compare_cuts" "compare_cuts" (defArgs s_compare_cuts) (defBody s_compare_cuts) (defScope s_compare_cuts) .none kV4 dc4 pm4 an4 cd4 ct4), sl4⟩)
    (c4 : PySem.W.codeIn K cd4 "compare_cuts" = true)
    (k4 : PySem.W.keepIn K (.ref f4) = true)
    (a5 : PySem.W.nsIn K mainGlobals "low_cut" = some (some (.ref f5)))
    (l5 : K.lookup f5 = some ⟨oc5, od5, .func (PySem.W.fnOf "low_cut" "low_cut" (defArgs s_low_cut) (defBody s_low_cut) (defScope s_low_cut) .none kV5 dc5 pm5 an5 cd5 ct5), sl5⟩)
    (c5 : PySem.W.codeIn K cd5 "low_cut" = true)
    (k5 : PySem.W.keepIn K (.ref f5) = true)
    (a6 : PySem.W.nsIn K mainGlobals "high_cut" = some (some (.ref f6)))
    (l6 : K.lookup f6 = some ⟨oc6, od6, .func (PySem.W.fnOf "high_cut" "high_cut" (defArgs s_high_cut) (defBody s_high_cut) (defScope s_high_cut) .none kV6 dc6 pm6 an6 cd6 ct6), sl6⟩)
    (c6 : PySem.W.codeIn K cd6 "high_cut" = true)
    (k6 : PySem.W.keepIn K (.ref f6) = true)
    (a7 : PySem.W.nsIn K mainGlobals "stretch_between" = some (some (.ref f7)))
    (l7 : K.lookup f7 = some ⟨oc7, od7, .func (PySem.W.fnOf "stretch_between" "stretch_between" (defArgs s_stretch_between) (defBody s_stretch_between) (defScope s_stretch_between) .none kV7 dc7 pm7 an7 cd7 ct7), sl7⟩)
    (c7 : PySem.W.codeIn K cd7 "stretch_between" = true)
    (k7 : PySem.W.keepIn K (.ref f7) = true)
    (a8 : PySem.W.nsIn K mainGlobals "check_stretch" = some (some (.ref f8)))
    (l8 : K.lookup f8 = some ⟨oc8, od8, .func (PySem.W.fnOf "check_stretch" "check_stretch" (defArgs s_check_stretch) (defBody s_check_stretch) (defScope s_check_stretch) .none kV8 dc8 pm8 an8 cd8 ct8), sl8⟩)
    (c8 : PySem.W.codeIn K cd8 "check_stretch" = true)
    (k8 : PySem.W.keepIn K (.ref f8) = true)
    (a9 : PySem.W.nsIn K mainGlobals "merged" = some (some (.ref f9)))
    (l9 : K.lookup f9 = some ⟨oc9, od9, .func (PySem.W.fnOf "merged" "merged" (defArgs s_merged) (defBody s_merged) (defScope s_merged) .none kV9 dc9 pm9 an9 cd9 ct9), sl9⟩)
    (c9 : PySem.W.codeIn K cd9 "merged" = true)
    (k9 : PySem.W.keepIn K (.ref f9) = true)
    (a10 : PySem.W.nsIn K mainGlobals "ascending" = some (some (.ref f10)))
    (l10 : K.lookup f10 = some ⟨oc10, od10, .func (PySem.W.fnOf "ascending" "ascending" (defArgs s_ascending) (defBody s_ascending) (defScope s_ascending) .none kV10 dc10 pm10 an10 cd10 ct10), sl10⟩)
    (c10 : PySem.W.codeIn K cd10 "ascending" = true)
    (k10 : PySem.W.keepIn K (.ref f10) = true)
    (a11 : PySem.W.nsIn K mainGlobals "depths" = some (some (.ref f11)))
    (l11 : K.lookup f11 = some ⟨oc11, od11, .func (PySem.W.fnOf "depths" "depths" (defArgs s_depths) (defBody s_depths) (defScope s_depths) .none kV11 dc11 pm11 an11 cd11 ct11), sl11⟩)
    (c11 : PySem.W.codeIn K cd11 "depths" = true)
    (k11 : PySem.W.keepIn K (.ref f11) = true)
    (a12 : PySem.W.nsIn K mainGlobals "covered" = some (some (.ref f12)))
    (l12 : K.lookup f12 = some ⟨oc12, od12, .func (PySem.W.fnOf "covered" "covered" (defArgs s_covered) (defBody s_covered) (defScope s_covered) .none kV12 dc12 pm12 an12 cd12 ct12), sl12⟩)
    (c12 : PySem.W.codeIn K cd12 "covered" = true)
    (k12 : PySem.W.keepIn K (.ref f12) = true)
    (a13 : PySem.W.nsIn K mainGlobals "uncovered" = some (some (.ref f13)))
    (l13 : K.lookup f13 = some ⟨oc13, od13, .func (PySem.W.fnOf "uncovered" "uncovered" (defArgs s_uncovered) (defBody s_uncovered) (defScope s_uncovered) .none kV13 dc13 pm13 an13 cd13 ct13), sl13⟩)
    (c13 : PySem.W.codeIn K cd13 "uncovered" = true)
    (k13 : PySem.W.keepIn K (.ref f13) = true)
    (a14 : PySem.W.nsIn K mainGlobals "in_both" = some (some (.ref f14)))
    (l14 : K.lookup f14 = some ⟨oc14, od14, .func (PySem.W.fnOf "in_both" "in_both" (defArgs s_in_both) (defBody s_in_both) (defScope s_in_both) .none kV14 dc14 pm14 an14 cd14 ct14), sl14⟩)
    (c14 : PySem.W.codeIn K cd14 "in_both" = true)
    (k14 : PySem.W.keepIn K (.ref f14) = true)
    (a15 : PySem.W.nsIn K mainGlobals "has_value" = some (some (.ref f15)))
    (l15 : K.lookup f15 = some ⟨oc15, od15, .func (PySem.W.fnOf "has_value" "has_value" (defArgs s_has_value) (defBody s_has_value) (defScope s_has_value) .none kV15 dc15 pm15 an15 cd15 ct15), sl15⟩)
    (c15 : PySem.W.codeIn K cd15 "has_value" = true)
    (k15 : PySem.W.keepIn K (.ref f15) = true)
    (a16 : PySem.W.nsIn K mainGlobals "write_ratio" = some (some (.ref f16)))
    (l16 : K.lookup f16 = some ⟨oc16, od16, .func (PySem.W.fnOf "write_ratio" "write_ratio" (defArgs s_write_ratio) (defBody s_write_ratio) (defScope s_write_ratio) .none kV16 dc16 pm16 an16 cd16 ct16), sl16⟩)
    (c16 : PySem.W.codeIn K cd16 "write_ratio" = true)
    (k16 : PySem.W.keepIn K (.ref f16) = true)
    (a17 : PySem.W.nsIn K mainGlobals "write_piece" = some (some (.ref f17)))
    (l17 : K.lookup f17 = some ⟨oc17, od17, .func (PySem.W.fnOf "write_piece" "write_piece" (defArgs s_write_piece) (defBody s_write_piece) (defScope s_write_piece) .none kV17 dc17 pm17 an17 cd17 ct17), sl17⟩)
    (c17 : PySem.W.codeIn K cd17 "write_piece" = true)
    (k17 : PySem.W.keepIn K (.ref f17) = true)
    (a18 : PySem.W.nsIn K mainGlobals "write_pieces" = some (some (.ref f18)))
    (l18 : K.lookup f18 = some ⟨oc18, od18, .func (PySem.W.fnOf "write_pieces" "write_pieces" (defArgs s_write_pieces) (defBody s_write_pieces) (defScope s_write_pieces) .none kV18 dc18 pm18 an18 cd18 ct18), sl18⟩)
    (c18 : PySem.W.codeIn K cd18 "write_pieces" = true)
    (k18 : PySem.W.keepIn K (.ref f18) = true)
    (a19 : PySem.W.nsIn K mainGlobals "value_in" = some (some (.ref f19)))
    (l19 : K.lookup f19 = some ⟨oc19, od19, .func (PySem.W.fnOf "value_in" "value_in" (defArgs s_value_in) (defBody s_value_in) (defScope s_value_in) .none kV19 dc19 pm19 an19 cd19 ct19), sl19⟩)
    (c19 : PySem.W.codeIn K cd19 "value_in" = true)
    (k19 : PySem.W.keepIn K (.ref f19) = true)
    (a20 : PySem.W.findIn K (.ref C_Pieces) "__init__" = some (some (.ref f20)))
    (l20 : K.lookup f20 = some ⟨oc20, od20, .func (PySem.W.fnOf "__init__" "Pieces.__init__" (defArgs s_Pieces___init) (defBody s_Pieces___init) (defScope s_Pieces___init) .none kV20 dc20 pm20 an20 cd20 ct20), sl20⟩)
    (c20 : PySem.W.codeIn K cd20 "Pieces.__init__" = true)
    (k20 : PySem.W.keepIn K (.ref f20) = true)
    (a21 : PySem.W.findCls K (.ref C_Pieces) (.type "type") "none" = some (.get (.builtin "staticmethod.__get__") (.ref ps21) .none (.ref C_Pieces)))
    (as21 : PySem.W.recIn K ps21 "staticmethod" = some (.ref f21 :: rs21))
    (l21 : K.lookup f21 = some ⟨oc21, od21, .func (PySem.W.fnOf "none" "Pieces.none" (defArgs s_Pieces_none) (defBody s_Pieces_none) (defScope s_Pieces_none) .none kV21 dc21 pm21 an21 cd21 ct21), sl21⟩)
    (c21 : PySem.W.codeIn K cd21 "Pieces.none" = true)
    (k21 : PySem.W.keepIn K (.ref f21) = true)
    (a22 : PySem.W.findCls K (.ref C_Pieces) (.type "type") "every" = some (.get (.builtin "staticmethod.__get__") (.ref ps22) .none (.ref C_Pieces)))
    (as22 : PySem.W.recIn K ps22 "staticmethod" = some (.ref f22 :: rs22))
    (l22 : K.lookup f22 = some ⟨oc22, od22, .func (PySem.W.fnOf "every" "Pieces.every" (defArgs s_Pieces_every) (defBody s_Pieces_every) (defScope s_Pieces_every) .none kV22 dc22 pm22 an22 cd22 ct22), sl22⟩)
    (c22 : PySem.W.codeIn K cd22 "Pieces.every" = true)
    (k22 : PySem.W.keepIn K (.ref f22) = true)
    (a23 : PySem.W.findCls K (.ref C_Pieces) (.type "type") "point" = some (.get (.builtin "staticmethod.__get__") (.ref ps23) .none (.ref C_Pieces)))
    (as23 : PySem.W.recIn K ps23 "staticmethod" = some (.ref f23 :: rs23))
    (l23 : K.lookup f23 = some ⟨oc23, od23, .func (PySem.W.fnOf "point" "Pieces.point" (defArgs s_Pieces_point) (defBody s_Pieces_point) (defScope s_Pieces_point) .none kV23 dc23 pm23 an23 cd23 ct23), sl23⟩)
    (c23 : PySem.W.codeIn K cd23 "Pieces.point" = true)
    (k23 : PySem.W.keepIn K (.ref f23) = true)
    (a24 : PySem.W.findCls K (.ref C_Pieces) (.type "type") "between" = some (.get (.builtin "staticmethod.__get__") (.ref ps24) .none (.ref C_Pieces)))
    (as24 : PySem.W.recIn K ps24 "staticmethod" = some (.ref f24 :: rs24))
    (l24 : K.lookup f24 = some ⟨oc24, od24, .func (PySem.W.fnOf "between" "Pieces.between" (defArgs s_Pieces_between) (defBody s_Pieces_between) (defScope s_Pieces_between) .none kV24 dc24 pm24 an24 cd24 ct24), sl24⟩)
    (c24 : PySem.W.codeIn K cd24 "Pieces.between" = true)
    (k24 : PySem.W.keepIn K (.ref f24) = true)
    (a25 : PySem.W.findIn K (.ref C_Pieces) "inside" = some (some (.ref f25)))
    (l25 : K.lookup f25 = some ⟨oc25, od25, .func (PySem.W.fnOf "inside" "Pieces.inside" (defArgs s_Pieces_inside) (defBody s_Pieces_inside) (defScope s_Pieces_inside) .none kV25 dc25 pm25 an25 cd25 ct25), sl25⟩)
    (c25 : PySem.W.codeIn K cd25 "Pieces.inside" = true)
    (k25 : PySem.W.keepIn K (.ref f25) = true)
    (a26 : PySem.W.findIn K (.ref C_Pieces) "grown" = some (some (.ref f26)))
    (l26 : K.lookup f26 = some ⟨oc26, od26, .func (PySem.W.fnOf "grown" "Pieces.grown" (defArgs s_Pieces_grown) (defBody s_Pieces_grown) (defScope s_Pieces_grown) .none kV26 dc26 pm26 an26 cd26 ct26), sl26⟩)
    (c26 : PySem.W.codeIn K cd26 "Pieces.grown" = true)
    (k26 : PySem.W.keepIn K (.ref f26) = true)
    (a27 : PySem.W.findIn K (.ref C_Pieces) "some" = some (some (.ref f27)))
    (l27 : K.lookup f27 = some ⟨oc27, od27, .func (PySem.W.fnOf "some" "Pieces.some" (defArgs s_Pieces_some) (defBody s_Pieces_some) (defScope s_Pieces_some) .none kV27 dc27 pm27 an27 cd27 ct27), sl27⟩)
    (c27 : PySem.W.codeIn K cd27 "Pieces.some" = true)
    (k27 : PySem.W.keepIn K (.ref f27) = true)
    (a28 : PySem.W.findIn K (.ref C_Pieces) "__and__" = some (some (.ref f28)))
    (l28 : K.lookup f28 = some ⟨oc28, od28, .func (PySem.W.fnOf "__and__" "Pieces.__and__" (defArgs s_Pieces___and) (defBody s_Pieces___and) (defScope s_Pieces___and) .none kV28 dc28 pm28 an28 cd28 ct28), sl28⟩)
    (c28 : PySem.W.codeIn K cd28 "Pieces.__and__" = true)
    (k28 : PySem.W.keepIn K (.ref f28) = true)
    (a29 : PySem.W.findIn K (.ref C_Pieces) "__or__" = some (some (.ref f29)))
    (l29 : K.lookup f29 = some ⟨oc29, od29, .func (PySem.W.fnOf "__or__" "Pieces.__or__" (defArgs s_Pieces___or) (defBody s_Pieces___or) (defScope s_Pieces___or) .none kV29 dc29 pm29 an29 cd29 ct29), sl29⟩)
    (c29 : PySem.W.codeIn K cd29 "Pieces.__or__" = true)
    (k29 : PySem.W.keepIn K (.ref f29) = true)
    (a30 : PySem.W.findIn K (.ref C_Pieces) "__sub__" = some (some (.ref f30)))
    (l30 : K.lookup f30 = some ⟨oc30, od30, .func (PySem.W.fnOf "__sub__" "Pieces.__sub__" (defArgs s_Pieces___sub) (defBody s_Pieces___sub) (defScope s_Pieces___sub) .none kV30 dc30 pm30 an30 cd30 ct30), sl30⟩)
    (c30 : PySem.W.codeIn K cd30 "Pieces.__sub__" = true)
    (k30 : PySem.W.keepIn K (.ref f30) = true)
    (a31 : PySem.W.findIn K (.ref C_Pieces) "__invert__" = some (some (.ref f31)))
    (l31 : K.lookup f31 = some ⟨oc31, od31, .func (PySem.W.fnOf "__invert__" "Pieces.__invert__" (defArgs s_Pieces___invert) (defBody s_Pieces___invert) (defScope s_Pieces___invert) .none kV31 dc31 pm31 an31 cd31 ct31), sl31⟩)
    (c31 : PySem.W.codeIn K cd31 "Pieces.__invert__" = true)
    (k31 : PySem.W.keepIn K (.ref f31) = true)
    (a32 : PySem.W.findIn K (.ref C_Pieces) "__eq__" = some (some (.ref f32)))
    (l32 : K.lookup f32 = some ⟨oc32, od32, .func (PySem.W.fnOf "__eq__" "Pieces.__eq__" (defArgs s_Pieces___eq) (defBody s_Pieces___eq) (defScope s_Pieces___eq) .none kV32 dc32 pm32 an32 cd32 ct32), sl32⟩)
    (c32 : PySem.W.codeIn K cd32 "Pieces.__eq__" = true)
    (k32 : PySem.W.keepIn K (.ref f32) = true)
    (a33 : PySem.W.findIn K (.ref C_Pieces) "__contains__" = some (some (.ref f33)))
    (l33 : K.lookup f33 = some ⟨oc33, od33, .func (PySem.W.fnOf "__contains__" "Pieces.__contains__" (defArgs s_Pieces___contains) (defBody s_Pieces___contains) (defScope s_Pieces___contains) .none kV33 dc33 pm33 an33 cd33 ct33), sl33⟩)
    (c33 : PySem.W.codeIn K cd33 "Pieces.__contains__" = true)
    (k33 : PySem.W.keepIn K (.ref f33) = true)
    (a34 : PySem.W.findIn K (.ref C_Pieces) "__len__" = some (some (.ref f34)))
    (l34 : K.lookup f34 = some ⟨oc34, od34, .func (PySem.W.fnOf "__len__" "Pieces.__len__" (defArgs s_Pieces___len) (defBody s_Pieces___len) (defScope s_Pieces___len) .none kV34 dc34 pm34 an34 cd34 ct34), sl34⟩)
    (c34 : PySem.W.codeIn K cd34 "Pieces.__len__" = true)
    (k34 : PySem.W.keepIn K (.ref f34) = true)
    (a35 : PySem.W.findIn K (.ref C_Pieces) "__bool__" = some (some (.ref f35)))
    (l35 : K.lookup f35 = some ⟨oc35, od35, .func (PySem.W.fnOf "__bool__" "Pieces.__bool__" (defArgs s_Pieces___bool) (defBody s_Pieces___bool) (defScope s_Pieces___bool) .none kV35 dc35 pm35 an35 cd35 ct35), sl35⟩)
    (c35 : PySem.W.codeIn K cd35 "Pieces.__bool__" = true)
    (k35 : PySem.W.keepIn K (.ref f35) = true)
    (a36 : PySem.W.findIn K (.ref C_Pieces) "__str__" = some (some (.ref f36)))
    (l36 : K.lookup f36 = some ⟨oc36, od36, .func (PySem.W.fnOf "__str__" "Pieces.__str__" (defArgs s_Pieces___str) (defBody s_Pieces___str) (defScope s_Pieces___str) .none kV36 dc36 pm36 an36 cd36 ct36), sl36⟩)
    (c36 : PySem.W.codeIn K cd36 "Pieces.__str__" = true)
    (k36 : PySem.W.keepIn K (.ref f36) = true)
    (a37 : PySem.W.nsIn K mainGlobals "_law_pot" = some (some (.ref f37)))
    (l37 : K.lookup f37 = some ⟨oc37, od37, .func (PySem.W.fnOf "_law_pot" "_law_pot" (defArgs s_w_pot) (defBody s_w_pot) (defScope s_w_pot) .none kV37 dc37 pm37 an37 cd37 ct37), sl37⟩)
    (c37 : PySem.W.codeIn K cd37 "_law_pot" = true)
    (k37 : PySem.W.keepIn K (.ref f37) = true)
    (a38 : PySem.W.nsIn K mainGlobals "_law_take" = some (some (.ref f38)))
    (l38 : K.lookup f38 = some ⟨oc38, od38, .func (PySem.W.fnOf "_law_take" "_law_take" (defArgs s_w_take) (defBody s_w_take) (defScope s_w_take) .none kV38 dc38 pm38 an38 cd38 ct38), sl38⟩)
    (c38 : PySem.W.codeIn K cd38 "_law_take" = true)
    (k38 : PySem.W.keepIn K (.ref f38) = true)
    (a39 : PySem.W.nsIn K mainGlobals "_law_whole" = some (some (.ref f39)))
    (l39 : K.lookup f39 = some ⟨oc39, od39, .func (PySem.W.fnOf "_law_whole" "_law_whole" (defArgs s_w_whole) (defBody s_w_whole) (defScope s_w_whole) .none kV39 dc39 pm39 an39 cd39 ct39), sl39⟩)
    (c39 : PySem.W.codeIn K cd39 "_law_whole" = true)
    (k39 : PySem.W.keepIn K (.ref f39) = true)
    (a40 : PySem.W.nsIn K mainGlobals "_law_lowest" = some (some (.ref f40)))
    (l40 : K.lookup f40 = some ⟨oc40, od40, .func (PySem.W.fnOf "_law_lowest" "_law_lowest" (defArgs s_w_lowest) (defBody s_w_lowest) (defScope s_w_lowest) .none kV40 dc40 pm40 an40 cd40 ct40), sl40⟩)
    (c40 : PySem.W.codeIn K cd40 "_law_lowest" = true)
    (k40 : PySem.W.keepIn K (.ref f40) = true)
    (a41 : PySem.W.nsIn K mainGlobals "_law_pair_is" = some (some (.ref f41)))
    (l41 : K.lookup f41 = some ⟨oc41, od41, .func (PySem.W.fnOf "_law_pair_is" "_law_pair_is" (defArgs s_w_pair_is) (defBody s_w_pair_is) (defScope s_w_pair_is) .none kV41 dc41 pm41 an41 cd41 ct41), sl41⟩)
    (c41 : PySem.W.codeIn K cd41 "_law_pair_is" = true)
    (k41 : PySem.W.keepIn K (.ref f41) = true)
    (a42 : PySem.W.nsIn K mainGlobals "_law_end" = some (some (.ref f42)))
    (l42 : K.lookup f42 = some ⟨oc42, od42, .func (PySem.W.fnOf "_law_end" "_law_end" (defArgs s_w_end) (defBody s_w_end) (defScope s_w_end) .none kV42 dc42 pm42 an42 cd42 ct42), sl42⟩)
    (c42 : PySem.W.codeIn K cd42 "_law_end" = true)
    (k42 : PySem.W.keepIn K (.ref f42) = true)
    (a43 : PySem.W.nsIn K mainGlobals "_law_stretch" = some (some (.ref f43)))
    (l43 : K.lookup f43 = some ⟨oc43, od43, .func (PySem.W.fnOf "_law_stretch" "_law_stretch" (defArgs s_w_stretch) (defBody s_w_stretch) (defScope s_w_stretch) .none kV43 dc43 pm43 an43 cd43 ct43), sl43⟩)
    (c43 : PySem.W.codeIn K cd43 "_law_stretch" = true)
    (k43 : PySem.W.keepIn K (.ref f43) = true)
    (a44 : PySem.W.nsIn K mainGlobals "_law_stretches" = some (some (.ref f44)))
    (l44 : K.lookup f44 = some ⟨oc44, od44, .func (PySem.W.fnOf "_law_stretches" "_law_stretches" (defArgs s_w_stretches) (defBody s_w_stretches) (defScope s_w_stretches) .none kV44 dc44 pm44 an44 cd44 ct44), sl44⟩)
    (c44 : PySem.W.codeIn K cd44 "_law_stretches" = true)
    (k44 : PySem.W.keepIn K (.ref f44) = true)
    (a45 : PySem.W.nsIn K mainGlobals "_law_end_pair" = some (some (.ref f45)))
    (l45 : K.lookup f45 = some ⟨oc45, od45, .func (PySem.W.fnOf "_law_end_pair" "_law_end_pair" (defArgs s_w_end_pair) (defBody s_w_end_pair) (defScope s_w_end_pair) .none kV45 dc45 pm45 an45 cd45 ct45), sl45⟩)
    (c45 : PySem.W.codeIn K cd45 "_law_end_pair" = true)
    (k45 : PySem.W.keepIn K (.ref f45) = true)
    (a46 : PySem.W.nsIn K mainGlobals "_law_handed" = some (some (.ref f46)))
    (l46 : K.lookup f46 = some ⟨oc46, od46, .func (PySem.W.fnOf "_law_handed" "_law_handed" (defArgs s_w_handed) (defBody s_w_handed) (defScope s_w_handed) .none kV46 dc46 pm46 an46 cd46 ct46), sl46⟩)
    (c46 : PySem.W.codeIn K cd46 "_law_handed" = true)
    (k46 : PySem.W.keepIn K (.ref f46) = true)
    (a47 : PySem.W.nsIn K mainGlobals "_law_in_one" = some (some (.ref f47)))
    (l47 : K.lookup f47 = some ⟨oc47, od47, .func (PySem.W.fnOf "_law_in_one" "_law_in_one" (defArgs s_w_in_one) (defBody s_w_in_one) (defScope s_w_in_one) .none kV47 dc47 pm47 an47 cd47 ct47), sl47⟩)
    (c47 : PySem.W.codeIn K cd47 "_law_in_one" = true)
    (k47 : PySem.W.keepIn K (.ref f47) = true)
    (a48 : PySem.W.nsIn K mainGlobals "_law_in" = some (some (.ref f48)))
    (l48 : K.lookup f48 = some ⟨oc48, od48, .func (PySem.W.fnOf "_law_in" "_law_in" (defArgs s_w_in) (defBody s_w_in) (defScope s_w_in) .none kV48 dc48 pm48 an48 cd48 ct48), sl48⟩)
    (c48 : PySem.W.codeIn K cd48 "_law_in" = true)
    (k48 : PySem.W.keepIn K (.ref f48) = true)
    (a49 : PySem.W.nsIn K mainGlobals "_law_ends" = some (some (.ref f49)))
    (l49 : K.lookup f49 = some ⟨oc49, od49, .func (PySem.W.fnOf "_law_ends" "_law_ends" (defArgs s_w_ends) (defBody s_w_ends) (defScope s_w_ends) .none kV49 dc49 pm49 an49 cd49 ct49), sl49⟩)
    (c49 : PySem.W.codeIn K cd49 "_law_ends" = true)
    (k49 : PySem.W.keepIn K (.ref f49) = true)
    (a50 : PySem.W.nsIn K mainGlobals "_law_probes" = some (some (.ref f50)))
    (l50 : K.lookup f50 = some ⟨oc50, od50, .func (PySem.W.fnOf "_law_probes" "_law_probes" (defArgs s_w_probes) (defBody s_w_probes) (defScope s_w_probes) .none kV50 dc50 pm50 an50 cd50 ct50), sl50⟩)
    (c50 : PySem.W.codeIn K cd50 "_law_probes" = true)
    (k50 : PySem.W.keepIn K (.ref f50) = true)
    (a51 : PySem.W.nsIn K mainGlobals "_law_marks" = some (some (.ref f51)))
    (l51 : K.lookup f51 = some ⟨oc51, od51, .func (PySem.W.fnOf "_law_marks" "_law_marks" (defArgs s_w_marks) (defBody s_w_marks) (defScope s_w_marks) .none kV51 dc51 pm51 an51 cd51 ct51), sl51⟩)
    (c51 : PySem.W.codeIn K cd51 "_law_marks" = true)
    (k51 : PySem.W.keepIn K (.ref f51) = true)
    (a52 : PySem.W.nsIn K mainGlobals "_law_piece" = some (some (.ref f52)))
    (l52 : K.lookup f52 = some ⟨oc52, od52, .func (PySem.W.fnOf "_law_piece" "_law_piece" (defArgs s_w_piece) (defBody s_w_piece) (defScope s_w_piece) .none kV52 dc52 pm52 an52 cd52 ct52), sl52⟩)
    (c52 : PySem.W.codeIn K cd52 "_law_piece" = true)
    (k52 : PySem.W.keepIn K (.ref f52) = true)
    (a53 : PySem.W.nsIn K mainGlobals "_law_due_parts" = some (some (.ref f53)))
    (l53 : K.lookup f53 = some ⟨oc53, od53, .func (PySem.W.fnOf "_law_due_parts" "_law_due_parts" (defArgs s_w_due_parts) (defBody s_w_due_parts) (defScope s_w_due_parts) .none kV53 dc53 pm53 an53 cd53 ct53), sl53⟩)
    (c53 : PySem.W.codeIn K cd53 "_law_due_parts" = true)
    (k53 : PySem.W.keepIn K (.ref f53) = true)
    (a54 : PySem.W.nsIn K mainGlobals "_law_end_is" = some (some (.ref f54)))
    (l54 : K.lookup f54 = some ⟨oc54, od54, .func (PySem.W.fnOf "_law_end_is" "_law_end_is" (defArgs s_w_end_is) (defBody s_w_end_is) (defScope s_w_end_is) .none kV54 dc54 pm54 an54 cd54 ct54), sl54⟩)
    (c54 : PySem.W.codeIn K cd54 "_law_end_is" = true)
    (k54 : PySem.W.keepIn K (.ref f54) = true)
    (a55 : PySem.W.nsIn K mainGlobals "_law_parts_are" = some (some (.ref f55)))
    (l55 : K.lookup f55 = some ⟨oc55, od55, .func (PySem.W.fnOf "_law_parts_are" "_law_parts_are" (defArgs s_w_parts_are) (defBody s_w_parts_are) (defScope s_w_parts_are) .none kV55 dc55 pm55 an55 cd55 ct55), sl55⟩)
    (c55 : PySem.W.codeIn K cd55 "_law_parts_are" = true)
    (k55 : PySem.W.keepIn K (.ref f55) = true)
    (a56 : PySem.W.nsIn K mainGlobals "_law_pieces" = some (some (.ref f56)))
    (l56 : K.lookup f56 = some ⟨oc56, od56, .func (PySem.W.fnOf "_law_pieces" "_law_pieces" (defArgs s_w_pieces) (defBody s_w_pieces) (defScope s_w_pieces) .none kV56 dc56 pm56 an56 cd56 ct56), sl56⟩)
    (c56 : PySem.W.codeIn K cd56 "_law_pieces" = true)
    (k56 : PySem.W.keepIn K (.ref f56) = true)
    (a57 : PySem.W.nsIn K mainGlobals "_law_ratio_text" = some (some (.ref f57)))
    (l57 : K.lookup f57 = some ⟨oc57, od57, .func (PySem.W.fnOf "_law_ratio_text" "_law_ratio_text" (defArgs s_w_ratio_text) (defBody s_w_ratio_text) (defScope s_w_ratio_text) .none kV57 dc57 pm57 an57 cd57 ct57), sl57⟩)
    (c57 : PySem.W.codeIn K cd57 "_law_ratio_text" = true)
    (k57 : PySem.W.keepIn K (.ref f57) = true)
    (a58 : PySem.W.nsIn K mainGlobals "_law_text" = some (some (.ref f58)))
    (l58 : K.lookup f58 = some ⟨oc58, od58, .func (PySem.W.fnOf "_law_text" "_law_text" (defArgs s_w_text) (defBody s_w_text) (defScope s_w_text) .none kV58 dc58 pm58 an58 cd58 ct58), sl58⟩)
    (c58 : PySem.W.codeIn K cd58 "_law_text" = true)
    (k58 : PySem.W.keepIn K (.ref f58) = true)
    (a59 : PySem.W.nsIn K mainGlobals "_law_some_right" = some (some (.ref f59)))
    (l59 : K.lookup f59 = some ⟨oc59, od59, .func (PySem.W.fnOf "_law_some_right" "_law_some_right" (defArgs s_w_some_right) (defBody s_w_some_right) (defScope s_w_some_right) .none kV59 dc59 pm59 an59 cd59 ct59), sl59⟩)
    (c59 : PySem.W.codeIn K cd59 "_law_some_right" = true)
    (k59 : PySem.W.keepIn K (.ref f59) = true)
    (a60 : PySem.W.nsIn K mainGlobals "_law_right" = some (some (.ref f60)))
    (l60 : K.lookup f60 = some ⟨oc60, od60, .func (PySem.W.fnOf "_law_right" "_law_right" (defArgs s_w_right) (defBody s_w_right) (defScope s_w_right) .none kV60 dc60 pm60 an60 cd60 ct60), sl60⟩)
    (c60 : PySem.W.codeIn K cd60 "_law_right" = true)
    (k60 : PySem.W.keepIn K (.ref f60) = true)
    (a61 : PySem.W.nsIn K mainGlobals "_law_two_right" = some (some (.ref f61)))
    (l61 : K.lookup f61 = some ⟨oc61, od61, .func (PySem.W.fnOf "_law_two_right" "_law_two_right" (defArgs s_w_two_right) (defBody s_w_two_right) (defScope s_w_two_right) .none kV61 dc61 pm61 an61 cd61 ct61), sl61⟩)
    (c61 : PySem.W.codeIn K cd61 "_law_two_right" = true)
    (k61 : PySem.W.keepIn K (.ref f61) = true)
    (a62 : PySem.W.nsIn K mainGlobals "_law_grown" = some (some (.ref f62)))
    (l62 : K.lookup f62 = some ⟨oc62, od62, .func (PySem.W.fnOf "_law_grown" "_law_grown" (defArgs s_w_grown) (defBody s_w_grown) (defScope s_w_grown) .none kV62 dc62 pm62 an62 cd62 ct62), sl62⟩)
    (c62 : PySem.W.codeIn K cd62 "_law_grown" = true)
    (k62 : PySem.W.keepIn K (.ref f62) = true)
    (a63 : PySem.W.nsIn K mainGlobals "_law_grown_refused" = some (some (.ref f63)))
    (l63 : K.lookup f63 = some ⟨oc63, od63, .func (PySem.W.fnOf "_law_grown_refused" "_law_grown_refused" (defArgs s_w_grown_refused) (defBody s_w_grown_refused) (defScope s_w_grown_refused) .none kV63 dc63 pm63 an63 cd63 ct63), sl63⟩)
    (c63 : PySem.W.codeIn K cd63 "_law_grown_refused" = true)
    (k63 : PySem.W.keepIn K (.ref f63) = true)
    (a64 : PySem.W.nsIn K mainGlobals "_law_growth_right" = some (some (.ref f64)))
    (l64 : K.lookup f64 = some ⟨oc64, od64, .func (PySem.W.fnOf "_law_growth_right" "_law_growth_right" (defArgs s_w_growth_right) (defBody s_w_growth_right) (defScope s_w_growth_right) .none kV64 dc64 pm64 an64 cd64 ct64), sl64⟩)
    (c64 : PySem.W.codeIn K cd64 "_law_growth_right" = true)
    (k64 : PySem.W.keepIn K (.ref f64) = true)
    (a65 : PySem.W.nsIn K mainGlobals "_law_wrong" = some (some (.ref f65)))
    (l65 : K.lookup f65 = some ⟨oc65, od65, .func (PySem.W.fnOf "_law_wrong" "_law_wrong" (defArgs s_w_wrong) (defBody s_w_wrong) (defScope s_w_wrong) .none kV65 dc65 pm65 an65 cd65 ct65), sl65⟩)
    (c65 : PySem.W.codeIn K cd65 "_law_wrong" = true)
    (k65 : PySem.W.keepIn K (.ref f65) = true)
    (a66 : PySem.W.nsIn K mainGlobals "_law_good" = some (some (.ref f66)))
    (l66 : K.lookup f66 = some ⟨oc66, od66, .func (PySem.W.fnOf "_law_good" "_law_good" (defArgs s_w_good) (defBody s_w_good) (defScope s_w_good) .none kV66 dc66 pm66 an66 cd66 ct66), sl66⟩)
    (c66 : PySem.W.codeIn K cd66 "_law_good" = true)
    (k66 : PySem.W.keepIn K (.ref f66) = true)
    (a67 : PySem.W.nsIn K mainGlobals "_law_refusal_right" = some (some (.ref f67)))
    (l67 : K.lookup f67 = some ⟨oc67, od67, .func (PySem.W.fnOf "_law_refusal_right" "_law_refusal_right" (defArgs s_w_refusal_right) (defBody s_w_refusal_right) (defScope s_w_refusal_right) .none kV67 dc67 pm67 an67 cd67 ct67), sl67⟩)
    (c67 : PySem.W.codeIn K cd67 "_law_refusal_right" = true)
    (k67 : PySem.W.keepIn K (.ref f67) = true)
    (a68 : PySem.W.nsIn K mainGlobals "_law_between_right" = some (some (.ref f68)))
    (l68 : K.lookup f68 = some ⟨oc68, od68, .func (PySem.W.fnOf "_law_between_right" "_law_between_right" (defArgs s_w_between_right) (defBody s_w_between_right) (defScope s_w_between_right) .none kV68 dc68 pm68 an68 cd68 ct68), sl68⟩)
    (c68 : PySem.W.codeIn K cd68 "_law_between_right" = true)
    (k68 : PySem.W.keepIn K (.ref f68) = true)
    (a69 : PySem.W.nsIn K mainGlobals "_law_single_right" = some (some (.ref f69)))
    (l69 : K.lookup f69 = some ⟨oc69, od69, .func (PySem.W.fnOf "_law_single_right" "_law_single_right" (defArgs s_w_single_right) (defBody s_w_single_right) (defScope s_w_single_right) .none kV69 dc69 pm69 an69 cd69 ct69), sl69⟩)
    (c69 : PySem.W.codeIn K cd69 "_law_single_right" = true)
    (k69 : PySem.W.keepIn K (.ref f69) = true)
    (a70 : PySem.W.nsIn K mainGlobals "law" = some (some (.ref f70)))
    (l70 : K.lookup f70 = some ⟨oc70, od70, .func (PySem.W.fnOf "law" "law" (defArgs s_law) (defBody s_law) (defScope s_law) .none kV70 dc70 pm70 an70 cd70 ct70), sl70⟩)
    (c70 : PySem.W.codeIn K cd70 "law" = true)
    (k70 : PySem.W.keepIn K (.ref f70) = true)
    (z0 : PySem.W.nsIn K mainGlobals "len" = some none)
    (z1 : PySem.W.nsIn K mainGlobals "range" = some none)
    (z2 : PySem.W.nsIn K mainGlobals "isinstance" = some none)
    (z3 : PySem.W.nsIn K mainGlobals "int" = some none)
    (z4 : PySem.W.nsIn K mainGlobals "bool" = some none)
    (z5 : PySem.W.nsIn K mainGlobals "str" = some none)
    (z6 : PySem.W.nsIn K mainGlobals "list" = some none)
    (z7 : PySem.W.nsIn K mainGlobals "tuple" = some none)
    (z8 : PySem.W.nsIn K mainGlobals "abs" = some none)
    (z9 : PySem.W.nsIn K mainGlobals "max" = some none)
    (z10 : PySem.W.nsIn K mainGlobals "min" = some none)
    (z11 : PySem.W.nsIn K mainGlobals "sorted" = some none)
    (z12 : PySem.W.nsIn K mainGlobals "enumerate" = some none)
    (z13 : PySem.W.nsIn K mainGlobals "any" = some none)
    (z14 : PySem.W.nsIn K mainGlobals "ZeroDivisionError" = some none)
    (z15 : PySem.W.nsIn K mainGlobals "ValueError" = some none)
    (z16 : PySem.W.nsIn K mainGlobals "gcd" = some (some (.builtin "math.gcd")))
    (o0a : PySem.W.plainGet K C_Pieces Str.empty = true)
    (o0b : PySem.W.hasDictIn K C_Pieces = true)
    (o0c : PySem.W.plainOver K C_Pieces = true)
    (o0d : PySem.W.findIn K (.ref C_Pieces) "__setattr__" = some (some (.builtin "object.__setattr__")))
    (o0e : PySem.W.selfFirst K C_Pieces = true)
    (o0f : PySem.W.findIn K (.ref C_Pieces) "__class__" = some (some (.builtin "object.__class__")))
    (o0h : PySem.W.specialIn K (.builtin "object.__class__") "__get__" = some (some (.builtin "getset_descriptor.__get__")))
    (o0i : PySem.W.takesIn K (.builtin "object.__class__") = some true)
    (o0j : PySem.W.mroIn K C_Pieces (.type "object") = some true)
    (o0z1 : PySem.W.typeIn K (.ref C_Pieces) = some (.type "type"))
    (o0z2 : PySem.W.subIn K (.type "tuple") (.ref C_Pieces) = some false)
    (o0z3 : PySem.W.subIn K (.type "str") (.ref C_Pieces) = some false)
    (o0n0 : PySem.W.findIn K (.ref C_Pieces) "parts" = some none)
    (o0k : PySem.W.makesIn K C_Pieces = true)
    (o0l : PySem.W.keepIn K (.ref C_Pieces) = true)
    (fn20 : PySem.W.isFn K (.ref f20) = true)
    (fn25 : PySem.W.isFn K (.ref f25) = true)
    (fn26 : PySem.W.isFn K (.ref f26) = true)
    (fn27 : PySem.W.isFn K (.ref f27) = true)
    (fn28 : PySem.W.isFn K (.ref f28) = true)
    (fn29 : PySem.W.isFn K (.ref f29) = true)
    (fn30 : PySem.W.isFn K (.ref f30) = true)
    (fn31 : PySem.W.isFn K (.ref f31) = true)
    (fn32 : PySem.W.isFn K (.ref f32) = true)
    (fn33 : PySem.W.isFn K (.ref f33) = true)
    (fn34 : PySem.W.isFn K (.ref f34) = true)
    (fn35 : PySem.W.isFn K (.ref f35) = true)
    (fn36 : PySem.W.isFn K (.ref f36) = true)
    (o0x : PySem.W.readsIn K C_Pieces (.type "type") = true)
    (o0y : PySem.W.specialIn K (.ref C_Pieces) "__getattribute__" = some (some (.builtin "type.__getattribute__")))
    (o0s : PySem.W.subIn K (.ref C_Pieces) (.type "int") = some false)
    (o0t : PySem.W.subIn K (.type "int") (.ref C_Pieces) = some false)
    (z17 : PySem.W.nsIn K mainGlobals "BOTTOM" = some (some (.ref at17)))
    (y17 : K.lookup at17 = some ⟨.type "tuple", oat17, .seq #[.int (-1) tt17_0, .ref bt17_1, .int (0) tt17_2] nat17, sat17⟩)
    (yb17_1 : K.lookup bt17_1 = some ⟨.type "tuple", oab17_1, .seq #[.int (0) tb17_1_0, .int (1) tb17_1_1] nab17_1, sab17_1⟩)
    (z18 : PySem.W.nsIn K mainGlobals "TOP" = some (some (.ref at18)))
    (y18 : K.lookup at18 = some ⟨.type "tuple", oat18, .seq #[.int (1) tt18_0, .ref bt18_1, .int (0) tt18_2] nat18, sat18⟩)
    (yb18_1 : K.lookup bt18_1 = some ⟨.type "tuple", oab18_1, .seq #[.int (0) tb18_1_0, .int (1) tb18_1_1] nab18_1, sab18_1⟩)
    (es0 : PySem.W.specialIn K (.builtin "object.__class__") "__get__" = some (some (.builtin "getset_descriptor.__get__")))
    (es1 : PySem.W.takesIn K (.builtin "object.__class__") = some true)
    (es2 : PySem.W.nsIn K cStatics "thirdparty.any" = some none)
    (es3 : PySem.W.nsIn K mainGlobals "super" = some none)
    (eC0 : PySem.W.nsIn K mainGlobals "BadNumber" = some (some (.ref C_BadNumber)))
    (eB0 : PySem.W.subIn K (.ref C_BadNumber) (.type "BaseException") = some true)
    (eH0 : PySem.W.hasDictIn K C_BadNumber = true)
    (eT0 : PySem.W.typeIn K (.ref C_BadNumber) = some (.type "type"))
    (eC1 : PySem.W.nsIn K mainGlobals "BadStretch" = some (some (.ref C_BadStretch)))
    (eB1 : PySem.W.subIn K (.ref C_BadStretch) (.type "BaseException") = some true)
    (eH1 : PySem.W.hasDictIn K C_BadStretch = true)
    (eT1 : PySem.W.typeIn K (.ref C_BadStretch) = some (.type "type"))
    (eC2 : PySem.W.nsIn K mainGlobals "NoValue" = some (some (.ref C_NoValue)))
    (eB2 : PySem.W.subIn K (.ref C_NoValue) (.type "BaseException") = some true)
    (eH2 : PySem.W.hasDictIn K C_NoValue = true)
    (eT2 : PySem.W.typeIn K (.ref C_NoValue) = some (.type "type"))
    (eC3 : PySem.W.nsIn K mainGlobals "MeteError" = some (some (.ref C_MeteError)))
    (eB3 : PySem.W.subIn K (.ref C_MeteError) (.type "BaseException") = some true)
    (eH3 : PySem.W.hasDictIn K C_MeteError = true)
    (eT3 : PySem.W.typeIn K (.ref C_MeteError) = some (.type "type"))
    (eL0 : K.lookup C_BadNumber = some (PySem.excClassObj nmE0 qE0 C_BadNumber NE0 bsE0 bmE0 true snE0 subE0 abE0 colE0 ddE0 m0E0 m1E0 m2E0 m3E0 m5E0 "ValueError.__new__"))
    (eR0 : PySem.HandSPX.refsVE bmE0 = true)
    (eS0 : PySem.W.findIn K (.ref C_BadNumber) "__setattr__" = some (some (.builtin "object.__setattr__")))
    (eG0 : PySem.W.findIn K (.ref C_BadNumber) "__getattribute__" = some (some (.builtin "BaseException.__getattribute__")))
    (eg0 : PySem.W.findIn K (.ref C_BadNumber) "__getattr__" = some none)
    (en0 : PySem.W.findIn K (.ref C_BadNumber) "number" = some none)
    (eI0 : PySem.W.findIn K (.ref C_BadNumber) "__init__" = some (some (.ref fE0)))
    (et0 : PySem.W.typeIn K (.ref fE0) = some (.type "function"))
    (ef0 : K.lookup fE0 = some ⟨ocE0, odE0, .func (PySem.W.ksFn "__init__" "BadNumber.__init__" (defArgs s_BadNumber_init) (defBody s_BadNumber_init) (defScope s_BadNumber_init) .none .none docE0 pmE0 anE0 (.ref cdaE0) ctE0 ccE0), oslE0⟩)
    (ec0 : PySem.W.codeIn K (.ref cdaE0) "BadNumber.__init__" = true)
    (eo0 : K.lookup ccE0 = some ⟨clE0, cldE0, .cell (some (.ref C_BadNumber)), cslE0⟩)
    (ed0 : K.lookup cdaE0 = some ⟨cclE0, cddE0, .fields vsE0, ccsE0⟩)
    (eq0 : vsE0[2]? = some (.str PG.main.file tfE0))
    (ep0 : PySem.W.ks_superIn K C_BadNumber C_BadNumber "__init__" = some (some (.builtin "ValueError.__init__")))
    (ev0 : PySem.W.subIn K (.ref C_BadNumber) (.type "ValueError") = some true)
    (em0 : PySem.W.mroIn K C_BadNumber (.ref C_BadNumber) = some true)
    (ek0 : PySem.W.keepIn K (.ref C_BadNumber) = true)
    (ea0 : PySem.W.findIn K (.ref C_BadNumber) "__class__" = some (some (.builtin "object.__class__")))
    (eb0 : PySem.W.mroIn K C_BadNumber (.type "object") = some true)
    (eL1 : K.lookup C_BadStretch = some (PySem.excClassObj nmE1 qE1 C_BadStretch NE1 bsE1 bmE1 true snE1 subE1 abE1 colE1 ddE1 m0E1 m1E1 m2E1 m3E1 m5E1 "ValueError.__new__"))
    (eR1 : PySem.HandSPX.refsVE bmE1 = true)
    (eS1 : PySem.W.findIn K (.ref C_BadStretch) "__setattr__" = some (some (.builtin "object.__setattr__")))
    (eG1 : PySem.W.findIn K (.ref C_BadStretch) "__getattribute__" = some (some (.builtin "BaseException.__getattribute__")))
    (eg1 : PySem.W.findIn K (.ref C_BadStretch) "__getattr__" = some none)
    (en1 : PySem.W.findIn K (.ref C_BadStretch) "stretch" = some none)
    (eI1 : PySem.W.findIn K (.ref C_BadStretch) "__init__" = some (some (.ref fE1)))
    (et1 : PySem.W.typeIn K (.ref fE1) = some (.type "function"))
    (ef1 : K.lookup fE1 = some ⟨ocE1, odE1, .func (PySem.W.ksFn "__init__" "BadStretch.__init__" (defArgs s_BadStretch_init) (defBody s_BadStretch_init) (defScope s_BadStretch_init) .none .none docE1 pmE1 anE1 (.ref cdaE1) ctE1 ccE1), oslE1⟩)
    (ec1 : PySem.W.codeIn K (.ref cdaE1) "BadStretch.__init__" = true)
    (eo1 : K.lookup ccE1 = some ⟨clE1, cldE1, .cell (some (.ref C_BadStretch)), cslE1⟩)
    (ed1 : K.lookup cdaE1 = some ⟨cclE1, cddE1, .fields vsE1, ccsE1⟩)
    (eq1 : vsE1[2]? = some (.str PG.main.file tfE1))
    (ep1 : PySem.W.ks_superIn K C_BadStretch C_BadStretch "__init__" = some (some (.builtin "ValueError.__init__")))
    (ev1 : PySem.W.subIn K (.ref C_BadStretch) (.type "ValueError") = some true)
    (em1 : PySem.W.mroIn K C_BadStretch (.ref C_BadStretch) = some true)
    (ek1 : PySem.W.keepIn K (.ref C_BadStretch) = true)
    (ea1 : PySem.W.findIn K (.ref C_BadStretch) "__class__" = some (some (.builtin "object.__class__")))
    (eb1 : PySem.W.mroIn K C_BadStretch (.type "object") = some true)
    (eL2 : K.lookup C_NoValue = some (PySem.excClassObj nmE2 qE2 C_NoValue NE2 bsE2 bmE2 true snE2 subE2 abE2 colE2 ddE2 m0E2 m1E2 m2E2 m3E2 m5E2 "ValueError.__new__"))
    (eR2 : PySem.HandSPX.refsVE bmE2 = true)
    (eS2 : PySem.W.findIn K (.ref C_NoValue) "__setattr__" = some (some (.builtin "object.__setattr__")))
    (eG2 : PySem.W.findIn K (.ref C_NoValue) "__getattribute__" = some (some (.builtin "BaseException.__getattribute__")))
    (eg2 : PySem.W.findIn K (.ref C_NoValue) "__getattr__" = some none)
    (eI2 : PySem.W.findIn K (.ref C_NoValue) "__init__" = some (some (.ref fE2)))
    (et2 : PySem.W.typeIn K (.ref fE2) = some (.type "function"))
    (ef2 : K.lookup fE2 = some ⟨ocE2, odE2, .func (PySem.W.ksFn "__init__" "NoValue.__init__" (defArgs s_NoValue_init) (defBody s_NoValue_init) (defScope s_NoValue_init) .none .none docE2 pmE2 anE2 (.ref cdaE2) ctE2 ccE2), oslE2⟩)
    (ec2 : PySem.W.codeIn K (.ref cdaE2) "NoValue.__init__" = true)
    (eo2 : K.lookup ccE2 = some ⟨clE2, cldE2, .cell (some (.ref C_NoValue)), cslE2⟩)
    (ed2 : K.lookup cdaE2 = some ⟨cclE2, cddE2, .fields vsE2, ccsE2⟩)
    (eq2 : vsE2[2]? = some (.str PG.main.file tfE2))
    (ep2 : PySem.W.ks_superIn K C_NoValue C_NoValue "__init__" = some (some (.builtin "ValueError.__init__")))
    (ev2 : PySem.W.subIn K (.ref C_NoValue) (.type "ValueError") = some true)
    (em2 : PySem.W.mroIn K C_NoValue (.ref C_NoValue) = some true)
    (ek2 : PySem.W.keepIn K (.ref C_NoValue) = true)
    (ea2 : PySem.W.findIn K (.ref C_NoValue) "__class__" = some (some (.builtin "object.__class__")))
    (eb2 : PySem.W.mroIn K C_NoValue (.type "object") = some true)
    (ez0_3 : PySem.W.subIn K (.ref C_BadNumber) (.ref C_MeteError) = some true)
    (ez0_3n : (Value.ref C_BadNumber == Value.ref C_MeteError) = false)
    (ey0_ValueError : PySem.W.subIn K (.ref C_BadNumber) (.type "ValueError") = some true)
    (ez1_3 : PySem.W.subIn K (.ref C_BadStretch) (.ref C_MeteError) = some true)
    (ez1_3n : (Value.ref C_BadStretch == Value.ref C_MeteError) = false)
    (ey1_ValueError : PySem.W.subIn K (.ref C_BadStretch) (.type "ValueError") = some true)
    (ez2_3 : PySem.W.subIn K (.ref C_NoValue) (.ref C_MeteError) = some true)
    (ez2_3n : (Value.ref C_NoValue == Value.ref C_MeteError) = false)
    (ey2_ValueError : PySem.W.subIn K (.ref C_NoValue) (.type "ValueError") = some true)
    (ex0_0 : PySem.W.subIn K (.ref C_BadNumber) (.ref C_BadNumber) = some true)
    (ex1_1 : PySem.W.subIn K (.ref C_BadStretch) (.ref C_BadStretch) = some true)
    (ex2_2 : PySem.W.subIn K (.ref C_NoValue) (.ref C_NoValue) = some true) :
    ∃ fd : FuncData, (∀ (s : Shared) (v : Value), BindsTo s fd ⟨[v], []⟩ [("_law_script", v)]) ∧ ∀ base : Heap, K.In base → base.Ns mainGlobals mg → FnOk PG w K mg base CX0 18 fa fd ["_law_script"] (spLaw K) := by
  have FD0 : FunD K "ratio" "ratio" (defArgs s_ratio) (defBody s_ratio) (defScope s_ratio) [V.int (1)] [] f0 _ := ⟨⟨_, _, _, _, _, _, _, _, _, _, rfl, l0, c0, Or.inr ⟨by simp, T0, _, _, _, rfl, d0, rfl, (.cons ⟨_, rfl⟩ .nil)⟩, Or.inl rfl⟩, k0⟩
  have F1 := fun_mk (st := s_compare) l1 c1 k1
  have F2 := fun_mk (st := s_plus) l2 c2 k2
  have F3 := fun_mk (st := s_times) l3 c3 k3
  have F4 := fun_mk (st := s_compare_cuts) l4 c4 k4
  have F5 := fun_mk (st := s_low_cut) l5 c5 k5
  have F6 := fun_mk (st := s_high_cut) l6 c6 k6
  have F7 := fun_mk (st := s_stretch_between) l7 c7 k7
  have F8 := fun_mk (st := s_check_stretch) l8 c8 k8
  have F9 := fun_mk (st := s_merged) l9 c9 k9
  have F10 := fun_mk (st := s_ascending) l10 c10 k10
  have F11 := fun_mk (st := s_depths) l11 c11 k11
  have F12 := fun_mk (st := s_covered) l12 c12 k12
  have F13 := fun_mk (st := s_uncovered) l13 c13 k13
  have F14 := fun_mk (st := s_in_both) l14 c14 k14
  have F15 := fun_mk (st := s_has_value) l15 c15 k15
  have F16 := fun_mk (st := s_write_ratio) l16 c16 k16
  have F17 := fun_mk (st := s_write_piece) l17 c17 k17
  have F18 := fun_mk (st := s_write_pieces) l18 c18 k18
  have F19 := fun_mk (st := s_value_in) l19 c19 k19
  have F20 := fun_mk (st := s_Pieces___init) l20 c20 k20
  have F21 := fun_mk (st := s_Pieces_none) l21 c21 k21
  have F22 := fun_mk (st := s_Pieces_every) l22 c22 k22
  have F23 := fun_mk (st := s_Pieces_point) l23 c23 k23
  have F24 := fun_mk (st := s_Pieces_between) l24 c24 k24
  have F25 := fun_mk (st := s_Pieces_inside) l25 c25 k25
  have F26 := fun_mk (st := s_Pieces_grown) l26 c26 k26
  have F27 := fun_mk (st := s_Pieces_some) l27 c27 k27
  have F28 := fun_mk (st := s_Pieces___and) l28 c28 k28
  have F29 := fun_mk (st := s_Pieces___or) l29 c29 k29
  have F30 := fun_mk (st := s_Pieces___sub) l30 c30 k30
  have F31 := fun_mk (st := s_Pieces___invert) l31 c31 k31
  have F32 := fun_mk (st := s_Pieces___eq) l32 c32 k32
  have F33 := fun_mk (st := s_Pieces___contains) l33 c33 k33
  have F34 := fun_mk (st := s_Pieces___len) l34 c34 k34
  have F35 := fun_mk (st := s_Pieces___bool) l35 c35 k35
  have F36 := fun_mk (st := s_Pieces___str) l36 c36 k36
  have F37 := fun_mk (st := s_w_pot) l37 c37 k37
  have F38 := fun_mk (st := s_w_take) l38 c38 k38
  have F39 := fun_mk (st := s_w_whole) l39 c39 k39
  have F40 := fun_mk (st := s_w_lowest) l40 c40 k40
  have F41 := fun_mk (st := s_w_pair_is) l41 c41 k41
  have F42 := fun_mk (st := s_w_end) l42 c42 k42
  have F43 := fun_mk (st := s_w_stretch) l43 c43 k43
  have F44 := fun_mk (st := s_w_stretches) l44 c44 k44
  have F45 := fun_mk (st := s_w_end_pair) l45 c45 k45
  have F46 := fun_mk (st := s_w_handed) l46 c46 k46
  have F47 := fun_mk (st := s_w_in_one) l47 c47 k47
  have F48 := fun_mk (st := s_w_in) l48 c48 k48
  have F49 := fun_mk (st := s_w_ends) l49 c49 k49
  have F50 := fun_mk (st := s_w_probes) l50 c50 k50
  have F51 := fun_mk (st := s_w_marks) l51 c51 k51
  have F52 := fun_mk (st := s_w_piece) l52 c52 k52
  have F53 := fun_mk (st := s_w_due_parts) l53 c53 k53
  have F54 := fun_mk (st := s_w_end_is) l54 c54 k54
  have F55 := fun_mk (st := s_w_parts_are) l55 c55 k55
  have F56 := fun_mk (st := s_w_pieces) l56 c56 k56
  have F57 := fun_mk (st := s_w_ratio_text) l57 c57 k57
  have F58 := fun_mk (st := s_w_text) l58 c58 k58
  have F59 := fun_mk (st := s_w_some_right) l59 c59 k59
  have F60 := fun_mk (st := s_w_right) l60 c60 k60
  have F61 := fun_mk (st := s_w_two_right) l61 c61 k61
  have F62 := fun_mk (st := s_w_grown) l62 c62 k62
  have F63 := fun_mk (st := s_w_grown_refused) l63 c63 k63
  have F64 := fun_mk (st := s_w_growth_right) l64 c64 k64
  have F65 := fun_mk (st := s_w_wrong) l65 c65 k65
  have F66 := fun_mk (st := s_w_good) l66 c66 k66
  have F67 := fun_mk (st := s_w_refusal_right) l67 c67 k67
  have F68 := fun_mk (st := s_w_between_right) l68 c68 k68
  have F69 := fun_mk (st := s_w_single_right) l69 c69 k69
  have F70 := fun_mk (st := s_law) l70 c70 k70
  have e := hfa.symm.trans (PySem.W.mg_of X G a70)
  cases e
  let T : Tx K mg := {
    f_ratio := f0, fd_ratio := _, F_ratio := FD0,
    g_ratio := PySem.W.mg_of X G a0,
    b1_ratio := FD0.binds1 (ps := ["top", "bottom"]) 1 0 (by simp) rfl fun _ _ _ _ _ _ _ us its h1 h2 => match us, its, h1, h2 with | [_], [_], _, _ => ⟨_, rfl, rfl⟩,
    b2_ratio := FD0.binds1 (ps := ["top", "bottom"]) 2 1 (by simp) rfl fun _ _ _ _ _ _ _ us its h1 h2 => match us, its, h1, h2 with | [_, _], [_], _, _ => ⟨_, rfl, rfl⟩,
    f_compare := f1, fd_compare := _, F_compare := F1,
    g_compare := PySem.W.mg_of X G a1,
    b_compare := F1.binds (ps := ["first", "second"]) fun _ _ _ _ _ _ us hl => match us, hl with | [_, _], _ => rfl,
    f_plus := f2, fd_plus := _, F_plus := F2,
    g_plus := PySem.W.mg_of X G a2,
    b_plus := F2.binds (ps := ["first", "second"]) fun _ _ _ _ _ _ us hl => match us, hl with | [_, _], _ => rfl,
    f_times := f3, fd_times := _, F_times := F3,
    g_times := PySem.W.mg_of X G a3,
    b_times := F3.binds (ps := ["first", "second"]) fun _ _ _ _ _ _ us hl => match us, hl with | [_, _], _ => rfl,
    f_compare_cuts := f4, fd_compare_cuts := _, F_compare_cuts := F4,
    g_compare_cuts := PySem.W.mg_of X G a4,
    b_compare_cuts := F4.binds (ps := ["first", "second"]) fun _ _ _ _ _ _ us hl => match us, hl with | [_, _], _ => rfl,
    f_low_cut := f5, fd_low_cut := _, F_low_cut := F5,
    g_low_cut := PySem.W.mg_of X G a5,
    b_low_cut := F5.binds (ps := ["stretch"]) fun _ _ _ _ _ _ us hl => match us, hl with | [_], _ => rfl,
    f_high_cut := f6, fd_high_cut := _, F_high_cut := F6,
    g_high_cut := PySem.W.mg_of X G a6,
    b_high_cut := F6.binds (ps := ["stretch"]) fun _ _ _ _ _ _ us hl => match us, hl with | [_], _ => rfl,
    f_stretch_between := f7, fd_stretch_between := _, F_stretch_between := F7,
    g_stretch_between := PySem.W.mg_of X G a7,
    b_stretch_between := F7.binds (ps := ["first", "second"]) fun _ _ _ _ _ _ us hl => match us, hl with | [_, _], _ => rfl,
    f_check_stretch := f8, fd_check_stretch := _, F_check_stretch := F8,
    g_check_stretch := PySem.W.mg_of X G a8,
    b_check_stretch := F8.binds (ps := ["stretch"]) fun _ _ _ _ _ _ us hl => match us, hl with | [_], _ => rfl,
    f_merged := f9, fd_merged := _, F_merged := F9,
    g_merged := PySem.W.mg_of X G a9,
    b_merged := F9.binds (ps := ["left", "right"]) fun _ _ _ _ _ _ us hl => match us, hl with | [_, _], _ => rfl,
    f_ascending := f10, fd_ascending := _, F_ascending := F10,
    g_ascending := PySem.W.mg_of X G a10,
    b_ascending := F10.binds (ps := ["steps"]) fun _ _ _ _ _ _ us hl => match us, hl with | [_], _ => rfl,
    f_depths := f11, fd_depths := _, F_depths := F11,
    g_depths := PySem.W.mg_of X G a11,
    b_depths := F11.binds (ps := ["stretches"]) fun _ _ _ _ _ _ us hl => match us, hl with | [_], _ => rfl,
    f_covered := f12, fd_covered := _, F_covered := F12,
    g_covered := PySem.W.mg_of X G a12,
    b_covered := F12.binds (ps := ["stretches", "need"]) fun _ _ _ _ _ _ us hl => match us, hl with | [_, _], _ => rfl,
    f_uncovered := f13, fd_uncovered := _, F_uncovered := F13,
    g_uncovered := PySem.W.mg_of X G a13,
    b_uncovered := F13.binds (ps := ["parts"]) fun _ _ _ _ _ _ us hl => match us, hl with | [_], _ => rfl,
    f_in_both := f14, fd_in_both := _, F_in_both := F14,
    g_in_both := PySem.W.mg_of X G a14,
    b_in_both := F14.binds (ps := ["first", "second"]) fun _ _ _ _ _ _ us hl => match us, hl with | [_, _], _ => rfl,
    f_has_value := f15, fd_has_value := _, F_has_value := F15,
    g_has_value := PySem.W.mg_of X G a15,
    b_has_value := F15.binds (ps := ["part", "value"]) fun _ _ _ _ _ _ us hl => match us, hl with | [_, _], _ => rfl,
    f_write_ratio := f16, fd_write_ratio := _, F_write_ratio := F16,
    g_write_ratio := PySem.W.mg_of X G a16,
    b_write_ratio := F16.binds (ps := ["value"]) fun _ _ _ _ _ _ us hl => match us, hl with | [_], _ => rfl,
    f_write_piece := f17, fd_write_piece := _, F_write_piece := F17,
    g_write_piece := PySem.W.mg_of X G a17,
    b_write_piece := F17.binds (ps := ["part"]) fun _ _ _ _ _ _ us hl => match us, hl with | [_], _ => rfl,
    f_write_pieces := f18, fd_write_pieces := _, F_write_pieces := F18,
    g_write_pieces := PySem.W.mg_of X G a18,
    b_write_pieces := F18.binds (ps := ["parts"]) fun _ _ _ _ _ _ us hl => match us, hl with | [_], _ => rfl,
    f_value_in := f19, fd_value_in := _, F_value_in := F19,
    g_value_in := PySem.W.mg_of X G a19,
    b_value_in := F19.binds (ps := ["part"]) fun _ _ _ _ _ _ us hl => match us, hl with | [_], _ => rfl,
    f_Pieces___init := f20, fd_Pieces___init := _, F_Pieces___init := F20,
    f_Pieces_none := f21, fd_Pieces_none := _, F_Pieces_none := F21,
    b_Pieces_none := F21.binds (ps := []) fun _ _ _ _ _ _ us hl => match us, hl with | [], _ => rfl,
    f_Pieces_every := f22, fd_Pieces_every := _, F_Pieces_every := F22,
    b_Pieces_every := F22.binds (ps := []) fun _ _ _ _ _ _ us hl => match us, hl with | [], _ => rfl,
    f_Pieces_point := f23, fd_Pieces_point := _, F_Pieces_point := F23,
    b_Pieces_point := F23.binds (ps := ["value"]) fun _ _ _ _ _ _ us hl => match us, hl with | [_], _ => rfl,
    f_Pieces_between := f24, fd_Pieces_between := _, F_Pieces_between := F24,
    b_Pieces_between := F24.binds (ps := ["low", "high"]) fun _ _ _ _ _ _ us hl => match us, hl with | [_, _], _ => rfl,
    f_Pieces_inside := f25, fd_Pieces_inside := _, F_Pieces_inside := F25,
    b_Pieces_inside := F25.binds (ps := ["self", "other"]) fun _ _ _ _ _ _ us hl => match us, hl with | [_, _], _ => rfl,
    f_Pieces_grown := f26, fd_Pieces_grown := _, F_Pieces_grown := F26,
    b_Pieces_grown := F26.binds (ps := ["self", "below", "above"]) fun _ _ _ _ _ _ us hl => match us, hl with | [_, _, _], _ => rfl,
    f_Pieces_some := f27, fd_Pieces_some := _, F_Pieces_some := F27,
    b_Pieces_some := F27.binds (ps := ["self"]) fun _ _ _ _ _ _ us hl => match us, hl with | [_], _ => rfl,
    f_Pieces___and := f28, fd_Pieces___and := _, F_Pieces___and := F28,
    b_Pieces___and := F28.binds (ps := ["self", "other"]) fun _ _ _ _ _ _ us hl => match us, hl with | [_, _], _ => rfl,
    f_Pieces___or := f29, fd_Pieces___or := _, F_Pieces___or := F29,
    b_Pieces___or := F29.binds (ps := ["self", "other"]) fun _ _ _ _ _ _ us hl => match us, hl with | [_, _], _ => rfl,
    f_Pieces___sub := f30, fd_Pieces___sub := _, F_Pieces___sub := F30,
    b_Pieces___sub := F30.binds (ps := ["self", "other"]) fun _ _ _ _ _ _ us hl => match us, hl with | [_, _], _ => rfl,
    f_Pieces___invert := f31, fd_Pieces___invert := _, F_Pieces___invert := F31,
    b_Pieces___invert := F31.binds (ps := ["self"]) fun _ _ _ _ _ _ us hl => match us, hl with | [_], _ => rfl,
    f_Pieces___eq := f32, fd_Pieces___eq := _, F_Pieces___eq := F32,
    b_Pieces___eq := F32.binds (ps := ["self", "other"]) fun _ _ _ _ _ _ us hl => match us, hl with | [_, _], _ => rfl,
    f_Pieces___contains := f33, fd_Pieces___contains := _, F_Pieces___contains := F33,
    b_Pieces___contains := F33.binds (ps := ["self", "value"]) fun _ _ _ _ _ _ us hl => match us, hl with | [_, _], _ => rfl,
    f_Pieces___len := f34, fd_Pieces___len := _, F_Pieces___len := F34,
    b_Pieces___len := F34.binds (ps := ["self"]) fun _ _ _ _ _ _ us hl => match us, hl with | [_], _ => rfl,
    f_Pieces___bool := f35, fd_Pieces___bool := _, F_Pieces___bool := F35,
    b_Pieces___bool := F35.binds (ps := ["self"]) fun _ _ _ _ _ _ us hl => match us, hl with | [_], _ => rfl,
    f_Pieces___str := f36, fd_Pieces___str := _, F_Pieces___str := F36,
    b_Pieces___str := F36.binds (ps := ["self"]) fun _ _ _ _ _ _ us hl => match us, hl with | [_], _ => rfl,
    f_w_pot := f37, fd_w_pot := _, F_w_pot := F37,
    g_w_pot := PySem.W.mg_of X G a37,
    b_w_pot := F37.binds (ps := ["_law_script"]) fun _ _ _ _ _ _ us hl => match us, hl with | [_], _ => rfl,
    f_w_take := f38, fd_w_take := _, F_w_take := F38,
    g_w_take := PySem.W.mg_of X G a38,
    b_w_take := F38.binds (ps := ["_law_pot_here", "_law_size"]) fun _ _ _ _ _ _ us hl => match us, hl with | [_, _], _ => rfl,
    f_w_whole := f39, fd_w_whole := _, F_w_whole := F39,
    g_w_whole := PySem.W.mg_of X G a39,
    b_w_whole := F39.binds (ps := ["_law_found"]) fun _ _ _ _ _ _ us hl => match us, hl with | [_], _ => rfl,
    f_w_lowest := f40, fd_w_lowest := _, F_w_lowest := F40,
    g_w_lowest := PySem.W.mg_of X G a40,
    b_w_lowest := F40.binds (ps := ["_law_top", "_law_bottom"]) fun _ _ _ _ _ _ us hl => match us, hl with | [_, _], _ => rfl,
    f_w_pair_is := f41, fd_w_pair_is := _, F_w_pair_is := F41,
    g_w_pair_is := PySem.W.mg_of X G a41,
    b_w_pair_is := F41.binds (ps := ["_law_found", "_law_pair"]) fun _ _ _ _ _ _ us hl => match us, hl with | [_, _], _ => rfl,
    f_w_end := f42, fd_w_end := _, F_w_end := F42,
    g_w_end := PySem.W.mg_of X G a42,
    b_w_end := F42.binds (ps := ["_law_pot_here", "_law_fine", "_law_ends_here"]) fun _ _ _ _ _ _ us hl => match us, hl with | [_, _, _], _ => rfl,
    f_w_stretch := f43, fd_w_stretch := _, F_w_stretch := F43,
    g_w_stretch := PySem.W.mg_of X G a43,
    b_w_stretch := F43.binds (ps := ["_law_pot_here", "_law_fine", "_law_ends_here"]) fun _ _ _ _ _ _ us hl => match us, hl with | [_, _, _], _ => rfl,
    f_w_stretches := f44, fd_w_stretches := _, F_w_stretches := F44,
    g_w_stretches := PySem.W.mg_of X G a44,
    b_w_stretches := F44.binds (ps := ["_law_pot_here", "_law_fine", "_law_ends_here", "_law_most"]) fun _ _ _ _ _ _ us hl => match us, hl with | [_, _, _, _], _ => rfl,
    f_w_end_pair := f45, fd_w_end_pair := _, F_w_end_pair := F45,
    g_w_end_pair := PySem.W.mg_of X G a45,
    b_w_end_pair := F45.binds (ps := ["_law_end_here", "_law_bottom"]) fun _ _ _ _ _ _ us hl => match us, hl with | [_, _], _ => rfl,
    f_w_handed := f46, fd_w_handed := _, F_w_handed := F46,
    g_w_handed := PySem.W.mg_of X G a46,
    b_w_handed := F46.binds (ps := ["_law_stretches_here", "_law_fine"]) fun _ _ _ _ _ _ us hl => match us, hl with | [_, _], _ => rfl,
    f_w_in_one := f47, fd_w_in_one := _, F_w_in_one := F47,
    g_w_in_one := PySem.W.mg_of X G a47,
    b_w_in_one := F47.binds (ps := ["_law_one", "_law_top", "_law_bottom", "_law_fine"]) fun _ _ _ _ _ _ us hl => match us, hl with | [_, _, _, _], _ => rfl,
    f_w_in := f48, fd_w_in := _, F_w_in := F48,
    g_w_in := PySem.W.mg_of X G a48,
    b_w_in := F48.binds (ps := ["_law_stretches_here", "_law_top", "_law_bottom", "_law_fine"]) fun _ _ _ _ _ _ us hl => match us, hl with | [_, _, _, _], _ => rfl,
    f_w_ends := f49, fd_w_ends := _, F_w_ends := F49,
    g_w_ends := PySem.W.mg_of X G a49,
    b_w_ends := F49.binds (ps := ["_law_stretches_here"]) fun _ _ _ _ _ _ us hl => match us, hl with | [_], _ => rfl,
    f_w_probes := f50, fd_w_probes := _, F_w_probes := F50,
    g_w_probes := PySem.W.mg_of X G a50,
    b_w_probes := F50.binds (ps := ["_law_ends_here"]) fun _ _ _ _ _ _ us hl => match us, hl with | [_], _ => rfl,
    f_w_marks := f51, fd_w_marks := _, F_w_marks := F51,
    g_w_marks := PySem.W.mg_of X G a51,
    b_w_marks := F51.binds (ps := ["_law_stretches_here", "_law_probes_here", "_law_fine"]) fun _ _ _ _ _ _ us hl => match us, hl with | [_, _, _], _ => rfl,
    f_w_piece := f52, fd_w_piece := _, F_w_piece := F52,
    g_w_piece := PySem.W.mg_of X G a52,
    b_w_piece := F52.binds (ps := ["_law_ends_here", "_law_first", "_law_last", "_law_fine"]) fun _ _ _ _ _ _ us hl => match us, hl with | [_, _, _, _], _ => rfl,
    f_w_due_parts := f53, fd_w_due_parts := _, F_w_due_parts := F53,
    g_w_due_parts := PySem.W.mg_of X G a53,
    b_w_due_parts := F53.binds (ps := ["_law_ends_here", "_law_marks_here", "_law_fine"]) fun _ _ _ _ _ _ us hl => match us, hl with | [_, _, _], _ => rfl,
    f_w_end_is := f54, fd_w_end_is := _, F_w_end_is := F54,
    g_w_end_is := PySem.W.mg_of X G a54,
    b_w_end_is := F54.binds (ps := ["_law_found", "_law_due"]) fun _ _ _ _ _ _ us hl => match us, hl with | [_, _], _ => rfl,
    f_w_parts_are := f55, fd_w_parts_are := _, F_w_parts_are := F55,
    g_w_parts_are := PySem.W.mg_of X G a55,
    b_w_parts_are := F55.binds (ps := ["_law_found", "_law_due"]) fun _ _ _ _ _ _ us hl => match us, hl with | [_, _], _ => rfl,
    f_w_pieces := f56, fd_w_pieces := _, F_w_pieces := F56,
    g_w_pieces := PySem.W.mg_of X G a56,
    b_w_pieces := F56.binds (ps := ["_law_given"]) fun _ _ _ _ _ _ us hl => match us, hl with | [_], _ => rfl,
    f_w_ratio_text := f57, fd_w_ratio_text := _, F_w_ratio_text := F57,
    g_w_ratio_text := PySem.W.mg_of X G a57,
    b_w_ratio_text := F57.binds (ps := ["_law_pair"]) fun _ _ _ _ _ _ us hl => match us, hl with | [_], _ => rfl,
    f_w_text := f58, fd_w_text := _, F_w_text := F58,
    g_w_text := PySem.W.mg_of X G a58,
    b_w_text := F58.binds (ps := ["_law_due"]) fun _ _ _ _ _ _ us hl => match us, hl with | [_], _ => rfl,
    f_w_some_right := f59, fd_w_some_right := _, F_w_some_right := F59,
    g_w_some_right := PySem.W.mg_of X G a59,
    b_w_some_right := F59.binds (ps := ["_law_found", "_law_stretches_here", "_law_due", "_law_fine"]) fun _ _ _ _ _ _ us hl => match us, hl with | [_, _, _, _], _ => rfl,
    f_w_right := f60, fd_w_right := _, F_w_right := F60,
    g_w_right := PySem.W.mg_of X G a60,
    b_w_right := F60.binds (ps := ["_law_found", "_law_stretches_here", "_law_fine"]) fun _ _ _ _ _ _ us hl => match us, hl with | [_, _, _], _ => rfl,
    f_w_two_right := f61, fd_w_two_right := _, F_w_two_right := F61,
    g_w_two_right := PySem.W.mg_of X G a61,
    b_w_two_right := F61.binds (ps := ["_law_one", "_law_two", "_law_left", "_law_right_here", "_law_fine"]) fun _ _ _ _ _ _ us hl => match us, hl with | [_, _, _, _, _], _ => rfl,
    f_w_grown := f62, fd_w_grown := _, F_w_grown := F62,
    g_w_grown := PySem.W.mg_of X G a62,
    b_w_grown := F62.binds (ps := ["_law_stretches_here", "_law_below", "_law_above", "_law_fine"]) fun _ _ _ _ _ _ us hl => match us, hl with | [_, _, _, _], _ => rfl,
    f_w_grown_refused := f63, fd_w_grown_refused := _, F_w_grown_refused := F63,
    g_w_grown_refused := PySem.W.mg_of X G a63,
    b_w_grown_refused := F63.binds (ps := ["_law_found", "_law_below", "_law_above"]) fun _ _ _ _ _ _ us hl => match us, hl with | [_, _, _], _ => rfl,
    f_w_growth_right := f64, fd_w_growth_right := _, F_w_growth_right := F64,
    g_w_growth_right := PySem.W.mg_of X G a64,
    b_w_growth_right := F64.binds (ps := ["_law_pot_here", "_law_found", "_law_stretches_here", "_law_fine"]) fun _ _ _ _ _ _ us hl => match us, hl with | [_, _, _, _], _ => rfl,
    f_w_wrong := f65, fd_w_wrong := _, F_w_wrong := F65,
    g_w_wrong := PySem.W.mg_of X G a65,
    b_w_wrong := F65.binds (ps := ["_law_pot_here", "_law_fine", "_law_ends_here"]) fun _ _ _ _ _ _ us hl => match us, hl with | [_, _, _], _ => rfl,
    f_w_good := f66, fd_w_good := _, F_w_good := F66,
    g_w_good := PySem.W.mg_of X G a66,
    b_w_good := F66.binds (ps := ["_law_one"]) fun _ _ _ _ _ _ us hl => match us, hl with | [_], _ => rfl,
    f_w_refusal_right := f67, fd_w_refusal_right := _, F_w_refusal_right := F67,
    g_w_refusal_right := PySem.W.mg_of X G a67,
    b_w_refusal_right := F67.binds (ps := ["_law_pot_here", "_law_stretches_here", "_law_fine", "_law_ends_here"]) fun _ _ _ _ _ _ us hl => match us, hl with | [_, _, _, _], _ => rfl,
    f_w_between_right := f68, fd_w_between_right := _, F_w_between_right := F68,
    g_w_between_right := PySem.W.mg_of X G a68,
    b_w_between_right := F68.binds (ps := ["_law_low", "_law_high"]) fun _ _ _ _ _ _ us hl => match us, hl with | [_, _], _ => rfl,
    f_w_single_right := f69, fd_w_single_right := _, F_w_single_right := F69,
    g_w_single_right := PySem.W.mg_of X G a69,
    b_w_single_right := F69.binds (ps := ["_law_pot_here", "_law_fine", "_law_ends_here"]) fun _ _ _ _ _ _ us hl => match us, hl with | [_, _, _], _ => rfl,
    f_law := fa, fd_law := _, F_law := F70,
    g_law := PySem.W.mg_of X G a70,
    b_law := F70.binds (ps := ["_law_script"]) fun _ _ _ _ _ _ us hl => match us, hl with | [_], _ => rfl,
    m_len := PySem.W.mg_none_of X G z0,
    m_range := PySem.W.mg_none_of X G z1,
    m_isinstance := PySem.W.mg_none_of X G z2,
    m_int := PySem.W.mg_none_of X G z3,
    m_bool := PySem.W.mg_none_of X G z4,
    m_str := PySem.W.mg_none_of X G z5,
    m_list := PySem.W.mg_none_of X G z6,
    m_tuple := PySem.W.mg_none_of X G z7,
    m_abs := PySem.W.mg_none_of X G z8,
    m_max := PySem.W.mg_none_of X G z9,
    m_min := PySem.W.mg_none_of X G z10,
    m_sorted := PySem.W.mg_none_of X G z11,
    m_enumerate := PySem.W.mg_none_of X G z12,
    m_any := PySem.W.mg_none_of X G z13,
    m_ZeroDivisionError := PySem.W.mg_none_of X G z14,
    m_ValueError := PySem.W.mg_none_of X G z15,
    m_gcd := PySem.W.mg_of X G z16,
    C_Pieces := C_Pieces, gC_Pieces := PySem.W.mg_of X G o0g, oc_Pieces := ⟨⟨o0a, o0b, o0c, o0d⟩, o0e, o0f, o0h, o0i, o0j⟩,
    ty_Pieces := o0z1, kt_Pieces := o0z2, ks_Pieces := o0z3,
    na_Pieces_parts := o0n0,
    mk_Pieces := ⟨o0k, a20, fn20, o0l⟩,
    sp_Pieces_none := ps21, sm_Pieces_none := ⟨a21, ⟨_, as21⟩, k21⟩,
    sp_Pieces_every := ps22, sm_Pieces_every := ⟨a22, ⟨_, as22⟩, k22⟩,
    sp_Pieces_point := ps23, sm_Pieces_point := ⟨a23, ⟨_, as23⟩, k23⟩,
    sp_Pieces_between := ps24, sm_Pieces_between := ⟨a24, ⟨_, as24⟩, k24⟩,
    me_Pieces_inside := ⟨a25, fn25, k25⟩,
    me_Pieces_grown := ⟨a26, fn26, k26⟩,
    me_Pieces_some := ⟨a27, fn27, k27⟩,
    me_Pieces___and := ⟨a28, fn28, k28⟩,
    me_Pieces___or := ⟨a29, fn29, k29⟩,
    me_Pieces___sub := ⟨a30, fn30, k30⟩,
    me_Pieces___invert := ⟨a31, fn31, k31⟩,
    me_Pieces___eq := ⟨a32, fn32, k32⟩,
    me_Pieces___contains := ⟨a33, fn33, k33⟩,
    me_Pieces___len := ⟨a34, fn34, k34⟩,
    me_Pieces___bool := ⟨a35, fn35, k35⟩,
    me_Pieces___str := ⟨a36, fn36, k36⟩,
    cr_Pieces := ⟨o0x, o0y⟩,
    si_Pieces := o0s, is_Pieces := o0t,
    a_BOTTOM := at17, c_BOTTOM := PySem.W.mg_of X G z17, b_BOTTOM_1 := bt17_1, u_BOTTOM_1 := ⟨_, _, _, yb17_1, rfl, rfl, (le_size (by simp)), by repeat constructor⟩, t_BOTTOM := ⟨_, _, _, y17, rfl, rfl, (le_size (by simp)), by repeat constructor⟩,
    a_TOP := at18, c_TOP := PySem.W.mg_of X G z18, b_TOP_1 := bt18_1, u_TOP_1 := ⟨_, _, _, yb18_1, rfl, rfl, (le_size (by simp)), by repeat constructor⟩, t_TOP := ⟨_, _, _, y18, rfl, rfl, (le_size (by simp)), by repeat constructor⟩,
    C_BadNumber := C_BadNumber, gC_BadNumber := PySem.W.mg_of X G eC0,
    C_BadStretch := C_BadStretch, gC_BadStretch := PySem.W.mg_of X G eC1,
    C_NoValue := C_NoValue, gC_NoValue := PySem.W.mg_of X G eC2,
    C_MeteError := C_MeteError, gC_MeteError := PySem.W.mg_of X G eC3,
    Z_BadNumber := fun w => ⟨⟨fE0, ccE0, cdaE0, _, _, _, _, _, _, _, _, _, sh_BadNumber, ⟨⟨_, _, _, _, _, _, _, _, _, _, _, _, _, _, _, eL0, eR0⟩, eS0, eI0, et0, ⟨_, _, _, eo0⟩, ⟨_, _, _, _, _, ed0, eq0⟩, ep0, ev0, em0, es2, PySem.W.mg_none_of X G es3, rfl⟩, ef0, ec0⟩, PySem.W.mg_of X G eC0, ek0, en0, eB0, eT0⟩,
    X_BadNumber := ⟨eG0, eg0, eB0, eH0, ea0, es0, es1, eb0⟩,
    xf_BadNumber := ⟨eG0, eg0, eB0, eH0⟩,
    Z_BadStretch := fun w => ⟨⟨fE1, ccE1, cdaE1, _, _, _, _, _, _, _, _, _, sh_BadStretch, ⟨⟨_, _, _, _, _, _, _, _, _, _, _, _, _, _, _, eL1, eR1⟩, eS1, eI1, et1, ⟨_, _, _, eo1⟩, ⟨_, _, _, _, _, ed1, eq1⟩, ep1, ev1, em1, es2, PySem.W.mg_none_of X G es3, rfl⟩, ef1, ec1⟩, PySem.W.mg_of X G eC1, ek1, en1, eB1, eT1⟩,
    X_BadStretch := ⟨eG1, eg1, eB1, eH1, ea1, es0, es1, eb1⟩,
    xf_BadStretch := ⟨eG1, eg1, eB1, eH1⟩,
    Z_NoValue := fun w => ⟨⟨fE2, ccE2, cdaE2, _, _, _, _, _, _, _, _, _, sh_NoValue, ⟨⟨_, _, _, _, _, _, _, _, _, _, _, _, _, _, _, eL2, eR2⟩, eS2, eI2, et2, ⟨_, _, _, eo2⟩, ⟨_, _, _, _, _, ed2, eq2⟩, ep2, ev2, em2, es2, PySem.W.mg_none_of X G es3, rfl⟩, ef2, ec2⟩, PySem.W.mg_of X G eC2, ek2, eB2, eT2⟩,
    X_NoValue := ⟨eG2, eg2, eB2, eH2, ea2, es0, es1, eb2⟩,
    kit_BadNumber_MeteError := Er.kit_refs eH3 eT3 ez0_3 ez0_3n,
    kit_BadNumber_ValueError := Er.kit_typ (by decide +kernel) ey0_ValueError,
    kit_BadStretch_MeteError := Er.kit_refs eH3 eT3 ez1_3 ez1_3n,
    kit_BadStretch_ValueError := Er.kit_typ (by decide +kernel) ey1_ValueError,
    kit_NoValue_MeteError := Er.kit_refs eH3 eT3 ez2_3 ez2_3n,
    kit_NoValue_ValueError := Er.kit_typ (by decide +kernel) ey2_ValueError,
    exm_BadNumber_BadNumber := PySem.W.exm_ref eB0 eH0 eT0 ex0_0,
    exm_BadStretch_BadStretch := PySem.W.exm_ref eB1 eH1 eT1 ex1_1,
    exm_NoValue_NoValue := PySem.W.exm_ref eB2 eH2 eT2 ex2_2 }
  refine ⟨T.fd_law, fun s v => .of_eq rfl, fun base _ _ => ?_⟩
  exact law_of T
end My
open PySem PySem.W PyProof.Rows
set_option maxHeartbeats 0 in
theorem PySem.Challenge.cw_metehouse_k08_pieces_as_sets_holds : PySem.Challenge.rw_metehouse_k08_pieces_as_sets.Holds := by
  w_on; o_law; k_head; (case hw => w_witness2)
  k_fill
  refine L2.walk_of (l := PySem.Challenge.rw_metehouse_k08_pieces_as_sets) (n := 63) (k := 18) (x := "_law_script") (CX := fun _ => L2.CX0) (sp := fun w => My.spLaw _) rfl (by decide) rfl ⟨rfl, by decide, by decide⟩ (fun w h Y => PySem.W.kIn_of Y) ?F (fun _ _ a ns hl _ hS => ⟨a, ns, rfl, hS, hl, fun _ => rfl⟩) (fun _ _ _ _ _ h => h)
  case F =>
    intro w mg fa h KX G hmg
    refine' My.all_mk KX G hmg ?o0g ?a0 ?l0 ?c0 ?k0 ?d0 ?a1 ?l1 ?c1 ?k1 ?a2 ?l2 ?c2 ?k2 ?a3 ?l3 ?c3 ?k3 ?a4 ?l4 ?c4 ?k4 ?a5 ?l5 ?c5 ?k5 ?a6 ?l6 ?c6 ?k6 ?a7 ?l7 ?c7 ?k7 ?a8 ?l8 ?c8 ?k8 ?a9 ?l9 ?c9 ?k9 ?a10 ?l10 ?c10 ?k10 ?a11 ?l11 ?c11 ?k11 ?a12 ?l12 ?c12 ?k12 ?a13 ?l13 ?c13 ?k13 ?a14 ?l14 ?c14 ?k14 ?a15 ?l15 ?c15 ?k15 ?a16 ?l16 ?c16 ?k16 ?a17 ?l17 ?c17 ?k17 ?a18 ?l18 ?c18 ?k18 ?a19 ?l19 ?c19 ?k19 ?a20 ?l20 ?c20 ?k20 ?a21 ?as21 ?l21 ?c21 ?k21 ?a22 ?as22 ?l22 ?c22 ?k22 ?a23 ?as23 ?l23 ?c23 ?k23 ?a24 ?as24 ?l24 ?c24 ?k24 ?a25 ?l25 ?c25 ?k25 ?a26 ?l26 ?c26 ?k26 ?a27 ?l27 ?c27 ?k27 ?a28 ?l28 ?c28 ?k28 ?a29 ?l29 ?c29 ?k29 ?a30 ?l30 ?c30 ?k30 ?a31 ?l31 ?c31 ?k31 ?a32 ?l32 ?c32 ?k32 ?a33 ?l33 ?c33 ?k33 ?a34 ?l34 ?c34 ?k34 ?a35 ?l35 ?c35 ?k35 ?a36 ?l36 ?c36 ?k36 ?a37 ?l37 ?c37 ?k37 ?a38 ?l38 ?c38 ?k38 ?a39 ?l39 ?c39 ?k39 ?a40 ?l40 ?c40 ?k40 ?a41 ?l41 ?c41 ?k41 ?a42 ?l42 ?c42 ?k42 ?a43 ?l43 ?c43 ?k43 ?a44 ?l44 ?c44 ?k44 ?a45 ?l45 ?c45 ?k45 ?a46 ?l46 ?c46 ?k46 ?a47 ?l47 ?c47 ?k47 ?a48 ?l48 ?c48 ?k48 ?a49 ?l49 ?c49 ?k49 ?a50 ?l50 ?c50 ?k50 ?a51 ?l51 ?c51 ?k51 ?a52 ?l52 ?c52 ?k52 ?a53 ?l53 ?c53 ?k53 ?a54 ?l54 ?c54 ?k54 ?a55 ?l55 ?c55 ?k55 ?a56 ?l56 ?c56 ?k56 ?a57 ?l57 ?c57 ?k57 ?a58 ?l58 ?c58 ?k58 ?a59 ?l59 ?c59 ?k59 ?a60 ?l60 ?c60 ?k60 ?a61 ?l61 ?c61 ?k61 ?a62 ?l62 ?c62 ?k62 ?a63 ?l63 ?c63 ?k63 ?a64 ?l64 ?c64 ?k64 ?a65 ?l65 ?c65 ?k65 ?a66 ?l66 ?c66 ?k66 ?a67 ?l67 ?c67 ?k67 ?a68 ?l68 ?c68 ?k68 ?a69 ?l69 ?c69 ?k69 ?a70 ?l70 ?c70 ?k70 ?z0 ?z1 ?z2 ?z3 ?z4 ?z5 ?z6 ?z7 ?z8 ?z9 ?z10 ?z11 ?z12 ?z13 ?z14 ?z15 ?z16 ?o0a ?o0b ?o0c ?o0d ?o0e ?o0f ?o0h ?o0i ?o0j ?o0z1 ?o0z2 ?o0z3 ?o0n0 ?o0k ?o0l ?fn20 ?fn25 ?fn26 ?fn27 ?fn28 ?fn29 ?fn30 ?fn31 ?fn32 ?fn33 ?fn34 ?fn35 ?fn36 ?o0x ?o0y ?o0s ?o0t ?z17 ?y17 ?yb17_1 ?z18 ?y18 ?yb18_1 ?es0 ?es1 ?es2 ?es3 ?eC0 ?eB0 ?eH0 ?eT0 ?eC1 ?eB1 ?eH1 ?eT1 ?eC2 ?eB2 ?eH2 ?eT2 ?eC3 ?eB3 ?eH3 ?eT3 ?eL0 ?eR0 ?eS0 ?eG0 ?eg0 ?en0 ?eI0 ?et0 ?ef0 ?ec0 ?eo0 ?ed0 ?eq0 ?ep0 ?ev0 ?em0 ?ek0 ?ea0 ?eb0 ?eL1 ?eR1 ?eS1 ?eG1 ?eg1 ?en1 ?eI1 ?et1 ?ef1 ?ec1 ?eo1 ?ed1 ?eq1 ?ep1 ?ev1 ?em1 ?ek1 ?ea1 ?eb1 ?eL2 ?eR2 ?eS2 ?eG2 ?eg2 ?eI2 ?et2 ?ef2 ?ec2 ?eo2 ?ed2 ?eq2 ?ep2 ?ev2 ?em2 ?ek2 ?ea2 ?eb2 ?ez0_3 ?ez0_3n ?ey0_ValueError ?ez1_3 ?ez1_3n ?ey1_ValueError ?ez2_3 ?ez2_3n ?ey2_ValueError ?ex0_0 ?ex1_1 ?ex2_2
    (case o0g => k_is)
    (case a0 => k_is)
    (case l0 => k_is)
    (case c0 => k_is)
    (case k0 => k_is)
    (case d0 => k_is)
    (case a1 => k_is)
    (case l1 => k_is)
    (case c1 => k_is)
    (case k1 => k_is)
    (case a2 => k_is)
    (case l2 => k_is)
    (case c2 => k_is)
    (case k2 => k_is)
    (case a3 => k_is)
    (case l3 => k_is)
    (case c3 => k_is)
    (case k3 => k_is)
    (case a4 => k_is)
    (case l4 => k_is)
    (case c4 => k_is)
    (case k4 => k_is)
    (case a5 => k_is)
    (case l5 => k_is)
    (case c5 => k_is)
    (case k5 => k_is)
    (case a6 => k_is)
    (case l6 => k_is)
    (case c6 => k_is)
    (case k6 => k_is)
    (case a7 => k_is)
    (case l7 => k_is)
    (case c7 => k_is)
    (case k7 => k_is)
    (case a8 => k_is)
    (case l8 => k_is)
    (case c8 => k_is)
    (case k8 => k_is)
    (case a9 => k_is)
    (case l9 => k_is)
    (case c9 => k_is)
    (case k9 => k_is)
    (case a10 => k_is)
    (case l10 => k_is)
    (case c10 => k_is)
    (case k10 => k_is)
    (case a11 => k_is)
    (case l11 => k_is)
    (case c11 => k_is)
    (case k11 => k_is)
    (case a12 => k_is)
    (case l12 => k_is)
    (case c12 => k_is)
    (case k12 => k_is)
    (case a13 => k_is)
    (case l13 => k_is)
    (case c13 => k_is)
    (case k13 => k_is)
    (case a14 => k_is)
    (case l14 => k_is)
    (case c14 => k_is)
    (case k14 => k_is)
    (case a15 => k_is)
    (case l15 => k_is)
    (case c15 => k_is)
    (case k15 => k_is)
    (case a16 => k_is)
    (case l16 => k_is)
    (case c16 => k_is)
    (case k16 => k_is)
    (case a17 => k_is)
    (case l17 => k_is)
    (case c17 => k_is)
    (case k17 => k_is)
    (case a18 => k_is)
    (case l18 => k_is)
    (case c18 => k_is)
    (case k18 => k_is)
    (case a19 => k_is)
    (case l19 => k_is)
    (case c19 => k_is)
    (case k19 => k_is)
    (case a20 => k_is)
    (case l20 => k_is)
    (case c20 => k_is)
    (case k20 => k_is)
    (case a21 => k_is)
    (case as21 => k_is)
    (case l21 => k_is)
    (case c21 => k_is)
    (case k21 => k_is)
    (case a22 => k_is)
    (case as22 => k_is)
    (case l22 => k_is)
    (case c22 => k_is)
    (case k22 => k_is)
    (case a23 => k_is)
    (case as23 => k_is)
    (case l23 => k_is)
    (case c23 => k_is)
    (case k23 => k_is)
    (case a24 => k_is)
    (case as24 => k_is)
    (case l24 => k_is)
    (case c24 => k_is)
    (case k24 => k_is)
    (case a25 => k_is)
    (case l25 => k_is)
    (case c25 => k_is)
    (case k25 => k_is)
    (case a26 => k_is)
    (case l26 => k_is)
    (case c26 => k_is)
    (case k26 => k_is)
    (case a27 => k_is)
    (case l27 => k_is)
    (case c27 => k_is)
    (case k27 => k_is)
    (case a28 => k_is)
    (case l28 => k_is)
    (case c28 => k_is)
    (case k28 => k_is)
    (case a29 => k_is)
    (case l29 => k_is)
    (case c29 => k_is)
    (case k29 => k_is)
    (case a30 => k_is)
    (case l30 => k_is)
    (case c30 => k_is)
    (case k30 => k_is)
    (case a31 => k_is)
    (case l31 => k_is)
    (case c31 => k_is)
    (case k31 => k_is)
    (case a32 => k_is)
    (case l32 => k_is)
    (case c32 => k_is)
    (case k32 => k_is)
    (case a33 => k_is)
    (case l33 => k_is)
    (case c33 => k_is)
    (case k33 => k_is)
    (case a34 => k_is)
    (case l34 => k_is)
    (case c34 => k_is)
    (case k34 => k_is)
    (case a35 => k_is)
    (case l35 => k_is)
    (case c35 => k_is)
    (case k35 => k_is)
    (case a36 => k_is)
    (case l36 => k_is)
    (case c36 => k_is)
    (case k36 => k_is)
    (case a37 => k_is)
    (case l37 => k_is)
    (case c37 => k_is)
    (case k37 => k_is)
    (case a38 => k_is)
    (case l38 => k_is)
    (case c38 => k_is)
    (case k38 => k_is)
    (case a39 => k_is)
    (case l39 => k_is)
    (case c39 => k_is)
    (case k39 => k_is)
    (case a40 => k_is)
    (case l40 => k_is)
    (case c40 => k_is)
    (case k40 => k_is)
    (case a41 => k_is)
    (case l41 => k_is)
    (case c41 => k_is)
    (case k41 => k_is)
    (case a42 => k_is)
    (case l42 => k_is)
    (case c42 => k_is)
    (case k42 => k_is)
    (case a43 => k_is)
    (case l43 => k_is)
    (case c43 => k_is)
    (case k43 => k_is)
    (case a44 => k_is)
    (case l44 => k_is)
    (case c44 => k_is)
    (case k44 => k_is)
    (case a45 => k_is)
    (case l45 => k_is)
    (case c45 => k_is)
    (case k45 => k_is)
    (case a46 => k_is)
    (case l46 => k_is)
    (case c46 => k_is)
    (case k46 => k_is)
    (case a47 => k_is)
    (case l47 => k_is)
    (case c47 => k_is)
    (case k47 => k_is)
    (case a48 => k_is)
    (case l48 => k_is)
    (case c48 => k_is)
    (case k48 => k_is)
    (case a49 => k_is)
    (case l49 => k_is)
    (case c49 => k_is)
    (case k49 => k_is)
    (case a50 => k_is)
    (case l50 => k_is)
    (case c50 => k_is)
    (case k50 => k_is)
    (case a51 => k_is)
    (case l51 => k_is)
    (case c51 => k_is)
    (case k51 => k_is)
    (case a52 => k_is)
    (case l52 => k_is)
    (case c52 => k_is)
    (case k52 => k_is)
    (case a53 => k_is)
    (case l53 => k_is)
    (case c53 => k_is)
    (case k53 => k_is)
    (case a54 => k_is)
    (case l54 => k_is)
    (case c54 => k_is)
    (case k54 => k_is)
    (case a55 => k_is)
    (case l55 => k_is)
    (case c55 => k_is)
    (case k55 => k_is)
    (case a56 => k_is)
    (case l56 => k_is)
    (case c56 => k_is)
    (case k56 => k_is)
    (case a57 => k_is)
    (case l57 => k_is)
    (case c57 => k_is)
    (case k57 => k_is)
    (case a58 => k_is)
    (case l58 => k_is)
    (case c58 => k_is)
    (case k58 => k_is)
    (case a59 => k_is)
    (case l59 => k_is)
    (case c59 => k_is)
    (case k59 => k_is)
    (case a60 => k_is)
    (case l60 => k_is)
    (case c60 => k_is)
    (case k60 => k_is)
    (case a61 => k_is)
    (case l61 => k_is)
    (case c61 => k_is)
    (case k61 => k_is)
    (case a62 => k_is)
    (case l62 => k_is)
    (case c62 => k_is)
    (case k62 => k_is)
    (case a63 => k_is)
    (case l63 => k_is)
    (case c63 => k_is)
    (case k63 => k_is)
    (case a64 => k_is)
    (case l64 => k_is)
    (case c64 => k_is)
    (case k64 => k_is)
    (case a65 => k_is)
    (case l65 => k_is)
    (case c65 => k_is)
    (case k65 => k_is)
    (case a66 => k_is)
    (case l66 => k_is)
    (case c66 => k_is)
    (case k66 => k_is)
    (case a67 => k_is)
    (case l67 => k_is)
    (case c67 => k_is)
    (case k67 => k_is)
    (case a68 => k_is)
    (case l68 => k_is)
    (case c68 => k_is)
    (case k68 => k_is)
    (case a69 => k_is)
    (case l69 => k_is)
    (case c69 => k_is)
    (case k69 => k_is)
    (case a70 => k_is)
    (case l70 => k_is)
    (case c70 => k_is)
    (case k70 => k_is)
    (case z0 => k_is)
    (case z1 => k_is)
    (case z2 => k_is)
    (case z3 => k_is)
    (case z4 => k_is)
    (case z5 => k_is)
    (case z6 => k_is)
    (case z7 => k_is)
    (case z8 => k_is)
    (case z9 => k_is)
    (case z10 => k_is)
    (case z11 => k_is)
    (case z12 => k_is)
    (case z13 => k_is)
    (case z14 => k_is)
    (case z15 => k_is)
    (case z16 => k_is)
    (case o0a => k_is)
    (case o0b => k_is)
    (case o0c => k_is)
    (case o0d => k_is)
    (case o0e => k_is)
    (case o0f => k_is)
    (case o0h => k_is)
    (case o0i => k_is)
    (case o0j => k_is)
    (case o0z1 => k_is)
    (case o0z2 => k_is)
    (case o0z3 => k_is)
    (case o0n0 => k_is)
    (case o0k => k_is)
    (case o0l => k_is)
    (case fn20 => k_is)
    (case fn25 => k_is)
    (case fn26 => k_is)
    (case fn27 => k_is)
    (case fn28 => k_is)
    (case fn29 => k_is)
    (case fn30 => k_is)
    (case fn31 => k_is)
    (case fn32 => k_is)
    (case fn33 => k_is)
    (case fn34 => k_is)
    (case fn35 => k_is)
    (case fn36 => k_is)
    (case o0x => k_is)
    (case o0y => k_is)
    (case o0s => k_is)
    (case o0t => k_is)
    (case z17 => k_is)
    (case y17 => k_is)
    (case yb17_1 => k_is)
    (case z18 => k_is)
    (case y18 => k_is)
    (case yb18_1 => k_is)
    (case es0 => k_is)
    (case es1 => k_is)
    (case es2 => k_is)
    (case es3 => k_is)
    (case eC0 => k_is)
    (case eB0 => k_is)
    (case eH0 => k_is)
    (case eT0 => k_is)
    (case eC1 => k_is)
    (case eB1 => k_is)
    (case eH1 => k_is)
    (case eT1 => k_is)
    (case eC2 => k_is)
    (case eB2 => k_is)
    (case eH2 => k_is)
    (case eT2 => k_is)
    (case eC3 => k_is)
    (case eB3 => k_is)
    (case eH3 => k_is)
    (case eT3 => k_is)
    (case eL0 => k_is)
    (case eR0 => decide +kernel)
    (case eS0 => k_is)
    (case eG0 => k_is)
    (case eg0 => k_is)
    (case en0 => k_is)
    (case eI0 => k_is)
    (case et0 => k_is)
    (case ef0 => k_is)
    (case ec0 => k_is)
    (case eo0 => k_is)
    (case ed0 => k_is)
    (case eq0 => rfl)
    (case ep0 => ks_is)
    (case ev0 => k_is)
    (case em0 => k_is)
    (case ek0 => k_is)
    (case ea0 => k_is)
    (case eb0 => k_is)
    (case eL1 => k_is)
    (case eR1 => decide +kernel)
    (case eS1 => k_is)
    (case eG1 => k_is)
    (case eg1 => k_is)
    (case en1 => k_is)
    (case eI1 => k_is)
    (case et1 => k_is)
    (case ef1 => k_is)
    (case ec1 => k_is)
    (case eo1 => k_is)
    (case ed1 => k_is)
    (case eq1 => rfl)
    (case ep1 => ks_is)
    (case ev1 => k_is)
    (case em1 => k_is)
    (case ek1 => k_is)
    (case ea1 => k_is)
    (case eb1 => k_is)
    (case eL2 => k_is)
    (case eR2 => decide +kernel)
    (case eS2 => k_is)
    (case eG2 => k_is)
    (case eg2 => k_is)
    (case eI2 => k_is)
    (case et2 => k_is)
    (case ef2 => k_is)
    (case ec2 => k_is)
    (case eo2 => k_is)
    (case ed2 => k_is)
    (case eq2 => rfl)
    (case ep2 => ks_is)
    (case ev2 => k_is)
    (case em2 => k_is)
    (case ek2 => k_is)
    (case ea2 => k_is)
    (case eb2 => k_is)
    (case ez0_3 => k_is)
    (case ez0_3n => rfl)
    (case ey0_ValueError => k_is)
    (case ez1_3 => k_is)
    (case ez1_3n => rfl)
    (case ey1_ValueError => k_is)
    (case ez2_3 => k_is)
    (case ez2_3n => rfl)
    (case ey2_ValueError => k_is)
    (case ex0_0 => k_is)
    (case ex1_1 => k_is)
    (case ex2_2 => k_is)
