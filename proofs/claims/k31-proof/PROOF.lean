import PyProof.Rows.All
import Wide.All
import OpenK.AllK
import Wide.FinOn
import HandS.ForMost
import HandS.Exc
import HandS.TryOnly
import HandS.ExcOwn
import HandS.ExcBuiltin
import HandS.WordsExc
import HandS.IsInst
import HandS.Defaults
import HandS.Star
import HandS.Flow
import HandS.Wide
import HandS.Gcd
import HandS.Evl
import HandS.CallSlots
import KE.KExcSuper
import HandS.ExcInit
import HandS.FStr
import HandS.ExcIs
import HandS.ExcField
import KE.KExcIs
import KE.KOpsOwn
import KE.KCallOwn
import HandS.OwnEq
import PyProof.ListMulRight
import HandS.Codes
import HandS.SlotsOwn
import PyProof.Rows.TmSorted
import PyProof.Rows.StrMeet
import HandS.Walk
import HandS.RaiseMore
import HandS.TupAny
import HandS.Conv
import PyProof.GenRules
import PyProof.GenQ
import HandS.GenList
import PyProof.Rows.StrDigitsNeg
import HandS.Zip
import HandS.DictComp
import KE.KDictWalk
import HandS.TupLen
import HandS.Deep
import HandS.SortRule
import HandS.Sort
import HandS.DictEq
import KE.KDictCopyH
import HandS.DictTup
import KE.KDictDisplayH
import PyProof.DictMoreH
import HandS.ClsMeth
import KE.KParD
import HandS.TryMany
import PyProof.StrBlock2
import PyProof.TupleKey
import HandS.SetFor
import HandS.SortInts
import PyProof.Rows.SetFrom
import PyProof.Rows.SortShellAny
import KE.GoesMore
import PyProof.Draws
import PyProof.StrLawsRepr
import PySem.Challenge.RW_metehouse_k31_beats_that_are_possible
set_option Elab.async false
set_option linter.all false
set_option maxRecDepth 100000
set_option maxHeartbeats 4000000
namespace My
open PySem PySem.Spec PyProof.Rows L2 StX
/-! ### rules of my own -/
section
variable {X : Cx}
/-- floor division by any divisor that is not 0, below 2 ^ 9000 in size -/
theorem op_fdivWN : OpR X (binaryOp .FloorDiv) (rI (fun _ j => j ≠ 0 ∧ j.natAbs.log2 < 9000) fun i j => .int (i.fdiv j)) :=
  opI fun _ _ _ _ _ _ _ hc q => floordiv_int hc.1 q (.inl (PyProof.noPylong_of_log2 hc.2))
theorem op_mulG : OpR X (binaryOp .Mult) (rI (fun i j => CMul i j ∨ CMulW i j) fun i j => .int (i * j)) := opI fun _ _ _ _ _ _ _ hc q => mul_int q (hc.elim CMul.ok CMulW.ok)
variable {CX : CXT} {k : Nat} {f : Addr} {sp : Sp} {E : XK} {x : Str} {p pos : Pos} {e : Expr} {es : List Expr} {t : TA}
/-- a call of a def whose promise is told raw -/
theorem pe_callR (F : FnR X.prog X.w X.K X.mg X.base CX k f sp) (hr : Room k X.A) (hg : Gl X x) (hm : X.mg x = some (.ref f)) (hk : PySem.W.keepIn X.K (.ref f) = true) (hx : Passes CX X E)
    (ha : PA X (e :: es) t) (hdb : (x == ("__debug__" : Str)) = false := by decide) (he : starEach (e :: es) X.env = (false, eval e X.env) :: starEach es X.env := by rfl) (hpl : (backTo pos (starEach es X.env)).any (·.1) = false := by rfl) :
    PE X (.Call (.Name x p) (e :: es) [] pos) (fun σ H Q => t σ H fun vs H1 => sp vs H1 Q E) := by
  refine ⟨fun pins s σ H Q I h => ?_⟩
  refine wpAny_Call_Name_kw (ld_glob I hg hm ?_ hdb)
  refine PySem.W.callWith_K (h₀ := X.base) I.ok.mod.kin hk (thn (ha.run pos pins s σ H _ I h) fun us s1 ⟨vs, H1, I1, r, q⟩ => ⟨I1.kIn, ?_⟩) he hpl
  exact wpAny_call (run_fnR F hr hx I1 r q)
theorem pe_callR0 (F : FnR X.prog X.w X.K X.mg X.base CX k f sp) (hr : Room k X.A) (hg : Gl X x) (hm : X.mg x = some (.ref f)) (hk : PySem.W.keepIn X.K (.ref f) = true) (hx : Passes CX X E)
    (hdb : (x == ("__debug__" : Str)) = false := by decide) : PE X (.Call (.Name x p) [] [] pos) (fun σ H Q => sp [] H Q E) := by
  refine ⟨fun pins s σ H Q I h => ?_⟩
  refine wpAny_Call_Name_kw (ld_glob I hg hm ?_ hdb)
  exact PySem.W.callWith_K0 I.kIn hk (wpAny_call (run_fnR (us := []) F hr hx I .nil h))
end
section
variable {P : Program} {w : World} {K : PySem.W.Frag} {mg : Str → Option Value} {base : Heap}
/-- def f(a, .., *v) that lets nothing out -/
theorem Fun.okStar {x qual : Str} {st : Stmt} {f : Addr} {fd : FuncData} {N ps : List Str} {pv : Str} {k : Nat} {sp : Sp} (F : Fun K x qual st f fd) (S : FnScope N (ps ++ [pv]) (defScope st))
    (hb : ∀ (kV doc pm : Value) (an : Option Addr) (cdv ct : Value) (us rest : List Value), us.length = ps.length → bindArgs (PySem.W.fnOf x qual (defArgs st) (defBody st) (defScope st) .none kV doc pm an cdv ct) ⟨us ++ rest, []⟩ = (newTuple rest >>= fun t => pure (ps.zip us ++ [(pv, t)])))
    (hbody : ∀ (cdv : Value) (A : Around) (outer : List Env) (s : Shared) (H : Hp) (vs : List V) (Q : VK) (E : XK), Room k (A.deeper (envOfC qual (defScope st) s.heap.objs.size f cdv)) → sp vs H Q E →
      ∃ t, PSs (cxOf CX0 P w K mg base N qual (defScope st) f cdv A outer s H E).nox (defBody st) t ∧ t { nx := fun _ H' => Q .non H', rt := Q } (start N vs) H) :
    FnR P w K mg base CX0 (k + 1) f (fun vs H Q E => ∃ ws rest, vs = ws ++ rest ∧ ws.length = ps.length ∧ rest.length ≤ sizeLine ∧ ∀ p, H p = Option.none → sp (ws ++ [V.ref p]) (upd H p (.tup rest)) Q E) := by
  obtain ⟨oc, od, kV, doc, pm, an, cdv, ct, osl, rfl, lk, hcd⟩ := F.ex
  refine fn_star lk hcd S cxUp_none (hb kV doc pm an cdv ct) fun A outer s H vs Q E hr hsp => ?_
  obtain ⟨t, h, q⟩ := hbody cdv A outer s H vs Q E hr hsp
  exact ⟨t, h.nox, q⟩
end
/-! ### heaps: what is kept but at some addresses -/
def Keep (M : List Addr) (H H' : Hp) : Prop := ∀ b o, b ∉ M → H b = some o → H' b = some o
theorem Keep.refl (M : List Addr) (H : Hp) : Keep M H H := fun _ _ _ h => h
theorem Keep.trans {M : List Addr} {H H1 H2 : Hp} (a : Keep M H H1) (b : Keep M H1 H2) : Keep M H H2 := fun c o n h => b c o n (a c o n h)
theorem Keep.new {M : List Addr} {H : Hp} {p : Addr} {o : HO} (h : H p = none) : Keep M H (upd H p o) := fun b u _ e => by
  rw [upd_ne (ne_of_none e h)]; exact e
theorem Keep.at {M : List Addr} {H : Hp} {p : Addr} {o : HO} (h : p ∈ M) : Keep M H (upd H p o) := fun b u n e => by
  rw [upd_ne (fun z => n (by rw [z]; exact h))]; exact e
/-- an object that H does not know may change -/
theorem Keep.mut {M : List Addr} {H H' : Hp} {p : Addr} {o : HO} (e : Keep M H H') (h : H p = none) : Keep M H (upd H' p o) := fun b u n hb => by
  rw [upd_ne (ne_of_none hb h)]; exact e b u n hb
theorem Keep.mono {M N : List Addr} {H H' : Hp} (e : Keep M H H') (h : ∀ a ∈ M, a ∈ N) : Keep N H H' := fun b o n hb => e b o (fun z => n (h b z)) hb
theorem Keep.rd {M : List Addr} {H H' : Hp} {a : Addr} {u : HO} (e : Keep M H H') (n : a ∉ M) (h : Rd H a u) : Rd H' a u := by
  rcases h with h | ⟨o, h⟩
  · exact Or.inl (e a _ n h)
  · exact Or.inr ⟨o, e a _ n h⟩
theorem Keep.l {M : List Addr} {K : PySem.W.Frag} {H H' : Hp} {a : Addr} {xs : List V} (e : Keep M H H') (n : a ∉ M) (h : SqL K H a xs) : SqL K H' a xs := by
  rcases h with h | h
  · exact Or.inl (e.rd n h)
  · exact Or.inr h
theorem Keep.t {M : List Addr} {K : PySem.W.Frag} {H H' : Hp} {a : Addr} {xs : List V} (e : Keep M H H') (n : a ∉ M) (h : SqT K H a xs) : SqT K H' a xs := by
  rcases h with h | h
  · exact Or.inl (e.rd n h)
  · exact Or.inr h
theorem Keep.free {M : List Addr} {H H' : Hp} (e : Keep M H H') {l : Addr} (n : l ∉ M) (h : H' l = Option.none) : H l = Option.none := by
  cases q : H l with
  | none => rfl
  | some o => rw [e l o n q] at h; cases h
/-- an address that is untracked later, though tracked addresses stay (M's own, too) -/
theorem ne_free {H : Hp} {a p : Addr} {o : HO} (h : H a = some o) (n : H p = none) : p ≠ a := fun e => by rw [e, h] at n; cases n
theorem sqL_of {K : PySem.W.Frag} {H : Hp} {a : Addr} {xs : List V} (h : H a = some (.lst xs)) : SqL K H a xs := Or.inl (Or.inl h)
theorem sqT_of {K : PySem.W.Frag} {H : Hp} {a : Addr} {xs : List V} (h : H a = some (.tup xs)) : SqT K H a xs := Or.inl (Or.inl h)
theorem le_size {n : Nat} (h : n ≤ 100000) : n ≤ sizeLine := Nat.le_trans h (by decide)
theorem lt_size {n : Nat} (h : n < 100000) : n < sizeLine := Nat.lt_of_lt_of_le h (by decide)
theorem ixN_nn {n j : Nat} (h : j < n) : ixN n (j : Int) = some j := by
  unfold ixN; rw [if_pos (by omega), if_pos (by omega), Int.toNat_natCast]
theorem cxOf_K {CX : CXT} {P : Program} {w : World} {K : PySem.W.Frag} {mg : Str → Option Value} {base : Heap} {N : List Str} {qual : Str} {scope : Scope} {f : Addr} {cd : Value} {A : Around} {outer : List Env} {s : Shared} {H : Hp} {E : XK} :
    (cxOf CX P w K mg base N qual scope f cd A outer s H E).K = K := rfl
/-! ### readings, by the head of their terms -/
section
variable {K : PySem.W.Frag} {σ : L2.St} {H : Hp} {Q : VK} {QA : List V → Hp → Prop} {QB : Bool → Hp → Prop} {QO : Option Int → Hp → Prop} {D : Ends} {ta tb te tc : TE} {t u : TT} {ts tr : TS} {r : R2} {v x y : V} {G : TG} {tas : TA}
theorem r_nxE {a b d : L2.St → Hp → Prop} {c : VK} (k : a σ H) : Ends.nx ⟨a, c, b, d⟩ σ H := k
theorem r_bkE {a b d : L2.St → Hp → Prop} {c : VK} (k : b σ H) : Ends.bk ⟨a, c, b, d⟩ σ H := k
theorem r_ctE {a b d : L2.St → Hp → Prop} {c : VK} (k : d σ H) : Ends.ct ⟨a, c, b, d⟩ σ H := k
theorem r_rtE {a b d : L2.St → Hp → Prop} {c : VK} (k : c v H) : Ends.rt ⟨a, c, b, d⟩ v H := k
theorem r_var {i : Nat} (h : σ[i]? = some (some v)) (k : Q v H) : tVar i σ H Q := ⟨v, h, k⟩
theorem r_c (k : Q v H) : tC v σ H Q := k
theorem r_op (k : ta σ H fun x H1 => tb σ H1 fun y H2 => r x y H2 Q) : tOp r ta tb σ H Q := k
theorem r_un {r : V → Hp → VK → Prop} (k : ta σ H fun x H1 => r x H1 Q) : tUn r ta σ H Q := k
theorem r_I0 {g : Int → Int → V} {i j : Int} (k : Q (g i j) H) : rI0 g (.int i) (.int j) H Q := ⟨i, j, rfl, rfl, k⟩
theorem r_I {C : Int → Int → Prop} {g : Int → Int → V} {i j : Int} (c : C i j) (k : Q (g i j) H) : rI C g (.int i) (.int j) H Q := ⟨i, j, rfl, rfl, c, k⟩
theorem r_U {g : Int → V} {i : Int} (k : Q (g i) H) : rU g (.int i) H Q := ⟨i, rfl, k⟩
theorem dec_int {i j : Int} : decide (V.int i = V.int j) = decide (i = j) := by
  by_cases h : i = j
  · subst h; simp
  · rw [decide_eq_false h, decide_eq_false (fun e => h (V.int.inj e))]
theorem dec_str {i j : Str} : decide (V.str i = V.str j) = decide (i = j) := by
  by_cases h : i = j
  · subst h; simp
  · rw [decide_eq_false h, decide_eq_false (fun e => h (V.str.inj e))]
theorem dec_bl {i j : Bool} : decide (V.bl i = V.bl j) = decide (i = j) := by
  by_cases h : i = j
  · subst h; simp
  · rw [decide_eq_false h, decide_eq_false (fun e => h (V.bl.inj e))]
theorem r_eqI {i j : Int} (k : Q (.bl (decide (i = j))) H) : rEq (.int i) (.int j) H Q := ⟨rfl, by rw [dec_int]; exact k⟩
theorem r_neI {i j : Int} (k : Q (.bl (!decide (i = j))) H) : rNe (.int i) (.int j) H Q := ⟨rfl, by rw [dec_int]; exact k⟩
theorem r_eqS {i j : Str} (k : Q (.bl (decide (i = j))) H) : rEq (.str i) (.str j) H Q := ⟨rfl, by rw [dec_str]; exact k⟩
theorem r_neS {i j : Str} (k : Q (.bl (!decide (i = j))) H) : rNe (.str i) (.str j) H Q := ⟨rfl, by rw [dec_str]; exact k⟩
theorem r_eqB {i j : Bool} (k : Q (.bl (decide (i = j))) H) : rEq (.bl i) (.bl j) H Q := ⟨rfl, by rw [dec_bl]; exact k⟩
theorem r_neB {i j : Bool} (k : Q (.bl (!decide (i = j))) H) : rNe (.bl i) (.bl j) H Q := ⟨rfl, by rw [dec_bl]; exact k⟩
theorem r_test (k : te σ H fun x H' => ∃ k, x = .bl k ∧ QB k H') : tTest te σ H QB := k
theorem r_tB (k : te σ H fun x H' => ∃ k, x = .bl k ∧ QB k H') : tB te σ H QB := k
theorem r_bl {b : Bool} {P : Bool → Prop} (k : P b) : ∃ c, V.bl b = .bl c ∧ P c := ⟨b, rfl, k⟩
theorem r_and (k : t σ H fun c H1 => if c = true then u σ H1 QB else QB false H1) : tAnd t u σ H QB := k
theorem r_or (k : t σ H fun c H1 => if c = true then QB true H1 else u σ H1 QB) : tOr t u σ H QB := k
theorem r_not (k : t σ H fun c H1 => QB (!c) H1) : tNot t σ H QB := k
theorem r_andV (k : ta σ H fun x H1 => ∃ c, x = .bl c ∧ if c = true then tb σ H1 Q else Q (.bl false) H1) : tAndV ta tb σ H Q := k
theorem r_orV (k : ta σ H fun x H1 => ∃ c, x = .bl c ∧ if c = true then Q (.bl true) H1 else tb σ H1 Q) : tOrV ta tb σ H Q := k
theorem r_notV (k : ta σ H fun x H1 => ∃ c, x = .bl c ∧ Q (.bl (!c)) H1) : tNotV ta σ H Q := k
theorem r_if (k : t σ H fun c H1 => if c = true then ta σ H1 Q else tb σ H1 Q) : tIf t ta tb σ H Q := k
theorem r_chain {r' : R2} (k : ta σ H fun x H1 => tb σ H1 fun y H2 => r x y H2 fun z H3 => ∃ k, z = .bl k ∧ (if k = true then tc σ H3 fun w' H4 => r' y w' H4 Q else Q (.bl false) H3)) : tChain r r' ta tb tc σ H Q := k
theorem r_seq (k : ts { D with nx := tr D } σ H) : tSeq ts tr D σ H := k
theorem r_asg (k : te σ H fun x H1 => G x σ H1 D.nx) : tAsg te G D σ H := k
theorem r_gName {i : Nat} {Q : L2.St → Hp → Prop} (k : Q (σ.set i (some v)) H) : gName i v σ H Q := k
theorem r_gName0 {x0 : Option V} {Q : L2.St → Hp → Prop} (k : Q (some v :: σ) H) : gName 0 v (x0 :: σ) H Q := k
theorem r_gName1 {x0 x1 : Option V} {Q : L2.St → Hp → Prop} (k : Q (x0 :: some v :: σ) H) : gName 1 v (x0 :: x1 :: σ) H Q := k
theorem r_gName2 {x0 x1 x2 : Option V} {Q : L2.St → Hp → Prop} (k : Q (x0 :: x1 :: some v :: σ) H) : gName 2 v (x0 :: x1 :: x2 :: σ) H Q := k
theorem r_gName3 {x0 x1 x2 x3 : Option V} {Q : L2.St → Hp → Prop} (k : Q (x0 :: x1 :: x2 :: some v :: σ) H) : gName 3 v (x0 :: x1 :: x2 :: x3 :: σ) H Q := k
theorem r_gName4 {x0 x1 x2 x3 x4 : Option V} {Q : L2.St → Hp → Prop} (k : Q (x0 :: x1 :: x2 :: x3 :: some v :: σ) H) : gName 4 v (x0 :: x1 :: x2 :: x3 :: x4 :: σ) H Q := k
theorem r_gName5 {x0 x1 x2 x3 x4 x5 : Option V} {Q : L2.St → Hp → Prop} (k : Q (x0 :: x1 :: x2 :: x3 :: x4 :: some v :: σ) H) : gName 5 v (x0 :: x1 :: x2 :: x3 :: x4 :: x5 :: σ) H Q := k
theorem r_gName6 {x0 x1 x2 x3 x4 x5 x6 : Option V} {Q : L2.St → Hp → Prop} (k : Q (x0 :: x1 :: x2 :: x3 :: x4 :: x5 :: some v :: σ) H) : gName 6 v (x0 :: x1 :: x2 :: x3 :: x4 :: x5 :: x6 :: σ) H Q := k
theorem r_gName7 {x0 x1 x2 x3 x4 x5 x6 x7 : Option V} {Q : L2.St → Hp → Prop} (k : Q (x0 :: x1 :: x2 :: x3 :: x4 :: x5 :: x6 :: some v :: σ) H) : gName 7 v (x0 :: x1 :: x2 :: x3 :: x4 :: x5 :: x6 :: x7 :: σ) H Q := k
theorem r_gName8 {x0 x1 x2 x3 x4 x5 x6 x7 x8 : Option V} {Q : L2.St → Hp → Prop} (k : Q (x0 :: x1 :: x2 :: x3 :: x4 :: x5 :: x6 :: x7 :: some v :: σ) H) : gName 8 v (x0 :: x1 :: x2 :: x3 :: x4 :: x5 :: x6 :: x7 :: x8 :: σ) H Q := k
theorem r_gName9 {x0 x1 x2 x3 x4 x5 x6 x7 x8 x9 : Option V} {Q : L2.St → Hp → Prop} (k : Q (x0 :: x1 :: x2 :: x3 :: x4 :: x5 :: x6 :: x7 :: x8 :: some v :: σ) H) : gName 9 v (x0 :: x1 :: x2 :: x3 :: x4 :: x5 :: x6 :: x7 :: x8 :: x9 :: σ) H Q := k
theorem r_gName10 {x0 x1 x2 x3 x4 x5 x6 x7 x8 x9 x10 : Option V} {Q : L2.St → Hp → Prop} (k : Q (x0 :: x1 :: x2 :: x3 :: x4 :: x5 :: x6 :: x7 :: x8 :: x9 :: some v :: σ) H) : gName 10 v (x0 :: x1 :: x2 :: x3 :: x4 :: x5 :: x6 :: x7 :: x8 :: x9 :: x10 :: σ) H Q := k
theorem r_gName11 {x0 x1 x2 x3 x4 x5 x6 x7 x8 x9 x10 x11 : Option V} {Q : L2.St → Hp → Prop} (k : Q (x0 :: x1 :: x2 :: x3 :: x4 :: x5 :: x6 :: x7 :: x8 :: x9 :: x10 :: some v :: σ) H) : gName 11 v (x0 :: x1 :: x2 :: x3 :: x4 :: x5 :: x6 :: x7 :: x8 :: x9 :: x10 :: x11 :: σ) H Q := k
theorem r_gName12 {x0 x1 x2 x3 x4 x5 x6 x7 x8 x9 x10 x11 x12 : Option V} {Q : L2.St → Hp → Prop} (k : Q (x0 :: x1 :: x2 :: x3 :: x4 :: x5 :: x6 :: x7 :: x8 :: x9 :: x10 :: x11 :: some v :: σ) H) : gName 12 v (x0 :: x1 :: x2 :: x3 :: x4 :: x5 :: x6 :: x7 :: x8 :: x9 :: x10 :: x11 :: x12 :: σ) H Q := k
theorem r_gName13 {x0 x1 x2 x3 x4 x5 x6 x7 x8 x9 x10 x11 x12 x13 : Option V} {Q : L2.St → Hp → Prop} (k : Q (x0 :: x1 :: x2 :: x3 :: x4 :: x5 :: x6 :: x7 :: x8 :: x9 :: x10 :: x11 :: x12 :: some v :: σ) H) : gName 13 v (x0 :: x1 :: x2 :: x3 :: x4 :: x5 :: x6 :: x7 :: x8 :: x9 :: x10 :: x11 :: x12 :: x13 :: σ) H Q := k
theorem r_gName14 {x0 x1 x2 x3 x4 x5 x6 x7 x8 x9 x10 x11 x12 x13 x14 : Option V} {Q : L2.St → Hp → Prop} (k : Q (x0 :: x1 :: x2 :: x3 :: x4 :: x5 :: x6 :: x7 :: x8 :: x9 :: x10 :: x11 :: x12 :: x13 :: some v :: σ) H) : gName 14 v (x0 :: x1 :: x2 :: x3 :: x4 :: x5 :: x6 :: x7 :: x8 :: x9 :: x10 :: x11 :: x12 :: x13 :: x14 :: σ) H Q := k
theorem r_gName15 {x0 x1 x2 x3 x4 x5 x6 x7 x8 x9 x10 x11 x12 x13 x14 x15 : Option V} {Q : L2.St → Hp → Prop} (k : Q (x0 :: x1 :: x2 :: x3 :: x4 :: x5 :: x6 :: x7 :: x8 :: x9 :: x10 :: x11 :: x12 :: x13 :: x14 :: some v :: σ) H) : gName 15 v (x0 :: x1 :: x2 :: x3 :: x4 :: x5 :: x6 :: x7 :: x8 :: x9 :: x10 :: x11 :: x12 :: x13 :: x14 :: x15 :: σ) H Q := k
theorem r_gName16 {x0 x1 x2 x3 x4 x5 x6 x7 x8 x9 x10 x11 x12 x13 x14 x15 x16 : Option V} {Q : L2.St → Hp → Prop} (k : Q (x0 :: x1 :: x2 :: x3 :: x4 :: x5 :: x6 :: x7 :: x8 :: x9 :: x10 :: x11 :: x12 :: x13 :: x14 :: x15 :: some v :: σ) H) : gName 16 v (x0 :: x1 :: x2 :: x3 :: x4 :: x5 :: x6 :: x7 :: x8 :: x9 :: x10 :: x11 :: x12 :: x13 :: x14 :: x15 :: x16 :: σ) H Q := k
theorem r_gName17 {x0 x1 x2 x3 x4 x5 x6 x7 x8 x9 x10 x11 x12 x13 x14 x15 x16 x17 : Option V} {Q : L2.St → Hp → Prop} (k : Q (x0 :: x1 :: x2 :: x3 :: x4 :: x5 :: x6 :: x7 :: x8 :: x9 :: x10 :: x11 :: x12 :: x13 :: x14 :: x15 :: x16 :: some v :: σ) H) : gName 17 v (x0 :: x1 :: x2 :: x3 :: x4 :: x5 :: x6 :: x7 :: x8 :: x9 :: x10 :: x11 :: x12 :: x13 :: x14 :: x15 :: x16 :: x17 :: σ) H Q := k
theorem r_gName18 {x0 x1 x2 x3 x4 x5 x6 x7 x8 x9 x10 x11 x12 x13 x14 x15 x16 x17 x18 : Option V} {Q : L2.St → Hp → Prop} (k : Q (x0 :: x1 :: x2 :: x3 :: x4 :: x5 :: x6 :: x7 :: x8 :: x9 :: x10 :: x11 :: x12 :: x13 :: x14 :: x15 :: x16 :: x17 :: some v :: σ) H) : gName 18 v (x0 :: x1 :: x2 :: x3 :: x4 :: x5 :: x6 :: x7 :: x8 :: x9 :: x10 :: x11 :: x12 :: x13 :: x14 :: x15 :: x16 :: x17 :: x18 :: σ) H Q := k
theorem r_gName19 {x0 x1 x2 x3 x4 x5 x6 x7 x8 x9 x10 x11 x12 x13 x14 x15 x16 x17 x18 x19 : Option V} {Q : L2.St → Hp → Prop} (k : Q (x0 :: x1 :: x2 :: x3 :: x4 :: x5 :: x6 :: x7 :: x8 :: x9 :: x10 :: x11 :: x12 :: x13 :: x14 :: x15 :: x16 :: x17 :: x18 :: some v :: σ) H) : gName 19 v (x0 :: x1 :: x2 :: x3 :: x4 :: x5 :: x6 :: x7 :: x8 :: x9 :: x10 :: x11 :: x12 :: x13 :: x14 :: x15 :: x16 :: x17 :: x18 :: x19 :: σ) H Q := k
theorem r_ret (k : te σ H D.rt) : tRet te D σ H := k
theorem r_retN (k : D.rt .non H) : tRetN D σ H := k
theorem r_drop (k : te σ H fun _ H1 => D.nx σ H1) : tDrop te D σ H := k
theorem r_ifS (k : t σ H fun b H1 => if b = true then ts D σ H1 else tr D σ H1) : tIfS t ts tr D σ H := k
theorem r_next (k : D.nx σ H) : tNext D σ H := k
theorem r_cont (k : D.ct σ H) : tCont D σ H := k
theorem r_break (k : D.bk σ H) : tBreak D σ H := k
theorem r_cb {r : List V → Hp → VK → Prop} (k : tas σ H fun vs H1 => r vs H1 Q) : tCB r tas σ H Q := k
theorem r_cons (k : ta σ H fun x H1 => tas σ H1 fun xs H2 => QA (x :: xs) H2) : tCons ta tas σ H QA := k
theorem r_nil (k : QA [] H) : tNil σ H QA := k
theorem r_call {sp : Sp} {dvs : List V} {E : XK} (k : tas σ H fun vs H1 => sp (vs ++ dvs) H1 Q E) : tCall sp dvs E tas σ H Q := k
theorem r_lst (k : tas σ H fun xs H1 => xs.length ≤ sizeLine ∧ ∀ p, H1 p = none → Q (.ref p) (upd H1 p (.lst xs))) : tLst tas σ H Q := k
theorem r_tup (k : tas σ H fun xs H1 => xs.length ≤ sizeLine ∧ ∀ p, H1 p = none → Q (.ref p) (upd H1 p (.tup xs))) : tTup tas σ H Q := k
theorem r_ixL {p : Addr} {xs : List V} {i : Int} (h : SqL K H p xs) (h2 : atI xs i = some v) (k : Q v H) : rIxL K (.ref p) (.int i) H Q := ⟨p, xs, i, v, rfl, rfl, h, h2, k⟩
theorem r_ixT {p : Addr} {xs : List V} {i : Int} (h : SqT K H p xs) (h2 : atI xs i = some v) (k : Q v H) : rIxT K (.ref p) (.int i) H Q := ⟨p, xs, i, v, rfl, rfl, h, h2, k⟩
theorem r_gSub {to ti : TE} {s : TSet} {Q : L2.St → Hp → Prop} (k : to σ H fun o H1 => ti σ H1 fun i H2 => s o i v H2 fun H3 => Q σ H3) : gSub to ti s v σ H Q := k
theorem r_setL {p : Addr} {xs : List V} {i : Int} {j : Nat} {Q : Hp → Prop} (h : H p = some (.lst xs)) (h2 : ixN xs.length i = some j) (k : Q (upd H p (.lst (xs.set j v)))) : rSetL (.ref p) (.int i) v H Q := ⟨p, xs, i, j, rfl, rfl, h, h2, k⟩
theorem r_setP0 {p : Addr} {x0 : V} {xs : List V} {Q : Hp → Prop} (h : H p = some (.lst (x0 :: xs))) (k : Q (upd H p (.lst (v :: xs)))) : rSetL (.ref p) (.int 0) v H Q := ⟨p, _, 0, 0, rfl, rfl, h, ixN_nn (j := 0) (by simp), k⟩
theorem r_setP1 {p : Addr} {x0 x1 : V} {xs : List V} {Q : Hp → Prop} (h : H p = some (.lst (x0 :: x1 :: xs))) (k : Q (upd H p (.lst (x0 :: v :: xs)))) : rSetL (.ref p) (.int 1) v H Q := ⟨p, _, 1, 1, rfl, rfl, h, ixN_nn (j := 1) (by simp), k⟩
theorem r_setP2 {p : Addr} {x0 x1 x2 : V} {xs : List V} {Q : Hp → Prop} (h : H p = some (.lst (x0 :: x1 :: x2 :: xs))) (k : Q (upd H p (.lst (x0 :: x1 :: v :: xs)))) : rSetL (.ref p) (.int 2) v H Q := ⟨p, _, 2, 2, rfl, rfl, h, ixN_nn (j := 2) (by simp), k⟩
theorem r_setP3 {p : Addr} {x0 x1 x2 x3 : V} {xs : List V} {Q : Hp → Prop} (h : H p = some (.lst (x0 :: x1 :: x2 :: x3 :: xs))) (k : Q (upd H p (.lst (x0 :: x1 :: x2 :: v :: xs)))) : rSetL (.ref p) (.int 3) v H Q := ⟨p, _, 3, 3, rfl, rfl, h, ixN_nn (j := 3) (by simp), k⟩
theorem r_cut (M : L2.St → Hp → Prop) (h : ts { D with nx := M } σ H) (k : ∀ σ' H', M σ' H' → tr D σ' H') : Evl.tCut ts tr D σ H := ⟨M, h, k⟩
theorem r_sl {r : V → Option Int → Option Int → Hp → VK → Prop} {tl th : TO} (k : te σ H fun x H1 => tl σ H1 fun l H2 => th σ H2 fun u H3 => r x l u H3 Q) : tSl r te tl th σ H Q := k
theorem r_ite {p : Prop} {_i : Decidable p} {A B : Prop} (h1 : p → A) (h2 : ¬ p → B) : if decide p = true then A else B := by
  by_cases h : p
  · rw [if_pos (decide_eq_true h)]; exact h1 h
  · rw [if_neg (by rw [decide_eq_false h]; decide)]; exact h2 h
theorem r_iteN {p : Prop} {_i : Decidable p} {A B : Prop} (h1 : ¬ p → A) (h2 : p → B) : if (!decide p) = true then A else B := by
  by_cases h : p
  · rw [if_neg (by rw [decide_eq_true h]; decide)]; exact h2 h
  · rw [if_pos (by rw [decide_eq_false h]; rfl)]; exact h1 h
theorem r_iteT {p : Prop} [Decidable p] {A B : Prop} (h : p) (k : A) : if decide p = true then A else B := by
  rw [if_pos (decide_eq_true h)]; exact k
theorem r_iteF {p : Prop} [Decidable p] {A B : Prop} (h : ¬ p) (k : B) : if decide p = true then A else B := by
  rw [if_neg (by rw [decide_eq_false h]; decide)]; exact k
theorem r_iteNT {p : Prop} [Decidable p] {A B : Prop} (h : ¬ p) (k : A) : if (!decide p) = true then A else B := by
  rw [if_pos (by rw [decide_eq_false h]; rfl)]; exact k
theorem r_iteNF {p : Prop} [Decidable p] {A B : Prop} (h : p) (k : B) : if (!decide p) = true then A else B := by
  rw [if_neg (by rw [decide_eq_true h]; decide)]; exact k
theorem r_iteb {b : Bool} {A B : Prop} (h1 : b = true → A) (h2 : b = false → B) : if b = true then A else B := by
  cases b with
  | true => rw [if_pos rfl]; exact h1 rfl
  | false => rw [if_neg (by decide)]; exact h2 rfl
theorem r_itebN {b : Bool} {A B : Prop} (h1 : b = false → A) (h2 : b = true → B) : if (!b) = true then A else B := by
  cases b with
  | true => exact (if_neg (by decide : ¬ (!true) = true)).mpr (h2 rfl)
  | false => exact (if_pos (by decide : (!false) = true)).mpr (h1 rfl)
theorem r_int1 {i : Int} {F : Int → Prop} {G : Bool → Prop} (k : F i) : (∃ j, [V.int i] = [.int j] ∧ F j) ∨ ∃ b, [V.int i] = [.bl b] ∧ G b := .inl ⟨i, rfl, k⟩
theorem r_intB {b : Bool} {F : Int → Prop} {G : Bool → Prop} (k : G b) : (∃ j, [V.bl b] = [.int j] ∧ F j) ∨ ∃ c, [V.bl b] = [.bl c] ∧ G c := .inr ⟨b, rfl, k⟩
theorem r_lenL {p : Addr} {xs : List V} {F : List V → Prop} (h : SqL K H p xs) (k : F xs) : ∃ q ys, [V.ref p] = [.ref q] ∧ (SqL K H q ys ∨ SqT K H q ys) ∧ F ys := ⟨p, xs, rfl, .inl h, k⟩
theorem r_lenT {p : Addr} {xs : List V} {F : List V → Prop} (h : SqT K H p xs) (k : F xs) : ∃ q ys, [V.ref p] = [.ref q] ∧ (SqL K H q ys ∨ SqT K H q ys) ∧ F ys := ⟨p, xs, rfl, .inr h, k⟩
theorem abs_if {i : Int} : (if i < 0 then -i else i) = (i.natAbs : Int) := by split <;> omega
theorem max_if {i j : Int} : (if j > i then j else i) = max i j := by split <;> omega
theorem r_in1 {i : Int} {F : Int → Prop} (k : F i) : ∃ j, [V.int i] = [.int j] ∧ F j := ⟨i, rfl, k⟩
theorem r_in2 {i j : Int} {F : Int → Int → Prop} (k : F i j) : ∃ a b, [V.int i, V.int j] = [.int a, .int b] ∧ F a b := ⟨i, j, rfl, k⟩
theorem r_isi {x : V} {T : String} {b : Bool} {ty : String} (ty1 : TyX K H x (.type ty)) (h : kitB ty T = some b) (k : Q (.bl b) H) : rIsi K [x, .ty T] H Q :=
  ⟨x, .ty T, .type ty, .type T, b, rfl, .ty T, ty1, kit_ty h, k⟩
end
/-! ### loops -/
def ForR1 (G : TG) (ts : TS) (D : Ends) (σ : L2.St) (vs : List V) (H : Hp) : Prop := ∃ j : Int, vs = [.int j] ∧ -(2 ^ 62) ≤ j ∧ j < 2 ^ 62 ∧ ∃ W : Nat → Nat → L2.St → Hp → Prop, (∃ m, W 0 m σ H) ∧ ∀ i m σ H, W i m σ H →
  ((Itr 0 j.toNat).stop i H ∧ D.nx σ H) ∨ ((Itr 0 j.toNat).go i H ∧ ∃ N : L2.St → Hp → Prop, (∀ σ' H', N σ' H' → ∃ m', m' < m ∧ W (i + 1) m' σ' H') ∧ ∀ x H', (Itr 0 j.toNat).yld i H x H' → G x σ H' fun σ2 H2 => ts { D with nx := N, ct := N, bk := D.nx } σ2 H2)
def ForR2 (G : TG) (ts : TS) (D : Ends) (σ : L2.St) (vs : List V) (H : Hp) : Prop := ∃ i j : Int, vs = [.int i, .int j] ∧ (-(2 ^ 62) ≤ i ∧ i < 2 ^ 62 ∧ -(2 ^ 62) ≤ j ∧ j < 2 ^ 62) ∧ ∃ W : Nat → Nat → L2.St → Hp → Prop, (∃ m, W 0 m σ H) ∧ ∀ k m σ H, W k m σ H →
  ((Itr i (j - i).toNat).stop k H ∧ D.nx σ H) ∨ ((Itr i (j - i).toNat).go k H ∧ ∃ N : L2.St → Hp → Prop, (∀ σ' H', N σ' H' → ∃ m', m' < m ∧ W (k + 1) m' σ' H') ∧ ∀ x H', (Itr i (j - i).toNat).yld k H x H' → G x σ H' fun σ2 H2 => ts { D with nx := N, ct := N, bk := D.nx } σ2 H2)
def ForL (K : PySem.W.Frag) (G : TG) (ts : TS) (D : Ends) (σ : L2.St) (v : V) (H : Hp) : Prop := ∃ a, v = .ref a ∧ (∃ xs, SqL K H a xs) ∧ ∃ W : Nat → Nat → L2.St → Hp → Prop, (∃ m, W 0 m σ H) ∧ ∀ i m σ H, W i m σ H →
  ((Itl K a).stop i H ∧ D.nx σ H) ∨ ((Itl K a).go i H ∧ ∃ N : L2.St → Hp → Prop, (∀ σ' H', N σ' H' → ∃ m', m' < m ∧ W (i + 1) m' σ' H') ∧ ∀ x H', (Itl K a).yld i H x H' → G x σ H' fun σ2 H2 => ts { D with nx := N, ct := N, bk := D.nx } σ2 H2)
def ForT (K : PySem.W.Frag) (G : TG) (ts : TS) (D : Ends) (σ : L2.St) (v : V) (H : Hp) : Prop := ∃ a, v = .ref a ∧ (∃ xs, SqT K H a xs) ∧ ∃ W : Nat → Nat → L2.St → Hp → Prop, (∃ m, W 0 m σ H) ∧ ∀ i m σ H, W i m σ H →
  ((Itt K a).stop i H ∧ D.nx σ H) ∨ ((Itt K a).go i H ∧ ∃ N : L2.St → Hp → Prop, (∀ σ' H', N σ' H' → ∃ m', m' < m ∧ W (i + 1) m' σ' H') ∧ ∀ x H', (Itt K a).yld i H x H' → G x σ H' fun σ2 H2 => ts { D with nx := N, ct := N, bk := D.nx } σ2 H2)
section
variable {K : PySem.W.Frag} {σ : L2.St} {H : Hp} {Q : VK} {D : Ends} {te tl : TE} {tt c : TT} {ts : TS} {G : TG} {tas : TA} {v : V} {vs : List Nat}
theorem r_forR1 (k : tas σ H fun vs H1 => ForR1 G ts D σ vs H1) : tFor (iRng1 tas) G ts D σ H := k
theorem r_forR2 (k : tas σ H fun vs H1 => ForR2 G ts D σ vs H1) : tFor (iRng2 tas) G ts D σ H := k
theorem r_forL (k : tl σ H fun x H1 => ForL K G ts D σ x H1) : tFor (iList K tl) G ts D σ H := k
theorem r_forT (k : tl σ H fun x H1 => ForT K G ts D σ x H1) : tFor (iTup K tl) G ts D σ H := k
theorem forR1_go {j : Int} (Pv : Nat → L2.St → Hp → Prop) (hb : -(2 ^ 62) ≤ j ∧ j < 2 ^ 62) (h0 : Pv 0 σ H)
    (hs : ∀ (i : Nat) σ' H', (i : Int) < j → Pv i σ' H' → G (.int i) σ' H' fun σ2 H2 => ts { D with nx := Pv (i + 1), ct := Pv (i + 1), bk := D.nx } σ2 H2) (hd : ∀ σ' H', Pv j.toNat σ' H' → D.nx σ' H') : ForR1 G ts D σ [.int j] H :=
  ⟨j, rfl, hb.1, hb.2, for_range (lo := 0) Pv h0 (fun i σ' H' hi p => by rw [Int.zero_add]; exact hs i σ' H' (by omega) p) hd⟩
theorem forR2_go {i j : Int} (Pv : Nat → L2.St → Hp → Prop) (hb : -(2 ^ 62) ≤ i ∧ i < 2 ^ 62 ∧ -(2 ^ 62) ≤ j ∧ j < 2 ^ 62) (h0 : Pv 0 σ H)
    (hs : ∀ (k : Nat) σ' H', i + (k : Int) < j → Pv k σ' H' → G (.int (i + k)) σ' H' fun σ2 H2 => ts { D with nx := Pv (k + 1), ct := Pv (k + 1), bk := D.nx } σ2 H2) (hd : ∀ σ' H', Pv (j - i).toNat σ' H' → D.nx σ' H') : ForR2 G ts D σ [.int i, .int j] H :=
  ⟨i, j, rfl, hb, for_range (lo := i) Pv h0 (fun k σ' H' hi p => hs k σ' H' (by omega) p) hd⟩
theorem forL_go {a : Addr} {xs : List V} (Pv : Nat → L2.St → Hp → Prop) (hx : SqL K H a xs) (h0 : Pv 0 σ H) (hl : ∀ i σ' H', i ≤ xs.length → Pv i σ' H' → SqL K H' a xs)
    (hs : ∀ i x σ' H', xs[i]? = some x → Pv i σ' H' → G x σ' H' fun σ2 H2 => ts { D with nx := Pv (i + 1), ct := Pv (i + 1), bk := D.nx } σ2 H2) (hd : ∀ σ' H', Pv xs.length σ' H' → D.nx σ' H') : ForL K G ts D σ (.ref a) H :=
  ⟨a, rfl, ⟨xs, hx⟩, for_list Pv h0 hl hs hd⟩
theorem forT_go {a : Addr} {xs : List V} (Pv : Nat → L2.St → Hp → Prop) (hx : SqT K H a xs) (h0 : Pv 0 σ H) (hl : ∀ i σ' H', i ≤ xs.length → Pv i σ' H' → SqT K H' a xs)
    (hs : ∀ i x σ' H', xs[i]? = some x → Pv i σ' H' → G x σ' H' fun σ2 H2 => ts { D with nx := Pv (i + 1), ct := Pv (i + 1), bk := D.nx } σ2 H2) (hd : ∀ σ' H', Pv xs.length σ' H' → D.nx σ' H') : ForT K G ts D σ (.ref a) H :=
  ⟨a, rfl, ⟨xs, hx⟩, for_tup Pv h0 hl hs hd⟩
theorem r_while (W : Nat → L2.St → Hp → Prop) {m0 : Nat} (h0 : W m0 σ H)
    (hs : ∀ m σ' H', W m σ' H' → c σ' H' fun b H1 => if b = true then ∃ N : L2.St → Hp → Prop, (∀ σ2 H2, N σ2 H2 → ∃ m', m' < m ∧ W m' σ2 H2) ∧ ts { D with nx := N, ct := N, bk := D.nx } σ' H1 else D.nx σ' H1) : tWhile c ts D σ H := ⟨W, ⟨m0, h0⟩, hs⟩
theorem r_turn {B : L2.St → Hp → Prop} {R : VK} {Bk : L2.St → Hp → Prop} (k : ts { nx := B, rt := R, bk := Bk, ct := B } σ H) :
    ∃ N : L2.St → Hp → Prop, (∀ σ2 H2, N σ2 H2 → B σ2 H2) ∧ ts { nx := N, rt := R, bk := Bk, ct := N } σ H := ⟨_, fun _ _ h => h, k⟩
end
/-! ### comprehensions -/
section
variable {K : PySem.W.Frag} {σ : L2.St} {H : Hp} {Q : VK} {te tl : TE} {tt : TT} {G : TG} {tas : TA} {v : V} {vs : List Nat} {QB : Bool → Hp → Prop}
def CompW (J : It) (G : TG) (tt : TT) (te : TE) (vs : List Nat) (σ : L2.St) (Q : VK) (H1 : Hp) : Prop := ∀ D, H1 D = none → ∃ W : Nat → Nat → Hp → Prop, (∃ m, W 0 m (upd H1 D (.lst []))) ∧ ∀ i m H, W i m H → (J.stop i H ∧ Q (.ref D) H) ∨ (J.go i H ∧ ∃ Nx : Hp → Prop, (∀ H', Nx H' → ∃ m', m' < m ∧ W (i + 1) m' H') ∧
  ∀ x H', J.yld i H x H' → G x (wipe σ vs) H' fun σ2 H2 => wipe σ2 vs = wipe σ vs ∧ tt σ2 H2 fun b H3 => if b = true then te σ2 H3 fun y H4 => ∃ acc, H4 D = some (.lst acc) ∧ acc.length < sizeLine ∧ Nx (upd H4 D (.lst (acc ++ [y]))) else Nx H3)
def CompR1 (G : TG) (tt : TT) (te : TE) (vs : List Nat) (σ : L2.St) (Q : VK) (us : List V) (H1 : Hp) : Prop := ∃ j : Int, us = [.int j] ∧ -(2 ^ 62) ≤ j ∧ j < 2 ^ 62 ∧ CompW (Itr 0 j.toNat) G tt te vs σ Q H1
def CompL (K : PySem.W.Frag) (G : TG) (tt : TT) (te : TE) (vs : List Nat) (σ : L2.St) (Q : VK) (x : V) (H1 : Hp) : Prop := ∃ a, x = .ref a ∧ (∃ xs, SqL K H1 a xs) ∧ CompW (Itl K a) G tt te vs σ Q H1
def CompT (K : PySem.W.Frag) (G : TG) (tt : TT) (te : TE) (vs : List Nat) (σ : L2.St) (Q : VK) (x : V) (H1 : Hp) : Prop := ∃ a, x = .ref a ∧ (∃ xs, SqT K H1 a xs) ∧ CompW (Itt K a) G tt te vs σ Q H1
theorem r_lcR1 (k : tas σ H fun us H1 => CompR1 G tt te vs σ Q us H1) : tLc (iRng1 tas) G tt te vs σ H Q := k
theorem r_lcL (k : tl σ H fun x H1 => CompL K G tt te vs σ Q x H1) : tLc (iList K tl) G tt te vs σ H Q := k
theorem r_lcT (k : tl σ H fun x H1 => CompT K G tt te vs σ Q x H1) : tLc (iTup K tl) G tt te vs σ H Q := k
theorem r_wipe {σ2 : L2.St} {R : Prop} (h : wipe σ2 vs = wipe σ vs) (k : R) : wipe σ2 vs = wipe σ vs ∧ R := ⟨h, k⟩
theorem r_gNameW {i : Nat} {σ' : L2.St} {Q : L2.St → Hp → Prop} (h : wipe σ vs = σ') (k : gName i v σ' H Q) : gName i v (wipe σ vs) H Q := by rw [h]; exact k
theorem r_yes (k : QB true H) : tYes σ H QB := k
/-- the reading of one item, told with the list so far: P of the turn's number, the items made, the heap -/
def CompTurn (G : TG) (tt : TT) (te : TE) (vs : List Nat) (σ : L2.St) (D : Addr) (Nx : List V → Hp → Prop) (acc : List V) (x : V) (H : Hp) : Prop :=
  G x (wipe σ vs) H fun σ2 H2 => wipe σ2 vs = wipe σ vs ∧ tt σ2 H2 fun b H3 => if b = true then te σ2 H3 fun y H4 => H4 D = some (.lst acc) ∧ acc.length < sizeLine ∧ Nx (acc ++ [y]) (upd H4 D (.lst (acc ++ [y]))) else Nx acc H3
theorem lcR1_go {j : Int} (Pv : Addr → Nat → List V → Hp → Prop) (hb : -(2 ^ 62) ≤ j ∧ j < 2 ^ 62) (h0 : ∀ D, H D = none → Pv D 0 [] (upd H D (.lst [])))
    (hs : ∀ D (i : Nat) acc H', (i : Int) < j → H' D = some (.lst acc) → Pv D i acc H' → G (.int i) (wipe σ vs) H' fun σ2 H2 => wipe σ2 vs = wipe σ vs ∧ tt σ2 H2 fun b H3 =>
      if b = true then te σ2 H3 fun y H4 => ∃ acc, H4 D = some (.lst acc) ∧ acc.length < sizeLine ∧ (∃ ac, (upd H4 D (.lst (acc ++ [y]))) D = some (.lst ac) ∧ Pv D (i + 1) ac (upd H4 D (.lst (acc ++ [y])))) else ∃ ac, H3 D = some (.lst ac) ∧ Pv D (i + 1) ac H3)
    (hd : ∀ D acc H', H D = none → H' D = some (.lst acc) → Pv D j.toNat acc H' → Q (.ref D) H') : CompR1 G tt te vs σ Q [.int j] H :=
  ⟨j, rfl, hb.1, hb.2, fun D hD => lc_range (lo := 0) (fun i H' => ∃ acc, H' D = some (.lst acc) ∧ Pv D i acc H') ⟨[], upd_same, h0 D hD⟩ (fun i H' hi ⟨acc, ha, p⟩ => by rw [Int.zero_add]; exact hs D i acc H' (by omega) ha p) fun H' ⟨acc, ha, p⟩ => hd D acc H' hD ha p⟩
theorem lcL_go {a : Addr} {xs : List V} (Pv : Addr → Nat → List V → Hp → Prop) (hx : SqL K H a xs) (h0 : ∀ D, H D = none → Pv D 0 [] (upd H D (.lst []))) (hl : ∀ D i acc H', i ≤ xs.length → Pv D i acc H' → SqL K H' a xs)
    (hs : ∀ D (i : Nat) x acc H', xs[i]? = some x → H' D = some (.lst acc) → Pv D i acc H' → G x (wipe σ vs) H' fun σ2 H2 => wipe σ2 vs = wipe σ vs ∧ tt σ2 H2 fun b H3 =>
      if b = true then te σ2 H3 fun y H4 => ∃ acc, H4 D = some (.lst acc) ∧ acc.length < sizeLine ∧ (∃ ac, (upd H4 D (.lst (acc ++ [y]))) D = some (.lst ac) ∧ Pv D (i + 1) ac (upd H4 D (.lst (acc ++ [y])))) else ∃ ac, H3 D = some (.lst ac) ∧ Pv D (i + 1) ac H3)
    (hd : ∀ D acc H', H D = none → H' D = some (.lst acc) → Pv D xs.length acc H' → Q (.ref D) H') : CompL K G tt te vs σ Q (.ref a) H :=
  ⟨a, rfl, ⟨xs, hx⟩, fun D hD => lc_list (xs := xs) (fun i H' => ∃ acc, H' D = some (.lst acc) ∧ Pv D i acc H') ⟨[], upd_same, h0 D hD⟩ (fun i H' hi ⟨acc, ha, p⟩ => hl D i acc H' hi p) (fun i x H' hi ⟨acc, ha, p⟩ => hs D i x acc H' hi ha p) fun H' ⟨acc, ha, p⟩ => hd D acc H' hD ha p⟩
theorem lcT_go {a : Addr} {xs : List V} (Pv : Addr → Nat → List V → Hp → Prop) (hx : SqT K H a xs) (h0 : ∀ D, H D = none → Pv D 0 [] (upd H D (.lst []))) (hl : ∀ D i acc H', i ≤ xs.length → Pv D i acc H' → SqT K H' a xs)
    (hs : ∀ D (i : Nat) x acc H', xs[i]? = some x → H' D = some (.lst acc) → Pv D i acc H' → G x (wipe σ vs) H' fun σ2 H2 => wipe σ2 vs = wipe σ vs ∧ tt σ2 H2 fun b H3 =>
      if b = true then te σ2 H3 fun y H4 => ∃ acc, H4 D = some (.lst acc) ∧ acc.length < sizeLine ∧ (∃ ac, (upd H4 D (.lst (acc ++ [y]))) D = some (.lst ac) ∧ Pv D (i + 1) ac (upd H4 D (.lst (acc ++ [y])))) else ∃ ac, H3 D = some (.lst ac) ∧ Pv D (i + 1) ac H3)
    (hd : ∀ D acc H', H D = none → H' D = some (.lst acc) → Pv D xs.length acc H' → Q (.ref D) H') : CompT K G tt te vs σ Q (.ref a) H :=
  ⟨a, rfl, ⟨xs, hx⟩, fun D hD => lc_tup (xs := xs) (fun i H' => ∃ acc, H' D = some (.lst acc) ∧ Pv D i acc H') ⟨[], upd_same, h0 D hD⟩ (fun i H' hi ⟨acc, ha, p⟩ => hl D i acc H' hi p) (fun i x H' hi ⟨acc, ha, p⟩ => hs D i x acc H' hi ha p) fun H' ⟨acc, ha, p⟩ => hd D acc H' hD ha p⟩
/-- an item is kept: behind te, the list is known -/
theorem lc_put {D : Addr} {acc : List V} {y : V} {P : List V → List V → Prop} {H4 : Hp} (h : H4 D = some (.lst acc)) (hz : acc.length < sizeLine) (k : P acc (acc ++ [y])) :
    ∃ acc, H4 D = some (.lst acc) ∧ acc.length < sizeLine ∧ (∃ ac, (upd H4 D (.lst (acc ++ [y]))) D = some (.lst ac) ∧ P acc ac) := ⟨acc, h, hz, _, upd_same, k⟩
end
/-! ### lists, displays -/
section
variable {K : PySem.W.Frag} {H : Hp} {Q : VK}
theorem Keep.out {M : List Addr} {H H' : Hp} {a : Addr} {o : HO} (h : Keep M H H') (n : a ∉ M) (e : H a = some o) : H' a = some o := h a o n e
theorem getD_all {p : Int → Prop} {P : List Int} {i : Nat} (h : ∀ x ∈ P, p x) (hi : i < P.length) : p (P.getD i 0) := by
  rw [List.getD_eq_getElem?_getD, List.getElem?_eq_getElem hi]; exact h _ (List.getElem_mem hi)
theorem r_slL {a : Addr} {xs : List V} {lo hi : Option Int} (h : SqL K H a xs) (k : ∀ p, H p = none → Q (.ref p) (upd H p (.lst (cutV xs lo hi)))) : rSlL K (.ref a) lo hi H Q := ⟨a, xs, rfl, h, k⟩
theorem r_cat {l b : Addr} {xs zs : List V} (h : H l = some (.lst xs)) (h2 : H b = some (.lst zs)) (hz : xs.length + zs.length ≤ sizeLine) (k : ∀ p, H p = none → Q (.ref p) (upd H p (.lst (xs ++ zs)))) : rCat (.ref l) (.ref b) H Q :=
  ⟨l, b, xs, zs, rfl, rfl, h, h2, hz, k⟩
theorem r_listL {p : Addr} {xs : List V} {F : List V → Prop} (h : SqL K H p xs) (k : F xs) : ∃ q ys, [V.ref p] = [.ref q] ∧ (SqL K H q ys ∨ SqT K H q ys) ∧ F ys := ⟨p, xs, rfl, .inl h, k⟩
theorem r_tPart {te : TE} {σ : L2.St} {QO : Option Int → Hp → Prop} (k : te σ H fun v H1 => ∃ i, v = .int i ∧ QO (some i) H1) : tPart te σ H QO := k
theorem r_noPart {σ : L2.St} {QO : Option Int → Hp → Prop} (k : QO none H) : tNoPart σ H QO := k
theorem r_gcd {a b : Int} (k : Q (.int ((Nat.gcd a.natAbs b.natAbs : Nat) : Int)) H) : rGcd [.int a, .int b] H Q := ⟨a, b, rfl, k⟩
theorem r_iteNT1 {A B : Prop} (k : B) : if (!true) = true then A else B := by rw [if_neg (by decide)]; exact k
theorem r_iteNF1 {A B : Prop} (k : A) : if (!false) = true then A else B := by rw [if_pos (by decide)]; exact k
theorem kit_ii : kitB "int" "int" = some true := by decide +kernel
theorem kit_ib : kitB "int" "bool" = some false := by decide +kernel
theorem kit_bi : kitB "bool" "int" = some true := by decide +kernel
theorem kit_bb : kitB "bool" "bool" = some true := by decide +kernel
theorem kit_tt : kitB "tuple" "tuple" = some true := by decide +kernel
theorem kit_ss : kitB "str" "str" = some true := by decide +kernel
theorem kit_ll : kitB "list" "list" = some true := by decide +kernel
theorem kit_dd : kitB "dict" "dict" = some true := by decide +kernel
theorem kit_nt : kitB "NoneType" "tuple" = some false := by decide +kernel
theorem kit_ni : kitB "NoneType" "int" = some false := by decide +kernel
theorem kit_is : kitB "int" "str" = some false := by decide +kernel
theorem kit_si : kitB "str" "int" = some false := by decide +kernel
theorem kit_it : kitB "int" "tuple" = some false := by decide +kernel
theorem mulw {i j : Int} (a b : Nat) (ha : i.natAbs < 2 ^ a) (hb : j.natAbs < 2 ^ b) (h0 : 0 < a := by decide) (h1 : 0 < b := by decide) (h : a + b ≤ 1000000 := by decide) : CMul i j ∨ CMulW i j := .inr (wide_mul ha hb h0 h1 h)
theorem r_callSD {sp : Sp} {dvs : List V} {E : L2.St → XK} {tas : TA} {σ : L2.St} (k : tas σ H fun vs H1 => sp (vs ++ dvs) H1 Q (E σ)) : tCallSD sp dvs E tas σ H Q := k
theorem exm_ZD {K : PySem.W.Frag} : PySem.W.exmOne K (.type "ZeroDivisionError") (.type "ZeroDivisionError") = some true := by kernel_rfl
theorem r_par {i j : Nat} {ta : TA} {D : Ends} {σ : L2.St} (k : ta σ H fun vs H1 => ∃ v w, vs = [v, w] ∧ gName i v σ H1 fun σ1 H2 => gName j w σ1 H2 D.nx) : tPar i j ta D σ H := k
theorem r_exP {x y : V} {F : V → V → Prop} (k : F x y) : ∃ v w, [x, y] = [v, w] ∧ F v w := ⟨x, y, rfl, k⟩
theorem r_bm {T : String} {r : V → List V → Hp → VK → Prop} {to : TE} {ta : TA} {σ : L2.St} (k : to σ H fun x H1 => tyV K T x H1 ∧ ta σ H1 fun xs H2 => r x xs H2 Q) : tBM K T r to ta σ H Q := k
theorem r_tyL {p : Addr} {xs : List V} {R : Prop} (h : SqL K H p xs) (k : R) : tyV K "list" (.ref p) H ∧ R := ⟨.inl ⟨rfl, xs, h⟩, k⟩
theorem r_app {l : Addr} {xs : List V} {y : V} (h : H l = some (.lst xs)) (hz : xs.length < sizeLine) (k : Q .non (upd H l (.lst (xs ++ [y])))) : rAppend (.ref l) [y] H Q := ⟨l, xs, y, rfl, rfl, h, hz, k⟩
theorem r_exI {i : Int} {F : Int → Prop} (k : F i) : ∃ j, V.int i = .int j ∧ F j := ⟨i, rfl, k⟩
end
theorem start_cc {n : Str} {N : List Str} {v : V} {vs : List V} : L2.start (n :: N) (v :: vs) = some v :: L2.start N vs := by
  unfold L2.start
  rw [List.map_cons, List.length_cons, List.length_cons, Nat.add_sub_add_right, List.cons_append]
theorem start_cn {n : Str} {N : List Str} : L2.start (n :: N) [] = none :: L2.start N [] := rfl
theorem start_nn : L2.start [] [] = [] := rfl
theorem atI_map {P : List Int} {i : Int} (h0 : 0 ≤ i) (h1 : i < P.length) : atI (P.map V.int) i = some (.int (P.getD i.toNat 0)) := by
  obtain ⟨n, rfl⟩ : ∃ n : Nat, i = n := ⟨i.toNat, by omega⟩
  refine atI_nat ?_
  have h2 : n < P.length := by omega
  rw [List.getElem?_map, List.getElem?_eq_getElem h2, Int.toNat_natCast, List.getD_eq_getElem?_getD, List.getElem?_eq_getElem h2]; rfl
theorem ixN_of {n : Nat} {i : Int} (h0 : 0 ≤ i) (h1 : i < n) : ixN n i = some i.toNat := by
  unfold ixN; rw [if_pos h0, if_pos h1]
/-- sizes of ints -/
theorem log2_of {i : Int} {n : Nat} (h : i.natAbs < 2 ^ n) (h0 : 0 < n) : i.natAbs.log2 < n := PySem.Flt.log2_lt_of h0 h
theorem log_ok {j : Int} (n : Nat) (h : j.natAbs < 2 ^ n) (h0 : 0 < n := by decide) (h9 : n ≤ 9000 := by decide) : j.natAbs.log2 < 9000 := Nat.lt_of_lt_of_le (log2_of h h0) h9
theorem cmulw {i j : Int} (a b : Nat) (ha : i.natAbs < 2 ^ a) (hb : j.natAbs < 2 ^ b) (h0 : 0 < a := by decide) (h1 : 0 < b := by decide) (h : a + b ≤ 1000000 := by decide) : CMulW i j := wide_mul ha hb h0 h1 h
/-! ### == of flat rows -/
def fdV : V → PyData
  | .bl b => .bool b
  | .int i => .int i
  | .str x => .str x
  | _ => .none
def flatV : V → Bool
  | .non => true
  | .bl _ => true
  | .int _ => true
  | .str x => PyData.canLay0 (.str x)
  | _ => false
theorem dp_flat {K : PySem.W.Frag} {H : Hp} : ∀ {v : V}, flatV v = true → Dp K H v (fdV v)
  | .non, _ => .non
  | .bl b, _ => .bl b
  | .int i, _ => .int i
  | .str x, _ => .str x
theorem dp_flats {K : PySem.W.Frag} {H : Hp} : ∀ {xs : List V}, xs.all flatV = true → DpAll K H xs (xs.map fdV)
  | [], _ => .nil
  | v :: xs, h => by
    rw [List.all_cons, Bool.and_eq_true] at h
    exact .cons (dp_flat h.1) (dp_flats h.2)
theorem flat_lay : ∀ {v : V}, flatV v = true → (fdV v).canLay0 = true ∧ (fdV v).depth = 0
  | .non, _ => by simp [fdV, PyData.canLay0, PyData.depth]
  | .bl b, _ => by simp [fdV, PyData.canLay0, PyData.depth]
  | .int i, _ => by simp [fdV, PyData.canLay0, PyData.depth]
  | .str x, h => ⟨h, by simp [fdV, PyData.depth]⟩
theorem flats_lay : ∀ {xs : List V}, xs.all flatV = true → PyData.canLayAll0 (xs.map fdV) = true ∧ PyData.depthAll (xs.map fdV) = 0
  | [], _ => by simp [PyData.canLayAll0, PyData.depthAll]
  | v :: xs, h => by
    rw [List.all_cons, Bool.and_eq_true] at h
    have a := flat_lay h.1
    have b := flats_lay h.2
    simp [PyData.canLayAll0, PyData.depthAll, a.1, a.2, b.1, b.2]
theorem shaped_flat {xs : List V} (h : xs.all flatV = true) : SeqAt.shaped (.list (xs.map fdV)) = true ∧ SeqAt.shaped (.tuple (xs.map fdV)) = true := by
  have b := flats_lay h
  constructor <;> simp [SeqAt.shaped, PyData.canLay0, PyData.depth, b.1, b.2]
theorem eqv_flat : ∀ {v : V}, flatV v = true → PyData.eqv (fdV v) (fdV v) = true
  | .non, _ => by simp [fdV, PyData.eqv]
  | .bl b, _ => by simp [fdV, PyData.eqv]
  | .int i, _ => by simp [fdV, PyData.eqv]
  | .str x, _ => by simp [fdV, PyData.eqv]
theorem eqv_flats : ∀ {xs : List V}, xs.all flatV = true → PyData.eqvAll (xs.map fdV) (xs.map fdV) = true
  | [], _ => by simp [PyData.eqvAll]
  | v :: xs, h => by
    rw [List.all_cons, Bool.and_eq_true] at h
    simp [PyData.eqvAll, eqv_flat h.1, eqv_flats h.2]
section
variable {K : PySem.W.Frag} {H : Hp} {Q : VK} {p q : Addr} {xs ys : List V} {b : Bool}
theorem eqvL {xs ys : List PyData} : PyData.eqv (.list xs) (.list ys) = PyData.eqvAll xs ys := by simp [PyData.eqv]
theorem eqvT {xs ys : List PyData} : PyData.eqv (.tuple xs) (.tuple ys) = PyData.eqvAll xs ys := by simp [PyData.eqv]
theorem r_eqL (hp : SqL K H p xs) (hq : SqL K H q ys) (fx : xs.all flatV = true) (fy : ys.all flatV = true) (hb : PyData.eqvAll (xs.map fdV) (ys.map fdV) = b) (k : Q (.bl b) H) : rEqD K (.ref p) (.ref q) H Q :=
  ⟨_, _, .lst hp (dp_flats fx), .lst hq (dp_flats fy), (shaped_flat fx).1, (shaped_flat fy).1, by rw [eqvL, hb]; exact k⟩
theorem r_eqT (hp : SqT K H p xs) (hq : SqT K H q ys) (fx : xs.all flatV = true) (fy : ys.all flatV = true) (hb : PyData.eqvAll (xs.map fdV) (ys.map fdV) = b) (k : Q (.bl b) H) : rEqD K (.ref p) (.ref q) H Q :=
  ⟨_, _, .tup hp (dp_flats fx), .tup hq (dp_flats fy), (shaped_flat fx).2, (shaped_flat fy).2, by rw [eqvT, hb]; exact k⟩
theorem r_neL (hp : SqL K H p xs) (hq : SqL K H q ys) (fx : xs.all flatV = true) (fy : ys.all flatV = true) (hb : PyData.eqvAll (xs.map fdV) (ys.map fdV) = b) (k : Q (.bl (!b)) H) : rNeD K (.ref p) (.ref q) H Q :=
  ⟨_, _, .lst hp (dp_flats fx), .lst hq (dp_flats fy), (shaped_flat fx).1, (shaped_flat fy).1, by rw [eqvL, hb]; exact k⟩
theorem r_neT (hp : SqT K H p xs) (hq : SqT K H q ys) (fx : xs.all flatV = true) (fy : ys.all flatV = true) (hb : PyData.eqvAll (xs.map fdV) (ys.map fdV) = b) (k : Q (.bl (!b)) H) : rNeD K (.ref p) (.ref q) H Q :=
  ⟨_, _, .tup hp (dp_flats fx), .tup hq (dp_flats fy), (shaped_flat fx).2, (shaped_flat fy).2, by rw [eqvT, hb]; exact k⟩
end
/-! ### rules whose reading names K, told for a context that hides it (a comprehension, an except suite) -/
section
variable {X : Cx} {K : PySem.W.Frag}
theorem ix_listK (hK : X.K = K) : IxR X (rIxL K) := by subst hK; exact ix_list
theorem ix_tupK (hK : X.K = K) : IxR X (rIxT K) := by subst hK; exact ix_tup
theorem op_in_seqK (hK : X.K = K) : OpR X (compareOp .In) (rIn K false) := by subst hK; exact op_in_seq
theorem op_notIn_seqK (hK : X.K = K) : OpR X (compareOp .NotIn) (rIn K true) := by subst hK; exact op_notIn_seq
theorem call_len_seqK (hK : X.K = K) : CallR X (.builtin "len") (fun xs H Q => ∃ p ys, xs = [.ref p] ∧ (SqL K H p ys ∨ SqT K H p ys) ∧ Q (.int ys.length) H) := by subst hK; exact call_len_seq
theorem call_isiK (hK : X.K = K) : CallR X (.builtin "isinstance") (rIsi K) := by subst hK; exact call_isi
end
section
variable {H : Hp}
def rIsN : R2 := fun x y H Q => y = .non ∧ Q (.bl (decide (x = .non))) H
def rNoN : R2 := fun x y H Q => y = .non ∧ Q (.bl (!decide (x = .non))) H
theorem op_isNc {X : Cx} : OpR X (compareOp .Is) rIsN := op_isN
theorem op_notNc {X : Cx} : OpR X (compareOp .IsNot) rNoN := op_notN
theorem r_isN {Q : VK} (k : Q (.bl true) H) : rIsN (V.non) .non H Q := ⟨rfl, by rw [decide_eq_true rfl]; exact k⟩
theorem r_noN {Q : VK} (k : Q (.bl false) H) : rNoN (V.non) .non H Q := ⟨rfl, by rw [decide_eq_true rfl]; exact k⟩
theorem r_isI {i : Int} {Q : VK} (k : Q (.bl false) H) : rIsN (.int i) .non H Q := ⟨rfl, by rw [decide_eq_false (fun e => by cases e)]; exact k⟩
theorem r_noI {i : Int} {Q : VK} (k : Q (.bl true) H) : rNoN (.int i) .non H Q := ⟨rfl, by rw [decide_eq_false (fun e => by cases e)]; exact k⟩
theorem r_isR {p : Addr} {Q : VK} (k : Q (.bl false) H) : rIsN (.ref p) .non H Q := ⟨rfl, by rw [decide_eq_false (fun e => by cases e)]; exact k⟩
theorem r_noR {p : Addr} {Q : VK} (k : Q (.bl true) H) : rNoN (.ref p) .non H Q := ⟨rfl, by rw [decide_eq_false (fun e => by cases e)]; exact k⟩
theorem r_isS {x : Str} {Q : VK} (k : Q (.bl false) H) : rIsN (.str x) .non H Q := ⟨rfl, by rw [decide_eq_false (fun e => by cases e)]; exact k⟩
theorem r_noS {x : Str} {Q : VK} (k : Q (.bl true) H) : rNoN (.str x) .non H Q := ⟨rfl, by rw [decide_eq_false (fun e => by cases e)]; exact k⟩
theorem r_isB {b : Bool} {Q : VK} (k : Q (.bl false) H) : rIsN (.bl b) .non H Q := ⟨rfl, by rw [decide_eq_false (fun e => by cases e)]; exact k⟩
theorem r_noB {b : Bool} {Q : VK} (k : Q (.bl true) H) : rNoN (.bl b) .non H Q := ⟨rfl, by rw [decide_eq_false (fun e => by cases e)]; exact k⟩
theorem r_inL {K : PySem.W.Frag} {x : V} {p : Addr} {xs : List V} {Q : VK} (h : SqL K H p xs) (fx : L2.flatV x = true) (fs : xs.all L2.flatV = true) (k : Q (.bl (inV x xs)) H) : rIn K false x (.ref p) H Q := ⟨p, xs, rfl, .inl h, fx, fs, by simpa using k⟩
theorem r_ninL {K : PySem.W.Frag} {x : V} {p : Addr} {xs : List V} {Q : VK} (h : SqL K H p xs) (fx : L2.flatV x = true) (fs : xs.all L2.flatV = true) (k : Q (.bl (!inV x xs)) H) : rIn K true x (.ref p) H Q := ⟨p, xs, rfl, .inl h, fx, fs, by simpa using k⟩
theorem r_iteTT {A B : Prop} (k : A) : if true = true then A else B := by rw [if_pos rfl]; exact k
theorem r_iteFF {A B : Prop} (k : B) : if false = true then A else B := by rw [if_neg (by decide)]; exact k
end
/-! ### an own error over ValueError (through own classes) whose __init__ says super().__init__(a text), then stores its arguments -/
namespace Er
open PySem.W PySem.Calls PySem.HandSPX
section
variable {prog : Program} {w : World} {A : Around} {E : Value → Shared → Prop} {s : Shared} {K : Frag} {mg : Str → Option Value} {base : Heap} {m : Str → Option Value}
/-- what the written part says of the class at C: its __init__ at fI, the cell of __class__ at cc, the code at cda -/
structure Txt (P : Program) (K : Frag) (mg : Str → Option Value) (C fI cc cda : Addr) : Prop where
  cls : ∃ nm q N bs bm sn sub ab col dd k0 k1 k2 k3 k5, K.lookup C = some (excClassObj nm q C N bs bm true sn sub ab col dd k0 k1 k2 k3 k5 "ValueError.__new__") ∧ refsVE bm = true
  sa : findIn K (.ref C) "__setattr__" = some (some (.builtin "object.__setattr__"))
  iC : findIn K (.ref C) "__init__" = some (some (.ref fI))
  tI : typeIn K (.ref fI) = some (.type "function")
  cell : ∃ cl cld csl, K.lookup cc = some ⟨cl, cld, .cell (some (.ref C)), csl⟩
  code : ∃ ccl cdd vs ccs tf, K.lookup cda = some ⟨ccl, cdd, .fields vs, ccs⟩ ∧ vs[2]? = some (.str P.main.file tf)
  sup : ks_superIn K C C "__init__" = some (some (.builtin "ValueError.__init__"))
  supB : subIn K (.ref C) (.type "ValueError") = some true
  self : mroIn K C (.ref C) = some true
  opq : nsIn K cStatics "thirdparty.any" = some none
  mS : mg "super" = none
  top : (P.main.scope.names.lookup ("super" : Str)).isSome = false
theorem clsIn_of {C N : Addr} {nm q : Str} {bs bm : List Value} {hd : Bool} {sn : List Str} {sub : List Value} {ab : Bool} {col : Option Bool} {dd : Option Addr} {k0 k1 k2 k3 k5 : Option Value} {nw : String}
    (hC : K.lookup C = some (excClassObj nm q C N bs bm hd sn sub ab col dd k0 k1 k2 k3 k5 nw)) :
    clsIn K C = some { name := nm, bases := bs, mro := .ref C :: bm, ns := N, qualname := q, hasDict := hd, slotNames := sn, subclasses := sub, abstract := ab, collection := col, hasDel := false } := by
  unfold clsIn; rw [hC] <;> rfl
theorem call_mw {u e t0 C N : Addr} {nm q : Str} {bs bm : List Value} {hdct : Bool} {sn : List Str} {sub : List Value} {ab : Bool} {col : Option Bool} {dd : Option Addr} {k0 k1 k2 k3 k5 : Option Value} {h : Heap} {g : Array GenState} {d : Drawn} {t : Nat} {os : OsState} {rest : List Value} {Q : Value → Shared → Prop}
    (hC : h.get? C = some (excClassObj nm q C N bs bm hdct sn sub ab col dd k0 k1 k2 k3 k5 "ValueError.__new__")) (he : h.get? e = some (excObj C t0 none .none)) (hu : h.get? u = some (kxs_mw "ValueError.__init__" e)) (hrest : rest.length ≤ sizeLine)
    (hq : ∀ h' t1, (∀ b o, b ≠ e → h.get? b = some o → h'.get? b = some o) → h'.get? e = some (excObj C t1 none .none) → Q .none ⟨h', g, d, t, os⟩) :
    wpAny (model prog w) A (call (.ref u) rest) Q E ⟨h, g, d, t, os⟩ := by
  refine wpAny_call (codeAny_of_tree ?_)
  show wpAny _ A.in1 (callAny (.ref u) ⟨rest, []⟩) _ _ _
  simp only [callAny]
  refine wpAny_bind (wpAny_load hu ?_)
  simp only [kxs_mw, show (Value.type "method-wrapper" == Value.type "method" || Value.type "method-wrapper" == Value.type "builtin_function_or_method" || Value.type "method-wrapper" == Value.type "method-wrapper") = true by decide, if_true]
  refine KFB.if_so (by decide) ?_
  refine wpAny_bind (check_bound_init F.excBase_ValueError.toExcCallFacts hC he rfl ?_)
  refine wpAny_bind (wpAny_pure (wpAny_pure ?_))
  refine ⟨plainId_quiet F.excBase_ValueError.init.plain _, codeAny_builtin F.excBase_ValueError.initEntry ?_⟩
  exact exc_init_tree (cls := .ref C) (t0 := t0) (dv := none) (c2 := .none) (c3 := .none) (b4 := .bool false) he hrest fun h' k e' _ => hq h' _ k e'
theorem super_stmt {pl : Sem Bool} {C fI cc cda L x t0 : Addr} {fd : FuncData} {oc : Value} {od : Option Addr} {osl : Array (Option Value)} {ar : Arg} {q : Str} {scope : Scope} {body : List Stmt} {msg : Expr} {p0 p1 p2 p3 p4 : Pos} {Q : Flow → Shared → Prop}
    (T : Txt prog K mg C fI cc cda) (Mo : Mod K mg base) (kb : ∀ b o, base.get? b = some o → s.heap.get? b = some o)
    (hf : K.lookup fI = some ⟨oc, od, .func fd, osl⟩) (hp : (fd.params.posonlyargs ++ fd.params.args).head? = some ar) (har : ar.arg = "self")
    (hks : scope.names.lookup ("super" : Str) = some .globalImplicit) (hkc : scope.names.lookup ("__class__" : Str) = some .free) (hka : scope.names.lookup ("self" : Str) = some .local) (hk : scope.kind = .function)
    (hns : s.heap.Ns L m) (hv : m "self" = some (.ref x)) (hx : s.heap.get? x = some (excO C t0))
    (hmsg : ∀ (s' : Shared) (Q' : Value → Shared → Prop), s'.heap.Ns L m → (∀ (z : Str) tk n, Q' (.str z tk) { s' with toks := n }) → wpAny (model prog w) A (eval msg (ksEnv q scope L fI (.ref cda) cc)) Q' E s')
    (hq : ∀ h' tk t1, (∀ b o, b ≠ x → s.heap.get? b = some o → h'.get? b = some o) → h'.get? x = some (excO C t1) → Q .next { s with heap := h', toks := tk })
    (hin : interactive (ksEnv q scope L fI (.ref cda) cc) = false := by rfl)
    (he : starEach [msg] (ksEnv q scope L fI (.ref cda) cc) = (false, eval msg (ksEnv q scope L fI (.ref cda) cc)) :: starEach [] (ksEnv q scope L fI (.ref cda) cc) := by rfl)
    (hsw : swapsWith (.Call (.Attribute (.Call (.Name "super" p0) [] [] p1) "__init__" p2) [msg] [] p3) none p4.line (ksEnv q scope L fI (.ref cda) cc) = pure false := by rfl)
    (hmc : eval (.Call (.Attribute (.Call (.Name "super" p0) [] [] p1) "__init__" p2) [msg] [] p3) (ksEnv q scope L fI (.ref cda) cc) = (do
      let ov ← attributeBase (.Call (.Name "super" p0) [] [] p1) "__init__" (ksEnv q scope L fI (.ref cda) cc) (eval (.Call (.Name "super" p0) [] [] p1) (ksEnv q scope L fI (.ref cda) cc))
      standAt p2.atName
      let (f, first) ← holding [ov] (getMethod ov "__init__" pl)
      callWith p3 f first (backTo p3 (starEach [msg] (ksEnv q scope L fI (.ref cda) cc))) []) := by rfl) :
    PySem.wpAt (model prog w) A (.func body (ksEnv q scope L fI (.ref cda) cc)) (exec (.Expr (.Call (.Attribute (.Call (.Name "super" p0) [] [] p1) "__init__" p2) [msg] [] p3) p4) (ksEnv q scope L fI (.ref cda) cc)) Q E s := by
  obtain ⟨nm, q0, N, bs, bm, sn, sub, ab, col, dd, k0, k1, k2, k3, k5, hC, hbm⟩ := T.cls
  obtain ⟨cl, cld, csl, hcell⟩ := T.cell
  obtain ⟨ccl, cdd, vs, ccs, tf, hcode, hvs⟩ := T.code
  obtain ⟨mb, hb1, hb2⟩ := Mo.blt
  have X : K.In s.heap := Mo.kin.keeps kb
  have hcl := clsIn_of hC
  have hss : alongIn K "__init__" (((Value.ref C :: bm).dropWhile (· != .ref C)).drop 1) = some (some (.builtin "ValueError.__init__")) := by
    have z := T.sup
    unfold ks_superIn at z
    rw [hcl] at z
    exact z
  have Ix : InstAt s.heap x (excO C t0) C none := ⟨hx, rfl, rfl, trivial⟩
  have hxC : x ≠ C := ks_ne X Ix hcl
  obtain ⟨hh, g, d, t, os⟩ := s
  refine ks_wpAt_Expr_any (ks_wpAt_MethodCall (pl := pl) ?_ hmc) hin hsw
  refine ks_wpAt_super_base (env := ksEnv q scope L fI (.ref cda) cc) hks hkc rfl rfl (X _ _ hf) rfl hp rfl (X _ _ hcode) rfl hvs (beq_self_eq_true _) T.top ?_
  refine ks_loadName_global hk hks (loadGlobal_builtin (env := ksEnv q scope L fI (.ref cda) cc) (Mo.glob.keeps kb) T.mS (hb1.keeps kb) ((hb2 _ (by decide)).trans (by decide +kernel : bootBuiltins "super" = some (.type "super"))) ⟨rfl, ?_⟩)
  refine wpAny_loadName_free hk hkc rfl ⟨_, X _ _ hcell, rfl⟩ ?_
  rw [har]
  refine wpAny_loadName_local hk hka hns hv ?_
  refine ks_wpAny_isType_cls (X _ _ hC) rfl ⟨rfl, ?_⟩
  refine ks_wpAny_call_super (X _ _ hC) rfl hx rfl (fun c e => by cases e) (looks_mroIn X T.self) (fun h1 e1 kk1 => ?_)
  have X1 : K.In h1 := X.keeps kk1
  have hx1 := kk1 _ _ hx
  have I1 : InstAt h1 x (excO C t0) C none := ⟨hx1, rfl, rfl, trivial⟩
  refine kxs_getMethod kxs_ValueError e1 (looks_opaque X1 T.opq) (l₀ := .ref C :: bm) (fun A Q E s k q => wpAny_bind ((looks_clsIn X1 hcl) A _ E s k (wpAny_pure q))) rfl X1 hss (I1.type.andThen (looks_subIn X1 T.supB)) hxC rfl ?_
  have hns1 : (h1.push (kxs_mw "ValueError.__init__" x)).Ns L m := hns.keeps fun b o e => Heap.get?_push_of_some _ (kk1 b o e)
  rw [he]
  refine kxs_callWith (i := "ValueError.__init__") (x := x) rfl (evalArgs_plain (Calls.spliced_cons (hmsg _ _ hns1 fun z tk n => Calls.spliced_nil ⟨?_, ?_⟩)))
  · exact Heap.get?_push_size _ rfl
  · refine call_mw (Heap.get?_push_of_some _ (X1 _ _ hC)) (Heap.get?_push_of_some _ hx1) (Heap.get?_push_size _ rfl) (show 1 ≤ sizeLine by decide) fun h' t1 k e => ?_
    exact hq h' _ t1 (fun b o hb ho => k b o hb (Heap.get?_push_of_some _ (kk1 b o ho))) e
end
/-! ### the text -/
def TxE (prog : Program) (w : World) (env : Env) (m : Str → Option Value) (e : Expr) : Prop := ∀ (A : Around) (E : Value → Shared → Prop) (s : Shared) (Q : Value → Shared → Prop), s.heap.Ns env.locals m →
  (∀ (z : Str) tk n, z.length ≤ 100000 → Q (.str z tk) { s with toks := n }) → wpAny (model prog w) A (eval e env) Q E s
/-- what {x!r} is written of -/
def MsgV (v : Value) : Prop := (∃ i t, v = .int i t ∧ i.natAbs.log2 < 1920) ∨ ∃ y t, v = .str y t ∧ (reprText y).length ≤ 100000 ∧ y.length ≤ 100000
section
variable {prog : Program} {w : World} {env : Env} {m : Str → Option Value}
theorem small_size {n : Nat} (h : n ≤ 100000) : n ≤ sizeLine := Nat.le_trans h (by decide)
theorem tx_const {z : Str} {k : Nat} {pos : Pos} (h : z.length ≤ 100000) : TxE prog w env m (.Constant (.str z) k pos) := fun A E s Q _ q => by
  rw [eval_Constant]
  exact wpAny_mkText (q z _ _ h)
theorem ld_name {A : Around} {E : Value → Shared → Prop} {s : Shared} {Q : Value → Shared → Prop} {x : Str} {p : Pos} {v : Value} (hn : s.heap.Ns env.locals m) (hv : m x = some v) (hk : env.scope.kind = .function) (hl : env.kindOf x = some .local) (h : Q v s) (hd : (x == ("__debug__" : Str)) = false := by decide) :
    wpAny (model prog w) A (eval (.Name x p) env) Q E s := wpAny_Name (wpAny_loadName_local hk hl hn hv h) hd
theorem tx_repr {x : Str} {p pos : Pos} {v : Value} (hv : m x = some v) (ok : MsgV v) (hk : env.scope.kind = .function) (hl : env.kindOf x = some .local) (hd : (x == ("__debug__" : Str)) = false := by decide) : TxE prog w env m (.FormattedValue (.Name x p) 114 none pos) := fun A E s Q hn q => by
  refine wpAny_FormattedValue_repr (ld_name hn hv hk hl ?_ hd)
  rcases ok with ⟨i, t, rfl, hz⟩ | ⟨y, t, rfl, hz, _⟩
  · have hl : (Str.ofString (toString i)).length ≤ 100000 := by
      have e := int_text_length_le (k := 1920) (by decide) hz
      rw [PySem.ofString_length]; omega
    exact pyReprObj_int hz (wpAny_formatField_str (q _ _ _ hl) (q _ _ _ hl) (small_size hl))
  · exact pyReprObj_str (wpAny_formatField_str (q _ _ _ hz) (q _ _ _ hz) (small_size hz)) (small_size hz)
theorem tx_plain {x : Str} {p pos : Pos} {v : Value} (hv : m x = some v) (ok : MsgV v) (hk : env.scope.kind = .function) (hl : env.kindOf x = some .local) (hd : (x == ("__debug__" : Str)) = false := by decide) : TxE prog w env m (.FormattedValue (.Name x p) (-1) none pos) := fun A E s Q hn q => by
  refine wpAny_FormattedValue_plain (ld_name hn hv hk hl ?_ hd)
  rcases ok with ⟨i, t, rfl, hz⟩ | ⟨y, t, rfl, _, hz⟩
  · have hl : (Str.ofString (toString i)).length ≤ 100000 := by
      have e := int_text_length_le (k := 1920) (by decide) hz
      rw [PySem.ofString_length]; omega
    exact wpAny_formatField_int hz (q _ _ _ hl)
  · exact wpAny_formatField_str (q y _ s.toks hz) (q _ _ _ hz) (small_size hz)
inductive TxP (prog : Program) (w : World) (env : Env) (m : Str → Option Value) : List Expr → Prop where
  | nil : TxP prog w env m []
  | cons {e : Expr} {es : List Expr} (h : TxE prog w env m e) (r : TxP prog w env m es) : TxP prog w env m (e :: es)
theorem txp_run {es : List Expr} (h : TxP prog w env m es) : ∀ (A : Around) (E : Value → Shared → Prop) (acc : Str) (s : Shared) (R : Str → Shared → Prop), acc.length + 100000 * es.length ≤ sizeLine → s.heap.Ns env.locals m →
    (∀ out n, out.length ≤ sizeLine → R out { s with toks := n }) → Joins (model prog w) A E (evalEach es env) acc R s := by
  induction h with
  | nil =>
    intro A E acc s R hz hn k
    have e0 : evalEach [] env = [] := by first | rfl | simp [evalEach]
    rw [e0]
    exact k acc s.toks (by simpa using hz)
  | @cons e es he r ih =>
    intro A E acc s R hz hn k
    have e0 : evalEach (e :: es) env = eval e env :: evalEach es env := by first | rfl | simp [evalEach]
    rw [e0]
    rw [List.length_cons] at hz
    refine he A E s _ hn fun z tk n hl => ⟨z, tk, rfl, ?_, ?_⟩
    · rw [Str.length_append]; omega
    · refine ih A E (acc ++ z) { s with toks := n } R (by rw [Str.length_append]; omega) hn fun out n' ho => ?_
      exact k out n' ho
theorem tx_joined {v1 v2 : Expr} {rest : List Expr} {pos : Pos} {A : Around} {E : Value → Shared → Prop} {s : Shared} {Q : Value → Shared → Prop} (h : TxP prog w env m (v1 :: v2 :: rest)) (hz : 100000 * (v1 :: v2 :: rest).length ≤ sizeLine) (hn : s.heap.Ns env.locals m)
    (q : ∀ (z : Str) tk n, Q (.str z tk) { s with toks := n }) : wpAny (model prog w) A (eval (.JoinedStr (v1 :: v2 :: rest) pos) env) Q E s :=
  wpAny_JoinedStr (txp_run h A E Str.empty s _ (by rw [show Str.empty.length = 0 from rfl, Nat.zero_add]; exact hz) hn fun out n ho => ⟨ho, q out _ _⟩)
end
/-! ### __init__ of one argument -/
/-- the text of def __init__(self, f): super().__init__(msg); self.f = f -/
structure Sh1 (prog : Program) (w : World) (st : Stmt) (f : Str) : Prop where
  body : ∃ (msg : Expr) (p0 p1 p2 p3 p4 q1 q2 q3 q4 : Pos) (pl : Sem Bool), defBody st = [.Expr (.Call (.Attribute (.Call (.Name "super" p0) [] [] p1) "__init__" p2) [msg] [] p3) p4, .Assign [.Attribute (.Name "self" q1) f q2] (.Name f q3) q4] ∧
    (∀ (q : Str) (L fI cda cc : Addr) (m : Str → Option Value) (v : Value) (A : Around) (E : Value → Shared → Prop) (s : Shared) (Q : Value → Shared → Prop), m f = some v → MsgV v → s.heap.Ns L m → (∀ (z : Str) tk n, Q (.str z tk) { s with toks := n }) →
      wpAny (model prog w) A (eval msg (ksEnv q (defScope st) L fI (.ref cda) cc)) Q E s) ∧
    (∀ (q : Str) (L fI cda cc : Addr), interactive (ksEnv q (defScope st) L fI (.ref cda) cc) = false ∧ starEach [msg] (ksEnv q (defScope st) L fI (.ref cda) cc) = (false, eval msg (ksEnv q (defScope st) L fI (.ref cda) cc)) :: starEach [] (ksEnv q (defScope st) L fI (.ref cda) cc) ∧
      swapsWith (.Call (.Attribute (.Call (.Name "super" p0) [] [] p1) "__init__" p2) [msg] [] p3) none p4.line (ksEnv q (defScope st) L fI (.ref cda) cc) = pure false ∧
      eval (.Call (.Attribute (.Call (.Name "super" p0) [] [] p1) "__init__" p2) [msg] [] p3) (ksEnv q (defScope st) L fI (.ref cda) cc) = (do
        let ov ← attributeBase (.Call (.Name "super" p0) [] [] p1) "__init__" (ksEnv q (defScope st) L fI (.ref cda) cc) (eval (.Call (.Name "super" p0) [] [] p1) (ksEnv q (defScope st) L fI (.ref cda) cc))
        standAt p2.atName
        let (f, first) ← holding [ov] (getMethod ov "__init__" pl)
        callWith p3 f first (backTo p3 (starEach [msg] (ksEnv q (defScope st) L fI (.ref cda) cc))) []) ∧
      swapsWith (.Name f q3) (some (.Attribute (.Name "self" q1) f q2)) q4.line (ksEnv q (defScope st) L fI (.ref cda) cc) = pure false)
  head : ∃ ar, ((defArgs st).posonlyargs ++ (defArgs st).args).head? = some ar ∧ ar.arg = "self"
  ks : (defScope st).names.lookup ("super" : Str) = some .globalImplicit
  kc : (defScope st).names.lookup ("__class__" : Str) = some .free
  ka : (defScope st).names.lookup ("self" : Str) = some .local
  kf : (defScope st).names.lookup f = some .local
  fd : (f == ("__debug__" : Str)) = false
  fs : (("self" : Str) == f) = false
  k : (defScope st).kind = .function
  co : (defScope st).isCoroutine = false
  gen : (defScope st).isGenerator = false
  nocell : ∀ x ∈ (defScope st).names, x.2 ≠ .cell
  binds : ∀ (s : Shared) (x : Addr) (v : Value) (qual : Str) (doc pm : Value) (an : Option Addr) (cda cc : Addr) (ct : Value), BindsTo s (ksFn "__init__" qual (defArgs st) (defBody st) (defScope st) .none .none doc pm an (.ref cda) ct cc) ⟨[.ref x, v], []⟩ [("self", .ref x), (f, v)]
/-- what __init__ leaves of a fresh exception at x -/
structure IEnd (h h' : Heap) (x C dx t1 : Addr) (mA : Str → Option Value) : Prop where
  keep : ∀ b o, b ≠ x → h.get? b = some o → h'.get? b = some o
  obj : h'.get? x = some { cls := .ref C, dict := some dx, data := .fields #[.ref t1, .none, .none, .none, .bool false, .none] }
  dbig : h.objs.size ≤ dx
  dne : dx ≠ x
  ns : h'.Ns1 dx mA
section
variable {prog : Program} {w : World} {A : Around} {E : Value → Shared → Prop} {R : Result → Shared → Prop} {s : Shared} {K : Frag} {mg : Str → Option Value} {base : Heap}
theorem init1 {C fI cc cda x t0 : Addr} {st : Stmt} {f qual : Str} {oc doc pm ct : Value} {od an : Option Addr} {osl : Array (Option Value)} {v : Value} (S : Sh1 prog w st f) (T : Txt prog K mg C fI cc cda) (Mo : Mod K mg base) (kb : ∀ b o, base.get? b = some o → s.heap.get? b = some o)
    (hf : K.lookup fI = some ⟨oc, od, .func (ksFn "__init__" qual (defArgs st) (defBody st) (defScope st) .none .none doc pm an (.ref cda) ct cc), osl⟩) (hcd : codeIn K (.ref cda) qual = true) (noN : findIn K (.ref C) f = some none)
    (hx : s.heap.get? x = some (excO C t0)) (hnx : K.lookup x = none) (hroom : A.depth < recursionLimit) (ok : MsgV v)
    (hq : ∀ h' tk dx t1, IEnd s.heap h' x C dx t1 (fun y => if y = f then some v else none) → R (.ok (.ret .none)) { s with heap := h', toks := tk }) :
    codeAny (model prog w) A (.call (.ref fI) ⟨[.ref x, v], []⟩) R s := by
  obtain ⟨msg, p0, p1, p2, p3, p4, q1, q2, q3, q4, pl, hb, hmsg, hev⟩ := S.body
  obtain ⟨ar, har, hself⟩ := S.head
  obtain ⟨nm, q0, N, bs, bm, sn, sub, ab, col, dd, k0, k1, k2, k3, k5, hC, hbm⟩ := T.cls
  have hcl := clsIn_of hC
  have X : K.In s.heap := Mo.kin.keeps kb
  refine ks_codeAny_call_defAt (fd := ksFn "__init__" qual (defArgs st) (defBody st) (defScope st) .none .none doc pm an (.ref cda) ct cc) (body := defBody st) (binds := [("self", .ref x), (f, v)]) hroom (X _ _ hf) rfl (Mo.nolimit.keeps kb) (codeRec_of X hcd) rfl (S.binds s x v qual doc pm an cda cc ct) S.nocell (fun y hy => ?_) (fun h1 hns k1 => ?_) S.co S.gen S.k
  · rcases List.mem_cons.mp hy with rfl | hy
    · exact S.ka
    · rw [List.mem_singleton.mp hy]; exact S.kf
  · have hx1 := k1 _ _ hx
    have kb1 : ∀ b o, base.get? b = some o → h1.get? b = some o := fun b o e => k1 b o (kb b o e)
    obtain ⟨e0, e1, e2, e3, e4⟩ := hev qual s.heap.objs.size fI cda cc
    have hv1 : (fun y => List.lookup y [(("self" : Str), Value.ref x), (f, v)].reverse) "self" = some (.ref x) := by
      show List.lookup ("self" : Str) ([(f, v), (("self" : Str), Value.ref x)] : List (Str × Value)) = _
      simp [List.lookup, S.fs]
    have hv2 : (fun y => List.lookup y [(("self" : Str), Value.ref x), (f, v)].reverse) f = some v := by
      show List.lookup f ([(f, v), (("self" : Str), Value.ref x)] : List (Str × Value)) = _
      simp [List.lookup]
    show PySem.wpAt (model prog w) (A.deeper (ksEnv qual (defScope st) s.heap.objs.size fI (.ref cda) cc)) (.func (defBody st) (ksEnv qual (defScope st) s.heap.objs.size fI (.ref cda) cc)) (execs (defBody st) (ksEnv qual (defScope st) s.heap.objs.size fI (.ref cda) cc)) _ _ _
    generalize hbb : defBody st = bb at hb ⊢
    rw [hb]
    refine ks_wpAt_execs_cons (super_stmt (pl := pl) T Mo kb1 hf har hself S.ks S.kc S.ka S.k hns hv1 hx1 (fun s' Q' hn q => hmsg _ _ _ _ _ _ v _ _ _ _ hv2 ok hn q) (fun h2 tk2 t1 k2 hx2 => ?_) e0 e1 e2 e3)
    refine wpAt_of_wpAny ?_
    have hL : s.heap.objs.size ≠ x := Nat.ne_of_gt (Heap.lt_size hx)
    obtain ⟨oL, es, ep, hoL, hr⟩ := hns
    have hns2 : h2.Ns s.heap.objs.size (fun y => List.lookup y [(("self" : Str), Value.ref x), (f, v)].reverse) := ⟨oL, es, ep, k2 _ _ hL hoL, hr⟩
    have X2 : K.In h2 := fun b o e => k2 b o (fun z => by rw [z, hnx] at e; cases e) (k1 b o (X _ _ e))
    refine wpAny_execs_cons (plainObj_wpAny_Assign_Attribute ?_ e4)
    refine ld_name (v := v) hns2 hv2 S.k S.kf (ld_name (v := .ref x) hns2 hv1 S.k S.ka ?_) S.fd
    refine set_plain X2 (ox := excO C t1) (od := none) ⟨hx2, rfl, rfl, trivial⟩ T.sa ?_
    refine PySem.HandSPX.exc_osa X2 hx2 hcl (show refsVE (.ref C :: bm) = true from hbm) rfl noN (fun h3 tk3 dx k3 dn dne hx3 hn3 => ?_)
    have z : s.heap.objs.size ≤ h2.objs.size := Nat.le_of_lt (Heap.lt_size (k2 _ _ hL hoL))
    exact wpAny_execs_nil (hq h3 _ dx t1 ⟨fun b o hb e => k3 b o hb (k2 b o hb (k1 b o e)), hx3, Nat.le_trans z dn, dne, hn3⟩)
/-- a made error: its own dict d holds the field -/
structure Made (h h' : Heap) (e C d : Addr) (mA : Str → Option Value) : Prop where
  keep : ∀ b o, h.get? b = some o → h'.get? b = some o
  new : h.objs.size ≤ e
  obj : ∃ oe vs, h'.get? e = some oe ∧ oe.cls = .ref C ∧ oe.dict = some d ∧ oe.data = .fields vs ∧ vs[1]? = some .none
  dbig : h.objs.size ≤ d
  dne : d ≠ e
  ns : h'.Ns1 d mA
/-- all that is told of an own error class of one argument -/
structure Cls1 (prog : Program) (w : World) (K : Frag) (mg : Str → Option Value) (cn f : Str) (C : Addr) : Prop where
  ex : ∃ (fI cc cda : Addr) (st : Stmt) (qual : Str) (oc doc pm ct : Value) (od an : Option Addr) (osl : Array (Option Value)), Sh1 prog w st f ∧ Txt prog K mg C fI cc cda ∧
    K.lookup fI = some ⟨oc, od, .func (ksFn "__init__" qual (defArgs st) (defBody st) (defScope st) .none .none doc pm an (.ref cda) ct cc), osl⟩ ∧ codeIn K (.ref cda) qual = true
  gC : mg cn = some (.ref C)
  kC : keepIn K (.ref C) = true
  noN : findIn K (.ref C) f = some none
  exC : subIn K (.ref C) (.type "BaseException") = some true
  tyC : typeIn K (.ref C) = some (.type "type")
theorem one_size (v : Value) : [v].length ≤ sizeLine := by
  rw [sizeLine_eq]
  exact (by decide : 1 ≤ 16777216)
theorem made1 {cn f : Str} {C : Addr} {v : Value} (Z : Cls1 prog w K mg cn f C) (Mo : Mod K mg base) (kb : ∀ b o, base.get? b = some o → s.heap.get? b = some o) (hroom : A.depth + 1 < recursionLimit) (ok : MsgV v)
    (hq : ∀ h' tk e d, Made s.heap h' e C d (fun y => if y = f then some v else none) → R (.ok (.ret (.ref e))) { s with heap := h', toks := tk }) :
    codeAny (model prog w) A (.call (.ref C) ⟨[v], []⟩) R s := by
  obtain ⟨fI, cc, cda, st, qual, oc, doc, pm, ct, od, an, osl, S, T, hf, hcd⟩ := Z.ex
  obtain ⟨nm, q, N, bs, bm, sn, sub, ab, col, dd, k0, k1, k2, k3, k5, hC, hbm⟩ := T.cls
  have X : K.In s.heap := Mo.kin.keeps kb
  obtain ⟨hp, g, dr, tk, os⟩ := s
  have k : ∀ b o, hp.get? b = some o → ((hp.push (kdv_tup [v])).push (excO C hp.objs.size)).get? b = some o := fun b o e => Heap.get?_push_of_some _ (Heap.get?_push_of_some _ e)
  have hget : ((hp.push (kdv_tup [v])).push (excO C hp.objs.size)).get? (hp.objs.size + 1) = some (excO C hp.objs.size) := by heap_get
  have hnx : K.lookup (hp.objs.size + 1) = none := by
    cases e : K.lookup (hp.objs.size + 1) with
    | none => rfl
    | some o =>
      have z : hp.get? (hp.objs.size + 1) = some o := X _ _ e
      exact absurd (Nat.lt_of_succ_lt (Heap.lt_size z)) (Nat.lt_irrefl _)
  refine PySem.HandSPX.call_own F.excBase_ValueError (fun X => PySem.HandSPX.refsVE_contains X bm hbm) (X _ _ hC) (looks_findIn X T.iC) (fun self => bind_fn X self T.tI) (one_size v) ?_
  refine init1 (s := ⟨(hp.push (kdv_tup [v])).push (excO C hp.objs.size), g, dr, tk, os⟩) S T Mo (fun b o e => k b o (kb b o e)) hf hcd Z.noN hget hnx ?_ ok fun h' tk' dx t1 ⟨k', hx, dn, dne, hns⟩ => ?_
  · show A.depth + 1 < recursionLimit
    exact hroom
  · have old : ∀ b o, hp.get? b = some o → h'.get? b = some o := fun b o e => k' b o (Nat.ne_of_lt (Nat.lt_succ_of_lt (Heap.lt_size e))) (k b o e)
    have z : hp.objs.size + 1 + 1 ≤ dx := by
      first
        | (simpa only [Heap.size_push] using dn)
        | exact dn
        | (have q := dn; rw [Heap.size_push, Heap.size_push] at q; exact q)
    exact ⟨rfl, hq h' tk' (hp.objs.size + 1) dx ⟨old, Nat.le_succ _, ⟨_, _, hx, rfl, rfl, rfl, rfl⟩, Nat.le_trans (Nat.le_trans (Nat.le_succ _) (Nat.le_succ _)) z, dne, hns⟩⟩
end
theorem relO_one {f : Str} {v : V} {v' : Value} (r : RelV v v') (g : Str) : RelO (List.lookup g [(f, v)]) (if g = f then some v' else none) := by
  by_cases hw : g = f
  · subst hw
    rw [if_pos rfl]
    have q : List.lookup g [(g, v)] = some v := by simp [List.lookup]
    rw [q]
    exact r
  · rw [if_neg hw]
    have qw : (g == f) = false := by simpa using hw
    have q2 : List.lookup g [(f, v)] = none := by simp [List.lookup, qw]
    rw [q2]
    trivial
/-- what may be written in the message: ints below 2 ^ 1920, short texts -/
def MsgA (v : V) : Prop := (∃ i, v = .int i ∧ i.natAbs.log2 < 1920) ∨ ∃ y, v = .str y ∧ (reprText y).length ≤ 100000 ∧ y.length ≤ 100000
theorem MsgA.v {v : V} {u : Value} (h : MsgA v) (r : RelV v u) : MsgV u := by
  rcases h with ⟨i, rfl, h⟩ | ⟨y, rfl, h⟩
  · obtain ⟨t, rfl⟩ := r; exact .inl ⟨i, t, rfl, h⟩
  · obtain ⟨t, rfl⟩ := r; exact .inr ⟨y, t, rfl, h⟩
section
variable {X : Cx} {C : Addr}
/-- the error of one argument, made -/
def tMk1 (C : Addr) (f : Str) (ta : TA) : L2.St → Hp → XK → Prop := fun σ H Q => ta σ H fun vs H1 => ∃ v, vs = [v] ∧ MsgA v ∧ ∀ d, H1 d = none → Q (.ref C) (some d) (upd H1 d (.xd [(f, v)]))
theorem pmk1 {cn f : Str} {a : Expr} {ta : TA} {p pos : Pos} {k : Nat} (Z : Cls1 X.prog X.w X.K X.mg cn f C) (hr : Room k X.A) (ha : PA X [a] ta) (hg : Gl X cn := by rfl) (hdb : (cn == ("__debug__" : Str)) = false := by decide)
    (he : starEach (a :: []) X.env = (false, eval a X.env) :: starEach [] X.env := by rfl) (hpl : (backTo pos (starEach [] X.env)).any (·.1) = false := by rfl) :
    PMk X (.Call (.Name cn p) [a] [] pos) (tMk1 C f ta) := by
  intro pins s σ H Q I h
  refine wpAny_Call_Name_kw (ld_glob I hg Z.gC ?_ hdb)
  refine PySem.W.callWith_K (h₀ := X.base) I.ok.mod.kin Z.kC (thn (ha.run pos pins s σ H _ I h) fun us s1 hh => ?_) he hpl
  obtain ⟨vs, H1, I1, r1, v, ev, hok, q1⟩ := hh
  subst ev
  refine ⟨I1.kIn, ?_⟩
  cases r1 with
  | cons rv rn =>
    rename_i v' us'
    cases rn
    show wpAny _ _ (call (.ref C) [v']) _ _ _
    have hbk := I1.bk
    obtain ⟨hp, g, dr, tk, os⟩ := s1
    refine wpAny_call (made1 Z I1.mod hbk (by have := hr.dp; omega) (hok.v rv) fun h' tk' e d M => ?_)
    show MkP X pins σ Q (.ref e) ⟨h', g, dr, tk', os⟩
    obtain ⟨oe, fv, hoe, hc, hd, hdat, h1⟩ := M.obj
    have hns := M.ns
    obtain ⟨G', g1, g2⟩ := restrict h' fun b => decide (b ≠ e)
    have gk : ∀ b, b ≠ e → G'.get? b = h'.get? b := fun b hb => g1 b (decide_eq_true hb)
    have ge : G'.get? e = none := g2 e (by simp)
    have old : ∀ b o, hp.get? b = some o → G'.get? b = some o := fun b o q => (gk b (Nat.ne_of_lt (Nat.lt_of_lt_of_le (Heap.lt_size q) M.new))).trans (M.keep b o q)
    have ob : ObjOk X.prog X.w (upd H1 d (.xd [(f, v)])) G' d (.xd [(f, v)]) :=
      ⟨_, hns.at (fun o q => (gk d M.dne).trans q), fun g => relO_one rv g⟩
    have J : Inv X pins σ (upd H1 d (.xd [(f, v)])) ⟨G', g, dr, tk', os⟩ := I1.laid (t' := tk') old M.dbig ob
    refine ⟨e, oe, fv, ⟨G', g, dr, tk', os⟩, _, .ref C, some d, rfl, J, fun b o q => ?_, ge, hoe, ⟨hc, hd⟩, hdat, h1, ?_, rfl, I1.bare, raises_own Z.exC Z.tyC, q1 d (I1.hok.fresh M.dbig)⟩
    · by_cases hb : b = e
      · have q' : G'.get? b = some o := q
        rw [hb, ge] at q'; cases q'
      · exact (gk b hb).symm.trans q
    · rw [upd_ne (Ne.symm M.dne)]
      exact I1.hok.fresh M.new
/-- raise C(e) -/
def tRaise1 (C : Addr) (f : Str) (W : WX) (ta : TA) : TS := fun _ σ H => tMk1 C f ta σ H fun cls d H' => W cls d σ H'
theorem ps_raise1 {cn f : Str} {a : Expr} {ta : TA} {W : WX} {p pos pos2 : Pos} {k : Nat} (hc : X.calm = true) (Z : Cls1 X.prog X.w X.K X.mg cn f C) (hr : Room k X.A) (tk : Takes X W) (ha : PA X [a] ta) (hg : Gl X cn := by rfl) (hdb : (cn == ("__debug__" : Str)) = false := by decide)
    (he : starEach (a :: []) X.env = (false, eval a X.env) :: starEach [] X.env := by rfl) (hpl : (backTo pos (starEach [] X.env)).any (·.1) = false := by rfl) :
    PS X (.Raise (some (.Call (.Name cn p) [a] [] pos)) none pos2) (tRaise1 C f W ta) := ps_raise hc tk (pmk1 Z hr ha hg hdb he hpl)
end
theorem r_raise1 {C : Addr} {f : Str} {W : WX} {ta : TA} {D : Ends} {σ : L2.St} {H : Hp} (k : ta σ H fun vs H1 => ∃ v, vs = [v] ∧ MsgA v ∧ ∀ d, H1 d = none → W (.ref C) (some d) σ (upd H1 d (.xd [(f, v)]))) : tRaise1 C f W ta D σ H := k
theorem r_msgI {i : Int} {F : V → Prop} (h : i.natAbs < 2 ^ 1000) (k : F (.int i)) : ∃ v, [V.int i] = [v] ∧ MsgA v ∧ F v := ⟨_, rfl, .inl ⟨i, rfl, Nat.lt_trans (log2_of h (by decide)) (by decide)⟩, k⟩
theorem r_msgS {y : Str} {F : V → Prop} (h : (reprText y).length ≤ 100000) (h2 : y.length ≤ 100000) (k : F (.str y)) : ∃ v, [V.str y] = [v] ∧ MsgA v ∧ F v := ⟨_, rfl, .inr ⟨y, rfl, h, h2⟩, k⟩
theorem r_xf {a C : Addr} {cls : Value} {d : Option Addr} {f : Str} {te : TE} {σ : L2.St} {H : Hp} {Q : VK}
    (k : te σ H fun x H1 => x = .ref a ∧ cls = .ref C ∧ ∃ (dd : Addr) (fs : List (Str × V)) (v : V), d = some dd ∧ H1 dd = some (.xd fs) ∧ fs.lookup f = some v ∧ Q v H1) : tXf a cls d C f te σ H Q := k
theorem r_xfE {a C dd : Addr} {f : Str} {H : Hp} {fs : List (Str × V)} {v : V} {Q : V → Prop} (hd : H dd = some (.xd fs)) (hv : fs.lookup f = some v) (k : Q v) :
    V.ref a = .ref a ∧ Value.ref C = .ref C ∧ ∃ (dd' : Addr) (fs : List (Str × V)) (v : V), some dd = some dd' ∧ H dd' = some (.xd fs) ∧ fs.lookup f = some v ∧ Q v := ⟨rfl, rfl, dd, fs, v, rfl, hd, hv, k⟩
theorem kit_self {K : PySem.W.Frag} {C : Addr} : PySem.W.kitOne K (.ref C) (.ref C) = some true := by
  unfold PySem.W.kitOne
  rw [if_pos (beq_self_eq_true _)]
theorem kit_refs {K : PySem.W.Frag} {C D : Addr} {b : Bool} (hdct : PySem.W.hasDictIn K D = true) (ht : PySem.W.typeIn K (.ref D) = some (.type "type")) (h4 : PySem.W.subIn K (.ref C) (.ref D) = some b) (hq : (Value.ref C == Value.ref D) = false) : PySem.W.kitOne K (.ref C) (.ref D) = some b := by
  obtain ⟨cd, hc, _⟩ := PySem.W.any_some hdct
  have e2 : ((PySem.W.clsIn K D).isSome && PySem.W.typeIn K (.ref D) == some (.type "type")) = true := by rw [hc, ht] <;> rfl
  unfold PySem.W.kitOne
  rw [if_neg (by rw [hq]; decide)]
  show (if ((PySem.W.clsIn K D).isSome && PySem.W.typeIn K (.ref D) == some (.type "type")) = true then PySem.W.subIn K (.ref C) (.ref D) else none) = some b
  rw [if_pos e2]
  exact h4
theorem kit_typ {K : PySem.W.Frag} {C : Addr} {T : String} {b : Bool} (hm : PySem.W.kitMeta T = true) (h4 : PySem.W.subIn K (.ref C) (.type T) = some b) : PySem.W.kitOne K (.ref C) (.type T) = some b := by
  unfold PySem.W.kitOne
  rw [if_neg (by show ¬ (Value.ref C == Value.type T) = true; intro z; cases (beq_iff_eq.mp z))]
  show (if PySem.W.kitMeta T = true then PySem.W.subIn K (.ref C) (.type T) else none) = some b
  rw [if_pos hm]
  exact h4
/-- the comparison within an except suite -/
theorem op_eqDK {X : Cx} {K : PySem.W.Frag} (hK : X.K = K) (hu : X.A.units + 64 < cLine) : OpR X (compareOp .Eq) (rEqD K) := by subst hK; exact op_eqD hu
theorem op_neDK {X : Cx} {K : PySem.W.Frag} (hK : X.K = K) (hu : X.A.units + 64 < cLine) : OpR X (compareOp .NotEq) (rNeD K) := by subst hK; exact op_neD hu
/-! ### isinstance(e, c), e a caught error of an own class with its dict -/
def rIsD (K : PySem.W.Frag) (a : Addr) (cls : Value) (d : Option Addr) : List V → Hp → VK → Prop := fun xs H Q => ∃ (D dd : Addr) (fs : List (Str × V)) (c : V) (cv : Value) (b : Bool), cls = .ref D ∧ d = some dd ∧ ExcC K D ∧ xs = [.ref a, c] ∧ H dd = some (.xd fs) ∧ (∀ u, RelV c u → u = cv) ∧ PySem.W.kitOne K (.ref D) cv = some b ∧ Q (.bl b) H
theorem call_isD {X : Cx} {a : Addr} {cls : Value} {d : Option Addr} {oe : Obj} {pn : List (Addr × Obj)} (hz : Zc cls d oe) (hf : ∃ vs, oe.data = .fields vs) : CallR (X.suite a ((a, oe) :: pn)) (.builtin "isinstance") (rIsD X.K a cls d) := by
  intro pins s σ H xs us Q I r h
  obtain ⟨D, dd, fs, c, cv, b, rfl, rfl, C, rfl, hdd, hcv, e, q⟩ := h
  cases r with
  | cons rx rr =>
    cases rr with
    | cons rt rr =>
      cases rr
      cases rx
      have ec := hcv _ rt
      subst ec
      obtain ⟨hget, _⟩ := I.pin (a, oe) (List.mem_append.mpr (.inl List.mem_cons_self))
      obtain ⟨vs, hv⟩ := hf
      have hx : ObjOk X.prog X.w H s.heap dd (.xd fs) := I.hok dd _ hdd
      obtain ⟨mA, ⟨od, es, ep, ho, hr⟩, hl⟩ := hx
      have J : PySem.W.InstAt s.heap a oe D (some od) := by
        refine ⟨hget, hz.1, by unfold PySem.W.notCls; rw [hv] <;> rfl, ?_⟩
        rw [hz.2]; exact ho
      obtain ⟨cd, hcd, _⟩ := PySem.W.any_some C.hd
      exact PySem.W.kia_one (PySem.W.kitx_exc (by rw [hcd]; rfl) C.hg C.hk C.hs C.ha C.hn C.ht C.hm) I.kIn J e (fun z => nomatch z) fun tk => ⟨.bl b, H, I.kept (t' := tk) fun _ _ z => z, rfl, q⟩
theorem r_isD {K : PySem.W.Frag} {a D dd : Addr} {fs : List (Str × V)} {c : V} {cv : Value} {b : Bool} {H : Hp} {Q : VK} (C : ExcC K D) (hd : H dd = some (.xd fs)) (hc : ∀ u, RelV c u → u = cv) (hk : PySem.W.kitOne K (.ref D) cv = some b) (k : Q (.bl b) H) :
    rIsD K a (.ref D) (some dd) [.ref a, c] H Q := ⟨D, dd, fs, c, cv, b, rfl, rfl, C, rfl, hd, hc, hk, k⟩
end Er
/-! ### operators of own classes, over the layer -/
namespace Ow
open PySem.W PySem.Calls
theorem inst_of {X : Cx} {pins : List (Addr × Obj)} {σ : L2.St} {H : Hp} {s : Shared} {a C dx : Addr} {fs : List (Str × V)} (I : Inv X pins σ H s) (h : H a = some (.ins C dx fs)) : ∃ ox od, InstAt s.heap a ox C od ∧ ox.data = .plain := by
  obtain ⟨mA, O, _⟩ := ins_get I.hok h
  obtain ⟨od, J, _⟩ := O.look
  exact ⟨_, _, J, rfl⟩
theorem not_ni {v : V} {u : Value} (r : RelV v u) : u ≠ .notImplemented := by
  rintro rfl
  cases v <;> first | (cases r; done) | (obtain ⟨t, e⟩ := r; cases e)
theorem cmpBack {X : Cx} {pins : List (Addr × Obj)} {σ : L2.St} {Q : VK} {u : Value} {s : Shared} (h : EP X pins σ Q u s) : PySem.W.CmpBack (EP X pins σ Q) u s := by
  obtain ⟨v, H', I, r, q⟩ := id h
  have n := not_ni r
  cases u <;> first | exact h | exact absurd rfl n
section
variable {X : Cx} {CX : CXT} {k : Nat} {C f : Addr} {sp : Sp} {E : XK}
/-- the callee, with values -/
theorem run_own {pins : List (Addr × Obj)} {σ : L2.St} {H : Hp} {s : Shared} {Q : VK} {us : List Value} {vs : List V} (F : FnR X.prog X.w X.K X.mg X.base CX k f sp) (hr : Room k X.A) (hx : Passes CX X E) (I : Inv X pins σ H s) (r : Vals vs us) (h : sp vs H Q E) :
    wpAny (model X.prog X.w) X.A (call (.ref f) us) (EP X pins σ Q) X.xe s := wpAny_call (run_fnR F hr hx I r h)
/-- x op y, both of the class C -/
def rOwn2 (C : Addr) (sp : Sp) (E : XK) : R2 := fun x y H Q => ∃ a dx fs b dy gs, x = .ref a ∧ y = .ref b ∧ H a = some (.ins C dx fs) ∧ H b = some (.ins C dy gs) ∧ sp [x, y] H Q E
theorem op_own2 {op : Operator} {m : Str} (sf : selfFirst X.K C = true) (M : Meth X.K C m f) (F : FnR X.prog X.w X.K X.mg X.base CX k f sp) (hr : Room k X.A) (hx : Passes CX X E) (hm : PySem.dunder op.info.2 = m := by rfl) : OpR X (binaryOp op) (rOwn2 C sp E) := by
  intro pins s σ H x y v u Q I rx ry h
  obtain ⟨a, dx, fs, b, dy, gs, rfl, rfl, ha, hb, q⟩ := h
  obtain rfl : v = Value.ref a := rx
  obtain rfl : u = Value.ref b := ry
  obtain ⟨ox, od, J, _⟩ := inst_of I ha
  obtain ⟨oy, od', J', _⟩ := inst_of I hb
  obtain ⟨mm, Fm⟩ := I.fr
  refine binop_K Fm I.ok.mod.kin J J'.type sf (by rw [hm]; exact M.at_) M.fn ?_
  exact wpAny_mono (run_own (vs := [.ref a, .ref b]) F hr hx I (.cons rfl (.cons rfl .nil)) q) (fun _ _ z => cmpBack z) fun _ _ e => e
/-- x op n, x of the class C, n an int -/
def rOwnI (C : Addr) (sp : Sp) (E : XK) : R2 := fun x y H Q => ∃ a dx fs n, x = .ref a ∧ y = .int n ∧ H a = some (.ins C dx fs) ∧ sp [x, y] H Q E
theorem op_ownI {op : Operator} {m mr : Str} {fo ro rc : Option Value} (sf : selfFirst X.K C = true) (M : Meth X.K C m f) (F : FnR X.prog X.w X.K X.mg X.base CX k f sp) (hr : Room k X.A) (hx : Passes CX X E)
    (hrc : findIn X.K (.ref C) mr = some rc) (hp : rc = none ∨ ∃ g : Addr, rc = some (.ref g)) (h1 : findIn X.K (.type "int") m = some fo) (h2 : findIn X.K (.type "int") mr = some ro) (hs : subIn X.K (.type "int") (.ref C) = some false)
    (hm : PySem.dunder op.info.2 = m := by rfl) (hmr : dunderR op.info.2 = mr := by rfl) : OpR X (binaryOp op) (rOwnI C sp E) := by
  intro pins s σ H x y v u Q I rx ry h
  obtain ⟨a, dx, fs, n, rfl, rfl, ha, q⟩ := h
  obtain rfl : v = Value.ref a := rx
  obtain ⟨t, rfl⟩ := ry
  obtain ⟨ox, od, J, _⟩ := inst_of I ha
  obtain ⟨mm, Fm⟩ := I.fr
  subst hm hmr
  refine ksp_binT Fm I.ok.mod.kin J (T := "int") rfl sf M.at_ M.fn hrc hp h1 h2 hs ?_
  exact wpAny_mono (run_own (vs := [.ref a, .int n]) F hr hx I (.cons rfl (.cons ⟨t, rfl⟩ .nil)) q) (fun _ _ z => cmpBack z) fun _ _ e => e
/-- -x -/
def rOwn1 (C : Addr) (sp : Sp) (E : XK) : V → Hp → VK → Prop := fun x H Q => ∃ a dx fs, x = .ref a ∧ H a = some (.ins C dx fs) ∧ sp [x] H Q E
theorem un_ownNeg (M : Meth X.K C "__neg__" f) (F : FnR X.prog X.w X.K X.mg X.base CX k f sp) (hr : Room k X.A) (hx : Passes CX X E) : UnR X (unaryOp .USub) (rOwn1 C sp E) := by
  intro pins s σ H x v Q I rx h
  obtain ⟨a, dx, fs, rfl, ha, q⟩ := h
  obtain rfl : v = Value.ref a := rx
  obtain ⟨ox, od, J, _⟩ := inst_of I ha
  obtain ⟨mm, Fm⟩ := I.fr
  exact ksp_neg Fm I.ok.mod.kin J M.at_ M.fn (run_own (vs := [.ref a]) F hr hx I (.cons rfl .nil) q)
/-- x == y, both of the class C -/
theorem op_ownEq {op : CmpOp} {m : Str} (M : Meth X.K C m f) (F : FnR X.prog X.w X.K X.mg X.base CX k f sp) (hr : Room k X.A) (hx : Passes CX X E) (hu : X.A.units < cLine) (hm : (cmpInfo op).2.1 = m := by rfl)
    (ho : ∀ a b, compareOp op a b = richCompare op a b := by intro _ _; rfl) : OpR X (compareOp op) (rOwn2 C sp E) := by
  intro pins s σ H x y v u Q I rx ry h
  obtain ⟨a, dx, fs, b, dy, gs, rfl, rfl, ha, hb, q⟩ := h
  obtain rfl : v = Value.ref a := rx
  obtain rfl : u = Value.ref b := ry
  obtain ⟨ox, od, J, _⟩ := inst_of I ha
  obtain ⟨oy, od', J', _⟩ := inst_of I hb
  obtain ⟨mm, Fm⟩ := I.fr
  rw [ho]
  refine cmp_K hu Fm I.ok.mod.kin J J'.type (by unfold notFirst; rw [beq_self_eq_true]; rfl) (by rw [hm]; exact M.at_) M.fn ?_
  exact wpAny_mono (run_own (vs := [.ref a, .ref b]) F hr hx I (.cons rfl (.cons rfl .nil)) q) (fun _ _ z => cmpBack z) fun _ _ e => e
end
section
open PySem.Builtin
theorem int_mul_own (a : Int) (t : Tok) (x C dx : Addr) :
    Meets (Builtin.«int.__mul__» ⟨[.int a t, .ref x], []⟩) (fun _ R s => s.heap.get? x = some (PySem.W.instObj C dx) ∧ R (.ok (.ret Value.notImplemented)) s) :=
  .of_wp fun prog w A R s ⟨hl, h⟩ => by
    obtain ⟨hp, g, d, tk, os⟩ := s
    wp_walk
    exact ⟨_, rfl, h⟩
theorem decl_gen {prog : Program} {w : World} {A : Around} {E : Value → Shared → Prop} {s : Shared} {self other : Value} {T id : String} {name : Str} {B : Builtin} {Q : Option Value → Shared → Prop} (hT : s.TypeIs self T) (h : Slot T name id) (entry : entryFor table id = some B)
    (args : argsOk id ⟨[self, other], []⟩) (hm : wpAny (model prog w) A.in1 (B ⟨[self, other], []⟩) (GQ.FinOf prog w A (wants (fun v s' => v = Value.notImplemented ∧ Q none s') E)) (fun e s' => wants (fun v s' => v = Value.notImplemented ∧ Q none s') E (.error e) s') s) :
    wpAny (model prog w) A (tryMethod self name other) Q E s := by
  refine wpAny_tryMethod_declines hT h ?_
  exact GQ.call_here h hT entry args hm
theorem int_declines {prog : Program} {w : World} {A : Around} {E : Value → Shared → Prop} {s : Shared} {x C dx : Addr} {i : Int} {t : Tok} {Q : Option Value → Shared → Prop} (hx : s.heap.get? x = some (instObj C dx)) (q : Q none s) :
    wpAny (model prog w) A (tryMethod (.int i t) (PySem.dunder "mul") (.ref x)) Q E s := by
  have h1 := @decl_gen prog w A E s (.int i t) (.ref x) "int" "int.__mul__" (PySem.dunder "mul") Builtin.«int.__mul__» Q
  have h2 := h1 (typeIs_int _ _ _) 
  have h3 := h2 PySem.F.slot_int_mul
  have h4 := h3 PySem.F.entry_int_mul 
  have h5 := h4 (PySem.F.args_int_mul_2 _ _)
  refine h5 ?_
  exact (int_mul_own i t x C dx prog w A (wants (fun v s' => v = Value.notImplemented ∧ Q none s') E) s ⟨hx, rfl, q⟩)
section
variable {prog : Program} {w : World} {A : Around} {E : Value → Shared → Prop} {s : Shared} {K : Frag} {x C dx f : Addr} {od : Obj}
theorem int_own {i : Int} {t : Tok} {g : Addr} {Q : Value → Shared → Prop} (X : K.In s.heap) (I : InstAt s.heap x (instObj C dx) C (some od)) (hc : selfFirst K C = true) (hm : findIn K (.ref C) "__mul__" = some (some (.ref g)))
    (hs : findIn K (.ref C) "__rmul__" = some (some (.ref f))) (hf : isFn K (.ref f) = true) (hsub : subIn K (.ref C) (.type "int") = some false) (h : wpAny (model prog w) A (call (.ref f) [.ref x, .int i t]) (PySem.W.CmpBack Q) E s) :
    wpAny (model prog w) A (binaryOp .Mult (.int i t) (.ref x)) Q E s := by
  obtain ⟨cd, rest, hcd, hmro⟩ := ksp_first hc
  have one := ksp_try (name := "__rmul__") X I hs hf h
  have L1 : Looks (model prog w) s.heap (typeOf (.int i t)) (.type "int") := Looks.of_pure rfl
  have L2 : Looks (model prog w) s.heap (typeOf (.ref x)) (.ref C) := I.type
  obtain ⟨hh, g', d, tt, os⟩ := s
  have L3 : Looks (model prog w) hh (fillsNumberSlot (.type "int") "mul") true := Looks.of_pure PySem.F.fills_int_mul
  have L4 : Looks (model prog w) hh (fillsNumberSlot (.ref C) "mul") true := fills_K X hcd hmro hm
  have L5 : Looks (model prog w) hh (isSubtype (.ref C) (.type "int")) false := looks_subIn X hsub
  have L7 : Looks (model prog w) hh (numberSlotInPython (.type "int") "mul") false := Looks.of_pure rfl
  have hne : (Value.type "int" == Value.ref C) = false := Bool.eq_false_iff.mpr fun q => by cases beq_iff_eq.mp q
  unfold binaryOp binaryOp1
  refine wpAny_holding (wpAny_bind ?_)
  refine wpAny_bind (L1.at (wpAny_bind (L2.at (wpAny_bind (L3.at ?_)))))
  simp only [hne, Bool.false_eq_true, if_false]
  ksp_lk
  refine int_declines I.at_ ?_
  ksp_lk
  refine wpAny_mono one (fun r s' hr' => ?_) fun _ _ e => e
  obtain ⟨v, rfl, hq⟩ := hr'
  ksp_lk
  exact hq
end
end
section
variable {X : Cx} {CX : CXT} {k : Nat} {C f : Addr} {sp : Sp} {E : XK}
/-- n * x, n an int, x of the class C: the reflected method -/
def rIntOwn (C : Addr) (sp : Sp) (E : XK) : R2 := fun x y H Q => ∃ b dx fs n, x = .int n ∧ y = .ref b ∧ H b = some (.ins C dx fs) ∧ sp [y, x] H Q E
theorem op_intMul {g : Addr} (sf : selfFirst X.K C = true) (M0 : Meth X.K C "__mul__" g) (M : Meth X.K C "__rmul__" f) (hs : subIn X.K (.ref C) (.type "int") = some false) (F : FnR X.prog X.w X.K X.mg X.base CX k f sp) (hr : Room k X.A) (hx : Passes CX X E) : OpR X (binaryOp .Mult) (rIntOwn C sp E) := by
  intro pins s σ H x y v u Q I rx ry h
  obtain ⟨b, dx, fs, n, rfl, rfl, hb, q⟩ := h
  obtain ⟨t, rfl⟩ := rx
  obtain rfl : u = Value.ref b := ry
  obtain ⟨mA, O, _⟩ := ins_get I.hok hb
  obtain ⟨od, J, _⟩ := O.look
  exact int_own I.kIn J sf M0.at_ M.at_ M.fn hs (wpAny_mono (run_own (vs := [.ref b, .int n]) F hr hx I (.cons rfl (.cons ⟨t, rfl⟩ .nil)) q) (fun _ _ z => cmpBack z) fun _ _ e => e)
/-- str(x), x of the class C -/
def rStrOwn (C : Addr) (sp : Sp) (E : XK) : List V → Hp → VK → Prop := fun xs H Q => ∃ a dx fs, xs = [.ref a] ∧ H a = some (.ins C dx fs) ∧ sp [.ref a] H (fun v H' => ∃ z, v = .str z ∧ Q v H') E
theorem call_strOwn (M : Meth X.K C "__str__" f) (F : FnR X.prog X.w X.K X.mg X.base CX k f sp) (hr : Room (k + 2) X.A) (hx : Passes CX X E) : CallR X (.type "str") (rStrOwn C sp E) := by
  intro pins s σ H xs us Q I r h
  obtain ⟨a, dx, fs, rfl, ha, q⟩ := h
  obtain ⟨u, rfl, ru⟩ := r.one
  obtain rfl : u = Value.ref a := ru
  obtain ⟨ox, od, J, _⟩ := inst_of I ha
  have hr2 : Room k X.A.in1.in1 := (show Room (k + 1) X.A.in1 from Room.in1 hr).in1
  refine kso_call hr2.units0 I.kIn J M.at_ M.fn (wpAny_mono (wpAny_call (SlX.run_at (us := [.ref a]) (ws := [.ref a]) F hr2 I.env0.in1.in1 hx I (.cons rfl .nil) q)) (fun u' s' z => ?_) fun _ _ x => x)
  obtain ⟨z', H', I', rz, y, ey, qz⟩ := z
  subst ey
  obtain ⟨t, e⟩ := (show ∃ t, u' = Value.str y t from rz)
  subst e
  exact ⟨.str y, H', I', ⟨t, rfl⟩, qz⟩
/-- x.f, read -/
def rFld (K : Frag) (f : Str) : V → Hp → VK → Prop := fun x H Q => ∃ a C dx fs v, x = .ref a ∧ H a = some (.ins C dx fs) ∧ Cls K C ∧ NoAttr K C f ∧ fs.lookup f = some v ∧ Q v H
theorem r_fld {K : Frag} {ta : TE} {f : Str} {σ : L2.St} {H : Hp} {Q : VK} (k : ta σ H fun x H1 => rFld K f x H1 Q) : tFld K ta f σ H Q := k
theorem r_fldAt {K : Frag} {f : Str} {H : Hp} {Q : VK} {a C dx : Addr} {fs : List (Str × V)} {v : V} (h : H a = some (.ins C dx fs)) (c : Cls K C) (n : NoAttr K C f) (l : fs.lookup f = some v) (k : Q v H) : rFld K f (.ref a) H Q := ⟨a, C, dx, fs, v, rfl, h, c, n, l, k⟩
/-- x.f = v -/
def rSFld (K : Frag) (f : Str) : V → V → Hp → (Hp → Prop) → Prop := fun x y H Q => ∃ a C dx fs, x = .ref a ∧ H a = some (.ins C dx fs) ∧ Cls K C ∧ NoAttr K C f ∧ fs.length < 1000 ∧ Q (upd H a (.ins C dx (putF f y fs)))
theorem r_sfld {K : Frag} {ta tv : TE} {f : Str} {D : Ends} {σ : L2.St} {H : Hp} (k : tv σ H fun y H1 => ta σ H1 fun x H2 => rSFld K f x y H2 fun H3 => D.nx σ H3) : sFld K ta tv f D σ H := k
theorem r_sfldAt {K : Frag} {f : Str} {H : Hp} {y : V} {Q : Hp → Prop} {a C dx : Addr} {fs : List (Str × V)} (h : H a = some (.ins C dx fs)) (c : Cls K C) (n : NoAttr K C f) (l : fs.length < 1000) (k : Q (upd H a (.ins C dx (putF f y fs)))) : rSFld K f (.ref a) y H Q := ⟨a, C, dx, fs, rfl, h, c, n, l, k⟩
/-- C(..) -/
theorem r_make {C : Addr} {sp : Sp} {dvs : List V} {E : XK} {t : TA} {σ : L2.St} {H : Hp} {Q : VK} (k : t σ H fun vs H1 => ∀ x dx, H1 x = none → H1 dx = none → dx ≠ x → sp (.ref x :: (vs ++ dvs)) (upd (upd H1 dx (.own x)) x (.ins C dx [])) (fun v H2 => v = .non ∧ Q (.ref x) H2) E) : tMake C sp dvs E t σ H Q := k
/-- x.m(..) -/
def rMeth (C : Addr) (m : Str) (R : V → Hp → Prop) : V → Hp → Prop := fun x H => ∃ a dx fs, x = .ref a ∧ H a = some (.ins C dx fs) ∧ fs.lookup m = none ∧ R x H
theorem r_meth {C : Addr} {m : Str} {sp : Sp} {dvs : List V} {E : XK} {ta : TE} {t : TA} {σ : L2.St} {H : Hp} {Q : VK} (k : ta σ H fun x H1 => rMeth C m (fun x H1 => t σ H1 fun vs H2 => sp (x :: (vs ++ dvs)) H2 Q E) x H1) : tMeth C m sp dvs E ta t σ H Q := k
theorem r_methAt {C a dx : Addr} {m : Str} {fs : List (Str × V)} {R : V → Hp → Prop} {H : Hp} (h : H a = some (.ins C dx fs)) (l : fs.lookup m = none) (k : R (.ref a) H) : rMeth C m R (.ref a) H := ⟨a, dx, fs, rfl, h, l, k⟩
/-- the operators -/
theorem r_own2 {C a b dx dy : Addr} {fs gs : List (Str × V)} {sp : Sp} {E : XK} {H : Hp} {Q : VK} (ha : H a = some (.ins C dx fs)) (hb : H b = some (.ins C dy gs)) (k : sp [.ref a, .ref b] H Q E) : rOwn2 C sp E (.ref a) (.ref b) H Q := ⟨a, dx, fs, b, dy, gs, rfl, rfl, ha, hb, k⟩
theorem r_ownI {C a dx : Addr} {n : Int} {fs : List (Str × V)} {sp : Sp} {E : XK} {H : Hp} {Q : VK} (ha : H a = some (.ins C dx fs)) (k : sp [.ref a, .int n] H Q E) : rOwnI C sp E (.ref a) (.int n) H Q := ⟨a, dx, fs, n, rfl, rfl, ha, k⟩
theorem r_own1 {C a dx : Addr} {fs : List (Str × V)} {sp : Sp} {E : XK} {H : Hp} {Q : VK} (ha : H a = some (.ins C dx fs)) (k : sp [.ref a] H Q E) : rOwn1 C sp E (.ref a) H Q := ⟨a, dx, fs, rfl, ha, k⟩
theorem r_len_str {x : Str} {F : Str → Prop} (k : x.length ≤ sizeLine ∧ F x) : ∃ y, [V.str x] = [.str y] ∧ y.length ≤ sizeLine ∧ F y := ⟨x, rfl, k.1, k.2⟩
/-- what is told of an own class -/
structure OC (K : Frag) (C : Addr) : Prop where
  cl : Cls K C
  sf : selfFirst K C = true
  ca : findIn K (.ref C) "__class__" = some (some (.builtin "object.__class__"))
  cn : specialIn K (.builtin "object.__class__") "__get__" = some (some (.builtin "getset_descriptor.__get__"))
  ct : takesIn K (.builtin "object.__class__") = some true
  cm : mroIn K C (.type "object") = some true
theorem OC.ty {K : Frag} {C a dx : Addr} {H : Hp} {fs : List (Str × V)} (o : OC K C) (h : H a = some (.ins C dx fs)) : TyX K H (.ref a) (.ref C) := .base (.ins h o.cl o.ca o.cn o.ct o.cm)
theorem r_isiOwn {K : Frag} {C a dx : Addr} {H : Hp} {fs : List (Str × V)} {Q : VK} (o : OC K C) (h : H a = some (.ins C dx fs)) (k : Q (.bl true) H) : rIsi K [.ref a, .ref C] H Q := ⟨_, _, _, _, true, rfl, .own C, o.ty h, Er.kit_self, k⟩
theorem r_isiNot {K : Frag} {C a dx : Addr} {T : String} {H : Hp} {fs : List (Str × V)} {Q : VK} (o : OC K C) (h : H a = some (.ins C dx fs)) (hm : kitMeta T = true) (hs : subIn K (.ref C) (.type T) = some false) (k : Q (.bl false) H) : rIsi K [.ref a, .ty T] H Q :=
  ⟨_, _, _, _, false, rfl, .ty T, o.ty h, Er.kit_typ hm hs, k⟩
end
theorem r_intOwn {C b dx : Addr} {n : Int} {fs : List (Str × V)} {sp : Sp} {E : XK} {H : Hp} {Q : VK} (hb : H b = some (.ins C dx fs)) (k : sp [.ref b, .int n] H Q E) : rIntOwn C sp E (.int n) (.ref b) H Q := ⟨b, dx, fs, n, rfl, rfl, hb, k⟩
theorem r_strOwn {C a dx : Addr} {fs : List (Str × V)} {sp : Sp} {E : XK} {H : Hp} {Q : VK} (ha : H a = some (.ins C dx fs)) (k : sp [.ref a] H (fun v H' => ∃ z, v = .str z ∧ Q v H') E) : rStrOwn C sp E [.ref a] H Q := ⟨a, dx, fs, rfl, ha, k⟩
end Ow
namespace Fm
open PySem PySem.Spec PyProof.Rows L2
/-! ### the order of texts -/
theorem lt_irr : ∀ a : List Nat, ltCps a a = false
  | [] => rfl
  | a :: r => by simp [ltCps, lt_irr r]
theorem lt_tr : ∀ {a b c : List Nat}, ltCps a b = true → ltCps b c = true → ltCps a c = true
  | [], [], _, h, _ => by simp [ltCps] at h
  | [], _ :: _, [], _, h => by simp [ltCps] at h
  | [], _ :: _, _ :: _, _, _ => by simp [ltCps]
  | _ :: _, [], _, h, _ => by simp [ltCps] at h
  | _ :: _, _ :: _, [], _, h => by simp [ltCps] at h
  | x :: a, y :: b, z :: c, h, k => by
    simp only [ltCps, Bool.or_eq_true, decide_eq_true_eq, Bool.and_eq_true, beq_iff_eq] at h k ⊢
    rcases h with h | ⟨rfl, h⟩ <;> rcases k with k | ⟨rfl, k⟩
    · exact .inl (Nat.lt_trans h k)
    · exact .inl h
    · exact .inl k
    · exact .inr ⟨rfl, lt_tr h k⟩
theorem lt_tri : ∀ a b : List Nat, a = b ∨ ltCps a b = true ∨ ltCps b a = true
  | [], [] => .inl rfl
  | [], _ :: _ => .inr (.inl rfl)
  | _ :: _, [] => .inr (.inr rfl)
  | x :: a, y :: b => by
    simp only [ltCps, Bool.or_eq_true, decide_eq_true_eq, Bool.and_eq_true, beq_iff_eq]
    rcases Nat.lt_trichotomy x y with h | rfl | h
    · exact .inr (.inl (.inl h))
    · rcases lt_tri a b with rfl | h | h
      · exact .inl rfl
      · exact .inr (.inl (.inr ⟨rfl, h⟩))
      · exact .inr (.inr (.inr ⟨rfl, h⟩))
    · exact .inr (.inr (.inl h))
def Lt (x y : Str) : Prop := ltCps x.cps.toList y.cps.toList = true
theorem Lt.irr {x : Str} (h : Lt x x) : False := by unfold Lt at h; rw [lt_irr] at h; cases h
theorem Lt.tr {x y z : Str} (h : Lt x y) (k : Lt y z) : Lt x z := lt_tr h k
theorem str_ext {x y : Str} (h : x.cps.toList = y.cps.toList) : x = y := by
  cases x; cases y; simp only [Str.mk.injEq]; exact Array.ext' h
theorem Lt.tri (x y : Str) : x = y ∨ Lt x y ∨ Lt y x := (lt_tri x.cps.toList y.cps.toList).imp str_ext id
/-- a sorted row without repetition ascends -/
theorem asc_of_rising : ∀ {l : List Str} {p : Str}, risingS p l = true → (p :: l).Nodup → (p :: l).Pairwise Lt
  | [], _, _, _ => by simp
  | x :: r, p, h, n => by
    have h' : ltCps x.cps.toList p.cps.toList = false ∧ risingS x r = true := by simpa [risingS] using h
    have n' : p ≠ x ∧ (x :: r).Nodup := ⟨fun e => by rw [e] at n; simp at n, (List.nodup_cons.mp n).2⟩
    have ih := asc_of_rising h'.2 n'.2
    have hp : Lt p x := by
      rcases Lt.tri p x with e | e | e
      · exact absurd e n'.1
      · exact e
      · unfold Lt at e; rw [h'.1] at e; cases e
    refine List.pairwise_cons.mpr ⟨fun y hy => ?_, ih⟩
    rcases List.mem_cons.mp hy with rfl | hy
    · exact hp
    · exact hp.tr (List.rel_of_pairwise_cons ih hy)
theorem asc_of_sorted : ∀ {l : List Str}, sortedS l = true → l.Nodup → l.Pairwise Lt
  | [], _, _ => .nil
  | _ :: _, h, n => asc_of_rising h n
/-! ### weights of names -/
abbrev Tm := Str × Int
/-- the weight of a name -/
def wt (ts : List Tm) (x : Str) : Int := ((ts.filter fun p => decide (p.1 = x)).map (·.2)).sum
theorem wt_nil {x : Str} : wt [] x = 0 := rfl
theorem wt_cons {p : Tm} {ts : List Tm} {x : Str} : wt (p :: ts) x = (if p.1 = x then p.2 else 0) + wt ts x := by
  unfold wt
  by_cases h : p.1 = x
  · rw [List.filter_cons_of_pos (by simpa using h), if_pos h]; simp
  · rw [List.filter_cons_of_neg (by simpa using h), if_neg h]; simp
theorem wt_append {x : Str} : ∀ {ts us : List Tm}, wt (ts ++ us) x = wt ts x + wt us x
  | [], us => by rw [List.nil_append, wt_nil, Int.zero_add]
  | p :: ts, us => by rw [List.cons_append, wt_cons, wt_cons, wt_append, Int.add_assoc]
theorem wt_none {x : Str} : ∀ {ts : List Tm}, (∀ p ∈ ts, p.1 ≠ x) → wt ts x = 0
  | [], _ => rfl
  | p :: ts, h => by rw [wt_cons, if_neg (h p (by simp)), wt_none fun q hq => h q (by simp [hq])]; rfl
/-- all weights times k -/
def scl (k : Int) (ts : List Tm) : List Tm := ts.map fun p => (p.1, k * p.2)
theorem wt_scl {k : Int} {x : Str} : ∀ {ts : List Tm}, wt (scl k ts) x = k * wt ts x
  | [] => by simp [scl, wt]
  | p :: ts => by
    show wt ((p.1, k * p.2) :: scl k ts) x = _
    rw [wt_cons, wt_cons, wt_scl, Int.mul_add]
    by_cases h : p.1 = x
    · rw [if_pos h, if_pos h]
    · rw [if_neg h, if_neg h, Int.mul_zero]
def dropN (x : Str) (ts : List Tm) : List Tm := ts.filter fun p => decide (p.1 ≠ x)
theorem wt_drop {x z : Str} : ∀ {ts : List Tm}, wt (dropN x ts) z = if z = x then 0 else wt ts z
  | [] => by simp [dropN, wt]
  | p :: ts => by
    unfold dropN
    by_cases h : p.1 = x
    · rw [List.filter_cons_of_neg (by simpa using h)]
      show wt (dropN x ts) z = _
      rw [wt_drop, wt_cons]
      by_cases hz : z = x
      · rw [if_pos hz, if_pos hz]
      · rw [if_neg hz, if_neg hz, if_neg (fun e => hz (e.symm.trans h)), Int.zero_add]
    · rw [List.filter_cons_of_pos (by simpa using h), wt_cons]
      show _ + wt (dropN x ts) z = _
      rw [wt_drop, wt_cons]
      by_cases hz : z = x
      · rw [if_pos hz, if_pos hz, if_neg (fun e => h (e.trans hz))]; rfl
      · rw [if_neg hz, if_neg hz]
/-- terms as a form has them -/
structure Canon (ts : List Tm) : Prop where
  asc : (ts.map (·.1)).Pairwise Lt
  nz : ∀ p ∈ ts, p.2 ≠ 0
theorem Canon.nil : Canon [] := ⟨by simp, by simp⟩
theorem Canon.tail {p : Tm} {ts : List Tm} (c : Canon (p :: ts)) : Canon ts := ⟨(List.pairwise_cons.mp c.asc).2, fun q hq => c.nz q (by simp [hq])⟩
theorem Canon.lt {p : Tm} {ts : List Tm} (c : Canon (p :: ts)) {q : Tm} (h : q ∈ ts) : Lt p.1 q.1 := (List.pairwise_cons.mp c.asc).1 q.1 (List.mem_map_of_mem h)
theorem Canon.head {p : Tm} {ts : List Tm} (c : Canon (p :: ts)) : wt (p :: ts) p.1 = p.2 := by
  rw [wt_cons, if_pos rfl, wt_none fun q hq e => ?_, Int.add_zero]
  exact (e ▸ c.lt hq).irr
theorem canon_eq : ∀ {ts us : List Tm}, Canon ts → Canon us → (∀ x, wt ts x = wt us x) → ts = us
  | [], [], _, _, _ => rfl
  | [], q :: us, _, d, h => by
    have := h q.1; rw [d.head, wt_nil] at this
    exact absurd this.symm (d.nz q (by simp))
  | p :: ts, [], c, _, h => by
    have := h p.1; rw [c.head, wt_nil] at this
    exact absurd this (c.nz p (by simp))
  | p :: ts, q :: us, c, d, h => by
    have e : p.1 = q.1 := by
      rcases Lt.tri p.1 q.1 with e | e | e
      · exact e
      · have := h p.1
        rw [c.head, wt_none (ts := q :: us) fun r hr z => ?_] at this
        · exact absurd this (c.nz p (by simp))
        · rcases List.mem_cons.mp hr with rfl | hr
          · exact (z ▸ e).irr
          · exact (z ▸ e.tr (d.lt hr)).irr
      · have := h q.1
        rw [d.head, wt_none (ts := p :: ts) fun r hr z => ?_] at this
        · exact absurd this.symm (d.nz q (by simp))
        · rcases List.mem_cons.mp hr with rfl | hr
          · exact (z ▸ e).irr
          · exact (z ▸ e.tr (c.lt hr)).irr
    have e2 : p.2 = q.2 := by rw [← c.head, ← d.head, h, e]
    have ep : p = q := Prod.ext e e2
    subst ep
    rw [canon_eq c.tail d.tail fun x => ?_]
    have := h x
    rw [wt_cons, wt_cons] at this
    omega
/-! ### what is linear in the weights -/
def lin (ts : List Tm) (L : Str → Int) : Int := (ts.map fun p => p.2 * L p.1).sum
theorem lin_nil {L : Str → Int} : lin [] L = 0 := rfl
theorem lin_cons {p : Tm} {ts : List Tm} {L : Str → Int} : lin (p :: ts) L = p.2 * L p.1 + lin ts L := by simp [lin]
theorem lin_append {L : Str → Int} : ∀ {ts us : List Tm}, lin (ts ++ us) L = lin ts L + lin us L
  | [], us => by simp [lin]
  | p :: ts, us => by rw [List.cons_append, lin_cons, lin_cons, lin_append, Int.add_assoc]
theorem lin_scl {k : Int} {L : Str → Int} : ∀ {ts : List Tm}, lin (scl k ts) L = k * lin ts L
  | [] => by simp [scl, lin]
  | p :: ts => by
    show lin ((p.1, k * p.2) :: scl k ts) L = _
    rw [lin_cons, lin_cons, lin_scl, Int.mul_add, Int.mul_assoc]
theorem lin_drop {x : Str} {L : Str → Int} : ∀ {ts : List Tm}, lin ts L = wt ts x * L x + lin (dropN x ts) L
  | [] => by simp [dropN, lin, wt]
  | p :: ts => by
    unfold dropN
    rw [lin_cons, wt_cons, lin_drop (x := x) (ts := ts)]
    by_cases h : p.1 = x
    · rw [List.filter_cons_of_neg (by simpa using h), if_pos h, Int.add_mul, h, Int.add_assoc]; rfl
    · rw [List.filter_cons_of_pos (by simpa using h), if_neg h, lin_cons, Int.zero_add]
      show _ = _ + (_ + lin (dropN x ts) L)
      omega
theorem lin_zero {L : Str → Int} : ∀ (n : Nat) {ts : List Tm}, ts.length ≤ n → (∀ x, wt ts x = 0) → lin ts L = 0
  | _, [], _, _ => rfl
  | 0, _ :: _, h, _ => by simp at h
  | n + 1, p :: ts, h, hz => by
    have l : (dropN p.1 (p :: ts)).length ≤ n := by
      unfold dropN
      rw [List.filter_cons_of_neg (by simp)]
      have := List.length_filter_le (fun q : Tm => decide (q.1 ≠ p.1)) ts
      simp at h; omega
    rw [lin_drop (x := p.1), hz, Int.zero_mul, Int.zero_add]
    refine lin_zero n l fun x => ?_
    rw [wt_drop, hz]; split <;> rfl
theorem lin_of_wt {ts us : List Tm} {L : Str → Int} (h : ∀ x, wt ts x = wt us x) : lin ts L = lin us L := by
  have := lin_zero (L := L) _ (ts := ts ++ scl (-1) us) (Nat.le_refl _) fun x => by rw [wt_append, wt_scl, h]; omega
  rw [lin_append, lin_scl] at this
  omega
/-! ### values in a world: a top and a bottom -/
abbrev Wd := Str → Int × Int
def accV (W : Wd) : List Tm → Int × Int → Int × Int
  | [], s => s
  | p :: ts, s => accV W ts (s.1 * (W p.1).2 + p.2 * (W p.1).1 * s.2, s.2 * (W p.1).2)
theorem acc_lin {W : Wd} {L : Str → Int} {M : Int} : ∀ {ts : List Tm} {s : Int × Int} {S : Int}, (∀ p ∈ ts, (W p.1).1 * M = L p.1 * (W p.1).2) → s.1 * M = s.2 * S → (accV W ts s).1 * M = (accV W ts s).2 * (S + lin ts L)
  | [], s, S, _, h => by rw [lin_nil, Int.add_zero]; exact h
  | p :: ts, s, S, hL, h => by
    have := acc_lin (ts := ts) (s := (s.1 * (W p.1).2 + p.2 * (W p.1).1 * s.2, s.2 * (W p.1).2)) (S := S + p.2 * L p.1) (fun q hq => hL q (by simp [hq])) (by
      have e := hL p (by simp)
      show (s.1 * (W p.1).2 + p.2 * (W p.1).1 * s.2) * M = s.2 * (W p.1).2 * (S + p.2 * L p.1)
      have e1 : s.1 * (W p.1).2 * M = s.2 * (W p.1).2 * S := by
        rw [Int.mul_right_comm, h, Int.mul_right_comm]
      have e2 : p.2 * (W p.1).1 * s.2 * M = s.2 * (W p.1).2 * (p.2 * L p.1) := by
        calc p.2 * (W p.1).1 * s.2 * M = p.2 * s.2 * ((W p.1).1 * M) := by ac_rfl
          _ = p.2 * s.2 * (L p.1 * (W p.1).2) := by rw [e]
          _ = s.2 * (W p.1).2 * (p.2 * L p.1) := by ac_rfl
      rw [Int.add_mul, Int.mul_add, e1, e2])
    rw [lin_cons, ← Int.add_assoc]
    exact this
theorem acc_pos {W : Wd} : ∀ {ts : List Tm} {s : Int × Int}, (∀ p ∈ ts, 0 < (W p.1).2) → 0 < s.2 → 0 < (accV W ts s).2
  | [], _, _, h => h
  | p :: ts, s, hw, h => acc_pos (s := (s.1 * (W p.1).2 + p.2 * (W p.1).1 * s.2, s.2 * (W p.1).2)) (fun q hq => hw q (by simp [hq])) (Int.mul_pos h (hw p (by simp)))
/-- a common bottom -/
theorem common (W : Wd) : ∀ xs : List Str, (∀ x ∈ xs, 0 < (W x).2) → ∃ (M : Int) (L : Str → Int), 0 < M ∧ ∀ x ∈ xs, (W x).1 * M = L x * (W x).2
  | [], _ => ⟨1, fun _ => 0, by decide, by simp⟩
  | x :: xs, h => by
    obtain ⟨M, L, hM, hL⟩ := common W xs fun y hy => h y (by simp [hy])
    refine ⟨M * (W x).2, fun y => if y = x then (W x).1 * M else L y * (W x).2, Int.mul_pos hM (h x (by simp)), fun y hy => ?_⟩
    by_cases e : y = x
    · subst e; simp only [if_true]; ac_rfl
    · have hy' : y ∈ xs := (List.mem_cons.mp hy).resolve_left e
      simp only [if_neg e]
      rw [← Int.mul_assoc, hL y hy']; ac_rfl
/-- the world in which x has another level -/
def moved (W : Wd) (x : Str) (v : Int × Int) : Wd := fun y => if y = x then v else W y
/-- a form put in the place of a quantity has the value that the form has where the quantity has its value -/
theorem put_value {W : Wd} {x : Str} {ts gs us : List Tm} {c cg : Int} {v : Int × Int}
    (hts : ∀ p ∈ ts, p.1 ≠ x → 0 < (W p.1).2) (hgs : ∀ p ∈ gs, 0 < (W p.1).2) (hus : ∀ p ∈ us, 0 < (W p.1).2)
    (hw : ∀ y, wt us y = wt (dropN x ts ++ scl (wt ts x) gs) y) (hv : v.1 * (accV W gs (cg, 1)).2 = (accV W gs (cg, 1)).1 * v.2) (hv0 : 0 < v.2) :
    (accV W us (c + wt ts x * cg, 1)).1 * (accV (moved W x v) ts (c, 1)).2 = (accV (moved W x v) ts (c, 1)).1 * (accV W us (c + wt ts x * cg, 1)).2 := by
  obtain ⟨M, L, hM, hL⟩ := common W ((ts.filter fun p => decide (p.1 ≠ x)).map (·.1) ++ gs.map (·.1) ++ us.map (·.1)) (by
    intro y hy
    simp only [List.mem_append, List.mem_map, List.mem_filter, decide_eq_true_eq] at hy
    rcases hy with (⟨p, ⟨h1, h2⟩, rfl⟩ | ⟨p, h1, rfl⟩) | ⟨p, h1, rfl⟩
    · exact hts p h1 h2
    · exact hgs p h1
    · exact hus p h1)
  have hLg : ∀ p ∈ gs, (W p.1).1 * M = L p.1 * (W p.1).2 := fun p hp => hL _ (by simp only [List.mem_append]; exact .inl (.inr (List.mem_map_of_mem hp)))
  have hLu : ∀ p ∈ us, (W p.1).1 * M = L p.1 * (W p.1).2 := fun p hp => hL _ (by simp only [List.mem_append]; exact .inr (List.mem_map_of_mem hp))
  have hg := acc_lin (s := (cg, 1)) (S := cg * M) hLg (by simp)
  have hu := acc_lin (s := (c + wt ts x * cg, 1)) (S := (c + wt ts x * cg) * M) hLu (by simp)
  have hgp := acc_pos (s := (cg, 1)) hgs Int.one_pos
  have hup := acc_pos (s := (c + wt ts x * cg, 1)) hus Int.one_pos
  -- the value of g over M
  have hvM : v.1 * M = v.2 * (cg * M + lin gs L) := by
    have e : v.1 * M * (accV W gs (cg, 1)).2 = v.2 * (cg * M + lin gs L) * (accV W gs (cg, 1)).2 := by
      rw [Int.mul_right_comm, hv, Int.mul_right_comm, hg]; ac_rfl
    exact Int.eq_of_mul_eq_mul_right (by omega) e
  -- the moved world over M * v.2
  have hm := acc_lin (W := moved W x v) (L := fun y => if y = x then v.1 * M else L y * v.2) (M := M * v.2) (ts := ts) (s := (c, 1)) (S := c * (M * v.2)) (by
    intro p hp
    unfold moved
    by_cases e : p.1 = x
    · simp only [if_pos e]; ac_rfl
    · simp only [if_neg e]
      have := hL p.1 (by simp only [List.mem_append]; exact .inl (.inl (List.mem_map_of_mem (List.mem_filter.mpr ⟨hp, by simpa using e⟩))))
      rw [← Int.mul_assoc, this]; ac_rfl) (by simp)
  have hmp : 0 < (accV (moved W x v) ts (c, 1)).2 := acc_pos (fun p hp => by
    unfold moved
    by_cases e : p.1 = x
    · rw [if_pos e]; exact hv0
    · rw [if_neg e]; exact hts p hp e) Int.one_pos
  have key : c * (M * v.2) + lin ts (fun y => if y = x then v.1 * M else L y * v.2) = v.2 * ((c + wt ts x * cg) * M + lin us L) := by
    rw [lin_drop (x := x), lin_of_wt hw, lin_append, lin_scl]
    have e1 : lin (dropN x ts) (fun y => if y = x then v.1 * M else L y * v.2) = v.2 * lin (dropN x ts) L := by
      have : ∀ l : List Tm, (∀ p ∈ l, p.1 ≠ x) → lin l (fun y => if y = x then v.1 * M else L y * v.2) = v.2 * lin l L := by
        intro l
        induction l with
        | nil => intro _; simp [lin]
        | cons p l ih =>
          intro h
          rw [lin_cons, lin_cons, ih fun q hq => h q (by simp [hq])]
          simp only [if_neg (h p (by simp))]
          rw [Int.mul_add]
          congr 1
          ac_rfl
      exact this _ fun p hp => by simpa [dropN] using (List.mem_filter.mp hp).2
    rw [e1]
    simp only [if_true]
    rw [hvM]
    simp only [Int.mul_add, Int.add_mul]
    have a1 : c * (M * v.2) = v.2 * (c * M) := by ac_rfl
    have a2 : wt ts x * (v.2 * (cg * M)) = v.2 * (wt ts x * cg * M) := by ac_rfl
    have a3 : wt ts x * (v.2 * lin gs L) = v.2 * (wt ts x * lin gs L) := by ac_rfl
    omega
  rw [key] at hm
  generalize accV W us (c + wt ts x * cg, 1) = U at *
  generalize accV (moved W x v) ts (c, 1) = T at *
  generalize (c + wt ts x * cg) * M + lin us L = S at *
  have : U.1 * T.2 * (M * v.2) = T.1 * U.2 * (M * v.2) := by
    calc U.1 * T.2 * (M * v.2) = (U.1 * M) * (T.2 * v.2) := by ac_rfl
      _ = (U.2 * S) * (T.2 * v.2) := by rw [hu]
      _ = (T.2 * (v.2 * S)) * U.2 := by ac_rfl
      _ = (T.1 * (M * v.2)) * U.2 := by rw [hm]
      _ = T.1 * U.2 * (M * v.2) := by ac_rfl
  exact Int.eq_of_mul_eq_mul_right (by have := Int.mul_pos hM hv0; omega) this
/-! ### the terms of a form, by its pairs -/
instance : DecidableRel Lt := fun x y => inferInstanceAs (Decidable (ltCps x.cps.toList y.cps.toList = true))
def ins (x : Str) (w : Int) : List Tm → List Tm
  | [] => if w = 0 then [] else [(x, w)]
  | p :: us => if x = p.1 then (if w + p.2 = 0 then us else (x, w + p.2) :: us) else if Lt x p.1 then (if w = 0 then p :: us else (x, w) :: p :: us) else p :: ins x w us
theorem ins_mem {x : Str} {w : Int} : ∀ {us : List Tm} {q : Tm}, q ∈ ins x w us → q.1 = x ∨ q ∈ us
  | [], q, h => by
    unfold ins at h; split at h
    · cases h
    · rw [List.mem_singleton.mp h]; exact .inl rfl
  | p :: us, q, h => by
    unfold ins at h
    split at h
    · split at h
      · exact .inr (by simp [h])
      · rcases List.mem_cons.mp h with rfl | h
        · exact .inl rfl
        · exact .inr (by simp [h])
    · split at h
      · split at h
        · exact .inr h
        · rcases List.mem_cons.mp h with rfl | h
          · exact .inl rfl
          · exact .inr h
      · rcases List.mem_cons.mp h with rfl | h
        · exact .inr (by simp)
        · exact (ins_mem h).imp id fun z => by simp [z]
theorem Canon.cons {p : Tm} {us : List Tm} (h : ∀ q ∈ us, Lt p.1 q.1) (n : p.2 ≠ 0) (c : Canon us) : Canon (p :: us) :=
  ⟨List.pairwise_cons.mpr ⟨fun y hy => by obtain ⟨q, hq, rfl⟩ := List.mem_map.mp hy; exact h q hq, c.asc⟩, fun q hq => by
    rcases List.mem_cons.mp hq with rfl | hq
    · exact n
    · exact c.nz q hq⟩
theorem ins_canon {x : Str} {w : Int} : ∀ {us : List Tm}, Canon us → Canon (ins x w us)
  | [], _ => by
    unfold ins; split
    · exact .nil
    · next h => exact .cons (by simp) h .nil
  | p :: us, c => by
    unfold ins
    split
    · next e =>
      split
      · exact c.tail
      · next h => exact .cons (fun q hq => e ▸ c.lt hq) h c.tail
    · next e =>
      split
      · next l =>
        split
        · exact c
        · next h => exact .cons (fun q hq => by
            rcases List.mem_cons.mp hq with rfl | hq
            · exact l
            · exact l.tr (c.lt hq)) h c
      · next l =>
        have l' : Lt p.1 x := by
          rcases Lt.tri x p.1 with z | z | z
          · exact absurd z e
          · exact absurd z l
          · exact z
        refine .cons (fun q hq => ?_) (c.nz p (by simp)) (ins_canon c.tail)
        rcases ins_mem hq with z | z
        · rw [z]; exact l'
        · exact c.lt z
theorem ins_wt {x y : Str} {w : Int} : ∀ {us : List Tm}, wt (ins x w us) y = (if x = y then w else 0) + wt us y
  | [] => by
    unfold ins; split
    · next h => subst h; simp [wt]
    · rw [wt_cons]
  | p :: us => by
    unfold ins
    split
    · next e =>
      split
      · next h =>
        rw [wt_cons, ← e]
        split <;> omega
      · rw [wt_cons, wt_cons, ← e]
        dsimp only
        split <;> omega
    · split
      · split
        · next h => subst h; simp
        · rw [wt_cons]
      · rw [wt_cons, ins_wt, wt_cons]; omega
def can : List Tm → List Tm
  | [] => []
  | p :: ts => ins p.1 p.2 (can ts)
theorem can_canon : ∀ ts : List Tm, Canon (can ts)
  | [] => .nil
  | _ :: ts => ins_canon (can_canon ts)
theorem can_wt : ∀ (ts : List Tm) (x : Str), wt (can ts) x = wt ts x
  | [], _ => rfl
  | p :: ts, x => by
    show wt (ins p.1 p.2 (can ts)) x = _
    rw [ins_wt, can_wt, wt_cons]
theorem can_eq {us ts : List Tm} (c : Canon us) (h : ∀ x, wt us x = wt ts x) : us = can ts := canon_eq c (can_canon ts) fun x => by rw [h, can_wt]
theorem can_can {ts us : List Tm} (h : ∀ x, wt ts x = wt us x) : can ts = can us := can_eq (can_canon ts) fun x => by rw [can_wt, h]
theorem can_self {ts : List Tm} (c : Canon ts) : can ts = ts := (can_eq c fun _ => rfl).symm
theorem Canon.wt_mem {ts : List Tm} (c : Canon ts) {p : Tm} (h : p ∈ ts) : wt ts p.1 = p.2 := by
  induction ts with
  | nil => cases h
  | cons q ts ih =>
    rcases List.mem_cons.mp h with rfl | h
    · exact c.head
    · rw [wt_cons, if_neg (fun e => (e ▸ c.lt h).irr), Int.zero_add]; exact ih c.tail h
theorem mem_of_wt {ts : List Tm} {x : Str} (h : wt ts x ≠ 0) : ∃ p ∈ ts, p.1 = x := Decidable.byContradiction fun n => h (wt_none fun p hp e => n ⟨p, hp, e⟩)
theorem can_mem {ts : List Tm} {u : Tm} (h : u ∈ can ts) : (∃ p ∈ ts, p.1 = u.1) ∧ u.2 = wt ts u.1 := by
  have c := can_canon ts
  have e := c.wt_mem h
  rw [can_wt] at e
  exact ⟨mem_of_wt (by rw [e]; exact c.nz u h), e.symm⟩
theorem ins_len {x : Str} {w : Int} : ∀ {us : List Tm}, (ins x w us).length ≤ us.length + 1
  | [] => by unfold ins; split <;> simp
  | p :: us => by
    unfold ins
    have := ins_len (x := x) (w := w) (us := us)
    repeat' split
    all_goals simp
    all_goals omega
theorem can_len : ∀ ts : List Tm, (can ts).length ≤ ts.length
  | [] => Nat.le_refl _
  | p :: ts => by
    have := can_len ts
    have := ins_len (x := p.1) (w := p.2) (us := can ts)
    show (ins p.1 p.2 (can ts)).length ≤ ts.length + 1
    omega
theorem wt_bound {B : Nat} {x : Str} : ∀ {ts : List Tm}, (∀ p ∈ ts, p.2.natAbs ≤ B) → (wt ts x).natAbs ≤ ts.length * B
  | [], _ => by simp [wt]
  | p :: ts, h => by
    have a := h p (by simp)
    have b := wt_bound (x := x) (ts := ts) fun q hq => h q (by simp [hq])
    rw [wt_cons, List.length_cons, Nat.succ_mul]
    split <;> omega
/-- a form within bounds: weights and constant below 2 ^ k, at most n terms, names that keep N -/
structure FOk (N : Str → Prop) (n k : Nat) (ts : List Tm) (c : Int) : Prop where
  can : Canon ts
  len : ts.length ≤ n
  nm : ∀ p ∈ ts, N p.1
  wb : ∀ p ∈ ts, p.2.natAbs < 2 ^ k
  cb : c.natAbs < 2 ^ k
theorem pow6 {m n k : Nat} (h : n ≤ 64) (hm : m ≤ n * 2 ^ k) : m ≤ 2 ^ (k + 6) := by
  refine Nat.le_trans hm ?_
  rw [Nat.pow_add, Nat.mul_comm]
  exact Nat.mul_le_mul_left _ h
/-- what is made of pairs is a form -/
theorem can_ok {N : Str → Prop} {k : Nat} {ts : List Tm} {c : Int} (hl : ts.length ≤ 60) (hn : ∀ p ∈ ts, N p.1) (hb : ∀ p ∈ ts, p.2.natAbs < 2 ^ k) (hc : c.natAbs < 2 ^ (k + 6)) : FOk N ts.length (k + 6) (can ts) c := by
  refine ⟨can_canon ts, can_len ts, fun u hu => ?_, fun u hu => ?_, hc⟩
  · obtain ⟨⟨p, hp, e⟩, _⟩ := can_mem hu
    rw [← e]; exact hn p hp
  · obtain ⟨_, e⟩ := can_mem hu
    rw [e]
    have h1 := wt_bound (x := u.1) (B := 2 ^ k) (ts := ts) fun p hp => Nat.le_of_lt (hb p hp)
    have h2 : ts.length * 2 ^ k < 64 * 2 ^ k := Nat.mul_lt_mul_of_pos_right (by omega) (Nat.pow_pos (by decide))
    have h3 : 64 * 2 ^ k = 2 ^ (k + 6) := by rw [Nat.pow_add, Nat.mul_comm]
    omega
/-! ### a row made by names -/
def rowOf (ys : List Str) (f : Str → Int) : List Tm := (ys.map fun x => (x, f x)).filter fun p => decide (p.2 ≠ 0)
theorem wt_rowOf {f : Str → Int} {x : Str} : ∀ {ys : List Str}, ys.Nodup → wt (rowOf ys f) x = if x ∈ ys then f x else 0
  | [], _ => by simp [rowOf, wt]
  | y :: ys, n => by
    have ih := wt_rowOf (f := f) (x := x) (List.nodup_cons.mp n).2
    unfold rowOf at ih ⊢
    rw [List.map_cons]
    by_cases h : f y = 0
    · rw [List.filter_cons_of_neg (by simpa using h), ih]
      by_cases e : x = y
      · subst e; rw [if_neg (List.nodup_cons.mp n).1, if_pos (by simp), h]
      · simp [e]
    · rw [List.filter_cons_of_pos (by simpa using h), wt_cons, ih]
      by_cases e : y = x
      · subst e; rw [if_pos rfl, if_neg (List.nodup_cons.mp n).1, if_pos (by simp), Int.add_zero]
      · have e' : ¬ x = y := fun z => e z.symm
        simp [e, e']
theorem canon_rowOf {f : Str → Int} {ys : List Str} (h : ys.Pairwise Lt) : Canon (rowOf ys f) := by
  refine ⟨?_, fun p hp => by simpa using (List.mem_filter.mp hp).2⟩
  unfold rowOf
  have : ((ys.map fun x => (x, f x)).map (·.1)).Pairwise Lt := by simpa [List.map_map, Function.comp_def] using h
  exact this.sublist ((List.filter_sublist).map _)
theorem rowOf_can {ts : List Tm} {ys : List Str} (h : ys.Pairwise Lt) (n : ys.Nodup) (hm : ∀ p ∈ ts, p.1 ∈ ys) : rowOf ys (wt ts) = can ts := can_eq (canon_rowOf h) fun x => by
  rw [wt_rowOf n]
  split
  · rfl
  · next e => exact (wt_none fun p hp z => e (by have := hm p hp; rw [z] at this; exact this)).symm
theorem rowOf_snoc {f : Str → Int} {ys : List Str} {y : Str} : rowOf (ys ++ [y]) f = if f y ≠ 0 then rowOf ys f ++ [(y, f y)] else rowOf ys f := by
  unfold rowOf
  rw [List.map_append, List.filter_append]
  by_cases h : f y = 0 <;> simp [h]
/-! ### sums by names in a dict -/
def putT (ks : List Tm) (x : Str) (v : Int) : List Tm := if (ks.any fun p => decide (p.1 = x)) = true then ks.map (fun p => if p.1 = x then (p.1, v) else p) else ks ++ [(x, v)]
def kOf (ks : List Tm) : List (Key × V) := ks.map fun p => (Sum.inr p.1, V.int p.2)
theorem val_kOf {x : Str} : ∀ {ks : List Tm}, valV (kOf ks) (Sum.inr x) = (ks.find? fun p => decide (p.1 = x)).map fun p => V.int p.2
  | [] => rfl
  | p :: ks => by
    by_cases h : p.1 = x
    · have : valV (kOf (p :: ks)) (Sum.inr x) = some (V.int p.2) := valV_pos (by show Sum.inr p.1 = Sum.inr x; rw [h])
      rw [this, List.find?_cons_of_pos (by simpa using h)]; rfl
    · have : valV (kOf (p :: ks)) (Sum.inr x) = valV (kOf ks) (Sum.inr x) := valV_neg (fun e => h (Sum.inr.inj e))
      rw [this, List.find?_cons_of_neg (by simpa using h)]; exact val_kOf
theorem put_kOf {ks : List Tm} {x : Str} {v : Int} : putK (kOf ks) (Sum.inr x) (V.int v) = kOf (putT ks x v) := by
  unfold putK putT
  have e : ((kOf ks).any fun kv => decide (kv.1 = Sum.inr x)) = ks.any fun p => decide (p.1 = x) := by
    unfold kOf; rw [List.any_map]; congr 1; funext p; simp
  rw [e]
  split
  · unfold kOf; rw [List.map_map, List.map_map]; congr 1; funext p
    simp only [Function.comp, Sum.inr.injEq]
    split <;> rfl
  · unfold kOf; rw [List.map_append]; rfl
/-- the sums so far -/
structure Sums (ks ts : List Tm) : Prop where
  nd : (ks.map (·.1)).Nodup
  iff : ∀ x, (x ∈ ks.map (·.1)) ↔ x ∈ ts.map (·.1)
  val : ∀ p ∈ ks, p.2 = wt ts p.1
  len : ks.length ≤ ts.length
theorem Sums.nil : Sums [] [] := ⟨by simp, by simp, by simp, Nat.le_refl _⟩
theorem Sums.find {ks ts : List Tm} (h : Sums ks ts) (x : Str) : ((ks.find? fun p => decide (p.1 = x)).map fun p => V.int p.2) = if x ∈ ts.map (·.1) then some (V.int (wt ts x)) else none := by
  cases e : ks.find? fun p => decide (p.1 = x) with
  | none =>
    have n : x ∉ ks.map (·.1) := fun z => by
      obtain ⟨p, hp, rfl⟩ := List.mem_map.mp z
      have := List.find?_eq_none.mp e p hp
      simp at this
    rw [if_neg (fun z => n ((h.iff x).mpr z))]; rfl
  | some p =>
    have hp := List.mem_of_find?_eq_some e
    have hx : p.1 = x := by simpa using List.find?_some e
    have : x ∈ ts.map (·.1) := (h.iff x).mp (hx ▸ List.mem_map_of_mem hp)
    rw [if_pos this]
    show some (V.int p.2) = _
    rw [h.val p hp, hx]
theorem Sums.put {ks ts : List Tm} (h : Sums ks ts) (p : Tm) : Sums (putT ks p.1 (wt ts p.1 + p.2)) (ts ++ [p]) := by
  have hw : ∀ x, wt (ts ++ [p]) x = wt ts x + if p.1 = x then p.2 else 0 := fun x => by rw [wt_append, wt_cons, wt_nil, Int.add_zero]
  unfold putT
  by_cases c : (ks.any fun q => decide (q.1 = p.1)) = true
  · rw [if_pos c]
    obtain ⟨q, hq, eq⟩ := List.any_eq_true.mp c
    have eq' : q.1 = p.1 := by simpa using eq
    have e : ((ks.map fun q => if q.1 = p.1 then (q.1, wt ts p.1 + p.2) else q).map (·.1)) = ks.map (·.1) := by
      rw [List.map_map]; congr 1; funext r; simp only [Function.comp]; split <;> rfl
    refine ⟨by rw [e]; exact h.nd, fun x => ?_, fun r hr => ?_, by rw [List.length_map, List.length_append]; have := h.len; simp; omega⟩
    · rw [e, h.iff, List.map_append]
      constructor
      · intro z; simp only [List.mem_append]; exact .inl z
      · intro z
        rcases List.mem_append.mp z with z | z
        · exact z
        · have : x = p.1 := by simpa using z
          rw [this, ← eq']; exact (h.iff _).mp (List.mem_map_of_mem hq)
    · obtain ⟨s, hs, rfl⟩ := List.mem_map.mp hr
      rw [hw]
      by_cases z : s.1 = p.1
      · simp only [if_pos z]; rw [if_pos z.symm, z]
      · simp only [if_neg z]; rw [if_neg (fun e => z e.symm), Int.add_zero]; exact h.val s hs
  · rw [if_neg c]
    have n : p.1 ∉ ks.map (·.1) := fun z => by
      obtain ⟨q, hq, e⟩ := List.mem_map.mp z
      exact c (List.any_eq_true.mpr ⟨q, hq, by simpa using e⟩)
    have n' : p.1 ∉ ts.map (·.1) := fun z => n ((h.iff _).mpr z)
    have w0 : wt ts p.1 = 0 := wt_none fun q hq e => n' (e ▸ List.mem_map_of_mem hq)
    refine ⟨?_, fun x => ?_, fun r hr => ?_, by have := h.len; simp; omega⟩
    · rw [List.map_append]
      refine List.nodup_append.mpr ⟨h.nd, by simp, fun x hx y hy e => n ?_⟩
      have hy' : y = p.1 := by simpa using hy
      rw [← hy', ← e]
      exact hx
    · simp only [List.map_append, List.mem_append, h.iff]; simp
    · rw [hw]
      rcases List.mem_append.mp hr with hr | hr
      · have : ¬ p.1 = r.1 := fun e => n (e ▸ List.mem_map_of_mem hr)
        rw [if_neg this, Int.add_zero]; exact h.val r hr
      · rw [List.mem_singleton.mp hr]; simp
/-! ### sizes -/
theorem natAbs_mul_lt {x y : Int} {a b : Nat} (hx : x.natAbs < 2 ^ a) (hy : y.natAbs < 2 ^ b) : (x * y).natAbs < 2 ^ (a + b) := wide_lt hx hy
theorem natAbs_add_lt {x y : Int} {a : Nat} (hx : x.natAbs < 2 ^ a) (hy : y.natAbs < 2 ^ a) : (x + y).natAbs < 2 ^ (a + 1) := by
  have := Int.natAbs_add_le x y
  rw [Nat.pow_succ]; omega
theorem pow_le {x : Int} {a b : Nat} (h : x.natAbs < 2 ^ a) (hab : a ≤ b) : x.natAbs < 2 ^ b := Nat.lt_of_lt_of_le h (Nat.pow_le_pow_right (by decide) hab)
/-- the sizes of a value under way: weights and constant below 2 ^ a, tops below 2 ^ b, bottoms below 2 ^ g -/
theorem acc_boundG {W : Wd} (a b g : Nat) : ∀ {ts : List Tm} {s : Int × Int} {i : Nat}, (∀ p ∈ ts, p.2.natAbs < 2 ^ a ∧ (W p.1).1.natAbs < 2 ^ b ∧ (W p.1).2.natAbs < 2 ^ g) → s.1.natAbs < 2 ^ (a + 1 + (b + g + 1) * i) → s.2.natAbs < 2 ^ (1 + g * i) →
    (accV W ts s).1.natAbs < 2 ^ (a + 1 + (b + g + 1) * (i + ts.length)) ∧ (accV W ts s).2.natAbs < 2 ^ (1 + g * (i + ts.length))
  | [], _, _, _, h1, h2 => ⟨h1, h2⟩
  | p :: ts, s, i, h, h1, h2 => by
    obtain ⟨ha, hb, hc⟩ := h p (by simp)
    have m1 : (b + g + 1) * (i + 1) = (b + g + 1) * i + (b + g + 1) := Nat.mul_succ _ _
    have m2 : g * (i + 1) = g * i + g := Nat.mul_succ _ _
    have m3 : g * i ≤ (b + g + 1) * i := Nat.mul_le_mul_right i (by omega)
    have e1 : (s.1 * (W p.1).2).natAbs < 2 ^ (a + 1 + (b + g + 1) * i + (b + g)) := pow_le (natAbs_mul_lt h1 hc) (by omega)
    have e2 : (p.2 * (W p.1).1 * s.2).natAbs < 2 ^ (a + 1 + (b + g + 1) * i + (b + g)) := pow_le (natAbs_mul_lt (natAbs_mul_lt ha hb) h2) (by omega)
    have e3 := natAbs_add_lt e1 e2
    have := acc_boundG (W := W) a b g (ts := ts) (s := (s.1 * (W p.1).2 + p.2 * (W p.1).1 * s.2, s.2 * (W p.1).2)) (i := i + 1) (fun q hq => h q (by simp [hq])) (pow_le e3 (by omega)) (pow_le (natAbs_mul_lt h2 hc) (by omega))
    rw [List.length_cons, show i + (ts.length + 1) = i + 1 + ts.length by omega]
    exact this
theorem acc_bound {W : Wd} {ts : List Tm} {c : Int} (h : ∀ p ∈ ts, p.2.natAbs < 2 ^ 400 ∧ (W p.1).1.natAbs < 2 ^ 1000 ∧ (W p.1).2.natAbs < 2 ^ 401) (hc : c.natAbs < 2 ^ 400) :
    (accV W ts (c, 1)).1.natAbs < 2 ^ (401 + 1402 * ts.length) ∧ (accV W ts (c, 1)).2.natAbs < 2 ^ (1 + 401 * ts.length) := by
  have := acc_boundG (W := W) 400 1000 401 (ts := ts) (s := (c, 1)) (i := 0) h (pow_le hc (by omega)) (show (1 : Int).natAbs < 2 ^ (1 + 401 * 0) by decide)
  rw [Nat.zero_add] at this
  exact this
theorem accV_append {W : Wd} : ∀ {ts us : List Tm} {s : Int × Int}, accV W (ts ++ us) s = accV W us (accV W ts s)
  | [], _, _ => rfl
  | p :: ts, us, s => accV_append (ts := ts)
theorem nodup_len : ∀ {l xs : List Str}, l.Nodup → (∀ x ∈ l, x ∈ xs) → l.length ≤ xs.length
  | [], _, _, _ => Nat.zero_le _
  | x :: l, xs, n, h => by
    have hx := h x (by simp)
    have := nodup_len (l := l) (xs := xs.erase x) (List.nodup_cons.mp n).2 fun y hy => (List.mem_erase_of_ne (fun e => (List.nodup_cons.mp n).1 (by rw [← e]; exact hy))).mpr (h y (by simp [hy]))
    rw [List.length_erase_of_mem hx] at this
    have := List.length_pos_of_mem hx
    rw [List.length_cons]; omega
theorem Canon.nodup {ts : List Tm} (c : Canon ts) : (ts.map (·.1)).Nodup := c.asc.imp fun {a b} h (e : a = b) => by subst e; exact h.irr
theorem Canon.short {ts : List Tm} {xs : List Str} (c : Canon ts) (h : ∀ p ∈ ts, p.1 ∈ xs) : ts.length ≤ xs.length := by
  have := nodup_len c.nodup fun x hx => by
    obtain ⟨p, hp, rfl⟩ := List.mem_map.mp hx
    exact h p hp
  rwa [List.length_map] at this
end Fm
/-! ### the pot of a law, pairs in lowest terms -/
def Pot (P : List V) : Prop := ∃ (pos car cnt mix : Int) (sc : List Int), P = V.int pos :: V.int car :: V.int cnt :: V.int mix :: sc.map V.int ∧ 4 ≤ pos ∧ 0 ≤ car ∧ 0 ≤ mix ∧ mix < 2147483647 ∧ sc.length ≤ 63
def PotAt (a : Addr) (H : Hp) : Prop := ∃ P, H a = some (.lst P) ∧ Pot P
theorem pot_at {x0 x1 x2 x3 : V} {sc : List Int} {i : Int} (h : 4 ≤ i) (h2 : i < sc.length + 4) : atI (x0 :: x1 :: x2 :: x3 :: sc.map V.int) i = some (.int (sc.getD (i.toNat - 4) 0)) := by
  obtain ⟨n, rfl⟩ : ∃ n : Nat, i = ((n + 4 : Nat) : Int) := ⟨i.toNat - 4, by omega⟩
  refine atI_nat ?_
  have h3 : n < sc.length := by omega
  have e : ((n + 4 : Nat) : Int).toNat - 4 = n := by omega
  rw [e, List.getElem?_cons_succ, List.getElem?_cons_succ, List.getElem?_cons_succ, List.getElem?_cons_succ, List.getElem?_map, List.getElem?_eq_getElem h3, List.getD_eq_getElem?_getD, List.getElem?_eq_getElem h3]
  rfl
def spTake : Sp := fun vs H Q _ => ∃ (a : Addr) (n : Int), vs = [.ref a, .int n] ∧ PotAt a H ∧ 0 < n ∧ n < 2 ^ 200 ∧ ∀ (r : Int) (H' : Hp), 0 ≤ r → r < n → Keep [a] H H' → PotAt a H' → Q (.int r) H'
theorem PotAt.new {a p : Addr} {o : HO} {H : Hp} (h : PotAt a H) (n : H p = none) : PotAt a (upd H p o) := by
  obtain ⟨P, hP, hp⟩ := h
  exact ⟨P, by rw [upd_ne (ne_of_none hP n)]; exact hP, hp⟩
theorem PotAt.put {a p : Addr} {o : HO} {H : Hp} (h : PotAt a H) (n : p ≠ a) : PotAt a (upd H p o) := by
  obtain ⟨P, hP, hp⟩ := h
  exact ⟨P, by rw [upd_ne n.symm]; exact hP, hp⟩
theorem PotAt.ne' {a p : Addr} {xs : List V} {H : Hp} (h : PotAt a H) (h2 : H p = some (.lst xs)) (n : ¬ Pot xs) : p ≠ a := by
  obtain ⟨P, hP, hp⟩ := h
  rintro rfl
  rw [hP] at h2; cases h2; exact n hp
theorem PotAt.ne {a p : Addr} {H : Hp} (h : PotAt a H) (n : H p = none) : p ≠ a := by
  obtain ⟨P, hP, _⟩ := h
  exact ne_free hP n
section
variable {Q : VK} {E : XK} {H : Hp}
theorem r_take {a : Addr} {n : Int} (hp : PotAt a H) (h0 : 0 < n) (h1 : n < 2 ^ 200) (k : ∀ (r : Int) (H' : Hp), 0 ≤ r → r < n → Keep [a] H H' → PotAt a H' → Q (.int r) H') : spTake [.ref a, .int n] H Q E := ⟨a, n, rfl, hp, h0, h1, k⟩
/-- a def of the pot that gives an int below m in size -/
def spPotInt (m : Nat) : Sp := fun vs H Q _ => ∃ a : Addr, vs = [.ref a] ∧ PotAt a H ∧ ∀ (r : Int) (H' : Hp), r.natAbs < m → Keep [a] H H' → PotAt a H' → Q (.int r) H'
theorem r_potInt {m : Nat} {a : Addr} (hp : PotAt a H) (k : ∀ (r : Int) (H' : Hp), r.natAbs < m → Keep [a] H H' → PotAt a H' → Q (.int r) H') : spPotInt m [.ref a] H Q E := ⟨a, rfl, hp, k⟩
def spPot (K : PySem.W.Frag) : Sp := fun vs H Q _ => ∃ (a : Addr) (ns : List Int), vs = [.ref a] ∧ SqL K H a (ns.map V.int) ∧ ns.length ≤ 63 ∧ ∀ (p : Addr) (H' : Hp), Keep [] H H' → H p = none → PotAt p H' → Q (.ref p) H'
/-- the divisor with the bottom's sign, and the pair in lowest terms -/
def dv (t b : Int) : Int := if b < 0 then -((Nat.gcd t.natAbs b.natAbs : Nat) : Int) else ((Nat.gcd t.natAbs b.natAbs : Nat) : Int)
def lowT (t b : Int) : Int := t.fdiv (dv t b)
def lowB (t b : Int) : Int := b.fdiv (dv t b)
def spLow : Sp := fun vs H Q _ => ∃ t b : Int, vs = [.int t, .int b] ∧ b ≠ 0 ∧ b.natAbs < 2 ^ 8000 ∧ ∀ (p : Addr) (H' : Hp), Keep [] H H' → H p = none → H' p = some (.tup [.int (lowT t b), .int (lowB t b)]) → Q (.ref p) H'
theorem r_low {t b : Int} (hb : b ≠ 0) (hz : b.natAbs < 2 ^ 8000) (k : ∀ (p : Addr) (H' : Hp), Keep [] H H' → H p = none → H' p = some (.tup [.int (lowT t b), .int (lowB t b)]) → Q (.ref p) H') : spLow [.int t, .int b] H Q E := ⟨t, b, rfl, hb, hz, k⟩
end
theorem gcd_pos {t b : Int} (h : b ≠ 0) : 0 < Nat.gcd t.natAbs b.natAbs := Nat.gcd_pos_of_pos_right _ (by omega)
theorem gcd_le {t b : Int} (h : b ≠ 0) : Nat.gcd t.natAbs b.natAbs ≤ b.natAbs := Nat.gcd_le_right _ (by omega)
theorem dv_ne {t b : Int} (h : b ≠ 0) : dv t b ≠ 0 := by
  have := gcd_pos (t := t) h
  unfold dv; split <;> omega
theorem dv_abs {t b : Int} : (dv t b).natAbs = Nat.gcd t.natAbs b.natAbs := by
  unfold dv; split <;> omega
theorem pow_mono {n : Nat} (a b : Nat) (h : n < 2 ^ a) (hab : a ≤ b := by decide) : n < 2 ^ b := Nat.lt_of_lt_of_le h (Nat.pow_le_pow_right (by decide) hab)
theorem lowT_one {x : Int} : lowT x 1 = x := by
  unfold lowT dv
  rw [if_neg (by decide), show (1 : Int).natAbs = 1 from rfl, Nat.gcd_one_right]
  exact Int.fdiv_one x
theorem lowB_one {x : Int} : lowB x 1 = 1 := by
  unfold lowB dv
  rw [if_neg (by decide), show (1 : Int).natAbs = 1 from rfl, Nat.gcd_one_right]
  rfl
theorem natAbs_fdiv_le {x g : Int} (hg : g ≠ 0) (hd : g ∣ x) : (x.fdiv g).natAbs ≤ x.natAbs := by
  obtain ⟨k, rfl⟩ := hd
  rw [Int.mul_fdiv_cancel_left _ hg, Int.natAbs_mul]
  exact Nat.le_mul_of_pos_left _ (by omega)
theorem dv_dvd_t {t b : Int} : dv t b ∣ t := by
  have h : ((Nat.gcd t.natAbs b.natAbs : Nat) : Int) ∣ t := Int.ofNat_dvd_left.mpr (Nat.gcd_dvd_left _ _)
  unfold dv; split
  · exact (Int.neg_dvd).mpr h
  · exact h
theorem dv_dvd_b {t b : Int} : dv t b ∣ b := by
  have h : ((Nat.gcd t.natAbs b.natAbs : Nat) : Int) ∣ b := Int.ofNat_dvd_left.mpr (Nat.gcd_dvd_right _ _)
  unfold dv; split
  · exact (Int.neg_dvd).mpr h
  · exact h
theorem lowT_le {t b : Int} (h : b ≠ 0) : (lowT t b).natAbs ≤ t.natAbs := natAbs_fdiv_le (dv_ne h) dv_dvd_t
theorem lowB_le {t b : Int} (h : b ≠ 0) : (lowB t b).natAbs ≤ b.natAbs := natAbs_fdiv_le (dv_ne h) dv_dvd_b
theorem lowB_ne {t b : Int} (h : b ≠ 0) : lowB t b ≠ 0 := by
  intro e
  have hd := dv_ne (t := t) h
  have h2 : b = dv t b * lowB t b := by
    unfold lowB
    rw [Int.mul_comm]; exact (Int.fdiv_mul_cancel dv_dvd_b).symm
  rw [e, Int.mul_zero] at h2
  exact h h2
theorem sgn_abs {s x : Int} (h0 : 0 ≤ s) (h1 : s < 2) : ((1 - 2 * s) * x).natAbs = x.natAbs := by
  have h : s = 0 ∨ s = 1 := by omega
  rcases h with rfl | rfl <;> omega
section
variable {Q : VK} {E : XK} {H : Hp}
/-- two pairs, made one in lowest terms -/
def spTwo (f : Int → Int → Int → Int → Int × Int) : Sp := fun vs H Q _ => ∃ (p q : Addr) (a b c d : Int), vs = [.ref p, .ref q] ∧ H p = some (.tup [.int a, .int b]) ∧ H q = some (.tup [.int c, .int d]) ∧ b ≠ 0 ∧ d ≠ 0 ∧ a.natAbs < 2 ^ 9000 ∧ b.natAbs < 2 ^ 3000 ∧ c.natAbs < 2 ^ 9000 ∧ d.natAbs < 2 ^ 3000 ∧
  ∀ (r : Addr) (H' : Hp), Keep [] H H' → H r = none → H' r = some (.tup [.int (lowT (f a b c d).1 (f a b c d).2), .int (lowB (f a b c d).1 (f a b c d).2)]) → Q (.ref r) H'
def fPlus (a b c d : Int) : Int × Int := (a * d + c * b, b * d)
def fTimes (a b c d : Int) : Int × Int := (a * c, b * d)
theorem r_two {f : Int → Int → Int → Int → Int × Int} {p q : Addr} {a b c d : Int} (hp : H p = some (.tup [.int a, .int b])) (hq : H q = some (.tup [.int c, .int d])) (hb : b ≠ 0) (hd : d ≠ 0) (za : a.natAbs < 2 ^ 9000) (zb : b.natAbs < 2 ^ 3000) (zc : c.natAbs < 2 ^ 9000) (zd : d.natAbs < 2 ^ 3000)
  (k : ∀ (r : Addr) (H' : Hp), Keep [] H H' → H r = none → H' r = some (.tup [.int (lowT (f a b c d).1 (f a b c d).2), .int (lowB (f a b c d).1 (f a b c d).2)]) → Q (.ref r) H') : spTwo f [.ref p, .ref q] H Q E := ⟨p, q, a, b, c, d, rfl, hp, hq, hb, hd, za, zb, zc, zd, k⟩
def spWhole : Sp := fun vs H Q _ => ∃ i : Int, vs = [.int i] ∧ Q (.bl true) H
theorem r_whole {i : Int} (k : Q (.bl true) H) : spWhole [.int i] H Q E := ⟨i, rfl, k⟩
def spPairIs : Sp := fun vs H Q _ => ∃ (p q : Addr) (a b : Int), vs = [.ref p, .ref q] ∧ H p = some (.tup [.int a, .int b]) ∧ H q = some (.tup [.int a, .int b]) ∧ Q (.bl true) H
theorem r_pairIs {p q : Addr} {a b : Int} (hp : H p = some (.tup [.int a, .int b])) (hq : H q = some (.tup [.int a, .int b])) (k : Q (.bl true) H) : spPairIs [.ref p, .ref q] H Q E := ⟨p, q, a, b, rfl, hp, hq, k⟩
/-- the law's pair in lowest terms: a bottom above 0 -/
def spLow0 : Sp := fun vs H Q _ => ∃ t b : Int, vs = [.int t, .int b] ∧ 0 < b ∧ b.natAbs < 2 ^ 8000 ∧ ∀ (p : Addr) (H' : Hp), Keep [] H H' → H p = none → H' p = some (.tup [.int (lowT t b), .int (lowB t b)]) → Q (.ref p) H'
theorem r_low0 {t b : Int} (hb : 0 < b) (hz : b.natAbs < 2 ^ 8000) (k : ∀ (p : Addr) (H' : Hp), Keep [] H H' → H p = none → H' p = some (.tup [.int (lowT t b), .int (lowB t b)]) → Q (.ref p) H') : spLow0 [.int t, .int b] H Q E := ⟨t, b, rfl, hb, hz, k⟩
end
theorem low_mul {t b : Int} : lowT t b * dv t b = t ∧ lowB t b * dv t b = b := ⟨Int.fdiv_mul_cancel dv_dvd_t, Int.fdiv_mul_cancel dv_dvd_b⟩
theorem lowB_pos {t b : Int} (h : 0 < b) : 0 < lowB t b := by
  have e := (low_mul (t := t) (b := b)).2
  have g : 0 < dv t b := by
    have := gcd_pos (t := t) (show b ≠ 0 by omega)
    unfold dv; rw [if_neg (by omega)]; omega
  have : 0 < lowB t b * dv t b := by rw [e]; exact h
  exact Int.pos_of_mul_pos_left this g
theorem low_cross {t b : Int} : lowT t b * b = t * lowB t b := by
  have e := low_mul (t := t) (b := b)
  calc lowT t b * b = lowT t b * (lowB t b * dv t b) := by rw [e.2]
    _ = (lowT t b * dv t b) * lowB t b := by ac_rfl
    _ = t * lowB t b := by rw [e.1]
/-- equal ratios have one pair in lowest terms -/
theorem low_eq {t b t' b' : Int} (hb : 0 < b) (hb' : 0 < b') (h : t * b' = t' * b) : lowT t b = lowT t' b' ∧ lowB t b = lowB t' b' := by
  have cop : ∀ {t b : Int}, 0 < b → Nat.gcd (lowT t b).natAbs (lowB t b).natAbs = 1 := by
    intro t b hb
    have g := gcd_pos (t := t) (show b ≠ 0 by omega)
    have e := low_mul (t := t) (b := b)
    have z : Nat.gcd t.natAbs b.natAbs = Nat.gcd (lowT t b).natAbs (lowB t b).natAbs * Nat.gcd t.natAbs b.natAbs := by
      have a := dv_abs (t := t) (b := b)
      have et : t.natAbs = (lowT t b).natAbs * Nat.gcd t.natAbs b.natAbs := by rw [← a, ← Int.natAbs_mul, e.1]
      have eb : b.natAbs = (lowB t b).natAbs * Nat.gcd t.natAbs b.natAbs := by rw [← a, ← Int.natAbs_mul, e.2]
      calc Nat.gcd t.natAbs b.natAbs = Nat.gcd ((lowT t b).natAbs * Nat.gcd t.natAbs b.natAbs) ((lowB t b).natAbs * Nat.gcd t.natAbs b.natAbs) := by rw [← et, ← eb]
        _ = _ := Nat.gcd_mul_right _ _ _
    have : 1 * Nat.gcd t.natAbs b.natAbs = Nat.gcd (lowT t b).natAbs (lowB t b).natAbs * Nat.gcd t.natAbs b.natAbs := by rw [Nat.one_mul]; exact z
    exact (Nat.eq_of_mul_eq_mul_right g this).symm
  have p := lowB_pos (t := t) hb
  have p' := lowB_pos (t := t') hb'
  have x : lowT t b * lowB t' b' = lowT t' b' * lowB t b := by
    have c := low_cross (t := t) (b := b)
    have c' := low_cross (t := t') (b := b')
    have : lowT t b * lowB t' b' * (b * b') = lowT t' b' * lowB t b * (b * b') := by
      calc lowT t b * lowB t' b' * (b * b') = (lowT t b * b) * (lowB t' b' * b') := by ac_rfl
        _ = (t * lowB t b) * (lowB t' b' * b') := by rw [c]
        _ = (t * b') * (lowB t b * lowB t' b') := by ac_rfl
        _ = (t' * b) * (lowB t b * lowB t' b') := by rw [h]
        _ = (t' * lowB t' b') * (lowB t b * b) := by ac_rfl
        _ = (lowT t' b' * b') * (lowB t b * b) := by rw [c']
        _ = lowT t' b' * lowB t b * (b * b') := by ac_rfl
    exact Int.eq_of_mul_eq_mul_right (by have := Int.mul_pos hb hb'; omega) this
  have d1 : (lowB t b).natAbs ∣ (lowB t' b').natAbs := by
    refine Nat.Coprime.dvd_of_dvd_mul_left (k := (lowB t b).natAbs) (m := (lowT t b).natAbs) (Nat.Coprime.symm (cop hb)) ?_
    rw [← Int.natAbs_mul, x, Int.natAbs_mul]; exact Nat.dvd_mul_left _ _
  have d2 : (lowB t' b').natAbs ∣ (lowB t b).natAbs := by
    refine Nat.Coprime.dvd_of_dvd_mul_left (k := (lowB t' b').natAbs) (m := (lowT t' b').natAbs) (Nat.Coprime.symm (cop hb')) ?_
    rw [← Int.natAbs_mul, ← x, Int.natAbs_mul]; exact Nat.dvd_mul_left _ _
  have e := Nat.dvd_antisymm d1 d2
  have e' : lowB t b = lowB t' b' := by omega
  refine ⟨?_, e'⟩
  rw [e'] at x
  exact Int.eq_of_mul_eq_mul_right (by omega) x
theorem low_step {N D w p q : Int} (hD : 0 < D) (hq : 0 < q) :
    let f := fPlus (lowT N D) (lowB N D) (lowT (fTimes w 1 p q).1 (fTimes w 1 p q).2) (lowB (fTimes w 1 p q).1 (fTimes w 1 p q).2)
    lowT f.1 f.2 = lowT (N * q + w * p * D) (D * q) ∧ lowB f.1 f.2 = lowB (N * q + w * p * D) (D * q) ∧ 0 < f.2 := by
  intro f
  have hq' : 0 < (fTimes w 1 p q).2 := by show 0 < 1 * q; omega
  have p1 := lowB_pos (t := N) hD
  have p2 := lowB_pos (t := (fTimes w 1 p q).1) hq'
  have c1 := low_cross (t := N) (b := D)
  have c2 := low_cross (t := (fTimes w 1 p q).1) (b := (fTimes w 1 p q).2)
  have hf : 0 < f.2 := Int.mul_pos p1 p2
  have e : f.1 * (D * q) = (N * q + w * p * D) * f.2 := by
    show (lowT N D * lowB (w * p) (1 * q) + lowT (w * p) (1 * q) * lowB N D) * (D * q) = (N * q + w * p * D) * (lowB N D * lowB (w * p) (1 * q))
    have c2' : lowT (w * p) (1 * q) * q = w * p * lowB (w * p) (1 * q) := by
      have := c2
      show lowT (w * p) (1 * q) * q = _
      have h : (fTimes w 1 p q).2 = q := by show 1 * q = q; omega
      rw [h] at this
      have h2 : (1 : Int) * q = q := by omega
      rw [h2]; exact this
    generalize lowB (w * p) (1 * q) = b2 at *
    generalize lowT (w * p) (1 * q) = t2 at *
    calc (lowT N D * b2 + t2 * lowB N D) * (D * q) = (lowT N D * D) * (b2 * q) + (t2 * q) * (lowB N D * D) := by rw [Int.add_mul]; congr 1 <;> ac_rfl
      _ = (N * lowB N D) * (b2 * q) + (w * p * b2) * (lowB N D * D) := by rw [c1, c2']
      _ = (N * q + w * p * D) * (lowB N D * b2) := by rw [Int.add_mul]; congr 1 <;> ac_rfl
  obtain ⟨a, b⟩ := low_eq hf (Int.mul_pos hD hq) e
  exact ⟨a, b, hf⟩
/-! ### readings of texts, dicts, tuples as targets -/
def rInSg : R2 := fun x y H Q => ∃ (c : Nat) (z : Str), x = .str ⟨#[c]⟩ ∧ y = .str z ∧ Q (.bl (decide (c ∈ z.cps.toList))) H
def rNinSg : R2 := fun x y H Q => ∃ (c : Nat) (z : Str), x = .str ⟨#[c]⟩ ∧ y = .str z ∧ Q (.bl (!decide (c ∈ z.cps.toList))) H
def rAddS : R2 := fun x y H Q => ∃ i j, x = .str i ∧ y = .str j ∧ i.length + j.length ≤ sizeLine ∧ Q (.str (i ++ j)) H
theorem op_inSg {X : Cx} : OpR X (compareOp .In) rInSg := op_in_sign
theorem op_ninSg {X : Cx} : OpR X (compareOp .NotIn) rNinSg := op_notIn_sign
theorem op_addS {X : Cx} : OpR X (binaryOp .Add) rAddS := op_add_str
section
variable {K : PySem.W.Frag} {σ : L2.St} {H : Hp} {Q : VK} {QB : Bool → Hp → Prop} {D : Ends} {ta tb td ty tv te : TE} {v x y : V} {i j z : Str} {n : Int} {c : Nat} {p : Addr}
theorem r_inSg (k : Q (.bl (decide (c ∈ z.cps.toList))) H) : rInSg (.str ⟨#[c]⟩) (.str z) H Q := ⟨c, z, rfl, rfl, k⟩
theorem r_ninSg (k : Q (.bl (!decide (c ∈ z.cps.toList))) H) : rNinSg (.str ⟨#[c]⟩) (.str z) H Q := ⟨c, z, rfl, rfl, k⟩
theorem r_addS (h : i.length + j.length ≤ sizeLine) (k : Q (.str (i ++ j)) H) : rAddS (.str i) (.str j) H Q := ⟨i, j, rfl, rfl, h, k⟩
theorem r_ixS (h : z.length ≤ sizeLine) (h2 : atI z.cps.toList n = some c) (k : Q (.str ⟨#[c]⟩) H) : rIxS (.str z) (.int n) H Q := ⟨z, n, c, rfl, rfl, h, h2, k⟩
theorem r_slS {lo hi : Option Int} (h : z.length ≤ sizeLine) (k : Q (.str (cutS z lo hi)) H) : rSlS (.str z) lo hi H Q := ⟨z, rfl, h, k⟩
theorem r_sum {ns : List Int} (h : SqL K H p (ns.map V.int)) (k : Q (.int ns.sum) H) : rSum K [.ref p] H Q := ⟨p, ns, rfl, h, k⟩
theorem r_all {bs : List Bool} (h : SqL K H p (bs.map V.bl)) (k : Q (.bl (bs.all id)) H) : rAll K [.ref p] H Q := ⟨p, bs, rfl, h, k⟩
theorem r_sortS {xs : List Str} (h : SqL K H p (xs.map V.str)) (h2 : xs.length < 64) (k : ∀ (ys : List Str) (q : Addr), ys.Perm xs → sortedS ys = true → H q = none → Q (.ref q) (upd H q (.lst (ys.map V.str)))) : rSortedS K [.ref p] H Q := ⟨p, xs, rfl, h, h2, k⟩
theorem r_listD {kvs : List (Key × V)} (h : H p = some (.dK kvs)) (k : ∀ q, H q = none → Q (.ref q) (upd H q (.lst (kvs.map fun kv => kV kv.1)))) : rListD [.ref p] H Q := ⟨p, kvs, rfl, h, k⟩
/-- dicts with texts as keys -/
def rDGet : V → V → Hp → VK → Prop := fun x y H Q => ∃ a v, x = .ref a ∧ DGet H a y (some v) ∧ Q v H
def rDGet2 : V → V → V → Hp → VK → Prop := fun x y z H Q => ∃ a o, x = .ref a ∧ DGet H a y o ∧ Q (o.getD z) H
def rDPut : V → V → V → Hp → (Hp → Prop) → Prop := fun x y v H Q => ∃ a H4, x = .ref a ∧ DPut H a y v H4 ∧ Q H4
def rDInB (f : Bool → Bool) : V → V → Hp → VK → Prop := fun y x H Q => ∃ a o, x = .ref a ∧ DGet H a y o ∧ Q (.bl (f o.isSome)) H
theorem r_dget (k : td σ H fun x H1 => ty σ H1 fun y H2 => rDGet x y H2 Q) : tDGet td ty σ H Q := k
theorem r_dgetS {kvs : List (Key × V)} (h : H p = some (.dK kvs)) (h2 : valV kvs (Sum.inr z) = some v) (k : Q v H) : rDGet (.ref p) (.str z) H Q := ⟨p, v, rfl, .inl ⟨kvs, Sum.inr z, .inl h, rfl, h2.symm⟩, k⟩
theorem r_dput (k : tv σ H fun v H1 => td σ H1 fun x H2 => ty σ H2 fun y H3 => rDPut x y v H3 fun H4 => D.nx σ H4) : sDPut td ty tv D σ H := k
theorem r_dputS {kvs : List (Key × V)} {Q : Hp → Prop} (h : H p = some (.dK kvs)) (hl : kvs.length < sizeLine) (k : Q (upd H p (.dK (putK kvs (Sum.inr z) v)))) : rDPut (.ref p) (.str z) v H Q := ⟨p, _, rfl, DPut.k (k := Sum.inr z) h hl, k⟩
theorem r_dget2 {tx : TE} (h : td σ H fun x H1 => ∃ a, x = .ref a ∧ IsD H1 a ∧ ty σ H1 fun y H2 => tx σ H2 fun z H3 => ∃ o, DGet H3 a y o ∧ Q (o.getD z) H3) : tDGet2 td ty tx σ H Q := h
theorem r_dgetO {kvs : List (Key × V)} {R : Option V → Prop} (h : H p = some (.dK kvs)) (k : R (valV kvs (Sum.inr z))) : ∃ o, DGet H p (.str z) o ∧ R o := ⟨_, DGet.k (k := Sum.inr z) h, k⟩
theorem r_isD {kvs : List (Key × V)} {R : Addr → Prop} (h : H p = some (.dK kvs)) (k : R p) : ∃ a, V.ref p = .ref a ∧ IsD H a ∧ R a := ⟨p, rfl, .inl ⟨kvs, .inl h⟩, k⟩
theorem r_din (k : ty σ H fun y H1 => td σ H1 fun x H2 => rDInB id y x H2 Q) : tDIn ty td σ H Q := k
theorem r_dnin (k : ty σ H fun y H1 => td σ H1 fun x H2 => rDInB (fun b => !b) y x H2 Q) : tDNotIn ty td σ H Q := k
theorem r_dinS {kvs : List (Key × V)} {f : Bool → Bool} (h : H p = some (.dK kvs)) (k : Q (.bl (f (valV kvs (Sum.inr z)).isSome)) H) : rDInB f (.str z) (.ref p) H Q := ⟨p, _, rfl, DGet.k (k := Sum.inr z) h, k⟩
theorem r_dnew (k : ∀ p, H p = none → Q (.ref p) (upd H p (.dK []))) : tDNewK σ H Q := k
theorem r_gTup2 {i j : Nat} {Q : L2.St → Hp → Prop} (h : SqT K H p [x, y]) (k : Q ((σ.set i (some x)).set j (some y)) H) : gTup K 2 (gCons (gName i) (gCons (gName j) gNil)) (.ref p) σ H Q := ⟨p, [x, y], rfl, h, rfl, x, [y], rfl, y, [], rfl, rfl, k⟩
theorem r_strI {i : Int} {F : Int → Prop} (h : i.natAbs.log2 < 1920) (k : F i) : ∃ j, [V.int i] = [.int j] ∧ j.natAbs.log2 < 1920 ∧ F j := ⟨i, rfl, h, k⟩
theorem r_strS {i : Str} {F : Str → Prop} (k : F i) : ∃ j, [V.str i] = [.str j] ∧ F j := ⟨i, rfl, k⟩
theorem r_tupL {xs : List V} {F : Addr → Prop} {G : List V → Addr → Prop} (h : SqL K H p xs) (k : ∀ l, H l = none → G xs l) : ∃ q ys, [V.ref p] = [.ref q] ∧ ((SqL K H q ys ∧ ∀ l, H l = none → G ys l) ∨ (SqT K H q ys ∧ F q)) := ⟨p, xs, rfl, .inl ⟨h, k⟩⟩
theorem r_js {t : TE} {ts : List TE} {acc : Str} {Q : Str → Hp → Prop} (k : t σ H fun x H1 => ∃ y : Str, x = .str y ∧ (acc ++ y).length ≤ sizeLine ∧ tJs ts (acc ++ y) σ H1 Q) : tJs (t :: ts) acc σ H Q := k
theorem r_js0 {acc : Str} {Q : Str → Hp → Prop} (k : Q acc H) : tJs [] acc σ H Q := k
theorem r_jsS {y : Str} {A B : Str → Prop} (h : A y) (k : B y) : ∃ z, V.str y = .str z ∧ A z ∧ B z := ⟨y, rfl, h, k⟩
theorem r_fmt (k : te σ H fun x H1 => (∃ y : Str, x = .str y ∧ y.length ≤ sizeLine ∧ Q (.str y) H1) ∨ ∃ i : Int, x = .int i ∧ i.natAbs.log2 < 1920 ∧ Q (.str (toString i)) H1) : tFmt te σ H Q := k
end
/-! ### comprehensions over a text -/
section
variable {K : PySem.W.Frag} {σ : L2.St} {H : Hp} {Q : VK} {te tl : TE} {tt : TT} {G : TG} {vs : List Nat}
def CompS (G : TG) (tt : TT) (te : TE) (vs : List Nat) (σ : L2.St) (Q : VK) (x : V) (H1 : Hp) : Prop := ∃ z, x = .str z ∧ CompW (Its z) G tt te vs σ Q H1
theorem r_lcS (k : tl σ H fun x H1 => CompS G tt te vs σ Q x H1) : tLc (iStr tl) G tt te vs σ H Q := k
theorem lcS_go {z : Str} (Pv : Addr → Nat → List V → Hp → Prop) (h0 : ∀ D, H D = none → Pv D 0 [] (upd H D (.lst [])))
    (hs : ∀ D (i : Nat) c acc H', z.cps[i]? = some c → H' D = some (.lst acc) → Pv D i acc H' → G (.str ⟨#[c]⟩) (wipe σ vs) H' fun σ2 H2 => wipe σ2 vs = wipe σ vs ∧ tt σ2 H2 fun b H3 =>
      if b = true then te σ2 H3 fun y H4 => ∃ acc, H4 D = some (.lst acc) ∧ acc.length < sizeLine ∧ (∃ ac, (upd H4 D (.lst (acc ++ [y]))) D = some (.lst ac) ∧ Pv D (i + 1) ac (upd H4 D (.lst (acc ++ [y])))) else ∃ ac, H3 D = some (.lst ac) ∧ Pv D (i + 1) ac H3)
    (hd : ∀ D acc H', H D = none → H' D = some (.lst acc) → Pv D z.cps.size acc H' → Q (.ref D) H') : CompS G tt te vs σ Q (.str z) H :=
  ⟨z, rfl, fun D hD => lc_it (walk_str (z := z)) (fun i H' => ∃ acc, H' D = some (.lst acc) ∧ Pv D i acc H') ⟨[], upd_same, h0 D hD⟩ (fun _ _ _ _ => True.intro) (fun i x H' H2 hi ⟨acc, ha, p⟩ ⟨e, c, hc, hx⟩ => by subst e; subst hx; exact hs D i c acc _ hc ha p) fun H' ⟨acc, ha, p⟩ => hd D acc H' hD ha p⟩
end
/-! a run that wakes no sleeping generator of some: it may be told over the others alone, and the sleepers stand as they stood -/
end My
namespace My.Si
open PySem PyProof.Rows L2
open Sem (wp)
variable {M : Model}
/-- frames of calls only -/
def NoG : List Frame → Prop
  | [] => True
  | .ret .. :: r => NoG r
  | .gen .. :: _ => False
theorem NoG.app : ∀ {a b : List Frame}, NoG a → NoG b → NoG (a ++ b)
  | [], _, _, hb => hb
  | .ret .. :: r, _, ha, hb => NoG.app (a := r) ha hb
  | .gen .. :: _, _, ha, _ => ha.elim
theorem NoG.split : ∀ {a : List Frame}, NoG a → splitAtGen a = none
  | [], _ => rfl
  | .ret .. :: r, h => by
    have := NoG.split (a := r) h
    show (splitAtGen r).map _ = none
    rw [this]; rfl
  | .gen .. :: _, h => h.elim
def NoGE : End → Prop
  | .ret _ => True
  | .susp _ _ _ _ _ _ fs => NoG fs
/-- all that sleep have frames of calls only -/
def Tame (G : Array GenState) : Prop := ∀ (i : Nat) k l c p fs cl, G[i]? = some (.suspended k l c p fs cl) → NoG fs
def gone (F : Frame) : Frame := .ret (fun _ => .unsupported "") none false [] F.where_.1 F.where_.2 []
/-- a sleeper that nothing can wake, and that looks the same -/
def mute : GenState → GenState
  | .suspended _ _ c p fs cl => .suspended (fun _ => .unsupported "") [] c p (fs.map gone) cl
  | x => x
theorem gone_where (F : Frame) : (gone F).where_ = F.where_ := rfl
theorem mute_seen (x : GenState) : (mute x).seen = x.seen := by
  cases x with
  | suspended k l c p fs cl =>
    show (GenStatus.suspended, some ((c, p) :: (fs.map gone).map Frame.where_)) = (GenStatus.suspended, some ((c, p) :: fs.map Frame.where_))
    rw [List.map_map]
    rfl
  | _ => rfl
theorem NoG.gone : ∀ (fs : List Frame), NoG (fs.map gone)
  | [] => trivial
  | _ :: r => NoG.gone r
def Sleeps : Option GenState → Prop
  | some (.suspended ..) => True
  | _ => False
/-- at an index where G0 sleeps: muted there, as in G0 here; elsewhere the same -/
structure Sim (G0 a b : Array GenState) : Prop where
  le : G0.size ≤ a.size
  sz : a.size = b.size
  asleep : ∀ (i : Nat) x, G0[i]? = some x → Sleeps (some x) → a[i]? = some (mute x) ∧ b[i]? = some x
  awake : ∀ (i : Nat), ¬ Sleeps G0[i]? → a[i]? = b[i]?
section
variable {G0 a b : Array GenState}
theorem Sim.push (h : Sim G0 a b) (x : GenState) : Sim G0 (a.push x) (b.push x) where
  le := by rw [Array.size_push]; exact Nat.le_succ_of_le h.le
  sz := by rw [Array.size_push, Array.size_push, h.sz]
  asleep := fun i y e z => by
    have hi : i < a.size := Nat.lt_of_lt_of_le (Array.getElem?_eq_some_iff.mp e).1 h.le
    obtain ⟨e1, e2⟩ := h.asleep i y e z
    rw [Array.getElem?_push, Array.getElem?_push, if_neg (Nat.ne_of_lt hi), if_neg (by rw [← h.sz]; exact Nat.ne_of_lt hi)]
    exact ⟨e1, e2⟩
  awake := fun i z => by
    rw [Array.getElem?_push, Array.getElem?_push, h.sz, h.awake i z]
theorem Sim.set (h : Sim G0 a b) {g : Nat} (z : ¬ Sleeps G0[g]?) (x : GenState) : Sim G0 (a.setIfInBounds g x) (b.setIfInBounds g x) where
  le := by rw [Array.size_setIfInBounds]; exact h.le
  sz := by rw [Array.size_setIfInBounds, Array.size_setIfInBounds, h.sz]
  asleep := fun i y e w => by
    have ne : g ≠ i := fun q => z (by rw [q, e]; exact w)
    rw [Array.getElem?_setIfInBounds_ne ne, Array.getElem?_setIfInBounds_ne ne]
    exact h.asleep i y e w
  awake := fun i w => by
    rw [Array.getElem?_setIfInBounds, Array.getElem?_setIfInBounds, h.sz, h.awake i w]
theorem Sim.seen (h : Sim G0 a b) {g : Nat} {x : GenState} (e : a[g]? = some x) : ∃ y, b[g]? = some y ∧ y.seen = x.seen := by
  by_cases z : Sleeps G0[g]?
  · cases q : G0[g]? with
    | none => rw [q] at z; exact z.elim
    | some y =>
      rw [q] at z
      obtain ⟨e1, e2⟩ := h.asleep g y q z
      rw [e1] at e; cases e
      exact ⟨y, e2, (mute_seen y).symm⟩
  · exact ⟨x, by rw [← h.awake g z]; exact e, rfl⟩
/-- what is no sleeper of G0's -/
theorem Sim.live (h : Sim G0 a b) {g : Nat} {x : GenState} (e : a[g]? = some x) (n : ∀ y, x ≠ mute y ∨ ¬ Sleeps (some y)) : b[g]? = some x ∧ ¬ Sleeps G0[g]? := by
  have z : ¬ Sleeps G0[g]? := fun z => by
    cases q : G0[g]? with
    | none => rw [q] at z; exact z.elim
    | some y =>
      rw [q] at z
      obtain ⟨e1, _⟩ := h.asleep g y q z
      rw [e1] at e; cases e
      rcases n y with n | n
      · exact n rfl
      · exact n z
  exact ⟨by rw [← h.awake g z]; exact e, z⟩
theorem Tame.push (h : Tame a) (c : Code) : Tame (a.push (.fresh c)) := fun i k l c' p fs cl e => by
  rw [Array.getElem?_push] at e
  split at e
  · cases e
  · exact h i k l c' p fs cl e
theorem Tame.set (h : Tame a) {g : Nat} {x : GenState} (n : ∀ k l c p fs cl, x = .suspended k l c p fs cl → NoG fs) : Tame (a.setIfInBounds g x) := fun i k l c' p fs cl e => by
  rw [Array.getElem?_setIfInBounds] at e
  split at e
  · split at e
    · cases e; exact n _ _ _ _ _ _ rfl
    · cases e
  · exact h i k l c' p fs cl e
theorem Sim.start (G : Array GenState) : Sim G (G.map mute) G where
  le := by rw [Array.size_map]; exact Nat.le_refl _
  sz := Array.size_map ..
  asleep := fun i x e _ => ⟨by rw [Array.getElem?_map, e]; rfl, e⟩
  awake := fun i z => by
    rw [Array.getElem?_map]
    cases q : G[i]? with
    | none => rfl
    | some x =>
      rw [q] at z
      cases x with
      | suspended => exact (z trivial).elim
      | _ => rfl
theorem Tame.start (G : Array GenState) : Tame (G.map mute) := fun i k l c p fs cl e => by
  rw [Array.getElem?_map] at e
  cases q : G[i]? with
  | none => rw [q] at e; cases e
  | some x =>
    rw [q] at e
    cases x with
    | suspended k' l' c' p' fs' cl' =>
      have e := Option.some.inj e
      simp only [mute] at e
      cases e
      exact NoG.gone fs'
    | _ => cases e
end
theorem no_run0 {Γ : Ctx} {p : Pos} {x : String} {s s' : Shared} {e : End} : ¬ Runs M Γ p (.unsupported x) [] s e s' := fun h => nomatch h
theorem no_run {Γ : Ctx} {p : Pos} {x : String} {fs : List Frame} {s s' : Shared} {e : End} (h : Runs M Γ p (.unsupported x) fs s e s') : False := by
  cases h with
  | segRet h _ => exact no_run0 h
  | segGen h _ => exact no_run0 h
  | segSuspOut _ h => exact no_run0 h
  | segSuspGen _ h _ _ => exact no_run0 h
theorem NoGE.gen {e : End} (h : NoGE e) : ∀ k l c p fs cl, e.genState = .suspended k l c p fs cl → NoG fs := fun k l c p fs cl q => by
  cases e with
  | ret _ => cases q
  | susp v g l k c p fs => cases q; exact h
theorem runs_sim {G0 : Array GenState} {Γ : Ctx} {p : Pos} {t : Sem Fin} {fs : List Frame} {s s' : Shared} {e : End} (h : Runs M Γ p t fs s e s') :
    NoG fs → Tame s.gens → ∀ gu, Sim G0 s.gens gu → ∃ gu', Runs M Γ p t fs { s with gens := gu } e { s' with gens := gu' } ∧ Sim G0 s'.gens gu' ∧ Tame s'.gens ∧ NoGE e := by
  induction h with
  | done => exact fun _ hT gu hS => ⟨gu, .done, hS, hT, trivial⟩
  | raise => exact fun _ hT gu hS => ⟨gu, .raise, hS, hT, trivial⟩
  | again hq hr ih => exact fun hf hT gu hS => let ⟨gu', r, x⟩ := ih hf hT gu hS; ⟨gu', .again hq r, x⟩
  | rule hr ih => exact fun hf hT gu hS => let ⟨gu', r, x⟩ := ih hf hT gu hS; ⟨gu', .rule r, x⟩
  | «at» hr ih => exact fun hf hT gu hS => let ⟨gu', r, x⟩ := ih hf hT gu hS; ⟨gu', .at r, x⟩
  | load ho hr ih => exact fun hf hT gu hS => let ⟨gu', r, x⟩ := ih hf hT gu hS; ⟨gu', .load ho r, x⟩
  | update ho hr ih => exact fun hf hT gu hS => let ⟨gu', r, x⟩ := ih hf hT gu hS; ⟨gu', .update ho r, x⟩
  | loadIfAlive hr ih => exact fun hf hT gu hS => let ⟨gu', r, x⟩ := ih hf hT gu hS; ⟨gu', .loadIfAlive r, x⟩
  | point hr ih => exact fun hf hT gu hS => let ⟨gu', r, x⟩ := ih hf hT gu hS; ⟨gu', .point r, x⟩
  | alloc hr ih => exact fun hf hT gu hS => let ⟨gu', r, x⟩ := ih hf hT gu hS; ⟨gu', .alloc r, x⟩
  | fresh hr ih => exact fun hf hT gu hS => let ⟨gu', r, x⟩ := ih hf hT gu hS; ⟨gu', .fresh r, x⟩
  | ask hr ih => exact fun hf hT gu hS => let ⟨gu', r, x⟩ := ih hf hT gu hS; ⟨gu', .ask r, x⟩
  | choose hn hr ih => exact fun hf hT gu hS => let ⟨gu', r, x⟩ := ih hf hT gu hS; ⟨gu', .choose hn r, x⟩
  | os hr ih => exact fun hf hT gu hS => let ⟨gu', r, x⟩ := ih hf hT gu hS; ⟨gu', .os r, x⟩
  | handled hr ih => exact fun hf hT gu hS => let ⟨gu', r, x⟩ := ih hf hT gu hS; ⟨gu', .handled r, x⟩
  | genState hg hr ih =>
      intro hf hT gu hS
      obtain ⟨gu', r, x⟩ := ih hf hT gu hS
      obtain ⟨y, e1, e2⟩ := hS.seen hg
      exact ⟨gu', .genState e1 (by rw [e2]; exact r), x⟩
  | stack hr ih => exact fun hf hT gu hS => let ⟨gu', r, x⟩ := ih hf hT gu hS; ⟨gu', .stack r, x⟩
  | thread hr ih => exact fun hf hT gu hS => let ⟨gu', r, x⟩ := ih hf hT gu hS; ⟨gu', .thread r, x⟩
  | newGen hr ih =>
      intro hf hT gu hS
      obtain ⟨gu', r, x⟩ := ih hf (hT.push _) _ (hS.push _)
      rw [hS.sz] at r
      exact ⟨gu', .newGen r, x⟩
  | call hr hk ih1 ih2 =>
      intro hf hT gu hS
      obtain ⟨g1, r1, S1, T1, _⟩ := ih1 trivial hT gu hS
      obtain ⟨g2, r2, x⟩ := ih2 hf T1 g1 S1
      exact ⟨g2, .call r1 r2, x⟩
  | callSusp hr ih =>
      intro hf hT gu hS
      obtain ⟨g1, r1, S1, T1, N1⟩ := ih trivial hT gu hS
      exact ⟨g1, .callSusp r1, S1, T1, NoG.app N1 trivial⟩
  | yield => exact fun _ hT gu hS => ⟨gu, .yield, hS, hT, trivial⟩
  | resumeFresh hg hr hq hk ih1 ih2 =>
      intro hf hT gu hS
      obtain ⟨e1, z⟩ := hS.live hg fun y => by cases y <;> first | exact .inr id | exact .inl (fun q => nomatch q)
      obtain ⟨g1, r1, S1, T1, N1⟩ := ih1 trivial (hT.set fun _ _ _ _ _ _ q => nomatch q) _ (hS.set z .running)
      obtain ⟨g2, r2, x⟩ := ih2 hf (T1.set N1.gen) _ (S1.set z _)
      exact ⟨g2, .resumeFresh e1 r1 hq r2, x⟩
  | @resumeSuspended Γ p g r l k s k₀ l₀ c₀ p₀ fs cl e₁ s₁ e s' hg hr hq hk ih1 ih2 =>
      intro hf hT gu hS
      by_cases z : Sleeps G0[g]?
      · cases q : G0[g]? with
        | none => rw [q] at z; exact z.elim
        | some y =>
          rw [q] at z
          obtain ⟨e1, _⟩ := hS.asleep g y q z
          rw [e1] at hg
          cases y with
          | suspended k' l' c' p' fs' cl' =>
            simp only [mute] at hg
            cases hg
            exact (no_run hr).elim
          | _ => exact z.elim
      · have e1 := hg
        rw [hS.awake g z] at e1
        obtain ⟨g1, r1, S1, T1, N1⟩ := ih1 (hT _ _ _ _ _ _ _ hg) (hT.set fun _ _ _ _ _ _ q => nomatch q) _ (hS.set z .running)
        obtain ⟨g2, r2, x⟩ := ih2 hf (T1.set N1.gen) _ (S1.set z _)
        exact ⟨g2, .resumeSuspended e1 r1 hq r2, x⟩
  | resumeJustStarted hg hv hk ih =>
      intro hf hT gu hS
      obtain ⟨e1, z⟩ := hS.live hg fun y => by cases y <;> first | exact .inr id | exact .inl (fun q => nomatch q)
      obtain ⟨g2, r2, x⟩ := ih hf hT gu hS
      exact ⟨g2, .resumeJustStarted e1 hv r2, x⟩
  | resumeThrowFresh hg hk ih =>
      intro hf hT gu hS
      obtain ⟨e1, z⟩ := hS.live hg fun y => by cases y <;> first | exact .inr id | exact .inl (fun q => nomatch q)
      obtain ⟨g2, r2, x⟩ := ih hf (hT.set fun _ _ _ _ _ _ q => nomatch q) _ (hS.set z .finished)
      exact ⟨g2, .resumeThrowFresh e1 r2, x⟩
  | resumeRunning hg hk ih =>
      intro hf hT gu hS
      obtain ⟨e1, z⟩ := hS.live hg fun y => by cases y <;> first | exact .inr id | exact .inl (fun q => nomatch q)
      obtain ⟨g2, r2, x⟩ := ih hf hT gu hS
      exact ⟨g2, .resumeRunning e1 r2, x⟩
  | resumeFinished hg hk ih =>
      intro hf hT gu hS
      obtain ⟨e1, z⟩ := hS.live hg fun y => by cases y <;> first | exact .inr id | exact .inl (fun q => nomatch q)
      obtain ⟨g2, r2, x⟩ := ih hf hT gu hS
      exact ⟨g2, .resumeFinished e1 r2, x⟩
  | segRet hr hk ih1 ih2 =>
      intro hf hT gu hS
      obtain ⟨g1, r1, S1, T1, _⟩ := ih1 trivial hT gu hS
      obtain ⟨g2, r2, x⟩ := ih2 hf T1 g1 S1
      exact ⟨g2, .segRet r1 r2, x⟩
  | segGen hr hk ih1 ih2 => exact fun hf => hf.elim
  | segSuspOut hsp hr ih =>
      intro hf hT gu hS
      obtain ⟨g1, r1, S1, T1, N1⟩ := ih trivial hT gu hS
      exact ⟨g1, .segSuspOut hsp r1, S1, T1, NoG.app N1 hf⟩
  | segSuspGen hsp hr hq hk ih1 ih2 =>
      intro hf
      rw [hf.split] at hsp
      cases hsp
/-- behind: the same, but for the sleepers -/
def After (G0 : Array GenState) {α : Type} (Q : α → Pos → Shared → Prop) : α → Pos → Shared → Prop := fun x p u => ∃ s', Tame s'.gens ∧ Sim G0 s'.gens u.gens ∧ u = { s' with gens := u.gens } ∧ Q x p s'
theorem wakes_sim {G0 : Array GenState} {Γ : Ctx} {p : Pos} {g : Nat} {r : Resume} {s s' : Shared} {res : GenResult} (h : Wakes M Γ p g r s res s') (hT : Tame s.gens) {gu : Array GenState} (hS : Sim G0 s.gens gu) :
    ∃ gu', Wakes M Γ p g r { s with gens := gu } res { s' with gens := gu' } ∧ Sim G0 s'.gens gu' ∧ Tame s'.gens := by
  unfold Wakes at h
  cases hg : s.gens[g]? with
  | none => rw [hg] at h; exact h.elim
  | some st =>
    rw [hg] at h
    cases st with
    | fresh c =>
      obtain ⟨e1, z⟩ := hS.live hg fun y => by cases y <;> first | exact .inr id | exact .inl (fun q => nomatch q)
      unfold Wakes
      simp only [e1]
      cases r with
      | send v =>
        cases v with
        | none =>
          obtain ⟨e₁, s₁, hr, hq, h1, rfl⟩ := h
          obtain ⟨g1, r1, S1, T1, N1⟩ := runs_sim hr trivial (hT.set fun _ _ _ _ _ _ q => nomatch q) _ (hS.set z .running)
          exact ⟨_, ⟨e₁, _, r1, hq, h1, rfl⟩, S1.set z _, T1.set N1.gen⟩
        | _ =>
          obtain ⟨h1, rfl⟩ := h
          exact ⟨gu, ⟨h1, rfl⟩, hS, hT⟩
      | throw x =>
        obtain ⟨h1, rfl⟩ := h
        exact ⟨_, ⟨h1, rfl⟩, hS.set z _, hT.set fun _ _ _ _ _ _ q => nomatch q⟩
    | suspended k₀ l₀ c₀ p₀ fs cl =>
      obtain ⟨e₁, s₁, hr, hq, h1, rfl⟩ := h
      by_cases z : Sleeps G0[g]?
      · cases q : G0[g]? with
        | none => rw [q] at z; exact z.elim
        | some y =>
          rw [q] at z
          obtain ⟨e1, _⟩ := hS.asleep g y q z
          rw [e1] at hg
          cases y with
          | suspended k' l' c' p' fs' cl' =>
            simp only [mute] at hg
            cases hg
            exact (no_run hr).elim
          | _ => exact z.elim
      · have e1 := hg
        rw [hS.awake g z] at e1
        unfold Wakes
        simp only [e1]
        obtain ⟨g1, r1, S1, T1, N1⟩ := runs_sim hr (hT _ _ _ _ _ _ _ hg) (hT.set fun _ _ _ _ _ _ q => nomatch q) _ (hS.set z .running)
        exact ⟨_, ⟨e₁, _, r1, hq, h1, rfl⟩, S1.set z _, T1.set N1.gen⟩
    | running =>
      obtain ⟨h1, rfl⟩ := h
      obtain ⟨e1, z⟩ := hS.live hg fun y => by cases y <;> first | exact .inr id | exact .inl (fun q => nomatch q)
      unfold Wakes
      simp only [e1]
      exact ⟨gu, ⟨h1, rfl⟩, hS, hT⟩
    | finished =>
      obtain ⟨h1, rfl⟩ := h
      obtain ⟨e1, z⟩ := hS.live hg fun y => by cases y <;> first | exact .inr id | exact .inl (fun q => nomatch q)
      unfold Wakes
      simp only [e1]
      exact ⟨gu, ⟨h1, rfl⟩, hS, hT⟩
theorem wp_sim {G0 : Array GenState} {α : Type} (Γ : Ctx) (t : Sem α) : ∀ (Q : α → Pos → Shared → Prop) (E : Value → Pos → Shared → Prop) (p : Pos) (s : Shared) (gu : Array GenState), Tame s.gens → Sim G0 s.gens gu → wp M Γ t Q E p s →
    wp M Γ t (After G0 Q) (After G0 E) p { s with gens := gu } := by
  induction t with
  | pure a => exact fun Q E p s gu hT hS h => ⟨s, hT, hS, rfl, h⟩
  | raise e => exact fun Q E p s gu hT hS h => ⟨s, hT, hS, rfl, h⟩
  | unsupported _ => exact fun Q E p s gu hT hS h => h
  | finish _ => exact fun Q E p s gu hT hS h => h
  | rule _ k ih => exact fun Q E p s gu hT hS h => ih () Q E p s gu hT hS h
  | «at» p' k ih => exact fun Q E p s gu hT hS h => ih () Q E p' s gu hT hS h
  | load a _ k ih => exact fun Q E p s gu hT hS h => let ⟨o, ho, h⟩ := h; ⟨o, ho, ih o Q E p s gu hT hS h⟩
  | update a _ f k ih => exact fun Q E p s gu hT hS h => ⟨h.1, ih () Q E p { s with heap := s.heap.update a f } gu hT hS h.2⟩
  | loadIfAlive a k ih => exact fun Q E p s gu hT hS h => ih _ Q E p s gu hT hS h
  | point _ k ih => exact fun Q E p s gu hT hS h => ih () Q E p s gu hT hS h
  | register _ _ => exact fun Q E p s gu hT hS h => h
  | alloc o k ih => exact fun Q E p s gu hT hS h => ih _ Q E p { s with heap := s.heap.push o } gu hT hS h
  | fresh k ih => exact fun Q E p s gu hT hS h => ih _ Q E p { s with toks := s.toks + 1 } gu hT hS h
  | ask k ih => exact fun Q E p s gu hT hS h => ih _ Q E p s gu hT hS h
  | choose src m k ih => exact fun Q E p s gu hT hS h => ⟨h.1, ih _ Q E p { s with drawn := s.drawn.bump src } gu hT hS h.2⟩
  | os q _ k ih => exact fun Q E p s gu hT hS h => ih _ Q E p { s with os := (Os.step s.os q).1 } gu hT hS h
  | call c hd _ _ k ih =>
    intro Q E p s gu hT hS h
    obtain ⟨r, s', hr, h⟩ := h
    obtain ⟨g1, r1, S1, T1, _⟩ := runs_sim hr trivial hT gu hS
    exact ⟨r, _, r1, ih r Q E p s' g1 T1 S1 h⟩
  | handled own k ih => exact fun Q E p s gu hT hS h => ih _ Q E p s gu hT hS h
  | genState g k ih =>
    intro Q E p s gu hT hS h
    obtain ⟨st, hs, h⟩ := h
    obtain ⟨y, e1, e2⟩ := hS.seen hs
    exact ⟨y, e1, by rw [e2]; exact ih _ Q E p s gu hT hS h⟩
  | newGen c k ih =>
    intro Q E p s gu hT hS h
    have := ih _ Q E p { s with gens := s.gens.push (.fresh c) } _ (hT.push c) (hS.push (.fresh c)) h
    rw [hS.sz] at this
    exact this
  | resume g r _ k ih =>
    intro Q E p s gu hT hS h
    obtain ⟨res, s', hw, h⟩ := h
    obtain ⟨g1, w1, S1, T1⟩ := wakes_sim hw hT hS
    exact ⟨res, _, w1, ih res Q E p s' g1 T1 S1 h⟩
  | yield _ _ _ _ => exact fun Q E p s gu hT hS h => h
  | stack k ih => exact fun Q E p s gu hT hS h => ih _ Q E p s gu hT hS h
  | fork _ _ => exact fun Q E p s gu hT hS h => h
  | thread k ih => exact fun Q E p s gu hT hS h => ih _ Q E p s gu hT hS h
  | await _ _ _ _ _ => exact fun Q E p s gu hT hS h => h
/-- what a term does where all that sleep here cannot be woken, it does here; and they sleep on -/
theorem wpAny_sim {A : Around} {α : Type} {t : Sem α} {Q : α → Shared → Prop} {E : Value → Shared → Prop} {s : Shared}
    (h : wpAny M A t Q E { s with gens := s.gens.map mute }) :
    wpAny M A t (fun x u => ∃ s', Sim s.gens s'.gens u.gens ∧ u = { s' with gens := u.gens } ∧ Q x s') (fun x u => ∃ s', Sim s.gens s'.gens u.gens ∧ u = { s' with gens := u.gens } ∧ E x s') s := by
  intro Γ p hΓ
  have w := wp_sim (G0 := s.gens) Γ t _ _ p { s with gens := s.gens.map mute } s.gens (Tame.start _) (Sim.start _) (h Γ p hΓ)
  refine Sem.wp_mono _ _ _ ?_ ?_ _ _ w
  · rintro x p' u ⟨s', _, a, b, c⟩
    exact ⟨s', a, b, c⟩
  · rintro x p' u ⟨s', _, a, b, c⟩
    exact ⟨s', a, b, c⟩
theorem AllBare.mute {G : Array GenState} (h : AllBare G) : AllBare (G.map mute) := fun x hx => by
  obtain ⟨i, hi, e⟩ := Array.mem_iff_getElem.mp hx
  rw [Array.getElem_map] at e
  have hi' : i < G.size := by simpa using hi
  have := h G[i] (Array.getElem_mem hi')
  rw [← e]
  cases q : G[i] with
  | suspended k l c p fs cl => rw [q] at this; exact this
  | _ => rfl
theorem Sim.bare {G0 a b : Array GenState} (h : Sim G0 a b) (ha : AllBare a) (h0 : AllBare G0) : AllBare b := fun x hx => by
  obtain ⟨i, hi, e⟩ := Array.mem_iff_getElem.mp hx
  have eb : b[i]? = some x := by rw [Array.getElem?_eq_getElem hi, e]
  by_cases z : Sleeps G0[i]?
  · cases q : G0[i]? with
    | none => rw [q] at z; exact z.elim
    | some y =>
      rw [q] at z
      rw [(h.asleep i y q z).2] at eb
      cases eb
      exact h0 _ (Array.mem_of_getElem? q)
  · rw [← h.awake i z] at eb
    exact ha x (Array.mem_of_getElem? eb)
end My.Si
namespace My
open PySem PySem.Spec PyProof.Rows L2 StX
/-! generators that are walked by a for statement: the generator runs on while its consumer's loop sleeps, and the other way round -/
namespace Gn
open PySem PySem.Spec PyProof.Rows L2 StX GenW
/-! ### a heap up to an address -/
def cutHeap (L : Nat) (h : Heap) : Heap := { h with objs := h.objs.extract 0 L }
def cutS (L : Nat) (s : Shared) : Shared := { s with heap := cutHeap L s.heap }
theorem cut_lt {L b : Nat} {h : Heap} (hb : b < L) : (cutHeap L h).get? b = h.get? b := by
  have e : (h.objs.extract 0 L)[b]? = h.objs[b]? := by
    rw [Array.getElem?_extract]
    split
    · rw [Nat.zero_add]
    · rename_i z
      rw [Array.getElem?_eq_none (by omega)]
  unfold Heap.get? cutHeap
  simp only [e]
theorem cut_of {L b : Nat} {h : Heap} {o : Obj} (q : (cutHeap L h).get? b = some o) : b < L ∧ h.get? b = some o := by
  have hb : b < L := by
    have := Heap.lt_size q
    have : b < (h.objs.extract 0 L).size := this
    rw [Array.size_extract] at this
    omega
  exact ⟨hb, by rw [← cut_lt hb]; exact q⟩
theorem cut_size {L : Nat} {h : Heap} (hl : L ≤ h.objs.size) : (cutHeap L h).objs.size = L := by
  show (h.objs.extract 0 L).size = L
  rw [Array.size_extract]; omega
/-! ### a generator def's frame, at rest and running -/
structure GP where
  prog : Program
  w : World
  K : PySem.W.Frag
  mg : Str → Option Value
  base : Heap
  N : List Str
  qual : Str
  scope : Scope
  f : Addr
  cd : Value
  A : Around
  outer : List Env
  L : Addr
  pn : List (Addr × Obj)
abbrev GP.env (g : GP) : Env := envOfC g.qual g.scope g.L g.f g.cd
/-- its body's context, as woken at s, where H is known -/
abbrev GP.X (g : GP) (s : Shared) (H : Hp) : Cx where
  prog := g.prog
  w := g.w
  K := g.K
  mg := g.mg
  base := g.base
  A := g.A.deeper g.env
  N := g.N
  s_0 := cutS g.L s
  H_0 := H
  env := g.env
  outer := g.outer
  stack := g.env :: g.outer
  ex := []
  fn := fun _ => true
  calm := true
  pn := g.pn
  xe := fun _ _ => False
structure GP.Ok (g : GP) : Prop where
  mod : Mod g.K g.mg g.base
  kind : g.scope.kind = .function
  nocell : cellsFrom (g.L + 1) g.scope.names [] = []
  nofree : ∀ x, g.scope.names.lookup x ≠ some .cell ∧ g.scope.names.lookup x ≠ some .free
  bsz : g.base.objs.size ≤ g.L
  fr : ∀ b ∈ frs g.outer, b < g.L
  hd : g.A.handled = none
  frames : g.A.frames = some g.outer
/-- its own things, at rest -/
structure Rest (g : GP) (ip : List (Addr × Obj)) (σ : L2.St) (s : Shared) : Prop where
  loc : ∃ m, s.heap.Ns g.L m ∧ ∀ (i : Nat) (x : Str) (v : V), g.N[i]? = some x → σ[i]? = some (some v) → Vis g.scope x → ∃ u, RelV v u ∧ g.env.kindOf x = some .local ∧ m x = some u
  pin : ∀ p ∈ g.pn ++ ip, s.heap.get? p.1 = some p.2 ∧ p.1 ≠ g.L ∧ p.1 ∉ frs g.outer ∧ ∀ v, p.2.data ≠ .cell v
  len : σ.length = g.N.length
section
variable {g : GP} {ip : List (Addr × Obj)} {σ : L2.St} {s s0 s2 : Shared} {H Hw H2 : Hp}
theorem Rest.of (G : g.Ok) (I : Inv (g.X s0 Hw) ip σ H s) : Rest g ip σ s := by
  obtain ⟨m, hn, hl⟩ := I.loc
  refine ⟨⟨m, hn, fun i x v e1 e2 e3 => ?_⟩, fun p hp => ?_, I.len⟩
  · obtain ⟨u, r, l⟩ := hl i x v e1 e2 e3
    rcases l with ⟨k, e⟩ | ⟨k, _⟩
    · exact ⟨u, r, k, e⟩
    · exact (k.elim (G.nofree x).1 (G.nofree x).2).elim
  · obtain ⟨h1, _, h3, h4, h5⟩ := I.pin p hp
    exact ⟨h1, h3, h4, h5⟩
theorem Rest.keep (R : Rest g ip σ s) (hL : ∀ o, s.heap.get? g.L = some o → s2.heap.get? g.L = some o) (hp : ∀ p ∈ g.pn ++ ip, s.heap.get? p.1 = some p.2 → s2.heap.get? p.1 = some p.2) : Rest g ip σ s2 := by
  obtain ⟨m, ⟨o, es, ep, ho, r⟩, hl⟩ := R.loc
  refine ⟨⟨m, ⟨o, es, ep, hL o ho, r⟩, hl⟩, fun p h => ?_, R.len⟩
  obtain ⟨h1, h2⟩ := R.pin p h
  exact ⟨hp p h h1, h2⟩
/-- it is woken -/
theorem Rest.wake (G : g.Ok) {A : Around} (R : Rest g ip σ s) (e0 : Env0 g.prog g.w g.K g.mg g.base A g.outer s H) (hL : H g.L = Option.none) (hp : ∀ p ∈ g.pn ++ ip, H p.1 = Option.none) : Inv (g.X s H) ip σ H s := by
  obtain ⟨m, hn, hl⟩ := R.loc
  have hlt : g.L < s.heap.objs.size := hn.lt
  have nc : ∀ x c, g.env.cells.lookup x = some c → False := fun x c e => by
    have : (cellsFrom (g.L + 1) g.scope.names []).lookup x = some c := e
    rw [G.nocell] at this
    cases this
  have sz : (cutS g.L s).heap.objs.size = g.L := cut_size (Nat.le_of_lt hlt)
  refine ⟨⟨G.mod, G.kind, rfl, rfl, Nat.le_of_eq sz, fun x y c e => (nc x c e).elim, fun x hx => (hx.elim (G.nofree x).1 (G.nofree x).2).elim, fun x c _ e => (nc x c e).elim, fun _ => G.hd, Around.frames_deeper G.frames,
    .inr ⟨rfl, rfl⟩, fun b hb => (List.not_mem_nil hb).elim, fun b o e => ?_, by show g.base.objs.size ≤ (cutS g.L s).heap.objs.size; rw [sz]; exact G.bsz, fun b o _ hb => (List.not_mem_nil hb).elim, fun b hb => (List.not_mem_nil hb).elim, ?_, fun b hb => ?_⟩,
    rfl, e0.bare, ⟨fun b o e _ _ _ => (cut_of e).2, fun b o e _ _ _ => ⟨o.slots, (cut_of e).2⟩, fun b o e n _ => ?_, fun b o e _ => ⟨o, (cut_of e).2⟩, fun b xs e => e, fun b o u e => e, fun b ps e => ⟨#[], by rw [show H b = _ from e]; simp⟩⟩,
    ⟨m, hn, fun i x v e1 e2 e3 => ?_⟩, fun x c e => (nc x c e).elim, hL, fun x c e => (nc x c e).elim, fun p h => ?_, e0.hok, R.len⟩
  · have hb : b < g.L := Nat.lt_of_lt_of_le (Heap.lt_size e) G.bsz
    obtain ⟨h1, h2⟩ := e0.bs b o e
    exact ⟨by rw [show (cutS g.L s).heap = cutHeap g.L s.heap from rfl, cut_lt hb]; exact h1, h2⟩
  · show (cutHeap g.L s.heap).FunFrames g.base g.outer
    have all : ∀ (l : List Env), (∀ b ∈ frs l, b < g.L) → s.heap.FunFrames g.base l → (cutHeap g.L s.heap).FunFrames g.base l := by
      intro l
      induction l with
      | nil => intro _ _; trivial
      | cons env r ih =>
        intro hs hf
        obtain ⟨hk, ⟨L, o, hfr, hnn, ho, hd⟩, hr⟩ := hf
        have hLb : L < g.L := hs L (by unfold frs; rw [List.filterMap_cons, hfr]; exact List.mem_cons_self)
        exact ⟨hk, ⟨L, o, hfr, hnn, by rw [cut_lt hLb]; exact ho, hd⟩, ih (fun b hb => hs b (by unfold frs; rw [List.filterMap_cons, hfr]; exact List.mem_cons_of_mem _ hb)) hr⟩
    exact all g.outer G.fr e0.funs
  · exact e0.frf b hb
  · exact n
  · obtain ⟨u, r, k, e⟩ := hl i x v e1 e2 e3
    exact ⟨u, r, .inl ⟨k, e⟩⟩
  · obtain ⟨h1, h2, h3, h4⟩ := R.pin p h
    exact ⟨h1, hp p h, h2, h3, h4⟩
/-! ### the consumer, behind a turn of the generator -/
structure Fits (g : GP) (X : Cx) (pins : List (Addr × Obj)) : Prop where
  prog : g.prog = X.prog
  w : g.w = X.w
  outer : g.outer = X.stack
  sz : X.s_0.heap.objs.size ≤ g.L
  loc : X.env.locals < g.L
  cells : ∀ x c, X.env.cells.lookup x = some c → c < g.L
  pins : ∀ p ∈ X.pn ++ pins, p.1 < g.L
theorem back {X : Cx} {pins : List (Addr × Obj)} {σc : L2.St} (F : Fits g X pins) (Ic : Inv X pins σc Hw s0) (I : Inv (g.X s0 Hw) ip σ H s) : Inv X pins σc H s := by
  have at' : ∀ b o, b < g.L → s0.heap.get? b = some o → (cutS g.L s0).heap.get? b = some o := fun b o hb e => by
    rw [show (cutS g.L s0).heap = cutHeap g.L s0.heap from rfl, cut_lt hb]; exact e
  have lt : ∀ b o, X.s_0.heap.get? b = some o → b < g.L := fun b o e => Nat.lt_of_lt_of_le (Heap.lt_size e) F.sz
  have any : ∀ b o, b < g.L → s0.heap.get? b = some o → Hw b = Option.none → ∃ sl, s.heap.get? b = some { o with slots := sl } := fun b o hb e n =>
    I.base.any (at' b o hb e) n List.not_mem_nil
  have stk : ∀ b, b ∈ frs g.outer → b ∈ X.env.locals :: X.fs := fun b hb => Ic.stkSub b (by rw [← F.outer]; exact hb)
  have keep : ∀ b o, b < g.L → b ≠ X.env.locals → b ∉ X.fs → s0.heap.get? b = some o → Hw b = Option.none → s.heap.get? b = some o := fun b o hb h1 h2 e n =>
    I.base.keep b o (at' b o hb e) n (fun z => (List.mem_cons.mp (stk b z)).elim h1 h2) List.not_mem_nil
  have free : ∀ b o, b < g.L → s0.heap.get? b = some o → Hw b = Option.none → H b = Option.none := fun b o hb e n => I.base.free b o (at' b o hb e) n List.not_mem_nil
  have neL : ∀ b o, X.s_0.heap.get? b = some o → b ≠ X.env.locals := fun b o e => Nat.ne_of_lt (Nat.lt_of_lt_of_le (Heap.lt_size e) Ic.ok.above)
  have osE : s.os = s0.os := I.os
  refine ⟨Ic.ok, osE.trans Ic.os, I.bare, ⟨fun b o e n h1 h2 => ?_, fun b o e n h1 h2 => ?_, fun b o e n h2 => ?_, fun b o e h2 => ?_, ?_, ?_, ?_⟩, ?_, fun x c e => ?_, ?_, fun x c e => ?_, fun p hp => ?_, ?_, Ic.len⟩
  · exact keep b o (lt b o e) (neL b o e) h1 (Ic.base.keep b o e n h1 h2) (Ic.base.free b o e n h2)
  · obtain ⟨sl, e1⟩ := Ic.base.slot b o e n h1 h2
    obtain ⟨sl', e2⟩ := any b _ (lt b o e) e1 (Ic.base.free b o e n h2)
    exact ⟨sl', e2⟩
  · obtain ⟨o', e1⟩ := Ic.base.there b o e h2
    exact free b o' (lt b o e) e1 (Ic.base.free b o e n h2)
  · obtain ⟨o', e1⟩ := Ic.base.there b o e h2
    obtain ⟨o2, e2⟩ := I.base.there b o' (at' b o' (lt b o e) e1) List.not_mem_nil
    exact ⟨o2, e2⟩
  · exact fun b xs e => I.base.tups b xs (Ic.base.tups b xs e)
  · exact fun b o xs e => I.base.frzs b o xs (Ic.base.frzs b o xs e)
  · intro b ps e
    obtain ⟨m1, e1⟩ := Ic.base.tbls b ps e
    obtain ⟨m2, e2⟩ := I.base.tbls b _ e1
    exact ⟨m1 ++ m2, by rw [e2, Array.append_assoc]⟩
  · obtain ⟨m, ⟨o, es, ep, ho, r⟩, hl⟩ := Ic.loc
    obtain ⟨sl, e⟩ := any _ o F.loc ho Ic.free
    refine ⟨m, ⟨_, es, ep, e, r⟩, fun i x v e1 e2 e3 => ?_⟩
    obtain ⟨u, ru, l⟩ := hl i x v e1 e2 e3
    refine ⟨u, ru, ?_⟩
    rcases l with l | ⟨k, c, ec, ⟨oc, hoc, hdc⟩⟩
    · exact .inl l
    · obtain ⟨sl2, e4⟩ := any c oc (F.cells x c ec) hoc (Ic.freeC x c ec)
      exact .inr ⟨k, c, ec, _, e4, hdc⟩
  · obtain ⟨v, oc, hoc, hdc⟩ := Ic.cell x c e
    obtain ⟨sl2, e4⟩ := any c oc (F.cells x c e) hoc (Ic.freeC x c e)
    exact ⟨v, _, e4, hdc⟩
  · obtain ⟨m, ⟨o, es, ep, ho, r⟩, hl⟩ := Ic.loc
    exact free _ o F.loc ho Ic.free
  · obtain ⟨v, oc, hoc, hdc⟩ := Ic.cell x c e
    exact free c oc (F.cells x c e) hoc (Ic.freeC x c e)
  · obtain ⟨h1, h2, h3, h4, h5⟩ := Ic.pin p hp
    have hb := F.pins p hp
    exact ⟨keep p.1 p.2 hb h3 h4 h1 h2, free p.1 p.2 hb h1 h2, h3, h4, h5⟩
  · have := I.hok
    rw [← F.prog, ← F.w]
    exact this
end
end Gn
namespace Gn
open PySem PySem.Spec PyProof.Rows L2 StX GenW
/-- what the two sides agree on: n items, the i-th with a heap as Φ says; the consumer changes the objects at M alone; CI is the consumer's own at the i-th waking -/
structure Deal where
  n : Nat
  Φ : Nat → V → Hp → Prop
  M : List Addr
  CI : Nat → Hp → Shared → Prop
def hKind : HO → Nat
  | .tup _ => 0
  | .lst _ => 1
  | .dK _ => 2
  | _ => 3
/-- but for M all is kept, and what M names keeps its kind -/
def KeepG (M : List Addr) (H H' : Hp) : Prop := Keep M H H' ∧ ∀ a ∈ M, ∀ o, H a = some o → ∃ o', H' a = some o' ∧ hKind o' = hKind o
theorem KeepG.refl (M : List Addr) (H : Hp) : KeepG M H H := ⟨Keep.refl _ _, fun _ _ o h => ⟨o, h, rfl⟩⟩
theorem KeepG.all {M : List Addr} {H H' : Hp} (h : Keep [] H H') : KeepG M H H' := ⟨fun a o _ e => h a o (by simp) e, fun a _ o e => ⟨o, h a o (by simp) e, rfl⟩⟩
theorem KeepG.trans {M : List Addr} {H H1 H2 : Hp} (a : KeepG M H H1) (b : KeepG M H1 H2) : KeepG M H H2 := ⟨a.1.trans b.1, fun c hc o e => by
  obtain ⟨o1, e1, k1⟩ := a.2 c hc o e
  obtain ⟨o2, e2, k2⟩ := b.2 c hc o1 e1
  exact ⟨o2, e2, k2.trans k1⟩⟩
theorem KeepG.at {M : List Addr} {H H' : Hp} {a : Addr} {o : HO} (h : KeepG M H H') (k : ∀ b ∈ M, ∀ o', H b = some o' → hKind o' ≠ hKind o) (e : H a = some o) : H' a = some o := h.1 a o (fun hm => k a hm o e rfl) e
structure Resumes (g : GP) (ip : List (Addr × Obj)) (M : List Addr) (H : Hp) (s : Shared) (H2 : Hp) (s2 : Shared) : Prop where
  env : Env0 g.prog g.w g.K g.mg g.base g.A g.outer s2 H2
  free : H2 g.L = Option.none
  fp : ∀ p ∈ g.pn ++ ip, H2 p.1 = Option.none ∧ s2.heap.get? p.1 = some p.2
  kL : ∀ o, s.heap.get? g.L = some o → s2.heap.get? g.L = some o
  keep : KeepG M H H2
def YP (g : GP) (d : Deal) : Protocol := fun m s0 v s kap =>
  ∃ i Hw x ip σ H, m + 1 + i = d.n ∧ d.CI i Hw s0 ∧ Inv (g.X s0 Hw) ip σ H s ∧ Keep [] Hw H ∧ d.Φ i x H ∧ RelV x v ∧ ∀ H2 s2, d.CI (i + 1) H2 s2 → Resumes g ip d.M H s H2 s2 → kap (.send .none) s2 ∧ kap (.send (.bool true)) s2
/-- behind a statement: (items so far, heap at the last waking, slots, heap) -/
abbrev TGn := (Nat → Hp → L2.St → Hp → Prop) → Nat → Hp → L2.St → Hp → Prop
structure GCc (g : GP) (c : Code) (fs : List Frame) (gd : Bool → Bool) : Prop where
  over : g.A.over c fs = g.A.deeper g.env
  split : splitAtGen fs = none
  guard : fs.any Frame.guarded = false
  gd : gd false = false
structure At (g : GP) (d : Deal) (ip : List (Addr × Obj)) (n i : Nat) (Hw : Hp) (s0 s : Shared) (σ : L2.St) (H : Hp) : Prop where
  cnt : n + i = d.n
  ci : d.CI i Hw s0
  lt : g.L < s0.heap.objs.size
  inv : Inv (g.X s0 Hw) ip σ H s
def GRun (g : GP) (d : Deal) {α : Type} (m : α → Sem Flow) (t : TGn) (st : α) : Prop :=
  ∀ (R : GenEnd) (n i : Nat) (Hw : Hp) (s0 s : Shared) (σ : L2.St) (H : Hp) (ip : List (Addr × Obj)) (c : Code) (fs : List Frame) (Kf : Flow → Sem PySem.Fin) (J : Value → Sem PySem.Fin) (gd : Bool → Bool) (lv : List Value → List Value) (nx : Nat → Hp → L2.St → Hp → Prop),
    GCc g c fs gd → At g d ip n i Hw s0 s σ H →
    (∀ n i Hw s0 s σ H, At g d ip n i Hw s0 s σ H → nx i Hw σ H → Seg (model g.prog g.w) g.A R (YP g d) n s0 c (Kf .next) fs s) →
    t nx i Hw σ H → Seg (model g.prog g.w) g.A R (YP g d) n s0 c ((m st).wrap Kf J gd lv) fs s
structure GS (g : GP) (d : Deal) (st : Stmt) (t : TGn) : Prop where
  run : GRun g d (fun st => exec st g.env) t st
structure GSs (g : GP) (d : Deal) (st : List Stmt) (t : TGn) : Prop where
  run : GRun g d (fun st => execs st g.env) t st
section
variable {g : GP} {d : Deal} {st : Stmt} {rest : List Stmt}
def tPlain (t : TS) : TGn := fun nx i Hw σ H => t { nx := fun σ' H' => nx i Hw σ' H', rt := fun _ _ => False } σ H
theorem gs_plain {t : TS} (h : ∀ s0 Hw, PS (g.X s0 Hw) st t) : GS g d st (tPlain t) := by
  refine ⟨fun R n i Hw s0 s σ H ip c fs Kf J gd lv nx G I k ht => seg_wrap ?_⟩
  rw [G.over]
  refine wpAny_mono ((h s0 Hw).run ip s σ H _ I.inv ht) (fun f s' hs => ?_) fun _ _ z => z.elim
  cases f with
  | next =>
    obtain ⟨σ', H', I', q⟩ := hs
    exact k n i Hw s0 s' σ' H' { I with inv := I' } q
  | brk => obtain ⟨_, _, _, q⟩ := hs; exact q.elim
  | cont => obtain ⟨_, _, _, q⟩ := hs; exact q.elim
  | ret u => obtain ⟨_, _, _, _, _, q⟩ := hs; exact q.elim
def tG0 : TGn := fun nx i Hw σ H => nx i Hw σ H
theorem gss_nil : GSs g d [] tG0 :=
  ⟨fun R n i Hw s0 s σ H ip c fs Kf J gd lv nx G I k ht => seg_execs_nil (k n i Hw s0 s σ H I ht)⟩
def tThen (t u : TGn) : TGn := fun nx i Hw σ H => t (fun i' Hw' σ' H' => u nx i' Hw' σ' H') i Hw σ H
theorem gss_cons {t u : TGn} (a : GS g d st t) (b : GSs g d rest u) : GSs g d (st :: rest) (tThen t u) :=
  ⟨fun R n i Hw s0 s σ H ip c fs Kf J gd lv nx G I k ht => seg_execs_cons (a.run R n i Hw s0 s σ H ip c fs _ J gd lv _ G I
    (fun n' i' Hw' s0' s' σ' H' I' q => b.run R n' i' Hw' s0' s' σ' H' ip c fs Kf J gd lv nx G I' k q) ht)⟩
theorem gss_one {t : TGn} (a : GS g d st t) : GSs g d [st] (tThen t tG0) := gss_cons a gss_nil
/-- yield -/
def tYield (n : Nat) (Φ : Nat → V → Hp → Prop) (M : List Addr) (te : TE) : TGn := fun nx i Hw σ H => i < n ∧ te σ H fun x H1 => Φ i x H1 ∧ Keep [] Hw H1 ∧ ∀ H2, KeepG M H1 H2 → nx (i + 1) H2 σ H2
theorem gs_yield {e : Expr} {te : TE} {yp pos : Pos} (G : g.Ok) (he : ∀ s0 Hw, PE (g.X s0 Hw) e te) (hco : g.env.scope.isCoroutine = false := by rfl) (hi : interactive g.env = false := by rfl) :
    GS g d (.Expr (.Yield (some e) yp) pos) (tYield d.n d.Φ d.M te) := by
  refine ⟨fun R n i Hw s0 s σ H ip c fs Kf J gd lv nx C I k ht => ?_⟩
  obtain ⟨hlt, ht⟩ := ht
  have hn := I.cnt
  cases n with
  | zero => omega
  | succ n =>
    refine seg_Expr_Yield C.split C.gd C.guard ?_ hco hi
    rw [C.over]
    refine wpAny_mono ((he s0 Hw).run ip s σ H _ I.inv ht) (fun v s' hv => ?_) fun _ _ z => z.elim
    obtain ⟨x, H1, I1, rv, hΦ, hK, hk⟩ := hv
    intro kap hkap
    refine ⟨i, Hw, x, ip, σ, H1, by omega, I.ci, I1, hK, hΦ, rv, fun H2 s2 hc2 r => ?_⟩
    have R1 := (Rest.of G I1).keep r.kL fun p hp _ => (r.fp p hp).2
    have I2 := R1.wake G r.env r.free fun p hp => (r.fp p hp).1
    have q := k n (i + 1) H2 s2 s2 σ H2 ⟨by omega, hc2, I2.lt, I2⟩ (hk H2 r.keep)
    exact ⟨hkap .none s2 q, hkap (.bool true) s2 q⟩
/-! ### for within a generator -/
def tFor (wi : TI) (tg : TG) (tb : TGn) : TGn := fun nx i Hw σ H => wi σ H fun J H1 => ∃ W : Nat → Nat → Nat → Hp → L2.St → Hp → Prop, (∃ m, W 0 m i Hw σ H1) ∧ ∀ j m i Hw σ H, W j m i Hw σ H →
  (J.stop j H ∧ nx i Hw σ H) ∨ (J.go j H ∧ ∀ x H', J.yld j H x H' → tg x σ H' fun σ2 H2 => tb (fun i' Hw' σ' H'' => ∃ m', m' < m ∧ W (j + 1) m' i' Hw' σ' H'') i Hw σ2 H2)
section
variable {M : Model} {A : Around} {R : GenEnd} {Y : Protocol} {n : Nat} {s₀ s : Shared} {c : Code} {fs : List Frame} {Kf : Flow → Sem PySem.Fin} {J : Value → Sem PySem.Fin} {gd : Bool → Bool} {lv : List Value → List Value} {env : Env}
theorem seg_For {tg iter : Expr} {body : List Stmt} {pos : Pos} (hs : ∀ x, foldedSetIterable iter env x = pure x)
    (h : wpAny M (A.over c fs) (eval iter env) (fun x s1 => wpAny M (A.over c fs) (pyIter x) (fun it s2 => ∀ p l, Seg M A R Y n s₀ (.forLoop tg it body [] env) (M.den (.forLoop tg it body [] env))
      (.ret (fun r => ((match r with | .ok f => (.pure f : Sem Flow) | .error e => .raise e).onRaise (cameBack env)).wrap Kf J gd lv) none (gd false) l c p [] :: fs) s2) (fun _ _ => False) s1) (fun _ _ => False) s) :
    Seg M A R Y n s₀ c ((exec (.For tg iter body [] pos) env).wrap Kf J gd lv) fs s := by
  rw [exec_For]
  refine seg_bind_wrap (wpAny_standAt ?_)
  refine seg_bind_wrap (wpAny_mono h (fun x s1 h1 => ?_) fun _ _ z => z.elim)
  refine seg_bind_wrap (wpAny_of_eq (hs x) ?_)
  refine seg_bind_wrap (wpAny_standAt ?_)
  refine seg_bind_wrap (wpAny_holding (wpAny_mono h1 (fun it s2 h2 => ?_) fun _ _ z => z.elim))
  exact seg_call fun p => h2 p _
end
section
variable {g : GP} {d : Deal}
theorem gcc_loop {c c' : Code} {fs : List Frame} {gd : Bool → Bool} {k : Result → Sem PySem.Fin} {l kp : List Value} {p : Pos} (G : GCc g c fs gd) (hw : c'.weight = 0) (hu : c'.cUnits = 0) : GCc g c' (.ret k none (gd false) l c p kp :: fs) id where
  over := (over_loop hw hu).trans G.over
  split := by
    show (splitAtGen fs).map _ = none
    rw [G.split]; rfl
  guard := by
    show (gd false || fs.any Frame.guarded) = false
    rw [G.gd, G.guard]; rfl
  gd := rfl
theorem gs_for {tg iter : Expr} {body : List Stmt} {pos : Pos} {wi : TI} {tgt : TG} {tb : TGn} (hi : ∀ s0 Hw, PI (g.X s0 Hw) tg iter wi) (hg : ∀ s0 Hw, PG (g.X s0 Hw) tg tgt) (hb : GSs g d body tb)
    (hs : ∀ x, foldedSetIterable iter g.env x = pure x := by intro _; rfl) : GS g d (.For tg iter body [] pos) (tFor wi tgt tb) := by
  refine ⟨fun R n i Hw s0 s σ H ip c fs Kf J gd lv nx C I k ht => ?_⟩
  refine seg_For hs ?_
  rw [C.over]
  refine wpAny_mono ((hi s0 Hw).run ip s σ H _ I.inv ht) (fun v s1 h1 => wpAny_mono h1 (fun itv s2 h2 => ?_) fun _ _ z => z.elim) fun _ _ z => z.elim
  obtain ⟨it, fp, tn, J', H2, rfl, I2, T, st2, f2, W, ⟨m0, w0⟩, turn⟩ := h2
  intro p l
  have C2 := gcc_loop (k := fun r => ((match r with | .ok f => (.pure f : Sem Flow) | .error e => .raise e).onRaise (cameBack g.env)).wrap Kf J gd lv) (c' := .forLoop tg (.ref it) body [] g.env) (l := l) (kp := []) (p := p) C rfl rfl
  -- what stays of the iterator's objects
  have stat : ∀ {s0' : Shared} {Hw' H' : Hp}, (∀ b ∈ fp, H' b = Option.none) → ∀ b ∈ fp, FpOk (g.X s0' Hw') ip H' b := fun {s0' Hw' H'} hn b hb => by
    obtain ⟨_, h1, h2, h3, h4, h5⟩ := f2 b hb
    refine ⟨hn b hb, h1, h2, .inr ?_, h4, h5⟩
    rcases h3 with z | z
    · exact (List.not_mem_nil z).elim
    · have e1 : (cutS g.L s0).heap.objs.size = g.L := cut_size (Nat.le_of_lt I.lt)
      have z' : (cutS g.L s0).heap.objs.size ≤ b := z
      rw [e1] at z'
      refine Nat.le_trans ?_ z'
      show (s0'.heap.objs.extract 0 g.L).size ≤ g.L
      rw [Array.size_extract]; omega
  have loop : ∀ (m j n i : Nat) (Hw : Hp) (s0 s : Shared) (σ : L2.St) (H : Hp), W j m i Hw σ H → At g d ip n i Hw s0 s σ H → tn j s.heap → (∀ b ∈ fp, H b = Option.none) →
      Seg (model g.prog g.w) g.A R (YP g d) n s0 (.forLoop tg (.ref it) body [] g.env) ((model g.prog g.w).den (.forLoop tg (.ref it) body [] g.env))
        (.ret (fun r => ((match r with | .ok f => (.pure f : Sem Flow) | .error e => .raise e).onRaise (cameBack g.env)).wrap Kf J gd lv) none (gd false) l c p [] :: fs) s := by
    intro m
    induction m using Nat.strongRecOn with
    | ind m ih =>
      intro j n i Hw s0 s σ H w At0 st hf
      show Seg _ _ _ _ _ _ _ ((forTurn tg (.ref it) body [] g.env).onRaise (fun x => do noteFrame x g.env; theTreesLotGoes x)) _ _
      rw [Sem.onRaise_eq_wrap]
      unfold forTurn
      refine seg_bind_wrap (wpAny_standAt ?_)
      rcases turn j m i Hw σ H w with ⟨stop, q⟩ | ⟨go, step⟩
      · refine seg_bind_wrap (wpAny_onRaise (wpAny_mono (Q := fun r s' => r = none ∧ Inv (g.X s0 Hw) ip σ H s') (E := fun _ _ => False) ?_ (fun r s' hr => ?_) fun _ _ z => z.elim))
        · rw [C2.over]
          exact T.done (g.X s0 Hw) rfl rfl rfl rfl j ip s σ H _ At0.inv (stat hf) st stop
        · obtain ⟨rfl, I'⟩ := hr
          refine seg_again rfl ?_
          show Seg _ _ _ _ _ _ _ ((execs [] g.env).onRaise (fun x => do noteFrame x g.env; theTreesLotGoes x) >>= fun f => pure (Fin.done f)) _ _
          refine seg_bind (wpAny_onRaise (wpAny_execs_nil ?_))
          exact seg_leaf (.ok .next) (k n i Hw s0 s' σ H { At0 with inv := I' } q)
      · refine seg_bind_wrap (wpAny_onRaise (wpAny_mono (E := fun _ _ => False) (by
          rw [C2.over]
          exact T.item (g.X s0 Hw) rfl rfl rfl rfl j ip s σ H _ At0.inv (stat hf) st go) (fun r s' hr => ?_) fun _ _ z => z.elim))
        obtain ⟨u, rfl, h4⟩ := hr
        refine seg_bind_wrap ?_
        rw [C2.over]
        refine wpAny_mono h4 (fun _ s5 h5 => ?_) fun _ _ z => z.elim
        obtain ⟨x, H5, I5, r5, y5, st5, fr5⟩ := h5
        have I5' := I5.pinned (stat fr5) (T.obj _ _ st5)
        refine seg_bind_wrap ?_
        rw [C2.over]
        refine wpAny_mono ((hg s0 Hw).run _ s5 σ H5 x u _ I5' r5 (step x H5 y5)) (fun _ s6 h6 => ?_) fun _ _ z => z.elim
        obtain ⟨σ6, H6, I6, q6⟩ := h6
        rw [Sem.bind_eq_wrap', Sem.wrap_wrap]
        refine hb.run R n i Hw s0 s6 σ6 H6 _ _ _ _ _ _ _ _ ⟨C2.over, C2.split, C2.guard, rfl⟩ { At0 with inv := I6 } (fun n7 i7 Hw7 s07 s7 σ7 H7 A7 q7 => ?_) q6
        obtain ⟨m', hm, w7⟩ := q7
        refine seg_again rfl (ih m' hm (j + 1) n7 i7 Hw7 s07 s7 σ7 H7 w7 { A7 with inv := A7.inv.unpinned } (T.keep _ _ _ st5 fun b hb o e => (A7.inv.pin (b, o) (List.mem_append_right _ (List.mem_append_right _ (mem_pinsAt hb e)))).1) fun b hb => ?_)
        obtain ⟨o, e, dd⟩ := T.obj _ _ st5 b hb
        exact (A7.inv.pin (b, o) (List.mem_append_right _ (List.mem_append_right _ (mem_pinsAt hb e)))).2.1
  exact loop m0 0 n i Hw s0 s2 σ H2 w0 { I with inv := I2 } st2 fun b hb => (f2 b hb).1
end
end
end Gn
namespace Gn
open PySem PySem.Spec PyProof.Rows L2 StX GenW
/-! ### a generator def's promise -/
/-- from the arguments and the heap: n items, Φ, M -/
abbrev SpG := List V → Hp → Nat → (Nat → V → Hp → Prop) → List Addr → Prop
def GRp (g : GP) (d : Deal) : GenEnd := fun m s0 r s1 => ((r = .ok (.ret .none) ∨ r = .ok .next) ∧ ∃ Hw ip σ H, d.CI d.n Hw s0 ∧ Inv (g.X s0 Hw) ip σ H s1 ∧ Keep [] Hw H) ∨ ∃ e : Value, r = .error e ∧ False
abbrev gp (P : Program) (w : World) (K : PySem.W.Frag) (mg : Str → Option Value) (base : Heap) (N : List Str) (qual : Str) (scope : Scope) (f : Addr) (cd : Value) (A : Around) (outer : List Env) (L : Addr) (pn : List (Addr × Obj)) : GP :=
  ⟨P, w, K, mg, base, N, qual, scope, f, cd, A, outer, L, pn⟩
structure Made (P : Program) (w : World) (K : PySem.W.Frag) (mg : Str → Option Value) (base : Heap) (k : Nat) (outer : List Env) (H : Hp) (s : Shared) (n : Nat) (Φ : Nat → V → Hp → Prop) (M : List Addr) (a : Addr) (gi : Nat) (go : Obj) (c : Code) (s' : Shared) : Prop where
  lo : s.heap.objs.size < a
  hi : a < s'.heap.objs.size
  gen : s'.heap.IsGen a gi
  obj : s'.heap.get? a = some go
  ocls : go.cls = .type "generator"
  odat : ∃ vs, go.data = .fields vs
  st : s'.gens[gi]? = some (.fresh c)
  os : s'.os = s.os
  bare : AllBare s'.gens
  keep : ∀ b o, s.heap.get? b = some o → s'.heap.get? b = some o
  wake : ∀ Aw : Around, Room k Aw → Aw.frames = some outer → ∃ (g : GP) (σ : L2.St), g.Ok ∧ g.prog = P ∧ g.w = w ∧ g.A = Aw ∧ g.L = s.heap.objs.size ∧ g.outer = outer ∧ g.pn = [(a, go)] ∧ Rest g [] σ s' ∧
    (∀ A' s2 H2, Env0 P w K mg base A' outer s2 H2 → Env0 g.prog g.w g.K g.mg g.base g.A g.outer s2 H2) ∧
    ∀ d : Deal, d.n = n → d.Φ = Φ → d.M = M → ∀ H2 s2, d.CI 0 H2 s2 → Inv (g.X s2 H2) [] σ H2 s2 → KeepG M H H2 → Seg (model P w) Aw (GRp g d) (YP g d) n s2 c ((model P w).den c) [] s2
structure GFn (P : Program) (w : World) (K : PySem.W.Frag) (mg : Str → Option Value) (base : Heap) (k : Nat) (f : Addr) (fd : FuncData) (ps : List Str) (sp : SpG) : Prop where
  len : ∀ vs H n Φ M, sp vs H n Φ M → vs.length = ps.length
  run : ∀ (A : Around) (outer : List Env) (s : Shared) (H : Hp) (args : Args) (us : List Value) (vs : List V) n Φ M, Room k A → Env0 P w K mg base A outer s H → BindsTo s fd args (ps.zip us) → Vals vs us → sp vs H n Φ M →
    codeAny (model P w) A (.call (.ref f) args) (fun r s' => match r with | .ok (.ret u) => ∃ a gi go c, u = .ref a ∧ Made P w K mg base k outer H s n Φ M a gi go c s' | _ => False) s
theorem gfn {P : Program} {w : World} {K : PySem.W.Frag} {mg : Str → Option Value} {base : Heap} {k : Nat} {f : Addr} {name qual : Str} {params : Arguments} {body : List Stmt} {scope : Scope} {dV kV doc pm cdv ct oc : Value} {an od : Option Addr}
    {osl : Array (Option Value)} {N ps : List Str} {sp : SpG} (lk : K.lookup f = some ⟨oc, od, .func (PySem.W.fnOf name qual params body scope dV kV doc pm an cdv ct), osl⟩) (hcd : PySem.W.codeIn K cdv qual = true) (S : GScope N ps scope)
    (nocell : ∀ n, cellsFrom n scope.names [] = []) (nofree : ∀ x, scope.names.lookup x ≠ some .cell ∧ scope.names.lookup x ≠ some .free)
    (len : ∀ vs H n Φ M, sp vs H n Φ M → vs.length = ps.length)
    (hbody : ∀ (A : Around) (outer : List Env) (L : Addr) (pn : List (Addr × Obj)) (d : Deal) (vs : List V) (H : Hp), (gp P w K mg base N qual scope f cdv A outer L pn).Ok → Room k (A.deeper (envOfC qual scope L f cdv)) → sp vs H d.n d.Φ d.M →
      ∃ t, GSs (gp P w K mg base N qual scope f cdv A outer L pn) d body t ∧ ∀ H2, KeepG d.M H H2 → t (fun i Hw _ H' => i = d.n ∧ Keep [] Hw H') 0 H2 (start N vs) H2) :
    GFn P w K mg base (k + 1) f (PySem.W.fnOf name qual params body scope dV kV doc pm an cdv ct) ps sp := by
  refine ⟨len, fun A outer s H args us vs n Φ M hr e0 hb rv hsp => ?_⟩
  have hlen := len _ _ _ _ _ hsp
  have KI : K.In s.heap := e0.mod.kin.keeps fun b o e => (e0.bs b o e).1
  have noL : s.heap.NoLimit := e0.mod.nolimit.keeps fun b o e => (e0.bs b o e).1
  have kinds : ∀ y ∈ ps.zip us, scope.names.lookup y.1 = some .local ∨ (scope.names.lookup y.1 = some .cell ∧ ((cellsFrom (s.heap.objs.size + 1) scope.names []).lookup y.1).isSome = true) := by
    rintro ⟨x, v⟩ hy
    exact (S.par x (List.of_mem_zip hy).1).elim .inl fun q => ((nofree x).1 q).elim
  refine codeAny_call_generator hr.depth (KI _ _ lk) rfl S.co S.gen rfl (PySem.W.codeRec_of KI hcd) (hb _ _ _ _ (wpAny_newFunctionEnv_cells S.kind kinds fun env he s1 x => ?_))
  subst he
  refine ⟨noL.keeps x.toInCall.keep, ?_⟩
  obtain ⟨h1, tk, es1, hk1⟩ := x.done
  have lt1 : s.heap.objs.size < s1.heap.objs.size := x.toInCall.ns.lt
  have main : ∀ (go : Obj) (nm qn : Value) (tk2 : Nat), go.cls = .type "generator" → go.data = .fields #[.int s1.gens.size 0, nm, qn] → go.slots = #[] → (∀ h : Heap, (h.push go).get? h.objs.size = some go) →
      Made P w K mg base (k + 1) outer H s n Φ M s1.heap.objs.size s1.gens.size go (.func body (envOfC qual scope s.heap.objs.size f cdv)) { s1 with gens := s1.gens.push (.fresh (.func body (envOfC qual scope s.heap.objs.size f cdv))), toks := tk2, heap := s1.heap.push go } := by
    intro go nm qn tk2 gc gd gs gpu
    have kp : ∀ b o, s1.heap.get? b = some o → (s1.heap.push go).get? b = some o := fun b o e => Heap.get?_push_of_some _ e
    refine ⟨lt1, by show _ < (s1.heap.push go).objs.size; rw [Heap.size_push]; exact Nat.lt_succ_self _, ⟨go, nm, qn, gpu _, gc, gd, gs⟩, gpu _, gc, ⟨_, gd⟩, Array.getElem?_push_size .., by show s1.os = s.os; rw [es1],
      AllBare.push (by show AllBare s1.gens; rw [es1]; exact e0.bare) rfl, fun b o e => kp b o (x.toInCall.keep b o e), fun Aw hAw fAw => ?_⟩
    have e0w : Env0 P w K mg base Aw outer s H := ⟨fAw, e0.mod, e0.bs, e0.bsz, e0.funs, e0.frf, e0.hok, e0.bare⟩
    have I1 : Inv (gcxOf P w K mg base N qual scope f cdv Aw outer s H (fun _ _ _ => False) []) [] (start N vs) H s1 := inv_startG S hAw.hd e0w hlen rv x
    have GO : (gp P w K mg base N qual scope f cdv Aw outer s.heap.objs.size [(s1.heap.objs.size, go)]).Ok := ⟨e0.mod, S.kind, nocell _, nofree, e0.bsz, fun b hb => by
      obtain ⟨_, o, ho, _⟩ := e0.funs.mem hb
      exact Heap.lt_size ho, hAw.hd, fAw⟩
    refine ⟨gp P w K mg base N qual scope f cdv Aw outer s.heap.objs.size [(s1.heap.objs.size, go)], start N vs, GO, rfl, rfl, rfl, rfl, rfl, rfl, ?_, fun A' s2 H2 e => ⟨fAw, e.mod, e.bs, e.bsz, e.funs, e.frf, e.hok, e.bare⟩, fun d hn hΦ hM H2 s2 hci hI hK => ?_⟩
    · obtain ⟨m, ⟨o, es, ep, ho, rr⟩, hl⟩ := I1.loc
      refine ⟨⟨m, ⟨o, es, ep, kp _ o ho, rr⟩, fun i y v q1 q2 q3 => ?_⟩, fun p hp => ?_, I1.len⟩
      · obtain ⟨u, ru, l⟩ := hl i y v q1 q2 q3
        rcases l with ⟨k1, k2⟩ | ⟨k1, _⟩
        · exact ⟨u, ru, k1, k2⟩
        · exact (k1.elim (nofree y).1 (nofree y).2).elim
      · obtain rfl : p = (s1.heap.objs.size, go) := by simpa using hp
        refine ⟨gpu _, Nat.ne_of_gt lt1, fun hb => ?_, fun v q => by rw [gd] at q; cases q⟩
        have := GO.fr _ hb
        exact absurd (Nat.lt_trans this lt1) (Nat.lt_irrefl _)
    · subst hn hΦ hM
      obtain ⟨t, ht, hq⟩ := hbody Aw outer s.heap.objs.size [(s1.heap.objs.size, go)] d vs H GO (hAw.deeper _) hsp
      refine seg_func ?_
      have lt2 := hI.lt
      refine ht.run _ d.n 0 H2 s2 s2 (start N vs) H2 [] _ [] _ _ id id _ ⟨over_func, rfl, rfl, rfl⟩ ⟨Nat.add_zero _, hci, lt2, hI⟩ (fun m i Hw s0 s3 σ3 H3 hA hnx => ?_) (hq H2 hK)
      obtain ⟨hi, hk⟩ := hnx
      subst hi
      exact seg_end (.ok (.ret .none)) (.inl ⟨.inl rfl, Hw, [], σ3, H3, hA.ci, hA.inv, hk⟩)
  exact ⟨_, _, _, _, rfl, main _ _ _ _ rfl rfl rfl fun h => Heap.get?_push_size _ rfl⟩
end Gn
namespace Gn
open PySem PySem.Spec PyProof.Rows L2 StX GenW
theorem inv_gens {X : Cx} {pins : List (Addr × Obj)} {σ : L2.St} {H : Hp} {s : Shared} (I : Inv X pins σ H s) {G : Array GenState} (hb : AllBare G) : Inv X pins σ H { s with gens := G } :=
  ⟨I.ok, I.os, hb, I.base, I.loc, I.cell, I.free, I.freeC, I.pin, I.hok, I.len⟩
theorem inv_same {X : Cx} {pins : List (Addr × Obj)} {σ : L2.St} {H : Hp} {s s' : Shared} {h' : Heap} (I : Inv X pins σ H s) (e : s' = { s with heap := h', gens := s'.gens }) (hb : AllBare s'.gens) (kp : ∀ b o, s.heap.get? b = some o → h'.get? b = some o) : Inv X pins σ H s' := by
  rw [e]
  exact I.call (g' := s'.gens) (t' := s.toks) (d' := s.drawn) (ch := []) (Un.kept kp) (I.hok.kept kp) hb fun b z => (List.not_mem_nil z).elim
/-- for .. in f(..): f a generator def -/
def tForG (sp : SpG) (ta : TA) (gt : TG) (tb : TS) : TS := fun D σ H => ta σ H fun vs H1 => ∃ n Φ M, sp vs H1 n Φ M ∧ ∃ W : Nat → L2.St → Hp → Prop, W 0 σ H1 ∧
  (∀ i σ H, i < n → W i σ H → ∀ x H', Keep [] H H' → Φ i x H' → gt x σ H' fun σ2 H2 => tb { nx := fun σ3 H3 => KeepG M H' H3 ∧ W (i + 1) σ3 H3, rt := D.rt, bk := D.nx, ct := fun σ3 H3 => KeepG M H' H3 ∧ W (i + 1) σ3 H3 } σ2 H2) ∧
  ∀ σ H, W n σ H → ∀ H', Keep [] H H' → D.nx σ H'
section
variable {X : Cx} {f : Addr} {fd : FuncData} {ps : List Str} {sp : SpG} {k : Nat} {x : Str} {p pos pos' : Pos} {e : Expr} {es : List Expr} {ta : TA} {tg : Expr} {gt : TG} {body : List Stmt} {tb : TS}
theorem ps_forG (hc : X.calm = true) (F : GFn X.prog X.w X.K X.mg X.base k f fd ps sp) (hr : Room (k + 1) X.A) (hgl : Gl X x) (hm : X.mg x = some (.ref f)) (hk : PySem.W.keepIn X.K (.ref f) = true) (hb : Binds X.K fd ps []) (ha : PA X (e :: es) ta)
    (hg : PG X.nox tg gt) (hbd : PSs X.nox body tb) (hdb : (x == ("__debug__" : Str)) = false := by decide) (he : starEach (e :: es) X.env = (false, eval e X.env) :: starEach es X.env := by rfl) (hpl : (backTo pos' (starEach es X.env)).any (·.1) = false := by rfl)
    (hst : X.stack = X.env :: X.outer := by rfl) (hfr : X.env.frame = some X.env.locals := by rfl)
    (hs : ∀ y, foldedSetIterable (.Call (.Name x p) (e :: es) [] pos') X.env y = pure y := by intro _; rfl) :
    PS X (.For tg (.Call (.Name x p) (e :: es) [] pos') body [] pos) (tForG sp ta gt tb) := by
  refine ⟨fun pins s σ H D I h => wpAny_For ?_ hs⟩
  refine wpAny_Call_Name_kw (ld_glob I hgl hm ?_ hdb)
  refine PySem.W.callWith_K (h₀ := X.base) I.ok.mod.kin hk (thn (ha.run pos' pins s σ H _ I h) fun us s1 hq => ?_) he hpl
  obtain ⟨vs, H1, I1, rv, n, Φ, M, hsp, W, w0, turn, fin⟩ := hq
  refine ⟨I1.kIn, ?_⟩
  have hlen := F.len _ _ _ _ _ hsp
  refine wpAny_call (codeAny_mono (F.run X.A X.stack s1 H1 ⟨us, []⟩ us vs n Φ M (hr.mono (Nat.le_succ _)) I1.env0 (by
    have := hb s1 us I1.kIn (by rw [List.append_nil, ← rv.length]; exact hlen)
    rwa [List.append_nil] at this) rv hsp) fun r s2 hq => ?_)
  cases r with
  | error e => exact hq.elim
  | ok fl =>
  cases fl with
  | next => exact hq.elim
  | brk => exact hq.elim
  | cont => exact hq.elim
  | ret u =>
  obtain ⟨a, gi, go, c, rfl, Md⟩ := hq
  refine wpAny_pyIter_gen Md.gen ?_
  obtain ⟨g, σg, GO, hP, hw, hA, hL, ho, hpn, Rg, env', wk⟩ := Md.wake X.A.in1 hr.in1 I1.ok.frames
  obtain ⟨go', nm, qn, hgo, gc1, gd1, gs1⟩ := Md.gen
  obtain rfl : go = go' := Option.some.inj (Md.obj.symm.trans hgo)
  have I2 : Inv X pins σ H1 s2 := I1.call' (ch := []) Md.os (Un.kept Md.keep) (I1.hok.kept Md.keep) Md.bare fun b z => (List.not_mem_nil z).elim
  have young : ∀ b, s1.heap.objs.size ≤ b → H1 b = Option.none ∧ b ≠ X.env.locals ∧ b ∉ X.fs := fun b hb => ⟨I1.hok.fresh hb, Nat.ne_of_gt (Nat.lt_of_lt_of_le I1.lt hb), I1.nofs hb⟩
  have ncell : ∀ v, go.data ≠ .cell v := fun v q => by rw [gd1] at q; cases q
  have hmu : ∀ o, go.data = o → True := fun _ _ => trivial
  have I3 : Inv X (pins ++ [(a, go)]) σ H1 s2 := I2.pins_of fun p hp => by
    rcases List.mem_append.mp hp with z | z
    · exact I2.pin p (List.mem_append_right _ z)
    · obtain rfl := List.mem_singleton.mp z
      obtain ⟨y1, y2, y3⟩ := young a (Nat.le_of_lt Md.lo)
      exact ⟨Md.obj, y1, y2, y3, ncell⟩
  have FT : Fits g X pins := ⟨hP, hw, ho, by rw [hL]; exact I1.sz, by rw [hL]; exact I1.lt, fun y c q => by
    obtain ⟨v, z⟩ := I1.cell y c q
    rw [hL]; exact z.lt, fun p hp => by rw [hL]; exact Heap.lt_size (I1.pin p hp).1⟩
  let d : Deal := ⟨n, Φ, M, fun i Hw s0 => ∃ σ', Inv X (pins ++ [(a, go)]) σ' Hw s0 ∧ W i σ' Hw⟩
  have running : ∀ {σ' : L2.St} {H' : Hp} {s' : Shared}, Inv X (pins ++ [(a, go)]) σ' H' s' → Inv X (pins ++ [(a, go)]) σ' H' (s'.setGen gi .running) := fun {σ' H' s'} J => inv_gens J (allBare_setGen (s := s') J.bare rfl)
  refine codeAny_forLoop_any (fun m s' => ∃ i σ' H' gs, m + i = n ∧ Inv X (pins ++ [(a, go)]) σ' H' s' ∧ W i σ' H' ∧ s'.gens[gi]? = some gs ∧ gs.Goes (model X.prog X.w) X.A.in1 (GRp g d) (YP g d) m (.send .none) (s'.setGen gi .running)) ?_ n
    ⟨0, σ, H1, .fresh c, Nat.add_zero _, I3, w0, Md.st, rfl, ?_⟩
  case refine_2 =>
    have I4 := running I3
    refine wk d rfl rfl rfl H1 (s2.setGen gi .running) ⟨σ, I4, w0⟩ ?_ (KeepG.refl _ _)
    have e0 := env' X.A (s2.setGen gi .running) H1 I4.env0
    refine Rest.wake GO (Rg.keep (fun _ q => q) fun _ _ q => q) e0 ?_ fun p hp => ?_
    · rw [hL]; exact (young _ (Nat.le_refl _)).1
    · rw [hpn] at hp
      obtain rfl : p = (a, go) := by simpa using hp
      exact (young a (Nat.le_of_lt Md.lo)).1
  rintro m s' ⟨i, σ', H', gs, hmi, Ic, w, hgs, goes⟩
  have pin0 := Ic.pin (a, go) (List.mem_append_right _ (List.mem_append_right _ (List.mem_singleton.mpr rfl)))
  have hgen : s'.heap.IsGen a gi := ⟨go, nm, qn, pin0.1, gc1, gd1, gs1⟩
  have hgl : gi + 1 ≤ s'.gens.size := (Array.getElem?_eq_some_iff.mp hgs).1
  refine wpAny_gsz hgl (next_genG (Er := fun _ _ => False) (F := fun m s0 s1 => ∃ Hw ip σ H, d.CI d.n Hw s0 ∧ Inv (g.X s0 Hw) ip σ H s1 ∧ Keep [] Hw H) (Y := YP g d) (Ic.ok.hd hc) Ic.nolimit hr.depth hgen hgs goes (fun v s3 gs' hbare hv hsz => ?_) (fun s3 hp h' kh hsz => ?_) (fun e s3 he => he.elim))
  · obtain ⟨i', Hw, y, ip, σ3, H3, cnt, ⟨σ4, Ic4, w4⟩, Ig, k3, hΦ, ry, wake⟩ := hv
    have hgl3 : gi < s3.gens.size := by
      have q : (s3.setGen gi gs').gens.size = s3.gens.size := setGen_size _ _ _
      have hsz' : gi + 1 ≤ (s3.setGen gi gs').gens.size := hsz
      omega
    have hlt : i' < n := by have : (m - 1) + 1 + i' = n := cnt; omega
    -- the consumer again
    have pinA := Ic4.pin (a, go) (List.mem_append_right _ (List.mem_append_right _ (List.mem_singleton.mpr rfl)))
    have I5 : Inv X pins σ4 H3 s3 := back FT Ic4.unpinned Ig
    obtain ⟨mL, ⟨oL, esL, epL, hoL, hdL, _⟩, _⟩ := id Ig.loc
    have hoL : s3.heap.get? g.L = some oL := hoL
    have I6 : Inv X (pins ++ ((a, go) :: (g.L, oL) :: ip)) σ4 H3 s3 := I5.pins_of fun p hp => by
      rcases List.mem_append.mp hp with z | z
      · exact I5.pin p (List.mem_append_right _ z)
      rcases List.mem_cons.mp z with rfl | z
      · obtain ⟨q1, q2, _⟩ := Ig.pin (a, go) (List.mem_append_left _ (by show (a, go) ∈ g.pn; rw [hpn]; exact List.mem_singleton.mpr rfl))
        exact ⟨q1, q2, pinA.2.2.1, pinA.2.2.2.1, ncell⟩
      rcases List.mem_cons.mp z with rfl | z
      · refine ⟨hoL, Ig.free, ?_, fun hb => ?_, fun v q => by rw [hdL] at q; cases q⟩
        · exact Nat.ne_of_gt FT.loc
        · have : g.L ∉ X.fs := by rw [hL]; exact (young _ (Nat.le_refl _)).2.2
          exact this hb
      · obtain ⟨q1, q2, q3, q4, q5⟩ := Ig.pin p (List.mem_append_right _ z)
        have q4 : p.1 ∉ frs g.outer := q4
        rw [ho] at q4
        rw [hst] at q4
        unfold frs at q4
        rw [List.filterMap_cons, hfr] at q4
        exact ⟨q1, q2, fun hb => q4 (List.mem_cons.mpr (.inl hb)), fun hb => q4 (List.mem_cons_of_mem _ hb), q5⟩
    have I7 : Inv X (pins ++ ((a, go) :: (g.L, oL) :: ip)) σ4 H3 (s3.setGen gi gs') := inv_gens I6 (allBare_setGen (s := s3) I6.bare hbare)
    have g7 : (s3.setGen gi gs').gens[gi]? = some gs' := setGen_at hgl3
    have heq : (s3.setGen gi gs').heap = s3.heap := rfl
    generalize s3.setGen gi gs' = u at I7 g7 heq ⊢
    have hu : u.heap.get? a = some go := (I7.pin (a, go) (List.mem_append_right _ (List.mem_append_right _ List.mem_cons_self))).1
    refine go_of hu gc1 gd1 (by decide) ?_
    have N7 : Inv X.nox (pins ++ ((a, go) :: (g.L, oL) :: ip)) σ4 H3 { u with gens := u.gens.map Si.mute } := (inv_gens I7 (Si.AllBare.mute I7.bare)).wish _
    refine wpAny_mono (Si.wpAny_sim (hg.run _ _ σ4 H3 y v _ N7 ry (turn i' σ4 Hw hlt w4 y H3 k3 hΦ))) (fun _ s8 h8 => ?_) fun _ _ z => z.choose_spec.2.2.elim
    obtain ⟨s8', S8, e8, σ8, H8, I8, q8⟩ := h8
    have I8' : Inv X (pins ++ ((a, go) :: (g.L, oL) :: ip)) σ8 H8 s8 := by
      rw [e8]
      exact (inv_gens I8 (S8.bare I8.bare I7.bare)).unwish
    have N8 : Inv X.nox (pins ++ ((a, go) :: (g.L, oL) :: ip)) σ8 H8 { s8 with gens := s8.gens.map Si.mute } := (inv_gens I8' (Si.AllBare.mute I8'.bare)).wish _
    refine wpAny_mono (Si.wpAny_sim (hbd.run _ _ σ8 H8 _ N8 q8)) (fun fl s9 h9 => ?_) fun _ _ z => z.choose_spec.2.2.elim
    obtain ⟨s9', S9, e9, q9⟩ := h9
    have bare9 : AllBare s9'.gens → AllBare s9.gens := fun hb9 => S9.bare hb9 I8'.bare
    have again : ∀ {σ9 : L2.St} {H9 : Hp}, Inv X.nox (pins ++ ((a, go) :: (g.L, oL) :: ip)) σ9 H9 s9' → KeepG M H3 H9 → W (i' + 1) σ9 H9 →
        ∃ m', m' < m ∧ ∃ i σ' H' gs, m' + i = n ∧ Inv X (pins ++ [(a, go)]) σ' H' s9 ∧ W i σ' H' ∧ s9.gens[gi]? = some gs ∧ gs.Goes (model X.prog X.w) X.A.in1 (GRp g d) (YP g d) m' (.send .none) (s9.setGen gi .running) := fun {σ9 H9} I9 k9 w9 => by
      have I9' : Inv X (pins ++ ((a, go) :: (g.L, oL) :: ip)) σ9 H9 s9 := by
        rw [e9]
        exact (inv_gens I9 (bare9 I9.bare)).unwish
      have J9 : Inv X (pins ++ [(a, go)]) σ9 H9 s9 := I9'.pins_of fun p hp => by
        rcases List.mem_append.mp hp with z | z
        · exact I9'.pin p (List.mem_append_right _ (List.mem_append_left _ z))
        · obtain rfl := List.mem_singleton.mp z
          exact I9'.pin (a, go) (List.mem_append_right _ (List.mem_append_right _ List.mem_cons_self))
      have pinL := I9'.pin (g.L, oL) (List.mem_append_right _ (List.mem_append_right _ (List.mem_cons_of_mem _ List.mem_cons_self)))
      have wk9 := wake H9 (s9.setGen gi .running) ⟨σ9, running J9, w9⟩ ⟨env' X.A _ H9 (running J9).env0, pinL.2.1, fun p hp => by
        rw [hpn] at hp
        have hp' : p ∈ (a, go) :: ip := hp
        have := I9'.pin p (List.mem_append_right _ (List.mem_append_right _ (by
          rcases List.mem_cons.mp hp' with rfl | z
          · exact List.mem_cons_self
          · exact List.mem_cons_of_mem _ (List.mem_cons_of_mem _ z))))
        exact ⟨this.2.1, this.1⟩, fun o q => by
          rw [hoL] at q
          obtain rfl := Option.some.inj q
          exact pinL.1, k9⟩
      cases m with
      | zero => exact wk9.1.elim
      | succ m =>
        obtain ⟨k1, k2⟩ := wk9
        have asleep : Si.Sleeps (some gs') := by
          cases gs' with
          | fresh c' => exact (nomatch (show (Resume.send (.bool true) = Resume.send .none) ∧ _ from k2).1)
          | suspended => trivial
          | running => exact k1.elim
          | finished => exact k1.elim
        have g8 : s8.gens[gi]? = some gs' := (S8.asleep gi gs' g7 asleep).2
        exact ⟨m, Nat.lt_succ_self _, i' + 1, σ9, H9, gs', by have : m + 1 - 1 + 1 + i' = n := cnt; omega, J9, w9, (S9.asleep gi gs' g8 asleep).2, k1⟩
    cases fl with
    | next =>
      obtain ⟨σ9, H9, I9, k9, w9⟩ := q9
      exact again I9 k9 w9
    | cont =>
      obtain ⟨σ9, H9, I9, k9, w9⟩ := q9
      exact again I9 k9 w9
    | brk =>
      obtain ⟨σ9, H9, I9, r9⟩ := q9
      refine ⟨σ9, H9, ?_, r9⟩
      rw [e9]
      exact (inv_gens I9 (bare9 I9.bare)).unwish.unpinned
    | ret v9 =>
      obtain ⟨y9, σ9, H9, I9, ry9, r9⟩ := q9
      refine ⟨y9, σ9, H9, ?_, ry9, r9⟩
      rw [e9]
      exact (inv_gens I9 (bare9 I9.bare)).unwish.unpinned
  · obtain ⟨Hw, ip, σ3, H3, ⟨σ4, Ic4, w4⟩, Ig, k3⟩ := hp
    have I5 : Inv X pins σ4 H3 s3 := back FT Ic4.unpinned Ig
    refine wpAny_execs_nil ⟨σ4, H3, ?_, fin σ4 Hw w4 H3 k3⟩
    exact inv_same (s := s3) I5 rfl (allBare_setGen (s := s3) I5.bare rfl) kh
end
end Gn
/-! ### the same with two fields: def __init__(self, f, g): super().__init__(msg); self.f = f; self.g = g -/
namespace Er
open PySem.W PySem.Calls PySem.HandSPX
structure Sh2 (prog : Program) (w : World) (st : Stmt) (f g : Str) : Prop where
  body : ∃ (msg : Expr) (p0 p1 p2 p3 p4 q1 q2 q3 q4 r1 r2 r3 r4 : Pos) (pl : Sem Bool), defBody st = [.Expr (.Call (.Attribute (.Call (.Name "super" p0) [] [] p1) "__init__" p2) [msg] [] p3) p4, .Assign [.Attribute (.Name "self" q1) f q2] (.Name f q3) q4, .Assign [.Attribute (.Name "self" r1) g r2] (.Name g r3) r4] ∧
    (∀ (q : Str) (L fI cda cc : Addr) (m : Str → Option Value) (v u : Value) (A : Around) (E : Value → Shared → Prop) (s : Shared) (Q : Value → Shared → Prop), m f = some v → m g = some u → MsgV v → MsgV u → s.heap.Ns L m → (∀ (z : Str) tk n, Q (.str z tk) { s with toks := n }) →
      wpAny (model prog w) A (eval msg (ksEnv q (defScope st) L fI (.ref cda) cc)) Q E s) ∧
    (∀ (q : Str) (L fI cda cc : Addr), interactive (ksEnv q (defScope st) L fI (.ref cda) cc) = false ∧ starEach [msg] (ksEnv q (defScope st) L fI (.ref cda) cc) = (false, eval msg (ksEnv q (defScope st) L fI (.ref cda) cc)) :: starEach [] (ksEnv q (defScope st) L fI (.ref cda) cc) ∧
      swapsWith (.Call (.Attribute (.Call (.Name "super" p0) [] [] p1) "__init__" p2) [msg] [] p3) none p4.line (ksEnv q (defScope st) L fI (.ref cda) cc) = pure false ∧
      eval (.Call (.Attribute (.Call (.Name "super" p0) [] [] p1) "__init__" p2) [msg] [] p3) (ksEnv q (defScope st) L fI (.ref cda) cc) = (do
        let ov ← attributeBase (.Call (.Name "super" p0) [] [] p1) "__init__" (ksEnv q (defScope st) L fI (.ref cda) cc) (eval (.Call (.Name "super" p0) [] [] p1) (ksEnv q (defScope st) L fI (.ref cda) cc))
        standAt p2.atName
        let (f, first) ← holding [ov] (getMethod ov "__init__" pl)
        callWith p3 f first (backTo p3 (starEach [msg] (ksEnv q (defScope st) L fI (.ref cda) cc))) []) ∧
      swapsWith (.Name f q3) (some (.Attribute (.Name "self" q1) f q2)) q4.line (ksEnv q (defScope st) L fI (.ref cda) cc) = pure false ∧
      swapsWith (.Name g r3) (some (.Attribute (.Name "self" r1) g r2)) r4.line (ksEnv q (defScope st) L fI (.ref cda) cc) = pure false)
  head : ∃ ar, ((defArgs st).posonlyargs ++ (defArgs st).args).head? = some ar ∧ ar.arg = "self"
  ks : (defScope st).names.lookup ("super" : Str) = some .globalImplicit
  kc : (defScope st).names.lookup ("__class__" : Str) = some .free
  ka : (defScope st).names.lookup ("self" : Str) = some .local
  kf : (defScope st).names.lookup f = some .local
  kg : (defScope st).names.lookup g = some .local
  fd : (f == ("__debug__" : Str)) = false
  gd : (g == ("__debug__" : Str)) = false
  fs : (("self" : Str) == f) = false
  gs : (("self" : Str) == g) = false
  fg : (f == g) = false
  k : (defScope st).kind = .function
  co : (defScope st).isCoroutine = false
  gen : (defScope st).isGenerator = false
  nocell : ∀ x ∈ (defScope st).names, x.2 ≠ .cell
  binds : ∀ (s : Shared) (x : Addr) (v u : Value) (qual : Str) (doc pm : Value) (an : Option Addr) (cda cc : Addr) (ct : Value), BindsTo s (ksFn "__init__" qual (defArgs st) (defBody st) (defScope st) .none .none doc pm an (.ref cda) ct cc) ⟨[.ref x, v, u], []⟩ [("self", .ref x), (f, v), (g, u)]
section
variable {prog : Program} {w : World} {A : Around} {E : Value → Shared → Prop} {R : Result → Shared → Prop} {s : Shared} {K : Frag} {mg : Str → Option Value} {base : Heap}
def two (f g : Str) (v u : Value) : Str → Option Value := fun y => if y = g then some u else if y = f then some v else none
theorem init2 {C fI cc cda x t0 : Addr} {st : Stmt} {f g qual : Str} {oc doc pm ct : Value} {od an : Option Addr} {osl : Array (Option Value)} {v u : Value} (S : Sh2 prog w st f g) (T : Txt prog K mg C fI cc cda) (Mo : Mod K mg base) (kb : ∀ b o, base.get? b = some o → s.heap.get? b = some o)
    (hf : K.lookup fI = some ⟨oc, od, .func (ksFn "__init__" qual (defArgs st) (defBody st) (defScope st) .none .none doc pm an (.ref cda) ct cc), osl⟩) (hcd : codeIn K (.ref cda) qual = true) (noN : findIn K (.ref C) f = some none) (noM : findIn K (.ref C) g = some none)
    (hx : s.heap.get? x = some (excO C t0)) (hnx : K.lookup x = none) (hroom : A.depth < recursionLimit) (ok : MsgV v) (ok2 : MsgV u)
    (hq : ∀ h' tk dx t1, IEnd s.heap h' x C dx t1 (two f g v u) → R (.ok (.ret .none)) { s with heap := h', toks := tk }) :
    codeAny (model prog w) A (.call (.ref fI) ⟨[.ref x, v, u], []⟩) R s := by
  obtain ⟨msg, p0, p1, p2, p3, p4, q1, q2, q3, q4, r1, r2, r3, r4, pl, hb, hmsg, hev⟩ := S.body
  obtain ⟨ar, har, hself⟩ := S.head
  obtain ⟨nm, q0, N, bs, bm, sn, sub, ab, col, dd, k0, k1, k2, k3, k5, hC, hbm⟩ := T.cls
  have hcl := clsIn_of hC
  have X : K.In s.heap := Mo.kin.keeps kb
  refine ks_codeAny_call_defAt (fd := ksFn "__init__" qual (defArgs st) (defBody st) (defScope st) .none .none doc pm an (.ref cda) ct cc) (body := defBody st) (binds := [("self", .ref x), (f, v), (g, u)]) hroom (X _ _ hf) rfl (Mo.nolimit.keeps kb) (codeRec_of X hcd) rfl (S.binds s x v u qual doc pm an cda cc ct) S.nocell (fun y hy => ?_) (fun h1 hns k1 => ?_) S.co S.gen S.k
  · rcases List.mem_cons.mp hy with rfl | hy
    · exact S.ka
    · rcases List.mem_cons.mp hy with rfl | hy
      · exact S.kf
      · rw [List.mem_singleton.mp hy]; exact S.kg
  · have hx1 := k1 _ _ hx
    have kb1 : ∀ b o, base.get? b = some o → h1.get? b = some o := fun b o e => k1 b o (kb b o e)
    obtain ⟨e0, e1, e2, e3, e4, e5⟩ := hev qual s.heap.objs.size fI cda cc
    have gf : (f == g) = false := S.fg
    have hv1 : (fun y => List.lookup y [(("self" : Str), Value.ref x), (f, v), (g, u)].reverse) "self" = some (.ref x) := by
      show List.lookup ("self" : Str) ([(g, u), (f, v), (("self" : Str), Value.ref x)] : List (Str × Value)) = _
      simp [List.lookup, S.fs, S.gs]
    have hv2 : (fun y => List.lookup y [(("self" : Str), Value.ref x), (f, v), (g, u)].reverse) f = some v := by
      show List.lookup f ([(g, u), (f, v), (("self" : Str), Value.ref x)] : List (Str × Value)) = _
      simp [List.lookup, S.fg]
    have hv3 : (fun y => List.lookup y [(("self" : Str), Value.ref x), (f, v), (g, u)].reverse) g = some u := by
      show List.lookup g ([(g, u), (f, v), (("self" : Str), Value.ref x)] : List (Str × Value)) = _
      simp [List.lookup]
    show PySem.wpAt (model prog w) (A.deeper (ksEnv qual (defScope st) s.heap.objs.size fI (.ref cda) cc)) (.func (defBody st) (ksEnv qual (defScope st) s.heap.objs.size fI (.ref cda) cc)) (execs (defBody st) (ksEnv qual (defScope st) s.heap.objs.size fI (.ref cda) cc)) _ _ _
    generalize hbb : defBody st = bb at hb ⊢
    rw [hb]
    refine ks_wpAt_execs_cons (super_stmt (pl := pl) T Mo kb1 hf har hself S.ks S.kc S.ka S.k hns hv1 hx1 (fun s' Q' hn q => hmsg _ _ _ _ _ _ v u _ _ _ _ hv2 hv3 ok ok2 hn q) (fun h2 tk2 t1 k2 hx2 => ?_) e0 e1 e2 e3)
    refine wpAt_of_wpAny ?_
    have hL : s.heap.objs.size ≠ x := Nat.ne_of_gt (Heap.lt_size hx)
    obtain ⟨oL, es, ep, hoL, hr⟩ := hns
    have hoL2 := k2 _ _ hL hoL
    have hns2 : h2.Ns s.heap.objs.size (fun y => List.lookup y [(("self" : Str), Value.ref x), (f, v), (g, u)].reverse) := ⟨oL, es, ep, hoL2, hr⟩
    have X2 : K.In h2 := fun b o e => k2 b o (fun z => by rw [z, hnx] at e; cases e) (k1 b o (X _ _ e))
    refine wpAny_execs_cons (plainObj_wpAny_Assign_Attribute ?_ e4)
    refine ld_name (v := v) hns2 hv2 S.k S.kf (ld_name (v := .ref x) hns2 hv1 S.k S.ka ?_) S.fd
    refine set_plain X2 (ox := excO C t1) (od := none) ⟨hx2, rfl, rfl, trivial⟩ T.sa ?_
    refine PySem.HandSPX.exc_osa X2 hx2 hcl (show refsVE (.ref C :: bm) = true from hbm) rfl noN (fun h3 tk3 dx k3 dn dne hx3 hn3 => ?_)
    have z : s.heap.objs.size ≤ h2.objs.size := Nat.le_of_lt (Heap.lt_size hoL2)
    have hns3 : h3.Ns s.heap.objs.size (fun y => List.lookup y [(("self" : Str), Value.ref x), (f, v), (g, u)].reverse) := ⟨oL, es, ep, k3 _ _ hL hoL2, hr⟩
    have X3 : K.In h3 := fun b o e => k3 b o (fun z => by rw [z, hnx] at e; cases e) (X2 _ _ e)
    refine wpAny_execs_cons (plainObj_wpAny_Assign_Attribute ?_ e5)
    refine ld_name (v := u) hns3 hv3 S.k S.kg (ld_name (v := .ref x) hns3 hv1 S.k S.ka ?_) S.gd
    obtain ⟨oD, _, _, hoD, _⟩ := id hn3.ns
    refine set_plain X3 (od := some oD) ⟨hx3, rfl, rfl, hoD⟩ T.sa ?_
    refine PySem.OEX.osa_old X3 hx3 hn3 (nl := [f]) (fun y hy => ?_) (by simp) hcl (show refsVE (.ref C :: bm) = true from hbm) rfl noM (fun h4 tk4 k4 hn4 => ?_)
    · by_cases e : y = f
      · rw [e]; exact List.mem_singleton.mpr rfl
      · exact (hy (if_neg e)).elim
    have dL : s.heap.objs.size ≠ dx := fun e => by
      have : h2.objs.size ≤ s.heap.objs.size := by rw [e]; exact dn
      exact absurd (Nat.lt_of_lt_of_le (Heap.lt_size hoL2) this) (Nat.lt_irrefl _)
    refine wpAny_execs_nil (hq h4 _ dx t1 ⟨fun b o hb e => ?_, k4 _ _ (Ne.symm dne) hx3, Nat.le_trans z dn, dne, hn4⟩)
    have hbd : b ≠ dx := fun e' => by
      have h1 := Heap.lt_size (k2 b o hb (k1 b o e))
      rw [e'] at h1
      exact absurd (Nat.lt_of_lt_of_le h1 dn) (Nat.lt_irrefl _)
    exact k4 b o hbd (k3 b o hb (k2 b o hb (k1 b o e)))
/-- all that is told of an own error class of two arguments -/
structure Cls2 (prog : Program) (w : World) (K : Frag) (mg : Str → Option Value) (cn f g : Str) (C : Addr) : Prop where
  ex : ∃ (fI cc cda : Addr) (st : Stmt) (qual : Str) (oc doc pm ct : Value) (od an : Option Addr) (osl : Array (Option Value)), Sh2 prog w st f g ∧ Txt prog K mg C fI cc cda ∧
    K.lookup fI = some ⟨oc, od, .func (ksFn "__init__" qual (defArgs st) (defBody st) (defScope st) .none .none doc pm an (.ref cda) ct cc), osl⟩ ∧ codeIn K (.ref cda) qual = true
  gC : mg cn = some (.ref C)
  kC : keepIn K (.ref C) = true
  noN : findIn K (.ref C) f = some none
  noM : findIn K (.ref C) g = some none
  exC : subIn K (.ref C) (.type "BaseException") = some true
  tyC : typeIn K (.ref C) = some (.type "type")
theorem two_size (v u : Value) : [v, u].length ≤ sizeLine := by
  rw [sizeLine_eq]
  exact (by decide : 2 ≤ 16777216)
theorem made2 {cn f g : Str} {C : Addr} {v u : Value} (Z : Cls2 prog w K mg cn f g C) (Mo : Mod K mg base) (kb : ∀ b o, base.get? b = some o → s.heap.get? b = some o) (hroom : A.depth + 1 < recursionLimit) (ok : MsgV v) (ok2 : MsgV u)
    (hq : ∀ h' tk e d, Made s.heap h' e C d (two f g v u) → R (.ok (.ret (.ref e))) { s with heap := h', toks := tk }) :
    codeAny (model prog w) A (.call (.ref C) ⟨[v, u], []⟩) R s := by
  obtain ⟨fI, cc, cda, st, qual, oc, doc, pm, ct, od, an, osl, S, T, hf, hcd⟩ := Z.ex
  obtain ⟨nm, q, N, bs, bm, sn, sub, ab, col, dd, k0, k1, k2, k3, k5, hC, hbm⟩ := T.cls
  have X : K.In s.heap := Mo.kin.keeps kb
  obtain ⟨hp, gg, dr, tk, os⟩ := s
  have k : ∀ b o, hp.get? b = some o → ((hp.push (kdv_tup [v, u])).push (excO C hp.objs.size)).get? b = some o := fun b o e => Heap.get?_push_of_some _ (Heap.get?_push_of_some _ e)
  have hget : ((hp.push (kdv_tup [v, u])).push (excO C hp.objs.size)).get? (hp.objs.size + 1) = some (excO C hp.objs.size) := by heap_get
  have hnx : K.lookup (hp.objs.size + 1) = none := by
    cases e : K.lookup (hp.objs.size + 1) with
    | none => rfl
    | some o =>
      have z : hp.get? (hp.objs.size + 1) = some o := X _ _ e
      exact absurd (Nat.lt_of_succ_lt (Heap.lt_size z)) (Nat.lt_irrefl _)
  refine PySem.HandSPX.call_own F.excBase_ValueError (fun X => PySem.HandSPX.refsVE_contains X bm hbm) (X _ _ hC) (looks_findIn X T.iC) (fun self => bind_fn X self T.tI) (two_size v u) ?_
  refine init2 (s := ⟨(hp.push (kdv_tup [v, u])).push (excO C hp.objs.size), gg, dr, tk, os⟩) S T Mo (fun b o e => k b o (kb b o e)) hf hcd Z.noN Z.noM hget hnx ?_ ok ok2 fun h' tk' dx t1 ⟨k', hx, dn, dne, hns⟩ => ?_
  · show A.depth + 1 < recursionLimit
    exact hroom
  · have old : ∀ b o, hp.get? b = some o → h'.get? b = some o := fun b o e => k' b o (Nat.ne_of_lt (Nat.lt_succ_of_lt (Heap.lt_size e))) (k b o e)
    have z : hp.objs.size + 1 + 1 ≤ dx := by
      first
        | (simpa only [Heap.size_push] using dn)
        | exact dn
        | (have q := dn; rw [Heap.size_push, Heap.size_push] at q; exact q)
    exact ⟨rfl, hq h' tk' (hp.objs.size + 1) dx ⟨old, Nat.le_succ _, ⟨_, _, hx, rfl, rfl, rfl, rfl⟩, Nat.le_trans (Nat.le_trans (Nat.le_succ _) (Nat.le_succ _)) z, dne, hns⟩⟩
end
theorem relO_two {f g : Str} {v u : V} {v' u' : Value} (r : RelV v v') (r2 : RelV u u') (y : Str) : RelO (List.lookup y [(g, u), (f, v)]) (two f g v' u' y) := by
  unfold two
  by_cases hw : y = g
  · subst hw
    rw [if_pos rfl]
    have q : List.lookup y [(y, u), (f, v)] = some u := by simp [List.lookup]
    rw [q]
    exact r2
  · rw [if_neg hw]
    have qw : (y == g) = false := by simpa using hw
    have q2 : List.lookup y [(g, u), (f, v)] = List.lookup y [(f, v)] := by
      show (match y == g with | true => some u | false => List.lookup y [(f, v)]) = _
      rw [qw]
    rw [q2]
    exact relO_one r y
section
variable {X : Cx} {C : Addr}
def tMk2 (C : Addr) (f g : Str) (ta : TA) : L2.St → Hp → XK → Prop := fun σ H Q => ta σ H fun vs H1 => ∃ v u, vs = [v, u] ∧ MsgA v ∧ MsgA u ∧ ∀ d, H1 d = none → Q (.ref C) (some d) (upd H1 d (.xd [(g, u), (f, v)]))
theorem pmk2 {cn f g : Str} {a b : Expr} {ta : TA} {p pos : Pos} {k : Nat} (Z : Cls2 X.prog X.w X.K X.mg cn f g C) (hr : Room k X.A) (ha : PA X [a, b] ta) (hg : Gl X cn := by rfl) (hdb : (cn == ("__debug__" : Str)) = false := by decide)
    (he : starEach (a :: [b]) X.env = (false, eval a X.env) :: starEach [b] X.env := by rfl) (hpl : (backTo pos (starEach [b] X.env)).any (·.1) = false := by rfl) :
    PMk X (.Call (.Name cn p) [a, b] [] pos) (tMk2 C f g ta) := by
  intro pins s σ H Q I h
  refine wpAny_Call_Name_kw (ld_glob I hg Z.gC ?_ hdb)
  refine PySem.W.callWith_K (h₀ := X.base) I.ok.mod.kin Z.kC (thn (ha.run pos pins s σ H _ I h) fun us s1 hh => ?_) he hpl
  obtain ⟨vs, H1, I1, rv, v, u, ev, hok, hok2, q1⟩ := hh
  subst ev
  refine ⟨I1.kIn, ?_⟩
  cases rv with
  | cons rv rn =>
    rename_i v' us'
    cases rn with
    | cons ru rn =>
    rename_i u' us'
    cases rn
    show wpAny _ _ (call (.ref C) [v', u']) _ _ _
    have hbk := I1.bk
    obtain ⟨hp, gg, dr, tk, os⟩ := s1
    refine wpAny_call (made2 Z I1.mod hbk (by have := hr.dp; omega) (hok.v rv) (hok2.v ru) fun h' tk' e d M => ?_)
    show MkP X pins σ Q (.ref e) ⟨h', gg, dr, tk', os⟩
    obtain ⟨oe, fv, hoe, hc, hd, hdat, h1⟩ := M.obj
    have hns := M.ns
    obtain ⟨G', g1, g2⟩ := restrict h' fun b => decide (b ≠ e)
    have gk : ∀ b, b ≠ e → G'.get? b = h'.get? b := fun b hb => g1 b (decide_eq_true hb)
    have ge : G'.get? e = none := g2 e (by simp)
    have old : ∀ b o, hp.get? b = some o → G'.get? b = some o := fun b o q => (gk b (Nat.ne_of_lt (Nat.lt_of_lt_of_le (Heap.lt_size q) M.new))).trans (M.keep b o q)
    have ob : ObjOk X.prog X.w (upd H1 d (.xd [(g, u), (f, v)])) G' d (.xd [(g, u), (f, v)]) :=
      ⟨_, hns.at (fun o q => (gk d M.dne).trans q), fun y => relO_two rv ru y⟩
    have J : Inv X pins σ (upd H1 d (.xd [(g, u), (f, v)])) ⟨G', gg, dr, tk', os⟩ := I1.laid (t' := tk') old M.dbig ob
    refine ⟨e, oe, fv, ⟨G', gg, dr, tk', os⟩, _, .ref C, some d, rfl, J, fun b o q => ?_, ge, hoe, ⟨hc, hd⟩, hdat, h1, ?_, rfl, I1.bare, raises_own Z.exC Z.tyC, q1 d (I1.hok.fresh M.dbig)⟩
    · by_cases hb : b = e
      · have q' : G'.get? b = some o := q
        rw [hb, ge] at q'; cases q'
      · exact (gk b hb).symm.trans q
    · rw [upd_ne (Ne.symm M.dne)]
      exact I1.hok.fresh M.new
/-- raise C(e, e2) -/
def tRaise2 (C : Addr) (f g : Str) (W : WX) (ta : TA) : TS := fun _ σ H => tMk2 C f g ta σ H fun cls d H' => W cls d σ H'
theorem ps_raise2 {cn f g : Str} {a b : Expr} {ta : TA} {W : WX} {p pos pos2 : Pos} {k : Nat} (hc : X.calm = true) (Z : Cls2 X.prog X.w X.K X.mg cn f g C) (hr : Room k X.A) (tk : Takes X W) (ha : PA X [a, b] ta) (hg : Gl X cn := by rfl) (hdb : (cn == ("__debug__" : Str)) = false := by decide)
    (he : starEach (a :: [b]) X.env = (false, eval a X.env) :: starEach [b] X.env := by rfl) (hpl : (backTo pos (starEach [b] X.env)).any (·.1) = false := by rfl) :
    PS X (.Raise (some (.Call (.Name cn p) [a, b] [] pos)) none pos2) (tRaise2 C f g W ta) := ps_raise hc tk (pmk2 Z hr ha hg hdb he hpl)
end
theorem r_raise2 {C : Addr} {f g : Str} {W : WX} {ta : TA} {D : Ends} {σ : L2.St} {H : Hp} (k : ta σ H fun vs H1 => ∃ v u, vs = [v, u] ∧ MsgA v ∧ MsgA u ∧ ∀ d, H1 d = none → W (.ref C) (some d) σ (upd H1 d (.xd [(g, u), (f, v)]))) : tRaise2 C f g W ta D σ H := k
end Er
namespace Wr
open PySem PySem.Spec PyProof.Rows L2
/-! ### forms written -/
theorem app_assoc (x y z : Str) : x ++ y ++ z = x ++ (y ++ z) := by
  show (⟨x.cps ++ y.cps ++ z.cps⟩ : Str) = ⟨x.cps ++ (y.cps ++ z.cps)⟩
  rw [Array.append_assoc]
theorem emp_app (x : Str) : Str.empty ++ x = x := by
  show (⟨#[] ++ x.cps⟩ : Str) = x
  rw [Array.empty_append]
theorem len_app (x y : Str) : (x ++ y).length = x.length + y.length := Array.size_append
theorem ne_emp {x : Str} (h : 0 < x.length) : x ≠ Str.empty := by rintro rfl; cases h
def num (i : Int) : Str := Str.ofString (toString i)
theorem of_app (s t : String) : Str.ofString (s ++ t) = Str.ofString s ++ Str.ofString t := by
  rw [Str.ofString_eq_toList, Str.ofString_eq_toList, Str.ofString_eq_toList]
  show _ = (⟨(s.toList.map Char.toNat).toArray ++ (t.toList.map Char.toNat).toArray⟩ : Str)
  rw [String.toList_append, List.map_append, List.append_toArray]
theorem num_neg {i : Int} (h : i < 0) : num i = Str.ofString "-" ++ num (i.natAbs : Int) := by
  unfold num
  rw [PyProof.Rows.toString_neg h, of_app, show (0 - i) = ((i.natAbs : Nat) : Int) by omega]
theorem num_len {i : Int} {k : Nat} (hk : 0 < k) (h : i.natAbs.log2 < k) : (num i).length ≤ k + 5 := by
  have e := int_text_length_le (k := k) hk h
  unfold num
  rw [PySem.ofString_length]; omega
def sp : Str := Str.ofString " "
def sg (w : Int) : Str := if w < 0 then Str.ofString "-" else Str.ofString "+"
/-- one term -/
def part (w : Int) (x : Str) : Str := if (w.natAbs : Int) = 1 then x else num (w.natAbs : Int) ++ sp ++ x
abbrev Pt := Int × Str
/-- the parts of a form -/
def pts (ts : List Fm.Tm) (c : Int) : List Pt := (ts.map fun p => (p.2, part p.2 p.1)) ++ (if c ≠ 0 ∨ ts = [] then [(c, num (c.natAbs : Int))] else [])
def tailW (ps : List Pt) : List Str := ps.flatMap fun p => [sg p.1, p.2]
def first (p : Pt) : Str := if p.1 < 0 then Str.ofString "-" ++ p.2 else p.2
def words : List Pt → List Str
  | [] => []
  | p :: r => first p :: tailW r
/-- as the program writes it -/
def prog (ts : List Fm.Tm) (c : Int) : Str := Str.join sp (words (pts ts c))
/-- as the law writes it -/
def step (line : Str) (p : Fm.Tm) : Str := (if line ≠ Str.empty then line ++ sp ++ sg p.2 ++ sp else if p.2 < 0 then Str.ofString "-" else line) ++ part p.2 p.1
def due (ts : List Fm.Tm) (c : Int) : Str := if ts = [] then num c else
  if 0 < c then ts.foldl step Str.empty ++ Str.ofString " + " ++ num c else if c < 0 then ts.foldl step Str.empty ++ Str.ofString " - " ++ num (-c) else ts.foldl step Str.empty
theorem join_snoc (s : Str) (t : Str) : ∀ (y : Str) (ws : List Str), Str.join s (y :: (ws ++ [t])) = Str.join s (y :: ws) ++ s ++ t
  | y, [] => rfl
  | y, z :: ws => by
    show y ++ s ++ Str.join s (z :: (ws ++ [t])) = (y ++ s ++ Str.join s (z :: ws)) ++ s ++ t
    rw [join_snoc s t z ws, ← app_assoc, ← app_assoc]
theorem part_pos {w : Int} {x : Str} (h : 0 < x.length) : 0 < (part w x).length := by
  unfold part; split
  · exact h
  · rw [len_app]; omega
theorem fold_step : ∀ (r : List Fm.Tm) (y : Str) (ws : List Str), 0 < (Str.join sp (y :: ws)).length → (∀ p ∈ r, 0 < p.1.length) →
    r.foldl step (Str.join sp (y :: ws)) = Str.join sp (y :: (ws ++ tailW (r.map fun p => (p.2, part p.2 p.1)))) ∧ 0 < (r.foldl step (Str.join sp (y :: ws))).length
  | [], y, ws, h, _ => ⟨by simp [tailW], h⟩
  | p :: r, y, ws, h, hn => by
    have e : step (Str.join sp (y :: ws)) p = Str.join sp (y :: (ws ++ [sg p.2, part p.2 p.1])) := by
      unfold step
      rw [if_pos (ne_emp h), show ws ++ [sg p.2, part p.2 p.1] = (ws ++ [sg p.2]) ++ [part p.2 p.1] by simp, join_snoc, join_snoc]
    have h2 : 0 < (Str.join sp (y :: (ws ++ [sg p.2, part p.2 p.1]))).length := by
      rw [← e]; unfold step; rw [len_app]; have := part_pos (w := p.2) (hn p (by simp)); omega
    have ih := fold_step r y (ws ++ [sg p.2, part p.2 p.1]) h2 fun q hq => hn q (by simp [hq])
    rw [List.foldl_cons, e]
    refine ⟨?_, ih.2⟩
    rw [ih.1]
    congr 2
    simp [tailW]
/-- both write the same -/
theorem same {ts : List Fm.Tm} {c : Int} (hn : ∀ p ∈ ts, 0 < p.1.length) : prog ts c = due ts c := by
  unfold prog due pts
  cases ts with
  | nil =>
    rw [if_pos rfl]
    simp only [List.map_nil, List.nil_append, or_true, if_true, words, tailW, List.flatMap_nil]
    show first (c, num (c.natAbs : Int)) = _
    unfold first
    split
    · next h => exact (num_neg h).symm
    · next h => show num (c.natAbs : Int) = _; rw [show ((c.natAbs : Nat) : Int) = c by have h' : ¬ c < 0 := h; omega]
  | cons p r =>
    rw [if_neg (show ¬ (p :: r = []) by simp)]
    have s0 : step Str.empty p = first (p.2, part p.2 p.1) := by
      unfold step first
      rw [if_neg (by simp)]
      split
      · rfl
      · exact emp_app _
    have h1 : 0 < (Str.join sp [first (p.2, part p.2 p.1)]).length := by
      show 0 < (first (p.2, part p.2 p.1)).length
      have := part_pos (w := p.2) (hn p (by simp))
      unfold first; split
      · rw [len_app]; dsimp only; omega
      · exact this
    have f := fold_step r (first (p.2, part p.2 p.1)) [] h1 fun q hq => hn q (by simp [hq])
    have f1 : (p :: r).foldl step Str.empty = Str.join sp (first (p.2, part p.2 p.1) :: tailW (r.map fun p => (p.2, part p.2 p.1))) := by
      rw [List.foldl_cons, s0]; exact f.1
    rw [f1]
    have wc : ∀ t : Pt, words (((p :: r).map fun p => (p.2, part p.2 p.1)) ++ [t]) = first (p.2, part p.2 p.1) :: (tailW (r.map fun p => (p.2, part p.2 p.1)) ++ [sg t.1] ++ [t.2]) := fun t => by
      simp [words, tailW]
    by_cases h : c = 0
    · subst h
      rw [if_neg (by simp), if_neg (by decide), if_neg (by decide), List.append_nil]; rfl
    · rw [if_pos (.inl h), wc, join_snoc, join_snoc]
      dsimp only
      by_cases h0 : 0 < c
      · rw [if_pos h0]
        unfold sg
        rw [if_neg (by omega), show ((c.natAbs : Nat) : Int) = c by omega, show Str.ofString " + " = sp ++ (Str.ofString "+" ++ sp) by decide +kernel]
        simp only [app_assoc]
      · rw [if_neg h0, if_pos (by omega)]
        unfold sg
        rw [if_pos (by omega), show ((c.natAbs : Nat) : Int) = -c by omega, show Str.ofString " - " = sp ++ (Str.ofString "-" ++ sp) by decide +kernel]
        simp only [app_assoc]
theorem tailW_len : ∀ ps : List Pt, (tailW ps).length = 2 * ps.length
  | [] => rfl
  | p :: ps => by
    have := tailW_len ps
    show (sg p.1 :: p.2 :: tailW ps).length = _
    simp only [List.length_cons, this]; omega
theorem tailW_snoc (ps : List Pt) (p : Pt) : tailW (ps ++ [p]) = tailW ps ++ [sg p.1, p.2] := by simp [tailW]
theorem tailW_mem {ps : List Pt} {y : Str} (h : y ∈ tailW ps) : (∃ w, y = sg w) ∨ ∃ p ∈ ps, y = p.2 := by
  obtain ⟨p, hp, hy⟩ := List.mem_flatMap.mp h
  rcases List.mem_cons.mp hy with e | e
  · exact .inl ⟨p.1, e⟩
  · exact .inr ⟨p, hp, List.mem_singleton.mp e⟩
theorem sum_len {B : Nat} : ∀ {ys : List Str}, (∀ y ∈ ys, y.length ≤ B) → (ys.map (·.length)).sum ≤ ys.length * B
  | [], _ => by simp
  | y :: ys, h => by
    have a := h y (by simp)
    have b := sum_len (B := B) (ys := ys) fun z hz => h z (by simp [hz])
    rw [List.map_cons, List.sum_cons, List.length_cons, Nat.succ_mul]; omega
end Wr
/-! ### a row of objects, each told by its item -/
section
variable {α : Type} {f : α → HO} {H H' : Hp}
def AllAt (f : α → HO) (H : Hp) : List Addr → List α → Prop
  | [], [] => True
  | a :: as, x :: xs => H a = some (f x) ∧ AllAt f H as xs
  | _, _ => False
theorem AllAt.len : ∀ {as : List Addr} {xs : List α}, AllAt f H as xs → as.length = xs.length
  | [], [], _ => rfl
  | _ :: _, _ :: _, h => congrArg Nat.succ (AllAt.len h.2)
  | [], _ :: _, h => h.elim
  | _ :: _, [], h => h.elim
theorem AllAt.get : ∀ {as : List Addr} {xs : List α} {i : Nat} {a : Addr}, AllAt f H as xs → as[i]? = some a → ∃ x, xs[i]? = some x ∧ H a = some (f x)
  | [], _, _, _, _, e => by simp at e
  | _ :: _, [], _, _, h, _ => h.elim
  | b :: as, p :: ts, 0, a, h, e => by
    have : b = a := by simpa using e
    subst this; exact ⟨p, rfl, h.1⟩
  | b :: as, p :: ts, i + 1, a, h, e => by
    obtain ⟨q, h1, h2⟩ := AllAt.get (i := i) h.2 (by simpa using e)
    exact ⟨q, by simpa using h1, h2⟩
theorem AllAt.mono : ∀ {as : List Addr} {xs : List α}, AllAt f H as xs → (∀ a x, a ∈ as → x ∈ xs → H a = some (f x) → H' a = some (f x)) → AllAt f H' as xs
  | [], [], _, _ => trivial
  | a :: as, p :: ts, h, k => ⟨k a p (by simp) (by simp) h.1, h.2.mono fun b q hb hq => k b q (by simp [hb]) (by simp [hq])⟩
  | [], _ :: _, h, _ => h.elim
  | _ :: _, [], h, _ => h.elim
theorem AllAt.app : ∀ {as bs : List Addr} {xs ys : List α}, AllAt f H as xs → AllAt f H bs ys → AllAt f H (as ++ bs) (xs ++ ys)
  | [], _, [], _, _, k => k
  | _ :: _, _, _ :: _, _, h, k => ⟨h.1, h.2.app k⟩
  | [], _, _ :: _, _, h, _ => h.elim
  | _ :: _, _, [], _, h, _ => h.elim
theorem AllAt.keep0 {as : List Addr} {xs : List α} (h : AllAt f H as xs) (k : Keep [] H H') : AllAt f H' as xs := h.mono fun a p _ _ e => k a _ (by simp) e
/-- kept where the changed addresses hold other things -/
theorem AllAt.keep {M : List Addr} {as : List Addr} {xs : List α} (h : AllAt f H as xs) (k : Keep M H H') (n : ∀ m ∈ M, ∀ x, H m ≠ some (f x)) : AllAt f H' as xs := h.mono fun a p _ _ e => k a _ (fun hm => n a hm p e) e
end
/-! ### loops and comprehensions over zip of two lists, dict comprehensions over the items of a dict -/
section
variable {K : PySem.W.Frag} {σ : L2.St} {H : Hp} {Q : VK} {te tk tv : TE} {tt : TT} {G : TG} {tas : TA} {vs : List Nat} {ts : TS} {D : Ends}
def ForW (J : It) (G : TG) (ts : TS) (D : Ends) (σ : L2.St) (H : Hp) : Prop := ∃ W : Nat → Nat → L2.St → Hp → Prop, (∃ m, W 0 m σ H) ∧ ∀ i m σ H, W i m σ H →
  (J.stop i H ∧ D.nx σ H) ∨ (J.go i H ∧ ∃ N : L2.St → Hp → Prop, (∀ σ' H', N σ' H' → ∃ m', m' < m ∧ W (i + 1) m' σ' H') ∧ ∀ x H', J.yld i H x H' → G x σ H' fun σ2 H2 => ts { D with nx := N, ct := N, bk := D.nx } σ2 H2)
def ForZ (K : PySem.W.Frag) (G : TG) (ts : TS) (D : Ends) (σ : L2.St) (us : List V) (H : Hp) : Prop := ∃ a b xs ys, us = [.ref a, .ref b] ∧ SqL K H a xs ∧ SqL K H b ys ∧ ForW (Itz K a b) G ts D σ H
theorem r_forZ (k : tas σ H fun us H1 => ForZ K G ts D σ us H1) : tFor (iZip K tas) G ts D σ H := k
theorem forZ_go {a b : Addr} {xs ys : List V} (hl : xs.length = ys.length) (Pv : Nat → L2.St → Hp → Prop) (hx : SqL K H a xs) (hy : SqL K H b ys) (h0 : Pv 0 σ H) (hq : ∀ i σ' H', Pv i σ' H' → SqL K H' a xs ∧ SqL K H' b ys)
    (hs : ∀ (i : Nat) (x y : V) (T : Addr) σ' H', xs[i]? = some x → ys[i]? = some y → Pv i σ' H' → H' T = none → G (.ref T) σ' (upd H' T (.tup [x, y])) fun σ2 H2 => ts { D with nx := Pv (i + 1), ct := Pv (i + 1), bk := D.nx } σ2 H2)
    (hd : ∀ σ' H', Pv xs.length σ' H' → D.nx σ' H') : ForZ K G ts D σ [.ref a, .ref b] H := ⟨a, b, xs, ys, rfl, hx, hy, RZ.for_zipL hl Pv h0 hq hs hd⟩
def CompZ (K : PySem.W.Frag) (G : TG) (tt : TT) (te : TE) (vs : List Nat) (σ : L2.St) (Q : VK) (us : List V) (H1 : Hp) : Prop := ∃ a b xs ys, us = [.ref a, .ref b] ∧ SqL K H1 a xs ∧ SqL K H1 b ys ∧ CompW (Itz K a b) G tt te vs σ Q H1
theorem r_lcZ (k : tas σ H fun us H1 => CompZ K G tt te vs σ Q us H1) : tLc (iZip K tas) G tt te vs σ H Q := k
theorem lcZ_go {a b : Addr} {xs ys : List V} (hl : xs.length = ys.length) (Pv : Addr → Nat → List V → Hp → Prop) (hx : SqL K H a xs) (hy : SqL K H b ys) (h0 : ∀ D, H D = none → Pv D 0 [] (upd H D (.lst []))) (hq : ∀ D i acc H', H D = none → Pv D i acc H' → SqL K H' a xs ∧ SqL K H' b ys)
    (hs : ∀ D (i : Nat) x y T acc H', xs[i]? = some x → ys[i]? = some y → H D = none → H' D = some (.lst acc) → Pv D i acc H' → H' T = none → G (.ref T) (wipe σ vs) (upd H' T (.tup [x, y])) fun σ2 H2 => wipe σ2 vs = wipe σ vs ∧ tt σ2 H2 fun b H3 =>
      if b = true then te σ2 H3 fun y H4 => ∃ acc, H4 D = some (.lst acc) ∧ acc.length < sizeLine ∧ (∃ ac, (upd H4 D (.lst (acc ++ [y]))) D = some (.lst ac) ∧ Pv D (i + 1) ac (upd H4 D (.lst (acc ++ [y])))) else ∃ ac, H3 D = some (.lst ac) ∧ Pv D (i + 1) ac H3)
    (hd : ∀ D acc H', H D = none → H' D = some (.lst acc) → Pv D xs.length acc H' → Q (.ref D) H') : CompZ K G tt te vs σ Q [.ref a, .ref b] H :=
  ⟨a, b, xs, ys, rfl, hx, hy, fun D hD => lc_it (walk_zip (n := xs.length) (by omega)) (fun i H' => ∃ acc, H' D = some (.lst acc) ∧ Pv D i acc H') ⟨[], upd_same, h0 D hD⟩ (fun i H' _ ⟨acc, _, p⟩ => hq D i acc H' hD p)
    (fun i v H1 H' hi ⟨acc, ha, p⟩ ⟨T, x, y, ev, hT, eH, ex, ey⟩ => by subst ev eH; exact hs D i x y T acc H1 ex ey hD ha p hT) fun H' ⟨acc, ha, p⟩ => hd D acc H' hD ha p⟩
/-- a target (x, y), z -/
theorem r_gTup21 {p T : Addr} {x y z : V} {i j k : Nat} {Q : L2.St → Hp → Prop} (h : SqT K H T [.ref p, z]) (h2 : SqT K H p [x, y]) (q : Q (((σ.set i (some x)).set j (some y)).set k (some z)) H) :
    gTup K 2 (gCons (gTup K 2 (gCons (gName i) (gCons (gName j) gNil))) (gCons (gName k) gNil)) (.ref T) σ H Q :=
  ⟨T, [.ref p, z], rfl, h, rfl, .ref p, [z], rfl, ⟨p, [x, y], rfl, h2, rfl, x, [y], rfl, y, [], rfl, rfl, z, [], rfl, rfl, q⟩⟩
/-- a dict comprehension over a walk -/
theorem dc_it {J : It} {n : Nat} {Go : Hp → Prop} {Y : Nat → Hp → V → Hp → Prop} (w : Walk J n Go Y) {H1 : Hp} {D : Addr} {Qd : Hp → Prop} (Pv : Nat → Hp → Prop) (h0 : Pv 0 (upd H1 D (.dK []))) (hG : ∀ i H, i ≤ n → Pv i H → Go H)
    (hs : ∀ i x H H', i < n → Pv i H → Y i H x H' → G x (wipe σ vs) H' fun σ2 H2 => wipe σ2 vs = wipe σ vs ∧ tt σ2 H2 fun b H3 =>
      if b = true then tk σ2 H3 fun y H4 => tv σ2 H4 fun z H5 => ∃ kvs k, y = kV k ∧ H5 D = some (.dK kvs) ∧ kvs.length < sizeLine ∧ Pv (i + 1) (upd H5 D (.dK (putK kvs k z))) else Pv (i + 1) H3) (hd : ∀ H, Pv n H → Qd H) :
    ∃ W : Nat → Nat → Hp → Prop, (∃ m, W 0 m (upd H1 D (.dK []))) ∧ ∀ i m H, W i m H →
      (J.stop i H ∧ Qd H) ∨ (J.go i H ∧ ∃ Nx : Hp → Prop, (∀ H', Nx H' → ∃ m', m' < m ∧ W (i + 1) m' H') ∧ ∀ x H', J.yld i H x H' → G x (wipe σ vs) H' fun σ2 H2 => wipe σ2 vs = wipe σ vs ∧ tt σ2 H2 fun b H3 =>
        if b = true then tk σ2 H3 fun y H4 => tv σ2 H4 fun z H5 => ∃ kvs k, y = kV k ∧ H5 D = some (.dK kvs) ∧ kvs.length < sizeLine ∧ Nx (upd H5 D (.dK (putK kvs k z))) else Nx H3) := by
  let Turn : Nat → Nat → Hp → Prop := fun i left H => left + i = n ∧ Pv i H
  refine ⟨Turn, ⟨n, rfl, h0⟩, fun i left H ⟨sum, p⟩ => ?_⟩
  have stands := hG i H (by omega) p
  rcases Nat.eq_or_lt_of_le (show i ≤ n by omega) with full | more
  · cases full
    exact .inl ⟨w.stops H stands, hd H p⟩
  · exact .inr ⟨w.goes i H more stands, Pv (i + 1), fun H' p' => ⟨left - 1, by omega, by omega, p'⟩, fun v H' y => hs i v H H' more p (w.yields i H v H' more stands y)⟩
/-- {k: v for k, v in d.items() if ..} where d is looked up by a reading, locked for the time -/
theorem dcI_go {td : TE} {d : Addr} {kvs : List (Key × V)} (hd : H d = some (.dK kvs)) (up : ∀ od (Q' : VK), (∀ v H1, v = .ref d ∧ H1 = upd H d (.frz od (.dK kvs)) → Q' v H1) → td σ (upd H d (.frz od (.dK kvs))) Q')
    (Pv : Obj → Addr → Nat → List (Key × V) → Hp → Prop) (h0 : ∀ od D, upd H d (.frz od (.dK kvs)) D = none → Pv od D 0 [] (upd (upd H d (.frz od (.dK kvs))) D (.dK []))) (hG : ∀ od D i acc H', Pv od D i acc H' → H' d = some (.frz od (.dK kvs)))
    (hs : ∀ od D (i : Nat) k v T acc H', kvs[i]? = some (k, v) → upd H d (.frz od (.dK kvs)) D = none → H' D = some (.dK acc) → Pv od D i acc H' → H' T = none → G (.ref T) (wipe σ vs) (upd H' T (.tup [kV k, v])) fun σ2 H2 => wipe σ2 vs = wipe σ vs ∧ tt σ2 H2 fun b H3 =>
      if b = true then tk σ2 H3 fun y H4 => tv σ2 H4 fun z H5 => ∃ acc k, y = kV k ∧ H5 D = some (.dK acc) ∧ acc.length < sizeLine ∧ (∃ ac, (upd H5 D (.dK (putK acc k z))) D = some (.dK ac) ∧ Pv od D (i + 1) ac (upd H5 D (.dK (putK acc k z)))) else ∃ ac, H3 D = some (.dK ac) ∧ Pv od D (i + 1) ac H3)
    (he : ∀ od D acc H', upd H d (.frz od (.dK kvs)) D = none → H' D = some (.dK acc) → Pv od D kvs.length acc H' → Q (.ref D) (upd H' d (.dK kvs))) : tLockE (tDc (iItems td) G tt tk tv vs) σ H Q := by
  refine ⟨d, .dK kvs, hd, trivial, fun od => up od _ ?_⟩
  rintro v H1 ⟨rfl, rfl⟩
  refine ⟨d, od, kvs, rfl, upd_same, fun D hD => dc_it walk_items (fun i H' => ∃ acc, H' D = some (.dK acc) ∧ Pv od D i acc H') ⟨[], upd_same, h0 od D hD⟩ (fun i H' _ ⟨acc, _, p⟩ => hG od D i acc H' p) ?_ fun H' ⟨acc, ha, p⟩ => ⟨hG _ _ _ _ _ p, he od D acc H' hD ha p⟩⟩
  rintro i v H1 H' hi ⟨acc, ha, p⟩ ⟨T, x, y, ev, hT, eH, ex, ey⟩
  subst ev eH
  replace ex : kvs[i]?.map (fun kv => kV kv.1) = some x := ex
  replace ey : kvs[i]?.map Prod.snd = some y := ey
  cases hk : kvs[i]? with
  | none => rw [hk] at ex; cases ex
  | some kv =>
    rw [hk] at ex ey
    cases ex; cases ey
    exact hs od D i kv.1 kv.2 T acc H1 hk hD ha p hT
theorem Keep.unlock {M : List Addr} {H' : Hp} {d : Addr} {o f : HO} (h : H d = some o) (k : Keep M (upd H d f) H') : Keep M H (upd H' d o) := fun b u n e => by
  by_cases c : b = d
  · subst c; rw [h] at e; cases e; exact upd_same
  · rw [upd_ne c]; exact k b u n (by rw [upd_ne c]; exact e)
theorem r_any {a : Addr} {bs : List Bool} (h : SqL K H a (bs.map V.bl)) (k : Q (.bl (bs.any id)) H) : rAny K [V.ref a] H Q := ⟨a, bs, rfl, h, k⟩
theorem r_truD {p : Addr} {kvs : List (Key × V)} {QB : Bool → Hp → Prop} (h : H p = some (.dK kvs)) (k : QB (!kvs.isEmpty) H) : ∃ b, TruV K (.ref p) H b ∧ QB b H := ⟨_, .inr (.inr ⟨kvs, h, rfl⟩), k⟩
end
/-! ### == and != of two dicts whose values are the same things -/
def SameV (v : V) : Prop := flatB v = true ∨ ∃ a, v = .ref a
theorem eqAt_sameV {A : Around} {s : Shared} {v : V} {u u' : Value} (r : RelV v u) (r' : RelV v u') (f : SameV v) : SeqAt.EqAt A s u u' true := by
  rcases f with f | ⟨a, rfl⟩
  · exact eqAt_same r r' f
  · cases (show u = Value.ref a from r)
    cases (show u' = Value.ref a from r')
    exact SeqAt.EqAt.same _
theorem hits_same {A : Around} {s : Shared} {ls : List (Key × V)} {lv : List (Key × Value)} (rl : KV ls lv) {us : List (Key × V)} {uv : List (Key × Value)} (ru : KV us uv) :
    (∀ e ∈ us, valV ls e.1 = some e.2 ∧ SameV e.2) → PySem.W.KeqHits A s lv uv true := by
  unfold KV at ru
  induction ru with
  | nil => exact fun _ => .nil
  | @cons e f es fs both more ih =>
    intro all
    have first := all e List.mem_cons_self
    have look : RelO (some e.2) (valueAt lv e.1) := first.1 ▸ rl.val e.1
    obtain ⟨there, found, rel⟩ := look.some_of
    obtain ⟨key, worth⟩ := f
    rw [show e.1 = key from both.1] at found
    show PySem.W.KeqHits A s lv ((key, worth) :: fs) (true && true)
    exact .hit found (eqAt_sameV both.2 rel first.2) (ih fun g hg => all g (List.mem_cons_of_mem _ hg))
def SameD (x y : V) (H : Hp) : Prop := ∃ a b ks ls, x = .ref a ∧ y = .ref b ∧ H a = some (.dK ks) ∧ H b = some (.dK ls) ∧ ks.length = ls.length ∧ (∀ p ∈ ks, valV ls p.1 = some p.2 ∧ SameV p.2)
def rEqSame : R2 := fun x y H Q => SameD x y H ∧ Q (.bl true) H
def rNeSame : R2 := fun x y H Q => SameD x y H ∧ Q (.bl false) H
theorem same_run {X : Cx} {pins : List (Addr × Obj)} {σ : L2.St} {H : Hp} {s : Shared} {x y : V} {v u : Value} (I : Inv X pins σ H s) (rx : RelV x v) (ry : RelV y u) (d : SameD x y H) : ∃ (a b : Addr) (fa fb : List (Key × Value)), v = .ref a ∧ u = .ref b ∧
    (a == sysModules) = false ∧ (b == sysModules) = false ∧ s.heap.DictOf (mixKind X.prog X.w) a fa ∧ s.heap.DictOf (mixKind X.prog X.w) b fb ∧ fa.length = fb.length ∧ PySem.W.KeqHits X.A.in1 s fb fa true := by
  obtain ⟨a, b, ks, ls, rfl, rfl, ha, hb, len, same⟩ := d
  have oa : ObjOk X.prog X.w H s.heap a (.dK ks) := I.hok a _ ha
  have ob : ObjOk X.prog X.w H s.heap b (.dK ls) := I.hok b _ hb
  obtain ⟨_, na, fa, ra, da⟩ := oa
  obtain ⟨_, nb, fb, rb, db⟩ := ob
  exact ⟨a, b, fa, fb, rx, ry, na, nb, da, db, by have h1 := ra.length; have h2 := rb.length; omega, hits_same rb ra same⟩
theorem op_eqSame {X : Cx} (small : X.A.units < cLine) : OpR X (compareOp .Eq) rEqSame := by
  rintro pins s σ H x y v u Q I rx ry ⟨d, q⟩
  obtain ⟨a, b, fa, fb, rfl, rfl, na, nb, da, db, len, hits⟩ := same_run I rx ry d
  exact PySem.W.keq_eq (r := true) na nb da db small (fun _ => hits) ⟨.bl true, H, I, by simp [len]; rfl, q⟩
theorem op_neSame {X : Cx} (small : X.A.units < cLine) : OpR X (compareOp .NotEq) rNeSame := by
  rintro pins s σ H x y v u Q I rx ry ⟨d, q⟩
  obtain ⟨a, b, fa, fb, rfl, rfl, na, nb, da, db, len, hits⟩ := same_run I rx ry d
  exact PySem.W.keq_ne (r := true) na nb da db small (fun _ => hits) ⟨.bl false, H, I, by simp [len]; rfl, q⟩
theorem val_self : ∀ {ks : List (Key × V)}, (ks.map (·.1)).Nodup → ∀ p ∈ ks, valV ks p.1 = some p.2
  | [], _, p, h => by simp at h
  | kv :: ks, n, p, h => by
    rw [List.map_cons, List.nodup_cons] at n
    rcases List.mem_cons.mp h with e | h
    · subst e; unfold valV; simp
    · have ne : kv.1 ≠ p.1 := fun e => n.1 (by rw [e]; exact List.mem_map_of_mem h)
      have ih := val_self n.2 p h
      unfold valV at ih ⊢
      rw [List.find?_cons_of_neg (by simpa using ne)]
      exact ih
theorem same_self {H : Hp} {a b : Addr} {ks : List (Key × V)} (ha : H a = some (.dK ks)) (hb : H b = some (.dK ks)) (n : (ks.map (·.1)).Nodup) (h : ∀ p ∈ ks, SameV p.2) : SameD (.ref a) (.ref b) H :=
  ⟨a, b, ks, ks, rfl, rfl, ha, hb, rfl, fun p hp => ⟨val_self n p hp, h p hp⟩⟩
namespace Dt
/-! ### dicts with tuples as keys: walked by values and by items -/
abbrev Tb := List (List Key × V)
/-- a locked dict, its entries as they are stored -/
theorem raw {X : Cx} {pins : List (Addr × Obj)} {σ : L2.St} {H : Hp} {s : Shared} {d : Addr} {o : Obj} {kvs : Tb} (I : Inv X pins σ H s) (h : H d = some (.frz o (.dT kvs))) :
    (d == sysModules) = false ∧ ∃ (es : Array DictEntry) (ep : Nat), o.data = .dict es ep ∧ es.size = kvs.length ∧ s.heap.DictRaw d es ep ∧
      ∀ (i : Nat) (hi : i < es.size), ∃ (k : List Key) (v : V) (q : Addr), kvs[i]? = some (k, v) ∧ es[i].key = .ref q ∧ H q = some (.tup (k.map kV)) ∧ RelV v es[i].val := by
  obtain ⟨stands, _, apart, cells, pairs, o2, es, ep, stands2, exact, data, list, _⟩ := I.hok d _ h
  obtain rfl : o2 = o := Option.some.inj (stands2.symm.trans stands)
  have len : es.size = cells.length := size_of_entries list
  have len2 : kvs.length = cells.length := Paired.length pairs
  refine ⟨apart, es, ep, data, by omega, ⟨_, stands, exact, data⟩, fun i hi => ?_⟩
  have more : i < kvs.length := by omega
  obtain ⟨c, at1, e1, e2, e3⟩ := L2.paired_get pairs (List.getElem?_eq_getElem more)
  have entry := entry_at list i
  rw [at1, Array.getElem?_eq_getElem hi] at entry
  have entry' : es[i] = entryOfKey (tupleKind (mixKind X.prog X.w)) c := Option.some.inj entry
  refine ⟨kvs[i].1, kvs[i].2, c.2.1, List.getElem?_eq_getElem more, by rw [entry']; rfl, e2, by rw [entry']; exact e3⟩
/-- the values, one by one -/
def Vals (d : Addr) (o : Obj) (kvs : Tb) : It :=
  ⟨fun i H => H d = some (.frz o (.dT kvs)) ∧ i < kvs.length, fun i H x H' => H' = H ∧ ∃ k, kvs[i]? = some (k, x), fun i H => H d = some (.frz o (.dT kvs)) ∧ kvs.length ≤ i⟩
/-- the pairs: the key's own tuple and the value, in a new tuple -/
def Items (d : Addr) (o : Obj) (kvs : Tb) : It :=
  ⟨fun i H => H d = some (.frz o (.dT kvs)) ∧ i < kvs.length, fun i H x H' => ∃ (T q : Addr) (k : List Key) (v : V), kvs[i]? = some (k, v) ∧ H q = some (.tup (k.map kV)) ∧ x = .ref T ∧ H T = none ∧ H' = upd H T (.tup [.ref q, v]), fun i H => H d = some (.frz o (.dT kvs)) ∧ kvs.length ≤ i⟩
section
variable {P : Program} {w : World} {K : PySem.W.Frag} {d : Addr} {o : Obj} {es : Array DictEntry} {ep : Nat} {kvs : Tb}
theorem turn_vals {tg : Expr} (it : Addr) (data : o.data = .dict es ep) : Turn P w K tg (Vals d o kvs) [it] it (fun i h => h.IsValIter it d i es.size ep) := by
  refine ⟨List.mem_singleton.mpr rfl, fun i h st b hb => ?_, fun i h h' st k => st.at fun u e => k it (List.mem_singleton.mpr rfl) u e, ?_, ?_, fun A i s Q E st h => wpAny_pyIter_valiter st h⟩
  · obtain ⟨u, e, _, fields⟩ := st
    rw [List.mem_singleton.mp hb]
    exact ⟨u, e, fun v z => by rw [fields] at z; cases z⟩
  · intro X hP hw hK calm i pins s σ H E I own st go
    subst hP hw hK
    obtain ⟨locked, more⟩ := go
    obtain ⟨g0, g1, g2, g3, g4, g5⟩ := own it (List.mem_singleton.mpr rfl)
    obtain ⟨_, es2, ep2, data2, len, stands, entries⟩ := raw I locked
    obtain ⟨rfl, rfl⟩ := dict_ep data data2
    obtain ⟨k, v, q, at1, _, _, rel⟩ := entries i (by omega)
    refine PySem.wpAny_pyNext_values_item_raw st stands (by omega) fun h' st' but => ?_
    have I' := I.turned (h' := h') (t' := s.toks) (fun b u hb e => (but.2 b hb).trans e) g0 g1 g3 g4 g5
    obtain ⟨oi, e, c, dd⟩ := id st'
    exact ⟨_, rfl, go_of (s := { s with heap := h' }) e c dd (by decide) ⟨v, H, I', rel, ⟨rfl, k, at1⟩, st', fun b hb => (own b hb).1⟩⟩
  · intro X hP hw hK calm i pins s σ H E I own st stop
    subst hP hw hK
    obtain ⟨locked, full⟩ := stop
    obtain ⟨g0, g1, g2, g3, g4, g5⟩ := own it (List.mem_singleton.mpr rfl)
    obtain ⟨_, es2, ep2, data2, len, stands, _⟩ := raw I locked
    obtain ⟨rfl, rfl⟩ := dict_ep data data2
    exact PySem.wpAny_pyNext_values_end_raw (I.ok.hd calm) st stands (by omega) fun h' but => ⟨rfl, I.turned (t' := s.toks) (fun b u hb e => but b u hb e) g0 g1 g3 g4 g5⟩
theorem turn_items {elts : List Expr} {kk : Nat} {tpos : Pos} (it : Addr) (data : o.data = .dict es ep) : Turn P w K (.Tuple elts kk tpos) (Items d o kvs) [it] it (fun i h => ∃ x y, IsItemIter h it d i es.size ep x y) := by
  refine ⟨List.mem_singleton.mpr rfl, fun i h st b hb => ?_, fun i h h' st k => ?_, ?_, ?_, fun A i s Q E st h => ?_⟩
  · obtain ⟨x, y, e⟩ := st
    rw [List.mem_singleton.mp hb]
    exact ⟨_, e, fun v z => nomatch z⟩
  · obtain ⟨x, y, e⟩ := st
    exact ⟨x, y, k it (List.mem_singleton.mpr rfl) _ e⟩
  · intro X hP hw hK calm i pins s σ H E I own st go
    subst hP hw hK
    obtain ⟨locked, more⟩ := go
    obtain ⟨_, es2, ep2, data2, len, stands, entries⟩ := raw I locked
    obtain ⟨rfl, rfl⟩ := dict_ep data data2
    obtain ⟨k, v, q, at1, key, tup, rel⟩ := entries i (by omega)
    obtain ⟨x, y, here⟩ := st
    have young : it < s.heap.objs.size := Heap.lt_size here
    refine PySem.wpAny_pyNext_items_item_raw here stands (by omega) fun h' out pair _ kept => ⟨_, rfl, ?_⟩
    refine wpAny_letOwnedTupleGo_items (s := { s with heap := h' }) out fun h2 back but => ?_
    have pair2 := (but.2 _ (Nat.ne_of_gt young)).trans pair
    have laid : ObjOk X.prog X.w (upd H s.heap.objs.size (.tup [.ref q, v])) h2 s.heap.objs.size (.tup [.ref q, v]) := by
      refine ⟨show 2 ≤ sizeLine by decide, [(es2[i]'(by omega)).key, (es2[i]'(by omega)).val], .cons ?_ (.cons rel .nil), _, pair2, rfl, _, rfl⟩
      rw [key]; rfl
    have I' := I.turnedNew (t' := s.toks) (ch := [it]) (fun b u hb e => (but.2 b (by simpa using hb)).trans (kept b u (by simpa using hb) e)) own (Nat.le_refl _) laid
    refine ⟨.ref s.heap.objs.size, _, I', rfl, ⟨_, q, k, v, at1, tup, rfl, I.hok.fresh (Nat.le_refl _), rfl⟩, ⟨_, _, back⟩, fun b hb => ?_⟩
    rw [List.mem_singleton.mp hb, upd_ne (Nat.ne_of_lt young)]
    exact (own it (List.mem_singleton.mpr rfl)).1
  · intro X hP hw hK calm i pins s σ H E I own st stop
    subst hP hw hK
    obtain ⟨locked, full⟩ := stop
    obtain ⟨g0, g1, g2, g3, g4, g5⟩ := own it (List.mem_singleton.mpr rfl)
    obtain ⟨_, es2, ep2, data2, len, stands, _⟩ := raw I locked
    obtain ⟨rfl, rfl⟩ := dict_ep data data2
    obtain ⟨x, y, here⟩ := st
    exact PySem.wpAny_pyNext_items_end_raw (I.ok.hd calm) here stands (by omega) fun h' but => ⟨rfl, I.turned (t' := s.toks) (fun b u hb e => but b u hb e) g0 g1 g3 g4 g5⟩
  · obtain ⟨x, y, e⟩ := st
    exact PySem.W.kcp_self e h
end
/-! ### d.values() and d.items() of a locked dict, in a loop's head -/
def iValsT (td : TE) : TI := fun σ H R => td σ H fun x H1 => ∃ d o kvs, x = .ref d ∧ H1 d = some (.frz o (.dT kvs)) ∧ R (Vals d o kvs) H1
def iItemsT (td : TE) : TI := fun σ H R => td σ H fun x H1 => ∃ d o kvs, x = .ref d ∧ H1 d = some (.frz o (.dT kvs)) ∧ R (Items d o kvs) H1
section
variable {X : Cx} {tg e : Expr} {td : TE} {apos cpos : Pos}
theorem noDict {s : Shared} {d : Addr} {es : Array DictEntry} {ep : Nat} (h : s.heap.DictRaw d es ep) : ∀ b, Value.ref d = .ref b → ∃ ob, s.heap.get? b = some ob ∧ ob.dict = none := fun b e => by
  obtain ⟨u, hu, exact, _⟩ := h
  cases e
  exact ⟨u, hu, exact.2.1⟩
theorem pi_valuesT (he : PE X e td) (hbase : attributeBase e "values" X.env (eval e X.env) = eval e X.env := by rfl) (hline : (apos.endLine == cpos.line) = true := by rfl) : PI X tg (.Call (.Attribute e "values" apos) [] [] cpos) (iValsT td) := by
  refine ⟨fun pins s σ H R I h => wpAny_Call_method (T := "dict") (id := "dict.values") hbase rfl hline F.plainAttrs_dict F.slot_dict_values F.type_dict_values (thn (he.run pins s σ H _ I h) fun u s1 h1 => ?_)⟩
  obtain ⟨_, H1, I1, rx, d, o, kvs, rfl, locked, q⟩ := h1
  obtain rfl : u = Value.ref d := rx
  obtain ⟨apart, es, ep, data, len, stands, _⟩ := raw I1 locked
  refine ⟨stands.typeIs, noDict stands, ?_⟩
  have over : ∀ b ob, s1.heap.get? b = some ob → (s1.heap.push { cls := .type "dict_values", data := .fields #[.ref d] }).get? b = some ob := fun b ob e => Heap.get?_push_of_some _ e
  have I2 := I1.kept (t' := s1.toks) over
  have fin : wpAny (model X.prog X.w) X.A (pyIter (.ref s1.heap.objs.size)) (PIE X pins σ tg R) X.xe { s1 with heap := s1.heap.push { cls := .type "dict_values", data := .fields #[.ref d] } } :=
    PySem.wpAny_pyIter_values_raw (d := d) ⟨_, Heap.get?_push_size _ rfl, rfl, rfl⟩ (stands.at fun ob e => over d ob e) (pi_one (tk := s1.toks) I2 _ (turn_vals _ data) ⟨_, Heap.get?_push_size _ rfl, rfl, rfl⟩ q)
  show wpAny _ _ (callWith cpos (.builtin "dict.values") [.ref d] [] []) _ X.xe s1
  exact method_meetsIn F.slot_dict_values F.entry_dict_values rfl (PySem.evalArgs_none ⟨rfl, stands.typeIs, F.args_dict_values_1 _, _, PySem.meets_dict_values_raw d apart, ⟨_, _, stands⟩, fin⟩)
theorem pi_itemsT {elts : List Expr} {kk : Nat} {tpos : Pos} (he : PE X e td) (hbase : attributeBase e "items" X.env (eval e X.env) = eval e X.env := by rfl) (hline : (apos.endLine == cpos.line) = true := by rfl) : PI X (.Tuple elts kk tpos) (.Call (.Attribute e "items" apos) [] [] cpos) (iItemsT td) := by
  refine ⟨fun pins s σ H R I h => wpAny_Call_method (T := "dict") (id := "dict.items") hbase rfl hline F.plainAttrs_dict F.slot_dict_items F.type_dict_items (thn (he.run pins s σ H _ I h) fun u s1 h1 => ?_)⟩
  obtain ⟨_, H1, I1, rx, d, o, kvs, rfl, locked, q⟩ := h1
  obtain rfl : u = Value.ref d := rx
  obtain ⟨apart, es, ep, data, len, stands, _⟩ := raw I1 locked
  refine ⟨stands.typeIs, noDict stands, ?_⟩
  have over : ∀ b ob, s1.heap.get? b = some ob → (s1.heap.push { cls := .type "dict_items", data := .fields #[.ref d] }).get? b = some ob := fun b ob e => Heap.get?_push_of_some _ e
  have I2 := I1.kept (t' := s1.toks) over
  have fin : wpAny (model X.prog X.w) X.A (pyIter (.ref s1.heap.objs.size)) (PIE X pins σ (.Tuple elts kk tpos) R) X.xe { s1 with heap := s1.heap.push { cls := .type "dict_items", data := .fields #[.ref d] } } :=
    PySem.wpAny_pyIter_items_raw (d := d) ⟨_, Heap.get?_push_size _ rfl, rfl, rfl⟩ (stands.at fun ob e => over d ob e) (pi_one (tk := s1.toks) I2 _ (turn_items _ data) ⟨.none, .none, Heap.get?_push_size _ rfl⟩ q)
  show wpAny _ _ (callWith cpos (.builtin "dict.items") [.ref d] [] []) _ X.xe s1
  exact method_meetsIn F.slot_dict_items F.entry_dict_items rfl (PySem.evalArgs_none ⟨rfl, stands.typeIs, F.args_dict_items_1 _, _, PySem.meets_dict_items_raw d apart, ⟨_, _, stands⟩, fin⟩)
end
/-! ### a dict comprehension whose keys are tuples -/
/-- D[q] = v by a comprehension, q a tuple -/
theorem dictSetT {X : Cx} {pins : List (Addr × Obj)} {σ : L2.St} {H : Hp} {s : Shared} {E : Value → Shared → Prop} {D q : Addr} {kvs : Tb} {k : List Key} {v : V} {r : Value} {Q : Unit → Shared → Prop} (hu : X.A.units < cLine) (I : Inv X pins σ H s) (at1 : H D = some (.dT kvs)) (few : kvs.length < sizeLine)
    (tup : H q = some (.tup (k.map kV))) (rv : RelV v r) (then1 : ∀ s', Inv X pins σ (upd H D (.dT (putK kvs k v))) s' → Q () s') : wpAny (model X.prog X.w) X.A (dictSet D (.ref q) r) Q E s := by
  obtain ⟨small, apart, cells, pairs, held⟩ := dt_of I.hok at1
  have small2 : cells.length ≤ sizeLine := by rw [← Paired.length pairs]; exact small
  have small3 : (putK kvs k v).length ≤ sizeLine := by have := length_putK kvs k v; omega
  refine wpAny_dictSet_heap (hsz := small2) (show X.A.units < cLine from hu) (key_of I.hok tup) held fun h' held' but => then1 _ ?_
  obtain ⟨u, es, ep, stands, a1, a2, a3, _, a4⟩ := held'
  have pairs' : Paired (fun (p : List Key × V) (c : List Key × Addr × Value) => p.1 = c.1 ∧ (upd H D (.dT (putK kvs k v))) c.2.1 = some (.tup (p.1.map kV)) ∧ RelV p.2 c.2.2) (putK kvs k v) (storedH cells k q r) :=
    KT.keeps (KT.put pairs k tup rv) fun c ys ec => by rw [upd_ne (ne_of ec at1 (fun z => nomatch z))]; exact ec
  exact d_write I (by rw [at1]; exact True.intro) but ⟨u, stands⟩ ⟨small3, apart, _, pairs', u, es, ep, stands, a1, a2, a3, a4⟩
section
variable {X : Cx}
/-- {k: v for target in iter if ..}, the keys tuples: D the new dict -/
def tDcT (wi : TI) (g : TG) (tt : TT) (tk tv : TE) (vs : List Nat) : TE := fun σ H Q => wi σ H fun J H1 => ∀ D, H1 D = none → ∃ W : Nat → Nat → Hp → Prop, (∃ m, W 0 m (upd H1 D (.dT []))) ∧ ∀ i m H, W i m H →
  (J.stop i H ∧ Q (.ref D) H) ∨ (J.go i H ∧ ∃ Nx : Hp → Prop, (∀ H', Nx H' → ∃ m', m' < m ∧ W (i + 1) m' H') ∧ ∀ x H', J.yld i H x H' → g x (wipe σ vs) H' fun σ2 H2 => wipe σ2 vs = wipe σ vs ∧ tt σ2 H2 fun b H3 =>
    if b = true then tk σ2 H3 fun y H4 => tv σ2 H4 fun z H5 => ∃ (kvs : Tb) (k : List Key) (q : Addr), y = .ref q ∧ H5 q = some (.tup (k.map kV)) ∧ H5 D = some (.dT kvs) ∧ kvs.length < sizeLine ∧ Nx (upd H5 D (.dT (putK kvs k z))) else Nx H3)
theorem pe_dcT {kx vx tg iter : Expr} {ifs : List Expr} {scope : Scope} {own : List (Str × Nat)} {pos : Pos} {wi : TI} {g : TG} {tt : TT} {tk tv : TE} (small : X.A.units < cLine) (calm : X.calm = true) (nodup : X.N.Nodup) (hi : PI X tg iter wi) (ok : BlkOk X.N X.env.scope scope own)
    (hg : ∀ (s : Shared) (H : Hp) (C : Addr) (cl : List (Str × Addr)) (fp : List Addr), PG (X.blk s H scope (compEnvC scope cl C X.env) fp) tg g) (ht : ∀ (s : Shared) (H : Hp) (C : Addr) (cl : List (Str × Addr)) (fp : List Addr), PTs (X.blk s H scope (compEnvC scope cl C X.env) fp) ifs tt)
    (hk : ∀ (s : Shared) (H : Hp) (C : Addr) (cl : List (Str × Addr)) (fp : List Addr), PE (X.blk s H scope (compEnvC scope cl C X.env) fp) kx tk) (he : ∀ (s : Shared) (H : Hp) (C : Addr) (cl : List (Str × Addr)) (fp : List Addr), PE (X.blk s H scope (compEnvC scope cl C X.env) fp) vx tv)
    (unfolded : ∀ x, foldedSetIterable iter X.env x = pure x := by intro _; rfl) : PE X (.DictComp kx vx [⟨tg, iter, ifs, 0⟩] scope pos) (tDcT wi g tt tk tv (own.map (·.2))) := by
  refine ⟨fun pins s0 σ H0 Q I0 wish => ?_⟩
  rw [arm_eval_DictComp]
  have bound : ∀ y ∈ scope.names, y.2 = .free → ∃ c, X.env.cells.lookup y.1 = some c := fun y hy e => (ok.free y hy e).elim (fun k => I0.ok.has _ (.inl k)) fun k => I0.ok.has _ (.inr k)
  refine wpAny_comprehension_free (use := none) rfl unfolded (closure_ok bound) ok.kind (fun y hy e => by rw [ok.uniq y hy, e]) (thn (hi.run pins s0 σ H0 _ I0 wish) fun xv sA walked => thn walked fun itv sB arrived => ?_)
  obtain ⟨it, fp, tn, J, HB, rfl, IB, T, stB, fpB, made⟩ := arrived
  refine wpAny_newObj_type (newEnv_comp ?_)
  -- the new dict
  obtain ⟨D, hD⟩ : ∃ D, sB.heap.objs.size = D := ⟨_, rfl⟩
  have free : HB D = none := IB.hok.fresh (Nat.le_of_eq hD)
  obtain ⟨W, ⟨m0, w0⟩, turn⟩ := made D free
  let sC : Shared := { sB with heap := sB.heap.push { cls := .type "dict", data := .dict #[] } }
  have over : ∀ b u, sB.heap.get? b = some u → sC.heap.get? b = some u := fun b u e => Heap.get?_push_of_some _ e
  have IC : Inv X pins σ (upd HB D (.dT [])) sC := IB.laid (t' := sB.toks) over (Nat.le_of_eq hD) (by rw [← hD]; exact dt_empty sB.heap IB.big)
  have fpC : ∀ b ∈ fp, FpOk X pins (upd HB D (.dT [])) b ∧ b < sC.heap.objs.size := fun b hb => by
    obtain ⟨u, e, _⟩ := T.obj _ _ stB b hb
    have lt := Heap.lt_size e
    refine ⟨⟨?_, (fpB b hb).2⟩, by show b < (sB.heap.push _).objs.size; rw [Heap.size_push]; exact Nat.lt_succ_of_lt lt⟩
    rw [upd_ne (by rw [← hD]; exact Nat.ne_of_lt lt)]
    exact (fpB b hb).1
  -- the block of names
  have ID := block_start IC ok nodup fpC
  let cells := cellsFrom (sC.heap.objs.size + 1) scope.names (cloFrom X.env.cells scope.names [])
  have pg := hg sC (upd HB D (.dT [])) sC.heap.objs.size cells fp
  have pt := ht sC (upd HB D (.dT [])) sC.heap.objs.size cells fp
  have pk := hk sC (upd HB D (.dT [])) sC.heap.objs.size cells fp
  have pv := he sC (upd HB D (.dT [])) sC.heap.objs.size cells fp
  let env2 := compEnvC scope cells sC.heap.objs.size X.env
  let X2 := X.blk sC (upd HB D (.dT [])) scope env2 fp
  let sD : Shared := { sC with heap := pushCells (sC.heap.push { cls := .type "dict", data := .dict #[] }) scope.names }
  have stD : tn 0 sD.heap := T.keep _ _ _ (T.keep _ _ _ stB fun b _ u e => over b u e) fun b _ u e => pushCells_keeps _ _ _ _ (Heap.get?_push_of_some _ e)
  have stays : ∀ {σ' : L2.St} {H' : Hp} {s' : Shared}, Inv X2 [] σ' H' s' → (∀ b ∈ fp, H' b = none) → ∀ b ∈ fp, FpOk X2 [] H' b := fun {σ' H' s'} I' none' b hb =>
    ⟨none' b hb, (I'.ok.exf b hb).1, I'.ok.exfs b hb, .inl hb, fun x c e => (I'.ok.exf b hb).2 x c e, fun p hp => absurd (show p ∈ ([] : List (Addr × Obj)) ++ [] from hp) (by simp)⟩
  let Q0 : Value → Shared → Prop := fun v s' => ∃ x H', Inv X pins σ H' s' ∧ RelV x v ∧ Q x H'
  have loop : codeAny (model X.prog X.w) X.A (.compLoop (.DictComp kx vx [⟨tg, iter, ifs, 0⟩] scope pos) 0 (.ref it) (.ref D) env2) (compPost (model X.prog X.w) X.A X.xe none Q0 (.ref D) sC.heap.objs.size) sD := by
    refine compLoop_anyD (fun m s' => ∃ i H', Inv X2 [] (wipe σ (own.map (·.2))) H' s' ∧ tn i s'.heap ∧ (∀ b ∈ fp, H' b = none) ∧ W i m H') ?_ m0 ⟨0, _, ID, stD, fun b hb => (fpC b hb).1.1, w0⟩
    rintro m s1 ⟨i, H1, I1, st1, none1, w1⟩
    rcases turn i m H1 w1 with ⟨stop, last⟩ | ⟨go, Nx, less, step⟩
    · refine thnF (T.done X2 rfl rfl rfl calm i [] s1 _ H1 (fun _ _ => False) I1 (stays I1 none1) st1 stop) fun r s2 ⟨hr, I2⟩ => ?_
      subst hr
      have back : Inv X pins σ H1 s2 := IC.call' (ch := fp) I2.os I2.base I2.hok I2.bare fun b hb => ⟨(fpC b hb).1.2.2.2.1, (fpC b hb).1.2.1, (fpC b hb).1.2.2.2.2.1, (fpC b hb).1.2.2.2.2.2⟩
      have freeC : H1 sC.heap.objs.size = none := I2.free
      obtain ⟨names, held, _⟩ := I2.loc
      refine ⟨names, held, fun h2 but => ?_⟩
      obtain ⟨f0, f1, f2, f3, f4, f5⟩ := IC.fpOk (Nat.le_refl _) freeC
      exact ⟨.ref D, H1, back.turned (t' := s2.toks) (fun b u hb e => (but.2 b hb).trans e) f0 f1 f3 f4 f5, rfl, last⟩
    · refine thnF (T.item X2 rfl rfl rfl calm i [] s1 _ H1 (fun _ _ => False) I1 (stays I1 none1) st1 go) fun r s2 ⟨u, hr, taken⟩ => ?_
      subst hr
      refine thnF taken fun _ s3 ⟨x, H3, I3, r3, y3, st3, none3⟩ => ?_
      refine thnF (pg.run _ s3 _ H3 x u _ (I3.pinned (stays I3 none3) (T.obj _ _ st3)) r3 (step x H3 y3)) fun _ s4 ⟨σ4, H4, I4, wiped, q4⟩ => ?_
      refine thnF (pt.run _ s4 σ4 H4 _ I4 q4) fun b s5 ⟨H5, I5, q5⟩ => ?_
      have turned : ∀ {s' : Shared} {H' : Hp}, Inv X2 ([] ++ pinsAt fp s3.heap) σ4 H' s' → Nx H' → ∃ m', m' < m ∧ ∃ i H', Inv X2 [] (wipe σ (own.map (·.2))) H' s' ∧ tn i s'.heap ∧ (∀ b ∈ fp, H' b = none) ∧ W i m' H' := fun {s' H'} I' nx => by
        obtain ⟨m', lt, w'⟩ := less H' nx
        have pin : ∀ b ∈ fp, ∀ u, s3.heap.get? b = some u → s'.heap.get? b = some u ∧ H' b = none := fun b hb u e =>
          have z := I'.pin (b, u) (List.mem_append_right _ (List.mem_append_right _ (mem_pinsAt hb e)))
          ⟨z.1, z.2.1⟩
        have same : (wipe σ (own.map (·.2))).length = σ4.length := by rw [← wiped, wipe_length]
        refine ⟨m', lt, i + 1, H', (I'.unpinned (pins := [])).weak same (fun j v e => ?_), T.keep _ _ _ st3 fun b hb u e => (pin b hb u e).1, fun b hb => ?_, w'⟩
        · rw [← wiped] at e; exact (wipe_some e).1
        · obtain ⟨u, e, _⟩ := T.obj _ _ st3 b hb
          exact (pin b hb u e).2
      cases b with
      | false => exact turned I5 q5
      | true =>
        refine thnF (pk.run _ s5 σ4 H5 _ I5 q5) fun kv s6 ⟨yk, H6, I6, r6, q6⟩ => ?_
        refine thnF (pv.run _ s6 σ4 H6 _ I6 q6) fun vv s7 ⟨yv, H7, I7, r7, kvs, k, q, ek, tup, at7, few, nx⟩ => ?_
        subst ek
        cases (show kv = Value.ref q from r6)
        exact dictSetT (X := X2) small I7 at7 few tup r7 fun s8 I8 => turned I8 nx
  subst hD
  show codeAny (model X.prog X.w) X.A (.compStart (.DictComp kx vx [⟨tg, iter, ifs, 0⟩] scope pos) 0 (.ref it) (.ref sB.heap.objs.size) env2) (compPost (model X.prog X.w) X.A X.xe none Q0 (.ref sB.heap.objs.size) sC.heap.objs.size) sD
  exact codeAny_compStart_dict loop (T.self X.A 0 _ _ _ stD loop)
end
/-! ### d.setdefault(q, v), the keys tuples -/
def tSetdT (td ty tx : TE) : TE := fun σ H Q => td σ H fun x H1 => ∃ a, x = .ref a ∧ IsD H1 a ∧ ty σ H1 fun y H2 => tx σ H2 fun z H3 => ∃ (kvs : Tb) (k : List Key) (q : Addr), H3 a = some (.dT kvs) ∧ y = .ref q ∧ H3 q = some (.tup (k.map kV)) ∧ kvs.length < sizeLine ∧
  (∀ v, valV kvs k = some v → Q v H3) ∧ (valV kvs k = none → Q z (upd H3 a (.dT (putK kvs k z))))
theorem setdefaultT {X : Cx} {pins : List (Addr × Obj)} {σ : L2.St} {H : Hp} {s : Shared} {a q : Addr} {r : Value} {v : V} {k : List Key} {kvs : Tb} {E Q : Value → Shared → Prop} (small : X.A.units + 1 < cLine) (I : Inv X pins σ H s) (at1 : H a = some (.dT kvs)) (tup : H q = some (.tup (k.map kV))) (rv : RelV v r) (few : kvs.length < sizeLine)
    (there : ∀ w, valV kvs k = some w → ∀ (u : Value) (s' : Shared), Inv X pins σ H s' → RelV w u → Q u s') (new : valV kvs k = none → ∀ (u : Value) (s' : Shared), Inv X pins σ (upd H a (.dT (putK kvs k v))) s' → RelV v u → Q u s') :
    wpAny (model X.prog X.w) X.A (call (.builtin "dict.setdefault") [.ref a, .ref q, r]) Q E s := by
  obtain ⟨fits, apart, cells, pairs, held⟩ := dt_of I.hok at1
  have look := pairs.val k
  refine PySem.call_setdefault_heap (hsz := by rw [← Paired.length pairs]; exact fits) (show X.A.in1.units < cLine from small) (key_of I.hok tup) apart held (fun p hp => ?_) fun hn h' held' but => ?_
  · rw [hp] at look
    cases e : valV kvs k with
    | none => rw [e] at look; exact (show False from look).elim
    | some w => rw [e] at look; exact there w e _ _ (I.tok _) look
  · rw [hn] at look
    cases e : valV kvs k with
    | some w => rw [e] at look; exact (show False from look).elim
    | none =>
      obtain ⟨u, es, ep, stands, a1, a2, a3, _, a4⟩ := held'
      have fits2 : (putK kvs k v).length ≤ sizeLine := by have := length_putK kvs k v; omega
      have pairs' : Paired (fun (p : List Key × V) (c : List Key × Addr × Value) => p.1 = c.1 ∧ (upd H a (.dT (putK kvs k v))) c.2.1 = some (.tup (p.1.map kV)) ∧ RelV p.2 c.2.2) (putK kvs k v) (storedH cells k q r) :=
        KT.keeps (KT.put pairs k tup rv) fun c ys ec => by rw [upd_ne (ne_of ec at1 (fun z => nomatch z))]; exact ec
      exact new e _ _ (d_write I (by rw [at1]; exact True.intro) but ⟨u, stands⟩ ⟨fits2, apart, _, pairs', u, es, ep, stands, a1, a2, a3, a4⟩) rv
theorem pe_setdT {X : Cx} {o e f : Expr} {td ty tx : TE} {apos cpos : Pos} (small : X.A.units + 1 < cLine) (ho : PE X o td) (he : PE X e ty) (hf : PE X f tx) (m : M2 X o "setdefault" apos e f cpos) : PE X (.Call (.Attribute o "setdefault" apos) [e, f] [] cpos) (tSetdT td ty tx) := by
  refine ⟨fun pins s σ H Q I h => wpAny_Call_method m.base m.few m.line PySem.F.plainAttrs_dict PySem.F.slot_dict_setdefault PySem.F.type_dict_setdefault (thn (ho.run pins s σ H _ I h) fun u s1 got => ?_)⟩
  obtain ⟨_, H1, I1, rx, a, rfl, isd, q1⟩ := got
  obtain rfl : u = Value.ref a := rx
  refine ⟨(isD_at I1 isd).1, (isD_at I1 isd).2.1, ?_⟩
  rw [m.trees]
  refine Calls.callWith_builtin rfl (Calls.evalArgs_plain (Calls.spliced_cons (thn (he.run pins s1 σ H1 _ I1 q1) fun key s2 ⟨y, H2, I2, ry, q2⟩ => Calls.spliced_cons (thn (hf.run pins s2 σ H2 _ I2 q2) fun dflt s3 last => Calls.spliced_nil ?_))))
  obtain ⟨z, H3, I3, rz, kvs, k, q, at3, rfl, tup, few, old, new⟩ := last
  cases (show key = Value.ref q from ry)
  exact setdefaultT small I3 at3 tup rz few (fun w hw u s4 I4 ru => ⟨w, _, I4, ru, old w hw⟩) fun hn u s4 I4 ru => ⟨z, _, I4, ru, new hn⟩
/-! ### small rules -/
theorem inD_of {k : Nat} {A : Around} (r : Room k A) : A.units + 65 < cLine := by have := r.un; omega
theorem pa_starK {X : Cx} {K : PySem.W.Frag} {e : Expr} {es : List Expr} {te : TE} {t : TA} {p : Pos} (hK : X.K = K) (he : PE X e te) (hr : PA X es t) (hs : starEach (.Starred e p :: es) X.env = (true, eval e X.env) :: starEach es X.env := by rfl) : PA X (.Starred e p :: es) (tStar K te t) := by
  subst hK; exact pa_star he hr hs
/-- o.m(e, ..) in a try: what is raised is wished for at the caller's slots -/
def tMethSD (C : Addr) (m : Str) (sp : Sp) (dvs : List V) (E : L2.St → XK) (ta : TE) (t : TA) : TE := fun σ H Q => ta σ H fun x H1 => ∃ a dx fs, x = .ref a ∧ H1 a = some (.ins C dx fs) ∧ fs.lookup m = none ∧ t σ H1 fun vs H2 => sp (x :: vs ++ dvs) H2 Q (E σ)
theorem pe_methSD {X : Cx} {CX : CXT} {C f : Addr} {fd : FuncData} {k : Nat} {sp : Sp} {ps : List Str} {ds : List Value} {dvs : List V} {E : L2.St → XK} {m : Str} {o e : Expr} {es : List Expr} {ta : TE} {t : TA} {pos apos : Pos} {pl : Sem Bool} (he : PE X o ta) (c : Cls X.K C) (hm : Meth X.K C m f) (F : FnOk X.prog X.w X.K X.mg X.base CX k f fd ps sp) (hr : Room k X.A)
    (hb : Binds X.K fd ps ds) (hd : L2.Vals dvs ds) (hx : ∀ σ, PassesAt CX X σ (E σ)) (ha : PA X (e :: es) t) (hst : starEach (e :: es) X.env = (false, eval e X.env) :: starEach es X.env := by rfl) (hpl : (backTo pos (starEach es X.env)).any (·.1) = false := by rfl)
    (ht : eval (.Call (.Attribute o m apos) (e :: es) [] pos) X.env = (do
      let ov ← eval o X.env
      standAt apos.atName
      let (g, first) ← holding [ov] (getMethod ov m pl)
      callWith pos g first (backTo pos (starEach (e :: es) X.env)) (backToKw pos (keywordEach [] X.env))) := by rfl) :
    PE X (.Call (.Attribute o m apos) (e :: es) [] pos) (tMethSD C m sp dvs E ta t) := by
  refine ⟨fun pins s σ H Q I h => PySem.W.methodCall_KW (pl := pl) (thn (he.run pins s σ H _ I h) fun u s1 got => ?_) ht⟩
  obtain ⟨_, H1, I1, rx, a, dx, fs, rfl, ea, l, q⟩ := got
  obtain rfl : u = Value.ref a := rx
  refine getmeth_ok I1 ea c hm l (PySem.W.callWith_K (first := [.ref a]) (h₀ := X.base) I.ok.mod.kin hm.kp (thn (ha.run pos pins s1 σ H1 _ I1 q) fun us s2 got2 => ?_) hst hpl)
  obtain ⟨vs, H2, I2, r, q2⟩ := got2
  exact ⟨I2.kIn, run_fnSD (us := .ref a :: us) (vs := .ref a :: vs) F hr hb hd (hx σ) I2 (.cons rfl r) q2⟩
end Dt
/-- a tuple of the written part -/
def SqTK (K : PySem.W.Frag) (a : Addr) (xs : List V) : Prop := ∃ (o : Obj) (its : Array Value) (n : Nat), K.lookup a = some o ∧ o.cls = .type "tuple" ∧ o.data = .seq its n ∧ its.size ≤ sizeLine ∧ L2.Vals xs its.toList
theorem SqTK.at {K : PySem.W.Frag} {a : Addr} {xs : List V} {H : Hp} (h : SqTK K a xs) : SqT K H a xs := .inr h
/-! ### loops over dicts with tuples as keys, and their copies -/
theorem Dt.pe_fldK {X : Cx} {K : PySem.W.Frag} {e : Expr} {f : Str} {ta : TE} {pos : Pos} (hK : X.K = K) (he : PE X e ta) (hb : attributeBase e f X.env (eval e X.env) = eval e X.env) : PE X (.Attribute e f pos) (tFld K ta f) := by subst hK; exact pe_fld he hb
section
variable {d : Addr} {o : Obj} {kvs : Dt.Tb}
theorem walk_valsT : Walk (Dt.Vals d o kvs) kvs.length (fun H => H d = some (.frz o (.dT kvs))) (fun i H x H' => H' = H ∧ ∃ k, kvs[i]? = some (k, x)) :=
  ⟨fun _ _ more q => ⟨q, more⟩, fun _ q => ⟨q, Nat.le_refl _⟩, fun _ _ _ _ _ _ y => y⟩
theorem walk_itemsT : Walk (Dt.Items d o kvs) kvs.length (fun H => H d = some (.frz o (.dT kvs)))
    (fun i H x H' => ∃ (T q : Addr) (k : List Key) (v : V), kvs[i]? = some (k, v) ∧ H q = some (.tup (k.map kV)) ∧ x = .ref T ∧ H T = none ∧ H' = upd H T (.tup [.ref q, v])) :=
  ⟨fun _ _ more q => ⟨q, more⟩, fun _ q => ⟨q, Nat.le_refl _⟩, fun _ _ _ _ _ _ y => y⟩
end
theorem upd_back {H : Hp} {d : Addr} {o f : HO} (h : H d = some o) : upd (upd H d f) d o = H := by
  funext b
  by_cases c : b = d
  · subst c; rw [upd_same, h]
  · rw [upd_ne c, upd_ne c]
section
variable {K : PySem.W.Frag} {σ : L2.St} {H : Hp} {Q : VK} {te tk tv td : TE} {tt : TT} {G : TG} {vs : List Nat} {ts : TS} {D : L2.Ends} {d : Addr} {kvs : Dt.Tb}
/-- for k in d -/
theorem forKT_go (hd : H d = some (.dT kvs)) (up : ∀ od (Q' : VK), Q' (.ref d) (upd H d (.frz od (.dT kvs))) → td σ (upd H d (.frz od (.dT kvs))) Q') (Pv : Obj → Nat → L2.St → Hp → Prop) (h0 : ∀ od, Pv od 0 σ (upd H d (.frz od (.dT kvs)))) (hG : ∀ od i σ' H', Pv od i σ' H' → H' d = some (.frz od (.dT kvs)))
    (hs : ∀ od (i : Nat) k v q σ' H', kvs[i]? = some (k, v) → H' q = some (.tup (k.map kV)) → Pv od i σ' H' → G (.ref q) σ' H' fun σ2 H2 => ts ⟨Pv od (i + 1), fun v H' => H' d = some (.frz od (.dT kvs)) ∧ D.rt v (upd H' d (.dT kvs)), fun σ' H' => H' d = some (.frz od (.dT kvs)) ∧ D.nx σ' (upd H' d (.dT kvs)), Pv od (i + 1)⟩ σ2 H2)
    (he : ∀ od σ' H', Pv od kvs.length σ' H' → D.nx σ' (upd H' d (.dT kvs))) : tLock (tFor (iKeys td) G ts) D σ H := by
  refine ⟨d, .dT kvs, hd, trivial, fun od => up od _ ⟨d, od, rfl, .inr ⟨kvs, upd_same, ?_⟩⟩⟩
  refine for_it walk_keysT (fun i σ' H' => Pv od i σ' H') (h0 od) (fun i σ' H' _ p => hG od i σ' H' p) ?_ fun σ' H' p => ⟨hG _ _ _ _ p, he od σ' H' p⟩
  rintro i x σ' H1 H' hi p ⟨rfl, k, v, q, at1, rfl, tup⟩
  exact hs od i k v q σ' H' at1 tup p
/-- for v in d.values() -/
theorem forVT_go (hd : H d = some (.dT kvs)) (up : ∀ od (Q' : VK), Q' (.ref d) (upd H d (.frz od (.dT kvs))) → td σ (upd H d (.frz od (.dT kvs))) Q') (Pv : Obj → Nat → L2.St → Hp → Prop) (h0 : ∀ od, Pv od 0 σ (upd H d (.frz od (.dT kvs)))) (hG : ∀ od i σ' H', Pv od i σ' H' → H' d = some (.frz od (.dT kvs)))
    (hs : ∀ od (i : Nat) k v σ' H', kvs[i]? = some (k, v) → Pv od i σ' H' → G v σ' H' fun σ2 H2 => ts ⟨Pv od (i + 1), fun v H' => H' d = some (.frz od (.dT kvs)) ∧ D.rt v (upd H' d (.dT kvs)), fun σ' H' => H' d = some (.frz od (.dT kvs)) ∧ D.nx σ' (upd H' d (.dT kvs)), Pv od (i + 1)⟩ σ2 H2)
    (he : ∀ od σ' H', Pv od kvs.length σ' H' → D.nx σ' (upd H' d (.dT kvs))) : tLock (tFor (Dt.iValsT td) G ts) D σ H := by
  refine ⟨d, .dT kvs, hd, trivial, fun od => up od _ ⟨d, od, kvs, rfl, upd_same, ?_⟩⟩
  refine for_it walk_valsT (fun i σ' H' => Pv od i σ' H') (h0 od) (fun i σ' H' _ p => hG od i σ' H' p) ?_ fun σ' H' p => ⟨hG _ _ _ _ p, he od σ' H' p⟩
  rintro i x σ' H1 H' hi p ⟨rfl, k, at1⟩
  exact hs od i k x σ' H' at1 p
/-- [.. for k in d if ..], d locked -/
theorem lcKT_go {od : Obj} (hd : H d = some (.frz od (.dT kvs))) (up : ∀ (Q' : VK), Q' (.ref d) H → td σ H Q') (Pv : Addr → Nat → List V → Hp → Prop) (h0 : ∀ D, H D = none → Pv D 0 [] (upd H D (.lst []))) (hG : ∀ D i acc H', H D = none → Pv D i acc H' → H' d = some (.frz od (.dT kvs)))
    (hs : ∀ D (i : Nat) k v q acc H', kvs[i]? = some (k, v) → H' q = some (.tup (k.map kV)) → H D = none → H' D = some (.lst acc) → Pv D i acc H' → G (.ref q) (wipe σ vs) H' fun σ2 H2 => wipe σ2 vs = wipe σ vs ∧ tt σ2 H2 fun b H3 =>
      if b = true then te σ2 H3 fun y H4 => ∃ acc, H4 D = some (.lst acc) ∧ acc.length < sizeLine ∧ (∃ ac, (upd H4 D (.lst (acc ++ [y]))) D = some (.lst ac) ∧ Pv D (i + 1) ac (upd H4 D (.lst (acc ++ [y])))) else ∃ ac, H3 D = some (.lst ac) ∧ Pv D (i + 1) ac H3)
    (he : ∀ D acc H', H D = none → H' D = some (.lst acc) → Pv D kvs.length acc H' → Q (.ref D) H') : tLc (iKeys td) G tt te vs σ H Q := by
  refine up _ ⟨d, od, rfl, .inr ⟨kvs, hd, fun D hD => ?_⟩⟩
  refine lc_it walk_keysT (fun i H' => ∃ acc, H' D = some (.lst acc) ∧ Pv D i acc H') ⟨[], upd_same, h0 D hD⟩ (fun i H' _ ⟨acc, _, p⟩ => hG D i acc H' hD p) ?_ fun H' ⟨acc, ha, p⟩ => he D acc H' hD ha p
  rintro i x H1 H' hi ⟨acc, ha, p⟩ ⟨rfl, k, v, q, at1, rfl, tup⟩
  exact hs D i k v q acc H' at1 tup hD ha p
theorem dcT_it {J : It} {n : Nat} {Go : Hp → Prop} {Y : Nat → Hp → V → Hp → Prop} (w : Walk J n Go Y) {H1 : Hp} {D : Addr} {Qd : Hp → Prop} (Pv : Nat → Hp → Prop) (h0 : Pv 0 (upd H1 D (.dT []))) (hG : ∀ i H, i ≤ n → Pv i H → Go H)
    (hs : ∀ i x H H', i < n → Pv i H → Y i H x H' → G x (wipe σ vs) H' fun σ2 H2 => wipe σ2 vs = wipe σ vs ∧ tt σ2 H2 fun b H3 =>
      if b = true then tk σ2 H3 fun y H4 => tv σ2 H4 fun z H5 => ∃ (kvs : Dt.Tb) (k : List Key) (q : Addr), y = .ref q ∧ H5 q = some (.tup (k.map kV)) ∧ H5 D = some (.dT kvs) ∧ kvs.length < sizeLine ∧ Pv (i + 1) (upd H5 D (.dT (putK kvs k z))) else Pv (i + 1) H3) (hd : ∀ H, Pv n H → Qd H) :
    ∃ W : Nat → Nat → Hp → Prop, (∃ m, W 0 m (upd H1 D (.dT []))) ∧ ∀ i m H, W i m H →
      (J.stop i H ∧ Qd H) ∨ (J.go i H ∧ ∃ Nx : Hp → Prop, (∀ H', Nx H' → ∃ m', m' < m ∧ W (i + 1) m' H') ∧ ∀ x H', J.yld i H x H' → G x (wipe σ vs) H' fun σ2 H2 => wipe σ2 vs = wipe σ vs ∧ tt σ2 H2 fun b H3 =>
        if b = true then tk σ2 H3 fun y H4 => tv σ2 H4 fun z H5 => ∃ (kvs : Dt.Tb) (k : List Key) (q : Addr), y = .ref q ∧ H5 q = some (.tup (k.map kV)) ∧ H5 D = some (.dT kvs) ∧ kvs.length < sizeLine ∧ Nx (upd H5 D (.dT (putK kvs k z))) else Nx H3) := by
  let Turn : Nat → Nat → Hp → Prop := fun i left H => left + i = n ∧ Pv i H
  refine ⟨Turn, ⟨n, rfl, h0⟩, fun i left H ⟨sum, p⟩ => ?_⟩
  have stands := hG i H (by omega) p
  rcases Nat.eq_or_lt_of_le (show i ≤ n by omega) with full | more
  · cases full
    exact .inl ⟨w.stops H stands, hd H p⟩
  · exact .inr ⟨w.goes i H more stands, Pv (i + 1), fun H' p' => ⟨left - 1, by omega, by omega, p'⟩, fun v H' y => hs i v H H' more p (w.yields i H v H' more stands y)⟩
theorem put_new {k : List Key} {v : V} (h : k ∉ kvs.map (·.1)) : putK kvs k v = kvs ++ [(k, v)] := by
  unfold putK
  rw [if_neg]
  intro e
  obtain ⟨p, hp, g⟩ := List.any_eq_true.mp e
  exact h (List.mem_map.mpr ⟨p, hp, of_decide_eq_true g⟩)
/-- {k: v for k, v in d.items()}: a copy -/
theorem r_copyT {i j : Nat} (hd : H d = some (.dT kvs)) (nd : (kvs.map (·.1)).Nodup) (few : kvs.length ≤ 100000) (up : ∀ od (Q' : VK), Q' (.ref d) (upd H d (.frz od (.dT kvs))) → td σ (upd H d (.frz od (.dT kvs))) Q')
    (hw : ∀ x y, wipe (((wipe σ vs).set i (some x)).set j (some y)) vs = wipe σ vs) (hi : ∀ x y : V, (((wipe σ vs).set i (some x)).set j (some y))[i]? = some (some x)) (hj : ∀ x y : V, (((wipe σ vs).set i (some x)).set j (some y))[j]? = some (some y))
    (q : ∀ D H', Keep [] H H' → H D = none → H' D = some (.dT kvs) → Q (.ref D) H') : tLockE (Dt.tDcT (Dt.iItemsT td) (gTup K 2 (gCons (gName i) (gCons (gName j) gNil))) tYes (tVar i) (tVar j) vs) σ H Q := by
  refine ⟨d, .dT kvs, hd, trivial, fun od => up od _ ⟨d, od, kvs, rfl, upd_same, fun D hD => ?_⟩⟩
  have dne : D ≠ d := by rintro rfl; rw [upd_same] at hD; cases hD
  have hD0 : H D = none := by rw [upd_ne dne] at hD; exact hD
  refine dcT_it walk_itemsT (fun n H' => H' D = some (.dT (kvs.take n)) ∧ H' d = some (.frz od (.dT kvs)) ∧ Keep [] (upd H d (.frz od (.dT kvs))) H') ⟨by rw [upd_same]; simp, by rw [upd_ne (Ne.symm dne)]; exact upd_same, Keep.new hD⟩ (fun n H' _ p => p.2.1) ?_ ?_
  · rintro n x H1 H' more ⟨atD, atd, kp⟩ ⟨T, a, k, v, at1, tup, rfl, hT, rfl⟩
    have kT : Keep [] H1 (upd H1 T (.tup [.ref a, v])) := Keep.new hT
    refine r_gTup2 (sqT_of upd_same) ⟨hw _ _, ?_⟩
    refine r_yes (iteT ?_)
    refine r_var (hi _ _) (r_var (hj _ _) ?_)
    have atD' := kT _ _ (by simp) atD
    have atd' := kT _ _ (by simp) atd
    refine ⟨kvs.take n, k, a, rfl, kT _ _ (by simp) tup, atD', lt_size (by rw [List.length_take]; omega), ?_, by rw [upd_ne (Ne.symm dne)]; exact atd', (kp.trans kT).mut hD⟩
    have fresh : k ∉ (kvs.take n).map (·.1) := fun h => by
      obtain ⟨p, hp, e⟩ := List.mem_map.mp h
      obtain ⟨z, hz⟩ := List.getElem?_of_mem hp
      rw [List.getElem?_take] at hz
      split at hz
      · rename_i lt
        have h1 : (kvs.map (·.1))[z]? = some k := by rw [List.getElem?_map, hz]; exact congrArg some e
        have h2 : (kvs.map (·.1))[n]? = some k := by rw [List.getElem?_map, at1]; rfl
        have := (List.getElem?_inj (List.getElem?_eq_some_iff.mp h1).1 nd).mp (h1.trans h2.symm)
        omega
      · cases hz
    rw [upd_same, put_new fresh, List.take_add_one, at1]; rfl
  · rintro H' ⟨atD, atd, kp⟩
    rw [List.take_length] at atD
    exact ⟨atd, q D _ (Keep.unlock hd kp) hD0 (by rw [upd_ne dne]; exact atD)⟩
end
namespace Dt
open PySem PySem.Spec PyProof.Rows PyProof.V L2 StX
/-! ### == of two dicts with the same keys, tuples, in the same order, and the same values -/
section
variable {prog : Program} {w : World} {Ky : Type} [DecidableEq Ky] {knd : HeapKind prog w Ky} {A : Around} {E : Value → Shared → Prop} {s : Shared}
theorem same_pairsT {nm : String} {a b : Addr} {xa xb : List (Ky × Addr × Value)} {Q : Bool → Shared → Prop} (ha : (a == sysModules) = false) (hb : (b == sysModules) = false) (hu : knd.room A) (da : s.heap.DictOfH knd a xa) (db : s.heap.DictOfH knd b xb)
    (len : xa.length = xb.length) (al : ∀ (i : Nat) x, xa[i]? = some x → ∃ y, xb[i]? = some y ∧ y.1 = x.1 ∧ SeqAt.EqAt A s x.2.2 y.2.2 true) (q : Q true s) : wpAny (model prog w) A (Builtin.Dict.samePairs nm a b) Q E s := by
  obtain ⟨oa, es, ep, hoa, _, hda, hes, hia, _⟩ := da
  obtain ⟨ob, fs, fp, hob, _, hdb, hfs, hib, hnb⟩ := db
  have sa := size_of_entries hes
  have sb := size_of_entries hfs
  unfold Builtin.Dict.samePairs Builtin.Dict.showsAll
  rw [if_neg (show ¬ (a == sysModules) = true by rw [ha]; exact Bool.false_ne_true), if_neg (show ¬ (b == sysModules) = true by rw [hb]; exact Bool.false_ne_true)]
  refine wpAny_bind (wpAny_pure (wpAny_bind (wpAny_pure (wpAny_bind (wpAny_dictEntries hoa hda ?_)))))
  dsimp only
  refine wpAny_bind (wpAny_dictEntries hob hdb ?_)
  have hsz : es.size = fs.size := by omega
  rw [if_neg (by rw [hsz]; simp)]
  refine wpAny_bind (wpAny_dictEpoch hoa hda (wpAny_bind ?_))
  rw [Std.Legacy.Range.forIn_eq_forIn_range']
  simp only [Std.Legacy.Range.size, Nat.sub_zero, Nat.add_sub_cancel, Nat.div_one]
  refine wpAny_forIn_list _ (fun rest r s' => s' = s ∧ r = (none, ()) ∧ ∃ i, rest = List.range' i (es.size - i) ∧ i ≤ es.size) _ ?_ ?_ _ _ ⟨rfl, rfl, 0, by simp, Nat.zero_le _⟩
  · rintro x rest r s' ⟨rfl, rfl, i, hr, hi⟩
    have lt : i < es.size := by
      rcases Nat.lt_or_ge i es.size with h | h
      · exact h
      · rw [Nat.sub_eq_zero_of_le h] at hr; simp at hr
    rw [show es.size - i = (es.size - (i + 1)) + 1 by omega, List.range'_succ] at hr
    injection hr with h1 h2
    subst h1
    obtain ⟨e, he⟩ : ∃ e, xa[x]? = some e := ⟨_, List.getElem?_eq_getElem (by omega)⟩
    obtain ⟨f, hf, ek, ev⟩ := al x e he
    have ge : es[x]? = some (entryOfKey knd e) := by rw [entry_at hes, he]; rfl
    have gf : fs[x]? = some (entryOfKey knd f) := by rw [entry_at hfs, hf]; rfl
    refine wpAny_bind (wpAny_dictEntries hoa hda ?_)
    rw [ge]
    refine wpAny_bind (wpAny_holding (wpAny_bind (wpAny_dictFind_heap hu (hia _ (List.mem_of_getElem? he)) hob hdb hfs hib hnb (fun no => ?_) fun j p hj => ?_)))
    · exact absurd (show xb[x]? = some (e.1, f.2) by rw [hf, ← ek]) (no x _)
    · obtain rfl : j = x := idxH_unique hnb hj (show xb[x]? = some (e.1, f.2) by rw [hf, ← ek])
      refine wpAny_bind (wpAny_dictEntries hob hdb ?_)
      rw [gf]
      refine wpAny_holding (ev _ _ _ _ ?_)
      show wpAny _ _ (if (!true) = true then _ else _) _ _ _
      rw [if_neg (by decide)]
      refine wpAny_bind (wpAny_dictEpoch hoa hda ?_)
      rw [if_neg (by simp)]
      exact wpAny_pure ⟨rfl, rfl, j + 1, h2, lt⟩
  · rintro r s' ⟨rfl, rfl, _⟩
    exact wpAny_pure q
end
theorem kt_both {H : Hp} {kvs : List (List Key × V)} {xa xb : List (List Key × Addr × Value)} (ra : KT H kvs xa) (rb : KT H kvs xb) : xa.length = xb.length ∧
    ∀ (i : Nat) x, xa[i]? = some x → ∃ y p, xb[i]? = some y ∧ y.1 = x.1 ∧ p ∈ kvs ∧ RelV p.2 x.2.2 ∧ RelV p.2 y.2.2 := by
  induction ra generalizing xb with
  | nil =>
    cases rb
    exact ⟨rfl, fun i x h => by simp at h⟩
  | @cons p q ps qs h t ih =>
    cases rb with
    | @cons _ q2 _ qs2 h2 t2 =>
      obtain ⟨l, g⟩ := ih t2
      refine ⟨by rw [List.length_cons, List.length_cons, l], fun i x hx => ?_⟩
      cases i with
      | zero =>
        have e : q = x := by simpa using hx
        subst e
        exact ⟨q2, p, by simp, h2.1.symm.trans h.1, List.mem_cons_self, h.2.2, h2.2.2⟩
      | succ i =>
        obtain ⟨y, p2, a, b, c, d, e⟩ := g i x (by simpa using hx)
        exact ⟨y, p2, by simpa using a, b, List.mem_cons_of_mem _ c, d, e⟩
def rEqSameT : R2 := fun x y H Q => ∃ a b kvs, x = .ref a ∧ y = .ref b ∧ H a = some (.dT kvs) ∧ H b = some (.dT kvs) ∧ (∀ p ∈ kvs, SameV p.2) ∧ Q (.bl true) H
theorem op_eqSameT {X : Cx} (small : X.A.units + 1 < cLine) : OpR X (compareOp .Eq) rEqSameT := by
  rintro pins s σ H x y v u Q I rx ry ⟨a, b, kvs, rfl, rfl, ea, eb, same, q⟩
  cases (show v = Value.ref a from rx)
  cases (show u = Value.ref b from ry)
  obtain ⟨_, na, xa, ra, da⟩ := dt_of I.hok ea
  obtain ⟨_, nb, xb, rb, db⟩ := dt_of I.hok eb
  obtain ⟨len, al⟩ := kt_both ra rb
  refine wpAny_richCompare_same_room (op := .Eq) da.typeIs db.typeIs PySem.F.slot_dict_eq (wpAny_call_entry PySem.F.slot_dict_eq da.typeIs PySem.F.entry_dict_eq ?_ (PySem.F.args_dict_eq_2 _ _)) (by omega)
  show wpAny _ _ (Builtin.Dict.dictSlotArgs "__eq__" ⟨[.ref a, .ref b], []⟩ >>= _) _ _ s
  refine wpAny_bind ?_
  unfold Builtin.Dict.dictSlotArgs
  refine wpAny_bind (wpAny_notOrdered_dict da.typeIs ?_)
  show wpAny _ _ (pure (Value.ref a, Value.ref b)) _ _ s
  refine wpAny_pure (wpAny_bind (wpAny_isInstance (T := "dict") db.typeIs PySem.F.sub_dict_dict ?_))
  simp only [Bool.not_true, Bool.false_eq_true, if_false]
  refine wpAny_bind (wpAny_pure (wpAny_bind (wpAny_pure (wpAny_bind (same_pairsT na nb (show X.A.in1.units < cLine from small) da db len (fun i x hx => ?_) ?_)))))
  · obtain ⟨y, p, hy, ek, hp, r1, r2⟩ := al i x hx
    exact ⟨y, hy, ek, eqAt_sameV r1 r2 (same p hp)⟩
  · refine wpAny_pure ⟨_, rfl, ?_, ?_⟩
    · exact fun x => nomatch x
    · exact ⟨.bl true, H, I, rfl, q⟩
end Dt
namespace Ow
open PySem PySem.Spec PyProof.Rows PyProof.V L2 StX
open PySem.W PySem.Calls
/-! ### x != y where the class has its own __eq__ and object's __ne__ -/
section
variable {prog : Program} {w : World} {M : Model} {A : Around} {E : Value → Shared → Prop} {s : Shared} {K : Frag} {x y C f : Addr} {ox oy : Obj} {od od' : Option Obj}
theorem ifBound_objNe {args : List Value} {Q : Option Value → Shared → Prop} (X : K.In s.heap) (I : InstAt s.heap x ox C od) (hs : findIn K (.ref C) "__ne__" = some (some (.builtin "object.__ne__")))
    (h : wpAny M A (call (.builtin "object.__ne__") (.ref x :: args)) (fun v => Q (some v)) E s) : wpAny M A (callSpecialIfBound? (.ref x) "__ne__" args) Q E s := by
  simp only [callSpecialIfBound?, bindSpecialIfBound?]
  refine wpAny_holding (wpAny_bind (wpAny_bind (wpAny_bind (I.type.here ((looks_findIn X hs).here ?_)))))
  refine wpAny_bind (wpAny_askSetting (wpAny_ite ?_))
  have fin : wpAny M A (call (.builtin "object.__ne__") ([.ref x] ++ args) >>= fun v => pure (some v)) Q E s := wpAny_bind (wpAny_mono h (fun v s' h' => wpAny_pure h') fun _ _ h' => h')
  split
  · exact wpAny_bind (wpAny_of_eq (F.cmp_object.ne.bind _) (wpAny_pure (by exact fin)))
  · exact wpAny_tryCatch (wpAny_bind (wpAny_of_eq (F.cmp_object.ne.bind _) (wpAny_pure (by exact fin))))
theorem entry_ne {Q : Fin → Shared → Prop} (hu : A.units < cLine) (X : K.In s.heap) (I : InstAt s.heap x ox C od) (hs : findIn K (.ref C) "__eq__" = some (some (.ref f))) (hf : isFn K (.ref f) = true)
    (h : wpAny (model prog w) A (call (.ref f) [.ref x, .ref y]) (fun v s' => ∃ b, v = .bool b ∧ Q (.done (.ret (.bool (!b)))) s') E s) : wpAny (model prog w) A (Builtin.«object.__ne__» ⟨[.ref x, .ref y], []⟩) Q E s := by
  have one := ifBound_K (M := model prog w) (args := [.ref y]) (Q := fun r s' => ∃ b, r = some (.bool b) ∧ Q (.done (.ret (.bool (!b)))) s') X I hs hf (wpAny_mono h (fun v s' hv => by obtain ⟨b, rfl, q⟩ := hv; exact ⟨b, rfl, q⟩) fun _ _ e => e)
  obtain ⟨hh, g, d, t, os⟩ := s
  unfold Builtin.«object.__ne__»
  repeat (first
    | with_reducible refine wpAny_cRoomFor hu ?_
    | (refine wpAny_bind (m := callSpecialIfBound? (.ref x) (Str.ofString "__eq__") [.ref y]) (wpAny_mono one (fun r s' hr => ?_) fun _ _ e => e))
    | wp_step)
  · obtain ⟨b, rfl, q⟩ := hr
    repeat (first | exact q | exact wpAny_pure q | exact wpAny_truthy_bool q | (refine wpAny_bind (m := truthy (.bool _)) (wpAny_truthy_bool ?_)) | wp_step)
theorem call_objNe {Q : Value → Shared → Prop} (hu : A.in1.units < cLine) (X : K.In s.heap) (I : InstAt s.heap x ox C od) (hm : mroIn K C (.type "object") = some true) (hs : findIn K (.ref C) "__eq__" = some (some (.ref f))) (hf : isFn K (.ref f) = true)
    (h : wpAny (model prog w) A.in1 (call (.ref f) [.ref x, .ref y]) (fun v s' => ∃ b, v = .bool b ∧ Q (.bool (!b)) s') E s) : wpAny (model prog w) A (call (.builtin "object.__ne__") [.ref x, .ref y]) Q E s :=
  wpAny_call (codeAny_call_builtin F.cmp_object.ne.plain F.cmpEntry_ne (check_slot F.cmpKind_ne F.cmpSplit_ne (I.type.andThen (looks_mroIn X hm)) (F.cmpArgs_ne _ _) (entry_ne hu X I hs hf (wpAny_mono h (fun v s' hv => by obtain ⟨b, e, q⟩ := hv; exact ⟨b, e, q⟩) fun _ _ e => e))))
theorem rc_ownNe {Q : Value → Shared → Prop} (hu0 : A.units < cLine) (hu : A.in1.units < cLine) (X : K.In s.heap) (I : InstAt s.heap x ox C od) (J : InstAt s.heap y oy C od') (hm : mroIn K C (.type "object") = some true) (hn : findIn K (.ref C) "__ne__" = some (some (.builtin "object.__ne__"))) (hs : findIn K (.ref C) "__eq__" = some (some (.ref f))) (hf : isFn K (.ref f) = true)
    (h : wpAny (model prog w) A.in1 (call (.ref f) [.ref x, .ref y]) (fun v s' => ∃ b, v = .bool b ∧ Q (.bool (!b)) s') E s) : wpAny (model prog w) A (richCompare .NotEq (.ref x) (.ref y)) Q E s := by
  have one : wpAny (model prog w) A (tryCompare (.ref x) "__ne__" (.ref y)) (fun r s' => ∃ b : Bool, r = some (.bool b) ∧ Q (.bool b) s') E s := by
    unfold tryCompare
    refine wpAny_bind (ifBound_objNe X I hn (call_objNe hu X I hm hs hf (wpAny_mono h (fun v s' hv => ?_) fun _ _ e => e)))
    obtain ⟨b, rfl, q⟩ := hv
    exact ⟨b, rfl, wpAny_pure ⟨_, rfl, q⟩⟩
  unfold richCompare
  simp only [oneThing_ref]
  refine wpAny_holding (wpAny_bind (wpAny_cRoomFor hu0 ?_))
  refine wpAny_bind (I.type.here (wpAny_bind (J.type.here ?_)))
  rw [show (Value.ref C != Value.ref C) = false from by simp]
  simp only [Bool.false_eq_true, if_false]
  refine wpAny_bind (wpAny_pure ?_)
  simp only [Bool.false_eq_true, if_false]
  refine wpAny_bind (wpAny_mono one (fun r s' z => ?_) fun _ _ e => e)
  obtain ⟨v, rfl, hq⟩ := z
  exact wpAny_pure hq
end
section
variable {X : Cx} {CX : CXT} {k : Nat} {C f : Addr} {sp : Sp} {E : XK}
def rOwnNe (C : Addr) (sp : Sp) (E : XK) : R2 := fun x y H Q => ∃ a dx fs b dy gs, x = .ref a ∧ y = .ref b ∧ H a = some (.ins C dx fs) ∧ H b = some (.ins C dy gs) ∧ sp [x, y] H (fun v H' => ∃ c, v = .bl c ∧ Q (.bl (!c)) H') E
theorem op_ownNe (M : Meth X.K C "__eq__" f) (hn : findIn X.K (.ref C) "__ne__" = some (some (.builtin "object.__ne__"))) (hm : mroIn X.K C (.type "object") = some true) (F : FnR X.prog X.w X.K X.mg X.base CX k f sp) (hr : Room (k + 1) X.A) (hx : Passes CX X E) (hu : X.A.units < cLine) : OpR X (compareOp .NotEq) (rOwnNe C sp E) := by
  intro pins s σ H x y v u Q I rx ry h
  obtain ⟨a, dx, fs, b, dy, gs, rfl, rfl, ha, hb, q⟩ := h
  obtain rfl : v = Value.ref a := rx
  obtain rfl : u = Value.ref b := ry
  obtain ⟨ox, od, J, _⟩ := inst_of I ha
  obtain ⟨oy, od', J', _⟩ := inst_of I hb
  have hr1 : Room k X.A.in1 := Room.in1 hr
  show wpAny _ _ (richCompare .NotEq (.ref a) (.ref b)) _ _ _
  refine rc_ownNe hu hr1.units0 I.kIn J J' hm hn M.at_ M.fn (wpAny_mono (wpAny_call (SlX.run_at (us := [.ref a, .ref b]) (ws := [.ref a, .ref b]) F hr1 I.env0.in1 hx I (.cons rfl (.cons rfl .nil)) q)) (fun u' s' z => ?_) fun _ _ x => x)
  obtain ⟨z', H', I', rz, c, ec, qz⟩ := z
  subst ec
  cases (show u' = Value.bool c from rz)
  exact ⟨c, rfl, .bl (!c), H', I', rfl, qz⟩
theorem r_ownNe {C a b dx dy : Addr} {fs gs : List (Str × V)} {sp : Sp} {E : XK} {H : Hp} {Q : VK} (ha : H a = some (.ins C dx fs)) (hb : H b = some (.ins C dy gs)) (k : sp [.ref a, .ref b] H (fun v H' => ∃ c, v = .bl c ∧ Q (.bl (!c)) H') E) : rOwnNe C sp E (.ref a) (.ref b) H Q := ⟨a, dx, fs, b, dy, gs, rfl, rfl, ha, hb, k⟩
end
end Ow
namespace Dt
open PySem PySem.Spec PyProof.Rows PyProof.V L2 StX
/-! ### d.clear(), the keys tuples -/
def rClearT : V → List V → Hp → VK → Prop := fun x vs H Q => ∃ (a : Addr) (kvs : Tb), x = .ref a ∧ vs = [] ∧ H a = some (.dT kvs) ∧ Q .non (upd H a (.dT []))
theorem mtd_clearT {X : Cx} : MtR X "dict.clear" rClearT := by
  intro pins s σ H x vs v us Q I rx rv h
  obtain ⟨a, kvs, ex, ev, e, q⟩ := h
  subst ex
  subst ev
  obtain rfl : v = Value.ref a := rx
  have hus := rv.zero
  subst hus
  obtain ⟨small, apart, cells, pairs, u, es, ep, stands, cls, data, list, _⟩ := dt_of I.hok e
  have len : es.size = cells.length := size_of_entries list
  have len2 : kvs.length = cells.length := Paired.length pairs
  have raw : s.heap.DictRaw a es ep := ⟨u, stands, cls, data⟩
  refine call_meetsIn PySem.F.slot_dict_clear raw.typeIs PySem.F.entry_dict_clear (PySem.F.args_dict_clear_1 _) (PySem.meets_dict_clear_raw a) ⟨es, ep, raw, by omega, fun h' dd' hs => ?_⟩
  obtain ⟨o', ho', hc', hd'⟩ := dd'
  refine ⟨.non, _, d_write (t' := s.toks) I (by rw [e]; exact True.intro) hs ⟨o', ho'⟩ ?_, rfl, q⟩
  exact ⟨Nat.zero_le _, apart, [], .nil, o', #[], ep + 1, ho', hc', hd', rfl, List.Pairwise.nil⟩
section
variable {X : Cx} {o : Expr} {to : TE} {apos cpos : Pos}
theorem pe_dclearT (ho : PE X o to) (hbase : attributeBase o "clear" X.env (eval o X.env) = eval o X.env := by rfl) (hline : (apos.endLine == cpos.line) = true := by rfl) : PE X (.Call (.Attribute o "clear" apos) [] [] cpos) (tBM0 X.K "dict" rClearT to) :=
  pe_bm0 PySem.F.plainAttrs_dict PySem.F.slot_dict_clear PySem.F.type_dict_clear mtd_clearT ho hbase hline
end
/-! ### == of two dicts with the same keys in the same order, the values flat -/
section
variable {prog : Program} {w : World} {Ky : Type} [DecidableEq Ky] {knd : HeapKind prog w Ky} {A : Around} {E : Value → Shared → Prop} {s : Shared}
theorem pairsT {nm : String} {a b : Addr} {xa xb : List (Ky × Addr × Value)} {P : Nat → Bool} {Q : Bool → Shared → Prop} (ha : (a == sysModules) = false) (hb : (b == sysModules) = false) (hu : knd.room A) (da : s.heap.DictOfH knd a xa) (db : s.heap.DictOfH knd b xb)
    (len : xa.length = xb.length) (al : ∀ (i : Nat) x, xa[i]? = some x → ∃ y, xb[i]? = some y ∧ y.1 = x.1 ∧ SeqAt.EqAt A s x.2.2 y.2.2 (P i)) (q : (∀ i, i < xa.length → P i = true) → Q true s) (n : ∀ i, i < xa.length → P i = false → Q false s) : wpAny (model prog w) A (Builtin.Dict.samePairs nm a b) Q E s := by
  obtain ⟨oa, es, ep, hoa, _, hda, hes, hia, _⟩ := da
  obtain ⟨ob, fs, fp, hob, _, hdb, hfs, hib, hnb⟩ := db
  have sa := size_of_entries hes
  have sb := size_of_entries hfs
  unfold Builtin.Dict.samePairs Builtin.Dict.showsAll
  rw [if_neg (show ¬ (a == sysModules) = true by rw [ha]; exact Bool.false_ne_true), if_neg (show ¬ (b == sysModules) = true by rw [hb]; exact Bool.false_ne_true)]
  refine wpAny_bind (wpAny_pure (wpAny_bind (wpAny_pure (wpAny_bind (wpAny_dictEntries hoa hda ?_)))))
  dsimp only
  refine wpAny_bind (wpAny_dictEntries hob hdb ?_)
  have hsz : es.size = fs.size := by omega
  rw [if_neg (by rw [hsz]; simp)]
  refine wpAny_bind (wpAny_dictEpoch hoa hda (wpAny_bind ?_))
  rw [Std.Legacy.Range.forIn_eq_forIn_range']
  simp only [Std.Legacy.Range.size, Nat.sub_zero, Nat.add_sub_cancel, Nat.div_one]
  refine wpAny_forIn_list _ (fun rest r s' => s' = s ∧ r = (none, ()) ∧ ∃ i, rest = List.range' i (es.size - i) ∧ i ≤ es.size ∧ ∀ j, j < i → P j = true) _ ?_ ?_ _ _ ⟨rfl, rfl, 0, by simp, Nat.zero_le _, by simp⟩
  · rintro x rest r s' ⟨rfl, rfl, i, hr, hi, ok⟩
    have lt : i < es.size := by
      rcases Nat.lt_or_ge i es.size with h | h
      · exact h
      · rw [Nat.sub_eq_zero_of_le h] at hr; simp at hr
    rw [show es.size - i = (es.size - (i + 1)) + 1 by omega, List.range'_succ] at hr
    injection hr with h1 h2
    subst h1
    obtain ⟨e, he⟩ : ∃ e, xa[x]? = some e := ⟨_, List.getElem?_eq_getElem (by omega)⟩
    obtain ⟨f, hf, ek, ev⟩ := al x e he
    have ge : es[x]? = some (entryOfKey knd e) := by rw [entry_at hes, he]; rfl
    have gf : fs[x]? = some (entryOfKey knd f) := by rw [entry_at hfs, hf]; rfl
    refine wpAny_bind (wpAny_dictEntries hoa hda ?_)
    rw [ge]
    refine wpAny_bind (wpAny_holding (wpAny_bind (wpAny_dictFind_heap hu (hia _ (List.mem_of_getElem? he)) hob hdb hfs hib hnb (fun no => ?_) fun j p hj => ?_)))
    · exact absurd (show xb[x]? = some (e.1, f.2) by rw [hf, ← ek]) (no x _)
    · obtain rfl : j = x := idxH_unique hnb hj (show xb[x]? = some (e.1, f.2) by rw [hf, ← ek])
      refine wpAny_bind (wpAny_dictEntries hob hdb ?_)
      rw [gf]
      refine wpAny_holding (ev _ _ _ _ ?_)
      cases hp : P j with
      | false =>
        show wpAny _ _ (if (!false) = true then _ else _) _ _ _
        rw [if_pos (by decide)]
        exact wpAny_pure (wpAny_pure (n j (by omega) hp))
      | true =>
        show wpAny _ _ (if (!true) = true then _ else _) _ _ _
        rw [if_neg (by decide)]
        refine wpAny_bind (wpAny_dictEpoch hoa hda ?_)
        rw [if_neg (by simp)]
        refine wpAny_pure ⟨rfl, rfl, j + 1, h2, lt, fun i hi => ?_⟩
        rcases Nat.lt_or_ge i j with h | h
        · exact ok i h
        · obtain rfl : i = j := by omega
          exact hp
  · rintro r s' ⟨rfl, rfl, i, hr, hi, ok⟩
    refine wpAny_pure (q fun j hj => ok j ?_)
    rcases Nat.lt_or_ge i es.size with h | h
    · rw [show es.size - i = (es.size - (i + 1)) + 1 by omega, List.range'_succ] at hr; cases hr
    · omega
end
/-- keys alike, values flat -/
def rEqFlatT : R2 := fun x y H Q => ∃ (a b : Addr) (kvs lvs : Tb), x = .ref a ∧ y = .ref b ∧ H a = some (.dT kvs) ∧ H b = some (.dT lvs) ∧ kvs.map (·.1) = lvs.map (·.1) ∧ (∀ p ∈ kvs, L2.flatV p.2 = true) ∧ (∀ p ∈ lvs, L2.flatV p.2 = true) ∧
  ((∀ i : Nat, ∀ p q, kvs[i]? = some p → lvs[i]? = some q → L2.eqV p.2 q.2 = true) → Q (.bl true) H) ∧ (∀ i : Nat, ∀ p q, kvs[i]? = some p → lvs[i]? = some q → L2.eqV p.2 q.2 = false → Q (.bl false) H)
theorem kt_at {H : Hp} : ∀ {kvs : Tb} {xa : List (List Key × Addr × Value)}, KT H kvs xa → kvs.length = xa.length ∧ ∀ (i : Nat) x, xa[i]? = some x → ∃ p, kvs[i]? = some p ∧ p.1 = x.1 ∧ RelV p.2 x.2.2
  | _, _, .nil => ⟨rfl, fun i x h => by simp at h⟩
  | _, _, .cons (a := p) (b := q) h t => by
    obtain ⟨l, g⟩ := kt_at t
    refine ⟨by rw [List.length_cons, List.length_cons, l], fun i x hx => ?_⟩
    cases i with
    | zero =>
      have e : q = x := by simpa using hx
      subst e
      exact ⟨p, by simp, h.1, h.2.2⟩
    | succ i => simpa using g i x (by simpa using hx)
theorem op_eqFlatT {X : Cx} (small : X.A.units + 1 < cLine) : OpR X (compareOp .Eq) rEqFlatT := by
  rintro pins s σ H x y v u Q I rx ry ⟨a, b, kvs, lvs, rfl, rfl, ea, eb, keys, fa, fb, q, n⟩
  cases (show v = Value.ref a from rx)
  cases (show u = Value.ref b from ry)
  obtain ⟨_, na, xa, ra, da⟩ := dt_of I.hok ea
  obtain ⟨_, nb, xb, rb, db⟩ := dt_of I.hok eb
  obtain ⟨la, ga⟩ := kt_at ra
  obtain ⟨lb, gb⟩ := kt_at rb
  have lk : kvs.length = lvs.length := by have := congrArg List.length keys; rwa [List.length_map, List.length_map] at this
  let P : Nat → Bool := fun i => match kvs[i]?, lvs[i]? with
    | some p, some q => L2.eqV p.2 q.2
    | _, _ => true
  refine wpAny_richCompare_same_room (op := .Eq) da.typeIs db.typeIs PySem.F.slot_dict_eq (wpAny_call_entry PySem.F.slot_dict_eq da.typeIs PySem.F.entry_dict_eq ?_ (PySem.F.args_dict_eq_2 _ _)) (by omega)
  show wpAny _ _ (Builtin.Dict.dictSlotArgs "__eq__" ⟨[.ref a, .ref b], []⟩ >>= _) _ _ s
  refine wpAny_bind ?_
  unfold Builtin.Dict.dictSlotArgs
  refine wpAny_bind (wpAny_notOrdered_dict da.typeIs ?_)
  show wpAny _ _ (pure (Value.ref a, Value.ref b)) _ _ s
  refine wpAny_pure (wpAny_bind (wpAny_isInstance (T := "dict") db.typeIs PySem.F.sub_dict_dict ?_))
  simp only [Bool.not_true, Bool.false_eq_true, if_false]
  refine wpAny_bind (wpAny_pure (wpAny_bind (wpAny_pure (wpAny_bind (pairsT (P := P) na nb (show X.A.in1.units < cLine from small) da db (by omega) (fun i x hx => ?_) (fun all => ?_) fun i hi hp => ?_)))))
  · obtain ⟨p, hp, ek, rp⟩ := ga i x hx
    have lt : i < xb.length := by have := (List.getElem?_eq_some_iff.mp hx).1; omega
    obtain ⟨y, hy⟩ : ∃ y, xb[i]? = some y := ⟨_, List.getElem?_eq_getElem lt⟩
    obtain ⟨r, hr, er, rr⟩ := gb i y hy
    have kk : p.1 = r.1 := by
      have h1 : (kvs.map (·.1))[i]? = some p.1 := by rw [List.getElem?_map, hp]; rfl
      have h2 : (lvs.map (·.1))[i]? = some r.1 := by rw [List.getElem?_map, hr]; rfl
      rw [keys, h2] at h1
      exact (Option.some.inj h1).symm
    refine ⟨y, hy, er.symm.trans (kk.symm.trans ek), ?_⟩
    have : P i = L2.eqV p.2 r.2 := by show (match kvs[i]?, lvs[i]? with | some p, some q => L2.eqV p.2 q.2 | _, _ => true) = _; rw [hp, hr]
    rw [this]
    exact eqAt_V rp rr (fa p (List.mem_of_getElem? hp)) (fb r (List.mem_of_getElem? hr))
  · refine wpAny_pure ⟨_, rfl, (fun x => nomatch x), ⟨.bl true, H, I, rfl, q fun i p r hp hr => ?_⟩⟩
    have := all i (by have := (List.getElem?_eq_some_iff.mp hp).1; omega)
    have e : P i = L2.eqV p.2 r.2 := by show (match kvs[i]?, lvs[i]? with | some p, some q => L2.eqV p.2 q.2 | _, _ => true) = _; rw [hp, hr]
    rw [← e]; exact this
  · obtain ⟨p, hp0⟩ : ∃ p, kvs[i]? = some p := ⟨_, List.getElem?_eq_getElem (by omega)⟩
    obtain ⟨r, hr0⟩ : ∃ r, lvs[i]? = some r := ⟨_, List.getElem?_eq_getElem (by omega)⟩
    have e : P i = L2.eqV p.2 r.2 := by show (match kvs[i]?, lvs[i]? with | some p, some q => L2.eqV p.2 q.2 | _, _ => true) = _; rw [hp0, hr0]
    exact wpAny_pure ⟨_, rfl, (fun x => nomatch x), ⟨.bl false, H, I, rfl, n i p r hp0 hr0 (by rw [← e]; exact hp)⟩⟩
end Dt
/-! sorted() of triples of two ints and a text, the pairs of ints telling the text -/
namespace So
open PySem PySem.Spec PyProof.Rows SrtO Srt L2
def IsTri (h : Heap) (v : Value) (x y : Int) (z : Str) : Prop := ∃ a o t u r n, v = .ref a ∧ h.get? a = some o ∧ o.cls = .type "tuple" ∧ o.data = .seq #[.int x t, .int y u, .str z r] n
theorem IsTri.keeps {h h' : Heap} {v : Value} {x y : Int} {z : Str} (p : IsTri h v x y z) (k : ∀ b o, h.get? b = some o → o.cls = .type "tuple" → h'.get? b = some o) : IsTri h' v x y z := by
  obtain ⟨a, o, t, u, r, n, e, ho, hc, hd⟩ := p
  exact ⟨a, o, t, u, r, n, e, k _ _ ho hc, hc, hd⟩
theorem firsts_of {h : Heap} : ∀ {vs : List Value}, (∀ v ∈ vs, ∃ x y z, IsTri h v x y z) → ∃ fs : List Value, PySem.W.KatTups h vs fs ∧ fs.length = vs.length ∧ ∀ f ∈ fs, ∃ x t, f = Value.int x t
  | [], _ => ⟨[], PySem.W.KatTups.nil, rfl, fun _ hm => by simp at hm⟩
  | v :: vs, hp => by
    obtain ⟨fs, h1, h2, h3⟩ := firsts_of (vs := vs) fun v' hm => hp v' (List.mem_cons_of_mem _ hm)
    obtain ⟨x, y, z, a, o, t, u, r, n, e, ho, hc, hd⟩ := hp v (List.mem_cons_self ..)
    subst e
    refine ⟨.int x t :: fs, PySem.W.KatTups.cons ho hc hd rfl h1, by rw [List.length_cons, List.length_cons, h2], fun f hm => ?_⟩
    rcases List.mem_cons.mp hm with rfl | hm
    · exact ⟨x, t, rfl⟩
    · exact h3 f hm
section
variable {prog : Program} {w : World} {A : Around} {E : Value → Shared → Prop} {s : Shared}
theorem tri_cmp {vs : List Value} {k : Value → Int × Int} {g : Value → Str} (hp : ∀ v ∈ vs, IsTri s.heap v (k v).1 (k v).2 (g v)) (hg : ∀ v ∈ vs, ∀ u ∈ vs, k v = k u → g v = g u) : Cmp prog w A s (tuples' true) (fun p => p.1 ∈ vs) (lt2 fun v u => lexB (k v) (k u)) := by
  intro p q hm hm'
  have h1 := hp _ hm
  have h2 := hp _ hm'
  have h3 := hg _ hm _ hm'
  show wpAny (model prog w) A (keyLt' (tuples' true) p.1 q.1) (fun r s' => s' = s ∧ r = lexB (k p.1) (k q.1)) (fun _ _ => False) s
  have h4 : (k p.1).1 = (k q.1).1 → (k p.1).2 = (k q.1).2 → g p.1 = g q.1 := fun a b => h3 (Prod.ext a b)
  unfold lexB
  clear h3
  generalize (k p.1).1 = x at h1 h4 ⊢
  generalize (k p.1).2 = y at h1 h4 ⊢
  generalize (k q.1).1 = x' at h2 h4 ⊢
  generalize (k q.1).2 = y' at h2 h4 ⊢
  generalize g p.1 = z at h1 h4
  generalize g q.1 = z' at h2 h4
  obtain ⟨a, o, t, u, r, n, e, ho, hc, hd⟩ := h1
  obtain ⟨a', o', t', u', r', n', e', ho', hc', hd'⟩ := h2
  rw [e, e']
  refine PySem.W.kat_lt ho hd ho' hd' ?_
  show PySem.W.KatLex prog w A true (decide (3 < 3)) _ [(.int x t, .int x' t'), (.int y u, .int y' u'), (.str z r, .str z' r')] 0 s
  refine PySem.W.kat_cons (SeqAt.EqAt.int_int x t x' t' prog w _ _ ?_)
  refine PySem.W.kat_go (fun e1 => ?_) (fun e1 => ?_)
  · have ex : x = x' := by simpa using e1
    refine PySem.W.kat_yes (PySem.W.kat_cons (SeqAt.EqAt.int_int y u y' u' prog w _ _ ?_))
    refine PySem.W.kat_go (fun e2 => ?_) (fun e2 => ?_)
    · have ey : y = y' := by simpa using e2
      have e3 : (if x = x' then decide (y < y') else decide (x < x')) = false := by
        rw [if_pos ex, ey]
        exact decide_eq_false (Int.lt_irrefl _)
      refine PySem.W.kat_yes (PySem.W.kat_cons (SeqAt.EqAt.str_str z r z' r' prog w _ _ ?_))
      rw [h4 ex ey, beq_self_eq_true]
      exact PySem.W.kat_yes (PySem.W.kat_nil ⟨rfl, e3.symm⟩)
    · have e3 : (if x = x' then decide (y < y') else decide (x < x')) = decide (y < y') := if_pos ex
      refine PySem.W.kat_no (PySem.W.kat_one _ _ (PyProof.Rows.lt_int ?_))
      exact (show s = s ∧ decide (y < y') = (if x = x' then decide (y < y') else decide (x < x')) from ⟨rfl, e3.symm⟩)
  · have ex : ¬ x = x' := by simpa using e1
    have e3 : (if x = x' then decide (y < y') else decide (x < x')) = decide (x < x') := if_neg ex
    exact PySem.W.kat_no (oneLt_int ⟨rfl, e3.symm⟩)
theorem tri_sortable {a : Addr} {vs : List Value} {k : Value → Int × Int} {g : Value → Str} (h0 : 0 < vs.length) (hp : ∀ v ∈ vs, IsTri s.heap v (k v).1 (k v).2 (g v)) (hg : ∀ v ∈ vs, ∀ u ∈ vs, k v = k u → g v = g u) (ha : ∀ o, s.heap.get? a = some o → o.cls ≠ .type "tuple") : SortableO prog w A s a vs fun v u => lexB (k v) (k u) := by
  intro h' keep
  have hp' : ∀ v ∈ vs, IsTri h' v (k v).1 (k v).2 (g v) := fun v hm => (hp v hm).keeps fun b o e c => keep b o (fun z => by subst z; exact ha o e c) e
  obtain ⟨fs, h1, h2, h3⟩ := firsts_of fun v hm => ⟨_, _, _, hp' v hm⟩
  refine ⟨tuples' true, fun Q E hq => ?_, tri_cmp hp' hg⟩
  refine PySem.W.kat_kind (T := .type "int") h1 (by omega) (fun f hm => ?_) (by rfl) ?_
  · obtain ⟨x, t, rfl⟩ := h3 f hm
    exact PySem.W.Looks.now
  · have e : (Value.type "int" != Value.type "tuple") = true := by first | decide +kernel | rfl | decide
    rw [e]
    exact hq
theorem sorted_tri {l : Addr} {vs : List Value} {k : Value → Int × Int} {g : Value → Str} {Q : Value → Shared → Prop} (hl : s.heap.IsList l vs.toArray) (hz : vs.length ≤ sizeLine) (hp : ∀ v ∈ vs, IsTri s.heap v (k v).1 (k v).2 (g v)) (hg : ∀ v ∈ vs, ∀ u ∈ vs, k v = k u → g v = g u)
    (h : ∀ (h' : Heap) (d : Addr) (out : List Value), Srtd (fun v u => lexB (k v) (k u)) out → Stb (fun v u => lexB (k v) (k u)) out vs → (∀ b o, s.heap.get? b = some o → h'.get? b = some o) → s.heap.objs.size ≤ d → (∃ n, h'.get? d = some (seqObj "list" out.toArray n)) → Q (.ref d) { s with heap := h' }) :
    wpAny (model prog w) A (call (.builtin "sorted") [.ref l]) Q E s := by
  refine sorted_ord (swo_lex k) hl hz (fun h2 h₁ a ha kk => ?_) fun out hs hb => ?_
  · refine tri_sortable (s := { s with heap := h₁ }) (g := g) (by omega) (fun v hm => (hp v hm).keeps fun b o e _ => (kk b o e).2) hg fun o e => ?_
    have e' : some o = some (seqObj "list" vs.toArray 0) := e.symm.trans ha
    cases e'
    intro c
    exact absurd (Value.type.inj c) (by decide)
  · exact h _ _ out hs hb (fun b o e => sortedAll_old e) (Nat.le_succ _) (sortedAll_at s.heap vs out.toArray)
end
theorem vals3 {a b c : V} {us : List Value} (r : L2.Vals [a, b, c] us) : ∃ u1 u2 u3, us = [u1, u2, u3] ∧ RelV a u1 ∧ RelV b u2 ∧ RelV c u3 := by
  cases r with
  | cons r1 r => cases r with
    | cons r2 r => cases r with
      | cons r3 r => cases r; exact ⟨_, _, _, rfl, r1, r2, r3⟩
end So
/-- sorted(xs), xs a list of triples (int, int, text) where the two ints tell the text -/
def rSorted3 (K : PySem.W.Frag) : List V → Hp → VK → Prop := fun vs H Q => ∃ (a : Addr) (xs : List V) (k : V → Int × Int) (g : V → Str), vs = [V.ref a] ∧ SqL K H a xs ∧ (∀ x ∈ xs, ∃ t, x = V.ref t ∧ H t = some (.tup [.int (k x).1, .int (k x).2, .str (g x)])) ∧ (∀ x ∈ xs, ∀ y ∈ xs, k x = k y → g x = g y) ∧
  ∀ ys p, SrtO.Srtd (ltP k) ys → ys.Perm xs → H p = none → Q (.ref p) (upd H p (.lst ys))
theorem cr_sorted3 {X : Cx} {K : PySem.W.Frag} (hK : X.K = K) : CallR X (.builtin "sorted") (rSorted3 K) := by
  subst hK
  intro pins s σ H vs us Q I r h
  obtain ⟨a, xs, k, g, rfl, hs, hx, hg, q⟩ := h
  obtain ⟨its, rv, hl, hz⟩ := I.list hs
  obtain ⟨u, rfl, ru⟩ := vals1 r
  obtain rfl : u = Value.ref a := ru
  obtain ⟨e1, e2⟩ := refs_back rv fun x m => by
    obtain ⟨t, e, _⟩ := hx x m
    exact ⟨t, e⟩
  have back : ∀ v ∈ its, backV v ∈ xs := fun v hv => by rw [e1]; exact List.mem_map.mpr ⟨v, hv, rfl⟩
  refine So.sorted_tri (k := fun u => k (backV u)) (g := fun u => g (backV u)) hl.isList (by rw [← rv.length]; exact hz) (fun v hv => ?_) (fun v hv u hu e => hg _ (back v hv) _ (back u hu) e) fun h' d out h1 h2 kp hd hn => ?_
  · obtain ⟨t, rfl⟩ := e2 v hv
    have hm : V.ref t ∈ xs := by rw [e1]; exact List.mem_map.mpr ⟨_, hv, rfl⟩
    obtain ⟨t', e, ht⟩ := hx _ hm
    cases e
    obtain ⟨_, its2, r2, o, ho, hc, n, hd⟩ := I.hok _ _ ht
    obtain ⟨u1, u2, u3, rfl, ri, rj, rk⟩ := So.vals3 r2
    obtain ⟨t1, rfl⟩ := ri
    obtain ⟨t2, rfl⟩ := rj
    obtain ⟨t3, rfl⟩ := rk
    exact ⟨t, o, t1, t2, t3, n, rfl, ho, hc, hd⟩
  · have h3 : ∀ u ∈ out, ∃ a, u = Value.ref a := fun u hu => e2 u (h2.perm.mem_iff.mp hu)
    obtain ⟨n, hn⟩ := hn
    have hb : SrtO.Stb (ltP k) (out.map backV) xs := by
      rw [e1]
      exact SrtO.Stb.map (ltP_swo k) backV h2
    refine ⟨.ref d, upd H d (.lst (out.map backV)), I.laid (t' := s.toks) kp hd ⟨?_, out, n, vals_back h3, hn⟩, rfl, q _ d (SrtO.srtd_map h1) hb.perm (I.hok.fresh hd)⟩
    rw [hb.len]
    exact hz
namespace Dt
open PySem PySem.Spec PyProof.Rows PyProof.V L2 StX
/-! ### {k: v}, the key a tuple -/
def tDisp1T (tk tv : TE) : TE := fun σ H Q => ∀ p, H p = none → tk σ (upd H p (.dT [])) fun y H1 => tv σ H1 fun z H2 => ∃ (k : List Key) (q : Addr), y = .ref q ∧ H2 p = some (.dT []) ∧ H2 q = some (.tup (k.map kV)) ∧ Q (.ref p) (upd H2 p (.dT [(k, z)]))
theorem pe_disp1T {X : Cx} {pos : Pos} {ke ve : Expr} {tk tv : TE} (hu : X.A.units + 64 < cLine) (hk : PE X ke tk) (hv : PE X ve tv) : PE X (.Dict [some ke] [ve] pos) (tDisp1T tk tv) := by
  refine ⟨fun pins s σ H Q I q => ?_⟩
  have hn := I.hok.fresh (Nat.le_refl s.heap.objs.size)
  have I1 := I.laid (a := s.heap.objs.size) (o := .dT []) (h' := s.heap.push { cls := .type "dict", data := .dict #[] }) (t' := s.toks) (fun _ _ q => Heap.get?_push_of_some _ q) (Nat.le_refl _) (dt_empty s.heap I.big)
  have run := (pps_cons (pos := pos) hk hv pps_nil).run pins _ σ _ (fun ps H2 => ∃ y z, ps = [(y, z)] ∧ ∃ (k : List Key) (q : Addr), y = .ref q ∧ H2 s.heap.objs.size = some (.dT []) ∧ H2 q = some (.tup (k.map kV)) ∧ Q (.ref s.heap.objs.size) (upd H2 s.heap.objs.size (.dT [(k, z)]))) I1
    (by
      show tk σ _ _
      have q0 := q _ hn
      show tk σ (upd H s.heap.objs.size (.dT [])) fun x H1 => tv σ H1 fun y H2 => ∃ y' z, [(x, y)] = [(y', z)] ∧ _
      have e : (fun (x : V) (H1 : Hp) => tv σ H1 fun y H2 => ∃ (k : List Key) (q : Addr), x = .ref q ∧ H2 s.heap.objs.size = some (.dT []) ∧ H2 q = some (.tup (k.map kV)) ∧ Q (.ref s.heap.objs.size) (upd H2 s.heap.objs.size (.dT [(k, y)]))) = fun (x : V) (H1 : Hp) => tv σ H1 fun y H2 => ∃ y' z, [(x, y)] = [(y', z)] ∧ ∃ (k : List Key) (q : Addr), y' = .ref q ∧ H2 s.heap.objs.size = some (.dT []) ∧ H2 q = some (.tup (k.map kV)) ∧ Q (.ref s.heap.objs.size) (upd H2 s.heap.objs.size (.dT [(k, z)])) := by
        funext x H1
        congr 1
        funext y H2
        apply propext
        constructor
        · intro h; exact ⟨x, y, rfl, h⟩
        · rintro ⟨y', z, e, h⟩
          cases e; exact h
      rw [← e]; exact q0)
  rw [arm_eval_Dict, zip_pairTrees [some ke] [ve] X.env pos rfl rfl, dictDisplay_pairs (pairTrees [some ke] [ve] X.env pos) (by simp [pairTrees]) (by simp [pairTrees])]
  refine wpAny_bind (wpAny_standAt (wpAny_bind (wpAny_subDictH (knd := tupleKind (mixKind X.prog X.w)) (Q := fun d s' => wpAny (model X.prog X.w) X.A (pure (Value.ref d)) (EP X pins σ Q) X.xe s') (show X.A.units < cLine by omega) (by simp [pairTrees]) (thn run fun vs s1 got => ?_))))
  obtain ⟨ps, H2, I2, rel, y, z, eps, k, q2, ey, at2, tup, fin⟩ := got
  subst eps
  subst ey
  cases rel with
  | cons r rest =>
    cases rest
    rename_i b
    obtain ⟨b1, b2⟩ := b
    obtain ⟨r1, r2⟩ := r
    cases (show b1 = Value.ref q2 from r1)
    obtain ⟨small, apart, cells, pairs, held⟩ := dt_of I2.hok at2
    cases pairs
    refine ⟨[(k, q2, b2)], ⟨rfl, rfl, key_of I2.hok tup, trivial⟩, held, fun h' tk' held' but => wpAny_pure ⟨.ref s.heap.objs.size, _, ?_, rfl, fin⟩⟩
    obtain ⟨u, es, ep, stands, a1, a2, a3, _, a4⟩ := held'
    have nq : q2 ≠ s.heap.objs.size := by rintro rfl; rw [at2] at tup; cases tup
    exact d_write I2 (by rw [at2]; exact True.intro) but ⟨u, stands⟩ ⟨by show 1 ≤ sizeLine; decide, apart, [(k, q2, b2)], .cons ⟨rfl, by rw [upd_ne nq]; exact tup, r2⟩ .nil, u, es, ep, stands, a1, a2, a3, a4⟩
/-! ### d.pop(q), the key there -/
def tDPop1T (td ty : TE) : TE := fun σ H Q => td σ H fun x H1 => ∃ a, x = .ref a ∧ IsD H1 a ∧ ty σ H1 fun y H2 => ∃ (kvs : Tb) (k : List Key) (q : Addr) (v : V), H2 a = some (.dT kvs) ∧ y = .ref q ∧ H2 q = some (.tup (k.map kV)) ∧ valV kvs k = some v ∧ Q v (upd H2 a (.dT (dropK kvs k)))
theorem pe_dpop1T {X : Cx} {o e : Expr} {td ty : TE} {apos cpos : Pos} (hu : X.A.units + 1 < cLine) (ho : PE X o td) (he : PE X e ty) (m : M1 X o "pop" apos e cpos) : PE X (.Call (.Attribute o "pop" apos) [e] [] cpos) (tDPop1T td ty) := by
  refine ⟨fun pins s σ H Q I h => ?_⟩
  refine wpAny_Call_method m.base m.few m.line PySem.F.plainAttrs_dict PySem.F.slot_dict_pop PySem.F.type_dict_pop (thn (ho.run pins s σ H _ I h) fun u s1 ⟨x, H1, I1, rx, a, ex, d, q1⟩ => ?_)
  subst ex
  obtain rfl : u = Value.ref a := rx
  obtain ⟨t1, t2, _⟩ := isD_at I1 d
  refine ⟨t1, t2, ?_⟩
  rw [m.trees]
  refine Calls.callWith_builtin rfl (Calls.evalArgs_plain (Calls.spliced_cons (thn (he.run pins s1 σ H1 _ I1 q1) fun iv s2 ⟨y, H2, I2, ry, kvs, k, q, v, ea, ey, tup, l, q2⟩ => Calls.spliced_nil ?_)))
  subst ey
  cases (show iv = Value.ref q from ry)
  obtain ⟨z, hd, xs, rel, dd⟩ := dt_of I2.hok ea
  have hz : xs.length ≤ sizeLine := by rw [← Paired.length rel]; exact z
  have look := rel.val k
  rw [l] at look
  obtain ⟨p, hp, rv⟩ : ∃ p, atKey xs k = some p ∧ RelV v p.2 := by
    cases ev : atKey xs k with
    | none => rw [ev] at look; exact (show False from look).elim
    | some p => rw [ev] at look; exact ⟨p, rfl, look⟩
  refine PySem.call_pop_heap (hsz := hz) (knd := tupleKind (mixKind X.prog X.w)) (.inl rfl) (PySem.F.args_dict_pop_2 _ _) (tupleKind_room_in1 hu) (key_of I2.hok tup) hd dd hp fun h' dd' hs => ?_
  obtain ⟨o, es, ep, hq, h2, h3, h4, _, h5⟩ := dd'
  have I3 : Inv X pins σ (upd H2 a (.dT (dropK kvs k))) { s2 with heap := h', toks := s2.toks + (tupleKind (mixKind X.prog X.w)).draws k } := d_write I2 (by rw [ea]; exact True.intro) hs ⟨o, hq⟩ ⟨Nat.le_trans (dropK_le kvs k) z, hd, _, (L2.DX.KT_drop k rel).keeps (fun c ys ec => (by rw [upd_ne (ne_of ec ea (fun z => nomatch z))]; exact ec)), o, es, ep, hq, h2, h3, h4, h5⟩
  exact ⟨v, _, I3, rv, q2⟩
/-! ### == and != of two dicts with tuples as keys, the values flat -/
section
variable {prog : Program} {w : World} {Ky : Type} [DecidableEq Ky] {knd : HeapKind prog w Ky} {A : Around} {E : Value → Shared → Prop} {s : Shared}
theorem pairsM {nm : String} {a b : Addr} {xa xb : List (Ky × Addr × Value)} {P : Nat → Bool} {Q : Bool → Shared → Prop} (ha : (a == sysModules) = false) (hb : (b == sysModules) = false) (hu : knd.room A) (da : s.heap.DictOfH knd a xa) (db : s.heap.DictOfH knd b xb)
    (al : ∀ (i : Nat) x, xa[i]? = some x → ((∀ (j : Nat) p, ¬ xb[j]? = some (x.1, p)) ∧ P i = false) ∨ ∃ (j : Nat) (y : Addr × Value), xb[j]? = some (x.1, y) ∧ SeqAt.EqAt A s x.2.2 y.2 (P i)) (l : xa.length ≠ xb.length → Q false s) (q : xa.length = xb.length → (∀ i, i < xa.length → P i = true) → Q true s) (n : ∀ i, i < xa.length → P i = false → Q false s) : wpAny (model prog w) A (Builtin.Dict.samePairs nm a b) Q E s := by
  obtain ⟨oa, es, ep, hoa, _, hda, hes, hia, _⟩ := da
  obtain ⟨ob, fs, fp, hob, _, hdb, hfs, hib, hnb⟩ := db
  have sa := size_of_entries hes
  have sb := size_of_entries hfs
  unfold Builtin.Dict.samePairs Builtin.Dict.showsAll
  rw [if_neg (show ¬ (a == sysModules) = true by rw [ha]; exact Bool.false_ne_true), if_neg (show ¬ (b == sysModules) = true by rw [hb]; exact Bool.false_ne_true)]
  refine wpAny_bind (wpAny_pure (wpAny_bind (wpAny_pure (wpAny_bind (wpAny_dictEntries hoa hda ?_)))))
  dsimp only
  refine wpAny_bind (wpAny_dictEntries hob hdb ?_)
  by_cases hsz : es.size = fs.size
  case neg =>
    rw [if_pos (by simpa using hsz)]
    exact wpAny_bind (wpAny_rule (wpAny_pure (l (by omega))))
  rw [if_neg (by rw [hsz]; simp)]
  refine wpAny_bind (wpAny_dictEpoch hoa hda (wpAny_bind ?_))
  rw [Std.Legacy.Range.forIn_eq_forIn_range']
  simp only [Std.Legacy.Range.size, Nat.sub_zero, Nat.add_sub_cancel, Nat.div_one]
  refine wpAny_forIn_list _ (fun rest r s' => s' = s ∧ r = (none, ()) ∧ ∃ i, rest = List.range' i (es.size - i) ∧ i ≤ es.size ∧ ∀ j, j < i → P j = true) _ ?_ ?_ _ _ ⟨rfl, rfl, 0, by simp, Nat.zero_le _, by simp⟩
  · rintro x rest r s' ⟨rfl, rfl, i, hr, hi, ok⟩
    have lt : i < es.size := by
      rcases Nat.lt_or_ge i es.size with h | h
      · exact h
      · rw [Nat.sub_eq_zero_of_le h] at hr; simp at hr
    rw [show es.size - i = (es.size - (i + 1)) + 1 by omega, List.range'_succ] at hr
    injection hr with h1 h2
    subst h1
    obtain ⟨e, he⟩ : ∃ e, xa[x]? = some e := ⟨_, List.getElem?_eq_getElem (by omega)⟩
    have ge : es[x]? = some (entryOfKey knd e) := by rw [entry_at hes, he]; rfl
    refine wpAny_bind (wpAny_dictEntries hoa hda ?_)
    rw [ge]
    refine wpAny_bind (wpAny_holding (wpAny_bind (wpAny_dictFind_heap hu (hia _ (List.mem_of_getElem? he)) hob hdb hfs hib hnb (fun no => ?_) fun j p hj => ?_)))
    · have hp : P x = false := by
        rcases al x e he with ⟨_, h⟩ | ⟨j, y, hj, _⟩
        · exact h
        · exact (no j y hj).elim
      refine wpAny_pure ?_
      show wpAny _ _ (if (!false) = true then _ else _) _ _ _
      rw [if_pos (by decide)]
      exact wpAny_pure (wpAny_pure (n x (by omega) hp))
    · obtain ⟨ev⟩ : SeqAt.EqAt A s' e.2.2 p.2 (P x) ∧ True := by
        rcases al x e he with ⟨h, _⟩ | ⟨j2, y, hj2, h⟩
        · exact (h j p hj).elim
        · obtain rfl : j = j2 := idxH_unique hnb hj hj2
          rw [hj] at hj2
          have : p = y := by simpa using hj2
          rw [this]; exact ⟨h, trivial⟩
      have gf : fs[j]? = some (entryOfKey knd (e.1, p)) := by rw [entry_at hfs, hj]; rfl
      refine wpAny_bind (wpAny_dictEntries hob hdb ?_)
      rw [gf]
      refine wpAny_holding (ev _ _ _ _ ?_)
      cases hp : P x with
      | false =>
        show wpAny _ _ (if (!false) = true then _ else _) _ _ _
        rw [if_pos (by decide)]
        exact wpAny_pure (wpAny_pure (n x (by omega) hp))
      | true =>
        show wpAny _ _ (if (!true) = true then _ else _) _ _ _
        rw [if_neg (by decide)]
        refine wpAny_bind (wpAny_dictEpoch hoa hda ?_)
        rw [if_neg (by simp)]
        refine wpAny_pure ⟨rfl, rfl, x + 1, h2, lt, fun i hi => ?_⟩
        rcases Nat.lt_or_ge i x with h | h
        · exact ok i h
        · obtain rfl : i = x := by omega
          exact hp
  · rintro r s' ⟨rfl, rfl, i, hr, hi, ok⟩
    refine wpAny_pure (q (by omega) fun j hj => ok j ?_)
    rcases Nat.lt_or_ge i es.size with h | h
    · rw [show es.size - i = (es.size - (i + 1)) + 1 by omega, List.range'_succ] at hr; cases hr
    · omega
end
def eqB (lvs : Tb) (p : List Key × V) : Bool := match valV lvs p.1 with
  | some v => L2.eqV p.2 v
  | none => false
def mapEq (kvs lvs : Tb) : Bool := decide (kvs.length = lvs.length) && kvs.all (eqB lvs)
theorem kt_keys {H : Hp} : ∀ {kvs : Tb} {xa : List (List Key × Addr × Value)}, KT H kvs xa → kvs.map (·.1) = xa.map (·.1)
  | _, _, .nil => rfl
  | _, _, .cons h t => by rw [List.map_cons, List.map_cons, kt_keys t, h.1]
theorem valV_none {kvs : Tb} {k : List Key} (h : ∀ (j : Nat) v, ¬ kvs[j]? = some (k, v)) : valV kvs k = none := by
  induction kvs with
  | nil => rfl
  | cons p r ih =>
    by_cases e : p.1 = k
    · exact (h 0 p.2 (by rw [← e]; rfl)).elim
    · rw [valV_neg e]; exact ih fun j v hj => h (j + 1) v (by simpa using hj)
theorem valV_at {kvs : Tb} {j : Nat} {p : List Key × V} (nd : (kvs.map (·.1)).Nodup) (h : kvs[j]? = some p) : valV kvs p.1 = some p.2 := by
  induction kvs generalizing j with
  | nil => simp at h
  | cons q r ih =>
    rw [List.map_cons, List.nodup_cons] at nd
    cases j with
    | zero =>
      have e : q = p := by simpa using h
      subst e; exact valV_pos rfl
    | succ j =>
      have h' : r[j]? = some p := by simpa using h
      rw [valV_neg (fun e => nd.1 (by rw [e]; exact List.mem_map_of_mem (List.mem_of_getElem? h')))]
      exact ih nd.2 h'
def rCmpM (neg : Bool) : R2 := fun x y H Q => ∃ (a b : Addr) (kvs lvs : Tb), x = .ref a ∧ y = .ref b ∧ Rd H a (.dT kvs) ∧ Rd H b (.dT lvs) ∧ (∀ p ∈ kvs, L2.flatV p.2 = true) ∧ (∀ p ∈ lvs, L2.flatV p.2 = true) ∧ Q (.bl (if neg then !mapEq kvs lvs else mapEq kvs lvs)) H
theorem same_map {X : Cx} {nm : String} {pins : List (Addr × Obj)} {σ : L2.St} {H : Hp} {s : Shared} {a b : Addr} {kvs lvs : Tb} {E : Value → Shared → Prop} {Q : Bool → Shared → Prop} (small : X.A.units + 1 < cLine) (I : Inv X pins σ H s) (ea : Rd H a (.dT kvs)) (eb : Rd H b (.dT lvs)) (fa : ∀ p ∈ kvs, L2.flatV p.2 = true) (fb : ∀ p ∈ lvs, L2.flatV p.2 = true)
    (q : Q (mapEq kvs lvs) s) : wpAny (model X.prog X.w) X.A.in1 (Builtin.Dict.samePairs nm a b) Q E s := by
  obtain ⟨_, na, xa, ra, da⟩ := dt_rd I.hok ea
  obtain ⟨_, nb, xb, rb, db⟩ := dt_rd I.hok eb
  obtain ⟨la, ga⟩ := kt_at ra
  obtain ⟨lb, gb⟩ := kt_at rb
  have kb := kt_keys rb
  have ndb : (lvs.map (·.1)).Nodup := by rw [kb]; obtain ⟨_, _, _, _, _, _, _, _, nd⟩ := db; exact nd
  let P : Nat → Bool := fun i => match kvs[i]? with
    | some p => eqB lvs p
    | none => true
  have hP : ∀ i p, kvs[i]? = some p → P i = eqB lvs p := fun i p h => by show (match kvs[i]? with | some p => eqB lvs p | none => true) = _; rw [h]
  refine pairsM (P := P) na nb (show X.A.in1.units < cLine from small) da db (fun i x hx => ?_) (fun ne => ?_) (fun e all => ?_) fun i hi hp => ?_
  · obtain ⟨p, hp, ek, rp⟩ := ga i x hx
    rw [hP i p hp]
    by_cases c : ∃ (j : Nat) (y : Addr × Value), xb[j]? = some (x.1, y)
    · obtain ⟨j, y, hy⟩ := c
      obtain ⟨r, hr, er, rr⟩ := gb j (x.1, y) hy
      refine .inr ⟨j, y, hy, ?_⟩
      have v := valV_at ndb hr
      have ev : valV lvs p.1 = some r.2 := by rw [ek, ← show r.1 = x.1 from er]; exact v
      unfold eqB
      rw [ev]
      exact eqAt_V rp rr (fa p (List.mem_of_getElem? hp)) (fb r (List.mem_of_getElem? hr))
    · refine .inl ⟨fun j y h => c ⟨j, y, h⟩, ?_⟩
      have ev : valV lvs p.1 = none := valV_none fun j v hj => by
        have lt : j < xb.length := by have := (List.getElem?_eq_some_iff.mp hj).1; omega
        have h1 : (lvs.map (·.1))[j]? = some p.1 := by rw [List.getElem?_map, hj]; rfl
        rw [kb, List.getElem?_map, List.getElem?_eq_getElem lt] at h1
        refine c ⟨j, (xb[j]).2, ?_⟩
        have e1 : (xb[j]).1 = x.1 := by rw [← ek]; simpa using h1
        rw [List.getElem?_eq_getElem lt, ← e1]
      unfold eqB
      rw [ev]
  · have e : mapEq kvs lvs = false := by unfold mapEq; rw [decide_eq_false (by omega)]; rfl
    rwa [e] at q
  · have e2 : mapEq kvs lvs = true := by
      unfold mapEq
      rw [decide_eq_true (by omega), Bool.true_and, List.all_eq_true]
      intro p hp
      obtain ⟨i, hi⟩ := List.getElem?_of_mem hp
      rw [← hP i p hi]
      exact all i (by have := (List.getElem?_eq_some_iff.mp hi).1; omega)
    rwa [e2] at q
  · obtain ⟨p, hp0⟩ : ∃ p, kvs[i]? = some p := ⟨_, List.getElem?_eq_getElem (by omega)⟩
    have e2 : mapEq kvs lvs = false := by
      unfold mapEq
      rw [Bool.and_eq_false_iff]
      right
      rw [List.all_eq_false]
      exact ⟨p, List.mem_of_getElem? hp0, by rw [← hP i p hp0, hp]; decide⟩
    rwa [e2] at q
theorem op_eqM {X : Cx} (small : X.A.units + 1 < cLine) : OpR X (compareOp .Eq) (rCmpM false) := by
  rintro pins s σ H x y v u Q I rx ry ⟨a, b, kvs, lvs, rfl, rfl, ea, eb, fa, fb, q⟩
  cases (show v = Value.ref a from rx)
  cases (show u = Value.ref b from ry)
  obtain ⟨_, _, _, _, da⟩ := dt_rd I.hok ea
  obtain ⟨_, _, _, _, db⟩ := dt_rd I.hok eb
  refine wpAny_richCompare_same_room (op := .Eq) da.typeIs db.typeIs PySem.F.slot_dict_eq (wpAny_call_entry PySem.F.slot_dict_eq da.typeIs PySem.F.entry_dict_eq ?_ (PySem.F.args_dict_eq_2 _ _)) (by omega)
  show wpAny _ _ (Builtin.Dict.dictSlotArgs "__eq__" ⟨[.ref a, .ref b], []⟩ >>= _) _ _ s
  refine wpAny_bind ?_
  unfold Builtin.Dict.dictSlotArgs
  refine wpAny_bind (wpAny_notOrdered_dict da.typeIs ?_)
  show wpAny _ _ (pure (Value.ref a, Value.ref b)) _ _ s
  refine wpAny_pure (wpAny_bind (wpAny_isInstance (T := "dict") db.typeIs PySem.F.sub_dict_dict ?_))
  simp only [Bool.not_true, Bool.false_eq_true, if_false]
  refine wpAny_bind (wpAny_pure (wpAny_bind (wpAny_pure (wpAny_bind (same_map small I ea eb fa fb ?_)))))
  exact wpAny_pure ⟨_, rfl, (fun x => nomatch x), ⟨.bl (mapEq kvs lvs), H, I, (by show Value.bool _ = Value.bool _; cases mapEq kvs lvs <;> rfl), q⟩⟩
theorem op_neM {X : Cx} (small : X.A.units + 1 < cLine) : OpR X (compareOp .NotEq) (rCmpM true) := by
  rintro pins s σ H x y v u Q I rx ry ⟨a, b, kvs, lvs, rfl, rfl, ea, eb, fa, fb, q⟩
  cases (show v = Value.ref a from rx)
  cases (show u = Value.ref b from ry)
  obtain ⟨_, _, _, _, da⟩ := dt_rd I.hok ea
  obtain ⟨_, _, _, _, db⟩ := dt_rd I.hok eb
  refine wpAny_richCompare_same_room (op := .NotEq) da.typeIs db.typeIs PySem.F.slot_dict_ne (wpAny_call_entry PySem.F.slot_dict_ne da.typeIs PySem.F.entry_dict_ne ?_ (PySem.F.args_dict_ne_2 _ _)) (by omega)
  show wpAny _ _ (Builtin.Dict.dictSlotArgs "__ne__" ⟨[.ref a, .ref b], []⟩ >>= _) _ _ s
  refine wpAny_bind ?_
  unfold Builtin.Dict.dictSlotArgs
  refine wpAny_bind (wpAny_notOrdered_dict da.typeIs ?_)
  show wpAny _ _ (pure (Value.ref a, Value.ref b)) _ _ s
  refine wpAny_pure (wpAny_bind (wpAny_isInstance (T := "dict") db.typeIs PySem.F.sub_dict_dict ?_))
  simp only [Bool.not_true, Bool.false_eq_true, if_false]
  refine wpAny_bind (wpAny_pure (wpAny_bind (wpAny_pure (wpAny_bind (same_map small I ea eb fa fb ?_)))))
  exact wpAny_pure ⟨_, rfl, (fun x => nomatch x), ⟨.bl (!mapEq kvs lvs), H, I, (by show Value.bool _ = Value.bool _; cases mapEq kvs lvs <;> rfl), q⟩⟩
/-! ### C(..) in a try: what is raised is wished for at the caller's slots -/
section
variable {X : Cx} {CX : CXT} {C f : Addr} {fd : FuncData} {k : Nat} {sp : Sp} {ps : List Str} {ds : List Value} {dvs : List V} {E : L2.St → XK} {x : Str} {p pos : Pos} {e : Expr} {es : List Expr} {t : TA}
def tMakeSD (C : Addr) (sp : Sp) (dvs : List V) (E : L2.St → XK) (t : TA) : TE := fun σ H Q => t σ H fun vs H1 => ∀ x dx, H1 x = none → H1 dx = none → dx ≠ x → sp (.ref x :: (vs ++ dvs)) (upd (upd H1 dx (.own x)) x (.ins C dx [])) (fun v H2 => v = .non ∧ Q (.ref x) H2) (E σ)
theorem run_makeSD {pins : List (Addr × Obj)} {σ : L2.St} {H : Hp} {s : Shared} {Q : VK} {us : List Value} {vs : List V} (M : Mk X.K C f) (F : FnOk X.prog X.w X.K X.mg X.base CX k f fd ps sp) (hr : Room (k + 1) X.A) (hb : Binds X.K fd ps ds) (hd : L2.Vals dvs ds)
    (hx : PassesAt CX X σ (E σ)) (I : Inv X pins σ H s) (r : L2.Vals vs us)
    (h : ∀ x dx, H x = none → H dx = none → dx ≠ x → sp (.ref x :: (vs ++ dvs)) (upd (upd H dx (.own x)) x (.ins C dx [])) (fun v H2 => v = .non ∧ Q (.ref x) H2) (E σ)) :
    wpAny (model X.prog X.w) X.A (call (.ref C) us) (EP X pins σ Q) X.xe s := by
  have hq := h (s.heap.objs.size + 1) s.heap.objs.size (I.hok.fresh (Nat.le_succ _)) (I.hok.fresh (Nat.le_refl _)) (Nat.ne_of_lt (Nat.lt_succ_self _))
  have I2 := Inv.made (C := C) I
  have r2 : L2.Vals (V.ref (s.heap.objs.size + 1) :: (vs ++ dvs)) (Value.ref (s.heap.objs.size + 1) :: (us ++ ds)) := .cons rfl (r.append hd)
  have hl : (Value.ref (s.heap.objs.size + 1) :: us ++ ds).length = ps.length := by
    have e := r2.length
    rw [F.len _ _ _ _ hq] at e
    exact e.symm
  refine wpAny_call (make_map (f := f) I.kIn M.makes M.init (beq_iff_eq.mp M.fn) (codeAny_mono (F.run _ X.stack _ _ ⟨Value.ref (s.heap.objs.size + 1) :: us, []⟩ (Value.ref (s.heap.objs.size + 1) :: (us ++ ds)) _ _ (E σ) (hr.make C us [])
    (I2.env0.make C us []) (hb _ (Value.ref (s.heap.objs.size + 1) :: us) I2.kIn hl) r2 hq) fun r s' hq' => ?_))
  cases r with
  | error e => exact hx pins _ _ e s' I2 hq'
  | ok fl =>
    cases fl with
    | ret u =>
      obtain ⟨v, H', I3, rv, ev, q3⟩ := I2.after hq'
      subst ev
      exact ⟨rv, ⟨V.ref (s.heap.objs.size + 1), H', I3, rfl, q3⟩⟩
    | next => exact False.elim hq'
    | brk => exact False.elim hq'
    | cont => exact False.elim hq'
theorem pe_makeSD (M : Mk X.K C f) (F : FnOk X.prog X.w X.K X.mg X.base CX k f fd ps sp) (hr : Room (k + 1) X.A) (hg : Gl X x) (hm : X.mg x = some (.ref C)) (hb : Binds X.K fd ps ds) (hd : L2.Vals dvs ds) (hx : ∀ σ, PassesAt CX X σ (E σ))
    (ha : PA X (e :: es) t) (hdb : (x == ("__debug__" : Str)) = false := by decide) (he : starEach (e :: es) X.env = (false, eval e X.env) :: starEach es X.env := by rfl) (hpl : (backTo pos (starEach es X.env)).any (·.1) = false := by rfl) :
    PE X (.Call (.Name x p) (e :: es) [] pos) (tMakeSD C sp dvs E t) := by
  refine ⟨fun pins s σ H Q I h => ?_⟩
  refine wpAny_Call_Name_kw (ld_glob I hg hm ?_ hdb)
  refine PySem.W.callWith_K (h₀ := X.base) I.ok.mod.kin M.kp (thn (ha.run pos pins s σ H _ I h) fun us s1 ⟨vs, H1, I1, r, q⟩ => ⟨I1.kIn, ?_⟩) he hpl
  exact run_makeSD M F hr hb hd (hx σ) I1 r q
end
end Dt
namespace Ow
open PySem PySem.Spec PyProof.Rows PyProof.V L2 StX
open PySem.W PySem.Calls
/-! ### x in o, o[x], len(o): the class of o has its own __contains__, __getitem__, __len__ -/
section
variable {X : Cx} {CX : CXT} {k : Nat} {C f : Addr} {sp : Sp} {E : XK}
def rOwnIn (C : Addr) (sp : Sp) (E : XK) (g : Bool → Bool) : R2 := fun x y H Q => ∃ a dx fs, y = .ref a ∧ H a = some (.ins C dx fs) ∧ sp [y, x] H (fun v H' => ∃ c, v = .bl c ∧ Q (.bl (g c)) H') E
theorem op_ownIn (M : Meth X.K C "__contains__" f) (F : FnR X.prog X.w X.K X.mg X.base CX k f sp) (hr : Room k X.A) (hx : Passes CX X E) : OpR X (compareOp .In) (rOwnIn C sp E id) := by
  intro pins s σ H x y v u Q I rx ry h
  obtain ⟨a, dx, fs, rfl, ha, q⟩ := h
  obtain rfl : u = Value.ref a := ry
  obtain ⟨ox, od, J, _⟩ := inst_of I ha
  obtain ⟨mm, Fm⟩ := I.fr
  refine in_K Fm I.ok.mod.kin J M.at_ M.fn ?_
  refine wpAny_mono (run_own (vs := [.ref a, x]) F hr hx I (.cons rfl (.cons rx .nil)) q) (fun r s' z => ?_) fun _ _ e => e
  obtain ⟨z', H', I', rz, c, ec, qz⟩ := z
  subst ec
  cases (show r = Value.bool c from rz)
  exact wpAny_truthy_bool ⟨.bl c, H', I', rfl, qz⟩
theorem op_ownNotIn (M : Meth X.K C "__contains__" f) (F : FnR X.prog X.w X.K X.mg X.base CX k f sp) (hr : Room k X.A) (hx : Passes CX X E) : OpR X (compareOp .NotIn) (rOwnIn C sp E fun b => !b) := by
  intro pins s σ H x y v u Q I rx ry h
  obtain ⟨a, dx, fs, rfl, ha, q⟩ := h
  obtain rfl : u = Value.ref a := ry
  obtain ⟨ox, od, J, _⟩ := inst_of I ha
  obtain ⟨mm, Fm⟩ := I.fr
  refine notIn_K Fm I.ok.mod.kin J M.at_ M.fn ?_
  refine wpAny_mono (run_own (vs := [.ref a, x]) F hr hx I (.cons rfl (.cons rx .nil)) q) (fun r s' z => ?_) fun _ _ e => e
  obtain ⟨z', H', I', rz, c, ec, qz⟩ := z
  subst ec
  cases (show r = Value.bool c from rz)
  exact wpAny_truthy_bool ⟨.bl (!c), H', I', rfl, qz⟩
theorem r_ownIn {C a dx : Addr} {fs : List (Str × V)} {sp : Sp} {E : XK} {g : Bool → Bool} {H : Hp} {Q : VK} {x : V} (ha : H a = some (.ins C dx fs)) (k : sp [.ref a, x] H (fun v H' => ∃ c, v = .bl c ∧ Q (.bl (g c)) H') E) : rOwnIn C sp E g x (.ref a) H Q := ⟨a, dx, fs, rfl, ha, k⟩
/-- o[x] -/
def rOwnIx (C : Addr) (sp : Sp) (E : XK) : R2 := fun x y H Q => ∃ a dx fs, x = .ref a ∧ H a = some (.ins C dx fs) ∧ sp [x, y] H Q E
theorem pe_ownIx {o i : Expr} {to ti : TE} {pos : Pos} (ho : PE X o to) (hi : PE X i ti) (M : Meth X.K C "__getitem__" f) (hfn : fnIn X.K f = true) (F : FnR X.prog X.w X.K X.mg X.base CX k f sp) (hr : Room (k + 1) X.A) (hx : Passes CX X E)
    (hs : ∀ v u, subscripted i true v u = runValue (.builtin "lifetime.subscript" ⟨[v, u], []⟩)) : PE X (.Subscript o i pos) (tOp (rOwnIx C sp E) to ti) := by
  refine ⟨fun pins s σ H Q I h => ?_⟩
  refine Subscript_ (binT ho hi I h fun v u s2 x y H2 I2 rx ry q => ?_)
  obtain ⟨a, dx, fs, rfl, ha, q⟩ := q
  obtain rfl : v = Value.ref a := rx
  obtain ⟨ox, od, J, _⟩ := inst_of I2 ha
  obtain ⟨mm, Fm⟩ := I2.fr
  have hr1 : Room k X.A.in1 := Room.in1 hr
  exact sub_K Fm I2.ok.mod.kin J M.at_ hfn M.fn (wpAny_call (SlX.run_at (us := [.ref a, u]) (ws := [.ref a, y]) F hr1 I2.env0.in1 hx I2 (.cons rfl (.cons ry .nil)) q)) (hs _ _)
theorem r_ownIx {C a dx : Addr} {fs : List (Str × V)} {sp : Sp} {E : XK} {H : Hp} {Q : VK} {y : V} (ha : H a = some (.ins C dx fs)) (k : sp [.ref a, y] H Q E) : rOwnIx C sp E (.ref a) y H Q := ⟨a, dx, fs, rfl, ha, k⟩
/-- len(o) -/
def rOwnLen (C : Addr) (sp : Sp) (E : XK) : List V → Hp → VK → Prop := fun xs H Q => ∃ a dx fs, xs = [.ref a] ∧ H a = some (.ins C dx fs) ∧ sp [.ref a] H (fun v H' => ∃ n : Int, v = .int n ∧ 0 ≤ n ∧ n < 2 ^ 63 ∧ Q (.int n) H') E
theorem call_lenOwn (M : Meth X.K C "__len__" f) (F : FnR X.prog X.w X.K X.mg X.base CX k f sp) (hr : Room (k + 1) X.A) (hx : Passes CX X E) : CallR X (.builtin "len") (rOwnLen C sp E) := by
  intro pins s σ H xs us Q I r h
  obtain ⟨a, dx, fs, rfl, ha, q⟩ := h
  obtain ⟨u, rfl, ru⟩ := r.one
  obtain rfl : u = Value.ref a := ru
  obtain ⟨ox, od, J, _⟩ := inst_of I ha
  obtain ⟨mm, Fm⟩ := I.fr
  have hr1 : Room k X.A.in1 := Room.in1 hr
  refine len_K Fm I.ok.mod.kin J M.at_ M.fn (wpAny_mono (wpAny_call (SlX.run_at (us := [.ref a]) (ws := [.ref a]) F hr1 I.env0.in1 hx I (.cons rfl .nil) q)) (fun u' s' z => ?_) fun _ _ x => x)
  obtain ⟨z', H', I', rz, n, en, n0, n1, qz⟩ := z
  subst en
  obtain ⟨t, e⟩ := (show ∃ t, u' = Value.int n t from rz)
  subst e
  exact ⟨⟨n0, n1⟩, .int n, H', I'.tok _, ⟨_, rfl⟩, qz⟩
theorem r_ownLen {C a dx : Addr} {fs : List (Str × V)} {sp : Sp} {E : XK} {H : Hp} {Q : VK} (ha : H a = some (.ins C dx fs)) (k : sp [.ref a] H (fun v H' => ∃ n : Int, v = .int n ∧ 0 ≤ n ∧ n < 2 ^ 63 ∧ Q (.int n) H') E) : rOwnLen C sp E [.ref a] H Q := ⟨a, dx, fs, rfl, ha, k⟩
end
/-! ### o == y, y no object of an own class -/
inductive Oth (H : Hp) : V → String → Prop where
  | int (i : Int) : Oth H (.int i) "int"
  | str (z : Str) : Oth H (.str z) "str"
  | tup {a : Addr} {xs : List V} (e : H a = some (.tup xs)) : Oth H (.ref a) "tuple"
section
variable {X : Cx} {CX : CXT} {k : Nat} {C f : Addr} {sp : Sp} {E : XK}
theorem oth_looks {M : Model} {pins : List (Addr × Obj)} {σ : L2.St} {H : Hp} {s : Shared} {y : V} {u : Value} {T : String} (I : Inv X pins σ H s) (ry : RelV y u) (o : Oth H y T) : Looks M s.heap (typeOf u) (.type T) := by
  cases o with
  | int i => obtain ⟨t, e⟩ := (show ∃ t, u = Value.int i t from ry); subst e; exact Looks.of_pure rfl
  | str z => obtain ⟨t, e⟩ := (show ∃ t, u = Value.str z t from ry); subst e; exact Looks.of_pure rfl
  | @tup a xs e =>
    cases (show u = Value.ref a from ry)
    obtain ⟨_, _, _, o, h1, h2, _⟩ := (show ObjOk X.prog X.w H s.heap a (.tup xs) from I.hok a _ e)
    have z := (Looks.ld (M := M) (part := none) h1)
    exact fun A Q E s' k q => wpAny_typeOf_ref (k _ _ h1) (by rw [h2]; exact q)
def rOwnX (K : Frag) (C : Addr) (sp : Sp) (E : XK) : R2 := fun x y H Q => ∃ a dx fs T, x = .ref a ∧ H a = some (.ins C dx fs) ∧ Oth H y T ∧ subIn K (.type T) (.ref C) = some false ∧ sp [x, y] H Q E
theorem op_ownEqX {op : CmpOp} {m : Str} (M : Meth X.K C m f) (F : FnR X.prog X.w X.K X.mg X.base CX k f sp) (hr : Room k X.A) (hx : Passes CX X E) (hu : X.A.units < cLine) (hm : (cmpInfo op).2.1 = m := by rfl)
    (ho : ∀ a b, compareOp op a b = richCompare op a b := by intro _ _; rfl) : OpR X (compareOp op) (rOwnX X.K C sp E) := by
  intro pins s σ H x y v u Q I rx ry h
  obtain ⟨a, dx, fs, T, rfl, ha, oy, hs, q⟩ := h
  obtain rfl : v = Value.ref a := rx
  obtain ⟨ox, od, J, _⟩ := inst_of I ha
  obtain ⟨mm, Fm⟩ := I.fr
  rw [ho]
  refine cmp_K hu Fm I.ok.mod.kin J (oth_looks I ry oy) (by unfold notFirst; rw [hs]; simp) (by rw [hm]; exact M.at_) M.fn ?_
  exact wpAny_mono (run_own (vs := [.ref a, y]) F hr hx I (.cons rfl (.cons ry .nil)) q) (fun _ _ z => cmpBack z) fun _ _ e => e
theorem r_ownX {K : Frag} {C a dx : Addr} {fs : List (Str × V)} {sp : Sp} {E : XK} {H : Hp} {Q : VK} {y : V} {T : String} (ha : H a = some (.ins C dx fs)) (o : Oth H y T) (hs : subIn K (.type T) (.ref C) = some false) (k : sp [.ref a, y] H Q E) : rOwnX K C sp E (.ref a) y H Q := ⟨a, dx, fs, T, rfl, ha, o, hs, k⟩
end
end Ow
namespace Ow
open PySem PySem.Spec PyProof.Rows PyProof.V L2 StX
open PySem.W PySem.Calls
/-! ### C.m(..), m a static method of the class C -/
/-- C.m is a static method: its record at p, its def at g -/
structure SMet (K : PySem.W.Frag) (C : Addr) (mc : Value) (m : Str) (p g : Addr) : Prop where
  at_ : PySem.W.findCls K (.ref C) mc m = some (.get (.builtin "staticmethod.__get__") (.ref p) .none (.ref C))
  rc : ∃ rest, PySem.W.recIn K p "staticmethod" = some (.ref g :: rest)
  kp : PySem.W.keepIn K (.ref g) = true
section
variable {X : Cx} {CX : CXT} {k : Nat} {C p g : Addr} {mc : Value} {sp : Sp} {E : XK} {o e : Expr} {es : List Expr} {m : Str} {pos apos : Pos} {ta : TE} {t : TA} {pl : Sem Bool} {fd : FuncData} {ps : List Str} {dvs : List V} {ds : List Value}
variable {pins : List (Addr × Obj)} {σ : L2.St} {H : Hp} {s : Shared} {A : Around} {Ex : Value → Shared → Prop}
theorem getsmet_ok {b : Bool} {Q : Value → Shared → Prop} (I : Inv X pins σ H s) (r : ClX.CRead X.K C mc) (k : SMet X.K C mc m p g) (h : ∀ s', Inv X pins σ H s' → Q (.ref g) s') : wpAny (model X.prog X.w) A (getAttr (.ref C) m b) Q Ex s := by
  obtain ⟨rest, hp⟩ := k.rc
  refine PySem.W.cls_bind I.kIn r.rd k.at_ ?_
  exact wpAny_call (PySem.W.sm_get (s := { s with toks := s.toks + 1 }) I.kIn hp (PySem.W.handed_on rfl (h _ (I.tok _))))
def tSMeth (C : Addr) (sp : Sp) (dvs : List V) (E : XK) (ta : TE) (t : TA) : TE := fun σ H Q => ta σ H fun x H1 => x = .ref C ∧ t σ H1 fun vs H2 => sp (vs ++ dvs) H2 Q E
theorem pe_smeth (he : PE X o ta) (r : ClX.CRead X.K C mc) (c : SMet X.K C mc m p g) (F : FnOk X.prog X.w X.K X.mg X.base CX k g fd ps sp) (hr : Room k X.A) (hb : Binds X.K fd ps ds) (hd : Vals dvs ds) (hx : Passes CX X E) (ha : PA X (e :: es) t)
    (hst : starEach (e :: es) X.env = (false, eval e X.env) :: starEach es X.env := by rfl) (hpl : (backTo pos (starEach es X.env)).any (·.1) = false := by rfl)
    (ht : eval (.Call (.Attribute o m apos) (e :: es) [] pos) X.env = (do
      let ov ← eval o X.env
      standAt apos.atName
      let (f, first) ← holding [ov] (getMethod ov m pl)
      callWith pos f first (backTo pos (starEach (e :: es) X.env)) (backToKw pos (keywordEach [] X.env))) := by rfl) :
    PE X (.Call (.Attribute o m apos) (e :: es) [] pos) (tSMeth C sp dvs E ta t) := by
  refine ⟨fun pins s σ H Q I h => ?_⟩
  refine PySem.W.methodCall_KW (pl := pl) (thn (he.run pins s σ H _ I h) fun u s1 ⟨x, H1, I1, rx, ex, q⟩ => ?_) ht
  subst ex
  obtain rfl : u = Value.ref C := rx
  refine PySem.W.method_cls I1.kIn r.ga (getsmet_ok I1 r c fun s2 I2 => ?_)
  exact PySem.W.callWith_K (h₀ := X.base) I2.ok.mod.kin c.kp (thn (ha.run pos _ s2 σ H1 _ I2 q) fun us s3 ⟨vs, H2, I3, rv, q2⟩ => ⟨I3.kIn, run_fn F hr hb hd hx I3 rv q2⟩) hst hpl
theorem r_smeth {C : Addr} {sp : Sp} {dvs : List V} {E : XK} {ta : TE} {t : TA} {σ : L2.St} {H : Hp} {Q : VK} (k : ta σ H fun x H1 => x = .ref C ∧ t σ H1 fun vs H2 => sp (vs ++ dvs) H2 Q E) : tSMeth C sp dvs E ta t σ H Q := k
end
end Ow
namespace Ow
open PySem PySem.Spec PyProof.Rows PyProof.V L2 StX
open PySem.W PySem.Calls
/-! ### n + x -/
section
open PySem.Builtin
theorem int_add_own (a : Int) (t : Tok) (x C dx : Addr) :
    Meets (Builtin.«int.__add__» ⟨[.int a t, .ref x], []⟩) (fun _ R s => s.heap.get? x = some (PySem.W.instObj C dx) ∧ R (.ok (.ret Value.notImplemented)) s) :=
  .of_wp fun prog w A R s ⟨hl, h⟩ => by
    obtain ⟨hp, g, d, tk, os⟩ := s
    wp_walk
    exact ⟨_, rfl, h⟩
theorem int_declines_add {prog : Program} {w : World} {A : Around} {E : Value → Shared → Prop} {s : Shared} {x C dx : Addr} {i : Int} {t : Tok} {Q : Option Value → Shared → Prop} (hx : s.heap.get? x = some (instObj C dx)) (q : Q none s) :
    wpAny (model prog w) A (tryMethod (.int i t) (PySem.dunder "add") (.ref x)) Q E s := by
  have h1 := @decl_gen prog w A E s (.int i t) (.ref x) "int" "int.__add__" (PySem.dunder "add") Builtin.«int.__add__» Q
  have h2 := h1 (typeIs_int _ _ _) 
  have h3 := h2 PySem.F.slot_int_add
  have h4 := h3 PySem.F.entry_int_add 
  have h5 := h4 (PySem.F.args_int_add_2 _ _)
  refine h5 ?_
  exact (int_add_own i t x C dx prog w A (wants (fun v s' => v = Value.notImplemented ∧ Q none s') E) s ⟨hx, rfl, q⟩)
section
variable {prog : Program} {w : World} {A : Around} {E : Value → Shared → Prop} {s : Shared} {K : Frag} {x C dx f : Addr} {od : Obj}
theorem int_own_add {i : Int} {t : Tok} {g : Addr} {Q : Value → Shared → Prop} (X : K.In s.heap) (I : InstAt s.heap x (instObj C dx) C (some od)) (hc : selfFirst K C = true) (hm : findIn K (.ref C) "__add__" = some (some (.ref g)))
    (hs : findIn K (.ref C) "__radd__" = some (some (.ref f))) (hf : isFn K (.ref f) = true) (hsub : subIn K (.ref C) (.type "int") = some false) (h : wpAny (model prog w) A (call (.ref f) [.ref x, .int i t]) (PySem.W.CmpBack Q) E s) :
    wpAny (model prog w) A (binaryOp .Add (.int i t) (.ref x)) Q E s := by
  obtain ⟨cd, rest, hcd, hmro⟩ := ksp_first hc
  have one := ksp_try (name := "__radd__") X I hs hf h
  have L1 : Looks (model prog w) s.heap (typeOf (.int i t)) (.type "int") := Looks.of_pure rfl
  have L2 : Looks (model prog w) s.heap (typeOf (.ref x)) (.ref C) := I.type
  obtain ⟨hh, g', d, tt, os⟩ := s
  have L3 : Looks (model prog w) hh (fillsNumberSlot (.type "int") "add") true := Looks.of_pure PySem.F.fills_int_add
  have L4 : Looks (model prog w) hh (fillsNumberSlot (.ref C) "add") true := fills_K X hcd hmro hm
  have L5 : Looks (model prog w) hh (isSubtype (.ref C) (.type "int")) false := looks_subIn X hsub
  have L7 : Looks (model prog w) hh (numberSlotInPython (.type "int") "add") false := Looks.of_pure rfl
  have hne : (Value.type "int" == Value.ref C) = false := Bool.eq_false_iff.mpr fun q => by cases beq_iff_eq.mp q
  unfold binaryOp binaryOp1
  refine wpAny_holding (wpAny_bind ?_)
  refine wpAny_bind (L1.at (wpAny_bind (L2.at (wpAny_bind (L3.at ?_)))))
  simp only [hne, Bool.false_eq_true, if_false]
  ksp_lk
  refine int_declines_add I.at_ ?_
  ksp_lk
  refine wpAny_mono one (fun r s' hr' => ?_) fun _ _ e => e
  obtain ⟨v, rfl, hq⟩ := hr'
  ksp_lk
  exact hq
end
end
section
variable {X : Cx} {CX : CXT} {k : Nat} {C f : Addr} {sp : Sp} {E : XK}
theorem op_intAdd {g : Addr} (sf : selfFirst X.K C = true) (M0 : Meth X.K C "__add__" g) (M : Meth X.K C "__radd__" f) (hs : subIn X.K (.ref C) (.type "int") = some false) (F : FnR X.prog X.w X.K X.mg X.base CX k f sp) (hr : Room k X.A) (hx : Passes CX X E) : OpR X (binaryOp .Add) (rIntOwn C sp E) := by
  intro pins s σ H x y v u Q I rx ry h
  obtain ⟨b, dx, fs, n, rfl, rfl, hb, q⟩ := h
  obtain ⟨t, rfl⟩ := rx
  obtain rfl : u = Value.ref b := ry
  obtain ⟨mA, O, _⟩ := ins_get I.hok hb
  obtain ⟨od, J, _⟩ := O.look
  exact int_own_add I.kIn J sf M0.at_ M.at_ M.fn hs (wpAny_mono (run_own (vs := [.ref b, .int n]) F hr hx I (.cons rfl (.cons ⟨t, rfl⟩ .nil)) q) (fun _ _ z => cmpBack z) fun _ _ e => e)
end
/-! ### n - x -/
section
open PySem.Builtin
theorem int_sub_own (a : Int) (t : Tok) (x C dx : Addr) :
    Meets (Builtin.«int.__sub__» ⟨[.int a t, .ref x], []⟩) (fun _ R s => s.heap.get? x = some (PySem.W.instObj C dx) ∧ R (.ok (.ret Value.notImplemented)) s) :=
  .of_wp fun prog w A R s ⟨hl, h⟩ => by
    obtain ⟨hp, g, d, tk, os⟩ := s
    wp_walk
    exact ⟨_, rfl, h⟩
theorem int_declines_sub {prog : Program} {w : World} {A : Around} {E : Value → Shared → Prop} {s : Shared} {x C dx : Addr} {i : Int} {t : Tok} {Q : Option Value → Shared → Prop} (hx : s.heap.get? x = some (instObj C dx)) (q : Q none s) :
    wpAny (model prog w) A (tryMethod (.int i t) (PySem.dunder "sub") (.ref x)) Q E s := by
  have h1 := @decl_gen prog w A E s (.int i t) (.ref x) "int" "int.__sub__" (PySem.dunder "sub") Builtin.«int.__sub__» Q
  have h2 := h1 (typeIs_int _ _ _) 
  have h3 := h2 PySem.F.slot_int_sub
  have h4 := h3 PySem.F.entry_int_sub 
  have h5 := h4 (PySem.F.args_int_sub_2 _ _)
  refine h5 ?_
  exact (int_sub_own i t x C dx prog w A (wants (fun v s' => v = Value.notImplemented ∧ Q none s') E) s ⟨hx, rfl, q⟩)
section
variable {prog : Program} {w : World} {A : Around} {E : Value → Shared → Prop} {s : Shared} {K : Frag} {x C dx f : Addr} {od : Obj}
theorem int_own_sub {i : Int} {t : Tok} {g : Addr} {Q : Value → Shared → Prop} (X : K.In s.heap) (I : InstAt s.heap x (instObj C dx) C (some od)) (hc : selfFirst K C = true) (hm : findIn K (.ref C) "__sub__" = some (some (.ref g)))
    (hs : findIn K (.ref C) "__rsub__" = some (some (.ref f))) (hf : isFn K (.ref f) = true) (hsub : subIn K (.ref C) (.type "int") = some false) (h : wpAny (model prog w) A (call (.ref f) [.ref x, .int i t]) (PySem.W.CmpBack Q) E s) :
    wpAny (model prog w) A (binaryOp .Sub (.int i t) (.ref x)) Q E s := by
  obtain ⟨cd, rest, hcd, hmro⟩ := ksp_first hc
  have one := ksp_try (name := "__rsub__") X I hs hf h
  have L1 : Looks (model prog w) s.heap (typeOf (.int i t)) (.type "int") := Looks.of_pure rfl
  have L2 : Looks (model prog w) s.heap (typeOf (.ref x)) (.ref C) := I.type
  obtain ⟨hh, g', d, tt, os⟩ := s
  have L3 : Looks (model prog w) hh (fillsNumberSlot (.type "int") "sub") true := Looks.of_pure PySem.F.fills_int_sub
  have L4 : Looks (model prog w) hh (fillsNumberSlot (.ref C) "sub") true := fills_K X hcd hmro hm
  have L5 : Looks (model prog w) hh (isSubtype (.ref C) (.type "int")) false := looks_subIn X hsub
  have L7 : Looks (model prog w) hh (numberSlotInPython (.type "int") "sub") false := Looks.of_pure rfl
  have hne : (Value.type "int" == Value.ref C) = false := Bool.eq_false_iff.mpr fun q => by cases beq_iff_eq.mp q
  unfold binaryOp binaryOp1
  refine wpAny_holding (wpAny_bind ?_)
  refine wpAny_bind (L1.at (wpAny_bind (L2.at (wpAny_bind (L3.at ?_)))))
  simp only [hne, Bool.false_eq_true, if_false]
  ksp_lk
  refine int_declines_sub I.at_ ?_
  ksp_lk
  refine wpAny_mono one (fun r s' hr' => ?_) fun _ _ e => e
  obtain ⟨v, rfl, hq⟩ := hr'
  ksp_lk
  exact hq
end
end
section
variable {X : Cx} {CX : CXT} {k : Nat} {C f : Addr} {sp : Sp} {E : XK}
theorem op_intSub {g : Addr} (sf : selfFirst X.K C = true) (M0 : Meth X.K C "__sub__" g) (M : Meth X.K C "__rsub__" f) (hs : subIn X.K (.ref C) (.type "int") = some false) (F : FnR X.prog X.w X.K X.mg X.base CX k f sp) (hr : Room k X.A) (hx : Passes CX X E) : OpR X (binaryOp .Sub) (rIntOwn C sp E) := by
  intro pins s σ H x y v u Q I rx ry h
  obtain ⟨b, dx, fs, n, rfl, rfl, hb, q⟩ := h
  obtain ⟨t, rfl⟩ := rx
  obtain rfl : u = Value.ref b := ry
  obtain ⟨mA, O, _⟩ := ins_get I.hok hb
  obtain ⟨od, J, _⟩ := O.look
  exact int_own_sub I.kIn J sf M0.at_ M.at_ M.fn hs (wpAny_mono (run_own (vs := [.ref b, .int n]) F hr hx I (.cons rfl (.cons ⟨t, rfl⟩ .nil)) q) (fun _ _ z => cmpBack z) fun _ _ e => e)
end
end Ow
namespace Dt
open PySem PySem.Spec PyProof.Rows PyProof.V L2 StX
/-! ### an object called within a try -/
section
variable {X : Cx} {CX : CXT} {C g : Addr} {k : Nat} {sp : Sp} {fe e : Expr} {es : List Expr} {tf : TE} {t : TA} {pos : Pos} {pins : List (Addr × Obj)} {σ : L2.St} {H : Hp} {s : Shared}
theorem run_fnRD {E : XK} {f : Addr} {Q : VK} {us : List Value} {vs : List V} (F : FnR X.prog X.w X.K X.mg X.base CX k f sp) (hr : Room k X.A) (hx : PassesAt CX X σ E) (I : Inv X pins σ H s) (r : L2.Vals vs us) (h : sp vs H Q E) :
    codeAny (model X.prog X.w) X.A (.call (.ref f) ⟨us, []⟩) (fun r s' => match r with | .ok (.ret v) => EP X pins σ Q v s' | .ok _ => False | .error e => X.xe e s') s := by
  refine codeAny_mono (F X.A X.stack s H us vs Q E hr I.env0 r h) fun r s' hq => ?_
  cases r with
  | error e => exact hx pins H s e s' I hq
  | ok fl =>
    cases fl with
    | ret v => exact I.after hq
    | next => exact False.elim hq
    | brk => exact False.elim hq
    | cont => exact False.elim hq
def tCallOSD (C : Addr) (sp : Sp) (E : L2.St → XK) (tf : TE) (t : TA) : TE := fun σ H Q => tf σ H fun y H1 => ∃ a, y = V.ref a ∧ t σ H1 fun vs H2 => (∃ dx fs, H2 a = some (.ins C dx fs)) ∧ sp (V.ref a :: vs) H2 Q (E σ)
theorem pe_callOSD {E : L2.St → XK} (hf : PE X fe tf) (c : CallO X.K C g) (F : FnR X.prog X.w X.K X.mg X.base CX k g sp) (hr : Room k X.A) (hx : ∀ σ, PassesAt CX X σ (E σ)) (ha : PA X (e :: es) t)
    (ht : eval (.Call fe (e :: es) [] pos) X.env = (do callWith pos (← eval fe X.env) [] (backTo pos (starEach (e :: es) X.env)) (backToKw pos (keywordEach [] X.env))) := by rfl)
    (he : starEach (e :: es) X.env = (false, eval e X.env) :: starEach es X.env := by rfl) (hpl : (backTo pos (starEach es X.env)).any (·.1) = false := by rfl) : PE X (.Call fe (e :: es) [] pos) (tCallOSD C sp E tf t) := by
  refine ⟨fun pins s σ H Q I h => ?_⟩
  refine Call_ (thn (hf.run pins s σ H _ I h) fun u s1 ⟨y, H1, I1, ry, a, ey, q⟩ => ?_) ht
  subst ey
  obtain rfl : u = Value.ref a := ry
  refine callO_with (thn (ha.run pos pins s1 σ H1 _ I1 q) fun us s2 ⟨vs, H2, I2, r, hi, q2⟩ => ?_) he hpl
  obtain ⟨ox, od, J, hd⟩ := insC_at I2 (.inr hi)
  exact ⟨⟨C, ox, od, J, hd⟩, wpAny_call (PySem.W.kco_code I2.kIn J hd c.at_ c.fn c.fi (run_fnRD (us := .ref a :: us) (vs := .ref a :: vs) F hr (hx σ) I2 (.cons rfl r) q2))⟩
theorem r_callOSD {E : L2.St → XK} {Q : VK} (k : tf σ H fun y H1 => ∃ a, y = V.ref a ∧ t σ H1 fun vs H2 => (∃ dx fs, H2 a = some (.ins C dx fs)) ∧ sp (V.ref a :: vs) H2 Q (E σ)) : tCallOSD C sp E tf t σ H Q := k
end
end Dt
namespace Kw
open PySem PySem.Spec PyProof.Rows PyProof.V L2 StX
/-! ### def f(*a, **k), called with keywords -/
theorem push_update {h : Heap} {o : Obj} {f : Obj → Obj} : (h.push o).update h.objs.size f = h.push (f o) := by
  cases h with
  | mk objs l =>
    show Heap.mk ((objs.push o).modify objs.size f) l = Heap.mk (objs.push (f o)) l
    congr 1
    apply Array.ext
    · simp
    · intro i h1 h2
      simp only [Array.getElem_modify, Array.getElem_push]
      by_cases e : i < objs.size
      · rw [dif_pos e, dif_pos e, if_neg (by omega)]
      · rw [dif_neg e, dif_neg e, if_pos (by simp at h2; omega)]
section
variable {prog : Program} {w : World} {A : Around} {E : Value → Shared → Prop}
theorem ns_step {h : Heap} {s : Shared} {es : List DictEntry} {n : Nat} {k : Str} {v : Value} {Q : Unit → Shared → Prop} (hh : s.heap = h.push (PySem.W.dictOf es n))
    (hs : ∀ e ∈ es, e.key.isStr k = false) (hr : ∀ e ∈ es, e.refKey = false)
    (q : Q () { s with heap := h.push (PySem.W.dictOf (es ++ [⟨PyData.keyHash w.params k, .str k s.toks, v⟩]) (n + 1)), toks := s.toks + 1 }) :
    wpAny (model prog w) A (nsSet h.objs.size k v) Q E s := by
  have e1 : es.any (·.key.isStr k) = false := by
    cases q : es.any (·.key.isStr k) with
    | false => rfl
    | true => obtain ⟨e, he, z⟩ := List.any_eq_true.mp q; rw [hs e he] at z; cases z
  have e2 : es.any (·.refKey) = false := by
    cases q : es.any (·.refKey) with
    | false => rfl
    | true => obtain ⟨e, he, z⟩ := List.any_eq_true.mp q; rw [hr e he] at z; cases z
  have e : Obj.putName k (PyData.keyHash w.params k) (.str k s.toks) v (PySem.W.dictOf es n) = PySem.W.dictOf (es ++ [⟨PyData.keyHash w.params k, .str k s.toks, v⟩]) (n + 1) := by
    rw [PySem.W.putName_dict, PySem.W.putL_new hs]
    show PySem.W.dictOf _ (if es.any (·.key.isStr k) then n else n + 1) = _
    rw [e1, if_neg Bool.false_ne_true]
  have D : s.heap.get? h.objs.size = some (PySem.W.dictOf es n) := by rw [hh]; exact Heap.get?_push_size _ rfl
  have c : aRefKeyMayBeTheName k es.toArray = false := by
    rw [PySem.aRefKeyMayBeTheName_at, ← Array.any_toList, ← Array.any_toList]
    show (!es.any (·.key.isStr k) && es.any (·.refKey)) = false
    rw [e2, Bool.and_false]
  unfold nsSet
  refine wpAny_bind (wpAny_bind (wpAny_askSetting (wpAny_pure (wpAny_bind (wpAny_mkText (wpAny_bind (wpAny_loadPart D ?_)))))))
  dsimp only
  rw [c]
  refine wpAny_updatePart D ?_
  show Q () { s with heap := s.heap.update h.objs.size _, toks := s.toks + 1 }
  rw [hh, push_update]
  show Q () { s with heap := h.push (Obj.putName k (PyData.keyHash w.params k) (.str k s.toks) v (PySem.W.dictOf es n)), toks := s.toks + 1 }
  rw [e]
  exact q
theorem fill {Q : PUnit → Shared → Prop} {h : Heap} : ∀ (ex : List (Str × Value)) (s : Shared) (es : List DictEntry) (n : Nat), s.heap = h.push (PySem.W.dictOf es n) →
    (∀ e ∈ es, ∀ x ∈ ex, e.key.isStr x.1 = false) → (∀ e ∈ es, e.refKey = false) → (ex.map (·.1)).Nodup →
    Q ⟨⟩ { s with heap := h.push (PySem.W.dictOf (es ++ PySem.W.kwEs w.params s.toks ex) (n + ex.length)), toks := s.toks + ex.length } →
    wpAny (model prog w) A (forIn ex PUnit.unit fun x _ => (nsSet h.objs.size x.1 x.2 >>= fun _ => pure (ForInStep.yield PUnit.unit))) Q E s
  | [], s, es, n, hh, _, _, _, q => by
    rw [List.forIn_nil]
    refine wpAny_pure ?_
    have e : s = { s with heap := h.push (PySem.W.dictOf (es ++ PySem.W.kwEs w.params s.toks []) (n + 0)), toks := s.toks + 0 } := by
      show s = { s with heap := h.push (PySem.W.dictOf (es ++ []) (n + 0)), toks := s.toks + 0 }
      rw [List.append_nil, Nat.add_zero, Nat.add_zero, ← hh]
    rw [e]; exact q
  | x :: r, s, es, n, hh, hs, hr, hn, q => by
    obtain ⟨hn1, hn2⟩ := List.nodup_cons.mp (show (x.1 :: r.map (·.1)).Nodup from hn)
    rw [List.forIn_cons]
    refine wpAny_bind (wpAny_bind (ns_step hh (fun e he => hs e he x (.head _)) hr (wpAny_pure ?_)))
    show wpAny (model prog w) A (forIn r PUnit.unit fun x _ => (nsSet h.objs.size x.1 x.2 >>= fun _ => pure (ForInStep.yield PUnit.unit))) Q E _
    refine fill r _ (es ++ [⟨PyData.keyHash w.params x.1, .str x.1 s.toks, x.2⟩]) (n + 1) rfl (fun e he y hy => ?_) (fun e he => ?_) hn2 ?_
    · rcases List.mem_append.mp he with he | he
      · exact hs e he y (.tail _ hy)
      · obtain rfl := List.mem_singleton.mp he
        show (x.1 == y.1) = false
        exact beq_eq_false_iff_ne.mpr fun q => hn1 (by rw [q]; exact List.mem_map_of_mem hy)
    · rcases List.mem_append.mp he with he | he
      · exact hr e he
      · obtain rfl := List.mem_singleton.mp he
        rfl
    · have t1 : s.toks + 1 + r.length = s.toks + (r.length + 1) := by omega
      have t2 : n + 1 + r.length = n + (r.length + 1) := by omega
      show Q ⟨⟩ { s with heap := h.push (PySem.W.dictOf ((es ++ [_]) ++ PySem.W.kwEs w.params (s.toks + 1) r) (n + 1 + r.length)), toks := s.toks + 1 + r.length }
      rw [t1, t2, List.append_assoc]
      exact q
end
/-- the keywords as the dict holds them -/
def kwD (ks : List Str) (zs : List V) : List (Key × V) := (ks.map (Sum.inr (α := Int))).zip zs
section
variable {P : Program} {w : World} {H : Hp}
theorem kw_kv : ∀ {ks : List Str} {zs : List V} {ws : List Value}, L2.Vals zs ws → KV (kwD ks zs) ((ks.map (Sum.inr (α := Int))).zip ws)
  | [], _, _, _ => .nil
  | _ :: _, [], [], _ => .nil
  | k :: ks, z :: zs, w :: ws, .cons a r => .cons ⟨rfl, a⟩ (kw_kv (ks := ks) r)
theorem kw_pairs : ∀ {ks : List Str} {ws : List Value} {t : Tok}, ks.length = ws.length → Pairs (mixKind P w) (PySem.W.kwEs w.params t (ks.zip ws)) ((ks.map (Sum.inr (α := Int))).zip ws)
  | [], [], _, _ => .nil
  | k :: ks, v :: ws, t, h => .cons (keyIs_str k t) rfl (kw_pairs (by simpa using h))
theorem kw_keys {ks : List Str} {ws : List Value} (h : ks.length = ws.length) : ((ks.map (Sum.inr (α := Int))).zip ws).map (·.1) = ks.map Sum.inr := by
  rw [List.map_fst_zip]; rw [List.length_map]; omega
theorem dk_filled {h : Heap} {ks : List Str} {zs : List V} {ws : List Value} {t : Tok} {n : Nat} (hb : sysModules < h.objs.size) (hl : ks.length = ws.length) (nd : ks.Nodup) (hz : ks.length ≤ sizeLine) (r : L2.Vals zs ws) :
    ObjOk P w H (h.push (PySem.W.dictOf (PySem.W.kwEs w.params t (ks.zip ws)) n)) h.objs.size (.dK (kwD ks zs)) := by
  refine ⟨?_, beq_eq_false_iff_ne.mpr (Ne.symm (Nat.ne_of_lt hb)), _, kw_kv r, Heap.dictOf_iff.mpr ⟨_, Heap.get?_push_size _ rfl, (PySem.W.kwEs w.params t (ks.zip ws)).toArray, n, ⟨rfl, rfl, rfl⟩, rfl, fun e he => ?_, kw_pairs hl, ?_⟩⟩
  · unfold kwD; rw [List.length_zip, List.length_map]; omega
  · obtain ⟨k, u, hk, hh⟩ := PySem.W.kwEs_key (ks.zip ws) t e (List.mem_toArray.mp he)
    exact ⟨Sum.inr k, by rw [hk]; exact keyIs_str k u, hh.trans rfl⟩
  · rw [kw_keys hl]
    exact List.Pairwise.map _ (fun (a b : Str) (e : a ≠ b) (g : (Sum.inr a : Key) = Sum.inr b) => e (Sum.inr.inj g)) nd
end
/-- a call with the keywords ks -/
def FnKw (P : Program) (w : World) (K : PySem.W.Frag) (mg : Str → Option Value) (base : Heap) (CX : CXT) (k : Nat) (f : Addr) (ks : List Str) (sp : List V → List V → Hp → VK → XK → Prop) : Prop :=
  ∀ (A : Around) (outer : List Env) (s : Shared) (H : Hp) (us ws : List Value) (vs zs : List V) (Q : VK) (E : XK), Room k A → Env0 P w K mg base A outer s H → L2.Vals vs us → L2.Vals zs ws → zs.length = ks.length → sp vs zs H Q E →
    codeAny (model P w) A (.call (.ref f) ⟨us, ks.zip ws⟩) (CR CX outer P w H s Q E) s
section
variable {P : Program} {w : World} {K : PySem.W.Frag} {mg : Str → Option Value} {base : Heap} {CX : CXT} {k : Nat} {f : Addr} {name qual : Str} {params : Arguments} {body : List Stmt} {scope : Scope} {dV kV doc pm cdv ct oc : Value} {an od : Option Addr} {osl : Array (Option Value)} {N : List Str} {sp : Sp}
theorem fn_kw {pv pd : Str} {ks : List Str} (lk : K.lookup f = some ⟨oc, od, .func (PySem.W.fnOf name qual params body scope dV kV doc pm an cdv ct), osl⟩) (hcd : PySem.W.codeIn K cdv qual = true) (S : FnScope N [pv, pd] scope) (hCX : CXUp CX) (nd : ks.Nodup) (hkz : ks.length ≤ sizeLine)
    (hb : ∀ us ws : List Value, ws.length = ks.length → bindArgs (PySem.W.fnOf name qual params body scope dV kV doc pm an cdv ct) ⟨us, ks.zip ws⟩ =
      (newTuple us >>= fun t => (alloc ({ cls := .type "dict", data := .dict #[] } : Obj) : Sem Addr) >>= fun d => (forIn (ks.zip ws) PUnit.unit fun x _ => (nsSet d x.1 x.2 >>= fun _ => pure (ForInStep.yield PUnit.unit))) >>= fun _ => pure [(pv, t), (pd, Value.ref d)]))
    (hbody : ∀ (A : Around) (outer : List Env) (s : Shared) (H : Hp) (vs : List V) (Q : VK) (E : XK), Room k (A.deeper (envOfC qual scope s.heap.objs.size f cdv)) → sp vs H Q E →
      ∃ t, PSs (cxOf CX P w K mg base N qual scope f cdv A outer s H E) body t ∧ t { nx := fun _ H' => Q .non H', rt := Q } (start N vs) H) :
    FnKw P w K mg base CX (k + 1) f ks (fun vs zs H Q E => vs.length ≤ sizeLine ∧ ∀ p d, H p = Option.none → H d = Option.none → d ≠ p → sp [V.ref p, V.ref d] (upd (upd H p (.tup vs)) d (.dK (kwD ks zs))) Q E) := by
  intro A outer s H us ws vs zs Q E hr e0 r rz hl ⟨hz, hq⟩
  have hn : H s.heap.objs.size = Option.none := e0.hok.fresh (Nat.le_refl _)
  have hl2 : us.length ≤ sizeLine := by rw [← r.length]; exact hz
  have hlw : ws.length = ks.length := by rw [← rz.length]; exact hl
  refine run_bnd lk hcd S hr e0 (G := fun xs H2 => ∃ p d, H p = Option.none ∧ H d = Option.none ∧ d ≠ p ∧ xs = [V.ref p, V.ref d] ∧ H2 = upd (upd H p (.tup vs)) d (.dK (kwD ks zs))) (fun A' Ex Q' h => ?_) fun s2 H2 xs ⟨p, d, hp, hd, hne, ex, eH⟩ hr' => ?_
  · rw [hb us ws hlw]
    refine wpAny_bind (wpAny_newTuple (wpAny_bind (wpAny_alloc ?_)) hl2)
    have new : ObjOk P w (upd H s.heap.objs.size (.tup vs)) (s.heap.push ({ cls := .type "tuple", data := .seq us.toArray } : Obj)) s.heap.objs.size (.tup vs) := ⟨hz, us, r, ⟨_, Heap.get?_push_size _ rfl, rfl, _, rfl⟩⟩
    have e1 := env0_laid e0 new
    have un1 := un_laid (fs := frs outer) (s := s) (o := ({ cls := .type "tuple", data := .seq us.toArray } : Obj)) (u := .tup vs) hn
    have hn2 := e1.hok.fresh (Nat.le_refl _)
    refine wpAny_bind (fill (h := s.heap.push ({ cls := .type "tuple", data := .seq us.toArray } : Obj)) (ks.zip ws) _ [] 0 rfl (fun _ he => nomatch he) (fun _ he => nomatch he) (by rw [List.map_fst_zip (by omega)]; exact nd) (wpAny_pure ?_))
    have e2 := env0_laid (u := .dK (kwD ks zs)) (o := PySem.W.dictOf ([] ++ PySem.W.kwEs w.params s.toks (ks.zip ws)) (0 + (ks.zip ws).length)) e1 (dk_filled (env0_big e1) hlw.symm nd hkz rz)
    have un2 := un1.trans (un_laid (fs := frs outer) (s := { s with heap := s.heap.push ({ cls := .type "tuple", data := .seq us.toArray } : Obj) }) (o := PySem.W.dictOf ([] ++ PySem.W.kwEs w.params s.toks (ks.zip ws)) (0 + (ks.zip ws).length)) (u := .dK (kwD ks zs)) hn2)
    have sz : (s.heap.push ({ cls := .type "tuple", data := .seq us.toArray } : Obj)).objs.size = s.heap.objs.size + 1 := Heap.size_push _ _
    have ne : (s.heap.push ({ cls := .type "tuple", data := .seq us.toArray } : Obj)).objs.size ≠ s.heap.objs.size := by
      rw [sz]
      exact Nat.succ_ne_self _
    have hd : H (s.heap.push ({ cls := .type "tuple", data := .seq us.toArray } : Obj)).objs.size = Option.none := e0.hok.fresh (by rw [sz]; exact Nat.le_succ _)
    exact h _ _ [V.ref s.heap.objs.size, V.ref (s.heap.push ({ cls := .type "tuple", data := .seq us.toArray } : Obj)).objs.size] [Value.ref s.heap.objs.size, Value.ref (s.heap.push ({ cls := .type "tuple", data := .seq us.toArray } : Obj)).objs.size] ⟨e2.frames, e2.mod, e2.bs, e2.bsz, e2.funs, e2.frf, e2.hok, e2.bare⟩ un2 rfl
      (fun e s' => hCX outer s H _ _ E e s' un2 (fun b o q => Heap.get?_push_of_some _ (Heap.get?_push_of_some _ q)) rfl) (.cons rfl (.cons rfl .nil)) rfl ⟨_, _, hn, hd, ne, rfl, rfl⟩
  · subst ex eH
    exact hbody A outer s2 _ _ Q E hr' (hq p d hp hd hne)
end
/-! ### the call, in plain code and within a try -/
def tCallKw (m : Nat) (sp : List V → List V → Hp → VK → XK → Prop) (E : L2.St → XK) (t tk : TA) : TE := fun σ H Q => t σ H fun vs H1 => tk σ H1 fun zs H2 => zs.length = m ∧ sp vs zs H2 Q (E σ)
section
variable {X : Cx} {CX : CXT} {k : Nat} {f : Addr} {ks : List Str} {sp : List V → List V → Hp → VK → XK → Prop} {x : Str} {p pos : Pos} {e : Expr} {es : List Expr} {kws : List Keyword} {t tk : TA}
theorem run_fnKw {E : XK} {pins : List (Addr × Obj)} {σ : L2.St} {H : Hp} {s : Shared} {Q : VK} {us ws : List Value} {vs zs : List V} (F : FnKw X.prog X.w X.K X.mg X.base CX k f ks sp) (hr : Room k X.A) (hx : PassesAt CX X σ E)
    (I : Inv X pins σ H s) (r : L2.Vals vs us) (rz : L2.Vals zs ws) (l2 : zs.length = ks.length) (h : sp vs zs H Q E) : wpAny (model X.prog X.w) X.A (call (.ref f) us (ks.zip ws)) (EP X pins σ Q) X.xe s := by
  refine wpAny_call (codeAny_mono (F X.A X.stack s H us ws vs zs Q E hr I.env0 r rz l2 h) fun r s' hq => ?_)
  cases r with
  | error e => exact hx pins H s e s' I hq
  | ok fl =>
    cases fl with
    | ret u => exact I.after hq
    | next => exact False.elim hq
    | brk => exact False.elim hq
    | cont => exact False.elim hq
theorem pe_callKw {E : L2.St → XK} (F : FnKw X.prog X.w X.K X.mg X.base CX k f ks sp) (hr : Room k X.A) (hg : Gl X x) (hm : X.mg x = some (.ref f)) (hk : PySem.W.keepIn X.K (.ref f) = true) (hx : ∀ σ, PassesAt CX X σ (E σ))
    (ha : PA X (e :: es) t) (hkw : PK X kws tk) (hall : (backToKw pos (keywordEach kws X.env)).all (·.1.isSome) = true := by rfl) (hks : (backToKw pos (keywordEach kws X.env)).filterMap (·.1) = ks := by rfl)
    (hdb : (x == ("__debug__" : Str)) = false := by decide) (he : starEach (e :: es) X.env = (false, eval e X.env) :: starEach es X.env := by rfl)
    (hpl : ((backTo pos (starEach (e :: es) X.env)).any (·.1) || (backToKw pos (keywordEach kws X.env)).any (·.1.isNone)) = false := by rfl) :
    PE X (.Call (.Name x p) (e :: es) kws pos) (tCallKw ks.length sp E t tk) := by
  refine ⟨fun pins s σ H Q I h => ?_⟩
  refine wpAny_Call_Name_kw (ld_glob I hg hm ?_ hdb)
  refine PySem.W.callWith_KW (h₀ := X.base) I.ok.mod.kin hk hall (thn (ha.run pos pins s σ H _ I h) fun us s1 ⟨vs, H1, I1, r, q⟩ => ?_) hpl he
  refine thn (hkw.run pos pins s1 σ H1 _ I1 q) fun ws s2 ⟨zs, H2, I2, rz, l2, q2⟩ => ⟨I2.kIn, ?_⟩
  rw [hks]
  exact run_fnKw F hr (hx σ) I2 r rz l2 q2
theorem pe_callKw0 {E : L2.St → XK} (F : FnKw X.prog X.w X.K X.mg X.base CX k f ks sp) (hr : Room k X.A) (hg : Gl X x) (hm : X.mg x = some (.ref f)) (hk : PySem.W.keepIn X.K (.ref f) = true) (hx : ∀ σ, PassesAt CX X σ (E σ))
    (hkw : PK X kws tk) (hall : (backToKw pos (keywordEach kws X.env)).all (·.1.isSome) = true := by rfl) (hks : (backToKw pos (keywordEach kws X.env)).filterMap (·.1) = ks := by rfl)
    (hdb : (x == ("__debug__" : Str)) = false := by decide)
    (hpl : ((backTo pos (starEach [] X.env)).any (·.1) || (backToKw pos (keywordEach kws X.env)).any (·.1.isNone)) = false := by rfl) :
    PE X (.Call (.Name x p) [] kws pos) (tCallKw ks.length sp E tNil tk) := by
  refine ⟨fun pins s σ H Q I h => ?_⟩
  refine wpAny_Call_Name_kw (ld_glob I hg hm ?_ hdb)
  refine PySem.W.callWith_KW0 (h₀ := X.base) I.ok.mod.kin hk hall (thn (hkw.run pos pins s σ H _ I h) fun ws s2 ⟨zs, H2, I2, rz, l2, q2⟩ => ⟨I2.kIn, ?_⟩) hpl
  rw [hks]
  exact run_fnKw (us := []) (vs := []) F hr (hx σ) I2 .nil rz l2 q2
theorem r_callKw {vs : List V} {E : L2.St → XK} {m : Nat} {σ : L2.St} {H : Hp} {Q : VK} (k : t σ H fun vs H1 => tk σ H1 fun zs H2 => zs.length = m ∧ sp vs zs H2 Q (E σ)) : tCallKw m sp E t tk σ H Q := k
/-- the context where nothing gets out, for every σ -/
theorem passAt0 {X : Cx} {E : L2.St → XK} (σ : L2.St) : PassesAt CX0 X σ (E σ) := fun _ _ _ _ _ _ h => False.elim h
end
end Kw
namespace Kw
open PySem PySem.Spec PyProof.Rows PyProof.V L2 StX
section
variable {P : Program} {w : World} {K : PySem.W.Frag} {mg : Str → Option Value} {base : Heap} {x qual : Str} {st : Stmt} {f : Addr} {fd : FuncData} {N : List Str} {k : Nat} {sp : Sp} {pv pd : Str} {ks : List Str}
/-- what binding does: a new tuple, a new dict, filled -/
def KwTo (pv pd : Str) (us : List Value) (kw : List (Str × Value)) : Sem (List (Str × Value)) :=
  newTuple us >>= fun t => (alloc ({ cls := .type "dict", data := .dict #[] } : Obj) : Sem Addr) >>= fun d => (forIn kw PUnit.unit fun x _ => (nsSet d x.1 x.2 >>= fun _ => pure (ForInStep.yield PUnit.unit))) >>= fun _ => pure [(pv, t), (pd, Value.ref d)]
def KwB (x qual : Str) (st : Stmt) (pv pd : Str) (ks : List Str) : Prop := ∀ (kV doc pm : Value) (an : Option Addr) (cdv ct : Value) (us ws : List Value), ws.length = ks.length →
  bindArgs (PySem.W.fnOf x qual (defArgs st) (defBody st) (defScope st) .none kV doc pm an cdv ct) ⟨us, ks.zip ws⟩ = KwTo pv pd us (ks.zip ws)
def kwSp (ks : List Str) (sp : Sp) : List V → List V → Hp → VK → XK → Prop := fun vs zs H Q E => vs.length ≤ sizeLine ∧ ∀ p d, H p = Option.none → H d = Option.none → d ≠ p → sp [V.ref p, V.ref d] (upd (upd H p (.tup vs)) d (.dK (kwD ks zs))) Q E
theorem Fun.okKw (F : Fun K x qual st f fd) (S : FnScope N [pv, pd] (defScope st)) (nd : ks.Nodup) (hkz : ks.length ≤ sizeLine) (hb : KwB x qual st pv pd ks)
    (hbody : ∀ (cdv : Value) (A : Around) (outer : List Env) (s : Shared) (H : Hp) (vs : List V) (Q : VK) (E : XK), Room k (A.deeper (envOfC qual (defScope st) s.heap.objs.size f cdv)) → sp vs H Q E →
      ∃ t, PSs (cxOf CX0 P w K mg base N qual (defScope st) f cdv A outer s H E).nox (defBody st) t ∧ t { nx := fun _ H' => Q .non H', rt := Q } (start N vs) H) : FnKw P w K mg base CX0 (k + 1) f ks (kwSp ks sp) := by
  obtain ⟨oc, od, kV, doc, pm, an, cdv, ct, osl, rfl, lk, hcd⟩ := F.ex
  refine fn_kw lk hcd S cxUp_none nd hkz (fun us ws h => hb kV doc pm an cdv ct us ws h) fun A outer s H vs Q E hr hsp => ?_
  obtain ⟨t, h, q⟩ := hbody cdv A outer s H vs Q E hr hsp
  exact ⟨t, h.nox, q⟩
theorem Fun.okKwX (F : Fun K x qual st f fd) (S : FnScope N [pv, pd] (defScope st)) (nd : ks.Nodup) (hkz : ks.length ≤ sizeLine) (hb : KwB x qual st pv pd ks)
    (hbody : ∀ (cdv : Value) (A : Around) (outer : List Env) (s : Shared) (H : Hp) (vs : List V) (Q : VK) (E : XK), Room k (A.deeper (envOfC qual (defScope st) s.heap.objs.size f cdv)) → sp vs H Q E →
      ∃ t, PSs (cxOf (L2.CX P w) P w K mg base N qual (defScope st) f cdv A outer s H E) (defBody st) t ∧ t { nx := fun _ H' => Q .non H', rt := Q } (start N vs) H) : FnKw P w K mg base (L2.CX P w) (k + 1) f ks (kwSp ks sp) := by
  obtain ⟨oc, od, kV, doc, pm, an, cdv, ct, osl, rfl, lk, hcd⟩ := F.ex
  exact fn_kw lk hcd S cxUp nd hkz (fun us ws h => hb kV doc pm an cdv ct us ws h) fun A outer s H vs Q E hr hsp => hbody cdv A outer s H vs Q E hr hsp
/-- without keywords -/
theorem Fun.okStarKw (F : Fun K x qual st f fd) (S : FnScope N [pv, pd] (defScope st))
    (hb : ∀ (kV doc pm : Value) (an : Option Addr) (cdv ct : Value) (us : List Value), bindArgs (PySem.W.fnOf x qual (defArgs st) (defBody st) (defScope st) .none kV doc pm an cdv ct) ⟨us, []⟩ =
      (newTuple us >>= fun t => (alloc ({ cls := .type "dict", data := .dict #[] } : Obj) : Sem Addr) >>= fun d => pure [(pv, t), (pd, Value.ref d)]))
    (hbody : ∀ (cdv : Value) (A : Around) (outer : List Env) (s : Shared) (H : Hp) (vs : List V) (Q : VK) (E : XK), Room k (A.deeper (envOfC qual (defScope st) s.heap.objs.size f cdv)) → sp vs H Q E →
      ∃ t, PSs (cxOf CX0 P w K mg base N qual (defScope st) f cdv A outer s H E).nox (defBody st) t ∧ t { nx := fun _ H' => Q .non H', rt := Q } (start N vs) H) :
    FnR P w K mg base CX0 (k + 1) f (fun vs H Q E => vs.length ≤ sizeLine ∧ ∀ p d, H p = Option.none → H d = Option.none → d ≠ p → sp [V.ref p, V.ref d] (upd (upd H p (.tup vs)) d (.dK [])) Q E) := by
  obtain ⟨oc, od, kV, doc, pm, an, cdv, ct, osl, rfl, lk, hcd⟩ := F.ex
  have z := fn_starkw (ps := []) (pv := pv) (pd := pd) (k := k) (sp := sp) (P := P) (w := w) (mg := mg) (base := base) (N := N) lk hcd S cxUp_none (fun us rest h => by
    have e : us = [] := List.length_eq_zero_iff.mp h
    subst e
    exact hb kV doc pm an cdv ct rest) fun A outer s H vs Q E hr hsp => by
      obtain ⟨t, h, q⟩ := hbody cdv A outer s H vs Q E hr hsp
      exact ⟨t, h.nox, q⟩
  intro A outer s H us vs Q E hr e0 r ⟨h1, h2⟩
  exact z A outer s H us vs Q E hr e0 r ⟨[], vs, rfl, rfl, h1, h2⟩
end
end Kw
namespace Kw
open PySem PySem.Spec PyProof.Rows PyProof.V L2 StX
/-! ### sum(t) of a tuple of ints -/
theorem sum_tupG {prog : Program} {w : World} {A : Around} {E : Value → Shared → Prop} {s : Shared} {l : Addr} {xs : Array (Int × Tok)} {Q : Value → Shared → Prop} (hh : A.handled = none) (hl : s.heap.IsTuple l (intItems xs))
    (h : ∀ h' tk t', (∀ b o, s.heap.get? b = some o → h'.get? b = some o) → Q (.int (preSum (numAt xs) xs.size) t') { s with heap := h', toks := tk }) :
    wpAny (model prog w) A (call (.builtin "sum") [.ref l]) Q E s := by
  have hlt : l < s.heap.objs.size := by obtain ⟨_, e, _⟩ := hl; exact Heap.lt_size e
  refine call_sum_walkG (PyProof.Rows.iter_tuple (items := intItems xs) hl ?_)
  refine ⟨_, _, _, _, _, _, numAt xs, rfl, Walks.tuple (A := A.in1) hh s.heap.objs.size l (Nat.ne_of_lt hlt) (intItems xs), ⟨⟨_, Heap.get?_push_size _ rfl, rfl, rfl⟩, hl.push _⟩, fun b hb => ?_, (fun _ _ => intItems_at), fun h' tk t' hk => ?_⟩
  · show b < (s.heap.push _).objs.size
    rw [Heap.size_push]
    rcases List.mem_cons.mp hb with rfl | hb
    · exact Nat.lt_succ_self _
    · rcases List.mem_cons.mp hb with rfl | hb
      · exact Nat.lt_succ_of_lt hlt
      · cases hb
  · have := h h' tk t' fun b o e => by
      refine hk b o (fun hm => ?_) (Heap.get?_push_of_some _ e)
      rcases List.mem_cons.mp hm with e1 | hm
      · exact absurd (e1 ▸ Heap.lt_size e) (Nat.lt_irrefl _)
      · cases hm
    simpa [intItems] using this
def rSumT (K : PySem.W.Frag) : List V → Hp → VK → Prop := fun vs H Q => ∃ (a : Addr) (ns : List Int), vs = [V.ref a] ∧ SqT K H a (ns.map V.int) ∧ Q (.int ns.sum) H
theorem cr_sumT {X : Cx} (hc : X.calm = true) : CallR X (.builtin "sum") (rSumT X.K) := by
  intro pins s σ H vs us Q I r h
  obtain ⟨a, ns, rfl, hs, q⟩ := h
  obtain ⟨its, rv, hl, _⟩ := I.tuple hs
  rw [Vals.ref1 r]
  have hi := rv.ints
  obtain ⟨xs, e⟩ := hi.allInts.items
  have hn : numsOf (intItems xs).toList = ns := by rw [← e]; exact hi.numsOf
  rw [nums_intItems] at hn
  rw [e] at hl
  refine sum_tupG (I.ok.hd hc) hl fun h' tk t' hk => ?_
  rw [preSum_eq, List.take_of_length_le (by simp), hn]
  exact ⟨.int _, H, I.kept hk, ⟨_, rfl⟩, q⟩
theorem r_sumT {K : PySem.W.Frag} {H : Hp} {Q : VK} {p : Addr} {ns : List Int} (h : SqT K H p (ns.map V.int)) (k : Q (.int ns.sum) H) : rSumT K [.ref p] H Q := ⟨p, ns, rfl, h, k⟩
/-! ### [e for k, v in d.items()] -/
theorem lcI_go {σ : L2.St} {H : Hp} {Q : VK} {G : TG} {tt : TT} {te td : TE} {vs : List Nat} {d : Addr} {kvs : List (Key × V)} (hd : H d = some (.dK kvs)) (up : ∀ od (Q' : VK), (∀ v H1, v = .ref d ∧ H1 = upd H d (.frz od (.dK kvs)) → Q' v H1) → td σ (upd H d (.frz od (.dK kvs))) Q')
    (Pv : Obj → Addr → Nat → List V → Hp → Prop) (h0 : ∀ od D, upd H d (.frz od (.dK kvs)) D = none → Pv od D 0 [] (upd (upd H d (.frz od (.dK kvs))) D (.lst []))) (hG : ∀ od D i acc H', Pv od D i acc H' → H' d = some (.frz od (.dK kvs)))
    (hs : ∀ od D (i : Nat) k v T acc H', kvs[i]? = some (k, v) → upd H d (.frz od (.dK kvs)) D = none → H' D = some (.lst acc) → Pv od D i acc H' → H' T = none → G (.ref T) (wipe σ vs) (upd H' T (.tup [kV k, v])) fun σ2 H2 => wipe σ2 vs = wipe σ vs ∧ tt σ2 H2 fun b H3 =>
      if b = true then te σ2 H3 fun y H4 => ∃ acc, H4 D = some (.lst acc) ∧ acc.length < sizeLine ∧ (∃ ac, (upd H4 D (.lst (acc ++ [y]))) D = some (.lst ac) ∧ Pv od D (i + 1) ac (upd H4 D (.lst (acc ++ [y])))) else ∃ ac, H3 D = some (.lst ac) ∧ Pv od D (i + 1) ac H3)
    (he : ∀ od D acc H', upd H d (.frz od (.dK kvs)) D = none → H' D = some (.lst acc) → Pv od D kvs.length acc H' → Q (.ref D) (upd H' d (.dK kvs))) : tLockE (tLc (iItems td) G tt te vs) σ H Q := by
  refine ⟨d, .dK kvs, hd, trivial, fun od => up od _ ?_⟩
  rintro v H1 ⟨rfl, rfl⟩
  refine ⟨d, od, kvs, rfl, upd_same, fun D hD => lc_it walk_items (fun i H' => ∃ acc, H' D = some (.lst acc) ∧ Pv od D i acc H') ⟨[], upd_same, h0 od D hD⟩ (fun i H' _ ⟨acc, _, p⟩ => hG od D i acc H' p) ?_ fun H' ⟨acc, ha, p⟩ => ⟨hG _ _ _ _ _ p, he od D acc H' hD ha p⟩⟩
  rintro i v H1 H' hi ⟨acc, ha, p⟩ ⟨T, x, y, ev, hT, eH, ex, ey⟩
  subst ev eH
  replace ex : kvs[i]?.map (fun kv => kV kv.1) = some x := ex
  replace ey : kvs[i]?.map Prod.snd = some y := ey
  cases hk : kvs[i]? with
  | none => rw [hk] at ex; cases ex
  | some kv =>
    rw [hk] at ex ey
    cases ex; cases ey
    exact hs od D i kv.1 kv.2 T acc H1 hk hD ha p hT
end Kw
namespace Cm
open PySem PySem.Spec PyProof.Rows PyProof.V L2 StX
/-! ### a sign many times -/
def rMulS : R2 := fun x y H Q => ∃ (c : Nat) (n : Int), x = .str ⟨#[c]⟩ ∧ y = .int n ∧ 0 ≤ n ∧ n ≤ 1000 ∧ Q (.str ⟨(List.replicate n.toNat c).toArray⟩) H
theorem fold_rep {c : Nat} : ∀ (k : Nat) (a : Array Nat), (List.replicate k #[c]).foldl (· ++ ·) a = a ++ (List.replicate k c).toArray
  | 0, a => by simp
  | k + 1, a => by
    rw [List.replicate_succ, List.foldl_cons, fold_rep k, List.replicate_succ]
    apply Array.ext'
    simp
theorem mul_one {c : Nat} {n : Int} (h : 0 ≤ n) : Txt.mul ⟨#[c]⟩ n = ⟨(List.replicate n.toNat c).toArray⟩ := by
  unfold Txt.mul
  by_cases h1 : n < 1
  · rw [if_pos h1, show n.toNat = 0 by omega]; rfl
  · rw [if_neg h1]
    by_cases h2 : n = 1
    · subst h2
      rw [if_pos (by simp)]; rfl
    · rw [if_neg (by simp [h2, Str.length]), fold_rep]; simp
section
variable {X : Cx}
theorem op_mulS : OpR X (binaryOp .Mult) rMulS := by
  intro pins s σ H x y v u Q I rx ry h
  obtain ⟨c, n, rfl, rfl, h0, h1, q⟩ := h
  obtain ⟨t, rfl⟩ := rx
  obtain ⟨t', rfl⟩ := ry
  refine SB.mul ⟨by rw [decide_eq_false (by omega), decide_eq_false (by omega)]; rfl, fun h2 _ => ?_, fun h2 _ => ?_⟩ fun t2 k => ?_
  · show ¬ ((1 : Int) > (2 ^ 63 - 1) / n)
    have : 1 ≤ (2 ^ 63 - 1) / n := (Int.le_ediv_iff_mul_le (by omega)).mpr (by omega)
    omega
  · show decide (1 * n.toNat > sizeLine) = false
    have h3 : n.toNat ≤ 1000 := by omega
    have h4 := le_size (n := 1000) (by decide)
    exact decide_eq_false (by omega)
  · rw [mul_one h0]
    exact ⟨.str _, H, I.kept (t' := k) (fun _ _ e => e), ⟨_, rfl⟩, q⟩
theorem r_mulS {c : Nat} {n : Int} {H : Hp} {Q : VK} (h0 : 0 ≤ n) (h1 : n ≤ 1000) (k : Q (.str ⟨(List.replicate n.toNat c).toArray⟩) H) : rMulS (.str ⟨#[c]⟩) (.int n) H Q := ⟨c, n, rfl, rfl, h0, h1, k⟩
end
/-! ### cls(..), C.m(..) of a classmethod within a try -/
def tMakeV (i : Nat) (C : Addr) (sp : Sp) (dvs : List V) (E : XK) (t : TA) : TE := fun σ H Q => σ[i]? = some (some (.ref C)) ∧ tMake C sp dvs E t σ H Q
section
variable {X : Cx} {CX : CXT} {k i : Nat} {f C p g : Addr} {fd : FuncData} {ps : List Str} {sp : Sp} {dvs : List V} {ds : List Value} {E : XK} {x m : Str} {mc : Value} {pz pos apos : Pos} {e o : Expr} {es : List Expr} {t : TA} {ta : TE}
theorem pe_makeV (M : Mk X.K C f) (F : FnOk X.prog X.w X.K X.mg X.base CX k f fd ps sp) (hr : Room (k + 1) X.A) (hN : X.N[i]? = some x) (hv : Vis X.env.scope x) (hb : Binds X.K fd ps ds) (hd : L2.Vals dvs ds) (hx : Passes CX X E) (ha : PA X (e :: es) t)
    (hdb : (x == ("__debug__" : Str)) = false := by decide) (hcd : (x == ("__classdict__" : Str)) = false := by decide)
    (he : starEach (e :: es) X.env = (false, eval e X.env) :: starEach es X.env := by rfl) (hpl : (backTo pos (starEach es X.env)).any (·.1) = false := by rfl) : PE X (.Call (.Name x pz) (e :: es) [] pos) (tMakeV i C sp dvs E t) := by
  refine ⟨fun pins s σ H Q I h => ?_⟩
  obtain ⟨hs, ht⟩ := h
  refine wpAny_Call_Name_kw (thn ((pe_var (pos := pz) hN hv hdb hcd).run pins s σ H (fun v H1 => v = .ref C ∧ H1 = H) I ⟨.ref C, hs, rfl, rfl⟩) fun u s1 ⟨v, H1, I1, r1, q1⟩ => ?_)
  obtain ⟨rfl, rfl⟩ := q1
  cases r1
  refine PySem.W.callWith_K (h₀ := X.base) I.ok.mod.kin M.kp (thn (ha.run pos pins s1 σ _ _ I1 ht) fun us s2 ⟨vs, H2, I2, r, q⟩ => ⟨I2.kIn, ?_⟩) he hpl
  exact run_make M F hr hb hd hx I2 r q
def tCMethSD (C : Addr) (sp : Sp) (E : L2.St → XK) (ta : TE) (t : TA) : TE := fun σ H Q => ta σ H fun x H1 => x = .ref C ∧ t σ H1 fun vs H2 => sp (.ref C :: vs) H2 Q (E σ)
theorem run_cmSD {pins : List (Addr × Obj)} {σ : L2.St} {H : Hp} {s : Shared} {q : Addr} {Q : VK} {us : List Value} {vs : List V} (F : FnR X.prog X.w X.K X.mg X.base CX k g sp) (hr : Room k X.A) (hx : PassesAt CX X σ E) (I : Inv X ((q, PySem.W.methodObj (.ref g) (.ref C)) :: pins) σ H s)
    (r : L2.Vals vs us) (h : sp (.ref C :: vs) H Q E) : wpAny (model X.prog X.w) X.A (call (.ref q) us) (EP X pins σ Q) X.xe s := by
  have z : wpAny (model X.prog X.w) X.A (call (.ref q) us) (EP X ((q, PySem.W.methodObj (.ref g) (.ref C)) :: pins) σ Q) X.xe s :=
    wpAny_call (PySem.W.method_call (ClX.pin_at I) (Dt.run_fnRD (us := .ref C :: us) (vs := .ref C :: vs) F hr hx I (.cons rfl r) h))
  exact thn z fun _ _ y => ClX.unpinE y
theorem pe_cmethSD {E : L2.St → XK} {pl : Sem Bool} (he : PE X o ta) (r : ClX.CRead X.K C mc) (c : ClX.CMet X.K C mc m p g) (F : FnR X.prog X.w X.K X.mg X.base CX k g sp) (hr : Room k X.A) (hx : ∀ σ, PassesAt CX X σ (E σ)) (ha : PA X (e :: es) t)
    (hst : starEach (e :: es) X.env = (false, eval e X.env) :: starEach es X.env := by rfl) (hpl : (backTo pos (starEach es X.env)).any (·.1) = false := by rfl)
    (ht : eval (.Call (.Attribute o m apos) (e :: es) [] pos) X.env = (do
      let ov ← eval o X.env
      standAt apos.atName
      let (f, first) ← holding [ov] (getMethod ov m pl)
      callWith pos f first (backTo pos (starEach (e :: es) X.env)) (backToKw pos (keywordEach [] X.env))) := by rfl) :
    PE X (.Call (.Attribute o m apos) (e :: es) [] pos) (tCMethSD C sp E ta t) := by
  refine ⟨fun pins s σ H Q I h => ?_⟩
  refine PySem.W.methodCall_KW (pl := pl) (thn (he.run pins s σ H _ I h) fun u s1 ⟨x, H1, I1, rx, ex, q⟩ => ?_) ht
  subst ex
  obtain rfl : u = Value.ref C := rx
  refine ClX.getmethcm_ok I1 r c fun s2 I2 => ?_
  refine ClX.callwith_cm I2 (ClX.base_none I1 (Nat.le_refl _)) c.fi (thn (ha.run pos _ s2 σ H1 _ I2 q) fun us s3 ⟨vs, H2, I3, rv, q2⟩ => ⟨⟨ClX.pin_at I3, I3.kIn⟩, ?_⟩) hst hpl
  exact run_cmSD F hr (hx σ) I3 rv q2
end
/-! ### several except clauses, each with a name -/
abbrev Cl := Value × Nat × (Addr → Value → Option Addr → TS)
def wManyA (K : PySem.W.Frag) (Wout : WX) (D : Ends) : List Cl → WX
  | [] => Wout
  | (c, i, ts) :: r => wAs K c i ts (wManyA K Wout D r) D
inductive HdsA (X : Cx) : List ExceptHandler → List Cl → Prop
  | nil : HdsA X [] []
  | cons {x n : Str} {c : Value} {i : Nat} {ts : Addr → Value → Option Addr → TS} {b₀ : Stmt} {suite : List Stmt} {np pos' : Pos} {hds : List ExceptHandler} {l : List Cl} (hi : X.N[i]? = some n) (hln : X.env.kindOf n = some .local) (hc : Names X x c)
      (hsu : ∀ (a : Addr) (oe : Obj) (cls : Value) (d : Option Addr) (pn : List (Addr × Obj)), Zc cls d oe → (∃ vs, oe.data = .fields vs) → PSs (X.suite a ((a, oe) :: pn)) (b₀ :: suite) (ts a cls d)) (r : HdsA X hds l) :
      HdsA X (.ExceptHandler (some (.Name x np)) (some n) (b₀ :: suite) pos' :: hds) ((c, i, ts) :: l)
section
variable {X : Cx} {body : List Stmt} {h₀ : ExceptHandler} {hds : List ExceptHandler} {l : List Cl} {pos : Pos} {tb : WX → TS} {Wout : WX}
theorem ps_try_manyA (hs : X.stack = X.env :: X.outer) (hf : X.env.frame = some X.env.locals) (hN : X.N.Nodup) (tk : Takes X Wout)
    (hb : ∀ (W : WX) (pn : List (Addr × Obj)) (xe : Value → Shared → Prop), Takes (X.tr pn xe) W → PassesOwn (model X.prog X.w) X.A X.env xe → PSs (X.tr pn xe) body (tb W))
    (hh : HdsA X (h₀ :: hds) l) : PS X (.Try body (h₀ :: hds) [] [] pos) (fun D σ H => tb (wManyA X.K Wout D l) D σ H) := by
  refine ⟨fun pins s σ H D I h => ?_⟩
  have ok := I.ok
  have hfr : X.A.frames = some (X.env :: X.outer) := by rw [ok.frames, hs]
  refine wpAny_Try_except ?_
  refine wpAny_mono ((hb (wManyA X.K Wout D l) (X.pn ++ pins) (fun e s₁ => wpAny (model X.prog X.w) X.A (noteFrame e X.env) (fun _ s₂ => wpAny (model X.prog X.w) X.A (setFlight e none) (fun _ s₃ =>
    wpAny (model X.prog X.w) X.A (handleBy e X.env (h₀ :: hds)) (SP X pins D) X.xe s₃) X.xe s₂) X.xe s₁) (fun u s' xx => ?_) PassesOwn.looking).run [] s σ H D (I.toTry _) h) (fun f s1 hsp => ?_) (fun e s1 he => he)
  · -- the catch
    obtain ⟨a, B, sI, pins', σ', H', cls, d, rfl, J', nb, up, sky, na, os, ag, w⟩ := xx
    have J : Inv X pins σ' H' sI := J'.ofTry ok
    have sky' : Sky B (X.env :: X.outer) a (Zc cls d) X.env.locals s'.heap := by rw [← hs]; exact sky
    show wpAny (model X.prog X.w) X.A (noteFrame (.ref a) X.env) _ _ _
    refine Sky.land Zc.steady hfr hf sky' fun h3 fl3 up3 => ?_
    have J3 : Inv X pins σ' H' { s' with heap := h3 } := J.landed nb fl3.1 (up.trans up3) os ag
    obtain ⟨oe3, vs3, he3, hz3, hd3⟩ := fl3.there
    have notFr : ∀ {h : Heap} {o : Obj} {vs : Array Value}, h.FunFrames B (X.env :: X.outer) → h.get? a = some o → o.data = .fields vs → a ∉ frs (X.env :: X.outer) := fun {h o vs} ff e dd hm => by
      obtain ⟨_, o', e', hnf⟩ := ff.mem hm
      rw [e] at e'; cases e'
      exact hnf _ dd
    have nfr := notFr fl3.2.2.1 he3 hd3
    have nL : a ≠ X.env.locals := fun z => nfr (List.mem_filterMap.mpr ⟨X.env, List.mem_cons_self, by rw [hf, z]⟩)
    have nF : a ∉ X.fs := fun hm => by
      obtain ⟨e, he, q⟩ := List.mem_filterMap.mp hm
      exact nfr (List.mem_filterMap.mpr ⟨e, List.mem_cons_of_mem _ he, q⟩)
    have S3 := J3.suite he3 hd3 na nL nF
    have go : ∀ {hds' : List ExceptHandler} {l' : List Cl}, HdsA X hds' l' → wManyA X.K Wout D l' cls d σ' H' →
        wpAny (model X.prog X.w) X.A (handleBy (.ref a) X.env hds') (SP X pins D) X.xe { s' with heap := h3 } := by
      intro hds' l' hk
      induction hk with
      | nil =>
        intro w
        refine wpAny_handleBy_nil ?_
        obtain ⟨k1, k2, k3, oe, vs, T, oT, ts', he, hz, hd, h1, hr⟩ := id fl3
        unfold PySem.passOn
        refine wpAny_bind (wpAny_field he hd h1 ?_)
        rw [if_neg (show ¬ ((Value.ref T == Value.none) = true) from by simp)]
        have fin : wpAny (model X.prog X.w) X.A (setFlight (.ref a) X.env.frame) (fun _ s4 => wpAny (model X.prog X.w) X.A (throw (.ref a) : Sem Flow) (SP X pins D) X.xe s4) X.xe { s' with heap := h3 } := by
          rw [hf]
          refine HandSPX.setFlight_upZ fl3 fun h4 hh4 up4 => wpAny_throw (tk _ _ ?_)
          exact ⟨a, B, sI, pins, σ', H', cls, d, rfl, J, nb, (up.trans up3).trans up4, .inr (.inr (by rw [hs]; exact hh4)), na, os, ag, w⟩
        first
          | exact wpAny_bind (wpAny_pure (wpAny_bind fin))
          | exact wpAny_bind fin
      | @cons x n c i ts b₀ suite np pos' hds2 l2 hi hln hc hsu r ih =>
        intro w
        obtain ⟨b, hb1, hyes, hno⟩ := w
        have hloc : Loc X.env.scope n := .inl hln
        refine wpAny_handleBy_cons (codeAny_handlers_test ?_) (by intro q; cases q)
        have LT : PySem.W.Looks (model X.prog X.w) h3 (typeOf (.ref a)) cls := fun A Q E s k q => wpAny_typeOf_ref (k _ _ he3) (by rw [hz3.1]; exact q)
        have LM := PySem.W.exm_one (M := model X.prog X.w) (J3.kIn) LT hb1
        have test : ∀ {Q : Value → Shared → Prop} {E : Value → Shared → Prop}, Q c { s' with heap := h3 } → wpAny (model X.prog X.w) (X.A.mark (some (.ref a))) (eval (.Name x np) X.env) Q E { s' with heap := h3 } := fun {Q E} q => by
          obtain ⟨hg, hdbg, hm | ⟨hm, hv, hnn⟩⟩ := hc
          · exact ld_glob (X := X.suite a ((a, oe3) :: (X.pn ++ pins))) S3 hg hm q hdbg
          · exact ld_blt (X := X.suite a ((a, oe3) :: (X.pn ++ pins))) S3 hg hm hv q hnn hdbg
        refine test (LM.here ?_)
        cases b with
        | true =>
          refine codeAny_handlers_suite_as ?_
          refine HandSPX.lands_againZ fl3 fun h4 fl4 up4 => ?_
          have J4 : Inv X pins σ' H' { s' with heap := h4 } := J.landed nb fl4.1 ((up.trans up3).trans up4) os ag
          obtain ⟨oe4, vs4, he4, hz4, hd4⟩ := fl4.there
          have S4 := J4.suite he4 hd4 na nL nF
          refine store_ok (X := X.suite a ((a, oe4) :: (X.pn ++ pins))) (v := .ref a) S4 hN hi hloc rfl (fun s5 S5 => ?_) (.inr hln)
          refine wpAny_mono ((hsu a oe4 cls d (X.pn ++ pins) hz4 ⟨_, hd4⟩).run [] s5 _ H' _ S5 (hyes rfl a na)) (fun f s6 hsp => ?_) (fun _ _ z => False.elim z)
          have end_ : ∀ {σ6 : L2.St} {H6 : Hp} {Q : Shared → Prop}, Inv (X.suite a ((a, oe4) :: (X.pn ++ pins))) [] σ6 H6 s6 → (∀ s7, Inv X pins (σ6.set i none) H6 s7 → Q s7) →
              wpAny (model X.prog X.w) X.A (do bindName X.env n .none; unbindBehindTheSuite X.env n pos') (fun _ s7 => Q s7) X.xe s6 := fun {σ6 H6 Q} S6 hq => gone_ok (S6.unsuite ok) hN hi hln hq
          cases f with
          | next =>
            obtain ⟨σ6, H6, S6, q6⟩ := hsp
            exact end_ S6 fun s7 J7 => ⟨_, _, J7, q6⟩
          | brk =>
            obtain ⟨σ6, H6, S6, q6⟩ := hsp
            exact end_ S6 fun s7 J7 => ⟨_, _, J7, q6⟩
          | cont =>
            obtain ⟨σ6, H6, S6, q6⟩ := hsp
            exact end_ S6 fun s7 J7 => ⟨_, _, J7, q6⟩
          | ret u =>
            obtain ⟨v6, σ6, H6, S6, r6, q6⟩ := hsp
            exact end_ S6 fun s7 J7 => ⟨_, _, _, J7, r6, q6⟩
        | false =>
          show wpAny _ X.A (handleBy (.ref a) X.env hds2) _ _ _
          exact ih (hno rfl)
    exact go hh w
  · cases f with
    | next =>
      obtain ⟨σ', H', J', q⟩ := hsp
      exact wpAny_execs_nil ⟨σ', H', J'.ofTry ok, q⟩
    | brk =>
      obtain ⟨σ', H', J', q⟩ := hsp
      exact ⟨σ', H', J'.ofTry ok, q⟩
    | cont =>
      obtain ⟨σ', H', J', q⟩ := hsp
      exact ⟨σ', H', J'.ofTry ok, q⟩
    | ret u =>
      obtain ⟨v, σ', H', J', r, q⟩ := hsp
      exact ⟨v, σ', H', J'.ofTry ok, r, q⟩
end
end Cm
namespace Nk
open PySem PySem.Spec PyProof.Rows PyProof.V L2 StX
/-! ### keys ((.., ..), text) -/
abbrev NK := List Key × Str
section
variable {prog : Program} {w : World}
def IsNest (prog : Program) (w : World) (h : Heap) (k : NK) (a : Addr) : Prop := ∃ (o : Obj) (n : Nat) (t : Addr) (tk : Tok), h.get? a = some o ∧ o.cls = .type "tuple" ∧ o.data = .seq #[.ref t, .str k.2 tk] n ∧ (tupleKind (mixKind prog w)).is h k.1 t
def nkHash (prog : Program) (w : World) (k : NK) : Int := reduceHash (Builtin.Tuple.tupleHashOf [(tupleKind (mixKind prog w)).hash k.1, (mixKind prog w).hash (Sum.inr k.2)])
theorem IsNest.typeIs {s : Shared} {k : NK} {a : Addr} (x : IsNest prog w s.heap k a) : s.TypeIs (.ref a) "tuple" := let ⟨o, _, _, _, ho, hc, _⟩ := x; ⟨o, ho, hc⟩
theorem IsNest.inj {h : Heap} {a : Addr} {x y : NK} (hx : IsNest prog w h x a) (hy : IsNest prog w h y a) : x = y := by
  obtain ⟨o, n, t, tk, ho, _, hd, hi⟩ := hx
  obtain ⟨o', n', t', tk', ho', _, hd', hi'⟩ := hy
  obtain rfl : o = o' := Option.some.inj (ho.symm.trans ho')
  rw [hd] at hd'
  injection hd' with h1 _
  have h2 := congrArg Array.toList h1
  simp only [List.cons.injEq] at h2
  obtain ⟨h3, h4, _⟩ := h2
  injection h3 with h3
  injection h4 with h4 _
  subst h3
  exact Prod.ext ((tupleKind (mixKind prog w)).inj hi hi') h4
theorem IsNest.keeps {h h' : Heap} {k : NK} {a d : Addr} {o : Obj} {es ep} (x : IsNest prog w h k a) (ho : h.get? d = some o) (hd : o.data = .dict es ep) (hs : Heap.SameBut d h h') : IsNest prog w h' k a := by
  obtain ⟨o', n, t, tk, ho', hc, hd', hi⟩ := x
  have hne : a ≠ d := by
    rintro rfl
    obtain rfl : o' = o := Option.some.inj (ho'.symm.trans ho)
    rw [hd] at hd'; exact nomatch hd'
  exact ⟨o', n, t, tk, (hs.2 a hne).trans ho', hc, hd', (tupleKind (mixKind prog w)).keeps hi ho hd hs⟩
variable {A : Around} {E : Value → Shared → Prop} {s : Shared}
theorem nk_pyHash {k : NK} {a : Addr} {Q : Int → Shared → Prop} (hu : A.units + 8 < cLine) (hk : IsNest prog w s.heap k a) (h : Q (nkHash prog w k) { s with toks := s.toks + (k.1.length + 3) }) :
    wpAny (model prog w) A (pyHash (.ref a)) Q E s := by
  have hT := hk.typeIs
  obtain ⟨o, n, t, tk, ho, _, hd, hi⟩ := hk
  unfold pyHash
  first | unfold pyHashByItsType | skip
  first | refine wpAny_bind (wpAny_cRoomFor_or (.inr (by omega)) ?_) | skip
  refine wpAny_bind (wpAny_specialOf hT F.slot_tuple_hash.lookup ?_)
  show wpAny _ _ (if (some (Value.builtin "tuple.__hash__") == some Value.none) = true then _ else _) Q E s
  rw [if_neg (by rw [beq_builtin_none]; exact Bool.false_ne_true)]
  refine wpAny_bind (wpAny_specialOf hT F.slot_tuple_hash.lookup ?_)
  show wpAny _ _ (callSpecialIfBoundUnlessNone? (.ref a) "__hash__" _ >>= _) Q E s
  refine wpAny_bind (wpAny_callSpecialIfBoundUnlessNone?_slot hT F.slot_tuple_hash (wpAny_call_entry F.slot_tuple_hash hT F.entry_tuple_hash ?_ (F.args_tuple_hash_1 _)))
  show wpAny _ _ (Builtin.Tuple.tupleItemsOf (.ref a) >>= _) _ _ s
  refine wpAny_bind (wpAny_tupleItemsOf ho hd ?_)
  refine wpAny_bind ?_
  rw [← Array.forIn_toList]
  refine wpAny_forIn_list _
    (fun rest (b : Array Int) s' => (rest = [.ref t, .str k.2 tk] ∧ b.toList = [] ∧ s' = s) ∨ (rest = [.str k.2 tk] ∧ b.toList = [(tupleKind (mixKind prog w)).hash k.1] ∧ s' = { s with toks := s.toks + (k.1.length + 1) }) ∨
      (rest = [] ∧ b.toList = [(tupleKind (mixKind prog w)).hash k.1, (mixKind prog w).hash (Sum.inr k.2)] ∧ s' = { s with toks := s.toks + (k.1.length + 2) }))
    _ ?_ ?_ _ _ (.inl ⟨rfl, rfl, rfl⟩)
  · rintro x rest b s' (⟨hr, hb, rfl⟩ | ⟨hr, hb, rfl⟩ | ⟨hr, _⟩)
    · cases hr
      refine wpAny_bind ((tupleKind (mixKind prog w)).pyHash ?_ hi ?_)
      · exact tupleKind_room_in1 (by omega)
      · first
          | exact wpAny_pure (.inr (.inl ⟨rfl, by simp [hb], rfl⟩))
          | exact wpAny_bind (wpAny_pure (wpAny_pure (.inr (.inl ⟨rfl, by simp [hb], rfl⟩))))
    · cases hr
      refine wpAny_bind ((mixKind prog w).pyHash (k := Sum.inr k.2) (keyIs_str k.2 tk) ?_)
      first
        | exact wpAny_pure (.inr (.inr ⟨rfl, by simp [hb], by simp [Nat.add_assoc]⟩))
        | exact wpAny_bind (wpAny_pure (wpAny_pure (.inr (.inr ⟨rfl, by simp [hb], by simp [Nat.add_assoc]⟩))))
    · cases hr
  · rintro b s' (⟨hr, _⟩ | ⟨hr, _⟩ | ⟨_, hb, rfl⟩)
    · cases hr
    · cases hr
    show wpAny _ _ (retInt (Builtin.Tuple.tupleHashOf b.toList)) _ _ _
    rw [hb]
    refine wpAny_ret_mkInt ?_
    show wpAny _ _ (if (decide (-(2 : Int) ^ 63 ≤ Builtin.Tuple.tupleHashOf [(tupleKind (mixKind prog w)).hash k.1, (mixKind prog w).hash (Sum.inr k.2)]) && decide (Builtin.Tuple.tupleHashOf [(tupleKind (mixKind prog w)).hash k.1, (mixKind prog w).hash (Sum.inr k.2)] < 2 ^ 63)) = true then _ else _) Q E _
    unfold nkHash reduceHash at h
    by_cases hr : (decide (-(2 : Int) ^ 63 ≤ Builtin.Tuple.tupleHashOf [(tupleKind (mixKind prog w)).hash k.1, (mixKind prog w).hash (Sum.inr k.2)]) && decide (Builtin.Tuple.tupleHashOf [(tupleKind (mixKind prog w)).hash k.1, (mixKind prog w).hash (Sum.inr k.2)] < 2 ^ 63)) = true
    · rw [if_pos hr]
      rw [if_pos hr] at h
      exact wpAny_pure (by simpa [Nat.add_assoc] using h)
    · rw [if_neg hr]
      rw [if_neg hr] at h
      exact wpAny_bind (wpAny_rule (wpAny_pure (by simpa [Nat.add_assoc] using h)))
theorem nk_eq_tree {x y : NK} {a b : Addr} {P : Fin → Shared → Prop} (hu : A.units < cLine) (hx : IsNest prog w s.heap x a) (hy : IsNest prog w s.heap y b) (h : P (.done (.ret (.bool (decide (x = y))))) s) :
    wpAny (model prog w) A (Builtin.«tuple.__eq__» ⟨[.ref a, .ref b], []⟩) P E s := by
  have hTb := hy.typeIs
  obtain ⟨oa, na, ta, ka, hoa, _, hda, hia⟩ := hx
  obtain ⟨ob, nb, tb, kb, hob, _, hdb, hib⟩ := hy
  show wpAny _ _ (isInstance (.ref b) (.type "tuple") >>= _) _ _ s
  refine wpAny_bind (wpAny_isInstance hTb isSubtype_tuple_tuple ?_)
  simp only [Bool.not_true, Bool.false_eq_true, if_false]
  refine wpAny_bind (wpAny_tupleItemsOf hoa hda ?_)
  refine wpAny_bind (wpAny_tupleItemsOf hob hdb ?_)
  refine wpAny_bind ?_
  refine wpAny_forIn_list _
    (fun rest r s' => r.1 = none ∧ s' = s ∧ ((rest = [(.ref ta, .ref tb), (.str x.2 ka, .str y.2 kb)]) ∨ (rest = [(.str x.2 ka, .str y.2 kb)] ∧ x.1 = y.1) ∨ (rest = [] ∧ x = y)))
    _ ?_ ?_ _ _ ⟨rfl, rfl, .inl rfl⟩
  · rintro ⟨u, v⟩ rest r s' ⟨hr, rfl, hz | ⟨hz, e1⟩ | ⟨hz, _⟩⟩
    · simp only [List.cons.injEq, Prod.mk.injEq] at hz
      obtain ⟨⟨rfl, rfl⟩, rfl⟩ := hz
      refine wpAny_bind ((tupleKind (mixKind prog w)).eqBool (x := x.1) (y := y.1) hu hia hib ?_)
      by_cases hk : x.1 = y.1
      · rw [decide_eq_true hk]
        simp only [Bool.not_true, Bool.false_eq_true, if_false]
        exact wpAny_pure ⟨rfl, rfl, .inr (.inl ⟨trivial, hk⟩)⟩
      · rw [decide_eq_false hk]
        simp only [Bool.not_false, if_true]
        have hf : decide (x = y) = false := decide_eq_false fun e => hk (by rw [e])
        rw [hf] at h
        exact wpAny_bind (wpAny_pure (wpAny_pure (wpAny_pure h)))
    · simp only [List.cons.injEq, Prod.mk.injEq] at hz
      obtain ⟨⟨rfl, rfl⟩, rfl⟩ := hz
      refine wpAny_bind ((mixKind prog w).eqBool (a := Sum.inr x.2) (b := Sum.inr y.2) (keyIs_str x.2 ka) (keyIs_str y.2 kb) ?_)
      by_cases hk : x.2 = y.2
      · rw [decide_eq_true (by rw [hk])]
        simp only [Bool.not_true, Bool.false_eq_true, if_false]
        exact wpAny_pure ⟨rfl, rfl, .inr (.inr ⟨trivial, Prod.ext e1 hk⟩)⟩
      · rw [decide_eq_false (fun e => hk (Sum.inr.inj e))]
        simp only [Bool.not_false, if_true]
        have hf : decide (x = y) = false := decide_eq_false fun e => hk (by rw [e])
        rw [hf] at h
        exact wpAny_bind (wpAny_pure (wpAny_pure (wpAny_pure h)))
    · cases hz
  · rintro ⟨r1, r2⟩ s' ⟨hr, rfl, hz | ⟨hz, _⟩ | ⟨_, e⟩⟩
    · cases hz
    · cases hz
    simp only at hr
    subst hr
    refine wpAny_pure ?_
    show P (.done (.ret (.bool true))) s'
    rw [decide_eq_true e] at h
    exact h
theorem nk_eqBool {x y : NK} {a b : Addr} {Q : Bool → Shared → Prop} (hu : A.units + 8 < cLine) (hx : IsNest prog w s.heap x a) (hy : IsNest prog w s.heap y b) (h : Q (decide (x = y)) s) :
    wpAny (model prog w) A (eqBool (.ref a) (.ref b)) Q E s := by
  unfold eqBool
  try with_reducible refine wpAny_holding ?_
  show wpAny _ _ (if (Value.ref a == Value.ref b) = true then _ else _) Q E s
  by_cases hab : (Value.ref a == Value.ref b) = true
  · rw [if_pos hab]
    have e : a = b := by have := eq_of_beq hab; injection this
    subst e
    obtain rfl := hx.inj hy
    exact wpAny_bind (wpAny_rule (wpAny_pure (by simpa using h)))
  · rw [if_neg hab]
    refine wpAny_bind (wpAny_richCompare_same_room (op := .Eq) hx.typeIs hy.typeIs F.slot_tuple_eq
      (wpAny_call_entry F.slot_tuple_eq hx.typeIs F.entry_tuple_eq (nk_eq_tree ?_ hx hy ⟨_, rfl, (fun e => nomatch e), wpAny_truthy_bool h⟩) (F.args_tuple_eq_2 _ _)) (by omega))
    exact (tupleKind_room_in1 (by omega) : (tupleKind (mixKind prog w)).room A.in1)
theorem quiet_tuple {n : Nat} {ks : List Key} {a : Addr} {Q : Bool → Shared → Prop} (hk : (tupleKind (mixKind prog w)).is s.heap ks a) (h : Q true s) : wpAny (model prog w) A (eqIsQuiet (n + 1) (.ref a)) Q E s := by
  have hk : IsTupleKey (mixKind prog w) s.heap ks a := hk
  have hT := hk.typeIs
  obtain ⟨o, items, m, ho, _, hd, hi⟩ := hk
  unfold eqIsQuiet
  refine wpAny_bind (wpAny_specialOf hT F.slot_tuple_eq.lookup ?_)
  show wpAny _ _ (isInstance (.ref a) (.type "tuple") >>= _) _ _ s
  refine wpAny_bind (wpAny_isInstance hT isSubtype_tuple_tuple ?_)
  simp only [Bool.not_true, Bool.false_eq_true, if_false]
  refine wpAny_bind (wpAny_seqItems ho hd ?_)
  refine wpAny_bind ?_
  show wpAny _ _ (forIn items _ _) _ _ s
  rw [← Array.forIn_toList]
  refine wpAny_forIn_list _ (fun rest r s' => r.1 = none ∧ s' = s ∧ ∀ v ∈ rest, carriedByValue v = true) _ ?_ ?_ _ _ ⟨rfl, rfl, hi.byValue⟩
  · rintro v rest r s' ⟨hr, rfl, hall⟩
    rw [eqIsQuiet_byValue _ (hall v List.mem_cons_self)]
    refine wpAny_bind (wpAny_pure ?_)
    simp only [Bool.not_true, Bool.false_eq_true, if_false]
    exact wpAny_pure ⟨rfl, rfl, fun u hu' => hall u (List.mem_cons_of_mem _ hu')⟩
  · rintro ⟨r1, r2⟩ s' ⟨hr, rfl, _⟩
    simp only at hr
    subst hr
    exact wpAny_pure h
theorem nk_quiet {k : NK} {a : Addr} {Q : Bool → Shared → Prop} (hk : IsNest prog w s.heap k a) (h : Q true s) : wpAny (model prog w) A (eqIsQuiet 8 (.ref a)) Q E s := by
  have hT := hk.typeIs
  obtain ⟨o, m, t, tk, ho, _, hd, hi⟩ := hk
  unfold eqIsQuiet
  refine wpAny_bind (wpAny_specialOf hT F.slot_tuple_eq.lookup ?_)
  show wpAny _ _ (isInstance (.ref a) (.type "tuple") >>= _) _ _ s
  refine wpAny_bind (wpAny_isInstance hT isSubtype_tuple_tuple ?_)
  simp only [Bool.not_true, Bool.false_eq_true, if_false]
  refine wpAny_bind (wpAny_seqItems ho hd ?_)
  refine wpAny_bind ?_
  show wpAny _ _ (forIn #[Value.ref t, Value.str k.2 tk] _ _) _ _ s
  rw [← Array.forIn_toList]
  refine wpAny_forIn_list _ (fun rest r s' => r.1 = none ∧ s' = s ∧ (rest = [.ref t, .str k.2 tk] ∨ rest = [.str k.2 tk] ∨ rest = [])) _ ?_ ?_ _ _ ⟨rfl, rfl, .inl rfl⟩
  · rintro v rest r s' ⟨hr, rfl, hz | hz | hz⟩
    · cases hz
      refine wpAny_bind (quiet_tuple (n := 6) hi ?_)
      simp only [Bool.not_true, Bool.false_eq_true, if_false]
      exact wpAny_pure ⟨rfl, rfl, .inr (.inl trivial)⟩
    · cases hz
      rw [eqIsQuiet_byValue _ rfl]
      refine wpAny_bind (wpAny_pure ?_)
      simp only [Bool.not_true, Bool.false_eq_true, if_false]
      exact wpAny_pure ⟨rfl, rfl, .inr (.inr trivial)⟩
    · cases hz
  · rintro ⟨r1, r2⟩ s' ⟨hr, rfl, _⟩
    simp only at hr
    subst hr
    exact wpAny_pure h
end
def nestKind (prog : Program) (w : World) : HeapKind prog w NK where
  is := IsNest prog w
  hash := nkHash prog w
  draws := fun k => k.1.length + 3
  room := fun A => A.units + 8 < cLine
  inj := fun hx hy => hx.inj hy
  keeps := fun x ho hd hs => x.keeps ho hd hs
  pyHash := fun hu hk h => nk_pyHash hu hk h
  eqBool := fun hu hx hy h => nk_eqBool hu hx hy h
  quiet := fun hk h => nk_quiet hk h
/-! ### a dict of such keys, whatever it holds -/
section
variable {P : Program} {w : World}
def SeenR (P : Program) (w : World) (d : Addr) (xs : List (NK × Addr × Value)) (h : Heap) : Prop := ∃ o es ep, h.get? d = some o ∧ o.ExactDict ∧ o.data = .dict es ep ∧ es.toList = xs.map (entryOfKey (nestKind P w)) ∧ (xs.map (·.1)).Nodup
theorem SeenR.ok {H : Hp} {h : Heap} {d : Addr} {xs : List (NK × Addr × Value)} (x : SeenR P w d xs h) : ObjOk P w H h d (.ext (SeenR P w d xs)) :=
  ⟨x, let ⟨o, _, _, ho, _⟩ := x; ⟨o, ho⟩, fun h1 h2 ⟨o, es, ep, ho, r⟩ k => ⟨o, es, ep, k o ho, r⟩⟩
def KeyN (H : Hp) (q : Addr) (k : NK) : Prop := ∃ t, H q = some (.tup [.ref t, .str k.2]) ∧ H t = some (.tup (k.1.map kV))
theorem KeyN.keep {H H' : Hp} {q : Addr} {k : NK} (h : KeyN H q k) (kp : ∀ b ys, H b = some (.tup ys) → H' b = some (.tup ys)) : KeyN H' q k := let ⟨t, a, b⟩ := h; ⟨t, kp _ _ a, kp _ _ b⟩
/-- a dict of at most n such keys at d -/
def SeenAt (P : Program) (w : World) (H : Hp) (d : Addr) (n : Nat) : Prop := ∃ xs : List (NK × Addr × Value), H d = some (.ext (SeenR P w d xs)) ∧ (d == sysModules) = false ∧ xs.length ≤ n ∧ ∀ x ∈ xs, KeyN H x.2.1 x.1
theorem SeenAt.keep {H H' : Hp} {d : Addr} {n : Nat} (h : SeenAt P w H d n) (hd : H' d = H d) (kp : ∀ b ys, H b = some (.tup ys) → H' b = some (.tup ys)) : SeenAt P w H' d n :=
  let ⟨xs, a, b, c, e⟩ := h; ⟨xs, hd.trans a, b, c, fun x hx => (e x hx).keep kp⟩
theorem SeenAt.keepK {H H' : Hp} {M : List Addr} {d : Addr} {n : Nat} (h : SeenAt P w H d n) (k : Keep M H H') (hd : d ∉ M) (hm : ∀ m ∈ M, ∀ ys, H m ≠ some (.tup ys)) : SeenAt P w H' d n :=
  let ⟨xs, a, b, c, e⟩ := h; ⟨xs, k _ _ hd a, b, c, fun x hx => (e x hx).keep fun b ys hb => k _ _ (fun z => hm b z ys hb) hb⟩
theorem key_nest {H : Hp} {h : Heap} {q : Addr} {k : NK} (ok : HOk P w H h) (e : KeyN H q k) : (nestKind P w).is h k q := by
  obtain ⟨t, e1, e2⟩ := e
  obtain ⟨_, its, r, o, h1, h2, n, h3⟩ := (show ObjOk P w H h q (.tup [.ref t, .str k.2]) from ok q _ e1)
  cases r with
  | cons r1 r2 =>
    cases r2 with
    | cons r3 r4 =>
      cases r4
      cases r1
      obtain ⟨tk, rfl⟩ := r3
      exact ⟨o, n, t, tk, h1, h2, h3, key_of ok e2⟩
theorem seen_dict {H : Hp} {h : Heap} {d : Addr} {xs : List (NK × Addr × Value)} (ok : HOk P w H h) (e : H d = some (.ext (SeenR P w d xs))) (hk : ∀ x ∈ xs, KeyN H x.2.1 x.1) : h.DictOfH (nestKind P w) d xs := by
  obtain ⟨⟨o, es, ep, h1, h2, h3, h4, h5⟩, _⟩ := (show ObjOk P w H h d (.ext (SeenR P w d xs)) from ok d _ e)
  exact ⟨o, es, ep, h1, h2, h3, h4, fun x hx => key_nest ok (hk x hx), h5⟩
end
def rInN (P : Program) (w : World) (f : Bool → Bool) : R2 := fun x y H Q => ∃ d q k n, x = .ref q ∧ y = .ref d ∧ KeyN H q k ∧ SeenAt P w H d n ∧ ∀ b, Q (.bl (f b)) H
def tDNewN (P : Program) (w : World) : TE := fun _ H Q => ∀ p, H p = none → SeenAt P w (upd H p (.ext (SeenR P w p []))) p 0 → Q (.ref p) (upd H p (.ext (SeenR P w p [])))
def sDPutN (P : Program) (w : World) (td ty tv : TE) : TS := fun D σ H => tv σ H fun v H1 => td σ H1 fun x H2 => ty σ H2 fun y H3 => ∃ d q k n, x = .ref d ∧ y = .ref q ∧ KeyN H3 q k ∧ SeenAt P w H3 d n ∧ n < sizeLine ∧ ∀ ob, SeenAt P w (upd H3 d ob) d (n + 1) → D.nx σ (upd H3 d ob)
section
variable {X : Cx} {pins : List (Addr × Obj)} {σ : L2.St} {H : Hp} {s : Shared} {td ty tv : TE} {o i value : Expr} {pos pos' : Pos}
theorem op_inN (hu : X.A.units + 64 < cLine) : OpR X (compareOp .In) (rInN X.prog X.w id) := by
  intro pins s σ H x y v u Q I rx ry h
  obtain ⟨d, q, k, n, rfl, rfl, hk, ⟨xs, e, hd, _, hx⟩, q2⟩ := h
  cases (show v = Value.ref q from rx)
  cases (show u = Value.ref d from ry)
  exact wpAny_in_heap (show X.A.in1.units + 8 < cLine from by show X.A.units + 1 + 8 < cLine; omega) (key_nest I.hok hk) hd (seen_dict I.hok e hx) ⟨.bl _, H, I.kept (fun _ _ z => z), rfl, q2 _⟩
theorem op_notInN (hu : X.A.units + 64 < cLine) : OpR X (compareOp .NotIn) (rInN X.prog X.w not) := by
  intro pins s σ H x y v u Q I rx ry h
  obtain ⟨d, q, k, n, rfl, rfl, hk, ⟨xs, e, hd, _, hx⟩, q2⟩ := h
  cases (show v = Value.ref q from rx)
  cases (show u = Value.ref d from ry)
  exact wpAny_notIn_heap (show X.A.in1.units + 8 < cLine from by show X.A.units + 1 + 8 < cLine; omega) (key_nest I.hok hk) hd (seen_dict I.hok e hx) ⟨.bl _, H, I.kept (fun _ _ z => z), rfl, q2 _⟩
theorem pe_dnewN : PE X (.Dict [] [] pos) (tDNewN X.prog X.w) := ⟨fun pins s σ H Q I h => by
  have ok : ∀ H', ObjOk X.prog X.w H' (s.heap.push { cls := .type "dict", data := .dict #[] }) s.heap.objs.size (.ext (SeenR X.prog X.w s.heap.objs.size [])) := fun H' => SeenR.ok ⟨_, #[], 0, Heap.get?_push_size _ rfl, ⟨rfl, rfl, rfl⟩, rfl, rfl, List.nodup_nil⟩
  refine wpAny_Dict_empty ⟨.ref s.heap.objs.size, _, I.laid (a := s.heap.objs.size) (o := .ext (SeenR X.prog X.w s.heap.objs.size [])) (t' := s.toks) (fun _ _ q => Heap.get?_push_of_some _ q) (Nat.le_refl _) (ok _), rfl, h _ (I.hok.fresh (Nat.le_refl _)) ?_⟩
  exact ⟨[], upd_same, beq_eq_false_iff_ne.mpr (Ne.symm (Nat.ne_of_lt I.big)), Nat.le_refl _, by simp⟩⟩
theorem ps_dputN (hu : X.A.units + 64 < cLine) (ho : PE X o td) (hi : PE X i ty) (hv : PE X value tv) (hs : swapsWith value (some (.Subscript o i pos')) pos.line X.env = pure false) :
    PS X (.Assign [.Subscript o i pos'] value pos) (sDPutN X.prog X.w td ty tv) := by
  refine ⟨fun pins s σ H D I h => ?_⟩
  refine wpAny_Assign_Subscript (thn (hv.run pins s σ H _ I h) fun r s1 ⟨v, H1, I1, rv, q1⟩ => thn (ho.run pins s1 σ H1 _ I1 q1) fun u s2 ⟨x, H2, I2, rx, q2⟩ => thn (hi.run pins s2 σ H2 _ I2 q2) fun iv s3 ⟨y, H3, I3, ry, d, q, k, n, ex, ey, hk, ⟨xs, e, hd, hn, hx⟩, hz, q3⟩ => ?_) hs
  subst ex ey
  obtain rfl : u = Value.ref d := rx
  obtain rfl : iv = Value.ref q := ry
  refine wpAny_setItem_heap (hsz := by omega) (show X.A.in1.units + 8 < cLine from by show X.A.units + 1 + 8 < cLine; omega) (key_nest I3.hok hk) (seen_dict I3.hok e hx) fun h' dd' hs' => ?_
  obtain ⟨ob, es, ep, h1, h2, h3, h4, _, h5⟩ := dd'
  have I4 := d_write (t' := s3.toks + (nestKind X.prog X.w).draws k) I3 (by rw [e]; exact True.intro) hs' ⟨ob, h1⟩ (SeenR.ok (P := X.prog) (w := X.w) (xs := storedH xs k q r) (H := upd H3 d (.ext (SeenR X.prog X.w d (storedH xs k q r)))) ⟨ob, es, ep, h1, h2, h3, h4, h5⟩)
  have nt : ∀ b ys, H3 b = some (.tup ys) → b ≠ d := fun b ys hb z => by rw [z, e] at hb; cases hb
  refine ⟨σ, _, I4, q3 _ ⟨storedH xs k q r, upd_same, hd, ?_, fun x hx' => ?_⟩⟩
  · unfold storedH
    split
    · rw [List.length_map]; omega
    · rw [List.length_append, List.length_singleton]; omega
  · have kp : ∀ b ys, H3 b = some (.tup ys) → upd H3 d (.ext (SeenR X.prog X.w d (storedH xs k q r))) b = some (.tup ys) := fun b ys hb => by rw [upd_ne (nt b ys hb)]; exact hb
    unfold storedH at hx'
    split at hx'
    · obtain ⟨z, hz1, rfl⟩ := List.mem_map.mp hx'
      have := (hx z hz1).keep kp
      unfold putAt
      split <;> exact this
    · rcases List.mem_append.mp hx' with hx' | hx'
      · exact (hx x hx').keep kp
      · rw [List.mem_singleton.mp hx']
        exact hk.keep kp
end
end Nk
namespace Dt
open PySem PySem.Spec PyProof.Rows PyProof.V L2 StX
/-! ### name = {k: v for ..} on one line, the keys tuples, the name a local -/
section
variable {X : Cx}
theorem dcT_core {use : Option (Value → Sem Unit)} {Qf : Value → Shared → Prop} {Q : VK} {pins : List (Addr × Obj)} {s0 : Shared} {σ : L2.St} {H0 : Hp} {pos2 : Pos} {kx vx tg iter : Expr} {ifs : List Expr} {scope : Scope} {own : List (Str × Nat)} {pos : Pos} {wi : TI} {g : TG} {tt : TT} {tk tv : TE} (small : X.A.units < cLine) (calm : X.calm = true) (nodup : X.N.Nodup) (hi : PI X tg iter wi) (ok : BlkOk X.N X.env.scope scope own)
    (hg : ∀ (s : Shared) (H : Hp) (C : Addr) (cl : List (Str × Addr)) (fp : List Addr), PG (X.blk s H scope (compEnvC scope cl C X.env) fp) tg g) (ht : ∀ (s : Shared) (H : Hp) (C : Addr) (cl : List (Str × Addr)) (fp : List Addr), PTs (X.blk s H scope (compEnvC scope cl C X.env) fp) ifs tt)
    (hk : ∀ (s : Shared) (H : Hp) (C : Addr) (cl : List (Str × Addr)) (fp : List Addr), PE (X.blk s H scope (compEnvC scope cl C X.env) fp) kx tk) (he : ∀ (s : Shared) (H : Hp) (C : Addr) (cl : List (Str × Addr)) (fp : List Addr), PE (X.blk s H scope (compEnvC scope cl C X.env) fp) vx tv)
    (unfolded : ∀ x, foldedSetIterable iter X.env x = pure x ) (I0 : Inv X pins σ H0 s0) (wish : tDcT wi g tt tk tv (own.map (·.2)) σ H0 Q)
    (fin : ∀ D C s' m H', Inv X pins σ H' s' → Q (.ref D) H' → s'.heap.Ns C m → FpOk X pins H' C → compPost (model X.prog X.w) X.A X.xe use Qf (.ref D) C (.ok .next) s') :
    wpAny (model X.prog X.w) X.A (comprehension (.DictComp kx vx [⟨tg, iter, ifs, 0⟩] scope pos) scope X.env pos2 newDict false (eval iter X.env) use) Qf X.xe s0 := by
  have bound : ∀ y ∈ scope.names, y.2 = .free → ∃ c, X.env.cells.lookup y.1 = some c := fun y hy e => (ok.free y hy e).elim (fun k => I0.ok.has _ (.inl k)) fun k => I0.ok.has _ (.inr k)
  refine wpAny_comprehension_free (use := use) rfl unfolded (closure_ok bound) ok.kind (fun y hy e => by rw [ok.uniq y hy, e]) (thn (hi.run pins s0 σ H0 _ I0 wish) fun xv sA walked => thn walked fun itv sB arrived => ?_)
  obtain ⟨it, fp, tn, J, HB, rfl, IB, T, stB, fpB, made⟩ := arrived
  refine wpAny_newObj_type (newEnv_comp ?_)
  -- the new dict
  obtain ⟨D, hD⟩ : ∃ D, sB.heap.objs.size = D := ⟨_, rfl⟩
  have free : HB D = none := IB.hok.fresh (Nat.le_of_eq hD)
  obtain ⟨W, ⟨m0, w0⟩, turn⟩ := made D free
  let sC : Shared := { sB with heap := sB.heap.push { cls := .type "dict", data := .dict #[] } }
  have over : ∀ b u, sB.heap.get? b = some u → sC.heap.get? b = some u := fun b u e => Heap.get?_push_of_some _ e
  have IC : Inv X pins σ (upd HB D (.dT [])) sC := IB.laid (t' := sB.toks) over (Nat.le_of_eq hD) (by rw [← hD]; exact dt_empty sB.heap IB.big)
  have fpC : ∀ b ∈ fp, FpOk X pins (upd HB D (.dT [])) b ∧ b < sC.heap.objs.size := fun b hb => by
    obtain ⟨u, e, _⟩ := T.obj _ _ stB b hb
    have lt := Heap.lt_size e
    refine ⟨⟨?_, (fpB b hb).2⟩, by show b < (sB.heap.push _).objs.size; rw [Heap.size_push]; exact Nat.lt_succ_of_lt lt⟩
    rw [upd_ne (by rw [← hD]; exact Nat.ne_of_lt lt)]
    exact (fpB b hb).1
  -- the block of names
  have ID := block_start IC ok nodup fpC
  let cells := cellsFrom (sC.heap.objs.size + 1) scope.names (cloFrom X.env.cells scope.names [])
  have pg := hg sC (upd HB D (.dT [])) sC.heap.objs.size cells fp
  have pt := ht sC (upd HB D (.dT [])) sC.heap.objs.size cells fp
  have pk := hk sC (upd HB D (.dT [])) sC.heap.objs.size cells fp
  have pv := he sC (upd HB D (.dT [])) sC.heap.objs.size cells fp
  let env2 := compEnvC scope cells sC.heap.objs.size X.env
  let X2 := X.blk sC (upd HB D (.dT [])) scope env2 fp
  let sD : Shared := { sC with heap := pushCells (sC.heap.push { cls := .type "dict", data := .dict #[] }) scope.names }
  have stD : tn 0 sD.heap := T.keep _ _ _ (T.keep _ _ _ stB fun b _ u e => over b u e) fun b _ u e => pushCells_keeps _ _ _ _ (Heap.get?_push_of_some _ e)
  have stays : ∀ {σ' : L2.St} {H' : Hp} {s' : Shared}, Inv X2 [] σ' H' s' → (∀ b ∈ fp, H' b = none) → ∀ b ∈ fp, FpOk X2 [] H' b := fun {σ' H' s'} I' none' b hb =>
    ⟨none' b hb, (I'.ok.exf b hb).1, I'.ok.exfs b hb, .inl hb, fun x c e => (I'.ok.exf b hb).2 x c e, fun p hp => absurd (show p ∈ ([] : List (Addr × Obj)) ++ [] from hp) (by simp)⟩
  have loop : codeAny (model X.prog X.w) X.A (.compLoop (.DictComp kx vx [⟨tg, iter, ifs, 0⟩] scope pos) 0 (.ref it) (.ref D) env2) (compPost (model X.prog X.w) X.A X.xe use Qf (.ref D) sC.heap.objs.size) sD := by
    refine compLoop_anyD (fun m s' => ∃ i H', Inv X2 [] (wipe σ (own.map (·.2))) H' s' ∧ tn i s'.heap ∧ (∀ b ∈ fp, H' b = none) ∧ W i m H') ?_ m0 ⟨0, _, ID, stD, fun b hb => (fpC b hb).1.1, w0⟩
    rintro m s1 ⟨i, H1, I1, st1, none1, w1⟩
    rcases turn i m H1 w1 with ⟨stop, last⟩ | ⟨go, Nx, less, step⟩
    · refine thnF (T.done X2 rfl rfl rfl calm i [] s1 _ H1 (fun _ _ => False) I1 (stays I1 none1) st1 stop) fun r s2 ⟨hr, I2⟩ => ?_
      subst hr
      have back : Inv X pins σ H1 s2 := IC.call' (ch := fp) I2.os I2.base I2.hok I2.bare fun b hb => ⟨(fpC b hb).1.2.2.2.1, (fpC b hb).1.2.1, (fpC b hb).1.2.2.2.2.1, (fpC b hb).1.2.2.2.2.2⟩
      have freeC : H1 sC.heap.objs.size = none := I2.free
      obtain ⟨names, held, _⟩ := I2.loc
      exact fin D sC.heap.objs.size s2 names H1 back last held (IC.fpOk (Nat.le_refl _) freeC)
    · refine thnF (T.item X2 rfl rfl rfl calm i [] s1 _ H1 (fun _ _ => False) I1 (stays I1 none1) st1 go) fun r s2 ⟨u, hr, taken⟩ => ?_
      subst hr
      refine thnF taken fun _ s3 ⟨x, H3, I3, r3, y3, st3, none3⟩ => ?_
      refine thnF (pg.run _ s3 _ H3 x u _ (I3.pinned (stays I3 none3) (T.obj _ _ st3)) r3 (step x H3 y3)) fun _ s4 ⟨σ4, H4, I4, wiped, q4⟩ => ?_
      refine thnF (pt.run _ s4 σ4 H4 _ I4 q4) fun b s5 ⟨H5, I5, q5⟩ => ?_
      have turned : ∀ {s' : Shared} {H' : Hp}, Inv X2 ([] ++ pinsAt fp s3.heap) σ4 H' s' → Nx H' → ∃ m', m' < m ∧ ∃ i H', Inv X2 [] (wipe σ (own.map (·.2))) H' s' ∧ tn i s'.heap ∧ (∀ b ∈ fp, H' b = none) ∧ W i m' H' := fun {s' H'} I' nx => by
        obtain ⟨m', lt, w'⟩ := less H' nx
        have pin : ∀ b ∈ fp, ∀ u, s3.heap.get? b = some u → s'.heap.get? b = some u ∧ H' b = none := fun b hb u e =>
          have z := I'.pin (b, u) (List.mem_append_right _ (List.mem_append_right _ (mem_pinsAt hb e)))
          ⟨z.1, z.2.1⟩
        have same : (wipe σ (own.map (·.2))).length = σ4.length := by rw [← wiped, wipe_length]
        refine ⟨m', lt, i + 1, H', (I'.unpinned (pins := [])).weak same (fun j v e => ?_), T.keep _ _ _ st3 fun b hb u e => (pin b hb u e).1, fun b hb => ?_, w'⟩
        · rw [← wiped] at e; exact (wipe_some e).1
        · obtain ⟨u, e, _⟩ := T.obj _ _ st3 b hb
          exact (pin b hb u e).2
      cases b with
      | false => exact turned I5 q5
      | true =>
        refine thnF (pk.run _ s5 σ4 H5 _ I5 q5) fun kv s6 ⟨yk, H6, I6, r6, q6⟩ => ?_
        refine thnF (pv.run _ s6 σ4 H6 _ I6 q6) fun vv s7 ⟨yv, H7, I7, r7, kvs, k, q, ek, tup, at7, few, nx⟩ => ?_
        subst ek
        cases (show kv = Value.ref q from r6)
        exact dictSetT (X := X2) small I7 at7 few tup r7 fun s8 I8 => turned I8 nx
  subst hD
  show codeAny (model X.prog X.w) X.A (.compStart (.DictComp kx vx [⟨tg, iter, ifs, 0⟩] scope pos) 0 (.ref it) (.ref sB.heap.objs.size) env2) (compPost (model X.prog X.w) X.A X.xe use Qf (.ref sB.heap.objs.size) sC.heap.objs.size) sD
  exact codeAny_compStart_dict loop (T.self X.A 0 _ _ _ stD loop)
theorem ps_setDcT {i : Nat} {y : Str} {py : Pos} {kx vx tg iter : Expr} {ifs : List Expr} {scope : Scope} {own : List (Str × Nat)} {pos spos : Pos} {wi : TI} {g : TG} {tt : TT} {tk tv : TE} (small : X.A.units < cLine) (calm : X.calm = true) (nodup : X.N.Nodup) (at1 : X.N[i]? = some y) (yloc : X.env.scope.names.lookup y = some .local)
    (sw : swapsWith (.DictComp kx vx [⟨tg, iter, ifs, 0⟩] scope pos) (some (.Name y py)) spos.line X.env = pure true) (hi : PI X tg iter wi) (ok : BlkOk X.N X.env.scope scope own)
    (hg : ∀ (s : Shared) (H : Hp) (C : Addr) (cl : List (Str × Addr)) (fp : List Addr), PG (X.blk s H scope (compEnvC scope cl C X.env) fp) tg g) (ht : ∀ (s : Shared) (H : Hp) (C : Addr) (cl : List (Str × Addr)) (fp : List Addr), PTs (X.blk s H scope (compEnvC scope cl C X.env) fp) ifs tt)
    (hk : ∀ (s : Shared) (H : Hp) (C : Addr) (cl : List (Str × Addr)) (fp : List Addr), PE (X.blk s H scope (compEnvC scope cl C X.env) fp) kx tk) (he : ∀ (s : Shared) (H : Hp) (C : Addr) (cl : List (Str × Addr)) (fp : List Addr), PE (X.blk s H scope (compEnvC scope cl C X.env) fp) vx tv)
    (unfolded : ∀ x, foldedSetIterable iter X.env x = pure x := by intro _; rfl) : PS X (.Assign [.Name y py] (.DictComp kx vx [⟨tg, iter, ifs, 0⟩] scope pos) spos) (tAsg (tDcT wi g tt tk tv (own.map (·.2))) (gName i)) := by
  refine ⟨fun pins s0 σ H0 D I0 wish => ?_⟩
  rw [exec_Assign_Name_used _ _ _ _ sw]
  refine wpAny_bind (wpAny_standAt (wpAny_bind ?_))
  show wpAny _ X.A (do let _ ← comprehension (.DictComp kx vx [⟨tg, iter, ifs, 0⟩] scope pos) scope X.env (firstIterPos [⟨tg, iter, ifs, 0⟩] pos) newDict false (eval iter X.env) (some (assign (.Name y py) X.env))) _ _ s0
  have wish : tDcT wi g tt tk tv (own.map (·.2)) σ H0 (fun x H1 => gName i x σ H1 D.nx) := wish
  refine wpAny_bind (thn (dcT_core (Qf := fun _ s' => SP X pins D .next s') small calm nodup hi ok hg ht hk he unfolded I0 wish fun L C s' names H' I' last held free => ?_) fun _ s' done => wpAny_pure (wpAny_pure done))
  show wpAny _ _ (assign (.Name y py) X.env (.ref L)) _ _ _
  obtain ⟨f0, f1, _, f3, f4, f5⟩ := free
  refine wpAny_assign_Name (store_ok2 (v := V.ref L) I' nodup at1 (.inl yloc) rfl (fun s2 I2 moved => ?_) (.inr yloc))
  obtain ⟨a, but, where_⟩ := moved
  have apart : C ≠ a := where_.elim (fun z => by rw [z]; exact f1) fun z e => f4 y a z e.symm
  exact ⟨names, held.sameBut but apart, fun h3 but3 => ⟨_, H', I2.turned (t' := s2.toks) (fun b u hb e => (but3.2 b hb).trans e) f0 f1 f3 f4 f5, last⟩⟩
theorem sw_dict {kx vx : Expr} {gs : List Comprehension} {scope : Scope} {pos py : Pos} {y : Str} {l : Nat} {env : Env} (kind : env.scope.kind = .function) (yloc : env.scope.names.lookup y = some .local) (line : (py.line == pos.line) = true)
    (apart : (scope.names.any fun (n, k) => n == y && (k == .local || k == .cell)) = false) : swapsWith (.DictComp kx vx gs scope pos) (some (.Name y py)) l env = pure true := by
  have k1 : env.kindOf y = some .local := yloc
  have k2 : env.blockKind = .function := by unfold Env.blockKind; rw [kind]; rfl
  unfold swapsWith
  simp only [k1, k2, apart, Expr.pos, line]
  rfl
end
/-! ### the reading over a range, D told with what it holds -/
section
variable {tas : TA} {G : TG} {tt : TT} {tk tv : TE} {vs : List Nat} {σ : L2.St} {H : Hp} {Q : VK}
def DcR1 (G : TG) (tt : TT) (tk tv : TE) (vs : List Nat) (σ : L2.St) (Q : VK) (us : List V) (H1 : Hp) : Prop := ∃ j : Int, us = [.int j] ∧ -(2 ^ 62) ≤ j ∧ j < 2 ^ 62 ∧ ∀ D, H1 D = none → ∃ W : Nat → Nat → Hp → Prop, (∃ m, W 0 m (upd H1 D (.dT []))) ∧ ∀ i m H, W i m H →
  ((Itr 0 j.toNat).stop i H ∧ Q (.ref D) H) ∨ ((Itr 0 j.toNat).go i H ∧ ∃ Nx : Hp → Prop, (∀ H', Nx H' → ∃ m', m' < m ∧ W (i + 1) m' H') ∧ ∀ x H', (Itr 0 j.toNat).yld i H x H' → G x (wipe σ vs) H' fun σ2 H2 => wipe σ2 vs = wipe σ vs ∧ tt σ2 H2 fun b H3 =>
    if b = true then tk σ2 H3 fun y H4 => tv σ2 H4 fun z H5 => ∃ (kvs : Tb) (k : List Key) (q : Addr), y = .ref q ∧ H5 q = some (.tup (k.map kV)) ∧ H5 D = some (.dT kvs) ∧ kvs.length < sizeLine ∧ Nx (upd H5 D (.dT (putK kvs k z))) else Nx H3)
theorem r_dcR1 (k : tas σ H fun us H1 => DcR1 G tt tk tv vs σ Q us H1) : tDcT (iRng1 tas) G tt tk tv vs σ H Q := k
theorem dcR1_go {j : Int} (Pv : Addr → Nat → Hp → Prop) (hb : -(2 ^ 62) ≤ j ∧ j < 2 ^ 62) (h0 : ∀ D, H D = none → Pv D 0 (upd H D (.dT [])))
    (hs : ∀ D (i : Nat) H', H D = none → (i : Int) < j → Pv D i H' → G (.int i) (wipe σ vs) H' fun σ2 H2 => wipe σ2 vs = wipe σ vs ∧ tt σ2 H2 fun b H3 =>
      if b = true then tk σ2 H3 fun y H4 => tv σ2 H4 fun z H5 => ∃ (kvs : Tb) (k : List Key) (q : Addr), y = .ref q ∧ H5 q = some (.tup (k.map kV)) ∧ H5 D = some (.dT kvs) ∧ kvs.length < sizeLine ∧ Pv D (i + 1) (upd H5 D (.dT (putK kvs k z))) else Pv D (i + 1) H3)
    (hd : ∀ D H', H D = none → Pv D j.toNat H' → Q (.ref D) H') : DcR1 G tt tk tv vs σ Q [.int j] H := by
  refine ⟨j, rfl, hb.1, hb.2, fun D hD => ⟨fun i m H' => m = j.toNat - i ∧ i ≤ j.toNat ∧ Pv D i H', ⟨_, rfl, Nat.zero_le _, h0 D hD⟩, ?_⟩⟩
  rintro i m H' ⟨rfl, le, pv⟩
  rcases Nat.lt_or_ge i j.toNat with lt | ge
  · refine .inr ⟨lt, Pv D (i + 1), fun H2 p2 => ⟨_, Nat.sub_lt_sub_left lt (Nat.lt_succ_self i), rfl, lt, p2⟩, ?_⟩
    rintro x H2 ⟨rfl, rfl⟩
    rw [Int.zero_add]
    exact hs D i _ hD (by omega) pv
  · obtain rfl : i = j.toNat := by omega
    exact .inl ⟨Nat.le_refl _, hd D H' hD pv⟩
end
end Dt
namespace Sr
open PySem PySem.Spec PyProof.Rows PyProof.V L2 StX
/-! ### C(*y): an instance made with the items of a sequence, __init__ with a star parameter -/
section
variable {X : Cx} {CX : CXT} {k : Nat} {f C : Addr} {sp : Sp} {E : XK} {x : Str} {e : Expr} {te : TE} {p sp_ pos : Pos}
def tMakeS (K : PySem.W.Frag) (C : Addr) (sp : Sp) (E : XK) (te : TE) : TE := fun σ H Q => te σ H fun y H1 => ∃ a xs, y = V.ref a ∧ (SqT K H1 a xs ∨ SqL K H1 a xs) ∧ ∀ x dx, H1 x = Option.none → H1 dx = Option.none → dx ≠ x → sp (V.ref x :: xs) (upd (upd H1 dx (.own x)) x (.ins C dx [])) (fun v H2 => v = .non ∧ Q (.ref x) H2) E
theorem pe_makeS (M : Mk X.K C f) (F : FnR X.prog X.w X.K X.mg X.base CX k f sp) (hr : Room (k + 1) X.A) (hg : Gl X x) (hm : X.mg x = some (.ref C)) (hx : Passes CX X E) (he : PE X e te) (hd : (x == ("__debug__" : Str)) = false := by decide)
    (hst : starEach [.Starred e sp_] X.env = [(true, eval e X.env)] := by rfl) : PE X (.Call (.Name x p) [.Starred e sp_] [] pos) (tMakeS X.K C sp E te) := by
  refine ⟨fun pins s σ H Q I h => ?_⟩
  refine wpAny_Call_Name_kw (ld_glob I hg hm ?_ hd)
  refine PySem.W.callWith_S (h₀ := X.base) I.ok.mod.kin M.kp (thn (he.run pins s σ H _ I h) fun v s1 ⟨y, H1, I1, ry, a, xs, ey, hxs, q⟩ => ?_) hst
  subst ey
  obtain rfl : v = Value.ref a := ry
  exact star_any I1 hxs fun us s2 I2 rv => ⟨I2.kIn, run_makeR M F hr hx I2 rv q⟩
/-- C() -/
theorem pe_makeR0 (M : Mk X.K C f) (F : FnR X.prog X.w X.K X.mg X.base CX k f sp) (hr : Room (k + 1) X.A) (hg : Gl X x) (hm : X.mg x = some (.ref C)) (hx : Passes CX X E) (hd : (x == ("__debug__" : Str)) = false := by decide) : PE X (.Call (.Name x p) [] [] pos) (tMakeR C sp E tNil) :=
  ⟨fun pins s σ H Q I h => wpAny_Call_Name_kw (ld_glob I hg hm (PySem.W.callWith_K0 I.kIn M.kp (run_makeR (us := []) M F hr hx I .nil h)) hd)⟩
end
end Sr
namespace Gk
open PySem PySem.Spec PyProof.Rows PyProof.V L2 StX
theorem nodup_sub {α : Type} [DecidableEq α] : ∀ {l xs : List α}, l.Nodup → (∀ x ∈ l, x ∈ xs) → l.length ≤ xs.length
  | [], _, _, _ => Nat.zero_le _
  | x :: l, xs, n, h => by
    have hx := h x (by simp)
    have := nodup_sub (l := l) (xs := xs.erase x) (List.nodup_cons.mp n).2 fun y hy => (List.mem_erase_of_ne (fun e => (List.nodup_cons.mp n).1 (by rw [← e]; exact hy))).mpr (h y (by simp [hy]))
    rw [List.length_erase_of_mem hx] at this
    have := List.length_pos_of_mem hx
    rw [List.length_cons]; omega
/-! ### sorted(set(l)), l a list of ints -/
section
variable {P : Program} {w : World} {A : Around} {E : Value → Shared → Prop} {s : Shared} {a : Addr}
theorem sortedSet {S : Int → Bool} {n : Nat} {Q : Value → Shared → Prop} (R : SetR w s.heap a S n) (calm : A.handled = none)
    (k : ∀ s' p (out : Array Value) (c : Nat) (ns : List Int), (∀ b o, s.heap.get? b = some o → s'.heap.get? b = some o) → s'.gens = s.gens → s'.os = s.os → s.heap.objs.size ≤ p →
      s'.heap.get? p = some (seqObj "list" out c) → IntsAre out.toList ns → ns.Pairwise (· < ·) → (∀ k, k ∈ ns ↔ S k = true) → Q (.ref p) s') : wpAny (model P w) A (call (.builtin "sorted") [.ref a]) Q E s := by
  obtain ⟨o, es, ep, t, ho, hex, hd, good, nd, hm, hb, hf, hn, ris, led⟩ := R
  refine Calls.call_function_entry kind_sorted plain_sorted entry_sorted (args_sorted1 _) ?_
  unfold Builtin.«sorted»
  refine wpAny_bind (m := checkCount "sorted" 1 1 _) (wpAny_pure (wpAny_bind (collect_set (A := A.in1) calm ⟨o, ho, hex.1, hd⟩ hf hb ris led fun s1 vs old young g1 o1 pm => ?_)))
  have I : IntsAre vs (vs.map Builtin.Re.reRawOf) := ints_of vs fun v hv => by
    obtain ⟨e, he, q⟩ := List.mem_map.mp (pm.mem_iff.mp hv)
    obtain ⟨z, tk, h1, _⟩ := good e he
    exact ⟨z, tk, by rw [← q]; exact h1⟩
  have pk : (vs.map Builtin.Re.reRawOf).Perm (es.toList.map keyOf) := by
    have := pm.map Builtin.Re.reRawOf
    rwa [List.map_map] at this
  have few : vs.length ≤ sizeLine := by
    rw [pm.length_eq, List.length_map, Array.length_toList]
    exact fits_of_scanBound hb
  refine wpAny_bind (wpAny_newList ?_ few)
  have at1 : (s1.heap.push (seqObj "list" vs.toArray 0)).get? s1.heap.objs.size = some (seqObj "list" vs.toArray 0) := Heap.get?_push_size _ rfl
  refine wpAny_bind (wpAny_holding (wpAny_call_entry slot_list_sort ⟨_, at1, rfl⟩ entry_list_sort (list_sort_treeAny at1 I few fun out ns' a1 a2 a3 => ⟨_, rfl, ?_⟩) (args_list_sort _)))
  obtain ⟨c, hc⟩ := sortedHeap_at (vs := vs) (out := out) at1
  have pn : ns'.Perm (es.toList.map keyOf) := a2.trans pk
  refine wpAny_pure ⟨_, rfl, k _ s1.heap.objs.size out c ns' (fun b u e => ?_) g1 o1 young hc a1 (lt_of_le_nodup ns' a3 (pn.nodup_iff.mpr nd)) (fun z => by rw [pn.mem_iff, ← hm z])⟩
  have q := old b u e
  have lt := Heap.lt_size q
  show (sortedHeap (s1.heap.push (seqObj "list" vs.toArray 0)) s1.heap.objs.size vs out).get? b = some u
  rw [sortedHeap_old (Nat.ne_of_lt lt) (by rw [size_push']; exact Nat.lt_succ_of_lt lt)]
  exact Heap.get?_push_of_some _ q
end
section
open PySem.W
variable {P : Program} {w : World} {A : Around} {E : Value → Shared → Prop} {s : Shared}
/-- an empty set, as made -/
abbrev eset (w : World) : Obj := { cls := .type "set", dict := none, data := .set #[] 0 (.fresh 0 0 (!w.params.followText "set-order")) }
set_option maxRecDepth 100000 in
theorem setOf {l : Addr} {items : Array Value} (ns : List Int) {Q : Value → Shared → Prop} (calm : A.handled = none) (hl : s.heap.IsList l items) (hit : IntsAre items.toList ns) (hb : ns.length + 1 < scanBound)
    (k : ∀ (h' : Heap) (tk c : Nat), SetR w h' s.heap.objs.size (fun j => decide (j ∈ ns)) c → c ≤ ns.length → (∀ b o, s.heap.get? b = some o → h'.get? b = some o) → Q (.ref s.heap.objs.size) { s with heap := h', toks := tk }) :
    wpAny (model P w) A (call (.type "set") [.ref l]) Q E s := by
  have many : items.size = ns.length := by have := IntsAre.length hit; rwa [Array.length_toList] at this
  obtain ⟨c, tl, hmro⟩ := F.called_set.mro
  have made := F.called_set.made
  have sub := F.called_set.sub
  refine wpAny_call (codeAny_of_tree ?_)
  show wpAny _ _ (callAny (.type "set") _) _ _ _
  refine wpAny_pure ⟨Code.quiet_builtin _ (by decide +kernel), codeAny_builtin F.entry_type_call ?_⟩
  rw [Around.under_plain (weight_type_call_type "set" [.ref l] []) rfl]
  have n1 := F.called_set.notType
  have n2 := F.called_set.canCreate
  have n3 := F.typeCall_set_1 (.ref l)
  repeat (any_goals (first | assumption | wp_step))
  refine codeAny_mono (code_set_led1 (.ref l) (E := E) (Q₁ := fun obj s₁ => obj = .ref s.heap.objs.size ∧ s₁ = { s with heap := s.heap.push (eset w) }) ⟨rfl, rfl⟩) fun r s₁ hr => ?_
  cases r with
  | error e => exact hr
  | ok fl =>
  cases fl with
  | next => exact hr.elim
  | brk => exact hr.elim
  | cont => exact hr.elim
  | ret obj =>
  obtain ⟨rfl, rfl⟩ := hr
  have at1 : (s.heap.push (eset w)).get? s.heap.objs.size = some (eset w) := Heap.get?_push_size _ rfl
  have ty1 : Shared.TypeIs { s with heap := s.heap.push (eset w) } (.ref s.heap.objs.size) "set" := ⟨_, at1, rfl⟩
  have i1 := F.called_set.init.lookup
  have i2 := F.called_set.init.bind (.ref s.heap.objs.size)
  repeat (any_goals (first | assumption | wp_step))
  refine codeAny_mono (codeAny_call_builtin (R := wants (fun r s₂ => r = .none ∧ ∃ h' tk c, s₂ = { s with heap := h', toks := tk } ∧ SetR w h' s.heap.objs.size (fun j => decide (j ∈ ns)) c ∧ c ≤ ns.length ∧
    ∀ b o, s.heap.get? b = some o → h'.get? b = some o) E) F.called_set.init.plain F.entry_set_init (check_set_init_1 ty1 ?_)) fun r₂ s₂ hr₂ => ?_
  · obtain ⟨⟨lc, ld, ldat, lsl⟩, hol, hcl, nl, hdl⟩ := hl
    simp only at hcl hdl
    subst hcl; subst hdl
    have at2 : (s.heap.push (eset w)).get? l = some { cls := .type "list", dict := ld, data := .seq items nl, slots := lsl } := Heap.get?_push_of_some _ hol
    have s1 := F.sub_list_set
    have s2 := F.sub_list_frozenset
    have s3 : (Value.type "list" == Value.type "dict") = false := by decide
    have isl : (s.heap.push (eset w)).IsList l items := ⟨_, at2, rfl, nl, rfl⟩
    unfold Builtin.«set.__init__» noKeywords Builtin.Frozenset.updateFrom
    generalize hPI : pyIter = PI
    wp_walk
    subst hPI
    refine wpAny_pyIter_list isl (wpAny_bind (wpAny_runValue ?_))
    have ltl : l < s.heap.objs.size := Heap.lt_size hol
    have c3 : A.in1.in1.in1.handled = none := by simp [calm]
    have apart : l ≠ (s.heap.push (eset w)).objs.size := by rw [Heap.size_push]; exact Nat.ne_of_lt (Nat.lt_succ_of_lt ltl)
    have out : s.heap.objs.size ∉ [(s.heap.push (eset w)).objs.size, l] := by
      rw [Heap.size_push]
      simp only [List.mem_cons, List.mem_singleton, List.not_mem_nil, or_false, not_or]
      exact ⟨Nat.ne_of_lt (Nat.lt_succ_self _), Nat.ne_of_gt ltl⟩
    have val : ∀ (i : Nat) (v : Value), items[i]? = some v → ∃ k t, ns[i]? = some k ∧ v = .int k t := fun i v hv => by
      have hi : i < ns.length := by rw [← many]; exact (Array.getElem?_eq_some_iff.mp hv).1
      obtain ⟨t, e⟩ := IntsAre.int_at hit i v (by rw [Array.getElem?_toList]; exact hv)
      refine ⟨ns[i], t, List.getElem?_eq_getElem hi, ?_⟩
      rw [e, List.getD_eq_getElem?_getD, List.getElem?_eq_getElem hi] <;> rfl
    refine set_update_ints ((Walks.list c3 _ l apart items).toS) s.heap.objs.size out ns many hb val (items.size - 0) 0 _ (by omega) (Nat.zero_le _) ⟨⟨_, Heap.get?_push_size _ rfl, rfl, rfl⟩, (isl.push _)⟩
      ⟨0, Nat.le_refl 0, setR_new_at (Heap.get?_push_of_some _ at1)⟩ fun s' c' hm hc' hS' => ?_
    obtain ⟨h', g2, d', tk', os'⟩ := s'
    obtain rfl : g2 = s.gens := hm.gens
    obtain rfl : d' = s.drawn := hm.drawn
    obtain rfl : os' = s.os := hm.os
    show wpAny _ _ _ _ _ _
    refine wpAny_pure ?_
    show wpAny _ _ (ret Value.none) _ _ _
    rw [many] at hc'
    refine wpAny_pure ⟨rfl, h', tk', c', rfl, hS', hc', fun b o e => ?_⟩
    have lt := Heap.lt_size e
    refine hm.heap b o ?_ (Heap.get?_push_of_some _ (Heap.get?_push_of_some _ e))
    simp only [List.mem_cons, List.mem_singleton, List.not_mem_nil, or_false, not_or]
    exact ⟨Nat.ne_of_lt lt, by rw [Heap.size_push]; exact Nat.ne_of_lt (Nat.lt_succ_of_lt lt)⟩
  · cases r₂ with
    | error e => exact hr₂
    | ok fl₂ =>
    cases fl₂ with
    | next => exact hr₂.elim
    | brk => exact hr₂.elim
    | cont => exact hr₂.elim
    | ret r =>
    obtain ⟨rfl, h', tk, c', rfl, hS', hc', kp⟩ := hr₂
    repeat (any_goals (first | assumption | wp_step))
    exact k _ _ _ hS' hc' kp
end
def tSortedSet (K : PySem.W.Frag) (ta : TE) : TE := fun σ H Q => ta σ H fun x H1 => ∃ (l : Addr) (ns : List Int), x = .ref l ∧ SqL K H1 l (ns.map V.int) ∧ ns.length ≤ 1100 ∧
  ∀ (ms : List Int) (p : Addr), ms.Pairwise (· < ·) → (∀ k, k ∈ ms ↔ k ∈ ns) → H1 p = Option.none → Q (.ref p) (upd H1 p (.lst (ms.map V.int)))
theorem pe_sortedSet {X : Cx} {e : Expr} {ta : TE} {p p2 q pos : Pos} (hg : Gl X "sorted") (hm : X.mg "sorted" = none) (hg2 : Gl X "set") (hm2 : X.mg "set" = none) (ha : PE X e ta) (hc : X.calm = true := by rfl)
    (na : starEach [e] X.env = (false, eval e X.env) :: starEach [] X.env := by rfl) : PE X (.Call (.Name "sorted" p) [.Call (.Name "set" p2) [e] [] q] [] pos) (tSortedSet X.K ta) := by
  refine ⟨fun pins s σ H Q I h => ?_⟩
  refine Call_ (ld_blt I hg hm (by decide +kernel : bootBuiltins "sorted" = some (.builtin "sorted")) ?_)
  refine PyProof.Rows.callWith_builtin1 (PyProof.Rows.args_cons ?_ rfl) rfl rfl
  refine Call_ (ld_blt I hg2 hm2 boot_set ?_)
  refine PyProof.Rows.callWith_type1 (PyProof.Rows.args_cons (thn (ha.run pins s σ H _ I h) fun v s1 h1 => PyProof.Rows.args_nil ?_) na) na rfl
  obtain ⟨x, H1, I1, rx, l, ns, rfl, hl, hz, fin⟩ := h1
  cases rx
  obtain ⟨its, r, isl, _⟩ := I1.list hl
  refine setOf ns (I1.ok.hd hc) isl.isList (ints_of_vals r) (by unfold scanBound; omega) fun h' tk c hS hc' kp => PyProof.Rows.args_nil ?_
  have I2 : Inv X pins σ H1 { s1 with heap := h', toks := tk } := I1.kept kp
  refine sortedSet (s := { s1 with heap := h', toks := tk }) hS (I2.ok.hd hc) fun s' p out c' ms kp' g o hp hg' hi hs hm' => ?_
  have hmem : ∀ z, z ∈ ms ↔ z ∈ ns := fun z => (hm' z).trans decide_eq_true_iff
  have len : (ms.map V.int).length ≤ sizeLine := by
    rw [List.length_map]
    have : ms.length ≤ ns.length := nodup_sub (hs.imp fun {a b} z => Int.ne_of_lt z) fun z hz => (hmem z).mp hz
    exact le_size (by omega)
  have hn : H1 p = Option.none := I2.hok.fresh hp
  refine ⟨.ref p, upd H1 p (.lst (ms.map V.int)), ?_, rfl, fin ms p hs hmem hn⟩
  exact I2.call' (ch := []) o (Un.laid kp' hp hn) (I2.hok.laid kp' hp ⟨len, out.toList, c', vals_of_ints hi, hg'⟩) (by rw [g]; exact I2.bare) fun b z => (List.not_mem_nil z).elim
end Gk
namespace Dk
open PySem PySem.Spec PyProof.Rows PyProof.V L2 StX
/-! ### {k: v}, the key a text or an int -/
def tDisp1K (tk tv : TE) : TE := fun σ H Q => ∀ p, H p = none → tk σ (upd H p (.dK [])) fun y H1 => tv σ H1 fun z H2 => ∃ k : Key, y = kV k ∧ H2 p = some (.dK []) ∧ Q (.ref p) (upd H2 p (.dK [(k, z)]))
theorem pe_disp1K {X : Cx} {pos : Pos} {ke ve : Expr} {tk tv : TE} (hu : X.A.units + 64 < cLine) (hk : PE X ke tk) (hv : PE X ve tv) : PE X (.Dict [some ke] [ve] pos) (tDisp1K tk tv) := by
  refine ⟨fun pins s σ H Q I q => ?_⟩
  have hn := I.hok.fresh (Nat.le_refl s.heap.objs.size)
  have I1 := I.laid (a := s.heap.objs.size) (o := .dK []) (h' := s.heap.push { cls := .type "dict", data := .dict #[] }) (t' := s.toks) (fun _ _ q => Heap.get?_push_of_some _ q) (Nat.le_refl _) (dk_empty s.heap I.big)
  have run := (pps_cons (pos := pos) hk hv pps_nil).run pins _ σ _ (fun ps H2 => ∃ y z, ps = [(y, z)] ∧ ∃ k : Key, y = kV k ∧ H2 s.heap.objs.size = some (.dK []) ∧ Q (.ref s.heap.objs.size) (upd H2 s.heap.objs.size (.dK [(k, z)]))) I1
    (by
      have q0 := q _ hn
      show tk σ (upd H s.heap.objs.size (.dK [])) fun x H1 => tv σ H1 fun y H2 => ∃ y' z, [(x, y)] = [(y', z)] ∧ _
      have e : (fun (x : V) (H1 : Hp) => tv σ H1 fun y H2 => ∃ k : Key, x = kV k ∧ H2 s.heap.objs.size = some (.dK []) ∧ Q (.ref s.heap.objs.size) (upd H2 s.heap.objs.size (.dK [(k, y)]))) = fun (x : V) (H1 : Hp) => tv σ H1 fun y H2 => ∃ y' z, [(x, y)] = [(y', z)] ∧ ∃ k : Key, y' = kV k ∧ H2 s.heap.objs.size = some (.dK []) ∧ Q (.ref s.heap.objs.size) (upd H2 s.heap.objs.size (.dK [(k, z)])) := by
        funext x H1
        congr 1
        funext y H2
        apply propext
        constructor
        · intro h; exact ⟨x, y, rfl, h⟩
        · rintro ⟨y', z, e, h⟩
          cases e; exact h
      rw [← e]; exact q0)
  rw [arm_eval_Dict, zip_pairTrees [some ke] [ve] X.env pos rfl rfl, dictDisplay_pairs (pairTrees [some ke] [ve] X.env pos) (by simp [pairTrees]) (by simp [pairTrees])]
  refine wpAny_bind (wpAny_standAt (wpAny_bind (wpAny_subDict (knd := mixKind X.prog X.w) (Q := fun d s' => wpAny (model X.prog X.w) X.A (pure (Value.ref d)) (EP X pins σ Q) X.xe s') (by simp [pairTrees]) (thn run fun vs s1 got => ?_))))
  obtain ⟨ps, H2, I2, rel, y, z, eps, k, ey, at2, fin⟩ := got
  subst eps
  subst ey
  cases rel with
  | cons r rest =>
    cases rest
    rename_i b
    obtain ⟨b1, b2⟩ := b
    obtain ⟨r1, r2⟩ := r
    obtain ⟨small, apart, us, rel, held⟩ := dk_of I2.hok at2
    cases us with
    | cons u us => exact (nomatch rel.length)
    | nil =>
    refine ⟨[(k, b2)], ⟨kV_is r1, rfl, trivial⟩, held, fun h' held' but => wpAny_pure ⟨.ref s.heap.objs.size, _, ?_, rfl, fin⟩⟩
    have stands : ∃ q, h'.get? s.heap.objs.size = some q := let ⟨q, _, _, hq, _⟩ := held'; ⟨q, hq⟩
    exact d_write I2 (by rw [at2]; exact True.intro) but stands (dk_new (by show 1 ≤ sizeLine; decide) apart (rel.put k r2) held')
theorem ps_setDcK {X : Cx} {i : Nat} {y : Str} {py : Pos} {kx vx tg iter : Expr} {ifs : List Expr} {scope : Scope} {own : List (Str × Nat)} {pos spos : Pos} {wi : TI} {g : TG} {tt : TT} {tk tv : TE} (calm : X.calm = true) (nodup : X.N.Nodup) (at1 : X.N[i]? = some y) (yloc : X.env.scope.names.lookup y = some .local)
    (sw : swapsWith (.DictComp kx vx [⟨tg, iter, ifs, 0⟩] scope pos) (some (.Name y py)) spos.line X.env = pure true) (hi : PI X tg iter wi) (ok : BlkOk X.N X.env.scope scope own)
    (hg : ∀ (s : Shared) (H : Hp) (C : Addr) (cl : List (Str × Addr)) (fp : List Addr), PG (X.blk s H scope (compEnvC scope cl C X.env) fp) tg g) (ht : ∀ (s : Shared) (H : Hp) (C : Addr) (cl : List (Str × Addr)) (fp : List Addr), PTs (X.blk s H scope (compEnvC scope cl C X.env) fp) ifs tt)
    (hk : ∀ (s : Shared) (H : Hp) (C : Addr) (cl : List (Str × Addr)) (fp : List Addr), PE (X.blk s H scope (compEnvC scope cl C X.env) fp) kx tk) (he : ∀ (s : Shared) (H : Hp) (C : Addr) (cl : List (Str × Addr)) (fp : List Addr), PE (X.blk s H scope (compEnvC scope cl C X.env) fp) vx tv)
    (unfolded : ∀ x, foldedSetIterable iter X.env x = pure x := by intro _; rfl) : PS X (.Assign [.Name y py] (.DictComp kx vx [⟨tg, iter, ifs, 0⟩] scope pos) spos) (tAsg (tDc wi g tt tk tv (own.map (·.2))) (gName i)) := by
  refine ⟨fun pins s0 σ H0 D I0 wish => ?_⟩
  rw [exec_Assign_Name_used _ _ _ _ sw]
  refine wpAny_bind (wpAny_standAt (wpAny_bind ?_))
  show wpAny _ X.A (do let _ ← comprehension (.DictComp kx vx [⟨tg, iter, ifs, 0⟩] scope pos) scope X.env (firstIterPos [⟨tg, iter, ifs, 0⟩] pos) newDict false (eval iter X.env) (some (assign (.Name y py) X.env))) _ _ s0
  have wish : tDc wi g tt tk tv (own.map (·.2)) σ H0 (fun x H1 => gName i x σ H1 D.nx) := wish
  refine wpAny_bind (thn (dc_core (Qf := fun _ s' => SP X pins D .next s') calm nodup I0 hi ok hg ht hk he unfolded wish fun L C s' names H' I' last held free => ?_) fun _ s' done => wpAny_pure (wpAny_pure done))
  show wpAny _ _ (assign (.Name y py) X.env (.ref L)) _ _ _
  obtain ⟨f0, f1, _, f3, f4, f5⟩ := free
  refine wpAny_assign_Name (store_ok2 (v := V.ref L) I' nodup at1 (.inl yloc) rfl (fun s2 I2 moved => ?_) (.inr yloc))
  obtain ⟨a, but, where_⟩ := moved
  have apart : C ≠ a := where_.elim (fun z => by rw [z]; exact f1) fun z e => f4 y a z e.symm
  exact ⟨names, held.sameBut but apart, fun h3 but3 => ⟨_, H', I2.turned (t' := s2.toks) (fun b u hb e => (but3.2 b hb).trans e) f0 f1 f3 f4 f5, last⟩⟩
end Dk
namespace Tz
/-! ### for .. in zip(t, u), t and u tuples -/
section
variable {K : PySem.W.Frag} {σ : L2.St} {H : Hp} {G : TG} {tas : TA} {ts : TS} {D : Ends}
def ForZA (K : PySem.W.Frag) (G : TG) (ts : TS) (D : Ends) (σ : L2.St) (us : List V) (H : Hp) : Prop := ∃ a b xs ys, us = [.ref a, .ref b] ∧ ((SqL K H a xs ∧ SqL K H b ys ∧ ForW (Itz K a b) G ts D σ H) ∨ (SqT K H a xs ∧ SqT K H b ys ∧ ForW (RZ.ItzT K a b) G ts D σ H))
theorem r_forZA (k : tas σ H fun us H1 => ForZA K G ts D σ us H1) : tFor (RZ.iZipA K tas) G ts D σ H := k
theorem forZT_go {a b : Addr} {xs ys : List V} (hl : xs.length = ys.length) (Pv : Nat → L2.St → Hp → Prop) (hx : SqT K H a xs) (hy : SqT K H b ys) (h0 : Pv 0 σ H) (hq : ∀ i σ' H', Pv i σ' H' → SqT K H' a xs ∧ SqT K H' b ys)
    (hs : ∀ (i : Nat) (x y : V) (T : Addr) σ' H', xs[i]? = some x → ys[i]? = some y → Pv i σ' H' → H' T = none → G (.ref T) σ' (upd H' T (.tup [x, y])) fun σ2 H2 => ts { D with nx := Pv (i + 1), ct := Pv (i + 1), bk := D.nx } σ2 H2)
    (hd : ∀ σ' H', Pv xs.length σ' H' → D.nx σ' H') : ForZA K G ts D σ [.ref a, .ref b] H := ⟨a, b, xs, ys, rfl, .inr ⟨hx, hy, RZ.for_zipT hl Pv h0 hq hs hd⟩⟩
end
/-! ### enumerate(t), t a tuple -/
theorem meets_new (t : Addr) (items : Array Value) (n : Nat) (dct : Option Addr) (sl : Array (Option Value)) :
    Meets (Builtin.«enumerate.__new__» ⟨[.type "enumerate", .ref t], []⟩) (fun _ R s => s.heap.get? t = some { cls := .type "tuple", dict := dct, data := .seq items n, slots := sl } ∧
      R (.ok (.ret (.ref (s.heap.push { cls := .type "tuple_iterator", data := .fields #[.ref t, .int 0 0] }).objs.size)))
        { s with heap := (s.heap.push { cls := .type "tuple_iterator", data := .fields #[.ref t, .int 0 0] }).push { cls := .type "enumerate", data := .fields #[.none, .bool false, .ref s.heap.objs.size, rawInt 0, .none, .none] } }) :=
  .of_wp fun prog w A R s h => by
    obtain ⟨hp, g, d, tk, os⟩ := s; obtain ⟨ht, h⟩ := h
    have hsub := sub_enumerate
    have isT : Heap.IsTuple (Shared.heap ⟨hp, g, d, tk, os⟩) t items := ⟨_, ht, rfl, n, rfl⟩
    wp_walk using wpAny_loadPart' ht
    refine wpAny_stack_any fun st => wpAny_pure ?_
    split
    · rename_i c _ _ _ _ _
      cases (c == Value.type "enumerate")
      · wp_walk using wpAny_loadPart' ht, wpAny_pyIter_tuple isT
        exact ⟨_, rfl, h⟩
      · wp_walk using wpAny_loadPart' ht, wpAny_pyIter_tuple isT
        exact ⟨_, rfl, h⟩
    · wp_walk using wpAny_loadPart' ht, wpAny_pyIter_tuple isT
      exact ⟨_, rfl, h⟩
theorem call_enumT {P : Program} {w : World} {A : Around} {E : Value → Shared → Prop} {s : Shared} {t : Addr} {items : Array Value} {Q : Value → Shared → Prop} (hT : s.heap.IsTuple t items)
    (k : ∀ h', IsEnum h' (s.heap.objs.size + 1) s.heap.objs.size 0 .none → h'.IsTupleIter s.heap.objs.size t 0 → (∀ b o, s.heap.get? b = some o → h'.get? b = some o) → Q (.ref (s.heap.objs.size + 1)) { s with heap := h' }) :
    wpAny (model P w) A (call (.type "enumerate") [.ref t]) Q E s := by
  obtain ⟨⟨c, dct, dt, sl⟩, ht, hc, n, hd⟩ := hT
  obtain rfl : c = .type "tuple" := hc
  obtain rfl : dt = .seq items n := hd
  refine callType_new F.called_enumerate (by decide) (F.typeCall_enumerate_1 _) (F.newCall_enumerate_1 _) (fun obj => F.args_object_init_2 obj _) F.entry_enumerate_new (meets_new t items n dct sl) ⟨ht, ?_⟩
  have z : (s.heap.push { cls := .type "tuple_iterator", data := .fields #[.ref t, .int 0 0] }).objs.size = s.heap.objs.size + 1 := Heap.size_push ..
  show _ ∧ _
  rw [z]
  have e : IsEnum ((s.heap.push { cls := .type "tuple_iterator", data := .fields #[.ref t, .int 0 0] }).push { cls := .type "enumerate", data := .fields #[.none, .bool false, .ref s.heap.objs.size, rawInt 0, .none, .none] }) (s.heap.objs.size + 1) s.heap.objs.size 0 .none := by
    have q := Heap.get?_push_size (s.heap.push { cls := .type "tuple_iterator", data := .fields #[.ref t, .int 0 0] }) (o := { cls := .type "enumerate", data := .fields #[.none, .bool false, .ref s.heap.objs.size, rawInt 0, .none, .none] }) rfl
    rw [z] at q; exact q
  exact ⟨⟨_, e, rfl⟩, k _ e ⟨_, Heap.get?_push_of_some _ (Heap.get?_push_size _ rfl), rfl, rfl⟩ fun b o x => Heap.get?_push_of_some _ (Heap.get?_push_of_some _ x)⟩
/-- the tuple at a, numbered -/
def Itn (K : PySem.W.Frag) (a : Addr) : It :=
  ⟨fun i H => ∃ (xs : List V) (x : V), SqT K H a xs ∧ xs[i]? = some x, fun i H v H' => ∃ T x, v = .ref T ∧ H T = none ∧ H' = upd H T (.tup [.int (i : Nat), x]) ∧ ∀ xs, SqT K H a xs → xs[i]? = some x, fun i H => ∃ xs : List V, SqT K H a xs ∧ xs.length ≤ i⟩
theorem turn_enumT {P : Program} {w : World} {K : PySem.W.Frag} {elts : List Expr} {kk : Nat} {tpos : Pos} (a e it : Addr) :
    Turn P w K (.Tuple elts kk tpos) (Itn K a) [e, it] e (fun i h => (∃ old, IsEnum h e it ((i : Nat) : Int) old) ∧ h.IsTupleIter it a i ∧ e ≠ it ∧ e ≠ a ∧ a ≠ it) where
  mem := by simp
  obj := fun i h st b hb => by
    obtain ⟨⟨old, he⟩, ⟨o, ho, hc, hd⟩, _⟩ := st
    rcases (by simpa using hb : b = e ∨ b = it) with z | z
    · rw [z]; exact ⟨_, he, fun v q => nomatch q⟩
    · rw [z]; exact ⟨o, ho, fun v q => by rw [hd] at q; cases q⟩
  keep := fun i h h' st k => let ⟨⟨old, he⟩, hi, hne⟩ := st; ⟨⟨old, k e (by simp) _ he⟩, hi.at fun o q => k it (by simp) o q, hne⟩
  item := by
    intro X hP hw hK hc i pins s σ H E I hf st hg
    subst hP hw hK
    obtain ⟨⟨old, he⟩, hit, hne, hea, hai⟩ := st
    obtain ⟨xs, x, hq, hx⟩ := hg
    obtain ⟨its, rv, p, hz⟩ := I.tuple hq
    obtain ⟨u, hu, ru⟩ := rv.get hx
    have hel : e < s.heap.objs.size := Heap.lt_size he
    have hil : it < s.heap.objs.size := by obtain ⟨_, q, _⟩ := hit; exact Heap.lt_size q
    have isT : s.heap.IsTuple a its.toArray := p
    have lt : i < its.toArray.size := by rw [List.size_toArray]; exact (List.getElem?_eq_some_iff.mp hu).1
    have D := Draws.tuple (prog := X.prog) (w := X.w) (A := X.A.in1) (I.ok.hd hc) it a hai its.toArray
    refine wpAny_pyNext_enum_itemD D he ⟨hit, isT⟩ lt hne (by simp [hne, hea]) fun y h' tk hy ho st' hT hsz hk => ?_
    have ey : y = u := by
      have q : its.toArray[i]? = some y := hy
      rw [List.getElem?_toArray, hu] at q
      exact (Option.some.inj q).symm
    subst ey
    refine ⟨_, rfl, wpAny_letOwnedTupleGo_enum (s := { s with heap := h', toks := tk + 1 }) ho fun h'' he' sb => ?_⟩
    have hT2 : h''.get? s.heap.objs.size = some { cls := .type "tuple", data := .seq #[.int i tk, y] } := (sb.2 _ (Nat.ne_of_gt hel)).trans hT
    have new : ObjOk X.prog X.w (upd H s.heap.objs.size (.tup [.int (i : Nat), x])) h'' s.heap.objs.size (.tup [.int (i : Nat), x]) :=
      ⟨by show 2 ≤ sizeLine; decide, [.int i tk, y], .cons ⟨_, rfl⟩ (.cons ru .nil), ⟨_, hT2, rfl, _, rfl⟩⟩
    have I1 : Inv X pins σ (upd H s.heap.objs.size (.tup [.int (i : Nat), x])) { s with heap := h'', toks := tk + 1 } :=
      I.turnedNew (ch := [e, it]) (fun b ob hb q => (sb.2 b (fun z => hb (by simp [z]))).trans (hk b ob (fun z => hb (by simp [z])) (fun z => hb (by simp [z])) q)) hf (Nat.le_refl _) new
    refine ⟨.ref s.heap.objs.size, _, I1, rfl, ⟨_, x, rfl, I.hok.fresh (Nat.le_refl _), rfl, fun ys hy => by rw [I.tuple_inj hy hq]; exact hx⟩, ⟨⟨y, ?_⟩, st'.1.at fun o q => (sb.2 it (Ne.symm hne)).trans q, hne, hea, hai⟩, fun b hb => ?_⟩
    · rw [show ((i + 1 : Nat) : Int) = (i : Int) + 1 by omega]; exact he'
    · have hb' : b < s.heap.objs.size := by
        rcases (by simpa using hb : b = e ∨ b = it) with z | z
        · rw [z]; exact hel
        · rw [z]; exact hil
      rw [upd_ne (Nat.ne_of_lt hb')]
      exact (hf b hb).1
  done := by
    intro X hP hw hK hc i pins s σ H E I hf st hg
    subst hP hw hK
    obtain ⟨⟨old, he⟩, hit, hne, hea, hai⟩ := st
    obtain ⟨xs, hq, hx⟩ := hg
    obtain ⟨its, rv, p, hz⟩ := I.tuple hq
    obtain ⟨f0, f1, f2, f3, f4, f5⟩ := hf it (by simp)
    have isT : s.heap.IsTuple a its.toArray := p
    have past : its.toArray[i]? = none := by
      rw [List.getElem?_toArray, List.getElem?_eq_none]
      have := rv.length
      omega
    have D : Draws X.prog X.w X.A.in1 it [it, a] i (fun _ _ => True) (fun j h => j = i ∧ h.IsTupleIter it a i ∧ h.IsTuple a its.toArray) :=
      ⟨fun _ _ st => let ⟨o, ho, _⟩ := st.2.1; ⟨o, ho⟩, fun _ _ _ st hk => ⟨st.1, st.2.1.at fun o e => hk it (by simp) o e, st.2.2.at fun o e => hk a (by simp) o e⟩, fun j s Q E lt st _ => absurd lt (by rw [st.1]; exact Nat.lt_irrefl _),
        fun s Q E st hE => wpAny_nextOf_tuple_end (I.ok.hd hc) st.2.1 st.2.2 past hE⟩
    exact wpAny_pyNext_enum_endD D he ⟨rfl, hit, isT⟩ fun h' eb => ⟨rfl, I.turned (t' := s.toks) (fun b o hb q => eb b o hb q) f0 f1 f3 f4 f5⟩
  self := fun _ _ _ _ _ st h => wpAny_pyIter_enum st.1.choose_spec h
def iEnumT (K : PySem.W.Frag) (ta : TA) : TI := fun σ H R => ta σ H fun vs H1 => ∃ a xs, vs = [.ref a] ∧ SqT K H1 a xs ∧ R (Itn K a) H1
theorem pi_enumT {X : Cx} {e : Expr} {ta : TA} {p pos tpos : Pos} {elts : List Expr} {kk : Nat} (hg : Gl X "enumerate") (hm : X.mg "enumerate" = none) (ha : PA X [e] ta) (hs : starEach [e] X.env = [(false, eval e X.env)] := by rfl) :
    PI X (.Tuple elts kk tpos) (.Call (.Name "enumerate" p) [e] [] pos) (iEnumT X.K ta) := by
  refine ⟨fun pins s σ H R I h => ?_⟩
  refine Call_ (ld_blt I hg hm boot_enumerate (PyProof.Rows.callWith_type1 (thn (ha.run pos pins s σ H _ I h) fun us s1 ⟨vs, H1, I1, rv, a, xs, ex, hq, q⟩ => ?_) hs rfl))
  subst ex
  cases rv with
  | cons r rr =>
  cases rr
  cases r
  obtain ⟨its, rv, p', hz⟩ := I1.tuple hq
  have isT : s1.heap.IsTuple a its.toArray := p'
  have la : a < s1.heap.objs.size := let ⟨o, ho, _⟩ := isT; Heap.lt_size ho
  refine call_enumT isT fun h' he hit hk => wpAny_pyIter_enum he ?_
  have I2 : Inv X pins σ H1 { s1 with heap := h' } := I1.kept (t' := s1.toks) hk
  refine ⟨s1.heap.objs.size + 1, [s1.heap.objs.size + 1, s1.heap.objs.size], _, _, H1, rfl, I2, turn_enumT a (s1.heap.objs.size + 1) s1.heap.objs.size, ⟨⟨.none, he⟩, hit, Nat.succ_ne_self _, Nat.ne_of_gt (Nat.lt_succ_of_lt la), Nat.ne_of_lt la⟩, fun b hb => ?_, q⟩
  have hle : s1.heap.objs.size ≤ b := by
    rcases (by simpa using hb : b = s1.heap.objs.size + 1 ∨ b = s1.heap.objs.size) with z | z
    · rw [z]; exact Nat.le_add_right _ _
    · rw [z]; exact Nat.le_refl _
  exact I1.fpOk hle (I1.hok.fresh hle)
section
variable {K : PySem.W.Frag} {σ : L2.St} {H : Hp} {G : TG} {tas : TA} {ts : TS} {D : Ends}
def ForNT (K : PySem.W.Frag) (G : TG) (ts : TS) (D : Ends) (σ : L2.St) (us : List V) (H : Hp) : Prop := ∃ a xs, us = [.ref a] ∧ SqT K H a xs ∧ ForW (Itn K a) G ts D σ H
theorem r_forNT (k : tas σ H fun us H1 => ForNT K G ts D σ us H1) : tFor (iEnumT K tas) G ts D σ H := k
theorem forNT_go {a : Addr} {xs : List V} (Pv : Nat → L2.St → Hp → Prop) (hx : SqT K H a xs) (h0 : Pv 0 σ H) (hq : ∀ i σ' H', Pv i σ' H' → SqT K H' a xs)
    (hs : ∀ (i : Nat) (x : V) (T : Addr) σ' H', xs[i]? = some x → Pv i σ' H' → H' T = none → G (.ref T) σ' (upd H' T (.tup [.int (i : Nat), x])) fun σ2 H2 => ts { D with nx := Pv (i + 1), ct := Pv (i + 1), bk := D.nx } σ2 H2)
    (hd : ∀ σ' H', Pv xs.length σ' H' → D.nx σ' H') : ForNT K G ts D σ [.ref a] H := by
  refine ⟨a, xs, rfl, hx, fun i m σ H => m = xs.length - i ∧ i ≤ xs.length ∧ Pv i σ H, ⟨xs.length, by simp, Nat.zero_le _, h0⟩, ?_⟩
  rintro i m σ H ⟨rfl, hi, p⟩
  have q := hq i σ H p
  by_cases lt : i < xs.length
  · refine .inr ⟨⟨xs, xs[i], q, by simp [lt]⟩, Pv (i + 1), fun σ' H' p' => ⟨xs.length - (i + 1), by omega, rfl, lt, p'⟩, ?_⟩
    rintro v H' ⟨T, x, rfl, nT, rfl, ex⟩
    exact hs i x T σ H (ex xs q) p nT
  · have e : i = xs.length := by omega
    subst e
    exact .inl ⟨⟨xs, q, Nat.le_refl _⟩, hd σ H p⟩
end
end Tz
/-! comprehensions of two for statements; rules whose readings name K, where the context hides it -/
section
variable {X : Cx} {K : PySem.W.Frag}
theorem sl_tupAK (h : X.K = K) : SlR X (rSlA K) := h ▸ sl_tupA
theorem op_catAK (h : X.K = K) : OpR X (binaryOp .Add) (rCatA K) := h ▸ op_catA
theorem pi_listK {tg l : Expr} {tl : TE} (h : X.K = K) (hl : PE X l tl) : PI X tg l (iList K tl) := h ▸ pi_list hl
theorem pi_tupK {tg l : Expr} {tl : TE} (h : X.K = K) (hl : PE X l tl) : PI X tg l (iTup K tl) := h ▸ pi_tup hl
end
section
variable {K : PySem.W.Frag} {σ : L2.St} {H : Hp} {Q : VK} {tl tl1 te : TE} {g g1 : TG} {vs vs1 : List Nat}
def In2 (K : PySem.W.Frag) (g1 : TG) (te : TE) (vs1 : List Nat) (σ2 : L2.St) (D : Addr) (Nx : Hp → Prop) (v : V) (H3 : Hp) : Prop := ∃ b, v = .ref b ∧ (∃ ys, SqT K H3 b ys) ∧ ∃ W1 : Nat → Nat → Hp → Prop, (∃ m, W1 0 m H3) ∧ ∀ j k H, W1 j k H →
      ((Itt K b).stop j H ∧ Nx H) ∨ ((Itt K b).go j H ∧ ∃ Nx1 : Hp → Prop, (∀ H', Nx1 H' → ∃ k', k' < k ∧ W1 (j + 1) k' H') ∧ ∀ x H', (Itt K b).yld j H x H' → g1 x (wipe σ2 vs1) H' fun σ3 H5 => wipe σ3 vs1 = wipe σ2 vs1 ∧ te σ3 H5 fun y H7 => ∃ acc, H7 D = some (.lst acc) ∧ acc.length < sizeLine ∧ Nx1 (upd H7 D (.lst (acc ++ [y]))))
theorem in2_go {σ2 : L2.St} {D b : Addr} {ys : List V} {Nx : Hp → Prop} (Pw : Nat → Hp → Prop) (eb : SqT K H b ys) (w0 : Pw 0 H) (hk : ∀ j H', Pw j H' → SqT K H' b ys)
    (hj : ∀ (j : Nat) y H', ys[j]? = some y → Pw j H' → g1 y (wipe σ2 vs1) H' fun σ3 H5 => wipe σ3 vs1 = wipe σ2 vs1 ∧ te σ3 H5 fun r H6 => ∃ acc, H6 D = some (.lst acc) ∧ acc.length < sizeLine ∧ Pw (j + 1) (upd H6 D (.lst (acc ++ [r]))))
    (he : ∀ H', Pw ys.length H' → Nx H') : In2 K g1 te vs1 σ2 D Nx (.ref b) H := by
  refine ⟨b, rfl, ⟨ys, eb⟩, fun j k H => k = ys.length - j ∧ j ≤ ys.length ∧ Pw j H, ⟨ys.length, by simp, Nat.zero_le _, w0⟩, ?_⟩
  rintro j k H4 ⟨rfl, hj2, pw⟩
  have q2 := hk j H4 pw
  by_cases lt2 : j < ys.length
  · refine .inr ⟨⟨ys, ys[j], q2, by simp [lt2]⟩, Pw (j + 1), fun H' p' => ⟨ys.length - (j + 1), by omega, rfl, lt2, p'⟩, ?_⟩
    rintro y' H' ⟨rfl, y2⟩
    exact hj j y' _ (y2 ys q2) pw
  · have e : j = ys.length := by omega
    subst e
    exact .inl ⟨⟨ys, q2, Nat.le_refl _⟩, he _ pw⟩
/-- [e for x in list for y in tuple] -/
theorem lc2_go {a : Addr} {xs : List V} (hx : ∀ R : VK, R (.ref a) H → tl σ H R) (eq : SqL K H a xs) (Pv : Addr → Nat → Hp → Prop) (h0 : ∀ D, H D = none → Pv D 0 (upd H D (.lst [])))
    (hl : ∀ D i H', H D = none → i ≤ xs.length → Pv D i H' → SqL K H' a xs)
    (hs : ∀ D i x H', H D = none → xs[i]? = some x → Pv D i H' → g x (wipe σ vs) H' fun σ2 H2 => wipe σ2 vs = wipe σ vs ∧ tl1 σ2 H2 fun v H3 => In2 K g1 te vs1 σ2 D (Pv D (i + 1)) v H3)
    (hd : ∀ D H', H D = none → Pv D xs.length H' → Q (.ref D) H') : tLc2 (iList K tl) g tYes (iTup K tl1) g1 tYes te vs vs1 σ H Q := by
  refine hx _ ⟨a, rfl, ⟨xs, eq⟩, fun D nD => ⟨fun i m H => m = xs.length - i ∧ i ≤ xs.length ∧ Pv D i H, ⟨xs.length, by simp, Nat.zero_le _, h0 D nD⟩, ?_⟩⟩
  rintro i m H1 ⟨rfl, hi, p⟩
  have q := hl D i H1 nD hi p
  by_cases lt : i < xs.length
  · refine .inr ⟨⟨xs, xs[i], q, by simp [lt]⟩, Pv D (i + 1), fun H' p' => ⟨xs.length - (i + 1), by omega, rfl, lt, p'⟩, ?_⟩
    rintro x H' ⟨rfl, y⟩
    exact hs D i x _ nD (y xs q) p
  · have e : i = xs.length := by omega
    subst e
    exact .inl ⟨⟨xs, q, Nat.le_refl _⟩, hd D H1 nD p⟩
end
abbrev PG : Program := PySem.Challenge.pw_metehouse_k31_beats_that_are_possible
def topS (i : Nat) : Stmt := PySem.Challenge.pw_metehouse_k31_beats_that_are_possible.main.body.getD i (.Pass ⟨0, 0, 0, 0⟩)
abbrev s_compare : Stmt := topS 10
theorem sc_compare : FnScope ["first", "second", "left", "right"] ["first", "second"] (defScope s_compare) := ⟨rfl, rfl, rfl, by decide +kernel, rfl, by decide +kernel, by decide +kernel⟩
abbrev s_is_quantity : Stmt := topS 15
theorem sc_is_quantity : FnScope ["text", "sign"] ["text"] (defScope s_is_quantity) := ⟨rfl, rfl, rfl, by decide +kernel, rfl, by decide +kernel, by decide +kernel⟩
abbrev s_check_row : Stmt := topS 19
theorem sc_check_row : FnScope ["first", "second", "count"] ["first", "second", "count"] (defScope s_check_row) := ⟨rfl, rfl, rfl, by decide +kernel, rfl, by decide +kernel, by decide +kernel⟩
abbrev s_across : Stmt := topS 20
theorem sc_across : FnScope ["row", "name", "first", "second", "_"] ["row", "name"] (defScope s_across) := ⟨rfl, rfl, rfl, by decide +kernel, rfl, by decide +kernel, by decide +kernel⟩
abbrev s_strikes_away : Stmt := topS 21
theorem sc_strikes_away : FnScope ["rows", "indexes", "goal", "found", "todo", "name", "index", "other"] ["rows", "indexes", "goal"] (defScope s_strikes_away) := ⟨rfl, rfl, rfl, by decide +kernel, rfl, by decide +kernel, by decide +kernel⟩
abbrev s_least_walk : Stmt := topS 22
theorem sc_least_walk : FnScope ["rows", "indexes", "first", "second", "away", "walk", "name", "index", "other"] ["rows", "indexes", "first", "second"] (defScope s_least_walk) := ⟨rfl, rfl, rfl, by decide +kernel, rfl, by decide +kernel, by decide +kernel⟩
abbrev s_Strikes___init : Stmt := inClass (topS 23) 0
theorem sc_Strikes___init : FnScope ["self", "rows", "first", "second", "count"] ["self", "rows"] (defScope s_Strikes___init) := ⟨rfl, rfl, rfl, by decide +kernel, rfl, by decide +kernel, by decide +kernel⟩
abbrev s_Strikes_names : Stmt := inClass (topS 23) 1
theorem sc_Strikes_names : FnScope ["self", "found", "first", "second", "_"] ["self"] (defScope s_Strikes_names) := ⟨rfl, rfl, rfl, by decide +kernel, rfl, by decide +kernel, by decide +kernel⟩
abbrev s_Strikes_walk : Stmt := inClass (topS 23) 4
theorem sc_Strikes_walk : FnScope ["self", "first", "second", "names", "name", "found"] ["self", "first", "second"] (defScope s_Strikes_walk) := ⟨rfl, rfl, rfl, by decide +kernel, rfl, by decide +kernel, by decide +kernel⟩
abbrev s_Strikes___add : Stmt := inClass (topS 23) 10
theorem sc_Strikes___add : FnScope ["self", "other", "rows"] ["self", "other"] (defScope s_Strikes___add) := ⟨rfl, rfl, rfl, by decide +kernel, rfl, by decide +kernel, by decide +kernel⟩
abbrev s_spread : Stmt := topS 25
theorem sc_spread : FnScope ["rows", "rises", "levels", "start", "found", "name", "level", "todo", "row", "rise", "other"] ["rows", "rises", "levels", "start"] (defScope s_spread) := ⟨rfl, rfl, rfl, by decide +kernel, rfl, by decide +kernel, by decide +kernel⟩
abbrev s_levels_with : Stmt := topS 26
theorem sc_levels_with : FnScope ["rows", "rises", "levels", "name", "row"] ["rows", "rises"] (defScope s_levels_with) := ⟨rfl, rfl, rfl, by decide +kernel, rfl, by decide +kernel, by decide +kernel⟩
abbrev s_all_tunings : Stmt := topS 27
theorem sc_all_tunings : FnScope ["rows", "found", "index", "_", "count", "longer", "rises", "rise"] ["rows"] (defScope s_all_tunings) := ⟨rfl, rfl, rfl, by decide +kernel, rfl, by decide +kernel, by decide +kernel⟩
abbrev s_tunings : Stmt := topS 28
theorem sc_tunings : GScope ["strikes", "rises", "levels", "name", "level"] ["strikes"] (defScope s_tunings) := ⟨rfl, rfl, rfl, by decide +kernel, rfl, by decide +kernel, by decide +kernel⟩
abbrev s_possible_beats : Stmt := topS 29
theorem sc_possible_beats : FnScope ["strikes", "first", "second", "found", "_", "world"] ["strikes", "first", "second"] (defScope s_possible_beats) := ⟨rfl, rfl, rfl, by decide +kernel, rfl, by decide +kernel, by decide +kernel⟩
abbrev s_w_is_integer : Stmt := topS 31
theorem sc_w_is_integer : FnScope ["_law_actual"] ["_law_actual"] (defScope s_w_is_integer) := ⟨rfl, rfl, rfl, by decide +kernel, rfl, by decide +kernel, by decide +kernel⟩
abbrev s_w_draw : Stmt := topS 32
theorem sc_w_draw : FnScope ["_law_box", "_law_size", "_law_cells", "_law_cell", "_law_digit"] ["_law_box", "_law_size"] (defScope s_w_draw) := ⟨rfl, rfl, rfl, by decide +kernel, rfl, by decide +kernel, by decide +kernel⟩
abbrev s_w_great : Stmt := topS 33
theorem sc_w_great : FnScope ["_law_box", "_law_parts", "_law_k"] ["_law_box"] (defScope s_w_great) := ⟨rfl, rfl, rfl, by decide +kernel, rfl, by decide +kernel, by decide +kernel⟩
abbrev s_w_ends : Stmt := topS 34
theorem sc_w_ends : FnScope ["_law_box", "_law_signs", "_law_head", "_law_k", "_law_tail"] ["_law_box"] (defScope s_w_ends) := ⟨rfl, rfl, rfl, by decide +kernel, rfl, by decide +kernel, by decide +kernel⟩
abbrev s_w_fresh : Stmt := topS 35
theorem sc_w_fresh : FnScope ["_law_box", "_law_ends_here", "_law_taken", "_law_signs", "_law_free", "_law_sign"] ["_law_box", "_law_ends_here", "_law_taken"] (defScope s_w_fresh) := ⟨rfl, rfl, rfl, by decide +kernel, rfl, by decide +kernel, by decide +kernel⟩
abbrev s_w_names : Stmt := topS 36
theorem sc_w_names : FnScope ["_law_box", "_law_many", "_law_alike", "_law_ends_here", "_law_names_here", "_law_k"] ["_law_box", "_law_many"] (defScope s_w_names) := ⟨rfl, rfl, rfl, by decide +kernel, rfl, by decide +kernel, by decide +kernel⟩
abbrev s_w_level : Stmt := topS 37
theorem sc_w_level : FnScope ["_law_box", "_law_k", "_law_way"] ["_law_box", "_law_k", "_law_way"] (defScope s_w_level) := ⟨rfl, rfl, rfl, by decide +kernel, rfl, by decide +kernel, by decide +kernel⟩
abbrev s_w_rows : Stmt := topS 38
theorem sc_w_rows : FnScope ["_law_box", "_law_many", "_law_size", "_law_large", "_law_names_here", "_law_way", "_law_levels", "_law_k", "_law_rows_here", "_law_first", "_law_second", "_law_count", "_law_at"] ["_law_box"] (defScope s_w_rows) := ⟨rfl, rfl, rfl, by decide +kernel, rfl, by decide +kernel, by decide +kernel⟩
abbrev s_w_strikes : Stmt := topS 39
theorem sc_w_strikes : FnScope ["_law_r"] ["_law_r"] (defScope s_w_strikes) := ⟨rfl, rfl, rfl, by decide +kernel, rfl, by decide +kernel, by decide +kernel⟩
abbrev s_w_quantities : Stmt := topS 40
theorem sc_w_quantities : FnScope ["_law_rows_here", "_law_names_here", "_law_row", "_law_name"] ["_law_rows_here"] (defScope s_w_quantities) := ⟨rfl, rfl, rfl, by decide +kernel, rfl, by decide +kernel, by decide +kernel⟩
abbrev s_w_rounds : Stmt := topS 41
theorem sc_w_rounds : FnScope ["_law_rows_here", "_law_rounds_here", "_law_k", "_law_paths_here", "_law_turn", "_law_longer", "_law_steps", "_law_passed", "_law_j", "_law_other", "_law_way"] ["_law_rows_here"] (defScope s_w_rounds) := ⟨rfl, rfl, rfl, by decide +kernel, rfl, by decide +kernel, by decide +kernel⟩
abbrev s_w_is_closed : Stmt := topS 42
theorem sc_w_is_closed : FnScope ["_law_rows_here", "_law_rounds_here", "_law_rises", "_law_steps", "_law_step"] ["_law_rows_here", "_law_rounds_here", "_law_rises"] (defScope s_w_is_closed) := ⟨rfl, rfl, rfl, by decide +kernel, rfl, by decide +kernel, by decide +kernel⟩
abbrev s_w_due : Stmt := topS 43
theorem sc_w_due : FnScope ["_law_rows_here", "_law_every", "_law_k", "_law_rises", "_law_rounds_here"] ["_law_rows_here"] (defScope s_w_due) := ⟨rfl, rfl, rfl, by decide +kernel, rfl, by decide +kernel, by decide +kernel⟩
abbrev s_w_paths : Stmt := topS 44
theorem sc_w_paths : FnScope ["_law_rows_here", "_law_first", "_law_paths_here", "_law_turn", "_law_k", "_law_low", "_law_high"] ["_law_rows_here", "_law_first"] (defScope s_w_paths) := ⟨rfl, rfl, rfl, by decide +kernel, rfl, by decide +kernel, by decide +kernel⟩
abbrev s_w_distances : Stmt := topS 45
theorem sc_w_distances : FnScope ["_law_rows_here", "_law_tuned", "_law_path", "_law_found", "_law_rises", "_law_step"] ["_law_rows_here", "_law_tuned", "_law_path"] (defScope s_w_distances) := ⟨rfl, rfl, rfl, by decide +kernel, rfl, by decide +kernel, by decide +kernel⟩
abbrev s_w_told : Stmt := topS 46
theorem sc_w_told : FnScope ["_law_strikes_here", "_law_first", "_law_second", "_law_told_here", "e"] ["_law_strikes_here", "_law_first", "_law_second"] (defScope s_w_told) := ⟨rfl, rfl, rfl, by decide +kernel, rfl, by decide +kernel, by decide +kernel⟩
abbrev s_w_are_beats : Stmt := topS 47
theorem sc_w_are_beats : FnScope ["_law_told_here", "_law_due_here", "_law_beat"] ["_law_told_here", "_law_due_here"] (defScope s_w_are_beats) := ⟨rfl, rfl, rfl, by decide +kernel, rfl, by decide +kernel, by decide +kernel⟩
abbrev s_w_pair_right : Stmt := topS 48
theorem sc_w_pair_right : FnScope ["_law_strikes_here", "_law_back", "_law_rows_here", "_law_tuned", "_law_first", "_law_second", "_law_paths_here", "_law_due_here", "_law_told_here"] ["_law_strikes_here", "_law_back", "_law_rows_here", "_law_tuned", "_law_first", "_law_second"] (defScope s_w_pair_right) := ⟨rfl, rfl, rfl, by decide +kernel, rfl, by decide +kernel, by decide +kernel⟩
abbrev s_law : Stmt := topS 49
theorem sc_law : FnScope ["_law_script", "_law_box", "_law_rows_here", "_law_names_here", "_law_strikes_here", "_law_back", "_law_k", "_law_tuned", "_law_many", "_law_pairs", "_law_j", "_law_first", "_law_second", "_law_odd", "_law_name"] ["_law_script"] (defScope s_law) := ⟨rfl, rfl, rfl, by decide +kernel, rfl, by decide +kernel, by decide +kernel⟩
abbrev s_BadName_init : Stmt := inClass (topS 3) 0
theorem sh_BadName {w : World} : Er.Sh1 PG w s_BadName_init "name" := by
  refine ⟨⟨_, _, _, _, _, _, _, _, _, _, _, rfl, fun q L fI cda cc m v A E s Q hm hv hn k => ?_, fun q L fI cda cc => ⟨rfl, rfl, rfl, rfl, rfl⟩⟩, ⟨_, rfl, rfl⟩, rfl, rfl, rfl, rfl, by decide, by decide, rfl, rfl, rfl, by decide +kernel, fun s x v qual doc pm an cda cc ct => .of_eq rfl⟩
  exact Er.tx_joined (.cons (Er.tx_repr hm hv rfl rfl) (.cons (Er.tx_const (by decide)) .nil)) (by decide) hn k
abbrev s_NoQuantity_init : Stmt := inClass (topS 4) 0
theorem sh_NoQuantity {w : World} : Er.Sh1 PG w s_NoQuantity_init "name" := by
  refine ⟨⟨_, _, _, _, _, _, _, _, _, _, _, rfl, fun q L fI cda cc m v A E s Q hm hv hn k => ?_, fun q L fI cda cc => ⟨rfl, rfl, rfl, rfl, rfl⟩⟩, ⟨_, rfl, rfl⟩, rfl, rfl, rfl, rfl, by decide, by decide, rfl, rfl, rfl, by decide +kernel, fun s x v qual doc pm an cda cc ct => .of_eq rfl⟩
  exact Er.tx_joined (.cons (Er.tx_const (by decide)) (.cons (Er.tx_repr hm hv rfl rfl) .nil)) (by decide) hn k
abbrev s_Taken_init : Stmt := inClass (topS 5) 0
theorem sh_Taken {w : World} : Er.Sh1 PG w s_Taken_init "name" := by
  refine ⟨⟨_, _, _, _, _, _, _, _, _, _, _, rfl, fun q L fI cda cc m v A E s Q hm hv hn k => ?_, fun q L fI cda cc => ⟨rfl, rfl, rfl, rfl, rfl⟩⟩, ⟨_, rfl, rfl⟩, rfl, rfl, rfl, rfl, by decide, by decide, rfl, rfl, rfl, by decide +kernel, fun s x v qual doc pm an cda cc ct => .of_eq rfl⟩
  exact Er.tx_joined (.cons (Er.tx_repr hm hv rfl rfl) (.cons (Er.tx_const (by decide)) .nil)) (by decide) hn k
abbrev s_BadNumber_init : Stmt := inClass (topS 6) 0
theorem sh_BadNumber {w : World} : Er.Sh1 PG w s_BadNumber_init "number" := by
  refine ⟨⟨_, _, _, _, _, _, _, _, _, _, _, rfl, fun q L fI cda cc m v A E s Q hm hv hn k => ?_, fun q L fI cda cc => ⟨rfl, rfl, rfl, rfl, rfl⟩⟩, ⟨_, rfl, rfl⟩, rfl, rfl, rfl, rfl, by decide, by decide, rfl, rfl, rfl, by decide +kernel, fun s x v qual doc pm an cda cc ct => .of_eq rfl⟩
  exact Er.tx_joined (.cons (Er.tx_repr hm hv rfl rfl) (.cons (Er.tx_const (by decide)) .nil)) (by decide) hn k
abbrev s_NoWalk_init : Stmt := inClass (topS 8) 0
theorem sh_NoWalk {w : World} : Er.Sh2 PG w s_NoWalk_init "first" "second" := by
  refine ⟨⟨_, _, _, _, _, _, _, _, _, _, _, _, _, _, _, rfl, fun q L fI cda cc m v u A E s Q hm hm2 hv hv2 hn k => ?_, fun q L fI cda cc => ⟨rfl, rfl, rfl, rfl, rfl, rfl⟩⟩, ⟨_, rfl, rfl⟩, rfl, rfl, rfl, rfl, rfl, by decide, by decide, by decide, by decide, by decide, rfl, rfl, rfl, by decide +kernel, fun s x v u qual doc pm an cda cc ct => .of_eq rfl⟩
  exact Er.tx_joined (.cons (Er.tx_const (by decide)) (.cons (Er.tx_repr hm hv rfl rfl) (.cons (Er.tx_const (by decide)) (.cons (Er.tx_repr hm2 hv2 rfl rfl) .nil)))) (by decide) hn k
/-- what the top has written -/
structure Tx (K : PySem.W.Frag) (mg : Str → Option Value) : Type where
  f_compare : Addr
  fd_compare : FuncData
  F_compare : Fun K "compare" "compare" s_compare f_compare fd_compare
  g_compare : mg "compare" = some (.ref f_compare)
  b_compare : Binds K fd_compare ["first", "second"] []
  f_is_quantity : Addr
  fd_is_quantity : FuncData
  F_is_quantity : Fun K "is_quantity" "is_quantity" s_is_quantity f_is_quantity fd_is_quantity
  g_is_quantity : mg "is_quantity" = some (.ref f_is_quantity)
  b_is_quantity : Binds K fd_is_quantity ["text"] []
  f_check_row : Addr
  fd_check_row : FuncData
  F_check_row : Fun K "check_row" "check_row" s_check_row f_check_row fd_check_row
  g_check_row : mg "check_row" = some (.ref f_check_row)
  b_check_row : Binds K fd_check_row ["first", "second", "count"] []
  f_across : Addr
  fd_across : FuncData
  F_across : Fun K "across" "across" s_across f_across fd_across
  g_across : mg "across" = some (.ref f_across)
  b_across : Binds K fd_across ["row", "name"] []
  f_strikes_away : Addr
  fd_strikes_away : FuncData
  F_strikes_away : Fun K "strikes_away" "strikes_away" s_strikes_away f_strikes_away fd_strikes_away
  g_strikes_away : mg "strikes_away" = some (.ref f_strikes_away)
  b_strikes_away : Binds K fd_strikes_away ["rows", "indexes", "goal"] []
  f_least_walk : Addr
  fd_least_walk : FuncData
  F_least_walk : Fun K "least_walk" "least_walk" s_least_walk f_least_walk fd_least_walk
  g_least_walk : mg "least_walk" = some (.ref f_least_walk)
  b_least_walk : Binds K fd_least_walk ["rows", "indexes", "first", "second"] []
  f_Strikes___init : Addr
  fd_Strikes___init : FuncData
  F_Strikes___init : Fun K "__init__" "Strikes.__init__" s_Strikes___init f_Strikes___init fd_Strikes___init
  f_Strikes_names : Addr
  fd_Strikes_names : FuncData
  F_Strikes_names : Fun K "names" "Strikes.names" s_Strikes_names f_Strikes_names fd_Strikes_names
  b_Strikes_names : Binds K fd_Strikes_names ["self"] []
  f_Strikes_walk : Addr
  fd_Strikes_walk : FuncData
  F_Strikes_walk : Fun K "walk" "Strikes.walk" s_Strikes_walk f_Strikes_walk fd_Strikes_walk
  b_Strikes_walk : Binds K fd_Strikes_walk ["self", "first", "second"] []
  f_Strikes___add : Addr
  fd_Strikes___add : FuncData
  F_Strikes___add : Fun K "__add__" "Strikes.__add__" s_Strikes___add f_Strikes___add fd_Strikes___add
  b_Strikes___add : Binds K fd_Strikes___add ["self", "other"] []
  f_spread : Addr
  fd_spread : FuncData
  F_spread : Fun K "spread" "spread" s_spread f_spread fd_spread
  g_spread : mg "spread" = some (.ref f_spread)
  b_spread : Binds K fd_spread ["rows", "rises", "levels", "start"] []
  f_levels_with : Addr
  fd_levels_with : FuncData
  F_levels_with : Fun K "levels_with" "levels_with" s_levels_with f_levels_with fd_levels_with
  g_levels_with : mg "levels_with" = some (.ref f_levels_with)
  b_levels_with : Binds K fd_levels_with ["rows", "rises"] []
  f_all_tunings : Addr
  fd_all_tunings : FuncData
  F_all_tunings : Fun K "all_tunings" "all_tunings" s_all_tunings f_all_tunings fd_all_tunings
  g_all_tunings : mg "all_tunings" = some (.ref f_all_tunings)
  b_all_tunings : Binds K fd_all_tunings ["rows"] []
  f_tunings : Addr
  fd_tunings : FuncData
  F_tunings : Fun K "tunings" "tunings" s_tunings f_tunings fd_tunings
  g_tunings : mg "tunings" = some (.ref f_tunings)
  b_tunings : Binds K fd_tunings ["strikes"] []
  f_possible_beats : Addr
  fd_possible_beats : FuncData
  F_possible_beats : Fun K "possible_beats" "possible_beats" s_possible_beats f_possible_beats fd_possible_beats
  g_possible_beats : mg "possible_beats" = some (.ref f_possible_beats)
  b_possible_beats : Binds K fd_possible_beats ["strikes", "first", "second"] []
  f_w_is_integer : Addr
  fd_w_is_integer : FuncData
  F_w_is_integer : Fun K "_law_is_integer" "_law_is_integer" s_w_is_integer f_w_is_integer fd_w_is_integer
  g_w_is_integer : mg "_law_is_integer" = some (.ref f_w_is_integer)
  b_w_is_integer : Binds K fd_w_is_integer ["_law_actual"] []
  f_w_draw : Addr
  fd_w_draw : FuncData
  F_w_draw : Fun K "_law_draw" "_law_draw" s_w_draw f_w_draw fd_w_draw
  g_w_draw : mg "_law_draw" = some (.ref f_w_draw)
  b_w_draw : Binds K fd_w_draw ["_law_box", "_law_size"] []
  f_w_great : Addr
  fd_w_great : FuncData
  F_w_great : Fun K "_law_great" "_law_great" s_w_great f_w_great fd_w_great
  g_w_great : mg "_law_great" = some (.ref f_w_great)
  b_w_great : Binds K fd_w_great ["_law_box"] []
  f_w_ends : Addr
  fd_w_ends : FuncData
  F_w_ends : Fun K "_law_ends" "_law_ends" s_w_ends f_w_ends fd_w_ends
  g_w_ends : mg "_law_ends" = some (.ref f_w_ends)
  b_w_ends : Binds K fd_w_ends ["_law_box"] []
  f_w_fresh : Addr
  fd_w_fresh : FuncData
  F_w_fresh : Fun K "_law_fresh" "_law_fresh" s_w_fresh f_w_fresh fd_w_fresh
  g_w_fresh : mg "_law_fresh" = some (.ref f_w_fresh)
  b_w_fresh : Binds K fd_w_fresh ["_law_box", "_law_ends_here", "_law_taken"] []
  f_w_names : Addr
  fd_w_names : FuncData
  F_w_names : Fun K "_law_names" "_law_names" s_w_names f_w_names fd_w_names
  g_w_names : mg "_law_names" = some (.ref f_w_names)
  b_w_names : Binds K fd_w_names ["_law_box", "_law_many"] []
  f_w_level : Addr
  fd_w_level : FuncData
  F_w_level : Fun K "_law_level" "_law_level" s_w_level f_w_level fd_w_level
  g_w_level : mg "_law_level" = some (.ref f_w_level)
  b_w_level : Binds K fd_w_level ["_law_box", "_law_k", "_law_way"] []
  f_w_rows : Addr
  fd_w_rows : FuncData
  F_w_rows : Fun K "_law_rows" "_law_rows" s_w_rows f_w_rows fd_w_rows
  g_w_rows : mg "_law_rows" = some (.ref f_w_rows)
  b_w_rows : Binds K fd_w_rows ["_law_box"] []
  f_w_strikes : Addr
  fd_w_strikes : FuncData
  F_w_strikes : Fun K "_law_strikes" "_law_strikes" s_w_strikes f_w_strikes fd_w_strikes
  g_w_strikes : mg "_law_strikes" = some (.ref f_w_strikes)
  b_w_strikes : Binds K fd_w_strikes ["_law_r"] []
  f_w_quantities : Addr
  fd_w_quantities : FuncData
  F_w_quantities : Fun K "_law_quantities" "_law_quantities" s_w_quantities f_w_quantities fd_w_quantities
  g_w_quantities : mg "_law_quantities" = some (.ref f_w_quantities)
  b_w_quantities : Binds K fd_w_quantities ["_law_rows_here"] []
  f_w_rounds : Addr
  fd_w_rounds : FuncData
  F_w_rounds : Fun K "_law_rounds" "_law_rounds" s_w_rounds f_w_rounds fd_w_rounds
  g_w_rounds : mg "_law_rounds" = some (.ref f_w_rounds)
  b_w_rounds : Binds K fd_w_rounds ["_law_rows_here"] []
  f_w_is_closed : Addr
  fd_w_is_closed : FuncData
  F_w_is_closed : Fun K "_law_is_closed" "_law_is_closed" s_w_is_closed f_w_is_closed fd_w_is_closed
  g_w_is_closed : mg "_law_is_closed" = some (.ref f_w_is_closed)
  b_w_is_closed : Binds K fd_w_is_closed ["_law_rows_here", "_law_rounds_here", "_law_rises"] []
  f_w_due : Addr
  fd_w_due : FuncData
  F_w_due : Fun K "_law_due" "_law_due" s_w_due f_w_due fd_w_due
  g_w_due : mg "_law_due" = some (.ref f_w_due)
  b_w_due : Binds K fd_w_due ["_law_rows_here"] []
  f_w_paths : Addr
  fd_w_paths : FuncData
  F_w_paths : Fun K "_law_paths" "_law_paths" s_w_paths f_w_paths fd_w_paths
  g_w_paths : mg "_law_paths" = some (.ref f_w_paths)
  b_w_paths : Binds K fd_w_paths ["_law_rows_here", "_law_first"] []
  f_w_distances : Addr
  fd_w_distances : FuncData
  F_w_distances : Fun K "_law_distances" "_law_distances" s_w_distances f_w_distances fd_w_distances
  g_w_distances : mg "_law_distances" = some (.ref f_w_distances)
  b_w_distances : Binds K fd_w_distances ["_law_rows_here", "_law_tuned", "_law_path"] []
  f_w_told : Addr
  fd_w_told : FuncData
  F_w_told : Fun K "_law_told" "_law_told" s_w_told f_w_told fd_w_told
  g_w_told : mg "_law_told" = some (.ref f_w_told)
  b_w_told : Binds K fd_w_told ["_law_strikes_here", "_law_first", "_law_second"] []
  f_w_are_beats : Addr
  fd_w_are_beats : FuncData
  F_w_are_beats : Fun K "_law_are_beats" "_law_are_beats" s_w_are_beats f_w_are_beats fd_w_are_beats
  g_w_are_beats : mg "_law_are_beats" = some (.ref f_w_are_beats)
  b_w_are_beats : Binds K fd_w_are_beats ["_law_told_here", "_law_due_here"] []
  f_w_pair_right : Addr
  fd_w_pair_right : FuncData
  F_w_pair_right : Fun K "_law_pair_right" "_law_pair_right" s_w_pair_right f_w_pair_right fd_w_pair_right
  g_w_pair_right : mg "_law_pair_right" = some (.ref f_w_pair_right)
  b_w_pair_right : Binds K fd_w_pair_right ["_law_strikes_here", "_law_back", "_law_rows_here", "_law_tuned", "_law_first", "_law_second"] []
  f_law : Addr
  fd_law : FuncData
  F_law : Fun K "law" "law" s_law f_law fd_law
  g_law : mg "law" = some (.ref f_law)
  b_law : Binds K fd_law ["_law_script"] []
  C_Strikes : Addr
  gC_Strikes : mg "Strikes" = some (.ref C_Strikes)
  oc_Strikes : Ow.OC K C_Strikes
  na_Strikes_rows : NoAttr K C_Strikes "rows"
  mk_Strikes : Mk K C_Strikes f_Strikes___init
  me_Strikes_names : Meth K C_Strikes "names" f_Strikes_names
  me_Strikes_walk : Meth K C_Strikes "walk" f_Strikes_walk
  me_Strikes___add : Meth K C_Strikes "__add__" f_Strikes___add
  si_Strikes : PySem.W.subIn K (.ref C_Strikes) (.type "int") = some false
  is_Strikes : PySem.W.subIn K (.type "int") (.ref C_Strikes) = some false
  C_BadName : Addr
  gC_BadName : mg "BadName" = some (.ref C_BadName)
  C_NoQuantity : Addr
  gC_NoQuantity : mg "NoQuantity" = some (.ref C_NoQuantity)
  C_Taken : Addr
  gC_Taken : mg "Taken" = some (.ref C_Taken)
  C_BadNumber : Addr
  gC_BadNumber : mg "BadNumber" = some (.ref C_BadNumber)
  C_NoWalk : Addr
  gC_NoWalk : mg "NoWalk" = some (.ref C_NoWalk)
  C_MeteError : Addr
  gC_MeteError : mg "MeteError" = some (.ref C_MeteError)
  Z_BadName : ∀ w, Er.Cls1 PG w K mg "BadName" "name" C_BadName
  X_BadName : ExcC K C_BadName
  xf_BadName : XfC K C_BadName
  Z_NoQuantity : ∀ w, Er.Cls1 PG w K mg "NoQuantity" "name" C_NoQuantity
  X_NoQuantity : ExcC K C_NoQuantity
  xf_NoQuantity : XfC K C_NoQuantity
  Z_Taken : ∀ w, Er.Cls1 PG w K mg "Taken" "name" C_Taken
  X_Taken : ExcC K C_Taken
  xf_Taken : XfC K C_Taken
  Z_BadNumber : ∀ w, Er.Cls1 PG w K mg "BadNumber" "number" C_BadNumber
  X_BadNumber : ExcC K C_BadNumber
  xf_BadNumber : XfC K C_BadNumber
  Z_NoWalk : ∀ w, Er.Cls2 PG w K mg "NoWalk" "first" "second" C_NoWalk
  X_NoWalk : ExcC K C_NoWalk
  xf_NoWalk : XfC K C_NoWalk
  kit_NoQuantity_NoQuantity : PySem.W.kitOne K (.ref C_NoQuantity) (.ref C_NoQuantity) = some true
  kit_NoQuantity_ValueError : PySem.W.kitOne K (.ref C_NoQuantity) (.type "ValueError") = some true
  kit_NoQuantity_NoWalk : PySem.W.kitOne K (.ref C_NoQuantity) (.ref C_NoWalk) = some false
  kit_NoWalk_NoWalk : PySem.W.kitOne K (.ref C_NoWalk) (.ref C_NoWalk) = some true
  kit_NoWalk_ValueError : PySem.W.kitOne K (.ref C_NoWalk) (.type "ValueError") = some true
  kit_NoWalk_NoQuantity : PySem.W.kitOne K (.ref C_NoWalk) (.ref C_NoQuantity) = some false
  exm_NoQuantity_MeteError : PySem.W.exmOne K (.ref C_NoQuantity) (.ref C_MeteError) = some true
  exm_NoWalk_MeteError : PySem.W.exmOne K (.ref C_NoWalk) (.ref C_MeteError) = some true
  m_len : mg "len" = none
  m_range : mg "range" = none
  m_isinstance : mg "isinstance" = none
  m_int : mg "int" = none
  m_bool : mg "bool" = none
  m_str : mg "str" = none
  m_list : mg "list" = none
  m_tuple : mg "tuple" = none
  m_abs : mg "abs" = none
  m_sum : mg "sum" = none
  m_sorted : mg "sorted" = none
  m_enumerate : mg "enumerate" = none
  m_zip : mg "zip" = none
  m_all : mg "all" = none
  m_set : mg "set" = none
  m_NotImplemented : mg "NotImplemented" = none
  m_ValueError : mg "ValueError" = none
  c_LETTERS : ∃ t, mg "LETTERS" = some (.str "abcdefghijklmnopqrstuvwxyz" t)
  c_QUANTITY_SIGNS : ∃ t, mg "QUANTITY_SIGNS" = some (.str "abcdefghijklmnopqrstuvwxyz.0123456789" t)
  c_LONGEST_QUANTITY : ∃ t, mg "LONGEST_QUANTITY" = some (.int (12) t)
  c_MOST_STRIKES : ∃ t, mg "MOST_STRIKES" = some (.int (10) t)
local macro_rules | `(tactic| walk_at "st") => `(tactic| first
  | (with_reducible refine r_seq ?_)
  | (with_reducible refine r_asg ?_)
  | (with_reducible refine r_ifS ?_)
  | (with_reducible refine r_ret ?_)
  | (with_reducible refine r_next ?_)
  | (with_reducible refine r_drop ?_)
  | (with_reducible refine r_retN ?_)
  | (with_reducible refine r_cont ?_)
  | (with_reducible refine r_break ?_)
  | (with_reducible refine r_op ?_)
  | (with_reducible refine r_un ?_)
  | ((with_reducible refine' r_var ?h1 ?_); (case h1 => exact rfl))
  | (with_reducible refine r_c ?_)
  | (with_reducible refine r_I0 ?_)
  | (with_reducible refine r_eqI ?_)
  | (with_reducible refine r_neI ?_)
  | (with_reducible refine r_eqS ?_)
  | (with_reducible refine r_neS ?_)
  | (with_reducible refine r_eqB ?_)
  | (with_reducible refine r_neB ?_)
  | (with_reducible refine r_U ?_)
  | (with_reducible refine r_test ?_)
  | (with_reducible refine r_tB ?_)
  | (with_reducible refine r_bl ?_)
  | (with_reducible refine r_and ?_)
  | (with_reducible refine r_or ?_)
  | (with_reducible refine r_not ?_)
  | (with_reducible refine r_andV ?_)
  | (with_reducible refine r_orV ?_)
  | (with_reducible refine r_notV ?_)
  | (with_reducible refine r_if ?_)
  | (with_reducible refine r_chain ?_)
  | (with_reducible refine r_gName0 ?_)
  | (with_reducible refine r_gName1 ?_)
  | (with_reducible refine r_gName2 ?_)
  | (with_reducible refine r_gName3 ?_)
  | (with_reducible refine r_gName4 ?_)
  | (with_reducible refine r_gName5 ?_)
  | (with_reducible refine r_gName6 ?_)
  | (with_reducible refine r_gName7 ?_)
  | (with_reducible refine r_gName8 ?_)
  | (with_reducible refine r_gName9 ?_)
  | (with_reducible refine r_gName10 ?_)
  | (with_reducible refine r_gName11 ?_)
  | (with_reducible refine r_gName12 ?_)
  | (with_reducible refine r_gName13 ?_)
  | (with_reducible refine r_gName14 ?_)
  | (with_reducible refine r_gName15 ?_)
  | (with_reducible refine r_gName16 ?_)
  | (with_reducible refine r_gName17 ?_)
  | (with_reducible refine r_gName18 ?_)
  | (with_reducible refine r_gName19 ?_)
  | (with_reducible refine r_cb ?_)
  | (with_reducible refine r_cons ?_)
  | (with_reducible refine r_nil ?_)
  | ((with_reducible refine r_call ?_); try simp only [List.cons_append, List.nil_append])
  | ((with_reducible refine r_callSD ?_); try simp only [List.cons_append, List.nil_append])
  | (with_reducible refine r_gSub ?_)
  | (with_reducible refine r_sl ?_)
  | (with_reducible refine r_lst ?_)
  | (with_reducible refine r_tup ?_)
  | (with_reducible refine r_int1 ?_)
  | (with_reducible refine r_intB ?_)
  | ((with_reducible refine r_in1 ?_); try simp only [abs_if])
  | ((with_reducible refine r_in2 ?_); try simp only [max_if])
  | (with_reducible refine r_forR1 ?_)
  | (with_reducible refine r_forR2 ?_)
  | (with_reducible refine r_forL ?_)
  | (with_reducible refine r_forT ?_)
  | (with_reducible refine r_lcR1 ?_)
  | (with_reducible refine r_lcL ?_)
  | (with_reducible refine r_lcT ?_)
  | (with_reducible refine r_yes ?_)
  | (with_reducible refine r_tPart ?_)
  | (with_reducible refine r_noPart ?_)
  | (with_reducible refine r_exI ?_)
  | (with_reducible refine r_par ?_)
  | (with_reducible refine Er.r_raise1 ?_)
  | (with_reducible refine r_isN ?_)
  | (with_reducible refine r_isI ?_)
  | (with_reducible refine r_isR ?_)
  | (with_reducible refine r_isS ?_)
  | (with_reducible refine r_noN ?_)
  | (with_reducible refine r_noI ?_)
  | (with_reducible refine r_noR ?_)
  | (with_reducible refine r_noS ?_)
  | (with_reducible refine r_isB ?_)
  | (with_reducible refine r_noB ?_)
  | (with_reducible refine r_iteTT ?_)
  | (with_reducible refine r_iteFF ?_)
  | (with_reducible refine Er.r_xf ?_)
  | (with_reducible refine r_bm ?_)
  | ((with_reducible refine' r_tyL ?h1 ?_); (case h1 => walk_at "sq"))
  | ((with_reducible refine' r_app ?h1 ?h2 ?_); (case h1 => walk_at "hp"); (case h2 => exact lt_size (by simp only [List.length_map, List.length_append, List.length_cons, List.length_nil]; omega)))
  | (with_reducible refine r_exP ?_)
  | (with_reducible refine r_iteT rfl ?_)
  | (with_reducible refine r_iteNF rfl ?_)
  | ((with_reducible refine' r_ixL ?h1 ?h2 ?_); (case h1 => walk_at "sq"); (case h2 => walk_at "at"))
  | ((with_reducible refine' r_ixT ?h1 ?h2 ?_); (case h1 => walk_at "sq"); (case h2 => walk_at "at"))
  | (with_reducible refine r_lenL (sqL_of (by assumption)) ?_)
  | (with_reducible refine r_lenT (sqT_of (by assumption)) ?_)
  | ((with_reducible refine' r_lenL ?h1 ?_); (case h1 => walk_at "sq"))
  | ((with_reducible refine' r_lenT ?h1 ?_); (case h1 => walk_at "sq"))
  | ((with_reducible refine' r_setP0 ?h1 ?_); (case h1 => walk_at "hp"); try simp only [upd_upd])
  | ((with_reducible refine' r_setP1 ?h1 ?_); (case h1 => walk_at "hp"); try simp only [upd_upd])
  | ((with_reducible refine' r_setP2 ?h1 ?_); (case h1 => walk_at "hp"); try simp only [upd_upd])
  | ((with_reducible refine' r_setP3 ?h1 ?_); (case h1 => walk_at "hp"); try simp only [upd_upd])
  | ((with_reducible refine' r_setL ?h1 ?h2 ?_); (case h1 => walk_at "hp"); (case h2 => walk_at "ix"))
  | ((with_reducible refine r_I ?h1 ?_); (case h1 => walk_at "side"); try simp only [Int.reduceToNat, Int.reducePow])
  | ((with_reducible refine r_iteT ?h1 ?_); (case h1 => walk_at "dec"))
  | ((with_reducible refine r_iteF ?h1 ?_); (case h1 => walk_at "dec"))
  | ((with_reducible refine r_iteNT ?h1 ?_); (case h1 => walk_at "dec"))
  | ((with_reducible refine r_iteNF ?h1 ?_); (case h1 => walk_at "dec"))
  | ((with_reducible refine' r_gNameW ?h1 ?_); (case h1 => (simp only [L2.wipe, List.map_cons, List.map_nil, List.set_cons_zero, List.set_cons_succ]; try exact rfl)))
  | ((with_reducible refine r_wipe ?h1 ?_); (case h1 => rfl))
  | (with_reducible refine iteT ?_)
  | (with_reducible refine r_iteNT1 ?_)
  | (with_reducible refine r_iteNF1 ?_)
  | (with_reducible refine r_gcd ?_)
  | ((with_reducible refine' r_isi ?h1 ?h2 ?_); (case h1 => first | exact .base (.int _) | exact .base (.bl _) | exact .base (.str _) | exact .base .non | exact .base (.tup (by walk_at "hp")) | exact .base (.lst (by walk_at "hp")) | exact .base (.dK (by walk_at "hp"))); (case h2 => first | (with_reducible exact kit_ii) | (with_reducible exact kit_ib) | (with_reducible exact kit_tt) | (with_reducible exact kit_ss) | (with_reducible exact kit_ll) | (with_reducible exact kit_bb) | (with_reducible exact kit_bi) | (with_reducible exact kit_dd) | (with_reducible exact kit_nt) | (with_reducible exact kit_ni) | (with_reducible exact kit_is) | (with_reducible exact kit_si) | (with_reducible exact kit_it)))
  | (with_reducible refine iteF ?_)
  | ((with_reducible refine And.intro ?h1 ?_); (case h1 => exact le_size (by simp only [List.length_cons, List.length_nil]; omega)))
  | (with_reducible refine r_nxE ?_)
  | (with_reducible refine r_bkE ?_)
  | (with_reducible refine r_ctE ?_)
  | (with_reducible refine r_rtE ?_))
local macro_rules | `(tactic| walk_at "sts") => `(tactic| repeat walk_at "st")
local macro_rules | `(tactic| walk_at "hp") => `(tactic| first | assumption | exact upd_same | (rw [upd_ne (by walk_at "ne")]; walk_at "hp") | exact Keep.out (by assumption) (by walk_at "nin") (by walk_at "hp"))
local macro_rules | `(tactic| walk_at "nin") => `(tactic| (simp only [List.mem_cons, List.not_mem_nil, or_false, not_false_eq_true]; first | done | walk_at "ne"))
local macro_rules | `(tactic| walk_at "ne") => `(tactic| first | assumption | (apply Ne.symm; assumption) | exact ne_free (by assumption) (by assumption) | exact (ne_free (by assumption) (by assumption)).symm)
local macro_rules | `(tactic| walk_at "sq") => `(tactic| first | assumption | exact sqL_of (by walk_at "hp") | exact sqT_of (by walk_at "hp") | exact Keep.l (by assumption) (by walk_at "nin") (by walk_at "sq") | exact Keep.t (by assumption) (by walk_at "nin") (by walk_at "sq"))
local macro_rules | `(tactic| walk_at "at") => `(tactic| first
  | exact atI_nat (j := 0) rfl | exact atI_nat (j := 1) rfl | exact atI_nat (j := 2) rfl | exact atI_nat (j := 3) rfl | exact atI_nat (j := 4) rfl | exact atI_nat (j := 5) rfl
  | (refine atI_map ?_ ?_ <;> omega) | assumption)
local macro_rules | `(tactic| walk_at "ix") => `(tactic| first | exact ixN_of (by decide) (by simp; omega) | exact ixN_of (by omega) (by simp; omega))
local macro_rules | `(tactic| walk_at "side") => `(tactic| first | omega | decide | exact .inl (by omega) | exact .inr (by omega) | exact ⟨by omega, by omega⟩ | exact .inl (.inl (by omega)) | exact .inl (.inr (by omega)) | (exact ⟨by decide, by decide, by decide⟩) | (exact ⟨by omega, by decide⟩))
local macro_rules | `(tactic| walk_at "start") => `(tactic| simp only [start_cc, start_cn, start_nn, cxOf_K])
local macro_rules | `(tactic| walk_at "dec") => `(tactic| first | omega | (simp only [List.length_cons, List.length_nil, List.length_map, List.length_append]; omega))
local macro_rules | `(tactic| walk_at "st") => `(tactic| first
  | (with_reducible refine Ow.r_fld ?_)
  | ((with_reducible refine' Ow.r_fldAt ?h1 ?h2 ?h3 ?h4 ?_); (case h1 => walk_at "hp"); (case h2 => exact Ow.OC.cl (by assumption)); (case h3 => assumption); (case h4 => rfl))
  | (with_reducible refine Ow.r_len_str ?_))
local macro_rules | `(tactic| walk_at "st") => `(tactic| first
  | (with_reducible refine r_inSg ?_)
  | (with_reducible refine r_ninSg ?_)
  | (with_reducible refine r_dnew ?_)
  | (with_reducible refine r_dget ?_)
  | (with_reducible refine r_dget2 ?_)
  | (with_reducible refine r_dput ?_)
  | (with_reducible refine r_din ?_)
  | (with_reducible refine r_dnin ?_)
  | (with_reducible refine r_strS ?_)
  | (with_reducible refine r_lcS ?_)
  | ((with_reducible refine' r_isD ?h1 ?_); (case h1 => walk_at "hp"))
  | ((with_reducible refine' r_dgetO ?h1 ?_); (case h1 => walk_at "hp"))
  | ((with_reducible refine' r_gTup2 ?h1 ?_); (case h1 => walk_at "sq"); try simp only [List.set_cons_zero, List.set_cons_succ]))
local macro_rules | `(tactic| walk_at "st") => `(tactic| first
  | (with_reducible refine r_js ?_)
  | (with_reducible refine r_js0 ?_)
  | (with_reducible refine r_fmt ?_))
local macro_rules | `(tactic| walk_at "st") => `(tactic| first
  | (with_reducible refine Ow.r_sfld ?_)
  | ((with_reducible refine' Ow.r_sfldAt ?h1 ?h2 ?h3 ?h4 ?_); (case h1 => walk_at "hp"); (case h2 => exact Ow.OC.cl (by assumption)); (case h3 => assumption); (case h4 => (simp only [List.length_cons, List.length_nil]; omega)))
  | ((with_reducible refine Ow.r_make ?_); try simp only [List.cons_append, List.nil_append])
  | ((with_reducible refine Ow.r_meth ?_); skip)
  | ((with_reducible refine' Ow.r_methAt ?h1 ?h2 ?_); (case h1 => walk_at "hp"); (case h2 => rfl); try simp only [List.cons_append, List.nil_append]))
/-! ### the box that draws -/
def BoxAt (a q : Addr) (H : Hp) : Prop := ∃ (ns : List Int) (x s n : Int), H a = some (.lst [.ref q, .int x, .int s, .int n]) ∧ H q = some (.lst (ns.map V.int)) ∧ 0 ≤ x ∧ 0 ≤ s ∧ s < 2147483647 ∧ 0 ≤ n ∧ n ≤ 4 ∧ ns.length ≤ 63
def spDr : Sp := fun vs H Q _ => ∃ (a q : Addr) (n : Int), vs = [.ref a, .int n] ∧ BoxAt a q H ∧ 0 < n ∧ n < 2 ^ 200 ∧ ∀ (r : Int) (H' : Hp), 0 ≤ r → r < n → Keep [a, q] H H' → BoxAt a q H' → Q (.int r) H'
theorem r_dr {Q : VK} {E : XK} {H : Hp} {a q : Addr} {n : Int} (hp : BoxAt a q H) (h0 : 0 < n) (h1 : n < 2 ^ 200) (k : ∀ (r : Int) (H' : Hp), 0 ≤ r → r < n → Keep [a, q] H H' → BoxAt a q H' → Q (.int r) H') : spDr [.ref a, .int n] H Q E := ⟨a, q, n, rfl, hp, h0, h1, k⟩
theorem BoxAt.ne {a q p : Addr} {H : Hp} (h : BoxAt a q H) (n : H p = none) : p ∉ [a, q] := by
  obtain ⟨ns, x, s, m, e1, e2, _⟩ := h
  simp only [List.mem_cons, List.not_mem_nil, or_false, not_or]
  constructor
  · rintro rfl; rw [e1] at n; cases n
  · rintro rfl; rw [e2] at n; cases n
theorem BoxAt.keep0 {a q : Addr} {H H' : Hp} (h : BoxAt a q H) (k : Keep [] H H') : BoxAt a q H' := by
  obtain ⟨ns, x, s, m, e1, e2, r⟩ := h
  exact ⟨ns, x, s, m, k _ _ (by simp) e1, k _ _ (by simp) e2, r⟩
theorem BoxAt.aq {a q : Addr} {H : Hp} (h : BoxAt a q H) : a ≠ q := by
  obtain ⟨ns, x, s, m, e1, e2, _⟩ := h
  rintro rfl
  rw [e1] at e2
  have := HO.lst.inj (Option.some.inj e2)
  cases ns with
  | nil => cases this
  | cons n ns => cases this
theorem r_neNilI {K : PySem.W.Frag} {H : Hp} {Q : VK} {p q : Addr} {ns : List Int} (hp : H p = some (.lst (ns.map V.int))) (hq : H q = some (.lst [])) (k : Q (.bl (!decide (ns = []))) H) : rNeD K (.ref p) (.ref q) H Q := by
  have fl : ∀ ns : List Int, (ns.map V.int).all flatV = true := fun ns => by
    rw [List.all_eq_true]; intro x hx; obtain ⟨i, _, rfl⟩ := List.mem_map.mp hx; rfl
  refine r_neL (sqL_of hp) (sqL_of hq) (fl ns) rfl (b := decide (ns = [])) ?_ k
  cases ns <;> rfl
section
variable {P : Program} {w : World} {K : PySem.W.Frag} {mg : Str → Option Value} {base : Heap}
theorem ok_draw (T : Tx K mg) : FnOk P w K mg base CX0 1 T.f_w_draw T.fd_w_draw ["_law_box", "_law_size"] spDr := by
  refine T.F_w_draw.ok sc_w_draw (fun vs H Q E h => ?_) (fun cdv A outer s H vs Q E hr h => ?_)
  · obtain ⟨a, q, n, rfl, _⟩ := h; rfl
  · obtain ⟨a, q, n, rfl, hb, n0, n1, qq⟩ := h
    have naq := hb.aq
    obtain ⟨ns, x, sd, m, ea, eq, x0, s0, s1, m0, m4, hns⟩ := hb
    refine ⟨_, (pss_cons (ps_set (i := 2) sc_w_draw.nd rfl (Or.inl rfl) (pe_ix ix_list (pv 0) pe_int (fun _ _ => rfl)))
    (Evl.pss_cut (ps_if (PW.pt (pw_and (pt_cmpR op_eq (pe_ix ix_list (pv 0) pe_int (fun _ _ => rfl)) pe_int (nomark _)) (pw_and (pt_cmpR op_eq (pe_ix ix_list (pv 0) pe_int (fun _ _ => rfl)) pe_int (nomark _)) (pw_and1 (pt_cmpR (op_neD hr.units) (pv 2) (pe_lst pa_nil) (nomark _))))))
    (pss_cons (ps_set (i := 3) sc_w_draw.nd rfl (Or.inl rfl) (pe_callTy call_int1 (by rfl) T.m_int (by decide +kernel) (pa_cons (pe_bm PySem.F.plainAttrs_list PySem.F.slot_list_pop PySem.F.type_list_pop mt_popAt (pv 2) (pa_cons pe_int pa_nil)) pa_nil)))
    (pss_cons (ps_asg (pe_op op_mod (pe_callTy call_int1 (by rfl) T.m_int (by decide +kernel) (pa_cons (pe_op op_add (pe_op op_add (pe_op op_mul (pe_callTy call_int1 (by rfl) T.m_int (by decide +kernel) (pa_cons (pe_ix ix_list (pv 0) pe_int (fun _ _ => rfl)) pa_nil)) pe_int) (pe_op op_mod (pe_callTy call_int1 (by rfl) T.m_int (by decide +kernel) (pa_cons (pv 3) pa_nil)) pe_int)) pe_int) pa_nil)) pe_int) (pg_sub (pv 0) pe_int set_list))
    (pss_one (ps_if (pt_cmpR op_ge (pv 3) (pe_op op_pow pe_int pe_int) (nomark _))
    (pss_one (ps_asg (pv 3) (pg_sub (pv 0) pe_int set_list)))
    (pss_one (ps_asg pe_int (pg_sub (pv 0) pe_int set_list)))))))
    pss_nil)
    (Evl.pss_cut (ps_if (pt_cmpR op_gt (pe_ix ix_list (pv 0) pe_int (fun _ _ => rfl)) pe_int (nomark _))
    (pss_cons (ps_set (i := 4) sc_w_draw.nd rfl (Or.inl rfl) (pe_op op_mod (pe_callTy call_int1 (by rfl) T.m_int (by decide +kernel) (pa_cons (pe_ix ix_list (pv 0) pe_int (fun _ _ => rfl)) pa_nil)) (pv 1)))
    (pss_cons (ps_asg (pe_op op_fdivWN (pe_callTy call_int1 (by rfl) T.m_int (by decide +kernel) (pa_cons (pe_ix ix_list (pv 0) pe_int (fun _ _ => rfl)) pa_nil)) (pv 1)) (pg_sub (pv 0) pe_int set_list))
    (pss_one (ps_ret (pv 4)))))
    pss_nil)
    (Evl.pss_cut (ps_if (pt_cmpR op_gt (pe_ix ix_list (pv 0) pe_int (fun _ _ => rfl)) pe_int (nomark _))
    (pss_one (ps_asg (pe_op op_sub (pe_ix ix_list (pv 0) pe_int (fun _ _ => rfl)) pe_int) (pg_sub (pv 0) pe_int set_list)))
    pss_nil)
    (pss_cons (ps_asg (pe_op op_mod (pe_callTy call_int1 (by rfl) T.m_int (by decide +kernel) (pa_cons (pe_op op_mul (pe_callTy call_int1 (by rfl) T.m_int (by decide +kernel) (pa_cons (pe_ix ix_list (pv 0) pe_int (fun _ _ => rfl)) pa_nil)) pe_int) pa_nil)) pe_int) (pg_sub (pv 0) pe_int set_list))
    (pss_one (ps_ret (pe_op op_mod (pe_op op_mod (pe_callTy call_int1 (by rfl) T.m_int (by decide +kernel) (pa_cons (pe_op op_add (pe_op op_mul (pe_callTy call_int1 (by rfl) T.m_int (by decide +kernel) (pa_cons (pe_ix ix_list (pv 0) pe_int (fun _ _ => rfl)) pa_nil)) pe_int) (pe_op op_fdiv (pe_callTy call_int1 (by rfl) T.m_int (by decide +kernel) (pa_cons (pe_ix ix_list (pv 0) pe_int (fun _ _ => rfl)) pa_nil)) pe_int)) pa_nil)) pe_int) (pv 1))))))))), ?_⟩
    walk_at "start"
    walk_at "sts"
    refine r_cut (fun σ' H' => ∃ y3 : Option V, σ' = [some (.ref a), some (.int n), some (.ref q), y3, none] ∧ Keep [a, q] H H' ∧ BoxAt a q H') ?_ ?_
    · have stay : ∃ y3 : Option V, [some (V.ref a), some (.int n), some (.ref q), none, none] = [some (.ref a), some (.int n), some (.ref q), y3, none] ∧ Keep [a, q] H H ∧ BoxAt a q H := ⟨_, rfl, Keep.refl _ _, ns, x, sd, m, ea, eq, x0, s0, s1, m0, m4, hns⟩
      walk_at "sts"
      refine r_ite (fun c1 => ?_) (fun c1 => ?_)
      case refine_2 =>
        walk_at "sts"
        exact stay
      walk_at "sts"
      refine r_ite (fun c2 => ?_) (fun c2 => ?_)
      case refine_2 =>
        walk_at "sts"
        exact stay
      walk_at "sts"
      intro p hp
      have k1 : Keep [] H (upd H p (.lst [])) := Keep.new hp
      have ep : upd H p (.lst []) p = some (.lst []) := upd_same
      have ea1 := k1 _ _ (by simp) ea
      have eq1 := k1 _ _ (by simp) eq
      generalize upd H p (.lst []) = H1 at k1 ep ea1 eq1 ⊢
      have k1' : Keep [a, q] H H1 := k1.mono (by simp)
      refine r_neNilI eq1 ep ?_
      walk_at "sts"
      refine r_iteN (fun c3 => ?_) (fun c3 => ?_)
      case refine_2 =>
        walk_at "sts"
        exact ⟨_, by first | exact rfl | trivial, k1', ns, x, sd, m, ea1, eq1, x0, s0, s1, m0, m4, hns⟩
      obtain ⟨c, ns', rfl⟩ : ∃ c ns', ns = c :: ns' := by
        cases ns with
        | nil => exact (c3 rfl).elim
        | cons c ns' => exact ⟨c, ns', rfl⟩
      walk_at "sts"
      have seq0 : seqIndex? 0 ((c :: ns').map V.int).length = some 0 := by unfold seqIndex?; simp
      refine ⟨q, _, 0, 0, .int c, rfl, rfl, eq1, by omega, by omega, seq0, rfl, ?_⟩
      rw [show (((c :: ns').map V.int).eraseIdx 0) = ns'.map V.int from rfl]
      have ea2 : upd H1 q (.lst (ns'.map V.int)) a = some (.lst [.ref q, .int x, .int sd, .int m]) := by rw [upd_ne naq]; exact ea1
      have eq2 : upd H1 q (.lst (ns'.map V.int)) q = some (.lst (ns'.map V.int)) := upd_same
      have k2 : Keep [a, q] H (upd H1 q (.lst (ns'.map V.int))) := k1'.trans (Keep.at (by simp))
      have hns' : ns'.length ≤ 62 := by simp only [List.length_cons] at hns; omega
      generalize upd H1 q (.lst (ns'.map V.int)) = H2 at ea2 eq2 k2 ⊢
      clear ea1 eq1 k1 k1' ep ea eq
      walk_at "sts"
      have g0 : 0 ≤ (sd * 48271 + c % 2147483647 + 1) % 2147483647 := Int.emod_nonneg _ (by decide)
      have g1 : (sd * 48271 + c % 2147483647 + 1) % 2147483647 < 2147483647 := Int.emod_lt_of_pos _ (by decide)
      generalize (sd * 48271 + c % 2147483647 + 1) % 2147483647 = sd2 at g0 g1 ⊢
      have ea3 : upd H2 a (.lst [.ref q, .int x, .int sd2, .int m]) a = some (.lst [.ref q, .int x, .int sd2, .int m]) := upd_same
      have eq3 : upd H2 a (.lst [.ref q, .int x, .int sd2, .int m]) q = some (.lst (ns'.map V.int)) := by rw [upd_ne (Ne.symm naq)]; exact eq2
      have k3 : Keep [a, q] H (upd H2 a (.lst [.ref q, .int x, .int sd2, .int m])) := k2.trans (Keep.at (by simp))
      generalize upd H2 a (.lst [.ref q, .int x, .int sd2, .int m]) = H3 at ea3 eq3 k3 ⊢
      refine r_ite (fun c4 => ?_) (fun c4 => ?_)
      · walk_at "sts"
        exact ⟨_, by first | exact rfl | trivial, k3.trans (Keep.at (by simp)), ns', c, sd2, m, upd_same, by rw [upd_ne (Ne.symm naq)]; exact eq3, by omega, g0, g1, m0, m4, by omega⟩
      · walk_at "sts"
        exact ⟨_, by first | exact rfl | trivial, k3.trans (Keep.at (by simp)), ns', x, sd2, 4, upd_same, by rw [upd_ne (Ne.symm naq)]; exact eq3, x0, g0, g1, by omega, by omega, by omega⟩
    clear ea eq x0 s0 s1 m0 m4 hns
    rintro σ' H1 ⟨y3, rfl, k1, ns, x, sd, m, ea, eq, x0, s0, s1, m0, m4, hns⟩
    refine r_cut (fun σ' H' => ∃ y3 : Option V, σ' = [some (.ref a), some (.int n), some (.ref q), y3, none] ∧ Keep [a, q] H H' ∧ BoxAt a q H') ?_ ?_
    · walk_at "sts"
      refine r_ite (fun c1 => ?_) (fun c1 => ?_)
      · walk_at "sts"
        refine r_I ⟨by omega, log_ok 200 (by omega)⟩ ?_
        walk_at "sts"
        exact qq _ _ (Int.emod_nonneg _ (by omega)) (Int.emod_lt_of_pos _ n0) (k1.trans (Keep.at (by simp))) ⟨ns, x.fdiv n, sd, m, upd_same, by rw [upd_ne (Ne.symm naq)]; exact eq, Int.fdiv_nonneg (by omega) (by omega), s0, s1, m0, m4, hns⟩
      · walk_at "sts"
        exact ⟨_, by first | exact rfl | trivial, k1, ns, x, sd, m, ea, eq, x0, s0, s1, m0, m4, hns⟩
    clear ea eq x0 s0 s1 m0 m4 hns k1
    rintro σ' H1 ⟨y3, rfl, k1, ns, x, sd, m, ea, eq, x0, s0, s1, m0, m4, hns⟩
    refine r_cut (fun σ' H' => ∃ y3 : Option V, σ' = [some (.ref a), some (.int n), some (.ref q), y3, none] ∧ Keep [a, q] H H' ∧ BoxAt a q H') ?_ ?_
    · walk_at "sts"
      refine r_ite (fun c1 => ?_) (fun c1 => ?_)
      · walk_at "sts"
        exact ⟨_, by first | exact rfl | trivial, k1.trans (Keep.at (by simp)), ns, x, sd, m - 1, upd_same, by rw [upd_ne (Ne.symm naq)]; exact eq, x0, s0, s1, by omega, by omega, hns⟩
      · walk_at "sts"
        exact ⟨_, by first | exact rfl | trivial, k1, ns, x, sd, m, ea, eq, x0, s0, s1, m0, m4, hns⟩
    clear ea eq x0 s0 s1 m0 m4 hns k1
    rintro σ' H1 ⟨y3, rfl, k1, ns, x, sd, m, ea, eq, x0, s0, s1, m0, m4, hns⟩
    walk_at "sts"
    have h0 : 0 ≤ sd * 48271 % 2147483647 := Int.emod_nonneg _ (by decide)
    have h1 : sd * 48271 % 2147483647 < 2147483647 := Int.emod_lt_of_pos _ (by decide)
    exact qq _ _ (Int.emod_nonneg _ (by omega)) (Int.emod_lt_of_pos _ n0) (k1.trans (Keep.at (by simp))) ⟨ns, x, _, m, upd_same, by rw [upd_ne (Ne.symm naq)]; exact eq, x0, h0, h1, m0, m4, hns⟩
end
/-! ### great numbers and levels -/
theorem BoxAt.put {a q p : Addr} {o : HO} {H : Hp} (h : BoxAt a q H) (n : p ∉ [a, q]) : BoxAt a q (upd H p o) := by
  simp only [List.mem_cons, List.not_mem_nil, or_false, not_or] at n
  obtain ⟨ns, x, s, m, e1, e2, r⟩ := h
  exact ⟨ns, x, s, m, by rw [upd_ne (Ne.symm n.1)]; exact e1, by rw [upd_ne (Ne.symm n.2)]; exact e2, r⟩
def spGreat : Sp := fun vs H Q _ => ∃ (a q : Addr), vs = [.ref a] ∧ BoxAt a q H ∧ ∀ (r : Int) (H' : Hp), 0 ≤ r → r < 10 ^ 27 → Keep [a, q] H H' → BoxAt a q H' → Q (.int r) H'
def spLevel : Sp := fun vs H Q _ => ∃ (a q : Addr) (k way : Int), vs = [.ref a, .int k, .int way] ∧ BoxAt a q H ∧ 0 ≤ k ∧ k ≤ 30 ∧ ∀ (r : Int) (H' : Hp), -1000 ≤ r → r < 10 ^ 27 → Keep [a, q] H H' → BoxAt a q H' → Q (.int r) H'
section
variable {P : Program} {w : World} {K : PySem.W.Frag} {mg : Str → Option Value} {base : Heap}
theorem ok_great (T : Tx K mg) (G_w_draw : FnOk P w K mg base CX0 1 T.f_w_draw T.fd_w_draw ["_law_box", "_law_size"] spDr) : FnOk P w K mg base CX0 2 T.f_w_great T.fd_w_great ["_law_box"] spGreat := by
  refine T.F_w_great.ok sc_w_great (fun vs H Q E h => ?_) (fun cdv A outer s H vs Q E hr h => ?_)
  · obtain ⟨a, q, rfl, _⟩ := h; rfl
  · obtain ⟨a, q, rfl, hb, qq⟩ := h
    refine ⟨_, (pss_cons (ps_setLc (i := 1) (own := [("_law_k", 2)]) (g := gName 2) (tt := tYes) rfl sc_w_great.nd rfl rfl (sw_true rfl rfl rfl (by decide +kernel)) (pi_range1 rfl T.m_range (pa_cons pe_int pa_nil)) (blkOk_by (own := [("_law_k", 2)]) (N := ["_law_box", "_law_parts", "_law_k"]) (sc := defScope s_w_great) (by decide +kernel)) (fun _ _ _ _ _ => pg_name (i := 2) sc_w_great.nd rfl (Or.inl rfl)) (fun _ _ _ _ _ => pts_nil) (fun _ _ _ _ _ => (pe_call G_w_draw (hr.mono (by decide)) rfl T.g_w_draw T.F_w_draw.kp T.b_w_draw .nil pass0 (pa_cons (pv 0) (pa_cons (pe_op op_pow pe_int pe_int) pa_nil)))))
    (pss_one (ps_ret (pe_op op_add (pe_op op_add (pe_op op_mul (pe_ix ix_list (pv 1) pe_int (fun _ _ => rfl)) (pe_op op_pow pe_int pe_int)) (pe_op op_mul (pe_ix ix_list (pv 1) pe_int (fun _ _ => rfl)) (pe_op op_pow pe_int pe_int))) (pe_ix ix_list (pv 1) pe_int (fun _ _ => rfl)))))), ?_⟩
    walk_at "start"
    walk_at "sts"
    refine lcR1_go (fun D i acc H' => ∃ ns : List Int, acc = ns.map V.int ∧ ns.length = i ∧ (∀ x ∈ ns, 0 ≤ x ∧ x < 10 ^ 9) ∧ Keep [a, q] H H' ∧ BoxAt a q H' ∧ H D = none) (by omega) (fun D hD => ⟨[], rfl, rfl, by simp, (show Keep [] H _ from Keep.new hD).mono (by simp), hb.keep0 (Keep.new hD), hD⟩) ?_ ?_
    · rintro D i acc H1 hi hD ⟨ns, rfl, ln, hx, k1, b1, nD⟩
      simp only [L2.wipe, List.map_cons, List.map_nil, List.set_cons_zero, List.set_cons_succ]
      refine r_gName ?_
      simp only [List.set_cons_zero, List.set_cons_succ]
      refine ⟨trivial, ?_⟩
      refine r_yes ?_
      rw [if_pos rfl]
      walk_at "sts"
      refine r_dr b1 (by omega) (by omega) fun r H2 r0 r1 k2 b2 => ?_
      have nD2 := hb.ne nD
      have hD2 := k2 _ _ nD2 hD
      refine ⟨_, hD2, lt_size (by rw [List.length_map]; omega), _, upd_same, ns ++ [r], by simp, by simp [ln], ?_, (k1.trans k2).mut nD, b2.put nD2, nD⟩
      intro x hx2
      rcases List.mem_append.mp hx2 with h | h
      · exact hx x h
      · rw [List.mem_singleton.mp h]; exact ⟨r0, r1⟩
    · rintro D acc H1 hD eD ⟨ns, rfl, ln, hx, k1, b1, nD⟩
      walk_at "sts"
      have ln3 : ns.length = 3 := ln
      match ns, ln3, hx with
      | [x, y, z], _, hx =>
        have h1 := hx x (by simp)
        have h2 := hx y (by simp)
        have h3 := hx z (by simp)
        show Q (.int (x * 1000000000000000000 + y * 1000000000 + z)) H1
        exact qq _ H1 (by omega) (by omega) k1 b1
theorem ok_level (T : Tx K mg) (G_w_draw : FnOk P w K mg base CX0 1 T.f_w_draw T.fd_w_draw ["_law_box", "_law_size"] spDr) (G_w_great : FnOk P w K mg base CX0 2 T.f_w_great T.fd_w_great ["_law_box"] spGreat) : FnOk P w K mg base CX0 3 T.f_w_level T.fd_w_level ["_law_box", "_law_k", "_law_way"] spLevel := by
  refine T.F_w_level.ok sc_w_level (fun vs H Q E h => ?_) (fun cdv A outer s H vs Q E hr h => ?_)
  · obtain ⟨a, q, k, way, rfl, _⟩ := h; rfl
  · obtain ⟨a, q, k, way, rfl, hb, k0, k30, qq⟩ := h
    refine ⟨_, (pss_cons (ps_if (PW.pt (pw_or (pt_cmpR op_eq (pv 2) pe_int (nomark _)) (pw_or1 (pt_cmpR op_eq (pv 2) pe_int (nomark _)))))
    (pss_one (ps_ret (pe_call G_w_draw (hr.mono (by decide)) rfl T.g_w_draw T.F_w_draw.kp T.b_w_draw .nil pass0 (pa_cons (pv 0) (pa_cons pe_int pa_nil)))))
    pss_nil)
    (pss_cons (ps_if (pt_cmpR op_eq (pv 2) pe_int (nomark _))
    (pss_one (ps_ret (pe_call G_w_great (hr.mono (by decide)) rfl T.g_w_great T.F_w_great.kp T.b_w_great .nil pass0 (pa_cons (pv 0) pa_nil))))
    pss_nil)
    (pss_one (ps_ret (pe_op op_sub (pe_op op_add (pe_op op_fdiv (pe_op op_mulG (pv 1) (pe_op op_add (pv 1) pe_int)) pe_int) (pe_op op_mod (pe_callTy call_int1 (by rfl) T.m_int (by decide +kernel) (pa_cons (pe_op op_add pe_int (pe_call G_w_draw (hr.mono (by decide)) rfl T.g_w_draw T.F_w_draw.kp T.b_w_draw .nil pass0 (pa_cons (pv 0) (pa_cons pe_int pa_nil)))) pa_nil)) pe_int)) pe_int))))), ?_⟩
    walk_at "start"
    walk_at "sts"
    have four : spDr [.ref a, .int 4] H Q E := r_dr hb (by omega) (by omega) fun r H2 r0 r1 k2 b2 => qq r H2 (by omega) (by omega) k2 b2
    refine r_ite (fun c1 => ?_) (fun c1 => ?_)
    · walk_at "sts"
      refine r_dr hb (by omega) (by omega) fun r H2 r0 r1 k2 b2 => qq r H2 (by omega) (by omega) k2 b2
    walk_at "sts"
    refine r_ite (fun c2 => ?_) (fun c2 => ?_)
    · walk_at "sts"
      refine r_dr hb (by omega) (by omega) fun r H2 r0 r1 k2 b2 => qq r H2 (by omega) (by omega) k2 b2
    walk_at "sts"
    refine r_ite (fun c3 => ?_) (fun c3 => ?_)
    · walk_at "sts"
      exact ⟨a, q, rfl, hb, fun r H2 r0 r1 k2 b2 => qq r H2 (by omega) r1 k2 b2⟩
    walk_at "sts"
    refine r_dr hb (by omega) (by omega) fun r H2 r0 r1 k2 b2 => ?_
    walk_at "sts"
    have h1 : 0 ≤ (6 + r) % 13 := Int.emod_nonneg _ (by decide)
    have h2 : (6 + r) % 13 < 13 := Int.emod_lt_of_pos _ (by decide)
    have h3 : 0 ≤ k * (k + 1) := Int.mul_nonneg k0 (by omega)
    have h4 : k * (k + 1) ≤ 30 * 31 := Int.mul_le_mul k30 (by omega) (by omega) (by omega)
    exact qq _ H2 (by omega) (by omega) k2 b2
end
/-! ### heads and tails -/
def strL (s : List Nat) : Str := ⟨s.toArray⟩
def lettersL : List Nat := "abcdefghijklmnopqrstuvwxyz".toList.map (·.toNat)
def signsL : List Nat := "abcdefghijklmnopqrstuvwxyz0123456789.".toList.map (·.toNat)
theorem strL_len {s : List Nat} : (strL s).length = s.length := by show (strL s).cps.size = _; simp [strL]
theorem strL_app {s t : List Nat} : strL s ++ strL t = strL (s ++ t) := by
  show (⟨(strL s).cps ++ (strL t).cps⟩ : Str) = _
  simp [strL]
theorem strL_inj {s t : List Nat} (h : strL s = strL t) : s = t := by
  have := congrArg (fun x : Str => x.cps.toList) h
  simpa [strL] using this
theorem join_one : ∀ ns : List Nat, Str.join (Str.ofString "") (ns.map fun c => strL [c]) = strL ns
  | [] => rfl
  | [c] => rfl
  | c :: d :: ns => by
    have ih := join_one (d :: ns)
    show strL [c] ++ Str.ofString "" ++ Str.join (Str.ofString "") ((d :: ns).map fun c => strL [c]) = _
    rw [ih, show (Str.ofString "" : Str) = strL [] from rfl, strL_app, strL_app]
    rfl
theorem signs_str : Str.ofString "abcdefghijklmnopqrstuvwxyz0123456789." = strL signsL := by decide +kernel
theorem r_pick {xs : List Nat} {r : Int} {H : Hp} {Q : VK} (hl : xs.length ≤ 100) (h0 : 0 ≤ r) (h1 : r < xs.length) (k : ∀ c, xs[r.toNat]? = some c → Q (.str (strL [c])) H) : rIxS (.str (strL xs)) (.int r) H Q := by
  obtain ⟨c, hc⟩ : ∃ c, xs[r.toNat]? = some c := ⟨_, List.getElem?_eq_getElem (by omega)⟩
  refine r_ixS (c := c) (le_size (by rw [strL_len]; omega)) ?_ (k c hc)
  show atI (strL xs).cps.toList r = some c
  rw [show (strL xs).cps.toList = xs by simp [strL]]
  unfold atI ixN
  rw [if_pos h0, if_pos h1]
  exact hc
theorem cut_tl {s : List Nat} (h : 1 ≤ s.length) : cutS (strL s) (some 1) none = strL (s.drop 1) := by
  have e1 : HT.sIx (strL s).length 0 (some 1) = 1 := by rw [strL_len]; simp [HT.sIx]; omega
  have e2 : HT.sIx (strL s).length (strL s).length none = s.length := by rw [strL_len]; simp [HT.sIx]
  unfold cutS
  rw [e1, e2]
  show (⟨_⟩ : Str) = ⟨_⟩
  simp only [strL]
  rw [List.take_of_length_le (by simp)]
theorem cut_end {s : List Nat} : cutS (strL s) (some (-1)) none = strL (s.drop (s.length - 1)) := by
  have e1 : HT.sIx (strL s).length 0 (some (-1)) = s.length - 1 := by rw [strL_len]; simp [HT.sIx]; omega
  have e2 : HT.sIx (strL s).length (strL s).length none = s.length := by rw [strL_len]; simp [HT.sIx]
  unfold cutS
  rw [e1, e2]
  show (⟨_⟩ : Str) = ⟨_⟩
  simp only [strL]
  rw [List.take_of_length_le (by simp)]
theorem cut_last {s : List Nat} : cutS (strL s) none (some (-1)) = strL s.dropLast := by
  have e1 : HT.sIx (strL s).length 0 none = 0 := by simp [HT.sIx]
  have e2 : HT.sIx (strL s).length (strL s).length (some (-1)) = s.length - 1 := by
    rw [strL_len]; simp [HT.sIx]; omega
  unfold cutS
  rw [e1, e2]
  show (⟨_⟩ : Str) = ⟨_⟩
  rw [List.dropLast_eq_take]
  simp [strL]
def sV (c : Nat) : V := .str (strL [c])
def HeadOk (h : List Nat) : Prop := h.length ≤ 6 ∧ (∀ c ∈ h, c ∈ signsL) ∧ ∀ c, h[0]? = some c → c ∈ lettersL
def TailOk (t : List Nat) : Prop := t.length ≤ 5 ∧ (∀ c ∈ t, c ∈ signsL) ∧ t.getLast? ≠ some 46
def EndsAt (H : Hp) (p : Addr) (h t : List Nat) : Prop := H p = some (.lst [.str (strL h), .str (strL t)])
def spEndsL : Sp := fun vs H Q _ => ∃ (a q : Addr), vs = [.ref a] ∧ BoxAt a q H ∧ ∀ (p : Addr) (h t : List Nat) (H' : Hp), HeadOk h → TailOk t → Keep [a, q] H H' → BoxAt a q H' → H p = none → EndsAt H' p h t → Q (.ref p) H'
section
variable {P : Program} {w : World} {K : PySem.W.Frag} {mg : Str → Option Value} {base : Heap}
theorem ok_lends (T : Tx K mg) (G_w_draw : FnOk P w K mg base CX0 1 T.f_w_draw T.fd_w_draw ["_law_box", "_law_size"] spDr) : FnOk P w K mg base CX0 2 T.f_w_ends T.fd_w_ends ["_law_box"] spEndsL := by
  refine T.F_w_ends.ok sc_w_ends (fun vs H Q E h => ?_) (fun cdv A outer s H vs Q E hr h => ?_)
  · obtain ⟨a, q, rfl, _⟩ := h; rfl
  · obtain ⟨a, q, rfl, hb, qq⟩ := h
    refine ⟨_, (pss_cons (ps_set (i := 1) sc_w_ends.nd rfl (Or.inr rfl) pe_str)
    (pss_cons (ps_set (i := 2) sc_w_ends.nd rfl (Or.inl rfl) (pe_bm PySem.F.plainAttrs_str PySem.F.slot_str_join PySem.F.type_str_join mt_join pe_str (pa_cons (pe_lc (own := [("_law_k", 3)]) (g := gName 3) (tt := tYes) rfl sc_w_ends.nd (pi_range1 rfl T.m_range (pa_cons (pe_call G_w_draw (hr.mono (by decide)) rfl T.g_w_draw T.F_w_draw.kp T.b_w_draw .nil pass0 (pa_cons (pv 0) (pa_cons pe_int pa_nil))) pa_nil)) (blkOk_by (own := [("_law_k", 3)]) (N := ["_law_box", "_law_signs", "_law_head", "_law_k", "_law_tail"]) (sc := defScope s_w_ends) (by decide +kernel)) (fun _ _ _ _ _ => pg_name (i := 3) sc_w_ends.nd rfl (Or.inl rfl)) (fun _ _ _ _ _ => pts_nil) (fun _ _ _ _ _ => (pe_ix ix_str (pv 1) (pe_call G_w_draw (hr.mono (by decide)) rfl T.g_w_draw T.F_w_draw.kp T.b_w_draw .nil pass0 (pa_cons (pv 0) (pa_cons pe_int pa_nil))) (fun _ _ => rfl)))) pa_nil)))
    (pss_cons (ps_set (i := 4) sc_w_ends.nd rfl (Or.inl rfl) (pe_bm PySem.F.plainAttrs_str PySem.F.slot_str_join PySem.F.type_str_join mt_join pe_str (pa_cons (pe_lc (own := [("_law_k", 3)]) (g := gName 3) (tt := tYes) rfl sc_w_ends.nd (pi_range1 rfl T.m_range (pa_cons (pe_call G_w_draw (hr.mono (by decide)) rfl T.g_w_draw T.F_w_draw.kp T.b_w_draw .nil pass0 (pa_cons (pv 0) (pa_cons pe_int pa_nil))) pa_nil)) (blkOk_by (own := [("_law_k", 3)]) (N := ["_law_box", "_law_signs", "_law_head", "_law_k", "_law_tail"]) (sc := defScope s_w_ends) (by decide +kernel)) (fun _ _ _ _ _ => pg_name (i := 3) sc_w_ends.nd rfl (Or.inl rfl)) (fun _ _ _ _ _ => pts_nil) (fun _ _ _ _ _ => (pe_ix ix_str (pv 1) (pe_call G_w_draw (hr.mono (by decide)) rfl T.g_w_draw T.F_w_draw.kp T.b_w_draw .nil pass0 (pa_cons (pv 0) (pa_cons pe_int pa_nil))) (fun _ _ => rfl)))) pa_nil)))
    (Evl.pss_cut (ps_if (pt_cmpR op_ne (pv 2) pe_str (nomark _))
    (pss_one (ps_set (i := 2) sc_w_ends.nd rfl (Or.inl rfl) (pe_op op_addS (pe_ix ix_str (pv 1) (pe_call G_w_draw (hr.mono (by decide)) rfl T.g_w_draw T.F_w_draw.kp T.b_w_draw .nil pass0 (pa_cons (pv 0) (pa_cons pe_int pa_nil))) (fun _ _ => rfl)) (pe_slice sl_str (pv 2) (po_some pe_int) po_none))))
    pss_nil)
    (Evl.pss_cut (ps_if (pt_cmpR op_eq (pe_slice sl_str (pv 4) (po_some (pe_un un_neg pe_int)) po_none) pe_str (nomark _))
    (pss_one (ps_set (i := 4) sc_w_ends.nd rfl (Or.inl rfl) (pe_op op_addS (pe_slice sl_str (pv 4) po_none (po_some (pe_un un_neg pe_int))) pe_str)))
    pss_nil)
    (pss_one (ps_ret (pe_lst (pa_cons (pv 2) (pa_cons (pv 4) pa_nil)))))))))), ?_⟩
    walk_at "start"
    walk_at "sts"
    refine ⟨rfl, ?_⟩
    walk_at "sts"
    refine r_dr hb (by omega) (by omega) fun nh Hah h0h h6h kah bah => ?_
    have kHh : Keep [a, q] H Hah := kah
    walk_at "sts"
    refine lcR1_go (fun D i acc H' => ∃ ns : List Nat, acc = ns.map sV ∧ ns.length = i ∧ (∀ x ∈ ns, x ∈ signsL) ∧ Keep [a, q] H H' ∧ BoxAt a q H' ∧ Hah D = none) (by omega) (fun D hD => ⟨[], rfl, rfl, by simp, kHh.trans ((show Keep [] Hah _ from Keep.new hD).mono (by simp)), bah.keep0 (Keep.new hD), hD⟩) ?_ ?_
    · rintro D i acc H2 hi hD ⟨ns, rfl, ln, hx, k2, b2, nD⟩
      simp only [L2.wipe, List.map_cons, List.map_nil, List.set_cons_zero, List.set_cons_succ]
      refine r_gName ?_
      simp only [List.set_cons_zero, List.set_cons_succ]
      refine ⟨trivial, ?_⟩
      refine r_yes ?_
      rw [if_pos rfl]
      walk_at "sts"
      refine r_dr b2 (by omega) (by omega) fun r H3 r0 r1 k3 b3 => ?_
      walk_at "sts"
      rw [signs_str]
      refine r_pick (by decide) r0 (show r < ((signsL.length : Nat) : Int) from by rw [show signsL.length = 37 by decide]; omega) fun c hc => ?_
      have nD2 := bah.ne nD
      have hD3 := k3 _ _ nD2 hD
      refine ⟨_, hD3, lt_size (by rw [List.length_map]; omega), _, upd_same, ns ++ [c], by rw [List.map_append]; rfl, by simp [ln], ?_, ?_, b3.put nD2, nD⟩
      · intro x hx2
        rcases List.mem_append.mp hx2 with h | h
        · exact hx x h
        · rw [List.mem_singleton.mp h]; exact List.mem_of_getElem? hc
      · exact (k2.trans k3).mut (kHh.free nD2 nD)
    rintro D acc H4 hD eD ⟨ns, rfl, ln, hxh, k4, b4, nD⟩
    have lnh : ns.length ≤ 6 := by omega
    walk_at "sts"
    have sum1 : ((ns.map fun c => strL [c]).map fun x => x.length).sum = ns.length := by
      clear ln hxh lnh eD
      induction ns with
      | nil => rfl
      | cons c ns ih => simp only [List.map_cons, List.sum_cons, ih, strL_len, List.length_cons, List.length_nil]; omega
    refine ⟨_, D, ns.map fun c => strL [c], rfl, rfl, .inl (sqL_of (by rw [eD]; unfold sV; rw [List.map_map]; rfl)), by rw [sum1, List.length_map]; have : (Str.ofString "").length = 0 := rfl; rw [this]; omega, ?_⟩
    rw [show Txt.join (Str.ofString "") (ns.map fun c => strL [c]) = strL ns from (PySem.StrLaws.glued_eq_join _ _).trans (join_one ns)]
    clear sum1 eD ln hD nD
    generalize ns = hs at hxh lnh ⊢
    clear ns kah bah kHh h0h h6h
    walk_at "sts"
    refine ⟨rfl, ?_⟩
    walk_at "sts"
    refine r_dr b4 (by omega) (by omega) fun nt Hat h0t h6t kat bat => ?_
    have kHt : Keep [a, q] H Hat := k4.trans kat
    walk_at "sts"
    refine lcR1_go (fun D i acc H' => ∃ ns : List Nat, acc = ns.map sV ∧ ns.length = i ∧ (∀ x ∈ ns, x ∈ signsL) ∧ Keep [a, q] H H' ∧ BoxAt a q H' ∧ Hat D = none) (by omega) (fun D hD => ⟨[], rfl, rfl, by simp, kHt.trans ((show Keep [] Hat _ from Keep.new hD).mono (by simp)), bat.keep0 (Keep.new hD), hD⟩) ?_ ?_
    · rintro D i acc H2 hi hD ⟨ns, rfl, ln, hx, k2, b2, nD⟩
      simp only [L2.wipe, List.map_cons, List.map_nil, List.set_cons_zero, List.set_cons_succ]
      refine r_gName ?_
      simp only [List.set_cons_zero, List.set_cons_succ]
      refine ⟨trivial, ?_⟩
      refine r_yes ?_
      rw [if_pos rfl]
      walk_at "sts"
      refine r_dr b2 (by omega) (by omega) fun r H3 r0 r1 k3 b3 => ?_
      walk_at "sts"
      rw [signs_str]
      refine r_pick (by decide) r0 (show r < ((signsL.length : Nat) : Int) from by rw [show signsL.length = 37 by decide]; omega) fun c hc => ?_
      have nD2 := bat.ne nD
      have hD3 := k3 _ _ nD2 hD
      refine ⟨_, hD3, lt_size (by rw [List.length_map]; omega), _, upd_same, ns ++ [c], by rw [List.map_append]; rfl, by simp [ln], ?_, ?_, b3.put nD2, nD⟩
      · intro x hx2
        rcases List.mem_append.mp hx2 with h | h
        · exact hx x h
        · rw [List.mem_singleton.mp h]; exact List.mem_of_getElem? hc
      · exact (k2.trans k3).mut (kHt.free nD2 nD)
    rintro D acc H5 hD eD ⟨ns, rfl, ln, hxt, k5, b5, nD⟩
    have lnt : ns.length ≤ 5 := by omega
    walk_at "sts"
    have sum1 : ((ns.map fun c => strL [c]).map fun x => x.length).sum = ns.length := by
      clear ln hxt lnt eD
      induction ns with
      | nil => rfl
      | cons c ns ih => simp only [List.map_cons, List.sum_cons, ih, strL_len, List.length_cons, List.length_nil]; omega
    refine ⟨_, D, ns.map fun c => strL [c], rfl, rfl, .inl (sqL_of (by rw [eD]; unfold sV; rw [List.map_map]; rfl)), by rw [sum1, List.length_map]; have : (Str.ofString "").length = 0 := rfl; rw [this]; omega, ?_⟩
    rw [show Txt.join (Str.ofString "") (ns.map fun c => strL [c]) = strL ns from (PySem.StrLaws.glued_eq_join _ _).trans (join_one ns)]
    clear sum1 eD ln hD nD
    generalize ns = ts at hxt lnt ⊢
    clear ns kat bat kHt h0t h6t
    walk_at "sts"
    clear b4 k4
    refine r_cut (fun σ' H' => ∃ (h : List Nat) (y3 : Option V), σ' = [some (.ref a), some (.str (strL signsL)), some (.str (strL h)), y3, some (.str (strL ts))] ∧ HeadOk h ∧ Keep [a, q] H H' ∧ BoxAt a q H') ?_ ?_
    · walk_at "sts"
      refine r_iteN (fun c1 => ?_) (fun c1 => ?_)
      · obtain ⟨c, hs', rfl⟩ : ∃ c hs', hs = c :: hs' := by
          cases hs with
          | nil => exact (c1 rfl).elim
          | cons c hs' => exact ⟨c, hs', rfl⟩
        walk_at "sts"
        refine r_dr b5 (by omega) (by omega) fun r H6 r0 r1 k6 b6 => ?_
        walk_at "sts"
        rw [signs_str]
        refine r_pick (by decide) r0 (show r < ((signsL.length : Nat) : Int) from by rw [show signsL.length = 37 by decide]; omega) fun x hx => ?_
        walk_at "sts"
        refine r_slS (le_size (by rw [strL_len]; omega)) ?_
        rw [cut_tl (by simp)]
        refine r_addS (le_size (by rw [strL_len, strL_len]; simp only [List.length_drop, List.length_cons, List.length_nil] at lnh ⊢; omega)) ?_
        rw [strL_app]
        walk_at "sts"
        refine ⟨x :: hs', _, by first | exact rfl | trivial, ⟨by simpa using lnh, fun z hz => ?_, fun z hz => ?_⟩, k5.trans k6, b6⟩
        · rcases List.mem_cons.mp hz with rfl | hz
          · exact List.mem_of_getElem? hx
          · exact hxh z (List.mem_cons_of_mem _ hz)
        · cases hz
          have : ∀ i : Nat, i < 26 → ∀ c, signsL[i]? = some c → c ∈ lettersL := by decide +kernel
          exact this r.toNat (by omega) x hx
      · have e0 : hs = [] := strL_inj c1
        subst e0
        walk_at "sts"
        exact ⟨[], _, by first | exact rfl | trivial, ⟨by simp, by simp, by simp⟩, k5, b5⟩
    clear b5 k5 hxh lnh
    rintro σ' H6 ⟨h, y3, rfl, hok, k6, b6⟩
    refine r_cut (fun σ' H' => ∃ (t : List Nat) (y3 : Option V), σ' = [some (.ref a), some (.str (strL signsL)), some (.str (strL h)), y3, some (.str (strL t))] ∧ TailOk t ∧ Keep [a, q] H H' ∧ BoxAt a q H') ?_ ?_
    · walk_at "sts"
      refine r_slS (le_size (by rw [strL_len]; omega)) ?_
      rw [cut_end]
      walk_at "sts"
      refine r_ite (fun c1 => ?_) (fun c1 => ?_)
      · walk_at "sts"
        refine r_slS (le_size (by rw [strL_len]; omega)) ?_
        rw [cut_last]
        walk_at "sts"
        rw [show (Str.ofString "z" : Str) = strL [122] from rfl]
        refine r_addS (le_size (by rw [strL_len, strL_len]; simp only [List.length_dropLast, List.length_cons, List.length_nil]; omega)) ?_
        rw [strL_app]
        walk_at "sts"
        have ne : ts ≠ [] := by rintro rfl; revert c1; exact fun h => absurd (strL_inj (t := [46]) h) (by decide)
        refine ⟨ts.dropLast ++ [122], _, by first | exact rfl | trivial, ⟨?_, fun z hz => ?_, by simp⟩, k6, b6⟩
        · have := List.length_pos_iff.mpr ne
          simp only [List.length_append, List.length_dropLast, List.length_cons, List.length_nil]; omega
        · rcases List.mem_append.mp hz with h | h
          · exact hxt z ((List.dropLast_sublist ts).subset h)
          · rw [List.mem_singleton.mp h]; decide
      · walk_at "sts"
        refine ⟨ts, _, by first | exact rfl | trivial, ⟨lnt, hxt, fun e => c1 ?_⟩, k6, b6⟩
        have ne : ts ≠ [] := by rintro rfl; cases e
        rw [show (Str.ofString "." : Str) = strL [46] from rfl]
        congr 1
        rw [List.getLast?_eq_some_getLast ne] at e
        have e2 := Option.some.inj e
        rw [← List.dropLast_concat_getLast ne, e2]
        simp
    rintro σ' H7 ⟨t, y3, rfl, tok, k7, b7⟩
    walk_at "sts"
    intro p hp
    have k8 : Keep [] H7 (upd H7 p (.lst [.str (strL h), .str (strL t)])) := Keep.new hp
    exact qq p h t _ hok tok (k7.trans (k8.mono (by simp))) (b7.keep0 k8) (k7.free (b7.ne hp) hp) upd_same
end
/-! ### fresh names -/
def freshL : List Nat := "abcdefghijklmnopqrstuvwxyz0123456789".toList.map (·.toNat)
theorem fresh_str : Str.ofString "abcdefghijklmnopqrstuvwxyz0123456789" = strL freshL := by decide +kernel
theorem cut_to {s : List Nat} {n : Nat} (h : n ≤ s.length) : cutS (strL s) none (some (n : Int)) = strL (s.take n) := by
  have e1 : HT.sIx (strL s).length 0 none = 0 := by simp [HT.sIx]
  have e2 : HT.sIx (strL s).length (strL s).length (some (n : Int)) = n := by
    rw [strL_len]; simp only [HT.sIx]; rw [if_neg (by omega)]; omega
  unfold cutS
  rw [e1, e2]
  show (⟨_⟩ : Str) = ⟨_⟩
  simp [strL]
theorem nodup_le {α : Type} [DecidableEq α] : ∀ {l xs : List α}, l.Nodup → (∀ x ∈ l, x ∈ xs) → l.length ≤ xs.length
  | [], _, _, _ => Nat.zero_le _
  | x :: l, xs, n, h => by
    have hx := h x (by simp)
    have := nodup_le (l := l) (xs := xs.erase x) (List.nodup_cons.mp n).2 fun y hy => (List.mem_erase_of_ne (fun e => (List.nodup_cons.mp n).1 (by rw [← e]; exact hy))).mpr (h y (by simp [hy]))
    rw [List.length_erase_of_mem hx] at this
    have := List.length_pos_of_mem hx
    rw [List.length_cons]; omega
theorem inV_n {s : List Nat} {us : List (List Nat)} : L2.inV (.str (strL s)) (us.map fun u => V.str (strL u)) = true ↔ s ∈ us := by
  unfold L2.inV
  rw [List.any_map, List.any_eq_true]
  constructor
  · rintro ⟨u, hu, e⟩
    have e2 : strL u = strL s := by simpa [Function.comp, L2.eqV] using e
    rw [← strL_inj e2]; exact hu
  · intro h; exact ⟨s, h, by simp [Function.comp, L2.eqV]⟩
theorem take_s {α : Type} {l : List α} {i : Nat} {x : α} (h : l[i]? = some x) : l.take (i + 1) = l.take i ++ [x] := by rw [List.take_add_one, h]; rfl
/-- the signs that are free -/
def freeL (h t : List Nat) (ns : List (List Nat)) (sg : List Nat) : List Nat := sg.filter fun c => !decide (h ++ [c] ++ t ∈ ns)
theorem free_pos {h t : List Nat} {ns : List (List Nat)} {sg : List Nat} (nd : sg.Nodup) (l : ns.length < sg.length) : 0 < (freeL h t ns sg).length := by
  rcases Nat.eq_zero_or_pos (freeL h t ns sg).length with e | e
  · exfalso
    have e0 := List.length_eq_zero_iff.mp e
    unfold freeL at e0
    rw [List.filter_eq_nil_iff] at e0
    have inj : (sg.map fun c => h ++ [c] ++ t).Nodup := List.Pairwise.map _ (fun a b (ne : a ≠ b) e => ne (by simpa using e)) nd
    have := nodup_le inj fun x hx => by
      obtain ⟨c, hc, rfl⟩ := List.mem_map.mp hx
      have := e0 c hc
      simpa using this
    rw [List.length_map] at this; omega
  · exact e
structure QName (s : List Nat) : Prop where
  l1 : 1 ≤ s.length
  l2 : s.length ≤ 12
  hd : ∀ c, s[0]? = some c → c ∈ lettersL
  la : s.getLast? ≠ some 46
  al : ∀ c ∈ s, c ∈ signsL
theorem sign_small : ∀ c ∈ signsL, c < 128 := by decide +kernel
theorem QName.ok {s : List Nat} (h : QName s) : L2.flatV (.str (strL s)) = true := rfl
def nV (s : List Nat) : V := .str (strL s)
def NamesAt (H : Hp) (p : Addr) (ns : List (List Nat)) : Prop := H p = some (.lst (ns.map nV))
def spFresh : Sp := fun vs H Q _ => ∃ (a q e tp : Addr) (h t : List Nat) (ns : List (List Nat)), vs = [.ref a, .ref e, .ref tp] ∧ BoxAt a q H ∧ EndsAt H e h t ∧ HeadOk h ∧ TailOk t ∧ NamesAt H tp ns ∧ ns.length ≤ 20 ∧ (∀ u ∈ ns, QName u) ∧ tp ∉ [a, q] ∧ e ∉ [a, q] ∧
  ∀ (s : List Nat) (H' : Hp), QName s → s ∉ ns → Keep [a, q] H H' → BoxAt a q H' → Q (.str (strL s)) H'
section
variable {P : Program} {w : World} {K : PySem.W.Frag} {mg : Str → Option Value} {base : Heap}
theorem ok_fresh (T : Tx K mg) (G_w_draw : FnOk P w K mg base CX0 1 T.f_w_draw T.fd_w_draw ["_law_box", "_law_size"] spDr) : FnOk P w K mg base CX0 2 T.f_w_fresh T.fd_w_fresh ["_law_box", "_law_ends_here", "_law_taken"] spFresh := by
  refine T.F_w_fresh.ok sc_w_fresh (fun vs H Q E h => ?_) (fun cdv A outer s H vs Q E hr h => ?_)
  · obtain ⟨a, q, e, tp, h, t, ns, rfl, _⟩ := h; rfl
  · obtain ⟨a, q, e, tp, h, t, ns, rfl, hb, ee, hok, tok, et, ln, hq, ntp, ne, qq⟩ := h
    have ee2 : H e = some (.lst [.str (strL h), .str (strL t)]) := ee
    refine ⟨_, (pss_cons (ps_set (i := 3) sc_w_fresh.nd rfl (Or.inl rfl) pe_str)
    (Evl.pss_cut (ps_if (pt_cmpR op_eq (pe_ix ix_list (pv 1) pe_int (fun _ _ => rfl)) pe_str (nomark _))
    (pss_one (ps_set (i := 3) sc_w_fresh.nd rfl (Or.inl rfl) (pe_slice sl_str (pv 3) po_none (po_some pe_int))))
    pss_nil)
    (pss_cons (ps_setLc (i := 4) (own := [("_law_sign", 5)]) (g := gName 5)  rfl sc_w_fresh.nd rfl rfl (sw_true rfl rfl rfl (by decide +kernel)) (pi_str (pv 3)) (blkOk_by (own := [("_law_sign", 5)]) (N := ["_law_box", "_law_ends_here", "_law_taken", "_law_signs", "_law_free", "_law_sign"]) (sc := defScope s_w_fresh) (by decide +kernel)) (fun _ _ _ _ _ => pg_name (i := 5) sc_w_fresh.nd rfl (Or.inl rfl)) (fun _ _ _ _ _ => pts_one (pt_cmpR (op_notIn_seqK (K := K) rfl) (pe_op op_addS (pe_op op_addS (pe_ix (ix_listK (K := K) rfl) (pv 1) pe_int (fun _ _ => rfl)) (pv 5)) (pe_ix (ix_listK (K := K) rfl) (pv 1) pe_int (fun _ _ => rfl))) (pv 2) (by rfl))) (fun _ _ _ _ _ => (pv 5)))
    (pss_one (ps_ret (pe_op op_addS (pe_op op_addS (pe_ix ix_list (pv 1) pe_int (fun _ _ => rfl)) (pe_ix ix_list (pv 4) (pe_call G_w_draw (hr.mono (by decide)) rfl T.g_w_draw T.F_w_draw.kp T.b_w_draw .nil pass0 (pa_cons (pv 0) (pa_cons (pe_callB call_len_seq (by rfl) T.m_len PySem.boot_len (pa_cons (pv 4) pa_nil)) pa_nil))) (fun _ _ => rfl))) (pe_ix ix_list (pv 1) pe_int (fun _ _ => rfl)))))))), ?_⟩
    walk_at "start"
    walk_at "sts"
    rw [fresh_str]
    refine r_cut (fun σ' H' => ∃ sg : List Nat, σ' = [some (.ref a), some (.ref e), some (.ref tp), some (.str (strL sg)), none, none] ∧ H' = H ∧ sg.Nodup ∧ 26 ≤ sg.length ∧ sg.length ≤ 36 ∧ (∀ c ∈ sg, c ∈ freshL) ∧ (h = [] → ∀ c ∈ sg, c ∈ lettersL)) ?_ ?_
    · walk_at "sts"
      refine r_ite (fun c1 => ?_) (fun c1 => ?_)
      · walk_at "sts"
        refine r_slS (le_size (by rw [strL_len]; decide)) ?_
        rw [show (26 : Int) = ((26 : Nat) : Int) from rfl, cut_to (by decide)]
        walk_at "sts"
        exact ⟨freshL.take 26, by first | exact rfl | trivial, rfl, by decide +kernel, by decide +kernel, by decide +kernel, fun c hc => List.mem_of_mem_take hc, fun _ => by decide +kernel⟩
      · walk_at "sts"
        exact ⟨freshL, by first | exact rfl | trivial, rfl, by decide +kernel, by decide +kernel, by decide +kernel, fun c hc => hc, fun e => (c1 (by rw [e]; rfl)).elim⟩
    rintro σ' H1 ⟨sg, rfl, rfl, nd, g26, g36, gf, gl⟩
    walk_at "sts"
    have etd : H1 tp = some (.lst (ns.map fun u => V.str (strL u))) := et
    have l1 := hok.1
    have l2 := tok.1
    have gs : ∀ x ∈ freshL, x ∈ signsL := by decide +kernel
    have mk : ∀ c ∈ sg, QName (h ++ [c] ++ t) := fun c hc => by
        refine ⟨by simp; omega, by simp; omega, fun x hx => ?_, ?_, fun x hx => ?_⟩
        · cases h with
          | nil => cases hx; exact gl rfl c hc
          | cons y h => exact hok.2.2 x hx
        · cases ht : t.getLast? with
          | none =>
            have e0 : t = [] := List.getLast?_eq_none_iff.mp ht
            subst e0
            have : ∀ x ∈ freshL, x ≠ 46 := by decide +kernel
            simpa using this c (gf c hc)
          | some z =>
            rw [List.getLast?_append, ht]
            have := tok.2.2
            rw [ht] at this
            simpa using this
        · rcases List.mem_append.mp hx with hx | hx
          · rcases List.mem_append.mp hx with hx | hx
            · exact hok.2.1 x hx
            · rw [List.mem_singleton.mp hx]; exact gs c (gf c hc)
          · exact tok.2.1 x hx
    refine lcS_go (fun D i acc H' => acc = (freeL h t ns (sg.take i)).map sV ∧ Keep [] H1 H' ∧ H1 D = none) (fun D hD => ⟨by simp [freeL], Keep.new hD, hD⟩) ?_ ?_
    · rintro D i c acc H2 hc hD ⟨rfl, k2, nD⟩
      have hc' : sg[i]? = some c := by simpa [strL] using hc
      have hi := (List.getElem?_eq_some_iff.mp hc').1
      have ee2' := k2 _ _ (by simp) ee2
      have et2 := k2 _ _ (by simp) etd
      have lf : (freeL h t ns (sg.take i)).length ≤ 36 := by
        have := List.length_filter_le (fun c => !decide (h ++ [c] ++ t ∈ ns)) (sg.take i)
        rw [List.length_take] at this
        unfold freeL; omega
      have l1 := hok.1
      have l2 := tok.1
      have step : freeL h t ns (sg.take (i + 1)) = freeL h t ns (sg.take i) ++ if decide (h ++ [c] ++ t ∈ ns) = true then [] else [c] := by
        unfold freeL
        rw [take_s hc', List.filter_append]
        congr 1
        by_cases e : h ++ [c] ++ t ∈ ns
        · rw [if_pos (decide_eq_true e), List.filter_cons_of_neg (by simp at e ⊢; exact e)]; rfl
        · rw [if_neg (by simp at e ⊢; exact e), List.filter_cons_of_pos (by simp at e ⊢; exact e)]; rfl
      walk_at "sts"
      rw [show (⟨#[c]⟩ : Str) = strL [c] from rfl]
      refine r_addS (le_size (by rw [strL_len, strL_len]; simp only [List.length_cons, List.length_nil]; omega)) ?_
      rw [strL_app]
      walk_at "sts"
      refine r_addS (le_size (by rw [strL_len, strL_len]; simp only [List.length_append, List.length_cons, List.length_nil]; omega)) ?_
      rw [strL_app]
      walk_at "sts"
      have fls : (ns.map fun u => V.str (strL u)).all L2.flatV = true := by
        rw [List.all_eq_true]
        intro x hx
        obtain ⟨u, hu, rfl⟩ := List.mem_map.mp hx
        exact (hq u hu).ok
      have qn := mk c (List.mem_of_getElem? hc')
      refine ⟨tp, _, rfl, .inl (sqL_of et2), qn.ok, fls, ?_⟩
      rw [if_pos rfl]
      refine ⟨_, rfl, ?_⟩
      by_cases e : h ++ [c] ++ t ∈ ns
      · rw [inV_n.mpr e, Bool.not_true, if_neg (by decide)]
        rw [if_pos (decide_eq_true e), List.append_nil] at step
        exact ⟨_, hD, by rw [step], k2, nD⟩
      · have e2 : L2.inV (.str (strL (h ++ [c] ++ t))) (ns.map fun u => V.str (strL u)) = false := by
          cases g : L2.inV (.str (strL (h ++ [c] ++ t))) (ns.map fun u => V.str (strL u)) with
          | false => rfl
          | true => exact (e (inV_n.mp g)).elim
        rw [e2, Bool.not_false, if_pos rfl]
        rw [if_neg (by rw [decide_eq_false e]; decide)] at step
        walk_at "sts"
        exact ⟨_, hD, lt_size (by rw [List.length_map]; omega), _, upd_same, by rw [step, List.map_append]; rfl, k2.mut nD, nD⟩
    · rintro D acc H2 hD eD ⟨rfl, k2, nD⟩
      rw [show (strL sg).cps.size = sg.length from strL_len, List.take_length] at eD
      walk_at "sts"
      have fp := free_pos (h := h) (t := t) nd (show ns.length < sg.length by omega)
      have lf : (freeL h t ns sg).length ≤ 36 := by
        have := List.length_filter_le (fun c => !decide (h ++ [c] ++ t ∈ ns)) sg
        unfold freeL; omega
      have b2 := hb.keep0 k2
      refine r_dr b2 (by rw [List.length_map]; omega) (by rw [List.length_map]; omega) fun r H3 r0 r1 k3 b3 => ?_
      rw [List.length_map] at r1
      have nDa : D ∉ [a, q] := hb.ne nD
      have eD3 := k3 _ _ nDa eD
      obtain ⟨c, hc⟩ : ∃ c, (freeL h t ns sg)[r.toNat]? = some c := ⟨_, List.getElem?_eq_getElem (by omega)⟩
      have hcm := List.mem_of_getElem? hc
      have hc2 : c ∈ sg ∧ h ++ [c] ++ t ∉ ns := by
        unfold freeL at hcm
        have := List.mem_filter.mp hcm
        exact ⟨this.1, by simpa using this.2⟩
      refine r_ixL (sqL_of eD3) (v := sV c) ?_ ?_
      · unfold atI ixN
        rw [List.length_map, if_pos r0, if_pos (by omega)]
        show ((freeL h t ns sg).map sV)[r.toNat]? = some (sV c)
        rw [List.getElem?_map, hc]; rfl
      have l1 := hok.1
      have l2 := tok.1
      unfold sV
      refine r_addS (le_size (by rw [strL_len, strL_len]; simp only [List.length_cons, List.length_nil]; omega)) ?_
      rw [strL_app]
      have ee3 : H3 e = some (.lst [.str (strL h), .str (strL t)]) := k3 _ _ ne (k2 _ _ (by simp) ee2)
      walk_at "sts"
      refine r_addS (le_size (by rw [strL_len, strL_len]; simp only [List.length_append, List.length_cons, List.length_nil]; omega)) ?_
      rw [strL_app]
      exact qq _ H3 (mk c hc2.1) hc2.2 (((show Keep [] H1 H2 from k2).mono (by simp)).trans k3) b3
end
/-! ### names -/
def spNames : Sp := fun vs H Q _ => ∃ (a q : Addr) (n : Nat), vs = [.ref a, .int n] ∧ BoxAt a q H ∧ n ≤ 20 ∧ ∀ (p : Addr) (ns : List (List Nat)) (H' : Hp), ns.length = n → ns.Nodup → (∀ u ∈ ns, QName u) → Keep [a, q] H H' → BoxAt a q H' → H p = none → NamesAt H' p ns → Q (.ref p) H'
section
variable {P : Program} {w : World} {K : PySem.W.Frag} {mg : Str → Option Value} {base : Heap}
theorem ok_names (T : Tx K mg) (G_w_draw : FnOk P w K mg base CX0 1 T.f_w_draw T.fd_w_draw ["_law_box", "_law_size"] spDr) (G_w_ends : FnOk P w K mg base CX0 2 T.f_w_ends T.fd_w_ends ["_law_box"] spEndsL) (G_w_fresh : FnOk P w K mg base CX0 2 T.f_w_fresh T.fd_w_fresh ["_law_box", "_law_ends_here", "_law_taken"] spFresh) : FnOk P w K mg base CX0 3 T.f_w_names T.fd_w_names ["_law_box", "_law_many"] spNames := by
  refine T.F_w_names.ok sc_w_names (fun vs H Q E h => ?_) (fun cdv A outer s H vs Q E hr h => ?_)
  · obtain ⟨a, q, n, rfl, _⟩ := h; rfl
  · obtain ⟨a, q, n, rfl, hb, n20, qq⟩ := h
    refine ⟨_, (pss_cons (ps_set (i := 2) sc_w_names.nd rfl (Or.inl rfl) (pe_cmpR op_eq (pe_call G_w_draw (hr.mono (by decide)) rfl T.g_w_draw T.F_w_draw.kp T.b_w_draw .nil pass0 (pa_cons (pv 0) (pa_cons pe_int pa_nil))) pe_int (nomark _)))
    (pss_cons (ps_set (i := 3) sc_w_names.nd rfl (Or.inl rfl) (pe_call G_w_ends (hr.mono (by decide)) rfl T.g_w_ends T.F_w_ends.kp T.b_w_ends .nil pass0 (pa_cons (pv 0) pa_nil)))
    (pss_cons (ps_set (i := 4) sc_w_names.nd rfl (Or.inl rfl) (pe_lst pa_nil))
    (pss_cons (ps_for PassesOwn.never rfl (pi_range1 rfl T.m_range (pa_cons (pv 1) pa_nil)) (pg_name (i := 5) sc_w_names.nd rfl (Or.inl rfl))
    (Evl.pss_cut (ps_if (PW.pt (pw_and (pt_cmpR op_gt (pv 5) pe_int (nomark _)) (pw_and1 (pt_not (pt_val (pv 2))))))
    (pss_one (ps_set (i := 3) sc_w_names.nd rfl (Or.inl rfl) (pe_call G_w_ends (hr.mono (by decide)) rfl T.g_w_ends T.F_w_ends.kp T.b_w_ends .nil pass0 (pa_cons (pv 0) pa_nil))))
    pss_nil)
    (pss_one (ps_expr (pe_bm PySem.F.plainAttrs_list PySem.F.slot_list_append PySem.F.type_list_append mt_append (pv 4) (pa_cons (pe_call G_w_fresh (hr.mono (by decide)) rfl T.g_w_fresh T.F_w_fresh.kp T.b_w_fresh .nil pass0 (pa_cons (pv 0) (pa_cons (pv 3) (pa_cons (pv 4) pa_nil)))) pa_nil))))))
    (pss_one (ps_ret (pv 4))))))), ?_⟩
    walk_at "start"
    walk_at "sts"
    refine r_dr hb (by omega) (by omega) fun al H1 a0 a2 k1 b1 => ?_
    walk_at "sts"
    refine ⟨a, q, rfl, b1, fun e h t H2 hok tok k2 b2 ne ee => ?_⟩
    walk_at "sts"
    intro l hl
    have k12 := k1.trans k2
    have nl := b2.ne hl
    have nlH : H l = none := k12.free nl hl
    have nel : e ≠ l := by rintro rfl; rw [ee] at hl; cases hl
    have ne2 : e ∉ [a, q] := b1.ne ne
    have k3 : Keep [] H2 (upd H2 l (.lst [])) := Keep.new hl
    have el : NamesAt (upd H2 l (.lst [])) l [] := upd_same
    have ee3 : EndsAt (upd H2 l (.lst [])) e h t := k3 _ _ (by simp) ee
    have b3 := b2.keep0 k3
    have k13 : Keep [a, q] H (upd H2 l (.lst [])) := k12.trans (k3.mono (by simp))
    generalize upd H2 l (.lst []) = H3 at el ee3 b3 k13 ⊢
    clear k1 k2 k12 k3 b1 b2 ee hl
    walk_at "sts"
    refine forR1_go (fun i σ' H' => ∃ (e : Addr) (h t : List Nat) (ns : List (List Nat)) (y5 : Option V), σ' = [some (.ref a), some (.int n), some (.bl (decide (al = 0))), some (.ref e), some (.ref l), y5] ∧ EndsAt H' e h t ∧ HeadOk h ∧ TailOk t ∧ e ∉ [a, q] ∧ e ≠ l ∧ NamesAt H' l ns ∧ ns.length = i ∧ ns.Nodup ∧ (∀ u ∈ ns, QName u) ∧ Keep [a, q] H H' ∧ BoxAt a q H') (by omega) ⟨e, h, t, [], _, by first | exact rfl | trivial, ee3, hok, tok, ne2, nel, el, rfl, by simp, by simp, k13, b3⟩ ?_ ?_
    · clear ee3 hok tok ne2 nel el k13 b3 ne
      rintro i σ' H4 hi ⟨e, h, t, ns, y5, rfl, ee, hok, tok, ne, nel, el, ln, nd, hq, k4, b4⟩
      walk_at "sts"
      refine r_cut (fun σ' H' => ∃ (e : Addr) (h t : List Nat), σ' = [some (.ref a), some (.int n), some (.bl (decide (al = 0))), some (.ref e), some (.ref l), some (.int i)] ∧ EndsAt H' e h t ∧ HeadOk h ∧ TailOk t ∧ e ∉ [a, q] ∧ e ≠ l ∧ NamesAt H' l ns ∧ Keep [a, q] H H' ∧ BoxAt a q H') ?_ ?_
      · walk_at "sts"
        refine r_ite (fun c1 => ?_) (fun c1 => ?_)
        case refine_2 =>
          walk_at "sts"
          exact ⟨e, h, t, by first | exact rfl | trivial, ee, hok, tok, ne, nel, el, k4, b4⟩
        walk_at "sts"
        refine r_iteN (fun c2 => ?_) (fun c2 => ?_)
        case refine_2 =>
          walk_at "sts"
          exact ⟨e, h, t, by first | exact rfl | trivial, ee, hok, tok, ne, nel, el, k4, b4⟩
        walk_at "sts"
        refine ⟨a, q, rfl, b4, fun e2 h2 t2 H5 hok2 tok2 k5 b5 n5 ee5 => ?_⟩
        walk_at "sts"
        have el5 : NamesAt H5 l ns := k5 _ _ nl el
        exact ⟨e2, h2, t2, by first | exact rfl | trivial, ee5, hok2, tok2, b4.ne n5, (by rintro rfl; rw [el] at n5; cases n5), el5, k4.trans k5, b5⟩
      clear ee hok tok ne nel el k4 b4
      rintro σ' H5 ⟨e, h, t, rfl, ee, hok, tok, ne, nel, el, k5, b5⟩
      walk_at "sts"
      refine ⟨a, q, e, l, h, t, ns, rfl, b5, ee, hok, tok, el, by omega, hq, nl, ne, fun s H6 qs ns6 k6 b6 => ?_⟩
      have el6 : H6 l = some (.lst (ns.map nV)) := k6 _ _ nl el
      have ee6 : EndsAt H6 e h t := k6 _ _ ne ee
      walk_at "sts"
      refine ⟨e, h, t, ns ++ [s], _, by first | exact rfl | trivial, by unfold EndsAt; rw [upd_ne nel]; exact ee6, hok, tok, ne, nel, ?_, by simp [ln], ?_, ?_, (k5.trans k6).mut nlH, b6.put nl⟩
      · unfold NamesAt; rw [upd_same, List.map_append]; rfl
      · exact List.nodup_append.mpr ⟨nd, by simp, fun x hx y hy e => ns6 (by rw [← List.mem_singleton.mp hy, ← e]; exact hx)⟩
      · intro u hu
        rcases List.mem_append.mp hu with h | h
        · exact hq u h
        · rw [List.mem_singleton.mp h]; exact qs
    · rintro σ' H4 ⟨e, h, t, ns, y5, rfl, ee, hok, tok, ne, nel, el, ln, nd, hq, k4, b4⟩
      walk_at "sts"
      exact qq l ns H4 (by omega) nd hq k4 b4 nlH el
end
/-! ### rows -/
structure Row where
  fst : List Nat
  snd : List Nat
  cnt : Int
def rHO (r : Row) : HO := .tup [.str (strL r.fst), .str (strL r.snd), .int r.cnt]
structure RowOk (r : Row) : Prop where
  q1 : QName r.fst
  q2 : QName r.snd
  ne : r.fst ≠ r.snd
  c0 : 0 ≤ r.cnt
  c1 : r.cnt < 10 ^ 32
def RowsAt (H : Hp) (p : Addr) (rs : List Row) : Prop := ∃ as : List Addr, H p = some (.lst (as.map V.ref)) ∧ AllAt rHO H as rs
theorem BoxAt.nt {a q p : Addr} {H : Hp} {xs : List V} (h : BoxAt a q H) (n : H p = some (.tup xs)) : p ∉ [a, q] := by
  obtain ⟨ns, x, s, m, e1, e2, _⟩ := h
  simp only [List.mem_cons, List.not_mem_nil, or_false, not_or]
  constructor
  · rintro rfl; rw [e1] at n; cases n
  · rintro rfl; rw [e2] at n; cases n
theorem RowsAt.keepB {H H' : Hp} {a q p : Addr} {rs : List Row} (h : RowsAt H p rs) (b : BoxAt a q H) (k : Keep [a, q] H H') (n : p ∉ [a, q]) : RowsAt H' p rs := by
  obtain ⟨as, e, g⟩ := h
  exact ⟨as, k _ _ n e, g.mono fun x c _ _ hx => k _ _ (b.nt hx) hx⟩
theorem atI_at {α : Type} {xs : List α} {i : Int} {x : α} (h0 : 0 ≤ i) (h : xs[i.toNat]? = some x) : atI xs i = some x := by
  have := (List.getElem?_eq_some_iff.mp h).1
  unfold atI ixN
  rw [if_pos h0, if_pos (by omega)]
  exact h
def rD (r : Row) : PyData := .tuple [.str (strL r.fst), .str (strL r.snd), .int r.cnt]
theorem dp_r {K : PySem.W.Frag} {H : Hp} : ∀ {as : List Addr} {rs : List Row}, AllAt rHO H as rs → DpAll K H (as.map V.ref) (rs.map rD)
  | [], [], _ => .nil
  | _ :: _, _ :: _, h => .cons (.tup (sqT_of h.1) (.cons (.str _) (.cons (.str _) (.cons (.int _) .nil)))) (dp_r h.2)
  | [], _ :: _, h => h.elim
  | _ :: _, [], h => h.elim
theorem QName.sok {s : List Nat} (h : QName s) : PyData.strOk (strL s) = true := by
  unfold PyData.strOk
  rw [← Array.all_toList, List.all_eq_true]
  intro c hc
  have hc2 : c ∈ s := by simpa [strL] using hc
  have := (by decide +kernel : ∀ c ∈ signsL, c < 0x110000) c (h.al c hc2)
  simpa using this
theorem lay_r : ∀ {rs : List Row}, (∀ r ∈ rs, RowOk r) → PyData.canLayAll0 (rs.map rD) = true ∧ PyData.depthAll (rs.map rD) ≤ 1
  | [], _ => by simp [PyData.canLayAll0, PyData.depthAll]
  | r :: rs, h => by
    have ih := lay_r (rs := rs) fun z hz => h z (List.mem_cons_of_mem _ hz)
    have e := h r (List.mem_cons_self ..)
    refine ⟨?_, ?_⟩
    · have := ih.1
      simp [PyData.canLayAll0, rD, PyData.canLay0, e.q1.sok, e.q2.sok, this]
    · have := ih.2
      simp [rD, PyData.depthAll, PyData.depth]
      omega
theorem shaped_r {rs : List Row} (h : ∀ r ∈ rs, RowOk r) : SeqAt.shaped (.list (rs.map rD)) = true := by
  have := lay_r h
  unfold SeqAt.shaped
  simp [PyData.canLay0, PyData.depth, this.1]
  omega
theorem r_neNilR {K : PySem.W.Frag} {H : Hp} {Q : VK} {p q : Addr} {rs : List Row} (hp : RowsAt H p rs) (hr : ∀ r ∈ rs, RowOk r) (hq : H q = some (.lst [])) (k : Q (.bl (!decide (rs = []))) H) : rNeD K (.ref p) (.ref q) H Q := by
  obtain ⟨as, e, g⟩ := hp
  refine ⟨_, _, .lst (sqL_of e) (dp_r g), .lst (sqL_of hq) .nil, shaped_r hr, by decide, ?_⟩
  rw [eqvL]
  cases rs with
  | nil => exact k
  | cons r rs => exact k
theorem AllAt.setA {α : Type} {f : α → HO} {H : Hp} {u : Addr} {y : α} (hu : H u = some (f y)) : ∀ {as : List Addr} {xs : List α} (j : Nat), AllAt f H as xs → AllAt f H (as.set j u) (xs.set j y)
  | [], [], _, _ => trivial
  | _ :: _, _ :: _, 0, h => ⟨hu, h.2⟩
  | _ :: _, _ :: _, j + 1, h => ⟨h.1, AllAt.setA hu j h.2⟩
  | [], _ :: _, _, h => h.elim
  | _ :: _, [], _, h => h.elim
def spRows : Sp := fun vs H Q _ => ∃ (a q : Addr), vs = [.ref a] ∧ BoxAt a q H ∧ ∀ (p : Addr) (rs : List Row) (H' : Hp), rs.length ≤ 10 → (∀ r ∈ rs, RowOk r) → Keep [a, q] H H' → BoxAt a q H' → H p = none → RowsAt H' p rs → Q (.ref p) H'
section
variable {P : Program} {w : World} {K : PySem.W.Frag} {mg : Str → Option Value} {base : Heap}
theorem ok_rows (T : Tx K mg) (G_w_draw : FnOk P w K mg base CX0 1 T.f_w_draw T.fd_w_draw ["_law_box", "_law_size"] spDr) (G_w_names : FnOk P w K mg base CX0 3 T.f_w_names T.fd_w_names ["_law_box", "_law_many"] spNames) (G_w_level : FnOk P w K mg base CX0 3 T.f_w_level T.fd_w_level ["_law_box", "_law_k", "_law_way"] spLevel) (G_w_great : FnOk P w K mg base CX0 2 T.f_w_great T.fd_w_great ["_law_box"] spGreat) : FnOk P w K mg base CX0 4 T.f_w_rows T.fd_w_rows ["_law_box"] spRows := by
  refine T.F_w_rows.ok sc_w_rows (fun vs H Q E h => ?_) (fun cdv A outer s H vs Q E hr h => ?_)
  · obtain ⟨a, q, rfl, _⟩ := h; rfl
  · obtain ⟨a, q, rfl, hb, qq⟩ := h
    refine ⟨_, (pss_cons (ps_set (i := 1) sc_w_rows.nd rfl (Or.inl rfl) (pe_op op_add pe_int (pe_op op_mod (pe_callTy call_int1 (by rfl) T.m_int (by decide +kernel) (pa_cons (pe_op op_add pe_int (pe_call G_w_draw (hr.mono (by decide)) rfl T.g_w_draw T.F_w_draw.kp T.b_w_draw .nil pass0 (pa_cons (pv 0) (pa_cons pe_int pa_nil)))) pa_nil)) pe_int)))
    (pss_cons (ps_set (i := 2) sc_w_rows.nd rfl (Or.inl rfl) (pe_op op_mod (pe_callTy call_int1 (by rfl) T.m_int (by decide +kernel) (pa_cons (pe_op op_add pe_int (pe_call G_w_draw (hr.mono (by decide)) rfl T.g_w_draw T.F_w_draw.kp T.b_w_draw .nil pass0 (pa_cons (pv 0) (pa_cons pe_int pa_nil)))) pa_nil)) pe_int))
    (pss_cons (ps_set (i := 3) sc_w_rows.nd rfl (Or.inl rfl) (pe_call G_w_draw (hr.mono (by decide)) rfl T.g_w_draw T.F_w_draw.kp T.b_w_draw .nil pass0 (pa_cons (pv 0) (pa_cons pe_int pa_nil))))
    (Evl.pss_cut (ps_if (PW.pt (pw_or (pt_cmpR op_eq (pv 3) pe_int (nomark _)) (pw_or1 (pt_cmpR op_eq (pv 3) pe_int (nomark _)))))
    (pss_one (ps_set (i := 1) sc_w_rows.nd rfl (Or.inl rfl) (pe_op op_add pe_int (pe_call G_w_draw (hr.mono (by decide)) rfl T.g_w_draw T.F_w_draw.kp T.b_w_draw .nil pass0 (pa_cons (pv 0) (pa_cons pe_int pa_nil))))))
    pss_nil)
    (Evl.pss_cut (ps_if (PW.pt (pw_or (pt_cmpR op_eq (pv 3) pe_int (nomark _)) (pw_or1 (pt_cmpR op_eq (pv 3) pe_int (nomark _)))))
    (pss_one (ps_set (i := 2) sc_w_rows.nd rfl (Or.inl rfl) (pe_op op_add pe_int (pe_call G_w_draw (hr.mono (by decide)) rfl T.g_w_draw T.F_w_draw.kp T.b_w_draw .nil pass0 (pa_cons (pv 0) (pa_cons pe_int pa_nil))))))
    pss_nil)
    (pss_cons (ps_set (i := 4) sc_w_rows.nd rfl (Or.inl rfl) (pe_call G_w_names (hr.mono (by decide)) rfl T.g_w_names T.F_w_names.kp T.b_w_names .nil pass0 (pa_cons (pv 0) (pa_cons (pv 1) pa_nil))))
    (pss_cons (ps_set (i := 5) sc_w_rows.nd rfl (Or.inr rfl) (pe_call G_w_draw (hr.mono (by decide)) rfl T.g_w_draw T.F_w_draw.kp T.b_w_draw .nil pass0 (pa_cons (pv 0) (pa_cons pe_int pa_nil))))
    (pss_cons (ps_setLc (i := 6) (own := [("_law_k", 7)]) (g := gName 7) (tt := tYes) rfl sc_w_rows.nd rfl rfl (sw_true rfl rfl rfl (by decide +kernel)) (pi_range1 rfl T.m_range (pa_cons (pv 1) pa_nil)) (blkOk_by (own := [("_law_k", 7)]) (N := ["_law_box", "_law_many", "_law_size", "_law_large", "_law_names_here", "_law_way", "_law_levels", "_law_k", "_law_rows_here", "_law_first", "_law_second", "_law_count", "_law_at"]) (sc := defScope s_w_rows) (by decide +kernel)) (fun _ _ _ _ _ => pg_name (i := 7) sc_w_rows.nd rfl (Or.inl rfl)) (fun _ _ _ _ _ => pts_nil) (fun _ _ _ _ _ => (pe_call G_w_level (hr.mono (by decide)) rfl T.g_w_level T.F_w_level.kp T.b_w_level .nil pass0 (pa_cons (pv 0) (pa_cons (pv 7) (pa_cons (pv 5) pa_nil))))))
    (pss_cons (ps_set (i := 8) sc_w_rows.nd rfl (Or.inl rfl) (pe_lst pa_nil))
    (Evl.pss_cut (ps_for PassesOwn.never rfl (pi_range1 rfl T.m_range (pa_cons (pv 2) pa_nil)) (pg_name (i := 7) sc_w_rows.nd rfl (Or.inl rfl))
    (pss_cons (ps_set (i := 9) sc_w_rows.nd rfl (Or.inl rfl) (pe_op op_mod (pe_callTy call_int1 (by rfl) T.m_int (by decide +kernel) (pa_cons (pe_op op_add (pv 7) (pe_call G_w_draw (hr.mono (by decide)) rfl T.g_w_draw T.F_w_draw.kp T.b_w_draw .nil pass0 (pa_cons (pv 0) (pa_cons (pv 1) pa_nil)))) pa_nil)) (pv 1)))
    (pss_cons (ps_set (i := 10) sc_w_rows.nd rfl (Or.inl rfl) (pe_op op_mod (pe_callTy call_int1 (by rfl) T.m_int (by decide +kernel) (pa_cons (pe_op op_add (pe_op op_add (pv 9) pe_int) (pe_call G_w_draw (hr.mono (by decide)) rfl T.g_w_draw T.F_w_draw.kp T.b_w_draw .nil pass0 (pa_cons (pv 0) (pa_cons (pe_op op_sub (pv 1) pe_int) pa_nil)))) pa_nil)) (pv 1)))
    (pss_cons (ps_set (i := 11) sc_w_rows.nd rfl (Or.inl rfl) (pe_callB call_abs (by rfl) T.m_abs (by decide +kernel) (pa_cons (pe_op op_sub (pe_ix ix_list (pv 6) (pv 10) (fun _ _ => rfl)) (pe_ix ix_list (pv 6) (pv 9) (fun _ _ => rfl))) pa_nil)))
    (Evl.pss_cut (ps_if (pt_cmpR op_eq (pv 5) pe_int (nomark _))
    (pss_one (ps_set (i := 11) sc_w_rows.nd rfl (Or.inl rfl) (pe_call G_w_draw (hr.mono (by decide)) rfl T.g_w_draw T.F_w_draw.kp T.b_w_draw .nil pass0 (pa_cons (pv 0) (pa_cons pe_int pa_nil)))))
    pss_nil)
    (Evl.pss_cut (ps_if (pt_cmpR op_eq (pv 5) pe_int (nomark _))
    (pss_one (ps_set (i := 11) sc_w_rows.nd rfl (Or.inl rfl) (pe_op op_add (pe_op op_mul (pe_call G_w_great (hr.mono (by decide)) rfl T.g_w_great T.F_w_great.kp T.b_w_great .nil pass0 (pa_cons (pv 0) pa_nil)) pe_int) (pe_call G_w_draw (hr.mono (by decide)) rfl T.g_w_draw T.F_w_draw.kp T.b_w_draw .nil pass0 (pa_cons (pv 0) (pa_cons pe_int pa_nil))))))
    pss_nil)
    (pss_one (ps_expr (pe_bm PySem.F.plainAttrs_list PySem.F.slot_list_append PySem.F.type_list_append mt_append (pv 8) (pa_cons (pe_tup (pa_cons (pe_ix ix_list (pv 4) (pv 9) (fun _ _ => rfl)) (pa_cons (pe_ix ix_list (pv 4) (pv 10) (fun _ _ => rfl)) (pa_cons (pv 11) pa_nil)))) pa_nil))))))))))
    (pss_cons (ps_if (PW.pt (pw_and (pt_cmpR op_eq (pv 5) pe_int (nomark _)) (pw_and1 (pt_cmpR (op_neD hr.units) (pv 8) (pe_lst pa_nil) (nomark _)))))
    (pss_cons (ps_set (i := 12) sc_w_rows.nd rfl (Or.inl rfl) (pe_call G_w_draw (hr.mono (by decide)) rfl T.g_w_draw T.F_w_draw.kp T.b_w_draw .nil pass0 (pa_cons (pv 0) (pa_cons (pv 2) pa_nil))))
    (pss_one (ps_asg (pe_tup (pa_cons (pe_ix ix_tup (pe_ix ix_list (pv 8) (pv 12) (fun _ _ => rfl)) pe_int (fun _ _ => rfl)) (pa_cons (pe_ix ix_tup (pe_ix ix_list (pv 8) (pv 12) (fun _ _ => rfl)) pe_int (fun _ _ => rfl)) (pa_cons (pe_op op_add (pe_op op_add (pe_ix ix_tup (pe_ix ix_list (pv 8) (pv 12) (fun _ _ => rfl)) pe_int (fun _ _ => rfl)) pe_int) (pe_call G_w_draw (hr.mono (by decide)) rfl T.g_w_draw T.F_w_draw.kp T.b_w_draw .nil pass0 (pa_cons (pv 0) (pa_cons pe_int pa_nil)))) pa_nil)))) (pg_sub (pv 8) (pv 12) set_list))))
    pss_nil)
    (pss_one (ps_ret (pv 8)))))))))))))), ?_⟩
    walk_at "start"
    walk_at "sts"
    refine r_dr hb (by omega) (by omega) fun d1 H1 a1 c1 k1 b1 => ?_
    walk_at "sts"
    refine r_dr b1 (by omega) (by omega) fun d2 H2 a2 c2 k2 b2 => ?_
    walk_at "sts"
    refine r_dr b2 (by omega) (by omega) fun d3 H3 a3 c3 k3 b3 => ?_
    walk_at "sts"
    have k13 := k1.trans (k2.trans k3)
    clear k1 k2 b1 b2 k3
    refine r_cut (fun σ' H' => ∃ m : Int, σ' = [some (.ref a), some (.int m), some (.int ((4 + d2) % 7)), some (.int d3), none, none, none, none, none, none, none, none, none] ∧ 2 ≤ m ∧ m ≤ 20 ∧ Keep [a, q] H H' ∧ BoxAt a q H') ?_ ?_
    · have g0 : 0 ≤ (1 + d1) % 6 := Int.emod_nonneg _ (by decide)
      have g1 : (1 + d1) % 6 < 6 := Int.emod_lt_of_pos _ (by decide)
      have go : spDr [.ref a, .int 13] H3 (fun v H' => True) E := r_dr b3 (by omega) (by omega) fun r H4 r0 r1 k4 b4 => trivial
      clear go
      walk_at "sts"
      refine r_ite (fun c1 => ?_) (fun c1 => ?_)
      · walk_at "sts"
        refine r_dr b3 (by omega) (by omega) fun r H4 r0 r1 k4 b4 => ?_
        walk_at "sts"
        exact ⟨_, by first | exact rfl | trivial, by omega, by omega, k13.trans k4, b4⟩
      · walk_at "sts"
        refine r_ite (fun c2 => ?_) (fun c2 => ?_)
        · walk_at "sts"
          refine r_dr b3 (by omega) (by omega) fun r H4 r0 r1 k4 b4 => ?_
          walk_at "sts"
          exact ⟨_, by first | exact rfl | trivial, by omega, by omega, k13.trans k4, b4⟩
        · walk_at "sts"
          exact ⟨_, by first | exact rfl | trivial, by omega, by omega, k13, b3⟩
    clear b3 k13
    rintro σ' H4 ⟨m, rfl, m2, m20, k4, b4⟩
    refine r_cut (fun σ' H' => ∃ z : Int, σ' = [some (.ref a), some (.int m), some (.int z), some (.int d3), none, none, none, none, none, none, none, none, none] ∧ 0 ≤ z ∧ z ≤ 10 ∧ Keep [a, q] H H' ∧ BoxAt a q H') ?_ ?_
    · have g0 : 0 ≤ (4 + d2) % 7 := Int.emod_nonneg _ (by decide)
      have g1 : (4 + d2) % 7 < 7 := Int.emod_lt_of_pos _ (by decide)
      walk_at "sts"
      refine r_ite (fun c1 => ?_) (fun c1 => ?_)
      · walk_at "sts"
        refine r_dr b4 (by omega) (by omega) fun r H5 r0 r1 k5 b5 => ?_
        walk_at "sts"
        exact ⟨_, by first | exact rfl | trivial, by omega, by omega, k4.trans k5, b5⟩
      · walk_at "sts"
        refine r_ite (fun c2 => ?_) (fun c2 => ?_)
        · walk_at "sts"
          refine r_dr b4 (by omega) (by omega) fun r H5 r0 r1 k5 b5 => ?_
          walk_at "sts"
          exact ⟨_, by first | exact rfl | trivial, by omega, by omega, k4.trans k5, b5⟩
        · walk_at "sts"
          exact ⟨_, by first | exact rfl | trivial, by omega, by omega, k4, b4⟩
    clear b4 k4
    rintro σ' H4 ⟨z, rfl, z0, z10, k4, b4⟩
    obtain ⟨mn, rfl⟩ : ∃ mn : Nat, m = (mn : Int) := ⟨m.toNat, by omega⟩
    walk_at "sts"
    refine ⟨a, q, mn, rfl, b4, by omega, fun np ns H5 ln nd hq k5 b5 nn en => ?_⟩
    have k15 := k4.trans k5
    have nnp := b4.ne nn
    have nnH : H np = none := k4.free nnp nn
    walk_at "sts"
    refine r_dr b5 (by omega) (by omega) fun way H6 w0 w1 k6 b6 => ?_
    have en6 : NamesAt H6 np ns := k6 _ _ nnp en
    have k16 := k15.trans k6
    clear k4 k5 k6 b4 b5 k15 en nn
    walk_at "sts"
    refine lcR1_go (fun D i acc H' => ∃ ls : List Int, acc = ls.map V.int ∧ ls.length = i ∧ (∀ x ∈ ls, -1000 ≤ x ∧ x < 10 ^ 27) ∧ Keep [a, q] H6 H' ∧ BoxAt a q H' ∧ H6 D = none) (by omega) (fun D hD => ⟨[], rfl, rfl, by simp, (show Keep [] H6 _ from Keep.new hD).mono (by simp), b6.keep0 (Keep.new hD), hD⟩) ?_ ?_
    · rintro D i acc H7 hi hD ⟨ls, rfl, ll, hx, k7, b7, nD⟩
      simp only [L2.wipe, List.map_cons, List.map_nil, List.set_cons_zero, List.set_cons_succ]
      refine r_gName ?_
      simp only [List.set_cons_zero, List.set_cons_succ]
      refine ⟨trivial, ?_⟩
      refine r_yes ?_
      rw [if_pos rfl]
      walk_at "sts"
      refine ⟨a, q, i, way, rfl, b7, by omega, by omega, fun r H8 r0 r1 k8 b8 => ?_⟩
      have nD2 := b6.ne nD
      have hD8 := k8 _ _ nD2 hD
      refine ⟨_, hD8, lt_size (by rw [List.length_map]; omega), _, upd_same, ls ++ [r], by simp, by simp [ll], ?_, (k7.trans k8).mut nD, b8.put nD2, nD⟩
      intro x hx2
      rcases List.mem_append.mp hx2 with h | h
      · exact hx x h
      · rw [List.mem_singleton.mp h]; exact ⟨r0, r1⟩
    rintro lp acc H7 nlp0 elp ⟨ls, rfl, ll, hls, k7, b7, _⟩
    rw [Int.toNat_natCast] at ll
    have nlp := b6.ne nlp0
    have nlpH : H lp = none := k16.free nlp nlp0
    have en7 : NamesAt H7 np ns := k7 _ _ nnp en6
    have nnlp : np ≠ lp := by rintro rfl; rw [en6] at nlp0; cases nlp0
    have k17 := k16.trans k7
    clear en6 k16 k7 b6 nlp0
    walk_at "sts"
    intro rp nrp0
    have nrp := b7.ne nrp0
    have nrpH : H rp = none := k17.free nrp nrp0
    have k8 : Keep [] H7 (upd H7 rp (.lst [])) := Keep.new nrp0
    have erp : upd H7 rp (.lst []) rp = some (.lst (([] : List Addr).map V.ref)) := upd_same
    have en8 : NamesAt (upd H7 rp (.lst [])) np ns := k8 _ _ (by simp) en7
    have elp8 := k8 _ _ (by simp) elp
    have b8 := b7.keep0 k8
    have k18 : Keep [a, q] H (upd H7 rp (.lst [])) := k17.trans (k8.mono (by simp))
    have nnr : np ≠ rp := by rintro rfl; rw [en7] at nrp0; cases nrp0
    have nlr : lp ≠ rp := by rintro rfl; rw [elp] at nrp0; cases nrp0
    generalize upd H7 rp (.lst []) = H8 at erp en8 elp8 b8 k18 ⊢
    clear k8 b7 k17 en7 elp nrp0
    walk_at "sts"
    refine r_cut (fun σ' H' => ∃ (rs : List Row) (y7 y9 y10 y11 : Option V), σ' = [some (.ref a), some (.int mn), some (.int z), some (.int d3), some (.ref np), some (.int way), some (.ref lp), y7, some (.ref rp), y9, y10, y11, none] ∧ rs.length ≤ 10 ∧ rs.length = z.toNat ∧ (∀ r ∈ rs, RowOk r ∧ r.cnt < 10 ^ 31) ∧ NamesAt H' np ns ∧ H' lp = some (.lst (ls.map V.int)) ∧ RowsAt H' rp rs ∧ Keep [a, q] H H' ∧ BoxAt a q H') ?_ ?_
    · walk_at "sts"
      refine forR1_go (fun i σ' H' => ∃ (rs : List Row) (y7 y9 y10 y11 : Option V), σ' = [some (.ref a), some (.int mn), some (.int z), some (.int d3), some (.ref np), some (.int way), some (.ref lp), y7, some (.ref rp), y9, y10, y11, none] ∧ rs.length = i ∧ (∀ r ∈ rs, RowOk r ∧ r.cnt < 10 ^ 31) ∧ NamesAt H' np ns ∧ H' lp = some (.lst (ls.map V.int)) ∧ RowsAt H' rp rs ∧ Keep [a, q] H H' ∧ BoxAt a q H') (by omega) ⟨[], _, _, _, _, by first | exact rfl | trivial, rfl, by simp, en8, elp8, ⟨[], erp, trivial⟩, k18, b8⟩ ?_ ?_
      · clear en8 elp8 erp k18 b8
        rintro i σ' H9 hi ⟨rs, y7, y9, y10, y11, rfl, lr, hr, en, el, er, k9, b9⟩
        walk_at "sts"
        refine r_dr b9 (by omega) (by omega) fun r1 H10 r10 r11 k10 b10 => ?_
        walk_at "sts"
        have f0 : 0 ≤ ((i : Int) + r1) % (mn : Int) := Int.emod_nonneg _ (by omega)
        have f1 : ((i : Int) + r1) % (mn : Int) < (mn : Int) := Int.emod_lt_of_pos _ (by omega)
        generalize ((i : Int) + r1) % (mn : Int) = f at f0 f1 ⊢
        refine r_dr b10 (by omega) (by omega) fun r2 H11 r20 r21 k11 b11 => ?_
        walk_at "sts"
        have s0 : 0 ≤ (f + 1 + r2) % (mn : Int) := Int.emod_nonneg _ (by omega)
        have s1 : (f + 1 + r2) % (mn : Int) < (mn : Int) := Int.emod_lt_of_pos _ (by omega)
        have sf : (f + 1 + r2) % (mn : Int) ≠ f := by
          by_cases hh : f + 1 + r2 < (mn : Int)
          · rw [Int.emod_eq_of_lt (by omega) hh]; omega
          · rw [show f + 1 + r2 = (f + 1 + r2 - mn) + mn by omega, Int.add_emod_right, Int.emod_eq_of_lt (by omega) (by omega)]; omega
        generalize (f + 1 + r2) % (mn : Int) = sn at s0 s1 sf ⊢
        have k1011 := k10.trans k11
        have en2 : NamesAt H11 np ns := k1011 _ _ nnp en
        have el2 := k1011 _ _ nlp el
        have er2 : RowsAt H11 rp rs := (er.keepB b9 k10 nrp).keepB b10 k11 nrp
        have k2 := k9.trans k1011
        clear b9 b10 k9 k10 k11 k1011 en el er
        obtain ⟨lf, hlf⟩ : ∃ x, ls[f.toNat]? = some x := ⟨_, List.getElem?_eq_getElem (by omega)⟩
        obtain ⟨lsn, hlsn⟩ : ∃ x, ls[sn.toNat]? = some x := ⟨_, List.getElem?_eq_getElem (by omega)⟩
        have bf := hls lf (List.mem_of_getElem? hlf)
        have bsn := hls lsn (List.mem_of_getElem? hlsn)
        obtain ⟨nf, hnf⟩ : ∃ x, ns[f.toNat]? = some x := ⟨_, List.getElem?_eq_getElem (by omega)⟩
        obtain ⟨nsn, hnsn⟩ : ∃ x, ns[sn.toNat]? = some x := ⟨_, List.getElem?_eq_getElem (by omega)⟩
        have nne : nf ≠ nsn := fun e => by
          have := (List.getElem?_inj (List.getElem?_eq_some_iff.mp hnf).1 nd).mp (hnf.trans (by rw [hnsn, e]))
          omega
        refine r_ixL (sqL_of el2) (atI_at s0 (by rw [List.getElem?_map, hlsn]; rfl)) ?_
        walk_at "sts"
        rw [show ls.getD f.toNat 0 = lf by rw [List.getD_eq_getElem?_getD, hlf]; rfl]
        generalize hcn : (((lsn - lf).natAbs : Nat) : Int) = cn
        have cn0 : 0 ≤ cn ∧ cn < 10 ^ 31 := by rw [← hcn]; omega
        clear hcn
        refine r_cut (fun σ' H' => ∃ cn : Int, σ' = [some (.ref a), some (.int mn), some (.int z), some (.int d3), some (.ref np), some (.int way), some (.ref lp), some (.int i), some (.ref rp), some (.int f), some (.int sn), some (.int cn), none] ∧ 0 ≤ cn ∧ cn < 10 ^ 31 ∧ NamesAt H' np ns ∧ H' lp = some (.lst (ls.map V.int)) ∧ RowsAt H' rp rs ∧ Keep [a, q] H H' ∧ BoxAt a q H') ?_ ?_
        · walk_at "sts"
          refine r_ite (fun c1 => ?_) (fun c1 => ?_)
          · walk_at "sts"
            refine r_dr b11 (by omega) (by omega) fun r3 H12 r30 r31 k12 b12 => ?_
            walk_at "sts"
            exact ⟨_, by first | exact rfl | trivial, by omega, by omega, k12 _ _ nnp en2, k12 _ _ nlp el2, er2.keepB b11 k12 nrp, k2.trans k12, b12⟩
          · walk_at "sts"
            exact ⟨_, by first | exact rfl | trivial, cn0.1, cn0.2, en2, el2, er2, k2, b11⟩
        clear en2 el2 er2 k2 b11 cn0
        rintro σ' H12 ⟨cn, rfl, cn0, cn1, en2, el2, er2, k2, b12⟩
        refine r_cut (fun σ' H' => ∃ cn : Int, σ' = [some (.ref a), some (.int mn), some (.int z), some (.int d3), some (.ref np), some (.int way), some (.ref lp), some (.int i), some (.ref rp), some (.int f), some (.int sn), some (.int cn), none] ∧ 0 ≤ cn ∧ cn < 10 ^ 31 ∧ NamesAt H' np ns ∧ H' lp = some (.lst (ls.map V.int)) ∧ RowsAt H' rp rs ∧ Keep [a, q] H H' ∧ BoxAt a q H') ?_ ?_
        · walk_at "sts"
          refine r_ite (fun c1 => ?_) (fun c1 => ?_)
          · walk_at "sts"
            refine ⟨a, q, rfl, b12, fun g H13 g0 g1 k13 b13 => ?_⟩
            walk_at "sts"
            refine r_dr b13 (by omega) (by omega) fun r3 H14 r30 r31 k14 b14 => ?_
            walk_at "sts"
            exact ⟨_, by first | exact rfl | trivial, by omega, by omega, (k13.trans k14) _ _ nnp en2, (k13.trans k14) _ _ nlp el2, (er2.keepB b12 k13 nrp).keepB b13 k14 nrp, k2.trans (k13.trans k14), b14⟩
          · walk_at "sts"
            exact ⟨_, by first | exact rfl | trivial, cn0, cn1, en2, el2, er2, k2, b12⟩
        clear en2 el2 er2 k2 b12 cn0 cn1
        rintro σ' H13 ⟨cn, rfl, cn0, cn1, en2, el2, ⟨as, er2, har⟩, k2, b13⟩
        have lar := har.len
        walk_at "sts"
        refine r_ixL (sqL_of (show H13 np = some (.lst (ns.map nV)) from en2)) (atI_at f0 (by rw [List.getElem?_map, hnf]; rfl)) ?_
        walk_at "sts"
        refine r_ixL (sqL_of (show H13 np = some (.lst (ns.map nV)) from en2)) (atI_at s0 (by rw [List.getElem?_map, hnsn]; rfl)) ?_
        unfold nV
        walk_at "sts"
        intro u hu
        have nua : u ∉ [a, q] := b13.ne hu
        have k14 : Keep [] H13 (upd H13 u (.tup [.str (strL nf), .str (strL nsn), .int cn])) := Keep.new hu
        have eu : upd H13 u (.tup [.str (strL nf), .str (strL nsn), .int cn]) u = some (rHO ⟨nf, nsn, cn⟩) := upd_same
        have er14 := k14 _ _ (by simp) er2
        have har14 := har.keep0 k14
        have en14 : NamesAt _ np ns := k14 _ _ (by simp) en2
        have el14 := k14 _ _ (by simp) el2
        have b14 := b13.keep0 k14
        have k214 : Keep [a, q] H _ := k2.trans (k14.mono (by simp))
        generalize upd H13 u (.tup [.str (strL nf), .str (strL nsn), .int cn]) = H14 at k14 eu er14 har14 en14 el14 b14 k214 ⊢
        clear k14 er2 har en2 el2 b13 k2 hu
        walk_at "sts"
        refine ⟨rs ++ [⟨nf, nsn, cn⟩], _, _, _, _, by first | exact rfl | trivial, by simp [lr], ?_, ?_, ?_, ⟨as ++ [u], by rw [upd_same, List.map_append]; rfl, ?_⟩, k214.mut nrpH, b14.put nrp⟩
        · intro r hr2
          rcases List.mem_append.mp hr2 with h | h
          · exact hr r h
          · rw [List.mem_singleton.mp h]
            exact ⟨⟨hq nf (List.mem_of_getElem? hnf), hq nsn (List.mem_of_getElem? hnsn), nne, cn0, by show cn < 10 ^ 32; omega⟩, cn1⟩
        · unfold NamesAt; rw [upd_ne nnr]; exact en14
        · rw [upd_ne nlr]; exact el14
        · exact (har14.app (bs := [u]) (ys := [⟨nf, nsn, cn⟩]) ⟨eu, trivial⟩).mono (H' := upd H14 rp _) fun x c _ _ hx => (upd_ne (by rintro rfl; rw [er14] at hx; cases hx)).trans hx
      · rintro σ' H9 ⟨rs, y7, y9, y10, y11, rfl, lr, hr, en, el, er, k9, b9⟩
        exact ⟨rs, _, _, _, _, by first | exact rfl | trivial, by omega, lr, hr, en, el, er, k9, b9⟩
    clear en8 elp8 erp k18 b8
    rintro σ' H9 ⟨rs, y7, y9, y10, y11, rfl, lr, lz, hr, en, el, ⟨as, er, har⟩, k9, b9⟩
    have lar := har.len
    have hr' : ∀ r ∈ rs, RowOk r := fun r h => (hr r h).1
    walk_at "sts"
    have done : RowsAt H9 rp rs := ⟨as, er, har⟩
    refine r_ite (fun c1 => ?_) (fun c1 => ?_)
    case refine_2 =>
      walk_at "sts"
      exact qq rp rs H9 lr hr' k9 b9 nrpH done
    walk_at "sts"
    intro p hp
    have k10 : Keep [] H9 (upd H9 p (.lst [])) := Keep.new hp
    have er10 := k10 _ _ (by simp) er
    have har10 := har.keep0 k10
    have b10 := b9.keep0 k10
    have k910 : Keep [a, q] H _ := k9.trans (k10.mono (by simp))
    refine r_neNilR (⟨as, er10, har10⟩ : RowsAt _ rp rs) hr' upd_same ?_
    generalize upd H9 p (.lst []) = H10 at k10 er10 har10 b10 k910 ⊢
    clear k10 er har b9 k9 done hp
    walk_at "sts"
    refine r_iteN (fun c2 => ?_) (fun c2 => ?_)
    case refine_2 =>
      walk_at "sts"
      exact qq rp rs H10 lr hr' k910 b10 nrpH ⟨as, er10, har10⟩
    have rp0 : 0 < rs.length := List.length_pos_iff.mpr c2
    walk_at "sts"
    refine r_dr b10 (by omega) (by omega) fun at_ H11 g0 g1 k11 b11 => ?_
    have er11 := k11 _ _ nrp er10
    have har11 : AllAt rHO H11 as rs := har10.mono fun x c _ _ hx => k11 _ _ (b10.nt hx) hx
    have k911 := k910.trans k11
    clear er10 har10 b10 k910 k11
    obtain ⟨x, hx⟩ : ∃ x, as[at_.toNat]? = some x := ⟨_, List.getElem?_eq_getElem (by omega)⟩
    obtain ⟨r, hr2, ex⟩ := har11.get hx
    have ex2 : H11 x = some (.tup [.str (strL r.fst), .str (strL r.snd), .int r.cnt]) := ex
    have hix : atI (as.map V.ref) at_ = some (.ref x) := atI_at g0 (by rw [List.getElem?_map, hx]; rfl)
    walk_at "sts"
    refine r_dr b11 (by omega) (by omega) fun g H12 g2 g3 k12 b12 => ?_
    have hrr := hr r (List.mem_of_getElem? hr2)
    have er12 := k12 _ _ nrp er11
    have har12 : AllAt rHO H12 as rs := har11.mono fun x c _ _ hx => k12 _ _ (b11.nt hx) hx
    have k912 := k911.trans k12
    clear er11 har11 b11 k911 k12 ex ex2
    walk_at "sts"
    intro u hu
    have k13 : Keep [] H12 (upd H12 u (.tup [.str (strL r.fst), .str (strL r.snd), .int (r.cnt + 1 + g)])) := Keep.new hu
    have eu : upd H12 u (.tup [.str (strL r.fst), .str (strL r.snd), .int (r.cnt + 1 + g)]) u = some (rHO ⟨r.fst, r.snd, r.cnt + 1 + g⟩) := upd_same
    have er13 := k13 _ _ (by simp) er12
    have har13 := har12.keep0 k13
    have b13 := b12.keep0 k13
    have k913 : Keep [a, q] H _ := k912.trans (k13.mono (by simp))
    generalize upd H12 u (.tup [.str (strL r.fst), .str (strL r.snd), .int (r.cnt + 1 + g)]) = H13 at k13 eu er13 har13 b13 k913 ⊢
    clear k13 er12 har12 b12 k912 hu
    walk_at "sts"
    have mem : ∀ y ∈ rs.set at_.toNat ⟨r.fst, r.snd, r.cnt + 1 + g⟩, RowOk y := fun y hy => by
      rcases List.mem_or_eq_of_mem_set hy with h | rfl
      · exact hr' y h
      · have := hrr.1.c0
        have := hrr.2
        exact ⟨hrr.1.q1, hrr.1.q2, hrr.1.ne, by show 0 ≤ r.cnt + 1 + g; omega, by show r.cnt + 1 + g < 10 ^ 32; omega⟩
    refine qq rp _ _ (by rw [List.length_set]; exact lr) mem (k913.mut nrpH) (b13.put nrp) nrpH ⟨as.set at_.toNat u, by rw [upd_same, List.map_set], ?_⟩
    exact (AllAt.setA eu at_.toNat har13).mono (H' := upd H13 rp _) fun x c _ _ hx => (upd_ne (by rintro rfl; rw [er13] at hx; cases hx)).trans hx
end
/-! ### quantities, rows checked, the other end -/
theorem signs_in : ∀ c ∈ signsL, c ∈ (Str.ofString "abcdefghijklmnopqrstuvwxyz.0123456789").cps.toList := by decide +kernel
theorem letters_in : ∀ c ∈ lettersL, c ∈ (Str.ofString "abcdefghijklmnopqrstuvwxyz").cps.toList := by decide +kernel
def spIsQ : Sp := fun vs H Q _ => ∃ s : List Nat, vs = [.str (strL s)] ∧ QName s ∧ ∀ H', Keep [] H H' → Q (.bl true) H'
def spCheckRow : Sp := fun vs H Q _ => ∃ r : Row, vs = [.str (strL r.fst), .str (strL r.snd), .int r.cnt] ∧ RowOk r ∧ ∀ H', Keep [] H H' → Q .non H'
def oSL : Option (List Nat) → V
  | some s => .str (strL s)
  | none => .non
def acrossL (r : Row) (s : List Nat) : Option (List Nat) := if s = r.fst then some r.snd else if s = r.snd then some r.fst else none
def spAcross : Sp := fun vs H Q _ => ∃ (p : Addr) (r : Row) (s : List Nat), vs = [.ref p, .str (strL s)] ∧ H p = some (rHO r) ∧ Q (oSL (acrossL r s)) H
theorem atI_m1 {α : Type} {xs : List α} {c : α} (h : xs.getLast? = some c) : atI xs (-1) = some c := by
  have hne : xs ≠ [] := by rintro rfl; simp at h
  have hl : 0 < xs.length := List.length_pos_iff.mpr hne
  unfold atI ixN
  rw [if_neg (by decide), if_pos (by omega)]
  show xs[((-1 : Int) + xs.length).toNat]? = some c
  rw [show ((-1 : Int) + xs.length).toNat = xs.length - 1 by omega, ← List.getLast?_eq_getElem?]
  exact h
theorem strL_tl {s : List Nat} : (strL s).cps.toList = s := by simp [strL]
theorem one_ne {c d : Nat} (h : c ≠ d) : (⟨#[c]⟩ : Str) ≠ ⟨#[d]⟩ := fun e => h (by simpa using congrArg Str.cps e)
theorem r_gTup3 {K : PySem.W.Frag} {σ : L2.St} {H : Hp} {p : Addr} {x y z : V} {i j l : Nat} {Q : L2.St → Hp → Prop} (h : SqT K H p [x, y, z]) (k : Q (((σ.set i (some x)).set j (some y)).set l (some z)) H) : gTup K 3 (gCons (gName i) (gCons (gName j) (gCons (gName l) gNil))) (.ref p) σ H Q :=
  ⟨p, [x, y, z], rfl, h, rfl, x, [y, z], rfl, y, [z], rfl, z, [], rfl, rfl, k⟩
section
variable {P : Program} {w : World} {K : PySem.W.Frag} {mg : Str → Option Value} {base : Heap}
theorem ok_isQ (T : Tx K mg) : FnOk P w K mg base CX0 1 T.f_is_quantity T.fd_is_quantity ["text"] spIsQ := by
  refine T.F_is_quantity.ok sc_is_quantity (fun vs H Q E h => ?_) (fun cdv A outer s H vs Q E hr h => ?_)
  · obtain ⟨a, rfl, _⟩ := h; rfl
  · obtain ⟨t, rfl, hq, q⟩ := h
    have hp := hq.l1
    have hl := hq.l2
    have ln : (strL t).length = t.length := strL_len
    have hz : (strL t).length ≤ sizeLine := le_size (by omega)
    obtain ⟨c0, hc0⟩ : ∃ c, t[0]? = some c := ⟨_, List.getElem?_eq_getElem (by omega)⟩
    obtain ⟨c1, hc1⟩ : ∃ c, t.getLast? = some c := ⟨_, List.getLast?_eq_some_getLast (List.length_pos_iff.mp (by omega))⟩
    have hm1 : c1 ≠ 46 := by rintro rfl; exact hq.la hc1
    refine ⟨_, (pss_cons (ps_if (PW.pt (pw_or (pt_not (pt_val (pe_callB call_isi (by rfl) T.m_isinstance (by decide +kernel) (pa_cons (pv 0) (pa_cons (pe_bltn (v := .ty "str") (by rfl) T.m_str (by decide +kernel) rfl) pa_nil))))) (pw_or1 (pt_not (pt_chain op_le op_le pe_int (pe_callB call_len_str (by rfl) T.m_len PySem.boot_len (pa_cons (pv 0) pa_nil)) (pe_glob (v := .int (12)) rfl T.c_LONGEST_QUANTITY.choose_spec ⟨_, rfl⟩))))))
    (pss_one (ps_ret pe_bl))
    pss_nil)
    (pss_cons (ps_if (PW.pt (pw_or (pt_cmpR op_ninSg (pe_ix ix_str (pv 0) pe_int (fun _ _ => rfl)) (pe_glob (v := .str "abcdefghijklmnopqrstuvwxyz") rfl T.c_LETTERS.choose_spec ⟨_, rfl⟩) (by rfl)) (pw_or1 (pt_cmpR op_eq (pe_ix ix_str (pv 0) (pe_un un_neg pe_int) (fun _ _ => rfl)) pe_str (nomark _)))))
    (pss_one (ps_ret pe_bl))
    pss_nil)
    (pss_one (ps_ret (pe_callB (cr_all rfl) (by rfl) T.m_all (by decide +kernel) (pa_cons (pe_lc (own := [("sign", 1)]) (g := gName 1) (tt := tYes) rfl sc_is_quantity.nd (pi_str (pv 0)) (blkOk_by (own := [("sign", 1)]) (N := ["text", "sign"]) (sc := defScope s_is_quantity) (by decide +kernel)) (fun _ _ _ _ _ => pg_name (i := 1) sc_is_quantity.nd rfl (Or.inl rfl)) (fun _ _ _ _ _ => pts_nil) (fun _ _ _ _ _ => (pe_cmpR op_inSg (pv 1) (pe_glob (v := .str "abcdefghijklmnopqrstuvwxyz.0123456789") rfl T.c_QUANTITY_SIGNS.choose_spec ⟨_, rfl⟩) (by rfl)))) pa_nil)))))), ?_⟩
    walk_at "start"
    walk_at "sts"
    refine ⟨hz, ?_⟩
    walk_at "sts"
    refine r_ixS hz (atI_nat (j := 0) (by rw [strL_tl]; exact hc0)) ?_
    walk_at "sts"
    refine r_iteNF (by exact letters_in c0 (hq.hd c0 hc0)) ?_
    walk_at "sts"
    refine r_ixS hz (atI_m1 (by rw [strL_tl]; exact hc1)) ?_
    walk_at "sts"
    refine r_iteF (one_ne hm1) ?_
    walk_at "sts"
    refine lcS_go (fun D i acc H' => acc = List.replicate i (V.bl true) ∧ Keep [] H H' ∧ H D = none) (fun D hD => ⟨rfl, Keep.new hD, hD⟩) ?_ ?_
    · rintro D i c acc H' hc hD ⟨rfl, hk, hn⟩
      have hc' : c ∈ signsL := hq.al c (by have := Array.mem_toList_iff.mpr (Array.mem_of_getElem? hc); rwa [strL_tl] at this)
      walk_at "sts"
      rw [show decide (c ∈ (Str.ofString "abcdefghijklmnopqrstuvwxyz.0123456789").cps.toList) = true from decide_eq_true (signs_in c hc')]
      have h1 := (Array.getElem?_eq_some_iff.mp hc).1
      have h2 : (strL t).cps.size = (strL t).length := rfl
      exact lc_put hD (by rw [List.length_replicate]; exact lt_size (by omega)) ⟨by rw [← List.replicate_succ'], hk.mut hn, hn⟩
    · rintro D acc H' hD hD' ⟨rfl, hk, hn⟩
      walk_at "sts"
      refine r_all (bs := List.replicate (strL t).cps.size true) (by rw [List.map_replicate]; exact sqL_of hD') ?_
      rw [show (List.replicate (strL t).cps.size true).all id = true by simp]
      exact q _ hk
theorem ok_check_row (T : Tx K mg) (G_is_quantity : FnOk P w K mg base CX0 1 T.f_is_quantity T.fd_is_quantity ["text"] spIsQ) : FnOk P w K mg base CX0 2 T.f_check_row T.fd_check_row ["first", "second", "count"] spCheckRow := by
  refine T.F_check_row.ok sc_check_row (fun vs H Q E h => ?_) (fun cdv A outer s H vs Q E hr h => ?_)
  · obtain ⟨r, rfl, _⟩ := h; rfl
  · obtain ⟨r, rfl, ok, qq⟩ := h
    have c0 := ok.c0
    refine ⟨_, PSs.nox (pss_cons (ps_if (pt_not (pt_val (pe_call G_is_quantity (hr.mono (by decide)) rfl T.g_is_quantity T.F_is_quantity.kp T.b_is_quantity .nil pass0 (pa_cons (pv 0) pa_nil))))
    (pss_one ps_never)
    pss_nil)
    (pss_cons (ps_if (pt_not (pt_val (pe_call G_is_quantity (hr.mono (by decide)) rfl T.g_is_quantity T.F_is_quantity.kp T.b_is_quantity .nil pass0 (pa_cons (pv 1) pa_nil))))
    (pss_one ps_never)
    pss_nil)
    (pss_cons (ps_if (pt_cmpR op_eq (pv 0) (pv 1) (nomark _))
    (pss_one ps_never)
    pss_nil)
    (pss_one (ps_if (pt_cmpR op_lt (pv 2) pe_int (nomark _))
    (pss_one ps_never)
    pss_nil))))), ?_⟩
    walk_at "start"
    walk_at "sts"
    refine ⟨r.fst, rfl, ok.q1, fun H1 k1 => ?_⟩
    walk_at "sts"
    refine ⟨r.snd, rfl, ok.q2, fun H2 k2 => ?_⟩
    walk_at "sts"
    first | exact qq _ (k1.trans k2) | (refine r_iteF (fun e => ok.ne (strL_inj e)) ?_; walk_at "sts"; first | exact qq _ (k1.trans k2) | (refine r_iteF (by omega) ?_; walk_at "sts"; exact qq _ (k1.trans k2)))
theorem ok_across (T : Tx K mg) : FnOk P w K mg base CX0 1 T.f_across T.fd_across ["row", "name"] spAcross := by
  refine T.F_across.ok sc_across (fun vs H Q E h => ?_) (fun cdv A outer s H vs Q E hr h => ?_)
  · obtain ⟨p, r, s, rfl, _⟩ := h; rfl
  · obtain ⟨p, r, s, rfl, ep, qq⟩ := h
    refine ⟨_, (pss_cons (ps_asg (pv 0) (pg_tup (n := 3) rfl (pgs_cons (pg_name (i := 2) sc_across.nd rfl (Or.inl rfl)) (pgs_cons (pg_name (i := 3) sc_across.nd rfl (Or.inl rfl)) (pgs_cons (pg_name (i := 4) sc_across.nd rfl (Or.inl rfl)) pgs_nil)))))
    (pss_cons (ps_if (pt_cmpR op_eq (pv 1) (pv 2) (nomark _))
    (pss_one (ps_ret (pv 3)))
    pss_nil)
    (pss_one (ps_ret (pe_ifExp (pt_cmpR op_eq (pv 1) (pv 3) (nomark _)) (pv 2) pe_non))))), ?_⟩
    walk_at "start"
    walk_at "sts"
    refine r_gTup3 (sqT_of ep) ?_
    simp only [List.set_cons_zero, List.set_cons_succ]
    unfold acrossL at qq
    walk_at "sts"
    refine r_ite (fun c1 => ?_) (fun c1 => ?_)
    · rw [if_pos (strL_inj c1)] at qq
      walk_at "sts"
      exact qq
    · rw [if_neg (fun e => c1 (by rw [e]))] at qq
      walk_at "sts"
      refine r_ite (fun c2 => ?_) (fun c2 => ?_)
      · rw [if_pos (strL_inj c2)] at qq
        walk_at "sts"
        exact qq
      · rw [if_neg (fun e => c2 (by rw [e]))] at qq
        walk_at "sts"
        exact qq
end
/-! ### the law's own quantities -/
theorem getRef {as : List Addr} {i : Nat} {x : V} (h : (as.map V.ref)[i]? = some x) : ∃ a, as[i]? = some a ∧ x = .ref a := by
  rw [List.getElem?_map] at h
  obtain ⟨a, ha, rfl⟩ := Option.map_eq_some_iff.mp h
  exact ⟨a, ha, rfl⟩
def addN (ns : List (List Nat)) (s : List Nat) : List (List Nat) := if s ∈ ns then ns else ns ++ [s]
def rowN (ns : List (List Nat)) (r : Row) : List (List Nat) := addN (addN ns r.fst) r.snd
theorem addN_mem {ns : List (List Nat)} {s x : List Nat} : x ∈ addN ns s ↔ x ∈ ns ∨ x = s := by
  unfold addN; split
  · constructor
    · exact .inl
    · rintro (h | rfl) <;> assumption
  · simp
theorem addN_nodup {ns : List (List Nat)} {s : List Nat} (h : ns.Nodup) : (addN ns s).Nodup := by
  unfold addN; split
  · exact h
  · rename_i n
    exact List.nodup_append.mpr ⟨h, by simp, fun a ha b hb e => n (by rw [← List.mem_singleton.mp hb, ← e]; exact ha)⟩
theorem addN_len {ns : List (List Nat)} {s : List Nat} : (addN ns s).length ≤ ns.length + 1 := by unfold addN; split <;> simp
theorem rowN_mem {x : List Nat} : ∀ {rs : List Row} {ns : List (List Nat)}, x ∈ rs.foldl rowN ns ↔ x ∈ ns ∨ ∃ r ∈ rs, x = r.fst ∨ x = r.snd
  | [], ns => by simp
  | r :: rs, ns => by
    rw [List.foldl_cons, rowN_mem]
    unfold rowN
    rw [addN_mem, addN_mem]
    simp only [List.mem_cons, exists_eq_or_imp, or_assoc]
theorem rowN_nodup : ∀ {rs : List Row} {ns : List (List Nat)}, ns.Nodup → (rs.foldl rowN ns).Nodup
  | [], _, h => h
  | _ :: rs, _, h => rowN_nodup (rs := rs) (addN_nodup (addN_nodup h))
theorem rowN_len : ∀ {rs : List Row} {ns : List (List Nat)}, (rs.foldl rowN ns).length ≤ ns.length + 2 * rs.length
  | [], ns => by simp
  | r :: rs, ns => by
    rw [List.foldl_cons]
    have := rowN_len (rs := rs) (ns := rowN ns r)
    have := addN_len (ns := ns) (s := r.fst)
    have := addN_len (ns := addN ns r.fst) (s := r.snd)
    unfold rowN at *
    simp only [List.length_cons]; omega
def IsNames (rs : List Row) (ns : List (List Nat)) : Prop := ns.Nodup ∧ (∀ x, x ∈ ns ↔ ∃ r ∈ rs, x = r.fst ∨ x = r.snd) ∧ sortedS (ns.map strL) = true
def spQuantities : Sp := fun vs H Q _ => ∃ (p : Addr) (rs : List Row), vs = [.ref p] ∧ RowsAt H p rs ∧ rs.length ≤ 10 ∧ (∀ r ∈ rs, RowOk r) ∧ ∀ (q : Addr) (ns : List (List Nat)) (H' : Hp), Keep [] H H' → H q = none → NamesAt H' q ns → IsNames rs ns → Q (.ref q) H'
section
variable {P : Program} {w : World} {K : PySem.W.Frag} {mg : Str → Option Value} {base : Heap}
theorem ok_quantities (T : Tx K mg) : FnOk P w K mg base CX0 1 T.f_w_quantities T.fd_w_quantities ["_law_rows_here"] spQuantities := by
  refine T.F_w_quantities.ok sc_w_quantities (fun vs H Q E h => ?_) (fun cdv A outer s H vs Q E hr h => ?_)
  · obtain ⟨p, rs, rfl, _⟩ := h; rfl
  · obtain ⟨p, rs, rfl, ⟨as, er, har⟩, l10, hok, qq⟩ := h
    have lar := har.len
    refine ⟨_, (pss_cons (ps_set (i := 1) sc_w_quantities.nd rfl (Or.inl rfl) (pe_lst pa_nil))
    (pss_cons (ps_for PassesOwn.never rfl (pi_list (pv 0)) (pg_name (i := 2) sc_w_quantities.nd rfl (Or.inl rfl))
    (pss_one (ps_for PassesOwn.never rfl (pi_tup (pe_slice sl_tup (pv 2) po_none (po_some pe_int))) (pg_name (i := 3) sc_w_quantities.nd rfl (Or.inl rfl))
    (pss_one (ps_if (pt_cmpR op_notIn_seq (pv 3) (pv 1) (by rfl))
    (pss_one (ps_expr (pe_bm PySem.F.plainAttrs_list PySem.F.slot_list_append PySem.F.type_list_append mt_append (pv 1) (pa_cons (pv 3) pa_nil))))
    pss_nil)))))
    (pss_one (ps_ret (pe_callB cr_sortedS (by rfl) T.m_sorted (by decide +kernel) (pa_cons (pv 1) pa_nil)))))), ?_⟩
    walk_at "start"
    walk_at "sts"
    intro l hl
    have k1 : Keep [] H (upd H l (.lst [])) := Keep.new hl
    have el : NamesAt (upd H l (.lst [])) l [] := upd_same
    generalize upd H l (.lst []) = H1 at k1 el ⊢
    walk_at "sts"
    have er1 := k1 _ _ (by simp) er
    refine forL_go (fun i σ' H' => ∃ y2 y3 : Option V, σ' = [some (.ref p), some (.ref l), y2, y3] ∧ NamesAt H' l ((rs.take i).foldl rowN []) ∧ Keep [] H H') (sqL_of er1) ⟨_, _, by first | exact rfl | trivial, el, k1⟩ (fun i σ' H' _ h => by obtain ⟨_, _, _, _, k⟩ := h; exact sqL_of (k _ _ (by simp) er)) ?_ ?_
    · clear k1 el er1
      rintro i v σ' H2 hv ⟨y2, y3, rfl, el, k2⟩
      obtain ⟨b, hb, rfl⟩ := getRef hv
      obtain ⟨r, hr2, eb⟩ := har.get hb
      have eb2 : H2 b = some (.tup [.str (strL r.fst), .str (strL r.snd), .int r.cnt]) := k2 _ _ (by simp) eb
      rw [take_s hr2, List.foldl_append, List.foldl_cons, List.foldl_nil]
      have ll := rowN_len (rs := rs.take i) (ns := [])
      have hi := (List.getElem?_eq_some_iff.mp hr2).1
      rw [List.length_take, List.length_nil] at ll
      generalize (rs.take i).foldl rowN [] = ns at el ll ⊢
      walk_at "sts"
      refine ⟨b, _, rfl, sqT_of eb2, (by show ¬ (HT.sIx 3 0 none = 0 ∧ HT.sIx 3 3 (some 2) = 3); decide), fun u hu => ?_⟩
      rw [show cutV [V.str (strL r.fst), .str (strL r.snd), .int r.cnt] none (some 2) = [.str (strL r.fst), .str (strL r.snd)] from rfl]
      have k3 : Keep [] H2 (upd H2 u (.tup [.str (strL r.fst), .str (strL r.snd)])) := Keep.new hu
      have eu : upd H2 u (.tup [.str (strL r.fst), .str (strL r.snd)]) u = some (.tup ([r.fst, r.snd].map nV)) := upd_same
      have el3 : NamesAt _ l ns := k3 _ _ (by simp) el
      have hlH : H l = none := hl
      have k23 := k2.trans k3
      generalize upd H2 u (.tup [.str (strL r.fst), .str (strL r.snd)]) = H3 at k3 eu el3 k23 ⊢
      have nul : u ≠ l := by rintro rfl; cases (eu.symm.trans el3)
      clear k2 k3 el hu eb2
      refine forT_go (fun g σ' H' => ∃ y3 : Option V, σ' = [some (.ref p), some (.ref l), some (.ref b), y3] ∧ NamesAt H' l (([r.fst, r.snd].take g).foldl addN ns) ∧ H' u = some (.tup ([r.fst, r.snd].map nV)) ∧ Keep [] H H') (sqT_of eu) ⟨_, by first | exact rfl | trivial, el3, eu, k23⟩ (fun g σ' H' _ h => by obtain ⟨_, _, _, e, _⟩ := h; exact sqT_of e) ?_ ?_
      · clear eu el3 k23
        rintro g v σ' H4 hv ⟨y3, rfl, el, eu, k4⟩
        rw [List.getElem?_map] at hv
        obtain ⟨s, hs, rfl⟩ := Option.map_eq_some_iff.mp hv
        have hg := (List.getElem?_eq_some_iff.mp hs).1
        rw [take_s hs, List.foldl_append, List.foldl_cons, List.foldl_nil]
        have lg : (([r.fst, r.snd].take g).foldl addN ns).length ≤ ns.length + 2 := by
          match g, hg with
          | 0, _ => simp
          | 1, _ => have := addN_len (ns := ns) (s := r.fst); show (addN ns r.fst).length ≤ _; omega
          | g + 2, h => exact absurd h (by simp)
        generalize ([r.fst, r.snd].take g).foldl addN ns = ms at el lg ⊢
        have el2 : H4 l = some (.lst (ms.map fun u => V.str (strL u))) := el
        have fls : (ms.map fun u => V.str (strL u)).all L2.flatV = true := by
          rw [List.all_eq_true]; intro x hx; obtain ⟨u, _, rfl⟩ := List.mem_map.mp hx; rfl
        walk_at "sts"
        unfold nV
        refine ⟨l, _, rfl, .inl (sqL_of el2), rfl, fls, ?_⟩
        rw [if_pos rfl]
        refine ⟨_, rfl, ?_⟩
        by_cases e : s ∈ ms
        · rw [inV_n.mpr e, Bool.not_true, if_neg (by decide)]
          walk_at "sts"
          exact ⟨_, by first | exact rfl | trivial, by unfold addN; rw [if_pos e]; exact el, eu, k4⟩
        · have e2 : L2.inV (.str (strL s)) (ms.map fun u => V.str (strL u)) = false := by
            cases g : L2.inV (.str (strL s)) (ms.map fun u => V.str (strL u)) with
            | false => rfl
            | true => exact (e (inV_n.mp g)).elim
          rw [e2, Bool.not_false, if_pos rfl]
          walk_at "sts"
          exact ⟨_, by first | exact rfl | trivial, by unfold addN; rw [if_neg e]; unfold NamesAt; rw [upd_same, List.map_append]; rfl, by rw [upd_ne nul]; exact eu, k4.mut hlH⟩
      · rintro σ' H4 ⟨y3, rfl, el, eu, k4⟩
        exact ⟨_, _, by first | exact rfl | trivial, el, k4⟩
    · rintro σ' H2 ⟨y2, y3, rfl, el, k2⟩
      rw [List.length_map, lar, List.take_length] at el
      walk_at "sts"
      have ll := rowN_len (rs := rs) (ns := [])
      have mem := fun x => rowN_mem (x := x) (rs := rs) (ns := [])
      have nd := rowN_nodup (rs := rs) (ns := []) (by simp)
      rw [List.length_nil] at ll
      generalize rs.foldl rowN [] = ns at el ll mem nd
      refine r_sortS (xs := ns.map strL) (sqL_of (by rw [List.map_map]; exact el)) (by rw [List.length_map]; omega) fun ys q pm so nq => ?_
      obtain ⟨ms, rfl, pm2⟩ : ∃ ms : List (List Nat), ys = ms.map strL ∧ ms.Perm ns := by
        have back : ∀ s : Str, strL s.cps.toList = s := fun s => by show (⟨_⟩ : Str) = ⟨_⟩; simp
        refine ⟨ys.map fun s => s.cps.toList, ?_, ?_⟩
        · rw [List.map_map]
          conv => lhs; rw [← List.map_id ys]
          exact List.map_congr_left fun s _ => (back s).symm
        · have := pm.map fun s => s.cps.toList
          rw [List.map_map] at this
          have e1 : ns.map ((fun s : Str => s.cps.toList) ∘ strL) = ns := (List.map_congr_left (g := id) fun s _ => strL_tl).trans (List.map_id ns)
          rwa [e1] at this
      have k3 : Keep [] H2 (upd H2 q (.lst ((ms.map strL).map V.str))) := Keep.new nq
      walk_at "sts"
      refine qq q ms _ (k2.trans k3) (k2.free (by simp) nq) (by unfold NamesAt; rw [upd_same, List.map_map]; rfl) ⟨pm2.nodup_iff.mpr nd, fun x => ?_, so⟩
      rw [pm2.mem_iff, mem]
      simp
end
/-! ### names of strikes -/
def StrikesAt (C : Addr) (H : Hp) (x : Addr) (rs : List Row) : Prop := ∃ (dx t : Addr) (as : List Addr), H x = some (.ins C dx [("rows", .ref t)]) ∧ H t = some (.tup (as.map V.ref)) ∧ AllAt rHO H as rs
def spNamesS (C : Addr) : Sp := fun vs H Q _ => ∃ (x : Addr) (rs : List Row), vs = [.ref x] ∧ StrikesAt C H x rs ∧ rs.length ≤ 10 ∧ (∀ r ∈ rs, RowOk r) ∧ ∀ (q : Addr) (ns : List (List Nat)) (H' : Hp), Keep [] H H' → H q = none → NamesAt H' q ns → IsNames rs ns → Q (.ref q) H'
def kN (ns : List (List Nat)) : List Key := ns.map fun s => Sum.inr (strL s)
theorem kN_put {kvs : List (Key × V)} {ns : List (List Nat)} {s : List Nat} {v : V} (h : kvs.map (·.1) = kN ns) : (putK kvs (Sum.inr (strL s)) v).map (·.1) = kN (addN ns s) := by
  have e : (kvs.any fun kv => decide (kv.1 = Sum.inr (strL s))) = decide (s ∈ ns) := by
    rw [Bool.eq_iff_iff, List.any_eq_true, decide_eq_true_eq]
    constructor
    · rintro ⟨kv, hm, g⟩
      have g := of_decide_eq_true g
      have : kv.1 ∈ kN ns := by rw [← h]; exact List.mem_map_of_mem hm
      unfold kN at this
      obtain ⟨u, hu, e⟩ := List.mem_map.mp this
      rw [g] at e
      rw [← strL_inj (Sum.inr.inj e)]; exact hu
    · intro hs
      have : Sum.inr (strL s) ∈ kvs.map (·.1) := by rw [h]; exact List.mem_map.mpr ⟨s, hs, rfl⟩
      obtain ⟨kv, hm, g⟩ := List.mem_map.mp this
      exact ⟨kv, hm, decide_eq_true g⟩
  unfold putK addN
  rw [e]
  by_cases hs : s ∈ ns
  · rw [if_pos (decide_eq_true hs), if_pos hs, List.map_map, ← h]
    apply List.map_congr_left
    intro kv _
    simp only [Function.comp]
    split <;> rfl
  · rw [if_neg (by simp [hs]), if_neg hs, List.map_append, h]
    unfold kN; rw [List.map_append]; rfl
section
variable {P : Program} {w : World} {K : PySem.W.Frag} {mg : Str → Option Value} {base : Heap}
theorem ok_namesS (T : Tx K mg) : FnOk P w K mg base CX0 1 T.f_Strikes_names T.fd_Strikes_names ["self"] (spNamesS T.C_Strikes) := by
  refine T.F_Strikes_names.ok sc_Strikes_names (fun vs H Q E h => ?_) (fun cdv A outer s H vs Q E hr h => ?_)
  · obtain ⟨x, rs, rfl, _⟩ := h; rfl
  · obtain ⟨x, rs, rfl, ⟨dx, t, as, ex, et, har⟩, l10, hok, qq⟩ := h
    have lar := har.len
    have oc := T.oc_Strikes
    have na := T.na_Strikes_rows
    refine ⟨_, (pss_cons (ps_set (i := 1) sc_Strikes_names.nd rfl (Or.inl rfl) pe_dnewK)
    (pss_cons (ps_for PassesOwn.never rfl (pi_tup (pe_fld (pv 0) rfl)) (pg_tup (n := 3) rfl (pgs_cons (pg_name (i := 2) sc_Strikes_names.nd rfl (Or.inl rfl)) (pgs_cons (pg_name (i := 3) sc_Strikes_names.nd rfl (Or.inl rfl)) (pgs_cons (pg_name (i := 4) sc_Strikes_names.nd rfl (Or.inl rfl)) pgs_nil))))
    (pss_cons (ps_dput (hu_of hr) (pv 1) (pv 2) pe_bl rfl)
    (pss_one (ps_dput (hu_of hr) (pv 1) (pv 3) pe_bl rfl))))
    (pss_one (ps_ret (pe_callB cr_sortedS (by rfl) T.m_sorted (by decide +kernel) (pa_cons (pe_callTy (call_list_dK rfl) (by rfl) T.m_list (by decide +kernel) (pa_cons (pv 1) pa_nil)) pa_nil)))))), ?_⟩
    walk_at "start"
    walk_at "sts"
    intro m hm0
    have k1 : Keep [] H (upd H m (.dK [])) := Keep.new hm0
    have e1 : upd H m (.dK []) m = some (.dK []) := upd_same
    have ex1 := k1 _ _ (by simp) ex
    have et1 := k1 _ _ (by simp) et
    generalize upd H m (.dK []) = H1 at k1 e1 ex1 et1 ⊢
    walk_at "sts"
    refine forT_go (fun i σ' H' => ∃ (kvs : List (Key × V)) (y2 y3 y4 : Option V), σ' = [some (.ref x), some (.ref m), y2, y3, y4] ∧ H' m = some (.dK kvs) ∧ kvs.map (·.1) = kN ((rs.take i).foldl rowN []) ∧ Keep [] H H') (sqT_of et1) ⟨[], _, _, _, by first | exact rfl | trivial, e1, rfl, k1⟩ (fun i σ' H' _ h => by obtain ⟨_, _, _, _, _, _, _, k⟩ := h; exact sqT_of (k _ _ (by simp) et)) ?_ ?_
    · clear k1 e1 ex1 et1
      rintro i v σ' H2 hv ⟨kvs, y2, y3, y4, rfl, e2, hk, k2⟩
      obtain ⟨b, hb, rfl⟩ := getRef hv
      obtain ⟨r, hr2, eb⟩ := har.get hb
      have eb2 : H2 b = some (.tup [.str (strL r.fst), .str (strL r.snd), .int r.cnt]) := k2 _ _ (by simp) eb
      have ll := rowN_len (rs := rs.take i) (ns := [])
      have hi := (List.getElem?_eq_some_iff.mp hr2).1
      rw [List.length_take, List.length_nil] at ll
      rw [take_s hr2, List.foldl_append, List.foldl_cons, List.foldl_nil]
      generalize (rs.take i).foldl rowN [] = ns at hk ll ⊢
      have lk : kvs.length = ns.length := by have := congrArg List.length hk; simpa [kN] using this
      refine r_gTup3 (sqT_of eb2) ?_
      simp only [List.set_cons_zero, List.set_cons_succ]
      walk_at "sts"
      refine r_dputS e2 (lt_size (by omega)) ?_
      have hk2 := kN_put (s := r.fst) (v := .bl true) hk
      have l2 := addN_len (ns := ns) (s := r.fst)
      have e3 : upd H2 m (.dK (putK kvs (Sum.inr (strL r.fst)) (.bl true))) m = some (.dK (putK kvs (Sum.inr (strL r.fst)) (.bl true))) := upd_same
      have k3 : Keep [] H (upd H2 m (.dK (putK kvs (Sum.inr (strL r.fst)) (.bl true)))) := k2.mut hm0
      generalize upd H2 m (.dK (putK kvs (Sum.inr (strL r.fst)) (.bl true))) = H3 at e3 k3 ⊢
      generalize putK kvs (Sum.inr (strL r.fst)) (.bl true) = kvs2 at hk2 e3 ⊢
      have lk2 : kvs2.length = (addN ns r.fst).length := by have := congrArg List.length hk2; simpa [kN] using this
      walk_at "sts"
      refine r_dputS e3 (lt_size (by omega)) ?_
      exact ⟨_, _, _, _, by first | exact rfl | trivial, upd_same, kN_put hk2, k3.mut hm0⟩
    · rintro σ' H2 ⟨kvs, y2, y3, y4, rfl, e2, hk, k2⟩
      rw [List.length_map, lar, List.take_length] at hk
      walk_at "sts"
      refine r_listD e2 fun l hl => ?_
      have ekv : (kvs.map fun kv => kV kv.1) = (rs.foldl rowN []).map nV := by
        have : (kvs.map fun kv => kV kv.1) = (kvs.map (·.1)).map kV := by rw [List.map_map]; rfl
        rw [this, hk]; unfold kN; rw [List.map_map]; rfl
      rw [ekv]
      have ll := rowN_len (rs := rs) (ns := [])
      have mem := fun x => rowN_mem (x := x) (rs := rs) (ns := [])
      have nd := rowN_nodup (rs := rs) (ns := []) (by simp)
      rw [List.length_nil] at ll
      clear ekv hk e2
      generalize rs.foldl rowN [] = ns at ll mem nd ⊢
      have k3 : Keep [] H2 (upd H2 l (.lst (ns.map nV))) := Keep.new hl
      have el : upd H2 l (.lst (ns.map nV)) l = some (.lst (ns.map nV)) := upd_same
      have k23 := k2.trans k3
      generalize upd H2 l (.lst (ns.map nV)) = H3 at k3 el k23 ⊢
      walk_at "sts"
      refine r_sortS (xs := ns.map strL) (sqL_of (by rw [List.map_map]; exact el)) (by rw [List.length_map]; omega) fun ys q pm so nq => ?_
      obtain ⟨ms, rfl, pm2⟩ : ∃ ms : List (List Nat), ys = ms.map strL ∧ ms.Perm ns := by
        have back : ∀ s : Str, strL s.cps.toList = s := fun s => by show (⟨_⟩ : Str) = ⟨_⟩; simp
        refine ⟨ys.map fun s => s.cps.toList, ?_, ?_⟩
        · rw [List.map_map]
          conv => lhs; rw [← List.map_id ys]
          exact List.map_congr_left fun s _ => (back s).symm
        · have := pm.map fun s => s.cps.toList
          rw [List.map_map] at this
          have e1 : ns.map ((fun s : Str => s.cps.toList) ∘ strL) = ns := (List.map_congr_left (g := id) fun s _ => strL_tl).trans (List.map_id ns)
          rwa [e1] at this
      have k4 : Keep [] H3 (upd H3 q (.lst ((ms.map strL).map V.str))) := Keep.new nq
      walk_at "sts"
      refine qq q ms _ (k23.trans k4) (k23.free (by simp) nq) (by unfold NamesAt; rw [upd_same, List.map_map]; rfl) ⟨pm2.nodup_iff.mpr nd, fun x => ?_, so⟩
      rw [pm2.mem_iff, mem]
      simp
end
/-! ### strikes made -/
def spInitS (C : Addr) : Sp := fun vs H Q _ => ∃ (x p dx : Addr) (rs : List Row) (as : List Addr), vs = [.ref x, .ref p] ∧ H x = some (.ins C dx []) ∧ H p = some (.tup (as.map V.ref)) ∧ AllAt rHO H as rs ∧ rs.length ≤ 10 ∧ (∀ r ∈ rs, RowOk r) ∧ ∀ H', Keep [x] H H' → StrikesAt C H' x rs → Q .non H'
abbrev spStarS (C : Addr) : Sp := fun vs H Q E => ∃ ws rest, vs = ws ++ rest ∧ ws.length = 1 ∧ rest.length ≤ sizeLine ∧ ∀ p, H p = Option.none → spInitS C (ws ++ [V.ref p]) (upd H p (.tup rest)) Q E
theorem mk_rows {C : Addr} {H : Hp} {as : List Addr} {rs : List Row} {E : XK} {Q : VK} (har : AllAt rHO H as rs) (l10 : rs.length ≤ 10) (hok : ∀ r ∈ rs, RowOk r) (k : ∀ x H2, Keep [] H H2 → H x = none → StrikesAt C H2 x rs → Q (.ref x) H2) (x dx : Addr) (nx : H x = none) (nd : H dx = none) (ne : dx ≠ x) :
    spStarS C (V.ref x :: as.map V.ref) (upd (upd H dx (.own x)) x (.ins C dx [])) (fun v H2 => v = .non ∧ Q (.ref x) H2) E := by
  have la := har.len
  refine ⟨[.ref x], as.map V.ref, rfl, rfl, by rw [List.length_map]; exact le_size (by omega), fun p np => ?_⟩
  have k0 : Keep [] H (upd (upd H dx (.own x)) x (.ins C dx [])) := (Keep.new nd).mut nx
  have e1 : upd (upd H dx (.own x)) x (.ins C dx []) x = some (.ins C dx []) := upd_same
  generalize upd (upd H dx (.own x)) x (.ins C dx []) = H1 at k0 e1 np ⊢
  have k1 : Keep [] H1 (upd H1 p (.tup (as.map V.ref))) := Keep.new np
  refine ⟨x, p, dx, rs, as, rfl, k1 _ _ (by simp) e1, upd_same, har.keep0 (k0.trans k1), l10, hok, fun H' k' st => ⟨rfl, k x H' ?_ nx st⟩⟩
  intro b o _ hb
  exact k' b o (by simp only [List.mem_cons, List.not_mem_nil, or_false]; rintro rfl; rw [nx] at hb; cases hb) (k1 _ _ (by simp) (k0 _ _ (by simp) hb))
theorem r_mkR {C : Addr} {sp : Sp} {E : XK} {t : TA} {σ : L2.St} {H : Hp} {Q : VK} (k : t σ H fun vs H1 => ∀ x dx, H1 x = Option.none → H1 dx = Option.none → dx ≠ x → sp (V.ref x :: vs) (upd (upd H1 dx (.own x)) x (.ins C dx [])) (fun v H2 => v = .non ∧ Q (.ref x) H2) E) : tMakeR C sp E t σ H Q := k
theorem r_mkRows {C : Addr} {E : XK} {t : TA} {σ : L2.St} {H : Hp} {Q : VK} {as : List Addr} {rs : List Row} (h : ∀ R : List V → Hp → Prop, R (as.map V.ref) H → t σ H R) (har : AllAt rHO H as rs) (l10 : rs.length ≤ 10) (hok : ∀ r ∈ rs, RowOk r) (k : ∀ x H2, Keep [] H H2 → H x = none → StrikesAt C H2 x rs → Q (.ref x) H2) : tMakeR C (spStarS C) E t σ H Q :=
  r_mkR (h _ fun x dx nx nd ne => mk_rows har l10 hok k x dx nx nd ne)
theorem r_catA {K : PySem.W.Frag} {H : Hp} {Q : VK} {a b : Addr} {xs ys : List V} (ha : SqT K H a xs) (hb : SqT K H b ys) (hz : xs.length + ys.length ≤ sizeLine) (k : ∀ p H', Keep [] H H' → SqT K H' p (xs ++ ys) → Q (.ref p) H') : rCatA K (.ref a) (.ref b) H Q := by
  refine ⟨a, b, xs, ys, rfl, rfl, ha, hb, hz, fun e => ?_, fun _ e => ?_, fun _ _ p np => k p _ (Keep.new np) (sqT_of upd_same)⟩
  · subst e; exact k b H (Keep.refl _ _) hb
  · subst e; exact k a H (Keep.refl _ _) (by rw [List.append_nil]; exact ha)
section
variable {P : Program} {w : World} {K : PySem.W.Frag} {mg : Str → Option Value} {base : Heap}
theorem ok_initS (T : Tx K mg) (G_check_row : FnOk P w K mg base CX0 2 T.f_check_row T.fd_check_row ["first", "second", "count"] spCheckRow) : FnR P w K mg base CX0 3 T.f_Strikes___init (spStarS T.C_Strikes) := by
  refine My.Fun.okStar (ps := ["self"]) T.F_Strikes___init sc_Strikes___init (fun _ _ _ _ _ _ us rest hl => ?_) (fun cdv A outer s H vs Q E hr h => ?_)
  · match us, hl with
    | [_], _ => cases rest <;> rfl
  · obtain ⟨x, p, dx, rs, as, rfl, ex, ep, har, l10, hok, qq⟩ := h
    have lar := har.len
    have oc := T.oc_Strikes
    have na := T.na_Strikes_rows
    refine ⟨_, PSs.nox (pss_cons (ps_if (pt_cmpR op_gt (pe_callB call_len_seq (by rfl) T.m_len PySem.boot_len (pa_cons (pv 1) pa_nil)) (pe_glob (v := .int (10)) rfl T.c_MOST_STRIKES.choose_spec ⟨_, rfl⟩) (nomark _))
    (pss_one ps_never)
    pss_nil)
    (pss_cons (ps_for PassesOwn.never rfl (pi_tup (pv 1)) (pg_tup (n := 3) rfl (pgs_cons (pg_name (i := 2) sc_Strikes___init.nd rfl (Or.inl rfl)) (pgs_cons (pg_name (i := 3) sc_Strikes___init.nd rfl (Or.inl rfl)) (pgs_cons (pg_name (i := 4) sc_Strikes___init.nd rfl (Or.inl rfl)) pgs_nil))))
    (pss_one (ps_expr (pe_call G_check_row (hr.mono (by decide)) rfl T.g_check_row T.F_check_row.kp T.b_check_row .nil pass0 (pa_cons (pv 2) (pa_cons (pv 3) (pa_cons (pv 4) pa_nil)))))))
    (pss_one (ps_fld (pv 0) (pe_callTy call_tuple_of (by rfl) T.m_tuple (by decide +kernel) (pa_cons (pe_lc (own := [("first", 2), ("second", 3), ("count", 4)]) (g := gTup K 3 (gCons (gName 2) (gCons (gName 3) (gCons (gName 4) gNil)))) (tt := tYes) rfl sc_Strikes___init.nd (pi_tup (pv 1)) (blkOk_by (own := [("first", 2), ("second", 3), ("count", 4)]) (N := ["self", "rows", "first", "second", "count"]) (sc := defScope s_Strikes___init) (by decide +kernel)) (fun _ _ _ _ _ => pg_tup (n := 3) rfl (pgs_cons (pg_name (i := 2) sc_Strikes___init.nd rfl (Or.inl rfl)) (pgs_cons (pg_name (i := 3) sc_Strikes___init.nd rfl (Or.inl rfl)) (pgs_cons (pg_name (i := 4) sc_Strikes___init.nd rfl (Or.inl rfl)) pgs_nil)))) (fun _ _ _ _ _ => pts_nil) (fun _ _ _ _ _ => (pe_tup (pa_cons (pv 2) (pa_cons (pv 3) (pa_cons (pv 4) pa_nil)))))) pa_nil)) rfl)))), ?_⟩
    walk_at "start"
    walk_at "sts"
    refine forT_go (fun i σ' H' => ∃ y2 y3 y4 : Option V, σ' = [some (.ref x), some (.ref p), y2, y3, y4] ∧ Keep [] H H') (sqT_of ep) ⟨_, _, _, by first | exact rfl | trivial, Keep.refl _ _⟩ (fun i σ' H' _ h => by obtain ⟨_, _, _, _, k⟩ := h; exact sqT_of (k _ _ (by simp) ep)) ?_ ?_
    · rintro i v σ' H2 hv ⟨y2, y3, y4, rfl, k2⟩
      obtain ⟨b, hb, rfl⟩ := getRef hv
      obtain ⟨r, hr2, eb⟩ := har.get hb
      have eb2 : H2 b = some (.tup [.str (strL r.fst), .str (strL r.snd), .int r.cnt]) := k2 _ _ (by simp) eb
      refine r_gTup3 (sqT_of eb2) ?_
      simp only [List.set_cons_zero, List.set_cons_succ]
      walk_at "sts"
      refine ⟨r, rfl, hok r (List.mem_of_getElem? hr2), fun H3 k3 => ?_⟩
      walk_at "sts"
      exact ⟨_, _, _, by first | exact rfl | trivial, k2.trans k3⟩
    · rintro σ' H2 ⟨y2, y3, y4, rfl, k2⟩
      have ep2 := k2 _ _ (by simp) ep
      have ex2 := k2 _ _ (by simp) ex
      walk_at "sts"
      refine lcT_go (fun D i acc H' => ∃ bs : List Addr, acc = bs.map V.ref ∧ AllAt rHO H' bs (rs.take i) ∧ Keep [] H2 H' ∧ H2 D = none) (sqT_of ep2) (fun D hD => ⟨[], rfl, trivial, Keep.new hD, hD⟩) (fun D i acc H' _ h => by obtain ⟨_, _, _, k, _⟩ := h; exact sqT_of (k _ _ (by simp) ep2)) ?_ ?_
      · rintro D i v acc H3 hv hD ⟨bs, rfl, hbs, k3, nD⟩
        obtain ⟨b, hb, rfl⟩ := getRef hv
        obtain ⟨r, hr2, eb⟩ := har.get hb
        have eb2 : H3 b = some (.tup [.str (strL r.fst), .str (strL r.snd), .int r.cnt]) := k3 _ _ (by simp) (k2 _ _ (by simp) eb)
        have lbs := hbs.len
        have hi := (List.getElem?_eq_some_iff.mp hr2).1
        rw [List.length_take] at lbs
        refine r_gTup3 (sqT_of eb2) ?_
        simp only [L2.wipe, List.map_cons, List.map_nil, List.set_cons_zero, List.set_cons_succ]
        refine ⟨by first | exact rfl | trivial, ?_⟩
        walk_at "sts"
        intro u nu
        have k4 : Keep [] H3 (upd H3 u (.tup [.str (strL r.fst), .str (strL r.snd), .int r.cnt])) := Keep.new nu
        refine lc_put (k4 _ _ (by simp) hD) (by rw [List.length_map]; exact lt_size (by omega)) ?_
        have e4 : upd H3 u (.tup [.str (strL r.fst), .str (strL r.snd), .int r.cnt]) u = some (rHO r) := upd_same
        generalize upd H3 u (.tup [.str (strL r.fst), .str (strL r.snd), .int r.cnt]) = H4 at k4 e4 ⊢
        have nuD : u ≠ D := by rintro rfl; rw [hD] at nu; cases nu
        have k5 : Keep [D] H4 (upd H4 D (.lst (bs.map V.ref ++ [V.ref u]))) := Keep.at (by simp)
        have eD4 := k4 _ _ (by simp) hD
        refine ⟨bs ++ [u], by rw [List.map_append]; rfl, ?_, (k3.trans k4).mut nD, nD⟩
        rw [take_s hr2]
        have nD4 : ∀ x, H4 D ≠ some (rHO x) := fun x e => by rw [eD4] at e; cases e
        refine AllAt.app ((hbs.keep0 k4).keep k5 fun m hm x => by rw [List.mem_singleton.mp hm]; exact nD4 x) ⟨?_, trivial⟩
        exact k5 _ _ (by simpa using nuD) e4
      · rintro D acc H3 nD hD ⟨bs, rfl, hbs, k3, _⟩
        rw [List.length_map, lar, List.take_length] at hbs
        walk_at "sts"
        refine ⟨D, _, rfl, .inl ⟨sqL_of hD, fun t nt => ?_⟩⟩
        have k4 : Keep [] H3 (upd H3 t (.tup (bs.map V.ref))) := Keep.new nt
        have e4 : upd H3 t (.tup (bs.map V.ref)) t = some (.tup (bs.map V.ref)) := upd_same
        have ex4 := k4 _ _ (by simp) (k3 _ _ (by simp) ex2)
        have hbs4 := hbs.keep0 k4
        generalize upd H3 t (.tup (bs.map V.ref)) = H4 at k4 e4 ex4 hbs4 ⊢
        walk_at "sts"
        have k24 := k2.trans (k3.trans k4)
        refine qq _ (fun b o n hb => ?_) ⟨dx, t, bs, upd_same, ?_, ?_⟩
        · rw [upd_ne (fun e => n (by rw [e]; exact List.mem_singleton.mpr rfl))]
          exact k24 _ _ (by simp) hb
        · rw [upd_ne (by rintro rfl; rw [ex4] at e4; cases e4)]
          exact e4
        · refine hbs4.keep (M := [x]) (Keep.at (by simp)) fun m hm y e => ?_
          rw [List.mem_singleton.mp hm, ex4] at e
          cases e
def spAddS (C : Addr) : Sp := fun vs H Q _ => ∃ (x y : Addr) (rs qs : List Row), vs = [.ref x, .ref y] ∧ StrikesAt C H x rs ∧ StrikesAt C H y qs ∧ rs.length + qs.length ≤ 10 ∧ (∀ r ∈ rs ++ qs, RowOk r) ∧ ∀ z H', Keep [] H H' → H z = none → StrikesAt C H' z (rs ++ qs) → Q (.ref z) H'
theorem ok_addS (T : Tx K mg) (G_Strikes___init : FnR P w K mg base CX0 3 T.f_Strikes___init (spStarS T.C_Strikes)) : FnOk P w K mg base CX0 5 T.f_Strikes___add T.fd_Strikes___add ["self", "other"] (spAddS T.C_Strikes) := by
  refine T.F_Strikes___add.ok sc_Strikes___add (fun vs H Q E h => ?_) (fun cdv A outer s H vs Q E hr h => ?_)
  · obtain ⟨x, y, rs, qs, rfl, _⟩ := h; rfl
  · obtain ⟨x, y, rs, qs, rfl, ⟨dx, t, as, ex, et, har⟩, ⟨dy, u, bs, ey, eu, hbr⟩, l10, hok, qq⟩ := h
    have lar := har.len
    have lbr := hbr.len
    have oc := T.oc_Strikes
    have na := T.na_Strikes_rows
    refine ⟨_, PSs.nox (pss_cons (ps_if (pt_not (pt_val (pe_callB call_isi (by rfl) T.m_isinstance (by decide +kernel) (pa_cons (pv 1) (pa_cons (pe_glob (v := .ref T.C_Strikes) rfl T.gC_Strikes rfl) pa_nil)))))
    (pss_one ps_never)
    pss_nil)
    (pss_cons (ps_set (i := 2) sc_Strikes___add.nd rfl (Or.inl rfl) (pe_op op_catA (pe_fld (pv 0) rfl) (pe_fld (pv 1) rfl)))
    (pss_one (ps_ret (Sr.pe_makeS T.mk_Strikes G_Strikes___init (hr.mono (by decide)) rfl T.gC_Strikes pass0 (pv 2)))))), ?_⟩
    walk_at "start"
    walk_at "sts"
    refine Ow.r_isiOwn oc ey ⟨_, rfl, ?_⟩
    rw [Bool.not_true, if_neg (by decide)]
    walk_at "sts"
    refine r_catA (sqT_of et) (sqT_of eu) (by rw [List.length_map, List.length_map]; exact le_size (by omega)) fun p H1 k1 sp1 => ?_
    rw [← List.map_append] at sp1
    have hall : AllAt rHO H1 (as ++ bs) (rs ++ qs) := (har.keep0 k1).app (hbr.keep0 k1)
    walk_at "sts"
    refine ⟨.ref p, rfl, p, _, rfl, Or.inl sp1, fun z dz nz nd ne => ?_⟩
    exact mk_rows hall (by rw [List.length_append]; omega) hok (fun z' H2 k2 nz' st => qq z' H2 (k1.trans k2) (k1.free (by simp) nz') st) z dz nz nd ne
def spLawS (C : Addr) (n : Nat) : Sp := fun vs H Q _ => ∃ (p : Addr) (rs : List Row), vs = [.ref p] ∧ RowsAt H p rs ∧ rs.length ≤ n ∧ (∀ r ∈ rs, RowOk r) ∧ ∀ z H', Keep [] H H' → H z = none → StrikesAt C H' z rs → Q (.ref z) H'
def spNo : Sp := fun _ _ _ _ => False
theorem ok_no {f : Addr} {fd : FuncData} {ps : List Str} {k : Nat} : FnOk P w K mg base CX0 k f fd ps spNo := ⟨fun _ _ _ _ h => h.elim, fun _ _ _ _ _ _ _ _ _ _ _ _ _ h => h.elim⟩
theorem ok_lawS (T : Tx K mg) (G_Strikes___init : FnR P w K mg base CX0 3 T.f_Strikes___init (spStarS T.C_Strikes)) (G_Strikes___add : FnOk P w K mg base CX0 5 T.f_Strikes___add T.fd_Strikes___add ["self", "other"] (spAddS T.C_Strikes)) {m n : Nat} (n10 : n ≤ 10) {k : Nat} (hk : 6 ≤ k) {spC : Sp}
    (hC : ∀ vs H Q E, (∃ (p : Addr) (rs : List Row), vs = [.ref p] ∧ RowsAt H p rs ∧ 1 ≤ rs.length ∧ rs.length + 6 ≤ n ∧ (∀ r ∈ rs, RowOk r) ∧ ∀ z H', Keep [] H H' → H z = none → StrikesAt T.C_Strikes H' z rs → Q (.ref z) H') → spC vs H Q E)
    (G_w_strikes : FnOk P w K mg base CX0 k T.f_w_strikes T.fd_w_strikes ["_law_r"] spC) : FnOk P w K mg base CX0 (k + 1) T.f_w_strikes T.fd_w_strikes ["_law_r"] (spLawS T.C_Strikes n) := by
  refine T.F_w_strikes.ok sc_w_strikes (fun vs H Q E h => ?_) (fun cdv A outer s H vs Q E hr h => ?_)
  · obtain ⟨p, rs, rfl, _⟩ := h; rfl
  · obtain ⟨p, rs, rfl, ⟨as, ep, har⟩, ln, hok, qq⟩ := h
    have lar := har.len
    have oc := T.oc_Strikes
    refine ⟨_, PSs.nox (pss_cons (ps_if (pt_cmpR op_gt (pe_callB call_len_seq (by rfl) T.m_len PySem.boot_len (pa_cons (pv 0) pa_nil)) pe_int (nomark _))
    (pss_one (ps_ret (pe_op (Ow.op_own2 T.oc_Strikes.sf T.me_Strikes___add (G_Strikes___add.raw T.b_Strikes___add .nil) (hr.mono (by omega)) pass0) (pe_makeR T.mk_Strikes G_Strikes___init (hr.mono (by omega)) rfl T.gC_Strikes pass0 (pa_cons (pe_ix ix_list (pv 0) pe_int (fun _ _ => rfl)) (pa_cons (pe_ix ix_list (pv 0) pe_int (fun _ _ => rfl)) (pa_cons (pe_ix ix_list (pv 0) pe_int (fun _ _ => rfl)) (pa_cons (pe_ix ix_list (pv 0) pe_int (fun _ _ => rfl)) (pa_cons (pe_ix ix_list (pv 0) pe_int (fun _ _ => rfl)) (pa_cons (pe_ix ix_list (pv 0) pe_int (fun _ _ => rfl)) pa_nil))))))) (pe_call G_w_strikes (hr.mono (by omega)) rfl T.g_w_strikes T.F_w_strikes.kp T.b_w_strikes .nil pass0 (pa_cons (pe_slice sl_list (pv 0) (po_some pe_int) po_none) pa_nil)))))
    pss_nil)
    (pss_cons (ps_if (pt_cmpR op_eq (pe_callB call_len_seq (by rfl) T.m_len PySem.boot_len (pa_cons (pv 0) pa_nil)) pe_int (nomark _))
    (pss_one (ps_ret (pe_makeR T.mk_Strikes G_Strikes___init (hr.mono (by omega)) rfl T.gC_Strikes pass0 (pa_cons (pe_ix ix_list (pv 0) pe_int (fun _ _ => rfl)) (pa_cons (pe_ix ix_list (pv 0) pe_int (fun _ _ => rfl)) (pa_cons (pe_ix ix_list (pv 0) pe_int (fun _ _ => rfl)) (pa_cons (pe_ix ix_list (pv 0) pe_int (fun _ _ => rfl)) (pa_cons (pe_ix ix_list (pv 0) pe_int (fun _ _ => rfl)) (pa_cons (pe_ix ix_list (pv 0) pe_int (fun _ _ => rfl)) pa_nil)))))))))
    pss_nil)
    (pss_cons (ps_if (pt_cmpR op_eq (pe_callB call_len_seq (by rfl) T.m_len PySem.boot_len (pa_cons (pv 0) pa_nil)) pe_int (nomark _))
    (pss_one (ps_ret (pe_makeR T.mk_Strikes G_Strikes___init (hr.mono (by omega)) rfl T.gC_Strikes pass0 (pa_cons (pe_ix ix_list (pv 0) pe_int (fun _ _ => rfl)) (pa_cons (pe_ix ix_list (pv 0) pe_int (fun _ _ => rfl)) (pa_cons (pe_ix ix_list (pv 0) pe_int (fun _ _ => rfl)) (pa_cons (pe_ix ix_list (pv 0) pe_int (fun _ _ => rfl)) (pa_cons (pe_ix ix_list (pv 0) pe_int (fun _ _ => rfl)) pa_nil))))))))
    pss_nil)
    (pss_cons (ps_if (pt_cmpR op_eq (pe_callB call_len_seq (by rfl) T.m_len PySem.boot_len (pa_cons (pv 0) pa_nil)) pe_int (nomark _))
    (pss_one (ps_ret (pe_makeR T.mk_Strikes G_Strikes___init (hr.mono (by omega)) rfl T.gC_Strikes pass0 (pa_cons (pe_ix ix_list (pv 0) pe_int (fun _ _ => rfl)) (pa_cons (pe_ix ix_list (pv 0) pe_int (fun _ _ => rfl)) (pa_cons (pe_ix ix_list (pv 0) pe_int (fun _ _ => rfl)) (pa_cons (pe_ix ix_list (pv 0) pe_int (fun _ _ => rfl)) pa_nil)))))))
    pss_nil)
    (pss_cons (ps_if (pt_cmpR op_eq (pe_callB call_len_seq (by rfl) T.m_len PySem.boot_len (pa_cons (pv 0) pa_nil)) pe_int (nomark _))
    (pss_one (ps_ret (pe_makeR T.mk_Strikes G_Strikes___init (hr.mono (by omega)) rfl T.gC_Strikes pass0 (pa_cons (pe_ix ix_list (pv 0) pe_int (fun _ _ => rfl)) (pa_cons (pe_ix ix_list (pv 0) pe_int (fun _ _ => rfl)) (pa_cons (pe_ix ix_list (pv 0) pe_int (fun _ _ => rfl)) pa_nil))))))
    pss_nil)
    (pss_cons (ps_if (pt_cmpR op_eq (pe_callB call_len_seq (by rfl) T.m_len PySem.boot_len (pa_cons (pv 0) pa_nil)) pe_int (nomark _))
    (pss_one (ps_ret (pe_makeR T.mk_Strikes G_Strikes___init (hr.mono (by omega)) rfl T.gC_Strikes pass0 (pa_cons (pe_ix ix_list (pv 0) pe_int (fun _ _ => rfl)) (pa_cons (pe_ix ix_list (pv 0) pe_int (fun _ _ => rfl)) pa_nil)))))
    pss_nil)
    (pss_one (ps_ret (pe_ifExp (pt_cmpR op_eq (pe_callB call_len_seq (by rfl) T.m_len PySem.boot_len (pa_cons (pv 0) pa_nil)) pe_int (nomark _)) (pe_makeR T.mk_Strikes G_Strikes___init (hr.mono (by omega)) rfl T.gC_Strikes pass0 (pa_cons (pe_ix ix_list (pv 0) pe_int (fun _ _ => rfl)) pa_nil)) (Sr.pe_makeR0 T.mk_Strikes G_Strikes___init (hr.mono (by omega)) rfl T.gC_Strikes pass0)))))))))), ?_⟩
    walk_at "start"
    rcases rs with _ | ⟨r0, rs⟩
    · rcases as with _ | ⟨_, _⟩
      · replace ep : H p = some (.lst []) := ep
        walk_at "sts"
        refine r_mkR ?_
        walk_at "sts"
        exact mk_rows (as := []) har (by simp) hok qq
      · exact har.elim
    rcases as with _ | ⟨a0, as⟩
    · exact har.elim
    rcases rs with _ | ⟨r1, rs⟩
    · rcases as with _ | ⟨_, _⟩
      · replace ep : H p = some (.lst [.ref a0]) := ep
        walk_at "sts"
        refine r_mkR ?_
        walk_at "sts"
        exact mk_rows (as := [a0]) har (by simp) hok qq
      · exact har.2.elim
    rcases as with _ | ⟨a1, as⟩
    · exact har.2.elim
    rcases rs with _ | ⟨r2, rs⟩
    · rcases as with _ | ⟨_, _⟩
      · replace ep : H p = some (.lst [.ref a0, .ref a1]) := ep
        walk_at "sts"
        refine r_mkR ?_
        walk_at "sts"
        exact mk_rows (as := [a0, a1]) har (by simp) hok qq
      · exact har.2.2.elim
    rcases as with _ | ⟨a2, as⟩
    · exact har.2.2.elim
    rcases rs with _ | ⟨r3, rs⟩
    · rcases as with _ | ⟨_, _⟩
      · replace ep : H p = some (.lst [.ref a0, .ref a1, .ref a2]) := ep
        walk_at "sts"
        refine r_mkR ?_
        walk_at "sts"
        exact mk_rows (as := [a0, a1, a2]) har (by simp) hok qq
      · exact har.2.2.2.elim
    rcases as with _ | ⟨a3, as⟩
    · exact har.2.2.2.elim
    rcases rs with _ | ⟨r4, rs⟩
    · rcases as with _ | ⟨_, _⟩
      · replace ep : H p = some (.lst [.ref a0, .ref a1, .ref a2, .ref a3]) := ep
        walk_at "sts"
        refine r_mkR ?_
        walk_at "sts"
        exact mk_rows (as := [a0, a1, a2, a3]) har (by simp) hok qq
      · exact har.2.2.2.2.elim
    rcases as with _ | ⟨a4, as⟩
    · exact har.2.2.2.2.elim
    rcases rs with _ | ⟨r5, rs⟩
    · rcases as with _ | ⟨_, _⟩
      · replace ep : H p = some (.lst [.ref a0, .ref a1, .ref a2, .ref a3, .ref a4]) := ep
        walk_at "sts"
        refine r_mkR ?_
        walk_at "sts"
        exact mk_rows (as := [a0, a1, a2, a3, a4]) har (by simp) hok qq
      · exact har.2.2.2.2.2.elim
    rcases as with _ | ⟨a5, as⟩
    · exact har.2.2.2.2.2.elim
    rcases rs with _ | ⟨r6, rs⟩
    · rcases as with _ | ⟨_, _⟩
      · replace ep : H p = some (.lst [.ref a0, .ref a1, .ref a2, .ref a3, .ref a4, .ref a5]) := ep
        walk_at "sts"
        refine r_mkR ?_
        walk_at "sts"
        exact mk_rows (as := [a0, a1, a2, a3, a4, a5]) har (by simp) hok qq
      · exact har.2.2.2.2.2.2.elim
    rcases as with _ | ⟨a6, as⟩
    · exact har.2.2.2.2.2.2.elim
    replace ep : H p = some (.lst (V.ref a0 :: V.ref a1 :: V.ref a2 :: V.ref a3 :: V.ref a4 :: V.ref a5 :: V.ref a6 :: as.map V.ref)) := ep
    simp only [List.length_cons] at ln
    walk_at "sts"
    first | (refine r_iteT (by simp only [List.length_cons, List.length_map]; omega) ?_; walk_at "sts") | skip
    obtain ⟨h0, h1, h2, h3, h4, h5, hrest⟩ := har
    refine r_mkRows (as := [a0, a1, a2, a3, a4, a5]) (rs := [r0, r1, r2, r3, r4, r5]) (fun R hR => ?_) ⟨h0, h1, h2, h3, h4, h5, trivial⟩ (by simp) (fun r hr => hok r (by simp only [List.mem_cons, List.not_mem_nil, or_false] at hr ⊢; rcases hr with e | e | e | e | e | e <;> simp [e])) (fun z H2 k2 nz st => ?_)
    · walk_at "sts"
      exact hR
    have ep2 := k2 _ _ (by simp) ep
    walk_at "sts"
    refine ⟨p, _, rfl, sqL_of ep2, fun q nq => ?_⟩
    rw [show cutV (V.ref a0 :: V.ref a1 :: V.ref a2 :: V.ref a3 :: V.ref a4 :: V.ref a5 :: V.ref a6 :: as.map V.ref) (some 6) none = (a6 :: as).map V.ref from ?_]
    · have k3 : Keep [] H2 (upd H2 q (.lst ((a6 :: as).map V.ref))) := Keep.new nq
      have e3 : upd H2 q (.lst ((a6 :: as).map V.ref)) q = some (.lst ((a6 :: as).map V.ref)) := upd_same
      obtain ⟨dz, tz, zs, ez, etz, hz⟩ := id st
      generalize upd H2 q (.lst ((a6 :: as).map V.ref)) = H3 at k3 e3 ⊢
      walk_at "sts"
      refine hC _ _ _ _ ⟨q, r6 :: rs, rfl, ⟨a6 :: as, e3, hrest.keep0 (k2.trans k3)⟩, by simp, by simp only [List.length_cons]; omega, fun r hr => hok r (by simp only [List.mem_cons] at hr ⊢; rcases hr with e | e <;> simp [e]), fun y H4 k4 ny sty => ?_⟩
      have k34 := k3.trans k4
      obtain ⟨dy, ty, ys, ey, ety, hy⟩ := id sty
      refine Ow.r_own2 (k34 _ _ (by simp) ez) ey ⟨z, y, [r0, r1, r2, r3, r4, r5], r6 :: rs, rfl, ⟨dz, tz, zs, k34 _ _ (by simp) ez, k34 _ _ (by simp) etz, hz.keep0 k34⟩, sty, by simp only [List.length_cons, List.length_nil]; omega, hok, fun v H5 k5 nv stv => ?_⟩
      have k25 := k2.trans (k34.trans k5)
      exact qq v H5 k25 ((k2.trans k34).free (by simp) nv) stv
    · unfold cutV
      rw [show HT.sIx (V.ref a0 :: V.ref a1 :: V.ref a2 :: V.ref a3 :: V.ref a4 :: V.ref a5 :: V.ref a6 :: as.map V.ref).length 0 (some 6) = 6 from by rw [show (6 : Int) = ((6 : Nat) : Int) from rfl, HT.sIx_nat]; simp only [List.length_cons]; omega, HT.sIx_none]
      simp
      exact List.take_of_length_le (by simp)
theorem ok_lawS10 (T : Tx K mg) (G_Strikes___init : FnR P w K mg base CX0 3 T.f_Strikes___init (spStarS T.C_Strikes)) (G_Strikes___add : FnOk P w K mg base CX0 5 T.f_Strikes___add T.fd_Strikes___add ["self", "other"] (spAddS T.C_Strikes)) : FnOk P w K mg base CX0 8 T.f_w_strikes T.fd_w_strikes ["_law_r"] (spLawS T.C_Strikes 10) :=
  ok_lawS (m := 0) (k := 7) T G_Strikes___init G_Strikes___add (Nat.le_refl _) (by decide) (fun vs H Q E ⟨p, rs, e, hr, _, l, ok, q⟩ => ⟨p, rs, e, hr, by omega, ok, q⟩)
    (ok_lawS (m := 0) (n := 6) (k := 6) (spC := spNo) T G_Strikes___init G_Strikes___add (by decide) (by decide) (fun vs H Q E ⟨p, rs, e, hr, l1, l, ok, q⟩ => by omega) ok_no)
end
/-! ### dicts by names, what hangs together -/
abbrev Nm := List Nat
def nK (s : Nm) : Key := Sum.inr (strL s)
theorem nK_inj {s t : Nm} (e : nK s = nK t) : s = t := strL_inj (Sum.inr.inj e)
section
variable {α : Type} {f : α → V}
def dN (f : α → V) (ds : List (Nm × α)) : List (Key × V) := ds.map fun p => (nK p.1, f p.2)
def getN (ds : List (Nm × α)) (s : Nm) : Option α := (ds.find? fun p => decide (p.1 = s)).map (·.2)
theorem dN_len {ds : List (Nm × α)} : (dN f ds).length = ds.length := List.length_map ..
theorem getN_cons {p : Nm × α} {ds : List (Nm × α)} {s : Nm} : getN (p :: ds) s = if p.1 = s then some p.2 else getN ds s := by
  unfold getN
  rw [List.find?_cons]
  by_cases e : p.1 = s
  · rw [decide_eq_true e, if_pos e]; rfl
  · rw [decide_eq_false e, if_neg e]
theorem dN_val {s : Nm} : ∀ {ds : List (Nm × α)}, valV (dN f ds) (nK s) = (getN ds s).map f
  | [] => rfl
  | p :: ds => by
    rw [getN_cons]
    show valV ((nK p.1, f p.2) :: dN f ds) (nK s) = _
    by_cases e : p.1 = s
    · rw [if_pos e, valV_pos (show (nK p.1, f p.2).1 = nK s by rw [e])]; rfl
    · rw [if_neg e, valV_neg (show ¬ (nK p.1, f p.2).1 = nK s from fun h => e (nK_inj h))]; exact dN_val
theorem getN_none {s : Nm} : ∀ {ds : List (Nm × α)}, s ∉ ds.map (·.1) → getN ds s = none
  | [], _ => rfl
  | p :: ds, h => by
    rw [getN_cons, if_neg (fun e => h (by rw [← e]; simp))]
    exact getN_none fun z => h (by simp only [List.map_cons, List.mem_cons]; exact .inr z)
theorem getN_mem {s : Nm} {v : α} : ∀ {ds : List (Nm × α)}, getN ds s = some v → (s, v) ∈ ds
  | p :: ds, h => by
    rw [getN_cons] at h
    by_cases e : p.1 = s
    · rw [if_pos e] at h
      rw [← e, ← Option.some.inj h]; simp
    · rw [if_neg e] at h
      exact List.mem_cons_of_mem _ (getN_mem h)
theorem getN_has {s : Nm} {ds : List (Nm × α)} (h : s ∈ ds.map (·.1)) : ∃ v, getN ds s = some v := by
  cases q : getN ds s with
  | some v => exact ⟨v, rfl⟩
  | none =>
    unfold getN at q
    rw [Option.map_eq_none_iff, List.find?_eq_none] at q
    obtain ⟨p, hp, e⟩ := List.mem_map.mp h
    exact (q p hp (decide_eq_true e)).elim
theorem getN_of {s : Nm} {v : α} : ∀ {ds : List (Nm × α)}, (ds.map (·.1)).Nodup → (s, v) ∈ ds → getN ds s = some v
  | p :: ds, nd, h => by
    obtain ⟨n1, n2⟩ := List.nodup_cons.mp nd
    rw [getN_cons]
    rcases List.mem_cons.mp h with e | h
    · rw [← e, if_pos rfl]
    · have : p.1 ≠ s := fun e => n1 (List.mem_map.mpr ⟨(s, v), h, e.symm⟩)
      rw [if_neg this]
      exact getN_of n2 h
theorem getN_app {ds es : List (Nm × α)} {s : Nm} : getN (ds ++ es) s = (getN ds s).or (getN es s) := by
  induction ds with
  | nil => simp [getN]
  | cons p ds ih =>
    rw [List.cons_append, getN_cons, getN_cons, ih]
    by_cases e : p.1 = s
    · rw [if_pos e, if_pos e]; rfl
    · rw [if_neg e, if_neg e]
theorem getN_in {ds : List (Nm × α)} {s : Nm} : (getN ds s).isSome = decide (s ∈ ds.map (·.1)) := by
  by_cases h : s ∈ ds.map (·.1)
  · obtain ⟨v, e⟩ := getN_has h
    rw [e, decide_eq_true h]; rfl
  · rw [getN_none h, decide_eq_false h]; rfl
theorem dN_in {ds : List (Nm × α)} {s : Nm} : (valV (dN f ds) (nK s)).isSome = decide (s ∈ ds.map (·.1)) := by
  rw [dN_val, Option.isSome_map, getN_in]
theorem dN_put {ds : List (Nm × α)} {s : Nm} {v : α} (h : s ∉ ds.map (·.1)) : putK (dN f ds) (nK s) (f v) = dN f (ds ++ [(s, v)]) := by
  have e : ((dN f ds).any fun kv => decide (kv.1 = nK s)) = false := by
    rw [List.any_eq_false]
    intro kv hkv
    obtain ⟨p, hp, rfl⟩ := List.mem_map.mp hkv
    rw [decide_eq_true_eq]
    exact fun g => h (by rw [← nK_inj g]; exact List.mem_map.mpr ⟨p, hp, rfl⟩)
  unfold putK
  rw [e, if_neg (by decide)]
  unfold dN; rw [List.map_append]; rfl
end
/-! ### the graph -/
theorem across_sym {r : Row} {s u : Nm} (ne : r.fst ≠ r.snd) (h : acrossL r s = some u) : acrossL r u = some s := by
  unfold acrossL at *
  by_cases e : s = r.fst
  · rw [if_pos e] at h
    rw [← Option.some.inj h, if_neg (Ne.symm ne), if_pos rfl, e]
  · rw [if_neg e] at h
    by_cases e2 : s = r.snd
    · rw [if_pos e2] at h
      rw [← Option.some.inj h, if_pos rfl, e2]
    · rw [if_neg e2] at h; cases h
theorem across_end {r : Row} {s u : Nm} (h : acrossL r s = some u) : (s = r.fst ∧ u = r.snd) ∨ (s = r.snd ∧ u = r.fst) := by
  unfold acrossL at h
  by_cases e : s = r.fst
  · rw [if_pos e] at h; exact .inl ⟨e, (Option.some.inj h).symm⟩
  · rw [if_neg e] at h
    by_cases e2 : s = r.snd
    · rw [if_pos e2] at h; exact .inr ⟨e2, (Option.some.inj h).symm⟩
    · rw [if_neg e2] at h; cases h
def Nbr (rs : List Row) (s u : Nm) : Prop := ∃ r ∈ rs, acrossL r s = some u
inductive Conn (rs : List Row) (a : Nm) : Nm → Prop where
  | refl : Conn rs a a
  | step {s u : Nm} : Conn rs a s → Nbr rs s u → Conn rs a u
theorem Conn.trans {rs : List Row} {a b c : Nm} (h : Conn rs a b) (k : Conn rs b c) : Conn rs a c := by
  induction k with
  | refl => exact h
  | step _ n ih => exact ih.step n
theorem Nbr.symm {rs : List Row} {s u : Nm} (hok : ∀ r ∈ rs, r.fst ≠ r.snd) (h : Nbr rs s u) : Nbr rs u s := let ⟨r, hr, e⟩ := h; ⟨r, hr, across_sym (hok r hr) e⟩
theorem Conn.symm {rs : List Row} {a b : Nm} (hok : ∀ r ∈ rs, r.fst ≠ r.snd) (h : Conn rs a b) : Conn rs b a := by
  induction h with
  | refl => exact .refl
  | step _ n ih => exact (Conn.step .refl (n.symm hok)).trans ih
/-- closed under steps -/
theorem Conn.closed {rs : List Row} {a b : Nm} {S : Nm → Prop} (ha : S a) (hs : ∀ s u, S s → Nbr rs s u → S u) (h : Conn rs a b) : S b := by
  induction h with
  | refl => exact ha
  | step _ n ih => exact hs _ _ ih n
def endsOf (rs : List Row) : List Nm := rs.map (·.fst) ++ rs.map (·.snd)
theorem ends_len {rs : List Row} : (endsOf rs).length = 2 * rs.length := by unfold endsOf; rw [List.length_append, List.length_map, List.length_map]; omega
theorem nbr_end {rs : List Row} {s u : Nm} (h : Nbr rs s u) : u ∈ endsOf rs := by
  obtain ⟨r, hr, e⟩ := h
  unfold endsOf
  rw [List.mem_append]
  rcases across_end e with ⟨_, rfl⟩ | ⟨_, rfl⟩
  · exact .inr (List.mem_map.mpr ⟨r, hr, rfl⟩)
  · exact .inl (List.mem_map.mpr ⟨r, hr, rfl⟩)
theorem conn_end {rs : List Row} {a b : Nm} (h : Conn rs a b) : b ∈ a :: endsOf rs := by
  cases h with
  | refl => simp
  | step _ n => exact List.mem_cons_of_mem _ (nbr_end n)
structure Away (rs : List Row) (g : Nm) (ds : List (Nm × Nat)) : Prop where
  nodup : (ds.map (·.1)).Nodup
  all : ∀ s, s ∈ ds.map (·.1) ↔ Conn rs g s
  less : ∀ s d, (s, d) ∈ ds → s ≠ g → ∃ r u e, r ∈ rs ∧ acrossL r s = some u ∧ (u, e) ∈ ds ∧ e < d
  lt : ∀ s d, (s, d) ∈ ds → d < ds.length
  few : ds.length ≤ 2 * rs.length + 1
def dist (d : Nat) : V := .int d
def spAway : Sp := fun vs H Q _ => ∃ (t p : Addr) (as : List Addr) (rs : List Row) (g : Nm), vs = [.ref t, .ref p, .str (strL g)] ∧ H t = some (.tup (as.map V.ref)) ∧ AllAt rHO H as rs ∧ H p = some (.lst ((List.range rs.length).map fun i => V.int (i : Nat))) ∧ rs.length ≤ 10 ∧ (∀ r ∈ rs, RowOk r) ∧
  ∀ (q : Addr) (ds : List (Nm × Nat)) (H' : Hp), Keep [] H H' → H q = none → H' q = some (.dK (dN dist ds)) → Away rs g ds → Q (.ref q) H'
/-- while the names are walked: ts wait, s is at hand with its first j rows done -/
structure Trek (rs : List Row) (g : Nm) (ds : List (Nm × Nat)) (ts : List Nm) (at1 : Option (Nm × Nat)) : Prop where
  nodup : (ds.map (·.1)).Nodup
  g0 : g ∈ ds.map (·.1)
  conn : ∀ s ∈ ds.map (·.1), Conn rs g s
  less : ∀ s d, (s, d) ∈ ds → s ≠ g → ∃ r u e, r ∈ rs ∧ acrossL r s = some u ∧ (u, e) ∈ ds ∧ e < d
  lt : ∀ s d, (s, d) ∈ ds → d < ds.length
  wait : ∀ s ∈ ts, s ∈ ds.map (·.1)
  done : ∀ s ∈ ds.map (·.1), s ∉ ts → (∀ j, at1 ≠ some (s, j)) → ∀ u, Nbr rs s u → u ∈ ds.map (·.1)
  part : ∀ s j, at1 = some (s, j) → s ∈ ds.map (·.1) ∧ ∀ (i : Nat) r u, i < j → rs[i]? = some r → acrossL r s = some u → u ∈ ds.map (·.1)
theorem Trek.few {rs : List Row} {g : Nm} {ds : List (Nm × Nat)} {ts : List Nm} {a : Option (Nm × Nat)} (h : Trek rs g ds ts a) : ds.length ≤ 2 * rs.length + 1 := by
  have := nodup_le h.nodup (xs := g :: endsOf rs) fun s hs => conn_end (h.conn s hs)
  rw [List.length_map, List.length_cons, ends_len] at this
  exact this
theorem Trek.start {rs : List Row} {g : Nm} : Trek rs g [(g, 0)] [g] none where
  nodup := by simp
  g0 := by simp
  conn := fun s hs => by
    obtain rfl : s = g := by simpa using hs
    exact .refl
  less := fun s d h n => by
    have : s = g := (Prod.mk.inj (List.mem_singleton.mp h)).1
    exact (n this).elim
  lt := fun s d h => by
    have : d = 0 := (Prod.mk.inj (List.mem_singleton.mp h)).2
    rw [this]; simp
  wait := fun s hs => by simpa using hs
  done := fun s hs n _ => (n (by simpa using hs)).elim
  part := fun s j e => nomatch e
theorem Trek.pop {rs : List Row} {g s : Nm} {ds : List (Nm × Nat)} {ts : List Nm} (h : Trek rs g ds (s :: ts) none) : Trek rs g ds ts (some (s, 0)) where
  nodup := h.nodup
  g0 := h.g0
  conn := h.conn
  less := h.less
  lt := h.lt
  wait := fun x hx => h.wait x (List.mem_cons_of_mem _ hx)
  done := fun x hx n1 n2 => h.done x hx (fun z => (List.mem_cons.mp z).elim (fun e => n2 0 (by rw [e])) n1) fun _ e => nomatch e
  part := fun x j e => by
    obtain ⟨rfl, rfl⟩ : x = s ∧ j = 0 := by have := Option.some.inj e; exact ⟨(Prod.mk.inj this).1.symm, (Prod.mk.inj this).2.symm⟩
    exact ⟨h.wait _ (by simp), fun i r u hi => absurd hi (Nat.not_lt_zero _)⟩
theorem part_at {s x : Nm} {j k : Nat} (e : (some (s, j) : Option (Nm × Nat)) = some (x, k)) : s = x ∧ j = k := ⟨(Prod.mk.inj (Option.some.inj e)).1, (Prod.mk.inj (Option.some.inj e)).2⟩
/-- the next row leads nowhere new -/
theorem Trek.next {rs : List Row} {g s : Nm} {ds : List (Nm × Nat)} {ts : List Nm} {j : Nat} {r : Row} (h : Trek rs g ds ts (some (s, j))) (hr : rs[j]? = some r) (ho : ∀ u, acrossL r s = some u → u ∈ ds.map (·.1)) : Trek rs g ds ts (some (s, j + 1)) where
  nodup := h.nodup
  g0 := h.g0
  conn := h.conn
  less := h.less
  lt := h.lt
  wait := h.wait
  done := fun x hx n1 n2 => h.done x hx n1 fun i e => n2 (j + 1) (by rw [(part_at e).1])
  part := fun x k e => by
    obtain ⟨rfl, rfl⟩ := part_at e
    obtain ⟨p1, p2⟩ := h.part s j rfl
    refine ⟨p1, fun i r' u hi hr' hu => ?_⟩
    rcases Nat.lt_succ_iff_lt_or_eq.mp hi with hi | rfl
    · exact p2 i r' u hi hr' hu
    · rw [hr] at hr'; cases hr'; exact ho u hu
/-- it leads to u -/
theorem Trek.add {rs : List Row} {g s u : Nm} {ds : List (Nm × Nat)} {ts : List Nm} {j d : Nat} {r : Row} (h : Trek rs g ds ts (some (s, j))) (hr : rs[j]? = some r) (ho : acrossL r s = some u) (hu : u ∉ ds.map (·.1)) (hd : (s, d) ∈ ds) (hok : r.fst ≠ r.snd) : Trek rs g (ds ++ [(u, d + 1)]) (ts ++ [u]) (some (s, j + 1)) where
  nodup := by
    rw [List.map_append]
    exact List.nodup_append.mpr ⟨h.nodup, by simp, fun a ha b hb e => by
      obtain rfl : b = u := by simpa using hb
      exact hu (by rw [← e]; exact ha)⟩
  g0 := by rw [List.map_append]; exact List.mem_append_left _ h.g0
  conn := fun x hx => by
    rw [List.map_append, List.mem_append] at hx
    rcases hx with hx | hx
    · exact h.conn x hx
    · obtain rfl : x = u := by simpa using hx
      exact (h.conn s (h.part s j rfl).1).step ⟨r, List.mem_of_getElem? hr, ho⟩
  less := fun x e hx n => by
    rcases List.mem_append.mp hx with hx | hx
    · obtain ⟨r', u', e', h1, h2, h3, h4⟩ := h.less x e hx n
      exact ⟨r', u', e', h1, h2, List.mem_append_left _ h3, h4⟩
    · obtain ⟨rfl, rfl⟩ := Prod.mk.inj (List.mem_singleton.mp hx)
      exact ⟨r, s, d, List.mem_of_getElem? hr, across_sym hok ho, List.mem_append_left _ hd, Nat.lt_succ_self _⟩
  lt := fun x e hx => by
    rw [List.length_append, List.length_singleton]
    rcases List.mem_append.mp hx with hx | hx
    · exact Nat.lt_succ_of_lt (h.lt x e hx)
    · have e1 : e = d + 1 := (Prod.mk.inj (List.mem_singleton.mp hx)).2
      rw [e1]
      exact Nat.succ_lt_succ (h.lt s d hd)
  wait := fun x hx => by
    rw [List.map_append, List.mem_append]
    rcases List.mem_append.mp hx with hx | hx
    · exact .inl (h.wait x hx)
    · exact .inr (by simpa using hx)
  done := fun x hx n1 n2 v hv => by
    rw [List.mem_append, not_or] at n1
    rw [List.map_append, List.mem_append] at hx
    rw [List.map_append, List.mem_append]
    rcases hx with hx | hx
    · exact .inl (h.done x hx n1.1 (fun i e => n2 (j + 1) (by rw [(part_at e).1])) v hv)
    · exact (n1.2 (by simpa using hx)).elim
  part := fun x k e => by
    obtain ⟨rfl, rfl⟩ := part_at e
    obtain ⟨p1, p2⟩ := h.part s j rfl
    rw [List.map_append]
    refine ⟨List.mem_append_left _ p1, fun i r' u' hi hr' hu' => ?_⟩
    rw [List.mem_append]
    rcases Nat.lt_succ_iff_lt_or_eq.mp hi with hi | rfl
    · exact .inl (p2 i r' u' hi hr' hu')
    · rw [hr] at hr'; cases hr'
      rw [ho] at hu'; cases hu'
      exact .inr (by simp)
theorem Trek.over {rs : List Row} {g s : Nm} {ds : List (Nm × Nat)} {ts : List Nm} (h : Trek rs g ds ts (some (s, rs.length))) : Trek rs g ds ts none where
  nodup := h.nodup
  g0 := h.g0
  conn := h.conn
  less := h.less
  lt := h.lt
  wait := h.wait
  done := fun x hx n1 _ u hu => by
    by_cases e : x = s
    · obtain ⟨r, hr, ha⟩ := hu
      obtain ⟨i, hi⟩ := List.mem_iff_getElem?.mp hr
      rw [e] at ha
      exact (h.part s _ rfl).2 i r u (List.getElem?_eq_some_iff.mp hi).1 hi ha
    · exact h.done x hx n1 (fun j z => e (part_at z).1.symm) u hu
  part := fun x j e => nomatch e
theorem Trek.end {rs : List Row} {g : Nm} {ds : List (Nm × Nat)} (h : Trek rs g ds [] none) : Away rs g ds where
  nodup := h.nodup
  less := h.less
  lt := h.lt
  few := h.few
  all := fun s => ⟨h.conn s, fun hc => hc.closed (S := fun x => x ∈ ds.map (·.1)) h.g0 fun x u hx hu => h.done x hx (by simp) (fun _ e => nomatch e) u hu⟩
/-! ### strikes_away -/
theorem r_disp {tk tv : TE} {σ : L2.St} {H : Hp} {Q : VK} (k : ∀ p, H p = none → tk σ (upd H p (.dK [])) fun y H1 => tv σ H1 fun z H2 => ∃ k : Key, y = kV k ∧ H2 p = some (.dK []) ∧ Q (.ref p) (upd H2 p (.dK [(k, z)]))) : Dk.tDisp1K tk tv σ H Q := k
theorem r_truLst {K : PySem.W.Frag} {H : Hp} {p : Addr} {xs : List V} {R : Bool → Prop} (h : SqL K H p xs) (k : R (!xs.isEmpty)) : ∃ b, TruV K (.ref p) H b ∧ R b := ⟨_, .inl ⟨xs, h, rfl⟩, k⟩
theorem cut_tail {x : V} {xs : List V} : cutV (x :: xs) (some 1) none = xs := by
  unfold cutV
  rw [show (1 : Int) = ((1 : Nat) : Int) from rfl, HT.sIx_nat, HT.sIx_none, show min 1 (x :: xs).length = 1 from by simp only [List.length_cons]; omega]
  simp
section
variable {P : Program} {w : World} {K : PySem.W.Frag} {mg : Str → Option Value} {base : Heap}
theorem ok_away (T : Tx K mg) (G_across : FnOk P w K mg base CX0 1 T.f_across T.fd_across ["row", "name"] spAcross) : FnOk P w K mg base CX0 2 T.f_strikes_away T.fd_strikes_away ["rows", "indexes", "goal"] spAway := by
  refine T.F_strikes_away.ok sc_strikes_away (fun vs H Q E h => ?_) (fun cdv A outer s H vs Q E hr h => ?_)
  · obtain ⟨t, p, as, rs, g, rfl, _⟩ := h; rfl
  · obtain ⟨t, p, as, rs, g, rfl, et, har, ep, l10, hok, qq⟩ := h
    have lar := har.len
    refine ⟨_, (pss_cons (ps_set (i := 3) sc_strikes_away.nd rfl (Or.inl rfl) (Dk.pe_disp1K (Nat.lt_of_succ_lt (Dt.inD_of hr)) (pv 2) pe_int))
    (pss_cons (ps_set (i := 4) sc_strikes_away.nd rfl (Or.inl rfl) (pe_lst (pa_cons (pv 2) pa_nil)))
    (pss_cons (ps_while PassesOwn.never (pt_truth (pv 4) (by intro _; rfl))
    (pss_cons (ps_set (i := 5) sc_strikes_away.nd rfl (Or.inl rfl) (pe_ix ix_list (pv 4) pe_int (fun _ _ => rfl)))
    (pss_cons (ps_set (i := 4) sc_strikes_away.nd rfl (Or.inl rfl) (pe_slice sl_list (pv 4) (po_some pe_int) po_none))
    (pss_one (ps_for PassesOwn.never rfl (pi_list (pv 1)) (pg_name (i := 6) sc_strikes_away.nd rfl (Or.inl rfl))
    (pss_cons (ps_set (i := 7) sc_strikes_away.nd rfl (Or.inl rfl) (pe_call G_across (hr.mono (by decide)) rfl T.g_across T.F_across.kp T.b_across .nil pass0 (pa_cons (pe_ix ix_tup (pv 0) (pv 6) (fun _ _ => rfl)) (pa_cons (pv 5) pa_nil))))
    (pss_one (ps_if (PW.pt (pw_and (pt_cmpR op_notNc (pv 7) pe_non (nomark _)) (pw_and1 (pt_cmp (pc_dnotin (hu_of hr) (pv 7) (pv 3))))))
    (pss_cons (ps_dput (hu_of hr) (pv 3) (pv 7) (pe_op op_add (pe_dget (hu_of hr) (pv 3) (pv 5) (fun _ _ => rfl)) pe_int) rfl)
    (pss_one (ps_expr (pe_bm PySem.F.plainAttrs_list PySem.F.slot_list_append PySem.F.type_list_append mt_append (pv 4) (pa_cons (pv 7) pa_nil)))))
    pss_nil))))))))
    (pss_one (ps_ret (pv 3)))))), ?_⟩
    walk_at "start"
    walk_at "sts"
    refine r_disp fun m hm => ?_
    walk_at "sts"
    refine ⟨nK g, rfl, upd_same, ?_⟩
    rw [upd_upd]
    have k1 : Keep [] H (upd H m (.dK [(nK g, .int 0)])) := Keep.new hm
    have e1 : upd H m (.dK [(nK g, .int 0)]) m = some (.dK (dN dist [(g, 0)])) := upd_same
    generalize upd H m (.dK [(nK g, .int 0)]) = H1 at k1 e1 ⊢
    walk_at "sts"
    intro l hl
    have k2 : Keep [] H1 (upd H1 l (.lst [.str (strL g)])) := Keep.new hl
    have e2 : upd H1 l (.lst [.str (strL g)]) l = some (.lst ([g].map nV)) := upd_same
    have e1 := k2 _ _ (by simp) e1
    have k12 := k1.trans k2
    have hlH := k1.free (by simp) hl
    generalize upd H1 l (.lst [.str (strL g)]) = H2 at k12 e1 e2 ⊢
    clear k1 k2 hl
    walk_at "sts"
    refine r_while (fun n σ' H' => ∃ (l : Addr) (ds : List (Nm × Nat)) (ts : List Nm) (y5 y6 y7 : Option V), σ' = [some (.ref t), some (.ref p), some (.str (strL g)), some (.ref m), some (.ref l), y5, y6, y7] ∧ H' m = some (.dK (dN dist ds)) ∧ H' l = some (.lst (ts.map nV)) ∧ Keep [] H H' ∧ H l = none ∧ Trek rs g ds ts none ∧ n = 2 * (2 * rs.length + 1 - ds.length) + ts.length ∧ 2 * (2 * rs.length + 1 - ds.length) + ts.length ≤ 100)
      ⟨l, [(g, 0)], [g], _, _, _, by first | exact rfl | trivial, e1, e2, k12, hlH, Trek.start, rfl, by simp only [List.length_cons, List.length_nil]; omega⟩ ?_
    clear e1 e2 k12 hlH
    rintro n σ' H3 ⟨l, ds, ts, y5, y6, y7, rfl, e1, e2, k3, hl, tr, rfl, le0⟩
    walk_at "sts"
    refine r_truLst (sqL_of e2) ?_
    rcases ts with _ | ⟨s, ts⟩
    · rw [show (!(([] : List Nm).map nV).isEmpty) = false from rfl, if_neg (by decide)]
      walk_at "sts"
      exact qq m ds H3 k3 hm e1 tr.end
    · rw [show (!((s :: ts).map nV).isEmpty) = true from rfl, if_pos rfl]
      refine r_turn ?_
      walk_at "sts"
      refine ⟨l, _, rfl, sqL_of e2, fun l2 hl2 => ?_⟩
      rw [show cutV ((s :: ts).map nV) (some 1) none = ts.map nV from cut_tail]
      have k4 : Keep [] H3 (upd H3 l2 (.lst (ts.map nV))) := Keep.new hl2
      have e3 : upd H3 l2 (.lst (ts.map nV)) l2 = some (.lst (ts.map nV)) := upd_same
      have e1 := k4 _ _ (by simp) e1
      have k34 := k3.trans k4
      have hl2H := k3.free (by simp) hl2
      generalize upd H3 l2 (.lst (ts.map nV)) = H4 at k34 e1 e3 ⊢
      clear k3 k4 hl2 e2
      walk_at "sts"
      have lf := tr.few
      simp only [List.length_cons] at le0
      refine forL_go (fun i σ' H' => ∃ (ds' : List (Nm × Nat)) (ts' : List Nm) (y6 y7 : Option V), σ' = [some (.ref t), some (.ref p), some (.str (strL g)), some (.ref m), some (.ref l2), some (.str (strL s)), y6, y7] ∧ H' m = some (.dK (dN dist ds')) ∧ H' l2 = some (.lst (ts'.map nV)) ∧ Keep [] H H' ∧ Trek rs g ds' ts' (some (s, i)) ∧ 2 * (2 * rs.length + 1 - ds'.length) + ts'.length ≤ 2 * (2 * rs.length + 1 - ds.length) + ts.length)
        (sqL_of (k34 _ _ (by simp) ep)) ⟨ds, ts, _, _, by first | exact rfl | trivial, e1, e3, k34, tr.pop, Nat.le_refl _⟩ (fun i σ' H' _ h => by obtain ⟨_, _, _, _, _, _, _, k, _⟩ := h; exact sqL_of (k _ _ (by simp) ep)) ?_ ?_
      · clear e1 e3 k34
        rintro i v σ' H5 hv ⟨ds', ts', y6, y7, rfl, e1, e3, k5, tr', le⟩
        obtain ⟨j, hj, rfl⟩ : ∃ j : Nat, (List.range rs.length)[i]? = some j ∧ V.int (j : Int) = v := by
          rw [List.getElem?_map] at hv
          obtain ⟨j, a, b⟩ := Option.map_eq_some_iff.mp hv
          exact ⟨j, a, b⟩
        have hi : i < rs.length := by simpa using (List.getElem?_eq_some_iff.mp hj).1
        obtain rfl : j = i := by
          rw [List.getElem?_range hi] at hj; exact (Option.some.inj hj).symm
        obtain ⟨b, hb⟩ : ∃ b, as[j]? = some b := ⟨_, List.getElem?_eq_getElem (by omega)⟩
        obtain ⟨r, hr2, eb⟩ := har.get hb
        have et5 := k5 _ _ (by simp) et
        walk_at "sts"
        refine r_ixT (sqT_of et5) (atI_nat (j := j) (by rw [List.getElem?_map, hb]; rfl)) ?_
        walk_at "sts"
        refine ⟨b, r, s, rfl, k5 _ _ (by simp) eb, ?_⟩
        cases ho : acrossL r s with
        | none =>
          dsimp only [oSL]
          walk_at "sts"
          exact ⟨ds', ts', _, _, by first | exact rfl | trivial, e1, e3, k5, tr'.next hr2 (fun u hu => by rw [ho] at hu; cases hu), le⟩
        | some u =>
          dsimp only [oSL]
          walk_at "sts"
          refine r_dinS e1 ?_
          rw [show (valV (dN dist ds') (Sum.inr (strL u))).isSome = decide (u ∈ ds'.map (·.1)) from dN_in]
          refine ⟨_, rfl, ?_⟩
          by_cases hu : u ∈ ds'.map (·.1)
          · rw [decide_eq_true hu, Bool.not_true, if_neg (by decide)]
            walk_at "sts"
            exact ⟨ds', ts', _, _, by first | exact rfl | trivial, e1, e3, k5, tr'.next hr2 (fun v hv => by rw [ho] at hv; cases hv; exact hu), le⟩
          · rw [decide_eq_false hu, Bool.not_false, if_pos rfl]
            walk_at "sts"
            obtain ⟨d, hd⟩ := getN_has (tr'.part s j rfl).1
            refine r_dgetS e1 (show valV (dN dist ds') (nK s) = some (V.int (d : Int)) by rw [dN_val, hd]; rfl) ?_
            have lf' := tr'.few
            walk_at "sts"
            refine r_dputS e1 (by rw [dN_len]; exact lt_size (by omega)) ?_
            rw [show putK (dN dist ds') (Sum.inr (strL u)) (V.int ((d : Int) + 1)) = dN dist (ds' ++ [(u, d + 1)]) from dN_put (f := dist) (v := d + 1) hu]
            have e6 : upd H5 m (.dK (dN dist (ds' ++ [(u, d + 1)]))) m = some (.dK (dN dist (ds' ++ [(u, d + 1)]))) := upd_same
            have nlm : l2 ≠ m := by rintro rfl; rw [e1] at e3; cases e3
            have e7 : upd H5 m (.dK (dN dist (ds' ++ [(u, d + 1)]))) l2 = some (.lst (ts'.map nV)) := by rw [upd_ne nlm]; exact e3
            have k6 : Keep [] H (upd H5 m (.dK (dN dist (ds' ++ [(u, d + 1)])))) := k5.mut hm
            generalize upd H5 m (.dK (dN dist (ds' ++ [(u, d + 1)]))) = H6 at e6 e7 k6 ⊢
            have lt' : ts'.length ≤ 1000 := by omega
            walk_at "sts"
            have k7 : Keep [] H (upd H6 l2 (.lst (ts'.map nV ++ [V.str (strL u)]))) := k6.mut hl2H
            refine ⟨ds' ++ [(u, d + 1)], ts' ++ [u], _, _, by first | exact rfl | trivial, by rw [upd_ne (Ne.symm nlm)]; exact e6, by rw [upd_same, List.map_append]; rfl, k7, tr'.add hr2 ho hu (getN_mem hd) (hok r (List.mem_of_getElem? hr2)).ne, ?_⟩
            have lf2 := (tr'.add hr2 ho hu (getN_mem hd) (hok r (List.mem_of_getElem? hr2)).ne).few
            rw [List.length_append, List.length_append, List.length_singleton, List.length_singleton] at *
            omega
      · rintro σ' H5 ⟨ds', ts', y6, y7, rfl, e1, e3, k5, tr', le⟩
        rw [List.length_map, List.length_range] at tr'
        have lf' := tr'.few
        refine ⟨_, ?_, l2, ds', ts', _, _, _, by first | exact rfl | trivial, e1, e3, k5, hl2H, tr'.over, rfl, by omega⟩
        simp only [List.length_cons]; omega
end
/-! ### least_walk, walk -/
def spLeast : Sp := fun vs H Q _ => ∃ (t p : Addr) (as : List Addr) (rs : List Row) (a g : Nm), vs = [.ref t, .ref p, .str (strL a), .str (strL g)] ∧ H t = some (.tup (as.map V.ref)) ∧ AllAt rHO H as rs ∧ H p = some (.lst ((List.range rs.length).map fun i => V.int (i : Nat))) ∧ rs.length ≤ 10 ∧ (∀ r ∈ rs, RowOk r) ∧
  (∀ H', Keep [] H H' → ¬ Conn rs g a → Q .non H') ∧ ∀ q xs H', Keep [] H H' → H q = none → H' q = some (.lst xs) → Conn rs g a → Q (.ref q) H'
theorem r_listRg {ta : TE} {σ : L2.St} {H : Hp} {Q : VK} (k : ta σ H fun x H1 => ∃ n : Int, x = .int n ∧ RgOk 0 n ∧ ∀ q, H1 q = none → Q (.ref q) (upd H1 q (.lst (rgV 0 n)))) : tLstRg (tRg1 ta) σ H Q := k
theorem rgV_0 {n : Nat} : rgV 0 (n : Int) = (List.range n).map fun i => V.int (i : Nat) := by
  unfold rgV
  rw [show ((n : Int) - 0).toNat = n by omega]
  apply List.map_congr_left
  intro i _
  rw [Int.zero_add]
section
variable {P : Program} {w : World} {K : PySem.W.Frag} {mg : Str → Option Value} {base : Heap}
theorem ok_least (T : Tx K mg) (G_across : FnOk P w K mg base CX0 1 T.f_across T.fd_across ["row", "name"] spAcross) (G_strikes_away : FnOk P w K mg base CX0 2 T.f_strikes_away T.fd_strikes_away ["rows", "indexes", "goal"] spAway) : FnOk P w K mg base CX0 3 T.f_least_walk T.fd_least_walk ["rows", "indexes", "first", "second"] spLeast := by
  refine T.F_least_walk.ok sc_least_walk (fun vs H Q E h => ?_) (fun cdv A outer s H vs Q E hr h => ?_)
  · obtain ⟨t, p, as, rs, a, g, rfl, _⟩ := h; rfl
  · obtain ⟨t, p, as, rs, a, g, rfl, et, har, ep, l10, hok, qn, qq⟩ := h
    have lar := har.len
    refine ⟨_, (pss_cons (ps_set (i := 4) sc_least_walk.nd rfl (Or.inl rfl) (pe_call G_strikes_away (hr.mono (by decide)) rfl T.g_strikes_away T.F_strikes_away.kp T.b_strikes_away .nil pass0 (pa_cons (pv 0) (pa_cons (pv 1) (pa_cons (pv 3) pa_nil)))))
    (pss_cons (ps_if (pt_cmp (pc_dnotin (hu_of hr) (pv 2) (pv 4)))
    (pss_one (ps_ret pe_non))
    pss_nil)
    (pss_cons (ps_set (i := 5) sc_least_walk.nd rfl (Or.inl rfl) (pe_lst pa_nil))
    (pss_cons (ps_set (i := 6) sc_least_walk.nd rfl (Or.inl rfl) (pv 2))
    (pss_cons (ps_while PassesOwn.never (pt_cmpR op_ne (pv 6) (pv 3) (nomark _))
    (pss_one (ps_for PassesOwn.never rfl (pi_list (pv 1)) (pg_name (i := 7) sc_least_walk.nd rfl (Or.inl rfl))
    (pss_cons (ps_set (i := 8) sc_least_walk.nd rfl (Or.inl rfl) (pe_call G_across (hr.mono (by decide)) rfl T.g_across T.F_across.kp T.b_across .nil pass0 (pa_cons (pe_ix ix_tup (pv 0) (pv 7) (fun _ _ => rfl)) (pa_cons (pv 6) pa_nil))))
    (pss_one (ps_if (PW.pt (pw_and (pt_cmpR op_notNc (pv 8) pe_non (nomark _)) (pw_and1 (pt_cmpR op_lt (pe_dget (hu_of hr) (pv 4) (pv 8) (fun _ _ => rfl)) (pe_dget (hu_of hr) (pv 4) (pv 6) (fun _ _ => rfl)) (nomark _)))))
    (pss_cons (ps_expr (pe_bm PySem.F.plainAttrs_list PySem.F.slot_list_append PySem.F.type_list_append mt_append (pv 5) (pa_cons (pv 7) pa_nil)))
    (pss_cons (ps_set (i := 6) sc_least_walk.nd rfl (Or.inl rfl) (pv 8))
    (pss_one ps_break)))
    pss_nil))))))
    (pss_one (ps_ret (pv 5)))))))), ?_⟩
    walk_at "start"
    walk_at "sts"
    refine ⟨t, p, as, rs, g, rfl, et, har, ep, l10, hok, fun q ds H1 k1 nq eq1 aw => ?_⟩
    walk_at "sts"
    refine r_dinS eq1 ?_
    rw [show (valV (dN dist ds) (Sum.inr (strL a))).isSome = decide (a ∈ ds.map (·.1)) from dN_in]
    refine ⟨_, rfl, ?_⟩
    by_cases ha : a ∈ ds.map (·.1)
    · rw [decide_eq_true ha, Bool.not_true, if_neg (by decide)]
      have hc := (aw.all a).mp ha
      walk_at "sts"
      intro l hl
      have k2 : Keep [] H1 (upd H1 l (.lst [])) := Keep.new hl
      have e2 : upd H1 l (.lst []) l = some (.lst []) := upd_same
      have eq1 := k2 _ _ (by simp) eq1
      have k12 := k1.trans k2
      have hlH := k1.free (by simp) hl
      have nlq : l ≠ q := ne_free (H := H1) (by assumption) hl
      generalize upd H1 l (.lst []) = H2 at k12 eq1 e2 ⊢
      clear k1 k2 hl
      walk_at "sts"
      obtain ⟨d0, hd0⟩ := getN_has ha
      have few := aw.few
      refine r_while (fun n σ' H' => ∃ (s : Nm) (xs : List V) (y7 y8 : Option V), σ' = [some (.ref t), some (.ref p), some (.str (strL a)), some (.str (strL g)), some (.ref q), some (.ref l), some (.str (strL s)), y7, y8] ∧ H' q = some (.dK (dN dist ds)) ∧ H' l = some (.lst xs) ∧ Keep [] H H' ∧ (s, n) ∈ ds ∧ xs.length + n ≤ 100)
        ⟨a, [], _, _, by first | exact rfl | trivial, eq1, e2, k12, getN_mem hd0, by have := aw.lt a d0 (getN_mem hd0); simp only [List.length_nil]; omega⟩ ?_
      clear e2 k12 eq1
      rintro n σ' H3 ⟨s, xs, y7, y8, rfl, e1, e2, k3, hs, le⟩
      walk_at "sts"
      by_cases esg : s = g
      · rw [decide_eq_true (by rw [esg]), Bool.not_true, if_neg (by decide)]
        walk_at "sts"
        exact qq l xs H3 k3 hlH e2 (hc)
      rw [decide_eq_false (fun e => esg (strL_inj e)), Bool.not_false, if_pos rfl]
      refine r_turn ?_
      obtain ⟨rL, uL, dL, hrL, haL, huL, ltL⟩ := aw.less s n hs esg
      have gs := getN_of aw.nodup hs
      refine r_forL ?_
      walk_at "sts"
      refine forL_go (fun i σ' H' => ∃ (y7 y8 : Option V), σ' = [some (.ref t), some (.ref p), some (.str (strL a)), some (.str (strL g)), some (.ref q), some (.ref l), some (.str (strL s)), y7, y8] ∧ H' q = some (.dK (dN dist ds)) ∧ H' l = some (.lst xs) ∧ Keep [] H H' ∧ ∀ (j : Nat) r u d, j < i → rs[j]? = some r → acrossL r s = some u → (u, d) ∈ ds → ¬ d < n)
        (sqL_of (k3 _ _ (by simp) ep)) ⟨_, _, by first | exact rfl | trivial, e1, e2, k3, fun j r u d h => absurd h (Nat.not_lt_zero _)⟩ (fun i σ' H' _ h => by obtain ⟨_, _, _, _, _, k, _⟩ := h; exact sqL_of (k _ _ (by simp) ep)) ?_ ?_
      · clear e1 e2 k3
        rintro i v σ' H5 hv ⟨y7, y8, rfl, e1, e2, k5, no⟩
        obtain ⟨j, hj, rfl⟩ : ∃ j : Nat, (List.range rs.length)[i]? = some j ∧ V.int (j : Int) = v := by
          rw [List.getElem?_map] at hv
          obtain ⟨j, a, b⟩ := Option.map_eq_some_iff.mp hv
          exact ⟨j, a, b⟩
        have hi : i < rs.length := by simpa using (List.getElem?_eq_some_iff.mp hj).1
        obtain rfl : j = i := by
          rw [List.getElem?_range hi] at hj; exact (Option.some.inj hj).symm
        obtain ⟨b, hb⟩ : ∃ b, as[j]? = some b := ⟨_, List.getElem?_eq_getElem (by omega)⟩
        obtain ⟨r, hr2, eb⟩ := har.get hb
        have et5 := k5 _ _ (by simp) et
        walk_at "sts"
        refine r_ixT (sqT_of et5) (atI_nat (j := j) (by rw [List.getElem?_map, hb]; rfl)) ?_
        walk_at "sts"
        refine ⟨b, r, s, rfl, k5 _ _ (by simp) eb, ?_⟩
        cases ho : acrossL r s with
        | none =>
          dsimp only [oSL]
          walk_at "sts"
          refine ⟨_, _, by first | exact rfl | trivial, e1, e2, k5, fun j' r' u d hj' hr' hu hd => ?_⟩
          rcases Nat.lt_succ_iff_lt_or_eq.mp hj' with h | rfl
          · exact no j' r' u d h hr' hu hd
          · rw [hr2] at hr'; cases hr'; rw [ho] at hu; cases hu
        | some u =>
          dsimp only [oSL]
          obtain ⟨du, hdu⟩ := getN_has ((aw.all u).mpr (((aw.all s).mp (List.mem_map.mpr ⟨_, hs, rfl⟩)).step ⟨r, List.mem_of_getElem? hr2, ho⟩))
          walk_at "sts"
          refine r_dgetS e1 (show valV (dN dist ds) (nK u) = some (V.int (du : Int)) by rw [dN_val, hdu]; rfl) ?_
          walk_at "sts"
          refine r_dgetS e1 (show valV (dN dist ds) (nK s) = some (V.int (n : Int)) by rw [dN_val, gs]; rfl) ?_
          walk_at "sts"
          refine r_ite (fun c1 => ?_) (fun c1 => ?_)
          · have ldu : du < n := by omega
            walk_at "sts"
            refine r_app e2 (lt_size (by omega)) ?_
            walk_at "sts"
            exact ⟨du, ldu, u, xs ++ [.int (j : Int)], _, _, by first | exact rfl | trivial, by rw [upd_ne (Ne.symm nlq)]; exact e1, upd_same, k5.mut hlH, getN_mem hdu, by rw [List.length_append, List.length_singleton]; omega⟩
          · walk_at "sts"
            refine ⟨_, _, by first | exact rfl | trivial, e1, e2, k5, fun j' r' u' d hj' hr' hu hd => ?_⟩
            rcases Nat.lt_succ_iff_lt_or_eq.mp hj' with h | rfl
            · exact no j' r' u' d h hr' hu hd
            · rw [hr2] at hr'; cases hr'; rw [ho] at hu; cases hu
              have := getN_of aw.nodup hd
              rw [hdu] at this; cases this
              omega
      · rintro σ' H5 ⟨y7, y8, rfl, e1, e2, k5, no⟩
        rw [List.length_map, List.length_range] at no
        obtain ⟨i, hi⟩ := List.mem_iff_getElem?.mp hrL
        exact (no i rL uL dL (List.getElem?_eq_some_iff.mp hi).1 hi haL huL ltL).elim
    · rw [decide_eq_false ha, Bool.not_false, if_pos rfl]
      walk_at "sts"
      exact qn H1 k1 fun hc => ha ((aw.all a).mpr hc)
/-- where both are names that hang together -/
def spWalkS (C : Addr) : Sp := fun vs H Q _ => ∃ (x : Addr) (rs : List Row) (a b : Nm), vs = [.ref x, .str (strL a), .str (strL b)] ∧ StrikesAt C H x rs ∧ rs.length ≤ 10 ∧ (∀ r ∈ rs, RowOk r) ∧ a ∈ endsOf rs ∧ b ∈ endsOf rs ∧ Conn rs b a ∧ ∀ v H', Keep [] H H' → Q v H'
theorem ends_iff {rs : List Row} {ns : List Nm} (h : IsNames rs ns) {a : Nm} : a ∈ ns ↔ a ∈ endsOf rs := by
  rw [h.2.1]
  unfold endsOf
  rw [List.mem_append, List.mem_map, List.mem_map]
  constructor
  · rintro ⟨r, hr, rfl | rfl⟩
    · exact .inl ⟨r, hr, rfl⟩
    · exact .inr ⟨r, hr, rfl⟩
  · rintro (⟨r, hr, rfl⟩ | ⟨r, hr, rfl⟩)
    · exact ⟨r, hr, .inl rfl⟩
    · exact ⟨r, hr, .inr rfl⟩
theorem ok_walkS (T : Tx K mg) (G_Strikes_names : FnOk P w K mg base CX0 1 T.f_Strikes_names T.fd_Strikes_names ["self"] (spNamesS T.C_Strikes)) (G_least_walk : FnOk P w K mg base CX0 3 T.f_least_walk T.fd_least_walk ["rows", "indexes", "first", "second"] spLeast) : FnOk P w K mg base CX0 4 T.f_Strikes_walk T.fd_Strikes_walk ["self", "first", "second"] (spWalkS T.C_Strikes) := by
  refine T.F_Strikes_walk.ok sc_Strikes_walk (fun vs H Q E h => ?_) (fun cdv A outer s H vs Q E hr h => ?_)
  · obtain ⟨x, rs, a, b, rfl, _⟩ := h; rfl
  · obtain ⟨x, rs, a, b, rfl, st, l10, hok, ha, hb, hc, qq⟩ := h
    obtain ⟨dx, t, as, ex, et, har⟩ := id st
    have lar := har.len
    have oc := T.oc_Strikes
    have na := T.na_Strikes_rows
    refine ⟨_, PSs.nox (pss_cons (ps_set (i := 3) sc_Strikes_walk.nd rfl (Or.inl rfl) (pe_meth0 (pv 0) T.oc_Strikes.cl T.me_Strikes_names G_Strikes_names (hr.mono (by decide)) T.b_Strikes_names .nil pass0))
    (pss_cons (ps_for PassesOwn.never rfl (pi_tup (pe_tup (pa_cons (pv 1) (pa_cons (pv 2) pa_nil)))) (pg_name (i := 4) sc_Strikes_walk.nd rfl (Or.inl rfl))
    (pss_one (ps_if (pt_cmpR op_notIn_seq (pv 4) (pv 3) (by rfl))
    (pss_one ps_never)
    pss_nil)))
    (pss_cons (ps_set (i := 5) sc_Strikes_walk.nd rfl (Or.inl rfl) (pe_call G_least_walk (hr.mono (by decide)) rfl T.g_least_walk T.F_least_walk.kp T.b_least_walk .nil pass0 (pa_cons (pe_fld (pv 0) rfl) (pa_cons (pe_listRg rfl (by rfl) T.m_list (prg_1 (by rfl) T.m_range (pe_callB call_len_seq (by rfl) T.m_len PySem.boot_len (pa_cons (pe_fld (pv 0) rfl) pa_nil)))) (pa_cons (pv 1) (pa_cons (pv 2) pa_nil))))))
    (pss_cons (ps_if (pt_cmpR op_isNc (pv 5) pe_non (nomark _))
    (pss_one ps_never)
    pss_nil)
    (pss_one (ps_ret (pv 5))))))), ?_⟩
    walk_at "start"
    walk_at "sts"
    refine ⟨x, rs, rfl, st, l10, hok, fun q ns H1 k1 nq nn isn => ?_⟩
    have ma := (ends_iff isn).mpr ha
    have mb := (ends_iff isn).mpr hb
    have nn2 : H1 q = some (.lst (ns.map fun u => V.str (strL u))) := nn
    have fls : (ns.map fun u => V.str (strL u)).all L2.flatV = true := by
      rw [List.all_eq_true]; intro x hx; obtain ⟨u, _, rfl⟩ := List.mem_map.mp hx; rfl
    walk_at "sts"
    intro tp ntp
    have k2 : Keep [] H1 (upd H1 tp (.tup [.str (strL a), .str (strL b)])) := Keep.new ntp
    have e2 : upd H1 tp (.tup [.str (strL a), .str (strL b)]) tp = some (.tup [.str (strL a), .str (strL b)]) := upd_same
    have nn2 := k2 _ _ (by simp) nn2
    have k12 := k1.trans k2
    generalize upd H1 tp (.tup [.str (strL a), .str (strL b)]) = H2 at k12 e2 nn2 ⊢
    clear k1 k2 ntp nn
    walk_at "sts"
    refine forT_go (fun i σ' H' => ∃ y4 : Option V, σ' = [some (.ref x), some (.str (strL a)), some (.str (strL b)), some (.ref q), y4, none] ∧ H' = H2) (sqT_of e2) ⟨_, by first | exact rfl | trivial, rfl⟩ (fun i σ' H' _ h => by obtain ⟨_, _, rfl⟩ := h; exact sqT_of e2) ?_ ?_
    · rintro i v σ' H5 hv ⟨y4, rfl, rfl⟩
      have hvs : ∃ s, v = V.str (strL s) ∧ s ∈ ns := by
        match i, hv with
        | 0, hv => exact ⟨a, (Option.some.inj hv).symm, ma⟩
        | 1, hv => exact ⟨b, (Option.some.inj hv).symm, mb⟩
        | i + 2, hv => simp at hv
      obtain ⟨s, rfl, hs⟩ := hvs
      walk_at "sts"
      refine ⟨q, _, rfl, .inl (sqL_of nn2), rfl, fls, ?_⟩
      rw [if_pos rfl]
      refine ⟨_, rfl, ?_⟩
      rw [inV_n.mpr hs, Bool.not_true, if_neg (by decide)]
      walk_at "sts"
      exact ⟨_, by first | exact rfl | trivial, rfl⟩
    · rintro σ' H5 ⟨y4, rfl, rfl⟩
      have ex5 := k12 _ _ (by simp) ex
      have et5 := k12 _ _ (by simp) et
      walk_at "sts"
      refine r_listRg ?_
      walk_at "sts"
      refine ⟨RgOk.of_le (Int.le_refl _) (by rw [List.length_map]; omega) (by decide) (by omega), fun p np => ?_⟩
      rw [List.length_map, lar, rgV_0]
      have k3 : Keep [] H5 (upd H5 p (.lst ((List.range rs.length).map fun i => V.int (i : Nat)))) := Keep.new np
      have e3 : upd H5 p (.lst ((List.range rs.length).map fun i => V.int (i : Nat))) p = some (.lst ((List.range rs.length).map fun i => V.int (i : Nat))) := upd_same
      have k13 := k12.trans k3
      generalize upd H5 p (.lst ((List.range rs.length).map fun i => V.int (i : Nat))) = H6 at k13 e3 ⊢
      walk_at "sts"
      refine ⟨t, p, as, rs, a, b, rfl, k13 _ _ (by simp) et, har.keep0 k13, e3, l10, hok, fun H' k' no => (no hc).elim, fun l xs H' k' nl el _ => ?_⟩
      walk_at "sts"
      exact qq _ _ (k13.trans k')
end
/-! ### walk where it refuses -/
def Plain (s : Nm) : Prop := s.length ≤ 20 ∧ ∀ c ∈ s, c < 128
theorem QName.plain {s : Nm} (h : QName s) : Plain s := ⟨Nat.le_trans h.l2 (by decide), fun c hc => (by decide +kernel : ∀ c ∈ signsL, c < 128) c (h.al c hc)⟩
theorem plain_rep {s : Nm} (h : Plain s) : (reprText (strL s)).length ≤ 100000 ∧ (strL s).length ≤ 100000 := by
  have e : (strL s).cps.toList = s := strL_tl
  have l : (strL s).length = s.length := strL_len
  have := PySem.StrLaws.reprText_len (strL s) (by rw [e]; exact fun c hc => Nat.lt_trans (h.2 c hc) (by decide))
  have := h.1
  refine ⟨?_, ?_⟩ <;> omega
def spWalkX (C CQ CW : Addr) : Sp := fun vs H Q E => ∃ (x : Addr) (rs : List Row) (a b : Nm), vs = [.ref x, .str (strL a), .str (strL b)] ∧ StrikesAt C H x rs ∧ rs.length ≤ 10 ∧ (∀ r ∈ rs, RowOk r) ∧ Plain a ∧ Plain b ∧
  (a ∉ endsOf rs → ∀ H' e, Keep [] H H' → H' e = none → E (.ref CQ) (some e) (upd H' e (.xd [("name", .str (strL a))]))) ∧
  (a ∈ endsOf rs → b ∉ endsOf rs → ∀ H' e, Keep [] H H' → H' e = none → E (.ref CQ) (some e) (upd H' e (.xd [("name", .str (strL b))]))) ∧
  (a ∈ endsOf rs → b ∈ endsOf rs → ¬ Conn rs b a → ∀ H' e, Keep [] H H' → H' e = none → E (.ref CW) (some e) (upd H' e (.xd [("second", .str (strL b)), ("first", .str (strL a))]))) ∧
  (a ∈ endsOf rs → b ∈ endsOf rs → Conn rs b a → ∀ v H', Keep [] H H' → Q v H')
section
variable {w : World} {K : PySem.W.Frag} {mg : Str → Option Value} {base : Heap}
theorem ok_walkX (T : Tx K mg) (G_Strikes_names : FnOk PG w K mg base CX0 1 T.f_Strikes_names T.fd_Strikes_names ["self"] (spNamesS T.C_Strikes)) (G_least_walk : FnOk PG w K mg base CX0 3 T.f_least_walk T.fd_least_walk ["rows", "indexes", "first", "second"] spLeast) : FnOk PG w K mg base (L2.CX PG w) 4 T.f_Strikes_walk T.fd_Strikes_walk ["self", "first", "second"] (spWalkX T.C_Strikes T.C_NoQuantity T.C_NoWalk) := by
  refine T.F_Strikes_walk.okX sc_Strikes_walk (fun vs H Q E h => ?_) (fun cdv A outer s H vs Q E hr h => ?_)
  · obtain ⟨x, rs, a, b, rfl, _⟩ := h; rfl
  · obtain ⟨x, rs, a, b, rfl, st, l10, hok, pa, pb, q1, q2, q3, q4⟩ := h
    obtain ⟨dx, t, as, ex, et, har⟩ := id st
    have lar := har.len
    have oc := T.oc_Strikes
    have na := T.na_Strikes_rows
    have tk0 : Takes (cxOf (L2.CX PG w) PG w K mg base ["self", "first", "second", "names", "name", "found"] "Strikes.walk" (defScope s_Strikes_walk) T.f_Strikes_walk cdv A outer s H E) (fun cls d _ H => E cls d H) := takes_of rfl rfl rfl rfl
    refine ⟨_, (pss_cons (ps_set (i := 3) sc_Strikes_walk.nd rfl (Or.inl rfl) (pe_meth0 (pv 0) T.oc_Strikes.cl T.me_Strikes_names G_Strikes_names (hr.mono (by decide)) T.b_Strikes_names .nil pass0))
    (pss_cons (ps_for (passes_of rfl) rfl (pi_tup (pe_tup (pa_cons (pv 1) (pa_cons (pv 2) pa_nil)))) (pg_name (i := 4) sc_Strikes_walk.nd rfl (Or.inl rfl))
    (pss_one (ps_if (pt_cmpR op_notIn_seq (pv 4) (pv 3) (by rfl))
    (pss_one (Er.ps_raise1 rfl (T.Z_NoQuantity w) hr tk0 (pa_cons (pv 4) pa_nil)))
    pss_nil)))
    (pss_cons (ps_set (i := 5) sc_Strikes_walk.nd rfl (Or.inl rfl) (pe_call G_least_walk (hr.mono (by decide)) rfl T.g_least_walk T.F_least_walk.kp T.b_least_walk .nil pass0 (pa_cons (pe_fld (pv 0) rfl) (pa_cons (pe_listRg rfl (by rfl) T.m_list (prg_1 (by rfl) T.m_range (pe_callB call_len_seq (by rfl) T.m_len PySem.boot_len (pa_cons (pe_fld (pv 0) rfl) pa_nil)))) (pa_cons (pv 1) (pa_cons (pv 2) pa_nil))))))
    (pss_cons (ps_if (pt_cmpR op_isNc (pv 5) pe_non (nomark _))
    (pss_one (Er.ps_raise2 rfl (T.Z_NoWalk w) hr tk0 (pa_cons (pv 1) (pa_cons (pv 2) pa_nil))))
    pss_nil)
    (pss_one (ps_ret (pv 5))))))), ?_⟩
    walk_at "start"
    walk_at "sts"
    refine ⟨x, rs, rfl, st, l10, hok, fun q ns H1 k1 nq nn isn => ?_⟩
    have mem := fun {c : Nm} => ends_iff isn (a := c)
    have nn2 : H1 q = some (.lst (ns.map fun u => V.str (strL u))) := nn
    have fls : (ns.map fun u => V.str (strL u)).all L2.flatV = true := by
      rw [List.all_eq_true]; intro x hx; obtain ⟨u, _, rfl⟩ := List.mem_map.mp hx; rfl
    walk_at "sts"
    intro tp ntp
    have k2 : Keep [] H1 (upd H1 tp (.tup [.str (strL a), .str (strL b)])) := Keep.new ntp
    have e2 : upd H1 tp (.tup [.str (strL a), .str (strL b)]) tp = some (.tup [.str (strL a), .str (strL b)]) := upd_same
    have nn2 := k2 _ _ (by simp) nn2
    have k12 := k1.trans k2
    generalize upd H1 tp (.tup [.str (strL a), .str (strL b)]) = H2 at k12 e2 nn2 ⊢
    clear k1 k2 ntp nn
    walk_at "sts"
    refine forT_go (fun i σ' H' => ∃ y4 : Option V, σ' = [some (.ref x), some (.str (strL a)), some (.str (strL b)), some (.ref q), y4, none] ∧ H' = H2 ∧ (1 ≤ i → a ∈ endsOf rs) ∧ (2 ≤ i → b ∈ endsOf rs)) (sqT_of e2) ⟨_, by first | exact rfl | trivial, rfl, fun h => absurd h (by decide), fun h => absurd h (by decide)⟩ (fun i σ' H' _ h => by obtain ⟨_, _, rfl, _⟩ := h; exact sqT_of e2) ?_ ?_
    · rintro i v σ' H5 hv ⟨y4, rfl, rfl, m1, m2⟩
      have hvs : ∃ s, v = V.str (strL s) ∧ Plain s ∧ ((i = 0 ∧ s = a) ∨ (i = 1 ∧ s = b)) := by
        match i, hv with
        | 0, hv => exact ⟨a, (Option.some.inj hv).symm, pa, .inl ⟨rfl, rfl⟩⟩
        | 1, hv => exact ⟨b, (Option.some.inj hv).symm, pb, .inr ⟨rfl, rfl⟩⟩
        | i + 2, hv => simp at hv
      obtain ⟨s, rfl, ps, hs⟩ := hvs
      walk_at "sts"
      refine ⟨q, _, rfl, .inl (sqL_of nn2), rfl, fls, ?_⟩
      rw [if_pos rfl]
      refine ⟨_, rfl, ?_⟩
      by_cases hm : s ∈ ns
      · rw [inV_n.mpr hm, Bool.not_true, if_neg (by decide)]
        walk_at "sts"
        refine ⟨_, by first | exact rfl | trivial, rfl, fun h => ?_, fun h => ?_⟩
        · rcases hs with ⟨rfl, rfl⟩ | ⟨rfl, rfl⟩
          · exact mem.mp hm
          · exact m1 (Nat.le_refl _)
        · rcases hs with ⟨rfl, rfl⟩ | ⟨rfl, rfl⟩
          · exact absurd h (by decide)
          · exact mem.mp hm
      · have e9 : L2.inV (.str (strL s)) (ns.map fun u => V.str (strL u)) = false := by
          cases g : L2.inV (.str (strL s)) (ns.map fun u => V.str (strL u)) with
          | false => rfl
          | true => exact (hm (inV_n.mp g)).elim
        rw [e9, Bool.not_false, if_pos rfl]
        walk_at "sts"
        refine Er.r_msgS (plain_rep ps).1 (plain_rep ps).2 fun e he => ?_
        rcases hs with ⟨rfl, rfl⟩ | ⟨rfl, rfl⟩
        · exact q1 (fun z => hm (mem.mpr z)) _ e k12 he
        · exact q2 (m1 (Nat.le_refl _)) (fun z => hm (mem.mpr z)) _ e k12 he
    · rintro σ' H5 ⟨y4, rfl, rfl, m1, m2⟩
      have ha := m1 (by simp)
      have hb := m2 (by simp)
      have ex5 := k12 _ _ (by simp) ex
      have et5 := k12 _ _ (by simp) et
      walk_at "sts"
      refine r_listRg ?_
      walk_at "sts"
      refine ⟨RgOk.of_le (Int.le_refl _) (by rw [List.length_map]; omega) (by decide) (by omega), fun p np => ?_⟩
      rw [List.length_map, lar, rgV_0]
      have k3 : Keep [] H5 (upd H5 p (.lst ((List.range rs.length).map fun i => V.int (i : Nat)))) := Keep.new np
      have e3 : upd H5 p (.lst ((List.range rs.length).map fun i => V.int (i : Nat))) p = some (.lst ((List.range rs.length).map fun i => V.int (i : Nat))) := upd_same
      have k13 := k12.trans k3
      generalize upd H5 p (.lst ((List.range rs.length).map fun i => V.int (i : Nat))) = H6 at k13 e3 ⊢
      walk_at "sts"
      refine ⟨t, p, as, rs, a, b, rfl, k13 _ _ (by simp) et, har.keep0 k13, e3, l10, hok, fun H' k' no => ?_, fun l xs H' k' nl el hc => ?_⟩
      · walk_at "sts"
        refine Er.r_raise2 ?_
        walk_at "sts"
        exact ⟨.inr ⟨_, rfl, plain_rep pa⟩, .inr ⟨_, rfl, plain_rep pb⟩, fun e he => q3 ha hb no _ e (k13.trans k') he⟩
      · walk_at "sts"
        exact q4 ha hb hc _ _ (k13.trans k')
end
/-! ### levels -/
def stepV (z : List Int) (i : Nat) (r : Row) (s : Nm) : Int := z.getD i 0 * r.cnt * (if s = r.fst then 1 else -1)
def Good (rs : List Row) (z : List Int) (L : Nm → Int) : Prop := ∀ (i : Nat) r, rs[i]? = some r → L r.snd = L r.fst + z.getD i 0 * r.cnt
theorem good_step {rs : List Row} {z : List Int} {L : Nm → Int} {i : Nat} {r : Row} {s u : Nm} (G : Good rs z L) (hr : rs[i]? = some r) (ne : r.fst ≠ r.snd) (h : acrossL r s = some u) : L u = L s + stepV z i r s := by
  have := G i r hr
  unfold stepV
  rcases across_end h with ⟨rfl, rfl⟩ | ⟨rfl, rfl⟩
  · rw [if_pos rfl, Int.mul_one]; exact this
  · rw [if_neg (Ne.symm ne), Int.mul_neg_one]; omega
theorem step_back {z : List Int} {i : Nat} {r : Row} {s u : Nm} (ne : r.fst ≠ r.snd) (h : acrossL r s = some u) : stepV z i r u = - stepV z i r s := by
  unfold stepV
  rcases across_end h with ⟨rfl, rfl⟩ | ⟨rfl, rfl⟩
  · rw [if_pos rfl, if_neg (Ne.symm ne)]; simp
  · rw [if_pos rfl, if_neg (Ne.symm ne)]; simp
def Clo (rs : List Row) (z : List Int) (ds : List (Nm × Int)) : Prop := ∀ (i : Nat) r s v u, rs[i]? = some r → (s, v) ∈ ds → acrossL r s = some u → (u, v + stepV z i r s) ∈ ds
abbrev keysN {α : Type} (ds : List (Nm × α)) : List Nm := ds.map Prod.fst
theorem key_of' {α : Type} {ds : List (Nm × α)} {s : Nm} {v : α} (h : (s, v) ∈ ds) : s ∈ keysN ds := List.mem_map.mpr ⟨_, h, rfl⟩
structure Spr (rs : List Row) (z : List Int) (cs : List (Nm × Int)) (st : Nm) (ds : List (Nm × Int)) (ts : List Nm) (at1 : Option (Nm × Nat)) : Prop where
  nodup : (keysN ds).Nodup
  old : ∀ p ∈ cs, p ∈ ds
  g0 : (st, 0) ∈ ds
  wait : ∀ s ∈ ts, s ∈ keysN ds ∧ s ∉ keysN cs
  forced : ∀ s v, (s, v) ∈ ds → s ∉ keysN cs → ∀ L, Good rs z L → L s = L st + v
  ends : ∀ s ∈ keysN ds, s ∈ endsOf rs
  done : ∀ s v, (s, v) ∈ ds → s ∉ ts → (∀ j, at1 ≠ some (s, j)) → ∀ (i : Nat) r u, rs[i]? = some r → acrossL r s = some u → (u, v + stepV z i r s) ∈ ds
  part : ∀ s j, at1 = some (s, j) → s ∉ keysN cs ∧ ∃ v, (s, v) ∈ ds ∧ ∀ (i : Nat) r u, i < j → rs[i]? = some r → acrossL r s = some u → (u, v + stepV z i r s) ∈ ds
section
variable {rs : List Row} {z : List Int} {cs ds : List (Nm × Int)} {st s u : Nm} {ts : List Nm} {j : Nat} {r : Row} {v : Int}
theorem Spr.few {a : Option (Nm × Nat)} (h : Spr rs z cs st ds ts a) : ds.length ≤ 2 * rs.length := by
  have := nodup_le h.nodup (xs := endsOf rs) h.ends
  rw [List.length_map, ends_len] at this
  exact this
theorem Spr.start (hc : Clo rs z cs) (nd : (keysN cs).Nodup) (hs : st ∉ keysN cs) (he : ∀ s ∈ keysN cs, s ∈ endsOf rs) (hst : st ∈ endsOf rs) : Spr rs z cs st (cs ++ [(st, 0)]) [st] none where
  nodup := by
    show ((cs ++ [(st, (0 : Int))]).map (·.1)).Nodup
    rw [List.map_append]
    exact List.nodup_append.mpr ⟨nd, by simp, fun a ha b hb e => by
      obtain rfl : b = st := by simpa using hb
      exact hs (by rw [← e]; exact ha)⟩
  old := fun p hp => List.mem_append_left _ hp
  g0 := List.mem_append_right _ (by simp)
  wait := fun x hx => by
    obtain rfl : x = st := by simpa using hx
    exact ⟨List.mem_map.mpr ⟨(x, 0), by simp, rfl⟩, hs⟩
  forced := fun x v hx n L _ => by
    rcases List.mem_append.mp hx with hx | hx
    · exact (n (key_of' hx)).elim
    · obtain ⟨rfl, rfl⟩ := Prod.mk.inj (List.mem_singleton.mp hx)
      omega
  ends := fun x hx => by
    have hx : x ∈ (cs ++ [(st, (0 : Int))]).map (·.1) := hx
    rw [List.map_append, List.mem_append] at hx
    rcases hx with hx | hx
    · exact he x hx
    · obtain rfl : x = st := by simpa using hx
      exact hst
  done := fun x v hx n _ i r u hr ha => by
    rcases List.mem_append.mp hx with hx | hx
    · exact List.mem_append_left _ (hc i r x v u hr hx ha)
    · obtain ⟨rfl, rfl⟩ := Prod.mk.inj (List.mem_singleton.mp hx)
      exact (n (by simp)).elim
  part := fun x j e => nomatch e
theorem Spr.pop (h : Spr rs z cs st ds (s :: ts) none) : Spr rs z cs st ds ts (some (s, 0)) where
  nodup := h.nodup
  old := h.old
  g0 := h.g0
  wait := fun x hx => h.wait x (List.mem_cons_of_mem _ hx)
  forced := h.forced
  ends := h.ends
  done := fun x v hx n1 n2 => h.done x v hx (fun z => (List.mem_cons.mp z).elim (fun e => n2 0 (by rw [e])) n1) fun _ e => nomatch e
  part := fun x j e => by
    obtain ⟨rfl, rfl⟩ := part_at e
    obtain ⟨w1, w2⟩ := h.wait s (by simp)
    obtain ⟨p, hp, e1⟩ := List.mem_map.mp w1
    exact ⟨w2, p.2, by rw [← e1]; exact hp, fun i r u hi => absurd hi (Nat.not_lt_zero _)⟩
theorem Spr.next (h : Spr rs z cs st ds ts (some (s, j))) (hr : rs[j]? = some r) (hv : (s, v) ∈ ds) (ho : ∀ u, acrossL r s = some u → (u, v + stepV z j r s) ∈ ds) : Spr rs z cs st ds ts (some (s, j + 1)) where
  nodup := h.nodup
  old := h.old
  g0 := h.g0
  wait := h.wait
  forced := h.forced
  ends := h.ends
  done := fun x v hx n1 n2 => h.done x v hx n1 fun i e => n2 (j + 1) (by rw [(part_at e).1])
  part := fun x k e => by
    obtain ⟨rfl, rfl⟩ := part_at e
    obtain ⟨p1, v', p2, p3⟩ := h.part s j rfl
    obtain rfl : v' = v := by
      have a := getN_of h.nodup p2
      rw [getN_of h.nodup hv] at a
      exact (Option.some.inj a).symm
    refine ⟨p1, v', p2, fun i r' u hi hr' hu => ?_⟩
    rcases Nat.lt_succ_iff_lt_or_eq.mp hi with hi | rfl
    · exact p3 i r' u hi hr' hu
    · rw [hr] at hr'; cases hr'; exact ho u hu
theorem Spr.add (h : Spr rs z cs st ds ts (some (s, j))) (hr : rs[j]? = some r) (hv : (s, v) ∈ ds) (ho : acrossL r s = some u) (hu : u ∉ keysN ds) (ne : r.fst ≠ r.snd) : Spr rs z cs st (ds ++ [(u, v + stepV z j r s)]) (ts ++ [u]) (some (s, j + 1)) := by
  have huc : u ∉ keysN cs := fun hc => by
    obtain ⟨p, hp, e⟩ := List.mem_map.mp hc
    exact hu (by rw [← e]; exact List.mem_map.mpr ⟨p, h.old p hp, rfl⟩)
  have mem : ∀ x, x ∈ keysN (ds ++ [(u, v + stepV z j r s)]) ↔ x ∈ keysN ds ∨ x = u := fun x => by
    show x ∈ (ds ++ [(u, v + stepV z j r s)]).map (·.1) ↔ _
    rw [List.map_append, List.mem_append]
    simp
  refine ⟨?_, fun p hp => List.mem_append_left _ (h.old p hp), List.mem_append_left _ h.g0, fun x hx => ?_, fun x w hx n L G => ?_, fun x hx => ?_, fun x w hx n1 n2 i r' u' hr' ha => ?_, fun x k e => ?_⟩
  · show ((ds ++ [(u, v + stepV z j r s)]).map (·.1)).Nodup
    rw [List.map_append]
    exact List.nodup_append.mpr ⟨h.nodup, by simp, fun a ha b hb e => by
      obtain rfl : b = u := by simpa using hb
      exact hu (by rw [← e]; exact ha)⟩
  · rw [mem]
    rcases List.mem_append.mp hx with hx | hx
    · exact ⟨.inl (h.wait x hx).1, (h.wait x hx).2⟩
    · obtain rfl : x = u := by simpa using hx
      exact ⟨.inr rfl, huc⟩
  · rcases List.mem_append.mp hx with hx | hx
    · exact h.forced x w hx n L G
    · obtain ⟨rfl, rfl⟩ := Prod.mk.inj (List.mem_singleton.mp hx)
      obtain ⟨p1, _⟩ := h.part s j rfl
      rw [good_step G hr ne ho, h.forced s v hv p1 L G]
      omega
  · rcases (mem x).mp hx with hx | rfl
    · exact h.ends x hx
    · exact nbr_end ⟨r, List.mem_of_getElem? hr, ho⟩
  · rw [List.mem_append, not_or] at n1
    rcases List.mem_append.mp hx with hx | hx
    · exact List.mem_append_left _ (h.done x w hx n1.1 (fun i e => n2 (j + 1) (by rw [(part_at e).1])) i r' u' hr' ha)
    · obtain ⟨rfl, rfl⟩ := Prod.mk.inj (List.mem_singleton.mp hx)
      exact (n1.2 (by simp)).elim
  · obtain ⟨rfl, rfl⟩ := part_at e
    obtain ⟨p1, v', p2, p3⟩ := h.part s j rfl
    obtain rfl : v' = v := by
      have a := getN_of h.nodup p2
      rw [getN_of h.nodup hv] at a
      exact (Option.some.inj a).symm
    refine ⟨p1, v', List.mem_append_left _ p2, fun i r' u' hi hr' hu' => ?_⟩
    rcases Nat.lt_succ_iff_lt_or_eq.mp hi with hi | rfl
    · exact List.mem_append_left _ (p3 i r' u' hi hr' hu')
    · rw [hr] at hr'; cases hr'
      rw [ho] at hu'; cases hu'
      exact List.mem_append_right _ (by simp)
/-- two levels at one name: none are good -/
theorem Spr.clash (h : Spr rs z cs st ds ts (some (s, j))) (hc : Clo rs z cs) (hr : rs[j]? = some r) (hv : (s, v) ∈ ds) (ho : acrossL r s = some u) {x : Int} (hu : (u, x) ∈ ds) (ne : r.fst ≠ r.snd) (hx : x ≠ v + stepV z j r s) : ¬ ∃ L, Good rs z L := by
  rintro ⟨L, G⟩
  obtain ⟨p1, _⟩ := h.part s j rfl
  have huc : u ∉ keysN cs := fun hk => by
    obtain ⟨p, hp, e⟩ := List.mem_map.mp hk
    have := hc j r u p.2 s hr (by rw [← e]; exact hp) (across_sym ne ho)
    exact p1 (key_of' this)
  have a := h.forced u x hu huc L G
  have b := good_step G hr ne ho
  have c := h.forced s v hv p1 L G
  omega
theorem Spr.over (h : Spr rs z cs st ds ts (some (s, rs.length))) : Spr rs z cs st ds ts none where
  nodup := h.nodup
  old := h.old
  g0 := h.g0
  wait := h.wait
  forced := h.forced
  ends := h.ends
  done := fun x v hx n1 _ i r u hr ha => by
    by_cases e : x = s
    · obtain ⟨p1, v', p2, p3⟩ := h.part s _ rfl
      rw [e] at hx ha ⊢
      obtain rfl : v' = v := by
        have a := getN_of h.nodup p2
        rw [getN_of h.nodup hx] at a
        exact (Option.some.inj a).symm
      exact p3 i r u (List.getElem?_eq_some_iff.mp hr).1 hr ha
    · exact h.done x v hx n1 (fun j q => e (part_at q).1.symm) i r u hr ha
  part := fun x j e => nomatch e
theorem Spr.end (h : Spr rs z cs st ds [] none) : Clo rs z ds := fun i r s v u hr hv ha => h.done s v hv (by simp) (fun _ e => nomatch e) i r u hr ha
/-- levels at every name -/
theorem clo_good {ds : List (Nm × Int)} (nd : (keysN ds).Nodup) (hc : Clo rs z ds) (hall : ∀ s ∈ endsOf rs, s ∈ keysN ds) : Good rs z fun s => (getN ds s).getD 0 := fun i r hr => by
  have hf : r.fst ∈ keysN ds := hall _ (by unfold endsOf; exact List.mem_append_left _ (List.mem_map.mpr ⟨r, List.mem_of_getElem? hr, rfl⟩))
  obtain ⟨p, hp, e⟩ := List.mem_map.mp hf
  have hp' : (r.fst, p.2) ∈ ds := by rw [← e]; exact hp
  have ha : acrossL r r.fst = some r.snd := by unfold acrossL; rw [if_pos rfl]
  have := hc i r r.fst p.2 r.snd hr hp' ha
  show (getN ds r.snd).getD 0 = (getN ds r.fst).getD 0 + _
  rw [getN_of nd this, getN_of nd hp']
  unfold stepV
  rw [if_pos rfl, Int.mul_one]; rfl
end
/-! ### spread -/
def spSpread : Sp := fun vs H Q _ => ∃ (t q d : Addr) (as : List Addr) (rs : List Row) (z : List Int) (cs : List (Nm × Int)) (st : Nm), vs = [.ref t, .ref q, .ref d, .str (strL st)] ∧ H t = some (.tup (as.map V.ref)) ∧ AllAt rHO H as rs ∧ H q = some (.tup (z.map V.int)) ∧ z.length = rs.length ∧ H d = some (.dK (dN V.int (cs ++ [(st, 0)]))) ∧
  rs.length ≤ 10 ∧ (∀ r ∈ rs, RowOk r) ∧ (∀ x ∈ z, -1 ≤ x ∧ x ≤ 1) ∧ Clo rs z cs ∧ (keysN cs).Nodup ∧ st ∉ keysN cs ∧ (∀ s ∈ keysN cs, s ∈ endsOf rs) ∧ st ∈ endsOf rs ∧
  (∀ H', Keep [] H H' → (¬ ∃ L, Good rs z L) → Q .non H') ∧
  ∀ p ds H', Keep [] H H' → H p = none → H' p = some (.dK (dN V.int ds)) → (keysN ds).Nodup → Clo rs z ds → (∀ s ∈ keysN ds, s ∈ endsOf rs) → (∀ x ∈ cs ++ [(st, 0)], x ∈ ds) → Q (.ref p) H'
theorem r_lockA {e : TE} {l : Nat} {D : Ends} {σ : L2.St} {H : Hp} (k : tLockE e σ H fun v H' => D.nx (σ.set l (some v)) H') : tLock (tAsg e (gName l)) D σ H := k
theorem putK_new {kvs : List (Key × V)} {k : Key} {v : V} (h : k ∉ kvs.map (·.1)) : putK kvs k v = kvs ++ [(k, v)] := by
  unfold putK
  rw [if_neg]
  rw [Bool.not_eq_true, List.any_eq_false]
  intro kv hkv
  rw [decide_eq_true_eq]
  exact fun e => h (by rw [← e]; exact List.mem_map.mpr ⟨kv, hkv, rfl⟩)
theorem _root_.List.Nodup.map_nK {ns : List Nm} (h : ns.Nodup) : (ns.map nK).Nodup := List.Pairwise.map nK (fun _ _ n e => n (nK_inj e)) h
theorem r_pm {σ : L2.St} {H : Hp} {K' : VK} {p : Bool} {tn : TE} (hn : ∀ R : VK, R (.int (-1)) H → tn σ H R) (h : ∀ c : Int, (p = true → c = 1) → (p = false → c = -1) → K' (.int c) H) : if p = true then tC (V.int 1) σ H K' else tn σ H K' := by
  cases p with
  | true => rw [if_pos rfl]; exact r_c (h 1 (fun _ => rfl) fun e => nomatch e)
  | false => rw [if_neg (by decide)]; exact hn _ (h (-1) (fun e => nomatch e) fun _ => rfl)
/-- {k: v for k, v in d.items()}: a copy -/
theorem dc_copy {K : PySem.W.Frag} {a i j d : Nat} {kvs : List (Key × V)} {σ : L2.St} {H : Hp} {Q : VK} (hd : H d = some (.dK kvs)) (ha : σ[a]? = some (some (.ref d))) (hw : ∀ x y, wipe (((wipe σ [i, j]).set i x).set j y) [i, j] = wipe σ [i, j]) (h1 : ∀ x y, (((wipe σ [i, j]).set i x).set j y)[i]? = some x) (h2 : ∀ x y, (((wipe σ [i, j]).set i x).set j y)[j]? = some y) (nd : (kvs.map (·.1)).Nodup) (len : kvs.length ≤ 1000)
    (k : ∀ D H', Keep [] H H' → H D = none → H' D = some (.dK kvs) → Q (.ref D) H') : tLockE (tDc (iItems (tVar a)) (gTup K 2 (gCons (gName i) (gCons (gName j) gNil))) tYes (tVar i) (tVar j) [i, j]) σ H Q := by
  refine dcI_go hd (fun od Q' h => r_var ha (h _ _ ⟨rfl, rfl⟩)) (fun od D i acc H' => acc = kvs.take i ∧ Keep [] (upd H d (.frz od (.dK kvs))) H') (fun od D hD => ⟨rfl, Keep.new hD⟩) (fun od D i acc H' h => h.2 _ _ (by simp) upd_same) ?_ ?_
  · rintro od D n ky v T acc H' hn hD hacc ⟨rfl, kk⟩ hT
    have eT : upd H' T (.tup [kV ky, v]) T = some (.tup [kV ky, v]) := upd_same
    refine r_gTup2 (sqT_of eT) ⟨hw _ _, ?_⟩
    refine r_yes ?_
    rw [if_pos rfl]
    refine r_var (h1 _ _) (r_var (h2 _ _) ?_)
    have k3 : Keep [] H' (upd H' T (.tup [kV ky, v])) := Keep.new hT
    have lt := (List.getElem?_eq_some_iff.mp hn).1
    have nTD : T ≠ D := by rintro rfl; rw [hacc] at hT; cases hT
    have put : putK (kvs.take n) ky v = kvs.take (n + 1) := by
      rw [take_s hn]
      refine putK_new fun hm => ?_
      have e1 : kvs = kvs.take n ++ (ky, v) :: kvs.drop (n + 1) := by
        have := List.take_append_drop n kvs
        rw [List.drop_eq_getElem_cons lt, (List.getElem?_eq_some_iff.mp hn).2] at this
        exact this.symm
      rw [e1, List.map_append, List.map_cons] at nd
      exact (List.nodup_append.mp nd).2.2 _ hm _ (by simp) rfl
    refine ⟨kvs.take n, ky, rfl, k3 _ _ (by simp) hacc, lt_size (by rw [List.length_take]; omega), kvs.take (n + 1), by rw [upd_same, put], rfl, ?_⟩
    exact (kk.trans k3).mut hD
  · rintro od D acc H' hD hacc ⟨rfl, kk⟩
    rw [List.take_length] at hacc
    have nDd : D ≠ d := by rintro rfl; rw [upd_same] at hD; cases hD
    refine k D _ (fun b o _ hb => ?_) (by rw [upd_ne nDd] at hD; exact hD) (by rw [upd_ne nDd]; exact hacc)
    by_cases e : b = d
    · rw [e, upd_same, ← hd, ← e]; exact hb
    · rw [upd_ne e]; exact kk _ _ (by simp) (by rw [upd_ne e]; exact hb)
section
variable {P : Program} {w : World} {K : PySem.W.Frag} {mg : Str → Option Value} {base : Heap}
theorem ok_spread (T : Tx K mg) (G_across : FnOk P w K mg base CX0 1 T.f_across T.fd_across ["row", "name"] spAcross) : FnOk P w K mg base CX0 2 T.f_spread T.fd_spread ["rows", "rises", "levels", "start"] spSpread := by
  refine T.F_spread.ok sc_spread (fun vs H Q E h => ?_) (fun cdv A outer s H vs Q E hr h => ?_)
  · obtain ⟨t, q, d, as, rs, z, cs, st, rfl, _⟩ := h; rfl
  · obtain ⟨t, q, d, as, rs, z, cs, st, rfl, et, har, eq1, lz, ed, l10, hok, hz, hc, nd, hs, he, hst, qn, qq⟩ := h
    have lar := har.len
    refine ⟨_, (pss_cons (ps_lock (Dk.ps_setDcK (i := 4) (own := [("name", 5), ("level", 6)]) (g := gTup K 2 (gCons (gName 5) (gCons (gName 6) gNil))) (tt := tYes) rfl sc_spread.nd rfl rfl (Dt.sw_dict rfl rfl rfl (by decide +kernel)) (pi_items (pv 2)) (blkOk_by (own := [("name", 5), ("level", 6)]) (N := ["rows", "rises", "levels", "start", "found", "name", "level", "todo", "row", "rise", "other"]) (sc := defScope s_spread) (by decide +kernel)) (fun _ _ _ _ _ => pg_tup (n := 2) rfl (pgs_cons (pg_name (i := 5) sc_spread.nd rfl (Or.inl rfl)) (pgs_cons (pg_name (i := 6) sc_spread.nd rfl (Or.inl rfl)) pgs_nil))) (fun _ _ _ _ _ => pts_nil) (fun _ _ _ _ _ => (pv 5)) (fun _ _ _ _ _ => (pv 6))))
    (pss_cons (ps_set (i := 7) sc_spread.nd rfl (Or.inl rfl) (pe_lst (pa_cons (pv 3) pa_nil)))
    (pss_cons (ps_while PassesOwn.never (pt_truth (pv 7) (by intro _; rfl))
    (pss_cons (ps_set (i := 5) sc_spread.nd rfl (Or.inl rfl) (pe_ix ix_list (pv 7) pe_int (fun _ _ => rfl)))
    (pss_cons (ps_set (i := 7) sc_spread.nd rfl (Or.inl rfl) (pe_slice sl_list (pv 7) (po_some pe_int) po_none))
    (pss_one (ps_for PassesOwn.never rfl (RZ.pi_zipA (by rfl) T.m_zip (pa_cons (pv 0) (pa_cons (pv 1) pa_nil))) (pg_tup (n := 2) rfl (pgs_cons (pg_name (i := 8) sc_spread.nd rfl (Or.inl rfl)) (pgs_cons (pg_name (i := 9) sc_spread.nd rfl (Or.inl rfl)) pgs_nil)))
    (pss_cons (ps_set (i := 10) sc_spread.nd rfl (Or.inl rfl) (pe_call G_across (hr.mono (by decide)) rfl T.g_across T.F_across.kp T.b_across .nil pass0 (pa_cons (pv 8) (pa_cons (pv 5) pa_nil))))
    (pss_one (ps_if (pt_cmpR op_notNc (pv 10) pe_non (nomark _))
    (pss_cons (ps_set (i := 6) sc_spread.nd rfl (Or.inl rfl) (pe_op op_add (pe_dget (hu_of hr) (pv 4) (pv 5) (fun _ _ => rfl)) (pe_op op_mulG (pe_op op_mulG (pv 9) (pe_ix ix_tup (pv 8) pe_int (fun _ _ => rfl))) (pe_ifExp (pt_cmpR op_eq (pv 5) (pe_ix ix_tup (pv 8) pe_int (fun _ _ => rfl)) (nomark _)) pe_int (pe_un un_neg pe_int)))))
    (pss_one (ps_if (pt_cmp (pc_dnotin (hu_of hr) (pv 10) (pv 4)))
    (pss_cons (ps_expr (pe_bm PySem.F.plainAttrs_list PySem.F.slot_list_append PySem.F.type_list_append mt_append (pv 7) (pa_cons (pv 10) pa_nil)))
    (pss_one (ps_dput (hu_of hr) (pv 4) (pv 10) (pv 6) rfl)))
    (pss_one (ps_if (pt_cmpR op_ne (pe_dget (hu_of hr) (pv 4) (pv 10) (fun _ _ => rfl)) (pv 6) (nomark _))
    (pss_one (ps_ret pe_non))
    pss_nil)))))
    pss_nil))))))))
    (pss_one (ps_ret (pv 4)))))), ?_⟩
    walk_at "start"
    walk_at "sts"
    have s0 := Spr.start hc nd hs he hst
    have f0 := s0.few
    refine r_lockA (dc_copy (d := d) ed (by first | exact rfl | trivial) (fun _ _ => rfl) (fun _ _ => rfl) (fun _ _ => rfl) ?_ (by rw [dN_len]; omega) fun m H1 k1 nm em => ?_)
    · show ((dN V.int (cs ++ [(st, 0)])).map (·.1)).Nodup
      unfold dN
      rw [List.map_map]
      have := s0.nodup
      have e : ((fun x : Key × V => x.1) ∘ fun p : Nm × Int => (nK p.1, V.int p.2)) = nK ∘ Prod.fst := rfl
      rw [e, ← List.map_map]
      exact this.map_nK
    simp only [List.set_cons_zero, List.set_cons_succ]
    walk_at "sts"
    intro l hl
    have k2 : Keep [] H1 (upd H1 l (.lst [.str (strL st)])) := Keep.new hl
    have e2 : upd H1 l (.lst [.str (strL st)]) l = some (.lst ([st].map nV)) := upd_same
    have e1 := k2 _ _ (by simp) em
    have k12 := k1.trans k2
    have hlH := k1.free (by simp) hl
    generalize upd H1 l (.lst [.str (strL st)]) = H2 at k12 e1 e2 ⊢
    clear k1 k2 hl em
    walk_at "sts"
    refine r_while (fun n σ' H' => ∃ (l : Addr) (ds : List (Nm × Int)) (ts : List Nm) (y5 y6 y8 y9 y10 : Option V), σ' = [some (.ref t), some (.ref q), some (.ref d), some (.str (strL st)), some (.ref m), y5, y6, some (.ref l), y8, y9, y10] ∧ H' m = some (.dK (dN V.int ds)) ∧ H' l = some (.lst (ts.map nV)) ∧ Keep [] H H' ∧ H l = none ∧ Spr rs z cs st ds ts none ∧ n = 2 * (2 * rs.length - ds.length) + ts.length ∧ 2 * (2 * rs.length - ds.length) + ts.length ≤ 100)
      ⟨l, cs ++ [(st, 0)], [st], _, _, _, _, _, by first | exact rfl | trivial, e1, e2, k12, hlH, s0, rfl, by simp only [List.length_cons, List.length_nil]; omega⟩ ?_
    clear e1 e2 k12 hlH
    rintro n σ' H3 ⟨l, ds, ts, y5, y6, y8, y9, y10, rfl, e1, e2, k3, hl, tr, rfl, le0⟩
    walk_at "sts"
    refine r_truLst (sqL_of e2) ?_
    rcases ts with _ | ⟨s, ts⟩
    · rw [show (!(([] : List Nm).map nV).isEmpty) = false from rfl, if_neg (by decide)]
      walk_at "sts"
      exact qq m ds H3 k3 nm e1 tr.nodup tr.end tr.ends fun x hx => (List.mem_append.mp hx).elim (tr.old x) fun hx => by rw [List.mem_singleton.mp hx]; exact tr.g0
    · rw [show (!((s :: ts).map nV).isEmpty) = true from rfl, if_pos rfl]
      refine r_turn ?_
      walk_at "sts"
      refine ⟨l, _, rfl, sqL_of e2, fun l2 hl2 => ?_⟩
      rw [show cutV ((s :: ts).map nV) (some 1) none = ts.map nV from cut_tail]
      have k4 : Keep [] H3 (upd H3 l2 (.lst (ts.map nV))) := Keep.new hl2
      have e3 : upd H3 l2 (.lst (ts.map nV)) l2 = some (.lst (ts.map nV)) := upd_same
      have e1 := k4 _ _ (by simp) e1
      have k34 := k3.trans k4
      have hl2H := k3.free (by simp) hl2
      generalize upd H3 l2 (.lst (ts.map nV)) = H4 at k34 e1 e3 ⊢
      clear k3 k4 hl2 e2
      walk_at "sts"
      refine Tz.r_forZA ?_
      walk_at "sts"
      refine Tz.forZT_go (xs := as.map V.ref) (ys := z.map V.int) (by rw [List.length_map, List.length_map]; omega) (fun i σ' H' => ∃ (ds' : List (Nm × Int)) (ts' : List Nm) (y6 y8 y9 y10 : Option V), σ' = [some (.ref t), some (.ref q), some (.ref d), some (.str (strL st)), some (.ref m), some (.str (strL s)), y6, some (.ref l2), y8, y9, y10] ∧ H' m = some (.dK (dN V.int ds')) ∧ H' l2 = some (.lst (ts'.map nV)) ∧ Keep [] H H' ∧ Spr rs z cs st ds' ts' (some (s, i)) ∧ 2 * (2 * rs.length - ds'.length) + ts'.length ≤ 2 * (2 * rs.length - ds.length) + ts.length)
        (sqT_of (k34 _ _ (by simp) et)) (sqT_of (k34 _ _ (by simp) eq1)) ⟨ds, ts, _, _, _, _, by first | exact rfl | trivial, e1, e3, k34, tr.pop, Nat.le_refl _⟩ (fun i σ' H' h => by obtain ⟨_, _, _, _, _, _, _, _, _, k, _⟩ := h; exact ⟨sqT_of (k _ _ (by simp) et), sqT_of (k _ _ (by simp) eq1)⟩) ?_ ?_
      · clear e1 e3 k34
        rintro i x y Tp σ' H5 hx hy ⟨ds', ts', y6, y8, y9, y10, rfl, e1, e3, k5, tr', le⟩ nT
        obtain ⟨b, hb, rfl⟩ := getRef hx
        obtain ⟨r, hr2, eb⟩ := har.get hb
        obtain ⟨zi, hzi, rfl⟩ : ∃ zi, z[i]? = some zi ∧ V.int zi = y := by
          rw [List.getElem?_map] at hy
          obtain ⟨j, a, b⟩ := Option.map_eq_some_iff.mp hy
          exact ⟨j, a, b⟩
        have zb := hz zi (List.mem_of_getElem? hzi)
        have k6 : Keep [] H5 (upd H5 Tp (.tup [.ref b, .int zi])) := Keep.new nT
        have eT : upd H5 Tp (.tup [.ref b, .int zi]) Tp = some (.tup [.ref b, .int zi]) := upd_same
        have e1 := k6 _ _ (by simp) e1
        have e3 := k6 _ _ (by simp) e3
        have k5 := k5.trans k6
        generalize upd H5 Tp (.tup [.ref b, .int zi]) = H6 at e1 e3 k5 eT ⊢
        clear k6 nT
        have eb6 : H6 b = some (.tup [.str (strL r.fst), .str (strL r.snd), .int r.cnt]) := k5 _ _ (by simp) eb
        obtain ⟨ps, v, hv, _⟩ := tr'.part s i rfl
        have gv := getN_of tr'.nodup hv
        have okr := hok r (List.mem_of_getElem? hr2)
        refine r_gTup2 (sqT_of eT) ?_
        simp only [List.set_cons_zero, List.set_cons_succ]
        walk_at "sts"
        refine ⟨b, r, s, rfl, eb6, ?_⟩
        cases ho : acrossL r s with
        | none =>
          dsimp only [oSL]
          walk_at "sts"
          exact ⟨ds', ts', _, _, _, _, by first | exact rfl | trivial, e1, e3, k5, tr'.next hr2 hv (fun u hu => by rw [ho] at hu; cases hu), le⟩
        | some u =>
          dsimp only [oSL]
          walk_at "sts"
          refine r_dgetS e1 (show valV (dN V.int ds') (nK s) = some (V.int v) by rw [dN_val, gv]; rfl) ?_
          walk_at "sts"
          refine r_pm (fun R hR => ?_) fun c c1 c2 => ?_
          · walk_at "sts"
            exact hR
          have cb : -1 ≤ c ∧ c ≤ 1 := by
            by_cases e : s = r.fst
            · rw [c1 (decide_eq_true (by rw [e]))]; decide
            · rw [c2 (decide_eq_false fun h => e (strL_inj h))]; decide
          have ec : zi * r.cnt * c = stepV z i r s := by
            unfold stepV
            rw [show z.getD i 0 = zi by rw [List.getD_eq_getElem?_getD, hzi]; rfl]
            by_cases e : s = r.fst
            · rw [c1 (decide_eq_true (by rw [e])), if_pos e]
            · rw [c2 (decide_eq_false fun h => e (strL_inj h)), if_neg e]
          refine r_I (.inl (.inr ⟨by omega, by omega⟩)) ?_
          rw [ec]
          walk_at "sts"
          refine r_dinS e1 ?_
          rw [show (valV (dN V.int ds') (Sum.inr (strL u))).isSome = decide (u ∈ ds'.map (·.1)) from dN_in]
          refine ⟨_, rfl, ?_⟩
          have lf' := tr'.few
          have lt' : ts'.length ≤ 1000 := by simp only [List.length_cons] at le0; omega
          by_cases hu : u ∈ ds'.map (·.1)
          · rw [decide_eq_true hu, Bool.not_true, if_neg (by decide)]
            obtain ⟨x, hx⟩ := getN_has hu
            have hxm := getN_mem hx
            walk_at "sts"
            refine r_dgetS e1 (show valV (dN V.int ds') (nK u) = some (V.int x) by rw [dN_val, hx]; rfl) ?_
            walk_at "sts"
            by_cases exv : x = v + stepV z i r s
            · first | (rw [decide_eq_true exv, Bool.not_true, if_neg (by decide)]) | skip
              walk_at "sts"
              exact ⟨ds', ts', _, _, _, _, by first | exact rfl | trivial, e1, e3, k5, tr'.next hr2 hv (fun u' hu' => by rw [ho] at hu'; cases hu'; rw [← exv]; exact hxm), le⟩
            · first | (rw [decide_eq_false exv, Bool.not_false, if_pos rfl]) | skip
              walk_at "sts"
              exact qn _ k5 (tr'.clash hc hr2 hv ho hxm okr.ne exv)
          · rw [decide_eq_false hu, Bool.not_false, if_pos rfl]
            walk_at "sts"
            have nlm : l2 ≠ m := by rintro rfl; rw [e1] at e3; cases e3
            have e6 : upd H6 l2 (.lst (ts'.map nV ++ [V.str (strL u)])) l2 = some (.lst ((ts' ++ [u]).map nV)) := by rw [upd_same, List.map_append]; rfl
            have e7 : upd H6 l2 (.lst (ts'.map nV ++ [V.str (strL u)])) m = some (.dK (dN V.int ds')) := by rw [upd_ne (Ne.symm nlm)]; exact e1
            have k7 : Keep [] H (upd H6 l2 (.lst (ts'.map nV ++ [V.str (strL u)]))) := k5.mut hl2H
            generalize upd H6 l2 (.lst (ts'.map nV ++ [V.str (strL u)])) = H7 at e6 e7 k7 ⊢
            refine r_dputS e7 (by rw [dN_len]; exact lt_size (by omega)) ?_
            rw [show putK (dN V.int ds') (Sum.inr (strL u)) (V.int (v + stepV z i r s)) = dN V.int (ds' ++ [(u, v + stepV z i r s)]) from dN_put (f := V.int) (v := v + stepV z i r s) hu]
            have ad := tr'.add hr2 hv ho hu okr.ne
            have lf2 := ad.few
            refine ⟨ds' ++ [(u, v + stepV z i r s)], ts' ++ [u], _, _, _, _, by first | exact rfl | trivial, upd_same, by rw [upd_ne nlm]; exact e6, k7.mut nm, ad, ?_⟩
            rw [List.length_append, List.length_append, List.length_singleton, List.length_singleton] at *
            omega
      · rintro σ' H5 ⟨ds', ts', y6, y8, y9, y10, rfl, e1, e3, k5, tr', le⟩
        rw [List.length_map, lar] at tr'
        have lf' := tr'.few
        refine ⟨_, ?_, l2, ds', ts', _, _, _, _, _, by first | exact rfl | trivial, e1, e3, k5, hl2H, tr'.over, rfl, ?_⟩
        · simp only [List.length_cons]; omega
        · simp only [List.length_cons] at le0; omega
end
/-! ### levels_with -/
def spLevels : Sp := fun vs H Q _ => ∃ (t q : Addr) (as : List Addr) (rs : List Row) (z : List Int), vs = [.ref t, .ref q] ∧ H t = some (.tup (as.map V.ref)) ∧ AllAt rHO H as rs ∧ H q = some (.tup (z.map V.int)) ∧ z.length = rs.length ∧ rs.length ≤ 10 ∧ (∀ r ∈ rs, RowOk r) ∧ (∀ x ∈ z, -1 ≤ x ∧ x ≤ 1) ∧
  (∀ H', Keep [] H H' → (¬ ∃ L, Good rs z L) → Q .non H') ∧
  ∀ p ds H', Keep [] H H' → H p = none → H' p = some (.dK (dN V.int ds)) → (keysN ds).Nodup → Clo rs z ds → (∀ s, s ∈ keysN ds ↔ s ∈ endsOf rs) → Q (.ref p) H'
section
variable {P : Program} {w : World} {K : PySem.W.Frag} {mg : Str → Option Value} {base : Heap}
theorem ok_levels (T : Tx K mg) (G_spread : FnOk P w K mg base CX0 2 T.f_spread T.fd_spread ["rows", "rises", "levels", "start"] spSpread) : FnOk P w K mg base CX0 3 T.f_levels_with T.fd_levels_with ["rows", "rises"] spLevels := by
  refine T.F_levels_with.ok sc_levels_with (fun vs H Q E h => ?_) (fun cdv A outer s H vs Q E hr h => ?_)
  · obtain ⟨t, q, as, rs, z, rfl, _⟩ := h; rfl
  · obtain ⟨t, q, as, rs, z, rfl, et, har, eq1, lz, l10, hok, hz, qn, qq⟩ := h
    have lar := har.len
    refine ⟨_, (pss_cons (ps_set (i := 2) sc_levels_with.nd rfl (Or.inl rfl) pe_dnewK)
    (pss_cons (ps_for PassesOwn.never rfl (pi_list (pe_callB cr_sortedS (by rfl) T.m_sorted (by decide +kernel) (pa_cons (pe_op op_cat (pe_lc (own := [("row", 4)]) (g := gName 4) (tt := tYes) rfl sc_levels_with.nd (pi_tup (pv 0)) (blkOk_by (own := [("row", 4)]) (N := ["rows", "rises", "levels", "name", "row"]) (sc := defScope s_levels_with) (by decide +kernel)) (fun _ _ _ _ _ => pg_name (i := 4) sc_levels_with.nd rfl (Or.inl rfl)) (fun _ _ _ _ _ => pts_nil) (fun _ _ _ _ _ => (pe_ix (ix_tupK (K := K) rfl) (pv 4) pe_int (fun _ _ => rfl)))) (pe_lc (own := [("row", 4)]) (g := gName 4) (tt := tYes) rfl sc_levels_with.nd (pi_tup (pv 0)) (blkOk_by (own := [("row", 4)]) (N := ["rows", "rises", "levels", "name", "row"]) (sc := defScope s_levels_with) (by decide +kernel)) (fun _ _ _ _ _ => pg_name (i := 4) sc_levels_with.nd rfl (Or.inl rfl)) (fun _ _ _ _ _ => pts_nil) (fun _ _ _ _ _ => (pe_ix (ix_tupK (K := K) rfl) (pv 4) pe_int (fun _ _ => rfl))))) pa_nil))) (pg_name (i := 3) sc_levels_with.nd rfl (Or.inl rfl))
    (pss_one (ps_if (PW.pt (pw_and (pt_cmpR op_notNc (pv 2) pe_non (nomark _)) (pw_and1 (pt_cmp (pc_dnotin (hu_of hr) (pv 3) (pv 2))))))
    (pss_cons (ps_dput (hu_of hr) (pv 2) (pv 3) pe_int rfl)
    (pss_one (ps_set (i := 2) sc_levels_with.nd rfl (Or.inl rfl) (pe_call G_spread (hr.mono (by decide)) rfl T.g_spread T.F_spread.kp T.b_spread .nil pass0 (pa_cons (pv 0) (pa_cons (pv 1) (pa_cons (pv 2) (pa_cons (pv 3) pa_nil))))))))
    pss_nil)))
    (pss_one (ps_ret (pv 2))))), ?_⟩
    walk_at "start"
    walk_at "sts"
    intro m hm
    have k1 : Keep [] H (upd H m (.dK [])) := Keep.new hm
    have e1 : upd H m (.dK []) m = some (.dK (dN V.int [])) := upd_same
    generalize upd H m (.dK []) = H1 at k1 e1 ⊢
    have et1 := k1 _ _ (by simp) et
    walk_at "sts"
    refine lcT_go (fun D i acc H' => acc = ((rs.map (·.fst)).take i).map nV ∧ Keep [] H1 H' ∧ H1 D = none) (sqT_of et1) (fun D hD => ⟨rfl, Keep.new hD, hD⟩) (fun D i acc H' _ h => sqT_of (h.2.1 _ _ (by simp) et1)) ?_ ?_
    · rintro D i v acc H3 hv hD ⟨rfl, k3, nD⟩
      obtain ⟨b, hb, rfl⟩ := getRef hv
      obtain ⟨r, hr2, eb⟩ := har.get hb
      have eb2 : H3 b = some (.tup [.str (strL r.fst), .str (strL r.snd), .int r.cnt]) := k3 _ _ (by simp) (k1 _ _ (by simp) eb)
      have hi := (List.getElem?_eq_some_iff.mp hr2).1
      simp only [L2.wipe, List.map_cons, List.map_nil, List.set_cons_zero, List.set_cons_succ]
      walk_at "sts"
      refine ⟨rfl, ?_⟩
      refine r_yes ?_
      rw [if_pos rfl]
      walk_at "sts"
      refine lc_put hD (by rw [List.length_map, List.length_take, List.length_map]; exact lt_size (by omega)) ⟨?_, k3.mut nD, nD⟩
      rw [take_s (x := r.fst) (by rw [List.getElem?_map, hr2]; rfl), List.map_append]; rfl
    rintro D1 acc H2 nD1 hD1 ⟨rfl, k2, _⟩
    rw [List.length_map, lar, List.take_of_length_le (by rw [List.length_map]; exact Nat.le_refl _)] at hD1
    have k12 := k1.trans k2
    have e1 := k2 _ _ (by simp) e1
    have et2 := k12 _ _ (by simp) et
    clear k1 k2 et1
    walk_at "sts"
    refine lcT_go (fun D i acc H' => acc = ((rs.map (·.snd)).take i).map nV ∧ Keep [] H2 H' ∧ H2 D = none) (sqT_of et2) (fun D hD => ⟨rfl, Keep.new hD, hD⟩) (fun D i acc H' _ h => sqT_of (h.2.1 _ _ (by simp) et2)) ?_ ?_
    · rintro D i v acc H3 hv hD ⟨rfl, k3, nD⟩
      obtain ⟨b, hb, rfl⟩ := getRef hv
      obtain ⟨r, hr2, eb⟩ := har.get hb
      have eb2 : H3 b = some (.tup [.str (strL r.fst), .str (strL r.snd), .int r.cnt]) := k3 _ _ (by simp) (k12 _ _ (by simp) eb)
      have hi := (List.getElem?_eq_some_iff.mp hr2).1
      simp only [L2.wipe, List.map_cons, List.map_nil, List.set_cons_zero, List.set_cons_succ]
      walk_at "sts"
      refine ⟨rfl, ?_⟩
      refine r_yes ?_
      rw [if_pos rfl]
      walk_at "sts"
      refine lc_put hD (by rw [List.length_map, List.length_take, List.length_map]; exact lt_size (by omega)) ⟨?_, k3.mut nD, nD⟩
      rw [take_s (x := r.snd) (by rw [List.getElem?_map, hr2]; rfl), List.map_append]; rfl
    rintro D2 acc H3 nD2 hD2 ⟨rfl, k3, _⟩
    rw [List.length_map, lar, List.take_of_length_le (by rw [List.length_map]; exact Nat.le_refl _)] at hD2
    have k13 := k12.trans k3
    have e1 := k3 _ _ (by simp) e1
    have hD1 := k3 _ _ (by simp) hD1
    clear k12 k3 et2
    walk_at "sts"
    have lf : (rs.map (·.fst)).length = rs.length := List.length_map ..
    have ls : (rs.map (·.snd)).length = rs.length := List.length_map ..
    refine r_cat hD1 hD2 (by simp only [List.length_map]; exact le_size (by omega)) fun p np => ?_
    rw [← List.map_append, show rs.map (·.fst) ++ rs.map (·.snd) = endsOf rs from rfl]
    have k4 : Keep [] H3 (upd H3 p (.lst ((endsOf rs).map nV))) := Keep.new np
    have e4 : upd H3 p (.lst ((endsOf rs).map nV)) p = some (.lst ((endsOf rs).map nV)) := upd_same
    have e1 := k4 _ _ (by simp) e1
    have k14 := k13.trans k4
    generalize upd H3 p (.lst ((endsOf rs).map nV)) = H4 at k14 e4 e1 ⊢
    clear k13 k4 hD1 hD2
    walk_at "sts"
    refine r_sortS (xs := (endsOf rs).map strL) (sqL_of (by rw [List.map_map]; exact e4)) (by rw [List.length_map, ends_len]; omega) fun ys q2 pm so nq => ?_
    obtain ⟨ms, rfl, pm2⟩ : ∃ ms : List (List Nat), ys = ms.map strL ∧ ms.Perm (endsOf rs) := by
      have back : ∀ s : Str, strL s.cps.toList = s := fun s => by show (⟨_⟩ : Str) = ⟨_⟩; simp
      refine ⟨ys.map fun s => s.cps.toList, ?_, ?_⟩
      · rw [List.map_map]
        conv => lhs; rw [← List.map_id ys]
        exact List.map_congr_left fun s _ => (back s).symm
      · have := pm.map fun s => s.cps.toList
        rw [List.map_map] at this
        have e1 : (endsOf rs).map ((fun s : Str => s.cps.toList) ∘ strL) = endsOf rs := (List.map_congr_left (g := id) fun s _ => strL_tl).trans (List.map_id _)
        rwa [e1] at this
    rw [show (ms.map strL).map V.str = ms.map nV by rw [List.map_map]; rfl]
    have k5 : Keep [] H4 (upd H4 q2 (.lst (ms.map nV))) := Keep.new nq
    have e5 : upd H4 q2 (.lst (ms.map nV)) q2 = some (.lst (ms.map nV)) := upd_same
    have e1 := k5 _ _ (by simp) e1
    have k15 := k14.trans k5
    generalize upd H4 q2 (.lst (ms.map nV)) = H5 at k15 e5 e1 ⊢
    clear k14 k5 e4 nq
    refine forL_go (fun i σ' H' => H' q2 = some (.lst (ms.map nV)) ∧ Keep [] H H' ∧ ∃ y3 : Option V, (σ' = [some (.ref t), some (.ref q), some .non, y3, none] ∧ ¬ ∃ L, Good rs z L) ∨ ∃ (d : Addr) (cs : List (Nm × Int)), σ' = [some (.ref t), some (.ref q), some (.ref d), y3, none] ∧ H' d = some (.dK (dN V.int cs)) ∧ H d = none ∧ (keysN cs).Nodup ∧ Clo rs z cs ∧ (∀ s ∈ keysN cs, s ∈ endsOf rs) ∧ ∀ s ∈ ms.take i, s ∈ keysN cs)
      (sqL_of e5) ⟨e5, k15, _, .inr ⟨m, [], by first | exact rfl | trivial, e1, hm, List.nodup_nil, fun i r s v u _ h => absurd h (by simp), by simp, by simp⟩⟩ (fun i σ' H' _ h => sqL_of h.1) ?_ ?_
    · clear e1 e5 k15
      rintro i v σ' H6 hv ⟨e5, k6, y3, hcase⟩
      obtain ⟨s, hs, rfl⟩ : ∃ s, ms[i]? = some s ∧ nV s = v := by
        rw [List.getElem?_map] at hv
        obtain ⟨j, a, b⟩ := Option.map_eq_some_iff.mp hv
        exact ⟨j, a, b⟩
      have hse : s ∈ endsOf rs := pm2.mem_iff.mp (List.mem_of_getElem? hs)
      rcases hcase with ⟨rfl, no⟩ | ⟨d, cs, rfl, ed, nd, ndk, hc, he, cov⟩
      · walk_at "sts"
        exact ⟨e5, k6, _, .inl ⟨by first | exact rfl | trivial, no⟩⟩
      · walk_at "sts"
        refine r_dinS ed ?_
        rw [show (valV (dN V.int cs) (Sum.inr (strL s))).isSome = decide (s ∈ cs.map (·.1)) from dN_in]
        refine ⟨_, rfl, ?_⟩
        by_cases hk : s ∈ cs.map (·.1)
        · rw [decide_eq_true hk, Bool.not_true, if_neg (by decide)]
          walk_at "sts"
          refine ⟨e5, k6, _, .inr ⟨d, cs, by first | exact rfl | trivial, ed, nd, ndk, hc, he, fun x hx => ?_⟩⟩
          rw [take_s hs, List.mem_append] at hx
          rcases hx with hx | hx
          · exact cov x hx
          · rw [List.mem_singleton.mp hx]; exact hk
        · rw [decide_eq_false hk, Bool.not_false, if_pos rfl]
          have few : cs.length ≤ 2 * rs.length := by
            have := nodup_le ndk (xs := endsOf rs) he
            rw [List.length_map, ends_len] at this
            exact this
          walk_at "sts"
          refine r_dputS ed (by rw [dN_len]; exact lt_size (by omega)) ?_
          rw [show putK (dN V.int cs) (Sum.inr (strL s)) (V.int 0) = dN V.int (cs ++ [(s, 0)]) from dN_put (f := V.int) (v := 0) hk]
          have k7 : Keep [] H (upd H6 d (.dK (dN V.int (cs ++ [(s, 0)])))) := k6.mut nd
          have e7 : upd H6 d (.dK (dN V.int (cs ++ [(s, 0)]))) d = some (.dK (dN V.int (cs ++ [(s, 0)]))) := upd_same
          have e8 : upd H6 d (.dK (dN V.int (cs ++ [(s, 0)]))) q2 = some (.lst (ms.map nV)) := by rw [upd_ne (by rintro rfl; rw [ed] at e5; cases e5)]; exact e5
          generalize upd H6 d (.dK (dN V.int (cs ++ [(s, 0)]))) = H7 at k7 e7 e8 ⊢
          walk_at "sts"
          refine ⟨t, q, d, as, rs, z, cs, s, rfl, k7 _ _ (by simp) et, har.keep0 k7, k7 _ _ (by simp) eq1, lz, e7, l10, hok, hz, hc, ndk, hk, he, hse, fun H' k' no => ?_, fun d' ds H' k' nd' ed' ndk' hc' he' old => ?_⟩
          · walk_at "sts"
            exact ⟨k' _ _ (by simp) e8, k7.trans k', _, .inl ⟨by first | exact rfl | trivial, no⟩⟩
          · walk_at "sts"
            refine ⟨k' _ _ (by simp) e8, k7.trans k', _, .inr ⟨d', ds, by first | exact rfl | trivial, ed', k7.free (by simp) nd', ndk', hc', he', fun x hx => ?_⟩⟩
            rw [take_s hs, List.mem_append] at hx
            rcases hx with hx | hx
            · obtain ⟨y, hy, e⟩ := List.mem_map.mp (cov x hx)
              exact List.mem_map.mpr ⟨y, old y (List.mem_append_left _ hy), e⟩
            · rw [List.mem_singleton.mp hx]
              exact List.mem_map.mpr ⟨(s, 0), old _ (by simp), rfl⟩
    · rintro σ' H6 ⟨e5, k6, y3, hcase⟩
      rcases hcase with ⟨rfl, no⟩ | ⟨d, cs, rfl, ed, nd, ndk, hc, he, cov⟩
      · walk_at "sts"
        exact qn H6 k6 no
      · walk_at "sts"
        refine qq d cs H6 k6 nd ed ndk hc fun x => ⟨he x, fun hx => cov x ?_⟩
        rw [List.length_map, List.take_length]
        exact pm2.mem_iff.mpr hx
end
/-! ### all_tunings -/
def ch (r : Row) : List Int := if r.cnt = 0 then [0] else [-1, 1]
def everyL : List Row → List (List Int)
  | [] => [[]]
  | r :: rs => (ch r).flatMap fun x => (everyL rs).map (x :: ·)
noncomputable def okR (rs : List Row) (z : List Int) : Bool := @decide (∃ L, Good rs z L) (Classical.propDecidable _)
theorem okR_iff {rs : List Row} {z : List Int} : okR rs z = true ↔ ∃ L, Good rs z L := @decide_eq_true_iff _ (Classical.propDecidable _)
noncomputable def dueL (rs : List Row) : List (List Int) := (everyL rs).filter (okR rs)
abbrev longL (zs : List (List Int)) (r : Row) : List (List Int) := zs.flatMap fun z => (ch r).map fun x => z ++ [x]
theorem every_snoc {r : Row} : ∀ {rs : List Row}, everyL (rs ++ [r]) = longL (everyL rs) r
  | [] => by
    show (ch r).flatMap (fun x => [[x]]) = ((ch r).map fun x => [x]) ++ []
    rw [List.append_nil]
    induction ch r with
    | nil => rfl
    | cons a l ih => rw [List.flatMap_cons, List.map_cons, ih]; rfl
  | a :: rs => by
    show (ch a).flatMap (fun x => (everyL (rs ++ [r])).map (x :: ·)) = longL ((ch a).flatMap fun x => (everyL rs).map (x :: ·)) r
    rw [every_snoc (rs := rs)]
    unfold longL
    rw [List.flatMap_assoc]
    refine congrArg (fun f => (ch a).flatMap f) (funext fun x => ?_)
    rw [List.map_flatMap, List.flatMap_map]
    refine congrArg (fun f => (everyL rs).flatMap f) (funext fun z => ?_)
    rw [List.map_map]; rfl
theorem ch_bd {r : Row} {x : Int} (h : x ∈ ch r) : -1 ≤ x ∧ x ≤ 1 := by
  unfold ch at h
  split at h
  · simp only [List.mem_singleton] at h; omega
  · simp only [List.mem_cons, List.not_mem_nil, or_false] at h; omega
theorem ch_len {r : Row} : (ch r).length ≤ 2 := by unfold ch; split <;> simp
theorem every_mem : ∀ {rs : List Row} {z : List Int}, z ∈ everyL rs → z.length = rs.length ∧ ∀ x ∈ z, -1 ≤ x ∧ x ≤ 1
  | [], z, h => by obtain rfl : z = [] := by simpa [everyL] using h
                   exact ⟨rfl, by simp⟩
  | r :: rs, z, h => by
    obtain ⟨x, hx, h⟩ := List.mem_flatMap.mp (show z ∈ (ch r).flatMap fun x => (everyL rs).map (x :: ·) from h)
    obtain ⟨z', hz, rfl⟩ := List.mem_map.mp h
    obtain ⟨a, b⟩ := every_mem hz
    exact ⟨by simp [a], fun y hy => (List.mem_cons.mp hy).elim (fun e => by rw [e]; exact ch_bd hx) (b y)⟩
theorem flat_len {α β : Type} {f : α → List β} {n : Nat} : ∀ {l : List α}, (∀ x ∈ l, (f x).length ≤ n) → (l.flatMap f).length ≤ l.length * n
  | [], _ => by simp
  | a :: l, h => by
    rw [List.flatMap_cons, List.length_append, List.length_cons, Nat.succ_mul]
    have := h a (by simp)
    have := flat_len (l := l) fun x hx => h x (List.mem_cons_of_mem _ hx)
    omega
theorem every_size : ∀ {rs : List Row}, (everyL rs).length ≤ 2 ^ rs.length
  | [] => by simp [everyL]
  | r :: rs => by
    have h1 := flat_len (l := ch r) (f := fun x => (everyL rs).map (x :: ·)) (n := 2 ^ rs.length) fun x _ => by rw [List.length_map]; exact every_size
    have h2 := ch_len (r := r)
    show ((ch r).flatMap fun x => (everyL rs).map (x :: ·)).length ≤ _
    rw [List.length_cons, Nat.pow_succ]
    have := Nat.mul_le_mul_right (2 ^ rs.length) h2
    omega
theorem long_size {zs : List (List Int)} {r : Row} : (longL zs r).length ≤ zs.length * 2 := flat_len fun z _ => by rw [List.length_map]; exact ch_len
theorem due_size {rs : List Row} (h : rs.length ≤ 10) : (dueL rs).length ≤ 1024 :=
  Nat.le_trans (List.length_filter_le _ _) (Nat.le_trans every_size (Nat.pow_le_pow_right (by decide) h))
theorem good_pre {rs : List Row} {r : Row} {z : List Int} {x : Int} {L : Nm → Int} (hz : z.length = rs.length) (h : Good (rs ++ [r]) (z ++ [x]) L) : Good rs z L := fun i a ha => by
  have hi := (List.getElem?_eq_some_iff.mp ha).1
  have := h i a (by rw [List.getElem?_append_left hi]; exact ha)
  rwa [List.getD_eq_getElem?_getD, List.getElem?_append_left (by omega), ← List.getD_eq_getElem?_getD] at this
theorem due_nil : dueL [] = [[]] := by
  unfold dueL
  show List.filter (okR []) [[]] = [[]]
  rw [List.filter_cons, if_pos (okR_iff.mpr ⟨fun _ => 0, fun i r h => by simp at h⟩)]; rfl
theorem flat_filter {α β : Type} {f : α → List β} {p : α → Bool} {q : β → Bool} : ∀ {l : List α}, (∀ x ∈ l, p x = false → (f x).filter q = []) → (l.flatMap f).filter q = ((l.filter p).flatMap f).filter q
  | [], _ => rfl
  | a :: l, h => by
    have ih := flat_filter (f := f) (l := l) fun x hx => h x (List.mem_cons_of_mem _ hx)
    rw [List.flatMap_cons, List.filter_append, List.filter_cons]
    cases e : p a with
    | true => rw [if_pos rfl, List.flatMap_cons, List.filter_append, ih]
    | false => rw [if_neg (by decide), h a (by simp) e, List.nil_append, ih]
theorem due_snoc {rs : List Row} {r : Row} : dueL (rs ++ [r]) = (longL (dueL rs) r).filter (okR (rs ++ [r])) := by
  unfold dueL
  rw [every_snoc]
  refine flat_filter fun z hz e => ?_
  refine List.filter_eq_nil_iff.mpr fun y hy h => ?_
  obtain ⟨x, _, rfl⟩ := List.mem_map.mp hy
  obtain ⟨L, hL⟩ := okR_iff.mp h
  rw [okR_iff.mpr ⟨L, good_pre (every_mem hz).1 hL⟩] at e
  cases e
theorem long_mem {rs : List Row} {r : Row} {z : List Int} (h : z ∈ longL (dueL rs) r) : z.length = rs.length + 1 ∧ ∀ x ∈ z, -1 ≤ x ∧ x ≤ 1 := by
  obtain ⟨y, hy, h⟩ := List.mem_flatMap.mp h
  obtain ⟨x, hx, rfl⟩ := List.mem_map.mp h
  obtain ⟨a, b⟩ := every_mem (List.mem_filter.mp hy).1
  refine ⟨by simp [a], fun u hu => ?_⟩
  rcases List.mem_append.mp hu with hu | hu
  · exact b u hu
  · rw [List.mem_singleton.mp hu]; exact ch_bd hx
theorem AllAt.takeA {α : Type} {f : α → HO} {H : Hp} : ∀ {as : List Addr} {xs : List α} (n : Nat), AllAt f H as xs → AllAt f H (as.take n) (xs.take n)
  | [], [], n, _ => by simp [AllAt]
  | [], _ :: _, _, h => by simp [AllAt] at h
  | _ :: _, [], _, h => by simp [AllAt] at h
  | a :: as, x :: xs, 0, _ => by simp [AllAt]
  | a :: as, x :: xs, n + 1, h => by
    rw [List.take_succ_cons, List.take_succ_cons]
    exact ⟨h.1, AllAt.takeA n h.2⟩
/-- a tuple's beginning -/
theorem r_slA {K : PySem.W.Frag} {H : Hp} {Q : VK} {a : Addr} {xs : List V} {n : Nat} (ha : H a = some (.tup xs)) (k : ∀ p H', Keep [] H H' → H' p = some (.tup (xs.take n)) → Q (.ref p) H') : rSlA K (.ref a) none (some ((n : Nat) : Int)) H Q := by
  have ec : cutV xs none (some ((n : Nat) : Int)) = xs.take n := by
    unfold cutV
    rw [HT.sIx_nat, HT.sIx_none, List.drop_zero, Nat.sub_zero]
    by_cases h : n ≤ xs.length
    · rw [Nat.min_eq_left h]
    · rw [Nat.min_eq_right (by omega), List.take_length, List.take_of_length_le (by omega)]
  refine ⟨a, xs, rfl, sqT_of ha, fun e => ?_, fun _ p np => ?_⟩
  · rw [HT.sIx_nat] at e
    refine k a H (Keep.refl _ _) ?_
    rw [List.take_of_length_le (by omega)]; exact ha
  · rw [ec]; exact k p _ (Keep.new np) upd_same
theorem r_catH {K : PySem.W.Frag} {H : Hp} {Q : VK} {a b : Addr} {xs ys : List V} (ha : H a = some (.tup xs)) (hb : H b = some (.tup ys)) (hz : xs.length + ys.length ≤ sizeLine) (k : ∀ p H', Keep [] H H' → H' p = some (.tup (xs ++ ys)) → Q (.ref p) H') : rCatA K (.ref a) (.ref b) H Q := by
  refine ⟨a, b, xs, ys, rfl, rfl, sqT_of ha, sqT_of hb, hz, fun e => ?_, fun _ e => ?_, fun _ _ p np => k p _ (Keep.new np) upd_same⟩
  · subst e; exact k b H (Keep.refl _ _) hb
  · subst e; exact k a H (Keep.refl _ _) (by rw [List.append_nil]; exact ha)
abbrev zHO (z : List Int) : HO := .tup (z.map V.int)
section
variable {P : Program} {w : World} {K : PySem.W.Frag} {mg : Str → Option Value} {base : Heap}
def spAllT : Sp := fun vs H Q _ => ∃ (t : Addr) (as : List Addr) (rs : List Row), vs = [.ref t] ∧ H t = some (.tup (as.map V.ref)) ∧ AllAt rHO H as rs ∧ rs.length ≤ 10 ∧ (∀ r ∈ rs, RowOk r) ∧ ∀ p ps H', Keep [] H H' → H' p = some (.lst (ps.map V.ref)) → AllAt zHO H' ps (dueL rs) → Q (.ref p) H'
theorem ok_allT (T : Tx K mg) (G_levels_with : FnOk P w K mg base CX0 3 T.f_levels_with T.fd_levels_with ["rows", "rises"] spLevels) : FnOk P w K mg base CX0 4 T.f_all_tunings T.fd_all_tunings ["rows"] spAllT := by
  refine T.F_all_tunings.ok sc_all_tunings (fun vs H Q E h => ?_) (fun cdv A outer s H vs Q E hr h => ?_)
  · obtain ⟨t, as, rs, rfl, _⟩ := h; rfl
  · obtain ⟨t, as, rs, rfl, et, har, l10, hok, qq⟩ := h
    have lar := har.len
    refine ⟨_, (pss_cons (ps_set (i := 1) sc_all_tunings.nd rfl (Or.inl rfl) (pe_lst (pa_cons (pe_tup pa_nil) pa_nil)))
    (pss_cons (ps_for PassesOwn.never rfl (Tz.pi_enumT (by rfl) T.m_enumerate (pa_cons (pv 0) pa_nil)) (pg_tup (n := 2) rfl (pgs_cons (pg_name (i := 2) sc_all_tunings.nd rfl (Or.inr rfl)) (pgs_cons (pg_tup (n := 3) rfl (pgs_cons (pg_name (i := 3) sc_all_tunings.nd rfl (Or.inl rfl)) (pgs_cons (pg_name (i := 3) sc_all_tunings.nd rfl (Or.inl rfl)) (pgs_cons (pg_name (i := 4) sc_all_tunings.nd rfl (Or.inr rfl)) pgs_nil)))) pgs_nil)))
    (pss_cons (ps_setLc2 (i := 5) (own := [("rises", 6), ("rise", 7)]) (vs1 := [7]) (g := gName 6) (g1 := gName 7) (tt := tYes) (tt1 := tYes) rfl sc_all_tunings.nd rfl rfl (sw_true rfl rfl rfl (by decide +kernel)) (pi_list (pv 1)) (blkOk_by (own := [("rises", 6), ("rise", 7)]) (N := ["rows", "found", "index", "_", "count", "longer", "rises", "rise"]) (sc := defScope s_all_tunings) (by decide +kernel)) (by decide) (fun _ _ _ _ _ => pg_name (i := 6) sc_all_tunings.nd rfl (Or.inl rfl)) (fun _ _ _ _ _ => pts_nil) (fun _ _ _ _ _ => pi_tupK (K := K) rfl (pe_ifExp (pt_cmpR op_eq (pv 4) pe_int (nomark _)) (pe_tup (pa_cons pe_int pa_nil)) (pe_tup (pa_cons (pe_un un_neg pe_int) (pa_cons pe_int pa_nil))))) (fun _ _ _ _ _ => pg_name (i := 7) sc_all_tunings.nd rfl (Or.inl rfl)) (fun _ _ _ _ _ => pts_nil) (fun _ _ _ _ _ => (pe_op (op_catAK (K := K) rfl) (pv 6) (pe_tup (pa_cons (pv 7) pa_nil)))))
    (pss_one (ps_setLc (i := 1) (own := [("rises", 6)]) (g := gName 6)  rfl sc_all_tunings.nd rfl rfl (sw_true rfl rfl rfl (by decide +kernel)) (pi_list (pv 5)) (blkOk_by (own := [("rises", 6)]) (N := ["rows", "found", "index", "_", "count", "longer", "rises", "rise"]) (sc := defScope s_all_tunings) (by decide +kernel)) (fun _ _ _ _ _ => pg_name (i := 6) sc_all_tunings.nd rfl (Or.inl rfl)) (fun _ _ _ _ _ => pts_one (pt_cmpR op_notNc (pe_call G_levels_with (hr.mono (by decide)) rfl T.g_levels_with T.F_levels_with.kp T.b_levels_with .nil pass0 (pa_cons (pe_slice (sl_tupAK (K := K) rfl) (pv 0) po_none (po_some (pe_op op_add (pv 2) pe_int))) (pa_cons (pv 6) pa_nil))) pe_non (nomark _))) (fun _ _ _ _ _ => (pv 6))))))
    (pss_one (ps_ret (pv 1))))), ?_⟩
    walk_at "start"
    walk_at "sts"
    intro e0 n0
    walk_at "sts"
    intro f nf
    have k1 : Keep [] H (upd (upd H e0 (.tup [])) f (.lst [.ref e0])) := (Keep.new n0).trans (Keep.new nf)
    have ef : upd (upd H e0 (.tup [])) f (.lst [.ref e0]) f = some (.lst ([e0].map V.ref)) := upd_same
    have ee : AllAt zHO (upd (upd H e0 (.tup [])) f (.lst [.ref e0])) [e0] (dueL (rs.take 0)) := by
      rw [List.take_zero, due_nil]
      refine ⟨?_, trivial⟩
      rw [upd_ne (by rintro rfl; rw [upd_same] at nf; cases nf), upd_same]; rfl
    generalize upd (upd H e0 (.tup [])) f (.lst [.ref e0]) = H1 at k1 ef ee ⊢
    clear n0 nf
    walk_at "sts"
    refine Tz.r_forNT ?_
    walk_at "sts"
    refine Tz.forNT_go (xs := as.map V.ref) (fun i σ' H' => ∃ (f : Addr) (ps : List Addr) (y2 y3 y4 y5 y6 y7 : Option V), σ' = [some (.ref t), some (.ref f), y2, y3, y4, y5, y6, y7] ∧ H' f = some (.lst (ps.map V.ref)) ∧ AllAt zHO H' ps (dueL (rs.take i)) ∧ Keep [] H H')
      (sqT_of (k1 _ _ (by simp) et)) ⟨f, [e0], _, _, _, _, _, _, by first | exact rfl | trivial, ef, ee, k1⟩ (fun i σ' H' h => by obtain ⟨_, _, _, _, _, _, _, _, _, _, _, k⟩ := h; exact sqT_of (k _ _ (by simp) et)) ?_ ?_
    · clear k1 ef ee
      rintro i x Tp σ' H2 hx ⟨f, ps, y2, y3, y4, y5, y6, y7, rfl, ef, ee, k2⟩ nT
      obtain ⟨b, hb, rfl⟩ := getRef hx
      obtain ⟨r, hr2, eb⟩ := har.get hb
      have hi := (List.getElem?_eq_some_iff.mp hr2).1
      have k3 : Keep [] H2 (upd H2 Tp (.tup [.int (i : Nat), .ref b])) := Keep.new nT
      have eT : upd H2 Tp (.tup [.int (i : Nat), .ref b]) Tp = some (.tup [.int (i : Nat), .ref b]) := upd_same
      have ef := k3 _ _ (by simp) ef
      have ee := ee.keep0 k3
      have k2 := k2.trans k3
      generalize upd H2 Tp (.tup [.int (i : Nat), .ref b]) = H3 at k2 eT ef ee ⊢
      clear k3 nT
      have eb3 : H3 b = some (.tup [.str (strL r.fst), .str (strL r.snd), .int r.cnt]) := k2 _ _ (by simp) eb
      refine ⟨Tp, _, rfl, sqT_of eT, rfl, _, _, rfl, .ref b, [], rfl, ⟨b, _, rfl, sqT_of eb3, rfl, _, _, rfl, _, _, rfl, _, _, rfl, rfl, rfl, ?_⟩⟩
      simp only [List.set_cons_zero, List.set_cons_succ]
      walk_at "sts"
      have lde : (dueL (rs.take i)).length ≤ 1024 := due_size (by rw [List.length_take]; omega)
      have lps := ee.len
      have tk := take_s hr2
      refine lc2_go (a := f) (xs := ps.map V.ref) (fun R h => r_var rfl h) (sqL_of ef) (fun D n H' => ∃ qs : List Addr, H' D = some (.lst (qs.map V.ref)) ∧ AllAt zHO H' qs (longL ((dueL (rs.take i)).take n) r) ∧ Keep [] H3 H')
        (fun D nD => ⟨[], upd_same, trivial, Keep.new nD⟩) (fun D n H' nD _ h => by obtain ⟨_, _, _, k⟩ := h; exact sqL_of (k _ _ (by simp) ef)) ?_ ?_
      · rintro D n x H4 nD hx ⟨qs, eD, eqs, k4⟩
        obtain ⟨u, hu, rfl⟩ := getRef hx
        obtain ⟨z, hz, eu⟩ := ee.get hu
        have hz2 := (List.getElem?_eq_some_iff.mp hz).1
        have zm := every_mem (List.mem_filter.mp (List.mem_of_getElem? hz)).1
        simp only [L2.wipe, List.map_cons, List.map_nil, List.set_cons_zero, List.set_cons_succ]
        walk_at "sts"
        refine ⟨rfl, ?_⟩
        have inn : ∀ (b : Addr) H5, Keep [] H4 H5 → H5 b = some (.tup ((ch r).map V.int)) → In2 K (gName 7) (tOp (rCatA K) (tVar 6) (tTup (tCons (tVar 7) tNil))) [7] [some (V.ref t), some (V.ref f), some (V.int (i : Nat)), some (V.str (strL r.snd)), some (V.int r.cnt), y5, some (V.ref u), none] D (fun H' => ∃ qs : List Addr, H' D = some (.lst (qs.map V.ref)) ∧ AllAt zHO H' qs (longL ((dueL (rs.take i)).take (n + 1)) r) ∧ Keep [] H3 H') (.ref b) H5 := by
          intro b H5 k5 eb
          refine in2_go (ys := (ch r).map V.int) (fun j H' => ∃ qs : List Addr, H' D = some (.lst (qs.map V.ref)) ∧ AllAt zHO H' qs (longL ((dueL (rs.take i)).take n) r ++ ((ch r).take j).map fun x => z ++ [x]) ∧ Keep [] H3 H' ∧ H' b = some (.tup ((ch r).map V.int))) (sqT_of eb)
            ⟨qs, k5 _ _ (by simp) eD, by rw [List.take_zero, List.map_nil, List.append_nil]; exact eqs.keep0 k5, k4.trans k5, eb⟩ (fun j H' h => by obtain ⟨_, _, _, _, e⟩ := h; exact sqT_of e) ?_ ?_
          · rintro j y H6 hy ⟨qs', eD', eqs', k6, eb6⟩
            obtain ⟨c, hc, rfl⟩ : ∃ c, (ch r)[j]? = some c ∧ V.int c = y := by
              rw [List.getElem?_map] at hy
              obtain ⟨j, a, b⟩ := Option.map_eq_some_iff.mp hy
              exact ⟨j, a, b⟩
            have hj2 := (List.getElem?_eq_some_iff.mp hc).1
            have chl := ch_len (r := r)
            simp only [L2.wipe, List.map_cons, List.map_nil, List.set_cons_zero, List.set_cons_succ]
            walk_at "sts"
            refine ⟨rfl, ?_⟩
            walk_at "sts"
            intro o no
            have k7 : Keep [] H6 (upd H6 o (.tup [.int c])) := Keep.new no
            have eo : upd H6 o (.tup [.int c]) o = some (.tup ([c].map V.int)) := upd_same
            refine r_catH (k7 _ _ (by simp) (k6 _ _ (by simp) eu)) eo (by rw [List.length_map, zm.1, List.length_take]; exact le_size (by simp; omega)) fun p H8 k8 ep => ?_
            have k78 := k7.trans k8
            have lq := eqs'.len
            have lz := long_size (zs := (dueL (rs.take i)).take n) (r := r)
            rw [List.length_append, List.length_map, List.length_take] at lq
            rw [List.length_take] at lz
            refine ⟨_, k78 _ _ (by simp) eD', by rw [List.length_map]; exact lt_size (by omega), qs' ++ [p], by rw [upd_same, List.map_append]; rfl, ?_, (k6.trans k78).mut nD, ?_⟩
            · rw [take_s hc, List.map_append, ← List.append_assoc]
              have kx : ∀ {a : Addr} {x : List Int}, H8 a = some (zHO x) → upd H8 D (.lst (qs'.map V.ref ++ [.ref p])) a = some (zHO x) := fun {a x} e => by
                rw [upd_ne (by rintro rfl; rw [k78 _ _ (by simp) eD'] at e; cases e)]; exact e
              refine AllAt.app ((eqs'.keep0 k78).mono fun a x _ _ e => kx e) ⟨kx ?_, trivial⟩
              rw [ep, ← List.map_append]
            · rw [upd_ne (by rintro rfl; rw [eD'] at eb6; cases eb6)]
              exact k78 _ _ (by simp) eb6
          · rintro H6 ⟨qs', eD', eqs', k6, _⟩
            refine ⟨qs', eD', ?_, k6⟩
            rw [List.length_map, List.take_length] at eqs'
            rw [take_s hz]
            unfold longL
            rw [List.flatMap_append, List.flatMap_cons, List.flatMap_nil, List.append_nil]
            exact eqs'
        walk_at "sts"
        by_cases h0 : r.cnt = 0
        · rw [if_pos (decide_eq_true h0)]
          walk_at "sts"
          intro o no
          exact inn o _ (Keep.new no) (by rw [upd_same]; unfold ch; rw [if_pos h0]; rfl)
        · rw [if_neg (by rw [decide_eq_false h0]; decide)]
          walk_at "sts"
          intro o no
          exact inn o _ (Keep.new no) (by rw [upd_same]; unfold ch; rw [if_neg h0]; rfl)
      · rintro D H4 nD ⟨qs, eD, eqs, k4⟩
        rw [List.length_map, lps, List.take_length] at eqs
        clear ee ef
        have k5 := k2.trans k4
        have lz := long_size (zs := dueL (rs.take i)) (r := r)
        have lqs := eqs.len
        walk_at "sts"
        refine lcL_go (fun D2 n acc H' => ∃ ws : List Addr, acc = ws.map V.ref ∧ AllAt zHO H' ws (((longL (dueL (rs.take i)) r).take n).filter (okR (rs.take i ++ [r]))) ∧ Keep [] H4 H' ∧ H4 D2 = none) (sqL_of eD) (fun D2 nD2 => ⟨[], rfl, trivial, Keep.new nD2, nD2⟩)
          (fun D2 n acc H' _ h => by obtain ⟨_, _, _, k, _⟩ := h; exact sqL_of (k _ _ (by simp) eD)) ?_ ?_
        · rintro D2 n x acc H6 hx hD2 ⟨ws, rfl, ews, k6, nD2⟩
          obtain ⟨u, hu, rfl⟩ := getRef hx
          obtain ⟨z, hz, eu⟩ := eqs.get hu
          have hz2 := (List.getElem?_eq_some_iff.mp hz).1
          have zm := long_mem (List.mem_of_getElem? hz)
          have lws := ews.len
          have lle : (((longL (dueL (rs.take i)) r).take n).filter (okR (rs.take i ++ [r]))).length ≤ 2048 := by
            refine Nat.le_trans (List.length_filter_le _ _) ?_
            rw [List.length_take]; omega
          simp only [L2.wipe, List.map_cons, List.map_nil, List.set_cons_zero, List.set_cons_succ]
          walk_at "sts"
          refine ⟨rfl, ?_⟩
          walk_at "sts"
          rw [show ((i : Nat) : Int) + 1 = ((i + 1 : Nat) : Int) from rfl]
          refine r_slA ((k5.trans k6) _ _ (by simp) et) fun p H7 k7 ep => ?_
          have k67 := k6.trans k7
          have hD7 := k7 _ _ (by simp) hD2
          rw [← List.map_take] at ep
          walk_at "sts"
          refine ⟨p, u, as.take (i + 1), rs.take (i + 1), z, rfl, ep, (har.keep0 (k5.trans k67)).takeA _, k67 _ _ (by simp) eu, by rw [zm.1, List.length_take, List.length_take]; omega, by rw [List.length_take]; omega, fun a ha => hok a (List.mem_of_mem_take ha), zm.2, fun H8 k8 no => ?_, fun q ds H8 k8 nq eq8 nd hc hall => ?_⟩
          · have eo : okR (rs.take i ++ [r]) z = false := by
              cases e : okR (rs.take i ++ [r]) z with
              | false => rfl
              | true => rw [← tk] at e; exact (no (okR_iff.mp e)).elim
            walk_at "sts"
            refine ⟨_, k8 _ _ (by simp) hD7, ws, rfl, ?_, k67.trans k8, nD2⟩
            rw [take_s hz, List.filter_append, List.filter_cons, if_neg (by rw [eo]; decide), List.filter_nil, List.append_nil]
            exact ews.keep0 (k7.trans k8)
          · have eo : okR (rs.take i ++ [r]) z = true := by
              rw [← tk]; exact okR_iff.mpr ⟨_, clo_good nd hc fun s hs => (hall s).mpr hs⟩
            walk_at "sts"
            refine lc_put (k8 _ _ (by simp) hD7) (by rw [List.length_map]; exact lt_size (by omega)) ⟨ws ++ [u], by rw [List.map_append]; rfl, ?_, (k67.trans k8).mut nD2, nD2⟩
            rw [take_s hz, List.filter_append, List.filter_cons, if_pos eo, List.filter_nil]
            have kx : ∀ {a : Addr} {x : List Int}, H8 a = some (zHO x) → upd H8 D2 (.lst (ws.map V.ref ++ [.ref u])) a = some (zHO x) := fun {a x} e => by
              rw [upd_ne (by rintro rfl; rw [k8 _ _ (by simp) hD7] at e; cases e)]; exact e
            exact AllAt.app ((ews.keep0 (k7.trans k8)).mono fun a x _ _ e => kx e) ⟨kx (k8 _ _ (by simp) (k67 _ _ (by simp) eu)), trivial⟩
        · rintro D2 acc H6 nD2 hD2 ⟨ws, rfl, ews, k6, _⟩
          rw [List.length_map, lqs, List.take_length, ← due_snoc, ← tk] at ews
          walk_at "sts"
          exact ⟨D2, ws, _, _, _, _, _, _, by first | exact rfl | trivial, hD2, ews, k5.trans k6⟩
    · rintro σ' H2 ⟨f, ps, y2, y3, y4, y5, y6, y7, rfl, ef, ee, k2⟩
      walk_at "sts"
      rw [List.length_map, lar, List.take_length] at ee
      exact qq f ps H2 k2 ef ee
end
/-! ### tunings -/
theorem Fun.okG {P : Program} {w : World} {K : PySem.W.Frag} {mg : Str → Option Value} {base : Heap} {x qual : Str} {st : Stmt} {f : Addr} {fd : FuncData} {N ps : List Str} {k : Nat} {sp : Gn.SpG} (F : Fun K x qual st f fd) (S : GScope N ps (defScope st))
    (nocell : ∀ n, cellsFrom n (defScope st).names [] = []) (nofree : ∀ y ∈ (defScope st).names, y.2 ≠ .cell ∧ y.2 ≠ .free) (len : ∀ vs H n Φ M, sp vs H n Φ M → vs.length = ps.length)
    (hbody : ∀ (cdv : Value) (A : Around) (outer : List Env) (L : Addr) (pn : List (Addr × Obj)) (d : Gn.Deal) (vs : List V) (H : Hp), (Gn.gp P w K mg base N qual (defScope st) f cdv A outer L pn).Ok → Room k (A.deeper (envOfC qual (defScope st) L f cdv)) → sp vs H d.n d.Φ d.M →
      ∃ t, Gn.GSs (Gn.gp P w K mg base N qual (defScope st) f cdv A outer L pn) d (defBody st) t ∧ ∀ H2, Gn.KeepG d.M H H2 → t (fun i Hw _ H' => i = d.n ∧ Keep [] Hw H') 0 H2 (start N vs) H2) : Gn.GFn P w K mg base (k + 1) f fd ps sp := by
  obtain ⟨oc, od, kV, doc, pm, an, cdv, ct, osl, rfl, lk, hcd⟩ := F.ex
  have look : ∀ {l : List (Str × NameKind)} {x : Str} {v : NameKind}, l.lookup x = some v → ∃ y ∈ l, y.2 = v := by
    intro l
    induction l with
    | nil => intro x v h; cases h
    | cons a l ih =>
      intro x v h
      rw [List.lookup_cons] at h
      split at h
      · exact ⟨a, by simp, Option.some.inj h⟩
      · obtain ⟨y, hy, e⟩ := ih h
        exact ⟨y, List.mem_cons_of_mem _ hy, e⟩
  refine Gn.gfn lk hcd S nocell (fun x => ⟨fun h => ?_, fun h => ?_⟩) len fun A outer L pn d vs H => hbody cdv A outer L pn d vs H
  · obtain ⟨y, hy, e⟩ := look h
    exact (nofree y hy).1 e
  · obtain ⟨y, hy, e⟩ := look h
    exact (nofree y hy).2 e
namespace Gn
variable {K : PySem.W.Frag} {σ : L2.St} {H : Hp}
def ForGL (K : PySem.W.Frag) (tg : TG) (tb : TGn) (nx : Nat → Hp → L2.St → Hp → Prop) (i : Nat) (Hw : Hp) (σ : L2.St) (v : V) (H1 : Hp) : Prop := ∃ a, v = .ref a ∧ (∃ xs, SqL K H1 a xs) ∧ ∃ W : Nat → Nat → Nat → Hp → L2.St → Hp → Prop, (∃ m, W 0 m i Hw σ H1) ∧ ∀ j m i Hw σ H, W j m i Hw σ H →
  ((Itl K a).stop j H ∧ nx i Hw σ H) ∨ ((Itl K a).go j H ∧ ∀ x H', (Itl K a).yld j H x H' → tg x σ H' fun σ2 H2 => tb (fun i' Hw' σ' H'' => ∃ m', m' < m ∧ W (j + 1) m' i' Hw' σ' H'') i Hw σ2 H2)
theorem r_gforL {tl : TE} {tg : TG} {tb : TGn} {nx : Nat → Hp → L2.St → Hp → Prop} {i : Nat} {Hw : Hp} (k : tl σ H fun v H1 => ForGL K tg tb nx i Hw σ v H1) : Gn.tFor (iList K tl) tg tb nx i Hw σ H := k
theorem forGL_go {tg : TG} {tb : TGn} {nx : Nat → Hp → L2.St → Hp → Prop} {i : Nat} {Hw : Hp} {a : Addr} {xs : List V} (Pv : Nat → Nat → Hp → L2.St → Hp → Prop) (hx : SqL K H a xs) (h0 : Pv 0 i Hw σ H) (hq : ∀ j i Hw σ H', Pv j i Hw σ H' → SqL K H' a xs)
    (hs : ∀ (j : Nat) x i Hw σ H', xs[j]? = some x → Pv j i Hw σ H' → tg x σ H' fun σ2 H2 => tb (fun i' Hw' σ' H'' => ∃ m', m' < xs.length - j ∧ m' = xs.length - (j + 1) ∧ j + 1 ≤ xs.length ∧ Pv (j + 1) i' Hw' σ' H'') i Hw σ2 H2)
    (he : ∀ i Hw σ H', Pv xs.length i Hw σ H' → nx i Hw σ H') : ForGL K tg tb nx i Hw σ (.ref a) H := by
  refine ⟨a, rfl, ⟨xs, hx⟩, fun j m i Hw σ H => m = xs.length - j ∧ j ≤ xs.length ∧ Pv j i Hw σ H, ⟨xs.length, by simp, Nat.zero_le _, h0⟩, ?_⟩
  rintro j m i Hw σ H ⟨rfl, hj, p⟩
  have q := hq j i Hw σ H p
  by_cases lt : j < xs.length
  · refine .inr ⟨⟨xs, xs[j], q, by simp [lt]⟩, ?_⟩
    rintro x H' ⟨rfl, y⟩
    exact hs j x i Hw σ _ (y xs q) p
  · have e : j = xs.length := by omega
    subst e
    exact .inl ⟨⟨xs, q, Nat.le_refl _⟩, he i Hw σ H p⟩
theorem r_then {t u : TGn} {nx : Nat → Hp → L2.St → Hp → Prop} {i : Nat} {Hw : Hp} (k : t (fun i' Hw' σ' H' => u nx i' Hw' σ' H') i Hw σ H) : tThen t u nx i Hw σ H := k
theorem r_plain {t : TS} {nx : Nat → Hp → L2.St → Hp → Prop} {i : Nat} {Hw : Hp} (k : t { nx := fun σ' H' => nx i Hw σ' H', rt := fun _ _ => False } σ H) : tPlain t nx i Hw σ H := k
theorem r_yield {n : Nat} {Φ : Nat → V → Hp → Prop} {M : List Addr} {te : TE} {nx : Nat → Hp → L2.St → Hp → Prop} {i : Nat} {Hw : Hp} (lt : i < n) (k : te σ H fun x H1 => Φ i x H1 ∧ Keep [] Hw H1 ∧ ∀ H2, KeepG M H1 H2 → nx (i + 1) H2 σ H2) : tYield n Φ M te nx i Hw σ H := ⟨lt, k⟩
theorem KeepG.kind {n : Nat} {M : List Addr} {H H' : Hp} (h : KeepG M H H') (hM : ∀ b ∈ M, ∃ o, H b = some o ∧ hKind o = n) : ∀ b ∈ M, ∃ o, H' b = some o ∧ hKind o = n := fun b hb => by
  obtain ⟨o, e, k⟩ := hM b hb
  obtain ⟨o', e', k'⟩ := h.2 b hb o e
  exact ⟨o', e', k'.trans k⟩
theorem KeepG.other {n : Nat} {M : List Addr} {H H' : Hp} {a : Addr} {o : HO} (h : KeepG M H H') (hM : ∀ b ∈ M, ∃ o, H b = some o ∧ hKind o = n) (e : H a = some o) (ne : hKind o ≠ n) : H' a = some o := h.1 a o (fun hm => by
  obtain ⟨o', e', k'⟩ := hM a hm
  rw [e] at e'
  exact ne (by rw [Option.some.inj e']; exact k')) e
theorem again {n j : Nat} {p : Prop} (lt : j < n) (h : p) : ∃ m', m' < n - j ∧ m' = n - (j + 1) ∧ j + 1 ≤ n ∧ p := ⟨_, by omega, rfl, lt, h⟩
end Gn
abbrev lHO (l : Int) : HO := .tup [.int l, .int 1]
def WorldAt (rs : List Row) (z : List Int) (H : Hp) (d : Addr) : Prop := ∃ (es : List (Nm × Addr)) (ds : List (Nm × Int)), H d = some (.dK (dN V.ref es)) ∧ es.map Prod.fst = ds.map Prod.fst ∧ AllAt lHO H (es.map Prod.snd) (ds.map Prod.snd) ∧ (keysN ds).Nodup ∧ Clo rs z ds ∧ ∀ s, s ∈ keysN ds ↔ s ∈ endsOf rs
/-- {k: (v, 1) for k, v in d.items()} -/
theorem dc_world {K : PySem.W.Frag} {a i j d : Nat} {ds : List (Nm × Int)} {σ : L2.St} {H : Hp} {Q : VK} (hd : H d = some (.dK (dN V.int ds))) (ha : σ[a]? = some (some (.ref d))) (hw : ∀ x y, wipe (((wipe σ [i, j]).set i x).set j y) [i, j] = wipe σ [i, j]) (h1 : ∀ x y, (((wipe σ [i, j]).set i x).set j y)[i]? = some x) (h2 : ∀ x y, (((wipe σ [i, j]).set i x).set j y)[j]? = some y) (nd : (keysN ds).Nodup) (len : ds.length ≤ 1000)
    (k : ∀ D (es : List (Nm × Addr)) H', Keep [] H H' → H D = none → H' D = some (.dK (dN V.ref es)) → es.map Prod.fst = ds.map Prod.fst → AllAt lHO H' (es.map Prod.snd) (ds.map Prod.snd) → Q (.ref D) H') :
    tLockE (tDc (iItems (tVar a)) (gTup K 2 (gCons (gName i) (gCons (gName j) gNil))) tYes (tVar i) (tTup (tCons (tVar j) (tCons (tC (V.int 1)) tNil))) [i, j]) σ H Q := by
  refine dcI_go hd (fun od Q' h => r_var ha (h _ _ ⟨rfl, rfl⟩)) (fun od D n acc H' => ∃ es : List (Nm × Addr), acc = dN V.ref es ∧ es.map Prod.fst = (ds.map Prod.fst).take n ∧ AllAt lHO H' (es.map Prod.snd) ((ds.map Prod.snd).take n) ∧ Keep [] (upd H d (.frz od (.dK (dN V.int ds)))) H') (fun od D hD => ⟨[], rfl, rfl, trivial, Keep.new hD⟩) (fun od D i acc H' h => by obtain ⟨_, _, _, _, k⟩ := h; exact k _ _ (by simp) upd_same) ?_ ?_
  · rintro od D n ky v T acc H' hn hD hacc ⟨es, rfl, ef, ea, kk⟩ hT
    have eT : upd H' T (.tup [kV ky, v]) T = some (.tup [kV ky, v]) := upd_same
    refine r_gTup2 (sqT_of eT) ⟨hw _ _, ?_⟩
    refine r_yes ?_
    rw [if_pos rfl]
    refine r_var (h1 _ _) ?_
    obtain ⟨⟨s, l⟩, hsl, e⟩ : ∃ p, ds[n]? = some p ∧ (nK p.1, V.int p.2) = (ky, v) := by
      unfold dN at hn
      rw [List.getElem?_map] at hn
      obtain ⟨p, a, b⟩ := Option.map_eq_some_iff.mp hn
      exact ⟨p, a, b⟩
    obtain ⟨rfl, rfl⟩ := Prod.mk.inj e
    have lt := (List.getElem?_eq_some_iff.mp hsl).1
    have ex1 : ∀ u : V, (List.set (wipe σ [i, j]) i (some (kV (nK s)))).set j (some u) = (List.set (wipe σ [i, j]) i (some (kV (nK s)))).set j (some u) := fun _ => rfl
    refine r_tup (r_cons (r_var (h2 _ _) (r_cons (r_c (r_nil ⟨by simp; decide, fun u hu => ?_⟩)))))
    have nTD : T ≠ D := by rintro rfl; rw [hacc] at hT; cases hT
    have k3 : Keep [] H' (upd H' T (.tup [kV (nK s), .int l])) := Keep.new hT
    have k4 : Keep [] (upd H' T (.tup [kV (nK s), .int l])) (upd (upd H' T (.tup [kV (nK s), .int l])) u (.tup [.int l, .int 1])) := Keep.new hu
    have k34 := k3.trans k4
    have eu : upd (upd H' T (.tup [kV (nK s), .int l])) u (.tup [.int l, .int 1]) u = some (lHO l) := upd_same
    dsimp only
    generalize upd (upd H' T (.tup [kV (nK s), .int l])) u (.tup [.int l, .int 1]) = H5 at k34 eu ⊢
    have les : es.length ≤ 1000 := by
      have := congrArg List.length ef
      rw [List.length_map, List.length_take, List.length_map] at this
      omega
    have new : s ∉ es.map (·.1) := by
      have e1 : es.map (·.1) = (ds.map Prod.fst).take n := ef
      rw [e1]
      intro hm
      have e2 : ds.map Prod.fst = (ds.map Prod.fst).take n ++ s :: (ds.map Prod.fst).drop (n + 1) := by
        have := List.take_append_drop n (ds.map Prod.fst)
        rw [List.drop_eq_getElem_cons (by rw [List.length_map]; exact lt), List.getElem_map, (List.getElem?_eq_some_iff.mp hsl).2] at this
        exact this.symm
      have nd2 : (ds.map Prod.fst).Nodup := nd
      rw [e2] at nd2
      exact (List.nodup_append.mp nd2).2.2 _ hm _ (by simp) rfl
    refine ⟨dN V.ref es, nK s, rfl, k34 _ _ (by simp) hacc, by rw [dN_len]; exact lt_size (by omega), dN V.ref (es ++ [(s, u)]), by rw [upd_same, dN_put (f := V.ref) (v := u) new], es ++ [(s, u)], rfl, ?_, ?_, (kk.trans k34).mut hD⟩
    · rw [List.map_append, ef, take_s (by rw [List.getElem?_map, hsl]; rfl)]; rfl
    · rw [take_s (x := l) (by rw [List.getElem?_map, hsl]; rfl), List.map_append]
      have kx : ∀ {a : Addr} {x : Int}, H5 a = some (lHO x) → upd H5 D (.dK (putK (dN V.ref es) (nK s) (V.ref u))) a = some (lHO x) := fun {a x} e => by
        rw [upd_ne (by rintro rfl; rw [k34 _ _ (by simp) hacc] at e; cases e)]; exact e
      exact AllAt.app ((ea.keep0 k34).mono fun a x _ _ e => kx e) ⟨kx eu, trivial⟩
  · rintro od D acc H' hD hacc ⟨es, rfl, ef, ea, kk⟩
    rw [show (dN V.int ds).length = ds.length from dN_len, List.take_of_length_le (by rw [List.length_map]; exact Nat.le_refl _)] at ef ea
    have nDd : D ≠ d := by rintro rfl; rw [upd_same] at hD; cases hD
    refine k D es _ (fun b o _ hb => ?_) (by rw [upd_ne nDd] at hD; exact hD) (by rw [upd_ne nDd]; exact hacc) ef (ea.mono fun a x _ _ e => ?_)
    · by_cases e : b = d
      · rw [e, upd_same, ← hd, ← e]; exact hb
      · rw [upd_ne e]; exact kk _ _ (by simp) (by rw [upd_ne e]; exact hb)
    · rw [upd_ne (by rintro rfl; rw [kk _ _ (by simp) upd_same] at e; cases e)]; exact e
section
variable {P : Program} {w : World} {K : PySem.W.Frag} {mg : Str → Option Value} {base : Heap}
def spTun (C : Addr) : Gn.SpG := fun vs H n Φ M => ∃ (x : Addr) (rs : List Row), vs = [.ref x] ∧ StrikesAt C H x rs ∧ rs.length ≤ 10 ∧ (∀ r ∈ rs, RowOk r) ∧ n = (dueL rs).length ∧ (∀ a ∈ M, ∃ kvs, H a = some (.dK kvs)) ∧
  Φ = fun i v H' => ∃ (p q d : Addr) (z : List Int), v = .ref p ∧ (dueL rs)[i]? = some z ∧ H' p = some (.tup [.ref q, .ref d]) ∧ H' q = some (zHO z) ∧ WorldAt rs z H' d
theorem ok_tun (T : Tx K mg) (G_levels_with : FnOk P w K mg base CX0 3 T.f_levels_with T.fd_levels_with ["rows", "rises"] spLevels) (G_all_tunings : FnOk P w K mg base CX0 4 T.f_all_tunings T.fd_all_tunings ["rows"] spAllT) : Gn.GFn P w K mg base 5 T.f_tunings T.fd_tunings ["strikes"] (spTun T.C_Strikes) := by
  refine Fun.okG T.F_tunings sc_tunings (fun _ => rfl) (by decide +kernel) (fun vs H n Φ M h => ?_) (fun cdv A outer L pn d vs H GO hr h => ?_)
  · obtain ⟨x, rs, rfl, _⟩ := h; rfl
  · obtain ⟨x, rs, rfl, ex, l10, hok, en, eM, eΦ⟩ := h
    refine ⟨_, (Gn.gss_cons (Gn.gs_for (fun s0 Hw => pi_listK (K := K) rfl (pe_call G_all_tunings (hr.mono (by decide)) rfl T.g_all_tunings T.F_all_tunings.kp T.b_all_tunings .nil pass0 (pa_cons (Dt.pe_fldK (K := K) rfl (pv 0) rfl) pa_nil))) (fun s0 Hw => pg_name (i := 1) sc_tunings.nd rfl (Or.inl rfl))
    (Gn.gss_cons (Gn.gs_plain (fun s0 Hw => (ps_set (i := 2) sc_tunings.nd rfl (Or.inl rfl) (pe_call G_levels_with (hr.mono (by decide)) rfl T.g_levels_with T.F_levels_with.kp T.b_levels_with .nil pass0 (pa_cons (Dt.pe_fldK (K := K) rfl (pv 0) rfl) (pa_cons (pv 1) pa_nil))))))
    (Gn.gss_cons (Gn.gs_yield GO (fun s0 Hw => (pe_tup (pa_cons (pv 1) (pa_cons (pe_lock (pe_dc (own := [("name", 3), ("level", 4)]) (g := gTup K 2 (gCons (gName 3) (gCons (gName 4) gNil))) (tt := tYes) rfl sc_tunings.nd (pi_items (pv 2)) (blkOk_by (own := [("name", 3), ("level", 4)]) (N := ["strikes", "rises", "levels", "name", "level"]) (sc := defScope s_tunings) (by decide +kernel)) (fun _ _ _ _ _ => pg_tup (n := 2) rfl (pgs_cons (pg_name (i := 3) sc_tunings.nd rfl (Or.inl rfl)) (pgs_cons (pg_name (i := 4) sc_tunings.nd rfl (Or.inl rfl)) pgs_nil))) (fun _ _ _ _ _ => pts_nil) (fun _ _ _ _ _ => (pv 3)) (fun _ _ _ _ _ => (pe_tup (pa_cons (pv 4) (pa_cons pe_int pa_nil)))))) pa_nil)))))
    Gn.gss_nil)))
    Gn.gss_nil), fun H2 k2 => ?_⟩
    rw [en, eΦ]
    have hM0 : ∀ b ∈ d.M, ∃ o, H b = some o ∧ Gn.hKind o = 2 := fun b hb => by
      obtain ⟨kvs, e⟩ := eM b hb
      exact ⟨_, e, rfl⟩
    generalize d.M = M at k2 hM0 ⊢
    have n0 : (0 : Nat) ≠ 2 := by decide
    have n1 : (1 : Nat) ≠ 2 := by decide
    have n3 : (3 : Nat) ≠ 2 := by decide
    have hM2 := k2.kind hM0
    obtain ⟨dx, t, as, ex1, et, har⟩ := ex
    have lar := har.len
    have oc := T.oc_Strikes
    have na := T.na_Strikes_rows
    have ex1 := k2.other hM0 ex1 n3
    have et := k2.other hM0 et n0
    have har : AllAt rHO H2 as rs := har.mono fun a x _ _ e => k2.other hM0 e n0
    clear k2 eM en eΦ
    refine Gn.r_gforL ?_
    walk_at "start"
    walk_at "sts"
    refine ⟨t, as, rs, rfl, et, har, l10, hok, fun p ps H3 k3 ep eps => ?_⟩
    have lps := eps.len
    have hM3 := (Gn.KeepG.all k3 (M := M)).kind hM2
    have lde := due_size l10
    refine Gn.forGL_go (xs := ps.map V.ref) (fun j i Hw σ H' => i = j ∧ (∃ y1 y2 y3 y4 : Option V, σ = [some (.ref x), y1, y2, y3, y4]) ∧ Gn.KeepG M H3 H' ∧ Keep [] Hw H') (sqL_of ep) ⟨rfl, ⟨_, _, _, _, by first | exact rfl | trivial⟩, Gn.KeepG.refl _ _, k3⟩ (fun j i Hw σ H' h => sqL_of (h.2.2.1.other hM3 ep n1)) ?_ ?_
    · rintro j x1 i Hw σ H4 hx ⟨rfl, ⟨y1, y2, y3, y4, rfl⟩, k4, kw⟩
      obtain ⟨q, hq, rfl⟩ := getRef hx
      obtain ⟨z, hz, eq1⟩ := eps.get hq
      have lt := (List.getElem?_eq_some_iff.mp hz).1
      obtain ⟨zm1, zm2⟩ := List.mem_filter.mp (List.mem_of_getElem? hz)
      obtain ⟨zl, zb⟩ := every_mem zm1
      have k34 := (Gn.KeepG.all k3).trans k4
      have eq1 := k4.other hM3 eq1 n0
      have ex4 := k34.other hM2 ex1 n3
      have et4 := k34.other hM2 et n0
      have har4 : AllAt rHO H4 as rs := har.mono fun a x _ _ e => k34.other hM2 e n0
      walk_at "sts"
      refine Gn.r_then (Gn.r_plain ?_)
      walk_at "sts"
      refine ⟨t, q, as, rs, z, rfl, et4, har4, eq1, zl, l10, hok, zb, fun H5 k5 no => (no (okR_iff.mp zm2)).elim, fun d1 ds H5 k5 nd1 ed1 nd hc hall => ?_⟩
      walk_at "sts"
      refine Gn.r_then (Gn.r_yield lt ?_)
      have eq5 := k5 _ _ (by simp) eq1
      have few : ds.length ≤ 20 := by
        have := nodup_le nd (xs := endsOf rs) fun s h => (hall s).mp h
        rw [List.length_map, ends_len] at this
        omega
      walk_at "sts"
      refine dc_world ed1 (by first | exact rfl | trivial) (fun _ _ => rfl) (fun _ _ => rfl) (fun _ _ => rfl) nd (by omega) fun D es H6 k6 nD eD ef ea => ?_
      walk_at "sts"
      intro o no
      have k7 : Keep [] H6 (upd H6 o (.tup [.ref q, .ref D])) := Keep.new no
      have k57 := k6.trans k7
      refine ⟨⟨o, q, D, z, rfl, hz, upd_same, k57 _ _ (by simp) eq5, es, ds, k7 _ _ (by simp) eD, ef, ea.keep0 k7, nd, hc, hall⟩, (kw.trans k5).trans k57, fun H8 k8 => ?_⟩
      exact Gn.again (by rw [List.length_map]; omega) ⟨rfl, ⟨_, _, _, _, by first | exact rfl | trivial⟩, (k4.trans (Gn.KeepG.all (k5.trans k57))).trans k8, Keep.refl _ _⟩
    · rintro i Hw σ H4 ⟨rfl, _, k4, kw⟩
      exact ⟨by rw [List.length_map]; exact lps, kw⟩
end
/-! ### possible_beats -/
def BeatIn (rs : List Row) (a b : Nm) (x : Int) : Prop := ∃ z ∈ dueL rs, ∃ L, Good rs z L ∧ x = ((L b - L a).natAbs : Int)
theorem conn_diff {rs : List Row} {z : List Int} {L L' : Nm → Int} {a b : Nm} (hok : ∀ r ∈ rs, RowOk r) (G : Good rs z L) (G' : Good rs z L') (h : Conn rs a b) : L b - L a = L' b - L' a := by
  induction h with
  | refl => omega
  | @step s u _ n ih =>
    obtain ⟨r, hr, e⟩ := n
    obtain ⟨i, hi⟩ := List.mem_iff_getElem?.mp hr
    have := good_step G hi (hok r hr).ne e
    have := good_step G' hi (hok r hr).ne e
    omega
def dB (ks : List Int) : List (Key × V) := ks.map fun x => (Sum.inl x, V.bl true)
def insB (ks : List Int) (x : Int) : List Int := if x ∈ ks then ks else ks ++ [x]
theorem putB {ks : List Int} {x : Int} : putK (dB ks) (Sum.inl x) (V.bl true) = dB (insB ks x) := by
  unfold putK insB
  by_cases h : x ∈ ks
  · rw [if_pos h, if_pos]
    · unfold dB
      rw [List.map_map]
      refine List.map_congr_left fun y _ => ?_
      show (if Sum.inl y = Sum.inl x then (Sum.inl y, V.bl true) else (Sum.inl y, V.bl true)) = _
      split <;> rfl
    · rw [List.any_eq_true]
      exact ⟨(Sum.inl x, V.bl true), List.mem_map.mpr ⟨x, h, rfl⟩, by rw [decide_eq_true_eq]⟩
  · rw [if_neg h, if_neg]
    · unfold dB; rw [List.map_append]; rfl
    · rw [Bool.not_eq_true, List.any_eq_false]
      intro kv hkv
      obtain ⟨y, hy, rfl⟩ := List.mem_map.mp hkv
      rw [decide_eq_true_eq]
      exact fun e => h (by rw [← Sum.inl.inj e]; exact hy)
theorem mem_insB {ks : List Int} {x y : Int} : y ∈ insB ks x ↔ y ∈ ks ∨ y = x := by
  unfold insB
  split
  next h => exact ⟨.inl, fun e => e.elim id fun e => by rw [e]; exact h⟩
  next h => rw [List.mem_append, List.mem_singleton]
theorem nodup_insB {ks : List Int} {x : Int} (h : ks.Nodup) : (insB ks x).Nodup := by
  unfold insB
  split
  · exact h
  next n => exact List.nodup_append.mpr ⟨h, by simp, fun a ha b hb e => n (by rw [List.mem_singleton.mp hb] at e; rw [← e]; exact ha)⟩
theorem len_insB {ks : List Int} {x : Int} : (insB ks x).length ≤ ks.length + 1 := by
  unfold insB
  split <;> simp
theorem r_dputI {p : Addr} {i : Int} {v : V} {H : Hp} {kvs : List (Key × V)} {Q : Hp → Prop} (h : H p = some (.dK kvs)) (hl : kvs.length < sizeLine) (k : Q (upd H p (.dK (putK kvs (Sum.inl i) v)))) : rDPut (.ref p) (.int i) v H Q := ⟨p, _, rfl, DPut.k (k := Sum.inl i) h hl, k⟩
namespace Gn
theorem r_forG {sp : SpG} {ta : TA} {gt : TG} {tb : TS} {D : Ends} {σ : L2.St} {H : Hp} (k : ta σ H fun vs H1 => ∃ n Φ M, sp vs H1 n Φ M ∧ ∃ W : Nat → L2.St → Hp → Prop, W 0 σ H1 ∧
  (∀ i σ H, i < n → W i σ H → ∀ x H', Keep [] H H' → Φ i x H' → gt x σ H' fun σ2 H2 => tb { nx := fun σ3 H3 => KeepG M H' H3 ∧ W (i + 1) σ3 H3, rt := D.rt, bk := D.nx, ct := fun σ3 H3 => KeepG M H' H3 ∧ W (i + 1) σ3 H3 } σ2 H2) ∧
  ∀ σ H, W n σ H → ∀ H', Keep [] H H' → D.nx σ H') : tForG sp ta gt tb D σ H := k
end Gn
theorem world_get {H : Hp} {es : List (Nm × Addr)} {ds : List (Nm × Int)} (ef : es.map Prod.fst = ds.map Prod.fst) (ea : AllAt lHO H (es.map Prod.snd) (ds.map Prod.snd)) (nd : (keysN ds).Nodup) {s : Nm} (hs : s ∈ keysN ds) : ∃ u l, getN es s = some u ∧ getN ds s = some l ∧ H u = some (lHO l) := by
  obtain ⟨p, hp, rfl⟩ := List.mem_map.mp hs
  obtain ⟨n, hn⟩ := List.mem_iff_getElem?.mp hp
  have lt := (List.getElem?_eq_some_iff.mp hn).1
  have len : es.length = ds.length := by
    have := congrArg List.length ef
    rwa [List.length_map, List.length_map] at this
  have hq : es[n]? = some (es[n]'(by omega)) := List.getElem?_eq_getElem _
  generalize es[n]'(by omega) = q at hq
  have e1 : (es.map Prod.fst)[n]? = (ds.map Prod.fst)[n]? := by rw [ef]
  rw [List.getElem?_map, List.getElem?_map, hq, hn] at e1
  have e2 : q.1 = p.1 := Option.some.inj e1
  obtain ⟨l, hl, eu⟩ := ea.get (i := n) (a := q.2) (by rw [List.getElem?_map, hq]; rfl)
  rw [List.getElem?_map, hn] at hl
  have e3 : p.2 = l := Option.some.inj hl
  refine ⟨q.2, p.2, getN_of (by show (keysN es).Nodup; unfold keysN; rw [ef]; exact nd) ?_, getN_of nd hp, by rw [e3]; exact eu⟩
  rw [← e2]; exact List.mem_of_getElem? hq
theorem sort_lt {ks ns : List Int} (pm : ns.Perm ks) (so : ns.Pairwise (· ≤ ·)) (nd : ks.Nodup) : ns.Pairwise (· < ·) := by
  have nd2 : ns.Nodup := pm.nodup_iff.mpr nd
  have := List.Pairwise.and so nd2
  exact this.imp fun h => by omega
section
variable {P : Program} {w : World} {K : PySem.W.Frag} {mg : Str → Option Value} {base : Heap}
def spBeats (C : Addr) : Sp := fun vs H Q _ => ∃ (x : Addr) (rs : List Row) (a b : Nm), vs = [.ref x, .str (strL a), .str (strL b)] ∧ StrikesAt C H x rs ∧ rs.length ≤ 10 ∧ (∀ r ∈ rs, RowOk r) ∧ a ∈ endsOf rs ∧ b ∈ endsOf rs ∧ Conn rs a b ∧
  ∀ p (ds : List Int) H', Keep [] H H' → H p = none → H' p = some (.lst (ds.map V.int)) → ds.Pairwise (· < ·) → (∀ d, d ∈ ds ↔ BeatIn rs a b d) → Q (.ref p) H'
theorem ok_beats (T : Tx K mg) (G_Strikes_walk : FnOk P w K mg base CX0 4 T.f_Strikes_walk T.fd_Strikes_walk ["self", "first", "second"] (spWalkS T.C_Strikes)) (G_tunings : Gn.GFn P w K mg base 5 T.f_tunings T.fd_tunings ["strikes"] (spTun T.C_Strikes)) : FnOk P w K mg base CX0 7 T.f_possible_beats T.fd_possible_beats ["strikes", "first", "second"] (spBeats T.C_Strikes) := by
  refine T.F_possible_beats.ok sc_possible_beats (fun vs H Q E h => ?_) (fun cdv A outer s H vs Q E hr h => ?_)
  · obtain ⟨x, rs, a, b, rfl, _⟩ := h; rfl
  · obtain ⟨x, rs, a, b, rfl, st, l10, hok, ha, hb, hc, qq⟩ := h
    have hne : ∀ r ∈ rs, r.fst ≠ r.snd := fun r hr => (hok r hr).ne
    have oc := T.oc_Strikes
    refine ⟨_, PSs.nox (pss_cons (ps_expr (pe_meth (pv 0) T.oc_Strikes.cl T.me_Strikes_walk G_Strikes_walk (hr.mono (by decide)) T.b_Strikes_walk .nil pass0 (pa_cons (pv 1) (pa_cons (pv 2) pa_nil))))
    (pss_cons (ps_set (i := 3) sc_possible_beats.nd rfl (Or.inl rfl) pe_dnewK)
    (pss_cons (Gn.ps_forG rfl G_tunings (hr.mono (by decide)) rfl T.g_tunings T.F_tunings.kp T.b_tunings (pa_cons (pv 0) pa_nil) (pg_tup (n := 2) rfl (pgs_cons (pg_name (i := 4) sc_possible_beats.nd rfl (Or.inl rfl)) (pgs_cons (pg_name (i := 5) sc_possible_beats.nd rfl (Or.inl rfl)) pgs_nil)))
    (pss_one (ps_dput (hu_of hr) (pv 3) (pe_callB call_abs (by rfl) T.m_abs (by decide +kernel) (pa_cons (pe_op op_sub (pe_ix ix_tup (pe_dget (hu_of hr) (pv 5) (pv 2) (fun _ _ => rfl)) pe_int (fun _ _ => rfl)) (pe_ix ix_tup (pe_dget (hu_of hr) (pv 5) (pv 1) (fun _ _ => rfl)) pe_int (fun _ _ => rfl))) pa_nil)) pe_bl rfl)))
    (pss_one (ps_ret (pe_callB cr_sortedI (by rfl) T.m_sorted (by decide +kernel) (pa_cons (pe_callTy (call_list_dK rfl) (by rfl) T.m_list (by decide +kernel) (pa_cons (pv 3) pa_nil)) pa_nil))))))), ?_⟩
    walk_at "start"
    walk_at "sts"
    obtain ⟨dx, t, as, ex, et, har⟩ := id st
    refine Ow.r_methAt ex rfl ?_
    walk_at "sts"
    refine ⟨x, rs, a, b, rfl, st, l10, hok, ha, hb, hc.symm hne, fun v H1 k1 => ?_⟩
    walk_at "sts"
    intro m nm
    have k2 : Keep [] H1 (upd H1 m (.dK [])) := Keep.new nm
    have em : upd H1 m (.dK []) m = some (.dK (dB [])) := upd_same
    have k12 := k1.trans k2
    have nmH := k1.free (by simp) nm
    generalize upd H1 m (.dK []) = H2 at k12 em ⊢
    clear k1 k2 nm
    walk_at "sts"
    refine Gn.r_forG ?_
    walk_at "sts"
    have st2 : StrikesAt T.C_Strikes H2 x rs := ⟨dx, t, as, k12 _ _ (by simp) ex, k12 _ _ (by simp) et, har.keep0 k12⟩
    have lde := due_size l10
    refine ⟨_, _, [m], ⟨x, rs, rfl, st2, l10, hok, rfl, fun c hc => ⟨dB [], by rw [List.mem_singleton.mp hc]; exact em⟩, rfl⟩, fun i σ' H' => ∃ (y4 y5 : Option V) (ks : List Int), σ' = [some (.ref x), some (.str (strL a)), some (.str (strL b)), some (.ref m), y4, y5] ∧ H' m = some (.dK (dB ks)) ∧ ks.Nodup ∧ ks.length ≤ i ∧ Keep [] H H' ∧
      ∀ d, d ∈ ks ↔ ∃ j z, j < i ∧ (dueL rs)[j]? = some z ∧ ∃ L, Good rs z L ∧ d = ((L b - L a).natAbs : Int), ⟨_, _, [], by first | exact rfl | trivial, em, List.nodup_nil, Nat.le_refl _, k12, fun d => ⟨fun h => by simp at h, fun ⟨j, _, h, _⟩ => absurd h (Nat.not_lt_zero _)⟩⟩, ?_, ?_⟩
    · rintro i σ' H3 hi ⟨y4, y5, ks, rfl, em, nd, lk, k3, hks⟩ v H4 k4 ⟨p, q, d, z, rfl, hz, ep, eq1, es, ds, ed, ef, ea, ndd, hcl, hall⟩
      have em := k4 _ _ (by simp) em
      have k34 := k3.trans k4
      refine r_gTup2 (sqT_of ep) ?_
      simp only [List.set_cons_zero, List.set_cons_succ]
      walk_at "sts"
      obtain ⟨ub, lb, gb, db, eb⟩ := world_get ef ea ndd ((hall b).mpr hb)
      obtain ⟨ua, la, ga, da, ea1⟩ := world_get ef ea ndd ((hall a).mpr ha)
      have GL := clo_good ndd hcl fun s hs => (hall s).mpr hs
      have GLb : ((getN ds b).getD 0) = lb := by rw [db]; rfl
      have GLa : ((getN ds a).getD 0) = la := by rw [da]; rfl
      refine r_dgetS ed (show valV (dN V.ref es) (nK b) = some (V.ref ub) by rw [dN_val, gb]; rfl) ?_
      walk_at "sts"
      refine r_dgetS ed (show valV (dN V.ref es) (nK a) = some (V.ref ua) by rw [dN_val, ga]; rfl) ?_
      walk_at "sts"
      refine r_dputI em (by unfold dB; rw [List.length_map]; exact lt_size (by omega)) ?_
      rw [putB]
      refine ⟨⟨fun c o hn e => ?_, fun c hc2 o e => ?_⟩, _, _, insB ks ((lb - la).natAbs : Int), by first | exact rfl | trivial, upd_same, nodup_insB nd, ?_, k34.mut nmH, fun d' => ?_⟩
      · rw [upd_ne (by rintro rfl; exact hn (by simp))]; exact e
      · rw [List.mem_singleton.mp hc2] at e ⊢
        rw [em] at e
        exact ⟨_, upd_same, by rw [← Option.some.inj e]; rfl⟩
      · have := len_insB (ks := ks) (x := ((lb - la).natAbs : Int)); omega
      · rw [mem_insB, hks]
        constructor
        · rintro (⟨j, z', hj, h⟩ | rfl)
          · exact ⟨j, z', by omega, h⟩
          · exact ⟨i, z, by omega, hz, _, GL, by rw [GLb, GLa]⟩
        · rintro ⟨j, z', hj, hz', L, G, e⟩
          rcases Nat.lt_succ_iff_lt_or_eq.mp hj with hj | rfl
          · exact .inl ⟨j, z', hj, hz', L, G, e⟩
          · rw [hz] at hz'
            cases hz'
            have := conn_diff hok G GL hc
            rw [GLb, GLa] at this
            exact .inr (by rw [e, this])
    · rintro σ' H3 ⟨y4, y5, ks, rfl, em, nd, lk, k3, hks⟩ H4 k4
      have em := k4 _ _ (by simp) em
      have k34 := k3.trans k4
      walk_at "sts"
      refine r_listD em fun l nl => ?_
      have el : upd H4 l (.lst ((dB ks).map fun kv => kV kv.1)) l = some (.lst (ks.map V.int)) := by
        rw [upd_same]; unfold dB; rw [List.map_map]; rfl
      have k5 : Keep [] H4 (upd H4 l (.lst ((dB ks).map fun kv => kV kv.1))) := Keep.new nl
      generalize upd H4 l (.lst ((dB ks).map fun kv => kV kv.1)) = H5 at el k5 ⊢
      walk_at "sts"
      refine ⟨l, ks, rfl, sqL_of el, fun ns p pm so np => ?_⟩
      walk_at "sts"
      refine qq p ns _ ((k34.trans k5).trans (Keep.new np)) ((k34.trans k5).free (by simp) np) upd_same (sort_lt pm so nd) fun d => ?_
      rw [pm.mem_iff, hks]
      constructor
      · rintro ⟨j, z, _, hz, L, G, e⟩
        exact ⟨z, List.mem_of_getElem? hz, L, G, e⟩
      · rintro ⟨z, hz, L, G, e⟩
        obtain ⟨j, hj⟩ := List.mem_iff_getElem?.mp hz
        exact ⟨j, z, (List.getElem?_eq_some_iff.mp hj).1, hj, L, G, e⟩
end
/-! ### possible_beats where it refuses -/
def spBeatsX (C CQ CW : Addr) : Sp := fun vs H Q E => ∃ (x : Addr) (rs : List Row) (a b : Nm), vs = [.ref x, .str (strL a), .str (strL b)] ∧ StrikesAt C H x rs ∧ rs.length ≤ 10 ∧ (∀ r ∈ rs, RowOk r) ∧ Plain a ∧ Plain b ∧
  (a ∉ endsOf rs → ∀ H' e, Keep [] H H' → H' e = none → E (.ref CQ) (some e) (upd H' e (.xd [("name", .str (strL a))]))) ∧
  (a ∈ endsOf rs → b ∉ endsOf rs → ∀ H' e, Keep [] H H' → H' e = none → E (.ref CQ) (some e) (upd H' e (.xd [("name", .str (strL b))]))) ∧
  (a ∈ endsOf rs → b ∈ endsOf rs → ¬ Conn rs b a ∧ ∀ H' e, Keep [] H H' → H' e = none → E (.ref CW) (some e) (upd H' e (.xd [("second", .str (strL b)), ("first", .str (strL a))])))
section
variable {w : World} {K : PySem.W.Frag} {mg : Str → Option Value} {base : Heap}
theorem ok_beatsX (T : Tx K mg) (G_Strikes_walk : FnOk PG w K mg base (L2.CX PG w) 4 T.f_Strikes_walk T.fd_Strikes_walk ["self", "first", "second"] (spWalkX T.C_Strikes T.C_NoQuantity T.C_NoWalk)) (G_tunings : Gn.GFn PG w K mg base 5 T.f_tunings T.fd_tunings ["strikes"] (spTun T.C_Strikes)) : FnOk PG w K mg base (L2.CX PG w) 7 T.f_possible_beats T.fd_possible_beats ["strikes", "first", "second"] (spBeatsX T.C_Strikes T.C_NoQuantity T.C_NoWalk) := by
  refine T.F_possible_beats.okX sc_possible_beats (fun vs H Q E h => ?_) (fun cdv A outer s H vs Q E hr h => ?_)
  · obtain ⟨x, rs, a, b, rfl, _⟩ := h; rfl
  · obtain ⟨x, rs, a, b, rfl, st, l10, hok, pa, pb, q1, q2, q3⟩ := h
    have tk0 : Takes (cxOf (L2.CX PG w) PG w K mg base ["strikes", "first", "second", "found", "_", "world"] "possible_beats" (defScope s_possible_beats) T.f_possible_beats cdv A outer s H E) (fun cls d _ H => E cls d H) := takes_of rfl rfl rfl rfl
    have oc := T.oc_Strikes
    refine ⟨_, (pss_cons (ps_expr (pe_meth (pv 0) T.oc_Strikes.cl T.me_Strikes_walk G_Strikes_walk (hr.mono (by decide)) T.b_Strikes_walk .nil (passes_call tk0 (fun _ _ _ _ h => h)) (pa_cons (pv 1) (pa_cons (pv 2) pa_nil))))
    (pss_cons (ps_set (i := 3) sc_possible_beats.nd rfl (Or.inl rfl) pe_dnewK)
    (pss_cons (Gn.ps_forG rfl G_tunings (hr.mono (by decide)) rfl T.g_tunings T.F_tunings.kp T.b_tunings (pa_cons (pv 0) pa_nil) (pg_tup (n := 2) rfl (pgs_cons (pg_name (i := 4) sc_possible_beats.nd rfl (Or.inl rfl)) (pgs_cons (pg_name (i := 5) sc_possible_beats.nd rfl (Or.inl rfl)) pgs_nil)))
    (pss_one (ps_dput (hu_of hr) (pv 3) (pe_callB call_abs (by rfl) T.m_abs (by decide +kernel) (pa_cons (pe_op op_sub (pe_ix ix_tup (pe_dget (hu_of hr) (pv 5) (pv 2) (fun _ _ => rfl)) pe_int (fun _ _ => rfl)) (pe_ix ix_tup (pe_dget (hu_of hr) (pv 5) (pv 1) (fun _ _ => rfl)) pe_int (fun _ _ => rfl))) pa_nil)) pe_bl rfl)))
    (pss_one (ps_ret (pe_callB cr_sortedI (by rfl) T.m_sorted (by decide +kernel) (pa_cons (pe_callTy (call_list_dK rfl) (by rfl) T.m_list (by decide +kernel) (pa_cons (pv 3) pa_nil)) pa_nil))))))), ?_⟩
    walk_at "start"
    walk_at "sts"
    obtain ⟨dx, t, as, ex, et, har⟩ := id st
    refine Ow.r_methAt ex rfl ?_
    walk_at "sts"
    exact ⟨x, rs, a, b, rfl, st, l10, hok, pa, pb, q1, q2, fun ha hb _ => (q3 ha hb).2, fun ha hb hc => ((q3 ha hb).1 hc).elim⟩
end
/-! ### rounds -/
abbrev Steps := List (Nat × Int)
abbrev Path := Steps × List Nm
def lastN (ps : List Nm) : Nm := ps.getLastD []
def wayR (r : Row) (s : Nm) : Int := if s = r.snd then -1 else 1
def nxt (rs : List Row) (ps : List Nm) (j : Nat) : Option (Nm × Int) := (rs[j]?).bind fun r => (acrossL r (lastN ps)).map fun o => (o, wayR r (lastN ps))
def extP (rs : List Row) (p : Path) (j : Nat) : Option Path := (nxt rs p.2 j).bind fun ow => if ow.1 ∈ p.2 then none else some (p.1 ++ [(j, ow.2)], p.2 ++ [ow.1])
def cloP (rs : List Row) (p : Path) (j : Nat) : Option Steps := (nxt rs p.2 j).bind fun ow => if some ow.1 = p.2.head? then some (p.1 ++ [(j, ow.2)]) else none
def jsK (k n : Nat) : List Nat := List.range' (k + 1) (n - (k + 1))
def nextP (rs : List Row) (k : Nat) (l : List Path) : List Path := l.flatMap fun p => (jsK k rs.length).filterMap (extP rs p)
def cloA (rs : List Row) (k : Nat) (l : List Path) : List Steps := l.flatMap fun p => (jsK k rs.length).filterMap (cloP rs p)
def pathsAt (rs : List Row) (k : Nat) (r : Row) : Nat → List Path
  | 0 => [([(k, 1)], [r.fst, r.snd])]
  | m + 1 => nextP rs k (pathsAt rs k r m)
def roundsK (rs : List Row) (k : Nat) : List Steps := match rs[k]? with
  | none => []
  | some r => (List.range rs.length).flatMap fun m => cloA rs k (pathsAt rs k r m)
def roundsL (rs : List Row) : List Steps := (List.range rs.length).flatMap (roundsK rs)
inductive SP (rs : List Row) (k : Nat) (r : Row) : Steps → List Nm → Prop
  | base : SP rs k r [(k, 1)] [r.fst, r.snd]
  | step {st : Steps} {ps : List Nm} {j : Nat} {o : Nm} {w : Int} : SP rs k r st ps → j ∈ jsK k rs.length → nxt rs ps j = some (o, w) → o ∉ ps → SP rs k r (st ++ [(j, w)]) (ps ++ [o])
theorem lastN_snoc {ps : List Nm} {o : Nm} : lastN (ps ++ [o]) = o := by unfold lastN; rw [List.getLastD_concat]
theorem mem_js {k n j : Nat} : j ∈ jsK k n ↔ k < j ∧ j < n := by
  unfold jsK
  rw [List.mem_range'_1]
  omega
theorem nxt_some {rs : List Row} {ps : List Nm} {j : Nat} {o : Nm} {w : Int} (h : nxt rs ps j = some (o, w)) : ∃ r, rs[j]? = some r ∧ acrossL r (lastN ps) = some o ∧ w = wayR r (lastN ps) := by
  unfold nxt at h
  obtain ⟨r, hr, h⟩ := Option.bind_eq_some_iff.mp h
  obtain ⟨o', ho, e⟩ := Option.map_eq_some_iff.mp h
  obtain ⟨rfl, rfl⟩ := Prod.mk.inj e
  exact ⟨r, hr, ho, rfl⟩
theorem nxt_mk {rs : List Row} {ps : List Nm} {j : Nat} {r : Row} {o : Nm} (hr : rs[j]? = some r) (ho : acrossL r (lastN ps) = some o) : nxt rs ps j = some (o, wayR r (lastN ps)) := by
  unfold nxt
  rw [hr, Option.bind_some, ho]; rfl
theorem ext_some {rs : List Row} {p p' : Path} {j : Nat} (h : extP rs p j = some p') : ∃ o w, nxt rs p.2 j = some (o, w) ∧ o ∉ p.2 ∧ p' = (p.1 ++ [(j, w)], p.2 ++ [o]) := by
  unfold extP at h
  obtain ⟨⟨o, w⟩, hn, h⟩ := Option.bind_eq_some_iff.mp h
  split at h
  · cases h
  next n => exact ⟨o, w, hn, n, (Option.some.inj h).symm⟩
theorem clo_some {rs : List Row} {p : Path} {st : Steps} {j : Nat} (h : cloP rs p j = some st) : ∃ o w, nxt rs p.2 j = some (o, w) ∧ some o = p.2.head? ∧ st = p.1 ++ [(j, w)] := by
  unfold cloP at h
  obtain ⟨⟨o, w⟩, hn, h⟩ := Option.bind_eq_some_iff.mp h
  split at h
  next e => exact ⟨o, w, hn, e, (Option.some.inj h).symm⟩
  · cases h
section
variable {rs : List Row} {k : Nat} {r : Row} {st : Steps} {ps : List Nm}
theorem paths_sp : ∀ {m : Nat} {p : Path}, p ∈ pathsAt rs k r m → SP rs k r p.1 p.2 ∧ p.1.length = m + 1 ∧ p.2.length = m + 2
  | 0, p, h => by obtain rfl := List.mem_singleton.mp h; exact ⟨.base, rfl, rfl⟩
  | m + 1, p, h => by
    obtain ⟨q, hq, h⟩ := List.mem_flatMap.mp (show p ∈ (pathsAt rs k r m).flatMap fun p => (jsK k rs.length).filterMap (extP rs p) from h)
    obtain ⟨j, hj, h⟩ := List.mem_filterMap.mp h
    obtain ⟨o, w, hn, no, rfl⟩ := ext_some h
    obtain ⟨a, b, c⟩ := paths_sp hq
    exact ⟨.step a hj hn no, by simp [b], by simp [c]⟩
theorem sp_paths (h : SP rs k r st ps) : ∃ m, st.length = m + 1 ∧ (st, ps) ∈ pathsAt rs k r m := by
  induction h with
  | base => exact ⟨0, rfl, by simp [pathsAt]⟩
  | @step st ps j o w _ hj hn no ih =>
    obtain ⟨m, e, hm⟩ := ih
    refine ⟨m + 1, by simp [e], ?_⟩
    show _ ∈ (pathsAt rs k r m).flatMap fun p => (jsK k rs.length).filterMap (extP rs p)
    refine List.mem_flatMap.mpr ⟨_, hm, List.mem_filterMap.mpr ⟨j, hj, ?_⟩⟩
    unfold extP
    rw [hn, Option.bind_some, if_neg no]
structure SPf (rs : List Row) (k : Nat) (r : Row) (st : Steps) (ps : List Nm) : Prop where
  nodup : ps.Nodup
  head : ps.head? = some r.fst
  mem : lastN ps ∈ ps
  ends : ∀ s ∈ ps, s ∈ endsOf rs
  rows : ∀ x ∈ st, ∀ r', rs[x.1]? = some r' → r'.fst ∈ ps ∧ r'.snd ∈ ps
  snd : (st.map Prod.fst).Nodup
  lt : ∀ x ∈ st, x.1 < rs.length
  last : lastN ps ≠ r.fst
  split : ps = ps.dropLast ++ [lastN ps]
theorem SP.facts (hk : rs[k]? = some r) (hok : ∀ r ∈ rs, RowOk r) (h : SP rs k r st ps) : SPf rs k r st ps := by
  have okr := hok r (List.mem_of_getElem? hk)
  have kl := (List.getElem?_eq_some_iff.mp hk).1
  induction h with
  | base =>
    refine ⟨?_, rfl, by simp [lastN], ?_, ?_, by simp, ?_, ?_, rfl⟩
    · simp only [List.nodup_cons, List.mem_singleton, List.not_mem_nil, not_false_eq_true, List.nodup_nil, and_self, and_true]; exact okr.ne
    · intro s hs
      unfold endsOf
      simp only [List.mem_cons, List.not_mem_nil, or_false] at hs
      rcases hs with rfl | rfl
      · exact List.mem_append_left _ (List.mem_map.mpr ⟨r, List.mem_of_getElem? hk, rfl⟩)
      · exact List.mem_append_right _ (List.mem_map.mpr ⟨r, List.mem_of_getElem? hk, rfl⟩)
    · intro x hx r' hr'
      rw [List.mem_singleton.mp hx] at hr'
      rw [hk] at hr'; cases hr'
      simp
    · intro x hx; rw [List.mem_singleton.mp hx]; exact kl
    · exact Ne.symm okr.ne
  | @step st ps j o w _ hj hn no ih =>
    obtain ⟨r', hr', ho, rfl⟩ := nxt_some hn
    have hjl := (mem_js.mp hj).2
    have ends := across_end ho
    refine ⟨?_, ?_, by rw [lastN_snoc]; simp, ?_, ?_, ?_, ?_, ?_, ?_⟩
    · exact List.nodup_append.mpr ⟨ih.nodup, by simp, fun a ha b hb e => no (by rw [List.mem_singleton.mp hb] at e; rw [← e]; exact ha)⟩
    · rw [List.head?_append, ih.head]; rfl
    · intro s hs
      rcases List.mem_append.mp hs with hs | hs
      · exact ih.ends s hs
      · rw [List.mem_singleton.mp hs]
        unfold endsOf
        rcases ends with ⟨_, rfl⟩ | ⟨_, rfl⟩
        · exact List.mem_append_right _ (List.mem_map.mpr ⟨r', List.mem_of_getElem? hr', rfl⟩)
        · exact List.mem_append_left _ (List.mem_map.mpr ⟨r', List.mem_of_getElem? hr', rfl⟩)
    · intro x hx r2 hr2
      rcases List.mem_append.mp hx with hx | hx
      · obtain ⟨a, b⟩ := ih.rows x hx r2 hr2
        exact ⟨List.mem_append_left _ a, List.mem_append_left _ b⟩
      · rw [List.mem_singleton.mp hx] at hr2
        rw [hr'] at hr2; cases hr2
        rcases ends with ⟨e1, e2⟩ | ⟨e1, e2⟩
        · exact ⟨List.mem_append_left _ (by rw [← e1]; exact ih.mem), List.mem_append_right _ (by rw [← e2]; simp)⟩
        · exact ⟨List.mem_append_right _ (by rw [← e2]; simp), List.mem_append_left _ (by rw [← e1]; exact ih.mem)⟩
    · rw [List.map_append]
      refine List.nodup_append.mpr ⟨ih.snd, by simp, fun a ha b hb e => ?_⟩
      obtain ⟨x, hx, rfl⟩ := List.mem_map.mp ha
      have eb : b = j := by simpa using hb
      rw [eb] at e
      obtain ⟨c, d⟩ := ih.rows x hx r' (by rw [e]; exact hr')
      rcases ends with ⟨_, rfl⟩ | ⟨_, rfl⟩
      · exact no d
      · exact no c
    · intro x hx
      rcases List.mem_append.mp hx with hx | hx
      · exact ih.lt x hx
      · rw [List.mem_singleton.mp hx]; exact hjl
    · rw [lastN_snoc]
      intro e
      exact no (by rw [e]; exact List.mem_of_mem_head? (by rw [ih.head]; rfl))
    · rw [lastN_snoc, List.dropLast_concat]
theorem SP.len (hk : rs[k]? = some r) (hok : ∀ r ∈ rs, RowOk r) (h : SP rs k r st ps) : st.length ≤ rs.length := by
  have f := h.facts hk hok
  have : (st.map Prod.fst).length ≤ (List.range rs.length).length := nodup_le f.snd fun a ha => by
    obtain ⟨x, hx, rfl⟩ := List.mem_map.mp ha
    exact List.mem_range.mpr (f.lt x hx)
  rwa [List.length_map, List.length_range] at this
theorem SP.pre (h : SP rs k r st ps) {u : Nm} (hu : u ∈ ps) (ne : u ≠ r.fst) : ∃ st' ps', SP rs k r st' ps' ∧ lastN ps' = u := by
  induction h with
  | base =>
    simp only [List.mem_cons, List.not_mem_nil, or_false] at hu
    exact ⟨_, _, .base, by rw [hu.resolve_left ne]; rfl⟩
  | @step st ps j o w a hj hn no ih =>
    rcases List.mem_append.mp hu with hu | hu
    · exact ih hu
    · exact ⟨_, _, .step a hj hn no, by rw [lastN_snoc, List.mem_singleton.mp hu]⟩
end
def valS (rs : List Row) (z : List Int) (x : Nat × Int) : Int := x.2 * z.getD x.1 0 * ((rs[x.1]?).map Row.cnt).getD 0
def sumS (rs : List Row) (z : List Int) (st : Steps) : Int := (st.map (valS rs z)).sum
theorem sumS_snoc {rs : List Row} {z : List Int} {st : Steps} {x : Nat × Int} : sumS rs z (st ++ [x]) = sumS rs z st + valS rs z x := by
  unfold sumS
  rw [List.map_append, List.sum_append]; simp
/-- levels that suit the rows from k on -/
def GoodFrom (rs : List Row) (z : List Int) (k : Nat) (L : Nm → Int) : Prop := ∀ (i : Nat) r, k ≤ i → rs[i]? = some r → L r.snd = L r.fst + z.getD i 0 * r.cnt
theorem val_nxt {rs : List Row} {z : List Int} {k j : Nat} {L : Nm → Int} {ps : List Nm} {o : Nm} {w : Int} (hok : ∀ r ∈ rs, RowOk r) (G : GoodFrom rs z k L) (hj : k ≤ j) (h : nxt rs ps j = some (o, w)) : valS rs z (j, w) = L o - L (lastN ps) := by
  obtain ⟨r, hr, ho, rfl⟩ := nxt_some h
  have g := G j r hj hr
  have ne := (hok r (List.mem_of_getElem? hr)).ne
  unfold valS
  dsimp only
  rw [hr]
  show wayR r (lastN ps) * z.getD j 0 * r.cnt = _
  unfold wayR
  rcases across_end ho with ⟨e1, e2⟩ | ⟨e1, e2⟩
  · rw [e1, if_neg ne, e2, Int.one_mul]; omega
  · rw [e1, if_pos rfl, e2, Int.neg_mul, Int.neg_mul, Int.one_mul]; omega
theorem SP.sum {rs : List Row} {z : List Int} {k : Nat} {r : Row} {st : Steps} {ps : List Nm} {L : Nm → Int} (hk : rs[k]? = some r) (hok : ∀ r ∈ rs, RowOk r) (G : GoodFrom rs z (k + 1) L) (h : SP rs k r st ps) : sumS rs z st = z.getD k 0 * r.cnt + (L (lastN ps) - L r.snd) := by
  induction h with
  | base =>
    show valS rs z (k, 1) + 0 = z.getD k 0 * r.cnt + (L r.snd - L r.snd)
    unfold valS
    dsimp only
    rw [hk]
    show 1 * z.getD k 0 * r.cnt + 0 = _
    rw [Int.one_mul]; omega
  | @step st ps j o w a hj hn no ih =>
    rw [sumS_snoc, ih, val_nxt hok G (mem_js.mp hj).1 hn, lastN_snoc]; omega
/-- a round comes to zero wherever there are levels -/
theorem round_sound {rs : List Row} {z : List Int} {L : Nm → Int} (hok : ∀ r ∈ rs, RowOk r) (G : Good rs z L) {ρ : Steps} (h : ρ ∈ roundsL rs) : sumS rs z ρ = 0 := by
  obtain ⟨k, hk, h⟩ := List.mem_flatMap.mp h
  unfold roundsK at h
  cases er : rs[k]? with
  | none => rw [er] at h; cases h
  | some r =>
    rw [er] at h
    obtain ⟨m, _, h⟩ := List.mem_flatMap.mp h
    obtain ⟨p, hp, h⟩ := List.mem_flatMap.mp h
    obtain ⟨j, hj, h⟩ := List.mem_filterMap.mp h
    obtain ⟨o, w, hn, eo, rfl⟩ := clo_some h
    have sp := (paths_sp hp).1
    have f := sp.facts er hok
    have Gk : GoodFrom rs z (k + 1) L := fun i r _ hr => G i r hr
    rw [sumS_snoc, sp.sum er hok Gk, val_nxt hok Gk (mem_js.mp hj).1 hn]
    rw [f.head] at eo
    have := G k r er
    rw [Option.some.inj eo]; omega
/-- and where all rounds come to zero, there are levels -/
theorem round_complete {rs : List Row} {z : List Int} (hok : ∀ r ∈ rs, RowOk r) (h : ∀ ρ ∈ roundsL rs, sumS rs z ρ = 0) : ∃ L, Good rs z L := by
  have main : ∀ d k : Nat, k + d = rs.length → ∃ L, GoodFrom rs z k L := by
    intro d
    induction d with
    | zero =>
      intro k hk
      refine ⟨fun _ => 0, fun i r hi hr => ?_⟩
      have := (List.getElem?_eq_some_iff.mp hr).1
      omega
    | succ d ih =>
      intro k hk
      obtain ⟨L, G⟩ := ih (k + 1) (by omega)
      have kl : k < rs.length := by omega
      have er : rs[k]? = some rs[k] := List.getElem?_eq_getElem kl
      generalize rs[k] = r at er
      have okr := hok r (List.mem_of_getElem? er)
      by_cases cl : ∃ st ps j w, SP rs k r st ps ∧ j ∈ jsK k rs.length ∧ nxt rs ps j = some (r.fst, w)
      · obtain ⟨st, ps, j, w, sp, hj, hn⟩ := cl
        refine ⟨L, fun i r' hi hr' => ?_⟩
        rcases Nat.eq_or_lt_of_le hi with rfl | hi
        · rw [er] at hr'; cases hr'
          have f := sp.facts er hok
          obtain ⟨m, em, hm⟩ := sp_paths sp
          have := sp.len er hok
          have hρ : st ++ [(j, w)] ∈ roundsL rs := by
            refine List.mem_flatMap.mpr ⟨k, List.mem_range.mpr kl, ?_⟩
            unfold roundsK
            rw [er]
            refine List.mem_flatMap.mpr ⟨m, List.mem_range.mpr (by omega), List.mem_flatMap.mpr ⟨_, hm, List.mem_filterMap.mpr ⟨j, hj, ?_⟩⟩⟩
            unfold cloP
            rw [hn, Option.bind_some, if_pos f.head.symm]
          have e := h _ hρ
          rw [sumS_snoc, sp.sum er hok G, val_nxt hok G (mem_js.mp hj).1 hn] at e
          omega
        · exact G i r' hi hr'
      · let R : Nm → Prop := fun u => ∃ st ps, SP rs k r st ps ∧ lastN ps = u
        have step : ∀ (i : Nat) r' s u, k < i → rs[i]? = some r' → acrossL r' s = some u → R s → R u := by
          rintro i r' s u hi hr' ha ⟨st, ps, sp, rfl⟩
          have hj := mem_js.mpr ⟨hi, (List.getElem?_eq_some_iff.mp hr').1⟩
          have hn := nxt_mk hr' ha
          have ne : u ≠ r.fst := fun e => cl ⟨st, ps, i, _, sp, hj, by rw [← e]; exact hn⟩
          by_cases hu : u ∈ ps
          · exact sp.pre hu ne
          · exact ⟨_, _, .step sp hj hn hu, lastN_snoc⟩
        have R1 : R r.snd := ⟨_, _, .base, rfl⟩
        have R0 : ¬ R r.fst := fun ⟨st, ps, sp, e⟩ => (sp.facts er hok).last e
        refine ⟨fun s => @ite _ (R s) (Classical.propDecidable _) (L s + (L r.fst + z.getD k 0 * r.cnt - L r.snd)) (L s), fun i r' hi hr' => ?_⟩
        rcases Nat.eq_or_lt_of_le hi with rfl | hi
        · rw [er] at hr'; cases hr'
          dsimp only
          rw [if_pos R1, if_neg R0]; omega
        · have g := G i r' hi hr'
          have a1 : acrossL r' r'.fst = some r'.snd := by unfold acrossL; rw [if_pos rfl]
          have a2 := across_sym (hok r' (List.mem_of_getElem? hr')).ne a1
          dsimp only
          by_cases c : R r'.fst
          · rw [if_pos c, if_pos (step i r' _ _ hi hr' a1 c)]; omega
          · rw [if_neg c, if_neg fun c2 => c (step i r' _ _ hi hr' a2 c2)]; omega
  obtain ⟨L, G⟩ := main rs.length 0 (by omega)
  exact ⟨L, fun i r hr => G i r (Nat.zero_le _) hr⟩
/-! ### how many rounds -/
def noEnd (rs : List Row) (ps : List Nm) (j : Nat) : Bool := match rs[j]? with
  | none => true
  | some r => decide (r.fst ∉ ps ∧ r.snd ∉ ps)
def cntU (rs : List Row) (k : Nat) (ps : List Nm) : Nat := (jsK k rs.length).countP (noEnd rs ps)
theorem countP_two {α : Type} {p q r : α → Bool} : ∀ {l : List α}, (∀ x ∈ l, p x = true → q x = true → False) → (∀ x ∈ l, p x = true → r x = true) → (∀ x ∈ l, q x = true → r x = true) → l.countP p + l.countP q ≤ l.countP r
  | [], _, _, _ => by simp
  | a :: l, h, hp, hq => by
    have ih := countP_two (l := l) (fun x hx => h x (List.mem_cons_of_mem _ hx)) (fun x hx => hp x (List.mem_cons_of_mem _ hx)) (fun x hx => hq x (List.mem_cons_of_mem _ hx))
    rw [List.countP_cons, List.countP_cons, List.countP_cons]
    have h0 := h a (by simp)
    have h1 := hp a (by simp)
    have h2 := hq a (by simp)
    cases ep : p a <;> cases eq : q a <;> cases er : r a <;> simp_all <;> omega
theorem filterMap_len {α β : Type} {f : α → Option β} : ∀ {l : List α}, (l.filterMap f).length = l.countP fun x => (f x).isSome
  | [] => rfl
  | a :: l => by
    rw [List.filterMap_cons, List.countP_cons]
    cases e : f a with
    | none => simp [filterMap_len]
    | some b => simp [filterMap_len]
def wtP (rs : List Row) (k : Nat) (p : Path) : Nat := 2 ^ cntU rs k p.2.dropLast
def wtL (rs : List Row) (k : Nat) (l : List Path) : Nat := (l.map (wtP rs k)).sum
theorem len_wt {rs : List Row} {k : Nat} : ∀ {l : List Path}, l.length ≤ wtL rs k l
  | [] => Nat.zero_le _
  | p :: l => by
    show l.length + 1 ≤ wtP rs k p + wtL rs k l
    have := len_wt (rs := rs) (k := k) (l := l)
    have : 1 ≤ wtP rs k p := Nat.one_le_two_pow
    omega
theorem wt_app {rs : List Row} {k : Nat} {l l' : List Path} : wtL rs k (l ++ l') = wtL rs k l + wtL rs k l' := by unfold wtL; rw [List.map_append, List.sum_append]
theorem wt_all {rs : List Row} {k n : Nat} : ∀ {l : List Path}, (∀ p ∈ l, wtP rs k p = n) → wtL rs k l = l.length * n
  | [], _ => by simp [wtL]
  | p :: l, h => by
    show wtP rs k p + wtL rs k l = _
    rw [h p (by simp), wt_all fun q hq => h q (List.mem_cons_of_mem _ hq), List.length_cons, Nat.succ_mul]; omega
theorem wt_step {rs : List Row} {k : Nat} {r : Row} {p : Path} (hk : rs[k]? = some r) (hok : ∀ r ∈ rs, RowOk r) (h : SP rs k r p.1 p.2) : wtL rs k ((jsK k rs.length).filterMap (extP rs p)) ≤ wtP rs k p := by
  have f := h.facts hk hok
  rw [wt_all (n := 2 ^ cntU rs k p.2) fun q hq => ?_]
  · rw [filterMap_len]
    have c : (jsK k rs.length).countP (fun j => (extP rs p j).isSome) + cntU rs k p.2 ≤ cntU rs k p.2.dropLast := by
      have nd := f.nodup
      rw [f.split] at nd
      have nl : lastN p.2 ∉ p.2.dropLast := fun hm => (List.nodup_append.mp nd).2.2 _ hm _ (by simp) rfl
      have sub : ∀ x ∈ p.2.dropLast, x ∈ p.2 := fun x hx => (List.dropLast_sublist _).subset hx
      refine countP_two (fun j _ h1 h2 => ?_) (fun j _ h1 => ?_) fun j _ h2 => ?_
      · obtain ⟨q, hq⟩ := Option.isSome_iff_exists.mp h1
        obtain ⟨o, w, hn, no, _⟩ := ext_some hq
        obtain ⟨r', hr', ho, _⟩ := nxt_some hn
        unfold noEnd at h2
        rw [hr'] at h2
        have h2 := of_decide_eq_true h2
        rcases across_end ho with ⟨e, _⟩ | ⟨e, _⟩
        · exact h2.1 (by rw [← e]; exact f.mem)
        · exact h2.2 (by rw [← e]; exact f.mem)
      · obtain ⟨q, hq⟩ := Option.isSome_iff_exists.mp h1
        obtain ⟨o, w, hn, no, _⟩ := ext_some hq
        obtain ⟨r', hr', ho, _⟩ := nxt_some hn
        unfold noEnd
        rw [hr']
        refine decide_eq_true ?_
        rcases across_end ho with ⟨e1, e2⟩ | ⟨e1, e2⟩
        · exact ⟨by rw [← e1]; exact nl, by rw [← e2]; exact fun hm => no (sub _ hm)⟩
        · exact ⟨by rw [← e2]; exact fun hm => no (sub _ hm), by rw [← e1]; exact nl⟩
      · unfold noEnd at *
        cases e : rs[j]? with
        | none => rfl
        | some r' =>
          rw [e] at h2
          have h2 := of_decide_eq_true h2
          exact decide_eq_true ⟨fun hm => h2.1 (sub _ hm), fun hm => h2.2 (sub _ hm)⟩
    generalize (jsK k rs.length).countP (fun j => (extP rs p j).isSome) = d at c
    have h1 : d * 2 ^ cntU rs k p.2 ≤ 2 ^ d * 2 ^ cntU rs k p.2 := Nat.mul_le_mul_right _ (Nat.le_of_lt Nat.lt_two_pow_self)
    rw [← Nat.pow_add] at h1
    exact Nat.le_trans h1 (Nat.pow_le_pow_right (by decide) c)
  · obtain ⟨j, _, e⟩ := List.mem_filterMap.mp hq
    obtain ⟨o, w, _, _, rfl⟩ := ext_some e
    unfold wtP
    rw [List.dropLast_concat]
theorem wt_next {rs : List Row} {k : Nat} {r : Row} (hk : rs[k]? = some r) (hok : ∀ r ∈ rs, RowOk r) : ∀ {l : List Path}, (∀ p ∈ l, SP rs k r p.1 p.2) → wtL rs k (nextP rs k l) ≤ wtL rs k l
  | [], _ => Nat.le_refl _
  | p :: l, h => by
    show wtL rs k ((p :: l).flatMap _) ≤ wtP rs k p + wtL rs k l
    rw [List.flatMap_cons, wt_app]
    exact Nat.add_le_add (wt_step hk hok (h p (by simp))) (wt_next hk hok fun q hq => h q (List.mem_cons_of_mem _ hq))
theorem paths_wt {rs : List Row} {k : Nat} {r : Row} (hk : rs[k]? = some r) (hok : ∀ r ∈ rs, RowOk r) (l10 : rs.length ≤ 10) : ∀ m, wtL rs k (pathsAt rs k r m) ≤ 512
  | 0 => by
    have kl := (List.getElem?_eq_some_iff.mp hk).1
    show 2 ^ cntU rs k [r.fst] + 0 ≤ 512
    have : cntU rs k [r.fst] ≤ 9 := by
      refine Nat.le_trans List.countP_le_length ?_
      unfold jsK
      rw [List.length_range']
      omega
    have := Nat.pow_le_pow_right (n := 2) (by decide) this
    omega
  | m + 1 => Nat.le_trans (wt_next hk hok fun p hp => (paths_sp hp).1) (paths_wt hk hok l10 m)
theorem js_len {k n : Nat} (h : n ≤ 10) : (jsK k n).length ≤ 9 := by unfold jsK; rw [List.length_range']; omega
theorem paths_len {rs : List Row} {k : Nat} {r : Row} (hk : rs[k]? = some r) (hok : ∀ r ∈ rs, RowOk r) (l10 : rs.length ≤ 10) (m : Nat) : (pathsAt rs k r m).length ≤ 512 := Nat.le_trans len_wt (paths_wt hk hok l10 m)
theorem clo_len {rs : List Row} {k : Nat} {l : List Path} (l10 : rs.length ≤ 10) : (cloA rs k l).length ≤ l.length * 9 := flat_len fun p _ => Nat.le_trans (List.length_filterMap_le _ _) (js_len l10)
theorem roundsM_len {rs : List Row} {k : Nat} {r : Row} (hk : rs[k]? = some r) (hok : ∀ r ∈ rs, RowOk r) (l10 : rs.length ≤ 10) (ms : List Nat) : (ms.flatMap fun m => cloA rs k (pathsAt rs k r m)).length ≤ ms.length * 4608 :=
  flat_len fun m _ => Nat.le_trans (clo_len l10) (Nat.mul_le_mul_right 9 (paths_len hk hok l10 m))
theorem roundsK_len {rs : List Row} {k : Nat} (hok : ∀ r ∈ rs, RowOk r) (l10 : rs.length ≤ 10) : (roundsK rs k).length ≤ 46080 := by
  unfold roundsK
  cases e : rs[k]? with
  | none => exact Nat.zero_le _
  | some r =>
    have := roundsM_len e hok l10 (List.range rs.length)
    rw [List.length_range] at this
    show (List.flatMap _ _).length ≤ _
    omega
/-! ### _law_rounds -/
def AllR {α : Type} (R : Addr → α → Prop) : List Addr → List α → Prop
  | [], [] => True
  | a :: as, x :: xs => R a x ∧ AllR R as xs
  | _, _ => False
section
variable {α : Type} {R S : Addr → α → Prop}
theorem AllR.len : ∀ {as : List Addr} {xs : List α}, AllR R as xs → as.length = xs.length
  | [], [], _ => rfl
  | _ :: _, _ :: _, h => congrArg (· + 1) (AllR.len h.2)
  | [], _ :: _, h => h.elim
  | _ :: _, [], h => h.elim
theorem AllR.get : ∀ {as : List Addr} {xs : List α} {i : Nat} {a : Addr}, AllR R as xs → as[i]? = some a → ∃ x, xs[i]? = some x ∧ R a x
  | [], _, i, a, _, e => by simp at e
  | _ :: _, [], _, _, h, _ => h.elim
  | b :: as, x :: xs, 0, a, h, e => ⟨x, rfl, by cases e; exact h.1⟩
  | b :: as, x :: xs, i + 1, a, h, e => AllR.get (as := as) (xs := xs) h.2 (by simpa using e)
theorem AllR.mono : ∀ {as : List Addr} {xs : List α}, AllR R as xs → (∀ a x, a ∈ as → x ∈ xs → R a x → S a x) → AllR S as xs
  | [], [], _, _ => trivial
  | a :: as, x :: xs, h, f => ⟨f a x (by simp) (by simp) h.1, AllR.mono h.2 fun b y hb hy => f b y (List.mem_cons_of_mem _ hb) (List.mem_cons_of_mem _ hy)⟩
  | [], _ :: _, h, _ => h.elim
  | _ :: _, [], h, _ => h.elim
theorem AllR.app : ∀ {as bs : List Addr} {xs ys : List α}, AllR R as xs → AllR R bs ys → AllR R (as ++ bs) (xs ++ ys)
  | [], _, [], _, _, h => h
  | a :: as, _, x :: xs, _, h, g => ⟨h.1, AllR.app h.2 g⟩
  | [], _, _ :: _, _, h, _ => h.elim
  | _ :: _, _, [], _, h, _ => h.elim
end
/-- but for the lists at M all is kept -/
def Kp (M : List Addr) (H H' : Hp) : Prop := ∀ b o, (b ∉ M ∨ ∃ xs, o = .tup xs) → H b = some o → H' b = some o
theorem Kp.all {M : List Addr} {H H' : Hp} (k : Keep [] H H') : Kp M H H' := fun b o _ e => k b o (by simp) e
theorem Kp.put {M : List Addr} {H : Hp} {D : Addr} {xs ys : List V} (hD : D ∈ M) (e : H D = some (.lst xs)) : Kp M H (upd H D (.lst ys)) := fun b o h eb => by
  by_cases c : b = D
  · rw [c] at eb
    rcases h with h | ⟨zs, rfl⟩
    · exact (h (by rw [c]; exact hD)).elim
    · rw [e] at eb; cases eb
  · rw [upd_ne c]; exact eb
theorem Kp.trans {M : List Addr} {H H1 H2 : Hp} (a : Kp M H H1) (b : Kp M H1 H2) : Kp M H H2 := fun c o h e => b c o h (a c o h e)
abbrev pHO (x : Nat × Int) : HO := .tup [.int (x.1 : Nat), .int x.2]
def StA (H : Hp) (a : Addr) (st : Steps) : Prop := ∃ ts, H a = some (.lst (ts.map V.ref)) ∧ AllAt pHO H ts st
def StM (M : List Addr) (H : Hp) (a : Addr) (st : Steps) : Prop := a ∉ M ∧ StA H a st
def PathA (M : List Addr) (H : Hp) (a : Addr) (p : Path) : Prop := ∃ b c, H a = some (.tup [.ref b, .ref c]) ∧ StM M H b p.1 ∧ c ∉ M ∧ H c = some (.lst (p.2.map nV))
theorem StM.kp {M : List Addr} {H H' : Hp} {a : Addr} {st : Steps} (h : StM M H a st) (k : Kp M H H') : StM M H' a st := by
  obtain ⟨n, ts, e, ea⟩ := h
  exact ⟨n, ts, k _ _ (.inl n) e, ea.mono fun b x _ _ e => k _ _ (.inr ⟨_, rfl⟩) e⟩
theorem PathA.kp {M : List Addr} {H H' : Hp} {a : Addr} {p : Path} (h : PathA M H a p) (k : Kp M H H') : PathA M H' a p := by
  obtain ⟨b, c, e, s, n, ec⟩ := h
  exact ⟨b, c, k _ _ (.inr ⟨_, rfl⟩) e, s.kp k, n, k _ _ (.inl n) ec⟩
theorem StM.more {M M' : List Addr} {H : Hp} {a : Addr} {st : Steps} (h : StM M H a st) (hM : ∀ m ∈ M', m ∈ M ∨ H m = none) : StM M' H a st := by
  obtain ⟨n, ts, e, ea⟩ := h
  exact ⟨fun hm => (hM a hm).elim n fun z => (by rw [z] at e; cases e), ts, e, ea⟩
theorem PathA.more {M M' : List Addr} {H : Hp} {a : Addr} {p : Path} (h : PathA M H a p) (hM : ∀ m ∈ M', m ∈ M ∨ H m = none) : PathA M' H a p := by
  obtain ⟨b, c, e, s, n, ec⟩ := h
  exact ⟨b, c, e, s.more hM, fun hm => (hM c hm).elim n fun z => (by rw [z] at ec; cases ec), ec⟩
/-- the list of rounds, at D -/
def RoA (M : List Addr) (H : Hp) (D : Addr) (ros : List Steps) : Prop := D ∈ M ∧ ∃ us : List Addr, H D = some (.lst (us.map V.ref)) ∧ AllR (StM M H) us ros
/-- a list of paths -/
def PaA (M : List Addr) (H : Hp) (P : Addr) (l : List Path) : Prop := ∃ qs : List Addr, H P = some (.lst (qs.map V.ref)) ∧ AllR (PathA M H) qs l
theorem RoA.all {M : List Addr} {H H' : Hp} {D : Addr} {ros : List Steps} (h : RoA M H D ros) (k : Keep [] H H') : RoA M H' D ros := by
  obtain ⟨m, us, e, ea⟩ := h
  exact ⟨m, us, k _ _ (by simp) e, ea.mono fun a x _ _ s => s.kp (Kp.all k)⟩
theorem PaA.all {M : List Addr} {H H' : Hp} {P : Addr} {l : List Path} (h : PaA M H P l) (k : Keep [] H H') : PaA M H' P l := by
  obtain ⟨qs, e, ea⟩ := h
  exact ⟨qs, k _ _ (by simp) e, ea.mono fun a x _ _ s => s.kp (Kp.all k)⟩
theorem PaA.off {M : List Addr} {H H' : Hp} {P : Addr} {l : List Path} (h : PaA M H P l) (n : P ∉ M) (k : Kp M H H') : PaA M H' P l := by
  obtain ⟨qs, e, ea⟩ := h
  exact ⟨qs, k _ _ (.inl n) e, ea.mono fun a x _ _ s => s.kp k⟩
theorem RoA.put {M : List Addr} {H : Hp} {D p : Addr} {ros : List Steps} {ρ : Steps} {us : List Addr} (m : D ∈ M) (e : H D = some (.lst (us.map V.ref))) (ea : AllR (StM M H) us ros) (hp : StM M H p ρ) : RoA M (upd H D (.lst (us.map V.ref ++ [.ref p]))) D (ros ++ [ρ]) :=
  ⟨m, us ++ [p], by rw [upd_same, List.map_append]; rfl, AllR.app (ea.mono fun a x _ _ s => s.kp (Kp.put m e)) ⟨hp.kp (Kp.put m e), trivial⟩⟩
theorem PaA.put {M : List Addr} {H : Hp} {g p : Addr} {l : List Path} {q : Path} {gs : List Addr} (m : g ∈ M) (e : H g = some (.lst (gs.map V.ref))) (ea : AllR (PathA M H) gs l) (hp : PathA M H p q) : PaA M (upd H g (.lst (gs.map V.ref ++ [.ref p]))) g (l ++ [q]) :=
  ⟨gs ++ [p], by rw [upd_same, List.map_append]; rfl, AllR.app (ea.mono fun a x _ _ s => s.kp (Kp.put m e)) ⟨hp.kp (Kp.put m e), trivial⟩⟩
theorem RoA.ne {M : List Addr} {H : Hp} {D g : Addr} {ros : List Steps} {xs ys : List V} (h : RoA M H D ros) (hg : g ∈ M) (ne : g ≠ D) (e : H g = some (.lst xs)) : RoA M (upd H g (.lst ys)) D ros := by
  obtain ⟨m, us, eD, ea⟩ := h
  exact ⟨m, us, by rw [upd_ne (Ne.symm ne)]; exact eD, ea.mono fun a x _ _ s => s.kp (Kp.put hg e)⟩
theorem PaA.ne {M : List Addr} {H : Hp} {P g : Addr} {l : List Path} {xs ys : List V} (h : PaA M H P l) (hg : g ∈ M) (ne : g ≠ P) (e : H g = some (.lst xs)) : PaA M (upd H g (.lst ys)) P l := by
  obtain ⟨us, eD, ea⟩ := h
  exact ⟨us, by rw [upd_ne (Ne.symm ne)]; exact eD, ea.mono fun a x _ _ s => s.kp (Kp.put hg e)⟩
theorem RoA.more {M M' : List Addr} {H : Hp} {D : Addr} {ros : List Steps} (h : RoA M H D ros) (hD : D ∈ M') (hM : ∀ m ∈ M', m ∈ M ∨ H m = none) : RoA M' H D ros := by
  obtain ⟨_, us, e, ea⟩ := h
  exact ⟨hD, us, e, ea.mono fun a x _ _ s => s.more hM⟩
def ros1 (rs : List Row) (k : Nat) : List Steps := (List.range k).flatMap (roundsK rs)
def ros2 (rs : List Row) (k : Nat) (r : Row) (m : Nat) : List Steps := ros1 rs k ++ (List.range m).flatMap fun m => cloA rs k (pathsAt rs k r m)
def ros3 (rs : List Row) (k : Nat) (r : Row) (m i : Nat) : List Steps := ros2 rs k r m ++ cloA rs k ((pathsAt rs k r m).take i)
def ros4 (rs : List Row) (k : Nat) (r : Row) (m i : Nat) (p : Path) (j : Nat) : List Steps := ros3 rs k r m i ++ ((jsK k rs.length).take j).filterMap (cloP rs p)
def lon4 (rs : List Row) (k : Nat) (r : Row) (m i : Nat) (p : Path) (j : Nat) : List Path := nextP rs k ((pathsAt rs k r m).take i) ++ ((jsK k rs.length).take j).filterMap (extP rs p)
theorem newM {M : List Addr} {H : Hp} {D g p : Addr} {ros : List Steps} {l : List Path} (r : RoA M H D ros) (pg : PaA M H g l) (n : H p = none) : p ∉ [D, g] := fun hm => by
  obtain ⟨_, us, eD, _⟩ := r
  obtain ⟨gs, eg, _⟩ := pg
  simp only [List.mem_cons, List.not_mem_nil, or_false] at hm
  rcases hm with rfl | rfl
  · rw [eD] at n; cases n
  · rw [eg] at n; cases n
section
variable {rs : List Row} {k m i j J : Nat} {r : Row} {p : Path}
theorem ros4_s (h : (jsK k rs.length)[j]? = some J) : ros4 rs k r m i p (j + 1) = ros4 rs k r m i p j ++ (cloP rs p J).toList := by
  unfold ros4
  rw [take_s h, List.filterMap_append, ← List.append_assoc, List.filterMap_cons]
  cases cloP rs p J <;> rfl
theorem lon4_s (h : (jsK k rs.length)[j]? = some J) : lon4 rs k r m i p (j + 1) = lon4 rs k r m i p j ++ (extP rs p J).toList := by
  unfold lon4
  rw [take_s h, List.filterMap_append, ← List.append_assoc, List.filterMap_cons]
  cases extP rs p J <;> rfl
theorem ros4_len (hk : rs[k]? = some r) (hok : ∀ r ∈ rs, RowOk r) (l10 : rs.length ≤ 10) (hm : m ≤ 10) (hi : i ≤ 512) : (ros4 rs k r m i p j).length < sizeLine := by
  have kl := (List.getElem?_eq_some_iff.mp hk).1
  have h1 : (ros1 rs k).length ≤ k * 46080 := by
    have := flat_len (l := List.range k) (f := roundsK rs) (n := 46080) fun x _ => roundsK_len hok l10
    rwa [List.length_range] at this
  have h2 := roundsM_len hk hok l10 (List.range m)
  rw [List.length_range] at h2
  have h3 := clo_len (k := k) (l := (pathsAt rs k r m).take i) l10
  have h4 : (((jsK k rs.length).take j).filterMap (cloP rs p)).length ≤ 9 := Nat.le_trans (List.length_filterMap_le _ _) (Nat.le_trans (by rw [List.length_take]; omega) (js_len (k := k) l10))
  have h5 : ((pathsAt rs k r m).take i).length ≤ 512 := by rw [List.length_take]; omega
  unfold ros4 ros3 ros2
  rw [List.length_append, List.length_append, List.length_append]
  have : sizeLine = 16777216 := by decide
  omega
theorem lon4_len (l10 : rs.length ≤ 10) (hi : i ≤ 512) : (lon4 rs k r m i p j).length < 100000 := by
  have h1 : (nextP rs k ((pathsAt rs k r m).take i)).length ≤ ((pathsAt rs k r m).take i).length * 9 := flat_len fun x _ => Nat.le_trans (List.length_filterMap_le _ _) (js_len l10)
  have h4 : (((jsK k rs.length).take j).filterMap (extP rs p)).length ≤ 9 := Nat.le_trans (List.length_filterMap_le _ _) (Nat.le_trans (by rw [List.length_take]; omega) (js_len (k := k) l10))
  have h5 : ((pathsAt rs k r m).take i).length ≤ 512 := by rw [List.length_take]; omega
  unfold lon4
  rw [List.length_append]
  omega
end
section
variable {P : Program} {w : World} {K : PySem.W.Frag} {mg : Str → Option Value} {base : Heap}
def spRounds : Sp := fun vs H Q _ => ∃ (t : Addr) (rs : List Row), vs = [.ref t] ∧ RowsAt H t rs ∧ rs.length ≤ 10 ∧ (∀ r ∈ rs, RowOk r) ∧ ∀ p H', Keep [] H H' → RoA [p] H' p (roundsL rs) → Q (.ref p) H'
theorem ok_rounds (T : Tx K mg) : FnOk P w K mg base CX0 1 T.f_w_rounds T.fd_w_rounds ["_law_rows_here"] spRounds := by
  refine T.F_w_rounds.ok sc_w_rounds (fun vs H Q E h => ?_) (fun cdv A outer s H vs Q E hr h => ?_)
  · obtain ⟨t, rs, rfl, _⟩ := h; rfl
  · obtain ⟨t, rs, rfl, ⟨as, et, har⟩, l10, hok, qq⟩ := h
    have lar := har.len
    refine ⟨_, (pss_cons (ps_set (i := 1) sc_w_rounds.nd rfl (Or.inl rfl) (pe_lst pa_nil))
    (pss_cons (ps_for PassesOwn.never rfl (pi_range1 rfl T.m_range (pa_cons (pe_callB call_len_seq (by rfl) T.m_len PySem.boot_len (pa_cons (pv 0) pa_nil)) pa_nil)) (pg_name (i := 2) sc_w_rounds.nd rfl (Or.inl rfl))
    (pss_cons (ps_set (i := 3) sc_w_rounds.nd rfl (Or.inl rfl) (pe_lst (pa_cons (pe_tup (pa_cons (pe_lst (pa_cons (pe_tup (pa_cons (pv 2) (pa_cons pe_int pa_nil))) pa_nil)) (pa_cons (pe_lst (pa_cons (pe_ix ix_tup (pe_ix ix_list (pv 0) (pv 2) (fun _ _ => rfl)) pe_int (fun _ _ => rfl)) (pa_cons (pe_ix ix_tup (pe_ix ix_list (pv 0) (pv 2) (fun _ _ => rfl)) pe_int (fun _ _ => rfl)) pa_nil))) pa_nil))) pa_nil)))
    (pss_one (ps_for PassesOwn.never rfl (pi_range1 rfl T.m_range (pa_cons (pe_callB call_len_seq (by rfl) T.m_len PySem.boot_len (pa_cons (pv 0) pa_nil)) pa_nil)) (pg_name (i := 4) sc_w_rounds.nd rfl (Or.inl rfl))
    (pss_cons (ps_set (i := 5) sc_w_rounds.nd rfl (Or.inl rfl) (pe_lst pa_nil))
    (pss_cons (ps_for PassesOwn.never rfl (pi_list (pv 3)) (pg_tup (n := 2) rfl (pgs_cons (pg_name (i := 6) sc_w_rounds.nd rfl (Or.inl rfl)) (pgs_cons (pg_name (i := 7) sc_w_rounds.nd rfl (Or.inl rfl)) pgs_nil)))
    (pss_one (ps_for PassesOwn.never rfl (pi_range2 rfl T.m_range (pa_cons (pe_op op_add (pv 2) pe_int) (pa_cons (pe_callB call_len_seq (by rfl) T.m_len PySem.boot_len (pa_cons (pv 0) pa_nil)) pa_nil))) (pg_name (i := 8) sc_w_rounds.nd rfl (Or.inl rfl))
    (pss_cons (ps_set (i := 9) sc_w_rounds.nd rfl (Or.inl rfl) pe_str)
    (pss_cons (ps_set (i := 10) sc_w_rounds.nd rfl (Or.inl rfl) pe_int)
    (pss_cons (ps_if (pt_cmpR op_eq (pe_ix ix_tup (pe_ix ix_list (pv 0) (pv 8) (fun _ _ => rfl)) pe_int (fun _ _ => rfl)) (pe_ix ix_list (pv 7) (pe_un un_neg pe_int) (fun _ _ => rfl)) (nomark _))
    (pss_one (ps_set (i := 9) sc_w_rounds.nd rfl (Or.inl rfl) (pe_ix ix_tup (pe_ix ix_list (pv 0) (pv 8) (fun _ _ => rfl)) pe_int (fun _ _ => rfl))))
    pss_nil)
    (pss_cons (ps_if (pt_cmpR op_eq (pe_ix ix_tup (pe_ix ix_list (pv 0) (pv 8) (fun _ _ => rfl)) pe_int (fun _ _ => rfl)) (pe_ix ix_list (pv 7) (pe_un un_neg pe_int) (fun _ _ => rfl)) (nomark _))
    (pss_cons (ps_set (i := 9) sc_w_rounds.nd rfl (Or.inl rfl) (pe_ix ix_tup (pe_ix ix_list (pv 0) (pv 8) (fun _ _ => rfl)) pe_int (fun _ _ => rfl)))
    (pss_one (ps_set (i := 10) sc_w_rounds.nd rfl (Or.inl rfl) (pe_un un_neg pe_int))))
    pss_nil)
    (pss_cons (ps_if (pt_cmpR op_eq (pv 9) (pe_ix ix_list (pv 7) pe_int (fun _ _ => rfl)) (nomark _))
    (pss_one (ps_expr (pe_bm PySem.F.plainAttrs_list PySem.F.slot_list_append PySem.F.type_list_append mt_append (pv 1) (pa_cons (pe_op op_cat (pv 6) (pe_lst (pa_cons (pe_tup (pa_cons (pv 8) (pa_cons (pv 10) pa_nil))) pa_nil))) pa_nil))))
    pss_nil)
    (pss_one (ps_if (PW.pt (pw_and (pt_cmpR op_ne (pv 9) pe_str (nomark _)) (pw_and1 (pt_cmpR op_notIn_seq (pv 9) (pv 7) (by rfl)))))
    (pss_one (ps_expr (pe_bm PySem.F.plainAttrs_list PySem.F.slot_list_append PySem.F.type_list_append mt_append (pv 5) (pa_cons (pe_tup (pa_cons (pe_op op_cat (pv 6) (pe_lst (pa_cons (pe_tup (pa_cons (pv 8) (pa_cons (pv 10) pa_nil))) pa_nil))) (pa_cons (pe_op op_cat (pv 7) (pe_lst (pa_cons (pv 9) pa_nil))) pa_nil))) pa_nil))))
    pss_nil))))))))))
    (pss_one (ps_set (i := 3) sc_w_rounds.nd rfl (Or.inl rfl) (pe_callTy call_list_of (by rfl) T.m_list (by decide +kernel) (pa_cons (pv 5) pa_nil))))))))))
    (pss_one (ps_ret (pv 1))))), ?_⟩
    walk_at "start"
    walk_at "sts"
    intro D nD
    have k1 : Keep [] H (upd H D (.lst [])) := Keep.new nD
    have r1 : RoA [D] (upd H D (.lst [])) D (ros1 rs 0) := ⟨by simp, [], upd_same, trivial⟩
    generalize upd H D (.lst []) = H1 at k1 r1 ⊢
    have et1 := k1 _ _ (by simp) et
    walk_at "sts"
    refine forR1_go (fun k σ' H' => ∃ y2 y3 y4 y5 y6 y7 y8 y9 y10 : Option V, σ' = [some (.ref t), some (.ref D), y2, y3, y4, y5, y6, y7, y8, y9, y10] ∧ Keep [] H H' ∧ RoA [D] H' D (ros1 rs k)) (by rw [List.length_map]; omega) ⟨_, _, _, _, _, _, _, _, _, by first | exact rfl | trivial, k1, r1⟩ ?_ ?_
    · clear k1 r1 et1
      rintro k σ' H2 hk ⟨y2, y3, y4, y5, y6, y7, y8, y9, y10, rfl, k2, r2⟩
      rw [List.length_map, lar] at hk
      have hk : k < rs.length := by omega
      obtain ⟨b, hb⟩ : ∃ b, as[k]? = some b := ⟨_, List.getElem?_eq_getElem (by omega)⟩
      obtain ⟨r, hr2, eb⟩ := har.get hb
      have et2 := k2 _ _ (by simp) et
      have eb2 : H2 b = some (.tup [.str (strL r.fst), .str (strL r.snd), .int r.cnt]) := k2 _ _ (by simp) eb
      have hvk : (as.map V.ref)[k]? = some (.ref b) := by rw [List.getElem?_map, hb]; rfl
      walk_at "sts"
      intro p1 np1
      walk_at "sts"
      intro l1 nl1
      have k3 : Keep [] H2 (upd (upd H2 p1 (.tup [.int (k : Nat), .int 1])) l1 (.lst [.ref p1])) := (Keep.new np1).trans (Keep.new nl1)
      have es1 : StM [D] (upd (upd H2 p1 (.tup [.int (k : Nat), .int 1])) l1 (.lst [.ref p1])) l1 [(k, 1)] := by
        obtain ⟨_, us, eD, _⟩ := r2
        refine ⟨fun hm => ?_, [p1], upd_same, ?_, trivial⟩
        · rw [List.mem_singleton.mp hm, upd_ne (by rintro rfl; rw [eD] at np1; cases np1), eD] at nl1; cases nl1
        · rw [upd_ne (by rintro rfl; rw [upd_same] at nl1; cases nl1), upd_same]
      generalize upd (upd H2 p1 (.tup [.int (k : Nat), .int 1])) l1 (.lst [.ref p1]) = H3 at k3 es1 ⊢
      have et3 := k3 _ _ (by simp) et2
      have eb3 := k3 _ _ (by simp) eb2
      have r3 := r2.all k3
      walk_at "sts"
      refine r_ixL (sqL_of et3) (atI_nat hvk) ?_
      walk_at "sts"
      refine r_ixL (sqL_of et3) (atI_nat hvk) ?_
      walk_at "sts"
      intro c1 nc1
      have k4 : Keep [] H3 (upd H3 c1 (.lst [.str (strL r.fst), .str (strL r.snd)])) := Keep.new nc1
      have ec1 : upd H3 c1 (.lst [.str (strL r.fst), .str (strL r.snd)]) c1 = some (.lst ([r.fst, r.snd].map nV)) := upd_same
      have nc1D : c1 ∉ [D] := fun hm => by
        obtain ⟨_, us, eD, _⟩ := r3
        rw [List.mem_singleton.mp hm, eD] at nc1; cases nc1
      generalize upd H3 c1 (.lst [.str (strL r.fst), .str (strL r.snd)]) = H4 at k4 ec1 ⊢
      have es4 := es1.kp (Kp.all k4)
      have r4 := r3.all k4
      walk_at "sts"
      intro q1 nq1
      walk_at "sts"
      intro P0 nP0
      have k5 : Keep [] H4 (upd (upd H4 q1 (.tup [.ref l1, .ref c1])) P0 (.lst [.ref q1])) := (Keep.new nq1).trans (Keep.new nP0)
      have pa5 : PaA [D] (upd (upd H4 q1 (.tup [.ref l1, .ref c1])) P0 (.lst [.ref q1])) P0 (pathsAt rs k r 0) := by
        refine ⟨[q1], upd_same, ⟨l1, c1, ?_, es4.kp (Kp.all k5), nc1D, k5 _ _ (by simp) ec1⟩, trivial⟩
        rw [upd_ne (by rintro rfl; rw [upd_same] at nP0; cases nP0), upd_same]
      have nP0D : P0 ∉ [D] := fun hm => by
        obtain ⟨_, us, eD, _⟩ := r4
        rw [List.mem_singleton.mp hm, upd_ne (by rintro rfl; rw [eD] at nq1; cases nq1), eD] at nP0; cases nP0
      generalize upd (upd H4 q1 (.tup [.ref l1, .ref c1])) P0 (.lst [.ref q1]) = H5 at k5 pa5 ⊢
      have r5 := r4.all k5
      have k25 := k2.trans ((k3.trans k4).trans k5)
      have et5 := k25 _ _ (by simp) et
      clear np1 nl1 k3 es1 et3 eb3 r3 nc1 k4 ec1 nc1D es4 r4 nq1 nP0 k5 k2 r2 et2 eb2
      walk_at "sts"
      refine forR1_go (fun m σ' H' => ∃ (Pq : Addr) (y4 y5 y6 y7 y8 y9 y10 : Option V), σ' = [some (.ref t), some (.ref D), some (.int (k : Nat)), some (.ref Pq), y4, y5, y6, y7, y8, y9, y10] ∧ Keep [] H H' ∧ RoA [D] H' D (ros2 rs k r m) ∧ PaA [D] H' Pq (pathsAt rs k r m) ∧ Pq ∉ [D]) (by rw [List.length_map]; omega)
        ⟨P0, _, _, _, _, _, _, _, by first | exact rfl | trivial, k25, by unfold ros2; rw [List.range_zero, List.flatMap_nil, List.append_nil]; exact r5, pa5, nP0D⟩ ?_ ?_
      · clear k25 r5 et5 pa5 nP0D
        rintro m σ' H6 hm ⟨Pq, y4, y5, y6, y7, y8, y9, y10, rfl, k6, r6, pa6, nPD⟩
        rw [List.length_map, lar] at hm
        have hm : m < rs.length := by omega
        walk_at "sts"
        intro g ng
        have sub : ∀ m ∈ [D, g], m ∈ [D] ∨ H6 m = none := fun x hx => by
          simp only [List.mem_cons, List.not_mem_nil, or_false] at hx
          rcases hx with rfl | rfl
          · exact .inl (by simp)
          · exact .inr ng
        have k7 : Keep [] H6 (upd H6 g (.lst [])) := Keep.new ng
        have r7 := (r6.more (by simp) sub).all k7
        obtain ⟨qs, eP, ePs⟩ := pa6
        have gD : g ≠ D := by
          rintro rfl
          obtain ⟨_, us, eD, _⟩ := r6
          rw [eD] at ng; cases ng
        have gP : g ≠ Pq := by rintro rfl; rw [eP] at ng; cases ng
        have ngH := k6.free (by simp) ng
        have ePs7 : AllR (PathA [D, g] (upd H6 g (.lst []))) qs (pathsAt rs k r m) := ePs.mono fun a x _ _ h => (h.more sub).kp (Kp.all k7)
        have eP7 := k7 _ _ (by simp) eP
        have pg7 : PaA [D, g] (upd H6 g (.lst [])) g (nextP rs k ((pathsAt rs k r m).take 0)) := ⟨[], upd_same, trivial⟩
        have nPM : Pq ∉ [D, g] := fun hm => by
          simp only [List.mem_cons, List.not_mem_nil, or_false] at hm
          rcases hm with e | e
          · exact nPD (by simp [e])
          · exact gP e.symm
        have k67 := k6.trans k7
        generalize upd H6 g (.lst []) = H7 at k67 r7 ePs7 eP7 pg7 ⊢
        clear k6 k7 r6 eP ePs sub ng
        have plen := paths_len hr2 hok l10 m
        have lqs := ePs7.len
        walk_at "sts"
        refine forL_go (xs := qs.map V.ref) (fun i σ' H' => ∃ y6 y7 y8 y9 y10 : Option V, σ' = [some (.ref t), some (.ref D), some (.int (k : Nat)), some (.ref Pq), some (.int (m : Nat)), some (.ref g), y6, y7, y8, y9, y10] ∧ Keep [] H H' ∧ RoA [D, g] H' D (ros3 rs k r m i) ∧ PaA [D, g] H' g (nextP rs k ((pathsAt rs k r m).take i)) ∧ H' Pq = some (.lst (qs.map V.ref)) ∧ AllR (PathA [D, g] H') qs (pathsAt rs k r m))
          (sqL_of eP7) ⟨_, _, _, _, _, by first | exact rfl | trivial, k67, by unfold ros3 cloA; rw [List.take_zero, List.flatMap_nil, List.append_nil]; exact r7, pg7, eP7, ePs7⟩ (fun i σ' H' _ h => by obtain ⟨_, _, _, _, _, _, _, _, _, e, _⟩ := h; exact sqL_of e) ?_ ?_
        · clear k67 r7 ePs7 eP7 pg7
          rintro i v σ' H8 hv ⟨y6, y7, y8, y9, y10, rfl, k8, r8, pg8, eP8, ePs8⟩
          obtain ⟨q, hq, rfl⟩ := getRef hv
          obtain ⟨⟨st, ps⟩, hp, bq, cq, eq8, es8, ncM, ec8⟩ := ePs8.get hq
          have hi := (List.getElem?_eq_some_iff.mp hp).1
          obtain ⟨sp, lst, lps⟩ := paths_sp (List.mem_of_getElem? hp)
          have f := sp.facts hr2 hok
          have et8 := k8 _ _ (by simp) et
          refine r_gTup2 (sqT_of eq8) ?_
          simp only [List.set_cons_zero, List.set_cons_succ]
          walk_at "sts"
          have es0 : ((as.map V.ref).length : Int) = (rs.length : Int) := by rw [List.length_map, lar]
          rw [es0]
          refine forR2_go (fun jj σ' H' => ∃ y8 y9 y10 : Option V, σ' = [some (.ref t), some (.ref D), some (.int (k : Nat)), some (.ref Pq), some (.int (m : Nat)), some (.ref g), some (.ref bq), some (.ref cq), y8, y9, y10] ∧ Keep [] H H' ∧ RoA [D, g] H' D (ros4 rs k r m i (st, ps) jj) ∧ PaA [D, g] H' g (lon4 rs k r m i (st, ps) jj) ∧ H' Pq = some (.lst (qs.map V.ref)) ∧ AllR (PathA [D, g] H') qs (pathsAt rs k r m) ∧ StM [D, g] H' bq st ∧ H' cq = some (.lst (ps.map nV)))
            (by omega) ⟨_, _, _, by first | exact rfl | trivial, k8, by unfold ros4; rw [List.take_zero, List.filterMap_nil, List.append_nil]; exact r8, by unfold lon4; rw [List.take_zero, List.filterMap_nil, List.append_nil]; exact pg8, eP8, ePs8, es8, ec8⟩ ?_ ?_
          · clear k8 r8 pg8 eP8 ePs8 es8 ec8 et8 eq8
            rintro jj σ' H9 hj ⟨y8, y9, y10, rfl, k9, r9, pg9, eP9, ePs9, es9, ec9⟩
            rw [show (k : Int) + 1 + (jj : Int) = ((k + 1 + jj : Nat) : Int) by omega] at hj ⊢
            have hJ : k + 1 + jj < rs.length := by omega
            have hjs : (jsK k rs.length)[jj]? = some (k + 1 + jj) := by
              unfold jsK
              rw [List.getElem?_range' (by omega)]; simp
            obtain ⟨b', hb'⟩ : ∃ b', as[k + 1 + jj]? = some b' := ⟨_, List.getElem?_eq_getElem (by omega)⟩
            obtain ⟨r', hr', eb'⟩ := har.get hb'
            have okr' := hok r' (List.mem_of_getElem? hr')
            have et9 := k9 _ _ (by simp) et
            have eb9 : H9 b' = some (.tup [.str (strL r'.fst), .str (strL r'.snd), .int r'.cnt]) := k9 _ _ (by simp) eb'
            have hvj : (as.map V.ref)[k + 1 + jj]? = some (.ref b') := by rw [List.getElem?_map, hb']; rfl
            have fs : ps = ps.dropLast ++ [lastN ps] := f.split
            have fh : ps.head? = some r.fst := f.head
            have lst2 : st.length = m + 1 := lst
            have lps2 : ps.length = m + 2 := lps
            have hx : (ps.map nV).getLast? = some (V.str (strL (lastN ps))) := by
              rw [List.getLast?_map, show ps.getLast? = some (lastN ps) by rw [fs, List.getLast?_concat, lastN_snoc]]; rfl
            have hh : (ps.map nV)[0]? = some (V.str (strL r.fst)) := by rw [List.getElem?_map, ← List.head?_eq_getElem?, fh]; rfl
            have hnx : ∀ o, acrossL r' (lastN ps) = some o → nxt rs ps (k + 1 + jj) = some (o, wayR r' (lastN ps)) := fun o h => nxt_mk hr' h
            have hno : acrossL r' (lastN ps) = none → nxt rs ps (k + 1 + jj) = none := fun h => by unfold nxt; rw [hr', Option.bind_some, h]; rfl
            have fls : (ps.map fun u => V.str (strL u)).all L2.flatV = true := by
              rw [List.all_eq_true]; intro x hx; obtain ⟨u, _, rfl⟩ := List.mem_map.mp hx; rfl
            generalize lastN ps = x at hx hnx hno
            walk_at "sts"
            refine r_ixL (sqL_of et9) (atI_nat hvj) ?_
            walk_at "sts"
            refine r_ixL (sqL_of ec9) (atI_m1 hx) ?_
            walk_at "sts"
            by_cases c1 : r'.fst = x
            · rw [if_pos (decide_eq_true (by rw [c1]))]
              have c2 : r'.snd ≠ x := fun e => okr'.ne (c1.trans e.symm)
              have ha := hnx r'.snd (by unfold acrossL; rw [if_pos c1.symm])
              rw [show wayR r' x = 1 by unfold wayR; rw [if_neg (Ne.symm c2)]] at ha
              walk_at "sts"
              refine r_ixL (sqL_of et9) (atI_nat hvj) ?_
              walk_at "sts"
              refine r_ixL (sqL_of et9) (atI_nat hvj) ?_
              walk_at "sts"
              refine r_ixL (sqL_of ec9) (atI_m1 hx) ?_
              walk_at "sts"
              rw [if_neg (by rw [decide_eq_false fun e => c2 (strL_inj e)]; decide)]
              walk_at "sts"
              refine r_ixL (sqL_of ec9) (atI_nat hh) ?_
              walk_at "sts"
              have cl : cloP rs (st, ps) (k + 1 + jj) = if r'.snd = r.fst then some (st ++ [(k + 1 + jj, 1)]) else none := by
                unfold cloP
                rw [ha, Option.bind_some]
                by_cases h1 : r'.snd = r.fst
                · rw [if_pos h1, if_pos (by show some r'.snd = ps.head?; rw [fh, h1])]
                · rw [if_neg h1, if_neg (by show ¬ some r'.snd = ps.head?; rw [fh]; exact fun e => h1 (Option.some.inj e))]
              have xt : extP rs (st, ps) (k + 1 + jj) = if r'.snd ∈ ps then none else some (st ++ [(k + 1 + jj, 1)], ps ++ [r'.snd]) := by
                unfold extP
                rw [ha, Option.bind_some]
              have neO : strL r'.snd ≠ "" := fun e => by
                have h2 : r'.snd = [] := by rw [← strL_tl (s := r'.snd), e]; rfl
                have h3 := (okr'.q2).l1
                rw [h2] at h3; simp at h3
              obtain ⟨nb, ts, ets, hts⟩ := id es9
              have lts := hts.len
              obtain ⟨mD, us, eus, hus⟩ := id r9
              have lus := hus.len
              obtain ⟨gs, egs, hgs⟩ := id pg9
              have lgs := hgs.len
              by_cases h1 : r'.snd = r.fst
              · rw [if_pos (decide_eq_true (by rw [h1]))]
                walk_at "sts"
                intro tp ntp
                walk_at "sts"
                intro l1 nl1
                have k10 : Keep [] H9 (upd (upd H9 tp (.tup [.int ((k + 1 + jj : Nat) : Int), .int (1)])) l1 (.lst [.ref tp])) := (Keep.new ntp).trans (Keep.new nl1)
                have etp : upd (upd H9 tp (.tup [.int ((k + 1 + jj : Nat) : Int), .int (1)])) l1 (.lst [.ref tp]) tp = some (pHO (k + 1 + jj, 1)) := by
                  rw [upd_ne (by rintro rfl; rw [upd_same] at nl1; cases nl1), upd_same]
                have el1 : upd (upd H9 tp (.tup [.int ((k + 1 + jj : Nat) : Int), .int (1)])) l1 (.lst [.ref tp]) l1 = some (.lst [.ref tp]) := upd_same
                generalize upd (upd H9 tp (.tup [.int ((k + 1 + jj : Nat) : Int), .int (1)])) l1 (.lst [.ref tp]) = H10 at k10 etp el1 ⊢
                have r10 := r9.all k10
                have pg10 := pg9.all k10
                refine r_cat (k10 _ _ (by simp) ets) el1 (by rw [List.length_map, lts]; exact le_size (by simp; omega)) fun p2 np2 => ?_
                have n2 := newM r10 pg10 np2
                have k11 : Keep [] H10 (upd H10 p2 (.lst (ts.map V.ref ++ [.ref tp]))) := Keep.new np2
                have k911 := k10.trans k11
                have es2 : StM [D, g] (upd H10 p2 (.lst (ts.map V.ref ++ [.ref tp]))) p2 (st ++ [(k + 1 + jj, 1)]) :=
                  ⟨n2, ts ++ [tp], by rw [upd_same, List.map_append]; rfl, AllAt.app (hts.keep0 k911) ⟨k11 _ _ (by simp) etp, trivial⟩⟩
                generalize upd H10 p2 (.lst (ts.map V.ref ++ [.ref tp])) = H11 at k911 es2 ⊢
                obtain ⟨_, us, eus, hus⟩ := r9.all k911
                have lus := hus.len
                have pg11 := pg9.all k911
                have hin : r'.snd ∈ ps := by rw [h1]; exact List.mem_of_mem_head? (by rw [fh]; rfl)
                walk_at "sts"
                refine r_app eus (by rw [List.length_map, lus]; exact ros4_len hr2 hok l10 (by omega) (by omega)) ?_
                have kp12 : Kp [D, g] H11 (upd H11 D (.lst (us.map V.ref ++ [.ref p2]))) := Kp.put mD eus
                have r12 := RoA.put mD eus hus es2
                have pg12 := pg11.ne (ys := us.map V.ref ++ [.ref p2]) mD (Ne.symm gD) eus
                have eP12 := kp12 _ _ (.inl nPM) (k911 _ _ (by simp) eP9)
                have ePs12 : AllR (PathA [D, g] (upd H11 D (.lst (us.map V.ref ++ [.ref p2])))) qs (pathsAt rs k r m) := ePs9.mono fun a x _ _ h => h.kp ((Kp.all k911).trans kp12)
                have es12 := es9.kp ((Kp.all k911).trans kp12)
                have ec12 := kp12 _ _ (.inl ncM) (k911 _ _ (by simp) ec9)
                have k12 := (k9.trans k911).mut (o := .lst (us.map V.ref ++ [.ref p2])) nD
                have r12 : RoA [D, g] (upd H11 D (.lst (us.map V.ref ++ [.ref p2]))) D (ros4 rs k r m i (st, ps) (jj + 1)) := by
                  rw [ros4_s hjs, cl, if_pos h1]; exact r12
                generalize upd H11 D (.lst (us.map V.ref ++ [.ref p2])) = H12 at r12 pg12 eP12 ePs12 es12 ec12 k12 ⊢
                walk_at "sts"
                refine r_ninL (sqL_of (show H12 cq = some (.lst (ps.map fun u => V.str (strL u))) from ec12)) rfl fls ?_
                refine ⟨_, rfl, ?_⟩
                rw [inV_n.mpr hin, Bool.not_true, if_neg (by decide)]
                walk_at "sts"
                exact ⟨_, _, _, by first | exact rfl | trivial, k12, r12, by rw [lon4_s hjs, xt, if_pos hin, Option.toList_none, List.append_nil]; exact pg12, eP12, ePs12, es12, ec12⟩
              · rw [if_neg (by rw [decide_eq_false fun e => h1 (strL_inj e)]; decide)]
                have r9' : RoA [D, g] H9 D (ros4 rs k r m i (st, ps) (jj + 1)) := by
                  rw [ros4_s hjs, cl, if_neg h1, Option.toList_none, List.append_nil]; exact r9
                walk_at "sts"
                refine r_ninL (sqL_of (show H9 cq = some (.lst (ps.map fun u => V.str (strL u))) from ec9)) rfl fls ?_
                refine ⟨_, rfl, ?_⟩
                by_cases hin : r'.snd ∈ ps
                · rw [inV_n.mpr hin, Bool.not_true, if_neg (by decide)]
                  walk_at "sts"
                  exact ⟨_, _, _, by first | exact rfl | trivial, k9, r9', by rw [lon4_s hjs, xt, if_pos hin, Option.toList_none, List.append_nil]; exact pg9, eP9, ePs9, es9, ec9⟩
                · rw [show L2.inV (.str (strL (r'.snd))) (ps.map fun u => V.str (strL u)) = false from by
                    cases e : L2.inV (.str (strL (r'.snd))) (ps.map fun u => V.str (strL u)) with
                    | false => rfl
                    | true => exact (hin (inV_n.mp e)).elim, Bool.not_false, if_pos rfl]
                  walk_at "sts"
                  intro tp ntp
                  walk_at "sts"
                  intro l1 nl1
                  have k10 : Keep [] H9 (upd (upd H9 tp (.tup [.int ((k + 1 + jj : Nat) : Int), .int (1)])) l1 (.lst [.ref tp])) := (Keep.new ntp).trans (Keep.new nl1)
                  have etp : upd (upd H9 tp (.tup [.int ((k + 1 + jj : Nat) : Int), .int (1)])) l1 (.lst [.ref tp]) tp = some (pHO (k + 1 + jj, 1)) := by
                    rw [upd_ne (by rintro rfl; rw [upd_same] at nl1; cases nl1), upd_same]
                  have el1 : upd (upd H9 tp (.tup [.int ((k + 1 + jj : Nat) : Int), .int (1)])) l1 (.lst [.ref tp]) l1 = some (.lst [.ref tp]) := upd_same
                  generalize upd (upd H9 tp (.tup [.int ((k + 1 + jj : Nat) : Int), .int (1)])) l1 (.lst [.ref tp]) = H10 at k10 etp el1 ⊢
                  have r10 := r9'.all k10
                  have pg10 := pg9.all k10
                  refine r_cat (k10 _ _ (by simp) ets) el1 (by rw [List.length_map, lts]; exact le_size (by simp; omega)) fun p2 np2 => ?_
                  have n2 := newM r10 pg10 np2
                  have k11 : Keep [] H10 (upd H10 p2 (.lst (ts.map V.ref ++ [.ref tp]))) := Keep.new np2
                  have k911 := k10.trans k11
                  have es2 : StM [D, g] (upd H10 p2 (.lst (ts.map V.ref ++ [.ref tp]))) p2 (st ++ [(k + 1 + jj, 1)]) :=
                    ⟨n2, ts ++ [tp], by rw [upd_same, List.map_append]; rfl, AllAt.app (hts.keep0 k911) ⟨k11 _ _ (by simp) etp, trivial⟩⟩
                  generalize upd H10 p2 (.lst (ts.map V.ref ++ [.ref tp])) = H11 at k911 es2 ⊢
                  walk_at "sts"
                  intro l2 nl2
                  have k12 : Keep [] H11 (upd H11 l2 (.lst [.str (strL (r'.snd))])) := Keep.new nl2
                  have el2 : upd H11 l2 (.lst [.str (strL (r'.snd))]) l2 = some (.lst [.str (strL (r'.snd))]) := upd_same
                  have es3 := es2.kp (Kp.all k12)
                  have k912 := k911.trans k12
                  generalize upd H11 l2 (.lst [.str (strL (r'.snd))]) = H12 at k912 el2 es3 ⊢
                  have r12 := r9'.all k912
                  have pg12 := pg9.all k912
                  refine r_cat (k912 _ _ (by simp) ec9) el2 (by rw [List.length_map, lps2]; exact le_size (by simp; omega)) fun c3 nc3 => ?_
                  have n3 := newM r12 pg12 nc3
                  have k13 : Keep [] H12 (upd H12 c3 (.lst (ps.map nV ++ [.str (strL (r'.snd))]))) := Keep.new nc3
                  have ec3 : upd H12 c3 (.lst (ps.map nV ++ [.str (strL (r'.snd))])) c3 = some (.lst ((ps ++ [r'.snd]).map nV)) := by rw [upd_same, List.map_append]; rfl
                  have k913 := k912.trans k13
                  have es4 := es3.kp (Kp.all k13)
                  generalize upd H12 c3 (.lst (ps.map nV ++ [.str (strL (r'.snd))])) = H13 at k913 ec3 es4 ⊢
                  walk_at "sts"
                  intro q3 nq3
                  have k14 : Keep [] H13 (upd H13 q3 (.tup [.ref p2, .ref c3])) := Keep.new nq3
                  have pa3 : PathA [D, g] (upd H13 q3 (.tup [.ref p2, .ref c3])) q3 (st ++ [(k + 1 + jj, 1)], ps ++ [r'.snd]) := ⟨p2, c3, upd_same, es4.kp (Kp.all k14), n3, k14 _ _ (by simp) ec3⟩
                  have k914 := k913.trans k14
                  generalize upd H13 q3 (.tup [.ref p2, .ref c3]) = H14 at k914 pa3 ⊢
                  have r14 := r9'.all k914
                  obtain ⟨gs, egs, hgs⟩ := pg9.all k914
                  have lgs := hgs.len
                  have mg : g ∈ [D, g] := by simp
                  walk_at "sts"
                  refine r_app egs (by rw [List.length_map, lgs]; exact lt_size (lon4_len l10 (by omega))) ?_
                  have kp15 : Kp [D, g] H14 (upd H14 g (.lst (gs.map V.ref ++ [.ref q3]))) := Kp.put mg egs
                  have pg15 := PaA.put mg egs hgs pa3
                  refine ⟨_, _, _, by first | exact rfl | trivial, (k9.trans k914).mut ngH, r14.ne mg gD egs, by rw [lon4_s hjs, xt, if_neg hin]; exact pg15, kp15 _ _ (.inl nPM) (k914 _ _ (by simp) eP9), ePs9.mono fun a x _ _ h => h.kp ((Kp.all k914).trans kp15), es9.kp ((Kp.all k914).trans kp15), kp15 _ _ (.inl ncM) (k914 _ _ (by simp) ec9)⟩
            · rw [if_neg (by rw [decide_eq_false fun e => c1 (strL_inj e)]; decide)]
              walk_at "sts"
              refine r_ixL (sqL_of et9) (atI_nat hvj) ?_
              walk_at "sts"
              refine r_ixL (sqL_of ec9) (atI_m1 hx) ?_
              walk_at "sts"
              by_cases c2 : r'.snd = x
              · rw [if_pos (decide_eq_true (by rw [c2]))]
                have ha := hnx r'.fst (by unfold acrossL; rw [if_neg (Ne.symm c1), if_pos c2.symm])
                rw [show wayR r' x = -1 by unfold wayR; rw [if_pos c2.symm]] at ha
                walk_at "sts"
                refine r_ixL (sqL_of et9) (atI_nat hvj) ?_
                walk_at "sts"
                refine r_ixL (sqL_of ec9) (atI_nat hh) ?_
                walk_at "sts"
                have cl : cloP rs (st, ps) (k + 1 + jj) = if r'.fst = r.fst then some (st ++ [(k + 1 + jj, -1)]) else none := by
                  unfold cloP
                  rw [ha, Option.bind_some]
                  by_cases h1 : r'.fst = r.fst
                  · rw [if_pos h1, if_pos (by show some r'.fst = ps.head?; rw [fh, h1])]
                  · rw [if_neg h1, if_neg (by show ¬ some r'.fst = ps.head?; rw [fh]; exact fun e => h1 (Option.some.inj e))]
                have xt : extP rs (st, ps) (k + 1 + jj) = if r'.fst ∈ ps then none else some (st ++ [(k + 1 + jj, -1)], ps ++ [r'.fst]) := by
                  unfold extP
                  rw [ha, Option.bind_some]
                have neO : strL r'.fst ≠ "" := fun e => by
                  have h2 : r'.fst = [] := by rw [← strL_tl (s := r'.fst), e]; rfl
                  have h3 := (okr'.q1).l1
                  rw [h2] at h3; simp at h3
                obtain ⟨nb, ts, ets, hts⟩ := id es9
                have lts := hts.len
                obtain ⟨mD, us, eus, hus⟩ := id r9
                have lus := hus.len
                obtain ⟨gs, egs, hgs⟩ := id pg9
                have lgs := hgs.len
                by_cases h1 : r'.fst = r.fst
                · rw [if_pos (decide_eq_true (by rw [h1]))]
                  walk_at "sts"
                  intro tp ntp
                  walk_at "sts"
                  intro l1 nl1
                  have k10 : Keep [] H9 (upd (upd H9 tp (.tup [.int ((k + 1 + jj : Nat) : Int), .int (-1)])) l1 (.lst [.ref tp])) := (Keep.new ntp).trans (Keep.new nl1)
                  have etp : upd (upd H9 tp (.tup [.int ((k + 1 + jj : Nat) : Int), .int (-1)])) l1 (.lst [.ref tp]) tp = some (pHO (k + 1 + jj, -1)) := by
                    rw [upd_ne (by rintro rfl; rw [upd_same] at nl1; cases nl1), upd_same]
                  have el1 : upd (upd H9 tp (.tup [.int ((k + 1 + jj : Nat) : Int), .int (-1)])) l1 (.lst [.ref tp]) l1 = some (.lst [.ref tp]) := upd_same
                  generalize upd (upd H9 tp (.tup [.int ((k + 1 + jj : Nat) : Int), .int (-1)])) l1 (.lst [.ref tp]) = H10 at k10 etp el1 ⊢
                  have r10 := r9.all k10
                  have pg10 := pg9.all k10
                  refine r_cat (k10 _ _ (by simp) ets) el1 (by rw [List.length_map, lts]; exact le_size (by simp; omega)) fun p2 np2 => ?_
                  have n2 := newM r10 pg10 np2
                  have k11 : Keep [] H10 (upd H10 p2 (.lst (ts.map V.ref ++ [.ref tp]))) := Keep.new np2
                  have k911 := k10.trans k11
                  have es2 : StM [D, g] (upd H10 p2 (.lst (ts.map V.ref ++ [.ref tp]))) p2 (st ++ [(k + 1 + jj, -1)]) :=
                    ⟨n2, ts ++ [tp], by rw [upd_same, List.map_append]; rfl, AllAt.app (hts.keep0 k911) ⟨k11 _ _ (by simp) etp, trivial⟩⟩
                  generalize upd H10 p2 (.lst (ts.map V.ref ++ [.ref tp])) = H11 at k911 es2 ⊢
                  obtain ⟨_, us, eus, hus⟩ := r9.all k911
                  have lus := hus.len
                  have pg11 := pg9.all k911
                  have hin : r'.fst ∈ ps := by rw [h1]; exact List.mem_of_mem_head? (by rw [fh]; rfl)
                  walk_at "sts"
                  refine r_app eus (by rw [List.length_map, lus]; exact ros4_len hr2 hok l10 (by omega) (by omega)) ?_
                  have kp12 : Kp [D, g] H11 (upd H11 D (.lst (us.map V.ref ++ [.ref p2]))) := Kp.put mD eus
                  have r12 := RoA.put mD eus hus es2
                  have pg12 := pg11.ne (ys := us.map V.ref ++ [.ref p2]) mD (Ne.symm gD) eus
                  have eP12 := kp12 _ _ (.inl nPM) (k911 _ _ (by simp) eP9)
                  have ePs12 : AllR (PathA [D, g] (upd H11 D (.lst (us.map V.ref ++ [.ref p2])))) qs (pathsAt rs k r m) := ePs9.mono fun a x _ _ h => h.kp ((Kp.all k911).trans kp12)
                  have es12 := es9.kp ((Kp.all k911).trans kp12)
                  have ec12 := kp12 _ _ (.inl ncM) (k911 _ _ (by simp) ec9)
                  have k12 := (k9.trans k911).mut (o := .lst (us.map V.ref ++ [.ref p2])) nD
                  have r12 : RoA [D, g] (upd H11 D (.lst (us.map V.ref ++ [.ref p2]))) D (ros4 rs k r m i (st, ps) (jj + 1)) := by
                    rw [ros4_s hjs, cl, if_pos h1]; exact r12
                  generalize upd H11 D (.lst (us.map V.ref ++ [.ref p2])) = H12 at r12 pg12 eP12 ePs12 es12 ec12 k12 ⊢
                  walk_at "sts"
                  refine r_ninL (sqL_of (show H12 cq = some (.lst (ps.map fun u => V.str (strL u))) from ec12)) rfl fls ?_
                  refine ⟨_, rfl, ?_⟩
                  rw [inV_n.mpr hin, Bool.not_true, if_neg (by decide)]
                  walk_at "sts"
                  exact ⟨_, _, _, by first | exact rfl | trivial, k12, r12, by rw [lon4_s hjs, xt, if_pos hin, Option.toList_none, List.append_nil]; exact pg12, eP12, ePs12, es12, ec12⟩
                · rw [if_neg (by rw [decide_eq_false fun e => h1 (strL_inj e)]; decide)]
                  have r9' : RoA [D, g] H9 D (ros4 rs k r m i (st, ps) (jj + 1)) := by
                    rw [ros4_s hjs, cl, if_neg h1, Option.toList_none, List.append_nil]; exact r9
                  walk_at "sts"
                  refine r_ninL (sqL_of (show H9 cq = some (.lst (ps.map fun u => V.str (strL u))) from ec9)) rfl fls ?_
                  refine ⟨_, rfl, ?_⟩
                  by_cases hin : r'.fst ∈ ps
                  · rw [inV_n.mpr hin, Bool.not_true, if_neg (by decide)]
                    walk_at "sts"
                    exact ⟨_, _, _, by first | exact rfl | trivial, k9, r9', by rw [lon4_s hjs, xt, if_pos hin, Option.toList_none, List.append_nil]; exact pg9, eP9, ePs9, es9, ec9⟩
                  · rw [show L2.inV (.str (strL (r'.fst))) (ps.map fun u => V.str (strL u)) = false from by
                      cases e : L2.inV (.str (strL (r'.fst))) (ps.map fun u => V.str (strL u)) with
                      | false => rfl
                      | true => exact (hin (inV_n.mp e)).elim, Bool.not_false, if_pos rfl]
                    walk_at "sts"
                    intro tp ntp
                    walk_at "sts"
                    intro l1 nl1
                    have k10 : Keep [] H9 (upd (upd H9 tp (.tup [.int ((k + 1 + jj : Nat) : Int), .int (-1)])) l1 (.lst [.ref tp])) := (Keep.new ntp).trans (Keep.new nl1)
                    have etp : upd (upd H9 tp (.tup [.int ((k + 1 + jj : Nat) : Int), .int (-1)])) l1 (.lst [.ref tp]) tp = some (pHO (k + 1 + jj, -1)) := by
                      rw [upd_ne (by rintro rfl; rw [upd_same] at nl1; cases nl1), upd_same]
                    have el1 : upd (upd H9 tp (.tup [.int ((k + 1 + jj : Nat) : Int), .int (-1)])) l1 (.lst [.ref tp]) l1 = some (.lst [.ref tp]) := upd_same
                    generalize upd (upd H9 tp (.tup [.int ((k + 1 + jj : Nat) : Int), .int (-1)])) l1 (.lst [.ref tp]) = H10 at k10 etp el1 ⊢
                    have r10 := r9'.all k10
                    have pg10 := pg9.all k10
                    refine r_cat (k10 _ _ (by simp) ets) el1 (by rw [List.length_map, lts]; exact le_size (by simp; omega)) fun p2 np2 => ?_
                    have n2 := newM r10 pg10 np2
                    have k11 : Keep [] H10 (upd H10 p2 (.lst (ts.map V.ref ++ [.ref tp]))) := Keep.new np2
                    have k911 := k10.trans k11
                    have es2 : StM [D, g] (upd H10 p2 (.lst (ts.map V.ref ++ [.ref tp]))) p2 (st ++ [(k + 1 + jj, -1)]) :=
                      ⟨n2, ts ++ [tp], by rw [upd_same, List.map_append]; rfl, AllAt.app (hts.keep0 k911) ⟨k11 _ _ (by simp) etp, trivial⟩⟩
                    generalize upd H10 p2 (.lst (ts.map V.ref ++ [.ref tp])) = H11 at k911 es2 ⊢
                    walk_at "sts"
                    intro l2 nl2
                    have k12 : Keep [] H11 (upd H11 l2 (.lst [.str (strL (r'.fst))])) := Keep.new nl2
                    have el2 : upd H11 l2 (.lst [.str (strL (r'.fst))]) l2 = some (.lst [.str (strL (r'.fst))]) := upd_same
                    have es3 := es2.kp (Kp.all k12)
                    have k912 := k911.trans k12
                    generalize upd H11 l2 (.lst [.str (strL (r'.fst))]) = H12 at k912 el2 es3 ⊢
                    have r12 := r9'.all k912
                    have pg12 := pg9.all k912
                    refine r_cat (k912 _ _ (by simp) ec9) el2 (by rw [List.length_map, lps2]; exact le_size (by simp; omega)) fun c3 nc3 => ?_
                    have n3 := newM r12 pg12 nc3
                    have k13 : Keep [] H12 (upd H12 c3 (.lst (ps.map nV ++ [.str (strL (r'.fst))]))) := Keep.new nc3
                    have ec3 : upd H12 c3 (.lst (ps.map nV ++ [.str (strL (r'.fst))])) c3 = some (.lst ((ps ++ [r'.fst]).map nV)) := by rw [upd_same, List.map_append]; rfl
                    have k913 := k912.trans k13
                    have es4 := es3.kp (Kp.all k13)
                    generalize upd H12 c3 (.lst (ps.map nV ++ [.str (strL (r'.fst))])) = H13 at k913 ec3 es4 ⊢
                    walk_at "sts"
                    intro q3 nq3
                    have k14 : Keep [] H13 (upd H13 q3 (.tup [.ref p2, .ref c3])) := Keep.new nq3
                    have pa3 : PathA [D, g] (upd H13 q3 (.tup [.ref p2, .ref c3])) q3 (st ++ [(k + 1 + jj, -1)], ps ++ [r'.fst]) := ⟨p2, c3, upd_same, es4.kp (Kp.all k14), n3, k14 _ _ (by simp) ec3⟩
                    have k914 := k913.trans k14
                    generalize upd H13 q3 (.tup [.ref p2, .ref c3]) = H14 at k914 pa3 ⊢
                    have r14 := r9'.all k914
                    obtain ⟨gs, egs, hgs⟩ := pg9.all k914
                    have lgs := hgs.len
                    have mg : g ∈ [D, g] := by simp
                    walk_at "sts"
                    refine r_app egs (by rw [List.length_map, lgs]; exact lt_size (lon4_len l10 (by omega))) ?_
                    have kp15 : Kp [D, g] H14 (upd H14 g (.lst (gs.map V.ref ++ [.ref q3]))) := Kp.put mg egs
                    have pg15 := PaA.put mg egs hgs pa3
                    refine ⟨_, _, _, by first | exact rfl | trivial, (k9.trans k914).mut ngH, r14.ne mg gD egs, by rw [lon4_s hjs, xt, if_neg hin]; exact pg15, kp15 _ _ (.inl nPM) (k914 _ _ (by simp) eP9), ePs9.mono fun a x _ _ h => h.kp ((Kp.all k914).trans kp15), es9.kp ((Kp.all k914).trans kp15), kp15 _ _ (.inl ncM) (k914 _ _ (by simp) ec9)⟩
              · rw [if_neg (by rw [decide_eq_false fun e => c2 (strL_inj e)]; decide)]
                have ha := hno (by unfold acrossL; rw [if_neg (Ne.symm c1), if_neg (Ne.symm c2)])
                walk_at "sts"
                refine r_ixL (sqL_of ec9) (atI_nat hh) ?_
                have neE : strL r.fst ≠ "" := fun e => by
                  have h2 : r.fst = [] := by rw [← strL_tl (s := r.fst), e]; rfl
                  have h3 := (hok r (List.mem_of_getElem? hr2)).q1.l1
                  rw [h2] at h3; simp at h3
                walk_at "sts"
                rw [if_neg (by rw [decide_eq_false (Ne.symm neE)]; decide)]
                walk_at "sts"
                have ha : nxt rs ps (k + 1 + jj) = none := ha
                have cl : cloP rs (st, ps) (k + 1 + jj) = none := by unfold cloP; rw [ha, Option.bind_none]
                have xt : extP rs (st, ps) (k + 1 + jj) = none := by unfold extP; rw [ha, Option.bind_none]
                exact ⟨_, _, _, by first | exact rfl | trivial, k9, by rw [ros4_s hjs, cl, Option.toList_none, List.append_nil]; exact r9, by rw [lon4_s hjs, xt, Option.toList_none, List.append_nil]; exact pg9, eP9, ePs9, es9, ec9⟩
          · rintro σ' H9 ⟨y8, y9, y10, rfl, k9, r9, pg9, eP9, ePs9, _, _⟩
            have en : ((rs.length : Int) - ((k : Int) + 1)).toNat = (jsK k rs.length).length := by unfold jsK; rw [List.length_range']; omega
            rw [en] at r9 pg9
            refine ⟨_, _, _, _, _, by first | exact rfl | trivial, k9, ?_, ?_, eP9, ePs9⟩
            · have e : ros3 rs k r m (i + 1) = ros4 rs k r m i (st, ps) (jsK k rs.length).length := by
                unfold ros4 ros3 cloA
                rw [take_s hp, List.flatMap_append, List.flatMap_cons, List.flatMap_nil, List.append_nil, List.take_length, List.append_assoc]
              rw [e]; exact r9
            · have e : nextP rs k ((pathsAt rs k r m).take (i + 1)) = lon4 rs k r m i (st, ps) (jsK k rs.length).length := by
                unfold lon4 nextP
                rw [take_s hp, List.flatMap_append, List.flatMap_cons, List.flatMap_nil, List.append_nil, List.take_length]
              rw [e]; exact pg9
        · rintro σ' H8 ⟨y6, y7, y8, y9, y10, rfl, k8, r8, pg8, _, _⟩
          rw [List.length_map, lqs] at r8 pg8
          rw [List.take_length] at pg8
          obtain ⟨gs, eg, egs⟩ := pg8
          walk_at "sts"
          intro P2 nP2
          have k9 : Keep [] H8 (upd H8 P2 (.lst (gs.map V.ref))) := Keep.new nP2
          have e9 : upd H8 P2 (.lst (gs.map V.ref)) P2 = some (.lst (gs.map V.ref)) := upd_same
          have nD2 : P2 ∉ [D] := fun hm => by
            obtain ⟨_, us, eD, _⟩ := r8
            rw [List.mem_singleton.mp hm, eD] at nP2; cases nP2
          have r9 := (r8.all k9).more (M' := [D]) (by simp) fun x hx => .inl (by rw [List.mem_singleton.mp hx]; simp)
          walk_at "sts"
          refine ⟨P2, _, _, _, _, _, _, _, by first | exact rfl | trivial, k8.trans k9, ?_, ⟨gs, e9, egs.mono fun a x _ _ h => (h.kp (Kp.all k9)).more fun y hy => .inl (by rw [List.mem_singleton.mp hy]; simp)⟩, nD2⟩
          have e : ros2 rs k r (m + 1) = ros3 rs k r m (pathsAt rs k r m).length := by
            unfold ros3 ros2
            rw [List.range_succ, List.flatMap_append, List.flatMap_cons, List.flatMap_nil, List.append_nil, List.take_length, List.append_assoc]
          rw [e]; exact r9
      · rintro σ' H6 ⟨Pq, y4, y5, y6, y7, y8, y9, y10, rfl, k6, r6, _, _⟩
        rw [List.length_map, lar, Int.toNat_natCast] at r6
        refine ⟨_, _, _, _, _, _, _, _, _, by first | exact rfl | trivial, k6, ?_⟩
        have e : ros1 rs (k + 1) = ros2 rs k r rs.length := by
          unfold ros1 ros2 ros1
          rw [List.range_succ, List.flatMap_append, List.flatMap_cons, List.flatMap_nil, List.append_nil]
          congr 1
          unfold roundsK
          rw [hr2]
        rw [e]; exact r6
    · rintro σ' H2 ⟨y2, y3, y4, y5, y6, y7, y8, y9, y10, rfl, k2, r2⟩
      rw [List.length_map, lar, Int.toNat_natCast] at r2
      walk_at "sts"
      exact qq D H2 k2 r2
end
/-! ### _law_is_closed -/
theorem SP.ways {rs : List Row} {k : Nat} {r : Row} {st : Steps} {ps : List Nm} (h : SP rs k r st ps) : ∀ x ∈ st, x.2 = 1 ∨ x.2 = -1 := by
  induction h with
  | base => intro x hx; rw [List.mem_singleton.mp hx]; exact .inl rfl
  | @step st ps j o w a hj hn no ih =>
    intro x hx
    rcases List.mem_append.mp hx with hx | hx
    · exact ih x hx
    · rw [List.mem_singleton.mp hx]
      obtain ⟨_, _, _, rfl⟩ := nxt_some hn
      show wayR _ _ = 1 ∨ wayR _ _ = -1
      unfold wayR
      split
      · exact .inr rfl
      · exact .inl rfl
def StOk (rs : List Row) (st : Steps) : Prop := st.length ≤ 20 ∧ ∀ x ∈ st, x.1 < rs.length ∧ (x.2 = 1 ∨ x.2 = -1)
theorem round_ok {rs : List Row} (hok : ∀ r ∈ rs, RowOk r) (l10 : rs.length ≤ 10) {ρ : Steps} (h : ρ ∈ roundsL rs) : StOk rs ρ := by
  obtain ⟨k, hk, h⟩ := List.mem_flatMap.mp h
  unfold roundsK at h
  cases er : rs[k]? with
  | none => rw [er] at h; cases h
  | some r =>
    rw [er] at h
    obtain ⟨m, _, h⟩ := List.mem_flatMap.mp h
    obtain ⟨p, hp, h⟩ := List.mem_flatMap.mp h
    obtain ⟨j, hj, h⟩ := List.mem_filterMap.mp h
    obtain ⟨o, w, hn, eo, rfl⟩ := clo_some h
    have sp := (paths_sp hp).1
    have f := sp.facts er hok
    have l := sp.len er hok
    have wy := sp.ways
    refine ⟨by rw [List.length_append, List.length_singleton]; omega, fun x hx => ?_⟩
    rcases List.mem_append.mp hx with hx | hx
    · exact ⟨f.lt x hx, wy x hx⟩
    · rw [List.mem_singleton.mp hx]
      obtain ⟨_, _, _, rfl⟩ := nxt_some hn
      refine ⟨(mem_js.mp hj).2, ?_⟩
      show wayR _ _ = 1 ∨ wayR _ _ = -1
      unfold wayR
      split
      · exact .inr rfl
      · exact .inl rfl
section
variable {P : Program} {w : World} {K : PySem.W.Frag} {mg : Str → Option Value} {base : Heap}
def spClosed : Sp := fun vs H Q _ => ∃ (t D q : Addr) (M : List Addr) (rs : List Row) (ros : List Steps) (z : List Int), vs = [.ref t, .ref D, .ref q] ∧ RowsAt H t rs ∧ RoA M H D ros ∧ H q = some (.tup (z.map V.int)) ∧ z.length = rs.length ∧ rs.length ≤ 10 ∧ (∀ r ∈ rs, RowOk r) ∧ (∀ x ∈ z, -1 ≤ x ∧ x ≤ 1) ∧ (∀ ρ ∈ ros, StOk rs ρ) ∧ ros.length < sizeLine ∧
  ∀ H', Keep [] H H' → Q (.bl (decide (∀ ρ ∈ ros, sumS rs z ρ = 0))) H'
theorem ok_closed (T : Tx K mg) : FnOk P w K mg base CX0 1 T.f_w_is_closed T.fd_w_is_closed ["_law_rows_here", "_law_rounds_here", "_law_rises"] spClosed := by
  refine T.F_w_is_closed.ok sc_w_is_closed (fun vs H Q E h => ?_) (fun cdv A outer s H vs Q E hr h => ?_)
  · obtain ⟨t, D, q, M, rs, ros, z, rfl, _⟩ := h; rfl
  · obtain ⟨t, D, q, M, rs, ros, z, rfl, ⟨as, et, har⟩, hro, ez, lz, l10, hok, hz, hst, lros, qq⟩ := h
    have lar := har.len
    obtain ⟨_, us, eus, hus⟩ := hro
    have lus := hus.len
    refine ⟨_, (pss_cons (ps_for PassesOwn.never rfl (pi_list (pv 1)) (pg_name (i := 3) sc_w_is_closed.nd rfl (Or.inl rfl))
    (pss_one (ps_if (pt_cmpR op_ne (pe_callB (cr_sum rfl) (by rfl) T.m_sum (by decide +kernel) (pa_cons (pe_lc (own := [("_law_step", 4)]) (g := gName 4) (tt := tYes) rfl sc_w_is_closed.nd (pi_list (pv 3)) (blkOk_by (own := [("_law_step", 4)]) (N := ["_law_rows_here", "_law_rounds_here", "_law_rises", "_law_steps", "_law_step"]) (sc := defScope s_w_is_closed) (by decide +kernel)) (fun _ _ _ _ _ => pg_name (i := 4) sc_w_is_closed.nd rfl (Or.inl rfl)) (fun _ _ _ _ _ => pts_nil) (fun _ _ _ _ _ => (pe_op op_mulG (pe_op op_mulG (pe_ix (ix_tupK (K := K) rfl) (pv 4) pe_int (fun _ _ => rfl)) (pe_ix (ix_tupK (K := K) rfl) (pv 2) (pe_ix (ix_tupK (K := K) rfl) (pv 4) pe_int (fun _ _ => rfl)) (fun _ _ => rfl))) (pe_ix (ix_tupK (K := K) rfl) (pe_ix (ix_listK (K := K) rfl) (pv 0) (pe_ix (ix_tupK (K := K) rfl) (pv 4) pe_int (fun _ _ => rfl)) (fun _ _ => rfl)) pe_int (fun _ _ => rfl))))) pa_nil)) pe_int (nomark _))
    (pss_one (ps_ret pe_bl))
    pss_nil)))
    (pss_one (ps_ret pe_bl))), ?_⟩
    walk_at "start"
    walk_at "sts"
    refine forL_go (xs := us.map V.ref) (fun i σ' H' => ∃ y3 y4 : Option V, σ' = [some (.ref t), some (.ref D), some (.ref q), y3, y4] ∧ Keep [] H H' ∧ ∀ ρ ∈ ros.take i, sumS rs z ρ = 0) (sqL_of eus) ⟨_, _, by first | exact rfl | trivial, Keep.refl _ _, by simp⟩ (fun i σ' H' _ h => by obtain ⟨_, _, _, k, _⟩ := h; exact sqL_of (k _ _ (by simp) eus)) ?_ ?_
    · rintro i v σ' H2 hv ⟨y3, y4, rfl, k2, h0⟩
      obtain ⟨u, hu, rfl⟩ := getRef hv
      obtain ⟨ρ, hρ, _, ts, ets, hts⟩ := hus.get hu
      have ets2 := k2 _ _ (by simp) ets
      have lts := hts.len
      obtain ⟨l20, hx⟩ := hst ρ (List.mem_of_getElem? hρ)
      walk_at "sts"
      have eb (x : Nat × Int) (h : x ∈ ρ) : ∃ (b : Addr) (r : Row), as[x.1]? = some b ∧ rs[x.1]? = some r ∧ H b = some (rHO r) ∧ RowOk r := by
        have lx := (hx x h).1
        obtain ⟨b, hb⟩ : ∃ b, as[x.1]? = some b := ⟨_, List.getElem?_eq_getElem (by omega)⟩
        obtain ⟨r, hr, e⟩ := har.get hb
        exact ⟨b, r, hb, hr, e, hok r (List.mem_of_getElem? hr)⟩
      refine lcL_go (fun D2 i acc H' => acc = ((ρ.map (valS rs z)).take i).map V.int ∧ Keep [] H2 H' ∧ H2 D2 = none) (sqL_of ets2) (fun D2 nD2 => ⟨rfl, Keep.new nD2, nD2⟩) (fun D2 i acc H' _ h => sqL_of (h.2.1 _ _ (by simp) ets2)) ?_ ?_
      · rintro D2 j v acc H3 hv hD2 ⟨rfl, k3, nD2⟩
        obtain ⟨tp, htp, rfl⟩ := getRef hv
        obtain ⟨x, hxj, etp⟩ := hts.get htp
        have k23 := k2.trans k3
        have etp3 : H3 tp = some (.tup [.int (x.1 : Nat), .int x.2]) := k23 _ _ (by simp) etp
        obtain ⟨b, r, hb, hr, eb0, okr⟩ := eb x (List.mem_of_getElem? hxj)
        obtain ⟨lx, wx⟩ := hx x (List.mem_of_getElem? hxj)
        have eb3 : H3 b = some (.tup [.str (strL r.fst), .str (strL r.snd), .int r.cnt]) := k23 _ _ (by simp) eb0
        have ez3 := k23 _ _ (by simp) ez
        have et3 := k23 _ _ (by simp) et
        have hj := (List.getElem?_eq_some_iff.mp hxj).1
        obtain ⟨zi, hzi⟩ : ∃ zi, z[x.1]? = some zi := ⟨_, List.getElem?_eq_getElem (by omega)⟩
        have zb := hz zi (List.mem_of_getElem? hzi)
        have hvz : (z.map V.int)[x.1]? = some (.int zi) := by rw [List.getElem?_map, hzi]; rfl
        have hvb : (as.map V.ref)[x.1]? = some (.ref b) := by rw [List.getElem?_map, hb]; rfl
        have wb : -1 ≤ x.2 ∧ x.2 ≤ 1 := by omega
        simp only [L2.wipe, List.map_cons, List.map_nil, List.set_cons_zero, List.set_cons_succ]
        walk_at "sts"
        refine ⟨rfl, ?_⟩
        refine r_yes ?_
        rw [if_pos rfl]
        walk_at "sts"
        rw [show z.getD ((x.1 : Nat) : Int).toNat 0 = zi by rw [Int.toNat_natCast, List.getD_eq_getElem?_getD, hzi]; rfl]
        have pb : -1 ≤ x.2 * zi ∧ x.2 * zi ≤ 1 := by
          rcases wx with e | e
          · rw [e, Int.one_mul]; exact zb
          · rw [e, Int.neg_one_mul]; omega
        refine r_ixL (sqL_of et3) (atI_nat hvb) ?_
        walk_at "sts"
        refine lc_put hD2 (by rw [List.length_map, List.length_take, List.length_map]; exact lt_size (by omega)) ⟨?_, k3.mut nD2, nD2⟩
        rw [take_s (x := valS rs z x) (by rw [List.getElem?_map, hxj]; rfl), List.map_append]
        unfold valS
        rw [hr, List.getD_eq_getElem?_getD, hzi]; rfl
      · rintro D2 acc H3 nD2 hD2 ⟨rfl, k3, _⟩
        rw [List.length_map, lts, List.take_of_length_le (by rw [List.length_map]; exact Nat.le_refl _)] at hD2
        walk_at "sts"
        refine r_sum (sqL_of hD2) ?_
        walk_at "sts"
        rw [show (ρ.map (valS rs z)).sum = sumS rs z ρ from rfl]
        have k23 := k2.trans k3
        by_cases h1 : sumS rs z ρ = 0
        · rw [if_neg (by rw [decide_eq_true h1]; decide)]
          walk_at "sts"
          refine ⟨_, _, by first | exact rfl | trivial, k23, fun ρ' h => ?_⟩
          rw [take_s hρ] at h
          rcases List.mem_append.mp h with h | h
          · exact h0 ρ' h
          · rw [List.mem_singleton.mp h]; exact h1
        · rw [if_pos (by rw [decide_eq_false h1]; rfl)]
          walk_at "sts"
          have := qq H3 k23
          rwa [decide_eq_false fun h => h1 (h ρ (List.mem_of_getElem? hρ))] at this
    · rintro σ' H2 ⟨y3, y4, rfl, k2, h0⟩
      walk_at "sts"
      rw [List.length_map, lus, List.take_length] at h0
      have := qq H2 k2
      rwa [decide_eq_true h0] at this
end
/-! ### _law_due -/
section
variable {P : Program} {w : World} {K : PySem.W.Frag} {mg : Str → Option Value} {base : Heap}
theorem lc_pre {te0 : TE} {c : Int} (hte : ∀ σ H (Q : VK), (∀ o, H o = none → Q (.ref o) (upd H o (.tup [.int c]))) → te0 σ H Q) {t f : Addr} {y2 y3 y4 : Option V} {H : Hp} {Q : VK} {ps : List Addr} {zs : List (List Int)} (ef : H f = some (.lst (ps.map V.ref))) (ee : AllAt zHO H ps zs) (lz : ∀ z ∈ zs, z.length ≤ 10) (ls : zs.length ≤ 1024)
    (k : ∀ D qs H', Keep [] H H' → H D = none → H' D = some (.lst (qs.map V.ref)) → AllAt zHO H' qs (zs.map (c :: ·)) → Q (.ref D) H') :
    CompL K (gName 3) tYes (tOp (rCatA K) te0 (tVar 3)) [3] [some (.ref t), some (.ref f), y2, y3, y4] Q (.ref f) H := by
  have lps := ee.len
  refine lcL_go (fun D i acc H' => ∃ qs : List Addr, acc = qs.map V.ref ∧ AllAt zHO H' qs ((zs.map (c :: ·)).take i) ∧ Keep [] H H' ∧ H D = none) (sqL_of ef) (fun D nD => ⟨[], rfl, trivial, Keep.new nD, nD⟩) (fun D i acc H' _ h => by obtain ⟨_, _, _, k, _⟩ := h; exact sqL_of (k _ _ (by simp) ef)) ?_ ?_
  · rintro D i v acc H3 hv hD ⟨qs, rfl, eqs, k3, nD⟩
    obtain ⟨u, hu, rfl⟩ := getRef hv
    obtain ⟨z, hz, eu⟩ := ee.get hu
    have hi := (List.getElem?_eq_some_iff.mp hz).1
    have zl := lz z (List.mem_of_getElem? hz)
    have lqs := eqs.len
    rw [List.length_take, List.length_map] at lqs
    simp only [L2.wipe, List.map_cons, List.map_nil, List.set_cons_zero, List.set_cons_succ]
    walk_at "sts"
    refine ⟨rfl, ?_⟩
    refine r_yes ?_
    rw [if_pos rfl]
    walk_at "sts"
    refine hte _ _ _ fun o no => ?_
    have k4 : Keep [] H3 (upd H3 o (.tup [.int c])) := Keep.new no
    have eo : upd H3 o (.tup [.int c]) o = some (.tup ([c].map V.int)) := upd_same
    generalize upd H3 o (.tup [.int c]) = H4 at k4 eo ⊢
    walk_at "sts"
    refine r_catH eo (k4 _ _ (by simp) (k3 _ _ (by simp) eu)) (by rw [List.length_map, List.length_map]; exact le_size (by simp; omega)) fun p H5 k5 ep => ?_
    have k35 := k4.trans k5
    refine lc_put (k35 _ _ (by simp) hD) (by rw [List.length_map]; exact lt_size (by omega)) ⟨qs ++ [p], by rw [List.map_append]; rfl, ?_, (k3.trans k35).mut nD, nD⟩
    rw [take_s (x := c :: z) (by rw [List.getElem?_map, hz]; rfl)]
    have kx : ∀ {a : Addr} {x : List Int}, H5 a = some (zHO x) → upd H5 D (.lst (qs.map V.ref ++ [.ref p])) a = some (zHO x) := fun {a x} e => by
      rw [upd_ne (by rintro rfl; rw [k35 _ _ (by simp) hD] at e; cases e)]; exact e
    refine AllAt.app ((eqs.keep0 k35).mono fun a x _ _ e => kx e) ⟨kx ?_, trivial⟩
    rw [ep]; rfl
  · rintro D acc H3 nD hD ⟨qs, rfl, eqs, k3, _⟩
    rw [List.length_map, lps, List.take_of_length_le (by rw [List.length_map]; exact Nat.le_refl _)] at eqs
    exact k D qs H3 k3 nD hD eqs
theorem closed_iff {rs : List Row} {z : List Int} (hok : ∀ r ∈ rs, RowOk r) : decide (∀ ρ ∈ roundsL rs, sumS rs z ρ = 0) = okR rs z := by
  cases e : okR rs z with
  | true =>
    obtain ⟨L, G⟩ := okR_iff.mp e
    exact decide_eq_true fun ρ h => round_sound hok G h
  | false =>
    refine decide_eq_false fun h => ?_
    rw [okR_iff.mpr (round_complete hok h)] at e
    cases e
def spDue : Sp := fun vs H Q _ => ∃ (t : Addr) (rs : List Row), vs = [.ref t] ∧ RowsAt H t rs ∧ rs.length ≤ 10 ∧ (∀ r ∈ rs, RowOk r) ∧
  ∀ p ps H', Keep [] H H' → H p = none → H' p = some (.lst (ps.map V.ref)) → AllAt zHO H' ps (dueL rs) → Q (.ref p) H'
theorem ok_due (T : Tx K mg) (G_w_rounds : FnOk P w K mg base CX0 1 T.f_w_rounds T.fd_w_rounds ["_law_rows_here"] spRounds) (G_w_is_closed : FnOk P w K mg base CX0 1 T.f_w_is_closed T.fd_w_is_closed ["_law_rows_here", "_law_rounds_here", "_law_rises"] spClosed) : FnOk P w K mg base CX0 2 T.f_w_due T.fd_w_due ["_law_rows_here"] spDue := by
  refine T.F_w_due.ok sc_w_due (fun vs H Q E h => ?_) (fun cdv A outer s H vs Q E hr h => ?_)
  · obtain ⟨t, rs, rfl, _⟩ := h; rfl
  · obtain ⟨t, rs, rfl, ⟨as, et, har⟩, l10, hok, qq⟩ := h
    have lar := har.len
    refine ⟨_, (pss_cons (ps_set (i := 1) sc_w_due.nd rfl (Or.inl rfl) (pe_lst (pa_cons (pe_tup pa_nil) pa_nil)))
    (pss_cons (ps_for PassesOwn.never rfl (pi_range1 rfl T.m_range (pa_cons (pe_callB call_len_seq (by rfl) T.m_len PySem.boot_len (pa_cons (pv 0) pa_nil)) pa_nil)) (pg_name (i := 2) sc_w_due.nd rfl (Or.inl rfl))
    (pss_one (ps_if (pt_cmpR op_eq (pe_ix ix_tup (pe_ix ix_list (pv 0) (pe_op op_sub (pe_op op_sub (pe_callB call_len_seq (by rfl) T.m_len PySem.boot_len (pa_cons (pv 0) pa_nil)) pe_int) (pv 2)) (fun _ _ => rfl)) pe_int (fun _ _ => rfl)) pe_int (nomark _))
    (pss_one (ps_setLc (i := 1) (own := [("_law_rises", 3)]) (g := gName 3) (tt := tYes) rfl sc_w_due.nd rfl rfl (sw_true rfl rfl rfl (by decide +kernel)) (pi_list (pv 1)) (blkOk_by (own := [("_law_rises", 3)]) (N := ["_law_rows_here", "_law_every", "_law_k", "_law_rises", "_law_rounds_here"]) (sc := defScope s_w_due) (by decide +kernel)) (fun _ _ _ _ _ => pg_name (i := 3) sc_w_due.nd rfl (Or.inl rfl)) (fun _ _ _ _ _ => pts_nil) (fun _ _ _ _ _ => (pe_op (op_catAK (K := K) rfl) (pe_tup (pa_cons pe_int pa_nil)) (pv 3)))))
    (pss_one (ps_set (i := 1) sc_w_due.nd rfl (Or.inl rfl) (pe_op op_cat (pe_lc (own := [("_law_rises", 3)]) (g := gName 3) (tt := tYes) rfl sc_w_due.nd (pi_list (pv 1)) (blkOk_by (own := [("_law_rises", 3)]) (N := ["_law_rows_here", "_law_every", "_law_k", "_law_rises", "_law_rounds_here"]) (sc := defScope s_w_due) (by decide +kernel)) (fun _ _ _ _ _ => pg_name (i := 3) sc_w_due.nd rfl (Or.inl rfl)) (fun _ _ _ _ _ => pts_nil) (fun _ _ _ _ _ => (pe_op (op_catAK (K := K) rfl) (pe_tup (pa_cons (pe_un un_neg pe_int) pa_nil)) (pv 3)))) (pe_lc (own := [("_law_rises", 3)]) (g := gName 3) (tt := tYes) rfl sc_w_due.nd (pi_list (pv 1)) (blkOk_by (own := [("_law_rises", 3)]) (N := ["_law_rows_here", "_law_every", "_law_k", "_law_rises", "_law_rounds_here"]) (sc := defScope s_w_due) (by decide +kernel)) (fun _ _ _ _ _ => pg_name (i := 3) sc_w_due.nd rfl (Or.inl rfl)) (fun _ _ _ _ _ => pts_nil) (fun _ _ _ _ _ => (pe_op (op_catAK (K := K) rfl) (pe_tup (pa_cons pe_int pa_nil)) (pv 3))))))))))
    (pss_cons (ps_set (i := 4) sc_w_due.nd rfl (Or.inr rfl) (pe_call G_w_rounds (hr.mono (by decide)) rfl T.g_w_rounds T.F_w_rounds.kp T.b_w_rounds .nil pass0 (pa_cons (pv 0) pa_nil)))
    (pss_one (ps_ret (pe_lc (own := [("_law_rises", 3)]) (g := gName 3)  rfl sc_w_due.nd (pi_list (pv 1)) (blkOk_by (own := [("_law_rises", 3)]) (N := ["_law_rows_here", "_law_every", "_law_k", "_law_rises", "_law_rounds_here"]) (sc := defScope s_w_due) (by decide +kernel)) (fun _ _ _ _ _ => pg_name (i := 3) sc_w_due.nd rfl (Or.inl rfl)) (fun _ _ _ _ _ => pts_one (pt_val (pe_call G_w_is_closed (hr.mono (by decide)) rfl T.g_w_is_closed T.F_w_is_closed.kp T.b_w_is_closed .nil pass0 (pa_cons (pv 0) (pa_cons (pv 4) (pa_cons (pv 3) pa_nil)))))) (fun _ _ _ _ _ => (pv 3)))))))), ?_⟩
    walk_at "start"
    walk_at "sts"
    intro e0 n0
    walk_at "sts"
    intro f nf
    have k1 : Keep [] H (upd (upd H e0 (.tup [])) f (.lst [.ref e0])) := (Keep.new n0).trans (Keep.new nf)
    have ef : upd (upd H e0 (.tup [])) f (.lst [.ref e0]) f = some (.lst ([e0].map V.ref)) := upd_same
    have ee : AllAt zHO (upd (upd H e0 (.tup [])) f (.lst [.ref e0])) [e0] (everyL (rs.drop (rs.length - 0))) := by
      rw [Nat.sub_zero, List.drop_length]
      refine ⟨?_, trivial⟩
      rw [upd_ne (by rintro rfl; rw [upd_same] at nf; cases nf), upd_same]; rfl
    generalize upd (upd H e0 (.tup [])) f (.lst [.ref e0]) = H1 at k1 ef ee ⊢
    have et1 := k1 _ _ (by simp) et
    walk_at "sts"
    refine forR1_go (fun i σ' H' => ∃ (f : Addr) (ps : List Addr) (y2 y3 y4 : Option V), σ' = [some (.ref t), some (.ref f), y2, y3, y4] ∧ H' f = some (.lst (ps.map V.ref)) ∧ AllAt zHO H' ps (everyL (rs.drop (rs.length - i))) ∧ Keep [] H H') (by rw [List.length_map]; omega) ⟨f, [e0], _, _, _, by first | exact rfl | trivial, ef, ee, k1⟩ ?_ ?_
    · clear k1 ef ee et1
      rintro i σ' H2 hi ⟨f, ps, y2, y3, y4, rfl, ef, ee, k2⟩
      rw [List.length_map, lar] at hi
      have hi : i < rs.length := by omega
      obtain ⟨b, hb⟩ : ∃ b, as[rs.length - 1 - i]? = some b := ⟨_, List.getElem?_eq_getElem (by omega)⟩
      obtain ⟨r, hr2, eb⟩ := har.get hb
      have et2 := k2 _ _ (by simp) et
      have eb2 : H2 b = some (.tup [.str (strL r.fst), .str (strL r.snd), .int r.cnt]) := k2 _ _ (by simp) eb
      have hvb : (as.map V.ref)[rs.length - 1 - i]? = some (.ref b) := by rw [List.getElem?_map, hb]; rfl
      have ed : rs.drop (rs.length - (i + 1)) = r :: rs.drop (rs.length - i) := by
        rw [show rs.length - (i + 1) = rs.length - 1 - i by omega, List.drop_eq_getElem_cons (by omega : rs.length - 1 - i < rs.length), (List.getElem?_eq_some_iff.mp hr2).2, show rs.length - 1 - i + 1 = rs.length - i by omega]
      have lz : ∀ z ∈ everyL (rs.drop (rs.length - i)), z.length ≤ 10 := fun z h => by
        rw [(every_mem h).1, List.length_drop]; omega
      have ls : (everyL (rs.drop (rs.length - i))).length ≤ 1024 := Nat.le_trans every_size (Nat.pow_le_pow_right (n := 2) (by decide) (j := 10) (by rw [List.length_drop]; omega))
      walk_at "sts"
      rw [show ((as.map V.ref).length : Int) - 1 - (i : Int) = ((rs.length - 1 - i : Nat) : Int) by rw [List.length_map, lar]; omega]
      refine r_ixL (sqL_of et2) (atI_nat hvb) ?_
      walk_at "sts"
      by_cases h0 : r.cnt = 0
      · rw [if_pos (decide_eq_true h0)]
        walk_at "sts"
        refine lc_pre (c := 0) (fun σ H Q h => r_tup (r_cons (r_c (r_nil ⟨by simp; decide, h⟩)))) ef ee lz ls fun D qs H3 k3 nD eD eqs => ?_
        walk_at "sts"
        refine ⟨D, qs, _, _, _, by first | exact rfl | trivial, eD, ?_, k2.trans k3⟩
        rw [ed]
        show AllAt zHO H3 qs ((ch r).flatMap fun x => (everyL (rs.drop (rs.length - i))).map (x :: ·))
        unfold ch
        rw [if_pos h0, List.flatMap_cons, List.flatMap_nil, List.append_nil]
        exact eqs
      · rw [if_neg (by rw [decide_eq_false h0]; decide)]
        walk_at "sts"
        refine lc_pre (te0 := tTup (tCons (tUn (rU fun i => V.int (-i)) (tC (V.int 1))) tNil)) (c := -1) (fun σ H Q h => r_tup (r_cons (r_un (r_c (r_U (r_nil ⟨by simp; decide, h⟩)))))) ef ee lz ls fun D qs H3 k3 nD eD eqs => ?_
        have ef3 := k3 _ _ (by simp) ef
        have ee3 := ee.keep0 k3
        walk_at "sts"
        refine lc_pre (c := 1) (fun σ H Q h => r_tup (r_cons (r_c (r_nil ⟨by simp; decide, h⟩)))) ef3 ee3 lz ls fun D' qs' H4 k4 nD' eD' eqs' => ?_
        have l1 := eqs.len
        have l2 := eqs'.len
        rw [List.length_map] at l1 l2
        refine r_cat (k4 _ _ (by simp) eD) eD' (by rw [List.length_map, List.length_map]; exact le_size (by omega)) fun p np => ?_
        have k5 : Keep [] H4 (upd H4 p (.lst (qs.map V.ref ++ qs'.map V.ref))) := Keep.new np
        walk_at "sts"
        refine ⟨p, qs ++ qs', _, _, _, by first | exact rfl | trivial, by rw [upd_same, List.map_append], ?_, (k2.trans (k3.trans k4)).trans k5⟩
        rw [ed]
        show AllAt zHO _ (qs ++ qs') ((ch r).flatMap fun x => (everyL (rs.drop (rs.length - i))).map (x :: ·))
        unfold ch
        rw [if_neg h0, List.flatMap_cons, List.flatMap_cons, List.flatMap_nil, List.append_nil]
        exact AllAt.app (eqs.keep0 (k4.trans k5)) (eqs'.keep0 k5)
    · rintro σ' H2 ⟨f, ps, y2, y3, y4, rfl, ef, ee, k2⟩
      rw [List.length_map, lar, Int.toNat_natCast, Nat.sub_self, List.drop_zero] at ee
      have et2 := k2 _ _ (by simp) et
      walk_at "sts"
      refine ⟨t, rs, rfl, ⟨as, et2, har.keep0 k2⟩, l10, hok, fun D H3 k3 hro => ?_⟩
      have k23 := k2.trans k3
      have et3 := k23 _ _ (by simp) et
      have ef3 := k3 _ _ (by simp) ef
      have ee3 := ee.keep0 k3
      have lps := ee.len
      have les : (everyL rs).length ≤ 1024 := Nat.le_trans every_size (Nat.pow_le_pow_right (n := 2) (by decide) (j := 10) l10)
      have lro : (roundsL rs).length < sizeLine := by
        have h1 := flat_len (l := List.range rs.length) (f := roundsK rs) (n := 46080) fun x _ => roundsK_len hok l10
        rw [List.length_range] at h1
        have : sizeLine = 16777216 := by decide
        unfold roundsL
        omega
      walk_at "sts"
      refine lcL_go (fun D2 n acc H' => ∃ ws : List Addr, acc = ws.map V.ref ∧ AllAt zHO H' ws (((everyL rs).take n).filter (okR rs)) ∧ Keep [] H3 H' ∧ H3 D2 = none) (sqL_of ef3) (fun D2 nD2 => ⟨[], rfl, trivial, Keep.new nD2, nD2⟩)
        (fun D2 n acc H' _ h => by obtain ⟨_, _, _, k, _⟩ := h; exact sqL_of (k _ _ (by simp) ef3)) ?_ ?_
      · rintro D2 n x acc H6 hx hD2 ⟨ws, rfl, ews, k6, nD2⟩
        obtain ⟨u, hu, rfl⟩ := getRef hx
        obtain ⟨z, hz, eu⟩ := ee3.get hu
        have hz2 := (List.getElem?_eq_some_iff.mp hz).1
        have zm := every_mem (List.mem_of_getElem? hz)
        have lws := ews.len
        have lle : (((everyL rs).take n).filter (okR rs)).length ≤ 1024 := by
          refine Nat.le_trans (List.length_filter_le _ _) ?_
          rw [List.length_take]; omega
        have k36 := k23.trans k6
        simp only [L2.wipe, List.map_cons, List.map_nil, List.set_cons_zero, List.set_cons_succ]
        walk_at "sts"
        refine ⟨rfl, ?_⟩
        walk_at "sts"
        refine ⟨t, D, u, [D], rs, roundsL rs, z, rfl, ⟨as, k36 _ _ (by simp) et, har.keep0 k36⟩, hro.all k6, k6 _ _ (by simp) eu, zm.1, l10, hok, zm.2, fun ρ h => round_ok hok l10 h, lro, fun H8 k8 => ?_⟩
        rw [closed_iff hok]
        have hD8 := k8 _ _ (by simp) hD2
        cases e : okR rs z with
        | false =>
          walk_at "sts"
          refine ⟨_, hD8, ws, rfl, ?_, k6.trans k8, nD2⟩
          rw [take_s hz, List.filter_append, List.filter_cons, if_neg (by rw [e]; decide), List.filter_nil, List.append_nil]
          exact ews.keep0 k8
        | true =>
          walk_at "sts"
          refine lc_put hD8 (by rw [List.length_map]; exact lt_size (by omega)) ⟨ws ++ [u], by rw [List.map_append]; rfl, ?_, (k6.trans k8).mut nD2, nD2⟩
          rw [take_s hz, List.filter_append, List.filter_cons, if_pos e, List.filter_nil]
          have kx : ∀ {a : Addr} {x : List Int}, H8 a = some (zHO x) → upd H8 D2 (.lst (ws.map V.ref ++ [.ref u])) a = some (zHO x) := fun {a x} e => by
            rw [upd_ne (by rintro rfl; rw [hD8] at e; cases e)]; exact e
          exact AllAt.app ((ews.keep0 k8).mono fun a x _ _ e => kx e) ⟨kx (k8 _ _ (by simp) (k6 _ _ (by simp) eu)), trivial⟩
      · rintro D2 acc H6 nD2 hD2 ⟨ws, rfl, ews, k6, _⟩
        rw [List.length_map, lps, List.take_length] at ews
        exact qq D2 ws H6 (k23.trans k6) (k23.free (by simp) nD2) hD2 ews
end
/-! ### _law_paths -/
structure WPs (rs : List Row) (a : Nm) (ss : List (Nm × Steps)) : Prop where
  nodup : (keysN ss).Nodup
  start : a ∈ keysN ss
  conn : ∀ s ∈ keysN ss, Conn rs a s
  len : ∀ p ∈ ss, p.2.length + 1 ≤ ss.length
  ok : ∀ p ∈ ss, ∀ x ∈ p.2, x.1 < rs.length ∧ (x.2 = 1 ∨ x.2 = -1)
  tele : ∀ p ∈ ss, ∀ z L, Good rs z L → sumS rs z p.2 = L p.1 - L a
theorem WPs.one {rs : List Row} {a : Nm} : WPs rs a [(a, [])] where
  nodup := by simp
  start := by simp
  conn := fun s h => by obtain rfl : s = a := by simpa using h
                        exact .refl
  len := fun p h => by rw [List.mem_singleton.mp h]; simp
  ok := fun p h x hx => by rw [List.mem_singleton.mp h] at hx; simp at hx
  tele := fun p h z L _ => by rw [List.mem_singleton.mp h]; show (0 : Int) = L a - L a; omega
theorem WPs.few {rs : List Row} {a : Nm} {ss : List (Nm × Steps)} (h : WPs rs a ss) : ss.length ≤ 2 * rs.length + 1 := by
  have : (keysN ss).length ≤ (a :: endsOf rs).length := nodup_le h.nodup fun s hs => by
    have c := h.conn s hs
    cases c with
    | refl => simp
    | step _ n => exact List.mem_cons_of_mem _ (nbr_end n)
  rw [List.length_map, List.length_cons, ends_len] at this
  exact this
theorem WPs.add {rs : List Row} {a s u : Nm} {ss : List (Nm × Steps)} {st : Steps} {k : Nat} {r : Row} (h : WPs rs a ss) (hok : ∀ r ∈ rs, RowOk r) (hs : (s, st) ∈ ss) (hk : rs[k]? = some r) (ha : acrossL r s = some u) (hu : u ∉ keysN ss) : WPs rs a (ss ++ [(u, st ++ [(k, wayR r s)])]) where
  nodup := by
    show ((ss ++ [(u, st ++ [(k, wayR r s)])]).map (·.1)).Nodup
    rw [List.map_append]
    exact List.nodup_append.mpr ⟨h.nodup, by simp, fun x hx y hy e => by
      obtain rfl : y = u := by simpa using hy
      exact hu (by rw [← e]; exact hx)⟩
  start := by
    show a ∈ (ss ++ [(u, st ++ [(k, wayR r s)])]).map (·.1)
    rw [List.map_append]
    exact List.mem_append_left _ h.start
  conn := fun x hx => by
    have hx : x ∈ (ss ++ [(u, st ++ [(k, wayR r s)])]).map (·.1) := hx
    rw [List.map_append, List.mem_append] at hx
    rcases hx with hx | hx
    · exact h.conn x hx
    · obtain rfl : x = u := by simpa using hx
      exact (h.conn s (key_of' hs)).step ⟨r, List.mem_of_getElem? hk, ha⟩
  len := fun p hp => by
    rw [List.length_append, List.length_singleton]
    rcases List.mem_append.mp hp with hp | hp
    · have := h.len p hp; omega
    · rw [List.mem_singleton.mp hp]
      have := h.len _ hs
      simp only [List.length_append, List.length_singleton] at *
      omega
  ok := fun p hp x hx => by
    rcases List.mem_append.mp hp with hp | hp
    · exact h.ok p hp x hx
    · rw [List.mem_singleton.mp hp] at hx
      rcases List.mem_append.mp hx with hx | hx
      · exact h.ok _ hs x hx
      · rw [List.mem_singleton.mp hx]
        refine ⟨(List.getElem?_eq_some_iff.mp hk).1, ?_⟩
        show wayR r s = 1 ∨ wayR r s = -1
        unfold wayR
        split
        · exact .inr rfl
        · exact .inl rfl
  tele := fun p hp z L G => by
    rcases List.mem_append.mp hp with hp | hp
    · exact h.tele p hp z L G
    · rw [List.mem_singleton.mp hp]
      show sumS rs z (st ++ [(k, wayR r s)]) = L u - L a
      have G0 : GoodFrom rs z 0 L := fun i r' _ hr => G i r' hr
      have hn : nxt rs [s] k = some (u, wayR r s) := nxt_mk (ps := [s]) hk ha
      rw [sumS_snoc, h.tele _ hs z L G, val_nxt hok G0 (Nat.zero_le _) hn]
      show L s - L a + (L u - L s) = _
      omega
/-- every row has both ends among the keys, or none -/
def Clsd (rs : List Row) (ss : List (Nm × Steps)) : Prop := ∀ r ∈ rs, (r.fst ∈ keysN ss ↔ r.snd ∈ keysN ss)
def opn (rs : List Row) (ss : List (Nm × Steps)) : Nat := rs.countP fun r => !(decide (r.fst ∈ keysN ss) && decide (r.snd ∈ keysN ss))
theorem countP_lt {α : Type} {p q : α → Bool} : ∀ {l : List α} {x : α}, (∀ y ∈ l, p y = true → q y = true) → x ∈ l → q x = true → p x = false → l.countP p + 1 ≤ l.countP q
  | [], x, _, h, _, _ => by simp at h
  | a :: l, x, hpq, hx, h1, h2 => by
    rw [List.countP_cons, List.countP_cons]
    have hm := List.countP_mono_left (l := l) (p := p) (q := q) fun y hy => hpq y (List.mem_cons_of_mem _ hy)
    rcases List.mem_cons.mp hx with rfl | hx
    · rw [h1, h2]; simp; omega
    · have ih := countP_lt (l := l) (fun y hy => hpq y (List.mem_cons_of_mem _ hy)) hx h1 h2
      have := hpq a (by simp)
      cases e : p a with
      | false => cases e2 : q a <;> simp <;> omega
      | true => rw [this e]; simp; omega
theorem opn_add {rs : List Row} {s u : Nm} {ss : List (Nm × Steps)} {st : Steps} {k : Nat} {r : Row} (hk : rs[k]? = some r) (hs : s ∈ keysN ss) (ha : acrossL r s = some u) (hu : u ∉ keysN ss) : opn rs (ss ++ [(u, st)]) + 1 ≤ opn rs ss := by
  have mem : ∀ {x : Nm}, x ∈ keysN (ss ++ [(u, st)]) ↔ x ∈ keysN ss ∨ x = u := fun {x} => by
    show x ∈ (ss ++ [(u, st)]).map (·.1) ↔ _
    rw [List.map_append, List.mem_append]; simp
  refine countP_lt (x := r) (fun y _ h => ?_) (List.mem_of_getElem? hk) ?_ ?_
  · rw [Bool.not_eq_true', Bool.and_eq_false_iff, decide_eq_false_iff_not, decide_eq_false_iff_not] at h ⊢
    rcases h with h | h
    · exact .inl fun z => h (mem.mpr (.inl z))
    · exact .inr fun z => h (mem.mpr (.inl z))
  · rw [Bool.not_eq_true', Bool.and_eq_false_iff, decide_eq_false_iff_not, decide_eq_false_iff_not]
    rcases across_end ha with ⟨_, rfl⟩ | ⟨_, rfl⟩
    · exact .inr hu
    · exact .inl hu
  · rw [Bool.not_eq_false', Bool.and_eq_true, decide_eq_true_eq, decide_eq_true_eq]
    rcases across_end ha with ⟨rfl, rfl⟩ | ⟨rfl, rfl⟩
    · exact ⟨mem.mpr (.inl hs), mem.mpr (.inr rfl)⟩
    · exact ⟨mem.mpr (.inr rfl), mem.mpr (.inl hs)⟩
theorem opn_zero {rs : List Row} {ss : List (Nm × Steps)} (h : opn rs ss = 0) : Clsd rs ss := fun r hr => by
  have := List.countP_eq_zero.mp h r hr
  rw [Bool.not_eq_true, Bool.not_eq_false', Bool.and_eq_true, decide_eq_true_eq, decide_eq_true_eq] at this
  exact ⟨fun _ => this.2, fun _ => this.1⟩
theorem Clsd.all {rs : List Row} {ss : List (Nm × Steps)} {a b : Nm} (h : Clsd rs ss) (ha : a ∈ keysN ss) (hc : Conn rs a b) : b ∈ keysN ss :=
  hc.closed (S := fun s => s ∈ keysN ss) ha fun s u hs ⟨r, hr, e⟩ => by
    rcases across_end e with ⟨rfl, rfl⟩ | ⟨rfl, rfl⟩
    · exact (h r hr).mp hs
    · exact (h r hr).mpr hs
def PAt (H : Hp) (d : Addr) (ss : List (Nm × Steps)) : Prop := ∃ es : List (Nm × Addr), H d = some (.dK (dN V.ref es)) ∧ es.map Prod.fst = ss.map Prod.fst ∧ AllR (StA H) (es.map Prod.snd) (ss.map Prod.snd)
theorem StA.all {H H' : Hp} {a : Addr} {st : Steps} (h : StA H a st) (k : Keep [] H H') : StA H' a st := by
  obtain ⟨ts, e, ea⟩ := h
  exact ⟨ts, k _ _ (by simp) e, ea.keep0 k⟩
theorem StA.dk {H : Hp} {a d : Addr} {st : Steps} {kvs : List (Key × V)} {o : HO} (h : StA H a st) (ed : H d = some (.dK kvs)) : StA (upd H d o) a st := by
  obtain ⟨ts, e, ea⟩ := h
  exact ⟨ts, by rw [upd_ne (by rintro rfl; rw [e] at ed; cases ed)]; exact e, ea.mono fun b x _ _ e => by rw [upd_ne (by rintro rfl; rw [e] at ed; cases ed)]; exact e⟩
theorem PAt.all {H H' : Hp} {d : Addr} {ss : List (Nm × Steps)} (h : PAt H d ss) (k : Keep [] H H') : PAt H' d ss := by
  obtain ⟨es, e, ef, ea⟩ := h
  exact ⟨es, k _ _ (by simp) e, ef, ea.mono fun _ _ _ _ s => s.all k⟩
theorem PAt.get {H : Hp} {d : Addr} {es : List (Nm × Addr)} {ss : List (Nm × Steps)} (ef : es.map Prod.fst = ss.map Prod.fst) (ea : AllR (StA H) (es.map Prod.snd) (ss.map Prod.snd)) (nd : (keysN ss).Nodup) {s : Nm} (hs : s ∈ keysN ss) : ∃ u st, getN es s = some u ∧ (s, st) ∈ ss ∧ StA H u st := by
  obtain ⟨p, hp, rfl⟩ := List.mem_map.mp hs
  obtain ⟨n, hn⟩ := List.mem_iff_getElem?.mp hp
  have lt := (List.getElem?_eq_some_iff.mp hn).1
  have len : es.length = ss.length := by
    have := congrArg List.length ef
    rwa [List.length_map, List.length_map] at this
  have hq : es[n]? = some (es[n]'(by omega)) := List.getElem?_eq_getElem _
  generalize es[n]'(by omega) = q at hq
  have e1 : (es.map Prod.fst)[n]? = (ss.map Prod.fst)[n]? := by rw [ef]
  rw [List.getElem?_map, List.getElem?_map, hq, hn] at e1
  have e2 : q.1 = p.1 := Option.some.inj e1
  obtain ⟨l, hl, eu⟩ := ea.get (i := n) (a := q.2) (by rw [List.getElem?_map, hq]; rfl)
  rw [List.getElem?_map, hn] at hl
  have e3 : p.2 = l := Option.some.inj hl
  refine ⟨q.2, p.2, getN_of (by show (keysN es).Nodup; unfold keysN; rw [ef]; exact nd) ?_, hp, by rw [e3]; exact eu⟩
  rw [← e2]; exact List.mem_of_getElem? hq
theorem PAt.put {H : Hp} {d p : Addr} {es : List (Nm × Addr)} {ss : List (Nm × Steps)} {u : Nm} {st : Steps} (e : H d = some (.dK (dN V.ref es))) (ef : es.map Prod.fst = ss.map Prod.fst) (ea : AllR (StA H) (es.map Prod.snd) (ss.map Prod.snd)) (hp : StA H p st) : PAt (upd H d (.dK (dN V.ref (es ++ [(u, p)])))) d (ss ++ [(u, st)]) := by
  refine ⟨es ++ [(u, p)], upd_same, by rw [List.map_append, List.map_append, ef]; rfl, ?_⟩
  rw [List.map_append, List.map_append]
  exact AllR.app (ea.mono fun _ _ _ _ s => s.dk e) ⟨hp.dk e, trivial⟩
theorem PAt.inK {es : List (Nm × Addr)} {ss : List (Nm × Steps)} {s : Nm} (ef : es.map Prod.fst = ss.map Prod.fst) : (valV (dN V.ref es) (Sum.inr (strL s))).isSome = decide (s ∈ keysN ss) := by
  rw [show (valV (dN V.ref es) (Sum.inr (strL s))).isSome = decide (s ∈ es.map (·.1)) from dN_in, show es.map (·.1) = keysN ss from ef]
/-- within a turn -/
def Turn (rs : List Row) (n m : Nat) (ss0 ss : List (Nm × Steps)) (k : Nat) : Prop := (ss = ss0 ∧ ∀ (j : Nat) r, j < k → rs[j]? = some r → (r.fst ∈ keysN ss ↔ r.snd ∈ keysN ss)) ∨ opn rs ss + (m + 1) ≤ n
theorem Turn.add {rs : List Row} {n m k : Nat} {ss0 ss : List (Nm × Steps)} {s u : Nm} {st : Steps} {r : Row} (h : Turn rs n m ss0 ss k) (h0 : Clsd rs ss0 ∨ opn rs ss0 + m ≤ n) (hk : rs[k]? = some r) (hs : s ∈ keysN ss) (ha : acrossL r s = some u) (hu : u ∉ keysN ss) : Turn rs n m ss0 (ss ++ [(u, st)]) (k + 1) := by
  have o := opn_add (st := st) hk hs ha hu
  rcases h with ⟨rfl, _⟩ | h
  · rcases h0 with c | h0
    · have := c r (List.mem_of_getElem? hk)
      rcases across_end ha with ⟨rfl, rfl⟩ | ⟨rfl, rfl⟩
      · exact (hu (this.mp hs)).elim
      · exact (hu (this.mpr hs)).elim
    · exact .inr (by omega)
  · exact .inr (by omega)
theorem Turn.next {rs : List Row} {n m k : Nat} {ss0 ss : List (Nm × Steps)} {r : Row} (h : Turn rs n m ss0 ss k) (hk : rs[k]? = some r) (hs : r.fst ∈ keysN ss ↔ r.snd ∈ keysN ss) : Turn rs n m ss0 ss (k + 1) := by
  rcases h with ⟨e, h⟩ | h
  · refine .inl ⟨e, fun j r' hj hr' => ?_⟩
    rcases Nat.lt_succ_iff_lt_or_eq.mp hj with hj | rfl
    · exact h j r' hj hr'
    · rw [hk] at hr'; cases hr'; exact hs
  · exact .inr h
theorem Turn.end {rs : List Row} {n m : Nat} {ss0 ss : List (Nm × Steps)} (h : Turn rs n m ss0 ss rs.length) : Clsd rs ss ∨ opn rs ss + (m + 1) ≤ n := by
  rcases h with ⟨_, h⟩ | h
  · refine .inl fun r hr => ?_
    obtain ⟨j, hj⟩ := List.mem_iff_getElem?.mp hr
    exact h j r (List.getElem?_eq_some_iff.mp hj).1 hj
  · exact .inr h
section
variable {P : Program} {w : World} {K : PySem.W.Frag} {mg : Str → Option Value} {base : Heap}
def spPathsL : Sp := fun vs H Q _ => ∃ (t : Addr) (rs : List Row) (a : Nm), vs = [.ref t, .str (strL a)] ∧ RowsAt H t rs ∧ rs.length ≤ 10 ∧ (∀ r ∈ rs, RowOk r) ∧ ∀ p ss H', Keep [] H H' → PAt H' p ss → WPs rs a ss → Clsd rs ss → Q (.ref p) H'
theorem ok_paths (T : Tx K mg) : FnOk P w K mg base CX0 1 T.f_w_paths T.fd_w_paths ["_law_rows_here", "_law_first"] spPathsL := by
  refine T.F_w_paths.ok sc_w_paths (fun vs H Q E h => ?_) (fun cdv A outer s H vs Q E hr h => ?_)
  · obtain ⟨t, rs, a, rfl, _⟩ := h; rfl
  · obtain ⟨t, rs, a, rfl, ⟨as, et, har⟩, l10, hok, qq⟩ := h
    have lar := har.len
    refine ⟨_, (pss_cons (ps_set (i := 2) sc_w_paths.nd rfl (Or.inl rfl) (Dk.pe_disp1K (Nat.lt_of_succ_lt (Dt.inD_of hr)) (pv 1) (pe_lst pa_nil)))
    (pss_cons (ps_for PassesOwn.never rfl (pi_range1 rfl T.m_range (pa_cons (pe_callB call_len_seq (by rfl) T.m_len PySem.boot_len (pa_cons (pv 0) pa_nil)) pa_nil)) (pg_name (i := 3) sc_w_paths.nd rfl (Or.inl rfl))
    (pss_one (ps_for PassesOwn.never rfl (pi_range1 rfl T.m_range (pa_cons (pe_callB call_len_seq (by rfl) T.m_len PySem.boot_len (pa_cons (pv 0) pa_nil)) pa_nil)) (pg_name (i := 4) sc_w_paths.nd rfl (Or.inl rfl))
    (pss_cons (ps_set (i := 5) sc_w_paths.nd rfl (Or.inl rfl) (pe_ix ix_tup (pe_ix ix_list (pv 0) (pv 4) (fun _ _ => rfl)) pe_int (fun _ _ => rfl)))
    (pss_cons (ps_set (i := 6) sc_w_paths.nd rfl (Or.inl rfl) (pe_ix ix_tup (pe_ix ix_list (pv 0) (pv 4) (fun _ _ => rfl)) pe_int (fun _ _ => rfl)))
    (pss_one (ps_if (PW.pt (pw_and (pt_cmp (pc_din (hu_of hr) (pv 5) (pv 2))) (pw_and1 (pt_cmp (pc_dnotin (hu_of hr) (pv 6) (pv 2))))))
    (pss_one (ps_dput (hu_of hr) (pv 2) (pv 6) (pe_op op_cat (pe_dget (hu_of hr) (pv 2) (pv 5) (fun _ _ => rfl)) (pe_lst (pa_cons (pe_tup (pa_cons (pv 4) (pa_cons pe_int pa_nil))) pa_nil))) rfl))
    (pss_one (ps_if (PW.pt (pw_and (pt_cmp (pc_din (hu_of hr) (pv 6) (pv 2))) (pw_and1 (pt_cmp (pc_dnotin (hu_of hr) (pv 5) (pv 2))))))
    (pss_one (ps_dput (hu_of hr) (pv 2) (pv 5) (pe_op op_cat (pe_dget (hu_of hr) (pv 2) (pv 6) (fun _ _ => rfl)) (pe_lst (pa_cons (pe_tup (pa_cons (pv 4) (pa_cons (pe_un un_neg pe_int) pa_nil))) pa_nil))) rfl))
    pss_nil)))))))))
    (pss_one (ps_ret (pv 2))))), ?_⟩
    walk_at "start"
    walk_at "sts"
    refine r_disp fun d nd0 => ?_
    walk_at "sts"
    intro l nl
    have nld : l ≠ d := by rintro rfl; rw [upd_same] at nl; cases nl
    refine ⟨nK a, rfl, by rw [upd_ne (Ne.symm nld), upd_same], ?_⟩
    have k1 : Keep [] H (upd (upd (upd H d (.dK [])) l (.lst [])) d (.dK [(nK a, .ref l)])) := ((Keep.new nd0).trans (Keep.new nl)).mut nd0
    have p1 : PAt (upd (upd (upd H d (.dK [])) l (.lst [])) d (.dK [(nK a, .ref l)])) d [(a, [])] :=
      ⟨[(a, l)], upd_same, rfl, ⟨[], by rw [upd_ne nld, upd_same]; rfl, trivial⟩, trivial⟩
    generalize upd (upd (upd H d (.dK [])) l (.lst [])) d (.dK [(nK a, .ref l)]) = H1 at k1 p1 ⊢
    have et1 := k1 _ _ (by simp) et
    walk_at "sts"
    refine forR1_go (fun m σ' H' => ∃ (ss : List (Nm × Steps)) (y3 y4 y5 y6 : Option V), σ' = [some (.ref t), some (.str (strL a)), some (.ref d), y3, y4, y5, y6] ∧ Keep [] H H' ∧ PAt H' d ss ∧ WPs rs a ss ∧ (Clsd rs ss ∨ opn rs ss + m ≤ rs.length)) (by rw [List.length_map]; omega)
      ⟨[(a, [])], _, _, _, _, by first | exact rfl | trivial, k1, p1, WPs.one, .inr List.countP_le_length⟩ ?_ ?_
    · clear k1 p1 et1
      rintro m σ' H2 hm ⟨ss0, y3, y4, y5, y6, rfl, k2, p2, w2, c2⟩
      have et2 := k2 _ _ (by simp) et
      walk_at "sts"
      refine forR1_go (fun k σ' H' => ∃ (ss : List (Nm × Steps)) (y4 y5 y6 : Option V), σ' = [some (.ref t), some (.str (strL a)), some (.ref d), some (.int (m : Nat)), y4, y5, y6] ∧ Keep [] H H' ∧ PAt H' d ss ∧ WPs rs a ss ∧ Turn rs rs.length m ss0 ss k) (by rw [List.length_map]; omega)
        ⟨ss0, _, _, _, by first | exact rfl | trivial, k2, p2, w2, .inl ⟨rfl, fun j r hj => absurd hj (Nat.not_lt_zero _)⟩⟩ ?_ ?_
      · clear k2 p2 w2 et2
        rintro k σ' H3 hk ⟨ss, y4, y5, y6, rfl, k3, p3, w3, tn⟩
        rw [List.length_map, lar] at hk
        have hk : k < rs.length := by omega
        obtain ⟨b, hb⟩ : ∃ b, as[k]? = some b := ⟨_, List.getElem?_eq_getElem (by omega)⟩
        obtain ⟨r, hr2, eb⟩ := har.get hb
        have okr := hok r (List.mem_of_getElem? hr2)
        have et3 := k3 _ _ (by simp) et
        have eb3 : H3 b = some (.tup [.str (strL r.fst), .str (strL r.snd), .int r.cnt]) := k3 _ _ (by simp) eb
        have hvb : (as.map V.ref)[k]? = some (.ref b) := by rw [List.getElem?_map, hb]; rfl
        obtain ⟨es, ed, ef, ea⟩ := id p3
        have few := w3.few
        walk_at "sts"
        refine r_ixL (sqL_of et3) (atI_nat hvb) ?_
        walk_at "sts"
        refine r_ixL (sqL_of et3) (atI_nat hvb) ?_
        walk_at "sts"
        refine r_dinS ed ?_
        rw [PAt.inK ef]
        have a1 : acrossL r r.fst = some r.snd := by unfold acrossL; rw [if_pos rfl]
        have a2 : acrossL r r.snd = some r.fst := across_sym okr.ne a1
        by_cases hl : r.fst ∈ keysN ss
        · refine ⟨true, by rw [decide_eq_true hl]; rfl, ?_⟩
          rw [if_pos rfl]
          walk_at "sts"
          refine r_dinS ed ?_
          rw [PAt.inK ef]
          by_cases hh : r.snd ∈ keysN ss
          · refine ⟨false, by rw [decide_eq_true hh]; rfl, ?_⟩
            rw [if_neg (by decide)]
            walk_at "sts"
            refine r_dinS ed ?_
            rw [PAt.inK ef]
            refine ⟨true, by rw [decide_eq_true hh]; rfl, ?_⟩
            rw [if_pos rfl]
            walk_at "sts"
            refine r_dinS ed ?_
            rw [PAt.inK ef]
            refine ⟨false, by rw [decide_eq_true hl]; rfl, ?_⟩
            rw [if_neg (by decide)]
            walk_at "sts"
            exact ⟨ss, _, _, _, by first | exact rfl | trivial, k3, p3, w3, tn.next hr2 ⟨fun _ => hh, fun _ => hl⟩⟩
          · refine ⟨true, by rw [decide_eq_false hh]; rfl, ?_⟩
            rw [if_pos rfl]
            walk_at "sts"
            obtain ⟨ua, st, gu, hst, ts, ets, hts⟩ := PAt.get (d := d) ef ea w3.nodup hl
            have lts := hts.len
            have lst : st.length + 1 ≤ ss.length := w3.len _ hst
            refine r_dgetS ed (show valV (dN V.ref es) (nK r.fst) = some (V.ref ua) by rw [dN_val, gu]; rfl) ?_
            walk_at "sts"
            intro tp ntp
            walk_at "sts"
            intro l1 nl1
            have k10 : Keep [] H3 (upd (upd H3 tp (.tup [.int (k : Nat), .int (1)])) l1 (.lst [.ref tp])) := (Keep.new ntp).trans (Keep.new nl1)
            have etp : upd (upd H3 tp (.tup [.int (k : Nat), .int (1)])) l1 (.lst [.ref tp]) tp = some (pHO (k, 1)) := by
              rw [upd_ne (by rintro rfl; rw [upd_same] at nl1; cases nl1), upd_same]
            have el1 : upd (upd H3 tp (.tup [.int (k : Nat), .int (1)])) l1 (.lst [.ref tp]) l1 = some (.lst [.ref tp]) := upd_same
            generalize upd (upd H3 tp (.tup [.int (k : Nat), .int (1)])) l1 (.lst [.ref tp]) = H10 at k10 etp el1 ⊢
            refine r_cat (k10 _ _ (by simp) ets) el1 (by rw [List.length_map, lts]; exact le_size (by simp; omega)) fun p2 np2 => ?_
            have k11 : Keep [] H10 (upd H10 p2 (.lst (ts.map V.ref ++ [.ref tp]))) := Keep.new np2
            have k311 := k10.trans k11
            have es2 : StA (upd H10 p2 (.lst (ts.map V.ref ++ [.ref tp]))) p2 (st ++ [(k, 1)]) :=
              ⟨ts ++ [tp], by rw [upd_same, List.map_append]; rfl, AllAt.app (hts.keep0 k311) ⟨k11 _ _ (by simp) etp, trivial⟩⟩
            generalize upd H10 p2 (.lst (ts.map V.ref ++ [.ref tp])) = H11 at k311 es2 ⊢
            have ed11 := k311 _ _ (by simp) ed
            have ea11 : AllR (StA H11) (es.map Prod.snd) (ss.map Prod.snd) := ea.mono fun _ _ _ _ h => h.all k311
            have les : es.length ≤ 1000 := by
              have := congrArg List.length ef
              rw [List.length_map, List.length_map] at this
              omega
            walk_at "sts"
            refine r_dputS ed11 (by rw [dN_len]; exact lt_size (by omega)) ?_
            rw [show putK (dN V.ref es) (Sum.inr (strL (r.snd))) (V.ref p2) = dN V.ref (es ++ [(r.snd, p2)]) from dN_put (f := V.ref) (v := p2) (by rw [show es.map (·.1) = keysN ss from ef]; exact hh)]
            have wy : wayR r (r.fst) = 1 := by unfold wayR; rw [if_neg okr.ne]
            have ad := w3.add hok hst hr2 a1 hh
            rw [wy] at ad
            exact ⟨ss ++ [(r.snd, st ++ [(k, 1)])], _, _, _, by first | exact rfl | trivial, (k3.trans k311).mut nd0, PAt.put ed11 ef ea11 es2, ad, tn.add c2 hr2 hl a1 hh⟩
        · refine ⟨false, by rw [decide_eq_false hl]; rfl, ?_⟩
          rw [if_neg (by decide)]
          walk_at "sts"
          refine r_dinS ed ?_
          rw [PAt.inK ef]
          by_cases hh : r.snd ∈ keysN ss
          · refine ⟨true, by rw [decide_eq_true hh]; rfl, ?_⟩
            rw [if_pos rfl]
            walk_at "sts"
            refine r_dinS ed ?_
            rw [PAt.inK ef]
            refine ⟨true, by rw [decide_eq_false hl]; rfl, ?_⟩
            rw [if_pos rfl]
            walk_at "sts"
            obtain ⟨ua, st, gu, hst, ts, ets, hts⟩ := PAt.get (d := d) ef ea w3.nodup hh
            have lts := hts.len
            have lst : st.length + 1 ≤ ss.length := w3.len _ hst
            refine r_dgetS ed (show valV (dN V.ref es) (nK r.snd) = some (V.ref ua) by rw [dN_val, gu]; rfl) ?_
            walk_at "sts"
            intro tp ntp
            walk_at "sts"
            intro l1 nl1
            have k10 : Keep [] H3 (upd (upd H3 tp (.tup [.int (k : Nat), .int (-1)])) l1 (.lst [.ref tp])) := (Keep.new ntp).trans (Keep.new nl1)
            have etp : upd (upd H3 tp (.tup [.int (k : Nat), .int (-1)])) l1 (.lst [.ref tp]) tp = some (pHO (k, -1)) := by
              rw [upd_ne (by rintro rfl; rw [upd_same] at nl1; cases nl1), upd_same]
            have el1 : upd (upd H3 tp (.tup [.int (k : Nat), .int (-1)])) l1 (.lst [.ref tp]) l1 = some (.lst [.ref tp]) := upd_same
            generalize upd (upd H3 tp (.tup [.int (k : Nat), .int (-1)])) l1 (.lst [.ref tp]) = H10 at k10 etp el1 ⊢
            refine r_cat (k10 _ _ (by simp) ets) el1 (by rw [List.length_map, lts]; exact le_size (by simp; omega)) fun p2 np2 => ?_
            have k11 : Keep [] H10 (upd H10 p2 (.lst (ts.map V.ref ++ [.ref tp]))) := Keep.new np2
            have k311 := k10.trans k11
            have es2 : StA (upd H10 p2 (.lst (ts.map V.ref ++ [.ref tp]))) p2 (st ++ [(k, -1)]) :=
              ⟨ts ++ [tp], by rw [upd_same, List.map_append]; rfl, AllAt.app (hts.keep0 k311) ⟨k11 _ _ (by simp) etp, trivial⟩⟩
            generalize upd H10 p2 (.lst (ts.map V.ref ++ [.ref tp])) = H11 at k311 es2 ⊢
            have ed11 := k311 _ _ (by simp) ed
            have ea11 : AllR (StA H11) (es.map Prod.snd) (ss.map Prod.snd) := ea.mono fun _ _ _ _ h => h.all k311
            have les : es.length ≤ 1000 := by
              have := congrArg List.length ef
              rw [List.length_map, List.length_map] at this
              omega
            walk_at "sts"
            refine r_dputS ed11 (by rw [dN_len]; exact lt_size (by omega)) ?_
            rw [show putK (dN V.ref es) (Sum.inr (strL (r.fst))) (V.ref p2) = dN V.ref (es ++ [(r.fst, p2)]) from dN_put (f := V.ref) (v := p2) (by rw [show es.map (·.1) = keysN ss from ef]; exact hl)]
            have wy : wayR r (r.snd) = -1 := by unfold wayR; rw [if_pos rfl]
            have ad := w3.add hok hst hr2 a2 hl
            rw [wy] at ad
            exact ⟨ss ++ [(r.fst, st ++ [(k, -1)])], _, _, _, by first | exact rfl | trivial, (k3.trans k311).mut nd0, PAt.put ed11 ef ea11 es2, ad, tn.add c2 hr2 hh a2 hl⟩
          · refine ⟨false, by rw [decide_eq_false hh]; rfl, ?_⟩
            rw [if_neg (by decide)]
            walk_at "sts"
            exact ⟨ss, _, _, _, by first | exact rfl | trivial, k3, p3, w3, tn.next hr2 ⟨fun h => (hl h).elim, fun h => (hh h).elim⟩⟩
      · rintro σ' H3 ⟨ss, y4, y5, y6, rfl, k3, p3, w3, tn⟩
        rw [List.length_map, lar, Int.toNat_natCast] at tn
        exact ⟨ss, _, _, _, _, by first | exact rfl | trivial, k3, p3, w3, tn.end⟩
    · rintro σ' H2 ⟨ss, y3, y4, y5, y6, rfl, k2, p2, w2, c2⟩
      rw [List.length_map, lar, Int.toNat_natCast] at c2
      walk_at "sts"
      exact qq d ss H2 k2 p2 w2 (c2.elim id fun h => opn_zero (by omega))
end
/-! ### _law_distances -/
section
variable {P : Program} {w : World} {K : PySem.W.Frag} {mg : Str → Option Value} {base : Heap}
def spDist : Sp := fun vs H Q _ => ∃ (t f u : Addr) (ps : List Addr) (rs : List Row) (zs : List (List Int)) (st : Steps), vs = [.ref t, .ref f, .ref u] ∧ RowsAt H t rs ∧ H f = some (.lst (ps.map V.ref)) ∧ AllAt zHO H ps zs ∧ StA H u st ∧ (∀ z ∈ zs, z.length = rs.length ∧ ∀ x ∈ z, -1 ≤ x ∧ x ≤ 1) ∧ zs.length ≤ 1024 ∧ rs.length ≤ 10 ∧ (∀ r ∈ rs, RowOk r) ∧ StOk rs st ∧
  ∀ p (ns : List Int) H', Keep [] H H' → H' p = some (.lst (ns.map V.int)) → ns.Pairwise (· < ·) → (∀ d, d ∈ ns ↔ ∃ z ∈ zs, d = ((sumS rs z st).natAbs : Int)) → Q (.ref p) H'
theorem ok_dist (T : Tx K mg) : FnOk P w K mg base CX0 1 T.f_w_distances T.fd_w_distances ["_law_rows_here", "_law_tuned", "_law_path"] spDist := by
  refine T.F_w_distances.ok sc_w_distances (fun vs H Q E h => ?_) (fun cdv A outer s H vs Q E hr h => ?_)
  · obtain ⟨t, f, u, ps, rs, zs, st, rfl, _⟩ := h; rfl
  · obtain ⟨t, f, u, ps, rs, zs, st, rfl, ⟨as, et, har⟩, ef, ee, ⟨ts, ets, hts⟩, hzs, lzs, l10, hok, ⟨l20, hx⟩, qq⟩ := h
    have lar := har.len
    have lps := ee.len
    have lts := hts.len
    refine ⟨_, (pss_cons (ps_set (i := 3) sc_w_distances.nd rfl (Or.inl rfl) (pe_lst pa_nil))
    (pss_cons (ps_for PassesOwn.never rfl (pi_list (pv 1)) (pg_name (i := 4) sc_w_distances.nd rfl (Or.inr rfl))
    (pss_one (ps_expr (pe_bm PySem.F.plainAttrs_list PySem.F.slot_list_append PySem.F.type_list_append mt_append (pv 3) (pa_cons (pe_callB call_abs (by rfl) T.m_abs (by decide +kernel) (pa_cons (pe_callB (cr_sum rfl) (by rfl) T.m_sum (by decide +kernel) (pa_cons (pe_lc (own := [("_law_step", 5)]) (g := gName 5) (tt := tYes) rfl sc_w_distances.nd (pi_list (pv 2)) (blkOk_by (own := [("_law_step", 5)]) (N := ["_law_rows_here", "_law_tuned", "_law_path", "_law_found", "_law_rises", "_law_step"]) (sc := defScope s_w_distances) (by decide +kernel)) (fun _ _ _ _ _ => pg_name (i := 5) sc_w_distances.nd rfl (Or.inl rfl)) (fun _ _ _ _ _ => pts_nil) (fun _ _ _ _ _ => (pe_op op_mulG (pe_op op_mulG (pe_ix (ix_tupK (K := K) rfl) (pv 5) pe_int (fun _ _ => rfl)) (pe_ix (ix_tupK (K := K) rfl) (pv 4) (pe_ix (ix_tupK (K := K) rfl) (pv 5) pe_int (fun _ _ => rfl)) (fun _ _ => rfl))) (pe_ix (ix_tupK (K := K) rfl) (pe_ix (ix_listK (K := K) rfl) (pv 0) (pe_ix (ix_tupK (K := K) rfl) (pv 5) pe_int (fun _ _ => rfl)) (fun _ _ => rfl)) pe_int (fun _ _ => rfl))))) pa_nil)) pa_nil)) pa_nil)))))
    (pss_one (ps_ret (Gk.pe_sortedSet (by rfl) T.m_sorted (by rfl) T.m_set (pv 3)))))), ?_⟩
    walk_at "start"
    walk_at "sts"
    intro g ng
    have k1 : Keep [] H (upd H g (.lst [])) := Keep.new ng
    have e1 : upd H g (.lst []) g = some (.lst (([] : List Int).map V.int)) := upd_same
    generalize upd H g (.lst []) = H1 at k1 e1 ⊢
    walk_at "sts"
    refine forL_go (xs := ps.map V.ref) (fun i σ' H' => ∃ y4 y5 : Option V, σ' = [some (.ref t), some (.ref f), some (.ref u), some (.ref g), y4, y5] ∧ Keep [] H H' ∧ H' g = some (.lst (((zs.map fun z => ((sumS rs z st).natAbs : Int)).take i).map V.int))) (sqL_of (k1 _ _ (by simp) ef)) ⟨_, _, by first | exact rfl | trivial, k1, e1⟩ (fun i σ' H' _ h => by obtain ⟨_, _, _, k, _⟩ := h; exact sqL_of (k _ _ (by simp) ef)) ?_ ?_
    · clear k1 e1
      rintro i v σ' H2 hv ⟨y4, y5, rfl, k2, e2⟩
      obtain ⟨q, hq, rfl⟩ := getRef hv
      obtain ⟨z, hz', ez⟩ := ee.get hq
      have hi := (List.getElem?_eq_some_iff.mp hz').1
      obtain ⟨lz, hz⟩ := hzs z (List.mem_of_getElem? hz')
      have ets2 := k2 _ _ (by simp) ets
      walk_at "sts"
      have eb (x : Nat × Int) (h : x ∈ st) : ∃ (b : Addr) (r : Row), as[x.1]? = some b ∧ rs[x.1]? = some r ∧ H b = some (rHO r) ∧ RowOk r := by
        have lx := (hx x h).1
        obtain ⟨b, hb⟩ : ∃ b, as[x.1]? = some b := ⟨_, List.getElem?_eq_getElem (by omega)⟩
        obtain ⟨r, hr, e⟩ := har.get hb
        exact ⟨b, r, hb, hr, e, hok r (List.mem_of_getElem? hr)⟩
      refine lcL_go (fun D2 i acc H' => acc = ((st.map (valS rs z)).take i).map V.int ∧ Keep [] H2 H' ∧ H2 D2 = none) (sqL_of ets2) (fun D2 nD2 => ⟨rfl, Keep.new nD2, nD2⟩) (fun D2 i acc H' _ h => sqL_of (h.2.1 _ _ (by simp) ets2)) ?_ ?_
      · rintro D2 j v acc H3 hv hD2 ⟨rfl, k3, nD2⟩
        obtain ⟨tp, htp, rfl⟩ := getRef hv
        obtain ⟨x, hxj, etp⟩ := hts.get htp
        have k23 := k2.trans k3
        have etp3 : H3 tp = some (.tup [.int (x.1 : Nat), .int x.2]) := k23 _ _ (by simp) etp
        obtain ⟨b, r, hb, hr, eb0, okr⟩ := eb x (List.mem_of_getElem? hxj)
        obtain ⟨lx, wx⟩ := hx x (List.mem_of_getElem? hxj)
        have eb3 : H3 b = some (.tup [.str (strL r.fst), .str (strL r.snd), .int r.cnt]) := k23 _ _ (by simp) eb0
        have ez3 := k23 _ _ (by simp) ez
        have et3 := k23 _ _ (by simp) et
        have hj := (List.getElem?_eq_some_iff.mp hxj).1
        obtain ⟨zi, hzi⟩ : ∃ zi, z[x.1]? = some zi := ⟨_, List.getElem?_eq_getElem (by omega)⟩
        have zb := hz zi (List.mem_of_getElem? hzi)
        have hvz : (z.map V.int)[x.1]? = some (.int zi) := by rw [List.getElem?_map, hzi]; rfl
        have hvb : (as.map V.ref)[x.1]? = some (.ref b) := by rw [List.getElem?_map, hb]; rfl
        have wb : -1 ≤ x.2 ∧ x.2 ≤ 1 := by omega
        simp only [L2.wipe, List.map_cons, List.map_nil, List.set_cons_zero, List.set_cons_succ]
        walk_at "sts"
        refine ⟨rfl, ?_⟩
        refine r_yes ?_
        rw [if_pos rfl]
        walk_at "sts"
        rw [show z.getD ((x.1 : Nat) : Int).toNat 0 = zi by rw [Int.toNat_natCast, List.getD_eq_getElem?_getD, hzi]; rfl]
        have pb : -1 ≤ x.2 * zi ∧ x.2 * zi ≤ 1 := by
          rcases wx with e | e
          · rw [e, Int.one_mul]; exact zb
          · rw [e, Int.neg_one_mul]; omega
        refine r_ixL (sqL_of et3) (atI_nat hvb) ?_
        walk_at "sts"
        refine lc_put hD2 (by rw [List.length_map, List.length_take, List.length_map]; exact lt_size (by omega)) ⟨?_, k3.mut nD2, nD2⟩
        rw [take_s (x := valS rs z x) (by rw [List.getElem?_map, hxj]; rfl), List.map_append]
        unfold valS
        rw [hr, List.getD_eq_getElem?_getD, hzi]; rfl
      · rintro D2 acc H3 nD2 hD2 ⟨rfl, k3, _⟩
        rw [List.length_map, lts, List.take_of_length_le (by rw [List.length_map]; exact Nat.le_refl _)] at hD2
        have e3 := k3 _ _ (by simp) e2
        walk_at "sts"
        refine r_sum (sqL_of hD2) ?_
        rw [show (st.map (valS rs z)).sum = sumS rs z st from rfl]
        walk_at "sts"
        refine r_app e3 (by rw [List.length_map, List.length_take, List.length_map]; exact lt_size (by omega)) ?_
        walk_at "sts"
        refine ⟨_, _, by first | exact rfl | trivial, (k2.trans k3).mut ng, ?_⟩
        rw [upd_same, take_s (x := ((sumS rs z st).natAbs : Int)) (by rw [List.getElem?_map, hz']; rfl), List.map_append]; rfl
    · rintro σ' H2 ⟨y4, y5, rfl, k2, e2⟩
      rw [List.length_map, lps, List.take_of_length_le (by rw [List.length_map]; exact Nat.le_refl _)] at e2
      walk_at "sts"
      refine r_var rfl ⟨g, _, rfl, sqL_of e2, by rw [List.length_map]; omega, fun ms p so mem np => ?_⟩
      refine qq p ms _ (k2.trans (Keep.new np)) upd_same so fun d => ?_
      rw [mem, List.mem_map]
      exact ⟨fun ⟨z, hz, e⟩ => ⟨z, hz, e.symm⟩, fun ⟨z, hz, e⟩ => ⟨z, hz, e.symm⟩⟩
end
/-! ### _law_are_beats -/
theorem eqv_intsL {ns : List Int} : (ns.map V.int).all flatV = true := by
  rw [List.all_eq_true]; intro x hx; obtain ⟨i, _, rfl⟩ := List.mem_map.mp hx; rfl
theorem r_neSameI {K : PySem.W.Frag} {H : Hp} {Q : VK} {p q : Addr} {ns : List Int} (hp : H p = some (.lst (ns.map V.int))) (hq : H q = some (.lst (ns.map V.int))) (k : Q (.bl false) H) : rNeD K (.ref p) (.ref q) H Q :=
  r_neL (sqL_of hp) (sqL_of hq) eqv_intsL eqv_intsL (b := true) (eqv_flats eqv_intsL) k
def spIsInt : Sp := fun vs H Q _ => ∃ v : Int, vs = [.int v] ∧ Q (.bl true) H
def spAre : Sp := fun vs H Q _ => ∃ (p q : Addr) (ns : List Int), vs = [.ref p, .ref q] ∧ H p = some (.lst (ns.map V.int)) ∧ H q = some (.lst (ns.map V.int)) ∧ ∀ H', Keep [] H H' → Q (.bl true) H'
section
variable {P : Program} {w : World} {K : PySem.W.Frag} {mg : Str → Option Value} {base : Heap}
theorem ok_isInt (T : Tx K mg) : FnOk P w K mg base CX0 1 T.f_w_is_integer T.fd_w_is_integer ["_law_actual"] spIsInt := by
  refine T.F_w_is_integer.ok sc_w_is_integer (fun vs H Q E h => ?_) (fun cdv A outer s H vs Q E hr h => ?_)
  · obtain ⟨v, rfl, _⟩ := h; rfl
  · obtain ⟨v, rfl, q⟩ := h
    refine ⟨_, (pss_one (ps_ret (pe_and (pe_callB call_isi (by rfl) T.m_isinstance (by decide +kernel) (pa_cons (pv 0) (pa_cons (pe_bltn (v := .ty "int") (by rfl) T.m_int (by decide +kernel) rfl) pa_nil))) (pe_one (pe_not (pe_callB call_isi (by rfl) T.m_isinstance (by decide +kernel) (pa_cons (pv 0) (pa_cons (pe_bltn (v := .ty "bool") (by rfl) T.m_bool (by decide +kernel) rfl) pa_nil)))))))), ?_⟩
    walk_at "start"
    walk_at "sts"
    exact q
theorem ok_are (T : Tx K mg) (G_w_is_integer : FnOk P w K mg base CX0 1 T.f_w_is_integer T.fd_w_is_integer ["_law_actual"] spIsInt) : FnOk P w K mg base CX0 2 T.f_w_are_beats T.fd_w_are_beats ["_law_told_here", "_law_due_here"] spAre := by
  refine T.F_w_are_beats.ok sc_w_are_beats (fun vs H Q E h => ?_) (fun cdv A outer s H vs Q E hr h => ?_)
  · obtain ⟨p, q, ns, rfl, _⟩ := h; rfl
  · obtain ⟨p, q, ns, rfl, ep, eq1, qq⟩ := h
    refine ⟨_, (pss_cons (ps_if (PW.pt (pw_or (pt_not (pt_val (pe_callB call_isi (by rfl) T.m_isinstance (by decide +kernel) (pa_cons (pv 0) (pa_cons (pe_bltn (v := .ty "list") (by rfl) T.m_list (by decide +kernel) rfl) pa_nil))))) (pw_or1 (pt_cmpR (op_neD hr.units) (pv 0) (pv 1) (nomark _)))))
    (pss_one (ps_ret pe_bl))
    pss_nil)
    (pss_one (ps_ret (pe_cmpR (op_eqD hr.units) (pe_lc (own := [("_law_beat", 2)]) (g := gName 2)  rfl sc_w_are_beats.nd (pi_list (pv 0)) (blkOk_by (own := [("_law_beat", 2)]) (N := ["_law_told_here", "_law_due_here", "_law_beat"]) (sc := defScope s_w_are_beats) (by decide +kernel)) (fun _ _ _ _ _ => pg_name (i := 2) sc_w_are_beats.nd rfl (Or.inl rfl)) (fun _ _ _ _ _ => pts_one (pt_not (pt_val (pe_call G_w_is_integer (hr.mono (by decide)) rfl T.g_w_is_integer T.F_w_is_integer.kp T.b_w_is_integer .nil pass0 (pa_cons (pv 2) pa_nil))))) (fun _ _ _ _ _ => (pv 2))) (pe_lst pa_nil) (nomark _))))), ?_⟩
    walk_at "start"
    walk_at "sts"
    refine r_neSameI ep eq1 ?_
    walk_at "sts"
    refine lcL_go (fun D i acc H' => acc = [] ∧ Keep [] H H') (sqL_of ep) (fun D nD => ⟨rfl, Keep.new nD⟩) (fun D i acc H' _ h => sqL_of (h.2 _ _ (by simp) ep)) ?_ ?_
    · rintro D i v acc H2 hv hD ⟨rfl, k2⟩
      obtain ⟨n, hn, rfl⟩ : ∃ n, ns[i]? = some n ∧ V.int n = v := by
        rw [List.getElem?_map] at hv
        obtain ⟨j, a, b⟩ := Option.map_eq_some_iff.mp hv
        exact ⟨j, a, b⟩
      simp only [L2.wipe, List.map_cons, List.map_nil, List.set_cons_zero, List.set_cons_succ]
      walk_at "sts"
      refine ⟨rfl, ?_⟩
      walk_at "sts"
      refine ⟨n, rfl, ?_⟩
      walk_at "sts"
      exact ⟨[], hD, rfl, k2⟩
    · rintro D acc H2 nD hD ⟨rfl, k2⟩
      walk_at "sts"
      intro e0 n0
      have k3 : Keep [] H2 (upd H2 e0 (.lst [])) := Keep.new n0
      refine r_eqL (xs := []) (ys := []) (sqL_of (k3 _ _ (by simp) hD)) (sqL_of upd_same) rfl rfl (b := true) rfl ?_
      exact qq _ (k2.trans k3)
end
/-! ### _law_told -/
def Told (rs : List Row) (a b : Nm) (out : List V) : Prop := (a ∉ endsOf rs ∧ out = [.str (Str.ofString "NoQuantity"), .str (strL a)]) ∨ (a ∈ endsOf rs ∧ b ∉ endsOf rs ∧ out = [.str (Str.ofString "NoQuantity"), .str (strL b)]) ∨ (a ∈ endsOf rs ∧ b ∈ endsOf rs ∧ ¬ Conn rs b a ∧ out = [.str (Str.ofString "NoWalk"), .str (strL a), .str (strL b)])
def spTold (C : Addr) : Sp := fun vs H Q _ => ∃ (x : Addr) (rs : List Row) (a b : Nm) (out : List V), vs = [.ref x, .str (strL a), .str (strL b)] ∧ StrikesAt C H x rs ∧ rs.length ≤ 10 ∧ (∀ r ∈ rs, RowOk r) ∧ Plain a ∧ Plain b ∧ Told rs a b out ∧ ∀ p H', Keep [] H H' → H' p = some (.tup out) → Q (.ref p) H'
section
variable {w : World} {K : PySem.W.Frag} {mg : Str → Option Value} {base : Heap}
theorem ok_told (T : Tx K mg) (G_possible_beatsX : FnOk PG w K mg base (L2.CX PG w) 7 T.f_possible_beats T.fd_possible_beats ["strikes", "first", "second"] (spBeatsX T.C_Strikes T.C_NoQuantity T.C_NoWalk)) : FnOk PG w K mg base CX0 8 T.f_w_told T.fd_w_told ["_law_strikes_here", "_law_first", "_law_second"] (spTold T.C_Strikes) := by
  refine T.F_w_told.ok sc_w_told (fun vs H Q E h => ?_) (fun cdv A outer s H vs Q E hr h => ?_)
  · obtain ⟨x, rs, a, b, out, rfl, _⟩ := h; rfl
  · obtain ⟨x, rs, a, b, out, rfl, st, l10, hok, pa, pb, told, qq⟩ := h
    refine ⟨_, PSs.nox (pss_cons (ps_try_as (i := 4) (Wout := fun _ _ _ _ => False) rfl rfl sc_w_told.nd rfl rfl ⟨rfl, by decide, Or.inl T.gC_MeteError⟩ takes0 (fun W pn xe tk _ => (pss_one (ps_set (i := 3) sc_w_told.nd rfl (Or.inl rfl) (pe_callSD G_possible_beatsX (hr.mono (by decide)) rfl T.g_possible_beats T.F_possible_beats.kp T.b_possible_beats .nil (fun σ => passAt tk σ) (pa_cons (pv 0) (pa_cons (pv 1) (pa_cons (pv 2) pa_nil))))))) (fun a oe cls d pn hz hf => (pss_cons (ps_if (PW.pt (pw_and (pt_val (pe_callB (Er.call_isD hz hf) (by rfl) T.m_isinstance (by decide +kernel) (pa_cons (pv 4) (pa_cons (pe_glob (v := .ref T.C_NoQuantity) rfl T.gC_NoQuantity rfl) pa_nil)))) (pw_and (pt_val (pe_callB (Er.call_isD hz hf) (by rfl) T.m_isinstance (by decide +kernel) (pa_cons (pv 4) (pa_cons (pe_bltn (v := .ty "ValueError") (by rfl) T.m_ValueError boot_ValueError rfl) pa_nil)))) (pw_and1 (pt_not (pt_val (pe_callB (Er.call_isD hz hf) (by rfl) T.m_isinstance (by decide +kernel) (pa_cons (pv 4) (pa_cons (pe_glob (v := .ref T.C_NoWalk) rfl T.gC_NoWalk rfl) pa_nil)))))))))
    (pss_one (ps_ret (pe_tup (pa_cons pe_str (pa_cons (pe_xf T.xf_NoQuantity (T.Z_NoQuantity w).noN hz hf (pv 4)) pa_nil)))))
    pss_nil)
    (pss_cons (ps_if (PW.pt (pw_and (pt_val (pe_callB (Er.call_isD hz hf) (by rfl) T.m_isinstance (by decide +kernel) (pa_cons (pv 4) (pa_cons (pe_glob (v := .ref T.C_NoWalk) rfl T.gC_NoWalk rfl) pa_nil)))) (pw_and (pt_val (pe_callB (Er.call_isD hz hf) (by rfl) T.m_isinstance (by decide +kernel) (pa_cons (pv 4) (pa_cons (pe_bltn (v := .ty "ValueError") (by rfl) T.m_ValueError boot_ValueError rfl) pa_nil)))) (pw_and1 (pt_not (pt_val (pe_callB (Er.call_isD hz hf) (by rfl) T.m_isinstance (by decide +kernel) (pa_cons (pv 4) (pa_cons (pe_glob (v := .ref T.C_NoQuantity) rfl T.gC_NoQuantity rfl) pa_nil)))))))))
    (pss_one (ps_ret (pe_tup (pa_cons pe_str (pa_cons (pe_xf T.xf_NoWalk (T.Z_NoWalk w).noN hz hf (pv 4)) (pa_cons (pe_xf T.xf_NoWalk (T.Z_NoWalk w).noM hz hf (pv 4)) pa_nil))))))
    pss_nil)
    (pss_one (ps_ret (pe_tup (pa_cons pe_str (pa_cons pe_str pa_nil)))))))))
    (pss_one (ps_ret (pv 3)))), ?_⟩
    walk_at "start"
    walk_at "sts"
    refine ⟨x, rs, a, b, rfl, st, l10, hok, pa, pb, fun n1 H1 e k1 he => ?_, fun m1 n2 H1 e k1 he => ?_, fun m1 m2 => ⟨?_, fun H1 e k1 he => ?_⟩⟩
    · have eo : out = [.str (Str.ofString "NoQuantity"), .str (strL a)] := by
        rcases told with ⟨_, e⟩ | ⟨m, _⟩ | ⟨m, _⟩
        · exact e
        · exact (n1 m).elim
        · exact (n1 m).elim
      refine ⟨true, T.exm_NoQuantity_MeteError, fun _ o ho => ?_, fun z => nomatch z⟩
      have he' : upd H1 e (.xd [("name", .str (strL a))]) e = some (.xd [("name", .str (strL a))]) := upd_same
      have k4 : Keep [] H (upd H1 e (.xd [("name", .str (strL a))])) := k1.trans (Keep.new he)
      generalize upd H1 e (.xd [("name", .str (strL a))]) = H5 at he' k4 ho ⊢
      simp only [List.set_cons_succ, List.set_cons_zero]
      walk_at "sts"
      refine Er.r_isD T.X_NoQuantity he' (fun u r => r) T.kit_NoQuantity_NoQuantity ?_
      walk_at "sts"
      refine Er.r_isD T.X_NoQuantity he' (fun u r => r) T.kit_NoQuantity_ValueError ?_
      walk_at "sts"
      refine Er.r_isD T.X_NoQuantity he' (fun u r => r) T.kit_NoQuantity_NoWalk ?_
      walk_at "sts"
      refine Er.r_xfE he' rfl ?_
      walk_at "sts"
      intro t ht
      exact qq t _ (k4.trans (Keep.new ht)) (by rw [upd_same, eo])
    · have eo : out = [.str (Str.ofString "NoQuantity"), .str (strL b)] := by
        rcases told with ⟨n, _⟩ | ⟨_, _, e⟩ | ⟨_, m, _⟩
        · exact (n m1).elim
        · exact e
        · exact (n2 m).elim
      refine ⟨true, T.exm_NoQuantity_MeteError, fun _ o ho => ?_, fun z => nomatch z⟩
      have he' : upd H1 e (.xd [("name", .str (strL b))]) e = some (.xd [("name", .str (strL b))]) := upd_same
      have k4 : Keep [] H (upd H1 e (.xd [("name", .str (strL b))])) := k1.trans (Keep.new he)
      generalize upd H1 e (.xd [("name", .str (strL b))]) = H5 at he' k4 ho ⊢
      simp only [List.set_cons_succ, List.set_cons_zero]
      walk_at "sts"
      refine Er.r_isD T.X_NoQuantity he' (fun u r => r) T.kit_NoQuantity_NoQuantity ?_
      walk_at "sts"
      refine Er.r_isD T.X_NoQuantity he' (fun u r => r) T.kit_NoQuantity_ValueError ?_
      walk_at "sts"
      refine Er.r_isD T.X_NoQuantity he' (fun u r => r) T.kit_NoQuantity_NoWalk ?_
      walk_at "sts"
      refine Er.r_xfE he' rfl ?_
      walk_at "sts"
      intro t ht
      exact qq t _ (k4.trans (Keep.new ht)) (by rw [upd_same, eo])
    · rcases told with ⟨n, _⟩ | ⟨_, n, _⟩ | ⟨_, _, n, _⟩
      · exact (n m1).elim
      · exact (n m2).elim
      · exact n
    · have eo : out = [.str (Str.ofString "NoWalk"), .str (strL a), .str (strL b)] := by
        rcases told with ⟨n, _⟩ | ⟨_, n, _⟩ | ⟨_, _, _, e⟩
        · exact (n m1).elim
        · exact (n m2).elim
        · exact e
      refine ⟨true, T.exm_NoWalk_MeteError, fun _ o ho => ?_, fun z => nomatch z⟩
      have he' : upd H1 e (.xd [("second", .str (strL b)), ("first", .str (strL a))]) e = some (.xd [("second", .str (strL b)), ("first", .str (strL a))]) := upd_same
      have k4 : Keep [] H (upd H1 e (.xd [("second", .str (strL b)), ("first", .str (strL a))])) := k1.trans (Keep.new he)
      generalize upd H1 e (.xd [("second", .str (strL b)), ("first", .str (strL a))]) = H5 at he' k4 ho ⊢
      simp only [List.set_cons_succ, List.set_cons_zero]
      walk_at "sts"
      refine Er.r_isD T.X_NoWalk he' (fun u r => r) T.kit_NoWalk_NoQuantity ?_
      walk_at "sts"
      refine Er.r_isD T.X_NoWalk he' (fun u r => r) T.kit_NoWalk_NoWalk ?_
      walk_at "sts"
      refine Er.r_isD T.X_NoWalk he' (fun u r => r) T.kit_NoWalk_ValueError ?_
      walk_at "sts"
      refine Er.r_isD T.X_NoWalk he' (fun u r => r) T.kit_NoWalk_NoQuantity ?_
      walk_at "sts"
      refine Er.r_xfE he' rfl ?_
      walk_at "sts"
      refine Er.r_xfE he' rfl ?_
      walk_at "sts"
      intro t ht
      exact qq t _ (k4.trans (Keep.new ht)) (by rw [upd_same, eo])
end
/-! ### the reverse order -/
theorem sorted_ext : ∀ {as bs : List Int}, as.Pairwise (· < ·) → bs.Pairwise (· < ·) → (∀ x, x ∈ as ↔ x ∈ bs) → as = bs
  | [], [], _, _, _ => rfl
  | [], b :: _, _, _, h => by have := (h b).mpr (by simp); simp at this
  | a :: _, [], _, _, h => by have := (h a).mp (by simp); simp at this
  | a :: as, b :: bs, ha, hb, h => by
    rw [List.pairwise_cons] at ha hb
    have e : a = b := by
      rcases List.mem_cons.mp ((h a).mp (by simp)) with e | m
      · exact e
      · rcases List.mem_cons.mp ((h b).mpr (by simp)) with e | m2
        · exact e.symm
        · have := ha.1 b m2
          have := hb.1 a m
          omega
    subst e
    refine congrArg (a :: ·) (sorted_ext ha.2 hb.2 fun x => ⟨fun hx => ?_, fun hx => ?_⟩)
    · rcases List.mem_cons.mp ((h x).mp (List.mem_cons_of_mem _ hx)) with e | m
      · have := ha.1 x hx; omega
      · exact m
    · rcases List.mem_cons.mp ((h x).mpr (List.mem_cons_of_mem _ hx)) with e | m
      · have := hb.1 x hx; omega
      · exact m
theorem every_iff : ∀ {rs : List Row} {z : List Int}, z ∈ everyL rs ↔ z.length = rs.length ∧ ∀ (i : Nat) r, rs[i]? = some r → z.getD i 0 ∈ ch r
  | [], z => by
    constructor
    · intro h
      obtain rfl : z = [] := by simpa [everyL] using h
      exact ⟨rfl, fun i r h => by simp at h⟩
    · rintro ⟨h, _⟩
      rw [List.length_eq_zero_iff.mp h]; simp [everyL]
  | r :: rs, z => by
    show z ∈ (ch r).flatMap (fun x => (everyL rs).map (x :: ·)) ↔ _
    rw [List.mem_flatMap]
    constructor
    · rintro ⟨x, hx, h⟩
      obtain ⟨z', hz, rfl⟩ := List.mem_map.mp h
      obtain ⟨l, c⟩ := every_iff.mp hz
      refine ⟨by simp [l], fun i r' hi => ?_⟩
      cases i with
      | zero => cases hi; exact hx
      | succ i => exact c i r' hi
    · rintro ⟨l, c⟩
      match z, l, c with
      | [], l, _ => simp at l
      | x :: z, l, c => exact ⟨x, c 0 r rfl, List.mem_map.mpr ⟨z, every_iff.mpr ⟨by simpa using l, fun i r' hi => c (i + 1) r' hi⟩, rfl⟩⟩
theorem rev_at {α : Type} {xs : List α} {i : Nat} {x : α} (h : xs.reverse[i]? = some x) : i < xs.length ∧ xs[xs.length - 1 - i]? = some x := by
  have hi : i < xs.length := by
    have := (List.getElem?_eq_some_iff.mp h).1
    rwa [List.length_reverse] at this
  rw [List.getElem?_reverse hi] at h
  exact ⟨hi, h⟩
theorem rev_getD {z : List Int} {i : Nat} (hi : i < z.length) : z.reverse.getD i 0 = z.getD (z.length - 1 - i) 0 := by
  rw [List.getD_eq_getElem?_getD, List.getElem?_reverse hi, List.getD_eq_getElem?_getD]
theorem good_rev {rs : List Row} {z : List Int} {L : Nm → Int} (hl : z.length = rs.length) (h : Good rs z L) : Good rs.reverse z.reverse L := fun i r hr => by
  obtain ⟨hi, hr⟩ := rev_at hr
  rw [rev_getD (by omega), hl]
  exact h _ r hr
theorem due_rev {rs : List Row} {z : List Int} (h : z ∈ dueL rs) : z.reverse ∈ dueL rs.reverse := by
  obtain ⟨h1, h2⟩ := List.mem_filter.mp h
  obtain ⟨l, c⟩ := every_iff.mp h1
  obtain ⟨L, G⟩ := okR_iff.mp h2
  refine List.mem_filter.mpr ⟨every_iff.mpr ⟨by rw [List.length_reverse, List.length_reverse]; exact l, fun i r hr => ?_⟩, okR_iff.mpr ⟨L, good_rev l G⟩⟩
  obtain ⟨hi, hr⟩ := rev_at hr
  rw [rev_getD (by omega), l]
  exact c _ r hr
theorem beat_rev {rs : List Row} {a b : Nm} {x : Int} (h : BeatIn rs a b x) : BeatIn rs.reverse b a x := by
  obtain ⟨z, hz, L, G, e⟩ := h
  exact ⟨z.reverse, due_rev hz, L, good_rev (every_mem (List.mem_filter.mp hz).1).1 G, by rw [e]; omega⟩
theorem beat_rev_iff {rs : List Row} {a b : Nm} {x : Int} : BeatIn rs.reverse b a x ↔ BeatIn rs a b x :=
  ⟨fun h => by have := beat_rev h; rwa [List.reverse_reverse] at this, beat_rev⟩
theorem ends_rev {rs : List Row} {s : Nm} : s ∈ endsOf rs.reverse ↔ s ∈ endsOf rs := by
  unfold endsOf
  simp only [List.mem_append, List.mem_map, List.mem_reverse]
theorem conn_rev {rs : List Row} {a b : Nm} (h : Conn rs a b) : Conn rs.reverse a b := by
  induction h with
  | refl => exact .refl
  | step _ n ih => exact ih.step (let ⟨r, hr, e⟩ := n; ⟨r, List.mem_reverse.mpr hr, e⟩)
theorem conn_rev_iff {rs : List Row} {a b : Nm} : Conn rs.reverse a b ↔ Conn rs a b := ⟨fun h => by have := conn_rev h; rwa [List.reverse_reverse] at this, conn_rev⟩
/-- the distances along one walk are the beats -/
theorem dist_beats {rs : List Row} {a b : Nm} {st : Steps} (ht : ∀ z L, Good rs z L → sumS rs z st = L b - L a) {d : Int} : (∃ z ∈ dueL rs, d = ((sumS rs z st).natAbs : Int)) ↔ BeatIn rs a b d := by
  constructor
  · rintro ⟨z, hz, e⟩
    obtain ⟨L, G⟩ := okR_iff.mp (List.mem_filter.mp hz).2
    exact ⟨z, hz, L, G, by rw [e, ht z L G]⟩
  · rintro ⟨z, hz, L, G, e⟩
    exact ⟨z, hz, by rw [ht z L G]; exact e⟩
/-! ### _law_pair_right -/
theorem StrikesAt.k0 {C x : Addr} {H H' : Hp} {rs : List Row} (h : StrikesAt C H x rs) (k : Keep [] H H') : StrikesAt C H' x rs := by
  obtain ⟨dx, t, as, e, et, ea⟩ := h
  exact ⟨dx, t, as, k _ _ (by simp) e, k _ _ (by simp) et, ea.keep0 k⟩
theorem r_neSameT {K : PySem.W.Frag} {H : Hp} {Q : VK} {p q : Addr} {xs : List V} (hp : H p = some (.tup xs)) (hq : H q = some (.tup xs)) (fx : xs.all flatV = true) (k : Q (.bl false) H) : rNeD K (.ref p) (.ref q) H Q :=
  r_neT (sqT_of hp) (sqT_of hq) fx fx (b := true) (eqv_flats fx) k
theorem r_eqSameT {K : PySem.W.Frag} {H : Hp} {Q : VK} {p q : Addr} {xs : List V} (hp : H p = some (.tup xs)) (hq : H q = some (.tup xs)) (fx : xs.all flatV = true) (k : Q (.bl true) H) : rEqD K (.ref p) (.ref q) H Q :=
  r_eqT (sqT_of hp) (sqT_of hq) fx fx (b := true) (eqv_flats fx) k
theorem plain_sok {s : Nm} (h : Plain s) : PyData.strOk (strL s) = true := by
  unfold PyData.strOk
  rw [← Array.all_toList, List.all_eq_true]
  intro c hc
  have hc2 : c ∈ s := by simpa [strL] using hc
  have := h.2 c hc2
  simp; omega
theorem flat_s {s : Nm} (h : Plain s) : flatV (V.str (strL s)) = true := by
  show PyData.canLay0 (.str (strL s)) = true
  simp [PyData.canLay0, plain_sok h]
theorem flat_nw {a b : Nm} (pa : Plain a) (pb : Plain b) : ([.str (Str.ofString "NoWalk"), .str (strL a), .str (strL b)] : List V).all flatV = true := by
  show (flatV (V.str (Str.ofString "NoWalk")) && (flatV (V.str (strL a)) && (flatV (V.str (strL b)) && true))) = true
  rw [flat_s pa, flat_s pb]; decide +kernel
theorem r_bm0 {K : PySem.W.Frag} {T : String} {r : V → List V → Hp → VK → Prop} {to : TE} {σ : L2.St} {H : Hp} {Q : VK} (k : to σ H fun x H1 => tyV K T x H1 ∧ r x [] H1 Q) : tBM0 K T r to σ H Q := k
theorem plain_end {rs : List Row} {s : Nm} (hok : ∀ r ∈ rs, RowOk r) (h : s ∈ endsOf rs) : Plain s := by
  unfold endsOf at h
  rcases List.mem_append.mp h with h | h
  · obtain ⟨r, hr, rfl⟩ := List.mem_map.mp h
    exact (hok r hr).q1.plain
  · obtain ⟨r, hr, rfl⟩ := List.mem_map.mp h
    exact (hok r hr).q2.plain
section
variable {w : World} {K : PySem.W.Frag} {mg : Str → Option Value} {base : Heap}
def spPair (C : Addr) : Sp := fun vs H Q _ => ∃ (x y t f : Addr) (ps : List Addr) (rs : List Row) (a b : Nm), vs = [.ref x, .ref y, .ref t, .ref f, .str (strL a), .str (strL b)] ∧ StrikesAt C H x rs ∧ StrikesAt C H y rs.reverse ∧ RowsAt H t rs ∧ H f = some (.lst (ps.map V.ref)) ∧ AllAt zHO H ps (dueL rs) ∧ rs.length ≤ 10 ∧ (∀ r ∈ rs, RowOk r) ∧ a ∈ endsOf rs ∧ b ∈ endsOf rs ∧ ∀ H', Keep [] H H' → Q (.bl true) H'
theorem ok_pair (T : Tx K mg) (G_w_paths : FnOk PG w K mg base CX0 1 T.f_w_paths T.fd_w_paths ["_law_rows_here", "_law_first"] spPathsL) (G_w_distances : FnOk PG w K mg base CX0 1 T.f_w_distances T.fd_w_distances ["_law_rows_here", "_law_tuned", "_law_path"] spDist)
    (G_possible_beats : FnOk PG w K mg base CX0 7 T.f_possible_beats T.fd_possible_beats ["strikes", "first", "second"] (spBeats T.C_Strikes)) (G_w_are_beats : FnOk PG w K mg base CX0 2 T.f_w_are_beats T.fd_w_are_beats ["_law_told_here", "_law_due_here"] spAre)
    (G_w_told : FnOk PG w K mg base CX0 8 T.f_w_told T.fd_w_told ["_law_strikes_here", "_law_first", "_law_second"] (spTold T.C_Strikes)) : FnOk PG w K mg base CX0 9 T.f_w_pair_right T.fd_w_pair_right ["_law_strikes_here", "_law_back", "_law_rows_here", "_law_tuned", "_law_first", "_law_second"] (spPair T.C_Strikes) := by
  refine T.F_w_pair_right.ok sc_w_pair_right (fun vs H Q E h => ?_) (fun cdv A outer s H vs Q E hr h => ?_)
  · obtain ⟨x, y, t, f, ps, rs, a, b, rfl, _⟩ := h; rfl
  · obtain ⟨x, y, t, f, ps, rs, a, b, rfl, sx, sy, ⟨as, et, har⟩, ef, ee, l10, hok, ha, hb, qq⟩ := h
    have lar := har.len
    refine ⟨_, (pss_cons (ps_set (i := 6) sc_w_pair_right.nd rfl (Or.inl rfl) (pe_call G_w_paths (hr.mono (by decide)) rfl T.g_w_paths T.F_w_paths.kp T.b_w_paths .nil pass0 (pa_cons (pv 2) (pa_cons (pv 4) pa_nil))))
    (pss_cons (ps_if (pt_cmp (pc_din (hu_of hr) (pv 5) (pv 6)))
    (pss_cons (ps_set (i := 7) sc_w_pair_right.nd rfl (Or.inl rfl) (pe_call G_w_distances (hr.mono (by decide)) rfl T.g_w_distances T.F_w_distances.kp T.b_w_distances .nil pass0 (pa_cons (pv 2) (pa_cons (pv 3) (pa_cons (pe_dget (hu_of hr) (pv 6) (pv 5) (fun _ _ => rfl)) pa_nil)))))
    (pss_cons (ps_set (i := 8) sc_w_pair_right.nd rfl (Or.inl rfl) (pe_call G_possible_beats (hr.mono (by decide)) rfl T.g_possible_beats T.F_possible_beats.kp T.b_possible_beats .nil pass0 (pa_cons (pv 0) (pa_cons (pv 4) (pa_cons (pv 5) pa_nil)))))
    (pss_cons (ps_if (pt_not (pt_val (pe_call G_w_are_beats (hr.mono (by decide)) rfl T.g_w_are_beats T.F_w_are_beats.kp T.b_w_are_beats .nil pass0 (pa_cons (pv 8) (pa_cons (pv 7) pa_nil)))))
    (pss_one (ps_ret pe_bl))
    pss_nil)
    (pss_cons (ps_expr (pe_bm0 PySem.F.plainAttrs_list PySem.F.slot_list_reverse PySem.F.type_list_reverse mt_reverse (pv 8)))
    (pss_cons (ps_expr (pe_bm PySem.F.plainAttrs_list PySem.F.slot_list_append PySem.F.type_list_append mt_append (pv 8) (pa_cons (pe_un un_neg pe_int) pa_nil)))
    (pss_cons (ps_if (pt_not (pt_val (pe_call G_w_are_beats (hr.mono (by decide)) rfl T.g_w_are_beats T.F_w_are_beats.kp T.b_w_are_beats .nil pass0 (pa_cons (pe_call G_possible_beats (hr.mono (by decide)) rfl T.g_possible_beats T.F_possible_beats.kp T.b_possible_beats .nil pass0 (pa_cons (pv 1) (pa_cons (pv 5) (pa_cons (pv 4) pa_nil)))) (pa_cons (pv 7) pa_nil)))))
    (pss_one (ps_ret pe_bl))
    pss_nil)
    (pss_one (ps_ret (pe_call G_w_are_beats (hr.mono (by decide)) rfl T.g_w_are_beats T.F_w_are_beats.kp T.b_w_are_beats .nil pass0 (pa_cons (pe_call G_possible_beats (hr.mono (by decide)) rfl T.g_possible_beats T.F_possible_beats.kp T.b_possible_beats .nil pass0 (pa_cons (pv 0) (pa_cons (pv 4) (pa_cons (pv 5) pa_nil)))) (pa_cons (pv 7) pa_nil)))))))))))
    pss_nil)
    (pss_cons (ps_if (pt_cmpR (op_neD hr.units) (pe_call G_w_told (hr.mono (by decide)) rfl T.g_w_told T.F_w_told.kp T.b_w_told .nil pass0 (pa_cons (pv 0) (pa_cons (pv 4) (pa_cons (pv 5) pa_nil)))) (pe_tup (pa_cons pe_str (pa_cons (pv 4) (pa_cons (pv 5) pa_nil)))) (nomark _))
    (pss_one (ps_ret pe_bl))
    pss_nil)
    (pss_one (ps_ret (pe_cmpR (op_eqD hr.units) (pe_call G_w_told (hr.mono (by decide)) rfl T.g_w_told T.F_w_told.kp T.b_w_told .nil pass0 (pa_cons (pv 1) (pa_cons (pv 5) (pa_cons (pv 4) pa_nil)))) (pe_tup (pa_cons pe_str (pa_cons (pv 5) (pa_cons (pv 4) pa_nil)))) (nomark _))))))), ?_⟩
    walk_at "start"
    walk_at "sts"
    refine ⟨t, rs, a, rfl, ⟨as, et, har⟩, l10, hok, fun d ss H1 k1 pd wp cl => ?_⟩
    obtain ⟨es, ed, eff, ea⟩ := id pd
    walk_at "sts"
    refine r_dinS ed ?_
    rw [PAt.inK eff]
    have hne : ∀ r ∈ rs, r.fst ≠ r.snd := fun r hr => (hok r hr).ne
    have hokr : ∀ r ∈ rs.reverse, RowOk r := fun r hr => hok r (List.mem_reverse.mp hr)
    have l10r : rs.reverse.length ≤ 10 := by rw [List.length_reverse]; exact l10
    have few := wp.few
    by_cases hm : b ∈ keysN ss
    · refine ⟨true, by rw [decide_eq_true hm]; rfl, ?_⟩
      rw [if_pos rfl]
      have hc := wp.conn b hm
      obtain ⟨u, stp, gu, hst, sa⟩ := PAt.get (d := d) eff ea wp.nodup hm
      have lst : stp.length + 1 ≤ ss.length := wp.len _ hst
      have lde := due_size l10
      walk_at "sts"
      refine r_dgetS ed (show valV (dN V.ref es) (nK b) = some (V.ref u) by rw [dN_val, gu]; rfl) ?_
      walk_at "sts"
      refine ⟨t, f, u, ps, rs, dueL rs, stp, rfl, ⟨as, k1 _ _ (by simp) et, har.keep0 k1⟩, k1 _ _ (by simp) ef, ee.keep0 k1, sa, fun z hz => every_mem (List.mem_filter.mp hz).1, lde, l10, hok, ⟨by omega, wp.ok _ hst⟩, fun q ns H2 k2 eq2 so mem => ?_⟩
      have mem2 : ∀ d, d ∈ ns ↔ BeatIn rs a b d := fun d => (mem d).trans (dist_beats fun z L G => wp.tele _ hst z L G)
      have k12 := k1.trans k2
      walk_at "sts"
      refine ⟨x, rs, a, b, rfl, sx.k0 k12, l10, hok, ha, hb, hc, fun p ns2 H3 k3 np ep so2 mem3 => ?_⟩
      obtain rfl : ns2 = ns := sorted_ext so2 so fun d => (mem3 d).trans (mem2 d).symm
      have eq3 := k3 _ _ (by simp) eq2
      walk_at "sts"
      refine ⟨p, q, ns2, rfl, ep, eq3, fun H4 k4 => ?_⟩
      have ep4 := k4 _ _ (by simp) ep
      walk_at "sts"
      refine r_bm0 (r_var rfl (r_tyL (sqL_of ep4) ⟨p, _, rfl, rfl, ep4, ?_⟩))
      have npq : q ≠ p := by rintro rfl; rw [eq2] at np; cases np
      have k5 : Keep [] H2 (upd H4 p (.lst (ns2.map V.int).reverse)) := (k3.trans k4).mut np
      have ep5 : upd H4 p (.lst (ns2.map V.int).reverse) p = some (.lst (ns2.map V.int).reverse) := upd_same
      generalize upd H4 p (.lst (ns2.map V.int).reverse) = H5 at k5 ep5 ⊢
      walk_at "sts"
      have lns : ns2.length ≤ 1024 := by
        have h1 : ns2.length ≤ ((dueL rs).map fun z => ((sumS rs z stp).natAbs : Int)).length := nodup_le (so.imp fun h => by omega) fun d hd => by
          obtain ⟨z, hz, e⟩ := (mem d).mp hd
          exact List.mem_map.mpr ⟨z, hz, e.symm⟩
        rw [List.length_map] at h1
        omega
      refine r_app ep5 (by rw [List.length_reverse, List.length_map]; exact lt_size (by omega)) ?_
      have k6 : Keep [] H2 (upd H5 p (.lst ((ns2.map V.int).reverse ++ [.int (-1)]))) := k5.mut np
      generalize upd H5 p (.lst ((ns2.map V.int).reverse ++ [.int (-1)])) = H6 at k6 ⊢
      have k16 := k12.trans k6
      have eq6 := k6 _ _ (by simp) eq2
      walk_at "sts"
      refine ⟨y, rs.reverse, b, a, rfl, sy.k0 k16, l10r, hokr, ends_rev.mpr hb, ends_rev.mpr ha, conn_rev (hc.symm hne), fun p3 ns3 H7 k7 np3 ep7 so7 mem7 => ?_⟩
      obtain rfl : ns3 = ns2 := sorted_ext so7 so fun d => ((mem7 d).trans beat_rev_iff).trans (mem2 d).symm
      have eq7 := k7 _ _ (by simp) eq6
      walk_at "sts"
      refine ⟨p3, q, ns3, rfl, ep7, eq7, fun H8 k8 => ?_⟩
      have k18 := (k16.trans k7).trans k8
      have eq8 := k8 _ _ (by simp) eq7
      walk_at "sts"
      refine ⟨x, rs, a, b, rfl, sx.k0 k18, l10, hok, ha, hb, hc, fun p4 ns4 H9 k9 np4 ep9 so9 mem9 => ?_⟩
      obtain rfl : ns4 = ns3 := sorted_ext so9 so fun d => (mem9 d).trans (mem2 d).symm
      walk_at "sts"
      exact ⟨p4, q, ns4, rfl, ep9, k9 _ _ (by simp) eq8, fun H10 k10 => qq H10 ((k18.trans k9).trans k10)⟩
    · refine ⟨false, by rw [decide_eq_false hm]; rfl, ?_⟩
      rw [if_neg (by decide)]
      have hc : ¬ Conn rs a b := fun c => hm (cl.all wp.start c)
      have pla := plain_end hok ha
      have plb := plain_end hok hb
      walk_at "sts"
      refine ⟨x, rs, a, b, _, rfl, sx.k0 k1, l10, hok, pla, plb, .inr (.inr ⟨ha, hb, fun c => hc (c.symm hne), rfl⟩), fun p H2 k2 ep => ?_⟩
      walk_at "sts"
      intro o no
      have k3 : Keep [] H2 (upd H2 o (.tup [.str (Str.ofString "NoWalk"), .str (strL a), .str (strL b)])) := Keep.new no
      refine r_neSameT (k3 _ _ (by simp) ep) upd_same (flat_nw pla plb) ?_
      have k13 := (k1.trans k2).trans k3
      generalize upd H2 o (.tup [.str (Str.ofString "NoWalk"), .str (strL a), .str (strL b)]) = H3 at k13 ⊢
      walk_at "sts"
      refine ⟨y, rs.reverse, b, a, _, rfl, sy.k0 k13, l10r, hokr, plb, pla, .inr (.inr ⟨ends_rev.mpr hb, ends_rev.mpr ha, fun c => hc (conn_rev_iff.mp c), rfl⟩), fun p2 H4 k4 ep2 => ?_⟩
      walk_at "sts"
      intro o2 no2
      have k5 : Keep [] H4 (upd H4 o2 (.tup [.str (Str.ofString "NoWalk"), .str (strL b), .str (strL a)])) := Keep.new no2
      refine r_eqSameT (k5 _ _ (by simp) ep2) upd_same (flat_nw plb pla) ?_
      exact qq _ ((k13.trans k4).trans k5)
end
/-! ### the law -/
def spLaw (K : PySem.W.Frag) : Sp := fun vs H Q _ => ∃ (p : Addr) (ns : List Int), vs = [.ref p] ∧ SqL K H p (ns.map V.int) ∧ ns.length ≤ 63 ∧ ∀ H', Q (.bl true) H'
def LawEnv (C a q x y rp np f : Addr) (rs : List Row) (ns : List Nm) (ps : List Addr) (H : Hp) : Prop := BoxAt a q H ∧ StrikesAt C H x rs ∧ StrikesAt C H y rs.reverse ∧ RowsAt H rp rs ∧ H np = some (.lst (ns.map nV)) ∧ H f = some (.lst (ps.map V.ref)) ∧ AllAt zHO H ps (dueL rs)
theorem box_ins {a q x C dx : Addr} {H : Hp} {fs : List (Str × V)} (b : BoxAt a q H) (e : H x = some (.ins C dx fs)) : x ∉ [a, q] := by
  obtain ⟨ns, _, _, _, e1, e2, _⟩ := b
  simp only [List.mem_cons, List.not_mem_nil, or_false, not_or]
  exact ⟨(by rintro rfl; rw [e1] at e; cases e), (by rintro rfl; rw [e2] at e; cases e)⟩
theorem AllAt.rev {α : Type} {f : α → HO} {H : Hp} : ∀ {as : List Addr} {xs : List α}, AllAt f H as xs → AllAt f H as.reverse xs.reverse
  | [], [], _ => trivial
  | a :: as, x :: xs, h => by
    rw [List.reverse_cons, List.reverse_cons]
    exact AllAt.app (AllAt.rev h.2) ⟨h.1, trivial⟩
  | [], _ :: _, h => h.elim
  | _ :: _, [], h => h.elim
theorem r_eqNilN {K : PySem.W.Frag} {H : Hp} {Q : VK} {p q : Addr} {us : List Nm} (hp : H p = some (.lst (us.map nV))) (hs : ∀ u ∈ us, Plain u) (hq : H q = some (.lst [])) (k : Q (.bl (decide (us = []))) H) : rEqD K (.ref p) (.ref q) H Q := by
  refine r_eqL (sqL_of hp) (sqL_of hq) ?_ rfl (b := decide (us = [])) ?_ k
  · rw [List.all_eq_true]; intro x hx; obtain ⟨u, hu, rfl⟩ := List.mem_map.mp hx; exact flat_s (hs u hu)
  · cases us <;> rfl
theorem r_neNilN {K : PySem.W.Frag} {H : Hp} {Q : VK} {p q : Addr} {us : List Nm} (hp : H p = some (.lst (us.map nV))) (hs : ∀ u ∈ us, Plain u) (hq : H q = some (.lst [])) (k : Q (.bl (!decide (us = []))) H) : rNeD K (.ref p) (.ref q) H Q := by
  refine r_neL (sqL_of hp) (sqL_of hq) ?_ rfl (b := decide (us = [])) ?_ k
  · rw [List.all_eq_true]; intro x hx; obtain ⟨u, hu, rfl⟩ := List.mem_map.mp hx; exact flat_s (hs u hu)
  · cases us <;> rfl
theorem r_tC2 {c : Bool} {i j : Int} {σ : L2.St} {H : Hp} {Q : VK} (k : ∀ v : Int, (c = true → v = i) → (c = false → v = j) → Q (.int v) H) : if c = true then tC (V.int i) σ H Q else tC (V.int j) σ H Q := by
  cases c with
  | true => rw [if_pos rfl]; exact r_c (k i (fun _ => rfl) fun e => nomatch e)
  | false => rw [if_neg (by decide)]; exact r_c (k j (fun e => nomatch e) fun _ => rfl)
theorem r_setIf {c : Bool} {i v0 : Int} {l : Nat} {D : Ends} {σ : L2.St} {H : Hp} (hs : σ.set l (some (.int v0)) = σ) (k : ∀ v : Int, (c = true → v = i) → (c = false → v = v0) → D.nx (σ.set l (some (.int v))) H) : if c = true then tAsg (tC (V.int i)) (gName l) D σ H else tNext D σ H := by
  cases c with
  | true => rw [if_pos rfl]; exact r_asg (r_c (k i (fun _ => rfl) fun e => nomatch e))
  | false =>
    rw [if_neg (by decide)]
    have := k v0 (fun e => nomatch e) fun _ => rfl
    rw [hs] at this
    exact this
theorem flat_nq {a : Nm} (pa : Plain a) : ([.str (Str.ofString "NoQuantity"), .str (strL a)] : List V).all flatV = true := by
  show (flatV (V.str (Str.ofString "NoQuantity")) && (flatV (V.str (strL a)) && true)) = true
  rw [flat_s pa]; decide +kernel
theorem cap_not {rs : List Row} (hok : ∀ r ∈ rs, RowOk r) {c : Nat} (hc : c ∉ lettersL) : [c] ∉ endsOf rs := fun h => by
  unfold endsOf at h
  rcases List.mem_append.mp h with h | h
  · obtain ⟨r, hr, e⟩ := List.mem_map.mp h
    exact hc ((hok r hr).q1.hd c (by rw [e]; rfl))
  · obtain ⟨r, hr, e⟩ := List.mem_map.mp h
    exact hc ((hok r hr).q2.hd c (by rw [e]; rfl))
theorem nil_not {rs : List Row} (hok : ∀ r ∈ rs, RowOk r) : [] ∉ endsOf rs := fun h => by
  unfold endsOf at h
  rcases List.mem_append.mp h with h | h
  · obtain ⟨r, hr, e⟩ := List.mem_map.mp h
    have := (hok r hr).q1.l1
    rw [e] at this; simp at this
  · obtain ⟨r, hr, e⟩ := List.mem_map.mp h
    have := (hok r hr).q2.l1
    rw [e] at this; simp at this
theorem eqv_r : ∀ {rs : List Row}, PyData.eqvAll (rs.map rD) (rs.map rD) = true
  | [] => rfl
  | r :: rs => by
    have ih := eqv_r (rs := rs)
    simp [rD, PyData.eqvAll, PyData.eqv] at ih ⊢
    exact ih
theorem r_eqRows {K : PySem.W.Frag} {H : Hp} {Q : VK} {p q : Addr} {as bs : List Addr} {rs : List Row} (hp : H p = some (.lst (as.map V.ref))) (ha : AllAt rHO H as rs) (hq : H q = some (.lst (bs.map V.ref))) (hb : AllAt rHO H bs rs) (hr : ∀ r ∈ rs, RowOk r) (k : Q (.bl true) H) : rEqD K (.ref p) (.ref q) H Q :=
  ⟨_, _, .lst (sqL_of hp) (dp_r ha), .lst (sqL_of hq) (dp_r hb), shaped_r hr, shaped_r hr, by rw [eqvL, eqv_r]; exact k⟩
theorem StrikesAt.kb {C x a q : Addr} {H H' : Hp} {rs : List Row} (h : StrikesAt C H x rs) (b : BoxAt a q H) (k : Keep [a, q] H H') : StrikesAt C H' x rs := by
  obtain ⟨dx, t, as, e, et, ea⟩ := h
  exact ⟨dx, t, as, k _ _ (box_ins b e) e, k _ _ (b.nt et) et, ea.mono fun c r _ _ ec => k _ _ (b.nt ec) ec⟩
theorem LawEnv.kb {C a q x y rp np f : Addr} {rs : List Row} {ns : List Nm} {ps : List Addr} {H H' : Hp} (nr : rp ∉ [a, q]) (nn : np ∉ [a, q]) (nf : f ∉ [a, q]) (h : LawEnv C a q x y rp np f rs ns ps H) (k : Keep [a, q] H H') (b' : BoxAt a q H') : LawEnv C a q x y rp np f rs ns ps H' := by
  obtain ⟨b, sx, sy, ⟨as, er, ea⟩, en, ef, ee⟩ := h
  exact ⟨b', sx.kb b k, sy.kb b k, ⟨as, k _ _ nr er, ea.mono fun c r _ _ ec => k _ _ (b.nt ec) ec⟩, k _ _ nn en, k _ _ nf ef, ee.mono fun c r _ _ ec => k _ _ (b.nt ec) ec⟩
theorem LawEnv.k0 {C a q x y rp np f : Addr} {rs : List Row} {ns : List Nm} {ps : List Addr} {H H' : Hp} (h : LawEnv C a q x y rp np f rs ns ps H) (k : Keep [] H H') : LawEnv C a q x y rp np f rs ns ps H' := by
  obtain ⟨b, sx, sy, ⟨as, er, ea⟩, en, ef, ee⟩ := h
  exact ⟨b.keep0 k, sx.k0 k, sy.k0 k, ⟨as, k _ _ (by simp) er, ea.keep0 k⟩, k _ _ (by simp) en, k _ _ (by simp) ef, ee.keep0 k⟩
section
variable {w : World} {K : PySem.W.Frag} {mg : Str → Option Value} {base : Heap}
theorem ok_law (T : Tx K mg) (G_w_draw : FnOk PG w K mg base CX0 1 T.f_w_draw T.fd_w_draw ["_law_box", "_law_size"] spDr) (G_w_rows : FnOk PG w K mg base CX0 4 T.f_w_rows T.fd_w_rows ["_law_box"] spRows)
    (G_w_quantities : FnOk PG w K mg base CX0 1 T.f_w_quantities T.fd_w_quantities ["_law_rows_here"] spQuantities) (G_w_strikes : FnOk PG w K mg base CX0 8 T.f_w_strikes T.fd_w_strikes ["_law_r"] (spLawS T.C_Strikes 10))
    (G_w_due : FnOk PG w K mg base CX0 2 T.f_w_due T.fd_w_due ["_law_rows_here"] spDue) (G_w_pair_right : FnOk PG w K mg base CX0 9 T.f_w_pair_right T.fd_w_pair_right ["_law_strikes_here", "_law_back", "_law_rows_here", "_law_tuned", "_law_first", "_law_second"] (spPair T.C_Strikes))
    (G_w_fresh : FnOk PG w K mg base CX0 2 T.f_w_fresh T.fd_w_fresh ["_law_box", "_law_ends_here", "_law_taken"] spFresh) (G_w_ends : FnOk PG w K mg base CX0 2 T.f_w_ends T.fd_w_ends ["_law_box"] spEndsL)
    (G_w_told : FnOk PG w K mg base CX0 8 T.f_w_told T.fd_w_told ["_law_strikes_here", "_law_first", "_law_second"] (spTold T.C_Strikes)) : FnOk PG w K mg base CX0 10 T.f_law T.fd_law ["_law_script"] (spLaw K) := by
  refine T.F_law.ok sc_law (fun vs H Q E h => ?_) (fun cdv A outer s H vs Q E hr h => ?_)
  · obtain ⟨p, ns, rfl, _⟩ := h; rfl
  · obtain ⟨p, ns, rfl, hp, hn, qq⟩ := h
    have oc := T.oc_Strikes
    have na := T.na_Strikes_rows
    refine ⟨_, (pss_cons (ps_set (i := 1) sc_law.nd rfl (Or.inl rfl) (pe_lst (pa_cons (pe_callTy call_list_of (by rfl) T.m_list (by decide +kernel) (pa_cons (pv 0) pa_nil)) (pa_cons pe_int (pa_cons pe_int (pa_cons pe_int pa_nil))))))
    (pss_cons (ps_set (i := 2) sc_law.nd rfl (Or.inr rfl) (pe_call G_w_rows (hr.mono (by decide)) rfl T.g_w_rows T.F_w_rows.kp T.b_w_rows .nil pass0 (pa_cons (pv 1) pa_nil)))
    (pss_cons (ps_set (i := 3) sc_law.nd rfl (Or.inl rfl) (pe_call G_w_quantities (hr.mono (by decide)) rfl T.g_w_quantities T.F_w_quantities.kp T.b_w_quantities .nil pass0 (pa_cons (pv 2) pa_nil)))
    (pss_cons (ps_set (i := 4) sc_law.nd rfl (Or.inl rfl) (pe_call G_w_strikes (hr.mono (by decide)) rfl T.g_w_strikes T.F_w_strikes.kp T.b_w_strikes .nil pass0 (pa_cons (pv 2) pa_nil)))
    (pss_cons (ps_set (i := 5) sc_law.nd rfl (Or.inl rfl) (pe_call G_w_strikes (hr.mono (by decide)) rfl T.g_w_strikes T.F_w_strikes.kp T.b_w_strikes .nil pass0 (pa_cons (pe_lc (own := [("_law_k", 6)]) (g := gName 6) (tt := tYes) rfl sc_law.nd (pi_range1 rfl T.m_range (pa_cons (pe_callB call_len_seq (by rfl) T.m_len PySem.boot_len (pa_cons (pv 2) pa_nil)) pa_nil)) (blkOk_by (own := [("_law_k", 6)]) (N := ["_law_script", "_law_box", "_law_rows_here", "_law_names_here", "_law_strikes_here", "_law_back", "_law_k", "_law_tuned", "_law_many", "_law_pairs", "_law_j", "_law_first", "_law_second", "_law_odd", "_law_name"]) (sc := defScope s_law) (by decide +kernel)) (fun _ _ _ _ _ => pg_name (i := 6) sc_law.nd rfl (Or.inl rfl)) (fun _ _ _ _ _ => pts_nil) (fun _ _ _ _ _ => (pe_ix (ix_listK (K := K) rfl) (pv 2) (pe_op op_sub (pe_op op_sub (pe_callB (call_len_seqK (K := K) rfl) (by rfl) T.m_len PySem.boot_len (pa_cons (pv 2) pa_nil)) pe_int) (pv 6)) (fun _ _ => rfl)))) pa_nil)))
    (pss_cons (ps_set (i := 7) sc_law.nd rfl (Or.inl rfl) (pe_call G_w_due (hr.mono (by decide)) rfl T.g_w_due T.F_w_due.kp T.b_w_due .nil pass0 (pa_cons (pv 2) pa_nil)))
    (pss_cons (ps_set (i := 8) sc_law.nd rfl (Or.inl rfl) (pe_callB call_len_seq (by rfl) T.m_len PySem.boot_len (pa_cons (pv 3) pa_nil)))
    (pss_cons (ps_set (i := 9) sc_law.nd rfl (Or.inl rfl) (pe_ifExp (pt_cmpR (op_eqD hr.units) (pv 3) (pe_lst pa_nil) (nomark _)) pe_int pe_int))
    (pss_cons (ps_if (pt_cmpR op_gt (pe_callB call_len_seq (by rfl) T.m_len PySem.boot_len (pa_cons (pv 2) pa_nil)) pe_int (nomark _))
    (pss_one (ps_set (i := 9) sc_law.nd rfl (Or.inl rfl) pe_int))
    pss_nil)
    (pss_cons (ps_for PassesOwn.never rfl (pi_range1 rfl T.m_range (pa_cons (pv 9) pa_nil)) (pg_name (i := 10) sc_law.nd rfl (Or.inl rfl))
    (pss_cons (ps_set (i := 11) sc_law.nd rfl (Or.inl rfl) (pe_ix ix_list (pv 3) (pe_op op_mod (pe_callTy call_int1 (by rfl) T.m_int (by decide +kernel) (pa_cons (pe_op op_add (pv 10) (pe_call G_w_draw (hr.mono (by decide)) rfl T.g_w_draw T.F_w_draw.kp T.b_w_draw .nil pass0 (pa_cons (pv 1) (pa_cons (pv 8) pa_nil)))) pa_nil)) (pv 8)) (fun _ _ => rfl)))
    (pss_cons (ps_set (i := 12) sc_law.nd rfl (Or.inl rfl) (pe_ix ix_list (pv 3) (pe_op op_mod (pe_callTy call_int1 (by rfl) T.m_int (by decide +kernel) (pa_cons (pe_op op_add (pe_op op_add (pe_op op_mul pe_int (pv 10)) pe_int) (pe_call G_w_draw (hr.mono (by decide)) rfl T.g_w_draw T.F_w_draw.kp T.b_w_draw .nil pass0 (pa_cons (pv 1) (pa_cons (pv 8) pa_nil)))) pa_nil)) (pv 8)) (fun _ _ => rfl)))
    (pss_one (ps_if (pt_not (pt_val (pe_call G_w_pair_right (hr.mono (by decide)) rfl T.g_w_pair_right T.F_w_pair_right.kp T.b_w_pair_right .nil pass0 (pa_cons (pv 4) (pa_cons (pv 5) (pa_cons (pv 2) (pa_cons (pv 7) (pa_cons (pv 11) (pa_cons (pv 12) pa_nil)))))))))
    (pss_one (ps_ret pe_bl))
    pss_nil)))))
    (pss_cons (ps_set (i := 13) sc_law.nd rfl (Or.inl rfl) (pe_ix ix_list (pe_lst (pa_cons pe_str (pa_cons pe_str (pa_cons (pe_call G_w_fresh (hr.mono (by decide)) rfl T.g_w_fresh T.F_w_fresh.kp T.b_w_fresh .nil pass0 (pa_cons (pv 1) (pa_cons (pe_call G_w_ends (hr.mono (by decide)) rfl T.g_w_ends T.F_w_ends.kp T.b_w_ends .nil pass0 (pa_cons (pv 1) pa_nil)) (pa_cons (pv 3) pa_nil)))) pa_nil)))) (pe_call G_w_draw (hr.mono (by decide)) rfl T.g_w_draw T.F_w_draw.kp T.b_w_draw .nil pass0 (pa_cons (pv 1) (pa_cons pe_int pa_nil))) (fun _ _ => rfl)))
    (pss_cons (ps_if (pt_cmpR (op_neD hr.units) (pe_call G_w_told (hr.mono (by decide)) rfl T.g_w_told T.F_w_told.kp T.b_w_told .nil pass0 (pa_cons (pv 4) (pa_cons (pv 13) (pa_cons pe_str pa_nil)))) (pe_tup (pa_cons pe_str (pa_cons (pv 13) pa_nil))) (nomark _))
    (pss_one (ps_ret pe_bl))
    pss_nil)
    (pss_cons (ps_if (pt_cmpR (op_neD hr.units) (pe_call G_w_told (hr.mono (by decide)) rfl T.g_w_told T.F_w_told.kp T.b_w_told .nil pass0 (pa_cons (pv 4) (pa_cons pe_str (pa_cons (pv 13) pa_nil)))) (pe_tup (pa_cons pe_str (pa_cons pe_str pa_nil))) (nomark _))
    (pss_one (ps_ret pe_bl))
    pss_nil)
    (pss_cons (ps_if (pt_cmpR (op_neD hr.units) (pv 3) (pe_lst pa_nil) (nomark _))
    (pss_cons (ps_set (i := 14) sc_law.nd rfl (Or.inl rfl) (pe_ix ix_list (pv 3) (pe_call G_w_draw (hr.mono (by decide)) rfl T.g_w_draw T.F_w_draw.kp T.b_w_draw .nil pass0 (pa_cons (pv 1) (pa_cons (pv 8) pa_nil))) (fun _ _ => rfl)))
    (pss_cons (ps_if (pt_cmpR (op_neD hr.units) (pe_call G_w_told (hr.mono (by decide)) rfl T.g_w_told T.F_w_told.kp T.b_w_told .nil pass0 (pa_cons (pv 4) (pa_cons (pv 14) (pa_cons (pv 13) pa_nil)))) (pe_tup (pa_cons pe_str (pa_cons (pv 13) pa_nil))) (nomark _))
    (pss_one (ps_ret pe_bl))
    pss_nil)
    (pss_one (ps_if (pt_cmpR (op_neD hr.units) (pe_call G_w_told (hr.mono (by decide)) rfl T.g_w_told T.F_w_told.kp T.b_w_told .nil pass0 (pa_cons (pv 4) (pa_cons (pv 13) (pa_cons (pv 14) pa_nil)))) (pe_tup (pa_cons pe_str (pa_cons (pv 13) pa_nil))) (nomark _))
    (pss_one (ps_ret pe_bl))
    pss_nil))))
    pss_nil)
    (pss_one (ps_ret (pe_cmpR (op_eqD hr.units) (pe_callTy call_list_of (by rfl) T.m_list (by decide +kernel) (pa_cons (pe_fld (pv 4) rfl) pa_nil)) (pv 2) (nomark _)))))))))))))))))), ?_⟩
    walk_at "start"
    walk_at "sts"
    intro q nq
    walk_at "sts"
    intro a na0
    have b1 : BoxAt a q (upd (upd H q (.lst (ns.map V.int))) a (.lst [.ref q, .int 0, .int 0, .int 0])) := by
      refine ⟨ns, 0, 0, 0, upd_same, ?_, by omega, by omega, by omega, by omega, by omega, hn⟩
      rw [upd_ne (by rintro rfl; rw [upd_same] at na0; cases na0), upd_same]
    generalize upd (upd H q (.lst (ns.map V.int))) a (.lst [.ref q, .int 0, .int 0, .int 0]) = H1 at b1 ⊢
    clear nq na0
    walk_at "sts"
    refine ⟨a, q, rfl, b1, fun rp rs H2 l10 hok k2 b2 nrp rat => ?_⟩
    have nr := b1.ne nrp
    walk_at "sts"
    refine ⟨rp, rs, rfl, rat, l10, hok, fun np nm H3 k3 nnp nat isn => ?_⟩
    have nn := b2.ne nnp
    have b3 := b2.keep0 k3
    walk_at "sts"
    obtain ⟨as, er, ear⟩ := rat
    have lar := ear.len
    refine ⟨rp, rs, rfl, ⟨as, k3 _ _ (by simp) er, ear.keep0 k3⟩, l10, hok, fun x H4 k4 nx sx => ?_⟩
    have b4 := b3.keep0 k4
    have k24 := k3.trans k4
    have er4 := k24 _ _ (by simp) er
    walk_at "sts"
    refine lcR1_go (fun D i acc H' => acc = (as.reverse.map V.ref).take i ∧ Keep [] H4 H' ∧ H4 D = none) (by rw [List.length_map]; omega) (fun D nD => ⟨rfl, Keep.new nD, nD⟩) ?_ ?_
    · rintro D i acc H' hi hD ⟨rfl, k5, nD⟩
      rw [List.length_map, lar] at hi
      have hi : i < rs.length := by omega
      obtain ⟨b, hb⟩ : ∃ b, as[rs.length - 1 - i]? = some b := ⟨_, List.getElem?_eq_getElem (by omega)⟩
      have hvb : (as.map V.ref)[rs.length - 1 - i]? = some (.ref b) := by rw [List.getElem?_map, hb]; rfl
      have hrb : (as.reverse.map V.ref)[i]? = some (.ref b) := by
        rw [List.getElem?_map, List.getElem?_reverse (by omega), lar, hb]; rfl
      have er5 := k5 _ _ (by simp) er4
      simp only [L2.wipe, List.map_cons, List.map_nil, List.set_cons_zero, List.set_cons_succ]
      walk_at "sts"
      refine ⟨rfl, ?_⟩
      refine r_yes ?_
      rw [if_pos rfl]
      walk_at "sts"
      rw [show ((as.map V.ref).length : Int) - 1 - (i : Int) = ((rs.length - 1 - i : Nat) : Int) by rw [List.length_map, lar]; omega]
      refine r_ixL (sqL_of er5) (atI_nat hvb) ?_
      exact lc_put hD (by rw [List.length_take, List.length_map, List.length_reverse]; exact lt_size (by omega)) ⟨(take_s hrb).symm, k5.mut nD, nD⟩
    rintro D acc H5 nD hD ⟨rfl, k5, _⟩
    rw [List.length_map, lar, Int.toNat_natCast, List.take_of_length_le (by rw [List.length_map, List.length_reverse]; omega)] at hD
    have k25 := k24.trans k5
    have b5 := b4.keep0 k5
    have hokr : ∀ r ∈ rs.reverse, RowOk r := fun r hr => hok r (List.mem_reverse.mp hr)
    walk_at "sts"
    refine ⟨D, rs.reverse, rfl, ⟨as.reverse, hD, (ear.keep0 k25).rev⟩, by rw [List.length_reverse]; exact l10, hokr, fun y H6 k6 ny sy => ?_⟩
    have k26 := k25.trans k6
    have b6 := b5.keep0 k6
    walk_at "sts"
    refine ⟨rp, rs, rfl, ⟨as, k26 _ _ (by simp) er, ear.keep0 k26⟩, l10, hok, fun f ps H7 k7 nf0 ef ee => ?_⟩
    have nf := b6.ne nf0
    have k27 := k26.trans k7
    have E7 : LawEnv T.C_Strikes a q x y rp np f rs nm ps H7 := ⟨b6.keep0 k7, sx.k0 ((k5.trans k6).trans k7), sy.k0 k7, ⟨as, k27 _ _ (by simp) er, ear.keep0 k27⟩, (((k4.trans k5).trans k6).trans k7) _ _ (by simp) nat, ef, ee⟩
    have hlr : (as.map V.ref).length = rs.length := by rw [List.length_map, lar]
    have er7 := k27 _ _ (by simp) er
    clear b1 b2 b3 b4 b5 b6 k2 k3 k4 k5 k6 k7 k24 k25 k26 k27 nrp nnp nx ny nf0 sx sy ef ee er ear nat nD hD er4
    obtain ⟨nd, hmem, _⟩ := id isn
    have mem : ∀ {u : Nm}, u ∈ nm ↔ u ∈ endsOf rs := fun {u} => ends_iff isn
    have pln : ∀ u ∈ nm, Plain u := fun u hu => plain_end hok (mem.mp hu)
    have lnm : nm.length ≤ 20 := by
      have := nodup_le nd (xs := endsOf rs) fun u hu => mem.mp hu
      rw [ends_len] at this; omega
    have en7 := E7.2.2.2.2.1
    walk_at "sts"
    intro e0 n0
    have k8 : Keep [] H7 (upd H7 e0 (.lst [])) := Keep.new n0
    refine r_eqNilN (k8 _ _ (by simp) en7) pln upd_same ?_
    have E8 := E7.k0 k8
    have er8 := k8 _ _ (by simp) er7
    generalize upd H7 e0 (.lst []) = H8 at E8 er8 ⊢
    clear E7 k8 er7 en7 n0
    walk_at "sts"
    refine r_tC2 fun v1 v1t v1f => ?_
    walk_at "sts"
    refine r_setIf (v0 := v1) (by first | exact rfl | trivial) fun v2 v2t v2f => ?_
    simp only [List.set_cons_zero, List.set_cons_succ]
    have hne : rs ≠ [] → nm ≠ [] := fun hr hm => by
      cases rs with
      | nil => exact hr rfl
      | cons r rs =>
        have : r.fst ∈ nm := mem.mpr (by unfold endsOf; simp)
        rw [hm] at this; simp at this
    have v2b : 0 ≤ v2 ∧ v2 ≤ 4 ∧ (0 < v2 → nm ≠ []) := by
      rw [hlr] at v2t v2f
      by_cases c6 : (6 : Int) < (rs.length : Int)
      · have := v2t (decide_eq_true c6)
        refine ⟨by omega, by omega, fun _ => hne fun e => ?_⟩
        rw [e] at c6; simp at c6
      · have e2 := v2f (decide_eq_false c6)
        by_cases cn : nm = []
        · have := v1t (decide_eq_true cn); exact ⟨by omega, by omega, fun h => by omega⟩
        · have := v1f (decide_eq_false cn); exact ⟨by omega, by omega, fun _ => cn⟩
    obtain ⟨p0, p4, pne⟩ := v2b
    have hmn : ((nm.map nV).length : Int) = (nm.length : Int) := by rw [List.length_map]
    rw [hmn]
    clear v1t v1f v2t v2f
    walk_at "sts"
    refine forR1_go (fun i σ' H' => ∃ y6 y10 y11 y12 y13 y14 : Option V, σ' = [some (.ref p), some (.ref a), some (.ref rp), some (.ref np), some (.ref x), some (.ref y), y6, some (.ref f), some (.int (nm.length : Int)), some (.int v2), y10, y11, y12, y13, y14] ∧ LawEnv T.C_Strikes a q x y rp np f rs nm ps H' ∧ H' rp = some (.lst (as.map V.ref))) (by omega)
      ⟨_, _, _, _, _, _, by first | exact rfl | trivial, E8, er8⟩ ?_ ?_
    · clear E8 er8
      rintro i σ' H9 hi ⟨y6, y10, y11, y12, y13, y14, rfl, E9, er9⟩
      have nmne := pne (by omega)
      have l0 : 0 < nm.length := List.length_pos_iff.mpr nmne
      have big : (20 : Int) < 2 ^ 200 := by decide
      walk_at "sts"
      refine r_dr E9.1 (by omega) (by omega) fun r1 H10 r10 r11 k10 b10 => ?_
      have E10 := E9.kb nr nn nf k10 b10
      walk_at "sts"
      have f0 : 0 ≤ ((i : Int) + r1) % (nm.length : Int) := Int.emod_nonneg _ (by omega)
      have f1 : ((i : Int) + r1) % (nm.length : Int) < (nm.length : Int) := Int.emod_lt_of_pos _ (by omega)
      generalize ((i : Int) + r1) % (nm.length : Int) = fa at f0 f1 ⊢
      obtain ⟨s1, hs1⟩ : ∃ s, nm[fa.toNat]? = some s := ⟨_, List.getElem?_eq_getElem (by omega)⟩
      refine r_ixL (v := V.str (strL s1)) (sqL_of E10.2.2.2.2.1) (atI_at f0 (by rw [List.getElem?_map, hs1]; rfl)) ?_
      walk_at "sts"
      refine r_dr E10.1 (by omega) (by omega) fun r2 H11 r20 r21 k11 b11 => ?_
      have E11 := E10.kb nr nn nf k11 b11
      walk_at "sts"
      have g0 : 0 ≤ (2 * (i : Int) + 1 + r2) % (nm.length : Int) := Int.emod_nonneg _ (by omega)
      have g1 : (2 * (i : Int) + 1 + r2) % (nm.length : Int) < (nm.length : Int) := Int.emod_lt_of_pos _ (by omega)
      generalize (2 * (i : Int) + 1 + r2) % (nm.length : Int) = ga at g0 g1 ⊢
      obtain ⟨s2, hs2⟩ : ∃ s, nm[ga.toNat]? = some s := ⟨_, List.getElem?_eq_getElem (by omega)⟩
      refine r_ixL (v := V.str (strL s2)) (sqL_of E11.2.2.2.2.1) (atI_at g0 (by rw [List.getElem?_map, hs2]; rfl)) ?_
      walk_at "sts"
      refine ⟨x, y, rp, f, ps, rs, s1, s2, rfl, E11.2.1, E11.2.2.1, E11.2.2.2.1, E11.2.2.2.2.2.1, E11.2.2.2.2.2.2, l10, hok, mem.mp (List.mem_of_getElem? hs1), mem.mp (List.mem_of_getElem? hs2), fun H12 k12 => ?_⟩
      walk_at "sts"
      exact ⟨_, _, _, _, _, _, by first | exact rfl | trivial, E11.k0 k12, k12 _ _ (by simp) (k11 _ _ nr (k10 _ _ nr er9))⟩
    · rintro σ' H9 ⟨y6, y10, y11, y12, y13, y14, rfl, E9, er9⟩
      clear E8 er8
      walk_at "sts"
      refine ⟨a, q, rfl, E9.1, fun ep hh tt H10 hok1 tok k10 b10 nep eep => ?_⟩
      have E10 := E9.kb nr nn nf k10 b10
      have nep2 := E9.1.ne nep
      walk_at "sts"
      refine ⟨a, q, ep, np, hh, tt, nm, rfl, E10.1, eep, hok1, tok, E10.2.2.2.2.1, lnm, fun u hu => ?_, nn, nep2, fun sf H11 hsf nsf k11 b11 => ?_⟩
      · have := mem.mp hu
        unfold endsOf at this
        rcases List.mem_append.mp this with h | h
        · obtain ⟨r, hr, rfl⟩ := List.mem_map.mp h
          exact (hok r hr).q1
        · obtain ⟨r, hr, rfl⟩ := List.mem_map.mp h
          exact (hok r hr).q2
      have E11 := E10.kb nr nn nf k11 b11
      walk_at "sts"
      intro lp nlp
      have k12 : Keep [] H11 (upd H11 lp (.lst [.str (Str.ofString ""), .str (Str.ofString "A"), .str (strL sf)])) := Keep.new nlp
      have elp : upd H11 lp (.lst [.str (Str.ofString ""), .str (Str.ofString "A"), .str (strL sf)]) lp = some (.lst (([[], [65], sf] : List Nm).map nV)) := by rw [upd_same]; rfl
      have nlp2 := E11.1.ne nlp
      have E12 := E11.k0 k12
      generalize upd H11 lp (.lst [.str (Str.ofString ""), .str (Str.ofString "A"), .str (strL sf)]) = H12 at E12 elp ⊢
      walk_at "sts"
      refine r_dr (n := 3) E12.1 (by decide) (by decide) fun r1 H13 r10 r11 k13 b13 => ?_
      have E13 := E12.kb nr nn nf k13 b13
      have elp13 := k13 _ _ nlp2 elp
      walk_at "sts"
      obtain ⟨od, hod, pod, nod⟩ : ∃ od, ([[], [65], sf] : List Nm)[r1.toNat]? = some od ∧ Plain od ∧ od ∉ endsOf rs := by
        have h3 : r1.toNat < 3 := by omega
        match r1.toNat, h3 with
        | 0, _ => exact ⟨[], rfl, ⟨by decide, by simp⟩, nil_not hok⟩
        | 1, _ => exact ⟨[65], rfl, ⟨by decide, by decide⟩, cap_not hok (by decide +kernel)⟩
        | 2, _ => exact ⟨sf, rfl, hsf.plain, fun h => nsf (mem.mpr h)⟩
      have pB : Plain [66] := ⟨by decide, by decide⟩
      have nB : [66] ∉ endsOf rs := cap_not hok (by decide +kernel)
      refine r_ixL (v := V.str (strL od)) (sqL_of elp13) (atI_at r10 (by rw [List.getElem?_map, hod]; rfl)) ?_
      walk_at "sts"
      refine ⟨x, rs, od, [66], _, rfl, E13.2.1, l10, hok, pod, pB, .inl ⟨nod, rfl⟩, fun t1 H14 k14 e14 => ?_⟩
      have E14 := E13.k0 k14
      walk_at "sts"
      intro t2 nt2
      have k15 : Keep [] H14 (upd H14 t2 (.tup [.str (Str.ofString "NoQuantity"), .str (strL od)])) := Keep.new nt2
      refine r_neSameT (k15 _ _ (by simp) e14) upd_same (flat_nq pod) ?_
      have E15 := E14.k0 k15
      generalize upd H14 t2 (.tup [.str (Str.ofString "NoQuantity"), .str (strL od)]) = H15 at E15 ⊢
      walk_at "sts"
      refine ⟨x, rs, [66], od, _, rfl, E15.2.1, l10, hok, pB, pod, .inl ⟨nB, rfl⟩, fun t3 H16 k16 e16 => ?_⟩
      have E16 := E15.k0 k16
      walk_at "sts"
      intro t4 nt4
      have k17 : Keep [] H16 (upd H16 t4 (.tup [.str (Str.ofString "NoQuantity"), .str (Str.ofString "B")])) := Keep.new nt4
      refine r_neSameT (k17 _ _ (by simp) e16) (by rw [upd_same]; rfl) (flat_nq pB) ?_
      have E17 := E16.k0 k17
      generalize upd H16 t4 (.tup [.str (Str.ofString "NoQuantity"), .str (Str.ofString "B")]) = H17 at E17 ⊢
      walk_at "sts"
      intro e1 n1
      have k18 : Keep [] H17 (upd H17 e1 (.lst [])) := Keep.new n1
      refine r_neNilN (k18 _ _ (by simp) E17.2.2.2.2.1) pln upd_same ?_
      have E18 := E17.k0 k18
      generalize upd H17 e1 (.lst []) = H18 at E18 ⊢
      walk_at "sts"
      by_cases cn : nm = []
      · rw [if_neg (by rw [decide_eq_true cn]; decide)]
        walk_at "sts"
        obtain ⟨dx, tx, as', exx, etx, eax⟩ := id (E18).2.1
        obtain ⟨as2, er2, ear2⟩ := id (E18).2.2.2.1
        walk_at "sts"
        intro l nl
        have kl : Keep [] H18 (upd H18 l (.lst (as'.map V.ref))) := Keep.new nl
        refine r_var rfl ?_
        exact r_eqRows upd_same (eax.keep0 kl) (kl _ _ (by simp) er2) (ear2.keep0 kl) hok (qq _)
      · rw [if_pos (by rw [decide_eq_false cn]; rfl)]
        have l0 : 0 < nm.length := List.length_pos_iff.mpr cn
        have big : (20 : Int) < 2 ^ 200 := by decide
        walk_at "sts"
        refine r_dr E18.1 (by omega) (by omega) fun r2 H19 r20 r21 k19 b19 => ?_
        have E19 := E18.kb nr nn nf k19 b19
        walk_at "sts"
        obtain ⟨s1, hs1⟩ : ∃ s, nm[r2.toNat]? = some s := ⟨_, List.getElem?_eq_getElem (by omega)⟩
        have ms1 : s1 ∈ endsOf rs := mem.mp (List.mem_of_getElem? hs1)
        have ps1 := plain_end hok ms1
        refine r_ixL (v := V.str (strL s1)) (sqL_of E19.2.2.2.2.1) (atI_at r20 (by rw [List.getElem?_map, hs1]; rfl)) ?_
        walk_at "sts"
        refine ⟨x, rs, s1, od, _, rfl, E19.2.1, l10, hok, ps1, pod, .inr (.inl ⟨ms1, nod, rfl⟩), fun t5 H20 k20 e20 => ?_⟩
        have E20 := E19.k0 k20
        walk_at "sts"
        intro t6 nt6
        have k21 : Keep [] H20 (upd H20 t6 (.tup [.str (Str.ofString "NoQuantity"), .str (strL od)])) := Keep.new nt6
        refine r_neSameT (k21 _ _ (by simp) e20) upd_same (flat_nq pod) ?_
        have E21 := E20.k0 k21
        generalize upd H20 t6 (.tup [.str (Str.ofString "NoQuantity"), .str (strL od)]) = H21 at E21 ⊢
        walk_at "sts"
        refine ⟨x, rs, od, s1, _, rfl, E21.2.1, l10, hok, pod, ps1, .inl ⟨nod, rfl⟩, fun t7 H22 k22 e22 => ?_⟩
        have E22 := E21.k0 k22
        walk_at "sts"
        intro t8 nt8
        have k23 : Keep [] H22 (upd H22 t8 (.tup [.str (Str.ofString "NoQuantity"), .str (strL od)])) := Keep.new nt8
        refine r_neSameT (k23 _ _ (by simp) e22) upd_same (flat_nq pod) ?_
        have E23 := E22.k0 k23
        generalize upd H22 t8 (.tup [.str (Str.ofString "NoQuantity"), .str (strL od)]) = H23 at E23 ⊢
        walk_at "sts"
        obtain ⟨dx, tx, as', exx, etx, eax⟩ := id (E23).2.1
        obtain ⟨as2, er2, ear2⟩ := id (E23).2.2.2.1
        walk_at "sts"
        intro l nl
        have kl : Keep [] H23 (upd H23 l (.lst (as'.map V.ref))) := Keep.new nl
        refine r_var rfl ?_
        exact r_eqRows upd_same (eax.keep0 kl) (kl _ _ (by simp) er2) (ear2.keep0 kl) hok (qq _)
end
/-! ### the end -/
theorem law_of {w : World} {K : PySem.W.Frag} {mg : Str → Option Value} {base : Heap} (T : Tx K mg) : FnOk PG w K mg base CX0 10 T.f_law T.fd_law ["_law_script"] (spLaw K) := by
  have gdr := ok_draw (w := w) (base := base) (P := PG) T
  have ggr := ok_great T gdr
  have glv := ok_level T gdr ggr
  have gen := ok_lends T gdr
  have gfr := ok_fresh T gdr
  have gnm := ok_names T gdr gen gfr
  have grw := ok_rows T gdr gnm glv ggr
  have giq := ok_isQ (w := w) (base := base) (P := PG) T
  have gcr := ok_check_row T giq
  have gac := ok_across (w := w) (base := base) (P := PG) T
  have gqu := ok_quantities (w := w) (base := base) (P := PG) T
  have gns := ok_namesS (w := w) (base := base) (P := PG) T
  have gin := ok_initS T gcr
  have gad := ok_addS T gin
  have gls := ok_lawS10 T gin gad
  have gaw := ok_away T gac
  have gle := ok_least T gac gaw
  have gwk := ok_walkS T gns gle
  have gwx := ok_walkX T gns gle
  have gsp := ok_spread T gac
  have glw := ok_levels T gsp
  have gat := ok_allT T glw
  have gtu := ok_tun T glw gat
  have gbe := ok_beats T gwk gtu
  have gbx := ok_beatsX T gwx gtu
  have gro := ok_rounds (w := w) (base := base) (P := PG) T
  have gcl := ok_closed (w := w) (base := base) (P := PG) T
  have gdu := ok_due T gro gcl
  have gpa := ok_paths (w := w) (base := base) (P := PG) T
  have gdi := ok_dist (w := w) (base := base) (P := PG) T
  have gii := ok_isInt (w := w) (base := base) (P := PG) T
  have gar := ok_are T gii
  have gto := ok_told T gbx
  have gpr := ok_pair T gpa gdi gbe gar gto
  exact ok_law T gdr grw gqu gls gdu gpr gfr gen gto
theorem all_mk {w : World} {K : PySem.W.Frag} {h : Heap} {mg : Str → Option Value} {fa : Addr} (X : K.In h) (G : h.Ns mainGlobals mg) (hfa : mg "law" = some (.ref fa))
    {C_Strikes : Addr} {f0 : Addr} {od0 an0 : Option Addr} {sl0 : Array (Option Value)} {oc0 kV0 dc0 pm0 cd0 ct0 : Value} {f1 : Addr} {od1 an1 : Option Addr} {sl1 : Array (Option Value)} {oc1 kV1 dc1 pm1 cd1 ct1 : Value} {f2 : Addr} {od2 an2 : Option Addr} {sl2 : Array (Option Value)} {oc2 kV2 dc2 pm2 cd2 ct2 : Value} {f3 : Addr} {od3 an3 : Option Addr} {sl3 : Array (Option Value)} {oc3 kV3 dc3 pm3 cd3 ct3 : Value} {f4 : Addr} {od4 an4 : Option Addr} {sl4 : Array (Option Value)} {oc4 kV4 dc4 pm4 cd4 ct4 : Value} {f5 : Addr} {od5 an5 : Option Addr} {sl5 : Array (Option Value)} {oc5 kV5 dc5 pm5 cd5 ct5 : Value} {f6 : Addr} {od6 an6 : Option Addr} {sl6 : Array (Option Value)} {oc6 kV6 dc6 pm6 cd6 ct6 : Value} {f7 : Addr} {od7 an7 : Option Addr} {sl7 : Array (Option Value)} {oc7 kV7 dc7 pm7 cd7 ct7 : Value} {f8 : Addr} {od8 an8 : Option Addr} {sl8 : Array (Option Value)} {oc8 kV8 dc8 pm8 cd8 ct8 : Value} {f9 : Addr} {od9 an9 : Option Addr} {sl9 : Array (Option Value)} {oc9 kV9 dc9 pm9 cd9 ct9 : Value} {f10 : Addr} {od10 an10 : Option Addr} {sl10 : Array (Option Value)} {oc10 kV10 dc10 pm10 cd10 ct10 : Value} {f11 : Addr} {od11 an11 : Option Addr} {sl11 : Array (Option Value)} {oc11 kV11 dc11 pm11 cd11 ct11 : Value} {f12 : Addr} {od12 an12 : Option Addr} {sl12 : Array (Option Value)} {oc12 kV12 dc12 pm12 cd12 ct12 : Value} {f13 : Addr} {od13 an13 : Option Addr} {sl13 : Array (Option Value)} {oc13 kV13 dc13 pm13 cd13 ct13 : Value} {f14 : Addr} {od14 an14 : Option Addr} {sl14 : Array (Option Value)} {oc14 kV14 dc14 pm14 cd14 ct14 : Value} {f15 : Addr} {od15 an15 : Option Addr} {sl15 : Array (Option Value)} {oc15 kV15 dc15 pm15 cd15 ct15 : Value} {f16 : Addr} {od16 an16 : Option Addr} {sl16 : Array (Option Value)} {oc16 kV16 dc16 pm16 cd16 ct16 : Value} {f17 : Addr} {od17 an17 : Option Addr} {sl17 : Array (Option Value)} {oc17 kV17 dc17 pm17 cd17 ct17 : Value} {f18 : Addr} {od18 an18 : Option Addr} {sl18 : Array (Option Value)} {oc18 kV18 dc18 pm18 cd18 ct18 : Value} {f19 : Addr} {od19 an19 : Option Addr} {sl19 : Array (Option Value)} {oc19 kV19 dc19 pm19 cd19 ct19 : Value} {f20 : Addr} {od20 an20 : Option Addr} {sl20 : Array (Option Value)} {oc20 kV20 dc20 pm20 cd20 ct20 : Value} {f21 : Addr} {od21 an21 : Option Addr} {sl21 : Array (Option Value)} {oc21 kV21 dc21 pm21 cd21 ct21 : Value} {f22 : Addr} {od22 an22 : Option Addr} {sl22 : Array (Option Value)} {oc22 kV22 dc22 pm22 cd22 ct22 : Value} {f23 : Addr} {od23 an23 : Option Addr} {sl23 : Array (Option Value)} {oc23 kV23 dc23 pm23 cd23 ct23 : Value} {f24 : Addr} {od24 an24 : Option Addr} {sl24 : Array (Option Value)} {oc24 kV24 dc24 pm24 cd24 ct24 : Value} {f25 : Addr} {od25 an25 : Option Addr} {sl25 : Array (Option Value)} {oc25 kV25 dc25 pm25 cd25 ct25 : Value} {f26 : Addr} {od26 an26 : Option Addr} {sl26 : Array (Option Value)} {oc26 kV26 dc26 pm26 cd26 ct26 : Value} {f27 : Addr} {od27 an27 : Option Addr} {sl27 : Array (Option Value)} {oc27 kV27 dc27 pm27 cd27 ct27 : Value} {f28 : Addr} {od28 an28 : Option Addr} {sl28 : Array (Option Value)} {oc28 kV28 dc28 pm28 cd28 ct28 : Value} {f29 : Addr} {od29 an29 : Option Addr} {sl29 : Array (Option Value)} {oc29 kV29 dc29 pm29 cd29 ct29 : Value} {f30 : Addr} {od30 an30 : Option Addr} {sl30 : Array (Option Value)} {oc30 kV30 dc30 pm30 cd30 ct30 : Value} {f31 : Addr} {od31 an31 : Option Addr} {sl31 : Array (Option Value)} {oc31 kV31 dc31 pm31 cd31 ct31 : Value} {f32 : Addr} {od32 an32 : Option Addr} {sl32 : Array (Option Value)} {oc32 kV32 dc32 pm32 cd32 ct32 : Value} {f33 : Addr} {od33 an33 : Option Addr} {sl33 : Array (Option Value)} {oc33 kV33 dc33 pm33 cd33 ct33 : Value} {tc17 : Tok} {tc18 : Tok} {tc19 : Tok} {tc20 : Tok} {C_BadName : Addr} {C_NoQuantity : Addr} {C_Taken : Addr} {C_BadNumber : Addr} {C_NoWalk : Addr} {C_MeteError : Addr} {fE0 NE0 ccE0 cdaE0 : Addr} {nmE0 qE0 : Str} {bsE0 bmE0 : List Value} {snE0 : List Str} {subE0 : List Value} {abE0 : Bool} {colE0 : Option Bool} {ddE0 : Option Addr} {m0E0 m1E0 m2E0 m3E0 m5E0 : Option Value} {ocE0 docE0 pmE0 ctE0 clE0 cclE0 : Value} {odE0 anE0 cldE0 cddE0 : Option Addr} {oslE0 cslE0 ccsE0 : Array (Option Value)} {vsE0 : Array Value} {tfE0 : Tok} {fE1 NE1 ccE1 cdaE1 : Addr} {nmE1 qE1 : Str} {bsE1 bmE1 : List Value} {snE1 : List Str} {subE1 : List Value} {abE1 : Bool} {colE1 : Option Bool} {ddE1 : Option Addr} {m0E1 m1E1 m2E1 m3E1 m5E1 : Option Value} {ocE1 docE1 pmE1 ctE1 clE1 cclE1 : Value} {odE1 anE1 cldE1 cddE1 : Option Addr} {oslE1 cslE1 ccsE1 : Array (Option Value)} {vsE1 : Array Value} {tfE1 : Tok} {fE2 NE2 ccE2 cdaE2 : Addr} {nmE2 qE2 : Str} {bsE2 bmE2 : List Value} {snE2 : List Str} {subE2 : List Value} {abE2 : Bool} {colE2 : Option Bool} {ddE2 : Option Addr} {m0E2 m1E2 m2E2 m3E2 m5E2 : Option Value} {ocE2 docE2 pmE2 ctE2 clE2 cclE2 : Value} {odE2 anE2 cldE2 cddE2 : Option Addr} {oslE2 cslE2 ccsE2 : Array (Option Value)} {vsE2 : Array Value} {tfE2 : Tok} {fE3 NE3 ccE3 cdaE3 : Addr} {nmE3 qE3 : Str} {bsE3 bmE3 : List Value} {snE3 : List Str} {subE3 : List Value} {abE3 : Bool} {colE3 : Option Bool} {ddE3 : Option Addr} {m0E3 m1E3 m2E3 m3E3 m5E3 : Option Value} {ocE3 docE3 pmE3 ctE3 clE3 cclE3 : Value} {odE3 anE3 cldE3 cddE3 : Option Addr} {oslE3 cslE3 ccsE3 : Array (Option Value)} {vsE3 : Array Value} {tfE3 : Tok} {fE4 NE4 ccE4 cdaE4 : Addr} {nmE4 qE4 : Str} {bsE4 bmE4 : List Value} {snE4 : List Str} {subE4 : List Value} {abE4 : Bool} {colE4 : Option Bool} {ddE4 : Option Addr} {m0E4 m1E4 m2E4 m3E4 m5E4 : Option Value} {ocE4 docE4 pmE4 ctE4 clE4 cclE4 : Value} {odE4 anE4 cldE4 cddE4 : Option Addr} {oslE4 cslE4 ccsE4 : Array (Option Value)} {vsE4 : Array Value} {tfE4 : Tok}
    (o0g : PySem.W.nsIn K mainGlobals "Strikes" = some (some (.ref C_Strikes)))
    (a0 : PySem.W.nsIn K mainGlobals "compare" = some (some (.ref f0)))
    (l0 : K.lookup f0 = some ⟨oc0, od0, .func (PySem.W.fnOf "compare" "compare" (defArgs s_compare) (defBody s_compare) (defScope s_compare) .none kV0 dc0 pm0 an0 cd0 ct0), sl0⟩)
    (c0 : PySem.W.codeIn K cd0 "compare" = true)
    (k0 : PySem.W.keepIn K (.ref f0) = true)
    (a1 : PySem.W.nsIn K mainGlobals "is_quantity" = some (some (.ref f1)))
    (l1 : K.lookup f1 = some ⟨oc1, od1, .func (PySem.W.fnOf "is_quantity" "is_quantity" (defArgs s_is_quantity) (defBody s_is_quantity) (defScope s_is_quantity) .none kV1 dc1 pm1 an1 cd1 ct1), sl1⟩)
    (c1 : PySem.W.codeIn K cd1 "is_quantity" = true)
    (k1 : PySem.W.keepIn K (.ref f1) = true)
    (a2 : PySem.W.nsIn K mainGlobals "check_row" = some (some (.ref f2)))
    (l2 : K.lookup f2 = some ⟨oc2, od2, .func (PySem.W.fnOf "check_row" "check_row" (defArgs s_check_row) (defBody s_check_row) (defScope s_check_row) .none kV2 dc2 pm2 an2 cd2 ct2), sl2⟩)
    (c2 : PySem.W.codeIn K cd2 "check_row" = true)
    (k2 : PySem.W.keepIn K (.ref f2) = true)
    (a3 : PySem.W.nsIn K mainGlobals "across" = some (some (.ref f3)))
    (l3 : K.lookup f3 = some ⟨oc3, od3, .func (PySem.W.fnOf "across" "across" (defArgs s_across) (defBody s_across) (defScope s_across) .none kV3 dc3 pm3 an3 cd3 ct3), sl3⟩)
    (c3 : PySem.W.codeIn K cd3 "across" = true)
    (k3 : PySem.W.keepIn K (.ref f3) = true)
    (a4 : PySem.W.nsIn K mainGlobals "strikes_away" = some (some (.ref f4)))
    (l4 : K.lookup f4 = some ⟨oc4, od4, .func (PySem.W.fnOf "strikes_away" "strikes_away" (defArgs s_strikes_away) (defBody s_strikes_away) (defScope s_strikes_away) .none kV4 dc4 pm4 an4 cd4 ct4), sl4⟩)
    (c4 : PySem.W.codeIn K cd4 "strikes_away" = true)
    (k4 : PySem.W.keepIn K (.ref f4) = true)
    (a5 : PySem.W.nsIn K mainGlobals "least_walk" = some (some (.ref f5)))
    (l5 : K.lookup f5 = some ⟨oc5, od5, .func (PySem.W.fnOf "least_walk" "least_walk" (defArgs s_least_walk) (defBody s_least_walk) (defScope s_least_walk) .none kV5 dc5 pm5 an5 cd5 ct5), sl5⟩)
    (c5 : PySem.W.codeIn K cd5 "least_walk" = true)
    (k5 : PySem.W.keepIn K (.ref f5) = true)
    (a6 : PySem.W.findIn K (.ref C_Strikes) "__init__" = some (some (.ref f6)))
    (l6 : K.lookup f6 = some ⟨oc6, od6, .func (PySem.W.fnOf "__init__" "Strikes.__init__" (defArgs s_Strikes___init) (defBody s_Strikes___init) (defScope s_Strikes___init) .none kV6 dc6 pm6 an6 cd6 ct6), sl6⟩)
    (c6 : PySem.W.codeIn K cd6 "Strikes.__init__" = true)
    (k6 : PySem.W.keepIn K (.ref f6) = true)
    (a7 : PySem.W.findIn K (.ref C_Strikes) "names" = some (some (.ref f7)))
    (l7 : K.lookup f7 = some ⟨oc7, od7, .func (PySem.W.fnOf "names" "Strikes.names" (defArgs s_Strikes_names) (defBody s_Strikes_names) (defScope s_Strikes_names) .none kV7 dc7 pm7 an7 cd7 ct7), sl7⟩)
    (c7 : PySem.W.codeIn K cd7 "Strikes.names" = true)
    (k7 : PySem.W.keepIn K (.ref f7) = true)
    (a8 : PySem.W.findIn K (.ref C_Strikes) "walk" = some (some (.ref f8)))
    (l8 : K.lookup f8 = some ⟨oc8, od8, .func (PySem.W.fnOf "walk" "Strikes.walk" (defArgs s_Strikes_walk) (defBody s_Strikes_walk) (defScope s_Strikes_walk) .none kV8 dc8 pm8 an8 cd8 ct8), sl8⟩)
    (c8 : PySem.W.codeIn K cd8 "Strikes.walk" = true)
    (k8 : PySem.W.keepIn K (.ref f8) = true)
    (a9 : PySem.W.findIn K (.ref C_Strikes) "__add__" = some (some (.ref f9)))
    (l9 : K.lookup f9 = some ⟨oc9, od9, .func (PySem.W.fnOf "__add__" "Strikes.__add__" (defArgs s_Strikes___add) (defBody s_Strikes___add) (defScope s_Strikes___add) .none kV9 dc9 pm9 an9 cd9 ct9), sl9⟩)
    (c9 : PySem.W.codeIn K cd9 "Strikes.__add__" = true)
    (k9 : PySem.W.keepIn K (.ref f9) = true)
    (a10 : PySem.W.nsIn K mainGlobals "spread" = some (some (.ref f10)))
    (l10 : K.lookup f10 = some ⟨oc10, od10, .func (PySem.W.fnOf "spread" "spread" (defArgs s_spread) (defBody s_spread) (defScope s_spread) .none kV10 dc10 pm10 an10 cd10 ct10), sl10⟩)
    (c10 : PySem.W.codeIn K cd10 "spread" = true)
    (k10 : PySem.W.keepIn K (.ref f10) = true)
    (a11 : PySem.W.nsIn K mainGlobals "levels_with" = some (some (.ref f11)))
    (l11 : K.lookup f11 = some ⟨oc11, od11, .func (PySem.W.fnOf "levels_with" "levels_with" (defArgs s_levels_with) (defBody s_levels_with) (defScope s_levels_with) .none kV11 dc11 pm11 an11 cd11 ct11), sl11⟩)
    (c11 : PySem.W.codeIn K cd11 "levels_with" = true)
    (k11 : PySem.W.keepIn K (.ref f11) = true)
    (a12 : PySem.W.nsIn K mainGlobals "all_tunings" = some (some (.ref f12)))
    (l12 : K.lookup f12 = some ⟨oc12, od12, .func (PySem.W.fnOf "all_tunings" "all_tunings" (defArgs s_all_tunings) (defBody s_all_tunings) (defScope s_all_tunings) .none kV12 dc12 pm12 an12 cd12 ct12), sl12⟩)
    (c12 : PySem.W.codeIn K cd12 "all_tunings" = true)
    (k12 : PySem.W.keepIn K (.ref f12) = true)
    (a13 : PySem.W.nsIn K mainGlobals "tunings" = some (some (.ref f13)))
    (l13 : K.lookup f13 = some ⟨oc13, od13, .func (PySem.W.fnOf "tunings" "tunings" (defArgs s_tunings) (defBody s_tunings) (defScope s_tunings) .none kV13 dc13 pm13 an13 cd13 ct13), sl13⟩)
    (c13 : PySem.W.codeIn K cd13 "tunings" = true)
    (k13 : PySem.W.keepIn K (.ref f13) = true)
    (a14 : PySem.W.nsIn K mainGlobals "possible_beats" = some (some (.ref f14)))
    (l14 : K.lookup f14 = some ⟨oc14, od14, .func (PySem.W.fnOf "possible_beats" "possible_beats" (defArgs s_possible_beats) (defBody s_possible_beats) (defScope s_possible_beats) .none kV14 dc14 pm14 an14 cd14 ct14), sl14⟩)
    (c14 : PySem.W.codeIn K cd14 "possible_beats" = true)
    (k14 : PySem.W.keepIn K (.ref f14) = true)
    (a15 : PySem.W.nsIn K mainGlobals "_law_is_integer" = some (some (.ref f15)))
    (l15 : K.lookup f15 = some ⟨oc15, od15, .func (PySem.W.fnOf "_law_is_integer" "_law_is_integer" (defArgs s_w_is_integer) (defBody s_w_is_integer) (defScope s_w_is_integer) .none kV15 dc15 pm15 an15 cd15 ct15), sl15⟩)
    (c15 : PySem.W.codeIn K cd15 "_law_is_integer" = true)
    (k15 : PySem.W.keepIn K (.ref f15) = true)
    (a16 : PySem.W.nsIn K mainGlobals "_law_draw" = some (some (.ref f16)))
    (l16 : K.lookup f16 = some ⟨oc16, od16, .func (PySem.W.fnOf "_law_draw" "_law_draw" (defArgs s_w_draw) (defBody s_w_draw) (defScope s_w_draw) .none kV16 dc16 pm16 an16 cd16 ct16), sl16⟩)
    (c16 : PySem.W.codeIn K cd16 "_law_draw" = true)
    (k16 : PySem.W.keepIn K (.ref f16) = true)
    (a17 : PySem.W.nsIn K mainGlobals "_law_great" = some (some (.ref f17)))
    (l17 : K.lookup f17 = some ⟨oc17, od17, .func (PySem.W.fnOf "_law_great" "_law_great" (defArgs s_w_great) (defBody s_w_great) (defScope s_w_great) .none kV17 dc17 pm17 an17 cd17 ct17), sl17⟩)
    (c17 : PySem.W.codeIn K cd17 "_law_great" = true)
    (k17 : PySem.W.keepIn K (.ref f17) = true)
    (a18 : PySem.W.nsIn K mainGlobals "_law_ends" = some (some (.ref f18)))
    (l18 : K.lookup f18 = some ⟨oc18, od18, .func (PySem.W.fnOf "_law_ends" "_law_ends" (defArgs s_w_ends) (defBody s_w_ends) (defScope s_w_ends) .none kV18 dc18 pm18 an18 cd18 ct18), sl18⟩)
    (c18 : PySem.W.codeIn K cd18 "_law_ends" = true)
    (k18 : PySem.W.keepIn K (.ref f18) = true)
    (a19 : PySem.W.nsIn K mainGlobals "_law_fresh" = some (some (.ref f19)))
    (l19 : K.lookup f19 = some ⟨oc19, od19, .func (PySem.W.fnOf "_law_fresh" "_law_fresh" (defArgs s_w_fresh) (defBody s_w_fresh) (defScope s_w_fresh) .none kV19 dc19 pm19 an19 cd19 ct19), sl19⟩)
    (c19 : PySem.W.codeIn K cd19 "_law_fresh" = true)
    (k19 : PySem.W.keepIn K (.ref f19) = true)
    (a20 : PySem.W.nsIn K mainGlobals "_law_names" = some (some (.ref f20)))
    (l20 : K.lookup f20 = some ⟨oc20, od20, .func (PySem.W.fnOf "_law_names" "_law_names" (defArgs s_w_names) (defBody s_w_names) (defScope s_w_names) .none kV20 dc20 pm20 an20 cd20 ct20), sl20⟩)
    (c20 : PySem.W.codeIn K cd20 "_law_names" = true)
    (k20 : PySem.W.keepIn K (.ref f20) = true)
    (a21 : PySem.W.nsIn K mainGlobals "_law_level" = some (some (.ref f21)))
    (l21 : K.lookup f21 = some ⟨oc21, od21, .func (PySem.W.fnOf "_law_level" "_law_level" (defArgs s_w_level) (defBody s_w_level) (defScope s_w_level) .none kV21 dc21 pm21 an21 cd21 ct21), sl21⟩)
    (c21 : PySem.W.codeIn K cd21 "_law_level" = true)
    (k21 : PySem.W.keepIn K (.ref f21) = true)
    (a22 : PySem.W.nsIn K mainGlobals "_law_rows" = some (some (.ref f22)))
    (l22 : K.lookup f22 = some ⟨oc22, od22, .func (PySem.W.fnOf "_law_rows" "_law_rows" (defArgs s_w_rows) (defBody s_w_rows) (defScope s_w_rows) .none kV22 dc22 pm22 an22 cd22 ct22), sl22⟩)
    (c22 : PySem.W.codeIn K cd22 "_law_rows" = true)
    (k22 : PySem.W.keepIn K (.ref f22) = true)
    (a23 : PySem.W.nsIn K mainGlobals "_law_strikes" = some (some (.ref f23)))
    (l23 : K.lookup f23 = some ⟨oc23, od23, .func (PySem.W.fnOf "_law_strikes" "_law_strikes" (defArgs s_w_strikes) (defBody s_w_strikes) (defScope s_w_strikes) .none kV23 dc23 pm23 an23 cd23 ct23), sl23⟩)
    (c23 : PySem.W.codeIn K cd23 "_law_strikes" = true)
    (k23 : PySem.W.keepIn K (.ref f23) = true)
    (a24 : PySem.W.nsIn K mainGlobals "_law_quantities" = some (some (.ref f24)))
    (l24 : K.lookup f24 = some ⟨oc24, od24, .func (PySem.W.fnOf "_law_quantities" "_law_quantities" (defArgs s_w_quantities) (defBody s_w_quantities) (defScope s_w_quantities) .none kV24 dc24 pm24 an24 cd24 ct24), sl24⟩)
    (c24 : PySem.W.codeIn K cd24 "_law_quantities" = true)
    (k24 : PySem.W.keepIn K (.ref f24) = true)
    (a25 : PySem.W.nsIn K mainGlobals "_law_rounds" = some (some (.ref f25)))
    (l25 : K.lookup f25 = some ⟨oc25, od25, .func (PySem.W.fnOf "_law_rounds" "_law_rounds" (defArgs s_w_rounds) (defBody s_w_rounds) (defScope s_w_rounds) .none kV25 dc25 pm25 an25 cd25 ct25), sl25⟩)
    (c25 : PySem.W.codeIn K cd25 "_law_rounds" = true)
    (k25 : PySem.W.keepIn K (.ref f25) = true)
    (a26 : PySem.W.nsIn K mainGlobals "_law_is_closed" = some (some (.ref f26)))
    (l26 : K.lookup f26 = some ⟨oc26, od26, .func (PySem.W.fnOf "_law_is_closed" "_law_is_closed" (defArgs s_w_is_closed) (defBody s_w_is_closed) (defScope s_w_is_closed) .none kV26 dc26 pm26 an26 cd26 ct26), sl26⟩)
    (c26 : PySem.W.codeIn K cd26 "_law_is_closed" = true)
    (k26 : PySem.W.keepIn K (.ref f26) = true)
    (a27 : PySem.W.nsIn K mainGlobals "_law_due" = some (some (.ref f27)))
    (l27 : K.lookup f27 = some ⟨oc27, od27, .func (PySem.W.fnOf "_law_due" "_law_due" (defArgs s_w_due) (defBody s_w_due) (defScope s_w_due) .none kV27 dc27 pm27 an27 cd27 ct27), sl27⟩)
    (c27 : PySem.W.codeIn K cd27 "_law_due" = true)
    (k27 : PySem.W.keepIn K (.ref f27) = true)
    (a28 : PySem.W.nsIn K mainGlobals "_law_paths" = some (some (.ref f28)))
    (l28 : K.lookup f28 = some ⟨oc28, od28, .func (PySem.W.fnOf "_law_paths" "_law_paths" (defArgs s_w_paths) (defBody s_w_paths) (defScope s_w_paths) .none kV28 dc28 pm28 an28 cd28 ct28), sl28⟩)
    (c28 : PySem.W.codeIn K cd28 "_law_paths" = true)
    (k28 : PySem.W.keepIn K (.ref f28) = true)
    (a29 : PySem.W.nsIn K mainGlobals "_law_distances" = some (some (.ref f29)))
    (l29 : K.lookup f29 = some ⟨oc29, od29, .func (PySem.W.fnOf "_law_distances" "_law_distances" (defArgs s_w_distances) (defBody s_w_distances) (defScope s_w_distances) .none kV29 dc29 pm29 an29 cd29 ct29), sl29⟩)
    (c29 : PySem.W.codeIn K cd29 "_law_distances" = true)
    (k29 : PySem.W.keepIn K (.ref f29) = true)
    (a30 : PySem.W.nsIn K mainGlobals "_law_told" = some (some (.ref f30)))
    (l30 : K.lookup f30 = some ⟨oc30, od30, .func (PySem.W.fnOf "_law_told" "_law_told" (defArgs s_w_told) (defBody s_w_told) (defScope s_w_told) .none kV30 dc30 pm30 an30 cd30 ct30), sl30⟩)
    (c30 : PySem.W.codeIn K cd30 "_law_told" = true)
    (k30 : PySem.W.keepIn K (.ref f30) = true)
    (a31 : PySem.W.nsIn K mainGlobals "_law_are_beats" = some (some (.ref f31)))
    (l31 : K.lookup f31 = some ⟨oc31, od31, .func (PySem.W.fnOf "_law_are_beats" "_law_are_beats" (defArgs s_w_are_beats) (defBody s_w_are_beats) (defScope s_w_are_beats) .none kV31 dc31 pm31 an31 cd31 ct31), sl31⟩)
    (c31 : PySem.W.codeIn K cd31 "_law_are_beats" = true)
    (k31 : PySem.W.keepIn K (.ref f31) = true)
    (a32 : PySem.W.nsIn K mainGlobals "_law_pair_right" = some (some (.ref f32)))
    (l32 : K.lookup f32 = some ⟨oc32, od32, .func (PySem.W.fnOf "_law_pair_right" "_law_pair_right" (defArgs s_w_pair_right) (defBody s_w_pair_right) (defScope s_w_pair_right) .none kV32 dc32 pm32 an32 cd32 ct32), sl32⟩)
    (c32 : PySem.W.codeIn K cd32 "_law_pair_right" = true)
    (k32 : PySem.W.keepIn K (.ref f32) = true)
    (a33 : PySem.W.nsIn K mainGlobals "law" = some (some (.ref f33)))
    (l33 : K.lookup f33 = some ⟨oc33, od33, .func (PySem.W.fnOf "law" "law" (defArgs s_law) (defBody s_law) (defScope s_law) .none kV33 dc33 pm33 an33 cd33 ct33), sl33⟩)
    (c33 : PySem.W.codeIn K cd33 "law" = true)
    (k33 : PySem.W.keepIn K (.ref f33) = true)
    (z0 : PySem.W.nsIn K mainGlobals "len" = some none)
    (z1 : PySem.W.nsIn K mainGlobals "range" = some none)
    (z2 : PySem.W.nsIn K mainGlobals "isinstance" = some none)
    (z3 : PySem.W.nsIn K mainGlobals "int" = some none)
    (z4 : PySem.W.nsIn K mainGlobals "bool" = some none)
    (z5 : PySem.W.nsIn K mainGlobals "str" = some none)
    (z6 : PySem.W.nsIn K mainGlobals "list" = some none)
    (z7 : PySem.W.nsIn K mainGlobals "tuple" = some none)
    (z8 : PySem.W.nsIn K mainGlobals "abs" = some none)
    (z9 : PySem.W.nsIn K mainGlobals "sum" = some none)
    (z10 : PySem.W.nsIn K mainGlobals "sorted" = some none)
    (z11 : PySem.W.nsIn K mainGlobals "enumerate" = some none)
    (z12 : PySem.W.nsIn K mainGlobals "zip" = some none)
    (z13 : PySem.W.nsIn K mainGlobals "all" = some none)
    (z14 : PySem.W.nsIn K mainGlobals "set" = some none)
    (z15 : PySem.W.nsIn K mainGlobals "NotImplemented" = some none)
    (z16 : PySem.W.nsIn K mainGlobals "ValueError" = some none)
    (o0a : PySem.W.plainGet K C_Strikes Str.empty = true)
    (o0b : PySem.W.hasDictIn K C_Strikes = true)
    (o0c : PySem.W.plainOver K C_Strikes = true)
    (o0d : PySem.W.findIn K (.ref C_Strikes) "__setattr__" = some (some (.builtin "object.__setattr__")))
    (o0e : PySem.W.selfFirst K C_Strikes = true)
    (o0f : PySem.W.findIn K (.ref C_Strikes) "__class__" = some (some (.builtin "object.__class__")))
    (o0h : PySem.W.specialIn K (.builtin "object.__class__") "__get__" = some (some (.builtin "getset_descriptor.__get__")))
    (o0i : PySem.W.takesIn K (.builtin "object.__class__") = some true)
    (o0j : PySem.W.mroIn K C_Strikes (.type "object") = some true)
    (o0n0 : PySem.W.findIn K (.ref C_Strikes) "rows" = some none)
    (o0k : PySem.W.makesIn K C_Strikes = true)
    (o0l : PySem.W.keepIn K (.ref C_Strikes) = true)
    (fn6 : PySem.W.isFn K (.ref f6) = true)
    (fn7 : PySem.W.isFn K (.ref f7) = true)
    (fn8 : PySem.W.isFn K (.ref f8) = true)
    (fn9 : PySem.W.isFn K (.ref f9) = true)
    (o0s : PySem.W.subIn K (.ref C_Strikes) (.type "int") = some false)
    (o0t : PySem.W.subIn K (.type "int") (.ref C_Strikes) = some false)
    (z17 : PySem.W.nsIn K mainGlobals "LETTERS" = some (some (.str "abcdefghijklmnopqrstuvwxyz" tc17)))
    (z18 : PySem.W.nsIn K mainGlobals "QUANTITY_SIGNS" = some (some (.str "abcdefghijklmnopqrstuvwxyz.0123456789" tc18)))
    (z19 : PySem.W.nsIn K mainGlobals "LONGEST_QUANTITY" = some (some (.int (12) tc19)))
    (z20 : PySem.W.nsIn K mainGlobals "MOST_STRIKES" = some (some (.int (10) tc20)))
    (es0 : PySem.W.specialIn K (.builtin "object.__class__") "__get__" = some (some (.builtin "getset_descriptor.__get__")))
    (es1 : PySem.W.takesIn K (.builtin "object.__class__") = some true)
    (es2 : PySem.W.nsIn K cStatics "thirdparty.any" = some none)
    (es3 : PySem.W.nsIn K mainGlobals "super" = some none)
    (eC0 : PySem.W.nsIn K mainGlobals "BadName" = some (some (.ref C_BadName)))
    (eB0 : PySem.W.subIn K (.ref C_BadName) (.type "BaseException") = some true)
    (eH0 : PySem.W.hasDictIn K C_BadName = true)
    (eT0 : PySem.W.typeIn K (.ref C_BadName) = some (.type "type"))
    (eC1 : PySem.W.nsIn K mainGlobals "NoQuantity" = some (some (.ref C_NoQuantity)))
    (eB1 : PySem.W.subIn K (.ref C_NoQuantity) (.type "BaseException") = some true)
    (eH1 : PySem.W.hasDictIn K C_NoQuantity = true)
    (eT1 : PySem.W.typeIn K (.ref C_NoQuantity) = some (.type "type"))
    (eC2 : PySem.W.nsIn K mainGlobals "Taken" = some (some (.ref C_Taken)))
    (eB2 : PySem.W.subIn K (.ref C_Taken) (.type "BaseException") = some true)
    (eH2 : PySem.W.hasDictIn K C_Taken = true)
    (eT2 : PySem.W.typeIn K (.ref C_Taken) = some (.type "type"))
    (eC3 : PySem.W.nsIn K mainGlobals "BadNumber" = some (some (.ref C_BadNumber)))
    (eB3 : PySem.W.subIn K (.ref C_BadNumber) (.type "BaseException") = some true)
    (eH3 : PySem.W.hasDictIn K C_BadNumber = true)
    (eT3 : PySem.W.typeIn K (.ref C_BadNumber) = some (.type "type"))
    (eC4 : PySem.W.nsIn K mainGlobals "NoWalk" = some (some (.ref C_NoWalk)))
    (eB4 : PySem.W.subIn K (.ref C_NoWalk) (.type "BaseException") = some true)
    (eH4 : PySem.W.hasDictIn K C_NoWalk = true)
    (eT4 : PySem.W.typeIn K (.ref C_NoWalk) = some (.type "type"))
    (eC5 : PySem.W.nsIn K mainGlobals "MeteError" = some (some (.ref C_MeteError)))
    (eB5 : PySem.W.subIn K (.ref C_MeteError) (.type "BaseException") = some true)
    (eH5 : PySem.W.hasDictIn K C_MeteError = true)
    (eT5 : PySem.W.typeIn K (.ref C_MeteError) = some (.type "type"))
    (eL0 : K.lookup C_BadName = some (PySem.excClassObj nmE0 qE0 C_BadName NE0 bsE0 bmE0 true snE0 subE0 abE0 colE0 ddE0 m0E0 m1E0 m2E0 m3E0 m5E0 "ValueError.__new__"))
    (eR0 : PySem.HandSPX.refsVE bmE0 = true)
    (eS0 : PySem.W.findIn K (.ref C_BadName) "__setattr__" = some (some (.builtin "object.__setattr__")))
    (eG0 : PySem.W.findIn K (.ref C_BadName) "__getattribute__" = some (some (.builtin "BaseException.__getattribute__")))
    (eg0 : PySem.W.findIn K (.ref C_BadName) "__getattr__" = some none)
    (en0 : PySem.W.findIn K (.ref C_BadName) "name" = some none)
    (eI0 : PySem.W.findIn K (.ref C_BadName) "__init__" = some (some (.ref fE0)))
    (et0 : PySem.W.typeIn K (.ref fE0) = some (.type "function"))
    (ef0 : K.lookup fE0 = some ⟨ocE0, odE0, .func (PySem.W.ksFn "__init__" "BadName.__init__" (defArgs s_BadName_init) (defBody s_BadName_init) (defScope s_BadName_init) .none .none docE0 pmE0 anE0 (.ref cdaE0) ctE0 ccE0), oslE0⟩)
    (ec0 : PySem.W.codeIn K (.ref cdaE0) "BadName.__init__" = true)
    (eo0 : K.lookup ccE0 = some ⟨clE0, cldE0, .cell (some (.ref C_BadName)), cslE0⟩)
    (ed0 : K.lookup cdaE0 = some ⟨cclE0, cddE0, .fields vsE0, ccsE0⟩)
    (eq0 : vsE0[2]? = some (.str PG.main.file tfE0))
    (ep0 : PySem.W.ks_superIn K C_BadName C_BadName "__init__" = some (some (.builtin "ValueError.__init__")))
    (ev0 : PySem.W.subIn K (.ref C_BadName) (.type "ValueError") = some true)
    (em0 : PySem.W.mroIn K C_BadName (.ref C_BadName) = some true)
    (ek0 : PySem.W.keepIn K (.ref C_BadName) = true)
    (ea0 : PySem.W.findIn K (.ref C_BadName) "__class__" = some (some (.builtin "object.__class__")))
    (eb0 : PySem.W.mroIn K C_BadName (.type "object") = some true)
    (eL1 : K.lookup C_NoQuantity = some (PySem.excClassObj nmE1 qE1 C_NoQuantity NE1 bsE1 bmE1 true snE1 subE1 abE1 colE1 ddE1 m0E1 m1E1 m2E1 m3E1 m5E1 "ValueError.__new__"))
    (eR1 : PySem.HandSPX.refsVE bmE1 = true)
    (eS1 : PySem.W.findIn K (.ref C_NoQuantity) "__setattr__" = some (some (.builtin "object.__setattr__")))
    (eG1 : PySem.W.findIn K (.ref C_NoQuantity) "__getattribute__" = some (some (.builtin "BaseException.__getattribute__")))
    (eg1 : PySem.W.findIn K (.ref C_NoQuantity) "__getattr__" = some none)
    (en1 : PySem.W.findIn K (.ref C_NoQuantity) "name" = some none)
    (eI1 : PySem.W.findIn K (.ref C_NoQuantity) "__init__" = some (some (.ref fE1)))
    (et1 : PySem.W.typeIn K (.ref fE1) = some (.type "function"))
    (ef1 : K.lookup fE1 = some ⟨ocE1, odE1, .func (PySem.W.ksFn "__init__" "NoQuantity.__init__" (defArgs s_NoQuantity_init) (defBody s_NoQuantity_init) (defScope s_NoQuantity_init) .none .none docE1 pmE1 anE1 (.ref cdaE1) ctE1 ccE1), oslE1⟩)
    (ec1 : PySem.W.codeIn K (.ref cdaE1) "NoQuantity.__init__" = true)
    (eo1 : K.lookup ccE1 = some ⟨clE1, cldE1, .cell (some (.ref C_NoQuantity)), cslE1⟩)
    (ed1 : K.lookup cdaE1 = some ⟨cclE1, cddE1, .fields vsE1, ccsE1⟩)
    (eq1 : vsE1[2]? = some (.str PG.main.file tfE1))
    (ep1 : PySem.W.ks_superIn K C_NoQuantity C_NoQuantity "__init__" = some (some (.builtin "ValueError.__init__")))
    (ev1 : PySem.W.subIn K (.ref C_NoQuantity) (.type "ValueError") = some true)
    (em1 : PySem.W.mroIn K C_NoQuantity (.ref C_NoQuantity) = some true)
    (ek1 : PySem.W.keepIn K (.ref C_NoQuantity) = true)
    (ea1 : PySem.W.findIn K (.ref C_NoQuantity) "__class__" = some (some (.builtin "object.__class__")))
    (eb1 : PySem.W.mroIn K C_NoQuantity (.type "object") = some true)
    (eL2 : K.lookup C_Taken = some (PySem.excClassObj nmE2 qE2 C_Taken NE2 bsE2 bmE2 true snE2 subE2 abE2 colE2 ddE2 m0E2 m1E2 m2E2 m3E2 m5E2 "ValueError.__new__"))
    (eR2 : PySem.HandSPX.refsVE bmE2 = true)
    (eS2 : PySem.W.findIn K (.ref C_Taken) "__setattr__" = some (some (.builtin "object.__setattr__")))
    (eG2 : PySem.W.findIn K (.ref C_Taken) "__getattribute__" = some (some (.builtin "BaseException.__getattribute__")))
    (eg2 : PySem.W.findIn K (.ref C_Taken) "__getattr__" = some none)
    (en2 : PySem.W.findIn K (.ref C_Taken) "name" = some none)
    (eI2 : PySem.W.findIn K (.ref C_Taken) "__init__" = some (some (.ref fE2)))
    (et2 : PySem.W.typeIn K (.ref fE2) = some (.type "function"))
    (ef2 : K.lookup fE2 = some ⟨ocE2, odE2, .func (PySem.W.ksFn "__init__" "Taken.__init__" (defArgs s_Taken_init) (defBody s_Taken_init) (defScope s_Taken_init) .none .none docE2 pmE2 anE2 (.ref cdaE2) ctE2 ccE2), oslE2⟩)
    (ec2 : PySem.W.codeIn K (.ref cdaE2) "Taken.__init__" = true)
    (eo2 : K.lookup ccE2 = some ⟨clE2, cldE2, .cell (some (.ref C_Taken)), cslE2⟩)
    (ed2 : K.lookup cdaE2 = some ⟨cclE2, cddE2, .fields vsE2, ccsE2⟩)
    (eq2 : vsE2[2]? = some (.str PG.main.file tfE2))
    (ep2 : PySem.W.ks_superIn K C_Taken C_Taken "__init__" = some (some (.builtin "ValueError.__init__")))
    (ev2 : PySem.W.subIn K (.ref C_Taken) (.type "ValueError") = some true)
    (em2 : PySem.W.mroIn K C_Taken (.ref C_Taken) = some true)
    (ek2 : PySem.W.keepIn K (.ref C_Taken) = true)
    (ea2 : PySem.W.findIn K (.ref C_Taken) "__class__" = some (some (.builtin "object.__class__")))
    (eb2 : PySem.W.mroIn K C_Taken (.type "object") = some true)
    (eL3 : K.lookup C_BadNumber = some (PySem.excClassObj nmE3 qE3 C_BadNumber NE3 bsE3 bmE3 true snE3 subE3 abE3 colE3 ddE3 m0E3 m1E3 m2E3 m3E3 m5E3 "ValueError.__new__"))
    (eR3 : PySem.HandSPX.refsVE bmE3 = true)
    (eS3 : PySem.W.findIn K (.ref C_BadNumber) "__setattr__" = some (some (.builtin "object.__setattr__")))
    (eG3 : PySem.W.findIn K (.ref C_BadNumber) "__getattribute__" = some (some (.builtin "BaseException.__getattribute__")))
    (eg3 : PySem.W.findIn K (.ref C_BadNumber) "__getattr__" = some none)
    (en3 : PySem.W.findIn K (.ref C_BadNumber) "number" = some none)
    (eI3 : PySem.W.findIn K (.ref C_BadNumber) "__init__" = some (some (.ref fE3)))
    (et3 : PySem.W.typeIn K (.ref fE3) = some (.type "function"))
    (ef3 : K.lookup fE3 = some ⟨ocE3, odE3, .func (PySem.W.ksFn "__init__" "BadNumber.__init__" (defArgs s_BadNumber_init) (defBody s_BadNumber_init) (defScope s_BadNumber_init) .none .none docE3 pmE3 anE3 (.ref cdaE3) ctE3 ccE3), oslE3⟩)
    (ec3 : PySem.W.codeIn K (.ref cdaE3) "BadNumber.__init__" = true)
    (eo3 : K.lookup ccE3 = some ⟨clE3, cldE3, .cell (some (.ref C_BadNumber)), cslE3⟩)
    (ed3 : K.lookup cdaE3 = some ⟨cclE3, cddE3, .fields vsE3, ccsE3⟩)
    (eq3 : vsE3[2]? = some (.str PG.main.file tfE3))
    (ep3 : PySem.W.ks_superIn K C_BadNumber C_BadNumber "__init__" = some (some (.builtin "ValueError.__init__")))
    (ev3 : PySem.W.subIn K (.ref C_BadNumber) (.type "ValueError") = some true)
    (em3 : PySem.W.mroIn K C_BadNumber (.ref C_BadNumber) = some true)
    (ek3 : PySem.W.keepIn K (.ref C_BadNumber) = true)
    (ea3 : PySem.W.findIn K (.ref C_BadNumber) "__class__" = some (some (.builtin "object.__class__")))
    (eb3 : PySem.W.mroIn K C_BadNumber (.type "object") = some true)
    (eL4 : K.lookup C_NoWalk = some (PySem.excClassObj nmE4 qE4 C_NoWalk NE4 bsE4 bmE4 true snE4 subE4 abE4 colE4 ddE4 m0E4 m1E4 m2E4 m3E4 m5E4 "ValueError.__new__"))
    (eR4 : PySem.HandSPX.refsVE bmE4 = true)
    (eS4 : PySem.W.findIn K (.ref C_NoWalk) "__setattr__" = some (some (.builtin "object.__setattr__")))
    (eG4 : PySem.W.findIn K (.ref C_NoWalk) "__getattribute__" = some (some (.builtin "BaseException.__getattribute__")))
    (eg4 : PySem.W.findIn K (.ref C_NoWalk) "__getattr__" = some none)
    (en4 : PySem.W.findIn K (.ref C_NoWalk) "first" = some none)
    (eN4 : PySem.W.findIn K (.ref C_NoWalk) "second" = some none)
    (eI4 : PySem.W.findIn K (.ref C_NoWalk) "__init__" = some (some (.ref fE4)))
    (et4 : PySem.W.typeIn K (.ref fE4) = some (.type "function"))
    (ef4 : K.lookup fE4 = some ⟨ocE4, odE4, .func (PySem.W.ksFn "__init__" "NoWalk.__init__" (defArgs s_NoWalk_init) (defBody s_NoWalk_init) (defScope s_NoWalk_init) .none .none docE4 pmE4 anE4 (.ref cdaE4) ctE4 ccE4), oslE4⟩)
    (ec4 : PySem.W.codeIn K (.ref cdaE4) "NoWalk.__init__" = true)
    (eo4 : K.lookup ccE4 = some ⟨clE4, cldE4, .cell (some (.ref C_NoWalk)), cslE4⟩)
    (ed4 : K.lookup cdaE4 = some ⟨cclE4, cddE4, .fields vsE4, ccsE4⟩)
    (eq4 : vsE4[2]? = some (.str PG.main.file tfE4))
    (ep4 : PySem.W.ks_superIn K C_NoWalk C_NoWalk "__init__" = some (some (.builtin "ValueError.__init__")))
    (ev4 : PySem.W.subIn K (.ref C_NoWalk) (.type "ValueError") = some true)
    (em4 : PySem.W.mroIn K C_NoWalk (.ref C_NoWalk) = some true)
    (ek4 : PySem.W.keepIn K (.ref C_NoWalk) = true)
    (ea4 : PySem.W.findIn K (.ref C_NoWalk) "__class__" = some (some (.builtin "object.__class__")))
    (eb4 : PySem.W.mroIn K C_NoWalk (.type "object") = some true)
    (ey1_ValueError : PySem.W.subIn K (.ref C_NoQuantity) (.type "ValueError") = some true)
    (ez1_4 : PySem.W.subIn K (.ref C_NoQuantity) (.ref C_NoWalk) = some false)
    (ez1_4n : (Value.ref C_NoQuantity == Value.ref C_NoWalk) = false)
    (ey4_ValueError : PySem.W.subIn K (.ref C_NoWalk) (.type "ValueError") = some true)
    (ez4_1 : PySem.W.subIn K (.ref C_NoWalk) (.ref C_NoQuantity) = some false)
    (ez4_1n : (Value.ref C_NoWalk == Value.ref C_NoQuantity) = false)
    (ex1_5 : PySem.W.subIn K (.ref C_NoQuantity) (.ref C_MeteError) = some true)
    (ex4_5 : PySem.W.subIn K (.ref C_NoWalk) (.ref C_MeteError) = some true) :
    ∃ fd : FuncData, (∀ (s : Shared) (v : Value), BindsTo s fd ⟨[v], []⟩ [("_law_script", v)]) ∧ ∀ base : Heap, K.In base → base.Ns mainGlobals mg → FnOk PG w K mg base CX0 10 fa fd ["_law_script"] (spLaw K) := by
  have F0 := fun_mk (st := s_compare) l0 c0 k0
  have F1 := fun_mk (st := s_is_quantity) l1 c1 k1
  have F2 := fun_mk (st := s_check_row) l2 c2 k2
  have F3 := fun_mk (st := s_across) l3 c3 k3
  have F4 := fun_mk (st := s_strikes_away) l4 c4 k4
  have F5 := fun_mk (st := s_least_walk) l5 c5 k5
  have F6 := fun_mk (st := s_Strikes___init) l6 c6 k6
  have F7 := fun_mk (st := s_Strikes_names) l7 c7 k7
  have F8 := fun_mk (st := s_Strikes_walk) l8 c8 k8
  have F9 := fun_mk (st := s_Strikes___add) l9 c9 k9
  have F10 := fun_mk (st := s_spread) l10 c10 k10
  have F11 := fun_mk (st := s_levels_with) l11 c11 k11
  have F12 := fun_mk (st := s_all_tunings) l12 c12 k12
  have F13 := fun_mk (st := s_tunings) l13 c13 k13
  have F14 := fun_mk (st := s_possible_beats) l14 c14 k14
  have F15 := fun_mk (st := s_w_is_integer) l15 c15 k15
  have F16 := fun_mk (st := s_w_draw) l16 c16 k16
  have F17 := fun_mk (st := s_w_great) l17 c17 k17
  have F18 := fun_mk (st := s_w_ends) l18 c18 k18
  have F19 := fun_mk (st := s_w_fresh) l19 c19 k19
  have F20 := fun_mk (st := s_w_names) l20 c20 k20
  have F21 := fun_mk (st := s_w_level) l21 c21 k21
  have F22 := fun_mk (st := s_w_rows) l22 c22 k22
  have F23 := fun_mk (st := s_w_strikes) l23 c23 k23
  have F24 := fun_mk (st := s_w_quantities) l24 c24 k24
  have F25 := fun_mk (st := s_w_rounds) l25 c25 k25
  have F26 := fun_mk (st := s_w_is_closed) l26 c26 k26
  have F27 := fun_mk (st := s_w_due) l27 c27 k27
  have F28 := fun_mk (st := s_w_paths) l28 c28 k28
  have F29 := fun_mk (st := s_w_distances) l29 c29 k29
  have F30 := fun_mk (st := s_w_told) l30 c30 k30
  have F31 := fun_mk (st := s_w_are_beats) l31 c31 k31
  have F32 := fun_mk (st := s_w_pair_right) l32 c32 k32
  have F33 := fun_mk (st := s_law) l33 c33 k33
  have e := hfa.symm.trans (PySem.W.mg_of X G a33)
  cases e
  let T : Tx K mg := {
    f_compare := f0, fd_compare := _, F_compare := F0,
    g_compare := PySem.W.mg_of X G a0,
    b_compare := F0.binds (ps := ["first", "second"]) fun _ _ _ _ _ _ us hl => match us, hl with | [_, _], _ => rfl,
    f_is_quantity := f1, fd_is_quantity := _, F_is_quantity := F1,
    g_is_quantity := PySem.W.mg_of X G a1,
    b_is_quantity := F1.binds (ps := ["text"]) fun _ _ _ _ _ _ us hl => match us, hl with | [_], _ => rfl,
    f_check_row := f2, fd_check_row := _, F_check_row := F2,
    g_check_row := PySem.W.mg_of X G a2,
    b_check_row := F2.binds (ps := ["first", "second", "count"]) fun _ _ _ _ _ _ us hl => match us, hl with | [_, _, _], _ => rfl,
    f_across := f3, fd_across := _, F_across := F3,
    g_across := PySem.W.mg_of X G a3,
    b_across := F3.binds (ps := ["row", "name"]) fun _ _ _ _ _ _ us hl => match us, hl with | [_, _], _ => rfl,
    f_strikes_away := f4, fd_strikes_away := _, F_strikes_away := F4,
    g_strikes_away := PySem.W.mg_of X G a4,
    b_strikes_away := F4.binds (ps := ["rows", "indexes", "goal"]) fun _ _ _ _ _ _ us hl => match us, hl with | [_, _, _], _ => rfl,
    f_least_walk := f5, fd_least_walk := _, F_least_walk := F5,
    g_least_walk := PySem.W.mg_of X G a5,
    b_least_walk := F5.binds (ps := ["rows", "indexes", "first", "second"]) fun _ _ _ _ _ _ us hl => match us, hl with | [_, _, _, _], _ => rfl,
    f_Strikes___init := f6, fd_Strikes___init := _, F_Strikes___init := F6,
    f_Strikes_names := f7, fd_Strikes_names := _, F_Strikes_names := F7,
    b_Strikes_names := F7.binds (ps := ["self"]) fun _ _ _ _ _ _ us hl => match us, hl with | [_], _ => rfl,
    f_Strikes_walk := f8, fd_Strikes_walk := _, F_Strikes_walk := F8,
    b_Strikes_walk := F8.binds (ps := ["self", "first", "second"]) fun _ _ _ _ _ _ us hl => match us, hl with | [_, _, _], _ => rfl,
    f_Strikes___add := f9, fd_Strikes___add := _, F_Strikes___add := F9,
    b_Strikes___add := F9.binds (ps := ["self", "other"]) fun _ _ _ _ _ _ us hl => match us, hl with | [_, _], _ => rfl,
    f_spread := f10, fd_spread := _, F_spread := F10,
    g_spread := PySem.W.mg_of X G a10,
    b_spread := F10.binds (ps := ["rows", "rises", "levels", "start"]) fun _ _ _ _ _ _ us hl => match us, hl with | [_, _, _, _], _ => rfl,
    f_levels_with := f11, fd_levels_with := _, F_levels_with := F11,
    g_levels_with := PySem.W.mg_of X G a11,
    b_levels_with := F11.binds (ps := ["rows", "rises"]) fun _ _ _ _ _ _ us hl => match us, hl with | [_, _], _ => rfl,
    f_all_tunings := f12, fd_all_tunings := _, F_all_tunings := F12,
    g_all_tunings := PySem.W.mg_of X G a12,
    b_all_tunings := F12.binds (ps := ["rows"]) fun _ _ _ _ _ _ us hl => match us, hl with | [_], _ => rfl,
    f_tunings := f13, fd_tunings := _, F_tunings := F13,
    g_tunings := PySem.W.mg_of X G a13,
    b_tunings := F13.binds (ps := ["strikes"]) fun _ _ _ _ _ _ us hl => match us, hl with | [_], _ => rfl,
    f_possible_beats := f14, fd_possible_beats := _, F_possible_beats := F14,
    g_possible_beats := PySem.W.mg_of X G a14,
    b_possible_beats := F14.binds (ps := ["strikes", "first", "second"]) fun _ _ _ _ _ _ us hl => match us, hl with | [_, _, _], _ => rfl,
    f_w_is_integer := f15, fd_w_is_integer := _, F_w_is_integer := F15,
    g_w_is_integer := PySem.W.mg_of X G a15,
    b_w_is_integer := F15.binds (ps := ["_law_actual"]) fun _ _ _ _ _ _ us hl => match us, hl with | [_], _ => rfl,
    f_w_draw := f16, fd_w_draw := _, F_w_draw := F16,
    g_w_draw := PySem.W.mg_of X G a16,
    b_w_draw := F16.binds (ps := ["_law_box", "_law_size"]) fun _ _ _ _ _ _ us hl => match us, hl with | [_, _], _ => rfl,
    f_w_great := f17, fd_w_great := _, F_w_great := F17,
    g_w_great := PySem.W.mg_of X G a17,
    b_w_great := F17.binds (ps := ["_law_box"]) fun _ _ _ _ _ _ us hl => match us, hl with | [_], _ => rfl,
    f_w_ends := f18, fd_w_ends := _, F_w_ends := F18,
    g_w_ends := PySem.W.mg_of X G a18,
    b_w_ends := F18.binds (ps := ["_law_box"]) fun _ _ _ _ _ _ us hl => match us, hl with | [_], _ => rfl,
    f_w_fresh := f19, fd_w_fresh := _, F_w_fresh := F19,
    g_w_fresh := PySem.W.mg_of X G a19,
    b_w_fresh := F19.binds (ps := ["_law_box", "_law_ends_here", "_law_taken"]) fun _ _ _ _ _ _ us hl => match us, hl with | [_, _, _], _ => rfl,
    f_w_names := f20, fd_w_names := _, F_w_names := F20,
    g_w_names := PySem.W.mg_of X G a20,
    b_w_names := F20.binds (ps := ["_law_box", "_law_many"]) fun _ _ _ _ _ _ us hl => match us, hl with | [_, _], _ => rfl,
    f_w_level := f21, fd_w_level := _, F_w_level := F21,
    g_w_level := PySem.W.mg_of X G a21,
    b_w_level := F21.binds (ps := ["_law_box", "_law_k", "_law_way"]) fun _ _ _ _ _ _ us hl => match us, hl with | [_, _, _], _ => rfl,
    f_w_rows := f22, fd_w_rows := _, F_w_rows := F22,
    g_w_rows := PySem.W.mg_of X G a22,
    b_w_rows := F22.binds (ps := ["_law_box"]) fun _ _ _ _ _ _ us hl => match us, hl with | [_], _ => rfl,
    f_w_strikes := f23, fd_w_strikes := _, F_w_strikes := F23,
    g_w_strikes := PySem.W.mg_of X G a23,
    b_w_strikes := F23.binds (ps := ["_law_r"]) fun _ _ _ _ _ _ us hl => match us, hl with | [_], _ => rfl,
    f_w_quantities := f24, fd_w_quantities := _, F_w_quantities := F24,
    g_w_quantities := PySem.W.mg_of X G a24,
    b_w_quantities := F24.binds (ps := ["_law_rows_here"]) fun _ _ _ _ _ _ us hl => match us, hl with | [_], _ => rfl,
    f_w_rounds := f25, fd_w_rounds := _, F_w_rounds := F25,
    g_w_rounds := PySem.W.mg_of X G a25,
    b_w_rounds := F25.binds (ps := ["_law_rows_here"]) fun _ _ _ _ _ _ us hl => match us, hl with | [_], _ => rfl,
    f_w_is_closed := f26, fd_w_is_closed := _, F_w_is_closed := F26,
    g_w_is_closed := PySem.W.mg_of X G a26,
    b_w_is_closed := F26.binds (ps := ["_law_rows_here", "_law_rounds_here", "_law_rises"]) fun _ _ _ _ _ _ us hl => match us, hl with | [_, _, _], _ => rfl,
    f_w_due := f27, fd_w_due := _, F_w_due := F27,
    g_w_due := PySem.W.mg_of X G a27,
    b_w_due := F27.binds (ps := ["_law_rows_here"]) fun _ _ _ _ _ _ us hl => match us, hl with | [_], _ => rfl,
    f_w_paths := f28, fd_w_paths := _, F_w_paths := F28,
    g_w_paths := PySem.W.mg_of X G a28,
    b_w_paths := F28.binds (ps := ["_law_rows_here", "_law_first"]) fun _ _ _ _ _ _ us hl => match us, hl with | [_, _], _ => rfl,
    f_w_distances := f29, fd_w_distances := _, F_w_distances := F29,
    g_w_distances := PySem.W.mg_of X G a29,
    b_w_distances := F29.binds (ps := ["_law_rows_here", "_law_tuned", "_law_path"]) fun _ _ _ _ _ _ us hl => match us, hl with | [_, _, _], _ => rfl,
    f_w_told := f30, fd_w_told := _, F_w_told := F30,
    g_w_told := PySem.W.mg_of X G a30,
    b_w_told := F30.binds (ps := ["_law_strikes_here", "_law_first", "_law_second"]) fun _ _ _ _ _ _ us hl => match us, hl with | [_, _, _], _ => rfl,
    f_w_are_beats := f31, fd_w_are_beats := _, F_w_are_beats := F31,
    g_w_are_beats := PySem.W.mg_of X G a31,
    b_w_are_beats := F31.binds (ps := ["_law_told_here", "_law_due_here"]) fun _ _ _ _ _ _ us hl => match us, hl with | [_, _], _ => rfl,
    f_w_pair_right := f32, fd_w_pair_right := _, F_w_pair_right := F32,
    g_w_pair_right := PySem.W.mg_of X G a32,
    b_w_pair_right := F32.binds (ps := ["_law_strikes_here", "_law_back", "_law_rows_here", "_law_tuned", "_law_first", "_law_second"]) fun _ _ _ _ _ _ us hl => match us, hl with | [_, _, _, _, _, _], _ => rfl,
    f_law := fa, fd_law := _, F_law := F33,
    g_law := PySem.W.mg_of X G a33,
    b_law := F33.binds (ps := ["_law_script"]) fun _ _ _ _ _ _ us hl => match us, hl with | [_], _ => rfl,
    m_len := PySem.W.mg_none_of X G z0,
    m_range := PySem.W.mg_none_of X G z1,
    m_isinstance := PySem.W.mg_none_of X G z2,
    m_int := PySem.W.mg_none_of X G z3,
    m_bool := PySem.W.mg_none_of X G z4,
    m_str := PySem.W.mg_none_of X G z5,
    m_list := PySem.W.mg_none_of X G z6,
    m_tuple := PySem.W.mg_none_of X G z7,
    m_abs := PySem.W.mg_none_of X G z8,
    m_sum := PySem.W.mg_none_of X G z9,
    m_sorted := PySem.W.mg_none_of X G z10,
    m_enumerate := PySem.W.mg_none_of X G z11,
    m_zip := PySem.W.mg_none_of X G z12,
    m_all := PySem.W.mg_none_of X G z13,
    m_set := PySem.W.mg_none_of X G z14,
    m_NotImplemented := PySem.W.mg_none_of X G z15,
    m_ValueError := PySem.W.mg_none_of X G z16,
    C_Strikes := C_Strikes, gC_Strikes := PySem.W.mg_of X G o0g, oc_Strikes := ⟨⟨o0a, o0b, o0c, o0d⟩, o0e, o0f, o0h, o0i, o0j⟩,
    na_Strikes_rows := o0n0,
    mk_Strikes := ⟨o0k, a6, fn6, o0l⟩,
    me_Strikes_names := ⟨a7, fn7, k7⟩,
    me_Strikes_walk := ⟨a8, fn8, k8⟩,
    me_Strikes___add := ⟨a9, fn9, k9⟩,
    si_Strikes := o0s, is_Strikes := o0t,
    c_LETTERS := ⟨_, PySem.W.mg_of X G z17⟩,
    c_QUANTITY_SIGNS := ⟨_, PySem.W.mg_of X G z18⟩,
    c_LONGEST_QUANTITY := ⟨_, PySem.W.mg_of X G z19⟩,
    c_MOST_STRIKES := ⟨_, PySem.W.mg_of X G z20⟩,
    C_BadName := C_BadName, gC_BadName := PySem.W.mg_of X G eC0,
    C_NoQuantity := C_NoQuantity, gC_NoQuantity := PySem.W.mg_of X G eC1,
    C_Taken := C_Taken, gC_Taken := PySem.W.mg_of X G eC2,
    C_BadNumber := C_BadNumber, gC_BadNumber := PySem.W.mg_of X G eC3,
    C_NoWalk := C_NoWalk, gC_NoWalk := PySem.W.mg_of X G eC4,
    C_MeteError := C_MeteError, gC_MeteError := PySem.W.mg_of X G eC5,
    Z_BadName := fun w => ⟨⟨fE0, ccE0, cdaE0, _, _, _, _, _, _, _, _, _, sh_BadName, ⟨⟨_, _, _, _, _, _, _, _, _, _, _, _, _, _, _, eL0, eR0⟩, eS0, eI0, et0, ⟨_, _, _, eo0⟩, ⟨_, _, _, _, _, ed0, eq0⟩, ep0, ev0, em0, es2, PySem.W.mg_none_of X G es3, rfl⟩, ef0, ec0⟩, PySem.W.mg_of X G eC0, ek0, en0, eB0, eT0⟩,
    X_BadName := ⟨eG0, eg0, eB0, eH0, ea0, es0, es1, eb0⟩,
    xf_BadName := ⟨eG0, eg0, eB0, eH0⟩,
    Z_NoQuantity := fun w => ⟨⟨fE1, ccE1, cdaE1, _, _, _, _, _, _, _, _, _, sh_NoQuantity, ⟨⟨_, _, _, _, _, _, _, _, _, _, _, _, _, _, _, eL1, eR1⟩, eS1, eI1, et1, ⟨_, _, _, eo1⟩, ⟨_, _, _, _, _, ed1, eq1⟩, ep1, ev1, em1, es2, PySem.W.mg_none_of X G es3, rfl⟩, ef1, ec1⟩, PySem.W.mg_of X G eC1, ek1, en1, eB1, eT1⟩,
    X_NoQuantity := ⟨eG1, eg1, eB1, eH1, ea1, es0, es1, eb1⟩,
    xf_NoQuantity := ⟨eG1, eg1, eB1, eH1⟩,
    Z_Taken := fun w => ⟨⟨fE2, ccE2, cdaE2, _, _, _, _, _, _, _, _, _, sh_Taken, ⟨⟨_, _, _, _, _, _, _, _, _, _, _, _, _, _, _, eL2, eR2⟩, eS2, eI2, et2, ⟨_, _, _, eo2⟩, ⟨_, _, _, _, _, ed2, eq2⟩, ep2, ev2, em2, es2, PySem.W.mg_none_of X G es3, rfl⟩, ef2, ec2⟩, PySem.W.mg_of X G eC2, ek2, en2, eB2, eT2⟩,
    X_Taken := ⟨eG2, eg2, eB2, eH2, ea2, es0, es1, eb2⟩,
    xf_Taken := ⟨eG2, eg2, eB2, eH2⟩,
    Z_BadNumber := fun w => ⟨⟨fE3, ccE3, cdaE3, _, _, _, _, _, _, _, _, _, sh_BadNumber, ⟨⟨_, _, _, _, _, _, _, _, _, _, _, _, _, _, _, eL3, eR3⟩, eS3, eI3, et3, ⟨_, _, _, eo3⟩, ⟨_, _, _, _, _, ed3, eq3⟩, ep3, ev3, em3, es2, PySem.W.mg_none_of X G es3, rfl⟩, ef3, ec3⟩, PySem.W.mg_of X G eC3, ek3, en3, eB3, eT3⟩,
    X_BadNumber := ⟨eG3, eg3, eB3, eH3, ea3, es0, es1, eb3⟩,
    xf_BadNumber := ⟨eG3, eg3, eB3, eH3⟩,
    Z_NoWalk := fun w => ⟨⟨fE4, ccE4, cdaE4, _, _, _, _, _, _, _, _, _, sh_NoWalk, ⟨⟨_, _, _, _, _, _, _, _, _, _, _, _, _, _, _, eL4, eR4⟩, eS4, eI4, et4, ⟨_, _, _, eo4⟩, ⟨_, _, _, _, _, ed4, eq4⟩, ep4, ev4, em4, es2, PySem.W.mg_none_of X G es3, rfl⟩, ef4, ec4⟩, PySem.W.mg_of X G eC4, ek4, en4, eN4, eB4, eT4⟩,
    X_NoWalk := ⟨eG4, eg4, eB4, eH4, ea4, es0, es1, eb4⟩,
    xf_NoWalk := ⟨eG4, eg4, eB4, eH4⟩,
    kit_NoQuantity_NoQuantity := Er.kit_self,
    kit_NoQuantity_ValueError := Er.kit_typ (by decide +kernel) ey1_ValueError,
    kit_NoQuantity_NoWalk := Er.kit_refs eH4 eT4 ez1_4 ez1_4n,
    kit_NoWalk_NoWalk := Er.kit_self,
    kit_NoWalk_ValueError := Er.kit_typ (by decide +kernel) ey4_ValueError,
    kit_NoWalk_NoQuantity := Er.kit_refs eH1 eT1 ez4_1 ez4_1n,
    exm_NoQuantity_MeteError := PySem.W.exm_ref eB5 eH5 eT5 ex1_5,
    exm_NoWalk_MeteError := PySem.W.exm_ref eB5 eH5 eT5 ex4_5 }
  refine ⟨T.fd_law, fun s v => .of_eq rfl, fun base _ _ => ?_⟩
  exact law_of T
end My
open PySem PySem.W PyProof.Rows
set_option maxHeartbeats 0 in
theorem PySem.Challenge.cw_metehouse_k31_beats_that_are_possible_holds : PySem.Challenge.rw_metehouse_k31_beats_that_are_possible.Holds := by
  w_on; o_law; k_head; (case hw => w_witness2)
  k_fill
  refine L2.walk_of (l := PySem.Challenge.rw_metehouse_k31_beats_that_are_possible) (n := 63) (k := 10) (x := "_law_script") (CX := fun _ => L2.CX0) (sp := fun w => My.spLaw _) rfl (by decide) rfl ⟨rfl, by decide, by decide⟩ (fun w h Y => PySem.W.kIn_of Y) ?F (fun _ _ a ns hl _ hS => ⟨a, ns, rfl, hS, hl, fun _ => rfl⟩) (fun _ _ _ _ _ h => h)
  case F =>
    intro w mg fa h KX G hmg
    refine' My.all_mk KX G hmg ?o0g ?a0 ?l0 ?c0 ?k0 ?a1 ?l1 ?c1 ?k1 ?a2 ?l2 ?c2 ?k2 ?a3 ?l3 ?c3 ?k3 ?a4 ?l4 ?c4 ?k4 ?a5 ?l5 ?c5 ?k5 ?a6 ?l6 ?c6 ?k6 ?a7 ?l7 ?c7 ?k7 ?a8 ?l8 ?c8 ?k8 ?a9 ?l9 ?c9 ?k9 ?a10 ?l10 ?c10 ?k10 ?a11 ?l11 ?c11 ?k11 ?a12 ?l12 ?c12 ?k12 ?a13 ?l13 ?c13 ?k13 ?a14 ?l14 ?c14 ?k14 ?a15 ?l15 ?c15 ?k15 ?a16 ?l16 ?c16 ?k16 ?a17 ?l17 ?c17 ?k17 ?a18 ?l18 ?c18 ?k18 ?a19 ?l19 ?c19 ?k19 ?a20 ?l20 ?c20 ?k20 ?a21 ?l21 ?c21 ?k21 ?a22 ?l22 ?c22 ?k22 ?a23 ?l23 ?c23 ?k23 ?a24 ?l24 ?c24 ?k24 ?a25 ?l25 ?c25 ?k25 ?a26 ?l26 ?c26 ?k26 ?a27 ?l27 ?c27 ?k27 ?a28 ?l28 ?c28 ?k28 ?a29 ?l29 ?c29 ?k29 ?a30 ?l30 ?c30 ?k30 ?a31 ?l31 ?c31 ?k31 ?a32 ?l32 ?c32 ?k32 ?a33 ?l33 ?c33 ?k33 ?z0 ?z1 ?z2 ?z3 ?z4 ?z5 ?z6 ?z7 ?z8 ?z9 ?z10 ?z11 ?z12 ?z13 ?z14 ?z15 ?z16 ?o0a ?o0b ?o0c ?o0d ?o0e ?o0f ?o0h ?o0i ?o0j ?o0n0 ?o0k ?o0l ?fn6 ?fn7 ?fn8 ?fn9 ?o0s ?o0t ?z17 ?z18 ?z19 ?z20 ?es0 ?es1 ?es2 ?es3 ?eC0 ?eB0 ?eH0 ?eT0 ?eC1 ?eB1 ?eH1 ?eT1 ?eC2 ?eB2 ?eH2 ?eT2 ?eC3 ?eB3 ?eH3 ?eT3 ?eC4 ?eB4 ?eH4 ?eT4 ?eC5 ?eB5 ?eH5 ?eT5 ?eL0 ?eR0 ?eS0 ?eG0 ?eg0 ?en0 ?eI0 ?et0 ?ef0 ?ec0 ?eo0 ?ed0 ?eq0 ?ep0 ?ev0 ?em0 ?ek0 ?ea0 ?eb0 ?eL1 ?eR1 ?eS1 ?eG1 ?eg1 ?en1 ?eI1 ?et1 ?ef1 ?ec1 ?eo1 ?ed1 ?eq1 ?ep1 ?ev1 ?em1 ?ek1 ?ea1 ?eb1 ?eL2 ?eR2 ?eS2 ?eG2 ?eg2 ?en2 ?eI2 ?et2 ?ef2 ?ec2 ?eo2 ?ed2 ?eq2 ?ep2 ?ev2 ?em2 ?ek2 ?ea2 ?eb2 ?eL3 ?eR3 ?eS3 ?eG3 ?eg3 ?en3 ?eI3 ?et3 ?ef3 ?ec3 ?eo3 ?ed3 ?eq3 ?ep3 ?ev3 ?em3 ?ek3 ?ea3 ?eb3 ?eL4 ?eR4 ?eS4 ?eG4 ?eg4 ?en4 ?eN4 ?eI4 ?et4 ?ef4 ?ec4 ?eo4 ?ed4 ?eq4 ?ep4 ?ev4 ?em4 ?ek4 ?ea4 ?eb4 ?ey1_ValueError ?ez1_4 ?ez1_4n ?ey4_ValueError ?ez4_1 ?ez4_1n ?ex1_5 ?ex4_5
    (case o0g => k_is)
    (case a0 => k_is)
    (case l0 => k_is)
    (case c0 => k_is)
    (case k0 => k_is)
    (case a1 => k_is)
    (case l1 => k_is)
    (case c1 => k_is)
    (case k1 => k_is)
    (case a2 => k_is)
    (case l2 => k_is)
    (case c2 => k_is)
    (case k2 => k_is)
    (case a3 => k_is)
    (case l3 => k_is)
    (case c3 => k_is)
    (case k3 => k_is)
    (case a4 => k_is)
    (case l4 => k_is)
    (case c4 => k_is)
    (case k4 => k_is)
    (case a5 => k_is)
    (case l5 => k_is)
    (case c5 => k_is)
    (case k5 => k_is)
    (case a6 => k_is)
    (case l6 => k_is)
    (case c6 => k_is)
    (case k6 => k_is)
    (case a7 => k_is)
    (case l7 => k_is)
    (case c7 => k_is)
    (case k7 => k_is)
    (case a8 => k_is)
    (case l8 => k_is)
    (case c8 => k_is)
    (case k8 => k_is)
    (case a9 => k_is)
    (case l9 => k_is)
    (case c9 => k_is)
    (case k9 => k_is)
    (case a10 => k_is)
    (case l10 => k_is)
    (case c10 => k_is)
    (case k10 => k_is)
    (case a11 => k_is)
    (case l11 => k_is)
    (case c11 => k_is)
    (case k11 => k_is)
    (case a12 => k_is)
    (case l12 => k_is)
    (case c12 => k_is)
    (case k12 => k_is)
    (case a13 => k_is)
    (case l13 => k_is)
    (case c13 => k_is)
    (case k13 => k_is)
    (case a14 => k_is)
    (case l14 => k_is)
    (case c14 => k_is)
    (case k14 => k_is)
    (case a15 => k_is)
    (case l15 => k_is)
    (case c15 => k_is)
    (case k15 => k_is)
    (case a16 => k_is)
    (case l16 => k_is)
    (case c16 => k_is)
    (case k16 => k_is)
    (case a17 => k_is)
    (case l17 => k_is)
    (case c17 => k_is)
    (case k17 => k_is)
    (case a18 => k_is)
    (case l18 => k_is)
    (case c18 => k_is)
    (case k18 => k_is)
    (case a19 => k_is)
    (case l19 => k_is)
    (case c19 => k_is)
    (case k19 => k_is)
    (case a20 => k_is)
    (case l20 => k_is)
    (case c20 => k_is)
    (case k20 => k_is)
    (case a21 => k_is)
    (case l21 => k_is)
    (case c21 => k_is)
    (case k21 => k_is)
    (case a22 => k_is)
    (case l22 => k_is)
    (case c22 => k_is)
    (case k22 => k_is)
    (case a23 => k_is)
    (case l23 => k_is)
    (case c23 => k_is)
    (case k23 => k_is)
    (case a24 => k_is)
    (case l24 => k_is)
    (case c24 => k_is)
    (case k24 => k_is)
    (case a25 => k_is)
    (case l25 => k_is)
    (case c25 => k_is)
    (case k25 => k_is)
    (case a26 => k_is)
    (case l26 => k_is)
    (case c26 => k_is)
    (case k26 => k_is)
    (case a27 => k_is)
    (case l27 => k_is)
    (case c27 => k_is)
    (case k27 => k_is)
    (case a28 => k_is)
    (case l28 => k_is)
    (case c28 => k_is)
    (case k28 => k_is)
    (case a29 => k_is)
    (case l29 => k_is)
    (case c29 => k_is)
    (case k29 => k_is)
    (case a30 => k_is)
    (case l30 => k_is)
    (case c30 => k_is)
    (case k30 => k_is)
    (case a31 => k_is)
    (case l31 => k_is)
    (case c31 => k_is)
    (case k31 => k_is)
    (case a32 => k_is)
    (case l32 => k_is)
    (case c32 => k_is)
    (case k32 => k_is)
    (case a33 => k_is)
    (case l33 => k_is)
    (case c33 => k_is)
    (case k33 => k_is)
    (case z0 => k_is)
    (case z1 => k_is)
    (case z2 => k_is)
    (case z3 => k_is)
    (case z4 => k_is)
    (case z5 => k_is)
    (case z6 => k_is)
    (case z7 => k_is)
    (case z8 => k_is)
    (case z9 => k_is)
    (case z10 => k_is)
    (case z11 => k_is)
    (case z12 => k_is)
    (case z13 => k_is)
    (case z14 => k_is)
    (case z15 => k_is)
    (case z16 => k_is)
    (case o0a => k_is)
    (case o0b => k_is)
    (case o0c => k_is)
    (case o0d => k_is)
    (case o0e => k_is)
    (case o0f => k_is)
    (case o0h => k_is)
    (case o0i => k_is)
    (case o0j => k_is)
    (case o0n0 => k_is)
    (case o0k => k_is)
    (case o0l => k_is)
    (case fn6 => k_is)
    (case fn7 => k_is)
    (case fn8 => k_is)
    (case fn9 => k_is)
    (case o0s => k_is)
    (case o0t => k_is)
    (case z17 => k_is)
    (case z18 => k_is)
    (case z19 => k_is)
    (case z20 => k_is)
    (case es0 => k_is)
    (case es1 => k_is)
    (case es2 => k_is)
    (case es3 => k_is)
    (case eC0 => k_is)
    (case eB0 => k_is)
    (case eH0 => k_is)
    (case eT0 => k_is)
    (case eC1 => k_is)
    (case eB1 => k_is)
    (case eH1 => k_is)
    (case eT1 => k_is)
    (case eC2 => k_is)
    (case eB2 => k_is)
    (case eH2 => k_is)
    (case eT2 => k_is)
    (case eC3 => k_is)
    (case eB3 => k_is)
    (case eH3 => k_is)
    (case eT3 => k_is)
    (case eC4 => k_is)
    (case eB4 => k_is)
    (case eH4 => k_is)
    (case eT4 => k_is)
    (case eC5 => k_is)
    (case eB5 => k_is)
    (case eH5 => k_is)
    (case eT5 => k_is)
    (case eL0 => k_is)
    (case eR0 => decide +kernel)
    (case eS0 => k_is)
    (case eG0 => k_is)
    (case eg0 => k_is)
    (case en0 => k_is)
    (case eI0 => k_is)
    (case et0 => k_is)
    (case ef0 => k_is)
    (case ec0 => k_is)
    (case eo0 => k_is)
    (case ed0 => k_is)
    (case eq0 => rfl)
    (case ep0 => ks_is)
    (case ev0 => k_is)
    (case em0 => k_is)
    (case ek0 => k_is)
    (case ea0 => k_is)
    (case eb0 => k_is)
    (case eL1 => k_is)
    (case eR1 => decide +kernel)
    (case eS1 => k_is)
    (case eG1 => k_is)
    (case eg1 => k_is)
    (case en1 => k_is)
    (case eI1 => k_is)
    (case et1 => k_is)
    (case ef1 => k_is)
    (case ec1 => k_is)
    (case eo1 => k_is)
    (case ed1 => k_is)
    (case eq1 => rfl)
    (case ep1 => ks_is)
    (case ev1 => k_is)
    (case em1 => k_is)
    (case ek1 => k_is)
    (case ea1 => k_is)
    (case eb1 => k_is)
    (case eL2 => k_is)
    (case eR2 => decide +kernel)
    (case eS2 => k_is)
    (case eG2 => k_is)
    (case eg2 => k_is)
    (case en2 => k_is)
    (case eI2 => k_is)
    (case et2 => k_is)
    (case ef2 => k_is)
    (case ec2 => k_is)
    (case eo2 => k_is)
    (case ed2 => k_is)
    (case eq2 => rfl)
    (case ep2 => ks_is)
    (case ev2 => k_is)
    (case em2 => k_is)
    (case ek2 => k_is)
    (case ea2 => k_is)
    (case eb2 => k_is)
    (case eL3 => k_is)
    (case eR3 => decide +kernel)
    (case eS3 => k_is)
    (case eG3 => k_is)
    (case eg3 => k_is)
    (case en3 => k_is)
    (case eI3 => k_is)
    (case et3 => k_is)
    (case ef3 => k_is)
    (case ec3 => k_is)
    (case eo3 => k_is)
    (case ed3 => k_is)
    (case eq3 => rfl)
    (case ep3 => ks_is)
    (case ev3 => k_is)
    (case em3 => k_is)
    (case ek3 => k_is)
    (case ea3 => k_is)
    (case eb3 => k_is)
    (case eL4 => k_is)
    (case eR4 => decide +kernel)
    (case eS4 => k_is)
    (case eG4 => k_is)
    (case eg4 => k_is)
    (case en4 => k_is)
    (case eN4 => k_is)
    (case eI4 => k_is)
    (case et4 => k_is)
    (case ef4 => k_is)
    (case ec4 => k_is)
    (case eo4 => k_is)
    (case ed4 => k_is)
    (case eq4 => rfl)
    (case ep4 => ks_is)
    (case ev4 => k_is)
    (case em4 => k_is)
    (case ek4 => k_is)
    (case ea4 => k_is)
    (case eb4 => k_is)
    (case ey1_ValueError => k_is)
    (case ez1_4 => k_is)
    (case ez1_4n => rfl)
    (case ey4_ValueError => k_is)
    (case ez4_1 => k_is)
    (case ez4_1n => rfl)
    (case ex1_5 => k_is)
    (case ex4_5 => k_is)
