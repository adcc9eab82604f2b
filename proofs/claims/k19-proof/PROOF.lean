import PyProof.Rows.All
import Wide.All
import OpenK.AllK
import Wide.FinOn
import HandS.ForMost
import HandS.Exc
import HandS.TryOnly
import HandS.ExcOwn
import HandS.ExcBuiltin
import HandS.WordsExc
import HandS.IsInst
import HandS.Defaults
import HandS.Star
import HandS.Flow
import HandS.Wide
import HandS.Gcd
import HandS.Evl
import HandS.CallSlots
import KE.KExcSuper
import HandS.ExcInit
import HandS.FStr
import HandS.ExcIs
import HandS.ExcField
import KE.KExcIs
import KE.KOpsOwn
import KE.KCallOwn
import HandS.OwnEq
import PyProof.ListMulRight
import HandS.Codes
import HandS.SlotsOwn
import PyProof.Rows.TmSorted
import PyProof.Rows.StrMeet
import HandS.Walk
import HandS.RaiseMore
import HandS.TupAny
import HandS.Conv
import PyProof.Rows.StrDigitsNeg
import HandS.Zip
import HandS.DictComp
import KE.KDictWalk
import HandS.TupLen
import HandS.Deep
import HandS.SortRule
import HandS.Sort
import HandS.DictEq
import KE.KDictCopyH
import HandS.ClsMeth
import KE.KTupTruth
import HandS.Small
import PyProof.Rows.Range3
import HandS.SortKw
import KE.DataMinMax
import HandS.ListItems
import HandS.Style
import HandS.WideBits
import HandS.More
import KE.KDictList
import KE.KMathG
import HandS.DictTup
import KE.KDictDisplayH
import PyProof.DictMoreH
import KE.KParD
import HandS.TryMany
import PyProof.StrBlock2
import PyProof.TupleKey
import KE.GoesMore
import PyProof.Draws
import KE.GoesZip
import PySem.Challenge.RW_metehouse_k19_whole_cancelled_or_shifted
set_option Elab.async false
set_option linter.all false
set_option maxRecDepth 100000
set_option maxHeartbeats 4000000
namespace My
open PySem PySem.Spec PyProof.Rows L2 StX
/-! ### rules of my own -/
section
variable {X : Cx}
/-- floor division by any divisor that is not 0, below 2 ^ 9000 in size -/
theorem op_fdivWN : OpR X (binaryOp .FloorDiv) (rI (fun _ j => j ≠ 0 ∧ j.natAbs.log2 < 9000) fun i j => .int (i.fdiv j)) :=
  opI fun _ _ _ _ _ _ _ hc q => floordiv_int hc.1 q (.inl (PyProof.noPylong_of_log2 hc.2))
theorem op_mulG : OpR X (binaryOp .Mult) (rI (fun i j => CMul i j ∨ CMulW i j) fun i j => .int (i * j)) := opI fun _ _ _ _ _ _ _ hc q => mul_int q (hc.elim CMul.ok CMulW.ok)
variable {CX : CXT} {k : Nat} {f : Addr} {sp : Sp} {E : XK} {x : Str} {p pos : Pos} {e : Expr} {es : List Expr} {t : TA}
/-- a call of a def whose promise is told raw -/
theorem pe_callR (F : FnR X.prog X.w X.K X.mg X.base CX k f sp) (hr : Room k X.A) (hg : Gl X x) (hm : X.mg x = some (.ref f)) (hk : PySem.W.keepIn X.K (.ref f) = true) (hx : Passes CX X E)
    (ha : PA X (e :: es) t) (hdb : (x == ("__debug__" : Str)) = false := by decide) (he : starEach (e :: es) X.env = (false, eval e X.env) :: starEach es X.env := by rfl) (hpl : (backTo pos (starEach es X.env)).any (·.1) = false := by rfl) :
    PE X (.Call (.Name x p) (e :: es) [] pos) (fun σ H Q => t σ H fun vs H1 => sp vs H1 Q E) := by
  refine ⟨fun pins s σ H Q I h => ?_⟩
  refine wpAny_Call_Name_kw (ld_glob I hg hm ?_ hdb)
  refine PySem.W.callWith_K (h₀ := X.base) I.ok.mod.kin hk (thn (ha.run pos pins s σ H _ I h) fun us s1 ⟨vs, H1, I1, r, q⟩ => ⟨I1.kIn, ?_⟩) he hpl
  exact wpAny_call (run_fnR F hr hx I1 r q)
theorem pe_callR0 (F : FnR X.prog X.w X.K X.mg X.base CX k f sp) (hr : Room k X.A) (hg : Gl X x) (hm : X.mg x = some (.ref f)) (hk : PySem.W.keepIn X.K (.ref f) = true) (hx : Passes CX X E)
    (hdb : (x == ("__debug__" : Str)) = false := by decide) : PE X (.Call (.Name x p) [] [] pos) (fun σ H Q => sp [] H Q E) := by
  refine ⟨fun pins s σ H Q I h => ?_⟩
  refine wpAny_Call_Name_kw (ld_glob I hg hm ?_ hdb)
  exact PySem.W.callWith_K0 I.kIn hk (wpAny_call (run_fnR (us := []) F hr hx I .nil h))
end
section
variable {P : Program} {w : World} {K : PySem.W.Frag} {mg : Str → Option Value} {base : Heap}
/-- def f(a, .., *v) that lets nothing out -/
theorem Fun.okStar {x qual : Str} {st : Stmt} {f : Addr} {fd : FuncData} {N ps : List Str} {pv : Str} {k : Nat} {sp : Sp} (F : Fun K x qual st f fd) (S : FnScope N (ps ++ [pv]) (defScope st))
    (hb : ∀ (kV doc pm : Value) (an : Option Addr) (cdv ct : Value) (us rest : List Value), us.length = ps.length → bindArgs (PySem.W.fnOf x qual (defArgs st) (defBody st) (defScope st) .none kV doc pm an cdv ct) ⟨us ++ rest, []⟩ = (newTuple rest >>= fun t => pure (ps.zip us ++ [(pv, t)])))
    (hbody : ∀ (cdv : Value) (A : Around) (outer : List Env) (s : Shared) (H : Hp) (vs : List V) (Q : VK) (E : XK), Room k (A.deeper (envOfC qual (defScope st) s.heap.objs.size f cdv)) → sp vs H Q E →
      ∃ t, PSs (cxOf CX0 P w K mg base N qual (defScope st) f cdv A outer s H E).nox (defBody st) t ∧ t { nx := fun _ H' => Q .non H', rt := Q } (start N vs) H) :
    FnR P w K mg base CX0 (k + 1) f (fun vs H Q E => ∃ ws rest, vs = ws ++ rest ∧ ws.length = ps.length ∧ rest.length ≤ sizeLine ∧ ∀ p, H p = Option.none → sp (ws ++ [V.ref p]) (upd H p (.tup rest)) Q E) := by
  obtain ⟨oc, od, kV, doc, pm, an, cdv, ct, osl, rfl, lk, hcd⟩ := F.ex
  refine fn_star lk hcd S cxUp_none (hb kV doc pm an cdv ct) fun A outer s H vs Q E hr hsp => ?_
  obtain ⟨t, h, q⟩ := hbody cdv A outer s H vs Q E hr hsp
  exact ⟨t, h.nox, q⟩
end
/-! ### heaps: what is kept but at some addresses -/
def Keep (M : List Addr) (H H' : Hp) : Prop := ∀ b o, b ∉ M → H b = some o → H' b = some o
theorem Keep.refl (M : List Addr) (H : Hp) : Keep M H H := fun _ _ _ h => h
theorem Keep.trans {M : List Addr} {H H1 H2 : Hp} (a : Keep M H H1) (b : Keep M H1 H2) : Keep M H H2 := fun c o n h => b c o n (a c o n h)
theorem Keep.new {M : List Addr} {H : Hp} {p : Addr} {o : HO} (h : H p = none) : Keep M H (upd H p o) := fun b u _ e => by
  rw [upd_ne (ne_of_none e h)]; exact e
theorem Keep.at {M : List Addr} {H : Hp} {p : Addr} {o : HO} (h : p ∈ M) : Keep M H (upd H p o) := fun b u n e => by
  rw [upd_ne (fun z => n (by rw [z]; exact h))]; exact e
/-- an object that H does not know may change -/
theorem Keep.mut {M : List Addr} {H H' : Hp} {p : Addr} {o : HO} (e : Keep M H H') (h : H p = none) : Keep M H (upd H' p o) := fun b u n hb => by
  rw [upd_ne (ne_of_none hb h)]; exact e b u n hb
theorem Keep.mono {M N : List Addr} {H H' : Hp} (e : Keep M H H') (h : ∀ a ∈ M, a ∈ N) : Keep N H H' := fun b o n hb => e b o (fun z => n (h b z)) hb
theorem Keep.rd {M : List Addr} {H H' : Hp} {a : Addr} {u : HO} (e : Keep M H H') (n : a ∉ M) (h : Rd H a u) : Rd H' a u := by
  rcases h with h | ⟨o, h⟩
  · exact Or.inl (e a _ n h)
  · exact Or.inr ⟨o, e a _ n h⟩
theorem Keep.l {M : List Addr} {K : PySem.W.Frag} {H H' : Hp} {a : Addr} {xs : List V} (e : Keep M H H') (n : a ∉ M) (h : SqL K H a xs) : SqL K H' a xs := by
  rcases h with h | h
  · exact Or.inl (e.rd n h)
  · exact Or.inr h
theorem Keep.t {M : List Addr} {K : PySem.W.Frag} {H H' : Hp} {a : Addr} {xs : List V} (e : Keep M H H') (n : a ∉ M) (h : SqT K H a xs) : SqT K H' a xs := by
  rcases h with h | h
  · exact Or.inl (e.rd n h)
  · exact Or.inr h
theorem Keep.free {M : List Addr} {H H' : Hp} (e : Keep M H H') {l : Addr} (n : l ∉ M) (h : H' l = Option.none) : H l = Option.none := by
  cases q : H l with
  | none => rfl
  | some o => rw [e l o n q] at h; cases h
/-- an address that is untracked later, though tracked addresses stay (M's own, too) -/
theorem ne_free {H : Hp} {a p : Addr} {o : HO} (h : H a = some o) (n : H p = none) : p ≠ a := fun e => by rw [e, h] at n; cases n
theorem sqL_of {K : PySem.W.Frag} {H : Hp} {a : Addr} {xs : List V} (h : H a = some (.lst xs)) : SqL K H a xs := Or.inl (Or.inl h)
theorem sqT_of {K : PySem.W.Frag} {H : Hp} {a : Addr} {xs : List V} (h : H a = some (.tup xs)) : SqT K H a xs := Or.inl (Or.inl h)
theorem le_size {n : Nat} (h : n ≤ 100000) : n ≤ sizeLine := Nat.le_trans h (by decide)
theorem lt_size {n : Nat} (h : n < 100000) : n < sizeLine := Nat.lt_of_lt_of_le h (by decide)
theorem ixN_nn {n j : Nat} (h : j < n) : ixN n (j : Int) = some j := by
  unfold ixN; rw [if_pos (by omega), if_pos (by omega), Int.toNat_natCast]
theorem cxOf_K {CX : CXT} {P : Program} {w : World} {K : PySem.W.Frag} {mg : Str → Option Value} {base : Heap} {N : List Str} {qual : Str} {scope : Scope} {f : Addr} {cd : Value} {A : Around} {outer : List Env} {s : Shared} {H : Hp} {E : XK} :
    (cxOf CX P w K mg base N qual scope f cd A outer s H E).K = K := rfl
/-! ### readings, by the head of their terms -/
section
variable {K : PySem.W.Frag} {σ : L2.St} {H : Hp} {Q : VK} {QA : List V → Hp → Prop} {QB : Bool → Hp → Prop} {QO : Option Int → Hp → Prop} {D : Ends} {ta tb te tc : TE} {t u : TT} {ts tr : TS} {r : R2} {v x y : V} {G : TG} {tas : TA}
theorem r_nxE {a b d : L2.St → Hp → Prop} {c : VK} (k : a σ H) : Ends.nx ⟨a, c, b, d⟩ σ H := k
theorem r_bkE {a b d : L2.St → Hp → Prop} {c : VK} (k : b σ H) : Ends.bk ⟨a, c, b, d⟩ σ H := k
theorem r_ctE {a b d : L2.St → Hp → Prop} {c : VK} (k : d σ H) : Ends.ct ⟨a, c, b, d⟩ σ H := k
theorem r_rtE {a b d : L2.St → Hp → Prop} {c : VK} (k : c v H) : Ends.rt ⟨a, c, b, d⟩ v H := k
theorem r_var {i : Nat} (h : σ[i]? = some (some v)) (k : Q v H) : tVar i σ H Q := ⟨v, h, k⟩
theorem r_c (k : Q v H) : tC v σ H Q := k
theorem r_op (k : ta σ H fun x H1 => tb σ H1 fun y H2 => r x y H2 Q) : tOp r ta tb σ H Q := k
theorem r_un {r : V → Hp → VK → Prop} (k : ta σ H fun x H1 => r x H1 Q) : tUn r ta σ H Q := k
theorem r_I0 {g : Int → Int → V} {i j : Int} (k : Q (g i j) H) : rI0 g (.int i) (.int j) H Q := ⟨i, j, rfl, rfl, k⟩
theorem r_I {C : Int → Int → Prop} {g : Int → Int → V} {i j : Int} (c : C i j) (k : Q (g i j) H) : rI C g (.int i) (.int j) H Q := ⟨i, j, rfl, rfl, c, k⟩
theorem r_U {g : Int → V} {i : Int} (k : Q (g i) H) : rU g (.int i) H Q := ⟨i, rfl, k⟩
theorem dec_int {i j : Int} : decide (V.int i = V.int j) = decide (i = j) := by
  by_cases h : i = j
  · subst h; simp
  · rw [decide_eq_false h, decide_eq_false (fun e => h (V.int.inj e))]
theorem dec_str {i j : Str} : decide (V.str i = V.str j) = decide (i = j) := by
  by_cases h : i = j
  · subst h; simp
  · rw [decide_eq_false h, decide_eq_false (fun e => h (V.str.inj e))]
theorem dec_bl {i j : Bool} : decide (V.bl i = V.bl j) = decide (i = j) := by
  by_cases h : i = j
  · subst h; simp
  · rw [decide_eq_false h, decide_eq_false (fun e => h (V.bl.inj e))]
theorem r_eqI {i j : Int} (k : Q (.bl (decide (i = j))) H) : rEq (.int i) (.int j) H Q := ⟨rfl, by rw [dec_int]; exact k⟩
theorem r_neI {i j : Int} (k : Q (.bl (!decide (i = j))) H) : rNe (.int i) (.int j) H Q := ⟨rfl, by rw [dec_int]; exact k⟩
theorem r_eqS {i j : Str} (k : Q (.bl (decide (i = j))) H) : rEq (.str i) (.str j) H Q := ⟨rfl, by rw [dec_str]; exact k⟩
theorem r_neS {i j : Str} (k : Q (.bl (!decide (i = j))) H) : rNe (.str i) (.str j) H Q := ⟨rfl, by rw [dec_str]; exact k⟩
theorem r_eqB {i j : Bool} (k : Q (.bl (decide (i = j))) H) : rEq (.bl i) (.bl j) H Q := ⟨rfl, by rw [dec_bl]; exact k⟩
theorem r_neB {i j : Bool} (k : Q (.bl (!decide (i = j))) H) : rNe (.bl i) (.bl j) H Q := ⟨rfl, by rw [dec_bl]; exact k⟩
theorem r_test (k : te σ H fun x H' => ∃ k, x = .bl k ∧ QB k H') : tTest te σ H QB := k
theorem r_tB (k : te σ H fun x H' => ∃ k, x = .bl k ∧ QB k H') : tB te σ H QB := k
theorem r_bl {b : Bool} {P : Bool → Prop} (k : P b) : ∃ c, V.bl b = .bl c ∧ P c := ⟨b, rfl, k⟩
theorem r_and (k : t σ H fun c H1 => if c = true then u σ H1 QB else QB false H1) : tAnd t u σ H QB := k
theorem r_or (k : t σ H fun c H1 => if c = true then QB true H1 else u σ H1 QB) : tOr t u σ H QB := k
theorem r_not (k : t σ H fun c H1 => QB (!c) H1) : tNot t σ H QB := k
theorem r_andV (k : ta σ H fun x H1 => ∃ c, x = .bl c ∧ if c = true then tb σ H1 Q else Q (.bl false) H1) : tAndV ta tb σ H Q := k
theorem r_orV (k : ta σ H fun x H1 => ∃ c, x = .bl c ∧ if c = true then Q (.bl true) H1 else tb σ H1 Q) : tOrV ta tb σ H Q := k
theorem r_notV (k : ta σ H fun x H1 => ∃ c, x = .bl c ∧ Q (.bl (!c)) H1) : tNotV ta σ H Q := k
theorem r_if (k : t σ H fun c H1 => if c = true then ta σ H1 Q else tb σ H1 Q) : tIf t ta tb σ H Q := k
theorem r_chain {r' : R2} (k : ta σ H fun x H1 => tb σ H1 fun y H2 => r x y H2 fun z H3 => ∃ k, z = .bl k ∧ (if k = true then tc σ H3 fun w' H4 => r' y w' H4 Q else Q (.bl false) H3)) : tChain r r' ta tb tc σ H Q := k
theorem r_seq (k : ts { D with nx := tr D } σ H) : tSeq ts tr D σ H := k
theorem r_asg (k : te σ H fun x H1 => G x σ H1 D.nx) : tAsg te G D σ H := k
theorem r_gName {i : Nat} {Q : L2.St → Hp → Prop} (k : Q (σ.set i (some v)) H) : gName i v σ H Q := k
theorem r_gName0 {x0 : Option V} {Q : L2.St → Hp → Prop} (k : Q (some v :: σ) H) : gName 0 v (x0 :: σ) H Q := k
theorem r_gName1 {x0 x1 : Option V} {Q : L2.St → Hp → Prop} (k : Q (x0 :: some v :: σ) H) : gName 1 v (x0 :: x1 :: σ) H Q := k
theorem r_gName2 {x0 x1 x2 : Option V} {Q : L2.St → Hp → Prop} (k : Q (x0 :: x1 :: some v :: σ) H) : gName 2 v (x0 :: x1 :: x2 :: σ) H Q := k
theorem r_gName3 {x0 x1 x2 x3 : Option V} {Q : L2.St → Hp → Prop} (k : Q (x0 :: x1 :: x2 :: some v :: σ) H) : gName 3 v (x0 :: x1 :: x2 :: x3 :: σ) H Q := k
theorem r_gName4 {x0 x1 x2 x3 x4 : Option V} {Q : L2.St → Hp → Prop} (k : Q (x0 :: x1 :: x2 :: x3 :: some v :: σ) H) : gName 4 v (x0 :: x1 :: x2 :: x3 :: x4 :: σ) H Q := k
theorem r_gName5 {x0 x1 x2 x3 x4 x5 : Option V} {Q : L2.St → Hp → Prop} (k : Q (x0 :: x1 :: x2 :: x3 :: x4 :: some v :: σ) H) : gName 5 v (x0 :: x1 :: x2 :: x3 :: x4 :: x5 :: σ) H Q := k
theorem r_gName6 {x0 x1 x2 x3 x4 x5 x6 : Option V} {Q : L2.St → Hp → Prop} (k : Q (x0 :: x1 :: x2 :: x3 :: x4 :: x5 :: some v :: σ) H) : gName 6 v (x0 :: x1 :: x2 :: x3 :: x4 :: x5 :: x6 :: σ) H Q := k
theorem r_gName7 {x0 x1 x2 x3 x4 x5 x6 x7 : Option V} {Q : L2.St → Hp → Prop} (k : Q (x0 :: x1 :: x2 :: x3 :: x4 :: x5 :: x6 :: some v :: σ) H) : gName 7 v (x0 :: x1 :: x2 :: x3 :: x4 :: x5 :: x6 :: x7 :: σ) H Q := k
theorem r_gName8 {x0 x1 x2 x3 x4 x5 x6 x7 x8 : Option V} {Q : L2.St → Hp → Prop} (k : Q (x0 :: x1 :: x2 :: x3 :: x4 :: x5 :: x6 :: x7 :: some v :: σ) H) : gName 8 v (x0 :: x1 :: x2 :: x3 :: x4 :: x5 :: x6 :: x7 :: x8 :: σ) H Q := k
theorem r_gName9 {x0 x1 x2 x3 x4 x5 x6 x7 x8 x9 : Option V} {Q : L2.St → Hp → Prop} (k : Q (x0 :: x1 :: x2 :: x3 :: x4 :: x5 :: x6 :: x7 :: x8 :: some v :: σ) H) : gName 9 v (x0 :: x1 :: x2 :: x3 :: x4 :: x5 :: x6 :: x7 :: x8 :: x9 :: σ) H Q := k
theorem r_gName10 {x0 x1 x2 x3 x4 x5 x6 x7 x8 x9 x10 : Option V} {Q : L2.St → Hp → Prop} (k : Q (x0 :: x1 :: x2 :: x3 :: x4 :: x5 :: x6 :: x7 :: x8 :: x9 :: some v :: σ) H) : gName 10 v (x0 :: x1 :: x2 :: x3 :: x4 :: x5 :: x6 :: x7 :: x8 :: x9 :: x10 :: σ) H Q := k
theorem r_gName11 {x0 x1 x2 x3 x4 x5 x6 x7 x8 x9 x10 x11 : Option V} {Q : L2.St → Hp → Prop} (k : Q (x0 :: x1 :: x2 :: x3 :: x4 :: x5 :: x6 :: x7 :: x8 :: x9 :: x10 :: some v :: σ) H) : gName 11 v (x0 :: x1 :: x2 :: x3 :: x4 :: x5 :: x6 :: x7 :: x8 :: x9 :: x10 :: x11 :: σ) H Q := k
theorem r_gName12 {x0 x1 x2 x3 x4 x5 x6 x7 x8 x9 x10 x11 x12 : Option V} {Q : L2.St → Hp → Prop} (k : Q (x0 :: x1 :: x2 :: x3 :: x4 :: x5 :: x6 :: x7 :: x8 :: x9 :: x10 :: x11 :: some v :: σ) H) : gName 12 v (x0 :: x1 :: x2 :: x3 :: x4 :: x5 :: x6 :: x7 :: x8 :: x9 :: x10 :: x11 :: x12 :: σ) H Q := k
theorem r_gName13 {x0 x1 x2 x3 x4 x5 x6 x7 x8 x9 x10 x11 x12 x13 : Option V} {Q : L2.St → Hp → Prop} (k : Q (x0 :: x1 :: x2 :: x3 :: x4 :: x5 :: x6 :: x7 :: x8 :: x9 :: x10 :: x11 :: x12 :: some v :: σ) H) : gName 13 v (x0 :: x1 :: x2 :: x3 :: x4 :: x5 :: x6 :: x7 :: x8 :: x9 :: x10 :: x11 :: x12 :: x13 :: σ) H Q := k
theorem r_gName14 {x0 x1 x2 x3 x4 x5 x6 x7 x8 x9 x10 x11 x12 x13 x14 : Option V} {Q : L2.St → Hp → Prop} (k : Q (x0 :: x1 :: x2 :: x3 :: x4 :: x5 :: x6 :: x7 :: x8 :: x9 :: x10 :: x11 :: x12 :: x13 :: some v :: σ) H) : gName 14 v (x0 :: x1 :: x2 :: x3 :: x4 :: x5 :: x6 :: x7 :: x8 :: x9 :: x10 :: x11 :: x12 :: x13 :: x14 :: σ) H Q := k
theorem r_gName15 {x0 x1 x2 x3 x4 x5 x6 x7 x8 x9 x10 x11 x12 x13 x14 x15 : Option V} {Q : L2.St → Hp → Prop} (k : Q (x0 :: x1 :: x2 :: x3 :: x4 :: x5 :: x6 :: x7 :: x8 :: x9 :: x10 :: x11 :: x12 :: x13 :: x14 :: some v :: σ) H) : gName 15 v (x0 :: x1 :: x2 :: x3 :: x4 :: x5 :: x6 :: x7 :: x8 :: x9 :: x10 :: x11 :: x12 :: x13 :: x14 :: x15 :: σ) H Q := k
theorem r_gName16 {x0 x1 x2 x3 x4 x5 x6 x7 x8 x9 x10 x11 x12 x13 x14 x15 x16 : Option V} {Q : L2.St → Hp → Prop} (k : Q (x0 :: x1 :: x2 :: x3 :: x4 :: x5 :: x6 :: x7 :: x8 :: x9 :: x10 :: x11 :: x12 :: x13 :: x14 :: x15 :: some v :: σ) H) : gName 16 v (x0 :: x1 :: x2 :: x3 :: x4 :: x5 :: x6 :: x7 :: x8 :: x9 :: x10 :: x11 :: x12 :: x13 :: x14 :: x15 :: x16 :: σ) H Q := k
theorem r_gName17 {x0 x1 x2 x3 x4 x5 x6 x7 x8 x9 x10 x11 x12 x13 x14 x15 x16 x17 : Option V} {Q : L2.St → Hp → Prop} (k : Q (x0 :: x1 :: x2 :: x3 :: x4 :: x5 :: x6 :: x7 :: x8 :: x9 :: x10 :: x11 :: x12 :: x13 :: x14 :: x15 :: x16 :: some v :: σ) H) : gName 17 v (x0 :: x1 :: x2 :: x3 :: x4 :: x5 :: x6 :: x7 :: x8 :: x9 :: x10 :: x11 :: x12 :: x13 :: x14 :: x15 :: x16 :: x17 :: σ) H Q := k
theorem r_gName18 {x0 x1 x2 x3 x4 x5 x6 x7 x8 x9 x10 x11 x12 x13 x14 x15 x16 x17 x18 : Option V} {Q : L2.St → Hp → Prop} (k : Q (x0 :: x1 :: x2 :: x3 :: x4 :: x5 :: x6 :: x7 :: x8 :: x9 :: x10 :: x11 :: x12 :: x13 :: x14 :: x15 :: x16 :: x17 :: some v :: σ) H) : gName 18 v (x0 :: x1 :: x2 :: x3 :: x4 :: x5 :: x6 :: x7 :: x8 :: x9 :: x10 :: x11 :: x12 :: x13 :: x14 :: x15 :: x16 :: x17 :: x18 :: σ) H Q := k
theorem r_gName19 {x0 x1 x2 x3 x4 x5 x6 x7 x8 x9 x10 x11 x12 x13 x14 x15 x16 x17 x18 x19 : Option V} {Q : L2.St → Hp → Prop} (k : Q (x0 :: x1 :: x2 :: x3 :: x4 :: x5 :: x6 :: x7 :: x8 :: x9 :: x10 :: x11 :: x12 :: x13 :: x14 :: x15 :: x16 :: x17 :: x18 :: some v :: σ) H) : gName 19 v (x0 :: x1 :: x2 :: x3 :: x4 :: x5 :: x6 :: x7 :: x8 :: x9 :: x10 :: x11 :: x12 :: x13 :: x14 :: x15 :: x16 :: x17 :: x18 :: x19 :: σ) H Q := k
theorem r_ret (k : te σ H D.rt) : tRet te D σ H := k
theorem r_retN (k : D.rt .non H) : tRetN D σ H := k
theorem r_drop (k : te σ H fun _ H1 => D.nx σ H1) : tDrop te D σ H := k
theorem r_ifS (k : t σ H fun b H1 => if b = true then ts D σ H1 else tr D σ H1) : tIfS t ts tr D σ H := k
theorem r_next (k : D.nx σ H) : tNext D σ H := k
theorem r_cont (k : D.ct σ H) : tCont D σ H := k
theorem r_break (k : D.bk σ H) : tBreak D σ H := k
theorem r_cb {r : List V → Hp → VK → Prop} (k : tas σ H fun vs H1 => r vs H1 Q) : tCB r tas σ H Q := k
theorem r_cons (k : ta σ H fun x H1 => tas σ H1 fun xs H2 => QA (x :: xs) H2) : tCons ta tas σ H QA := k
theorem r_nil (k : QA [] H) : tNil σ H QA := k
theorem r_call {sp : Sp} {dvs : List V} {E : XK} (k : tas σ H fun vs H1 => sp (vs ++ dvs) H1 Q E) : tCall sp dvs E tas σ H Q := k
theorem r_lst (k : tas σ H fun xs H1 => xs.length ≤ sizeLine ∧ ∀ p, H1 p = none → Q (.ref p) (upd H1 p (.lst xs))) : tLst tas σ H Q := k
theorem r_tup (k : tas σ H fun xs H1 => xs.length ≤ sizeLine ∧ ∀ p, H1 p = none → Q (.ref p) (upd H1 p (.tup xs))) : tTup tas σ H Q := k
theorem r_ixL {p : Addr} {xs : List V} {i : Int} (h : SqL K H p xs) (h2 : atI xs i = some v) (k : Q v H) : rIxL K (.ref p) (.int i) H Q := ⟨p, xs, i, v, rfl, rfl, h, h2, k⟩
theorem r_ixT {p : Addr} {xs : List V} {i : Int} (h : SqT K H p xs) (h2 : atI xs i = some v) (k : Q v H) : rIxT K (.ref p) (.int i) H Q := ⟨p, xs, i, v, rfl, rfl, h, h2, k⟩
theorem r_gSub {to ti : TE} {s : TSet} {Q : L2.St → Hp → Prop} (k : to σ H fun o H1 => ti σ H1 fun i H2 => s o i v H2 fun H3 => Q σ H3) : gSub to ti s v σ H Q := k
theorem r_setL {p : Addr} {xs : List V} {i : Int} {j : Nat} {Q : Hp → Prop} (h : H p = some (.lst xs)) (h2 : ixN xs.length i = some j) (k : Q (upd H p (.lst (xs.set j v)))) : rSetL (.ref p) (.int i) v H Q := ⟨p, xs, i, j, rfl, rfl, h, h2, k⟩
theorem r_setP0 {p : Addr} {x0 : V} {xs : List V} {Q : Hp → Prop} (h : H p = some (.lst (x0 :: xs))) (k : Q (upd H p (.lst (v :: xs)))) : rSetL (.ref p) (.int 0) v H Q := ⟨p, _, 0, 0, rfl, rfl, h, ixN_nn (j := 0) (by simp), k⟩
theorem r_setP1 {p : Addr} {x0 x1 : V} {xs : List V} {Q : Hp → Prop} (h : H p = some (.lst (x0 :: x1 :: xs))) (k : Q (upd H p (.lst (x0 :: v :: xs)))) : rSetL (.ref p) (.int 1) v H Q := ⟨p, _, 1, 1, rfl, rfl, h, ixN_nn (j := 1) (by simp), k⟩
theorem r_setP2 {p : Addr} {x0 x1 x2 : V} {xs : List V} {Q : Hp → Prop} (h : H p = some (.lst (x0 :: x1 :: x2 :: xs))) (k : Q (upd H p (.lst (x0 :: x1 :: v :: xs)))) : rSetL (.ref p) (.int 2) v H Q := ⟨p, _, 2, 2, rfl, rfl, h, ixN_nn (j := 2) (by simp), k⟩
theorem r_setP3 {p : Addr} {x0 x1 x2 x3 : V} {xs : List V} {Q : Hp → Prop} (h : H p = some (.lst (x0 :: x1 :: x2 :: x3 :: xs))) (k : Q (upd H p (.lst (x0 :: x1 :: x2 :: v :: xs)))) : rSetL (.ref p) (.int 3) v H Q := ⟨p, _, 3, 3, rfl, rfl, h, ixN_nn (j := 3) (by simp), k⟩
theorem r_cut (M : L2.St → Hp → Prop) (h : ts { D with nx := M } σ H) (k : ∀ σ' H', M σ' H' → tr D σ' H') : Evl.tCut ts tr D σ H := ⟨M, h, k⟩
theorem r_sl {r : V → Option Int → Option Int → Hp → VK → Prop} {tl th : TO} (k : te σ H fun x H1 => tl σ H1 fun l H2 => th σ H2 fun u H3 => r x l u H3 Q) : tSl r te tl th σ H Q := k
theorem r_ite {p : Prop} {_i : Decidable p} {A B : Prop} (h1 : p → A) (h2 : ¬ p → B) : if decide p = true then A else B := by
  by_cases h : p
  · rw [if_pos (decide_eq_true h)]; exact h1 h
  · rw [if_neg (by rw [decide_eq_false h]; decide)]; exact h2 h
theorem r_iteN {p : Prop} {_i : Decidable p} {A B : Prop} (h1 : ¬ p → A) (h2 : p → B) : if (!decide p) = true then A else B := by
  by_cases h : p
  · rw [if_neg (by rw [decide_eq_true h]; decide)]; exact h2 h
  · rw [if_pos (by rw [decide_eq_false h]; rfl)]; exact h1 h
theorem r_iteT {p : Prop} [Decidable p] {A B : Prop} (h : p) (k : A) : if decide p = true then A else B := by
  rw [if_pos (decide_eq_true h)]; exact k
theorem r_iteF {p : Prop} [Decidable p] {A B : Prop} (h : ¬ p) (k : B) : if decide p = true then A else B := by
  rw [if_neg (by rw [decide_eq_false h]; decide)]; exact k
theorem r_iteNT {p : Prop} [Decidable p] {A B : Prop} (h : ¬ p) (k : A) : if (!decide p) = true then A else B := by
  rw [if_pos (by rw [decide_eq_false h]; rfl)]; exact k
theorem r_iteNF {p : Prop} [Decidable p] {A B : Prop} (h : p) (k : B) : if (!decide p) = true then A else B := by
  rw [if_neg (by rw [decide_eq_true h]; decide)]; exact k
theorem r_iteb {b : Bool} {A B : Prop} (h1 : b = true → A) (h2 : b = false → B) : if b = true then A else B := by
  cases b with
  | true => rw [if_pos rfl]; exact h1 rfl
  | false => rw [if_neg (by decide)]; exact h2 rfl
theorem r_itebN {b : Bool} {A B : Prop} (h1 : b = false → A) (h2 : b = true → B) : if (!b) = true then A else B := by
  cases b with
  | true => exact (if_neg (by decide : ¬ (!true) = true)).mpr (h2 rfl)
  | false => exact (if_pos (by decide : (!false) = true)).mpr (h1 rfl)
theorem r_int1 {i : Int} {F : Int → Prop} {G : Bool → Prop} (k : F i) : (∃ j, [V.int i] = [.int j] ∧ F j) ∨ ∃ b, [V.int i] = [.bl b] ∧ G b := .inl ⟨i, rfl, k⟩
theorem r_intB {b : Bool} {F : Int → Prop} {G : Bool → Prop} (k : G b) : (∃ j, [V.bl b] = [.int j] ∧ F j) ∨ ∃ c, [V.bl b] = [.bl c] ∧ G c := .inr ⟨b, rfl, k⟩
theorem r_lenL {p : Addr} {xs : List V} {F : List V → Prop} (h : SqL K H p xs) (k : F xs) : ∃ q ys, [V.ref p] = [.ref q] ∧ (SqL K H q ys ∨ SqT K H q ys) ∧ F ys := ⟨p, xs, rfl, .inl h, k⟩
theorem r_lenT {p : Addr} {xs : List V} {F : List V → Prop} (h : SqT K H p xs) (k : F xs) : ∃ q ys, [V.ref p] = [.ref q] ∧ (SqL K H q ys ∨ SqT K H q ys) ∧ F ys := ⟨p, xs, rfl, .inr h, k⟩
theorem abs_if {i : Int} : (if i < 0 then -i else i) = (i.natAbs : Int) := by split <;> omega
theorem max_if {i j : Int} : (if j > i then j else i) = max i j := by split <;> omega
theorem r_in1 {i : Int} {F : Int → Prop} (k : F i) : ∃ j, [V.int i] = [.int j] ∧ F j := ⟨i, rfl, k⟩
theorem r_in2 {i j : Int} {F : Int → Int → Prop} (k : F i j) : ∃ a b, [V.int i, V.int j] = [.int a, .int b] ∧ F a b := ⟨i, j, rfl, k⟩
theorem r_isi {x : V} {T : String} {b : Bool} {ty : String} (ty1 : TyX K H x (.type ty)) (h : kitB ty T = some b) (k : Q (.bl b) H) : rIsi K [x, .ty T] H Q :=
  ⟨x, .ty T, .type ty, .type T, b, rfl, .ty T, ty1, kit_ty h, k⟩
end
/-! ### loops -/
def ForR1 (G : TG) (ts : TS) (D : Ends) (σ : L2.St) (vs : List V) (H : Hp) : Prop := ∃ j : Int, vs = [.int j] ∧ -(2 ^ 62) ≤ j ∧ j < 2 ^ 62 ∧ ∃ W : Nat → Nat → L2.St → Hp → Prop, (∃ m, W 0 m σ H) ∧ ∀ i m σ H, W i m σ H →
  ((Itr 0 j.toNat).stop i H ∧ D.nx σ H) ∨ ((Itr 0 j.toNat).go i H ∧ ∃ N : L2.St → Hp → Prop, (∀ σ' H', N σ' H' → ∃ m', m' < m ∧ W (i + 1) m' σ' H') ∧ ∀ x H', (Itr 0 j.toNat).yld i H x H' → G x σ H' fun σ2 H2 => ts { D with nx := N, ct := N, bk := D.nx } σ2 H2)
def ForR2 (G : TG) (ts : TS) (D : Ends) (σ : L2.St) (vs : List V) (H : Hp) : Prop := ∃ i j : Int, vs = [.int i, .int j] ∧ (-(2 ^ 62) ≤ i ∧ i < 2 ^ 62 ∧ -(2 ^ 62) ≤ j ∧ j < 2 ^ 62) ∧ ∃ W : Nat → Nat → L2.St → Hp → Prop, (∃ m, W 0 m σ H) ∧ ∀ k m σ H, W k m σ H →
  ((Itr i (j - i).toNat).stop k H ∧ D.nx σ H) ∨ ((Itr i (j - i).toNat).go k H ∧ ∃ N : L2.St → Hp → Prop, (∀ σ' H', N σ' H' → ∃ m', m' < m ∧ W (k + 1) m' σ' H') ∧ ∀ x H', (Itr i (j - i).toNat).yld k H x H' → G x σ H' fun σ2 H2 => ts { D with nx := N, ct := N, bk := D.nx } σ2 H2)
def ForL (K : PySem.W.Frag) (G : TG) (ts : TS) (D : Ends) (σ : L2.St) (v : V) (H : Hp) : Prop := ∃ a, v = .ref a ∧ (∃ xs, SqL K H a xs) ∧ ∃ W : Nat → Nat → L2.St → Hp → Prop, (∃ m, W 0 m σ H) ∧ ∀ i m σ H, W i m σ H →
  ((Itl K a).stop i H ∧ D.nx σ H) ∨ ((Itl K a).go i H ∧ ∃ N : L2.St → Hp → Prop, (∀ σ' H', N σ' H' → ∃ m', m' < m ∧ W (i + 1) m' σ' H') ∧ ∀ x H', (Itl K a).yld i H x H' → G x σ H' fun σ2 H2 => ts { D with nx := N, ct := N, bk := D.nx } σ2 H2)
def ForT (K : PySem.W.Frag) (G : TG) (ts : TS) (D : Ends) (σ : L2.St) (v : V) (H : Hp) : Prop := ∃ a, v = .ref a ∧ (∃ xs, SqT K H a xs) ∧ ∃ W : Nat → Nat → L2.St → Hp → Prop, (∃ m, W 0 m σ H) ∧ ∀ i m σ H, W i m σ H →
  ((Itt K a).stop i H ∧ D.nx σ H) ∨ ((Itt K a).go i H ∧ ∃ N : L2.St → Hp → Prop, (∀ σ' H', N σ' H' → ∃ m', m' < m ∧ W (i + 1) m' σ' H') ∧ ∀ x H', (Itt K a).yld i H x H' → G x σ H' fun σ2 H2 => ts { D with nx := N, ct := N, bk := D.nx } σ2 H2)
section
variable {K : PySem.W.Frag} {σ : L2.St} {H : Hp} {Q : VK} {D : Ends} {te tl : TE} {tt c : TT} {ts : TS} {G : TG} {tas : TA} {v : V} {vs : List Nat}
theorem r_forR1 (k : tas σ H fun vs H1 => ForR1 G ts D σ vs H1) : tFor (iRng1 tas) G ts D σ H := k
theorem r_forR2 (k : tas σ H fun vs H1 => ForR2 G ts D σ vs H1) : tFor (iRng2 tas) G ts D σ H := k
theorem r_forL (k : tl σ H fun x H1 => ForL K G ts D σ x H1) : tFor (iList K tl) G ts D σ H := k
theorem r_forT (k : tl σ H fun x H1 => ForT K G ts D σ x H1) : tFor (iTup K tl) G ts D σ H := k
theorem forR1_go {j : Int} (Pv : Nat → L2.St → Hp → Prop) (hb : -(2 ^ 62) ≤ j ∧ j < 2 ^ 62) (h0 : Pv 0 σ H)
    (hs : ∀ (i : Nat) σ' H', (i : Int) < j → Pv i σ' H' → G (.int i) σ' H' fun σ2 H2 => ts { D with nx := Pv (i + 1), ct := Pv (i + 1), bk := D.nx } σ2 H2) (hd : ∀ σ' H', Pv j.toNat σ' H' → D.nx σ' H') : ForR1 G ts D σ [.int j] H :=
  ⟨j, rfl, hb.1, hb.2, for_range (lo := 0) Pv h0 (fun i σ' H' hi p => by rw [Int.zero_add]; exact hs i σ' H' (by omega) p) hd⟩
theorem forR2_go {i j : Int} (Pv : Nat → L2.St → Hp → Prop) (hb : -(2 ^ 62) ≤ i ∧ i < 2 ^ 62 ∧ -(2 ^ 62) ≤ j ∧ j < 2 ^ 62) (h0 : Pv 0 σ H)
    (hs : ∀ (k : Nat) σ' H', i + (k : Int) < j → Pv k σ' H' → G (.int (i + k)) σ' H' fun σ2 H2 => ts { D with nx := Pv (k + 1), ct := Pv (k + 1), bk := D.nx } σ2 H2) (hd : ∀ σ' H', Pv (j - i).toNat σ' H' → D.nx σ' H') : ForR2 G ts D σ [.int i, .int j] H :=
  ⟨i, j, rfl, hb, for_range (lo := i) Pv h0 (fun k σ' H' hi p => hs k σ' H' (by omega) p) hd⟩
theorem forL_go {a : Addr} {xs : List V} (Pv : Nat → L2.St → Hp → Prop) (hx : SqL K H a xs) (h0 : Pv 0 σ H) (hl : ∀ i σ' H', i ≤ xs.length → Pv i σ' H' → SqL K H' a xs)
    (hs : ∀ i x σ' H', xs[i]? = some x → Pv i σ' H' → G x σ' H' fun σ2 H2 => ts { D with nx := Pv (i + 1), ct := Pv (i + 1), bk := D.nx } σ2 H2) (hd : ∀ σ' H', Pv xs.length σ' H' → D.nx σ' H') : ForL K G ts D σ (.ref a) H :=
  ⟨a, rfl, ⟨xs, hx⟩, for_list Pv h0 hl hs hd⟩
theorem forT_go {a : Addr} {xs : List V} (Pv : Nat → L2.St → Hp → Prop) (hx : SqT K H a xs) (h0 : Pv 0 σ H) (hl : ∀ i σ' H', i ≤ xs.length → Pv i σ' H' → SqT K H' a xs)
    (hs : ∀ i x σ' H', xs[i]? = some x → Pv i σ' H' → G x σ' H' fun σ2 H2 => ts { D with nx := Pv (i + 1), ct := Pv (i + 1), bk := D.nx } σ2 H2) (hd : ∀ σ' H', Pv xs.length σ' H' → D.nx σ' H') : ForT K G ts D σ (.ref a) H :=
  ⟨a, rfl, ⟨xs, hx⟩, for_tup Pv h0 hl hs hd⟩
theorem r_while (W : Nat → L2.St → Hp → Prop) {m0 : Nat} (h0 : W m0 σ H)
    (hs : ∀ m σ' H', W m σ' H' → c σ' H' fun b H1 => if b = true then ∃ N : L2.St → Hp → Prop, (∀ σ2 H2, N σ2 H2 → ∃ m', m' < m ∧ W m' σ2 H2) ∧ ts { D with nx := N, ct := N, bk := D.nx } σ' H1 else D.nx σ' H1) : tWhile c ts D σ H := ⟨W, ⟨m0, h0⟩, hs⟩
theorem r_turn {B : L2.St → Hp → Prop} {R : VK} {Bk : L2.St → Hp → Prop} (k : ts { nx := B, rt := R, bk := Bk, ct := B } σ H) :
    ∃ N : L2.St → Hp → Prop, (∀ σ2 H2, N σ2 H2 → B σ2 H2) ∧ ts { nx := N, rt := R, bk := Bk, ct := N } σ H := ⟨_, fun _ _ h => h, k⟩
end
/-! ### comprehensions -/
section
variable {K : PySem.W.Frag} {σ : L2.St} {H : Hp} {Q : VK} {te tl : TE} {tt : TT} {G : TG} {tas : TA} {v : V} {vs : List Nat} {QB : Bool → Hp → Prop}
def CompW (J : It) (G : TG) (tt : TT) (te : TE) (vs : List Nat) (σ : L2.St) (Q : VK) (H1 : Hp) : Prop := ∀ D, H1 D = none → ∃ W : Nat → Nat → Hp → Prop, (∃ m, W 0 m (upd H1 D (.lst []))) ∧ ∀ i m H, W i m H → (J.stop i H ∧ Q (.ref D) H) ∨ (J.go i H ∧ ∃ Nx : Hp → Prop, (∀ H', Nx H' → ∃ m', m' < m ∧ W (i + 1) m' H') ∧
  ∀ x H', J.yld i H x H' → G x (wipe σ vs) H' fun σ2 H2 => wipe σ2 vs = wipe σ vs ∧ tt σ2 H2 fun b H3 => if b = true then te σ2 H3 fun y H4 => ∃ acc, H4 D = some (.lst acc) ∧ acc.length < sizeLine ∧ Nx (upd H4 D (.lst (acc ++ [y]))) else Nx H3)
def CompR1 (G : TG) (tt : TT) (te : TE) (vs : List Nat) (σ : L2.St) (Q : VK) (us : List V) (H1 : Hp) : Prop := ∃ j : Int, us = [.int j] ∧ -(2 ^ 62) ≤ j ∧ j < 2 ^ 62 ∧ CompW (Itr 0 j.toNat) G tt te vs σ Q H1
def CompL (K : PySem.W.Frag) (G : TG) (tt : TT) (te : TE) (vs : List Nat) (σ : L2.St) (Q : VK) (x : V) (H1 : Hp) : Prop := ∃ a, x = .ref a ∧ (∃ xs, SqL K H1 a xs) ∧ CompW (Itl K a) G tt te vs σ Q H1
def CompT (K : PySem.W.Frag) (G : TG) (tt : TT) (te : TE) (vs : List Nat) (σ : L2.St) (Q : VK) (x : V) (H1 : Hp) : Prop := ∃ a, x = .ref a ∧ (∃ xs, SqT K H1 a xs) ∧ CompW (Itt K a) G tt te vs σ Q H1
theorem r_lcR1 (k : tas σ H fun us H1 => CompR1 G tt te vs σ Q us H1) : tLc (iRng1 tas) G tt te vs σ H Q := k
theorem r_lcL (k : tl σ H fun x H1 => CompL K G tt te vs σ Q x H1) : tLc (iList K tl) G tt te vs σ H Q := k
theorem r_lcT (k : tl σ H fun x H1 => CompT K G tt te vs σ Q x H1) : tLc (iTup K tl) G tt te vs σ H Q := k
theorem r_wipe {σ2 : L2.St} {R : Prop} (h : wipe σ2 vs = wipe σ vs) (k : R) : wipe σ2 vs = wipe σ vs ∧ R := ⟨h, k⟩
theorem r_gNameW {i : Nat} {σ' : L2.St} {Q : L2.St → Hp → Prop} (h : wipe σ vs = σ') (k : gName i v σ' H Q) : gName i v (wipe σ vs) H Q := by rw [h]; exact k
theorem r_yes (k : QB true H) : tYes σ H QB := k
/-- the reading of one item, told with the list so far: P of the turn's number, the items made, the heap -/
def CompTurn (G : TG) (tt : TT) (te : TE) (vs : List Nat) (σ : L2.St) (D : Addr) (Nx : List V → Hp → Prop) (acc : List V) (x : V) (H : Hp) : Prop :=
  G x (wipe σ vs) H fun σ2 H2 => wipe σ2 vs = wipe σ vs ∧ tt σ2 H2 fun b H3 => if b = true then te σ2 H3 fun y H4 => H4 D = some (.lst acc) ∧ acc.length < sizeLine ∧ Nx (acc ++ [y]) (upd H4 D (.lst (acc ++ [y]))) else Nx acc H3
theorem lcR1_go {j : Int} (Pv : Addr → Nat → List V → Hp → Prop) (hb : -(2 ^ 62) ≤ j ∧ j < 2 ^ 62) (h0 : ∀ D, H D = none → Pv D 0 [] (upd H D (.lst [])))
    (hs : ∀ D (i : Nat) acc H', (i : Int) < j → H' D = some (.lst acc) → Pv D i acc H' → G (.int i) (wipe σ vs) H' fun σ2 H2 => wipe σ2 vs = wipe σ vs ∧ tt σ2 H2 fun b H3 =>
      if b = true then te σ2 H3 fun y H4 => ∃ acc, H4 D = some (.lst acc) ∧ acc.length < sizeLine ∧ (∃ ac, (upd H4 D (.lst (acc ++ [y]))) D = some (.lst ac) ∧ Pv D (i + 1) ac (upd H4 D (.lst (acc ++ [y])))) else ∃ ac, H3 D = some (.lst ac) ∧ Pv D (i + 1) ac H3)
    (hd : ∀ D acc H', H D = none → H' D = some (.lst acc) → Pv D j.toNat acc H' → Q (.ref D) H') : CompR1 G tt te vs σ Q [.int j] H :=
  ⟨j, rfl, hb.1, hb.2, fun D hD => lc_range (lo := 0) (fun i H' => ∃ acc, H' D = some (.lst acc) ∧ Pv D i acc H') ⟨[], upd_same, h0 D hD⟩ (fun i H' hi ⟨acc, ha, p⟩ => by rw [Int.zero_add]; exact hs D i acc H' (by omega) ha p) fun H' ⟨acc, ha, p⟩ => hd D acc H' hD ha p⟩
theorem lcL_go {a : Addr} {xs : List V} (Pv : Addr → Nat → List V → Hp → Prop) (hx : SqL K H a xs) (h0 : ∀ D, H D = none → Pv D 0 [] (upd H D (.lst []))) (hl : ∀ D i acc H', i ≤ xs.length → Pv D i acc H' → SqL K H' a xs)
    (hs : ∀ D (i : Nat) x acc H', xs[i]? = some x → H' D = some (.lst acc) → Pv D i acc H' → G x (wipe σ vs) H' fun σ2 H2 => wipe σ2 vs = wipe σ vs ∧ tt σ2 H2 fun b H3 =>
      if b = true then te σ2 H3 fun y H4 => ∃ acc, H4 D = some (.lst acc) ∧ acc.length < sizeLine ∧ (∃ ac, (upd H4 D (.lst (acc ++ [y]))) D = some (.lst ac) ∧ Pv D (i + 1) ac (upd H4 D (.lst (acc ++ [y])))) else ∃ ac, H3 D = some (.lst ac) ∧ Pv D (i + 1) ac H3)
    (hd : ∀ D acc H', H D = none → H' D = some (.lst acc) → Pv D xs.length acc H' → Q (.ref D) H') : CompL K G tt te vs σ Q (.ref a) H :=
  ⟨a, rfl, ⟨xs, hx⟩, fun D hD => lc_list (xs := xs) (fun i H' => ∃ acc, H' D = some (.lst acc) ∧ Pv D i acc H') ⟨[], upd_same, h0 D hD⟩ (fun i H' hi ⟨acc, ha, p⟩ => hl D i acc H' hi p) (fun i x H' hi ⟨acc, ha, p⟩ => hs D i x acc H' hi ha p) fun H' ⟨acc, ha, p⟩ => hd D acc H' hD ha p⟩
theorem lcT_go {a : Addr} {xs : List V} (Pv : Addr → Nat → List V → Hp → Prop) (hx : SqT K H a xs) (h0 : ∀ D, H D = none → Pv D 0 [] (upd H D (.lst []))) (hl : ∀ D i acc H', i ≤ xs.length → Pv D i acc H' → SqT K H' a xs)
    (hs : ∀ D (i : Nat) x acc H', xs[i]? = some x → H' D = some (.lst acc) → Pv D i acc H' → G x (wipe σ vs) H' fun σ2 H2 => wipe σ2 vs = wipe σ vs ∧ tt σ2 H2 fun b H3 =>
      if b = true then te σ2 H3 fun y H4 => ∃ acc, H4 D = some (.lst acc) ∧ acc.length < sizeLine ∧ (∃ ac, (upd H4 D (.lst (acc ++ [y]))) D = some (.lst ac) ∧ Pv D (i + 1) ac (upd H4 D (.lst (acc ++ [y])))) else ∃ ac, H3 D = some (.lst ac) ∧ Pv D (i + 1) ac H3)
    (hd : ∀ D acc H', H D = none → H' D = some (.lst acc) → Pv D xs.length acc H' → Q (.ref D) H') : CompT K G tt te vs σ Q (.ref a) H :=
  ⟨a, rfl, ⟨xs, hx⟩, fun D hD => lc_tup (xs := xs) (fun i H' => ∃ acc, H' D = some (.lst acc) ∧ Pv D i acc H') ⟨[], upd_same, h0 D hD⟩ (fun i H' hi ⟨acc, ha, p⟩ => hl D i acc H' hi p) (fun i x H' hi ⟨acc, ha, p⟩ => hs D i x acc H' hi ha p) fun H' ⟨acc, ha, p⟩ => hd D acc H' hD ha p⟩
/-- an item is kept: behind te, the list is known -/
theorem lc_put {D : Addr} {acc : List V} {y : V} {P : List V → List V → Prop} {H4 : Hp} (h : H4 D = some (.lst acc)) (hz : acc.length < sizeLine) (k : P acc (acc ++ [y])) :
    ∃ acc, H4 D = some (.lst acc) ∧ acc.length < sizeLine ∧ (∃ ac, (upd H4 D (.lst (acc ++ [y]))) D = some (.lst ac) ∧ P acc ac) := ⟨acc, h, hz, _, upd_same, k⟩
end
/-! ### lists, displays -/
section
variable {K : PySem.W.Frag} {H : Hp} {Q : VK}
theorem Keep.out {M : List Addr} {H H' : Hp} {a : Addr} {o : HO} (h : Keep M H H') (n : a ∉ M) (e : H a = some o) : H' a = some o := h a o n e
theorem getD_all {p : Int → Prop} {P : List Int} {i : Nat} (h : ∀ x ∈ P, p x) (hi : i < P.length) : p (P.getD i 0) := by
  rw [List.getD_eq_getElem?_getD, List.getElem?_eq_getElem hi]; exact h _ (List.getElem_mem hi)
theorem r_slL {a : Addr} {xs : List V} {lo hi : Option Int} (h : SqL K H a xs) (k : ∀ p, H p = none → Q (.ref p) (upd H p (.lst (cutV xs lo hi)))) : rSlL K (.ref a) lo hi H Q := ⟨a, xs, rfl, h, k⟩
theorem r_cat {l b : Addr} {xs zs : List V} (h : H l = some (.lst xs)) (h2 : H b = some (.lst zs)) (hz : xs.length + zs.length ≤ sizeLine) (k : ∀ p, H p = none → Q (.ref p) (upd H p (.lst (xs ++ zs)))) : rCat (.ref l) (.ref b) H Q :=
  ⟨l, b, xs, zs, rfl, rfl, h, h2, hz, k⟩
theorem r_listL {p : Addr} {xs : List V} {F : List V → Prop} (h : SqL K H p xs) (k : F xs) : ∃ q ys, [V.ref p] = [.ref q] ∧ (SqL K H q ys ∨ SqT K H q ys) ∧ F ys := ⟨p, xs, rfl, .inl h, k⟩
theorem r_tPart {te : TE} {σ : L2.St} {QO : Option Int → Hp → Prop} (k : te σ H fun v H1 => ∃ i, v = .int i ∧ QO (some i) H1) : tPart te σ H QO := k
theorem r_noPart {σ : L2.St} {QO : Option Int → Hp → Prop} (k : QO none H) : tNoPart σ H QO := k
theorem r_gcd {a b : Int} (k : Q (.int ((Nat.gcd a.natAbs b.natAbs : Nat) : Int)) H) : rGcd [.int a, .int b] H Q := ⟨a, b, rfl, k⟩
theorem r_iteNT1 {A B : Prop} (k : B) : if (!true) = true then A else B := by rw [if_neg (by decide)]; exact k
theorem r_iteNF1 {A B : Prop} (k : A) : if (!false) = true then A else B := by rw [if_pos (by decide)]; exact k
theorem kit_ii : kitB "int" "int" = some true := by decide +kernel
theorem kit_ib : kitB "int" "bool" = some false := by decide +kernel
theorem kit_bi : kitB "bool" "int" = some true := by decide +kernel
theorem kit_bb : kitB "bool" "bool" = some true := by decide +kernel
theorem kit_tt : kitB "tuple" "tuple" = some true := by decide +kernel
theorem kit_ss : kitB "str" "str" = some true := by decide +kernel
theorem kit_ll : kitB "list" "list" = some true := by decide +kernel
theorem kit_dd : kitB "dict" "dict" = some true := by decide +kernel
theorem kit_nt : kitB "NoneType" "tuple" = some false := by decide +kernel
theorem kit_ni : kitB "NoneType" "int" = some false := by decide +kernel
theorem kit_is : kitB "int" "str" = some false := by decide +kernel
theorem kit_si : kitB "str" "int" = some false := by decide +kernel
theorem kit_it : kitB "int" "tuple" = some false := by decide +kernel
theorem mulw {i j : Int} (a b : Nat) (ha : i.natAbs < 2 ^ a) (hb : j.natAbs < 2 ^ b) (h0 : 0 < a := by decide) (h1 : 0 < b := by decide) (h : a + b ≤ 1000000 := by decide) : CMul i j ∨ CMulW i j := .inr (wide_mul ha hb h0 h1 h)
theorem r_callSD {sp : Sp} {dvs : List V} {E : L2.St → XK} {tas : TA} {σ : L2.St} (k : tas σ H fun vs H1 => sp (vs ++ dvs) H1 Q (E σ)) : tCallSD sp dvs E tas σ H Q := k
theorem exm_ZD {K : PySem.W.Frag} : PySem.W.exmOne K (.type "ZeroDivisionError") (.type "ZeroDivisionError") = some true := by kernel_rfl
theorem r_par {i j : Nat} {ta : TA} {D : Ends} {σ : L2.St} (k : ta σ H fun vs H1 => ∃ v w, vs = [v, w] ∧ gName i v σ H1 fun σ1 H2 => gName j w σ1 H2 D.nx) : tPar i j ta D σ H := k
theorem r_exP {x y : V} {F : V → V → Prop} (k : F x y) : ∃ v w, [x, y] = [v, w] ∧ F v w := ⟨x, y, rfl, k⟩
theorem r_bm {T : String} {r : V → List V → Hp → VK → Prop} {to : TE} {ta : TA} {σ : L2.St} (k : to σ H fun x H1 => tyV K T x H1 ∧ ta σ H1 fun xs H2 => r x xs H2 Q) : tBM K T r to ta σ H Q := k
theorem r_tyL {p : Addr} {xs : List V} {R : Prop} (h : SqL K H p xs) (k : R) : tyV K "list" (.ref p) H ∧ R := ⟨.inl ⟨rfl, xs, h⟩, k⟩
theorem r_app {l : Addr} {xs : List V} {y : V} (h : H l = some (.lst xs)) (hz : xs.length < sizeLine) (k : Q .non (upd H l (.lst (xs ++ [y])))) : rAppend (.ref l) [y] H Q := ⟨l, xs, y, rfl, rfl, h, hz, k⟩
theorem r_exI {i : Int} {F : Int → Prop} (k : F i) : ∃ j, V.int i = .int j ∧ F j := ⟨i, rfl, k⟩
end
theorem start_cc {n : Str} {N : List Str} {v : V} {vs : List V} : L2.start (n :: N) (v :: vs) = some v :: L2.start N vs := by
  unfold L2.start
  rw [List.map_cons, List.length_cons, List.length_cons, Nat.add_sub_add_right, List.cons_append]
theorem start_cn {n : Str} {N : List Str} : L2.start (n :: N) [] = none :: L2.start N [] := rfl
theorem start_nn : L2.start [] [] = [] := rfl
theorem atI_map {P : List Int} {i : Int} (h0 : 0 ≤ i) (h1 : i < P.length) : atI (P.map V.int) i = some (.int (P.getD i.toNat 0)) := by
  obtain ⟨n, rfl⟩ : ∃ n : Nat, i = n := ⟨i.toNat, by omega⟩
  refine atI_nat ?_
  have h2 : n < P.length := by omega
  rw [List.getElem?_map, List.getElem?_eq_getElem h2, Int.toNat_natCast, List.getD_eq_getElem?_getD, List.getElem?_eq_getElem h2]; rfl
theorem ixN_of {n : Nat} {i : Int} (h0 : 0 ≤ i) (h1 : i < n) : ixN n i = some i.toNat := by
  unfold ixN; rw [if_pos h0, if_pos h1]
/-- sizes of ints -/
theorem log2_of {i : Int} {n : Nat} (h : i.natAbs < 2 ^ n) (h0 : 0 < n) : i.natAbs.log2 < n := PySem.Flt.log2_lt_of h0 h
theorem log_ok {j : Int} (n : Nat) (h : j.natAbs < 2 ^ n) (h0 : 0 < n := by decide) (h9 : n ≤ 9000 := by decide) : j.natAbs.log2 < 9000 := Nat.lt_of_lt_of_le (log2_of h h0) h9
theorem cmulw {i j : Int} (a b : Nat) (ha : i.natAbs < 2 ^ a) (hb : j.natAbs < 2 ^ b) (h0 : 0 < a := by decide) (h1 : 0 < b := by decide) (h : a + b ≤ 1000000 := by decide) : CMulW i j := wide_mul ha hb h0 h1 h
/-! ### == of flat rows -/
def fdV : V → PyData
  | .bl b => .bool b
  | .int i => .int i
  | .str x => .str x
  | _ => .none
def flatV : V → Bool
  | .non => true
  | .bl _ => true
  | .int _ => true
  | .str x => PyData.canLay0 (.str x)
  | _ => false
theorem dp_flat {K : PySem.W.Frag} {H : Hp} : ∀ {v : V}, flatV v = true → Dp K H v (fdV v)
  | .non, _ => .non
  | .bl b, _ => .bl b
  | .int i, _ => .int i
  | .str x, _ => .str x
theorem dp_flats {K : PySem.W.Frag} {H : Hp} : ∀ {xs : List V}, xs.all flatV = true → DpAll K H xs (xs.map fdV)
  | [], _ => .nil
  | v :: xs, h => by
    rw [List.all_cons, Bool.and_eq_true] at h
    exact .cons (dp_flat h.1) (dp_flats h.2)
theorem flat_lay : ∀ {v : V}, flatV v = true → (fdV v).canLay0 = true ∧ (fdV v).depth = 0
  | .non, _ => by simp [fdV, PyData.canLay0, PyData.depth]
  | .bl b, _ => by simp [fdV, PyData.canLay0, PyData.depth]
  | .int i, _ => by simp [fdV, PyData.canLay0, PyData.depth]
  | .str x, h => ⟨h, by simp [fdV, PyData.depth]⟩
theorem flats_lay : ∀ {xs : List V}, xs.all flatV = true → PyData.canLayAll0 (xs.map fdV) = true ∧ PyData.depthAll (xs.map fdV) = 0
  | [], _ => by simp [PyData.canLayAll0, PyData.depthAll]
  | v :: xs, h => by
    rw [List.all_cons, Bool.and_eq_true] at h
    have a := flat_lay h.1
    have b := flats_lay h.2
    simp [PyData.canLayAll0, PyData.depthAll, a.1, a.2, b.1, b.2]
theorem shaped_flat {xs : List V} (h : xs.all flatV = true) : SeqAt.shaped (.list (xs.map fdV)) = true ∧ SeqAt.shaped (.tuple (xs.map fdV)) = true := by
  have b := flats_lay h
  constructor <;> simp [SeqAt.shaped, PyData.canLay0, PyData.depth, b.1, b.2]
theorem eqv_flat : ∀ {v : V}, flatV v = true → PyData.eqv (fdV v) (fdV v) = true
  | .non, _ => by simp [fdV, PyData.eqv]
  | .bl b, _ => by simp [fdV, PyData.eqv]
  | .int i, _ => by simp [fdV, PyData.eqv]
  | .str x, _ => by simp [fdV, PyData.eqv]
theorem eqv_flats : ∀ {xs : List V}, xs.all flatV = true → PyData.eqvAll (xs.map fdV) (xs.map fdV) = true
  | [], _ => by simp [PyData.eqvAll]
  | v :: xs, h => by
    rw [List.all_cons, Bool.and_eq_true] at h
    simp [PyData.eqvAll, eqv_flat h.1, eqv_flats h.2]
section
variable {K : PySem.W.Frag} {H : Hp} {Q : VK} {p q : Addr} {xs ys : List V} {b : Bool}
theorem eqvL {xs ys : List PyData} : PyData.eqv (.list xs) (.list ys) = PyData.eqvAll xs ys := by simp [PyData.eqv]
theorem eqvT {xs ys : List PyData} : PyData.eqv (.tuple xs) (.tuple ys) = PyData.eqvAll xs ys := by simp [PyData.eqv]
theorem r_eqL (hp : SqL K H p xs) (hq : SqL K H q ys) (fx : xs.all flatV = true) (fy : ys.all flatV = true) (hb : PyData.eqvAll (xs.map fdV) (ys.map fdV) = b) (k : Q (.bl b) H) : rEqD K (.ref p) (.ref q) H Q :=
  ⟨_, _, .lst hp (dp_flats fx), .lst hq (dp_flats fy), (shaped_flat fx).1, (shaped_flat fy).1, by rw [eqvL, hb]; exact k⟩
theorem r_eqT (hp : SqT K H p xs) (hq : SqT K H q ys) (fx : xs.all flatV = true) (fy : ys.all flatV = true) (hb : PyData.eqvAll (xs.map fdV) (ys.map fdV) = b) (k : Q (.bl b) H) : rEqD K (.ref p) (.ref q) H Q :=
  ⟨_, _, .tup hp (dp_flats fx), .tup hq (dp_flats fy), (shaped_flat fx).2, (shaped_flat fy).2, by rw [eqvT, hb]; exact k⟩
theorem r_neL (hp : SqL K H p xs) (hq : SqL K H q ys) (fx : xs.all flatV = true) (fy : ys.all flatV = true) (hb : PyData.eqvAll (xs.map fdV) (ys.map fdV) = b) (k : Q (.bl (!b)) H) : rNeD K (.ref p) (.ref q) H Q :=
  ⟨_, _, .lst hp (dp_flats fx), .lst hq (dp_flats fy), (shaped_flat fx).1, (shaped_flat fy).1, by rw [eqvL, hb]; exact k⟩
theorem r_neT (hp : SqT K H p xs) (hq : SqT K H q ys) (fx : xs.all flatV = true) (fy : ys.all flatV = true) (hb : PyData.eqvAll (xs.map fdV) (ys.map fdV) = b) (k : Q (.bl (!b)) H) : rNeD K (.ref p) (.ref q) H Q :=
  ⟨_, _, .tup hp (dp_flats fx), .tup hq (dp_flats fy), (shaped_flat fx).2, (shaped_flat fy).2, by rw [eqvT, hb]; exact k⟩
end
/-! ### rules whose reading names K, told for a context that hides it (a comprehension, an except suite) -/
section
variable {X : Cx} {K : PySem.W.Frag}
theorem ix_listK (hK : X.K = K) : IxR X (rIxL K) := by subst hK; exact ix_list
theorem ix_tupK (hK : X.K = K) : IxR X (rIxT K) := by subst hK; exact ix_tup
theorem op_in_seqK (hK : X.K = K) : OpR X (compareOp .In) (rIn K false) := by subst hK; exact op_in_seq
theorem op_notIn_seqK (hK : X.K = K) : OpR X (compareOp .NotIn) (rIn K true) := by subst hK; exact op_notIn_seq
theorem call_len_seqK (hK : X.K = K) : CallR X (.builtin "len") (fun xs H Q => ∃ p ys, xs = [.ref p] ∧ (SqL K H p ys ∨ SqT K H p ys) ∧ Q (.int ys.length) H) := by subst hK; exact call_len_seq
theorem call_isiK (hK : X.K = K) : CallR X (.builtin "isinstance") (rIsi K) := by subst hK; exact call_isi
end
section
variable {H : Hp}
def rIsN : R2 := fun x y H Q => y = .non ∧ Q (.bl (decide (x = .non))) H
def rNoN : R2 := fun x y H Q => y = .non ∧ Q (.bl (!decide (x = .non))) H
theorem op_isNc {X : Cx} : OpR X (compareOp .Is) rIsN := op_isN
theorem op_notNc {X : Cx} : OpR X (compareOp .IsNot) rNoN := op_notN
theorem r_isN {Q : VK} (k : Q (.bl true) H) : rIsN (V.non) .non H Q := ⟨rfl, by rw [decide_eq_true rfl]; exact k⟩
theorem r_noN {Q : VK} (k : Q (.bl false) H) : rNoN (V.non) .non H Q := ⟨rfl, by rw [decide_eq_true rfl]; exact k⟩
theorem r_isI {i : Int} {Q : VK} (k : Q (.bl false) H) : rIsN (.int i) .non H Q := ⟨rfl, by rw [decide_eq_false (fun e => by cases e)]; exact k⟩
theorem r_noI {i : Int} {Q : VK} (k : Q (.bl true) H) : rNoN (.int i) .non H Q := ⟨rfl, by rw [decide_eq_false (fun e => by cases e)]; exact k⟩
theorem r_isR {p : Addr} {Q : VK} (k : Q (.bl false) H) : rIsN (.ref p) .non H Q := ⟨rfl, by rw [decide_eq_false (fun e => by cases e)]; exact k⟩
theorem r_noR {p : Addr} {Q : VK} (k : Q (.bl true) H) : rNoN (.ref p) .non H Q := ⟨rfl, by rw [decide_eq_false (fun e => by cases e)]; exact k⟩
theorem r_isS {x : Str} {Q : VK} (k : Q (.bl false) H) : rIsN (.str x) .non H Q := ⟨rfl, by rw [decide_eq_false (fun e => by cases e)]; exact k⟩
theorem r_noS {x : Str} {Q : VK} (k : Q (.bl true) H) : rNoN (.str x) .non H Q := ⟨rfl, by rw [decide_eq_false (fun e => by cases e)]; exact k⟩
theorem r_isB {b : Bool} {Q : VK} (k : Q (.bl false) H) : rIsN (.bl b) .non H Q := ⟨rfl, by rw [decide_eq_false (fun e => by cases e)]; exact k⟩
theorem r_noB {b : Bool} {Q : VK} (k : Q (.bl true) H) : rNoN (.bl b) .non H Q := ⟨rfl, by rw [decide_eq_false (fun e => by cases e)]; exact k⟩
theorem r_inL {K : PySem.W.Frag} {x : V} {p : Addr} {xs : List V} {Q : VK} (h : SqL K H p xs) (fx : L2.flatV x = true) (fs : xs.all L2.flatV = true) (k : Q (.bl (inV x xs)) H) : rIn K false x (.ref p) H Q := ⟨p, xs, rfl, .inl h, fx, fs, by simpa using k⟩
theorem r_ninL {K : PySem.W.Frag} {x : V} {p : Addr} {xs : List V} {Q : VK} (h : SqL K H p xs) (fx : L2.flatV x = true) (fs : xs.all L2.flatV = true) (k : Q (.bl (!inV x xs)) H) : rIn K true x (.ref p) H Q := ⟨p, xs, rfl, .inl h, fx, fs, by simpa using k⟩
theorem r_iteTT {A B : Prop} (k : A) : if true = true then A else B := by rw [if_pos rfl]; exact k
theorem r_iteFF {A B : Prop} (k : B) : if false = true then A else B := by rw [if_neg (by decide)]; exact k
end
/-! ### an own error over ValueError (through own classes) whose __init__ says super().__init__(a text), then stores its arguments -/
namespace Er
open PySem.W PySem.Calls PySem.HandSPX
section
variable {prog : Program} {w : World} {A : Around} {E : Value → Shared → Prop} {s : Shared} {K : Frag} {mg : Str → Option Value} {base : Heap} {m : Str → Option Value}
/-- what the written part says of the class at C: its __init__ at fI, the cell of __class__ at cc, the code at cda -/
structure Txt (P : Program) (K : Frag) (mg : Str → Option Value) (C fI cc cda : Addr) : Prop where
  cls : ∃ nm q N bs bm sn sub ab col dd k0 k1 k2 k3 k5, K.lookup C = some (excClassObj nm q C N bs bm true sn sub ab col dd k0 k1 k2 k3 k5 "ValueError.__new__") ∧ refsVE bm = true
  sa : findIn K (.ref C) "__setattr__" = some (some (.builtin "object.__setattr__"))
  iC : findIn K (.ref C) "__init__" = some (some (.ref fI))
  tI : typeIn K (.ref fI) = some (.type "function")
  cell : ∃ cl cld csl, K.lookup cc = some ⟨cl, cld, .cell (some (.ref C)), csl⟩
  code : ∃ ccl cdd vs ccs tf, K.lookup cda = some ⟨ccl, cdd, .fields vs, ccs⟩ ∧ vs[2]? = some (.str P.main.file tf)
  sup : ks_superIn K C C "__init__" = some (some (.builtin "ValueError.__init__"))
  supB : subIn K (.ref C) (.type "ValueError") = some true
  self : mroIn K C (.ref C) = some true
  opq : nsIn K cStatics "thirdparty.any" = some none
  mS : mg "super" = none
  top : (P.main.scope.names.lookup ("super" : Str)).isSome = false
theorem clsIn_of {C N : Addr} {nm q : Str} {bs bm : List Value} {hd : Bool} {sn : List Str} {sub : List Value} {ab : Bool} {col : Option Bool} {dd : Option Addr} {k0 k1 k2 k3 k5 : Option Value} {nw : String}
    (hC : K.lookup C = some (excClassObj nm q C N bs bm hd sn sub ab col dd k0 k1 k2 k3 k5 nw)) :
    clsIn K C = some { name := nm, bases := bs, mro := .ref C :: bm, ns := N, qualname := q, hasDict := hd, slotNames := sn, subclasses := sub, abstract := ab, collection := col, hasDel := false } := by
  unfold clsIn; rw [hC] <;> rfl
theorem call_mw {u e t0 C N : Addr} {nm q : Str} {bs bm : List Value} {hdct : Bool} {sn : List Str} {sub : List Value} {ab : Bool} {col : Option Bool} {dd : Option Addr} {k0 k1 k2 k3 k5 : Option Value} {h : Heap} {g : Array GenState} {d : Drawn} {t : Nat} {os : OsState} {rest : List Value} {Q : Value → Shared → Prop}
    (hC : h.get? C = some (excClassObj nm q C N bs bm hdct sn sub ab col dd k0 k1 k2 k3 k5 "ValueError.__new__")) (he : h.get? e = some (excObj C t0 none .none)) (hu : h.get? u = some (kxs_mw "ValueError.__init__" e)) (hrest : rest.length ≤ sizeLine)
    (hq : ∀ h' t1, (∀ b o, b ≠ e → h.get? b = some o → h'.get? b = some o) → h'.get? e = some (excObj C t1 none .none) → Q .none ⟨h', g, d, t, os⟩) :
    wpAny (model prog w) A (call (.ref u) rest) Q E ⟨h, g, d, t, os⟩ := by
  refine wpAny_call (codeAny_of_tree ?_)
  show wpAny _ A.in1 (callAny (.ref u) ⟨rest, []⟩) _ _ _
  simp only [callAny]
  refine wpAny_bind (wpAny_load hu ?_)
  simp only [kxs_mw, show (Value.type "method-wrapper" == Value.type "method" || Value.type "method-wrapper" == Value.type "builtin_function_or_method" || Value.type "method-wrapper" == Value.type "method-wrapper") = true by decide, if_true]
  refine KFB.if_so (by decide) ?_
  refine wpAny_bind (check_bound_init F.excBase_ValueError.toExcCallFacts hC he rfl ?_)
  refine wpAny_bind (wpAny_pure (wpAny_pure ?_))
  refine ⟨plainId_quiet F.excBase_ValueError.init.plain _, codeAny_builtin F.excBase_ValueError.initEntry ?_⟩
  exact exc_init_tree (cls := .ref C) (t0 := t0) (dv := none) (c2 := .none) (c3 := .none) (b4 := .bool false) he hrest fun h' k e' _ => hq h' _ k e'
theorem super_stmt {pl : Sem Bool} {C fI cc cda L x t0 : Addr} {fd : FuncData} {oc : Value} {od : Option Addr} {osl : Array (Option Value)} {ar : Arg} {q : Str} {scope : Scope} {body : List Stmt} {msg : Expr} {p0 p1 p2 p3 p4 : Pos} {Q : Flow → Shared → Prop}
    (T : Txt prog K mg C fI cc cda) (Mo : Mod K mg base) (kb : ∀ b o, base.get? b = some o → s.heap.get? b = some o)
    (hf : K.lookup fI = some ⟨oc, od, .func fd, osl⟩) (hp : (fd.params.posonlyargs ++ fd.params.args).head? = some ar) (har : ar.arg = "self")
    (hks : scope.names.lookup ("super" : Str) = some .globalImplicit) (hkc : scope.names.lookup ("__class__" : Str) = some .free) (hka : scope.names.lookup ("self" : Str) = some .local) (hk : scope.kind = .function)
    (hns : s.heap.Ns L m) (hv : m "self" = some (.ref x)) (hx : s.heap.get? x = some (excO C t0))
    (hmsg : ∀ (s' : Shared) (Q' : Value → Shared → Prop), s'.heap.Ns L m → (∀ (z : Str) tk n, Q' (.str z tk) { s' with toks := n }) → wpAny (model prog w) A (eval msg (ksEnv q scope L fI (.ref cda) cc)) Q' E s')
    (hq : ∀ h' tk t1, (∀ b o, b ≠ x → s.heap.get? b = some o → h'.get? b = some o) → h'.get? x = some (excO C t1) → Q .next { s with heap := h', toks := tk })
    (hin : interactive (ksEnv q scope L fI (.ref cda) cc) = false := by rfl)
    (he : starEach [msg] (ksEnv q scope L fI (.ref cda) cc) = (false, eval msg (ksEnv q scope L fI (.ref cda) cc)) :: starEach [] (ksEnv q scope L fI (.ref cda) cc) := by rfl)
    (hsw : swapsWith (.Call (.Attribute (.Call (.Name "super" p0) [] [] p1) "__init__" p2) [msg] [] p3) none p4.line (ksEnv q scope L fI (.ref cda) cc) = pure false := by rfl)
    (hmc : eval (.Call (.Attribute (.Call (.Name "super" p0) [] [] p1) "__init__" p2) [msg] [] p3) (ksEnv q scope L fI (.ref cda) cc) = (do
      let ov ← attributeBase (.Call (.Name "super" p0) [] [] p1) "__init__" (ksEnv q scope L fI (.ref cda) cc) (eval (.Call (.Name "super" p0) [] [] p1) (ksEnv q scope L fI (.ref cda) cc))
      standAt p2.atName
      let (f, first) ← holding [ov] (getMethod ov "__init__" pl)
      callWith p3 f first (backTo p3 (starEach [msg] (ksEnv q scope L fI (.ref cda) cc))) []) := by rfl) :
    PySem.wpAt (model prog w) A (.func body (ksEnv q scope L fI (.ref cda) cc)) (exec (.Expr (.Call (.Attribute (.Call (.Name "super" p0) [] [] p1) "__init__" p2) [msg] [] p3) p4) (ksEnv q scope L fI (.ref cda) cc)) Q E s := by
  obtain ⟨nm, q0, N, bs, bm, sn, sub, ab, col, dd, k0, k1, k2, k3, k5, hC, hbm⟩ := T.cls
  obtain ⟨cl, cld, csl, hcell⟩ := T.cell
  obtain ⟨ccl, cdd, vs, ccs, tf, hcode, hvs⟩ := T.code
  obtain ⟨mb, hb1, hb2⟩ := Mo.blt
  have X : K.In s.heap := Mo.kin.keeps kb
  have hcl := clsIn_of hC
  have hss : alongIn K "__init__" (((Value.ref C :: bm).dropWhile (· != .ref C)).drop 1) = some (some (.builtin "ValueError.__init__")) := by
    have z := T.sup
    unfold ks_superIn at z
    rw [hcl] at z
    exact z
  have Ix : InstAt s.heap x (excO C t0) C none := ⟨hx, rfl, rfl, trivial⟩
  have hxC : x ≠ C := ks_ne X Ix hcl
  obtain ⟨hh, g, d, t, os⟩ := s
  refine ks_wpAt_Expr_any (ks_wpAt_MethodCall (pl := pl) ?_ hmc) hin hsw
  refine ks_wpAt_super_base (env := ksEnv q scope L fI (.ref cda) cc) hks hkc rfl rfl (X _ _ hf) rfl hp rfl (X _ _ hcode) rfl hvs (beq_self_eq_true _) T.top ?_
  refine ks_loadName_global hk hks (loadGlobal_builtin (env := ksEnv q scope L fI (.ref cda) cc) (Mo.glob.keeps kb) T.mS (hb1.keeps kb) ((hb2 _ (by decide)).trans (by decide +kernel : bootBuiltins "super" = some (.type "super"))) ⟨rfl, ?_⟩)
  refine wpAny_loadName_free hk hkc rfl ⟨_, X _ _ hcell, rfl⟩ ?_
  rw [har]
  refine wpAny_loadName_local hk hka hns hv ?_
  refine ks_wpAny_isType_cls (X _ _ hC) rfl ⟨rfl, ?_⟩
  refine ks_wpAny_call_super (X _ _ hC) rfl hx rfl (fun c e => by cases e) (looks_mroIn X T.self) (fun h1 e1 kk1 => ?_)
  have X1 : K.In h1 := X.keeps kk1
  have hx1 := kk1 _ _ hx
  have I1 : InstAt h1 x (excO C t0) C none := ⟨hx1, rfl, rfl, trivial⟩
  refine kxs_getMethod kxs_ValueError e1 (looks_opaque X1 T.opq) (l₀ := .ref C :: bm) (fun A Q E s k q => wpAny_bind ((looks_clsIn X1 hcl) A _ E s k (wpAny_pure q))) rfl X1 hss (I1.type.andThen (looks_subIn X1 T.supB)) hxC rfl ?_
  have hns1 : (h1.push (kxs_mw "ValueError.__init__" x)).Ns L m := hns.keeps fun b o e => Heap.get?_push_of_some _ (kk1 b o e)
  rw [he]
  refine kxs_callWith (i := "ValueError.__init__") (x := x) rfl (evalArgs_plain (Calls.spliced_cons (hmsg _ _ hns1 fun z tk n => Calls.spliced_nil ⟨?_, ?_⟩)))
  · exact Heap.get?_push_size _ rfl
  · refine call_mw (Heap.get?_push_of_some _ (X1 _ _ hC)) (Heap.get?_push_of_some _ hx1) (Heap.get?_push_size _ rfl) (show 1 ≤ sizeLine by decide) fun h' t1 k e => ?_
    exact hq h' _ t1 (fun b o hb ho => k b o hb (Heap.get?_push_of_some _ (kk1 b o ho))) e
end
/-! ### the text -/
def TxE (prog : Program) (w : World) (env : Env) (m : Str → Option Value) (e : Expr) : Prop := ∀ (A : Around) (E : Value → Shared → Prop) (s : Shared) (Q : Value → Shared → Prop), s.heap.Ns env.locals m →
  (∀ (z : Str) tk n, z.length ≤ 100000 → Q (.str z tk) { s with toks := n }) → wpAny (model prog w) A (eval e env) Q E s
/-- what {x!r} is written of -/
def MsgV (v : Value) : Prop := (∃ i t, v = .int i t ∧ i.natAbs.log2 < 1920) ∨ ∃ y t, v = .str y t ∧ (reprText y).length ≤ 100000 ∧ y.length ≤ 100000
section
variable {prog : Program} {w : World} {env : Env} {m : Str → Option Value}
theorem small_size {n : Nat} (h : n ≤ 100000) : n ≤ sizeLine := Nat.le_trans h (by decide)
theorem tx_const {z : Str} {k : Nat} {pos : Pos} (h : z.length ≤ 100000) : TxE prog w env m (.Constant (.str z) k pos) := fun A E s Q _ q => by
  rw [eval_Constant]
  exact wpAny_mkText (q z _ _ h)
theorem ld_name {A : Around} {E : Value → Shared → Prop} {s : Shared} {Q : Value → Shared → Prop} {x : Str} {p : Pos} {v : Value} (hn : s.heap.Ns env.locals m) (hv : m x = some v) (hk : env.scope.kind = .function) (hl : env.kindOf x = some .local) (h : Q v s) (hd : (x == ("__debug__" : Str)) = false := by decide) :
    wpAny (model prog w) A (eval (.Name x p) env) Q E s := wpAny_Name (wpAny_loadName_local hk hl hn hv h) hd
theorem tx_repr {x : Str} {p pos : Pos} {v : Value} (hv : m x = some v) (ok : MsgV v) (hk : env.scope.kind = .function) (hl : env.kindOf x = some .local) (hd : (x == ("__debug__" : Str)) = false := by decide) : TxE prog w env m (.FormattedValue (.Name x p) 114 none pos) := fun A E s Q hn q => by
  refine wpAny_FormattedValue_repr (ld_name hn hv hk hl ?_ hd)
  rcases ok with ⟨i, t, rfl, hz⟩ | ⟨y, t, rfl, hz, _⟩
  · have hl : (Str.ofString (toString i)).length ≤ 100000 := by
      have e := int_text_length_le (k := 1920) (by decide) hz
      rw [PySem.ofString_length]; omega
    exact pyReprObj_int hz (wpAny_formatField_str (q _ _ _ hl) (q _ _ _ hl) (small_size hl))
  · exact pyReprObj_str (wpAny_formatField_str (q _ _ _ hz) (q _ _ _ hz) (small_size hz)) (small_size hz)
theorem tx_plain {x : Str} {p pos : Pos} {v : Value} (hv : m x = some v) (ok : MsgV v) (hk : env.scope.kind = .function) (hl : env.kindOf x = some .local) (hd : (x == ("__debug__" : Str)) = false := by decide) : TxE prog w env m (.FormattedValue (.Name x p) (-1) none pos) := fun A E s Q hn q => by
  refine wpAny_FormattedValue_plain (ld_name hn hv hk hl ?_ hd)
  rcases ok with ⟨i, t, rfl, hz⟩ | ⟨y, t, rfl, _, hz⟩
  · have hl : (Str.ofString (toString i)).length ≤ 100000 := by
      have e := int_text_length_le (k := 1920) (by decide) hz
      rw [PySem.ofString_length]; omega
    exact wpAny_formatField_int hz (q _ _ _ hl)
  · exact wpAny_formatField_str (q y _ s.toks hz) (q _ _ _ hz) (small_size hz)
inductive TxP (prog : Program) (w : World) (env : Env) (m : Str → Option Value) : List Expr → Prop where
  | nil : TxP prog w env m []
  | cons {e : Expr} {es : List Expr} (h : TxE prog w env m e) (r : TxP prog w env m es) : TxP prog w env m (e :: es)
theorem txp_run {es : List Expr} (h : TxP prog w env m es) : ∀ (A : Around) (E : Value → Shared → Prop) (acc : Str) (s : Shared) (R : Str → Shared → Prop), acc.length + 100000 * es.length ≤ sizeLine → s.heap.Ns env.locals m →
    (∀ out n, out.length ≤ sizeLine → R out { s with toks := n }) → Joins (model prog w) A E (evalEach es env) acc R s := by
  induction h with
  | nil =>
    intro A E acc s R hz hn k
    have e0 : evalEach [] env = [] := by first | rfl | simp [evalEach]
    rw [e0]
    exact k acc s.toks (by simpa using hz)
  | @cons e es he r ih =>
    intro A E acc s R hz hn k
    have e0 : evalEach (e :: es) env = eval e env :: evalEach es env := by first | rfl | simp [evalEach]
    rw [e0]
    rw [List.length_cons] at hz
    refine he A E s _ hn fun z tk n hl => ⟨z, tk, rfl, ?_, ?_⟩
    · rw [Str.length_append]; omega
    · refine ih A E (acc ++ z) { s with toks := n } R (by rw [Str.length_append]; omega) hn fun out n' ho => ?_
      exact k out n' ho
theorem tx_joined {v1 v2 : Expr} {rest : List Expr} {pos : Pos} {A : Around} {E : Value → Shared → Prop} {s : Shared} {Q : Value → Shared → Prop} (h : TxP prog w env m (v1 :: v2 :: rest)) (hz : 100000 * (v1 :: v2 :: rest).length ≤ sizeLine) (hn : s.heap.Ns env.locals m)
    (q : ∀ (z : Str) tk n, Q (.str z tk) { s with toks := n }) : wpAny (model prog w) A (eval (.JoinedStr (v1 :: v2 :: rest) pos) env) Q E s :=
  wpAny_JoinedStr (txp_run h A E Str.empty s _ (by rw [show Str.empty.length = 0 from rfl, Nat.zero_add]; exact hz) hn fun out n ho => ⟨ho, q out _ _⟩)
end
/-! ### __init__ of one argument -/
/-- the text of def __init__(self, f): super().__init__(msg); self.f = f -/
structure Sh1 (prog : Program) (w : World) (st : Stmt) (f : Str) : Prop where
  body : ∃ (msg : Expr) (p0 p1 p2 p3 p4 q1 q2 q3 q4 : Pos) (pl : Sem Bool), defBody st = [.Expr (.Call (.Attribute (.Call (.Name "super" p0) [] [] p1) "__init__" p2) [msg] [] p3) p4, .Assign [.Attribute (.Name "self" q1) f q2] (.Name f q3) q4] ∧
    (∀ (q : Str) (L fI cda cc : Addr) (m : Str → Option Value) (v : Value) (A : Around) (E : Value → Shared → Prop) (s : Shared) (Q : Value → Shared → Prop), m f = some v → MsgV v → s.heap.Ns L m → (∀ (z : Str) tk n, Q (.str z tk) { s with toks := n }) →
      wpAny (model prog w) A (eval msg (ksEnv q (defScope st) L fI (.ref cda) cc)) Q E s) ∧
    (∀ (q : Str) (L fI cda cc : Addr), interactive (ksEnv q (defScope st) L fI (.ref cda) cc) = false ∧ starEach [msg] (ksEnv q (defScope st) L fI (.ref cda) cc) = (false, eval msg (ksEnv q (defScope st) L fI (.ref cda) cc)) :: starEach [] (ksEnv q (defScope st) L fI (.ref cda) cc) ∧
      swapsWith (.Call (.Attribute (.Call (.Name "super" p0) [] [] p1) "__init__" p2) [msg] [] p3) none p4.line (ksEnv q (defScope st) L fI (.ref cda) cc) = pure false ∧
      eval (.Call (.Attribute (.Call (.Name "super" p0) [] [] p1) "__init__" p2) [msg] [] p3) (ksEnv q (defScope st) L fI (.ref cda) cc) = (do
        let ov ← attributeBase (.Call (.Name "super" p0) [] [] p1) "__init__" (ksEnv q (defScope st) L fI (.ref cda) cc) (eval (.Call (.Name "super" p0) [] [] p1) (ksEnv q (defScope st) L fI (.ref cda) cc))
        standAt p2.atName
        let (f, first) ← holding [ov] (getMethod ov "__init__" pl)
        callWith p3 f first (backTo p3 (starEach [msg] (ksEnv q (defScope st) L fI (.ref cda) cc))) []) ∧
      swapsWith (.Name f q3) (some (.Attribute (.Name "self" q1) f q2)) q4.line (ksEnv q (defScope st) L fI (.ref cda) cc) = pure false)
  head : ∃ ar, ((defArgs st).posonlyargs ++ (defArgs st).args).head? = some ar ∧ ar.arg = "self"
  ks : (defScope st).names.lookup ("super" : Str) = some .globalImplicit
  kc : (defScope st).names.lookup ("__class__" : Str) = some .free
  ka : (defScope st).names.lookup ("self" : Str) = some .local
  kf : (defScope st).names.lookup f = some .local
  fd : (f == ("__debug__" : Str)) = false
  fs : (("self" : Str) == f) = false
  k : (defScope st).kind = .function
  co : (defScope st).isCoroutine = false
  gen : (defScope st).isGenerator = false
  nocell : ∀ x ∈ (defScope st).names, x.2 ≠ .cell
  binds : ∀ (s : Shared) (x : Addr) (v : Value) (qual : Str) (doc pm : Value) (an : Option Addr) (cda cc : Addr) (ct : Value), BindsTo s (ksFn "__init__" qual (defArgs st) (defBody st) (defScope st) .none .none doc pm an (.ref cda) ct cc) ⟨[.ref x, v], []⟩ [("self", .ref x), (f, v)]
/-- what __init__ leaves of a fresh exception at x -/
structure IEnd (h h' : Heap) (x C dx t1 : Addr) (mA : Str → Option Value) : Prop where
  keep : ∀ b o, b ≠ x → h.get? b = some o → h'.get? b = some o
  obj : h'.get? x = some { cls := .ref C, dict := some dx, data := .fields #[.ref t1, .none, .none, .none, .bool false, .none] }
  dbig : h.objs.size ≤ dx
  dne : dx ≠ x
  ns : h'.Ns1 dx mA
section
variable {prog : Program} {w : World} {A : Around} {E : Value → Shared → Prop} {R : Result → Shared → Prop} {s : Shared} {K : Frag} {mg : Str → Option Value} {base : Heap}
theorem init1 {C fI cc cda x t0 : Addr} {st : Stmt} {f qual : Str} {oc doc pm ct : Value} {od an : Option Addr} {osl : Array (Option Value)} {v : Value} (S : Sh1 prog w st f) (T : Txt prog K mg C fI cc cda) (Mo : Mod K mg base) (kb : ∀ b o, base.get? b = some o → s.heap.get? b = some o)
    (hf : K.lookup fI = some ⟨oc, od, .func (ksFn "__init__" qual (defArgs st) (defBody st) (defScope st) .none .none doc pm an (.ref cda) ct cc), osl⟩) (hcd : codeIn K (.ref cda) qual = true) (noN : findIn K (.ref C) f = some none)
    (hx : s.heap.get? x = some (excO C t0)) (hnx : K.lookup x = none) (hroom : A.depth < recursionLimit) (ok : MsgV v)
    (hq : ∀ h' tk dx t1, IEnd s.heap h' x C dx t1 (fun y => if y = f then some v else none) → R (.ok (.ret .none)) { s with heap := h', toks := tk }) :
    codeAny (model prog w) A (.call (.ref fI) ⟨[.ref x, v], []⟩) R s := by
  obtain ⟨msg, p0, p1, p2, p3, p4, q1, q2, q3, q4, pl, hb, hmsg, hev⟩ := S.body
  obtain ⟨ar, har, hself⟩ := S.head
  obtain ⟨nm, q0, N, bs, bm, sn, sub, ab, col, dd, k0, k1, k2, k3, k5, hC, hbm⟩ := T.cls
  have hcl := clsIn_of hC
  have X : K.In s.heap := Mo.kin.keeps kb
  refine ks_codeAny_call_defAt (fd := ksFn "__init__" qual (defArgs st) (defBody st) (defScope st) .none .none doc pm an (.ref cda) ct cc) (body := defBody st) (binds := [("self", .ref x), (f, v)]) hroom (X _ _ hf) rfl (Mo.nolimit.keeps kb) (codeRec_of X hcd) rfl (S.binds s x v qual doc pm an cda cc ct) S.nocell (fun y hy => ?_) (fun h1 hns k1 => ?_) S.co S.gen S.k
  · rcases List.mem_cons.mp hy with rfl | hy
    · exact S.ka
    · rw [List.mem_singleton.mp hy]; exact S.kf
  · have hx1 := k1 _ _ hx
    have kb1 : ∀ b o, base.get? b = some o → h1.get? b = some o := fun b o e => k1 b o (kb b o e)
    obtain ⟨e0, e1, e2, e3, e4⟩ := hev qual s.heap.objs.size fI cda cc
    have hv1 : (fun y => List.lookup y [(("self" : Str), Value.ref x), (f, v)].reverse) "self" = some (.ref x) := by
      show List.lookup ("self" : Str) ([(f, v), (("self" : Str), Value.ref x)] : List (Str × Value)) = _
      simp [List.lookup, S.fs]
    have hv2 : (fun y => List.lookup y [(("self" : Str), Value.ref x), (f, v)].reverse) f = some v := by
      show List.lookup f ([(f, v), (("self" : Str), Value.ref x)] : List (Str × Value)) = _
      simp [List.lookup]
    show PySem.wpAt (model prog w) (A.deeper (ksEnv qual (defScope st) s.heap.objs.size fI (.ref cda) cc)) (.func (defBody st) (ksEnv qual (defScope st) s.heap.objs.size fI (.ref cda) cc)) (execs (defBody st) (ksEnv qual (defScope st) s.heap.objs.size fI (.ref cda) cc)) _ _ _
    generalize hbb : defBody st = bb at hb ⊢
    rw [hb]
    refine ks_wpAt_execs_cons (super_stmt (pl := pl) T Mo kb1 hf har hself S.ks S.kc S.ka S.k hns hv1 hx1 (fun s' Q' hn q => hmsg _ _ _ _ _ _ v _ _ _ _ hv2 ok hn q) (fun h2 tk2 t1 k2 hx2 => ?_) e0 e1 e2 e3)
    refine wpAt_of_wpAny ?_
    have hL : s.heap.objs.size ≠ x := Nat.ne_of_gt (Heap.lt_size hx)
    obtain ⟨oL, es, ep, hoL, hr⟩ := hns
    have hns2 : h2.Ns s.heap.objs.size (fun y => List.lookup y [(("self" : Str), Value.ref x), (f, v)].reverse) := ⟨oL, es, ep, k2 _ _ hL hoL, hr⟩
    have X2 : K.In h2 := fun b o e => k2 b o (fun z => by rw [z, hnx] at e; cases e) (k1 b o (X _ _ e))
    refine wpAny_execs_cons (plainObj_wpAny_Assign_Attribute ?_ e4)
    refine ld_name (v := v) hns2 hv2 S.k S.kf (ld_name (v := .ref x) hns2 hv1 S.k S.ka ?_) S.fd
    refine set_plain X2 (ox := excO C t1) (od := none) ⟨hx2, rfl, rfl, trivial⟩ T.sa ?_
    refine PySem.HandSPX.exc_osa X2 hx2 hcl (show refsVE (.ref C :: bm) = true from hbm) rfl noN (fun h3 tk3 dx k3 dn dne hx3 hn3 => ?_)
    have z : s.heap.objs.size ≤ h2.objs.size := Nat.le_of_lt (Heap.lt_size (k2 _ _ hL hoL))
    exact wpAny_execs_nil (hq h3 _ dx t1 ⟨fun b o hb e => k3 b o hb (k2 b o hb (k1 b o e)), hx3, Nat.le_trans z dn, dne, hn3⟩)
/-- a made error: its own dict d holds the field -/
structure Made (h h' : Heap) (e C d : Addr) (mA : Str → Option Value) : Prop where
  keep : ∀ b o, h.get? b = some o → h'.get? b = some o
  new : h.objs.size ≤ e
  obj : ∃ oe vs, h'.get? e = some oe ∧ oe.cls = .ref C ∧ oe.dict = some d ∧ oe.data = .fields vs ∧ vs[1]? = some .none
  dbig : h.objs.size ≤ d
  dne : d ≠ e
  ns : h'.Ns1 d mA
/-- all that is told of an own error class of one argument -/
structure Cls1 (prog : Program) (w : World) (K : Frag) (mg : Str → Option Value) (cn f : Str) (C : Addr) : Prop where
  ex : ∃ (fI cc cda : Addr) (st : Stmt) (qual : Str) (oc doc pm ct : Value) (od an : Option Addr) (osl : Array (Option Value)), Sh1 prog w st f ∧ Txt prog K mg C fI cc cda ∧
    K.lookup fI = some ⟨oc, od, .func (ksFn "__init__" qual (defArgs st) (defBody st) (defScope st) .none .none doc pm an (.ref cda) ct cc), osl⟩ ∧ codeIn K (.ref cda) qual = true
  gC : mg cn = some (.ref C)
  kC : keepIn K (.ref C) = true
  noN : findIn K (.ref C) f = some none
  exC : subIn K (.ref C) (.type "BaseException") = some true
  tyC : typeIn K (.ref C) = some (.type "type")
theorem one_size (v : Value) : [v].length ≤ sizeLine := by
  rw [sizeLine_eq]
  exact (by decide : 1 ≤ 16777216)
theorem made1 {cn f : Str} {C : Addr} {v : Value} (Z : Cls1 prog w K mg cn f C) (Mo : Mod K mg base) (kb : ∀ b o, base.get? b = some o → s.heap.get? b = some o) (hroom : A.depth + 1 < recursionLimit) (ok : MsgV v)
    (hq : ∀ h' tk e d, Made s.heap h' e C d (fun y => if y = f then some v else none) → R (.ok (.ret (.ref e))) { s with heap := h', toks := tk }) :
    codeAny (model prog w) A (.call (.ref C) ⟨[v], []⟩) R s := by
  obtain ⟨fI, cc, cda, st, qual, oc, doc, pm, ct, od, an, osl, S, T, hf, hcd⟩ := Z.ex
  obtain ⟨nm, q, N, bs, bm, sn, sub, ab, col, dd, k0, k1, k2, k3, k5, hC, hbm⟩ := T.cls
  have X : K.In s.heap := Mo.kin.keeps kb
  obtain ⟨hp, g, dr, tk, os⟩ := s
  have k : ∀ b o, hp.get? b = some o → ((hp.push (kdv_tup [v])).push (excO C hp.objs.size)).get? b = some o := fun b o e => Heap.get?_push_of_some _ (Heap.get?_push_of_some _ e)
  have hget : ((hp.push (kdv_tup [v])).push (excO C hp.objs.size)).get? (hp.objs.size + 1) = some (excO C hp.objs.size) := by heap_get
  have hnx : K.lookup (hp.objs.size + 1) = none := by
    cases e : K.lookup (hp.objs.size + 1) with
    | none => rfl
    | some o =>
      have z : hp.get? (hp.objs.size + 1) = some o := X _ _ e
      exact absurd (Nat.lt_of_succ_lt (Heap.lt_size z)) (Nat.lt_irrefl _)
  refine PySem.HandSPX.call_own F.excBase_ValueError (fun X => PySem.HandSPX.refsVE_contains X bm hbm) (X _ _ hC) (looks_findIn X T.iC) (fun self => bind_fn X self T.tI) (one_size v) ?_
  refine init1 (s := ⟨(hp.push (kdv_tup [v])).push (excO C hp.objs.size), g, dr, tk, os⟩) S T Mo (fun b o e => k b o (kb b o e)) hf hcd Z.noN hget hnx ?_ ok fun h' tk' dx t1 ⟨k', hx, dn, dne, hns⟩ => ?_
  · show A.depth + 1 < recursionLimit
    exact hroom
  · have old : ∀ b o, hp.get? b = some o → h'.get? b = some o := fun b o e => k' b o (Nat.ne_of_lt (Nat.lt_succ_of_lt (Heap.lt_size e))) (k b o e)
    have z : hp.objs.size + 1 + 1 ≤ dx := by
      first
        | (simpa only [Heap.size_push] using dn)
        | exact dn
        | (have q := dn; rw [Heap.size_push, Heap.size_push] at q; exact q)
    exact ⟨rfl, hq h' tk' (hp.objs.size + 1) dx ⟨old, Nat.le_succ _, ⟨_, _, hx, rfl, rfl, rfl, rfl⟩, Nat.le_trans (Nat.le_trans (Nat.le_succ _) (Nat.le_succ _)) z, dne, hns⟩⟩
end
theorem relO_one {f : Str} {v : V} {v' : Value} (r : RelV v v') (g : Str) : RelO (List.lookup g [(f, v)]) (if g = f then some v' else none) := by
  by_cases hw : g = f
  · subst hw
    rw [if_pos rfl]
    have q : List.lookup g [(g, v)] = some v := by simp [List.lookup]
    rw [q]
    exact r
  · rw [if_neg hw]
    have qw : (g == f) = false := by simpa using hw
    have q2 : List.lookup g [(f, v)] = none := by simp [List.lookup, qw]
    rw [q2]
    trivial
/-- what may be written in the message: ints below 2 ^ 1920, short texts -/
def MsgA (v : V) : Prop := (∃ i, v = .int i ∧ i.natAbs.log2 < 1920) ∨ ∃ y, v = .str y ∧ (reprText y).length ≤ 100000 ∧ y.length ≤ 100000
theorem MsgA.v {v : V} {u : Value} (h : MsgA v) (r : RelV v u) : MsgV u := by
  rcases h with ⟨i, rfl, h⟩ | ⟨y, rfl, h⟩
  · obtain ⟨t, rfl⟩ := r; exact .inl ⟨i, t, rfl, h⟩
  · obtain ⟨t, rfl⟩ := r; exact .inr ⟨y, t, rfl, h⟩
section
variable {X : Cx} {C : Addr}
/-- the error of one argument, made -/
def tMk1 (C : Addr) (f : Str) (ta : TA) : L2.St → Hp → XK → Prop := fun σ H Q => ta σ H fun vs H1 => ∃ v, vs = [v] ∧ MsgA v ∧ ∀ d, H1 d = none → Q (.ref C) (some d) (upd H1 d (.xd [(f, v)]))
theorem pmk1 {cn f : Str} {a : Expr} {ta : TA} {p pos : Pos} {k : Nat} (Z : Cls1 X.prog X.w X.K X.mg cn f C) (hr : Room k X.A) (ha : PA X [a] ta) (hg : Gl X cn := by rfl) (hdb : (cn == ("__debug__" : Str)) = false := by decide)
    (he : starEach (a :: []) X.env = (false, eval a X.env) :: starEach [] X.env := by rfl) (hpl : (backTo pos (starEach [] X.env)).any (·.1) = false := by rfl) :
    PMk X (.Call (.Name cn p) [a] [] pos) (tMk1 C f ta) := by
  intro pins s σ H Q I h
  refine wpAny_Call_Name_kw (ld_glob I hg Z.gC ?_ hdb)
  refine PySem.W.callWith_K (h₀ := X.base) I.ok.mod.kin Z.kC (thn (ha.run pos pins s σ H _ I h) fun us s1 hh => ?_) he hpl
  obtain ⟨vs, H1, I1, r1, v, ev, hok, q1⟩ := hh
  subst ev
  refine ⟨I1.kIn, ?_⟩
  cases r1 with
  | cons rv rn =>
    rename_i v' us'
    cases rn
    show wpAny _ _ (call (.ref C) [v']) _ _ _
    have hbk := I1.bk
    obtain ⟨hp, g, dr, tk, os⟩ := s1
    refine wpAny_call (made1 Z I1.mod hbk (by have := hr.dp; omega) (hok.v rv) fun h' tk' e d M => ?_)
    show MkP X pins σ Q (.ref e) ⟨h', g, dr, tk', os⟩
    obtain ⟨oe, fv, hoe, hc, hd, hdat, h1⟩ := M.obj
    have hns := M.ns
    obtain ⟨G', g1, g2⟩ := restrict h' fun b => decide (b ≠ e)
    have gk : ∀ b, b ≠ e → G'.get? b = h'.get? b := fun b hb => g1 b (decide_eq_true hb)
    have ge : G'.get? e = none := g2 e (by simp)
    have old : ∀ b o, hp.get? b = some o → G'.get? b = some o := fun b o q => (gk b (Nat.ne_of_lt (Nat.lt_of_lt_of_le (Heap.lt_size q) M.new))).trans (M.keep b o q)
    have ob : ObjOk X.prog X.w (upd H1 d (.xd [(f, v)])) G' d (.xd [(f, v)]) :=
      ⟨_, hns.at (fun o q => (gk d M.dne).trans q), fun g => relO_one rv g⟩
    have J : Inv X pins σ (upd H1 d (.xd [(f, v)])) ⟨G', g, dr, tk', os⟩ := I1.laid (t' := tk') old M.dbig ob
    refine ⟨e, oe, fv, ⟨G', g, dr, tk', os⟩, _, .ref C, some d, rfl, J, fun b o q => ?_, ge, hoe, ⟨hc, hd⟩, hdat, h1, ?_, rfl, I1.bare, raises_own Z.exC Z.tyC, q1 d (I1.hok.fresh M.dbig)⟩
    · by_cases hb : b = e
      · have q' : G'.get? b = some o := q
        rw [hb, ge] at q'; cases q'
      · exact (gk b hb).symm.trans q
    · rw [upd_ne (Ne.symm M.dne)]
      exact I1.hok.fresh M.new
/-- raise C(e) -/
def tRaise1 (C : Addr) (f : Str) (W : WX) (ta : TA) : TS := fun _ σ H => tMk1 C f ta σ H fun cls d H' => W cls d σ H'
theorem ps_raise1 {cn f : Str} {a : Expr} {ta : TA} {W : WX} {p pos pos2 : Pos} {k : Nat} (hc : X.calm = true) (Z : Cls1 X.prog X.w X.K X.mg cn f C) (hr : Room k X.A) (tk : Takes X W) (ha : PA X [a] ta) (hg : Gl X cn := by rfl) (hdb : (cn == ("__debug__" : Str)) = false := by decide)
    (he : starEach (a :: []) X.env = (false, eval a X.env) :: starEach [] X.env := by rfl) (hpl : (backTo pos (starEach [] X.env)).any (·.1) = false := by rfl) :
    PS X (.Raise (some (.Call (.Name cn p) [a] [] pos)) none pos2) (tRaise1 C f W ta) := ps_raise hc tk (pmk1 Z hr ha hg hdb he hpl)
end
theorem r_raise1 {C : Addr} {f : Str} {W : WX} {ta : TA} {D : Ends} {σ : L2.St} {H : Hp} (k : ta σ H fun vs H1 => ∃ v, vs = [v] ∧ MsgA v ∧ ∀ d, H1 d = none → W (.ref C) (some d) σ (upd H1 d (.xd [(f, v)]))) : tRaise1 C f W ta D σ H := k
theorem r_msgI {i : Int} {F : V → Prop} (h : i.natAbs < 2 ^ 1000) (k : F (.int i)) : ∃ v, [V.int i] = [v] ∧ MsgA v ∧ F v := ⟨_, rfl, .inl ⟨i, rfl, Nat.lt_trans (log2_of h (by decide)) (by decide)⟩, k⟩
theorem r_msgS {y : Str} {F : V → Prop} (h : (reprText y).length ≤ 100000) (h2 : y.length ≤ 100000) (k : F (.str y)) : ∃ v, [V.str y] = [v] ∧ MsgA v ∧ F v := ⟨_, rfl, .inr ⟨y, rfl, h, h2⟩, k⟩
theorem r_xf {a C : Addr} {cls : Value} {d : Option Addr} {f : Str} {te : TE} {σ : L2.St} {H : Hp} {Q : VK}
    (k : te σ H fun x H1 => x = .ref a ∧ cls = .ref C ∧ ∃ (dd : Addr) (fs : List (Str × V)) (v : V), d = some dd ∧ H1 dd = some (.xd fs) ∧ fs.lookup f = some v ∧ Q v H1) : tXf a cls d C f te σ H Q := k
theorem r_xfE {a C dd : Addr} {f : Str} {H : Hp} {fs : List (Str × V)} {v : V} {Q : V → Prop} (hd : H dd = some (.xd fs)) (hv : fs.lookup f = some v) (k : Q v) :
    V.ref a = .ref a ∧ Value.ref C = .ref C ∧ ∃ (dd' : Addr) (fs : List (Str × V)) (v : V), some dd = some dd' ∧ H dd' = some (.xd fs) ∧ fs.lookup f = some v ∧ Q v := ⟨rfl, rfl, dd, fs, v, rfl, hd, hv, k⟩
theorem kit_self {K : PySem.W.Frag} {C : Addr} : PySem.W.kitOne K (.ref C) (.ref C) = some true := by
  unfold PySem.W.kitOne
  rw [if_pos (beq_self_eq_true _)]
theorem kit_refs {K : PySem.W.Frag} {C D : Addr} {b : Bool} (hdct : PySem.W.hasDictIn K D = true) (ht : PySem.W.typeIn K (.ref D) = some (.type "type")) (h4 : PySem.W.subIn K (.ref C) (.ref D) = some b) (hq : (Value.ref C == Value.ref D) = false) : PySem.W.kitOne K (.ref C) (.ref D) = some b := by
  obtain ⟨cd, hc, _⟩ := PySem.W.any_some hdct
  have e2 : ((PySem.W.clsIn K D).isSome && PySem.W.typeIn K (.ref D) == some (.type "type")) = true := by rw [hc, ht] <;> rfl
  unfold PySem.W.kitOne
  rw [if_neg (by rw [hq]; decide)]
  show (if ((PySem.W.clsIn K D).isSome && PySem.W.typeIn K (.ref D) == some (.type "type")) = true then PySem.W.subIn K (.ref C) (.ref D) else none) = some b
  rw [if_pos e2]
  exact h4
theorem kit_typ {K : PySem.W.Frag} {C : Addr} {T : String} {b : Bool} (hm : PySem.W.kitMeta T = true) (h4 : PySem.W.subIn K (.ref C) (.type T) = some b) : PySem.W.kitOne K (.ref C) (.type T) = some b := by
  unfold PySem.W.kitOne
  rw [if_neg (by show ¬ (Value.ref C == Value.type T) = true; intro z; cases (beq_iff_eq.mp z))]
  show (if PySem.W.kitMeta T = true then PySem.W.subIn K (.ref C) (.type T) else none) = some b
  rw [if_pos hm]
  exact h4
/-- the comparison within an except suite -/
theorem op_eqDK {X : Cx} {K : PySem.W.Frag} (hK : X.K = K) (hu : X.A.units + 64 < cLine) : OpR X (compareOp .Eq) (rEqD K) := by subst hK; exact op_eqD hu
theorem op_neDK {X : Cx} {K : PySem.W.Frag} (hK : X.K = K) (hu : X.A.units + 64 < cLine) : OpR X (compareOp .NotEq) (rNeD K) := by subst hK; exact op_neD hu
/-! ### isinstance(e, c), e a caught error of an own class with its dict -/
def rIsD (K : PySem.W.Frag) (a : Addr) (cls : Value) (d : Option Addr) : List V → Hp → VK → Prop := fun xs H Q => ∃ (D dd : Addr) (fs : List (Str × V)) (c : V) (cv : Value) (b : Bool), cls = .ref D ∧ d = some dd ∧ ExcC K D ∧ xs = [.ref a, c] ∧ H dd = some (.xd fs) ∧ (∀ u, RelV c u → u = cv) ∧ PySem.W.kitOne K (.ref D) cv = some b ∧ Q (.bl b) H
theorem call_isD {X : Cx} {a : Addr} {cls : Value} {d : Option Addr} {oe : Obj} {pn : List (Addr × Obj)} (hz : Zc cls d oe) (hf : ∃ vs, oe.data = .fields vs) : CallR (X.suite a ((a, oe) :: pn)) (.builtin "isinstance") (rIsD X.K a cls d) := by
  intro pins s σ H xs us Q I r h
  obtain ⟨D, dd, fs, c, cv, b, rfl, rfl, C, rfl, hdd, hcv, e, q⟩ := h
  cases r with
  | cons rx rr =>
    cases rr with
    | cons rt rr =>
      cases rr
      cases rx
      have ec := hcv _ rt
      subst ec
      obtain ⟨hget, _⟩ := I.pin (a, oe) (List.mem_append.mpr (.inl List.mem_cons_self))
      obtain ⟨vs, hv⟩ := hf
      have hx : ObjOk X.prog X.w H s.heap dd (.xd fs) := I.hok dd _ hdd
      obtain ⟨mA, ⟨od, es, ep, ho, hr⟩, hl⟩ := hx
      have J : PySem.W.InstAt s.heap a oe D (some od) := by
        refine ⟨hget, hz.1, by unfold PySem.W.notCls; rw [hv] <;> rfl, ?_⟩
        rw [hz.2]; exact ho
      obtain ⟨cd, hcd, _⟩ := PySem.W.any_some C.hd
      exact PySem.W.kia_one (PySem.W.kitx_exc (by rw [hcd]; rfl) C.hg C.hk C.hs C.ha C.hn C.ht C.hm) I.kIn J e (fun z => nomatch z) fun tk => ⟨.bl b, H, I.kept (t' := tk) fun _ _ z => z, rfl, q⟩
theorem r_isD {K : PySem.W.Frag} {a D dd : Addr} {fs : List (Str × V)} {c : V} {cv : Value} {b : Bool} {H : Hp} {Q : VK} (C : ExcC K D) (hd : H dd = some (.xd fs)) (hc : ∀ u, RelV c u → u = cv) (hk : PySem.W.kitOne K (.ref D) cv = some b) (k : Q (.bl b) H) :
    rIsD K a (.ref D) (some dd) [.ref a, c] H Q := ⟨D, dd, fs, c, cv, b, rfl, rfl, C, rfl, hd, hc, hk, k⟩
end Er
/-! ### operators of own classes, over the layer -/
namespace Ow
open PySem.W PySem.Calls
theorem inst_of {X : Cx} {pins : List (Addr × Obj)} {σ : L2.St} {H : Hp} {s : Shared} {a C dx : Addr} {fs : List (Str × V)} (I : Inv X pins σ H s) (h : H a = some (.ins C dx fs)) : ∃ ox od, InstAt s.heap a ox C od ∧ ox.data = .plain := by
  obtain ⟨mA, O, _⟩ := ins_get I.hok h
  obtain ⟨od, J, _⟩ := O.look
  exact ⟨_, _, J, rfl⟩
theorem not_ni {v : V} {u : Value} (r : RelV v u) : u ≠ .notImplemented := by
  rintro rfl
  cases v <;> first | (cases r; done) | (obtain ⟨t, e⟩ := r; cases e)
theorem cmpBack {X : Cx} {pins : List (Addr × Obj)} {σ : L2.St} {Q : VK} {u : Value} {s : Shared} (h : EP X pins σ Q u s) : PySem.W.CmpBack (EP X pins σ Q) u s := by
  obtain ⟨v, H', I, r, q⟩ := id h
  have n := not_ni r
  cases u <;> first | exact h | exact absurd rfl n
section
variable {X : Cx} {CX : CXT} {k : Nat} {C f : Addr} {sp : Sp} {E : XK}
/-- the callee, with values -/
theorem run_own {pins : List (Addr × Obj)} {σ : L2.St} {H : Hp} {s : Shared} {Q : VK} {us : List Value} {vs : List V} (F : FnR X.prog X.w X.K X.mg X.base CX k f sp) (hr : Room k X.A) (hx : Passes CX X E) (I : Inv X pins σ H s) (r : Vals vs us) (h : sp vs H Q E) :
    wpAny (model X.prog X.w) X.A (call (.ref f) us) (EP X pins σ Q) X.xe s := wpAny_call (run_fnR F hr hx I r h)
/-- x op y, both of the class C -/
def rOwn2 (C : Addr) (sp : Sp) (E : XK) : R2 := fun x y H Q => ∃ a dx fs b dy gs, x = .ref a ∧ y = .ref b ∧ H a = some (.ins C dx fs) ∧ H b = some (.ins C dy gs) ∧ sp [x, y] H Q E
theorem op_own2 {op : Operator} {m : Str} (sf : selfFirst X.K C = true) (M : Meth X.K C m f) (F : FnR X.prog X.w X.K X.mg X.base CX k f sp) (hr : Room k X.A) (hx : Passes CX X E) (hm : PySem.dunder op.info.2 = m := by rfl) : OpR X (binaryOp op) (rOwn2 C sp E) := by
  intro pins s σ H x y v u Q I rx ry h
  obtain ⟨a, dx, fs, b, dy, gs, rfl, rfl, ha, hb, q⟩ := h
  obtain rfl : v = Value.ref a := rx
  obtain rfl : u = Value.ref b := ry
  obtain ⟨ox, od, J, _⟩ := inst_of I ha
  obtain ⟨oy, od', J', _⟩ := inst_of I hb
  obtain ⟨mm, Fm⟩ := I.fr
  refine binop_K Fm I.ok.mod.kin J J'.type sf (by rw [hm]; exact M.at_) M.fn ?_
  exact wpAny_mono (run_own (vs := [.ref a, .ref b]) F hr hx I (.cons rfl (.cons rfl .nil)) q) (fun _ _ z => cmpBack z) fun _ _ e => e
/-- x op n, x of the class C, n an int -/
def rOwnI (C : Addr) (sp : Sp) (E : XK) : R2 := fun x y H Q => ∃ a dx fs n, x = .ref a ∧ y = .int n ∧ H a = some (.ins C dx fs) ∧ sp [x, y] H Q E
theorem op_ownI {op : Operator} {m mr : Str} {fo ro rc : Option Value} (sf : selfFirst X.K C = true) (M : Meth X.K C m f) (F : FnR X.prog X.w X.K X.mg X.base CX k f sp) (hr : Room k X.A) (hx : Passes CX X E)
    (hrc : findIn X.K (.ref C) mr = some rc) (hp : rc = none ∨ ∃ g : Addr, rc = some (.ref g)) (h1 : findIn X.K (.type "int") m = some fo) (h2 : findIn X.K (.type "int") mr = some ro) (hs : subIn X.K (.type "int") (.ref C) = some false)
    (hm : PySem.dunder op.info.2 = m := by rfl) (hmr : dunderR op.info.2 = mr := by rfl) : OpR X (binaryOp op) (rOwnI C sp E) := by
  intro pins s σ H x y v u Q I rx ry h
  obtain ⟨a, dx, fs, n, rfl, rfl, ha, q⟩ := h
  obtain rfl : v = Value.ref a := rx
  obtain ⟨t, rfl⟩ := ry
  obtain ⟨ox, od, J, _⟩ := inst_of I ha
  obtain ⟨mm, Fm⟩ := I.fr
  subst hm hmr
  refine ksp_binT Fm I.ok.mod.kin J (T := "int") rfl sf M.at_ M.fn hrc hp h1 h2 hs ?_
  exact wpAny_mono (run_own (vs := [.ref a, .int n]) F hr hx I (.cons rfl (.cons ⟨t, rfl⟩ .nil)) q) (fun _ _ z => cmpBack z) fun _ _ e => e
/-- -x -/
def rOwn1 (C : Addr) (sp : Sp) (E : XK) : V → Hp → VK → Prop := fun x H Q => ∃ a dx fs, x = .ref a ∧ H a = some (.ins C dx fs) ∧ sp [x] H Q E
theorem un_ownNeg (M : Meth X.K C "__neg__" f) (F : FnR X.prog X.w X.K X.mg X.base CX k f sp) (hr : Room k X.A) (hx : Passes CX X E) : UnR X (unaryOp .USub) (rOwn1 C sp E) := by
  intro pins s σ H x v Q I rx h
  obtain ⟨a, dx, fs, rfl, ha, q⟩ := h
  obtain rfl : v = Value.ref a := rx
  obtain ⟨ox, od, J, _⟩ := inst_of I ha
  obtain ⟨mm, Fm⟩ := I.fr
  exact ksp_neg Fm I.ok.mod.kin J M.at_ M.fn (run_own (vs := [.ref a]) F hr hx I (.cons rfl .nil) q)
/-- x == y, both of the class C -/
theorem op_ownEq {op : CmpOp} {m : Str} (M : Meth X.K C m f) (F : FnR X.prog X.w X.K X.mg X.base CX k f sp) (hr : Room k X.A) (hx : Passes CX X E) (hu : X.A.units < cLine) (hm : (cmpInfo op).2.1 = m := by rfl)
    (ho : ∀ a b, compareOp op a b = richCompare op a b := by intro _ _; rfl) : OpR X (compareOp op) (rOwn2 C sp E) := by
  intro pins s σ H x y v u Q I rx ry h
  obtain ⟨a, dx, fs, b, dy, gs, rfl, rfl, ha, hb, q⟩ := h
  obtain rfl : v = Value.ref a := rx
  obtain rfl : u = Value.ref b := ry
  obtain ⟨ox, od, J, _⟩ := inst_of I ha
  obtain ⟨oy, od', J', _⟩ := inst_of I hb
  obtain ⟨mm, Fm⟩ := I.fr
  rw [ho]
  refine cmp_K hu Fm I.ok.mod.kin J J'.type (by unfold notFirst; rw [beq_self_eq_true]; rfl) (by rw [hm]; exact M.at_) M.fn ?_
  exact wpAny_mono (run_own (vs := [.ref a, .ref b]) F hr hx I (.cons rfl (.cons rfl .nil)) q) (fun _ _ z => cmpBack z) fun _ _ e => e
end
section
open PySem.Builtin
theorem int_mul_own (a : Int) (t : Tok) (x C dx : Addr) :
    Meets (Builtin.«int.__mul__» ⟨[.int a t, .ref x], []⟩) (fun _ R s => s.heap.get? x = some (PySem.W.instObj C dx) ∧ R (.ok (.ret Value.notImplemented)) s) :=
  .of_wp fun prog w A R s ⟨hl, h⟩ => by
    obtain ⟨hp, g, d, tk, os⟩ := s
    wp_walk
    exact ⟨_, rfl, h⟩
theorem decl_gen {prog : Program} {w : World} {A : Around} {E : Value → Shared → Prop} {s : Shared} {self other : Value} {T id : String} {name : Str} {B : Builtin} {Q : Option Value → Shared → Prop} (hT : s.TypeIs self T) (h : Slot T name id) (entry : entryFor table id = some B)
    (args : argsOk id ⟨[self, other], []⟩) (hm : wpAny (model prog w) A.in1 (B ⟨[self, other], []⟩) (GQ.FinOf prog w A (wants (fun v s' => v = Value.notImplemented ∧ Q none s') E)) (fun e s' => wants (fun v s' => v = Value.notImplemented ∧ Q none s') E (.error e) s') s) :
    wpAny (model prog w) A (tryMethod self name other) Q E s := by
  refine wpAny_tryMethod_declines hT h ?_
  exact GQ.call_here h hT entry args hm
theorem int_declines {prog : Program} {w : World} {A : Around} {E : Value → Shared → Prop} {s : Shared} {x C dx : Addr} {i : Int} {t : Tok} {Q : Option Value → Shared → Prop} (hx : s.heap.get? x = some (instObj C dx)) (q : Q none s) :
    wpAny (model prog w) A (tryMethod (.int i t) (PySem.dunder "mul") (.ref x)) Q E s := by
  have h1 := @decl_gen prog w A E s (.int i t) (.ref x) "int" "int.__mul__" (PySem.dunder "mul") Builtin.«int.__mul__» Q
  have h2 := h1 (typeIs_int _ _ _) 
  have h3 := h2 PySem.F.slot_int_mul
  have h4 := h3 PySem.F.entry_int_mul 
  have h5 := h4 (PySem.F.args_int_mul_2 _ _)
  refine h5 ?_
  exact (int_mul_own i t x C dx prog w A (wants (fun v s' => v = Value.notImplemented ∧ Q none s') E) s ⟨hx, rfl, q⟩)
section
variable {prog : Program} {w : World} {A : Around} {E : Value → Shared → Prop} {s : Shared} {K : Frag} {x C dx f : Addr} {od : Obj}
theorem int_own {i : Int} {t : Tok} {g : Addr} {Q : Value → Shared → Prop} (X : K.In s.heap) (I : InstAt s.heap x (instObj C dx) C (some od)) (hc : selfFirst K C = true) (hm : findIn K (.ref C) "__mul__" = some (some (.ref g)))
    (hs : findIn K (.ref C) "__rmul__" = some (some (.ref f))) (hf : isFn K (.ref f) = true) (hsub : subIn K (.ref C) (.type "int") = some false) (h : wpAny (model prog w) A (call (.ref f) [.ref x, .int i t]) (PySem.W.CmpBack Q) E s) :
    wpAny (model prog w) A (binaryOp .Mult (.int i t) (.ref x)) Q E s := by
  obtain ⟨cd, rest, hcd, hmro⟩ := ksp_first hc
  have one := ksp_try (name := "__rmul__") X I hs hf h
  have L1 : Looks (model prog w) s.heap (typeOf (.int i t)) (.type "int") := Looks.of_pure rfl
  have L2 : Looks (model prog w) s.heap (typeOf (.ref x)) (.ref C) := I.type
  obtain ⟨hh, g', d, tt, os⟩ := s
  have L3 : Looks (model prog w) hh (fillsNumberSlot (.type "int") "mul") true := Looks.of_pure PySem.F.fills_int_mul
  have L4 : Looks (model prog w) hh (fillsNumberSlot (.ref C) "mul") true := fills_K X hcd hmro hm
  have L5 : Looks (model prog w) hh (isSubtype (.ref C) (.type "int")) false := looks_subIn X hsub
  have L7 : Looks (model prog w) hh (numberSlotInPython (.type "int") "mul") false := Looks.of_pure rfl
  have hne : (Value.type "int" == Value.ref C) = false := Bool.eq_false_iff.mpr fun q => by cases beq_iff_eq.mp q
  unfold binaryOp binaryOp1
  refine wpAny_holding (wpAny_bind ?_)
  refine wpAny_bind (L1.at (wpAny_bind (L2.at (wpAny_bind (L3.at ?_)))))
  simp only [hne, Bool.false_eq_true, if_false]
  ksp_lk
  refine int_declines I.at_ ?_
  ksp_lk
  refine wpAny_mono one (fun r s' hr' => ?_) fun _ _ e => e
  obtain ⟨v, rfl, hq⟩ := hr'
  ksp_lk
  exact hq
end
end
section
variable {X : Cx} {CX : CXT} {k : Nat} {C f : Addr} {sp : Sp} {E : XK}
/-- n * x, n an int, x of the class C: the reflected method -/
def rIntOwn (C : Addr) (sp : Sp) (E : XK) : R2 := fun x y H Q => ∃ b dx fs n, x = .int n ∧ y = .ref b ∧ H b = some (.ins C dx fs) ∧ sp [y, x] H Q E
theorem op_intMul {g : Addr} (sf : selfFirst X.K C = true) (M0 : Meth X.K C "__mul__" g) (M : Meth X.K C "__rmul__" f) (hs : subIn X.K (.ref C) (.type "int") = some false) (F : FnR X.prog X.w X.K X.mg X.base CX k f sp) (hr : Room k X.A) (hx : Passes CX X E) : OpR X (binaryOp .Mult) (rIntOwn C sp E) := by
  intro pins s σ H x y v u Q I rx ry h
  obtain ⟨b, dx, fs, n, rfl, rfl, hb, q⟩ := h
  obtain ⟨t, rfl⟩ := rx
  obtain rfl : u = Value.ref b := ry
  obtain ⟨mA, O, _⟩ := ins_get I.hok hb
  obtain ⟨od, J, _⟩ := O.look
  exact int_own I.kIn J sf M0.at_ M.at_ M.fn hs (wpAny_mono (run_own (vs := [.ref b, .int n]) F hr hx I (.cons rfl (.cons ⟨t, rfl⟩ .nil)) q) (fun _ _ z => cmpBack z) fun _ _ e => e)
/-- str(x), x of the class C -/
def rStrOwn (C : Addr) (sp : Sp) (E : XK) : List V → Hp → VK → Prop := fun xs H Q => ∃ a dx fs, xs = [.ref a] ∧ H a = some (.ins C dx fs) ∧ sp [.ref a] H (fun v H' => ∃ z, v = .str z ∧ Q v H') E
theorem call_strOwn (M : Meth X.K C "__str__" f) (F : FnR X.prog X.w X.K X.mg X.base CX k f sp) (hr : Room (k + 2) X.A) (hx : Passes CX X E) : CallR X (.type "str") (rStrOwn C sp E) := by
  intro pins s σ H xs us Q I r h
  obtain ⟨a, dx, fs, rfl, ha, q⟩ := h
  obtain ⟨u, rfl, ru⟩ := r.one
  obtain rfl : u = Value.ref a := ru
  obtain ⟨ox, od, J, _⟩ := inst_of I ha
  have hr2 : Room k X.A.in1.in1 := (show Room (k + 1) X.A.in1 from Room.in1 hr).in1
  refine kso_call hr2.units0 I.kIn J M.at_ M.fn (wpAny_mono (wpAny_call (SlX.run_at (us := [.ref a]) (ws := [.ref a]) F hr2 I.env0.in1.in1 hx I (.cons rfl .nil) q)) (fun u' s' z => ?_) fun _ _ x => x)
  obtain ⟨z', H', I', rz, y, ey, qz⟩ := z
  subst ey
  obtain ⟨t, e⟩ := (show ∃ t, u' = Value.str y t from rz)
  subst e
  exact ⟨.str y, H', I', ⟨t, rfl⟩, qz⟩
/-- x.f, read -/
def rFld (K : Frag) (f : Str) : V → Hp → VK → Prop := fun x H Q => ∃ a C dx fs v, x = .ref a ∧ H a = some (.ins C dx fs) ∧ Cls K C ∧ NoAttr K C f ∧ fs.lookup f = some v ∧ Q v H
theorem r_fld {K : Frag} {ta : TE} {f : Str} {σ : L2.St} {H : Hp} {Q : VK} (k : ta σ H fun x H1 => rFld K f x H1 Q) : tFld K ta f σ H Q := k
theorem r_fldAt {K : Frag} {f : Str} {H : Hp} {Q : VK} {a C dx : Addr} {fs : List (Str × V)} {v : V} (h : H a = some (.ins C dx fs)) (c : Cls K C) (n : NoAttr K C f) (l : fs.lookup f = some v) (k : Q v H) : rFld K f (.ref a) H Q := ⟨a, C, dx, fs, v, rfl, h, c, n, l, k⟩
/-- x.f = v -/
def rSFld (K : Frag) (f : Str) : V → V → Hp → (Hp → Prop) → Prop := fun x y H Q => ∃ a C dx fs, x = .ref a ∧ H a = some (.ins C dx fs) ∧ Cls K C ∧ NoAttr K C f ∧ fs.length < 1000 ∧ Q (upd H a (.ins C dx (putF f y fs)))
theorem r_sfld {K : Frag} {ta tv : TE} {f : Str} {D : Ends} {σ : L2.St} {H : Hp} (k : tv σ H fun y H1 => ta σ H1 fun x H2 => rSFld K f x y H2 fun H3 => D.nx σ H3) : sFld K ta tv f D σ H := k
theorem r_sfldAt {K : Frag} {f : Str} {H : Hp} {y : V} {Q : Hp → Prop} {a C dx : Addr} {fs : List (Str × V)} (h : H a = some (.ins C dx fs)) (c : Cls K C) (n : NoAttr K C f) (l : fs.length < 1000) (k : Q (upd H a (.ins C dx (putF f y fs)))) : rSFld K f (.ref a) y H Q := ⟨a, C, dx, fs, rfl, h, c, n, l, k⟩
/-- C(..) -/
theorem r_make {C : Addr} {sp : Sp} {dvs : List V} {E : XK} {t : TA} {σ : L2.St} {H : Hp} {Q : VK} (k : t σ H fun vs H1 => ∀ x dx, H1 x = none → H1 dx = none → dx ≠ x → sp (.ref x :: (vs ++ dvs)) (upd (upd H1 dx (.own x)) x (.ins C dx [])) (fun v H2 => v = .non ∧ Q (.ref x) H2) E) : tMake C sp dvs E t σ H Q := k
/-- x.m(..) -/
def rMeth (C : Addr) (m : Str) (R : V → Hp → Prop) : V → Hp → Prop := fun x H => ∃ a dx fs, x = .ref a ∧ H a = some (.ins C dx fs) ∧ fs.lookup m = none ∧ R x H
theorem r_meth {C : Addr} {m : Str} {sp : Sp} {dvs : List V} {E : XK} {ta : TE} {t : TA} {σ : L2.St} {H : Hp} {Q : VK} (k : ta σ H fun x H1 => rMeth C m (fun x H1 => t σ H1 fun vs H2 => sp (x :: (vs ++ dvs)) H2 Q E) x H1) : tMeth C m sp dvs E ta t σ H Q := k
theorem r_methAt {C a dx : Addr} {m : Str} {fs : List (Str × V)} {R : V → Hp → Prop} {H : Hp} (h : H a = some (.ins C dx fs)) (l : fs.lookup m = none) (k : R (.ref a) H) : rMeth C m R (.ref a) H := ⟨a, dx, fs, rfl, h, l, k⟩
/-- the operators -/
theorem r_own2 {C a b dx dy : Addr} {fs gs : List (Str × V)} {sp : Sp} {E : XK} {H : Hp} {Q : VK} (ha : H a = some (.ins C dx fs)) (hb : H b = some (.ins C dy gs)) (k : sp [.ref a, .ref b] H Q E) : rOwn2 C sp E (.ref a) (.ref b) H Q := ⟨a, dx, fs, b, dy, gs, rfl, rfl, ha, hb, k⟩
theorem r_ownI {C a dx : Addr} {n : Int} {fs : List (Str × V)} {sp : Sp} {E : XK} {H : Hp} {Q : VK} (ha : H a = some (.ins C dx fs)) (k : sp [.ref a, .int n] H Q E) : rOwnI C sp E (.ref a) (.int n) H Q := ⟨a, dx, fs, n, rfl, rfl, ha, k⟩
theorem r_own1 {C a dx : Addr} {fs : List (Str × V)} {sp : Sp} {E : XK} {H : Hp} {Q : VK} (ha : H a = some (.ins C dx fs)) (k : sp [.ref a] H Q E) : rOwn1 C sp E (.ref a) H Q := ⟨a, dx, fs, rfl, ha, k⟩
theorem r_len_str {x : Str} {F : Str → Prop} (k : x.length ≤ sizeLine ∧ F x) : ∃ y, [V.str x] = [.str y] ∧ y.length ≤ sizeLine ∧ F y := ⟨x, rfl, k.1, k.2⟩
/-- what is told of an own class -/
structure OC (K : Frag) (C : Addr) : Prop where
  cl : Cls K C
  sf : selfFirst K C = true
  ca : findIn K (.ref C) "__class__" = some (some (.builtin "object.__class__"))
  cn : specialIn K (.builtin "object.__class__") "__get__" = some (some (.builtin "getset_descriptor.__get__"))
  ct : takesIn K (.builtin "object.__class__") = some true
  cm : mroIn K C (.type "object") = some true
theorem OC.ty {K : Frag} {C a dx : Addr} {H : Hp} {fs : List (Str × V)} (o : OC K C) (h : H a = some (.ins C dx fs)) : TyX K H (.ref a) (.ref C) := .base (.ins h o.cl o.ca o.cn o.ct o.cm)
theorem r_isiOwn {K : Frag} {C a dx : Addr} {H : Hp} {fs : List (Str × V)} {Q : VK} (o : OC K C) (h : H a = some (.ins C dx fs)) (k : Q (.bl true) H) : rIsi K [.ref a, .ref C] H Q := ⟨_, _, _, _, true, rfl, .own C, o.ty h, Er.kit_self, k⟩
theorem r_isiNot {K : Frag} {C a dx : Addr} {T : String} {H : Hp} {fs : List (Str × V)} {Q : VK} (o : OC K C) (h : H a = some (.ins C dx fs)) (hm : kitMeta T = true) (hs : subIn K (.ref C) (.type T) = some false) (k : Q (.bl false) H) : rIsi K [.ref a, .ty T] H Q :=
  ⟨_, _, _, _, false, rfl, .ty T, o.ty h, Er.kit_typ hm hs, k⟩
end
theorem r_intOwn {C b dx : Addr} {n : Int} {fs : List (Str × V)} {sp : Sp} {E : XK} {H : Hp} {Q : VK} (hb : H b = some (.ins C dx fs)) (k : sp [.ref b, .int n] H Q E) : rIntOwn C sp E (.int n) (.ref b) H Q := ⟨b, dx, fs, n, rfl, rfl, hb, k⟩
theorem r_strOwn {C a dx : Addr} {fs : List (Str × V)} {sp : Sp} {E : XK} {H : Hp} {Q : VK} (ha : H a = some (.ins C dx fs)) (k : sp [.ref a] H (fun v H' => ∃ z, v = .str z ∧ Q v H') E) : rStrOwn C sp E [.ref a] H Q := ⟨a, dx, fs, rfl, ha, k⟩
end Ow
namespace Fm
open PySem PySem.Spec PyProof.Rows L2
/-! ### the order of texts -/
theorem lt_irr : ∀ a : List Nat, ltCps a a = false
  | [] => rfl
  | a :: r => by simp [ltCps, lt_irr r]
theorem lt_tr : ∀ {a b c : List Nat}, ltCps a b = true → ltCps b c = true → ltCps a c = true
  | [], [], _, h, _ => by simp [ltCps] at h
  | [], _ :: _, [], _, h => by simp [ltCps] at h
  | [], _ :: _, _ :: _, _, _ => by simp [ltCps]
  | _ :: _, [], _, h, _ => by simp [ltCps] at h
  | _ :: _, _ :: _, [], _, h => by simp [ltCps] at h
  | x :: a, y :: b, z :: c, h, k => by
    simp only [ltCps, Bool.or_eq_true, decide_eq_true_eq, Bool.and_eq_true, beq_iff_eq] at h k ⊢
    rcases h with h | ⟨rfl, h⟩ <;> rcases k with k | ⟨rfl, k⟩
    · exact .inl (Nat.lt_trans h k)
    · exact .inl h
    · exact .inl k
    · exact .inr ⟨rfl, lt_tr h k⟩
theorem lt_tri : ∀ a b : List Nat, a = b ∨ ltCps a b = true ∨ ltCps b a = true
  | [], [] => .inl rfl
  | [], _ :: _ => .inr (.inl rfl)
  | _ :: _, [] => .inr (.inr rfl)
  | x :: a, y :: b => by
    simp only [ltCps, Bool.or_eq_true, decide_eq_true_eq, Bool.and_eq_true, beq_iff_eq]
    rcases Nat.lt_trichotomy x y with h | rfl | h
    · exact .inr (.inl (.inl h))
    · rcases lt_tri a b with rfl | h | h
      · exact .inl rfl
      · exact .inr (.inl (.inr ⟨rfl, h⟩))
      · exact .inr (.inr (.inr ⟨rfl, h⟩))
    · exact .inr (.inr (.inl h))
def Lt (x y : Str) : Prop := ltCps x.cps.toList y.cps.toList = true
theorem Lt.irr {x : Str} (h : Lt x x) : False := by unfold Lt at h; rw [lt_irr] at h; cases h
theorem Lt.tr {x y z : Str} (h : Lt x y) (k : Lt y z) : Lt x z := lt_tr h k
theorem str_ext {x y : Str} (h : x.cps.toList = y.cps.toList) : x = y := by
  cases x; cases y; simp only [Str.mk.injEq]; exact Array.ext' h
theorem Lt.tri (x y : Str) : x = y ∨ Lt x y ∨ Lt y x := (lt_tri x.cps.toList y.cps.toList).imp str_ext id
/-- a sorted row without repetition ascends -/
theorem asc_of_rising : ∀ {l : List Str} {p : Str}, risingS p l = true → (p :: l).Nodup → (p :: l).Pairwise Lt
  | [], _, _, _ => by simp
  | x :: r, p, h, n => by
    have h' : ltCps x.cps.toList p.cps.toList = false ∧ risingS x r = true := by simpa [risingS] using h
    have n' : p ≠ x ∧ (x :: r).Nodup := ⟨fun e => by rw [e] at n; simp at n, (List.nodup_cons.mp n).2⟩
    have ih := asc_of_rising h'.2 n'.2
    have hp : Lt p x := by
      rcases Lt.tri p x with e | e | e
      · exact absurd e n'.1
      · exact e
      · unfold Lt at e; rw [h'.1] at e; cases e
    refine List.pairwise_cons.mpr ⟨fun y hy => ?_, ih⟩
    rcases List.mem_cons.mp hy with rfl | hy
    · exact hp
    · exact hp.tr (List.rel_of_pairwise_cons ih hy)
theorem asc_of_sorted : ∀ {l : List Str}, sortedS l = true → l.Nodup → l.Pairwise Lt
  | [], _, _ => .nil
  | _ :: _, h, n => asc_of_rising h n
/-! ### weights of names -/
abbrev Tm := Str × Int
/-- the weight of a name -/
def wt (ts : List Tm) (x : Str) : Int := ((ts.filter fun p => decide (p.1 = x)).map (·.2)).sum
theorem wt_nil {x : Str} : wt [] x = 0 := rfl
theorem wt_cons {p : Tm} {ts : List Tm} {x : Str} : wt (p :: ts) x = (if p.1 = x then p.2 else 0) + wt ts x := by
  unfold wt
  by_cases h : p.1 = x
  · rw [List.filter_cons_of_pos (by simpa using h), if_pos h]; simp
  · rw [List.filter_cons_of_neg (by simpa using h), if_neg h]; simp
theorem wt_append {x : Str} : ∀ {ts us : List Tm}, wt (ts ++ us) x = wt ts x + wt us x
  | [], us => by rw [List.nil_append, wt_nil, Int.zero_add]
  | p :: ts, us => by rw [List.cons_append, wt_cons, wt_cons, wt_append, Int.add_assoc]
theorem wt_none {x : Str} : ∀ {ts : List Tm}, (∀ p ∈ ts, p.1 ≠ x) → wt ts x = 0
  | [], _ => rfl
  | p :: ts, h => by rw [wt_cons, if_neg (h p (by simp)), wt_none fun q hq => h q (by simp [hq])]; rfl
/-- all weights times k -/
def scl (k : Int) (ts : List Tm) : List Tm := ts.map fun p => (p.1, k * p.2)
theorem wt_scl {k : Int} {x : Str} : ∀ {ts : List Tm}, wt (scl k ts) x = k * wt ts x
  | [] => by simp [scl, wt]
  | p :: ts => by
    show wt ((p.1, k * p.2) :: scl k ts) x = _
    rw [wt_cons, wt_cons, wt_scl, Int.mul_add]
    by_cases h : p.1 = x
    · rw [if_pos h, if_pos h]
    · rw [if_neg h, if_neg h, Int.mul_zero]
def dropN (x : Str) (ts : List Tm) : List Tm := ts.filter fun p => decide (p.1 ≠ x)
theorem wt_drop {x z : Str} : ∀ {ts : List Tm}, wt (dropN x ts) z = if z = x then 0 else wt ts z
  | [] => by simp [dropN, wt]
  | p :: ts => by
    unfold dropN
    by_cases h : p.1 = x
    · rw [List.filter_cons_of_neg (by simpa using h)]
      show wt (dropN x ts) z = _
      rw [wt_drop, wt_cons]
      by_cases hz : z = x
      · rw [if_pos hz, if_pos hz]
      · rw [if_neg hz, if_neg hz, if_neg (fun e => hz (e.symm.trans h)), Int.zero_add]
    · rw [List.filter_cons_of_pos (by simpa using h), wt_cons]
      show _ + wt (dropN x ts) z = _
      rw [wt_drop, wt_cons]
      by_cases hz : z = x
      · rw [if_pos hz, if_pos hz, if_neg (fun e => h (e.trans hz))]; rfl
      · rw [if_neg hz, if_neg hz]
/-- terms as a form has them -/
structure Canon (ts : List Tm) : Prop where
  asc : (ts.map (·.1)).Pairwise Lt
  nz : ∀ p ∈ ts, p.2 ≠ 0
theorem Canon.nil : Canon [] := ⟨by simp, by simp⟩
theorem Canon.tail {p : Tm} {ts : List Tm} (c : Canon (p :: ts)) : Canon ts := ⟨(List.pairwise_cons.mp c.asc).2, fun q hq => c.nz q (by simp [hq])⟩
theorem Canon.lt {p : Tm} {ts : List Tm} (c : Canon (p :: ts)) {q : Tm} (h : q ∈ ts) : Lt p.1 q.1 := (List.pairwise_cons.mp c.asc).1 q.1 (List.mem_map_of_mem h)
theorem Canon.head {p : Tm} {ts : List Tm} (c : Canon (p :: ts)) : wt (p :: ts) p.1 = p.2 := by
  rw [wt_cons, if_pos rfl, wt_none fun q hq e => ?_, Int.add_zero]
  exact (e ▸ c.lt hq).irr
theorem canon_eq : ∀ {ts us : List Tm}, Canon ts → Canon us → (∀ x, wt ts x = wt us x) → ts = us
  | [], [], _, _, _ => rfl
  | [], q :: us, _, d, h => by
    have := h q.1; rw [d.head, wt_nil] at this
    exact absurd this.symm (d.nz q (by simp))
  | p :: ts, [], c, _, h => by
    have := h p.1; rw [c.head, wt_nil] at this
    exact absurd this (c.nz p (by simp))
  | p :: ts, q :: us, c, d, h => by
    have e : p.1 = q.1 := by
      rcases Lt.tri p.1 q.1 with e | e | e
      · exact e
      · have := h p.1
        rw [c.head, wt_none (ts := q :: us) fun r hr z => ?_] at this
        · exact absurd this (c.nz p (by simp))
        · rcases List.mem_cons.mp hr with rfl | hr
          · exact (z ▸ e).irr
          · exact (z ▸ e.tr (d.lt hr)).irr
      · have := h q.1
        rw [d.head, wt_none (ts := p :: ts) fun r hr z => ?_] at this
        · exact absurd this.symm (d.nz q (by simp))
        · rcases List.mem_cons.mp hr with rfl | hr
          · exact (z ▸ e).irr
          · exact (z ▸ e.tr (c.lt hr)).irr
    have e2 : p.2 = q.2 := by rw [← c.head, ← d.head, h, e]
    have ep : p = q := Prod.ext e e2
    subst ep
    rw [canon_eq c.tail d.tail fun x => ?_]
    have := h x
    rw [wt_cons, wt_cons] at this
    omega
/-! ### what is linear in the weights -/
def lin (ts : List Tm) (L : Str → Int) : Int := (ts.map fun p => p.2 * L p.1).sum
theorem lin_nil {L : Str → Int} : lin [] L = 0 := rfl
theorem lin_cons {p : Tm} {ts : List Tm} {L : Str → Int} : lin (p :: ts) L = p.2 * L p.1 + lin ts L := by simp [lin]
theorem lin_append {L : Str → Int} : ∀ {ts us : List Tm}, lin (ts ++ us) L = lin ts L + lin us L
  | [], us => by simp [lin]
  | p :: ts, us => by rw [List.cons_append, lin_cons, lin_cons, lin_append, Int.add_assoc]
theorem lin_scl {k : Int} {L : Str → Int} : ∀ {ts : List Tm}, lin (scl k ts) L = k * lin ts L
  | [] => by simp [scl, lin]
  | p :: ts => by
    show lin ((p.1, k * p.2) :: scl k ts) L = _
    rw [lin_cons, lin_cons, lin_scl, Int.mul_add, Int.mul_assoc]
theorem lin_drop {x : Str} {L : Str → Int} : ∀ {ts : List Tm}, lin ts L = wt ts x * L x + lin (dropN x ts) L
  | [] => by simp [dropN, lin, wt]
  | p :: ts => by
    unfold dropN
    rw [lin_cons, wt_cons, lin_drop (x := x) (ts := ts)]
    by_cases h : p.1 = x
    · rw [List.filter_cons_of_neg (by simpa using h), if_pos h, Int.add_mul, h, Int.add_assoc]; rfl
    · rw [List.filter_cons_of_pos (by simpa using h), if_neg h, lin_cons, Int.zero_add]
      show _ = _ + (_ + lin (dropN x ts) L)
      omega
theorem lin_zero {L : Str → Int} : ∀ (n : Nat) {ts : List Tm}, ts.length ≤ n → (∀ x, wt ts x = 0) → lin ts L = 0
  | _, [], _, _ => rfl
  | 0, _ :: _, h, _ => by simp at h
  | n + 1, p :: ts, h, hz => by
    have l : (dropN p.1 (p :: ts)).length ≤ n := by
      unfold dropN
      rw [List.filter_cons_of_neg (by simp)]
      have := List.length_filter_le (fun q : Tm => decide (q.1 ≠ p.1)) ts
      simp at h; omega
    rw [lin_drop (x := p.1), hz, Int.zero_mul, Int.zero_add]
    refine lin_zero n l fun x => ?_
    rw [wt_drop, hz]; split <;> rfl
theorem lin_of_wt {ts us : List Tm} {L : Str → Int} (h : ∀ x, wt ts x = wt us x) : lin ts L = lin us L := by
  have := lin_zero (L := L) _ (ts := ts ++ scl (-1) us) (Nat.le_refl _) fun x => by rw [wt_append, wt_scl, h]; omega
  rw [lin_append, lin_scl] at this
  omega
/-! ### values in a world: a top and a bottom -/
abbrev Wd := Str → Int × Int
def accV (W : Wd) : List Tm → Int × Int → Int × Int
  | [], s => s
  | p :: ts, s => accV W ts (s.1 * (W p.1).2 + p.2 * (W p.1).1 * s.2, s.2 * (W p.1).2)
theorem acc_lin {W : Wd} {L : Str → Int} {M : Int} : ∀ {ts : List Tm} {s : Int × Int} {S : Int}, (∀ p ∈ ts, (W p.1).1 * M = L p.1 * (W p.1).2) → s.1 * M = s.2 * S → (accV W ts s).1 * M = (accV W ts s).2 * (S + lin ts L)
  | [], s, S, _, h => by rw [lin_nil, Int.add_zero]; exact h
  | p :: ts, s, S, hL, h => by
    have := acc_lin (ts := ts) (s := (s.1 * (W p.1).2 + p.2 * (W p.1).1 * s.2, s.2 * (W p.1).2)) (S := S + p.2 * L p.1) (fun q hq => hL q (by simp [hq])) (by
      have e := hL p (by simp)
      show (s.1 * (W p.1).2 + p.2 * (W p.1).1 * s.2) * M = s.2 * (W p.1).2 * (S + p.2 * L p.1)
      have e1 : s.1 * (W p.1).2 * M = s.2 * (W p.1).2 * S := by
        rw [Int.mul_right_comm, h, Int.mul_right_comm]
      have e2 : p.2 * (W p.1).1 * s.2 * M = s.2 * (W p.1).2 * (p.2 * L p.1) := by
        calc p.2 * (W p.1).1 * s.2 * M = p.2 * s.2 * ((W p.1).1 * M) := by ac_rfl
          _ = p.2 * s.2 * (L p.1 * (W p.1).2) := by rw [e]
          _ = s.2 * (W p.1).2 * (p.2 * L p.1) := by ac_rfl
      rw [Int.add_mul, Int.mul_add, e1, e2])
    rw [lin_cons, ← Int.add_assoc]
    exact this
theorem acc_pos {W : Wd} : ∀ {ts : List Tm} {s : Int × Int}, (∀ p ∈ ts, 0 < (W p.1).2) → 0 < s.2 → 0 < (accV W ts s).2
  | [], _, _, h => h
  | p :: ts, s, hw, h => acc_pos (s := (s.1 * (W p.1).2 + p.2 * (W p.1).1 * s.2, s.2 * (W p.1).2)) (fun q hq => hw q (by simp [hq])) (Int.mul_pos h (hw p (by simp)))
/-- a common bottom -/
theorem common (W : Wd) : ∀ xs : List Str, (∀ x ∈ xs, 0 < (W x).2) → ∃ (M : Int) (L : Str → Int), 0 < M ∧ ∀ x ∈ xs, (W x).1 * M = L x * (W x).2
  | [], _ => ⟨1, fun _ => 0, by decide, by simp⟩
  | x :: xs, h => by
    obtain ⟨M, L, hM, hL⟩ := common W xs fun y hy => h y (by simp [hy])
    refine ⟨M * (W x).2, fun y => if y = x then (W x).1 * M else L y * (W x).2, Int.mul_pos hM (h x (by simp)), fun y hy => ?_⟩
    by_cases e : y = x
    · subst e; simp only [if_true]; ac_rfl
    · have hy' : y ∈ xs := (List.mem_cons.mp hy).resolve_left e
      simp only [if_neg e]
      rw [← Int.mul_assoc, hL y hy']; ac_rfl
/-- the world in which x has another level -/
def moved (W : Wd) (x : Str) (v : Int × Int) : Wd := fun y => if y = x then v else W y
/-- a form put in the place of a quantity has the value that the form has where the quantity has its value -/
theorem put_value {W : Wd} {x : Str} {ts gs us : List Tm} {c cg : Int} {v : Int × Int}
    (hts : ∀ p ∈ ts, p.1 ≠ x → 0 < (W p.1).2) (hgs : ∀ p ∈ gs, 0 < (W p.1).2) (hus : ∀ p ∈ us, 0 < (W p.1).2)
    (hw : ∀ y, wt us y = wt (dropN x ts ++ scl (wt ts x) gs) y) (hv : v.1 * (accV W gs (cg, 1)).2 = (accV W gs (cg, 1)).1 * v.2) (hv0 : 0 < v.2) :
    (accV W us (c + wt ts x * cg, 1)).1 * (accV (moved W x v) ts (c, 1)).2 = (accV (moved W x v) ts (c, 1)).1 * (accV W us (c + wt ts x * cg, 1)).2 := by
  obtain ⟨M, L, hM, hL⟩ := common W ((ts.filter fun p => decide (p.1 ≠ x)).map (·.1) ++ gs.map (·.1) ++ us.map (·.1)) (by
    intro y hy
    simp only [List.mem_append, List.mem_map, List.mem_filter, decide_eq_true_eq] at hy
    rcases hy with (⟨p, ⟨h1, h2⟩, rfl⟩ | ⟨p, h1, rfl⟩) | ⟨p, h1, rfl⟩
    · exact hts p h1 h2
    · exact hgs p h1
    · exact hus p h1)
  have hLg : ∀ p ∈ gs, (W p.1).1 * M = L p.1 * (W p.1).2 := fun p hp => hL _ (by simp only [List.mem_append]; exact .inl (.inr (List.mem_map_of_mem hp)))
  have hLu : ∀ p ∈ us, (W p.1).1 * M = L p.1 * (W p.1).2 := fun p hp => hL _ (by simp only [List.mem_append]; exact .inr (List.mem_map_of_mem hp))
  have hg := acc_lin (s := (cg, 1)) (S := cg * M) hLg (by simp)
  have hu := acc_lin (s := (c + wt ts x * cg, 1)) (S := (c + wt ts x * cg) * M) hLu (by simp)
  have hgp := acc_pos (s := (cg, 1)) hgs Int.one_pos
  have hup := acc_pos (s := (c + wt ts x * cg, 1)) hus Int.one_pos
  -- the value of g over M
  have hvM : v.1 * M = v.2 * (cg * M + lin gs L) := by
    have e : v.1 * M * (accV W gs (cg, 1)).2 = v.2 * (cg * M + lin gs L) * (accV W gs (cg, 1)).2 := by
      rw [Int.mul_right_comm, hv, Int.mul_right_comm, hg]; ac_rfl
    exact Int.eq_of_mul_eq_mul_right (by omega) e
  -- the moved world over M * v.2
  have hm := acc_lin (W := moved W x v) (L := fun y => if y = x then v.1 * M else L y * v.2) (M := M * v.2) (ts := ts) (s := (c, 1)) (S := c * (M * v.2)) (by
    intro p hp
    unfold moved
    by_cases e : p.1 = x
    · simp only [if_pos e]; ac_rfl
    · simp only [if_neg e]
      have := hL p.1 (by simp only [List.mem_append]; exact .inl (.inl (List.mem_map_of_mem (List.mem_filter.mpr ⟨hp, by simpa using e⟩))))
      rw [← Int.mul_assoc, this]; ac_rfl) (by simp)
  have hmp : 0 < (accV (moved W x v) ts (c, 1)).2 := acc_pos (fun p hp => by
    unfold moved
    by_cases e : p.1 = x
    · rw [if_pos e]; exact hv0
    · rw [if_neg e]; exact hts p hp e) Int.one_pos
  have key : c * (M * v.2) + lin ts (fun y => if y = x then v.1 * M else L y * v.2) = v.2 * ((c + wt ts x * cg) * M + lin us L) := by
    rw [lin_drop (x := x), lin_of_wt hw, lin_append, lin_scl]
    have e1 : lin (dropN x ts) (fun y => if y = x then v.1 * M else L y * v.2) = v.2 * lin (dropN x ts) L := by
      have : ∀ l : List Tm, (∀ p ∈ l, p.1 ≠ x) → lin l (fun y => if y = x then v.1 * M else L y * v.2) = v.2 * lin l L := by
        intro l
        induction l with
        | nil => intro _; simp [lin]
        | cons p l ih =>
          intro h
          rw [lin_cons, lin_cons, ih fun q hq => h q (by simp [hq])]
          simp only [if_neg (h p (by simp))]
          rw [Int.mul_add]
          congr 1
          ac_rfl
      exact this _ fun p hp => by simpa [dropN] using (List.mem_filter.mp hp).2
    rw [e1]
    simp only [if_true]
    rw [hvM]
    simp only [Int.mul_add, Int.add_mul]
    have a1 : c * (M * v.2) = v.2 * (c * M) := by ac_rfl
    have a2 : wt ts x * (v.2 * (cg * M)) = v.2 * (wt ts x * cg * M) := by ac_rfl
    have a3 : wt ts x * (v.2 * lin gs L) = v.2 * (wt ts x * lin gs L) := by ac_rfl
    omega
  rw [key] at hm
  generalize accV W us (c + wt ts x * cg, 1) = U at *
  generalize accV (moved W x v) ts (c, 1) = T at *
  generalize (c + wt ts x * cg) * M + lin us L = S at *
  have : U.1 * T.2 * (M * v.2) = T.1 * U.2 * (M * v.2) := by
    calc U.1 * T.2 * (M * v.2) = (U.1 * M) * (T.2 * v.2) := by ac_rfl
      _ = (U.2 * S) * (T.2 * v.2) := by rw [hu]
      _ = (T.2 * (v.2 * S)) * U.2 := by ac_rfl
      _ = (T.1 * (M * v.2)) * U.2 := by rw [hm]
      _ = T.1 * U.2 * (M * v.2) := by ac_rfl
  exact Int.eq_of_mul_eq_mul_right (by have := Int.mul_pos hM hv0; omega) this
/-! ### the terms of a form, by its pairs -/
instance : DecidableRel Lt := fun x y => inferInstanceAs (Decidable (ltCps x.cps.toList y.cps.toList = true))
def ins (x : Str) (w : Int) : List Tm → List Tm
  | [] => if w = 0 then [] else [(x, w)]
  | p :: us => if x = p.1 then (if w + p.2 = 0 then us else (x, w + p.2) :: us) else if Lt x p.1 then (if w = 0 then p :: us else (x, w) :: p :: us) else p :: ins x w us
theorem ins_mem {x : Str} {w : Int} : ∀ {us : List Tm} {q : Tm}, q ∈ ins x w us → q.1 = x ∨ q ∈ us
  | [], q, h => by
    unfold ins at h; split at h
    · cases h
    · rw [List.mem_singleton.mp h]; exact .inl rfl
  | p :: us, q, h => by
    unfold ins at h
    split at h
    · split at h
      · exact .inr (by simp [h])
      · rcases List.mem_cons.mp h with rfl | h
        · exact .inl rfl
        · exact .inr (by simp [h])
    · split at h
      · split at h
        · exact .inr h
        · rcases List.mem_cons.mp h with rfl | h
          · exact .inl rfl
          · exact .inr h
      · rcases List.mem_cons.mp h with rfl | h
        · exact .inr (by simp)
        · exact (ins_mem h).imp id fun z => by simp [z]
theorem Canon.cons {p : Tm} {us : List Tm} (h : ∀ q ∈ us, Lt p.1 q.1) (n : p.2 ≠ 0) (c : Canon us) : Canon (p :: us) :=
  ⟨List.pairwise_cons.mpr ⟨fun y hy => by obtain ⟨q, hq, rfl⟩ := List.mem_map.mp hy; exact h q hq, c.asc⟩, fun q hq => by
    rcases List.mem_cons.mp hq with rfl | hq
    · exact n
    · exact c.nz q hq⟩
theorem ins_canon {x : Str} {w : Int} : ∀ {us : List Tm}, Canon us → Canon (ins x w us)
  | [], _ => by
    unfold ins; split
    · exact .nil
    · next h => exact .cons (by simp) h .nil
  | p :: us, c => by
    unfold ins
    split
    · next e =>
      split
      · exact c.tail
      · next h => exact .cons (fun q hq => e ▸ c.lt hq) h c.tail
    · next e =>
      split
      · next l =>
        split
        · exact c
        · next h => exact .cons (fun q hq => by
            rcases List.mem_cons.mp hq with rfl | hq
            · exact l
            · exact l.tr (c.lt hq)) h c
      · next l =>
        have l' : Lt p.1 x := by
          rcases Lt.tri x p.1 with z | z | z
          · exact absurd z e
          · exact absurd z l
          · exact z
        refine .cons (fun q hq => ?_) (c.nz p (by simp)) (ins_canon c.tail)
        rcases ins_mem hq with z | z
        · rw [z]; exact l'
        · exact c.lt z
theorem ins_wt {x y : Str} {w : Int} : ∀ {us : List Tm}, wt (ins x w us) y = (if x = y then w else 0) + wt us y
  | [] => by
    unfold ins; split
    · next h => subst h; simp [wt]
    · rw [wt_cons]
  | p :: us => by
    unfold ins
    split
    · next e =>
      split
      · next h =>
        rw [wt_cons, ← e]
        split <;> omega
      · rw [wt_cons, wt_cons, ← e]
        dsimp only
        split <;> omega
    · split
      · split
        · next h => subst h; simp
        · rw [wt_cons]
      · rw [wt_cons, ins_wt, wt_cons]; omega
def can : List Tm → List Tm
  | [] => []
  | p :: ts => ins p.1 p.2 (can ts)
theorem can_canon : ∀ ts : List Tm, Canon (can ts)
  | [] => .nil
  | _ :: ts => ins_canon (can_canon ts)
theorem can_wt : ∀ (ts : List Tm) (x : Str), wt (can ts) x = wt ts x
  | [], _ => rfl
  | p :: ts, x => by
    show wt (ins p.1 p.2 (can ts)) x = _
    rw [ins_wt, can_wt, wt_cons]
theorem can_eq {us ts : List Tm} (c : Canon us) (h : ∀ x, wt us x = wt ts x) : us = can ts := canon_eq c (can_canon ts) fun x => by rw [h, can_wt]
theorem can_can {ts us : List Tm} (h : ∀ x, wt ts x = wt us x) : can ts = can us := can_eq (can_canon ts) fun x => by rw [can_wt, h]
theorem can_self {ts : List Tm} (c : Canon ts) : can ts = ts := (can_eq c fun _ => rfl).symm
theorem Canon.wt_mem {ts : List Tm} (c : Canon ts) {p : Tm} (h : p ∈ ts) : wt ts p.1 = p.2 := by
  induction ts with
  | nil => cases h
  | cons q ts ih =>
    rcases List.mem_cons.mp h with rfl | h
    · exact c.head
    · rw [wt_cons, if_neg (fun e => (e ▸ c.lt h).irr), Int.zero_add]; exact ih c.tail h
theorem mem_of_wt {ts : List Tm} {x : Str} (h : wt ts x ≠ 0) : ∃ p ∈ ts, p.1 = x := Decidable.byContradiction fun n => h (wt_none fun p hp e => n ⟨p, hp, e⟩)
theorem can_mem {ts : List Tm} {u : Tm} (h : u ∈ can ts) : (∃ p ∈ ts, p.1 = u.1) ∧ u.2 = wt ts u.1 := by
  have c := can_canon ts
  have e := c.wt_mem h
  rw [can_wt] at e
  exact ⟨mem_of_wt (by rw [e]; exact c.nz u h), e.symm⟩
theorem ins_len {x : Str} {w : Int} : ∀ {us : List Tm}, (ins x w us).length ≤ us.length + 1
  | [] => by unfold ins; split <;> simp
  | p :: us => by
    unfold ins
    have := ins_len (x := x) (w := w) (us := us)
    repeat' split
    all_goals simp
    all_goals omega
theorem can_len : ∀ ts : List Tm, (can ts).length ≤ ts.length
  | [] => Nat.le_refl _
  | p :: ts => by
    have := can_len ts
    have := ins_len (x := p.1) (w := p.2) (us := can ts)
    show (ins p.1 p.2 (can ts)).length ≤ ts.length + 1
    omega
theorem wt_bound {B : Nat} {x : Str} : ∀ {ts : List Tm}, (∀ p ∈ ts, p.2.natAbs ≤ B) → (wt ts x).natAbs ≤ ts.length * B
  | [], _ => by simp [wt]
  | p :: ts, h => by
    have a := h p (by simp)
    have b := wt_bound (x := x) (ts := ts) fun q hq => h q (by simp [hq])
    rw [wt_cons, List.length_cons, Nat.succ_mul]
    split <;> omega
/-- a form within bounds: weights and constant below 2 ^ k, at most n terms, names that keep N -/
structure FOk (N : Str → Prop) (n k : Nat) (ts : List Tm) (c : Int) : Prop where
  can : Canon ts
  len : ts.length ≤ n
  nm : ∀ p ∈ ts, N p.1
  wb : ∀ p ∈ ts, p.2.natAbs < 2 ^ k
  cb : c.natAbs < 2 ^ k
theorem pow6 {m n k : Nat} (h : n ≤ 64) (hm : m ≤ n * 2 ^ k) : m ≤ 2 ^ (k + 6) := by
  refine Nat.le_trans hm ?_
  rw [Nat.pow_add, Nat.mul_comm]
  exact Nat.mul_le_mul_left _ h
/-- what is made of pairs is a form -/
theorem can_ok {N : Str → Prop} {k : Nat} {ts : List Tm} {c : Int} (hl : ts.length ≤ 60) (hn : ∀ p ∈ ts, N p.1) (hb : ∀ p ∈ ts, p.2.natAbs < 2 ^ k) (hc : c.natAbs < 2 ^ (k + 6)) : FOk N ts.length (k + 6) (can ts) c := by
  refine ⟨can_canon ts, can_len ts, fun u hu => ?_, fun u hu => ?_, hc⟩
  · obtain ⟨⟨p, hp, e⟩, _⟩ := can_mem hu
    rw [← e]; exact hn p hp
  · obtain ⟨_, e⟩ := can_mem hu
    rw [e]
    have h1 := wt_bound (x := u.1) (B := 2 ^ k) (ts := ts) fun p hp => Nat.le_of_lt (hb p hp)
    have h2 : ts.length * 2 ^ k < 64 * 2 ^ k := Nat.mul_lt_mul_of_pos_right (by omega) (Nat.pow_pos (by decide))
    have h3 : 64 * 2 ^ k = 2 ^ (k + 6) := by rw [Nat.pow_add, Nat.mul_comm]
    omega
/-! ### a row made by names -/
def rowOf (ys : List Str) (f : Str → Int) : List Tm := (ys.map fun x => (x, f x)).filter fun p => decide (p.2 ≠ 0)
theorem wt_rowOf {f : Str → Int} {x : Str} : ∀ {ys : List Str}, ys.Nodup → wt (rowOf ys f) x = if x ∈ ys then f x else 0
  | [], _ => by simp [rowOf, wt]
  | y :: ys, n => by
    have ih := wt_rowOf (f := f) (x := x) (List.nodup_cons.mp n).2
    unfold rowOf at ih ⊢
    rw [List.map_cons]
    by_cases h : f y = 0
    · rw [List.filter_cons_of_neg (by simpa using h), ih]
      by_cases e : x = y
      · subst e; rw [if_neg (List.nodup_cons.mp n).1, if_pos (by simp), h]
      · simp [e]
    · rw [List.filter_cons_of_pos (by simpa using h), wt_cons, ih]
      by_cases e : y = x
      · subst e; rw [if_pos rfl, if_neg (List.nodup_cons.mp n).1, if_pos (by simp), Int.add_zero]
      · have e' : ¬ x = y := fun z => e z.symm
        simp [e, e']
theorem canon_rowOf {f : Str → Int} {ys : List Str} (h : ys.Pairwise Lt) : Canon (rowOf ys f) := by
  refine ⟨?_, fun p hp => by simpa using (List.mem_filter.mp hp).2⟩
  unfold rowOf
  have : ((ys.map fun x => (x, f x)).map (·.1)).Pairwise Lt := by simpa [List.map_map, Function.comp_def] using h
  exact this.sublist ((List.filter_sublist).map _)
theorem rowOf_can {ts : List Tm} {ys : List Str} (h : ys.Pairwise Lt) (n : ys.Nodup) (hm : ∀ p ∈ ts, p.1 ∈ ys) : rowOf ys (wt ts) = can ts := can_eq (canon_rowOf h) fun x => by
  rw [wt_rowOf n]
  split
  · rfl
  · next e => exact (wt_none fun p hp z => e (by have := hm p hp; rw [z] at this; exact this)).symm
theorem rowOf_snoc {f : Str → Int} {ys : List Str} {y : Str} : rowOf (ys ++ [y]) f = if f y ≠ 0 then rowOf ys f ++ [(y, f y)] else rowOf ys f := by
  unfold rowOf
  rw [List.map_append, List.filter_append]
  by_cases h : f y = 0 <;> simp [h]
/-! ### sums by names in a dict -/
def putT (ks : List Tm) (x : Str) (v : Int) : List Tm := if (ks.any fun p => decide (p.1 = x)) = true then ks.map (fun p => if p.1 = x then (p.1, v) else p) else ks ++ [(x, v)]
def kOf (ks : List Tm) : List (Key × V) := ks.map fun p => (Sum.inr p.1, V.int p.2)
theorem val_kOf {x : Str} : ∀ {ks : List Tm}, valV (kOf ks) (Sum.inr x) = (ks.find? fun p => decide (p.1 = x)).map fun p => V.int p.2
  | [] => rfl
  | p :: ks => by
    by_cases h : p.1 = x
    · have : valV (kOf (p :: ks)) (Sum.inr x) = some (V.int p.2) := valV_pos (by show Sum.inr p.1 = Sum.inr x; rw [h])
      rw [this, List.find?_cons_of_pos (by simpa using h)]; rfl
    · have : valV (kOf (p :: ks)) (Sum.inr x) = valV (kOf ks) (Sum.inr x) := valV_neg (fun e => h (Sum.inr.inj e))
      rw [this, List.find?_cons_of_neg (by simpa using h)]; exact val_kOf
theorem put_kOf {ks : List Tm} {x : Str} {v : Int} : putK (kOf ks) (Sum.inr x) (V.int v) = kOf (putT ks x v) := by
  unfold putK putT
  have e : ((kOf ks).any fun kv => decide (kv.1 = Sum.inr x)) = ks.any fun p => decide (p.1 = x) := by
    unfold kOf; rw [List.any_map]; congr 1; funext p; simp
  rw [e]
  split
  · unfold kOf; rw [List.map_map, List.map_map]; congr 1; funext p
    simp only [Function.comp, Sum.inr.injEq]
    split <;> rfl
  · unfold kOf; rw [List.map_append]; rfl
/-- the sums so far -/
structure Sums (ks ts : List Tm) : Prop where
  nd : (ks.map (·.1)).Nodup
  iff : ∀ x, (x ∈ ks.map (·.1)) ↔ x ∈ ts.map (·.1)
  val : ∀ p ∈ ks, p.2 = wt ts p.1
  len : ks.length ≤ ts.length
theorem Sums.nil : Sums [] [] := ⟨by simp, by simp, by simp, Nat.le_refl _⟩
theorem Sums.find {ks ts : List Tm} (h : Sums ks ts) (x : Str) : ((ks.find? fun p => decide (p.1 = x)).map fun p => V.int p.2) = if x ∈ ts.map (·.1) then some (V.int (wt ts x)) else none := by
  cases e : ks.find? fun p => decide (p.1 = x) with
  | none =>
    have n : x ∉ ks.map (·.1) := fun z => by
      obtain ⟨p, hp, rfl⟩ := List.mem_map.mp z
      have := List.find?_eq_none.mp e p hp
      simp at this
    rw [if_neg (fun z => n ((h.iff x).mpr z))]; rfl
  | some p =>
    have hp := List.mem_of_find?_eq_some e
    have hx : p.1 = x := by simpa using List.find?_some e
    have : x ∈ ts.map (·.1) := (h.iff x).mp (hx ▸ List.mem_map_of_mem hp)
    rw [if_pos this]
    show some (V.int p.2) = _
    rw [h.val p hp, hx]
theorem Sums.put {ks ts : List Tm} (h : Sums ks ts) (p : Tm) : Sums (putT ks p.1 (wt ts p.1 + p.2)) (ts ++ [p]) := by
  have hw : ∀ x, wt (ts ++ [p]) x = wt ts x + if p.1 = x then p.2 else 0 := fun x => by rw [wt_append, wt_cons, wt_nil, Int.add_zero]
  unfold putT
  by_cases c : (ks.any fun q => decide (q.1 = p.1)) = true
  · rw [if_pos c]
    obtain ⟨q, hq, eq⟩ := List.any_eq_true.mp c
    have eq' : q.1 = p.1 := by simpa using eq
    have e : ((ks.map fun q => if q.1 = p.1 then (q.1, wt ts p.1 + p.2) else q).map (·.1)) = ks.map (·.1) := by
      rw [List.map_map]; congr 1; funext r; simp only [Function.comp]; split <;> rfl
    refine ⟨by rw [e]; exact h.nd, fun x => ?_, fun r hr => ?_, by rw [List.length_map, List.length_append]; have := h.len; simp; omega⟩
    · rw [e, h.iff, List.map_append]
      constructor
      · intro z; simp only [List.mem_append]; exact .inl z
      · intro z
        rcases List.mem_append.mp z with z | z
        · exact z
        · have : x = p.1 := by simpa using z
          rw [this, ← eq']; exact (h.iff _).mp (List.mem_map_of_mem hq)
    · obtain ⟨s, hs, rfl⟩ := List.mem_map.mp hr
      rw [hw]
      by_cases z : s.1 = p.1
      · simp only [if_pos z]; rw [if_pos z.symm, z]
      · simp only [if_neg z]; rw [if_neg (fun e => z e.symm), Int.add_zero]; exact h.val s hs
  · rw [if_neg c]
    have n : p.1 ∉ ks.map (·.1) := fun z => by
      obtain ⟨q, hq, e⟩ := List.mem_map.mp z
      exact c (List.any_eq_true.mpr ⟨q, hq, by simpa using e⟩)
    have n' : p.1 ∉ ts.map (·.1) := fun z => n ((h.iff _).mpr z)
    have w0 : wt ts p.1 = 0 := wt_none fun q hq e => n' (e ▸ List.mem_map_of_mem hq)
    refine ⟨?_, fun x => ?_, fun r hr => ?_, by have := h.len; simp; omega⟩
    · rw [List.map_append]
      refine List.nodup_append.mpr ⟨h.nd, by simp, fun x hx y hy e => n ?_⟩
      have hy' : y = p.1 := by simpa using hy
      rw [← hy', ← e]
      exact hx
    · simp only [List.map_append, List.mem_append, h.iff]; simp
    · rw [hw]
      rcases List.mem_append.mp hr with hr | hr
      · have : ¬ p.1 = r.1 := fun e => n (e ▸ List.mem_map_of_mem hr)
        rw [if_neg this, Int.add_zero]; exact h.val r hr
      · rw [List.mem_singleton.mp hr]; simp
/-! ### sizes -/
theorem natAbs_mul_lt {x y : Int} {a b : Nat} (hx : x.natAbs < 2 ^ a) (hy : y.natAbs < 2 ^ b) : (x * y).natAbs < 2 ^ (a + b) := wide_lt hx hy
theorem natAbs_add_lt {x y : Int} {a : Nat} (hx : x.natAbs < 2 ^ a) (hy : y.natAbs < 2 ^ a) : (x + y).natAbs < 2 ^ (a + 1) := by
  have := Int.natAbs_add_le x y
  rw [Nat.pow_succ]; omega
theorem pow_le {x : Int} {a b : Nat} (h : x.natAbs < 2 ^ a) (hab : a ≤ b) : x.natAbs < 2 ^ b := Nat.lt_of_lt_of_le h (Nat.pow_le_pow_right (by decide) hab)
/-- the sizes of a value under way: weights and constant below 2 ^ a, tops below 2 ^ b, bottoms below 2 ^ g -/
theorem acc_boundG {W : Wd} (a b g : Nat) : ∀ {ts : List Tm} {s : Int × Int} {i : Nat}, (∀ p ∈ ts, p.2.natAbs < 2 ^ a ∧ (W p.1).1.natAbs < 2 ^ b ∧ (W p.1).2.natAbs < 2 ^ g) → s.1.natAbs < 2 ^ (a + 1 + (b + g + 1) * i) → s.2.natAbs < 2 ^ (1 + g * i) →
    (accV W ts s).1.natAbs < 2 ^ (a + 1 + (b + g + 1) * (i + ts.length)) ∧ (accV W ts s).2.natAbs < 2 ^ (1 + g * (i + ts.length))
  | [], _, _, _, h1, h2 => ⟨h1, h2⟩
  | p :: ts, s, i, h, h1, h2 => by
    obtain ⟨ha, hb, hc⟩ := h p (by simp)
    have m1 : (b + g + 1) * (i + 1) = (b + g + 1) * i + (b + g + 1) := Nat.mul_succ _ _
    have m2 : g * (i + 1) = g * i + g := Nat.mul_succ _ _
    have m3 : g * i ≤ (b + g + 1) * i := Nat.mul_le_mul_right i (by omega)
    have e1 : (s.1 * (W p.1).2).natAbs < 2 ^ (a + 1 + (b + g + 1) * i + (b + g)) := pow_le (natAbs_mul_lt h1 hc) (by omega)
    have e2 : (p.2 * (W p.1).1 * s.2).natAbs < 2 ^ (a + 1 + (b + g + 1) * i + (b + g)) := pow_le (natAbs_mul_lt (natAbs_mul_lt ha hb) h2) (by omega)
    have e3 := natAbs_add_lt e1 e2
    have := acc_boundG (W := W) a b g (ts := ts) (s := (s.1 * (W p.1).2 + p.2 * (W p.1).1 * s.2, s.2 * (W p.1).2)) (i := i + 1) (fun q hq => h q (by simp [hq])) (pow_le e3 (by omega)) (pow_le (natAbs_mul_lt h2 hc) (by omega))
    rw [List.length_cons, show i + (ts.length + 1) = i + 1 + ts.length by omega]
    exact this
theorem acc_bound {W : Wd} {ts : List Tm} {c : Int} (h : ∀ p ∈ ts, p.2.natAbs < 2 ^ 400 ∧ (W p.1).1.natAbs < 2 ^ 1000 ∧ (W p.1).2.natAbs < 2 ^ 401) (hc : c.natAbs < 2 ^ 400) :
    (accV W ts (c, 1)).1.natAbs < 2 ^ (401 + 1402 * ts.length) ∧ (accV W ts (c, 1)).2.natAbs < 2 ^ (1 + 401 * ts.length) := by
  have := acc_boundG (W := W) 400 1000 401 (ts := ts) (s := (c, 1)) (i := 0) h (pow_le hc (by omega)) (show (1 : Int).natAbs < 2 ^ (1 + 401 * 0) by decide)
  rw [Nat.zero_add] at this
  exact this
theorem accV_append {W : Wd} : ∀ {ts us : List Tm} {s : Int × Int}, accV W (ts ++ us) s = accV W us (accV W ts s)
  | [], _, _ => rfl
  | p :: ts, us, s => accV_append (ts := ts)
theorem nodup_len : ∀ {l xs : List Str}, l.Nodup → (∀ x ∈ l, x ∈ xs) → l.length ≤ xs.length
  | [], _, _, _ => Nat.zero_le _
  | x :: l, xs, n, h => by
    have hx := h x (by simp)
    have := nodup_len (l := l) (xs := xs.erase x) (List.nodup_cons.mp n).2 fun y hy => (List.mem_erase_of_ne (fun e => (List.nodup_cons.mp n).1 (by rw [← e]; exact hy))).mpr (h y (by simp [hy]))
    rw [List.length_erase_of_mem hx] at this
    have := List.length_pos_of_mem hx
    rw [List.length_cons]; omega
theorem Canon.nodup {ts : List Tm} (c : Canon ts) : (ts.map (·.1)).Nodup := c.asc.imp fun {a b} h (e : a = b) => by subst e; exact h.irr
theorem Canon.short {ts : List Tm} {xs : List Str} (c : Canon ts) (h : ∀ p ∈ ts, p.1 ∈ xs) : ts.length ≤ xs.length := by
  have := nodup_len c.nodup fun x hx => by
    obtain ⟨p, hp, rfl⟩ := List.mem_map.mp hx
    exact h p hp
  rwa [List.length_map] at this
end Fm
/-! ### the pot of a law, pairs in lowest terms -/
def Pot (P : List V) : Prop := ∃ (pos car cnt mix : Int) (sc : List Int), P = V.int pos :: V.int car :: V.int cnt :: V.int mix :: sc.map V.int ∧ 4 ≤ pos ∧ 0 ≤ car ∧ 0 ≤ mix ∧ mix < 2147483647 ∧ sc.length ≤ 63
def PotAt (a : Addr) (H : Hp) : Prop := ∃ P, H a = some (.lst P) ∧ Pot P
theorem pot_at {x0 x1 x2 x3 : V} {sc : List Int} {i : Int} (h : 4 ≤ i) (h2 : i < sc.length + 4) : atI (x0 :: x1 :: x2 :: x3 :: sc.map V.int) i = some (.int (sc.getD (i.toNat - 4) 0)) := by
  obtain ⟨n, rfl⟩ : ∃ n : Nat, i = ((n + 4 : Nat) : Int) := ⟨i.toNat - 4, by omega⟩
  refine atI_nat ?_
  have h3 : n < sc.length := by omega
  have e : ((n + 4 : Nat) : Int).toNat - 4 = n := by omega
  rw [e, List.getElem?_cons_succ, List.getElem?_cons_succ, List.getElem?_cons_succ, List.getElem?_cons_succ, List.getElem?_map, List.getElem?_eq_getElem h3, List.getD_eq_getElem?_getD, List.getElem?_eq_getElem h3]
  rfl
def spTake : Sp := fun vs H Q _ => ∃ (a : Addr) (n : Int), vs = [.ref a, .int n] ∧ PotAt a H ∧ 0 < n ∧ n < 2 ^ 200 ∧ ∀ (r : Int) (H' : Hp), 0 ≤ r → r < n → Keep [a] H H' → PotAt a H' → Q (.int r) H'
theorem PotAt.new {a p : Addr} {o : HO} {H : Hp} (h : PotAt a H) (n : H p = none) : PotAt a (upd H p o) := by
  obtain ⟨P, hP, hp⟩ := h
  exact ⟨P, by rw [upd_ne (ne_of_none hP n)]; exact hP, hp⟩
theorem PotAt.put {a p : Addr} {o : HO} {H : Hp} (h : PotAt a H) (n : p ≠ a) : PotAt a (upd H p o) := by
  obtain ⟨P, hP, hp⟩ := h
  exact ⟨P, by rw [upd_ne n.symm]; exact hP, hp⟩
theorem PotAt.ne' {a p : Addr} {xs : List V} {H : Hp} (h : PotAt a H) (h2 : H p = some (.lst xs)) (n : ¬ Pot xs) : p ≠ a := by
  obtain ⟨P, hP, hp⟩ := h
  rintro rfl
  rw [hP] at h2; cases h2; exact n hp
theorem PotAt.ne {a p : Addr} {H : Hp} (h : PotAt a H) (n : H p = none) : p ≠ a := by
  obtain ⟨P, hP, _⟩ := h
  exact ne_free hP n
section
variable {Q : VK} {E : XK} {H : Hp}
theorem r_take {a : Addr} {n : Int} (hp : PotAt a H) (h0 : 0 < n) (h1 : n < 2 ^ 200) (k : ∀ (r : Int) (H' : Hp), 0 ≤ r → r < n → Keep [a] H H' → PotAt a H' → Q (.int r) H') : spTake [.ref a, .int n] H Q E := ⟨a, n, rfl, hp, h0, h1, k⟩
/-- a def of the pot that gives an int below m in size -/
def spPotInt (m : Nat) : Sp := fun vs H Q _ => ∃ a : Addr, vs = [.ref a] ∧ PotAt a H ∧ ∀ (r : Int) (H' : Hp), r.natAbs < m → Keep [a] H H' → PotAt a H' → Q (.int r) H'
theorem r_potInt {m : Nat} {a : Addr} (hp : PotAt a H) (k : ∀ (r : Int) (H' : Hp), r.natAbs < m → Keep [a] H H' → PotAt a H' → Q (.int r) H') : spPotInt m [.ref a] H Q E := ⟨a, rfl, hp, k⟩
def spPot (K : PySem.W.Frag) : Sp := fun vs H Q _ => ∃ (a : Addr) (ns : List Int), vs = [.ref a] ∧ SqL K H a (ns.map V.int) ∧ ns.length ≤ 63 ∧ ∀ (p : Addr) (H' : Hp), Keep [] H H' → H p = none → PotAt p H' → Q (.ref p) H'
/-- the divisor with the bottom's sign, and the pair in lowest terms -/
def dv (t b : Int) : Int := if b < 0 then -((Nat.gcd t.natAbs b.natAbs : Nat) : Int) else ((Nat.gcd t.natAbs b.natAbs : Nat) : Int)
def lowT (t b : Int) : Int := t.fdiv (dv t b)
def lowB (t b : Int) : Int := b.fdiv (dv t b)
def spLow : Sp := fun vs H Q _ => ∃ t b : Int, vs = [.int t, .int b] ∧ b ≠ 0 ∧ b.natAbs < 2 ^ 8000 ∧ ∀ (p : Addr) (H' : Hp), Keep [] H H' → H p = none → H' p = some (.tup [.int (lowT t b), .int (lowB t b)]) → Q (.ref p) H'
theorem r_low {t b : Int} (hb : b ≠ 0) (hz : b.natAbs < 2 ^ 8000) (k : ∀ (p : Addr) (H' : Hp), Keep [] H H' → H p = none → H' p = some (.tup [.int (lowT t b), .int (lowB t b)]) → Q (.ref p) H') : spLow [.int t, .int b] H Q E := ⟨t, b, rfl, hb, hz, k⟩
end
theorem gcd_pos {t b : Int} (h : b ≠ 0) : 0 < Nat.gcd t.natAbs b.natAbs := Nat.gcd_pos_of_pos_right _ (by omega)
theorem gcd_le {t b : Int} (h : b ≠ 0) : Nat.gcd t.natAbs b.natAbs ≤ b.natAbs := Nat.gcd_le_right _ (by omega)
theorem dv_ne {t b : Int} (h : b ≠ 0) : dv t b ≠ 0 := by
  have := gcd_pos (t := t) h
  unfold dv; split <;> omega
theorem dv_abs {t b : Int} : (dv t b).natAbs = Nat.gcd t.natAbs b.natAbs := by
  unfold dv; split <;> omega
theorem pow_mono {n : Nat} (a b : Nat) (h : n < 2 ^ a) (hab : a ≤ b := by decide) : n < 2 ^ b := Nat.lt_of_lt_of_le h (Nat.pow_le_pow_right (by decide) hab)
theorem lowT_one {x : Int} : lowT x 1 = x := by
  unfold lowT dv
  rw [if_neg (by decide), show (1 : Int).natAbs = 1 from rfl, Nat.gcd_one_right]
  exact Int.fdiv_one x
theorem lowB_one {x : Int} : lowB x 1 = 1 := by
  unfold lowB dv
  rw [if_neg (by decide), show (1 : Int).natAbs = 1 from rfl, Nat.gcd_one_right]
  rfl
theorem natAbs_fdiv_le {x g : Int} (hg : g ≠ 0) (hd : g ∣ x) : (x.fdiv g).natAbs ≤ x.natAbs := by
  obtain ⟨k, rfl⟩ := hd
  rw [Int.mul_fdiv_cancel_left _ hg, Int.natAbs_mul]
  exact Nat.le_mul_of_pos_left _ (by omega)
theorem dv_dvd_t {t b : Int} : dv t b ∣ t := by
  have h : ((Nat.gcd t.natAbs b.natAbs : Nat) : Int) ∣ t := Int.ofNat_dvd_left.mpr (Nat.gcd_dvd_left _ _)
  unfold dv; split
  · exact (Int.neg_dvd).mpr h
  · exact h
theorem dv_dvd_b {t b : Int} : dv t b ∣ b := by
  have h : ((Nat.gcd t.natAbs b.natAbs : Nat) : Int) ∣ b := Int.ofNat_dvd_left.mpr (Nat.gcd_dvd_right _ _)
  unfold dv; split
  · exact (Int.neg_dvd).mpr h
  · exact h
theorem lowT_le {t b : Int} (h : b ≠ 0) : (lowT t b).natAbs ≤ t.natAbs := natAbs_fdiv_le (dv_ne h) dv_dvd_t
theorem lowB_le {t b : Int} (h : b ≠ 0) : (lowB t b).natAbs ≤ b.natAbs := natAbs_fdiv_le (dv_ne h) dv_dvd_b
theorem lowB_ne {t b : Int} (h : b ≠ 0) : lowB t b ≠ 0 := by
  intro e
  have hd := dv_ne (t := t) h
  have h2 : b = dv t b * lowB t b := by
    unfold lowB
    rw [Int.mul_comm]; exact (Int.fdiv_mul_cancel dv_dvd_b).symm
  rw [e, Int.mul_zero] at h2
  exact h h2
theorem sgn_abs {s x : Int} (h0 : 0 ≤ s) (h1 : s < 2) : ((1 - 2 * s) * x).natAbs = x.natAbs := by
  have h : s = 0 ∨ s = 1 := by omega
  rcases h with rfl | rfl <;> omega
section
variable {Q : VK} {E : XK} {H : Hp}
/-- two pairs, made one in lowest terms -/
def spTwo (f : Int → Int → Int → Int → Int × Int) : Sp := fun vs H Q _ => ∃ (p q : Addr) (a b c d : Int), vs = [.ref p, .ref q] ∧ H p = some (.tup [.int a, .int b]) ∧ H q = some (.tup [.int c, .int d]) ∧ b ≠ 0 ∧ d ≠ 0 ∧ a.natAbs < 2 ^ 9000 ∧ b.natAbs < 2 ^ 3000 ∧ c.natAbs < 2 ^ 9000 ∧ d.natAbs < 2 ^ 3000 ∧
  ∀ (r : Addr) (H' : Hp), Keep [] H H' → H r = none → H' r = some (.tup [.int (lowT (f a b c d).1 (f a b c d).2), .int (lowB (f a b c d).1 (f a b c d).2)]) → Q (.ref r) H'
def fPlus (a b c d : Int) : Int × Int := (a * d + c * b, b * d)
def fTimes (a b c d : Int) : Int × Int := (a * c, b * d)
theorem r_two {f : Int → Int → Int → Int → Int × Int} {p q : Addr} {a b c d : Int} (hp : H p = some (.tup [.int a, .int b])) (hq : H q = some (.tup [.int c, .int d])) (hb : b ≠ 0) (hd : d ≠ 0) (za : a.natAbs < 2 ^ 9000) (zb : b.natAbs < 2 ^ 3000) (zc : c.natAbs < 2 ^ 9000) (zd : d.natAbs < 2 ^ 3000)
  (k : ∀ (r : Addr) (H' : Hp), Keep [] H H' → H r = none → H' r = some (.tup [.int (lowT (f a b c d).1 (f a b c d).2), .int (lowB (f a b c d).1 (f a b c d).2)]) → Q (.ref r) H') : spTwo f [.ref p, .ref q] H Q E := ⟨p, q, a, b, c, d, rfl, hp, hq, hb, hd, za, zb, zc, zd, k⟩
def spWhole : Sp := fun vs H Q _ => ∃ i : Int, vs = [.int i] ∧ Q (.bl true) H
theorem r_whole {i : Int} (k : Q (.bl true) H) : spWhole [.int i] H Q E := ⟨i, rfl, k⟩
def spPairIs : Sp := fun vs H Q _ => ∃ (p q : Addr) (a b : Int), vs = [.ref p, .ref q] ∧ H p = some (.tup [.int a, .int b]) ∧ H q = some (.tup [.int a, .int b]) ∧ Q (.bl true) H
theorem r_pairIs {p q : Addr} {a b : Int} (hp : H p = some (.tup [.int a, .int b])) (hq : H q = some (.tup [.int a, .int b])) (k : Q (.bl true) H) : spPairIs [.ref p, .ref q] H Q E := ⟨p, q, a, b, rfl, hp, hq, k⟩
/-- the law's pair in lowest terms: a bottom above 0 -/
def spLow0 : Sp := fun vs H Q _ => ∃ t b : Int, vs = [.int t, .int b] ∧ 0 < b ∧ b.natAbs < 2 ^ 8000 ∧ ∀ (p : Addr) (H' : Hp), Keep [] H H' → H p = none → H' p = some (.tup [.int (lowT t b), .int (lowB t b)]) → Q (.ref p) H'
theorem r_low0 {t b : Int} (hb : 0 < b) (hz : b.natAbs < 2 ^ 8000) (k : ∀ (p : Addr) (H' : Hp), Keep [] H H' → H p = none → H' p = some (.tup [.int (lowT t b), .int (lowB t b)]) → Q (.ref p) H') : spLow0 [.int t, .int b] H Q E := ⟨t, b, rfl, hb, hz, k⟩
end
theorem low_mul {t b : Int} : lowT t b * dv t b = t ∧ lowB t b * dv t b = b := ⟨Int.fdiv_mul_cancel dv_dvd_t, Int.fdiv_mul_cancel dv_dvd_b⟩
theorem lowB_pos {t b : Int} (h : 0 < b) : 0 < lowB t b := by
  have e := (low_mul (t := t) (b := b)).2
  have g : 0 < dv t b := by
    have := gcd_pos (t := t) (show b ≠ 0 by omega)
    unfold dv; rw [if_neg (by omega)]; omega
  have : 0 < lowB t b * dv t b := by rw [e]; exact h
  exact Int.pos_of_mul_pos_left this g
theorem low_cross {t b : Int} : lowT t b * b = t * lowB t b := by
  have e := low_mul (t := t) (b := b)
  calc lowT t b * b = lowT t b * (lowB t b * dv t b) := by rw [e.2]
    _ = (lowT t b * dv t b) * lowB t b := by ac_rfl
    _ = t * lowB t b := by rw [e.1]
/-- equal ratios have one pair in lowest terms -/
theorem low_eq {t b t' b' : Int} (hb : 0 < b) (hb' : 0 < b') (h : t * b' = t' * b) : lowT t b = lowT t' b' ∧ lowB t b = lowB t' b' := by
  have cop : ∀ {t b : Int}, 0 < b → Nat.gcd (lowT t b).natAbs (lowB t b).natAbs = 1 := by
    intro t b hb
    have g := gcd_pos (t := t) (show b ≠ 0 by omega)
    have e := low_mul (t := t) (b := b)
    have z : Nat.gcd t.natAbs b.natAbs = Nat.gcd (lowT t b).natAbs (lowB t b).natAbs * Nat.gcd t.natAbs b.natAbs := by
      have a := dv_abs (t := t) (b := b)
      have et : t.natAbs = (lowT t b).natAbs * Nat.gcd t.natAbs b.natAbs := by rw [← a, ← Int.natAbs_mul, e.1]
      have eb : b.natAbs = (lowB t b).natAbs * Nat.gcd t.natAbs b.natAbs := by rw [← a, ← Int.natAbs_mul, e.2]
      calc Nat.gcd t.natAbs b.natAbs = Nat.gcd ((lowT t b).natAbs * Nat.gcd t.natAbs b.natAbs) ((lowB t b).natAbs * Nat.gcd t.natAbs b.natAbs) := by rw [← et, ← eb]
        _ = _ := Nat.gcd_mul_right _ _ _
    have : 1 * Nat.gcd t.natAbs b.natAbs = Nat.gcd (lowT t b).natAbs (lowB t b).natAbs * Nat.gcd t.natAbs b.natAbs := by rw [Nat.one_mul]; exact z
    exact (Nat.eq_of_mul_eq_mul_right g this).symm
  have p := lowB_pos (t := t) hb
  have p' := lowB_pos (t := t') hb'
  have x : lowT t b * lowB t' b' = lowT t' b' * lowB t b := by
    have c := low_cross (t := t) (b := b)
    have c' := low_cross (t := t') (b := b')
    have : lowT t b * lowB t' b' * (b * b') = lowT t' b' * lowB t b * (b * b') := by
      calc lowT t b * lowB t' b' * (b * b') = (lowT t b * b) * (lowB t' b' * b') := by ac_rfl
        _ = (t * lowB t b) * (lowB t' b' * b') := by rw [c]
        _ = (t * b') * (lowB t b * lowB t' b') := by ac_rfl
        _ = (t' * b) * (lowB t b * lowB t' b') := by rw [h]
        _ = (t' * lowB t' b') * (lowB t b * b) := by ac_rfl
        _ = (lowT t' b' * b') * (lowB t b * b) := by rw [c']
        _ = lowT t' b' * lowB t b * (b * b') := by ac_rfl
    exact Int.eq_of_mul_eq_mul_right (by have := Int.mul_pos hb hb'; omega) this
  have d1 : (lowB t b).natAbs ∣ (lowB t' b').natAbs := by
    refine Nat.Coprime.dvd_of_dvd_mul_left (k := (lowB t b).natAbs) (m := (lowT t b).natAbs) (Nat.Coprime.symm (cop hb)) ?_
    rw [← Int.natAbs_mul, x, Int.natAbs_mul]; exact Nat.dvd_mul_left _ _
  have d2 : (lowB t' b').natAbs ∣ (lowB t b).natAbs := by
    refine Nat.Coprime.dvd_of_dvd_mul_left (k := (lowB t' b').natAbs) (m := (lowT t' b').natAbs) (Nat.Coprime.symm (cop hb')) ?_
    rw [← Int.natAbs_mul, ← x, Int.natAbs_mul]; exact Nat.dvd_mul_left _ _
  have e := Nat.dvd_antisymm d1 d2
  have e' : lowB t b = lowB t' b' := by omega
  refine ⟨?_, e'⟩
  rw [e'] at x
  exact Int.eq_of_mul_eq_mul_right (by omega) x
theorem low_step {N D w p q : Int} (hD : 0 < D) (hq : 0 < q) :
    let f := fPlus (lowT N D) (lowB N D) (lowT (fTimes w 1 p q).1 (fTimes w 1 p q).2) (lowB (fTimes w 1 p q).1 (fTimes w 1 p q).2)
    lowT f.1 f.2 = lowT (N * q + w * p * D) (D * q) ∧ lowB f.1 f.2 = lowB (N * q + w * p * D) (D * q) ∧ 0 < f.2 := by
  intro f
  have hq' : 0 < (fTimes w 1 p q).2 := by show 0 < 1 * q; omega
  have p1 := lowB_pos (t := N) hD
  have p2 := lowB_pos (t := (fTimes w 1 p q).1) hq'
  have c1 := low_cross (t := N) (b := D)
  have c2 := low_cross (t := (fTimes w 1 p q).1) (b := (fTimes w 1 p q).2)
  have hf : 0 < f.2 := Int.mul_pos p1 p2
  have e : f.1 * (D * q) = (N * q + w * p * D) * f.2 := by
    show (lowT N D * lowB (w * p) (1 * q) + lowT (w * p) (1 * q) * lowB N D) * (D * q) = (N * q + w * p * D) * (lowB N D * lowB (w * p) (1 * q))
    have c2' : lowT (w * p) (1 * q) * q = w * p * lowB (w * p) (1 * q) := by
      have := c2
      show lowT (w * p) (1 * q) * q = _
      have h : (fTimes w 1 p q).2 = q := by show 1 * q = q; omega
      rw [h] at this
      have h2 : (1 : Int) * q = q := by omega
      rw [h2]; exact this
    generalize lowB (w * p) (1 * q) = b2 at *
    generalize lowT (w * p) (1 * q) = t2 at *
    calc (lowT N D * b2 + t2 * lowB N D) * (D * q) = (lowT N D * D) * (b2 * q) + (t2 * q) * (lowB N D * D) := by rw [Int.add_mul]; congr 1 <;> ac_rfl
      _ = (N * lowB N D) * (b2 * q) + (w * p * b2) * (lowB N D * D) := by rw [c1, c2']
      _ = (N * q + w * p * D) * (lowB N D * b2) := by rw [Int.add_mul]; congr 1 <;> ac_rfl
  obtain ⟨a, b⟩ := low_eq hf (Int.mul_pos hD hq) e
  exact ⟨a, b, hf⟩
/-! ### readings of texts, dicts, tuples as targets -/
def rInSg : R2 := fun x y H Q => ∃ (c : Nat) (z : Str), x = .str ⟨#[c]⟩ ∧ y = .str z ∧ Q (.bl (decide (c ∈ z.cps.toList))) H
def rNinSg : R2 := fun x y H Q => ∃ (c : Nat) (z : Str), x = .str ⟨#[c]⟩ ∧ y = .str z ∧ Q (.bl (!decide (c ∈ z.cps.toList))) H
def rAddS : R2 := fun x y H Q => ∃ i j, x = .str i ∧ y = .str j ∧ i.length + j.length ≤ sizeLine ∧ Q (.str (i ++ j)) H
theorem op_inSg {X : Cx} : OpR X (compareOp .In) rInSg := op_in_sign
theorem op_ninSg {X : Cx} : OpR X (compareOp .NotIn) rNinSg := op_notIn_sign
theorem op_addS {X : Cx} : OpR X (binaryOp .Add) rAddS := op_add_str
section
variable {K : PySem.W.Frag} {σ : L2.St} {H : Hp} {Q : VK} {QB : Bool → Hp → Prop} {D : Ends} {ta tb td ty tv te : TE} {v x y : V} {i j z : Str} {n : Int} {c : Nat} {p : Addr}
theorem r_inSg (k : Q (.bl (decide (c ∈ z.cps.toList))) H) : rInSg (.str ⟨#[c]⟩) (.str z) H Q := ⟨c, z, rfl, rfl, k⟩
theorem r_ninSg (k : Q (.bl (!decide (c ∈ z.cps.toList))) H) : rNinSg (.str ⟨#[c]⟩) (.str z) H Q := ⟨c, z, rfl, rfl, k⟩
theorem r_addS (h : i.length + j.length ≤ sizeLine) (k : Q (.str (i ++ j)) H) : rAddS (.str i) (.str j) H Q := ⟨i, j, rfl, rfl, h, k⟩
theorem r_ixS (h : z.length ≤ sizeLine) (h2 : atI z.cps.toList n = some c) (k : Q (.str ⟨#[c]⟩) H) : rIxS (.str z) (.int n) H Q := ⟨z, n, c, rfl, rfl, h, h2, k⟩
theorem r_slS {lo hi : Option Int} (h : z.length ≤ sizeLine) (k : Q (.str (cutS z lo hi)) H) : rSlS (.str z) lo hi H Q := ⟨z, rfl, h, k⟩
theorem r_sum {ns : List Int} (h : SqL K H p (ns.map V.int)) (k : Q (.int ns.sum) H) : rSum K [.ref p] H Q := ⟨p, ns, rfl, h, k⟩
theorem r_all {bs : List Bool} (h : SqL K H p (bs.map V.bl)) (k : Q (.bl (bs.all id)) H) : rAll K [.ref p] H Q := ⟨p, bs, rfl, h, k⟩
theorem r_sortS {xs : List Str} (h : SqL K H p (xs.map V.str)) (h2 : xs.length < 64) (k : ∀ (ys : List Str) (q : Addr), ys.Perm xs → sortedS ys = true → H q = none → Q (.ref q) (upd H q (.lst (ys.map V.str)))) : rSortedS K [.ref p] H Q := ⟨p, xs, rfl, h, h2, k⟩
theorem r_listD {kvs : List (Key × V)} (h : H p = some (.dK kvs)) (k : ∀ q, H q = none → Q (.ref q) (upd H q (.lst (kvs.map fun kv => kV kv.1)))) : rListD [.ref p] H Q := ⟨p, kvs, rfl, h, k⟩
/-- dicts with texts as keys -/
def rDGet : V → V → Hp → VK → Prop := fun x y H Q => ∃ a v, x = .ref a ∧ DGet H a y (some v) ∧ Q v H
def rDGet2 : V → V → V → Hp → VK → Prop := fun x y z H Q => ∃ a o, x = .ref a ∧ DGet H a y o ∧ Q (o.getD z) H
def rDPut : V → V → V → Hp → (Hp → Prop) → Prop := fun x y v H Q => ∃ a H4, x = .ref a ∧ DPut H a y v H4 ∧ Q H4
def rDInB (f : Bool → Bool) : V → V → Hp → VK → Prop := fun y x H Q => ∃ a o, x = .ref a ∧ DGet H a y o ∧ Q (.bl (f o.isSome)) H
theorem r_dget (k : td σ H fun x H1 => ty σ H1 fun y H2 => rDGet x y H2 Q) : tDGet td ty σ H Q := k
theorem r_dgetS {kvs : List (Key × V)} (h : H p = some (.dK kvs)) (h2 : valV kvs (Sum.inr z) = some v) (k : Q v H) : rDGet (.ref p) (.str z) H Q := ⟨p, v, rfl, .inl ⟨kvs, Sum.inr z, .inl h, rfl, h2.symm⟩, k⟩
theorem r_dput (k : tv σ H fun v H1 => td σ H1 fun x H2 => ty σ H2 fun y H3 => rDPut x y v H3 fun H4 => D.nx σ H4) : sDPut td ty tv D σ H := k
theorem r_dputS {kvs : List (Key × V)} {Q : Hp → Prop} (h : H p = some (.dK kvs)) (hl : kvs.length < sizeLine) (k : Q (upd H p (.dK (putK kvs (Sum.inr z) v)))) : rDPut (.ref p) (.str z) v H Q := ⟨p, _, rfl, DPut.k (k := Sum.inr z) h hl, k⟩
theorem r_dget2 {tx : TE} (h : td σ H fun x H1 => ∃ a, x = .ref a ∧ IsD H1 a ∧ ty σ H1 fun y H2 => tx σ H2 fun z H3 => ∃ o, DGet H3 a y o ∧ Q (o.getD z) H3) : tDGet2 td ty tx σ H Q := h
theorem r_dgetO {kvs : List (Key × V)} {R : Option V → Prop} (h : H p = some (.dK kvs)) (k : R (valV kvs (Sum.inr z))) : ∃ o, DGet H p (.str z) o ∧ R o := ⟨_, DGet.k (k := Sum.inr z) h, k⟩
theorem r_isD {kvs : List (Key × V)} {R : Addr → Prop} (h : H p = some (.dK kvs)) (k : R p) : ∃ a, V.ref p = .ref a ∧ IsD H a ∧ R a := ⟨p, rfl, .inl ⟨kvs, .inl h⟩, k⟩
theorem r_din (k : ty σ H fun y H1 => td σ H1 fun x H2 => rDInB id y x H2 Q) : tDIn ty td σ H Q := k
theorem r_dnin (k : ty σ H fun y H1 => td σ H1 fun x H2 => rDInB (fun b => !b) y x H2 Q) : tDNotIn ty td σ H Q := k
theorem r_dinS {kvs : List (Key × V)} {f : Bool → Bool} (h : H p = some (.dK kvs)) (k : Q (.bl (f (valV kvs (Sum.inr z)).isSome)) H) : rDInB f (.str z) (.ref p) H Q := ⟨p, _, rfl, DGet.k (k := Sum.inr z) h, k⟩
theorem r_dnew (k : ∀ p, H p = none → Q (.ref p) (upd H p (.dK []))) : tDNewK σ H Q := k
theorem r_gTup2 {i j : Nat} {Q : L2.St → Hp → Prop} (h : SqT K H p [x, y]) (k : Q ((σ.set i (some x)).set j (some y)) H) : gTup K 2 (gCons (gName i) (gCons (gName j) gNil)) (.ref p) σ H Q := ⟨p, [x, y], rfl, h, rfl, x, [y], rfl, y, [], rfl, rfl, k⟩
theorem r_strI {i : Int} {F : Int → Prop} (h : i.natAbs.log2 < 1920) (k : F i) : ∃ j, [V.int i] = [.int j] ∧ j.natAbs.log2 < 1920 ∧ F j := ⟨i, rfl, h, k⟩
theorem r_strS {i : Str} {F : Str → Prop} (k : F i) : ∃ j, [V.str i] = [.str j] ∧ F j := ⟨i, rfl, k⟩
theorem r_tupL {xs : List V} {F : Addr → Prop} {G : List V → Addr → Prop} (h : SqL K H p xs) (k : ∀ l, H l = none → G xs l) : ∃ q ys, [V.ref p] = [.ref q] ∧ ((SqL K H q ys ∧ ∀ l, H l = none → G ys l) ∨ (SqT K H q ys ∧ F q)) := ⟨p, xs, rfl, .inl ⟨h, k⟩⟩
theorem r_js {t : TE} {ts : List TE} {acc : Str} {Q : Str → Hp → Prop} (k : t σ H fun x H1 => ∃ y : Str, x = .str y ∧ (acc ++ y).length ≤ sizeLine ∧ tJs ts (acc ++ y) σ H1 Q) : tJs (t :: ts) acc σ H Q := k
theorem r_js0 {acc : Str} {Q : Str → Hp → Prop} (k : Q acc H) : tJs [] acc σ H Q := k
theorem r_jsS {y : Str} {A B : Str → Prop} (h : A y) (k : B y) : ∃ z, V.str y = .str z ∧ A z ∧ B z := ⟨y, rfl, h, k⟩
theorem r_fmt (k : te σ H fun x H1 => (∃ y : Str, x = .str y ∧ y.length ≤ sizeLine ∧ Q (.str y) H1) ∨ ∃ i : Int, x = .int i ∧ i.natAbs.log2 < 1920 ∧ Q (.str (toString i)) H1) : tFmt te σ H Q := k
end
/-! ### comprehensions over a text -/
section
variable {K : PySem.W.Frag} {σ : L2.St} {H : Hp} {Q : VK} {te tl : TE} {tt : TT} {G : TG} {vs : List Nat}
def CompS (G : TG) (tt : TT) (te : TE) (vs : List Nat) (σ : L2.St) (Q : VK) (x : V) (H1 : Hp) : Prop := ∃ z, x = .str z ∧ CompW (Its z) G tt te vs σ Q H1
theorem r_lcS (k : tl σ H fun x H1 => CompS G tt te vs σ Q x H1) : tLc (iStr tl) G tt te vs σ H Q := k
theorem lcS_go {z : Str} (Pv : Addr → Nat → List V → Hp → Prop) (h0 : ∀ D, H D = none → Pv D 0 [] (upd H D (.lst [])))
    (hs : ∀ D (i : Nat) c acc H', z.cps[i]? = some c → H' D = some (.lst acc) → Pv D i acc H' → G (.str ⟨#[c]⟩) (wipe σ vs) H' fun σ2 H2 => wipe σ2 vs = wipe σ vs ∧ tt σ2 H2 fun b H3 =>
      if b = true then te σ2 H3 fun y H4 => ∃ acc, H4 D = some (.lst acc) ∧ acc.length < sizeLine ∧ (∃ ac, (upd H4 D (.lst (acc ++ [y]))) D = some (.lst ac) ∧ Pv D (i + 1) ac (upd H4 D (.lst (acc ++ [y])))) else ∃ ac, H3 D = some (.lst ac) ∧ Pv D (i + 1) ac H3)
    (hd : ∀ D acc H', H D = none → H' D = some (.lst acc) → Pv D z.cps.size acc H' → Q (.ref D) H') : CompS G tt te vs σ Q (.str z) H :=
  ⟨z, rfl, fun D hD => lc_it (walk_str (z := z)) (fun i H' => ∃ acc, H' D = some (.lst acc) ∧ Pv D i acc H') ⟨[], upd_same, h0 D hD⟩ (fun _ _ _ _ => True.intro) (fun i x H' H2 hi ⟨acc, ha, p⟩ ⟨e, c, hc, hx⟩ => by subst e; subst hx; exact hs D i c acc _ hc ha p) fun H' ⟨acc, ha, p⟩ => hd D acc H' hD ha p⟩
end
namespace Wr
open PySem PySem.Spec PyProof.Rows L2
/-! ### forms written -/
theorem app_assoc (x y z : Str) : x ++ y ++ z = x ++ (y ++ z) := by
  show (⟨x.cps ++ y.cps ++ z.cps⟩ : Str) = ⟨x.cps ++ (y.cps ++ z.cps)⟩
  rw [Array.append_assoc]
theorem emp_app (x : Str) : Str.empty ++ x = x := by
  show (⟨#[] ++ x.cps⟩ : Str) = x
  rw [Array.empty_append]
theorem len_app (x y : Str) : (x ++ y).length = x.length + y.length := Array.size_append
theorem ne_emp {x : Str} (h : 0 < x.length) : x ≠ Str.empty := by rintro rfl; cases h
def num (i : Int) : Str := Str.ofString (toString i)
theorem of_app (s t : String) : Str.ofString (s ++ t) = Str.ofString s ++ Str.ofString t := by
  rw [Str.ofString_eq_toList, Str.ofString_eq_toList, Str.ofString_eq_toList]
  show _ = (⟨(s.toList.map Char.toNat).toArray ++ (t.toList.map Char.toNat).toArray⟩ : Str)
  rw [String.toList_append, List.map_append, List.append_toArray]
theorem num_neg {i : Int} (h : i < 0) : num i = Str.ofString "-" ++ num (i.natAbs : Int) := by
  unfold num
  rw [PyProof.Rows.toString_neg h, of_app, show (0 - i) = ((i.natAbs : Nat) : Int) by omega]
theorem num_len {i : Int} {k : Nat} (hk : 0 < k) (h : i.natAbs.log2 < k) : (num i).length ≤ k + 5 := by
  have e := int_text_length_le (k := k) hk h
  unfold num
  rw [PySem.ofString_length]; omega
def sp : Str := Str.ofString " "
def sg (w : Int) : Str := if w < 0 then Str.ofString "-" else Str.ofString "+"
/-- one term -/
def part (w : Int) (x : Str) : Str := if (w.natAbs : Int) = 1 then x else num (w.natAbs : Int) ++ sp ++ x
abbrev Pt := Int × Str
/-- the parts of a form -/
def pts (ts : List Fm.Tm) (c : Int) : List Pt := (ts.map fun p => (p.2, part p.2 p.1)) ++ (if c ≠ 0 ∨ ts = [] then [(c, num (c.natAbs : Int))] else [])
def tailW (ps : List Pt) : List Str := ps.flatMap fun p => [sg p.1, p.2]
def first (p : Pt) : Str := if p.1 < 0 then Str.ofString "-" ++ p.2 else p.2
def words : List Pt → List Str
  | [] => []
  | p :: r => first p :: tailW r
/-- as the program writes it -/
def prog (ts : List Fm.Tm) (c : Int) : Str := Str.join sp (words (pts ts c))
/-- as the law writes it -/
def step (line : Str) (p : Fm.Tm) : Str := (if line ≠ Str.empty then line ++ sp ++ sg p.2 ++ sp else if p.2 < 0 then Str.ofString "-" else line) ++ part p.2 p.1
def due (ts : List Fm.Tm) (c : Int) : Str := if ts = [] then num c else
  if 0 < c then ts.foldl step Str.empty ++ Str.ofString " + " ++ num c else if c < 0 then ts.foldl step Str.empty ++ Str.ofString " - " ++ num (-c) else ts.foldl step Str.empty
theorem join_snoc (s : Str) (t : Str) : ∀ (y : Str) (ws : List Str), Str.join s (y :: (ws ++ [t])) = Str.join s (y :: ws) ++ s ++ t
  | y, [] => rfl
  | y, z :: ws => by
    show y ++ s ++ Str.join s (z :: (ws ++ [t])) = (y ++ s ++ Str.join s (z :: ws)) ++ s ++ t
    rw [join_snoc s t z ws, ← app_assoc, ← app_assoc]
theorem part_pos {w : Int} {x : Str} (h : 0 < x.length) : 0 < (part w x).length := by
  unfold part; split
  · exact h
  · rw [len_app]; omega
theorem fold_step : ∀ (r : List Fm.Tm) (y : Str) (ws : List Str), 0 < (Str.join sp (y :: ws)).length → (∀ p ∈ r, 0 < p.1.length) →
    r.foldl step (Str.join sp (y :: ws)) = Str.join sp (y :: (ws ++ tailW (r.map fun p => (p.2, part p.2 p.1)))) ∧ 0 < (r.foldl step (Str.join sp (y :: ws))).length
  | [], y, ws, h, _ => ⟨by simp [tailW], h⟩
  | p :: r, y, ws, h, hn => by
    have e : step (Str.join sp (y :: ws)) p = Str.join sp (y :: (ws ++ [sg p.2, part p.2 p.1])) := by
      unfold step
      rw [if_pos (ne_emp h), show ws ++ [sg p.2, part p.2 p.1] = (ws ++ [sg p.2]) ++ [part p.2 p.1] by simp, join_snoc, join_snoc]
    have h2 : 0 < (Str.join sp (y :: (ws ++ [sg p.2, part p.2 p.1]))).length := by
      rw [← e]; unfold step; rw [len_app]; have := part_pos (w := p.2) (hn p (by simp)); omega
    have ih := fold_step r y (ws ++ [sg p.2, part p.2 p.1]) h2 fun q hq => hn q (by simp [hq])
    rw [List.foldl_cons, e]
    refine ⟨?_, ih.2⟩
    rw [ih.1]
    congr 2
    simp [tailW]
/-- both write the same -/
theorem same {ts : List Fm.Tm} {c : Int} (hn : ∀ p ∈ ts, 0 < p.1.length) : prog ts c = due ts c := by
  unfold prog due pts
  cases ts with
  | nil =>
    rw [if_pos rfl]
    simp only [List.map_nil, List.nil_append, or_true, if_true, words, tailW, List.flatMap_nil]
    show first (c, num (c.natAbs : Int)) = _
    unfold first
    split
    · next h => exact (num_neg h).symm
    · next h => show num (c.natAbs : Int) = _; rw [show ((c.natAbs : Nat) : Int) = c by have h' : ¬ c < 0 := h; omega]
  | cons p r =>
    rw [if_neg (show ¬ (p :: r = []) by simp)]
    have s0 : step Str.empty p = first (p.2, part p.2 p.1) := by
      unfold step first
      rw [if_neg (by simp)]
      split
      · rfl
      · exact emp_app _
    have h1 : 0 < (Str.join sp [first (p.2, part p.2 p.1)]).length := by
      show 0 < (first (p.2, part p.2 p.1)).length
      have := part_pos (w := p.2) (hn p (by simp))
      unfold first; split
      · rw [len_app]; dsimp only; omega
      · exact this
    have f := fold_step r (first (p.2, part p.2 p.1)) [] h1 fun q hq => hn q (by simp [hq])
    have f1 : (p :: r).foldl step Str.empty = Str.join sp (first (p.2, part p.2 p.1) :: tailW (r.map fun p => (p.2, part p.2 p.1))) := by
      rw [List.foldl_cons, s0]; exact f.1
    rw [f1]
    have wc : ∀ t : Pt, words (((p :: r).map fun p => (p.2, part p.2 p.1)) ++ [t]) = first (p.2, part p.2 p.1) :: (tailW (r.map fun p => (p.2, part p.2 p.1)) ++ [sg t.1] ++ [t.2]) := fun t => by
      simp [words, tailW]
    by_cases h : c = 0
    · subst h
      rw [if_neg (by simp), if_neg (by decide), if_neg (by decide), List.append_nil]; rfl
    · rw [if_pos (.inl h), wc, join_snoc, join_snoc]
      dsimp only
      by_cases h0 : 0 < c
      · rw [if_pos h0]
        unfold sg
        rw [if_neg (by omega), show ((c.natAbs : Nat) : Int) = c by omega, show Str.ofString " + " = sp ++ (Str.ofString "+" ++ sp) by decide +kernel]
        simp only [app_assoc]
      · rw [if_neg h0, if_pos (by omega)]
        unfold sg
        rw [if_pos (by omega), show ((c.natAbs : Nat) : Int) = -c by omega, show Str.ofString " - " = sp ++ (Str.ofString "-" ++ sp) by decide +kernel]
        simp only [app_assoc]
theorem tailW_len : ∀ ps : List Pt, (tailW ps).length = 2 * ps.length
  | [] => rfl
  | p :: ps => by
    have := tailW_len ps
    show (sg p.1 :: p.2 :: tailW ps).length = _
    simp only [List.length_cons, this]; omega
theorem tailW_snoc (ps : List Pt) (p : Pt) : tailW (ps ++ [p]) = tailW ps ++ [sg p.1, p.2] := by simp [tailW]
theorem tailW_mem {ps : List Pt} {y : Str} (h : y ∈ tailW ps) : (∃ w, y = sg w) ∨ ∃ p ∈ ps, y = p.2 := by
  obtain ⟨p, hp, hy⟩ := List.mem_flatMap.mp h
  rcases List.mem_cons.mp hy with e | e
  · exact .inl ⟨p.1, e⟩
  · exact .inr ⟨p, hp, List.mem_singleton.mp e⟩
theorem sum_len {B : Nat} : ∀ {ys : List Str}, (∀ y ∈ ys, y.length ≤ B) → (ys.map (·.length)).sum ≤ ys.length * B
  | [], _ => by simp
  | y :: ys, h => by
    have a := h y (by simp)
    have b := sum_len (B := B) (ys := ys) fun z hz => h z (by simp [hz])
    rw [List.map_cons, List.sum_cons, List.length_cons, Nat.succ_mul]; omega
end Wr
/-! ### a row of objects, each told by its item -/
section
variable {α : Type} {f : α → HO} {H H' : Hp}
def AllAt (f : α → HO) (H : Hp) : List Addr → List α → Prop
  | [], [] => True
  | a :: as, x :: xs => H a = some (f x) ∧ AllAt f H as xs
  | _, _ => False
theorem AllAt.len : ∀ {as : List Addr} {xs : List α}, AllAt f H as xs → as.length = xs.length
  | [], [], _ => rfl
  | _ :: _, _ :: _, h => congrArg Nat.succ (AllAt.len h.2)
  | [], _ :: _, h => h.elim
  | _ :: _, [], h => h.elim
theorem AllAt.get : ∀ {as : List Addr} {xs : List α} {i : Nat} {a : Addr}, AllAt f H as xs → as[i]? = some a → ∃ x, xs[i]? = some x ∧ H a = some (f x)
  | [], _, _, _, _, e => by simp at e
  | _ :: _, [], _, _, h, _ => h.elim
  | b :: as, p :: ts, 0, a, h, e => by
    have : b = a := by simpa using e
    subst this; exact ⟨p, rfl, h.1⟩
  | b :: as, p :: ts, i + 1, a, h, e => by
    obtain ⟨q, h1, h2⟩ := AllAt.get (i := i) h.2 (by simpa using e)
    exact ⟨q, by simpa using h1, h2⟩
theorem AllAt.mono : ∀ {as : List Addr} {xs : List α}, AllAt f H as xs → (∀ a x, a ∈ as → x ∈ xs → H a = some (f x) → H' a = some (f x)) → AllAt f H' as xs
  | [], [], _, _ => trivial
  | a :: as, p :: ts, h, k => ⟨k a p (by simp) (by simp) h.1, h.2.mono fun b q hb hq => k b q (by simp [hb]) (by simp [hq])⟩
  | [], _ :: _, h, _ => h.elim
  | _ :: _, [], h, _ => h.elim
theorem AllAt.app : ∀ {as bs : List Addr} {xs ys : List α}, AllAt f H as xs → AllAt f H bs ys → AllAt f H (as ++ bs) (xs ++ ys)
  | [], _, [], _, _, k => k
  | _ :: _, _, _ :: _, _, h, k => ⟨h.1, h.2.app k⟩
  | [], _, _ :: _, _, h, _ => h.elim
  | _ :: _, _, [], _, h, _ => h.elim
theorem AllAt.keep0 {as : List Addr} {xs : List α} (h : AllAt f H as xs) (k : Keep [] H H') : AllAt f H' as xs := h.mono fun a p _ _ e => k a _ (by simp) e
/-- kept where the changed addresses hold other things -/
theorem AllAt.keep {M : List Addr} {as : List Addr} {xs : List α} (h : AllAt f H as xs) (k : Keep M H H') (n : ∀ m ∈ M, ∀ x, H m ≠ some (f x)) : AllAt f H' as xs := h.mono fun a p _ _ e => k a _ (fun hm => n a hm p e) e
end
/-! ### loops and comprehensions over zip of two lists, dict comprehensions over the items of a dict -/
section
variable {K : PySem.W.Frag} {σ : L2.St} {H : Hp} {Q : VK} {te tk tv : TE} {tt : TT} {G : TG} {tas : TA} {vs : List Nat} {ts : TS} {D : Ends}
def ForW (J : It) (G : TG) (ts : TS) (D : Ends) (σ : L2.St) (H : Hp) : Prop := ∃ W : Nat → Nat → L2.St → Hp → Prop, (∃ m, W 0 m σ H) ∧ ∀ i m σ H, W i m σ H →
  (J.stop i H ∧ D.nx σ H) ∨ (J.go i H ∧ ∃ N : L2.St → Hp → Prop, (∀ σ' H', N σ' H' → ∃ m', m' < m ∧ W (i + 1) m' σ' H') ∧ ∀ x H', J.yld i H x H' → G x σ H' fun σ2 H2 => ts { D with nx := N, ct := N, bk := D.nx } σ2 H2)
def ForZ (K : PySem.W.Frag) (G : TG) (ts : TS) (D : Ends) (σ : L2.St) (us : List V) (H : Hp) : Prop := ∃ a b xs ys, us = [.ref a, .ref b] ∧ SqL K H a xs ∧ SqL K H b ys ∧ ForW (Itz K a b) G ts D σ H
theorem r_forZ (k : tas σ H fun us H1 => ForZ K G ts D σ us H1) : tFor (iZip K tas) G ts D σ H := k
theorem forZ_go {a b : Addr} {xs ys : List V} (hl : xs.length = ys.length) (Pv : Nat → L2.St → Hp → Prop) (hx : SqL K H a xs) (hy : SqL K H b ys) (h0 : Pv 0 σ H) (hq : ∀ i σ' H', Pv i σ' H' → SqL K H' a xs ∧ SqL K H' b ys)
    (hs : ∀ (i : Nat) (x y : V) (T : Addr) σ' H', xs[i]? = some x → ys[i]? = some y → Pv i σ' H' → H' T = none → G (.ref T) σ' (upd H' T (.tup [x, y])) fun σ2 H2 => ts { D with nx := Pv (i + 1), ct := Pv (i + 1), bk := D.nx } σ2 H2)
    (hd : ∀ σ' H', Pv xs.length σ' H' → D.nx σ' H') : ForZ K G ts D σ [.ref a, .ref b] H := ⟨a, b, xs, ys, rfl, hx, hy, RZ.for_zipL hl Pv h0 hq hs hd⟩
def CompZ (K : PySem.W.Frag) (G : TG) (tt : TT) (te : TE) (vs : List Nat) (σ : L2.St) (Q : VK) (us : List V) (H1 : Hp) : Prop := ∃ a b xs ys, us = [.ref a, .ref b] ∧ SqL K H1 a xs ∧ SqL K H1 b ys ∧ CompW (Itz K a b) G tt te vs σ Q H1
theorem r_lcZ (k : tas σ H fun us H1 => CompZ K G tt te vs σ Q us H1) : tLc (iZip K tas) G tt te vs σ H Q := k
theorem lcZ_go {a b : Addr} {xs ys : List V} (hl : xs.length = ys.length) (Pv : Addr → Nat → List V → Hp → Prop) (hx : SqL K H a xs) (hy : SqL K H b ys) (h0 : ∀ D, H D = none → Pv D 0 [] (upd H D (.lst []))) (hq : ∀ D i acc H', H D = none → Pv D i acc H' → SqL K H' a xs ∧ SqL K H' b ys)
    (hs : ∀ D (i : Nat) x y T acc H', xs[i]? = some x → ys[i]? = some y → H D = none → H' D = some (.lst acc) → Pv D i acc H' → H' T = none → G (.ref T) (wipe σ vs) (upd H' T (.tup [x, y])) fun σ2 H2 => wipe σ2 vs = wipe σ vs ∧ tt σ2 H2 fun b H3 =>
      if b = true then te σ2 H3 fun y H4 => ∃ acc, H4 D = some (.lst acc) ∧ acc.length < sizeLine ∧ (∃ ac, (upd H4 D (.lst (acc ++ [y]))) D = some (.lst ac) ∧ Pv D (i + 1) ac (upd H4 D (.lst (acc ++ [y])))) else ∃ ac, H3 D = some (.lst ac) ∧ Pv D (i + 1) ac H3)
    (hd : ∀ D acc H', H D = none → H' D = some (.lst acc) → Pv D xs.length acc H' → Q (.ref D) H') : CompZ K G tt te vs σ Q [.ref a, .ref b] H :=
  ⟨a, b, xs, ys, rfl, hx, hy, fun D hD => lc_it (walk_zip (n := xs.length) (by omega)) (fun i H' => ∃ acc, H' D = some (.lst acc) ∧ Pv D i acc H') ⟨[], upd_same, h0 D hD⟩ (fun i H' _ ⟨acc, _, p⟩ => hq D i acc H' hD p)
    (fun i v H1 H' hi ⟨acc, ha, p⟩ ⟨T, x, y, ev, hT, eH, ex, ey⟩ => by subst ev eH; exact hs D i x y T acc H1 ex ey hD ha p hT) fun H' ⟨acc, ha, p⟩ => hd D acc H' hD ha p⟩
/-- a target (x, y), z -/
theorem r_gTup21 {p T : Addr} {x y z : V} {i j k : Nat} {Q : L2.St → Hp → Prop} (h : SqT K H T [.ref p, z]) (h2 : SqT K H p [x, y]) (q : Q (((σ.set i (some x)).set j (some y)).set k (some z)) H) :
    gTup K 2 (gCons (gTup K 2 (gCons (gName i) (gCons (gName j) gNil))) (gCons (gName k) gNil)) (.ref T) σ H Q :=
  ⟨T, [.ref p, z], rfl, h, rfl, .ref p, [z], rfl, ⟨p, [x, y], rfl, h2, rfl, x, [y], rfl, y, [], rfl, rfl, z, [], rfl, rfl, q⟩⟩
/-- a dict comprehension over a walk -/
theorem dc_it {J : It} {n : Nat} {Go : Hp → Prop} {Y : Nat → Hp → V → Hp → Prop} (w : Walk J n Go Y) {H1 : Hp} {D : Addr} {Qd : Hp → Prop} (Pv : Nat → Hp → Prop) (h0 : Pv 0 (upd H1 D (.dK []))) (hG : ∀ i H, i ≤ n → Pv i H → Go H)
    (hs : ∀ i x H H', i < n → Pv i H → Y i H x H' → G x (wipe σ vs) H' fun σ2 H2 => wipe σ2 vs = wipe σ vs ∧ tt σ2 H2 fun b H3 =>
      if b = true then tk σ2 H3 fun y H4 => tv σ2 H4 fun z H5 => ∃ kvs k, y = kV k ∧ H5 D = some (.dK kvs) ∧ kvs.length < sizeLine ∧ Pv (i + 1) (upd H5 D (.dK (putK kvs k z))) else Pv (i + 1) H3) (hd : ∀ H, Pv n H → Qd H) :
    ∃ W : Nat → Nat → Hp → Prop, (∃ m, W 0 m (upd H1 D (.dK []))) ∧ ∀ i m H, W i m H →
      (J.stop i H ∧ Qd H) ∨ (J.go i H ∧ ∃ Nx : Hp → Prop, (∀ H', Nx H' → ∃ m', m' < m ∧ W (i + 1) m' H') ∧ ∀ x H', J.yld i H x H' → G x (wipe σ vs) H' fun σ2 H2 => wipe σ2 vs = wipe σ vs ∧ tt σ2 H2 fun b H3 =>
        if b = true then tk σ2 H3 fun y H4 => tv σ2 H4 fun z H5 => ∃ kvs k, y = kV k ∧ H5 D = some (.dK kvs) ∧ kvs.length < sizeLine ∧ Nx (upd H5 D (.dK (putK kvs k z))) else Nx H3) := by
  let Turn : Nat → Nat → Hp → Prop := fun i left H => left + i = n ∧ Pv i H
  refine ⟨Turn, ⟨n, rfl, h0⟩, fun i left H ⟨sum, p⟩ => ?_⟩
  have stands := hG i H (by omega) p
  rcases Nat.eq_or_lt_of_le (show i ≤ n by omega) with full | more
  · cases full
    exact .inl ⟨w.stops H stands, hd H p⟩
  · exact .inr ⟨w.goes i H more stands, Pv (i + 1), fun H' p' => ⟨left - 1, by omega, by omega, p'⟩, fun v H' y => hs i v H H' more p (w.yields i H v H' more stands y)⟩
/-- {k: v for k, v in d.items() if ..} where d is looked up by a reading, locked for the time -/
theorem dcI_go {td : TE} {d : Addr} {kvs : List (Key × V)} (hd : H d = some (.dK kvs)) (up : ∀ od (Q' : VK), (∀ v H1, v = .ref d ∧ H1 = upd H d (.frz od (.dK kvs)) → Q' v H1) → td σ (upd H d (.frz od (.dK kvs))) Q')
    (Pv : Obj → Addr → Nat → List (Key × V) → Hp → Prop) (h0 : ∀ od D, upd H d (.frz od (.dK kvs)) D = none → Pv od D 0 [] (upd (upd H d (.frz od (.dK kvs))) D (.dK []))) (hG : ∀ od D i acc H', Pv od D i acc H' → H' d = some (.frz od (.dK kvs)))
    (hs : ∀ od D (i : Nat) k v T acc H', kvs[i]? = some (k, v) → upd H d (.frz od (.dK kvs)) D = none → H' D = some (.dK acc) → Pv od D i acc H' → H' T = none → G (.ref T) (wipe σ vs) (upd H' T (.tup [kV k, v])) fun σ2 H2 => wipe σ2 vs = wipe σ vs ∧ tt σ2 H2 fun b H3 =>
      if b = true then tk σ2 H3 fun y H4 => tv σ2 H4 fun z H5 => ∃ acc k, y = kV k ∧ H5 D = some (.dK acc) ∧ acc.length < sizeLine ∧ (∃ ac, (upd H5 D (.dK (putK acc k z))) D = some (.dK ac) ∧ Pv od D (i + 1) ac (upd H5 D (.dK (putK acc k z)))) else ∃ ac, H3 D = some (.dK ac) ∧ Pv od D (i + 1) ac H3)
    (he : ∀ od D acc H', upd H d (.frz od (.dK kvs)) D = none → H' D = some (.dK acc) → Pv od D kvs.length acc H' → Q (.ref D) (upd H' d (.dK kvs))) : tLockE (tDc (iItems td) G tt tk tv vs) σ H Q := by
  refine ⟨d, .dK kvs, hd, trivial, fun od => up od _ ?_⟩
  rintro v H1 ⟨rfl, rfl⟩
  refine ⟨d, od, kvs, rfl, upd_same, fun D hD => dc_it walk_items (fun i H' => ∃ acc, H' D = some (.dK acc) ∧ Pv od D i acc H') ⟨[], upd_same, h0 od D hD⟩ (fun i H' _ ⟨acc, _, p⟩ => hG od D i acc H' p) ?_ fun H' ⟨acc, ha, p⟩ => ⟨hG _ _ _ _ _ p, he od D acc H' hD ha p⟩⟩
  rintro i v H1 H' hi ⟨acc, ha, p⟩ ⟨T, x, y, ev, hT, eH, ex, ey⟩
  subst ev eH
  replace ex : kvs[i]?.map (fun kv => kV kv.1) = some x := ex
  replace ey : kvs[i]?.map Prod.snd = some y := ey
  cases hk : kvs[i]? with
  | none => rw [hk] at ex; cases ex
  | some kv =>
    rw [hk] at ex ey
    cases ex; cases ey
    exact hs od D i kv.1 kv.2 T acc H1 hk hD ha p hT
theorem Keep.unlock {M : List Addr} {H' : Hp} {d : Addr} {o f : HO} (h : H d = some o) (k : Keep M (upd H d f) H') : Keep M H (upd H' d o) := fun b u n e => by
  by_cases c : b = d
  · subst c; rw [h] at e; cases e; exact upd_same
  · rw [upd_ne c]; exact k b u n (by rw [upd_ne c]; exact e)
theorem r_any {a : Addr} {bs : List Bool} (h : SqL K H a (bs.map V.bl)) (k : Q (.bl (bs.any id)) H) : rAny K [V.ref a] H Q := ⟨a, bs, rfl, h, k⟩
theorem r_truD {p : Addr} {kvs : List (Key × V)} {QB : Bool → Hp → Prop} (h : H p = some (.dK kvs)) (k : QB (!kvs.isEmpty) H) : ∃ b, TruV K (.ref p) H b ∧ QB b H := ⟨_, .inr (.inr ⟨kvs, h, rfl⟩), k⟩
end
/-! ### == and != of two dicts whose values are the same things -/
def SameV (v : V) : Prop := flatB v = true ∨ ∃ a, v = .ref a
theorem eqAt_sameV {A : Around} {s : Shared} {v : V} {u u' : Value} (r : RelV v u) (r' : RelV v u') (f : SameV v) : SeqAt.EqAt A s u u' true := by
  rcases f with f | ⟨a, rfl⟩
  · exact eqAt_same r r' f
  · cases (show u = Value.ref a from r)
    cases (show u' = Value.ref a from r')
    exact SeqAt.EqAt.same _
theorem hits_same {A : Around} {s : Shared} {ls : List (Key × V)} {lv : List (Key × Value)} (rl : KV ls lv) {us : List (Key × V)} {uv : List (Key × Value)} (ru : KV us uv) :
    (∀ e ∈ us, valV ls e.1 = some e.2 ∧ SameV e.2) → PySem.W.KeqHits A s lv uv true := by
  unfold KV at ru
  induction ru with
  | nil => exact fun _ => .nil
  | @cons e f es fs both more ih =>
    intro all
    have first := all e List.mem_cons_self
    have look : RelO (some e.2) (valueAt lv e.1) := first.1 ▸ rl.val e.1
    obtain ⟨there, found, rel⟩ := look.some_of
    obtain ⟨key, worth⟩ := f
    rw [show e.1 = key from both.1] at found
    show PySem.W.KeqHits A s lv ((key, worth) :: fs) (true && true)
    exact .hit found (eqAt_sameV both.2 rel first.2) (ih fun g hg => all g (List.mem_cons_of_mem _ hg))
def SameD (x y : V) (H : Hp) : Prop := ∃ a b ks ls, x = .ref a ∧ y = .ref b ∧ H a = some (.dK ks) ∧ H b = some (.dK ls) ∧ ks.length = ls.length ∧ (∀ p ∈ ks, valV ls p.1 = some p.2 ∧ SameV p.2)
def rEqSame : R2 := fun x y H Q => SameD x y H ∧ Q (.bl true) H
def rNeSame : R2 := fun x y H Q => SameD x y H ∧ Q (.bl false) H
theorem same_run {X : Cx} {pins : List (Addr × Obj)} {σ : L2.St} {H : Hp} {s : Shared} {x y : V} {v u : Value} (I : Inv X pins σ H s) (rx : RelV x v) (ry : RelV y u) (d : SameD x y H) : ∃ (a b : Addr) (fa fb : List (Key × Value)), v = .ref a ∧ u = .ref b ∧
    (a == sysModules) = false ∧ (b == sysModules) = false ∧ s.heap.DictOf (mixKind X.prog X.w) a fa ∧ s.heap.DictOf (mixKind X.prog X.w) b fb ∧ fa.length = fb.length ∧ PySem.W.KeqHits X.A.in1 s fb fa true := by
  obtain ⟨a, b, ks, ls, rfl, rfl, ha, hb, len, same⟩ := d
  have oa : ObjOk X.prog X.w H s.heap a (.dK ks) := I.hok a _ ha
  have ob : ObjOk X.prog X.w H s.heap b (.dK ls) := I.hok b _ hb
  obtain ⟨_, na, fa, ra, da⟩ := oa
  obtain ⟨_, nb, fb, rb, db⟩ := ob
  exact ⟨a, b, fa, fb, rx, ry, na, nb, da, db, by have h1 := ra.length; have h2 := rb.length; omega, hits_same rb ra same⟩
theorem op_eqSame {X : Cx} (small : X.A.units < cLine) : OpR X (compareOp .Eq) rEqSame := by
  rintro pins s σ H x y v u Q I rx ry ⟨d, q⟩
  obtain ⟨a, b, fa, fb, rfl, rfl, na, nb, da, db, len, hits⟩ := same_run I rx ry d
  exact PySem.W.keq_eq (r := true) na nb da db small (fun _ => hits) ⟨.bl true, H, I, by simp [len]; rfl, q⟩
theorem op_neSame {X : Cx} (small : X.A.units < cLine) : OpR X (compareOp .NotEq) rNeSame := by
  rintro pins s σ H x y v u Q I rx ry ⟨d, q⟩
  obtain ⟨a, b, fa, fb, rfl, rfl, na, nb, da, db, len, hits⟩ := same_run I rx ry d
  exact PySem.W.keq_ne (r := true) na nb da db small (fun _ => hits) ⟨.bl false, H, I, by simp [len]; rfl, q⟩
theorem val_self : ∀ {ks : List (Key × V)}, (ks.map (·.1)).Nodup → ∀ p ∈ ks, valV ks p.1 = some p.2
  | [], _, p, h => by simp at h
  | kv :: ks, n, p, h => by
    rw [List.map_cons, List.nodup_cons] at n
    rcases List.mem_cons.mp h with e | h
    · subst e; unfold valV; simp
    · have ne : kv.1 ≠ p.1 := fun e => n.1 (by rw [e]; exact List.mem_map_of_mem h)
      have ih := val_self n.2 p h
      unfold valV at ih ⊢
      rw [List.find?_cons_of_neg (by simpa using ne)]
      exact ih
theorem same_self {H : Hp} {a b : Addr} {ks : List (Key × V)} (ha : H a = some (.dK ks)) (hb : H b = some (.dK ks)) (n : (ks.map (·.1)).Nodup) (h : ∀ p ∈ ks, SameV p.2) : SameD (.ref a) (.ref b) H :=
  ⟨a, b, ks, ks, rfl, rfl, ha, hb, rfl, fun p hp => ⟨val_self n p hp, h p hp⟩⟩
namespace Dt
/-! ### dicts with tuples as keys: walked by values and by items -/
abbrev Tb := List (List Key × V)
/-- a locked dict, its entries as they are stored -/
theorem raw {X : Cx} {pins : List (Addr × Obj)} {σ : L2.St} {H : Hp} {s : Shared} {d : Addr} {o : Obj} {kvs : Tb} (I : Inv X pins σ H s) (h : H d = some (.frz o (.dT kvs))) :
    (d == sysModules) = false ∧ ∃ (es : Array DictEntry) (ep : Nat), o.data = .dict es ep ∧ es.size = kvs.length ∧ s.heap.DictRaw d es ep ∧
      ∀ (i : Nat) (hi : i < es.size), ∃ (k : List Key) (v : V) (q : Addr), kvs[i]? = some (k, v) ∧ es[i].key = .ref q ∧ H q = some (.tup (k.map kV)) ∧ RelV v es[i].val := by
  obtain ⟨stands, _, apart, cells, pairs, o2, es, ep, stands2, exact, data, list, _⟩ := I.hok d _ h
  obtain rfl : o2 = o := Option.some.inj (stands2.symm.trans stands)
  have len : es.size = cells.length := size_of_entries list
  have len2 : kvs.length = cells.length := Paired.length pairs
  refine ⟨apart, es, ep, data, by omega, ⟨_, stands, exact, data⟩, fun i hi => ?_⟩
  have more : i < kvs.length := by omega
  obtain ⟨c, at1, e1, e2, e3⟩ := L2.paired_get pairs (List.getElem?_eq_getElem more)
  have entry := entry_at list i
  rw [at1, Array.getElem?_eq_getElem hi] at entry
  have entry' : es[i] = entryOfKey (tupleKind (mixKind X.prog X.w)) c := Option.some.inj entry
  refine ⟨kvs[i].1, kvs[i].2, c.2.1, List.getElem?_eq_getElem more, by rw [entry']; rfl, e2, by rw [entry']; exact e3⟩
/-- the values, one by one -/
def Vals (d : Addr) (o : Obj) (kvs : Tb) : It :=
  ⟨fun i H => H d = some (.frz o (.dT kvs)) ∧ i < kvs.length, fun i H x H' => H' = H ∧ ∃ k, kvs[i]? = some (k, x), fun i H => H d = some (.frz o (.dT kvs)) ∧ kvs.length ≤ i⟩
/-- the pairs: the key's own tuple and the value, in a new tuple -/
def Items (d : Addr) (o : Obj) (kvs : Tb) : It :=
  ⟨fun i H => H d = some (.frz o (.dT kvs)) ∧ i < kvs.length, fun i H x H' => ∃ (T q : Addr) (k : List Key) (v : V), kvs[i]? = some (k, v) ∧ H q = some (.tup (k.map kV)) ∧ x = .ref T ∧ H T = none ∧ H' = upd H T (.tup [.ref q, v]), fun i H => H d = some (.frz o (.dT kvs)) ∧ kvs.length ≤ i⟩
section
variable {P : Program} {w : World} {K : PySem.W.Frag} {d : Addr} {o : Obj} {es : Array DictEntry} {ep : Nat} {kvs : Tb}
theorem turn_vals {tg : Expr} (it : Addr) (data : o.data = .dict es ep) : Turn P w K tg (Vals d o kvs) [it] it (fun i h => h.IsValIter it d i es.size ep) := by
  refine ⟨List.mem_singleton.mpr rfl, fun i h st b hb => ?_, fun i h h' st k => st.at fun u e => k it (List.mem_singleton.mpr rfl) u e, ?_, ?_, fun A i s Q E st h => wpAny_pyIter_valiter st h⟩
  · obtain ⟨u, e, _, fields⟩ := st
    rw [List.mem_singleton.mp hb]
    exact ⟨u, e, fun v z => by rw [fields] at z; cases z⟩
  · intro X hP hw hK calm i pins s σ H E I own st go
    subst hP hw hK
    obtain ⟨locked, more⟩ := go
    obtain ⟨g0, g1, g2, g3, g4, g5⟩ := own it (List.mem_singleton.mpr rfl)
    obtain ⟨_, es2, ep2, data2, len, stands, entries⟩ := raw I locked
    obtain ⟨rfl, rfl⟩ := dict_ep data data2
    obtain ⟨k, v, q, at1, _, _, rel⟩ := entries i (by omega)
    refine PySem.wpAny_pyNext_values_item_raw st stands (by omega) fun h' st' but => ?_
    have I' := I.turned (h' := h') (t' := s.toks) (fun b u hb e => (but.2 b hb).trans e) g0 g1 g3 g4 g5
    obtain ⟨oi, e, c, dd⟩ := id st'
    exact ⟨_, rfl, go_of (s := { s with heap := h' }) e c dd (by decide) ⟨v, H, I', rel, ⟨rfl, k, at1⟩, st', fun b hb => (own b hb).1⟩⟩
  · intro X hP hw hK calm i pins s σ H E I own st stop
    subst hP hw hK
    obtain ⟨locked, full⟩ := stop
    obtain ⟨g0, g1, g2, g3, g4, g5⟩ := own it (List.mem_singleton.mpr rfl)
    obtain ⟨_, es2, ep2, data2, len, stands, _⟩ := raw I locked
    obtain ⟨rfl, rfl⟩ := dict_ep data data2
    exact PySem.wpAny_pyNext_values_end_raw (I.ok.hd calm) st stands (by omega) fun h' but => ⟨rfl, I.turned (t' := s.toks) (fun b u hb e => but b u hb e) g0 g1 g3 g4 g5⟩
theorem turn_items {elts : List Expr} {kk : Nat} {tpos : Pos} (it : Addr) (data : o.data = .dict es ep) : Turn P w K (.Tuple elts kk tpos) (Items d o kvs) [it] it (fun i h => ∃ x y, IsItemIter h it d i es.size ep x y) := by
  refine ⟨List.mem_singleton.mpr rfl, fun i h st b hb => ?_, fun i h h' st k => ?_, ?_, ?_, fun A i s Q E st h => ?_⟩
  · obtain ⟨x, y, e⟩ := st
    rw [List.mem_singleton.mp hb]
    exact ⟨_, e, fun v z => nomatch z⟩
  · obtain ⟨x, y, e⟩ := st
    exact ⟨x, y, k it (List.mem_singleton.mpr rfl) _ e⟩
  · intro X hP hw hK calm i pins s σ H E I own st go
    subst hP hw hK
    obtain ⟨locked, more⟩ := go
    obtain ⟨_, es2, ep2, data2, len, stands, entries⟩ := raw I locked
    obtain ⟨rfl, rfl⟩ := dict_ep data data2
    obtain ⟨k, v, q, at1, key, tup, rel⟩ := entries i (by omega)
    obtain ⟨x, y, here⟩ := st
    have young : it < s.heap.objs.size := Heap.lt_size here
    refine PySem.wpAny_pyNext_items_item_raw here stands (by omega) fun h' out pair _ kept => ⟨_, rfl, ?_⟩
    refine wpAny_letOwnedTupleGo_items (s := { s with heap := h' }) out fun h2 back but => ?_
    have pair2 := (but.2 _ (Nat.ne_of_gt young)).trans pair
    have laid : ObjOk X.prog X.w (upd H s.heap.objs.size (.tup [.ref q, v])) h2 s.heap.objs.size (.tup [.ref q, v]) := by
      refine ⟨show 2 ≤ sizeLine by decide, [(es2[i]'(by omega)).key, (es2[i]'(by omega)).val], .cons ?_ (.cons rel .nil), _, pair2, rfl, _, rfl⟩
      rw [key]; rfl
    have I' := I.turnedNew (t' := s.toks) (ch := [it]) (fun b u hb e => (but.2 b (by simpa using hb)).trans (kept b u (by simpa using hb) e)) own (Nat.le_refl _) laid
    refine ⟨.ref s.heap.objs.size, _, I', rfl, ⟨_, q, k, v, at1, tup, rfl, I.hok.fresh (Nat.le_refl _), rfl⟩, ⟨_, _, back⟩, fun b hb => ?_⟩
    rw [List.mem_singleton.mp hb, upd_ne (Nat.ne_of_lt young)]
    exact (own it (List.mem_singleton.mpr rfl)).1
  · intro X hP hw hK calm i pins s σ H E I own st stop
    subst hP hw hK
    obtain ⟨locked, full⟩ := stop
    obtain ⟨g0, g1, g2, g3, g4, g5⟩ := own it (List.mem_singleton.mpr rfl)
    obtain ⟨_, es2, ep2, data2, len, stands, _⟩ := raw I locked
    obtain ⟨rfl, rfl⟩ := dict_ep data data2
    obtain ⟨x, y, here⟩ := st
    exact PySem.wpAny_pyNext_items_end_raw (I.ok.hd calm) here stands (by omega) fun h' but => ⟨rfl, I.turned (t' := s.toks) (fun b u hb e => but b u hb e) g0 g1 g3 g4 g5⟩
  · obtain ⟨x, y, e⟩ := st
    exact PySem.W.kcp_self e h
end
/-! ### d.values() and d.items() of a locked dict, in a loop's head -/
def iValsT (td : TE) : TI := fun σ H R => td σ H fun x H1 => ∃ d o kvs, x = .ref d ∧ H1 d = some (.frz o (.dT kvs)) ∧ R (Vals d o kvs) H1
def iItemsT (td : TE) : TI := fun σ H R => td σ H fun x H1 => ∃ d o kvs, x = .ref d ∧ H1 d = some (.frz o (.dT kvs)) ∧ R (Items d o kvs) H1
section
variable {X : Cx} {tg e : Expr} {td : TE} {apos cpos : Pos}
theorem noDict {s : Shared} {d : Addr} {es : Array DictEntry} {ep : Nat} (h : s.heap.DictRaw d es ep) : ∀ b, Value.ref d = .ref b → ∃ ob, s.heap.get? b = some ob ∧ ob.dict = none := fun b e => by
  obtain ⟨u, hu, exact, _⟩ := h
  cases e
  exact ⟨u, hu, exact.2.1⟩
theorem pi_valuesT (he : PE X e td) (hbase : attributeBase e "values" X.env (eval e X.env) = eval e X.env := by rfl) (hline : (apos.endLine == cpos.line) = true := by rfl) : PI X tg (.Call (.Attribute e "values" apos) [] [] cpos) (iValsT td) := by
  refine ⟨fun pins s σ H R I h => wpAny_Call_method (T := "dict") (id := "dict.values") hbase rfl hline F.plainAttrs_dict F.slot_dict_values F.type_dict_values (thn (he.run pins s σ H _ I h) fun u s1 h1 => ?_)⟩
  obtain ⟨_, H1, I1, rx, d, o, kvs, rfl, locked, q⟩ := h1
  obtain rfl : u = Value.ref d := rx
  obtain ⟨apart, es, ep, data, len, stands, _⟩ := raw I1 locked
  refine ⟨stands.typeIs, noDict stands, ?_⟩
  have over : ∀ b ob, s1.heap.get? b = some ob → (s1.heap.push { cls := .type "dict_values", data := .fields #[.ref d] }).get? b = some ob := fun b ob e => Heap.get?_push_of_some _ e
  have I2 := I1.kept (t' := s1.toks) over
  have fin : wpAny (model X.prog X.w) X.A (pyIter (.ref s1.heap.objs.size)) (PIE X pins σ tg R) X.xe { s1 with heap := s1.heap.push { cls := .type "dict_values", data := .fields #[.ref d] } } :=
    PySem.wpAny_pyIter_values_raw (d := d) ⟨_, Heap.get?_push_size _ rfl, rfl, rfl⟩ (stands.at fun ob e => over d ob e) (pi_one (tk := s1.toks) I2 _ (turn_vals _ data) ⟨_, Heap.get?_push_size _ rfl, rfl, rfl⟩ q)
  show wpAny _ _ (callWith cpos (.builtin "dict.values") [.ref d] [] []) _ X.xe s1
  exact method_meetsIn F.slot_dict_values F.entry_dict_values rfl (PySem.evalArgs_none ⟨rfl, stands.typeIs, F.args_dict_values_1 _, _, PySem.meets_dict_values_raw d apart, ⟨_, _, stands⟩, fin⟩)
theorem pi_itemsT {elts : List Expr} {kk : Nat} {tpos : Pos} (he : PE X e td) (hbase : attributeBase e "items" X.env (eval e X.env) = eval e X.env := by rfl) (hline : (apos.endLine == cpos.line) = true := by rfl) : PI X (.Tuple elts kk tpos) (.Call (.Attribute e "items" apos) [] [] cpos) (iItemsT td) := by
  refine ⟨fun pins s σ H R I h => wpAny_Call_method (T := "dict") (id := "dict.items") hbase rfl hline F.plainAttrs_dict F.slot_dict_items F.type_dict_items (thn (he.run pins s σ H _ I h) fun u s1 h1 => ?_)⟩
  obtain ⟨_, H1, I1, rx, d, o, kvs, rfl, locked, q⟩ := h1
  obtain rfl : u = Value.ref d := rx
  obtain ⟨apart, es, ep, data, len, stands, _⟩ := raw I1 locked
  refine ⟨stands.typeIs, noDict stands, ?_⟩
  have over : ∀ b ob, s1.heap.get? b = some ob → (s1.heap.push { cls := .type "dict_items", data := .fields #[.ref d] }).get? b = some ob := fun b ob e => Heap.get?_push_of_some _ e
  have I2 := I1.kept (t' := s1.toks) over
  have fin : wpAny (model X.prog X.w) X.A (pyIter (.ref s1.heap.objs.size)) (PIE X pins σ (.Tuple elts kk tpos) R) X.xe { s1 with heap := s1.heap.push { cls := .type "dict_items", data := .fields #[.ref d] } } :=
    PySem.wpAny_pyIter_items_raw (d := d) ⟨_, Heap.get?_push_size _ rfl, rfl, rfl⟩ (stands.at fun ob e => over d ob e) (pi_one (tk := s1.toks) I2 _ (turn_items _ data) ⟨.none, .none, Heap.get?_push_size _ rfl⟩ q)
  show wpAny _ _ (callWith cpos (.builtin "dict.items") [.ref d] [] []) _ X.xe s1
  exact method_meetsIn F.slot_dict_items F.entry_dict_items rfl (PySem.evalArgs_none ⟨rfl, stands.typeIs, F.args_dict_items_1 _, _, PySem.meets_dict_items_raw d apart, ⟨_, _, stands⟩, fin⟩)
end
/-! ### a dict comprehension whose keys are tuples -/
/-- D[q] = v by a comprehension, q a tuple -/
theorem dictSetT {X : Cx} {pins : List (Addr × Obj)} {σ : L2.St} {H : Hp} {s : Shared} {E : Value → Shared → Prop} {D q : Addr} {kvs : Tb} {k : List Key} {v : V} {r : Value} {Q : Unit → Shared → Prop} (hu : X.A.units < cLine) (I : Inv X pins σ H s) (at1 : H D = some (.dT kvs)) (few : kvs.length < sizeLine)
    (tup : H q = some (.tup (k.map kV))) (rv : RelV v r) (then1 : ∀ s', Inv X pins σ (upd H D (.dT (putK kvs k v))) s' → Q () s') : wpAny (model X.prog X.w) X.A (dictSet D (.ref q) r) Q E s := by
  obtain ⟨small, apart, cells, pairs, held⟩ := dt_of I.hok at1
  have small2 : cells.length ≤ sizeLine := by rw [← Paired.length pairs]; exact small
  have small3 : (putK kvs k v).length ≤ sizeLine := by have := length_putK kvs k v; omega
  refine wpAny_dictSet_heap (hsz := small2) (show X.A.units < cLine from hu) (key_of I.hok tup) held fun h' held' but => then1 _ ?_
  obtain ⟨u, es, ep, stands, a1, a2, a3, _, a4⟩ := held'
  have pairs' : Paired (fun (p : List Key × V) (c : List Key × Addr × Value) => p.1 = c.1 ∧ (upd H D (.dT (putK kvs k v))) c.2.1 = some (.tup (p.1.map kV)) ∧ RelV p.2 c.2.2) (putK kvs k v) (storedH cells k q r) :=
    KT.keeps (KT.put pairs k tup rv) fun c ys ec => by rw [upd_ne (ne_of ec at1 (fun z => nomatch z))]; exact ec
  exact d_write I (by rw [at1]; exact True.intro) but ⟨u, stands⟩ ⟨small3, apart, _, pairs', u, es, ep, stands, a1, a2, a3, a4⟩
section
variable {X : Cx}
/-- {k: v for target in iter if ..}, the keys tuples: D the new dict -/
def tDcT (wi : TI) (g : TG) (tt : TT) (tk tv : TE) (vs : List Nat) : TE := fun σ H Q => wi σ H fun J H1 => ∀ D, H1 D = none → ∃ W : Nat → Nat → Hp → Prop, (∃ m, W 0 m (upd H1 D (.dT []))) ∧ ∀ i m H, W i m H →
  (J.stop i H ∧ Q (.ref D) H) ∨ (J.go i H ∧ ∃ Nx : Hp → Prop, (∀ H', Nx H' → ∃ m', m' < m ∧ W (i + 1) m' H') ∧ ∀ x H', J.yld i H x H' → g x (wipe σ vs) H' fun σ2 H2 => wipe σ2 vs = wipe σ vs ∧ tt σ2 H2 fun b H3 =>
    if b = true then tk σ2 H3 fun y H4 => tv σ2 H4 fun z H5 => ∃ (kvs : Tb) (k : List Key) (q : Addr), y = .ref q ∧ H5 q = some (.tup (k.map kV)) ∧ H5 D = some (.dT kvs) ∧ kvs.length < sizeLine ∧ Nx (upd H5 D (.dT (putK kvs k z))) else Nx H3)
theorem pe_dcT {kx vx tg iter : Expr} {ifs : List Expr} {scope : Scope} {own : List (Str × Nat)} {pos : Pos} {wi : TI} {g : TG} {tt : TT} {tk tv : TE} (small : X.A.units < cLine) (calm : X.calm = true) (nodup : X.N.Nodup) (hi : PI X tg iter wi) (ok : BlkOk X.N X.env.scope scope own)
    (hg : ∀ (s : Shared) (H : Hp) (C : Addr) (cl : List (Str × Addr)) (fp : List Addr), PG (X.blk s H scope (compEnvC scope cl C X.env) fp) tg g) (ht : ∀ (s : Shared) (H : Hp) (C : Addr) (cl : List (Str × Addr)) (fp : List Addr), PTs (X.blk s H scope (compEnvC scope cl C X.env) fp) ifs tt)
    (hk : ∀ (s : Shared) (H : Hp) (C : Addr) (cl : List (Str × Addr)) (fp : List Addr), PE (X.blk s H scope (compEnvC scope cl C X.env) fp) kx tk) (he : ∀ (s : Shared) (H : Hp) (C : Addr) (cl : List (Str × Addr)) (fp : List Addr), PE (X.blk s H scope (compEnvC scope cl C X.env) fp) vx tv)
    (unfolded : ∀ x, foldedSetIterable iter X.env x = pure x := by intro _; rfl) : PE X (.DictComp kx vx [⟨tg, iter, ifs, 0⟩] scope pos) (tDcT wi g tt tk tv (own.map (·.2))) := by
  refine ⟨fun pins s0 σ H0 Q I0 wish => ?_⟩
  rw [arm_eval_DictComp]
  have bound : ∀ y ∈ scope.names, y.2 = .free → ∃ c, X.env.cells.lookup y.1 = some c := fun y hy e => (ok.free y hy e).elim (fun k => I0.ok.has _ (.inl k)) fun k => I0.ok.has _ (.inr k)
  refine wpAny_comprehension_free (use := none) rfl unfolded (closure_ok bound) ok.kind (fun y hy e => by rw [ok.uniq y hy, e]) (thn (hi.run pins s0 σ H0 _ I0 wish) fun xv sA walked => thn walked fun itv sB arrived => ?_)
  obtain ⟨it, fp, tn, J, HB, rfl, IB, T, stB, fpB, made⟩ := arrived
  refine wpAny_newObj_type (newEnv_comp ?_)
  -- the new dict
  obtain ⟨D, hD⟩ : ∃ D, sB.heap.objs.size = D := ⟨_, rfl⟩
  have free : HB D = none := IB.hok.fresh (Nat.le_of_eq hD)
  obtain ⟨W, ⟨m0, w0⟩, turn⟩ := made D free
  let sC : Shared := { sB with heap := sB.heap.push { cls := .type "dict", data := .dict #[] } }
  have over : ∀ b u, sB.heap.get? b = some u → sC.heap.get? b = some u := fun b u e => Heap.get?_push_of_some _ e
  have IC : Inv X pins σ (upd HB D (.dT [])) sC := IB.laid (t' := sB.toks) over (Nat.le_of_eq hD) (by rw [← hD]; exact dt_empty sB.heap IB.big)
  have fpC : ∀ b ∈ fp, FpOk X pins (upd HB D (.dT [])) b ∧ b < sC.heap.objs.size := fun b hb => by
    obtain ⟨u, e, _⟩ := T.obj _ _ stB b hb
    have lt := Heap.lt_size e
    refine ⟨⟨?_, (fpB b hb).2⟩, by show b < (sB.heap.push _).objs.size; rw [Heap.size_push]; exact Nat.lt_succ_of_lt lt⟩
    rw [upd_ne (by rw [← hD]; exact Nat.ne_of_lt lt)]
    exact (fpB b hb).1
  -- the block of names
  have ID := block_start IC ok nodup fpC
  let cells := cellsFrom (sC.heap.objs.size + 1) scope.names (cloFrom X.env.cells scope.names [])
  have pg := hg sC (upd HB D (.dT [])) sC.heap.objs.size cells fp
  have pt := ht sC (upd HB D (.dT [])) sC.heap.objs.size cells fp
  have pk := hk sC (upd HB D (.dT [])) sC.heap.objs.size cells fp
  have pv := he sC (upd HB D (.dT [])) sC.heap.objs.size cells fp
  let env2 := compEnvC scope cells sC.heap.objs.size X.env
  let X2 := X.blk sC (upd HB D (.dT [])) scope env2 fp
  let sD : Shared := { sC with heap := pushCells (sC.heap.push { cls := .type "dict", data := .dict #[] }) scope.names }
  have stD : tn 0 sD.heap := T.keep _ _ _ (T.keep _ _ _ stB fun b _ u e => over b u e) fun b _ u e => pushCells_keeps _ _ _ _ (Heap.get?_push_of_some _ e)
  have stays : ∀ {σ' : L2.St} {H' : Hp} {s' : Shared}, Inv X2 [] σ' H' s' → (∀ b ∈ fp, H' b = none) → ∀ b ∈ fp, FpOk X2 [] H' b := fun {σ' H' s'} I' none' b hb =>
    ⟨none' b hb, (I'.ok.exf b hb).1, I'.ok.exfs b hb, .inl hb, fun x c e => (I'.ok.exf b hb).2 x c e, fun p hp => absurd (show p ∈ ([] : List (Addr × Obj)) ++ [] from hp) (by simp)⟩
  let Q0 : Value → Shared → Prop := fun v s' => ∃ x H', Inv X pins σ H' s' ∧ RelV x v ∧ Q x H'
  have loop : codeAny (model X.prog X.w) X.A (.compLoop (.DictComp kx vx [⟨tg, iter, ifs, 0⟩] scope pos) 0 (.ref it) (.ref D) env2) (compPost (model X.prog X.w) X.A X.xe none Q0 (.ref D) sC.heap.objs.size) sD := by
    refine compLoop_anyD (fun m s' => ∃ i H', Inv X2 [] (wipe σ (own.map (·.2))) H' s' ∧ tn i s'.heap ∧ (∀ b ∈ fp, H' b = none) ∧ W i m H') ?_ m0 ⟨0, _, ID, stD, fun b hb => (fpC b hb).1.1, w0⟩
    rintro m s1 ⟨i, H1, I1, st1, none1, w1⟩
    rcases turn i m H1 w1 with ⟨stop, last⟩ | ⟨go, Nx, less, step⟩
    · refine thnF (T.done X2 rfl rfl rfl calm i [] s1 _ H1 (fun _ _ => False) I1 (stays I1 none1) st1 stop) fun r s2 ⟨hr, I2⟩ => ?_
      subst hr
      have back : Inv X pins σ H1 s2 := IC.call' (ch := fp) I2.os I2.base I2.hok I2.bare fun b hb => ⟨(fpC b hb).1.2.2.2.1, (fpC b hb).1.2.1, (fpC b hb).1.2.2.2.2.1, (fpC b hb).1.2.2.2.2.2⟩
      have freeC : H1 sC.heap.objs.size = none := I2.free
      obtain ⟨names, held, _⟩ := I2.loc
      refine ⟨names, held, fun h2 but => ?_⟩
      obtain ⟨f0, f1, f2, f3, f4, f5⟩ := IC.fpOk (Nat.le_refl _) freeC
      exact ⟨.ref D, H1, back.turned (t' := s2.toks) (fun b u hb e => (but.2 b hb).trans e) f0 f1 f3 f4 f5, rfl, last⟩
    · refine thnF (T.item X2 rfl rfl rfl calm i [] s1 _ H1 (fun _ _ => False) I1 (stays I1 none1) st1 go) fun r s2 ⟨u, hr, taken⟩ => ?_
      subst hr
      refine thnF taken fun _ s3 ⟨x, H3, I3, r3, y3, st3, none3⟩ => ?_
      refine thnF (pg.run _ s3 _ H3 x u _ (I3.pinned (stays I3 none3) (T.obj _ _ st3)) r3 (step x H3 y3)) fun _ s4 ⟨σ4, H4, I4, wiped, q4⟩ => ?_
      refine thnF (pt.run _ s4 σ4 H4 _ I4 q4) fun b s5 ⟨H5, I5, q5⟩ => ?_
      have turned : ∀ {s' : Shared} {H' : Hp}, Inv X2 ([] ++ pinsAt fp s3.heap) σ4 H' s' → Nx H' → ∃ m', m' < m ∧ ∃ i H', Inv X2 [] (wipe σ (own.map (·.2))) H' s' ∧ tn i s'.heap ∧ (∀ b ∈ fp, H' b = none) ∧ W i m' H' := fun {s' H'} I' nx => by
        obtain ⟨m', lt, w'⟩ := less H' nx
        have pin : ∀ b ∈ fp, ∀ u, s3.heap.get? b = some u → s'.heap.get? b = some u ∧ H' b = none := fun b hb u e =>
          have z := I'.pin (b, u) (List.mem_append_right _ (List.mem_append_right _ (mem_pinsAt hb e)))
          ⟨z.1, z.2.1⟩
        have same : (wipe σ (own.map (·.2))).length = σ4.length := by rw [← wiped, wipe_length]
        refine ⟨m', lt, i + 1, H', (I'.unpinned (pins := [])).weak same (fun j v e => ?_), T.keep _ _ _ st3 fun b hb u e => (pin b hb u e).1, fun b hb => ?_, w'⟩
        · rw [← wiped] at e; exact (wipe_some e).1
        · obtain ⟨u, e, _⟩ := T.obj _ _ st3 b hb
          exact (pin b hb u e).2
      cases b with
      | false => exact turned I5 q5
      | true =>
        refine thnF (pk.run _ s5 σ4 H5 _ I5 q5) fun kv s6 ⟨yk, H6, I6, r6, q6⟩ => ?_
        refine thnF (pv.run _ s6 σ4 H6 _ I6 q6) fun vv s7 ⟨yv, H7, I7, r7, kvs, k, q, ek, tup, at7, few, nx⟩ => ?_
        subst ek
        cases (show kv = Value.ref q from r6)
        exact dictSetT (X := X2) small I7 at7 few tup r7 fun s8 I8 => turned I8 nx
  subst hD
  show codeAny (model X.prog X.w) X.A (.compStart (.DictComp kx vx [⟨tg, iter, ifs, 0⟩] scope pos) 0 (.ref it) (.ref sB.heap.objs.size) env2) (compPost (model X.prog X.w) X.A X.xe none Q0 (.ref sB.heap.objs.size) sC.heap.objs.size) sD
  exact codeAny_compStart_dict loop (T.self X.A 0 _ _ _ stD loop)
end
/-! ### d.setdefault(q, v), the keys tuples -/
def tSetdT (td ty tx : TE) : TE := fun σ H Q => td σ H fun x H1 => ∃ a, x = .ref a ∧ IsD H1 a ∧ ty σ H1 fun y H2 => tx σ H2 fun z H3 => ∃ (kvs : Tb) (k : List Key) (q : Addr), H3 a = some (.dT kvs) ∧ y = .ref q ∧ H3 q = some (.tup (k.map kV)) ∧ kvs.length < sizeLine ∧
  (∀ v, valV kvs k = some v → Q v H3) ∧ (valV kvs k = none → Q z (upd H3 a (.dT (putK kvs k z))))
theorem setdefaultT {X : Cx} {pins : List (Addr × Obj)} {σ : L2.St} {H : Hp} {s : Shared} {a q : Addr} {r : Value} {v : V} {k : List Key} {kvs : Tb} {E Q : Value → Shared → Prop} (small : X.A.units + 1 < cLine) (I : Inv X pins σ H s) (at1 : H a = some (.dT kvs)) (tup : H q = some (.tup (k.map kV))) (rv : RelV v r) (few : kvs.length < sizeLine)
    (there : ∀ w, valV kvs k = some w → ∀ (u : Value) (s' : Shared), Inv X pins σ H s' → RelV w u → Q u s') (new : valV kvs k = none → ∀ (u : Value) (s' : Shared), Inv X pins σ (upd H a (.dT (putK kvs k v))) s' → RelV v u → Q u s') :
    wpAny (model X.prog X.w) X.A (call (.builtin "dict.setdefault") [.ref a, .ref q, r]) Q E s := by
  obtain ⟨fits, apart, cells, pairs, held⟩ := dt_of I.hok at1
  have look := pairs.val k
  refine PySem.call_setdefault_heap (hsz := by rw [← Paired.length pairs]; exact fits) (show X.A.in1.units < cLine from small) (key_of I.hok tup) apart held (fun p hp => ?_) fun hn h' held' but => ?_
  · rw [hp] at look
    cases e : valV kvs k with
    | none => rw [e] at look; exact (show False from look).elim
    | some w => rw [e] at look; exact there w e _ _ (I.tok _) look
  · rw [hn] at look
    cases e : valV kvs k with
    | some w => rw [e] at look; exact (show False from look).elim
    | none =>
      obtain ⟨u, es, ep, stands, a1, a2, a3, _, a4⟩ := held'
      have fits2 : (putK kvs k v).length ≤ sizeLine := by have := length_putK kvs k v; omega
      have pairs' : Paired (fun (p : List Key × V) (c : List Key × Addr × Value) => p.1 = c.1 ∧ (upd H a (.dT (putK kvs k v))) c.2.1 = some (.tup (p.1.map kV)) ∧ RelV p.2 c.2.2) (putK kvs k v) (storedH cells k q r) :=
        KT.keeps (KT.put pairs k tup rv) fun c ys ec => by rw [upd_ne (ne_of ec at1 (fun z => nomatch z))]; exact ec
      exact new e _ _ (d_write I (by rw [at1]; exact True.intro) but ⟨u, stands⟩ ⟨fits2, apart, _, pairs', u, es, ep, stands, a1, a2, a3, a4⟩) rv
theorem pe_setdT {X : Cx} {o e f : Expr} {td ty tx : TE} {apos cpos : Pos} (small : X.A.units + 1 < cLine) (ho : PE X o td) (he : PE X e ty) (hf : PE X f tx) (m : M2 X o "setdefault" apos e f cpos) : PE X (.Call (.Attribute o "setdefault" apos) [e, f] [] cpos) (tSetdT td ty tx) := by
  refine ⟨fun pins s σ H Q I h => wpAny_Call_method m.base m.few m.line PySem.F.plainAttrs_dict PySem.F.slot_dict_setdefault PySem.F.type_dict_setdefault (thn (ho.run pins s σ H _ I h) fun u s1 got => ?_)⟩
  obtain ⟨_, H1, I1, rx, a, rfl, isd, q1⟩ := got
  obtain rfl : u = Value.ref a := rx
  refine ⟨(isD_at I1 isd).1, (isD_at I1 isd).2.1, ?_⟩
  rw [m.trees]
  refine Calls.callWith_builtin rfl (Calls.evalArgs_plain (Calls.spliced_cons (thn (he.run pins s1 σ H1 _ I1 q1) fun key s2 ⟨y, H2, I2, ry, q2⟩ => Calls.spliced_cons (thn (hf.run pins s2 σ H2 _ I2 q2) fun dflt s3 last => Calls.spliced_nil ?_))))
  obtain ⟨z, H3, I3, rz, kvs, k, q, at3, rfl, tup, few, old, new⟩ := last
  cases (show key = Value.ref q from ry)
  exact setdefaultT small I3 at3 tup rz few (fun w hw u s4 I4 ru => ⟨w, _, I4, ru, old w hw⟩) fun hn u s4 I4 ru => ⟨z, _, I4, ru, new hn⟩
/-! ### small rules -/
theorem inD_of {k : Nat} {A : Around} (r : Room k A) : A.units + 65 < cLine := by have := r.un; omega
theorem pa_starK {X : Cx} {K : PySem.W.Frag} {e : Expr} {es : List Expr} {te : TE} {t : TA} {p : Pos} (hK : X.K = K) (he : PE X e te) (hr : PA X es t) (hs : starEach (.Starred e p :: es) X.env = (true, eval e X.env) :: starEach es X.env := by rfl) : PA X (.Starred e p :: es) (tStar K te t) := by
  subst hK; exact pa_star he hr hs
/-- o.m(e, ..) in a try: what is raised is wished for at the caller's slots -/
def tMethSD (C : Addr) (m : Str) (sp : Sp) (dvs : List V) (E : L2.St → XK) (ta : TE) (t : TA) : TE := fun σ H Q => ta σ H fun x H1 => ∃ a dx fs, x = .ref a ∧ H1 a = some (.ins C dx fs) ∧ fs.lookup m = none ∧ t σ H1 fun vs H2 => sp (x :: vs ++ dvs) H2 Q (E σ)
theorem pe_methSD {X : Cx} {CX : CXT} {C f : Addr} {fd : FuncData} {k : Nat} {sp : Sp} {ps : List Str} {ds : List Value} {dvs : List V} {E : L2.St → XK} {m : Str} {o e : Expr} {es : List Expr} {ta : TE} {t : TA} {pos apos : Pos} {pl : Sem Bool} (he : PE X o ta) (c : Cls X.K C) (hm : Meth X.K C m f) (F : FnOk X.prog X.w X.K X.mg X.base CX k f fd ps sp) (hr : Room k X.A)
    (hb : Binds X.K fd ps ds) (hd : L2.Vals dvs ds) (hx : ∀ σ, PassesAt CX X σ (E σ)) (ha : PA X (e :: es) t) (hst : starEach (e :: es) X.env = (false, eval e X.env) :: starEach es X.env := by rfl) (hpl : (backTo pos (starEach es X.env)).any (·.1) = false := by rfl)
    (ht : eval (.Call (.Attribute o m apos) (e :: es) [] pos) X.env = (do
      let ov ← eval o X.env
      standAt apos.atName
      let (g, first) ← holding [ov] (getMethod ov m pl)
      callWith pos g first (backTo pos (starEach (e :: es) X.env)) (backToKw pos (keywordEach [] X.env))) := by rfl) :
    PE X (.Call (.Attribute o m apos) (e :: es) [] pos) (tMethSD C m sp dvs E ta t) := by
  refine ⟨fun pins s σ H Q I h => PySem.W.methodCall_KW (pl := pl) (thn (he.run pins s σ H _ I h) fun u s1 got => ?_) ht⟩
  obtain ⟨_, H1, I1, rx, a, dx, fs, rfl, ea, l, q⟩ := got
  obtain rfl : u = Value.ref a := rx
  refine getmeth_ok I1 ea c hm l (PySem.W.callWith_K (first := [.ref a]) (h₀ := X.base) I.ok.mod.kin hm.kp (thn (ha.run pos pins s1 σ H1 _ I1 q) fun us s2 got2 => ?_) hst hpl)
  obtain ⟨vs, H2, I2, r, q2⟩ := got2
  exact ⟨I2.kIn, run_fnSD (us := .ref a :: us) (vs := .ref a :: vs) F hr hb hd (hx σ) I2 (.cons rfl r) q2⟩
end Dt
/-- a tuple of the written part -/
def SqTK (K : PySem.W.Frag) (a : Addr) (xs : List V) : Prop := ∃ (o : Obj) (its : Array Value) (n : Nat), K.lookup a = some o ∧ o.cls = .type "tuple" ∧ o.data = .seq its n ∧ its.size ≤ sizeLine ∧ L2.Vals xs its.toList
theorem SqTK.at {K : PySem.W.Frag} {a : Addr} {xs : List V} {H : Hp} (h : SqTK K a xs) : SqT K H a xs := .inr h
/-! ### loops over dicts with tuples as keys, and their copies -/
theorem Dt.pe_fldK {X : Cx} {K : PySem.W.Frag} {e : Expr} {f : Str} {ta : TE} {pos : Pos} (hK : X.K = K) (he : PE X e ta) (hb : attributeBase e f X.env (eval e X.env) = eval e X.env) : PE X (.Attribute e f pos) (tFld K ta f) := by subst hK; exact pe_fld he hb
section
variable {d : Addr} {o : Obj} {kvs : Dt.Tb}
theorem walk_valsT : Walk (Dt.Vals d o kvs) kvs.length (fun H => H d = some (.frz o (.dT kvs))) (fun i H x H' => H' = H ∧ ∃ k, kvs[i]? = some (k, x)) :=
  ⟨fun _ _ more q => ⟨q, more⟩, fun _ q => ⟨q, Nat.le_refl _⟩, fun _ _ _ _ _ _ y => y⟩
theorem walk_itemsT : Walk (Dt.Items d o kvs) kvs.length (fun H => H d = some (.frz o (.dT kvs)))
    (fun i H x H' => ∃ (T q : Addr) (k : List Key) (v : V), kvs[i]? = some (k, v) ∧ H q = some (.tup (k.map kV)) ∧ x = .ref T ∧ H T = none ∧ H' = upd H T (.tup [.ref q, v])) :=
  ⟨fun _ _ more q => ⟨q, more⟩, fun _ q => ⟨q, Nat.le_refl _⟩, fun _ _ _ _ _ _ y => y⟩
end
theorem upd_back {H : Hp} {d : Addr} {o f : HO} (h : H d = some o) : upd (upd H d f) d o = H := by
  funext b
  by_cases c : b = d
  · subst c; rw [upd_same, h]
  · rw [upd_ne c, upd_ne c]
section
variable {K : PySem.W.Frag} {σ : L2.St} {H : Hp} {Q : VK} {te tk tv td : TE} {tt : TT} {G : TG} {vs : List Nat} {ts : TS} {D : L2.Ends} {d : Addr} {kvs : Dt.Tb}
/-- for k in d -/
theorem forKT_go (hd : H d = some (.dT kvs)) (up : ∀ od (Q' : VK), Q' (.ref d) (upd H d (.frz od (.dT kvs))) → td σ (upd H d (.frz od (.dT kvs))) Q') (Pv : Obj → Nat → L2.St → Hp → Prop) (h0 : ∀ od, Pv od 0 σ (upd H d (.frz od (.dT kvs)))) (hG : ∀ od i σ' H', Pv od i σ' H' → H' d = some (.frz od (.dT kvs)))
    (hs : ∀ od (i : Nat) k v q σ' H', kvs[i]? = some (k, v) → H' q = some (.tup (k.map kV)) → Pv od i σ' H' → G (.ref q) σ' H' fun σ2 H2 => ts ⟨Pv od (i + 1), fun v H' => H' d = some (.frz od (.dT kvs)) ∧ D.rt v (upd H' d (.dT kvs)), fun σ' H' => H' d = some (.frz od (.dT kvs)) ∧ D.nx σ' (upd H' d (.dT kvs)), Pv od (i + 1)⟩ σ2 H2)
    (he : ∀ od σ' H', Pv od kvs.length σ' H' → D.nx σ' (upd H' d (.dT kvs))) : tLock (tFor (iKeys td) G ts) D σ H := by
  refine ⟨d, .dT kvs, hd, trivial, fun od => up od _ ⟨d, od, rfl, .inr ⟨kvs, upd_same, ?_⟩⟩⟩
  refine for_it walk_keysT (fun i σ' H' => Pv od i σ' H') (h0 od) (fun i σ' H' _ p => hG od i σ' H' p) ?_ fun σ' H' p => ⟨hG _ _ _ _ p, he od σ' H' p⟩
  rintro i x σ' H1 H' hi p ⟨rfl, k, v, q, at1, rfl, tup⟩
  exact hs od i k v q σ' H' at1 tup p
/-- for v in d.values() -/
theorem forVT_go (hd : H d = some (.dT kvs)) (up : ∀ od (Q' : VK), Q' (.ref d) (upd H d (.frz od (.dT kvs))) → td σ (upd H d (.frz od (.dT kvs))) Q') (Pv : Obj → Nat → L2.St → Hp → Prop) (h0 : ∀ od, Pv od 0 σ (upd H d (.frz od (.dT kvs)))) (hG : ∀ od i σ' H', Pv od i σ' H' → H' d = some (.frz od (.dT kvs)))
    (hs : ∀ od (i : Nat) k v σ' H', kvs[i]? = some (k, v) → Pv od i σ' H' → G v σ' H' fun σ2 H2 => ts ⟨Pv od (i + 1), fun v H' => H' d = some (.frz od (.dT kvs)) ∧ D.rt v (upd H' d (.dT kvs)), fun σ' H' => H' d = some (.frz od (.dT kvs)) ∧ D.nx σ' (upd H' d (.dT kvs)), Pv od (i + 1)⟩ σ2 H2)
    (he : ∀ od σ' H', Pv od kvs.length σ' H' → D.nx σ' (upd H' d (.dT kvs))) : tLock (tFor (Dt.iValsT td) G ts) D σ H := by
  refine ⟨d, .dT kvs, hd, trivial, fun od => up od _ ⟨d, od, kvs, rfl, upd_same, ?_⟩⟩
  refine for_it walk_valsT (fun i σ' H' => Pv od i σ' H') (h0 od) (fun i σ' H' _ p => hG od i σ' H' p) ?_ fun σ' H' p => ⟨hG _ _ _ _ p, he od σ' H' p⟩
  rintro i x σ' H1 H' hi p ⟨rfl, k, at1⟩
  exact hs od i k x σ' H' at1 p
/-- [.. for k in d if ..], d locked -/
theorem lcKT_go {od : Obj} (hd : H d = some (.frz od (.dT kvs))) (up : ∀ (Q' : VK), Q' (.ref d) H → td σ H Q') (Pv : Addr → Nat → List V → Hp → Prop) (h0 : ∀ D, H D = none → Pv D 0 [] (upd H D (.lst []))) (hG : ∀ D i acc H', H D = none → Pv D i acc H' → H' d = some (.frz od (.dT kvs)))
    (hs : ∀ D (i : Nat) k v q acc H', kvs[i]? = some (k, v) → H' q = some (.tup (k.map kV)) → H D = none → H' D = some (.lst acc) → Pv D i acc H' → G (.ref q) (wipe σ vs) H' fun σ2 H2 => wipe σ2 vs = wipe σ vs ∧ tt σ2 H2 fun b H3 =>
      if b = true then te σ2 H3 fun y H4 => ∃ acc, H4 D = some (.lst acc) ∧ acc.length < sizeLine ∧ (∃ ac, (upd H4 D (.lst (acc ++ [y]))) D = some (.lst ac) ∧ Pv D (i + 1) ac (upd H4 D (.lst (acc ++ [y])))) else ∃ ac, H3 D = some (.lst ac) ∧ Pv D (i + 1) ac H3)
    (he : ∀ D acc H', H D = none → H' D = some (.lst acc) → Pv D kvs.length acc H' → Q (.ref D) H') : tLc (iKeys td) G tt te vs σ H Q := by
  refine up _ ⟨d, od, rfl, .inr ⟨kvs, hd, fun D hD => ?_⟩⟩
  refine lc_it walk_keysT (fun i H' => ∃ acc, H' D = some (.lst acc) ∧ Pv D i acc H') ⟨[], upd_same, h0 D hD⟩ (fun i H' _ ⟨acc, _, p⟩ => hG D i acc H' hD p) ?_ fun H' ⟨acc, ha, p⟩ => he D acc H' hD ha p
  rintro i x H1 H' hi ⟨acc, ha, p⟩ ⟨rfl, k, v, q, at1, rfl, tup⟩
  exact hs D i k v q acc H' at1 tup hD ha p
theorem dcT_it {J : It} {n : Nat} {Go : Hp → Prop} {Y : Nat → Hp → V → Hp → Prop} (w : Walk J n Go Y) {H1 : Hp} {D : Addr} {Qd : Hp → Prop} (Pv : Nat → Hp → Prop) (h0 : Pv 0 (upd H1 D (.dT []))) (hG : ∀ i H, i ≤ n → Pv i H → Go H)
    (hs : ∀ i x H H', i < n → Pv i H → Y i H x H' → G x (wipe σ vs) H' fun σ2 H2 => wipe σ2 vs = wipe σ vs ∧ tt σ2 H2 fun b H3 =>
      if b = true then tk σ2 H3 fun y H4 => tv σ2 H4 fun z H5 => ∃ (kvs : Dt.Tb) (k : List Key) (q : Addr), y = .ref q ∧ H5 q = some (.tup (k.map kV)) ∧ H5 D = some (.dT kvs) ∧ kvs.length < sizeLine ∧ Pv (i + 1) (upd H5 D (.dT (putK kvs k z))) else Pv (i + 1) H3) (hd : ∀ H, Pv n H → Qd H) :
    ∃ W : Nat → Nat → Hp → Prop, (∃ m, W 0 m (upd H1 D (.dT []))) ∧ ∀ i m H, W i m H →
      (J.stop i H ∧ Qd H) ∨ (J.go i H ∧ ∃ Nx : Hp → Prop, (∀ H', Nx H' → ∃ m', m' < m ∧ W (i + 1) m' H') ∧ ∀ x H', J.yld i H x H' → G x (wipe σ vs) H' fun σ2 H2 => wipe σ2 vs = wipe σ vs ∧ tt σ2 H2 fun b H3 =>
        if b = true then tk σ2 H3 fun y H4 => tv σ2 H4 fun z H5 => ∃ (kvs : Dt.Tb) (k : List Key) (q : Addr), y = .ref q ∧ H5 q = some (.tup (k.map kV)) ∧ H5 D = some (.dT kvs) ∧ kvs.length < sizeLine ∧ Nx (upd H5 D (.dT (putK kvs k z))) else Nx H3) := by
  let Turn : Nat → Nat → Hp → Prop := fun i left H => left + i = n ∧ Pv i H
  refine ⟨Turn, ⟨n, rfl, h0⟩, fun i left H ⟨sum, p⟩ => ?_⟩
  have stands := hG i H (by omega) p
  rcases Nat.eq_or_lt_of_le (show i ≤ n by omega) with full | more
  · cases full
    exact .inl ⟨w.stops H stands, hd H p⟩
  · exact .inr ⟨w.goes i H more stands, Pv (i + 1), fun H' p' => ⟨left - 1, by omega, by omega, p'⟩, fun v H' y => hs i v H H' more p (w.yields i H v H' more stands y)⟩
theorem put_new {k : List Key} {v : V} (h : k ∉ kvs.map (·.1)) : putK kvs k v = kvs ++ [(k, v)] := by
  unfold putK
  rw [if_neg]
  intro e
  obtain ⟨p, hp, g⟩ := List.any_eq_true.mp e
  exact h (List.mem_map.mpr ⟨p, hp, of_decide_eq_true g⟩)
/-- {k: v for k, v in d.items()}: a copy -/
theorem r_copyT {i j : Nat} (hd : H d = some (.dT kvs)) (nd : (kvs.map (·.1)).Nodup) (few : kvs.length ≤ 100000) (up : ∀ od (Q' : VK), Q' (.ref d) (upd H d (.frz od (.dT kvs))) → td σ (upd H d (.frz od (.dT kvs))) Q')
    (hw : ∀ x y, wipe (((wipe σ vs).set i (some x)).set j (some y)) vs = wipe σ vs) (hi : ∀ x y : V, (((wipe σ vs).set i (some x)).set j (some y))[i]? = some (some x)) (hj : ∀ x y : V, (((wipe σ vs).set i (some x)).set j (some y))[j]? = some (some y))
    (q : ∀ D H', Keep [] H H' → H D = none → H' D = some (.dT kvs) → Q (.ref D) H') : tLockE (Dt.tDcT (Dt.iItemsT td) (gTup K 2 (gCons (gName i) (gCons (gName j) gNil))) tYes (tVar i) (tVar j) vs) σ H Q := by
  refine ⟨d, .dT kvs, hd, trivial, fun od => up od _ ⟨d, od, kvs, rfl, upd_same, fun D hD => ?_⟩⟩
  have dne : D ≠ d := by rintro rfl; rw [upd_same] at hD; cases hD
  have hD0 : H D = none := by rw [upd_ne dne] at hD; exact hD
  refine dcT_it walk_itemsT (fun n H' => H' D = some (.dT (kvs.take n)) ∧ H' d = some (.frz od (.dT kvs)) ∧ Keep [] (upd H d (.frz od (.dT kvs))) H') ⟨by rw [upd_same]; simp, by rw [upd_ne (Ne.symm dne)]; exact upd_same, Keep.new hD⟩ (fun n H' _ p => p.2.1) ?_ ?_
  · rintro n x H1 H' more ⟨atD, atd, kp⟩ ⟨T, a, k, v, at1, tup, rfl, hT, rfl⟩
    have kT : Keep [] H1 (upd H1 T (.tup [.ref a, v])) := Keep.new hT
    refine r_gTup2 (sqT_of upd_same) ⟨hw _ _, ?_⟩
    refine r_yes (iteT ?_)
    refine r_var (hi _ _) (r_var (hj _ _) ?_)
    have atD' := kT _ _ (by simp) atD
    have atd' := kT _ _ (by simp) atd
    refine ⟨kvs.take n, k, a, rfl, kT _ _ (by simp) tup, atD', lt_size (by rw [List.length_take]; omega), ?_, by rw [upd_ne (Ne.symm dne)]; exact atd', (kp.trans kT).mut hD⟩
    have fresh : k ∉ (kvs.take n).map (·.1) := fun h => by
      obtain ⟨p, hp, e⟩ := List.mem_map.mp h
      obtain ⟨z, hz⟩ := List.getElem?_of_mem hp
      rw [List.getElem?_take] at hz
      split at hz
      · rename_i lt
        have h1 : (kvs.map (·.1))[z]? = some k := by rw [List.getElem?_map, hz]; exact congrArg some e
        have h2 : (kvs.map (·.1))[n]? = some k := by rw [List.getElem?_map, at1]; rfl
        have := (List.getElem?_inj (List.getElem?_eq_some_iff.mp h1).1 nd).mp (h1.trans h2.symm)
        omega
      · cases hz
    rw [upd_same, put_new fresh, List.take_add_one, at1]; rfl
  · rintro H' ⟨atD, atd, kp⟩
    rw [List.take_length] at atD
    exact ⟨atd, q D _ (Keep.unlock hd kp) hD0 (by rw [upd_ne dne]; exact atD)⟩
end
namespace Dt
open PySem PySem.Spec PyProof.Rows PyProof.V L2 StX
/-! ### == of two dicts with the same keys, tuples, in the same order, and the same values -/
section
variable {prog : Program} {w : World} {Ky : Type} [DecidableEq Ky] {knd : HeapKind prog w Ky} {A : Around} {E : Value → Shared → Prop} {s : Shared}
theorem same_pairsT {nm : String} {a b : Addr} {xa xb : List (Ky × Addr × Value)} {Q : Bool → Shared → Prop} (ha : (a == sysModules) = false) (hb : (b == sysModules) = false) (hu : knd.room A) (da : s.heap.DictOfH knd a xa) (db : s.heap.DictOfH knd b xb)
    (len : xa.length = xb.length) (al : ∀ (i : Nat) x, xa[i]? = some x → ∃ y, xb[i]? = some y ∧ y.1 = x.1 ∧ SeqAt.EqAt A s x.2.2 y.2.2 true) (q : Q true s) : wpAny (model prog w) A (Builtin.Dict.samePairs nm a b) Q E s := by
  obtain ⟨oa, es, ep, hoa, _, hda, hes, hia, _⟩ := da
  obtain ⟨ob, fs, fp, hob, _, hdb, hfs, hib, hnb⟩ := db
  have sa := size_of_entries hes
  have sb := size_of_entries hfs
  unfold Builtin.Dict.samePairs Builtin.Dict.showsAll
  rw [if_neg (show ¬ (a == sysModules) = true by rw [ha]; exact Bool.false_ne_true), if_neg (show ¬ (b == sysModules) = true by rw [hb]; exact Bool.false_ne_true)]
  refine wpAny_bind (wpAny_pure (wpAny_bind (wpAny_pure (wpAny_bind (wpAny_dictEntries hoa hda ?_)))))
  dsimp only
  refine wpAny_bind (wpAny_dictEntries hob hdb ?_)
  have hsz : es.size = fs.size := by omega
  rw [if_neg (by rw [hsz]; simp)]
  refine wpAny_bind (wpAny_dictEpoch hoa hda (wpAny_bind ?_))
  rw [Std.Legacy.Range.forIn_eq_forIn_range']
  simp only [Std.Legacy.Range.size, Nat.sub_zero, Nat.add_sub_cancel, Nat.div_one]
  refine wpAny_forIn_list _ (fun rest r s' => s' = s ∧ r = (none, ()) ∧ ∃ i, rest = List.range' i (es.size - i) ∧ i ≤ es.size) _ ?_ ?_ _ _ ⟨rfl, rfl, 0, by simp, Nat.zero_le _⟩
  · rintro x rest r s' ⟨rfl, rfl, i, hr, hi⟩
    have lt : i < es.size := by
      rcases Nat.lt_or_ge i es.size with h | h
      · exact h
      · rw [Nat.sub_eq_zero_of_le h] at hr; simp at hr
    rw [show es.size - i = (es.size - (i + 1)) + 1 by omega, List.range'_succ] at hr
    injection hr with h1 h2
    subst h1
    obtain ⟨e, he⟩ : ∃ e, xa[x]? = some e := ⟨_, List.getElem?_eq_getElem (by omega)⟩
    obtain ⟨f, hf, ek, ev⟩ := al x e he
    have ge : es[x]? = some (entryOfKey knd e) := by rw [entry_at hes, he]; rfl
    have gf : fs[x]? = some (entryOfKey knd f) := by rw [entry_at hfs, hf]; rfl
    refine wpAny_bind (wpAny_dictEntries hoa hda ?_)
    rw [ge]
    refine wpAny_bind (wpAny_holding (wpAny_bind (wpAny_dictFind_heap hu (hia _ (List.mem_of_getElem? he)) hob hdb hfs hib hnb (fun no => ?_) fun j p hj => ?_)))
    · exact absurd (show xb[x]? = some (e.1, f.2) by rw [hf, ← ek]) (no x _)
    · obtain rfl : j = x := idxH_unique hnb hj (show xb[x]? = some (e.1, f.2) by rw [hf, ← ek])
      refine wpAny_bind (wpAny_dictEntries hob hdb ?_)
      rw [gf]
      refine wpAny_holding (ev _ _ _ _ ?_)
      show wpAny _ _ (if (!true) = true then _ else _) _ _ _
      rw [if_neg (by decide)]
      refine wpAny_bind (wpAny_dictEpoch hoa hda ?_)
      rw [if_neg (by simp)]
      exact wpAny_pure ⟨rfl, rfl, j + 1, h2, lt⟩
  · rintro r s' ⟨rfl, rfl, _⟩
    exact wpAny_pure q
end
theorem kt_both {H : Hp} {kvs : List (List Key × V)} {xa xb : List (List Key × Addr × Value)} (ra : KT H kvs xa) (rb : KT H kvs xb) : xa.length = xb.length ∧
    ∀ (i : Nat) x, xa[i]? = some x → ∃ y p, xb[i]? = some y ∧ y.1 = x.1 ∧ p ∈ kvs ∧ RelV p.2 x.2.2 ∧ RelV p.2 y.2.2 := by
  induction ra generalizing xb with
  | nil =>
    cases rb
    exact ⟨rfl, fun i x h => by simp at h⟩
  | @cons p q ps qs h t ih =>
    cases rb with
    | @cons _ q2 _ qs2 h2 t2 =>
      obtain ⟨l, g⟩ := ih t2
      refine ⟨by rw [List.length_cons, List.length_cons, l], fun i x hx => ?_⟩
      cases i with
      | zero =>
        have e : q = x := by simpa using hx
        subst e
        exact ⟨q2, p, by simp, h2.1.symm.trans h.1, List.mem_cons_self, h.2.2, h2.2.2⟩
      | succ i =>
        obtain ⟨y, p2, a, b, c, d, e⟩ := g i x (by simpa using hx)
        exact ⟨y, p2, by simpa using a, b, List.mem_cons_of_mem _ c, d, e⟩
def rEqSameT : R2 := fun x y H Q => ∃ a b kvs, x = .ref a ∧ y = .ref b ∧ H a = some (.dT kvs) ∧ H b = some (.dT kvs) ∧ (∀ p ∈ kvs, SameV p.2) ∧ Q (.bl true) H
theorem op_eqSameT {X : Cx} (small : X.A.units + 1 < cLine) : OpR X (compareOp .Eq) rEqSameT := by
  rintro pins s σ H x y v u Q I rx ry ⟨a, b, kvs, rfl, rfl, ea, eb, same, q⟩
  cases (show v = Value.ref a from rx)
  cases (show u = Value.ref b from ry)
  obtain ⟨_, na, xa, ra, da⟩ := dt_of I.hok ea
  obtain ⟨_, nb, xb, rb, db⟩ := dt_of I.hok eb
  obtain ⟨len, al⟩ := kt_both ra rb
  refine wpAny_richCompare_same_room (op := .Eq) da.typeIs db.typeIs PySem.F.slot_dict_eq (wpAny_call_entry PySem.F.slot_dict_eq da.typeIs PySem.F.entry_dict_eq ?_ (PySem.F.args_dict_eq_2 _ _)) (by omega)
  show wpAny _ _ (Builtin.Dict.dictSlotArgs "__eq__" ⟨[.ref a, .ref b], []⟩ >>= _) _ _ s
  refine wpAny_bind ?_
  unfold Builtin.Dict.dictSlotArgs
  refine wpAny_bind (wpAny_notOrdered_dict da.typeIs ?_)
  show wpAny _ _ (pure (Value.ref a, Value.ref b)) _ _ s
  refine wpAny_pure (wpAny_bind (wpAny_isInstance (T := "dict") db.typeIs PySem.F.sub_dict_dict ?_))
  simp only [Bool.not_true, Bool.false_eq_true, if_false]
  refine wpAny_bind (wpAny_pure (wpAny_bind (wpAny_pure (wpAny_bind (same_pairsT na nb (show X.A.in1.units < cLine from small) da db len (fun i x hx => ?_) ?_)))))
  · obtain ⟨y, p, hy, ek, hp, r1, r2⟩ := al i x hx
    exact ⟨y, hy, ek, eqAt_sameV r1 r2 (same p hp)⟩
  · refine wpAny_pure ⟨_, rfl, ?_, ?_⟩
    · exact fun x => nomatch x
    · exact ⟨.bl true, H, I, rfl, q⟩
end Dt
namespace Ow
open PySem PySem.Spec PyProof.Rows PyProof.V L2 StX
open PySem.W PySem.Calls
/-! ### x != y where the class has its own __eq__ and object's __ne__ -/
section
variable {prog : Program} {w : World} {M : Model} {A : Around} {E : Value → Shared → Prop} {s : Shared} {K : Frag} {x y C f : Addr} {ox oy : Obj} {od od' : Option Obj}
theorem ifBound_objNe {args : List Value} {Q : Option Value → Shared → Prop} (X : K.In s.heap) (I : InstAt s.heap x ox C od) (hs : findIn K (.ref C) "__ne__" = some (some (.builtin "object.__ne__")))
    (h : wpAny M A (call (.builtin "object.__ne__") (.ref x :: args)) (fun v => Q (some v)) E s) : wpAny M A (callSpecialIfBound? (.ref x) "__ne__" args) Q E s := by
  simp only [callSpecialIfBound?, bindSpecialIfBound?]
  refine wpAny_holding (wpAny_bind (wpAny_bind (wpAny_bind (I.type.here ((looks_findIn X hs).here ?_)))))
  refine wpAny_bind (wpAny_askSetting (wpAny_ite ?_))
  have fin : wpAny M A (call (.builtin "object.__ne__") ([.ref x] ++ args) >>= fun v => pure (some v)) Q E s := wpAny_bind (wpAny_mono h (fun v s' h' => wpAny_pure h') fun _ _ h' => h')
  split
  · exact wpAny_bind (wpAny_of_eq (F.cmp_object.ne.bind _) (wpAny_pure (by exact fin)))
  · exact wpAny_tryCatch (wpAny_bind (wpAny_of_eq (F.cmp_object.ne.bind _) (wpAny_pure (by exact fin))))
theorem entry_ne {Q : Fin → Shared → Prop} (hu : A.units < cLine) (X : K.In s.heap) (I : InstAt s.heap x ox C od) (hs : findIn K (.ref C) "__eq__" = some (some (.ref f))) (hf : isFn K (.ref f) = true)
    (h : wpAny (model prog w) A (call (.ref f) [.ref x, .ref y]) (fun v s' => ∃ b, v = .bool b ∧ Q (.done (.ret (.bool (!b)))) s') E s) : wpAny (model prog w) A (Builtin.«object.__ne__» ⟨[.ref x, .ref y], []⟩) Q E s := by
  have one := ifBound_K (M := model prog w) (args := [.ref y]) (Q := fun r s' => ∃ b, r = some (.bool b) ∧ Q (.done (.ret (.bool (!b)))) s') X I hs hf (wpAny_mono h (fun v s' hv => by obtain ⟨b, rfl, q⟩ := hv; exact ⟨b, rfl, q⟩) fun _ _ e => e)
  obtain ⟨hh, g, d, t, os⟩ := s
  unfold Builtin.«object.__ne__»
  repeat (first
    | with_reducible refine wpAny_cRoomFor hu ?_
    | (refine wpAny_bind (m := callSpecialIfBound? (.ref x) (Str.ofString "__eq__") [.ref y]) (wpAny_mono one (fun r s' hr => ?_) fun _ _ e => e))
    | wp_step)
  · obtain ⟨b, rfl, q⟩ := hr
    repeat (first | exact q | exact wpAny_pure q | exact wpAny_truthy_bool q | (refine wpAny_bind (m := truthy (.bool _)) (wpAny_truthy_bool ?_)) | wp_step)
theorem call_objNe {Q : Value → Shared → Prop} (hu : A.in1.units < cLine) (X : K.In s.heap) (I : InstAt s.heap x ox C od) (hm : mroIn K C (.type "object") = some true) (hs : findIn K (.ref C) "__eq__" = some (some (.ref f))) (hf : isFn K (.ref f) = true)
    (h : wpAny (model prog w) A.in1 (call (.ref f) [.ref x, .ref y]) (fun v s' => ∃ b, v = .bool b ∧ Q (.bool (!b)) s') E s) : wpAny (model prog w) A (call (.builtin "object.__ne__") [.ref x, .ref y]) Q E s :=
  wpAny_call (codeAny_call_builtin F.cmp_object.ne.plain F.cmpEntry_ne (check_slot F.cmpKind_ne F.cmpSplit_ne (I.type.andThen (looks_mroIn X hm)) (F.cmpArgs_ne _ _) (entry_ne hu X I hs hf (wpAny_mono h (fun v s' hv => by obtain ⟨b, e, q⟩ := hv; exact ⟨b, e, q⟩) fun _ _ e => e))))
theorem rc_ownNe {Q : Value → Shared → Prop} (hu0 : A.units < cLine) (hu : A.in1.units < cLine) (X : K.In s.heap) (I : InstAt s.heap x ox C od) (J : InstAt s.heap y oy C od') (hm : mroIn K C (.type "object") = some true) (hn : findIn K (.ref C) "__ne__" = some (some (.builtin "object.__ne__"))) (hs : findIn K (.ref C) "__eq__" = some (some (.ref f))) (hf : isFn K (.ref f) = true)
    (h : wpAny (model prog w) A.in1 (call (.ref f) [.ref x, .ref y]) (fun v s' => ∃ b, v = .bool b ∧ Q (.bool (!b)) s') E s) : wpAny (model prog w) A (richCompare .NotEq (.ref x) (.ref y)) Q E s := by
  have one : wpAny (model prog w) A (tryCompare (.ref x) "__ne__" (.ref y)) (fun r s' => ∃ b : Bool, r = some (.bool b) ∧ Q (.bool b) s') E s := by
    unfold tryCompare
    refine wpAny_bind (ifBound_objNe X I hn (call_objNe hu X I hm hs hf (wpAny_mono h (fun v s' hv => ?_) fun _ _ e => e)))
    obtain ⟨b, rfl, q⟩ := hv
    exact ⟨b, rfl, wpAny_pure ⟨_, rfl, q⟩⟩
  unfold richCompare
  simp only [oneThing_ref]
  refine wpAny_holding (wpAny_bind (wpAny_cRoomFor hu0 ?_))
  refine wpAny_bind (I.type.here (wpAny_bind (J.type.here ?_)))
  rw [show (Value.ref C != Value.ref C) = false from by simp]
  simp only [Bool.false_eq_true, if_false]
  refine wpAny_bind (wpAny_pure ?_)
  simp only [Bool.false_eq_true, if_false]
  refine wpAny_bind (wpAny_mono one (fun r s' z => ?_) fun _ _ e => e)
  obtain ⟨v, rfl, hq⟩ := z
  exact wpAny_pure hq
end
section
variable {X : Cx} {CX : CXT} {k : Nat} {C f : Addr} {sp : Sp} {E : XK}
def rOwnNe (C : Addr) (sp : Sp) (E : XK) : R2 := fun x y H Q => ∃ a dx fs b dy gs, x = .ref a ∧ y = .ref b ∧ H a = some (.ins C dx fs) ∧ H b = some (.ins C dy gs) ∧ sp [x, y] H (fun v H' => ∃ c, v = .bl c ∧ Q (.bl (!c)) H') E
theorem op_ownNe (M : Meth X.K C "__eq__" f) (hn : findIn X.K (.ref C) "__ne__" = some (some (.builtin "object.__ne__"))) (hm : mroIn X.K C (.type "object") = some true) (F : FnR X.prog X.w X.K X.mg X.base CX k f sp) (hr : Room (k + 1) X.A) (hx : Passes CX X E) (hu : X.A.units < cLine) : OpR X (compareOp .NotEq) (rOwnNe C sp E) := by
  intro pins s σ H x y v u Q I rx ry h
  obtain ⟨a, dx, fs, b, dy, gs, rfl, rfl, ha, hb, q⟩ := h
  obtain rfl : v = Value.ref a := rx
  obtain rfl : u = Value.ref b := ry
  obtain ⟨ox, od, J, _⟩ := inst_of I ha
  obtain ⟨oy, od', J', _⟩ := inst_of I hb
  have hr1 : Room k X.A.in1 := Room.in1 hr
  show wpAny _ _ (richCompare .NotEq (.ref a) (.ref b)) _ _ _
  refine rc_ownNe hu hr1.units0 I.kIn J J' hm hn M.at_ M.fn (wpAny_mono (wpAny_call (SlX.run_at (us := [.ref a, .ref b]) (ws := [.ref a, .ref b]) F hr1 I.env0.in1 hx I (.cons rfl (.cons rfl .nil)) q)) (fun u' s' z => ?_) fun _ _ x => x)
  obtain ⟨z', H', I', rz, c, ec, qz⟩ := z
  subst ec
  cases (show u' = Value.bool c from rz)
  exact ⟨c, rfl, .bl (!c), H', I', rfl, qz⟩
theorem r_ownNe {C a b dx dy : Addr} {fs gs : List (Str × V)} {sp : Sp} {E : XK} {H : Hp} {Q : VK} (ha : H a = some (.ins C dx fs)) (hb : H b = some (.ins C dy gs)) (k : sp [.ref a, .ref b] H (fun v H' => ∃ c, v = .bl c ∧ Q (.bl (!c)) H') E) : rOwnNe C sp E (.ref a) (.ref b) H Q := ⟨a, dx, fs, b, dy, gs, rfl, rfl, ha, hb, k⟩
end
end Ow
namespace Dt
open PySem PySem.Spec PyProof.Rows PyProof.V L2 StX
/-! ### d.clear(), the keys tuples -/
def rClearT : V → List V → Hp → VK → Prop := fun x vs H Q => ∃ (a : Addr) (kvs : Tb), x = .ref a ∧ vs = [] ∧ H a = some (.dT kvs) ∧ Q .non (upd H a (.dT []))
theorem mtd_clearT {X : Cx} : MtR X "dict.clear" rClearT := by
  intro pins s σ H x vs v us Q I rx rv h
  obtain ⟨a, kvs, ex, ev, e, q⟩ := h
  subst ex
  subst ev
  obtain rfl : v = Value.ref a := rx
  have hus := rv.zero
  subst hus
  obtain ⟨small, apart, cells, pairs, u, es, ep, stands, cls, data, list, _⟩ := dt_of I.hok e
  have len : es.size = cells.length := size_of_entries list
  have len2 : kvs.length = cells.length := Paired.length pairs
  have raw : s.heap.DictRaw a es ep := ⟨u, stands, cls, data⟩
  refine call_meetsIn PySem.F.slot_dict_clear raw.typeIs PySem.F.entry_dict_clear (PySem.F.args_dict_clear_1 _) (PySem.meets_dict_clear_raw a) ⟨es, ep, raw, by omega, fun h' dd' hs => ?_⟩
  obtain ⟨o', ho', hc', hd'⟩ := dd'
  refine ⟨.non, _, d_write (t' := s.toks) I (by rw [e]; exact True.intro) hs ⟨o', ho'⟩ ?_, rfl, q⟩
  exact ⟨Nat.zero_le _, apart, [], .nil, o', #[], ep + 1, ho', hc', hd', rfl, List.Pairwise.nil⟩
section
variable {X : Cx} {o : Expr} {to : TE} {apos cpos : Pos}
theorem pe_dclearT (ho : PE X o to) (hbase : attributeBase o "clear" X.env (eval o X.env) = eval o X.env := by rfl) (hline : (apos.endLine == cpos.line) = true := by rfl) : PE X (.Call (.Attribute o "clear" apos) [] [] cpos) (tBM0 X.K "dict" rClearT to) :=
  pe_bm0 PySem.F.plainAttrs_dict PySem.F.slot_dict_clear PySem.F.type_dict_clear mtd_clearT ho hbase hline
end
/-! ### == of two dicts with the same keys in the same order, the values flat -/
section
variable {prog : Program} {w : World} {Ky : Type} [DecidableEq Ky] {knd : HeapKind prog w Ky} {A : Around} {E : Value → Shared → Prop} {s : Shared}
theorem pairsT {nm : String} {a b : Addr} {xa xb : List (Ky × Addr × Value)} {P : Nat → Bool} {Q : Bool → Shared → Prop} (ha : (a == sysModules) = false) (hb : (b == sysModules) = false) (hu : knd.room A) (da : s.heap.DictOfH knd a xa) (db : s.heap.DictOfH knd b xb)
    (len : xa.length = xb.length) (al : ∀ (i : Nat) x, xa[i]? = some x → ∃ y, xb[i]? = some y ∧ y.1 = x.1 ∧ SeqAt.EqAt A s x.2.2 y.2.2 (P i)) (q : (∀ i, i < xa.length → P i = true) → Q true s) (n : ∀ i, i < xa.length → P i = false → Q false s) : wpAny (model prog w) A (Builtin.Dict.samePairs nm a b) Q E s := by
  obtain ⟨oa, es, ep, hoa, _, hda, hes, hia, _⟩ := da
  obtain ⟨ob, fs, fp, hob, _, hdb, hfs, hib, hnb⟩ := db
  have sa := size_of_entries hes
  have sb := size_of_entries hfs
  unfold Builtin.Dict.samePairs Builtin.Dict.showsAll
  rw [if_neg (show ¬ (a == sysModules) = true by rw [ha]; exact Bool.false_ne_true), if_neg (show ¬ (b == sysModules) = true by rw [hb]; exact Bool.false_ne_true)]
  refine wpAny_bind (wpAny_pure (wpAny_bind (wpAny_pure (wpAny_bind (wpAny_dictEntries hoa hda ?_)))))
  dsimp only
  refine wpAny_bind (wpAny_dictEntries hob hdb ?_)
  have hsz : es.size = fs.size := by omega
  rw [if_neg (by rw [hsz]; simp)]
  refine wpAny_bind (wpAny_dictEpoch hoa hda (wpAny_bind ?_))
  rw [Std.Legacy.Range.forIn_eq_forIn_range']
  simp only [Std.Legacy.Range.size, Nat.sub_zero, Nat.add_sub_cancel, Nat.div_one]
  refine wpAny_forIn_list _ (fun rest r s' => s' = s ∧ r = (none, ()) ∧ ∃ i, rest = List.range' i (es.size - i) ∧ i ≤ es.size ∧ ∀ j, j < i → P j = true) _ ?_ ?_ _ _ ⟨rfl, rfl, 0, by simp, Nat.zero_le _, by simp⟩
  · rintro x rest r s' ⟨rfl, rfl, i, hr, hi, ok⟩
    have lt : i < es.size := by
      rcases Nat.lt_or_ge i es.size with h | h
      · exact h
      · rw [Nat.sub_eq_zero_of_le h] at hr; simp at hr
    rw [show es.size - i = (es.size - (i + 1)) + 1 by omega, List.range'_succ] at hr
    injection hr with h1 h2
    subst h1
    obtain ⟨e, he⟩ : ∃ e, xa[x]? = some e := ⟨_, List.getElem?_eq_getElem (by omega)⟩
    obtain ⟨f, hf, ek, ev⟩ := al x e he
    have ge : es[x]? = some (entryOfKey knd e) := by rw [entry_at hes, he]; rfl
    have gf : fs[x]? = some (entryOfKey knd f) := by rw [entry_at hfs, hf]; rfl
    refine wpAny_bind (wpAny_dictEntries hoa hda ?_)
    rw [ge]
    refine wpAny_bind (wpAny_holding (wpAny_bind (wpAny_dictFind_heap hu (hia _ (List.mem_of_getElem? he)) hob hdb hfs hib hnb (fun no => ?_) fun j p hj => ?_)))
    · exact absurd (show xb[x]? = some (e.1, f.2) by rw [hf, ← ek]) (no x _)
    · obtain rfl : j = x := idxH_unique hnb hj (show xb[x]? = some (e.1, f.2) by rw [hf, ← ek])
      refine wpAny_bind (wpAny_dictEntries hob hdb ?_)
      rw [gf]
      refine wpAny_holding (ev _ _ _ _ ?_)
      cases hp : P j with
      | false =>
        show wpAny _ _ (if (!false) = true then _ else _) _ _ _
        rw [if_pos (by decide)]
        exact wpAny_pure (wpAny_pure (n j (by omega) hp))
      | true =>
        show wpAny _ _ (if (!true) = true then _ else _) _ _ _
        rw [if_neg (by decide)]
        refine wpAny_bind (wpAny_dictEpoch hoa hda ?_)
        rw [if_neg (by simp)]
        refine wpAny_pure ⟨rfl, rfl, j + 1, h2, lt, fun i hi => ?_⟩
        rcases Nat.lt_or_ge i j with h | h
        · exact ok i h
        · obtain rfl : i = j := by omega
          exact hp
  · rintro r s' ⟨rfl, rfl, i, hr, hi, ok⟩
    refine wpAny_pure (q fun j hj => ok j ?_)
    rcases Nat.lt_or_ge i es.size with h | h
    · rw [show es.size - i = (es.size - (i + 1)) + 1 by omega, List.range'_succ] at hr; cases hr
    · omega
end
/-- keys alike, values flat -/
def rEqFlatT : R2 := fun x y H Q => ∃ (a b : Addr) (kvs lvs : Tb), x = .ref a ∧ y = .ref b ∧ H a = some (.dT kvs) ∧ H b = some (.dT lvs) ∧ kvs.map (·.1) = lvs.map (·.1) ∧ (∀ p ∈ kvs, L2.flatV p.2 = true) ∧ (∀ p ∈ lvs, L2.flatV p.2 = true) ∧
  ((∀ i : Nat, ∀ p q, kvs[i]? = some p → lvs[i]? = some q → L2.eqV p.2 q.2 = true) → Q (.bl true) H) ∧ (∀ i : Nat, ∀ p q, kvs[i]? = some p → lvs[i]? = some q → L2.eqV p.2 q.2 = false → Q (.bl false) H)
theorem kt_at {H : Hp} : ∀ {kvs : Tb} {xa : List (List Key × Addr × Value)}, KT H kvs xa → kvs.length = xa.length ∧ ∀ (i : Nat) x, xa[i]? = some x → ∃ p, kvs[i]? = some p ∧ p.1 = x.1 ∧ RelV p.2 x.2.2
  | _, _, .nil => ⟨rfl, fun i x h => by simp at h⟩
  | _, _, .cons (a := p) (b := q) h t => by
    obtain ⟨l, g⟩ := kt_at t
    refine ⟨by rw [List.length_cons, List.length_cons, l], fun i x hx => ?_⟩
    cases i with
    | zero =>
      have e : q = x := by simpa using hx
      subst e
      exact ⟨p, by simp, h.1, h.2.2⟩
    | succ i => simpa using g i x (by simpa using hx)
theorem op_eqFlatT {X : Cx} (small : X.A.units + 1 < cLine) : OpR X (compareOp .Eq) rEqFlatT := by
  rintro pins s σ H x y v u Q I rx ry ⟨a, b, kvs, lvs, rfl, rfl, ea, eb, keys, fa, fb, q, n⟩
  cases (show v = Value.ref a from rx)
  cases (show u = Value.ref b from ry)
  obtain ⟨_, na, xa, ra, da⟩ := dt_of I.hok ea
  obtain ⟨_, nb, xb, rb, db⟩ := dt_of I.hok eb
  obtain ⟨la, ga⟩ := kt_at ra
  obtain ⟨lb, gb⟩ := kt_at rb
  have lk : kvs.length = lvs.length := by have := congrArg List.length keys; rwa [List.length_map, List.length_map] at this
  let P : Nat → Bool := fun i => match kvs[i]?, lvs[i]? with
    | some p, some q => L2.eqV p.2 q.2
    | _, _ => true
  refine wpAny_richCompare_same_room (op := .Eq) da.typeIs db.typeIs PySem.F.slot_dict_eq (wpAny_call_entry PySem.F.slot_dict_eq da.typeIs PySem.F.entry_dict_eq ?_ (PySem.F.args_dict_eq_2 _ _)) (by omega)
  show wpAny _ _ (Builtin.Dict.dictSlotArgs "__eq__" ⟨[.ref a, .ref b], []⟩ >>= _) _ _ s
  refine wpAny_bind ?_
  unfold Builtin.Dict.dictSlotArgs
  refine wpAny_bind (wpAny_notOrdered_dict da.typeIs ?_)
  show wpAny _ _ (pure (Value.ref a, Value.ref b)) _ _ s
  refine wpAny_pure (wpAny_bind (wpAny_isInstance (T := "dict") db.typeIs PySem.F.sub_dict_dict ?_))
  simp only [Bool.not_true, Bool.false_eq_true, if_false]
  refine wpAny_bind (wpAny_pure (wpAny_bind (wpAny_pure (wpAny_bind (pairsT (P := P) na nb (show X.A.in1.units < cLine from small) da db (by omega) (fun i x hx => ?_) (fun all => ?_) fun i hi hp => ?_)))))
  · obtain ⟨p, hp, ek, rp⟩ := ga i x hx
    have lt : i < xb.length := by have := (List.getElem?_eq_some_iff.mp hx).1; omega
    obtain ⟨y, hy⟩ : ∃ y, xb[i]? = some y := ⟨_, List.getElem?_eq_getElem lt⟩
    obtain ⟨r, hr, er, rr⟩ := gb i y hy
    have kk : p.1 = r.1 := by
      have h1 : (kvs.map (·.1))[i]? = some p.1 := by rw [List.getElem?_map, hp]; rfl
      have h2 : (lvs.map (·.1))[i]? = some r.1 := by rw [List.getElem?_map, hr]; rfl
      rw [keys, h2] at h1
      exact (Option.some.inj h1).symm
    refine ⟨y, hy, er.symm.trans (kk.symm.trans ek), ?_⟩
    have : P i = L2.eqV p.2 r.2 := by show (match kvs[i]?, lvs[i]? with | some p, some q => L2.eqV p.2 q.2 | _, _ => true) = _; rw [hp, hr]
    rw [this]
    exact eqAt_V rp rr (fa p (List.mem_of_getElem? hp)) (fb r (List.mem_of_getElem? hr))
  · refine wpAny_pure ⟨_, rfl, (fun x => nomatch x), ⟨.bl true, H, I, rfl, q fun i p r hp hr => ?_⟩⟩
    have := all i (by have := (List.getElem?_eq_some_iff.mp hp).1; omega)
    have e : P i = L2.eqV p.2 r.2 := by show (match kvs[i]?, lvs[i]? with | some p, some q => L2.eqV p.2 q.2 | _, _ => true) = _; rw [hp, hr]
    rw [← e]; exact this
  · obtain ⟨p, hp0⟩ : ∃ p, kvs[i]? = some p := ⟨_, List.getElem?_eq_getElem (by omega)⟩
    obtain ⟨r, hr0⟩ : ∃ r, lvs[i]? = some r := ⟨_, List.getElem?_eq_getElem (by omega)⟩
    have e : P i = L2.eqV p.2 r.2 := by show (match kvs[i]?, lvs[i]? with | some p, some q => L2.eqV p.2 q.2 | _, _ => true) = _; rw [hp0, hr0]
    exact wpAny_pure ⟨_, rfl, (fun x => nomatch x), ⟨.bl false, H, I, rfl, n i p r hp0 hr0 (by rw [← e]; exact hp)⟩⟩
end Dt
namespace Ow
open PySem PySem.Spec PyProof.Rows PyProof.V L2 StX
open PySem.W PySem.Calls
/-! ### x in o, o[x], len(o): the class of o has its own __contains__, __getitem__, __len__ -/
section
variable {X : Cx} {CX : CXT} {k : Nat} {C f : Addr} {sp : Sp} {E : XK}
def rOwnIn (C : Addr) (sp : Sp) (E : XK) (g : Bool → Bool) : R2 := fun x y H Q => ∃ a dx fs, y = .ref a ∧ H a = some (.ins C dx fs) ∧ sp [y, x] H (fun v H' => ∃ c, v = .bl c ∧ Q (.bl (g c)) H') E
theorem op_ownIn (M : Meth X.K C "__contains__" f) (F : FnR X.prog X.w X.K X.mg X.base CX k f sp) (hr : Room k X.A) (hx : Passes CX X E) : OpR X (compareOp .In) (rOwnIn C sp E id) := by
  intro pins s σ H x y v u Q I rx ry h
  obtain ⟨a, dx, fs, rfl, ha, q⟩ := h
  obtain rfl : u = Value.ref a := ry
  obtain ⟨ox, od, J, _⟩ := inst_of I ha
  obtain ⟨mm, Fm⟩ := I.fr
  refine in_K Fm I.ok.mod.kin J M.at_ M.fn ?_
  refine wpAny_mono (run_own (vs := [.ref a, x]) F hr hx I (.cons rfl (.cons rx .nil)) q) (fun r s' z => ?_) fun _ _ e => e
  obtain ⟨z', H', I', rz, c, ec, qz⟩ := z
  subst ec
  cases (show r = Value.bool c from rz)
  exact wpAny_truthy_bool ⟨.bl c, H', I', rfl, qz⟩
theorem op_ownNotIn (M : Meth X.K C "__contains__" f) (F : FnR X.prog X.w X.K X.mg X.base CX k f sp) (hr : Room k X.A) (hx : Passes CX X E) : OpR X (compareOp .NotIn) (rOwnIn C sp E fun b => !b) := by
  intro pins s σ H x y v u Q I rx ry h
  obtain ⟨a, dx, fs, rfl, ha, q⟩ := h
  obtain rfl : u = Value.ref a := ry
  obtain ⟨ox, od, J, _⟩ := inst_of I ha
  obtain ⟨mm, Fm⟩ := I.fr
  refine notIn_K Fm I.ok.mod.kin J M.at_ M.fn ?_
  refine wpAny_mono (run_own (vs := [.ref a, x]) F hr hx I (.cons rfl (.cons rx .nil)) q) (fun r s' z => ?_) fun _ _ e => e
  obtain ⟨z', H', I', rz, c, ec, qz⟩ := z
  subst ec
  cases (show r = Value.bool c from rz)
  exact wpAny_truthy_bool ⟨.bl (!c), H', I', rfl, qz⟩
theorem r_ownIn {C a dx : Addr} {fs : List (Str × V)} {sp : Sp} {E : XK} {g : Bool → Bool} {H : Hp} {Q : VK} {x : V} (ha : H a = some (.ins C dx fs)) (k : sp [.ref a, x] H (fun v H' => ∃ c, v = .bl c ∧ Q (.bl (g c)) H') E) : rOwnIn C sp E g x (.ref a) H Q := ⟨a, dx, fs, rfl, ha, k⟩
/-- o[x] -/
def rOwnIx (C : Addr) (sp : Sp) (E : XK) : R2 := fun x y H Q => ∃ a dx fs, x = .ref a ∧ H a = some (.ins C dx fs) ∧ sp [x, y] H Q E
theorem pe_ownIx {o i : Expr} {to ti : TE} {pos : Pos} (ho : PE X o to) (hi : PE X i ti) (M : Meth X.K C "__getitem__" f) (hfn : fnIn X.K f = true) (F : FnR X.prog X.w X.K X.mg X.base CX k f sp) (hr : Room (k + 1) X.A) (hx : Passes CX X E)
    (hs : ∀ v u, subscripted i true v u = runValue (.builtin "lifetime.subscript" ⟨[v, u], []⟩)) : PE X (.Subscript o i pos) (tOp (rOwnIx C sp E) to ti) := by
  refine ⟨fun pins s σ H Q I h => ?_⟩
  refine Subscript_ (binT ho hi I h fun v u s2 x y H2 I2 rx ry q => ?_)
  obtain ⟨a, dx, fs, rfl, ha, q⟩ := q
  obtain rfl : v = Value.ref a := rx
  obtain ⟨ox, od, J, _⟩ := inst_of I2 ha
  obtain ⟨mm, Fm⟩ := I2.fr
  have hr1 : Room k X.A.in1 := Room.in1 hr
  exact sub_K Fm I2.ok.mod.kin J M.at_ hfn M.fn (wpAny_call (SlX.run_at (us := [.ref a, u]) (ws := [.ref a, y]) F hr1 I2.env0.in1 hx I2 (.cons rfl (.cons ry .nil)) q)) (hs _ _)
theorem r_ownIx {C a dx : Addr} {fs : List (Str × V)} {sp : Sp} {E : XK} {H : Hp} {Q : VK} {y : V} (ha : H a = some (.ins C dx fs)) (k : sp [.ref a, y] H Q E) : rOwnIx C sp E (.ref a) y H Q := ⟨a, dx, fs, rfl, ha, k⟩
/-- len(o) -/
def rOwnLen (C : Addr) (sp : Sp) (E : XK) : List V → Hp → VK → Prop := fun xs H Q => ∃ a dx fs, xs = [.ref a] ∧ H a = some (.ins C dx fs) ∧ sp [.ref a] H (fun v H' => ∃ n : Int, v = .int n ∧ 0 ≤ n ∧ n < 2 ^ 63 ∧ Q (.int n) H') E
theorem call_lenOwn (M : Meth X.K C "__len__" f) (F : FnR X.prog X.w X.K X.mg X.base CX k f sp) (hr : Room (k + 1) X.A) (hx : Passes CX X E) : CallR X (.builtin "len") (rOwnLen C sp E) := by
  intro pins s σ H xs us Q I r h
  obtain ⟨a, dx, fs, rfl, ha, q⟩ := h
  obtain ⟨u, rfl, ru⟩ := r.one
  obtain rfl : u = Value.ref a := ru
  obtain ⟨ox, od, J, _⟩ := inst_of I ha
  obtain ⟨mm, Fm⟩ := I.fr
  have hr1 : Room k X.A.in1 := Room.in1 hr
  refine len_K Fm I.ok.mod.kin J M.at_ M.fn (wpAny_mono (wpAny_call (SlX.run_at (us := [.ref a]) (ws := [.ref a]) F hr1 I.env0.in1 hx I (.cons rfl .nil) q)) (fun u' s' z => ?_) fun _ _ x => x)
  obtain ⟨z', H', I', rz, n, en, n0, n1, qz⟩ := z
  subst en
  obtain ⟨t, e⟩ := (show ∃ t, u' = Value.int n t from rz)
  subst e
  exact ⟨⟨n0, n1⟩, .int n, H', I'.tok _, ⟨_, rfl⟩, qz⟩
theorem r_ownLen {C a dx : Addr} {fs : List (Str × V)} {sp : Sp} {E : XK} {H : Hp} {Q : VK} (ha : H a = some (.ins C dx fs)) (k : sp [.ref a] H (fun v H' => ∃ n : Int, v = .int n ∧ 0 ≤ n ∧ n < 2 ^ 63 ∧ Q (.int n) H') E) : rOwnLen C sp E [.ref a] H Q := ⟨a, dx, fs, rfl, ha, k⟩
end
/-! ### o == y, y no object of an own class -/
inductive Oth (H : Hp) : V → String → Prop where
  | int (i : Int) : Oth H (.int i) "int"
  | str (z : Str) : Oth H (.str z) "str"
  | tup {a : Addr} {xs : List V} (e : H a = some (.tup xs)) : Oth H (.ref a) "tuple"
section
variable {X : Cx} {CX : CXT} {k : Nat} {C f : Addr} {sp : Sp} {E : XK}
theorem oth_looks {M : Model} {pins : List (Addr × Obj)} {σ : L2.St} {H : Hp} {s : Shared} {y : V} {u : Value} {T : String} (I : Inv X pins σ H s) (ry : RelV y u) (o : Oth H y T) : Looks M s.heap (typeOf u) (.type T) := by
  cases o with
  | int i => obtain ⟨t, e⟩ := (show ∃ t, u = Value.int i t from ry); subst e; exact Looks.of_pure rfl
  | str z => obtain ⟨t, e⟩ := (show ∃ t, u = Value.str z t from ry); subst e; exact Looks.of_pure rfl
  | @tup a xs e =>
    cases (show u = Value.ref a from ry)
    obtain ⟨_, _, _, o, h1, h2, _⟩ := (show ObjOk X.prog X.w H s.heap a (.tup xs) from I.hok a _ e)
    have z := (Looks.ld (M := M) (part := none) h1)
    exact fun A Q E s' k q => wpAny_typeOf_ref (k _ _ h1) (by rw [h2]; exact q)
def rOwnX (K : Frag) (C : Addr) (sp : Sp) (E : XK) : R2 := fun x y H Q => ∃ a dx fs T, x = .ref a ∧ H a = some (.ins C dx fs) ∧ Oth H y T ∧ subIn K (.type T) (.ref C) = some false ∧ sp [x, y] H Q E
theorem op_ownEqX {op : CmpOp} {m : Str} (M : Meth X.K C m f) (F : FnR X.prog X.w X.K X.mg X.base CX k f sp) (hr : Room k X.A) (hx : Passes CX X E) (hu : X.A.units < cLine) (hm : (cmpInfo op).2.1 = m := by rfl)
    (ho : ∀ a b, compareOp op a b = richCompare op a b := by intro _ _; rfl) : OpR X (compareOp op) (rOwnX X.K C sp E) := by
  intro pins s σ H x y v u Q I rx ry h
  obtain ⟨a, dx, fs, T, rfl, ha, oy, hs, q⟩ := h
  obtain rfl : v = Value.ref a := rx
  obtain ⟨ox, od, J, _⟩ := inst_of I ha
  obtain ⟨mm, Fm⟩ := I.fr
  rw [ho]
  refine cmp_K hu Fm I.ok.mod.kin J (oth_looks I ry oy) (by unfold notFirst; rw [hs]; simp) (by rw [hm]; exact M.at_) M.fn ?_
  exact wpAny_mono (run_own (vs := [.ref a, y]) F hr hx I (.cons rfl (.cons ry .nil)) q) (fun _ _ z => cmpBack z) fun _ _ e => e
theorem r_ownX {K : Frag} {C a dx : Addr} {fs : List (Str × V)} {sp : Sp} {E : XK} {H : Hp} {Q : VK} {y : V} {T : String} (ha : H a = some (.ins C dx fs)) (o : Oth H y T) (hs : subIn K (.type T) (.ref C) = some false) (k : sp [.ref a, y] H Q E) : rOwnX K C sp E (.ref a) y H Q := ⟨a, dx, fs, T, rfl, ha, o, hs, k⟩
end
end Ow
namespace Ow
open PySem PySem.Spec PyProof.Rows PyProof.V L2 StX
open PySem.W PySem.Calls
/-! ### C.m(..), m a static method of the class C -/
/-- C.m is a static method: its record at p, its def at g -/
structure SMet (K : PySem.W.Frag) (C : Addr) (mc : Value) (m : Str) (p g : Addr) : Prop where
  at_ : PySem.W.findCls K (.ref C) mc m = some (.get (.builtin "staticmethod.__get__") (.ref p) .none (.ref C))
  rc : ∃ rest, PySem.W.recIn K p "staticmethod" = some (.ref g :: rest)
  kp : PySem.W.keepIn K (.ref g) = true
section
variable {X : Cx} {CX : CXT} {k : Nat} {C p g : Addr} {mc : Value} {sp : Sp} {E : XK} {o e : Expr} {es : List Expr} {m : Str} {pos apos : Pos} {ta : TE} {t : TA} {pl : Sem Bool} {fd : FuncData} {ps : List Str} {dvs : List V} {ds : List Value}
variable {pins : List (Addr × Obj)} {σ : L2.St} {H : Hp} {s : Shared} {A : Around} {Ex : Value → Shared → Prop}
theorem getsmet_ok {b : Bool} {Q : Value → Shared → Prop} (I : Inv X pins σ H s) (r : ClX.CRead X.K C mc) (k : SMet X.K C mc m p g) (h : ∀ s', Inv X pins σ H s' → Q (.ref g) s') : wpAny (model X.prog X.w) A (getAttr (.ref C) m b) Q Ex s := by
  obtain ⟨rest, hp⟩ := k.rc
  refine PySem.W.cls_bind I.kIn r.rd k.at_ ?_
  exact wpAny_call (PySem.W.sm_get (s := { s with toks := s.toks + 1 }) I.kIn hp (PySem.W.handed_on rfl (h _ (I.tok _))))
def tSMeth (C : Addr) (sp : Sp) (dvs : List V) (E : XK) (ta : TE) (t : TA) : TE := fun σ H Q => ta σ H fun x H1 => x = .ref C ∧ t σ H1 fun vs H2 => sp (vs ++ dvs) H2 Q E
theorem pe_smeth (he : PE X o ta) (r : ClX.CRead X.K C mc) (c : SMet X.K C mc m p g) (F : FnOk X.prog X.w X.K X.mg X.base CX k g fd ps sp) (hr : Room k X.A) (hb : Binds X.K fd ps ds) (hd : Vals dvs ds) (hx : Passes CX X E) (ha : PA X (e :: es) t)
    (hst : starEach (e :: es) X.env = (false, eval e X.env) :: starEach es X.env := by rfl) (hpl : (backTo pos (starEach es X.env)).any (·.1) = false := by rfl)
    (ht : eval (.Call (.Attribute o m apos) (e :: es) [] pos) X.env = (do
      let ov ← eval o X.env
      standAt apos.atName
      let (f, first) ← holding [ov] (getMethod ov m pl)
      callWith pos f first (backTo pos (starEach (e :: es) X.env)) (backToKw pos (keywordEach [] X.env))) := by rfl) :
    PE X (.Call (.Attribute o m apos) (e :: es) [] pos) (tSMeth C sp dvs E ta t) := by
  refine ⟨fun pins s σ H Q I h => ?_⟩
  refine PySem.W.methodCall_KW (pl := pl) (thn (he.run pins s σ H _ I h) fun u s1 ⟨x, H1, I1, rx, ex, q⟩ => ?_) ht
  subst ex
  obtain rfl : u = Value.ref C := rx
  refine PySem.W.method_cls I1.kIn r.ga (getsmet_ok I1 r c fun s2 I2 => ?_)
  exact PySem.W.callWith_K (h₀ := X.base) I2.ok.mod.kin c.kp (thn (ha.run pos _ s2 σ H1 _ I2 q) fun us s3 ⟨vs, H2, I3, rv, q2⟩ => ⟨I3.kIn, run_fn F hr hb hd hx I3 rv q2⟩) hst hpl
theorem r_smeth {C : Addr} {sp : Sp} {dvs : List V} {E : XK} {ta : TE} {t : TA} {σ : L2.St} {H : Hp} {Q : VK} (k : ta σ H fun x H1 => x = .ref C ∧ t σ H1 fun vs H2 => sp (vs ++ dvs) H2 Q E) : tSMeth C sp dvs E ta t σ H Q := k
end
end Ow
namespace Bl
open PySem PySem.Spec PyProof.Rows PyProof.V L2 StX
open PySem.W PySem.Calls My.Ow
/-! ### bool(a tuple), bool(x) of a class with __bool__, ~x, C.m(..) and x.m() in a try -/
theorem meets_bool_tup (t : Addr) (items : Array Value) (hfit : (items.size : Int) < 2 ^ 63) :
    Meets (Builtin.«bool.__new__» ⟨[.type "bool", .ref t], []⟩) (fun _ R s => IsTup s.heap t items ∧ R (.ok (.ret (.bool (!items.isEmpty)))) { s with toks := s.toks + 1 + 1 }) :=
  Meets.of_wp fun prog w A R s hs => by
    obtain ⟨hl, hs⟩ := hs
    obtain ⟨hp, g, d, tk, os⟩ := s
    have f1 := PySem.F.conv_sub_bool
    repeat (any_goals (first | assumption | (with_reducible refine truthy_tuple hl hfit ?_) | wp_step))
    all_goals first | exact ⟨_, rfl, hs⟩ | exact hs | skip
section
variable {prog : Program} {w : World} {A : Around} {E : Value → Shared → Prop} {s : Shared} {K : Frag} {x C f : Addr} {ox : Obj} {od : Option Obj}
theorem truthy_own {M : Model} {Q : Bool → Shared → Prop} (X : K.In s.heap) (I : InstAt s.heap x ox C od) (hs : findIn K (.ref C) "__bool__" = some (some (.ref f))) (hf : isFn K (.ref f) = true)
    (h : wpAny M A (call (.ref f) [.ref x]) (PySem.W.BoolBack Q) E s) : wpAny M A (truthy (.ref x)) Q E s := by
  unfold truthy
  refine wpAny_bind (m := callSpecial? (.ref x) (Str.ofString "__bool__")) (special_fn X I hs (beq_iff_eq.mp hf) (wpAny_mono h (fun r s' hr => ?_) fun _ _ y => y))
  cases r <;> first | exact hr.elim | skip
  exact wpAny_pure hr
theorem meets_bool_own (X : K.In s.heap) (I : InstAt s.heap x ox C od) (hs : findIn K (.ref C) "__bool__" = some (some (.ref f))) (hf : isFn K (.ref f) = true) :
    MeetsIn prog w (Builtin.«bool.__new__» ⟨[.type "bool", .ref x], []⟩) (fun A R s' => s' = s ∧ wpAny (model prog w) A.in1 (call (.ref f) [.ref x]) (PySem.W.BoolBack fun b s2 => R (.ok (.ret (.bool b))) s2) (fun e s2 => R (.error e) s2) s) := by
  rintro A R s' ⟨rfl, h⟩
  have f1 := PySem.F.conv_sub_bool
  have key := truthy_own X I hs hf h
  obtain ⟨hp, g, d, tk, os⟩ := s'
  repeat (any_goals (first | assumption | (refine wpAny_mono key (fun b s2 hb => ?_) fun _ _ e => e) | wp_step))
  all_goals first | exact ⟨_, rfl, hb⟩ | exact hb | skip
theorem bool_own {Q : Value → Shared → Prop} (X : K.In s.heap) (I : InstAt s.heap x ox C od) (hs : findIn K (.ref C) "__bool__" = some (some (.ref f))) (hf : isFn K (.ref f) = true)
    (h : wpAny (model prog w) A.in1.in1 (call (.ref f) [.ref x]) (PySem.W.BoolBack fun b s2 => Q (.bool b) s2) E s) : wpAny (model prog w) A (call (.type "bool") [.ref x]) Q E s := by
  refine callType_newIn PySem.F.called_bool PySem.F.newNe_bool (PySem.F.typeCall_bool_1 _) (PySem.F.newCall_bool_1 _) (fun obj => PySem.F.args_object_init_2 obj _) PySem.F.entry_bool_new (meets_bool_own X I hs hf) ⟨rfl, ?_⟩
  refine wpAny_mono h (fun r s2 hr => ?_) fun _ _ e => e
  cases r <;> first | exact hr.elim | exact ⟨rfl, hr⟩
end
section
variable {X : Cx} {CX : CXT} {k : Nat} {C f : Addr} {sp : Sp} {E : XK}
/-- bool(a tuple) -/
theorem call_boolT {K : Frag} (hK : X.K = K) : CallR X (.type "bool") (fun xs H Q => ∃ (a : Addr) (zs : List V), xs = [.ref a] ∧ SqT K H a zs ∧ Q (.bl (!zs.isEmpty)) H) := by
  subst hK
  intro pins s σ H xs us Q I r h
  obtain ⟨a, zs, rfl, hq, q⟩ := h
  obtain rfl := Vals.ref1 r
  obtain ⟨its, rv, hl, hz⟩ := I.tuple hq
  have h63 := line63
  have hlen := rv.length
  refine call_bool_1 (meets_bool_tup a its.toArray (by simp only [List.size_toArray]; omega)) ⟨hl, rfl, ?_⟩
  exact ⟨.bl (!zs.isEmpty), H, I.tok _, by rw [isEmpty_of rv]; rfl, q⟩
theorem r_boolT {K : Frag} {H : Hp} {Q : VK} {a : Addr} {zs : List V} (h : SqT K H a zs) (k : Q (.bl (!zs.isEmpty)) H) : ∃ (a' : Addr) (zs' : List V), [V.ref a] = [.ref a'] ∧ SqT K H a' zs' ∧ Q (.bl (!zs'.isEmpty)) H := ⟨a, zs, rfl, h, k⟩
/-- bool(x), x of the class C -/
def rBoolOwn (C : Addr) (sp : Sp) (E : XK) : List V → Hp → VK → Prop := fun xs H Q => ∃ a dx fs, xs = [.ref a] ∧ H a = some (.ins C dx fs) ∧ sp [.ref a] H (fun v H' => ∃ b, v = .bl b ∧ Q v H') E
theorem call_boolOwn (M : Meth X.K C "__bool__" f) (F : FnR X.prog X.w X.K X.mg X.base CX k f sp) (hr : Room (k + 2) X.A) (hx : Passes CX X E) : CallR X (.type "bool") (rBoolOwn C sp E) := by
  intro pins s σ H xs us Q I r h
  obtain ⟨a, dx, fs, rfl, ha, q⟩ := h
  obtain ⟨u, rfl, ru⟩ := r.one
  obtain rfl : u = Value.ref a := ru
  obtain ⟨ox, od, J, _⟩ := inst_of I ha
  have hr2 : Room k X.A.in1.in1 := (show Room (k + 1) X.A.in1 from Room.in1 hr).in1
  refine bool_own I.kIn J M.at_ M.fn (wpAny_mono (wpAny_call (SlX.run_at (us := [.ref a]) (ws := [.ref a]) F hr2 I.env0.in1.in1 hx I (.cons rfl .nil) q)) (fun u' s' z => ?_) fun _ _ x => x)
  obtain ⟨z', H', I', rz, y, ey, qz⟩ := z
  subst ey
  cases (show u' = Value.bool y from rz)
  exact ⟨.bl y, H', I', rfl, qz⟩
theorem r_boolOwn {C a dx : Addr} {fs : List (Str × V)} {sp : Sp} {E : XK} {H : Hp} {Q : VK} (ha : H a = some (.ins C dx fs)) (k : sp [.ref a] H (fun v H' => ∃ b, v = .bl b ∧ Q v H') E) : rBoolOwn C sp E [.ref a] H Q := ⟨a, dx, fs, rfl, ha, k⟩
/-- ~x -/
theorem un_ownInv (M : Meth X.K C "__invert__" f) (F : FnR X.prog X.w X.K X.mg X.base CX k f sp) (hr : Room k X.A) (hx : Passes CX X E) : UnR X (unaryOp .Invert) (rOwn1 C sp E) := by
  intro pins s σ H x v Q I rx h
  obtain ⟨a, dx, fs, rfl, ha, q⟩ := h
  obtain rfl : v = Value.ref a := rx
  obtain ⟨ox, od, J, _⟩ := inst_of I ha
  obtain ⟨mm, Fm⟩ := I.fr
  exact ksp_inv Fm I.ok.mod.kin J M.at_ M.fn (run_own (vs := [.ref a]) F hr hx I (.cons rfl .nil) q)
end
section
variable {X : Cx} {CX : CXT} {C p g f : Addr} {mc : Value} {fd : FuncData} {k : Nat} {sp : Sp} {ps : List Str} {ds : List Value} {dvs : List V} {E : L2.St → XK} {m : Str} {o e : Expr} {es : List Expr} {ta : TE} {t : TA} {pos apos : Pos} {pl : Sem Bool}
/-- C.m(..) of a static method, in a try -/
def tSMethSD (C : Addr) (sp : Sp) (dvs : List V) (E : L2.St → XK) (ta : TE) (t : TA) : TE := fun σ H Q => ta σ H fun x H1 => x = .ref C ∧ t σ H1 fun vs H2 => sp (vs ++ dvs) H2 Q (E σ)
theorem pe_smethSD (he : PE X o ta) (r : ClX.CRead X.K C mc) (c : SMet X.K C mc m p g) (F : FnOk X.prog X.w X.K X.mg X.base CX k g fd ps sp) (hr : Room k X.A) (hb : Binds X.K fd ps ds) (hd : Vals dvs ds) (hx : ∀ σ, PassesAt CX X σ (E σ)) (ha : PA X (e :: es) t)
    (hst : starEach (e :: es) X.env = (false, eval e X.env) :: starEach es X.env := by rfl) (hpl : (backTo pos (starEach es X.env)).any (·.1) = false := by rfl)
    (ht : eval (.Call (.Attribute o m apos) (e :: es) [] pos) X.env = (do
      let ov ← eval o X.env
      standAt apos.atName
      let (f, first) ← holding [ov] (getMethod ov m pl)
      callWith pos f first (backTo pos (starEach (e :: es) X.env)) (backToKw pos (keywordEach [] X.env))) := by rfl) :
    PE X (.Call (.Attribute o m apos) (e :: es) [] pos) (tSMethSD C sp dvs E ta t) := by
  refine ⟨fun pins s σ H Q I h => ?_⟩
  refine PySem.W.methodCall_KW (pl := pl) (thn (he.run pins s σ H _ I h) fun u s1 ⟨x, H1, I1, rx, ex, q⟩ => ?_) ht
  subst ex
  obtain rfl : u = Value.ref C := rx
  refine PySem.W.method_cls I1.kIn r.ga (getsmet_ok I1 r c fun s2 I2 => ?_)
  exact PySem.W.callWith_K (h₀ := X.base) I2.ok.mod.kin c.kp (thn (ha.run pos _ s2 σ H1 _ I2 q) fun us s3 ⟨vs, H2, I3, rv, q2⟩ => ⟨I3.kIn, run_fnSD F hr hb hd (hx σ) I3 rv q2⟩) hst hpl
theorem r_smethSD {C : Addr} {sp : Sp} {dvs : List V} {E : L2.St → XK} {ta : TE} {t : TA} {σ : L2.St} {H : Hp} {Q : VK} (k : ta σ H fun x H1 => x = .ref C ∧ t σ H1 fun vs H2 => sp (vs ++ dvs) H2 Q (E σ)) : tSMethSD C sp dvs E ta t σ H Q := k
/-- C.m() of a static method -/
theorem pe_smeth0 {E : XK} (he : PE X o ta) (r : ClX.CRead X.K C mc) (c : SMet X.K C mc m p g) (F : FnOk X.prog X.w X.K X.mg X.base CX k g fd ps sp) (hr : Room k X.A) (hb : Binds X.K fd ps ds) (hd : Vals dvs ds) (hx : Passes CX X E)
    (ht : eval (.Call (.Attribute o m apos) [] [] pos) X.env = (do
      let ov ← eval o X.env
      standAt apos.atName
      let (f, first) ← holding [ov] (getMethod ov m pl)
      callWith pos f first (backTo pos (starEach [] X.env)) (backToKw pos (keywordEach [] X.env))) := by rfl) :
    PE X (.Call (.Attribute o m apos) [] [] pos) (tSMeth C sp dvs E ta tNil) := by
  refine ⟨fun pins s σ H Q I h => ?_⟩
  refine PySem.W.methodCall_KW (pl := pl) (thn (he.run pins s σ H _ I h) fun u s1 ⟨x, H1, I1, rx, ex, q⟩ => ?_) ht
  subst ex
  obtain rfl : u = Value.ref C := rx
  refine PySem.W.method_cls I1.kIn r.ga (getsmet_ok I1 r c fun s2 I2 => ?_)
  exact PySem.W.callWith_K0 I2.kIn c.kp (run_fn (us := []) (vs := []) F hr hb hd hx I2 .nil q)
/-- o.m() in a try -/
theorem pe_meth0SD (he : PE X o ta) (c : Cls X.K C) (hm : Meth X.K C m f) (F : FnOk X.prog X.w X.K X.mg X.base CX k f fd ps sp) (hr : Room k X.A)
    (hb : Binds X.K fd ps ds) (hd : L2.Vals dvs ds) (hx : ∀ σ, PassesAt CX X σ (E σ))
    (ht : eval (.Call (.Attribute o m apos) [] [] pos) X.env = (do
      let ov ← eval o X.env
      standAt apos.atName
      let (g, first) ← holding [ov] (getMethod ov m pl)
      callWith pos g first (backTo pos (starEach [] X.env)) (backToKw pos (keywordEach [] X.env))) := by rfl) :
    PE X (.Call (.Attribute o m apos) [] [] pos) (Dt.tMethSD C m sp dvs E ta tNil) := by
  refine ⟨fun pins s σ H Q I h => PySem.W.methodCall_KW (pl := pl) (thn (he.run pins s σ H _ I h) fun u s1 got => ?_) ht⟩
  obtain ⟨_, H1, I1, rx, a, dx, fs, rfl, ea, l, q⟩ := got
  obtain rfl : u = Value.ref a := rx
  refine getmeth_ok I1 ea c hm l ?_
  exact PySem.W.callWith_K0 (first := [.ref a]) I1.kIn hm.kp (run_fnSD (us := [.ref a]) (vs := [.ref a]) F hr hb hd (hx σ) I1 (.cons rfl .nil) q)
end
end Bl
namespace Vi
open PySem PySem.Spec PyProof.Rows PyProof.V L2 StX
/-! ### one of several readings; a field that is called; instances of a class below -/
section
variable {X : Cx}
def tOr2 (t1 t2 : TE) : TE := fun σ H Q => t1 σ H Q ∨ t2 σ H Q
theorem pe_or {e : Expr} {t1 t2 : TE} (h1 : PE X e t1) (h2 : PE X e t2) : PE X e (tOr2 t1 t2) := ⟨fun pins s σ H Q I h => h.elim (h1.run pins s σ H Q I) (h2.run pins s σ H Q I)⟩
theorem r_or1 {t1 t2 : TE} {σ : L2.St} {H : Hp} {Q : VK} (k : t1 σ H Q) : tOr2 t1 t2 σ H Q := .inl k
theorem r_or2 {t1 t2 : TE} {σ : L2.St} {H : Hp} {Q : VK} (k : t2 σ H Q) : tOr2 t1 t2 σ H Q := .inr k
end
section
variable {X : Cx} {CX : CXT} {k : Nat} {C g : Addr} {sp : Sp} {E : XK} {m : Str} {pos apos : Pos} {e o : Expr} {es : List Expr} {ta : TE} {t : TA}
/-- the value of a field, asked for as a method is -/
theorem getfm_ok {pins : List (Addr × Obj)} {σ : L2.St} {H : Hp} {s : Shared} {A : Around} {E : Value → Shared → Prop} {a D dx b : Addr} {fs : List (Str × V)} {pl : Sem Bool} {Q : Value × List Value → Shared → Prop} (I : Inv X pins σ H s) (ea : H a = some (.ins D dx fs)) (c : Cls X.K D) (n : NoAttr X.K D m) (l : fs.lookup m = some (.ref b))
    (h : ∀ s', Inv X pins σ H s' → Q (.ref b, []) s') : wpAny (model X.prog X.w) A (getMethod (.ref a) m pl) Q E s := by
  obtain ⟨mA, O, _⟩ := ins_get I.hok ea
  obtain ⟨od, J, _⟩ := O.look
  refine PySem.W.method_usual (r := none) I.kIn J (PySem.W.plainGet_of (c.get m)).1 (PySem.W.plainGet_of (c.get m)).2 n rfl ?_
  refine getattr_ok I ea c n l fun u s' I' r => ?_
  obtain rfl : u = Value.ref b := r
  exact h s' I'
/-- o.f(..), the field f an instance of C that is called -/
def tFCall (K : PySem.W.Frag) (m : Str) (C : Addr) (sp : Sp) (E : XK) (ta : TE) (t : TA) : TE := fun σ H Q => ta σ H fun x H1 => ∃ a D dx fs b, x = .ref a ∧ H1 a = some (.ins D dx fs) ∧ Cls K D ∧ NoAttr K D m ∧ fs.lookup m = some (.ref b) ∧
  t σ H1 fun vs H2 => (∃ dx fs, H2 b = some (.ins C dx fs)) ∧ sp (.ref b :: vs) H2 Q E
theorem pe_fcall {pl : Sem Bool} (he : PE X o ta) (c : CallO X.K C g) (F : FnR X.prog X.w X.K X.mg X.base CX k g sp) (hr : Room k X.A) (hx : Passes CX X E) (ha : PA X (e :: es) t)
    (hst : starEach (e :: es) X.env = (false, eval e X.env) :: starEach es X.env := by rfl) (hpl : (backTo pos (starEach es X.env)).any (·.1) = false := by rfl)
    (ht : eval (.Call (.Attribute o m apos) (e :: es) [] pos) X.env = (do
      let ov ← eval o X.env
      standAt apos.atName
      let (f, first) ← holding [ov] (getMethod ov m pl)
      callWith pos f first (backTo pos (starEach (e :: es) X.env)) (backToKw pos (keywordEach [] X.env))) := by rfl) :
    PE X (.Call (.Attribute o m apos) (e :: es) [] pos) (tFCall X.K m C sp E ta t) := by
  refine ⟨fun pins s σ H Q I h => ?_⟩
  refine PySem.W.methodCall_KW (pl := pl) (thn (he.run pins s σ H _ I h) fun u s1 ⟨x, H1, I1, rx, a, D, dx, fs, b, ex, ea, cD, n, l, q⟩ => ?_) ht
  subst ex
  obtain rfl : u = Value.ref a := rx
  refine getfm_ok I1 ea cD n l fun s1' I1' => ?_
  refine callO_with (thn (ha.run pos pins s1' σ H1 _ I1' q) fun us s2 ⟨vs, H2, I2, r, hi, q2⟩ => ?_) hst hpl
  obtain ⟨ox, od, J, hd⟩ := insC_at I2 (.inr hi)
  exact ⟨⟨C, ox, od, J, hd⟩, run_callO c F hr hx I2 (.inr hi) r q2⟩
theorem r_fcall {K : PySem.W.Frag} {σ : L2.St} {H : Hp} {Q : VK} (k : ta σ H fun x H1 => ∃ a D dx fs b, x = .ref a ∧ H1 a = some (.ins D dx fs) ∧ Cls K D ∧ NoAttr K D m ∧ fs.lookup m = some (.ref b) ∧ t σ H1 fun vs H2 => (∃ dx fs, H2 b = some (.ins C dx fs)) ∧ sp (.ref b :: vs) H2 Q E) : tFCall K m C sp E ta t σ H Q := k
theorem r_cval {K : PySem.W.Frag} {f : Str} {σ : L2.St} {H : Hp} {Q : VK} (k : ta σ H fun x H1 => ∃ C mc v u, x = .ref C ∧ ClX.CRead K C mc ∧ ClX.CVal K C mc f v u ∧ Q v H1) : ClX.tCVal K ta f σ H Q := k
end
/-- isinstance(x, B), x of a class below B (b: or of one that is not) -/
theorem r_isiSub {K : PySem.W.Frag} {C B a dx : Addr} {H : Hp} {fs : List (Str × V)} {Q : VK} {b : Bool} (o : Ow.OC K C) (h : H a = some (.ins C dx fs)) (hk : PySem.W.kitOne K (.ref C) (.ref B) = some b) (k : Q (.bl b) H) : rIsi K [.ref a, .ref B] H Q :=
  ⟨_, _, _, _, b, rfl, .own B, o.ty h, hk, k⟩
end Vi
namespace Vi
open PySem PySem.Spec PyProof.Rows PyProof.V L2 StX
/-! ### max(list of ints, default=d) -/
def maxOr (d : Int) : List Int → Int
  | [] => d
  | n :: ns => ns.foldl max n
def rMaxD (K : PySem.W.Frag) : List V → List V → Hp → VK → Prop := fun vs zs H Q => ∃ (a : Addr) (ns : List Int) (d : Int), vs = [V.ref a] ∧ zs = [V.int d] ∧ SqL K H a (ns.map V.int) ∧ Q (.int (maxOr d ns)) H
theorem depth_ints : ∀ ns : List Int, PyData.depthAll (ns.map .int) = 0
  | [] => rfl
  | n :: ns => by rw [List.map_cons]; show max 0 (PyData.depthAll (ns.map .int)) = 0; rw [depth_ints ns]; rfl
theorem cr_maxD {X : Cx} (hc : X.calm = true) (hu : X.A.units + 1 < cLine) : CallRK X (.builtin "max") [Str.ofString "default"] (rMaxD X.K) := by
  intro pins s σ H xs zs us ws Q I r rz h
  obtain ⟨a, ns, d, rfl, rfl, hs, q⟩ := h
  obtain ⟨its, rv, hl, _⟩ := I.list hs
  rw [Vals.ref1 r]
  obtain ⟨t, rfl⟩ : ∃ t, ws = [.int d t] := by
    cases rz with
    | cons h1 h2 => cases h2 with
      | nil => obtain ⟨t, rfl⟩ := h1; exact ⟨t, rfl⟩
  have ra : ReadsAll s.heap its.toArray.toList (ns.map .int) [] := by rw [List.toList_toArray]; exact (rv.ints).reads s.heap
  refine PySem.W.max_list_default (I.ok.hd hc) hl.isList ra ⟨fun x mx y my => ?_, fun x mx => ?_⟩ (by rw [depth_ints]; exact hu) (fun e h' tk hk => ?_) (fun y ys i v h' tk bs e hv hr hk => ?_)
  · obtain ⟨m, _, rfl⟩ := List.mem_map.mp mx
    obtain ⟨n, _, rfl⟩ := List.mem_map.mp my
    rfl
  · obtain ⟨m, _, rfl⟩ := List.mem_map.mp mx
    intro z; cases z
  · have : ns = [] := List.map_eq_nil_iff.mp e
    subst this
    exact ⟨.int d, H, I.kept hk, ⟨_, rfl⟩, q⟩
  · cases ns with
    | nil => cases e
    | cons n ns =>
      rw [List.map_cons] at e
      obtain ⟨rfl, rfl⟩ := List.cons.inj e
      rw [PySem.W.maxD_ints] at hr
      cases hr
      exact ⟨.int _, H, I.kept hk, ⟨_, rfl⟩, q⟩
end Vi
/-! math.lcm, list(d.values()), min of a list of texts, dict of a tuple of pairs -/
namespace Lv
open PySem PySem.Spec PyProof.Rows PyProof.V L2 StX
/-! ### math.lcm of ints below 2 ^ 13000 -/
def rLcm : List V → Hp → VK → Prop := fun vs H Q => ∃ a b : Int, vs = [.int a, .int b] ∧ a.natAbs < 2 ^ 4000 ∧ b.natAbs < 2 ^ 4000 ∧ Q (.int ((Nat.lcm a.natAbs b.natAbs : Nat) : Int)) H
theorem lcm_log {n k : Nat} (h : n < 2 ^ k) : n.log2 < k ∨ n = 0 := by
  by_cases h0 : n = 0
  · exact .inr h0
  · exact .inl ((Nat.log2_lt h0).mpr h)
theorem cr_lcm {X : Cx} : CallR X (.builtin "math.lcm") rLcm := by
  intro pins s σ H vs us Q I r h
  obtain ⟨a, b, rfl, ha, hb, q⟩ := h
  obtain ⟨t, u, rfl⟩ := Vals.int2 r
  have one : Nat.lcm 1 a.natAbs = a.natAbs := by simp [Nat.lcm]
  have l0 : (0 : Nat).log2 = 0 := by decide
  have h1 : ¬ (max 1 a.natAbs).log2 / 30 + 1 > 450 := by
    have : max 1 a.natAbs < 2 ^ 4000 := by
      have : 1 < 2 ^ 4000 := Nat.one_lt_two_pow (by decide)
      exact Nat.max_lt.mpr ⟨this, ha⟩
    rcases lcm_log this with h | h
    · omega
    · rw [h, l0]; decide
  have h2 : ¬ (max a.natAbs b.natAbs).log2 / 30 + 1 > 450 := by
    rcases lcm_log (Nat.max_lt.mpr ⟨ha, hb⟩) with h | h
    · omega
    · rw [h, l0]; decide
  have hs : ((((Nat.lcm 1 a.natAbs).lcm b.natAbs : Nat) : Int)).natAbs.log2 < bitsLine := by
    rw [one, Int.natAbs_natCast]
    have e : bitsLine = 134217728 := by decide
    have l : a.natAbs.lcm b.natAbs < 2 ^ 8000 := by
      refine Nat.lt_of_le_of_lt (Nat.div_le_self _ _) ?_
      have : (2 : Nat) ^ 8000 = 2 ^ 4000 * 2 ^ 4000 := by rw [← Nat.pow_add]
      rw [this]
      exact Nat.mul_lt_mul'' ha hb
    rcases lcm_log l with h | h
    · omega
    · rw [h, l0, e]; decide
  have m := PySem.W.mg_run_lcm a t b u h1 h2 hs
  rw [one] at m
  exact call_function_meets PySem.W.MGF.kind_lcm PySem.W.MGF.plain_lcm PySem.W.MGF.entry_lcm (PySem.W.MGF.args_lcm _ _) m.meets ⟨.int _, H, I.tok _, ⟨_, rfl⟩, q⟩
theorem r_lcm {a b : Int} {H : Hp} {Q : VK} (ha : a.natAbs < 2 ^ 4000) (hb : b.natAbs < 2 ^ 4000) (k : Q (.int ((Nat.lcm a.natAbs b.natAbs : Nat) : Int)) H) : rLcm [.int a, .int b] H Q := ⟨a, b, rfl, ha, hb, k⟩
/-! ### list(d.values()) -/
def tListVals (te : TE) : TE := fun σ H Q => te σ H fun x H1 => ∃ (d : Addr) (kvs : List (Key × V)), x = .ref d ∧ H1 d = some (.dK kvs) ∧ ∀ q, H1 q = none → Q (.ref q) (upd H1 q (.lst (kvs.map (·.2))))
theorem vals_snd : ∀ {kvs : List (Key × V)} {vs : List (Key × Value)} {ws : List Value}, KV kvs vs → ws.length = vs.length → (∀ (j : Nat) (v : Value), ws[j]? = some v → ∃ k, vs[j]? = some (k, v)) → L2.Vals (kvs.map (·.2)) ws
  | [], _, [], .nil, _, _ => .nil
  | [], _, _ :: _, .nil, h, _ => by cases h
  | kv :: kvs, _, [], .cons a b, h, _ => by cases h
  | kv :: kvs, v :: vs, w :: ws, .cons a b, h, k => by
    obtain ⟨k0, e⟩ := k 0 w rfl
    have e2 : v = (k0, w) := Option.some.inj e
    refine .cons (by rw [show w = v.2 by rw [e2]]; exact a.2) (vals_snd b (by simpa using h) fun j u hu => ?_)
    obtain ⟨k1, e1⟩ := k (j + 1) u (by simpa using hu)
    exact ⟨k1, by simpa using e1⟩
theorem pe_listVals {X : Cx} {e : Expr} {te : TE} {p pos apos cpos : Pos} (hc : X.calm = true) (he : PE X e te) (hg : Gl X "list") (hm : X.mg "list" = none) (hv : bootBuiltins "list" = some (.type "list")) (hbase : attributeBase e "values" X.env (eval e X.env) = eval e X.env := by rfl) (hline : (apos.endLine == cpos.line) = true := by rfl)
    (hs : starEach [.Call (.Attribute e "values" apos) [] [] cpos] X.env = (false, eval (.Call (.Attribute e "values" apos) [] [] cpos) X.env) :: starEach [] X.env := by rfl) :
    PE X (.Call (.Name "list" p) [.Call (.Attribute e "values" apos) [] [] cpos] [] pos) (tListVals te) := by
  refine ⟨fun pins s σ H Q I hq => ?_⟩
  refine wpAny_Call_Name_kw (ld_blt I hg hm hv ?_)
  refine PyProof.Rows.callWith_type1 ?_ hs rfl
  rw [hs]
  show wpAny _ _ (spliced ((false, eval (.Call (.Attribute e "values" apos) [] [] cpos) X.env) :: backTo pos (starEach [] X.env))) _ _ s
  refine Calls.spliced_cons ?_
  refine wpAny_Call_method (T := "dict") (id := "dict.values") hbase rfl hline F.plainAttrs_dict F.slot_dict_values F.type_dict_values (thn (he.run pins s σ H _ I hq) fun u s1 ⟨x, H1, I1, rx, d, kvs, ex, hd, q⟩ => ?_)
  subst ex
  obtain rfl : u = Value.ref d := rx
  obtain ⟨hz, hs0, vs, kv, hdo⟩ := I1.hok d _ hd
  obtain ⟨ep, hat⟩ := hdo.dictAt
  have lk : kvs.length = vs.length := Paired.length kv
  have I2 : Inv X pins σ H1 { s1 with heap := s1.heap.push { cls := .type "dict_values", data := .fields #[.ref d] } } := I1.kept (t' := s1.toks) fun b ob q => Heap.get?_push_of_some _ q
  refine ⟨hdo.typeIs, hdo.mapOf.noDict, ?_⟩
  show wpAny _ _ (callWith cpos (.builtin "dict.values") [.ref d] [] []) _ X.xe s1
  refine method_meetsIn F.slot_dict_values F.entry_dict_values rfl (PySem.evalArgs_none ⟨rfl, hdo.typeIs, F.args_dict_values_1 _, _, meets_dict_values (mixKind X.prog X.w) d hs0, ⟨vs, hdo⟩, ?_⟩)
  refine Calls.spliced_nil ?_
  refine PySem.W.kdl_call (PySem.W.kdl_values (knd := mixKind X.prog X.w) (kvs := vs) (ep := ep) (d := d)) (I1.ok.hd hc) ⟨⟨_, Heap.get?_push_size _ rfl, rfl, rfl⟩, hat.push _⟩ (by omega) fun h' tk acc c hk hS hacc => ?_
  refine ⟨.ref _, upd H1 _ (.lst (kvs.map (·.2))), I2.laid (t' := tk) hk (Nat.le_refl _) ?_, rfl, q _ ?_⟩
  · have hl : acc.toList.length = vs.length := by rw [Array.length_toList]; exact hacc.1
    exact ⟨by rw [List.length_map]; omega, acc.toList, c, vals_snd kv hl fun j v e => hacc.2 j v (by rw [← Array.getElem?_toList]; exact e), by rw [Array.toArray_toList]; exact hS⟩
  · exact I2.hok.fresh (Nat.le_refl _)
theorem r_listVals {te : TE} {σ : L2.St} {H : Hp} {Q : VK} (k : te σ H fun x H1 => ∃ (d : Addr) (kvs : List (Key × V)), x = .ref d ∧ H1 d = some (.dK kvs) ∧ ∀ q, H1 q = none → Q (.ref q) (upd H1 q (.lst (kvs.map (·.2))))) : tListVals te σ H Q := k
/-! ### min of a list of texts -/
def rMinS (K : PySem.W.Frag) : List V → Hp → VK → Prop := fun vs H Q => ∃ (a : Addr) (xs : List Str), vs = [V.ref a] ∧ SqL K H a (xs.map V.str) ∧ xs ≠ [] ∧ ∀ m ∈ xs, Q (.str m) H
theorem depth_strs : ∀ xs : List Str, PyData.depthAll (xs.map PyData.str) = 0
  | [] => rfl
  | n :: ns => by rw [List.map_cons]; show max 0 (PyData.depthAll (ns.map .str)) = 0; rw [depth_strs ns]; rfl
theorem reads_strs {h : Heap} : ∀ {xs : List Str} {us : List Value}, L2.Vals (xs.map V.str) us → ReadsAll h us (xs.map PyData.str) []
  | [], _, r => by
    rw [List.map_nil] at r
    cases r
    exact .nil
  | x :: xs, us, r => by
    rw [List.map_cons] at r
    cases r with
    | cons a b =>
      obtain ⟨t, rfl⟩ := a
      exact .cons (Reads.str _ _) (reads_strs b)
theorem cr_minS {X : Cx} (hc : X.calm = true) (hu : X.A.units + 1 < cLine) : CallR X (.builtin "min") (rMinS X.K) := by
  intro pins s σ H vs us Q I r h
  obtain ⟨a, xs, rfl, hs, hne, q⟩ := h
  obtain ⟨its, rv, hl, _⟩ := I.list hs
  rw [Vals.ref1 r]
  cases xs with
  | nil => exact absurd rfl hne
  | cons x xs =>
    have ra : ReadsAll s.heap its.toArray.toList (PyData.str x :: xs.map PyData.str) [] := by rw [List.toList_toArray]; exact reads_strs rv
    refine PySem.W.min_list_data (I.ok.hd hc) hl.isList ra ⟨fun y my z mz => ?_, fun y my => ?_⟩ (by have := depth_strs (x :: xs); rw [List.map_cons] at this; rw [this]; exact hu) (fun i v h' tk bs hv hr hk => ?_)
    · have h1 : y ∈ (x :: xs).map PyData.str := by rw [List.map_cons]; exact my
      have h2 : z ∈ (x :: xs).map PyData.str := by rw [List.map_cons]; exact mz
      obtain ⟨m, _, rfl⟩ := List.mem_map.mp h1
      obtain ⟨n, _, rfl⟩ := List.mem_map.mp h2
      rfl
    · have h1 : y ∈ (x :: xs).map PyData.str := by rw [List.map_cons]; exact my
      obtain ⟨m, _, rfl⟩ := List.mem_map.mp h1
      intro z; cases z
    · have hv' : its[i]? = some v := by rw [List.getElem?_toArray] at hv; exact hv
      have : ∃ m, m ∈ x :: xs ∧ RelV (V.str m) v := by
        clear hr ra
        have g : ∀ {ys : List Str} {us : List Value} {j : Nat}, L2.Vals (ys.map V.str) us → us[j]? = some v → ∃ m, m ∈ ys ∧ RelV (V.str m) v := by
          intro ys
          induction ys with
          | nil => intro us j r e; rw [List.map_nil] at r; cases r; simp at e
          | cons y ys ih =>
            intro us j r e
            rw [List.map_cons] at r
            cases r with
            | cons a b =>
              cases j with
              | zero =>
                have e2 := Option.some.inj e
                subst e2
                exact ⟨y, by simp, a⟩
              | succ j =>
                obtain ⟨m, hm, hr⟩ := ih b (by simpa using e)
                exact ⟨m, by simp [hm], hr⟩
        exact g rv hv'
      obtain ⟨m, hm, hr2⟩ := this
      exact ⟨.str m, H, I.kept hk, hr2, q m hm⟩
theorem r_minS {K : PySem.W.Frag} {a : Addr} {xs : List Str} {H : Hp} {Q : VK} (h : SqL K H a (xs.map V.str)) (ne : xs ≠ []) (k : ∀ m ∈ xs, Q (.str m) H) : rMinS K [.ref a] H Q := ⟨a, xs, rfl, h, ne, k⟩
/-! ### dict of a tuple of pairs -/
theorem tuple_keys_none : typeLookup (.type "tuple") "keys" = pure none := PySem.am_miss_of_fast (by first | decide +kernel | rfl)
section
variable {prog : Program} {w : World} {A : Around} {E : Value → Shared → Prop}
theorem miss_tuple {s : Shared} {a : Addr} {o : Obj} {xs : Array Value} {k : Nat} {Q : Option Value → Shared → Prop} (hx : s.heap.get? a = some o) (hc : o.cls = .type "tuple") (hdat : o.data = .seq xs k) (hd : o.dict = none) (hA : A.handled = none)
    (h : ∀ h' tk, (∀ b ob, s.heap.get? b = some ob → h'.get? b = some ob) → Q none { s with heap := h', toks := tk }) : wpAny (model prog w) A (getAttr? (.ref a) "keys") Q E s := by
  obtain ⟨c, dct, dat, sl⟩ := o
  simp only at hc hdat hd
  subst hc hdat hd
  obtain ⟨hp, g, d, tk, os⟩ := s
  have hT : ∀ tk', (⟨hp, g, d, tk', os⟩ : Shared).TypeIs (.ref a) "tuple" := fun _ => ⟨_, hx, rfl⟩
  have hmiss := tuple_keys_none
  have hname : (["__module__", "__name__", "__qualname__", "__doc__", "__annotations__"] : List Str).contains "keys" = false := by decide +kernel
  have hsz : ("keys" : Str).length + 100 ≤ sizeLine := by first | size_fits | decide +kernel
  have f1 := sub_AttributeError
  have f3 := PySem.F.slot_tuple_getattribute.lookup
  have f4 := PySem.F.slot_tuple_getattribute.bind (.ref a)
  have f5 := am_tuple_getattr_none
  unfold getAttr? getAttrBy? getAttrBy
  repeat (any_goals (first | assumption | exact hT _ | ((with_reducible show wpAny _ _ (call (Value.builtin "tuple.__getattribute__") _ _) _ _ _); refine call_meets PySem.F.slot_tuple_getattribute (hT _) am_entry_tuple_getattribute (PySem.F.args_tuple_getattribute_2 _ _) (meets_getattribute_miss_tuple a xs k sl "keys" _ hmiss hname hsz) ⟨hx, hA, fun h' tk' e hx' => ?_⟩) | wp_step))
  obtain ⟨t', u', he⟩ := hx'.there
  show wpAny _ _ (getattributeRaised _ _ _ _ _ _ _) _ _ _
  unfold getattributeRaised
  repeat (any_goals (first | assumption | wp_step))
  all_goals first | exact h _ _ hx'.keeps | (dsimp only; repeat (any_goals (first | assumption | exact h _ _ hx'.keeps | wp_step)))
theorem upd_loopT {R : Result → Shared → Prop} {S I l : Addr} {items : Array Value} {res : Value} (hh : A.handled = none) (hlI : l ≠ I) (hSI : S ≠ I) (hSl : S ≠ l) :
    ∀ (rest : List (Key × Value)) (i : Nat) (acc : List (Key × Value)) (ix : Int) (t : Tok) (s : Shared), items.size = i + rest.length → acc.length + rest.length ≤ sizeLine →
      (∀ (j : Nat) (q : Key × Value), rest[j]? = some q → ∃ (b : Addr) (u : Value), items[i + j]? = some (.ref b) ∧ b ≠ S ∧ b ≠ I ∧ IsTup s.heap b #[u, q.2] ∧ keyIs q.1 u = true) →
      s.heap.IsTupleIter I l i → s.heap.IsTuple l items → s.heap.DictOf (mixKind prog w) S acc →
      (∀ h' tk, h'.DictOf (mixKind prog w) S (merged acc rest) → (∀ b o, b ≠ S → b ≠ I → s.heap.get? b = some o → h'.get? b = some o) → R (.ok (.ret res)) { s with heap := h', toks := tk }) →
      codeAny (model prog w) A (.builtin "dict.update.loop" ⟨[.ref S, .ref I, .int ix t, res], []⟩) R s
  | [], i, acc, ix, t, s, hsz, hln, ht, hit, hl, hm, hR => by
    refine codeAny_builtin ud_entry ?_
    rw [Around.under_plainId ud_plain _]
    show wpAny _ A.in1 (pyNext (.ref I) >>= _) _ _ s
    refine wpAny_bind (wpAny_pyNext_tuple_end (A := A.in1) hh hit hl (by first | exact Array.getElem?_eq_none (Nat.le_of_eq hsz) | (simp at hsz; simp; omega)) fun h' he => ?_)
    show wpAny _ A.in1 (Builtin.Dict.addKeywords S [] >>= _) _ _ _
    refine wpAny_bind (wpAny_pure (wpAny_pure ?_))
    exact hR h' s.toks (hm.extBut he hSI) fun b o _ hb e => he b o hb e
  | q :: rest, i, acc, ix, t, s, hsz, hln, ht, hit, hl, hm, hR => by
    obtain ⟨b, u, hb, hbS, hbI, htup, hk⟩ := ht 0 q rfl
    rw [List.length_cons] at hsz hln
    refine codeAny_builtin ud_entry ?_
    rw [Around.under_plainId ud_plain _]
    show wpAny _ A.in1 (pyNext (.ref I) >>= _) _ _ s
    refine wpAny_bind (wpAny_pyNext_tuple_item (x := .ref b) hit hl (by simpa using hb) fun h1 hit1 hs1 => ?_)
    have ht1 : IsTup h1 b #[u, q.2] := htup.extBut hs1.extBut hbI
    have hl1 : h1.IsTuple l items := hl.extBut hs1.extBut hlI
    have hm1 : h1.DictOf (mixKind prog w) S acc := hm.extBut hs1.extBut hSI
    obtain ⟨o, ho, hc, n, hd⟩ := id ht1
    show wpAny _ A.in1 (holding [Value.ref b] _ >>= _) _ _ _
    refine wpAny_bind (wpAny_holding ?_)
    refine wpAny_bind (wpAny_tryCatch ?_)
    unfold Builtin.Dict.pairItems
    refine wpAny_bind (wpAny_typeOf (T := "tuple") ⟨o, ho, hc⟩ ?_)
    rw [if_pos (by first | decide | rfl | simp)]
    refine wpAny_bind (wpAny_seqItems ho hd (wpAny_pure ?_))
    show wpAny _ A.in1 (holding [u, q.2] (dictSet S u q.2)) _ _ _
    refine wpAny_holding (wpAny_dictSet_pairs (knd := mixKind prog w) (k := q.1) hk hm1 (fun h2 hm2 hs2 => ?_) (by omega))
    refine wpAny_pure ⟨plainId_quiet ud_plain _, upd_loopT (items := items) hh hlI hSI hSl rest (i + 1) (stored acc q.1 q.2) (ix + 1) 0 _ (show items.size = i + 1 + rest.length by omega) ?_ (fun j q' e => ?_) ?_ ?_ hm2 fun h' tk hd' k => ?_⟩
    · have z := stored_length_le acc q.1 q.2
      omega
    · obtain ⟨b', u', hb', hbS', hbI', htup', hk'⟩ := ht (j + 1) q' (by simpa using e)
      refine ⟨b', u', ?_, hbS', hbI', (htup'.extBut hs1.extBut hbI').extBut hs2.extBut hbS', hk'⟩
      rw [show i + 1 + j = i + (j + 1) by omega]
      exact hb'
    · exact hit1.at fun o' e => hs2.extBut I o' (Ne.symm hSI) e
    · exact hl1.extBut hs2.extBut (Ne.symm hSl)
    · exact hR h' tk hd' fun c oc h3 h4 e => k c oc h3 h4 (hs2.extBut c oc h3 (hs1.extBut c oc h4 e))
theorem call_dict_pairsT {s : Shared} {l : Addr} {ol : Obj} {items : Array Value} {n : Nat} {prs : List (Key × Value)} {Q : Value → Shared → Prop} (hh : A.handled = none) (hl : s.heap.get? l = some ol) (hc : ol.cls = .type "tuple") (hd : ol.dict = none)
    (hdat : ol.data = .seq items n) (hsz : items.size = prs.length) (hln : prs.length ≤ sizeLine)
    (ht : ∀ (j : Nat) (q : Key × Value), prs[j]? = some q → ∃ (b : Addr) (u : Value), items[j]? = some (.ref b) ∧ IsTup s.heap b #[u, q.2] ∧ keyIs q.1 u = true)
    (h : ∀ h' tk, h'.DictOf (mixKind prog w) s.heap.objs.size (merged [] prs) → (∀ b o, s.heap.get? b = some o → h'.get? b = some o) → Q (.ref s.heap.objs.size) { s with heap := h', toks := tk }) :
    wpAny (model prog w) A (call (.type "dict") [.ref l]) Q E s := by
  refine callType_codes (Q₁ := fun obj s₁ => obj = .ref s.heap.objs.size ∧ s₁ = { s with heap := s.heap.push { cls := .type "dict", data := .dict #[] } }) PySem.F.kt_called_dict (PySem.F.kt_typeCall_dict_1 _) PySem.F.entry_dict_init (kt_code_dict_new _ ⟨rfl, rfl⟩) ?_
  rintro obj s₁ ⟨rfl, rfl⟩
  have hnew : (s.heap.push { cls := .type "dict", data := .dict #[] }).DictOf (mixKind prog w) s.heap.objs.size [] := Heap.DictOf.new s.heap
  have k0 : ∀ b o, s.heap.get? b = some o → (s.heap.push { cls := .type "dict", data := .dict #[] }).get? b = some o := fun b o e => Heap.get?_push_of_some _ e
  refine ⟨hnew.typeIs, PySem.F.args_dict_init_2 _ _, ?_⟩
  unfold Builtin.«dict.__init__»
  refine wpAny_bind ?_
  unfold Builtin.Dict.selfAndRest
  refine wpAny_bind (wpAny_notOrdered_dict hnew.typeIs ?_)
  show wpAny _ _ (pure (s.heap.objs.size, [Value.ref l])) _ _ _
  refine wpAny_pure ?_
  show wpAny _ _ (Builtin.Dict.updateFrom "dict.__init__" s.heap.objs.size (.ref l) [] .none) _ _ _
  unfold Builtin.Dict.updateFrom
  refine wpAny_bind (wpAny_typeOf (T := "tuple") ⟨ol, k0 _ _ hl, hc⟩ ?_)
  rw [if_pos (by first | decide | rfl | simp)]
  refine wpAny_bind (miss_tuple (k0 _ _ hl) hc hdat hd hh fun h1 tk1 hk1 => ?_)
  rw [if_pos (show (none : Option Value).isNone = true from rfl)]
  refine wpAny_bind (wpAny_rule ?_)
  have hl1 : h1.IsTuple l items := ⟨ol, hk1 _ _ (k0 _ _ hl), hc, n, hdat⟩
  have hS1 : s.heap.objs.size < h1.objs.size := by
    have e : (s.heap.push { cls := .type "dict", data := .dict #[] }).get? s.heap.objs.size = some { cls := .type "dict", data := .dict #[] } := Heap.get?_push_size _ rfl
    exact Heap.lt_size (hk1 _ _ e)
  refine wpAny_bind (wpAny_pyIter_tuple hl1 ?_)
  have k2 : ∀ b o, h1.get? b = some o → (h1.push { cls := .type "tuple_iterator", data := .fields #[.ref l, .int 0 0] }).get? b = some o := fun b o e => Heap.get?_push_of_some _ e
  have hlt : l < s.heap.objs.size := Heap.lt_size hl
  have key := upd_loopT (prog := prog) (w := w) (A := A.in1) (R := wants (fun r s₂ => r = .none ∧ Q (.ref s.heap.objs.size) s₂) E) (S := s.heap.objs.size) (I := h1.objs.size) (l := l) (items := items) (res := Value.none) hh
    (Nat.ne_of_lt (Nat.lt_trans hlt hS1)) (Nat.ne_of_lt hS1) (Nat.ne_of_gt hlt) prs 0 [] 0 0
    { s with heap := h1.push { cls := .type "tuple_iterator", data := .fields #[.ref l, .int 0 0] }, toks := tk1 } (by rw [hsz, Nat.zero_add]) (by rw [List.length_nil, Nat.zero_add]; exact hln)
    (fun j q e => by
      obtain ⟨b, u, e1, e2, e3⟩ := ht j q e
      have hb : b < s.heap.objs.size := e2.lt
      exact ⟨b, u, by rw [Nat.zero_add]; exact e1, Nat.ne_of_lt hb, Nat.ne_of_lt (Nat.lt_trans hb hS1), e2.keeps fun c o z => k2 _ _ (hk1 _ _ (k0 _ _ z)), e3⟩)
    ⟨_, Heap.get?_push_size _ rfl, rfl, rfl⟩ (hl1.at fun o e => k2 _ _ e) ((hnew.at fun o e => hk1 _ _ e).at fun o e => k2 _ _ e)
    (fun h' tk hd' k => ⟨rfl, h h' tk hd' fun b o e => k b o (Nat.ne_of_lt (Heap.lt_size e)) (Nat.ne_of_lt (Nat.lt_trans (Heap.lt_size e) hS1)) (k2 _ _ (hk1 _ _ (k0 _ _ e)))⟩)
  first
    | exact wpAny_pure ⟨plainId_quiet ud_plain _, key⟩
    | exact wpAny_bind (wpAny_pure (wpAny_pure ⟨plainId_quiet ud_plain _, key⟩))
end
/-- tuple(xs) of a list: a tuple that has no dict, told with its object -/
def rTupE (K : PySem.W.Frag) : List V → Hp → VK → Prop := fun xs H Q => ∃ p ys, xs = [.ref p] ∧ SqL K H p ys ∧ ∀ l o, H l = none → o.cls = .type "tuple" → o.dict = none → Q (.ref l) (upd H l (.frz o (.tup ys)))
theorem call_tuple_ofE {X : Cx} : CallR X (.type "tuple") (rTupE X.K) := by
  intro pins s σ H xs us Q I r h
  obtain ⟨p, ys, rfl, hq, q⟩ := h
  obtain ⟨u, rfl, rx⟩ := vals1 r
  cases rx
  obtain ⟨its, r', pl, hz⟩ := I.list hq
  have hlen := r'.length
  refine call_tuple_list pl.isList (fun h' kp => ?_) (by simp only [List.size_toArray] <;> omega)
  have I1 : Inv X pins σ H { s with heap := h' } := I.kept (t' := s.toks) kp
  have I2 : Inv X pins σ (upd H h'.objs.size (.frz { cls := .type "tuple", data := .seq its.toArray } (.tup ys))) { s with heap := h'.push { cls := .type "tuple", data := .seq its.toArray } } :=
    I1.laid (t' := s.toks) (fun b o e => Heap.get?_push_of_some _ e) (Nat.le_refl _) (show ObjOk X.prog X.w _ _ _ (.frz _ (.tup ys)) from ⟨Heap.get?_push_size _ rfl, hz, its, r', IsTup.new _ _⟩)
  exact ⟨.ref h'.objs.size, _, I2, rfl, q _ _ (I1.hok.fresh (Nat.le_refl _)) rfl rfl⟩
theorem r_tupE {K : PySem.W.Frag} {p : Addr} {ys : List V} {H : Hp} {Q : VK} (h : SqL K H p ys) (k : ∀ l o, H l = none → o.cls = .type "tuple" → o.dict = none → Q (.ref l) (upd H l (.frz o (.tup ys)))) : rTupE K [.ref p] H Q := ⟨p, ys, rfl, h, k⟩
def rDictPT (K : PySem.W.Frag) : List V → Hp → VK → Prop := fun xs H Q => ∃ (a : Addr) (o : Obj) (ps : List Addr) (kvs : List (Key × V)), xs = [.ref a] ∧ H a = some (.frz o (.tup (ps.map V.ref))) ∧ o.dict = none ∧ Paired (fun p kv => SqT K H p [kV kv.1, kv.2]) ps kvs ∧
    ∀ p, H p = none → Q (.ref p) (upd H p (.dK (mergeK [] kvs)))
theorem call_dictPT {X : Cx} (hcalm : X.calm = true) : CallR X (.type "dict") (rDictPT X.K) := by
  intro pins s σ H xs us Q I r q
  obtain ⟨a, o, ps, kvs, ex, hq, od, hp, q⟩ := q
  subst ex
  obtain ⟨u, eu, rx⟩ := vals1 r
  subst eu
  cases rx
  obtain ⟨ho, hz, its, rv, o', ho', hc, n, hd⟩ := I.hok a _ hq
  rw [ho] at ho'
  obtain rfl := Option.some.inj ho'
  have ei := refs_at rv
  subst ei
  rw [List.length_map] at hz
  obtain ⟨prs, rel, hl, hpr⟩ := pairs_of I hp
  refine call_dict_pairsT (prs := prs) (I.ok.hd hcalm) ho hc od hd (by simp [hl]) (by rw [hl]; exact hz) (fun j q' e => ?_) fun h' tk hd' k => ?_
  · obtain ⟨b, u, e1, e2, e3⟩ := hpr j q' e
    exact ⟨b, u, by simp [e1], e2, e3⟩
  · have hm : (s.heap.objs.size == sysModules) = false := beq_eq_false_iff_ne.mpr (Nat.ne_of_gt I.big)
    have hlen : (mergeK [] kvs).length ≤ sizeLine := by
      refine Nat.le_trans (length_mergeK kvs []) ?_
      rw [List.length_nil, Nat.zero_add, rel.length, hl]
      exact hz
    exact ⟨.ref s.heap.objs.size, upd H s.heap.objs.size (.dK (mergeK [] kvs)), I.laid (t' := tk) k (Nat.le_refl _) (show ObjOk X.prog X.w _ _ _ (.dK (mergeK [] kvs)) from ⟨hlen, hm, merged [] prs, KV.merge rel .nil, hd'⟩), rfl, q _ (I.hok.fresh (Nat.le_refl _))⟩
theorem r_dictPT {K : PySem.W.Frag} {a : Addr} {o : Obj} {ps : List Addr} {kvs : List (Key × V)} {H : Hp} {Q : VK} (h : H a = some (.frz o (.tup (ps.map V.ref)))) (od : o.dict = none) (hp : Paired (fun p kv => SqT K H p [kV kv.1, kv.2]) ps kvs) (k : ∀ p, H p = none → Q (.ref p) (upd H p (.dK (mergeK [] kvs)))) : rDictPT K [.ref a] H Q := ⟨a, o, ps, kvs, rfl, h, od, hp, k⟩
end Lv
/-! sorted() of triples of two ints and a text, the pairs of ints telling the text -/
namespace So
open PySem PySem.Spec PyProof.Rows SrtO Srt L2
def IsTri (h : Heap) (v : Value) (x y : Int) (z : Str) : Prop := ∃ a o t u r n, v = .ref a ∧ h.get? a = some o ∧ o.cls = .type "tuple" ∧ o.data = .seq #[.int x t, .int y u, .str z r] n
theorem IsTri.keeps {h h' : Heap} {v : Value} {x y : Int} {z : Str} (p : IsTri h v x y z) (k : ∀ b o, h.get? b = some o → o.cls = .type "tuple" → h'.get? b = some o) : IsTri h' v x y z := by
  obtain ⟨a, o, t, u, r, n, e, ho, hc, hd⟩ := p
  exact ⟨a, o, t, u, r, n, e, k _ _ ho hc, hc, hd⟩
theorem firsts_of {h : Heap} : ∀ {vs : List Value}, (∀ v ∈ vs, ∃ x y z, IsTri h v x y z) → ∃ fs : List Value, PySem.W.KatTups h vs fs ∧ fs.length = vs.length ∧ ∀ f ∈ fs, ∃ x t, f = Value.int x t
  | [], _ => ⟨[], PySem.W.KatTups.nil, rfl, fun _ hm => by simp at hm⟩
  | v :: vs, hp => by
    obtain ⟨fs, h1, h2, h3⟩ := firsts_of (vs := vs) fun v' hm => hp v' (List.mem_cons_of_mem _ hm)
    obtain ⟨x, y, z, a, o, t, u, r, n, e, ho, hc, hd⟩ := hp v (List.mem_cons_self ..)
    subst e
    refine ⟨.int x t :: fs, PySem.W.KatTups.cons ho hc hd rfl h1, by rw [List.length_cons, List.length_cons, h2], fun f hm => ?_⟩
    rcases List.mem_cons.mp hm with rfl | hm
    · exact ⟨x, t, rfl⟩
    · exact h3 f hm
section
variable {prog : Program} {w : World} {A : Around} {E : Value → Shared → Prop} {s : Shared}
theorem tri_cmp {vs : List Value} {k : Value → Int × Int} {g : Value → Str} (hp : ∀ v ∈ vs, IsTri s.heap v (k v).1 (k v).2 (g v)) (hg : ∀ v ∈ vs, ∀ u ∈ vs, k v = k u → g v = g u) : Cmp prog w A s (tuples' true) (fun p => p.1 ∈ vs) (lt2 fun v u => lexB (k v) (k u)) := by
  intro p q hm hm'
  have h1 := hp _ hm
  have h2 := hp _ hm'
  have h3 := hg _ hm _ hm'
  show wpAny (model prog w) A (keyLt' (tuples' true) p.1 q.1) (fun r s' => s' = s ∧ r = lexB (k p.1) (k q.1)) (fun _ _ => False) s
  have h4 : (k p.1).1 = (k q.1).1 → (k p.1).2 = (k q.1).2 → g p.1 = g q.1 := fun a b => h3 (Prod.ext a b)
  unfold lexB
  clear h3
  generalize (k p.1).1 = x at h1 h4 ⊢
  generalize (k p.1).2 = y at h1 h4 ⊢
  generalize (k q.1).1 = x' at h2 h4 ⊢
  generalize (k q.1).2 = y' at h2 h4 ⊢
  generalize g p.1 = z at h1 h4
  generalize g q.1 = z' at h2 h4
  obtain ⟨a, o, t, u, r, n, e, ho, hc, hd⟩ := h1
  obtain ⟨a', o', t', u', r', n', e', ho', hc', hd'⟩ := h2
  rw [e, e']
  refine PySem.W.kat_lt ho hd ho' hd' ?_
  show PySem.W.KatLex prog w A true (decide (3 < 3)) _ [(.int x t, .int x' t'), (.int y u, .int y' u'), (.str z r, .str z' r')] 0 s
  refine PySem.W.kat_cons (SeqAt.EqAt.int_int x t x' t' prog w _ _ ?_)
  refine PySem.W.kat_go (fun e1 => ?_) (fun e1 => ?_)
  · have ex : x = x' := by simpa using e1
    refine PySem.W.kat_yes (PySem.W.kat_cons (SeqAt.EqAt.int_int y u y' u' prog w _ _ ?_))
    refine PySem.W.kat_go (fun e2 => ?_) (fun e2 => ?_)
    · have ey : y = y' := by simpa using e2
      have e3 : (if x = x' then decide (y < y') else decide (x < x')) = false := by
        rw [if_pos ex, ey]
        exact decide_eq_false (Int.lt_irrefl _)
      refine PySem.W.kat_yes (PySem.W.kat_cons (SeqAt.EqAt.str_str z r z' r' prog w _ _ ?_))
      rw [h4 ex ey, beq_self_eq_true]
      exact PySem.W.kat_yes (PySem.W.kat_nil ⟨rfl, e3.symm⟩)
    · have e3 : (if x = x' then decide (y < y') else decide (x < x')) = decide (y < y') := if_pos ex
      refine PySem.W.kat_no (PySem.W.kat_one _ _ (PyProof.Rows.lt_int ?_))
      exact (show s = s ∧ decide (y < y') = (if x = x' then decide (y < y') else decide (x < x')) from ⟨rfl, e3.symm⟩)
  · have ex : ¬ x = x' := by simpa using e1
    have e3 : (if x = x' then decide (y < y') else decide (x < x')) = decide (x < x') := if_neg ex
    exact PySem.W.kat_no (oneLt_int ⟨rfl, e3.symm⟩)
theorem tri_sortable {a : Addr} {vs : List Value} {k : Value → Int × Int} {g : Value → Str} (h0 : 0 < vs.length) (hp : ∀ v ∈ vs, IsTri s.heap v (k v).1 (k v).2 (g v)) (hg : ∀ v ∈ vs, ∀ u ∈ vs, k v = k u → g v = g u) (ha : ∀ o, s.heap.get? a = some o → o.cls ≠ .type "tuple") : SortableO prog w A s a vs fun v u => lexB (k v) (k u) := by
  intro h' keep
  have hp' : ∀ v ∈ vs, IsTri h' v (k v).1 (k v).2 (g v) := fun v hm => (hp v hm).keeps fun b o e c => keep b o (fun z => by subst z; exact ha o e c) e
  obtain ⟨fs, h1, h2, h3⟩ := firsts_of fun v hm => ⟨_, _, _, hp' v hm⟩
  refine ⟨tuples' true, fun Q E hq => ?_, tri_cmp hp' hg⟩
  refine PySem.W.kat_kind (T := .type "int") h1 (by omega) (fun f hm => ?_) (by rfl) ?_
  · obtain ⟨x, t, rfl⟩ := h3 f hm
    exact PySem.W.Looks.now
  · have e : (Value.type "int" != Value.type "tuple") = true := by first | decide +kernel | rfl | decide
    rw [e]
    exact hq
theorem sorted_tri {l : Addr} {vs : List Value} {k : Value → Int × Int} {g : Value → Str} {Q : Value → Shared → Prop} (hl : s.heap.IsList l vs.toArray) (hz : vs.length ≤ sizeLine) (hp : ∀ v ∈ vs, IsTri s.heap v (k v).1 (k v).2 (g v)) (hg : ∀ v ∈ vs, ∀ u ∈ vs, k v = k u → g v = g u)
    (h : ∀ (h' : Heap) (d : Addr) (out : List Value), Srtd (fun v u => lexB (k v) (k u)) out → Stb (fun v u => lexB (k v) (k u)) out vs → (∀ b o, s.heap.get? b = some o → h'.get? b = some o) → s.heap.objs.size ≤ d → (∃ n, h'.get? d = some (seqObj "list" out.toArray n)) → Q (.ref d) { s with heap := h' }) :
    wpAny (model prog w) A (call (.builtin "sorted") [.ref l]) Q E s := by
  refine sorted_ord (swo_lex k) hl hz (fun h2 h₁ a ha kk => ?_) fun out hs hb => ?_
  · refine tri_sortable (s := { s with heap := h₁ }) (g := g) (by omega) (fun v hm => (hp v hm).keeps fun b o e _ => (kk b o e).2) hg fun o e => ?_
    have e' : some o = some (seqObj "list" vs.toArray 0) := e.symm.trans ha
    cases e'
    intro c
    exact absurd (Value.type.inj c) (by decide)
  · exact h _ _ out hs hb (fun b o e => sortedAll_old e) (Nat.le_succ _) (sortedAll_at s.heap vs out.toArray)
end
theorem vals3 {a b c : V} {us : List Value} (r : L2.Vals [a, b, c] us) : ∃ u1 u2 u3, us = [u1, u2, u3] ∧ RelV a u1 ∧ RelV b u2 ∧ RelV c u3 := by
  cases r with
  | cons r1 r => cases r with
    | cons r2 r => cases r with
      | cons r3 r => cases r; exact ⟨_, _, _, rfl, r1, r2, r3⟩
end So
/-- sorted(xs), xs a list of triples (int, int, text) where the two ints tell the text -/
def rSorted3 (K : PySem.W.Frag) : List V → Hp → VK → Prop := fun vs H Q => ∃ (a : Addr) (xs : List V) (k : V → Int × Int) (g : V → Str), vs = [V.ref a] ∧ SqL K H a xs ∧ (∀ x ∈ xs, ∃ t, x = V.ref t ∧ H t = some (.tup [.int (k x).1, .int (k x).2, .str (g x)])) ∧ (∀ x ∈ xs, ∀ y ∈ xs, k x = k y → g x = g y) ∧
  ∀ ys p, SrtO.Srtd (ltP k) ys → ys.Perm xs → H p = none → Q (.ref p) (upd H p (.lst ys))
theorem cr_sorted3 {X : Cx} {K : PySem.W.Frag} (hK : X.K = K) : CallR X (.builtin "sorted") (rSorted3 K) := by
  subst hK
  intro pins s σ H vs us Q I r h
  obtain ⟨a, xs, k, g, rfl, hs, hx, hg, q⟩ := h
  obtain ⟨its, rv, hl, hz⟩ := I.list hs
  obtain ⟨u, rfl, ru⟩ := vals1 r
  obtain rfl : u = Value.ref a := ru
  obtain ⟨e1, e2⟩ := refs_back rv fun x m => by
    obtain ⟨t, e, _⟩ := hx x m
    exact ⟨t, e⟩
  have back : ∀ v ∈ its, backV v ∈ xs := fun v hv => by rw [e1]; exact List.mem_map.mpr ⟨v, hv, rfl⟩
  refine So.sorted_tri (k := fun u => k (backV u)) (g := fun u => g (backV u)) hl.isList (by rw [← rv.length]; exact hz) (fun v hv => ?_) (fun v hv u hu e => hg _ (back v hv) _ (back u hu) e) fun h' d out h1 h2 kp hd hn => ?_
  · obtain ⟨t, rfl⟩ := e2 v hv
    have hm : V.ref t ∈ xs := by rw [e1]; exact List.mem_map.mpr ⟨_, hv, rfl⟩
    obtain ⟨t', e, ht⟩ := hx _ hm
    cases e
    obtain ⟨_, its2, r2, o, ho, hc, n, hd⟩ := I.hok _ _ ht
    obtain ⟨u1, u2, u3, rfl, ri, rj, rk⟩ := So.vals3 r2
    obtain ⟨t1, rfl⟩ := ri
    obtain ⟨t2, rfl⟩ := rj
    obtain ⟨t3, rfl⟩ := rk
    exact ⟨t, o, t1, t2, t3, n, rfl, ho, hc, hd⟩
  · have h3 : ∀ u ∈ out, ∃ a, u = Value.ref a := fun u hu => e2 u (h2.perm.mem_iff.mp hu)
    obtain ⟨n, hn⟩ := hn
    have hb : SrtO.Stb (ltP k) (out.map backV) xs := by
      rw [e1]
      exact SrtO.Stb.map (ltP_swo k) backV h2
    refine ⟨.ref d, upd H d (.lst (out.map backV)), I.laid (t' := s.toks) kp hd ⟨?_, out, n, vals_back h3, hn⟩, rfl, q _ d (SrtO.srtd_map h1) hb.perm (I.hok.fresh hd)⟩
    rw [hb.len]
    exact hz
namespace Dt
open PySem PySem.Spec PyProof.Rows PyProof.V L2 StX
/-! ### {k: v}, the key a tuple -/
def tDisp1T (tk tv : TE) : TE := fun σ H Q => ∀ p, H p = none → tk σ (upd H p (.dT [])) fun y H1 => tv σ H1 fun z H2 => ∃ (k : List Key) (q : Addr), y = .ref q ∧ H2 p = some (.dT []) ∧ H2 q = some (.tup (k.map kV)) ∧ Q (.ref p) (upd H2 p (.dT [(k, z)]))
theorem pe_disp1T {X : Cx} {pos : Pos} {ke ve : Expr} {tk tv : TE} (hu : X.A.units + 64 < cLine) (hk : PE X ke tk) (hv : PE X ve tv) : PE X (.Dict [some ke] [ve] pos) (tDisp1T tk tv) := by
  refine ⟨fun pins s σ H Q I q => ?_⟩
  have hn := I.hok.fresh (Nat.le_refl s.heap.objs.size)
  have I1 := I.laid (a := s.heap.objs.size) (o := .dT []) (h' := s.heap.push { cls := .type "dict", data := .dict #[] }) (t' := s.toks) (fun _ _ q => Heap.get?_push_of_some _ q) (Nat.le_refl _) (dt_empty s.heap I.big)
  have run := (pps_cons (pos := pos) hk hv pps_nil).run pins _ σ _ (fun ps H2 => ∃ y z, ps = [(y, z)] ∧ ∃ (k : List Key) (q : Addr), y = .ref q ∧ H2 s.heap.objs.size = some (.dT []) ∧ H2 q = some (.tup (k.map kV)) ∧ Q (.ref s.heap.objs.size) (upd H2 s.heap.objs.size (.dT [(k, z)]))) I1
    (by
      show tk σ _ _
      have q0 := q _ hn
      show tk σ (upd H s.heap.objs.size (.dT [])) fun x H1 => tv σ H1 fun y H2 => ∃ y' z, [(x, y)] = [(y', z)] ∧ _
      have e : (fun (x : V) (H1 : Hp) => tv σ H1 fun y H2 => ∃ (k : List Key) (q : Addr), x = .ref q ∧ H2 s.heap.objs.size = some (.dT []) ∧ H2 q = some (.tup (k.map kV)) ∧ Q (.ref s.heap.objs.size) (upd H2 s.heap.objs.size (.dT [(k, y)]))) = fun (x : V) (H1 : Hp) => tv σ H1 fun y H2 => ∃ y' z, [(x, y)] = [(y', z)] ∧ ∃ (k : List Key) (q : Addr), y' = .ref q ∧ H2 s.heap.objs.size = some (.dT []) ∧ H2 q = some (.tup (k.map kV)) ∧ Q (.ref s.heap.objs.size) (upd H2 s.heap.objs.size (.dT [(k, z)])) := by
        funext x H1
        congr 1
        funext y H2
        apply propext
        constructor
        · intro h; exact ⟨x, y, rfl, h⟩
        · rintro ⟨y', z, e, h⟩
          cases e; exact h
      rw [← e]; exact q0)
  rw [arm_eval_Dict, zip_pairTrees [some ke] [ve] X.env pos rfl rfl, dictDisplay_pairs (pairTrees [some ke] [ve] X.env pos) (by simp [pairTrees]) (by simp [pairTrees])]
  refine wpAny_bind (wpAny_standAt (wpAny_bind (wpAny_subDictH (knd := tupleKind (mixKind X.prog X.w)) (Q := fun d s' => wpAny (model X.prog X.w) X.A (pure (Value.ref d)) (EP X pins σ Q) X.xe s') (show X.A.units < cLine by omega) (by simp [pairTrees]) (thn run fun vs s1 got => ?_))))
  obtain ⟨ps, H2, I2, rel, y, z, eps, k, q2, ey, at2, tup, fin⟩ := got
  subst eps
  subst ey
  cases rel with
  | cons r rest =>
    cases rest
    rename_i b
    obtain ⟨b1, b2⟩ := b
    obtain ⟨r1, r2⟩ := r
    cases (show b1 = Value.ref q2 from r1)
    obtain ⟨small, apart, cells, pairs, held⟩ := dt_of I2.hok at2
    cases pairs
    refine ⟨[(k, q2, b2)], ⟨rfl, rfl, key_of I2.hok tup, trivial⟩, held, fun h' tk' held' but => wpAny_pure ⟨.ref s.heap.objs.size, _, ?_, rfl, fin⟩⟩
    obtain ⟨u, es, ep, stands, a1, a2, a3, _, a4⟩ := held'
    have nq : q2 ≠ s.heap.objs.size := by rintro rfl; rw [at2] at tup; cases tup
    exact d_write I2 (by rw [at2]; exact True.intro) but ⟨u, stands⟩ ⟨by show 1 ≤ sizeLine; decide, apart, [(k, q2, b2)], .cons ⟨rfl, by rw [upd_ne nq]; exact tup, r2⟩ .nil, u, es, ep, stands, a1, a2, a3, a4⟩
/-! ### d.pop(q), the key there -/
def tDPop1T (td ty : TE) : TE := fun σ H Q => td σ H fun x H1 => ∃ a, x = .ref a ∧ IsD H1 a ∧ ty σ H1 fun y H2 => ∃ (kvs : Tb) (k : List Key) (q : Addr) (v : V), H2 a = some (.dT kvs) ∧ y = .ref q ∧ H2 q = some (.tup (k.map kV)) ∧ valV kvs k = some v ∧ Q v (upd H2 a (.dT (dropK kvs k)))
theorem pe_dpop1T {X : Cx} {o e : Expr} {td ty : TE} {apos cpos : Pos} (hu : X.A.units + 1 < cLine) (ho : PE X o td) (he : PE X e ty) (m : M1 X o "pop" apos e cpos) : PE X (.Call (.Attribute o "pop" apos) [e] [] cpos) (tDPop1T td ty) := by
  refine ⟨fun pins s σ H Q I h => ?_⟩
  refine wpAny_Call_method m.base m.few m.line PySem.F.plainAttrs_dict PySem.F.slot_dict_pop PySem.F.type_dict_pop (thn (ho.run pins s σ H _ I h) fun u s1 ⟨x, H1, I1, rx, a, ex, d, q1⟩ => ?_)
  subst ex
  obtain rfl : u = Value.ref a := rx
  obtain ⟨t1, t2, _⟩ := isD_at I1 d
  refine ⟨t1, t2, ?_⟩
  rw [m.trees]
  refine Calls.callWith_builtin rfl (Calls.evalArgs_plain (Calls.spliced_cons (thn (he.run pins s1 σ H1 _ I1 q1) fun iv s2 ⟨y, H2, I2, ry, kvs, k, q, v, ea, ey, tup, l, q2⟩ => Calls.spliced_nil ?_)))
  subst ey
  cases (show iv = Value.ref q from ry)
  obtain ⟨z, hd, xs, rel, dd⟩ := dt_of I2.hok ea
  have hz : xs.length ≤ sizeLine := by rw [← Paired.length rel]; exact z
  have look := rel.val k
  rw [l] at look
  obtain ⟨p, hp, rv⟩ : ∃ p, atKey xs k = some p ∧ RelV v p.2 := by
    cases ev : atKey xs k with
    | none => rw [ev] at look; exact (show False from look).elim
    | some p => rw [ev] at look; exact ⟨p, rfl, look⟩
  refine PySem.call_pop_heap (hsz := hz) (knd := tupleKind (mixKind X.prog X.w)) (.inl rfl) (PySem.F.args_dict_pop_2 _ _) (tupleKind_room_in1 hu) (key_of I2.hok tup) hd dd hp fun h' dd' hs => ?_
  obtain ⟨o, es, ep, hq, h2, h3, h4, _, h5⟩ := dd'
  have I3 : Inv X pins σ (upd H2 a (.dT (dropK kvs k))) { s2 with heap := h', toks := s2.toks + (tupleKind (mixKind X.prog X.w)).draws k } := d_write I2 (by rw [ea]; exact True.intro) hs ⟨o, hq⟩ ⟨Nat.le_trans (dropK_le kvs k) z, hd, _, (L2.DX.KT_drop k rel).keeps (fun c ys ec => (by rw [upd_ne (ne_of ec ea (fun z => nomatch z))]; exact ec)), o, es, ep, hq, h2, h3, h4, h5⟩
  exact ⟨v, _, I3, rv, q2⟩
/-! ### == and != of two dicts with tuples as keys, the values flat -/
section
variable {prog : Program} {w : World} {Ky : Type} [DecidableEq Ky] {knd : HeapKind prog w Ky} {A : Around} {E : Value → Shared → Prop} {s : Shared}
theorem pairsM {nm : String} {a b : Addr} {xa xb : List (Ky × Addr × Value)} {P : Nat → Bool} {Q : Bool → Shared → Prop} (ha : (a == sysModules) = false) (hb : (b == sysModules) = false) (hu : knd.room A) (da : s.heap.DictOfH knd a xa) (db : s.heap.DictOfH knd b xb)
    (al : ∀ (i : Nat) x, xa[i]? = some x → ((∀ (j : Nat) p, ¬ xb[j]? = some (x.1, p)) ∧ P i = false) ∨ ∃ (j : Nat) (y : Addr × Value), xb[j]? = some (x.1, y) ∧ SeqAt.EqAt A s x.2.2 y.2 (P i)) (l : xa.length ≠ xb.length → Q false s) (q : xa.length = xb.length → (∀ i, i < xa.length → P i = true) → Q true s) (n : ∀ i, i < xa.length → P i = false → Q false s) : wpAny (model prog w) A (Builtin.Dict.samePairs nm a b) Q E s := by
  obtain ⟨oa, es, ep, hoa, _, hda, hes, hia, _⟩ := da
  obtain ⟨ob, fs, fp, hob, _, hdb, hfs, hib, hnb⟩ := db
  have sa := size_of_entries hes
  have sb := size_of_entries hfs
  unfold Builtin.Dict.samePairs Builtin.Dict.showsAll
  rw [if_neg (show ¬ (a == sysModules) = true by rw [ha]; exact Bool.false_ne_true), if_neg (show ¬ (b == sysModules) = true by rw [hb]; exact Bool.false_ne_true)]
  refine wpAny_bind (wpAny_pure (wpAny_bind (wpAny_pure (wpAny_bind (wpAny_dictEntries hoa hda ?_)))))
  dsimp only
  refine wpAny_bind (wpAny_dictEntries hob hdb ?_)
  by_cases hsz : es.size = fs.size
  case neg =>
    rw [if_pos (by simpa using hsz)]
    exact wpAny_bind (wpAny_rule (wpAny_pure (l (by omega))))
  rw [if_neg (by rw [hsz]; simp)]
  refine wpAny_bind (wpAny_dictEpoch hoa hda (wpAny_bind ?_))
  rw [Std.Legacy.Range.forIn_eq_forIn_range']
  simp only [Std.Legacy.Range.size, Nat.sub_zero, Nat.add_sub_cancel, Nat.div_one]
  refine wpAny_forIn_list _ (fun rest r s' => s' = s ∧ r = (none, ()) ∧ ∃ i, rest = List.range' i (es.size - i) ∧ i ≤ es.size ∧ ∀ j, j < i → P j = true) _ ?_ ?_ _ _ ⟨rfl, rfl, 0, by simp, Nat.zero_le _, by simp⟩
  · rintro x rest r s' ⟨rfl, rfl, i, hr, hi, ok⟩
    have lt : i < es.size := by
      rcases Nat.lt_or_ge i es.size with h | h
      · exact h
      · rw [Nat.sub_eq_zero_of_le h] at hr; simp at hr
    rw [show es.size - i = (es.size - (i + 1)) + 1 by omega, List.range'_succ] at hr
    injection hr with h1 h2
    subst h1
    obtain ⟨e, he⟩ : ∃ e, xa[x]? = some e := ⟨_, List.getElem?_eq_getElem (by omega)⟩
    have ge : es[x]? = some (entryOfKey knd e) := by rw [entry_at hes, he]; rfl
    refine wpAny_bind (wpAny_dictEntries hoa hda ?_)
    rw [ge]
    refine wpAny_bind (wpAny_holding (wpAny_bind (wpAny_dictFind_heap hu (hia _ (List.mem_of_getElem? he)) hob hdb hfs hib hnb (fun no => ?_) fun j p hj => ?_)))
    · have hp : P x = false := by
        rcases al x e he with ⟨_, h⟩ | ⟨j, y, hj, _⟩
        · exact h
        · exact (no j y hj).elim
      refine wpAny_pure ?_
      show wpAny _ _ (if (!false) = true then _ else _) _ _ _
      rw [if_pos (by decide)]
      exact wpAny_pure (wpAny_pure (n x (by omega) hp))
    · obtain ⟨ev⟩ : SeqAt.EqAt A s' e.2.2 p.2 (P x) ∧ True := by
        rcases al x e he with ⟨h, _⟩ | ⟨j2, y, hj2, h⟩
        · exact (h j p hj).elim
        · obtain rfl : j = j2 := idxH_unique hnb hj hj2
          rw [hj] at hj2
          have : p = y := by simpa using hj2
          rw [this]; exact ⟨h, trivial⟩
      have gf : fs[j]? = some (entryOfKey knd (e.1, p)) := by rw [entry_at hfs, hj]; rfl
      refine wpAny_bind (wpAny_dictEntries hob hdb ?_)
      rw [gf]
      refine wpAny_holding (ev _ _ _ _ ?_)
      cases hp : P x with
      | false =>
        show wpAny _ _ (if (!false) = true then _ else _) _ _ _
        rw [if_pos (by decide)]
        exact wpAny_pure (wpAny_pure (n x (by omega) hp))
      | true =>
        show wpAny _ _ (if (!true) = true then _ else _) _ _ _
        rw [if_neg (by decide)]
        refine wpAny_bind (wpAny_dictEpoch hoa hda ?_)
        rw [if_neg (by simp)]
        refine wpAny_pure ⟨rfl, rfl, x + 1, h2, lt, fun i hi => ?_⟩
        rcases Nat.lt_or_ge i x with h | h
        · exact ok i h
        · obtain rfl : i = x := by omega
          exact hp
  · rintro r s' ⟨rfl, rfl, i, hr, hi, ok⟩
    refine wpAny_pure (q (by omega) fun j hj => ok j ?_)
    rcases Nat.lt_or_ge i es.size with h | h
    · rw [show es.size - i = (es.size - (i + 1)) + 1 by omega, List.range'_succ] at hr; cases hr
    · omega
end
def eqB (lvs : Tb) (p : List Key × V) : Bool := match valV lvs p.1 with
  | some v => L2.eqV p.2 v
  | none => false
def mapEq (kvs lvs : Tb) : Bool := decide (kvs.length = lvs.length) && kvs.all (eqB lvs)
theorem kt_keys {H : Hp} : ∀ {kvs : Tb} {xa : List (List Key × Addr × Value)}, KT H kvs xa → kvs.map (·.1) = xa.map (·.1)
  | _, _, .nil => rfl
  | _, _, .cons h t => by rw [List.map_cons, List.map_cons, kt_keys t, h.1]
theorem valV_none {kvs : Tb} {k : List Key} (h : ∀ (j : Nat) v, ¬ kvs[j]? = some (k, v)) : valV kvs k = none := by
  induction kvs with
  | nil => rfl
  | cons p r ih =>
    by_cases e : p.1 = k
    · exact (h 0 p.2 (by rw [← e]; rfl)).elim
    · rw [valV_neg e]; exact ih fun j v hj => h (j + 1) v (by simpa using hj)
theorem valV_at {kvs : Tb} {j : Nat} {p : List Key × V} (nd : (kvs.map (·.1)).Nodup) (h : kvs[j]? = some p) : valV kvs p.1 = some p.2 := by
  induction kvs generalizing j with
  | nil => simp at h
  | cons q r ih =>
    rw [List.map_cons, List.nodup_cons] at nd
    cases j with
    | zero =>
      have e : q = p := by simpa using h
      subst e; exact valV_pos rfl
    | succ j =>
      have h' : r[j]? = some p := by simpa using h
      rw [valV_neg (fun e => nd.1 (by rw [e]; exact List.mem_map_of_mem (List.mem_of_getElem? h')))]
      exact ih nd.2 h'
def rCmpM (neg : Bool) : R2 := fun x y H Q => ∃ (a b : Addr) (kvs lvs : Tb), x = .ref a ∧ y = .ref b ∧ Rd H a (.dT kvs) ∧ Rd H b (.dT lvs) ∧ (∀ p ∈ kvs, L2.flatV p.2 = true) ∧ (∀ p ∈ lvs, L2.flatV p.2 = true) ∧ Q (.bl (if neg then !mapEq kvs lvs else mapEq kvs lvs)) H
theorem same_map {X : Cx} {nm : String} {pins : List (Addr × Obj)} {σ : L2.St} {H : Hp} {s : Shared} {a b : Addr} {kvs lvs : Tb} {E : Value → Shared → Prop} {Q : Bool → Shared → Prop} (small : X.A.units + 1 < cLine) (I : Inv X pins σ H s) (ea : Rd H a (.dT kvs)) (eb : Rd H b (.dT lvs)) (fa : ∀ p ∈ kvs, L2.flatV p.2 = true) (fb : ∀ p ∈ lvs, L2.flatV p.2 = true)
    (q : Q (mapEq kvs lvs) s) : wpAny (model X.prog X.w) X.A.in1 (Builtin.Dict.samePairs nm a b) Q E s := by
  obtain ⟨_, na, xa, ra, da⟩ := dt_rd I.hok ea
  obtain ⟨_, nb, xb, rb, db⟩ := dt_rd I.hok eb
  obtain ⟨la, ga⟩ := kt_at ra
  obtain ⟨lb, gb⟩ := kt_at rb
  have kb := kt_keys rb
  have ndb : (lvs.map (·.1)).Nodup := by rw [kb]; obtain ⟨_, _, _, _, _, _, _, _, nd⟩ := db; exact nd
  let P : Nat → Bool := fun i => match kvs[i]? with
    | some p => eqB lvs p
    | none => true
  have hP : ∀ i p, kvs[i]? = some p → P i = eqB lvs p := fun i p h => by show (match kvs[i]? with | some p => eqB lvs p | none => true) = _; rw [h]
  refine pairsM (P := P) na nb (show X.A.in1.units < cLine from small) da db (fun i x hx => ?_) (fun ne => ?_) (fun e all => ?_) fun i hi hp => ?_
  · obtain ⟨p, hp, ek, rp⟩ := ga i x hx
    rw [hP i p hp]
    by_cases c : ∃ (j : Nat) (y : Addr × Value), xb[j]? = some (x.1, y)
    · obtain ⟨j, y, hy⟩ := c
      obtain ⟨r, hr, er, rr⟩ := gb j (x.1, y) hy
      refine .inr ⟨j, y, hy, ?_⟩
      have v := valV_at ndb hr
      have ev : valV lvs p.1 = some r.2 := by rw [ek, ← show r.1 = x.1 from er]; exact v
      unfold eqB
      rw [ev]
      exact eqAt_V rp rr (fa p (List.mem_of_getElem? hp)) (fb r (List.mem_of_getElem? hr))
    · refine .inl ⟨fun j y h => c ⟨j, y, h⟩, ?_⟩
      have ev : valV lvs p.1 = none := valV_none fun j v hj => by
        have lt : j < xb.length := by have := (List.getElem?_eq_some_iff.mp hj).1; omega
        have h1 : (lvs.map (·.1))[j]? = some p.1 := by rw [List.getElem?_map, hj]; rfl
        rw [kb, List.getElem?_map, List.getElem?_eq_getElem lt] at h1
        refine c ⟨j, (xb[j]).2, ?_⟩
        have e1 : (xb[j]).1 = x.1 := by rw [← ek]; simpa using h1
        rw [List.getElem?_eq_getElem lt, ← e1]
      unfold eqB
      rw [ev]
  · have e : mapEq kvs lvs = false := by unfold mapEq; rw [decide_eq_false (by omega)]; rfl
    rwa [e] at q
  · have e2 : mapEq kvs lvs = true := by
      unfold mapEq
      rw [decide_eq_true (by omega), Bool.true_and, List.all_eq_true]
      intro p hp
      obtain ⟨i, hi⟩ := List.getElem?_of_mem hp
      rw [← hP i p hi]
      exact all i (by have := (List.getElem?_eq_some_iff.mp hi).1; omega)
    rwa [e2] at q
  · obtain ⟨p, hp0⟩ : ∃ p, kvs[i]? = some p := ⟨_, List.getElem?_eq_getElem (by omega)⟩
    have e2 : mapEq kvs lvs = false := by
      unfold mapEq
      rw [Bool.and_eq_false_iff]
      right
      rw [List.all_eq_false]
      exact ⟨p, List.mem_of_getElem? hp0, by rw [← hP i p hp0, hp]; decide⟩
    rwa [e2] at q
theorem op_eqM {X : Cx} (small : X.A.units + 1 < cLine) : OpR X (compareOp .Eq) (rCmpM false) := by
  rintro pins s σ H x y v u Q I rx ry ⟨a, b, kvs, lvs, rfl, rfl, ea, eb, fa, fb, q⟩
  cases (show v = Value.ref a from rx)
  cases (show u = Value.ref b from ry)
  obtain ⟨_, _, _, _, da⟩ := dt_rd I.hok ea
  obtain ⟨_, _, _, _, db⟩ := dt_rd I.hok eb
  refine wpAny_richCompare_same_room (op := .Eq) da.typeIs db.typeIs PySem.F.slot_dict_eq (wpAny_call_entry PySem.F.slot_dict_eq da.typeIs PySem.F.entry_dict_eq ?_ (PySem.F.args_dict_eq_2 _ _)) (by omega)
  show wpAny _ _ (Builtin.Dict.dictSlotArgs "__eq__" ⟨[.ref a, .ref b], []⟩ >>= _) _ _ s
  refine wpAny_bind ?_
  unfold Builtin.Dict.dictSlotArgs
  refine wpAny_bind (wpAny_notOrdered_dict da.typeIs ?_)
  show wpAny _ _ (pure (Value.ref a, Value.ref b)) _ _ s
  refine wpAny_pure (wpAny_bind (wpAny_isInstance (T := "dict") db.typeIs PySem.F.sub_dict_dict ?_))
  simp only [Bool.not_true, Bool.false_eq_true, if_false]
  refine wpAny_bind (wpAny_pure (wpAny_bind (wpAny_pure (wpAny_bind (same_map small I ea eb fa fb ?_)))))
  exact wpAny_pure ⟨_, rfl, (fun x => nomatch x), ⟨.bl (mapEq kvs lvs), H, I, (by show Value.bool _ = Value.bool _; cases mapEq kvs lvs <;> rfl), q⟩⟩
theorem op_neM {X : Cx} (small : X.A.units + 1 < cLine) : OpR X (compareOp .NotEq) (rCmpM true) := by
  rintro pins s σ H x y v u Q I rx ry ⟨a, b, kvs, lvs, rfl, rfl, ea, eb, fa, fb, q⟩
  cases (show v = Value.ref a from rx)
  cases (show u = Value.ref b from ry)
  obtain ⟨_, _, _, _, da⟩ := dt_rd I.hok ea
  obtain ⟨_, _, _, _, db⟩ := dt_rd I.hok eb
  refine wpAny_richCompare_same_room (op := .NotEq) da.typeIs db.typeIs PySem.F.slot_dict_ne (wpAny_call_entry PySem.F.slot_dict_ne da.typeIs PySem.F.entry_dict_ne ?_ (PySem.F.args_dict_ne_2 _ _)) (by omega)
  show wpAny _ _ (Builtin.Dict.dictSlotArgs "__ne__" ⟨[.ref a, .ref b], []⟩ >>= _) _ _ s
  refine wpAny_bind ?_
  unfold Builtin.Dict.dictSlotArgs
  refine wpAny_bind (wpAny_notOrdered_dict da.typeIs ?_)
  show wpAny _ _ (pure (Value.ref a, Value.ref b)) _ _ s
  refine wpAny_pure (wpAny_bind (wpAny_isInstance (T := "dict") db.typeIs PySem.F.sub_dict_dict ?_))
  simp only [Bool.not_true, Bool.false_eq_true, if_false]
  refine wpAny_bind (wpAny_pure (wpAny_bind (wpAny_pure (wpAny_bind (same_map small I ea eb fa fb ?_)))))
  exact wpAny_pure ⟨_, rfl, (fun x => nomatch x), ⟨.bl (!mapEq kvs lvs), H, I, (by show Value.bool _ = Value.bool _; cases mapEq kvs lvs <;> rfl), q⟩⟩
/-! ### C(..) in a try: what is raised is wished for at the caller's slots -/
section
variable {X : Cx} {CX : CXT} {C f : Addr} {fd : FuncData} {k : Nat} {sp : Sp} {ps : List Str} {ds : List Value} {dvs : List V} {E : L2.St → XK} {x : Str} {p pos : Pos} {e : Expr} {es : List Expr} {t : TA}
def tMakeSD (C : Addr) (sp : Sp) (dvs : List V) (E : L2.St → XK) (t : TA) : TE := fun σ H Q => t σ H fun vs H1 => ∀ x dx, H1 x = none → H1 dx = none → dx ≠ x → sp (.ref x :: (vs ++ dvs)) (upd (upd H1 dx (.own x)) x (.ins C dx [])) (fun v H2 => v = .non ∧ Q (.ref x) H2) (E σ)
theorem run_makeSD {pins : List (Addr × Obj)} {σ : L2.St} {H : Hp} {s : Shared} {Q : VK} {us : List Value} {vs : List V} (M : Mk X.K C f) (F : FnOk X.prog X.w X.K X.mg X.base CX k f fd ps sp) (hr : Room (k + 1) X.A) (hb : Binds X.K fd ps ds) (hd : L2.Vals dvs ds)
    (hx : PassesAt CX X σ (E σ)) (I : Inv X pins σ H s) (r : L2.Vals vs us)
    (h : ∀ x dx, H x = none → H dx = none → dx ≠ x → sp (.ref x :: (vs ++ dvs)) (upd (upd H dx (.own x)) x (.ins C dx [])) (fun v H2 => v = .non ∧ Q (.ref x) H2) (E σ)) :
    wpAny (model X.prog X.w) X.A (call (.ref C) us) (EP X pins σ Q) X.xe s := by
  have hq := h (s.heap.objs.size + 1) s.heap.objs.size (I.hok.fresh (Nat.le_succ _)) (I.hok.fresh (Nat.le_refl _)) (Nat.ne_of_lt (Nat.lt_succ_self _))
  have I2 := Inv.made (C := C) I
  have r2 : L2.Vals (V.ref (s.heap.objs.size + 1) :: (vs ++ dvs)) (Value.ref (s.heap.objs.size + 1) :: (us ++ ds)) := .cons rfl (r.append hd)
  have hl : (Value.ref (s.heap.objs.size + 1) :: us ++ ds).length = ps.length := by
    have e := r2.length
    rw [F.len _ _ _ _ hq] at e
    exact e.symm
  refine wpAny_call (make_map (f := f) I.kIn M.makes M.init (beq_iff_eq.mp M.fn) (codeAny_mono (F.run _ X.stack _ _ ⟨Value.ref (s.heap.objs.size + 1) :: us, []⟩ (Value.ref (s.heap.objs.size + 1) :: (us ++ ds)) _ _ (E σ) (hr.make C us [])
    (I2.env0.make C us []) (hb _ (Value.ref (s.heap.objs.size + 1) :: us) I2.kIn hl) r2 hq) fun r s' hq' => ?_))
  cases r with
  | error e => exact hx pins _ _ e s' I2 hq'
  | ok fl =>
    cases fl with
    | ret u =>
      obtain ⟨v, H', I3, rv, ev, q3⟩ := I2.after hq'
      subst ev
      exact ⟨rv, ⟨V.ref (s.heap.objs.size + 1), H', I3, rfl, q3⟩⟩
    | next => exact False.elim hq'
    | brk => exact False.elim hq'
    | cont => exact False.elim hq'
theorem pe_makeSD (M : Mk X.K C f) (F : FnOk X.prog X.w X.K X.mg X.base CX k f fd ps sp) (hr : Room (k + 1) X.A) (hg : Gl X x) (hm : X.mg x = some (.ref C)) (hb : Binds X.K fd ps ds) (hd : L2.Vals dvs ds) (hx : ∀ σ, PassesAt CX X σ (E σ))
    (ha : PA X (e :: es) t) (hdb : (x == ("__debug__" : Str)) = false := by decide) (he : starEach (e :: es) X.env = (false, eval e X.env) :: starEach es X.env := by rfl) (hpl : (backTo pos (starEach es X.env)).any (·.1) = false := by rfl) :
    PE X (.Call (.Name x p) (e :: es) [] pos) (tMakeSD C sp dvs E t) := by
  refine ⟨fun pins s σ H Q I h => ?_⟩
  refine wpAny_Call_Name_kw (ld_glob I hg hm ?_ hdb)
  refine PySem.W.callWith_K (h₀ := X.base) I.ok.mod.kin M.kp (thn (ha.run pos pins s σ H _ I h) fun us s1 ⟨vs, H1, I1, r, q⟩ => ⟨I1.kIn, ?_⟩) he hpl
  exact run_makeSD M F hr hb hd (hx σ) I1 r q
end
end Dt
namespace Ow
open PySem PySem.Spec PyProof.Rows PyProof.V L2 StX
open PySem.W PySem.Calls
/-! ### n + x -/
section
open PySem.Builtin
theorem int_add_own (a : Int) (t : Tok) (x C dx : Addr) :
    Meets (Builtin.«int.__add__» ⟨[.int a t, .ref x], []⟩) (fun _ R s => s.heap.get? x = some (PySem.W.instObj C dx) ∧ R (.ok (.ret Value.notImplemented)) s) :=
  .of_wp fun prog w A R s ⟨hl, h⟩ => by
    obtain ⟨hp, g, d, tk, os⟩ := s
    wp_walk
    exact ⟨_, rfl, h⟩
theorem int_declines_add {prog : Program} {w : World} {A : Around} {E : Value → Shared → Prop} {s : Shared} {x C dx : Addr} {i : Int} {t : Tok} {Q : Option Value → Shared → Prop} (hx : s.heap.get? x = some (instObj C dx)) (q : Q none s) :
    wpAny (model prog w) A (tryMethod (.int i t) (PySem.dunder "add") (.ref x)) Q E s := by
  have h1 := @decl_gen prog w A E s (.int i t) (.ref x) "int" "int.__add__" (PySem.dunder "add") Builtin.«int.__add__» Q
  have h2 := h1 (typeIs_int _ _ _) 
  have h3 := h2 PySem.F.slot_int_add
  have h4 := h3 PySem.F.entry_int_add 
  have h5 := h4 (PySem.F.args_int_add_2 _ _)
  refine h5 ?_
  exact (int_add_own i t x C dx prog w A (wants (fun v s' => v = Value.notImplemented ∧ Q none s') E) s ⟨hx, rfl, q⟩)
section
variable {prog : Program} {w : World} {A : Around} {E : Value → Shared → Prop} {s : Shared} {K : Frag} {x C dx f : Addr} {od : Obj}
theorem int_own_add {i : Int} {t : Tok} {g : Addr} {Q : Value → Shared → Prop} (X : K.In s.heap) (I : InstAt s.heap x (instObj C dx) C (some od)) (hc : selfFirst K C = true) (hm : findIn K (.ref C) "__add__" = some (some (.ref g)))
    (hs : findIn K (.ref C) "__radd__" = some (some (.ref f))) (hf : isFn K (.ref f) = true) (hsub : subIn K (.ref C) (.type "int") = some false) (h : wpAny (model prog w) A (call (.ref f) [.ref x, .int i t]) (PySem.W.CmpBack Q) E s) :
    wpAny (model prog w) A (binaryOp .Add (.int i t) (.ref x)) Q E s := by
  obtain ⟨cd, rest, hcd, hmro⟩ := ksp_first hc
  have one := ksp_try (name := "__radd__") X I hs hf h
  have L1 : Looks (model prog w) s.heap (typeOf (.int i t)) (.type "int") := Looks.of_pure rfl
  have L2 : Looks (model prog w) s.heap (typeOf (.ref x)) (.ref C) := I.type
  obtain ⟨hh, g', d, tt, os⟩ := s
  have L3 : Looks (model prog w) hh (fillsNumberSlot (.type "int") "add") true := Looks.of_pure PySem.F.fills_int_add
  have L4 : Looks (model prog w) hh (fillsNumberSlot (.ref C) "add") true := fills_K X hcd hmro hm
  have L5 : Looks (model prog w) hh (isSubtype (.ref C) (.type "int")) false := looks_subIn X hsub
  have L7 : Looks (model prog w) hh (numberSlotInPython (.type "int") "add") false := Looks.of_pure rfl
  have hne : (Value.type "int" == Value.ref C) = false := Bool.eq_false_iff.mpr fun q => by cases beq_iff_eq.mp q
  unfold binaryOp binaryOp1
  refine wpAny_holding (wpAny_bind ?_)
  refine wpAny_bind (L1.at (wpAny_bind (L2.at (wpAny_bind (L3.at ?_)))))
  simp only [hne, Bool.false_eq_true, if_false]
  ksp_lk
  refine int_declines_add I.at_ ?_
  ksp_lk
  refine wpAny_mono one (fun r s' hr' => ?_) fun _ _ e => e
  obtain ⟨v, rfl, hq⟩ := hr'
  ksp_lk
  exact hq
end
end
section
variable {X : Cx} {CX : CXT} {k : Nat} {C f : Addr} {sp : Sp} {E : XK}
theorem op_intAdd {g : Addr} (sf : selfFirst X.K C = true) (M0 : Meth X.K C "__add__" g) (M : Meth X.K C "__radd__" f) (hs : subIn X.K (.ref C) (.type "int") = some false) (F : FnR X.prog X.w X.K X.mg X.base CX k f sp) (hr : Room k X.A) (hx : Passes CX X E) : OpR X (binaryOp .Add) (rIntOwn C sp E) := by
  intro pins s σ H x y v u Q I rx ry h
  obtain ⟨b, dx, fs, n, rfl, rfl, hb, q⟩ := h
  obtain ⟨t, rfl⟩ := rx
  obtain rfl : u = Value.ref b := ry
  obtain ⟨mA, O, _⟩ := ins_get I.hok hb
  obtain ⟨od, J, _⟩ := O.look
  exact int_own_add I.kIn J sf M0.at_ M.at_ M.fn hs (wpAny_mono (run_own (vs := [.ref b, .int n]) F hr hx I (.cons rfl (.cons ⟨t, rfl⟩ .nil)) q) (fun _ _ z => cmpBack z) fun _ _ e => e)
end
/-! ### n - x -/
section
open PySem.Builtin
theorem int_sub_own (a : Int) (t : Tok) (x C dx : Addr) :
    Meets (Builtin.«int.__sub__» ⟨[.int a t, .ref x], []⟩) (fun _ R s => s.heap.get? x = some (PySem.W.instObj C dx) ∧ R (.ok (.ret Value.notImplemented)) s) :=
  .of_wp fun prog w A R s ⟨hl, h⟩ => by
    obtain ⟨hp, g, d, tk, os⟩ := s
    wp_walk
    exact ⟨_, rfl, h⟩
theorem int_declines_sub {prog : Program} {w : World} {A : Around} {E : Value → Shared → Prop} {s : Shared} {x C dx : Addr} {i : Int} {t : Tok} {Q : Option Value → Shared → Prop} (hx : s.heap.get? x = some (instObj C dx)) (q : Q none s) :
    wpAny (model prog w) A (tryMethod (.int i t) (PySem.dunder "sub") (.ref x)) Q E s := by
  have h1 := @decl_gen prog w A E s (.int i t) (.ref x) "int" "int.__sub__" (PySem.dunder "sub") Builtin.«int.__sub__» Q
  have h2 := h1 (typeIs_int _ _ _) 
  have h3 := h2 PySem.F.slot_int_sub
  have h4 := h3 PySem.F.entry_int_sub 
  have h5 := h4 (PySem.F.args_int_sub_2 _ _)
  refine h5 ?_
  exact (int_sub_own i t x C dx prog w A (wants (fun v s' => v = Value.notImplemented ∧ Q none s') E) s ⟨hx, rfl, q⟩)
section
variable {prog : Program} {w : World} {A : Around} {E : Value → Shared → Prop} {s : Shared} {K : Frag} {x C dx f : Addr} {od : Obj}
theorem int_own_sub {i : Int} {t : Tok} {g : Addr} {Q : Value → Shared → Prop} (X : K.In s.heap) (I : InstAt s.heap x (instObj C dx) C (some od)) (hc : selfFirst K C = true) (hm : findIn K (.ref C) "__sub__" = some (some (.ref g)))
    (hs : findIn K (.ref C) "__rsub__" = some (some (.ref f))) (hf : isFn K (.ref f) = true) (hsub : subIn K (.ref C) (.type "int") = some false) (h : wpAny (model prog w) A (call (.ref f) [.ref x, .int i t]) (PySem.W.CmpBack Q) E s) :
    wpAny (model prog w) A (binaryOp .Sub (.int i t) (.ref x)) Q E s := by
  obtain ⟨cd, rest, hcd, hmro⟩ := ksp_first hc
  have one := ksp_try (name := "__rsub__") X I hs hf h
  have L1 : Looks (model prog w) s.heap (typeOf (.int i t)) (.type "int") := Looks.of_pure rfl
  have L2 : Looks (model prog w) s.heap (typeOf (.ref x)) (.ref C) := I.type
  obtain ⟨hh, g', d, tt, os⟩ := s
  have L3 : Looks (model prog w) hh (fillsNumberSlot (.type "int") "sub") true := Looks.of_pure PySem.F.fills_int_sub
  have L4 : Looks (model prog w) hh (fillsNumberSlot (.ref C) "sub") true := fills_K X hcd hmro hm
  have L5 : Looks (model prog w) hh (isSubtype (.ref C) (.type "int")) false := looks_subIn X hsub
  have L7 : Looks (model prog w) hh (numberSlotInPython (.type "int") "sub") false := Looks.of_pure rfl
  have hne : (Value.type "int" == Value.ref C) = false := Bool.eq_false_iff.mpr fun q => by cases beq_iff_eq.mp q
  unfold binaryOp binaryOp1
  refine wpAny_holding (wpAny_bind ?_)
  refine wpAny_bind (L1.at (wpAny_bind (L2.at (wpAny_bind (L3.at ?_)))))
  simp only [hne, Bool.false_eq_true, if_false]
  ksp_lk
  refine int_declines_sub I.at_ ?_
  ksp_lk
  refine wpAny_mono one (fun r s' hr' => ?_) fun _ _ e => e
  obtain ⟨v, rfl, hq⟩ := hr'
  ksp_lk
  exact hq
end
end
section
variable {X : Cx} {CX : CXT} {k : Nat} {C f : Addr} {sp : Sp} {E : XK}
theorem op_intSub {g : Addr} (sf : selfFirst X.K C = true) (M0 : Meth X.K C "__sub__" g) (M : Meth X.K C "__rsub__" f) (hs : subIn X.K (.ref C) (.type "int") = some false) (F : FnR X.prog X.w X.K X.mg X.base CX k f sp) (hr : Room k X.A) (hx : Passes CX X E) : OpR X (binaryOp .Sub) (rIntOwn C sp E) := by
  intro pins s σ H x y v u Q I rx ry h
  obtain ⟨b, dx, fs, n, rfl, rfl, hb, q⟩ := h
  obtain ⟨t, rfl⟩ := rx
  obtain rfl : u = Value.ref b := ry
  obtain ⟨mA, O, _⟩ := ins_get I.hok hb
  obtain ⟨od, J, _⟩ := O.look
  exact int_own_sub I.kIn J sf M0.at_ M.at_ M.fn hs (wpAny_mono (run_own (vs := [.ref b, .int n]) F hr hx I (.cons rfl (.cons ⟨t, rfl⟩ .nil)) q) (fun _ _ z => cmpBack z) fun _ _ e => e)
end
end Ow
namespace Dt
open PySem PySem.Spec PyProof.Rows PyProof.V L2 StX
/-! ### an object called within a try -/
section
variable {X : Cx} {CX : CXT} {C g : Addr} {k : Nat} {sp : Sp} {fe e : Expr} {es : List Expr} {tf : TE} {t : TA} {pos : Pos} {pins : List (Addr × Obj)} {σ : L2.St} {H : Hp} {s : Shared}
theorem run_fnRD {E : XK} {f : Addr} {Q : VK} {us : List Value} {vs : List V} (F : FnR X.prog X.w X.K X.mg X.base CX k f sp) (hr : Room k X.A) (hx : PassesAt CX X σ E) (I : Inv X pins σ H s) (r : L2.Vals vs us) (h : sp vs H Q E) :
    codeAny (model X.prog X.w) X.A (.call (.ref f) ⟨us, []⟩) (fun r s' => match r with | .ok (.ret v) => EP X pins σ Q v s' | .ok _ => False | .error e => X.xe e s') s := by
  refine codeAny_mono (F X.A X.stack s H us vs Q E hr I.env0 r h) fun r s' hq => ?_
  cases r with
  | error e => exact hx pins H s e s' I hq
  | ok fl =>
    cases fl with
    | ret v => exact I.after hq
    | next => exact False.elim hq
    | brk => exact False.elim hq
    | cont => exact False.elim hq
def tCallOSD (C : Addr) (sp : Sp) (E : L2.St → XK) (tf : TE) (t : TA) : TE := fun σ H Q => tf σ H fun y H1 => ∃ a, y = V.ref a ∧ t σ H1 fun vs H2 => (∃ dx fs, H2 a = some (.ins C dx fs)) ∧ sp (V.ref a :: vs) H2 Q (E σ)
theorem pe_callOSD {E : L2.St → XK} (hf : PE X fe tf) (c : CallO X.K C g) (F : FnR X.prog X.w X.K X.mg X.base CX k g sp) (hr : Room k X.A) (hx : ∀ σ, PassesAt CX X σ (E σ)) (ha : PA X (e :: es) t)
    (ht : eval (.Call fe (e :: es) [] pos) X.env = (do callWith pos (← eval fe X.env) [] (backTo pos (starEach (e :: es) X.env)) (backToKw pos (keywordEach [] X.env))) := by rfl)
    (he : starEach (e :: es) X.env = (false, eval e X.env) :: starEach es X.env := by rfl) (hpl : (backTo pos (starEach es X.env)).any (·.1) = false := by rfl) : PE X (.Call fe (e :: es) [] pos) (tCallOSD C sp E tf t) := by
  refine ⟨fun pins s σ H Q I h => ?_⟩
  refine Call_ (thn (hf.run pins s σ H _ I h) fun u s1 ⟨y, H1, I1, ry, a, ey, q⟩ => ?_) ht
  subst ey
  obtain rfl : u = Value.ref a := ry
  refine callO_with (thn (ha.run pos pins s1 σ H1 _ I1 q) fun us s2 ⟨vs, H2, I2, r, hi, q2⟩ => ?_) he hpl
  obtain ⟨ox, od, J, hd⟩ := insC_at I2 (.inr hi)
  exact ⟨⟨C, ox, od, J, hd⟩, wpAny_call (PySem.W.kco_code I2.kIn J hd c.at_ c.fn c.fi (run_fnRD (us := .ref a :: us) (vs := .ref a :: vs) F hr (hx σ) I2 (.cons rfl r) q2))⟩
theorem r_callOSD {E : L2.St → XK} {Q : VK} (k : tf σ H fun y H1 => ∃ a, y = V.ref a ∧ t σ H1 fun vs H2 => (∃ dx fs, H2 a = some (.ins C dx fs)) ∧ sp (V.ref a :: vs) H2 Q (E σ)) : tCallOSD C sp E tf t σ H Q := k
end
end Dt
namespace Kw
open PySem PySem.Spec PyProof.Rows PyProof.V L2 StX
/-! ### def f(*a, **k), called with keywords -/
theorem push_update {h : Heap} {o : Obj} {f : Obj → Obj} : (h.push o).update h.objs.size f = h.push (f o) := by
  cases h with
  | mk objs l =>
    show Heap.mk ((objs.push o).modify objs.size f) l = Heap.mk (objs.push (f o)) l
    congr 1
    apply Array.ext
    · simp
    · intro i h1 h2
      simp only [Array.getElem_modify, Array.getElem_push]
      by_cases e : i < objs.size
      · rw [dif_pos e, dif_pos e, if_neg (by omega)]
      · rw [dif_neg e, dif_neg e, if_pos (by simp at h2; omega)]
section
variable {prog : Program} {w : World} {A : Around} {E : Value → Shared → Prop}
theorem ns_step {h : Heap} {s : Shared} {es : List DictEntry} {n : Nat} {k : Str} {v : Value} {Q : Unit → Shared → Prop} (hh : s.heap = h.push (PySem.W.dictOf es n))
    (hs : ∀ e ∈ es, e.key.isStr k = false) (hr : ∀ e ∈ es, e.refKey = false)
    (q : Q () { s with heap := h.push (PySem.W.dictOf (es ++ [⟨PyData.keyHash w.params k, .str k s.toks, v⟩]) (n + 1)), toks := s.toks + 1 }) :
    wpAny (model prog w) A (nsSet h.objs.size k v) Q E s := by
  have e1 : es.any (·.key.isStr k) = false := by
    cases q : es.any (·.key.isStr k) with
    | false => rfl
    | true => obtain ⟨e, he, z⟩ := List.any_eq_true.mp q; rw [hs e he] at z; cases z
  have e2 : es.any (·.refKey) = false := by
    cases q : es.any (·.refKey) with
    | false => rfl
    | true => obtain ⟨e, he, z⟩ := List.any_eq_true.mp q; rw [hr e he] at z; cases z
  have e : Obj.putName k (PyData.keyHash w.params k) (.str k s.toks) v (PySem.W.dictOf es n) = PySem.W.dictOf (es ++ [⟨PyData.keyHash w.params k, .str k s.toks, v⟩]) (n + 1) := by
    rw [PySem.W.putName_dict, PySem.W.putL_new hs]
    show PySem.W.dictOf _ (if es.any (·.key.isStr k) then n else n + 1) = _
    rw [e1, if_neg Bool.false_ne_true]
  have D : s.heap.get? h.objs.size = some (PySem.W.dictOf es n) := by rw [hh]; exact Heap.get?_push_size _ rfl
  have c : aRefKeyMayBeTheName k es.toArray = false := by
    rw [PySem.aRefKeyMayBeTheName_at, ← Array.any_toList, ← Array.any_toList]
    show (!es.any (·.key.isStr k) && es.any (·.refKey)) = false
    rw [e2, Bool.and_false]
  unfold nsSet
  refine wpAny_bind (wpAny_bind (wpAny_askSetting (wpAny_pure (wpAny_bind (wpAny_mkText (wpAny_bind (wpAny_loadPart D ?_)))))))
  dsimp only
  rw [c]
  refine wpAny_updatePart D ?_
  show Q () { s with heap := s.heap.update h.objs.size _, toks := s.toks + 1 }
  rw [hh, push_update]
  show Q () { s with heap := h.push (Obj.putName k (PyData.keyHash w.params k) (.str k s.toks) v (PySem.W.dictOf es n)), toks := s.toks + 1 }
  rw [e]
  exact q
theorem fill {Q : PUnit → Shared → Prop} {h : Heap} : ∀ (ex : List (Str × Value)) (s : Shared) (es : List DictEntry) (n : Nat), s.heap = h.push (PySem.W.dictOf es n) →
    (∀ e ∈ es, ∀ x ∈ ex, e.key.isStr x.1 = false) → (∀ e ∈ es, e.refKey = false) → (ex.map (·.1)).Nodup →
    Q ⟨⟩ { s with heap := h.push (PySem.W.dictOf (es ++ PySem.W.kwEs w.params s.toks ex) (n + ex.length)), toks := s.toks + ex.length } →
    wpAny (model prog w) A (forIn ex PUnit.unit fun x _ => (nsSet h.objs.size x.1 x.2 >>= fun _ => pure (ForInStep.yield PUnit.unit))) Q E s
  | [], s, es, n, hh, _, _, _, q => by
    rw [List.forIn_nil]
    refine wpAny_pure ?_
    have e : s = { s with heap := h.push (PySem.W.dictOf (es ++ PySem.W.kwEs w.params s.toks []) (n + 0)), toks := s.toks + 0 } := by
      show s = { s with heap := h.push (PySem.W.dictOf (es ++ []) (n + 0)), toks := s.toks + 0 }
      rw [List.append_nil, Nat.add_zero, Nat.add_zero, ← hh]
    rw [e]; exact q
  | x :: r, s, es, n, hh, hs, hr, hn, q => by
    obtain ⟨hn1, hn2⟩ := List.nodup_cons.mp (show (x.1 :: r.map (·.1)).Nodup from hn)
    rw [List.forIn_cons]
    refine wpAny_bind (wpAny_bind (ns_step hh (fun e he => hs e he x (.head _)) hr (wpAny_pure ?_)))
    show wpAny (model prog w) A (forIn r PUnit.unit fun x _ => (nsSet h.objs.size x.1 x.2 >>= fun _ => pure (ForInStep.yield PUnit.unit))) Q E _
    refine fill r _ (es ++ [⟨PyData.keyHash w.params x.1, .str x.1 s.toks, x.2⟩]) (n + 1) rfl (fun e he y hy => ?_) (fun e he => ?_) hn2 ?_
    · rcases List.mem_append.mp he with he | he
      · exact hs e he y (.tail _ hy)
      · obtain rfl := List.mem_singleton.mp he
        show (x.1 == y.1) = false
        exact beq_eq_false_iff_ne.mpr fun q => hn1 (by rw [q]; exact List.mem_map_of_mem hy)
    · rcases List.mem_append.mp he with he | he
      · exact hr e he
      · obtain rfl := List.mem_singleton.mp he
        rfl
    · have t1 : s.toks + 1 + r.length = s.toks + (r.length + 1) := by omega
      have t2 : n + 1 + r.length = n + (r.length + 1) := by omega
      show Q ⟨⟩ { s with heap := h.push (PySem.W.dictOf ((es ++ [_]) ++ PySem.W.kwEs w.params (s.toks + 1) r) (n + 1 + r.length)), toks := s.toks + 1 + r.length }
      rw [t1, t2, List.append_assoc]
      exact q
end
/-- the keywords as the dict holds them -/
def kwD (ks : List Str) (zs : List V) : List (Key × V) := (ks.map (Sum.inr (α := Int))).zip zs
section
variable {P : Program} {w : World} {H : Hp}
theorem kw_kv : ∀ {ks : List Str} {zs : List V} {ws : List Value}, L2.Vals zs ws → KV (kwD ks zs) ((ks.map (Sum.inr (α := Int))).zip ws)
  | [], _, _, _ => .nil
  | _ :: _, [], [], _ => .nil
  | k :: ks, z :: zs, w :: ws, .cons a r => .cons ⟨rfl, a⟩ (kw_kv (ks := ks) r)
theorem kw_pairs : ∀ {ks : List Str} {ws : List Value} {t : Tok}, ks.length = ws.length → Pairs (mixKind P w) (PySem.W.kwEs w.params t (ks.zip ws)) ((ks.map (Sum.inr (α := Int))).zip ws)
  | [], [], _, _ => .nil
  | k :: ks, v :: ws, t, h => .cons (keyIs_str k t) rfl (kw_pairs (by simpa using h))
theorem kw_keys {ks : List Str} {ws : List Value} (h : ks.length = ws.length) : ((ks.map (Sum.inr (α := Int))).zip ws).map (·.1) = ks.map Sum.inr := by
  rw [List.map_fst_zip]; rw [List.length_map]; omega
theorem dk_filled {h : Heap} {ks : List Str} {zs : List V} {ws : List Value} {t : Tok} {n : Nat} (hb : sysModules < h.objs.size) (hl : ks.length = ws.length) (nd : ks.Nodup) (hz : ks.length ≤ sizeLine) (r : L2.Vals zs ws) :
    ObjOk P w H (h.push (PySem.W.dictOf (PySem.W.kwEs w.params t (ks.zip ws)) n)) h.objs.size (.dK (kwD ks zs)) := by
  refine ⟨?_, beq_eq_false_iff_ne.mpr (Ne.symm (Nat.ne_of_lt hb)), _, kw_kv r, Heap.dictOf_iff.mpr ⟨_, Heap.get?_push_size _ rfl, (PySem.W.kwEs w.params t (ks.zip ws)).toArray, n, ⟨rfl, rfl, rfl⟩, rfl, fun e he => ?_, kw_pairs hl, ?_⟩⟩
  · unfold kwD; rw [List.length_zip, List.length_map]; omega
  · obtain ⟨k, u, hk, hh⟩ := PySem.W.kwEs_key (ks.zip ws) t e (List.mem_toArray.mp he)
    exact ⟨Sum.inr k, by rw [hk]; exact keyIs_str k u, hh.trans rfl⟩
  · rw [kw_keys hl]
    exact List.Pairwise.map _ (fun (a b : Str) (e : a ≠ b) (g : (Sum.inr a : Key) = Sum.inr b) => e (Sum.inr.inj g)) nd
end
/-- a call with the keywords ks -/
def FnKw (P : Program) (w : World) (K : PySem.W.Frag) (mg : Str → Option Value) (base : Heap) (CX : CXT) (k : Nat) (f : Addr) (ks : List Str) (sp : List V → List V → Hp → VK → XK → Prop) : Prop :=
  ∀ (A : Around) (outer : List Env) (s : Shared) (H : Hp) (us ws : List Value) (vs zs : List V) (Q : VK) (E : XK), Room k A → Env0 P w K mg base A outer s H → L2.Vals vs us → L2.Vals zs ws → zs.length = ks.length → sp vs zs H Q E →
    codeAny (model P w) A (.call (.ref f) ⟨us, ks.zip ws⟩) (CR CX outer P w H s Q E) s
section
variable {P : Program} {w : World} {K : PySem.W.Frag} {mg : Str → Option Value} {base : Heap} {CX : CXT} {k : Nat} {f : Addr} {name qual : Str} {params : Arguments} {body : List Stmt} {scope : Scope} {dV kV doc pm cdv ct oc : Value} {an od : Option Addr} {osl : Array (Option Value)} {N : List Str} {sp : Sp}
theorem fn_kw {pv pd : Str} {ks : List Str} (lk : K.lookup f = some ⟨oc, od, .func (PySem.W.fnOf name qual params body scope dV kV doc pm an cdv ct), osl⟩) (hcd : PySem.W.codeIn K cdv qual = true) (S : FnScope N [pv, pd] scope) (hCX : CXUp CX) (nd : ks.Nodup) (hkz : ks.length ≤ sizeLine)
    (hb : ∀ us ws : List Value, ws.length = ks.length → bindArgs (PySem.W.fnOf name qual params body scope dV kV doc pm an cdv ct) ⟨us, ks.zip ws⟩ =
      (newTuple us >>= fun t => (alloc ({ cls := .type "dict", data := .dict #[] } : Obj) : Sem Addr) >>= fun d => (forIn (ks.zip ws) PUnit.unit fun x _ => (nsSet d x.1 x.2 >>= fun _ => pure (ForInStep.yield PUnit.unit))) >>= fun _ => pure [(pv, t), (pd, Value.ref d)]))
    (hbody : ∀ (A : Around) (outer : List Env) (s : Shared) (H : Hp) (vs : List V) (Q : VK) (E : XK), Room k (A.deeper (envOfC qual scope s.heap.objs.size f cdv)) → sp vs H Q E →
      ∃ t, PSs (cxOf CX P w K mg base N qual scope f cdv A outer s H E) body t ∧ t { nx := fun _ H' => Q .non H', rt := Q } (start N vs) H) :
    FnKw P w K mg base CX (k + 1) f ks (fun vs zs H Q E => vs.length ≤ sizeLine ∧ ∀ p d, H p = Option.none → H d = Option.none → d ≠ p → sp [V.ref p, V.ref d] (upd (upd H p (.tup vs)) d (.dK (kwD ks zs))) Q E) := by
  intro A outer s H us ws vs zs Q E hr e0 r rz hl ⟨hz, hq⟩
  have hn : H s.heap.objs.size = Option.none := e0.hok.fresh (Nat.le_refl _)
  have hl2 : us.length ≤ sizeLine := by rw [← r.length]; exact hz
  have hlw : ws.length = ks.length := by rw [← rz.length]; exact hl
  refine run_bnd lk hcd S hr e0 (G := fun xs H2 => ∃ p d, H p = Option.none ∧ H d = Option.none ∧ d ≠ p ∧ xs = [V.ref p, V.ref d] ∧ H2 = upd (upd H p (.tup vs)) d (.dK (kwD ks zs))) (fun A' Ex Q' h => ?_) fun s2 H2 xs ⟨p, d, hp, hd, hne, ex, eH⟩ hr' => ?_
  · rw [hb us ws hlw]
    refine wpAny_bind (wpAny_newTuple (wpAny_bind (wpAny_alloc ?_)) hl2)
    have new : ObjOk P w (upd H s.heap.objs.size (.tup vs)) (s.heap.push ({ cls := .type "tuple", data := .seq us.toArray } : Obj)) s.heap.objs.size (.tup vs) := ⟨hz, us, r, ⟨_, Heap.get?_push_size _ rfl, rfl, _, rfl⟩⟩
    have e1 := env0_laid e0 new
    have un1 := un_laid (fs := frs outer) (s := s) (o := ({ cls := .type "tuple", data := .seq us.toArray } : Obj)) (u := .tup vs) hn
    have hn2 := e1.hok.fresh (Nat.le_refl _)
    refine wpAny_bind (fill (h := s.heap.push ({ cls := .type "tuple", data := .seq us.toArray } : Obj)) (ks.zip ws) _ [] 0 rfl (fun _ he => nomatch he) (fun _ he => nomatch he) (by rw [List.map_fst_zip (by omega)]; exact nd) (wpAny_pure ?_))
    have e2 := env0_laid (u := .dK (kwD ks zs)) (o := PySem.W.dictOf ([] ++ PySem.W.kwEs w.params s.toks (ks.zip ws)) (0 + (ks.zip ws).length)) e1 (dk_filled (env0_big e1) hlw.symm nd hkz rz)
    have un2 := un1.trans (un_laid (fs := frs outer) (s := { s with heap := s.heap.push ({ cls := .type "tuple", data := .seq us.toArray } : Obj) }) (o := PySem.W.dictOf ([] ++ PySem.W.kwEs w.params s.toks (ks.zip ws)) (0 + (ks.zip ws).length)) (u := .dK (kwD ks zs)) hn2)
    have sz : (s.heap.push ({ cls := .type "tuple", data := .seq us.toArray } : Obj)).objs.size = s.heap.objs.size + 1 := Heap.size_push _ _
    have ne : (s.heap.push ({ cls := .type "tuple", data := .seq us.toArray } : Obj)).objs.size ≠ s.heap.objs.size := by
      rw [sz]
      exact Nat.succ_ne_self _
    have hd : H (s.heap.push ({ cls := .type "tuple", data := .seq us.toArray } : Obj)).objs.size = Option.none := e0.hok.fresh (by rw [sz]; exact Nat.le_succ _)
    exact h _ _ [V.ref s.heap.objs.size, V.ref (s.heap.push ({ cls := .type "tuple", data := .seq us.toArray } : Obj)).objs.size] [Value.ref s.heap.objs.size, Value.ref (s.heap.push ({ cls := .type "tuple", data := .seq us.toArray } : Obj)).objs.size] ⟨e2.frames, e2.mod, e2.bs, e2.bsz, e2.funs, e2.frf, e2.hok, e2.bare⟩ un2 rfl
      (fun e s' => hCX outer s H _ _ E e s' un2 (fun b o q => Heap.get?_push_of_some _ (Heap.get?_push_of_some _ q)) rfl) (.cons rfl (.cons rfl .nil)) rfl ⟨_, _, hn, hd, ne, rfl, rfl⟩
  · subst ex eH
    exact hbody A outer s2 _ _ Q E hr' (hq p d hp hd hne)
end
/-! ### the call, in plain code and within a try -/
def tCallKw (m : Nat) (sp : List V → List V → Hp → VK → XK → Prop) (E : L2.St → XK) (t tk : TA) : TE := fun σ H Q => t σ H fun vs H1 => tk σ H1 fun zs H2 => zs.length = m ∧ sp vs zs H2 Q (E σ)
section
variable {X : Cx} {CX : CXT} {k : Nat} {f : Addr} {ks : List Str} {sp : List V → List V → Hp → VK → XK → Prop} {x : Str} {p pos : Pos} {e : Expr} {es : List Expr} {kws : List Keyword} {t tk : TA}
theorem run_fnKw {E : XK} {pins : List (Addr × Obj)} {σ : L2.St} {H : Hp} {s : Shared} {Q : VK} {us ws : List Value} {vs zs : List V} (F : FnKw X.prog X.w X.K X.mg X.base CX k f ks sp) (hr : Room k X.A) (hx : PassesAt CX X σ E)
    (I : Inv X pins σ H s) (r : L2.Vals vs us) (rz : L2.Vals zs ws) (l2 : zs.length = ks.length) (h : sp vs zs H Q E) : wpAny (model X.prog X.w) X.A (call (.ref f) us (ks.zip ws)) (EP X pins σ Q) X.xe s := by
  refine wpAny_call (codeAny_mono (F X.A X.stack s H us ws vs zs Q E hr I.env0 r rz l2 h) fun r s' hq => ?_)
  cases r with
  | error e => exact hx pins H s e s' I hq
  | ok fl =>
    cases fl with
    | ret u => exact I.after hq
    | next => exact False.elim hq
    | brk => exact False.elim hq
    | cont => exact False.elim hq
theorem pe_callKw {E : L2.St → XK} (F : FnKw X.prog X.w X.K X.mg X.base CX k f ks sp) (hr : Room k X.A) (hg : Gl X x) (hm : X.mg x = some (.ref f)) (hk : PySem.W.keepIn X.K (.ref f) = true) (hx : ∀ σ, PassesAt CX X σ (E σ))
    (ha : PA X (e :: es) t) (hkw : PK X kws tk) (hall : (backToKw pos (keywordEach kws X.env)).all (·.1.isSome) = true := by rfl) (hks : (backToKw pos (keywordEach kws X.env)).filterMap (·.1) = ks := by rfl)
    (hdb : (x == ("__debug__" : Str)) = false := by decide) (he : starEach (e :: es) X.env = (false, eval e X.env) :: starEach es X.env := by rfl)
    (hpl : ((backTo pos (starEach (e :: es) X.env)).any (·.1) || (backToKw pos (keywordEach kws X.env)).any (·.1.isNone)) = false := by rfl) :
    PE X (.Call (.Name x p) (e :: es) kws pos) (tCallKw ks.length sp E t tk) := by
  refine ⟨fun pins s σ H Q I h => ?_⟩
  refine wpAny_Call_Name_kw (ld_glob I hg hm ?_ hdb)
  refine PySem.W.callWith_KW (h₀ := X.base) I.ok.mod.kin hk hall (thn (ha.run pos pins s σ H _ I h) fun us s1 ⟨vs, H1, I1, r, q⟩ => ?_) hpl he
  refine thn (hkw.run pos pins s1 σ H1 _ I1 q) fun ws s2 ⟨zs, H2, I2, rz, l2, q2⟩ => ⟨I2.kIn, ?_⟩
  rw [hks]
  exact run_fnKw F hr (hx σ) I2 r rz l2 q2
theorem pe_callKw0 {E : L2.St → XK} (F : FnKw X.prog X.w X.K X.mg X.base CX k f ks sp) (hr : Room k X.A) (hg : Gl X x) (hm : X.mg x = some (.ref f)) (hk : PySem.W.keepIn X.K (.ref f) = true) (hx : ∀ σ, PassesAt CX X σ (E σ))
    (hkw : PK X kws tk) (hall : (backToKw pos (keywordEach kws X.env)).all (·.1.isSome) = true := by rfl) (hks : (backToKw pos (keywordEach kws X.env)).filterMap (·.1) = ks := by rfl)
    (hdb : (x == ("__debug__" : Str)) = false := by decide)
    (hpl : ((backTo pos (starEach [] X.env)).any (·.1) || (backToKw pos (keywordEach kws X.env)).any (·.1.isNone)) = false := by rfl) :
    PE X (.Call (.Name x p) [] kws pos) (tCallKw ks.length sp E tNil tk) := by
  refine ⟨fun pins s σ H Q I h => ?_⟩
  refine wpAny_Call_Name_kw (ld_glob I hg hm ?_ hdb)
  refine PySem.W.callWith_KW0 (h₀ := X.base) I.ok.mod.kin hk hall (thn (hkw.run pos pins s σ H _ I h) fun ws s2 ⟨zs, H2, I2, rz, l2, q2⟩ => ⟨I2.kIn, ?_⟩) hpl
  rw [hks]
  exact run_fnKw (us := []) (vs := []) F hr (hx σ) I2 .nil rz l2 q2
theorem r_callKw {vs : List V} {E : L2.St → XK} {m : Nat} {σ : L2.St} {H : Hp} {Q : VK} (k : t σ H fun vs H1 => tk σ H1 fun zs H2 => zs.length = m ∧ sp vs zs H2 Q (E σ)) : tCallKw m sp E t tk σ H Q := k
/-- the context where nothing gets out, for every σ -/
theorem passAt0 {X : Cx} {E : L2.St → XK} (σ : L2.St) : PassesAt CX0 X σ (E σ) := fun _ _ _ _ _ _ h => False.elim h
end
end Kw
namespace Kw
open PySem PySem.Spec PyProof.Rows PyProof.V L2 StX
section
variable {P : Program} {w : World} {K : PySem.W.Frag} {mg : Str → Option Value} {base : Heap} {x qual : Str} {st : Stmt} {f : Addr} {fd : FuncData} {N : List Str} {k : Nat} {sp : Sp} {pv pd : Str} {ks : List Str}
/-- what binding does: a new tuple, a new dict, filled -/
def KwTo (pv pd : Str) (us : List Value) (kw : List (Str × Value)) : Sem (List (Str × Value)) :=
  newTuple us >>= fun t => (alloc ({ cls := .type "dict", data := .dict #[] } : Obj) : Sem Addr) >>= fun d => (forIn kw PUnit.unit fun x _ => (nsSet d x.1 x.2 >>= fun _ => pure (ForInStep.yield PUnit.unit))) >>= fun _ => pure [(pv, t), (pd, Value.ref d)]
def KwB (x qual : Str) (st : Stmt) (pv pd : Str) (ks : List Str) : Prop := ∀ (kV doc pm : Value) (an : Option Addr) (cdv ct : Value) (us ws : List Value), ws.length = ks.length →
  bindArgs (PySem.W.fnOf x qual (defArgs st) (defBody st) (defScope st) .none kV doc pm an cdv ct) ⟨us, ks.zip ws⟩ = KwTo pv pd us (ks.zip ws)
def kwSp (ks : List Str) (sp : Sp) : List V → List V → Hp → VK → XK → Prop := fun vs zs H Q E => vs.length ≤ sizeLine ∧ ∀ p d, H p = Option.none → H d = Option.none → d ≠ p → sp [V.ref p, V.ref d] (upd (upd H p (.tup vs)) d (.dK (kwD ks zs))) Q E
theorem Fun.okKw (F : Fun K x qual st f fd) (S : FnScope N [pv, pd] (defScope st)) (nd : ks.Nodup) (hkz : ks.length ≤ sizeLine) (hb : KwB x qual st pv pd ks)
    (hbody : ∀ (cdv : Value) (A : Around) (outer : List Env) (s : Shared) (H : Hp) (vs : List V) (Q : VK) (E : XK), Room k (A.deeper (envOfC qual (defScope st) s.heap.objs.size f cdv)) → sp vs H Q E →
      ∃ t, PSs (cxOf CX0 P w K mg base N qual (defScope st) f cdv A outer s H E).nox (defBody st) t ∧ t { nx := fun _ H' => Q .non H', rt := Q } (start N vs) H) : FnKw P w K mg base CX0 (k + 1) f ks (kwSp ks sp) := by
  obtain ⟨oc, od, kV, doc, pm, an, cdv, ct, osl, rfl, lk, hcd⟩ := F.ex
  refine fn_kw lk hcd S cxUp_none nd hkz (fun us ws h => hb kV doc pm an cdv ct us ws h) fun A outer s H vs Q E hr hsp => ?_
  obtain ⟨t, h, q⟩ := hbody cdv A outer s H vs Q E hr hsp
  exact ⟨t, h.nox, q⟩
theorem Fun.okKwX (F : Fun K x qual st f fd) (S : FnScope N [pv, pd] (defScope st)) (nd : ks.Nodup) (hkz : ks.length ≤ sizeLine) (hb : KwB x qual st pv pd ks)
    (hbody : ∀ (cdv : Value) (A : Around) (outer : List Env) (s : Shared) (H : Hp) (vs : List V) (Q : VK) (E : XK), Room k (A.deeper (envOfC qual (defScope st) s.heap.objs.size f cdv)) → sp vs H Q E →
      ∃ t, PSs (cxOf (L2.CX P w) P w K mg base N qual (defScope st) f cdv A outer s H E) (defBody st) t ∧ t { nx := fun _ H' => Q .non H', rt := Q } (start N vs) H) : FnKw P w K mg base (L2.CX P w) (k + 1) f ks (kwSp ks sp) := by
  obtain ⟨oc, od, kV, doc, pm, an, cdv, ct, osl, rfl, lk, hcd⟩ := F.ex
  exact fn_kw lk hcd S cxUp nd hkz (fun us ws h => hb kV doc pm an cdv ct us ws h) fun A outer s H vs Q E hr hsp => hbody cdv A outer s H vs Q E hr hsp
/-- without keywords -/
theorem Fun.okStarKw (F : Fun K x qual st f fd) (S : FnScope N [pv, pd] (defScope st))
    (hb : ∀ (kV doc pm : Value) (an : Option Addr) (cdv ct : Value) (us : List Value), bindArgs (PySem.W.fnOf x qual (defArgs st) (defBody st) (defScope st) .none kV doc pm an cdv ct) ⟨us, []⟩ =
      (newTuple us >>= fun t => (alloc ({ cls := .type "dict", data := .dict #[] } : Obj) : Sem Addr) >>= fun d => pure [(pv, t), (pd, Value.ref d)]))
    (hbody : ∀ (cdv : Value) (A : Around) (outer : List Env) (s : Shared) (H : Hp) (vs : List V) (Q : VK) (E : XK), Room k (A.deeper (envOfC qual (defScope st) s.heap.objs.size f cdv)) → sp vs H Q E →
      ∃ t, PSs (cxOf CX0 P w K mg base N qual (defScope st) f cdv A outer s H E).nox (defBody st) t ∧ t { nx := fun _ H' => Q .non H', rt := Q } (start N vs) H) :
    FnR P w K mg base CX0 (k + 1) f (fun vs H Q E => vs.length ≤ sizeLine ∧ ∀ p d, H p = Option.none → H d = Option.none → d ≠ p → sp [V.ref p, V.ref d] (upd (upd H p (.tup vs)) d (.dK [])) Q E) := by
  obtain ⟨oc, od, kV, doc, pm, an, cdv, ct, osl, rfl, lk, hcd⟩ := F.ex
  have z := fn_starkw (ps := []) (pv := pv) (pd := pd) (k := k) (sp := sp) (P := P) (w := w) (mg := mg) (base := base) (N := N) lk hcd S cxUp_none (fun us rest h => by
    have e : us = [] := List.length_eq_zero_iff.mp h
    subst e
    exact hb kV doc pm an cdv ct rest) fun A outer s H vs Q E hr hsp => by
      obtain ⟨t, h, q⟩ := hbody cdv A outer s H vs Q E hr hsp
      exact ⟨t, h.nox, q⟩
  intro A outer s H us vs Q E hr e0 r ⟨h1, h2⟩
  exact z A outer s H us vs Q E hr e0 r ⟨[], vs, rfl, rfl, h1, h2⟩
end
end Kw
namespace Kw
open PySem PySem.Spec PyProof.Rows PyProof.V L2 StX
/-! ### sum(t) of a tuple of ints -/
theorem sum_tupG {prog : Program} {w : World} {A : Around} {E : Value → Shared → Prop} {s : Shared} {l : Addr} {xs : Array (Int × Tok)} {Q : Value → Shared → Prop} (hh : A.handled = none) (hl : s.heap.IsTuple l (intItems xs))
    (h : ∀ h' tk t', (∀ b o, s.heap.get? b = some o → h'.get? b = some o) → Q (.int (preSum (numAt xs) xs.size) t') { s with heap := h', toks := tk }) :
    wpAny (model prog w) A (call (.builtin "sum") [.ref l]) Q E s := by
  have hlt : l < s.heap.objs.size := by obtain ⟨_, e, _⟩ := hl; exact Heap.lt_size e
  refine call_sum_walkG (PyProof.Rows.iter_tuple (items := intItems xs) hl ?_)
  refine ⟨_, _, _, _, _, _, numAt xs, rfl, Walks.tuple (A := A.in1) hh s.heap.objs.size l (Nat.ne_of_lt hlt) (intItems xs), ⟨⟨_, Heap.get?_push_size _ rfl, rfl, rfl⟩, hl.push _⟩, fun b hb => ?_, (fun _ _ => intItems_at), fun h' tk t' hk => ?_⟩
  · show b < (s.heap.push _).objs.size
    rw [Heap.size_push]
    rcases List.mem_cons.mp hb with rfl | hb
    · exact Nat.lt_succ_self _
    · rcases List.mem_cons.mp hb with rfl | hb
      · exact Nat.lt_succ_of_lt hlt
      · cases hb
  · have := h h' tk t' fun b o e => by
      refine hk b o (fun hm => ?_) (Heap.get?_push_of_some _ e)
      rcases List.mem_cons.mp hm with e1 | hm
      · exact absurd (e1 ▸ Heap.lt_size e) (Nat.lt_irrefl _)
      · cases hm
    simpa [intItems] using this
def rSumT (K : PySem.W.Frag) : List V → Hp → VK → Prop := fun vs H Q => ∃ (a : Addr) (ns : List Int), vs = [V.ref a] ∧ SqT K H a (ns.map V.int) ∧ Q (.int ns.sum) H
theorem cr_sumT {X : Cx} (hc : X.calm = true) : CallR X (.builtin "sum") (rSumT X.K) := by
  intro pins s σ H vs us Q I r h
  obtain ⟨a, ns, rfl, hs, q⟩ := h
  obtain ⟨its, rv, hl, _⟩ := I.tuple hs
  rw [Vals.ref1 r]
  have hi := rv.ints
  obtain ⟨xs, e⟩ := hi.allInts.items
  have hn : numsOf (intItems xs).toList = ns := by rw [← e]; exact hi.numsOf
  rw [nums_intItems] at hn
  rw [e] at hl
  refine sum_tupG (I.ok.hd hc) hl fun h' tk t' hk => ?_
  rw [preSum_eq, List.take_of_length_le (by simp), hn]
  exact ⟨.int _, H, I.kept hk, ⟨_, rfl⟩, q⟩
theorem r_sumT {K : PySem.W.Frag} {H : Hp} {Q : VK} {p : Addr} {ns : List Int} (h : SqT K H p (ns.map V.int)) (k : Q (.int ns.sum) H) : rSumT K [.ref p] H Q := ⟨p, ns, rfl, h, k⟩
/-! ### [e for k, v in d.items()] -/
theorem lcI_go {σ : L2.St} {H : Hp} {Q : VK} {G : TG} {tt : TT} {te td : TE} {vs : List Nat} {d : Addr} {kvs : List (Key × V)} (hd : H d = some (.dK kvs)) (up : ∀ od (Q' : VK), (∀ v H1, v = .ref d ∧ H1 = upd H d (.frz od (.dK kvs)) → Q' v H1) → td σ (upd H d (.frz od (.dK kvs))) Q')
    (Pv : Obj → Addr → Nat → List V → Hp → Prop) (h0 : ∀ od D, upd H d (.frz od (.dK kvs)) D = none → Pv od D 0 [] (upd (upd H d (.frz od (.dK kvs))) D (.lst []))) (hG : ∀ od D i acc H', Pv od D i acc H' → H' d = some (.frz od (.dK kvs)))
    (hs : ∀ od D (i : Nat) k v T acc H', kvs[i]? = some (k, v) → upd H d (.frz od (.dK kvs)) D = none → H' D = some (.lst acc) → Pv od D i acc H' → H' T = none → G (.ref T) (wipe σ vs) (upd H' T (.tup [kV k, v])) fun σ2 H2 => wipe σ2 vs = wipe σ vs ∧ tt σ2 H2 fun b H3 =>
      if b = true then te σ2 H3 fun y H4 => ∃ acc, H4 D = some (.lst acc) ∧ acc.length < sizeLine ∧ (∃ ac, (upd H4 D (.lst (acc ++ [y]))) D = some (.lst ac) ∧ Pv od D (i + 1) ac (upd H4 D (.lst (acc ++ [y])))) else ∃ ac, H3 D = some (.lst ac) ∧ Pv od D (i + 1) ac H3)
    (he : ∀ od D acc H', upd H d (.frz od (.dK kvs)) D = none → H' D = some (.lst acc) → Pv od D kvs.length acc H' → Q (.ref D) (upd H' d (.dK kvs))) : tLockE (tLc (iItems td) G tt te vs) σ H Q := by
  refine ⟨d, .dK kvs, hd, trivial, fun od => up od _ ?_⟩
  rintro v H1 ⟨rfl, rfl⟩
  refine ⟨d, od, kvs, rfl, upd_same, fun D hD => lc_it walk_items (fun i H' => ∃ acc, H' D = some (.lst acc) ∧ Pv od D i acc H') ⟨[], upd_same, h0 od D hD⟩ (fun i H' _ ⟨acc, _, p⟩ => hG od D i acc H' p) ?_ fun H' ⟨acc, ha, p⟩ => ⟨hG _ _ _ _ _ p, he od D acc H' hD ha p⟩⟩
  rintro i v H1 H' hi ⟨acc, ha, p⟩ ⟨T, x, y, ev, hT, eH, ex, ey⟩
  subst ev eH
  replace ex : kvs[i]?.map (fun kv => kV kv.1) = some x := ex
  replace ey : kvs[i]?.map Prod.snd = some y := ey
  cases hk : kvs[i]? with
  | none => rw [hk] at ex; cases ex
  | some kv =>
    rw [hk] at ex ey
    cases ex; cases ey
    exact hs od D i kv.1 kv.2 T acc H1 hk hD ha p hT
end Kw
namespace Cm
open PySem PySem.Spec PyProof.Rows PyProof.V L2 StX
/-! ### a sign many times -/
def rMulS : R2 := fun x y H Q => ∃ (c : Nat) (n : Int), x = .str ⟨#[c]⟩ ∧ y = .int n ∧ 0 ≤ n ∧ n ≤ 1000 ∧ Q (.str ⟨(List.replicate n.toNat c).toArray⟩) H
theorem fold_rep {c : Nat} : ∀ (k : Nat) (a : Array Nat), (List.replicate k #[c]).foldl (· ++ ·) a = a ++ (List.replicate k c).toArray
  | 0, a => by simp
  | k + 1, a => by
    rw [List.replicate_succ, List.foldl_cons, fold_rep k, List.replicate_succ]
    apply Array.ext'
    simp
theorem mul_one {c : Nat} {n : Int} (h : 0 ≤ n) : Txt.mul ⟨#[c]⟩ n = ⟨(List.replicate n.toNat c).toArray⟩ := by
  unfold Txt.mul
  by_cases h1 : n < 1
  · rw [if_pos h1, show n.toNat = 0 by omega]; rfl
  · rw [if_neg h1]
    by_cases h2 : n = 1
    · subst h2
      rw [if_pos (by simp)]; rfl
    · rw [if_neg (by simp [h2, Str.length]), fold_rep]; simp
section
variable {X : Cx}
theorem op_mulS : OpR X (binaryOp .Mult) rMulS := by
  intro pins s σ H x y v u Q I rx ry h
  obtain ⟨c, n, rfl, rfl, h0, h1, q⟩ := h
  obtain ⟨t, rfl⟩ := rx
  obtain ⟨t', rfl⟩ := ry
  refine SB.mul ⟨by rw [decide_eq_false (by omega), decide_eq_false (by omega)]; rfl, fun h2 _ => ?_, fun h2 _ => ?_⟩ fun t2 k => ?_
  · show ¬ ((1 : Int) > (2 ^ 63 - 1) / n)
    have : 1 ≤ (2 ^ 63 - 1) / n := (Int.le_ediv_iff_mul_le (by omega)).mpr (by omega)
    omega
  · show decide (1 * n.toNat > sizeLine) = false
    have h3 : n.toNat ≤ 1000 := by omega
    have h4 := le_size (n := 1000) (by decide)
    exact decide_eq_false (by omega)
  · rw [mul_one h0]
    exact ⟨.str _, H, I.kept (t' := k) (fun _ _ e => e), ⟨_, rfl⟩, q⟩
theorem r_mulS {c : Nat} {n : Int} {H : Hp} {Q : VK} (h0 : 0 ≤ n) (h1 : n ≤ 1000) (k : Q (.str ⟨(List.replicate n.toNat c).toArray⟩) H) : rMulS (.str ⟨#[c]⟩) (.int n) H Q := ⟨c, n, rfl, rfl, h0, h1, k⟩
end
/-! ### cls(..), C.m(..) of a classmethod within a try -/
def tMakeV (i : Nat) (C : Addr) (sp : Sp) (dvs : List V) (E : XK) (t : TA) : TE := fun σ H Q => σ[i]? = some (some (.ref C)) ∧ tMake C sp dvs E t σ H Q
section
variable {X : Cx} {CX : CXT} {k i : Nat} {f C p g : Addr} {fd : FuncData} {ps : List Str} {sp : Sp} {dvs : List V} {ds : List Value} {E : XK} {x m : Str} {mc : Value} {pz pos apos : Pos} {e o : Expr} {es : List Expr} {t : TA} {ta : TE}
theorem pe_makeV (M : Mk X.K C f) (F : FnOk X.prog X.w X.K X.mg X.base CX k f fd ps sp) (hr : Room (k + 1) X.A) (hN : X.N[i]? = some x) (hv : Vis X.env.scope x) (hb : Binds X.K fd ps ds) (hd : L2.Vals dvs ds) (hx : Passes CX X E) (ha : PA X (e :: es) t)
    (hdb : (x == ("__debug__" : Str)) = false := by decide) (hcd : (x == ("__classdict__" : Str)) = false := by decide)
    (he : starEach (e :: es) X.env = (false, eval e X.env) :: starEach es X.env := by rfl) (hpl : (backTo pos (starEach es X.env)).any (·.1) = false := by rfl) : PE X (.Call (.Name x pz) (e :: es) [] pos) (tMakeV i C sp dvs E t) := by
  refine ⟨fun pins s σ H Q I h => ?_⟩
  obtain ⟨hs, ht⟩ := h
  refine wpAny_Call_Name_kw (thn ((pe_var (pos := pz) hN hv hdb hcd).run pins s σ H (fun v H1 => v = .ref C ∧ H1 = H) I ⟨.ref C, hs, rfl, rfl⟩) fun u s1 ⟨v, H1, I1, r1, q1⟩ => ?_)
  obtain ⟨rfl, rfl⟩ := q1
  cases r1
  refine PySem.W.callWith_K (h₀ := X.base) I.ok.mod.kin M.kp (thn (ha.run pos pins s1 σ _ _ I1 ht) fun us s2 ⟨vs, H2, I2, r, q⟩ => ⟨I2.kIn, ?_⟩) he hpl
  exact run_make M F hr hb hd hx I2 r q
def tCMethSD (C : Addr) (sp : Sp) (E : L2.St → XK) (ta : TE) (t : TA) : TE := fun σ H Q => ta σ H fun x H1 => x = .ref C ∧ t σ H1 fun vs H2 => sp (.ref C :: vs) H2 Q (E σ)
theorem run_cmSD {pins : List (Addr × Obj)} {σ : L2.St} {H : Hp} {s : Shared} {q : Addr} {Q : VK} {us : List Value} {vs : List V} (F : FnR X.prog X.w X.K X.mg X.base CX k g sp) (hr : Room k X.A) (hx : PassesAt CX X σ E) (I : Inv X ((q, PySem.W.methodObj (.ref g) (.ref C)) :: pins) σ H s)
    (r : L2.Vals vs us) (h : sp (.ref C :: vs) H Q E) : wpAny (model X.prog X.w) X.A (call (.ref q) us) (EP X pins σ Q) X.xe s := by
  have z : wpAny (model X.prog X.w) X.A (call (.ref q) us) (EP X ((q, PySem.W.methodObj (.ref g) (.ref C)) :: pins) σ Q) X.xe s :=
    wpAny_call (PySem.W.method_call (ClX.pin_at I) (Dt.run_fnRD (us := .ref C :: us) (vs := .ref C :: vs) F hr hx I (.cons rfl r) h))
  exact thn z fun _ _ y => ClX.unpinE y
theorem pe_cmethSD {E : L2.St → XK} {pl : Sem Bool} (he : PE X o ta) (r : ClX.CRead X.K C mc) (c : ClX.CMet X.K C mc m p g) (F : FnR X.prog X.w X.K X.mg X.base CX k g sp) (hr : Room k X.A) (hx : ∀ σ, PassesAt CX X σ (E σ)) (ha : PA X (e :: es) t)
    (hst : starEach (e :: es) X.env = (false, eval e X.env) :: starEach es X.env := by rfl) (hpl : (backTo pos (starEach es X.env)).any (·.1) = false := by rfl)
    (ht : eval (.Call (.Attribute o m apos) (e :: es) [] pos) X.env = (do
      let ov ← eval o X.env
      standAt apos.atName
      let (f, first) ← holding [ov] (getMethod ov m pl)
      callWith pos f first (backTo pos (starEach (e :: es) X.env)) (backToKw pos (keywordEach [] X.env))) := by rfl) :
    PE X (.Call (.Attribute o m apos) (e :: es) [] pos) (tCMethSD C sp E ta t) := by
  refine ⟨fun pins s σ H Q I h => ?_⟩
  refine PySem.W.methodCall_KW (pl := pl) (thn (he.run pins s σ H _ I h) fun u s1 ⟨x, H1, I1, rx, ex, q⟩ => ?_) ht
  subst ex
  obtain rfl : u = Value.ref C := rx
  refine ClX.getmethcm_ok I1 r c fun s2 I2 => ?_
  refine ClX.callwith_cm I2 (ClX.base_none I1 (Nat.le_refl _)) c.fi (thn (ha.run pos _ s2 σ H1 _ I2 q) fun us s3 ⟨vs, H2, I3, rv, q2⟩ => ⟨⟨ClX.pin_at I3, I3.kIn⟩, ?_⟩) hst hpl
  exact run_cmSD F hr (hx σ) I3 rv q2
end
/-! ### several except clauses, each with a name -/
abbrev Cl := Value × Nat × (Addr → Value → Option Addr → TS)
def wManyA (K : PySem.W.Frag) (Wout : WX) (D : Ends) : List Cl → WX
  | [] => Wout
  | (c, i, ts) :: r => wAs K c i ts (wManyA K Wout D r) D
inductive HdsA (X : Cx) : List ExceptHandler → List Cl → Prop
  | nil : HdsA X [] []
  | cons {x n : Str} {c : Value} {i : Nat} {ts : Addr → Value → Option Addr → TS} {b₀ : Stmt} {suite : List Stmt} {np pos' : Pos} {hds : List ExceptHandler} {l : List Cl} (hi : X.N[i]? = some n) (hln : X.env.kindOf n = some .local) (hc : Names X x c)
      (hsu : ∀ (a : Addr) (oe : Obj) (cls : Value) (d : Option Addr) (pn : List (Addr × Obj)), Zc cls d oe → (∃ vs, oe.data = .fields vs) → PSs (X.suite a ((a, oe) :: pn)) (b₀ :: suite) (ts a cls d)) (r : HdsA X hds l) :
      HdsA X (.ExceptHandler (some (.Name x np)) (some n) (b₀ :: suite) pos' :: hds) ((c, i, ts) :: l)
section
variable {X : Cx} {body : List Stmt} {h₀ : ExceptHandler} {hds : List ExceptHandler} {l : List Cl} {pos : Pos} {tb : WX → TS} {Wout : WX}
theorem ps_try_manyA (hs : X.stack = X.env :: X.outer) (hf : X.env.frame = some X.env.locals) (hN : X.N.Nodup) (tk : Takes X Wout)
    (hb : ∀ (W : WX) (pn : List (Addr × Obj)) (xe : Value → Shared → Prop), Takes (X.tr pn xe) W → PassesOwn (model X.prog X.w) X.A X.env xe → PSs (X.tr pn xe) body (tb W))
    (hh : HdsA X (h₀ :: hds) l) : PS X (.Try body (h₀ :: hds) [] [] pos) (fun D σ H => tb (wManyA X.K Wout D l) D σ H) := by
  refine ⟨fun pins s σ H D I h => ?_⟩
  have ok := I.ok
  have hfr : X.A.frames = some (X.env :: X.outer) := by rw [ok.frames, hs]
  refine wpAny_Try_except ?_
  refine wpAny_mono ((hb (wManyA X.K Wout D l) (X.pn ++ pins) (fun e s₁ => wpAny (model X.prog X.w) X.A (noteFrame e X.env) (fun _ s₂ => wpAny (model X.prog X.w) X.A (setFlight e none) (fun _ s₃ =>
    wpAny (model X.prog X.w) X.A (handleBy e X.env (h₀ :: hds)) (SP X pins D) X.xe s₃) X.xe s₂) X.xe s₁) (fun u s' xx => ?_) PassesOwn.looking).run [] s σ H D (I.toTry _) h) (fun f s1 hsp => ?_) (fun e s1 he => he)
  · -- the catch
    obtain ⟨a, B, sI, pins', σ', H', cls, d, rfl, J', nb, up, sky, na, os, ag, w⟩ := xx
    have J : Inv X pins σ' H' sI := J'.ofTry ok
    have sky' : Sky B (X.env :: X.outer) a (Zc cls d) X.env.locals s'.heap := by rw [← hs]; exact sky
    show wpAny (model X.prog X.w) X.A (noteFrame (.ref a) X.env) _ _ _
    refine Sky.land Zc.steady hfr hf sky' fun h3 fl3 up3 => ?_
    have J3 : Inv X pins σ' H' { s' with heap := h3 } := J.landed nb fl3.1 (up.trans up3) os ag
    obtain ⟨oe3, vs3, he3, hz3, hd3⟩ := fl3.there
    have notFr : ∀ {h : Heap} {o : Obj} {vs : Array Value}, h.FunFrames B (X.env :: X.outer) → h.get? a = some o → o.data = .fields vs → a ∉ frs (X.env :: X.outer) := fun {h o vs} ff e dd hm => by
      obtain ⟨_, o', e', hnf⟩ := ff.mem hm
      rw [e] at e'; cases e'
      exact hnf _ dd
    have nfr := notFr fl3.2.2.1 he3 hd3
    have nL : a ≠ X.env.locals := fun z => nfr (List.mem_filterMap.mpr ⟨X.env, List.mem_cons_self, by rw [hf, z]⟩)
    have nF : a ∉ X.fs := fun hm => by
      obtain ⟨e, he, q⟩ := List.mem_filterMap.mp hm
      exact nfr (List.mem_filterMap.mpr ⟨e, List.mem_cons_of_mem _ he, q⟩)
    have S3 := J3.suite he3 hd3 na nL nF
    have go : ∀ {hds' : List ExceptHandler} {l' : List Cl}, HdsA X hds' l' → wManyA X.K Wout D l' cls d σ' H' →
        wpAny (model X.prog X.w) X.A (handleBy (.ref a) X.env hds') (SP X pins D) X.xe { s' with heap := h3 } := by
      intro hds' l' hk
      induction hk with
      | nil =>
        intro w
        refine wpAny_handleBy_nil ?_
        obtain ⟨k1, k2, k3, oe, vs, T, oT, ts', he, hz, hd, h1, hr⟩ := id fl3
        unfold PySem.passOn
        refine wpAny_bind (wpAny_field he hd h1 ?_)
        rw [if_neg (show ¬ ((Value.ref T == Value.none) = true) from by simp)]
        have fin : wpAny (model X.prog X.w) X.A (setFlight (.ref a) X.env.frame) (fun _ s4 => wpAny (model X.prog X.w) X.A (throw (.ref a) : Sem Flow) (SP X pins D) X.xe s4) X.xe { s' with heap := h3 } := by
          rw [hf]
          refine HandSPX.setFlight_upZ fl3 fun h4 hh4 up4 => wpAny_throw (tk _ _ ?_)
          exact ⟨a, B, sI, pins, σ', H', cls, d, rfl, J, nb, (up.trans up3).trans up4, .inr (.inr (by rw [hs]; exact hh4)), na, os, ag, w⟩
        first
          | exact wpAny_bind (wpAny_pure (wpAny_bind fin))
          | exact wpAny_bind fin
      | @cons x n c i ts b₀ suite np pos' hds2 l2 hi hln hc hsu r ih =>
        intro w
        obtain ⟨b, hb1, hyes, hno⟩ := w
        have hloc : Loc X.env.scope n := .inl hln
        refine wpAny_handleBy_cons (codeAny_handlers_test ?_) (by intro q; cases q)
        have LT : PySem.W.Looks (model X.prog X.w) h3 (typeOf (.ref a)) cls := fun A Q E s k q => wpAny_typeOf_ref (k _ _ he3) (by rw [hz3.1]; exact q)
        have LM := PySem.W.exm_one (M := model X.prog X.w) (J3.kIn) LT hb1
        have test : ∀ {Q : Value → Shared → Prop} {E : Value → Shared → Prop}, Q c { s' with heap := h3 } → wpAny (model X.prog X.w) (X.A.mark (some (.ref a))) (eval (.Name x np) X.env) Q E { s' with heap := h3 } := fun {Q E} q => by
          obtain ⟨hg, hdbg, hm | ⟨hm, hv, hnn⟩⟩ := hc
          · exact ld_glob (X := X.suite a ((a, oe3) :: (X.pn ++ pins))) S3 hg hm q hdbg
          · exact ld_blt (X := X.suite a ((a, oe3) :: (X.pn ++ pins))) S3 hg hm hv q hnn hdbg
        refine test (LM.here ?_)
        cases b with
        | true =>
          refine codeAny_handlers_suite_as ?_
          refine HandSPX.lands_againZ fl3 fun h4 fl4 up4 => ?_
          have J4 : Inv X pins σ' H' { s' with heap := h4 } := J.landed nb fl4.1 ((up.trans up3).trans up4) os ag
          obtain ⟨oe4, vs4, he4, hz4, hd4⟩ := fl4.there
          have S4 := J4.suite he4 hd4 na nL nF
          refine store_ok (X := X.suite a ((a, oe4) :: (X.pn ++ pins))) (v := .ref a) S4 hN hi hloc rfl (fun s5 S5 => ?_) (.inr hln)
          refine wpAny_mono ((hsu a oe4 cls d (X.pn ++ pins) hz4 ⟨_, hd4⟩).run [] s5 _ H' _ S5 (hyes rfl a na)) (fun f s6 hsp => ?_) (fun _ _ z => False.elim z)
          have end_ : ∀ {σ6 : L2.St} {H6 : Hp} {Q : Shared → Prop}, Inv (X.suite a ((a, oe4) :: (X.pn ++ pins))) [] σ6 H6 s6 → (∀ s7, Inv X pins (σ6.set i none) H6 s7 → Q s7) →
              wpAny (model X.prog X.w) X.A (do bindName X.env n .none; unbindBehindTheSuite X.env n pos') (fun _ s7 => Q s7) X.xe s6 := fun {σ6 H6 Q} S6 hq => gone_ok (S6.unsuite ok) hN hi hln hq
          cases f with
          | next =>
            obtain ⟨σ6, H6, S6, q6⟩ := hsp
            exact end_ S6 fun s7 J7 => ⟨_, _, J7, q6⟩
          | brk =>
            obtain ⟨σ6, H6, S6, q6⟩ := hsp
            exact end_ S6 fun s7 J7 => ⟨_, _, J7, q6⟩
          | cont =>
            obtain ⟨σ6, H6, S6, q6⟩ := hsp
            exact end_ S6 fun s7 J7 => ⟨_, _, J7, q6⟩
          | ret u =>
            obtain ⟨v6, σ6, H6, S6, r6, q6⟩ := hsp
            exact end_ S6 fun s7 J7 => ⟨_, _, _, J7, r6, q6⟩
        | false =>
          show wpAny _ X.A (handleBy (.ref a) X.env hds2) _ _ _
          exact ih (hno rfl)
    exact go hh w
  · cases f with
    | next =>
      obtain ⟨σ', H', J', q⟩ := hsp
      exact wpAny_execs_nil ⟨σ', H', J'.ofTry ok, q⟩
    | brk =>
      obtain ⟨σ', H', J', q⟩ := hsp
      exact ⟨σ', H', J'.ofTry ok, q⟩
    | cont =>
      obtain ⟨σ', H', J', q⟩ := hsp
      exact ⟨σ', H', J'.ofTry ok, q⟩
    | ret u =>
      obtain ⟨v, σ', H', J', r, q⟩ := hsp
      exact ⟨v, σ', H', J'.ofTry ok, r, q⟩
end
end Cm
namespace Nk
open PySem PySem.Spec PyProof.Rows PyProof.V L2 StX
/-! ### keys ((.., ..), text) -/
abbrev NK := List Key × Str
section
variable {prog : Program} {w : World}
def IsNest (prog : Program) (w : World) (h : Heap) (k : NK) (a : Addr) : Prop := ∃ (o : Obj) (n : Nat) (t : Addr) (tk : Tok), h.get? a = some o ∧ o.cls = .type "tuple" ∧ o.data = .seq #[.ref t, .str k.2 tk] n ∧ (tupleKind (mixKind prog w)).is h k.1 t
def nkHash (prog : Program) (w : World) (k : NK) : Int := reduceHash (Builtin.Tuple.tupleHashOf [(tupleKind (mixKind prog w)).hash k.1, (mixKind prog w).hash (Sum.inr k.2)])
theorem IsNest.typeIs {s : Shared} {k : NK} {a : Addr} (x : IsNest prog w s.heap k a) : s.TypeIs (.ref a) "tuple" := let ⟨o, _, _, _, ho, hc, _⟩ := x; ⟨o, ho, hc⟩
theorem IsNest.inj {h : Heap} {a : Addr} {x y : NK} (hx : IsNest prog w h x a) (hy : IsNest prog w h y a) : x = y := by
  obtain ⟨o, n, t, tk, ho, _, hd, hi⟩ := hx
  obtain ⟨o', n', t', tk', ho', _, hd', hi'⟩ := hy
  obtain rfl : o = o' := Option.some.inj (ho.symm.trans ho')
  rw [hd] at hd'
  injection hd' with h1 _
  have h2 := congrArg Array.toList h1
  simp only [List.cons.injEq] at h2
  obtain ⟨h3, h4, _⟩ := h2
  injection h3 with h3
  injection h4 with h4 _
  subst h3
  exact Prod.ext ((tupleKind (mixKind prog w)).inj hi hi') h4
theorem IsNest.keeps {h h' : Heap} {k : NK} {a d : Addr} {o : Obj} {es ep} (x : IsNest prog w h k a) (ho : h.get? d = some o) (hd : o.data = .dict es ep) (hs : Heap.SameBut d h h') : IsNest prog w h' k a := by
  obtain ⟨o', n, t, tk, ho', hc, hd', hi⟩ := x
  have hne : a ≠ d := by
    rintro rfl
    obtain rfl : o' = o := Option.some.inj (ho'.symm.trans ho)
    rw [hd] at hd'; exact nomatch hd'
  exact ⟨o', n, t, tk, (hs.2 a hne).trans ho', hc, hd', (tupleKind (mixKind prog w)).keeps hi ho hd hs⟩
variable {A : Around} {E : Value → Shared → Prop} {s : Shared}
theorem nk_pyHash {k : NK} {a : Addr} {Q : Int → Shared → Prop} (hu : A.units + 8 < cLine) (hk : IsNest prog w s.heap k a) (h : Q (nkHash prog w k) { s with toks := s.toks + (k.1.length + 3) }) :
    wpAny (model prog w) A (pyHash (.ref a)) Q E s := by
  have hT := hk.typeIs
  obtain ⟨o, n, t, tk, ho, _, hd, hi⟩ := hk
  unfold pyHash
  first | unfold pyHashByItsType | skip
  first | refine wpAny_bind (wpAny_cRoomFor_or (.inr (by omega)) ?_) | skip
  refine wpAny_bind (wpAny_specialOf hT F.slot_tuple_hash.lookup ?_)
  show wpAny _ _ (if (some (Value.builtin "tuple.__hash__") == some Value.none) = true then _ else _) Q E s
  rw [if_neg (by rw [beq_builtin_none]; exact Bool.false_ne_true)]
  refine wpAny_bind (wpAny_specialOf hT F.slot_tuple_hash.lookup ?_)
  show wpAny _ _ (callSpecialIfBoundUnlessNone? (.ref a) "__hash__" _ >>= _) Q E s
  refine wpAny_bind (wpAny_callSpecialIfBoundUnlessNone?_slot hT F.slot_tuple_hash (wpAny_call_entry F.slot_tuple_hash hT F.entry_tuple_hash ?_ (F.args_tuple_hash_1 _)))
  show wpAny _ _ (Builtin.Tuple.tupleItemsOf (.ref a) >>= _) _ _ s
  refine wpAny_bind (wpAny_tupleItemsOf ho hd ?_)
  refine wpAny_bind ?_
  rw [← Array.forIn_toList]
  refine wpAny_forIn_list _
    (fun rest (b : Array Int) s' => (rest = [.ref t, .str k.2 tk] ∧ b.toList = [] ∧ s' = s) ∨ (rest = [.str k.2 tk] ∧ b.toList = [(tupleKind (mixKind prog w)).hash k.1] ∧ s' = { s with toks := s.toks + (k.1.length + 1) }) ∨
      (rest = [] ∧ b.toList = [(tupleKind (mixKind prog w)).hash k.1, (mixKind prog w).hash (Sum.inr k.2)] ∧ s' = { s with toks := s.toks + (k.1.length + 2) }))
    _ ?_ ?_ _ _ (.inl ⟨rfl, rfl, rfl⟩)
  · rintro x rest b s' (⟨hr, hb, rfl⟩ | ⟨hr, hb, rfl⟩ | ⟨hr, _⟩)
    · cases hr
      refine wpAny_bind ((tupleKind (mixKind prog w)).pyHash ?_ hi ?_)
      · exact tupleKind_room_in1 (by omega)
      · first
          | exact wpAny_pure (.inr (.inl ⟨rfl, by simp [hb], rfl⟩))
          | exact wpAny_bind (wpAny_pure (wpAny_pure (.inr (.inl ⟨rfl, by simp [hb], rfl⟩))))
    · cases hr
      refine wpAny_bind ((mixKind prog w).pyHash (k := Sum.inr k.2) (keyIs_str k.2 tk) ?_)
      first
        | exact wpAny_pure (.inr (.inr ⟨rfl, by simp [hb], by simp [Nat.add_assoc]⟩))
        | exact wpAny_bind (wpAny_pure (wpAny_pure (.inr (.inr ⟨rfl, by simp [hb], by simp [Nat.add_assoc]⟩))))
    · cases hr
  · rintro b s' (⟨hr, _⟩ | ⟨hr, _⟩ | ⟨_, hb, rfl⟩)
    · cases hr
    · cases hr
    show wpAny _ _ (retInt (Builtin.Tuple.tupleHashOf b.toList)) _ _ _
    rw [hb]
    refine wpAny_ret_mkInt ?_
    show wpAny _ _ (if (decide (-(2 : Int) ^ 63 ≤ Builtin.Tuple.tupleHashOf [(tupleKind (mixKind prog w)).hash k.1, (mixKind prog w).hash (Sum.inr k.2)]) && decide (Builtin.Tuple.tupleHashOf [(tupleKind (mixKind prog w)).hash k.1, (mixKind prog w).hash (Sum.inr k.2)] < 2 ^ 63)) = true then _ else _) Q E _
    unfold nkHash reduceHash at h
    by_cases hr : (decide (-(2 : Int) ^ 63 ≤ Builtin.Tuple.tupleHashOf [(tupleKind (mixKind prog w)).hash k.1, (mixKind prog w).hash (Sum.inr k.2)]) && decide (Builtin.Tuple.tupleHashOf [(tupleKind (mixKind prog w)).hash k.1, (mixKind prog w).hash (Sum.inr k.2)] < 2 ^ 63)) = true
    · rw [if_pos hr]
      rw [if_pos hr] at h
      exact wpAny_pure (by simpa [Nat.add_assoc] using h)
    · rw [if_neg hr]
      rw [if_neg hr] at h
      exact wpAny_bind (wpAny_rule (wpAny_pure (by simpa [Nat.add_assoc] using h)))
theorem nk_eq_tree {x y : NK} {a b : Addr} {P : Fin → Shared → Prop} (hu : A.units < cLine) (hx : IsNest prog w s.heap x a) (hy : IsNest prog w s.heap y b) (h : P (.done (.ret (.bool (decide (x = y))))) s) :
    wpAny (model prog w) A (Builtin.«tuple.__eq__» ⟨[.ref a, .ref b], []⟩) P E s := by
  have hTb := hy.typeIs
  obtain ⟨oa, na, ta, ka, hoa, _, hda, hia⟩ := hx
  obtain ⟨ob, nb, tb, kb, hob, _, hdb, hib⟩ := hy
  show wpAny _ _ (isInstance (.ref b) (.type "tuple") >>= _) _ _ s
  refine wpAny_bind (wpAny_isInstance hTb isSubtype_tuple_tuple ?_)
  simp only [Bool.not_true, Bool.false_eq_true, if_false]
  refine wpAny_bind (wpAny_tupleItemsOf hoa hda ?_)
  refine wpAny_bind (wpAny_tupleItemsOf hob hdb ?_)
  refine wpAny_bind ?_
  refine wpAny_forIn_list _
    (fun rest r s' => r.1 = none ∧ s' = s ∧ ((rest = [(.ref ta, .ref tb), (.str x.2 ka, .str y.2 kb)]) ∨ (rest = [(.str x.2 ka, .str y.2 kb)] ∧ x.1 = y.1) ∨ (rest = [] ∧ x = y)))
    _ ?_ ?_ _ _ ⟨rfl, rfl, .inl rfl⟩
  · rintro ⟨u, v⟩ rest r s' ⟨hr, rfl, hz | ⟨hz, e1⟩ | ⟨hz, _⟩⟩
    · simp only [List.cons.injEq, Prod.mk.injEq] at hz
      obtain ⟨⟨rfl, rfl⟩, rfl⟩ := hz
      refine wpAny_bind ((tupleKind (mixKind prog w)).eqBool (x := x.1) (y := y.1) hu hia hib ?_)
      by_cases hk : x.1 = y.1
      · rw [decide_eq_true hk]
        simp only [Bool.not_true, Bool.false_eq_true, if_false]
        exact wpAny_pure ⟨rfl, rfl, .inr (.inl ⟨trivial, hk⟩)⟩
      · rw [decide_eq_false hk]
        simp only [Bool.not_false, if_true]
        have hf : decide (x = y) = false := decide_eq_false fun e => hk (by rw [e])
        rw [hf] at h
        exact wpAny_bind (wpAny_pure (wpAny_pure (wpAny_pure h)))
    · simp only [List.cons.injEq, Prod.mk.injEq] at hz
      obtain ⟨⟨rfl, rfl⟩, rfl⟩ := hz
      refine wpAny_bind ((mixKind prog w).eqBool (a := Sum.inr x.2) (b := Sum.inr y.2) (keyIs_str x.2 ka) (keyIs_str y.2 kb) ?_)
      by_cases hk : x.2 = y.2
      · rw [decide_eq_true (by rw [hk])]
        simp only [Bool.not_true, Bool.false_eq_true, if_false]
        exact wpAny_pure ⟨rfl, rfl, .inr (.inr ⟨trivial, Prod.ext e1 hk⟩)⟩
      · rw [decide_eq_false (fun e => hk (Sum.inr.inj e))]
        simp only [Bool.not_false, if_true]
        have hf : decide (x = y) = false := decide_eq_false fun e => hk (by rw [e])
        rw [hf] at h
        exact wpAny_bind (wpAny_pure (wpAny_pure (wpAny_pure h)))
    · cases hz
  · rintro ⟨r1, r2⟩ s' ⟨hr, rfl, hz | ⟨hz, _⟩ | ⟨_, e⟩⟩
    · cases hz
    · cases hz
    simp only at hr
    subst hr
    refine wpAny_pure ?_
    show P (.done (.ret (.bool true))) s'
    rw [decide_eq_true e] at h
    exact h
theorem nk_eqBool {x y : NK} {a b : Addr} {Q : Bool → Shared → Prop} (hu : A.units + 8 < cLine) (hx : IsNest prog w s.heap x a) (hy : IsNest prog w s.heap y b) (h : Q (decide (x = y)) s) :
    wpAny (model prog w) A (eqBool (.ref a) (.ref b)) Q E s := by
  unfold eqBool
  try with_reducible refine wpAny_holding ?_
  show wpAny _ _ (if (Value.ref a == Value.ref b) = true then _ else _) Q E s
  by_cases hab : (Value.ref a == Value.ref b) = true
  · rw [if_pos hab]
    have e : a = b := by have := eq_of_beq hab; injection this
    subst e
    obtain rfl := hx.inj hy
    exact wpAny_bind (wpAny_rule (wpAny_pure (by simpa using h)))
  · rw [if_neg hab]
    refine wpAny_bind (wpAny_richCompare_same_room (op := .Eq) hx.typeIs hy.typeIs F.slot_tuple_eq
      (wpAny_call_entry F.slot_tuple_eq hx.typeIs F.entry_tuple_eq (nk_eq_tree ?_ hx hy ⟨_, rfl, (fun e => nomatch e), wpAny_truthy_bool h⟩) (F.args_tuple_eq_2 _ _)) (by omega))
    exact (tupleKind_room_in1 (by omega) : (tupleKind (mixKind prog w)).room A.in1)
theorem quiet_tuple {n : Nat} {ks : List Key} {a : Addr} {Q : Bool → Shared → Prop} (hk : (tupleKind (mixKind prog w)).is s.heap ks a) (h : Q true s) : wpAny (model prog w) A (eqIsQuiet (n + 1) (.ref a)) Q E s := by
  have hk : IsTupleKey (mixKind prog w) s.heap ks a := hk
  have hT := hk.typeIs
  obtain ⟨o, items, m, ho, _, hd, hi⟩ := hk
  unfold eqIsQuiet
  refine wpAny_bind (wpAny_specialOf hT F.slot_tuple_eq.lookup ?_)
  show wpAny _ _ (isInstance (.ref a) (.type "tuple") >>= _) _ _ s
  refine wpAny_bind (wpAny_isInstance hT isSubtype_tuple_tuple ?_)
  simp only [Bool.not_true, Bool.false_eq_true, if_false]
  refine wpAny_bind (wpAny_seqItems ho hd ?_)
  refine wpAny_bind ?_
  show wpAny _ _ (forIn items _ _) _ _ s
  rw [← Array.forIn_toList]
  refine wpAny_forIn_list _ (fun rest r s' => r.1 = none ∧ s' = s ∧ ∀ v ∈ rest, carriedByValue v = true) _ ?_ ?_ _ _ ⟨rfl, rfl, hi.byValue⟩
  · rintro v rest r s' ⟨hr, rfl, hall⟩
    rw [eqIsQuiet_byValue _ (hall v List.mem_cons_self)]
    refine wpAny_bind (wpAny_pure ?_)
    simp only [Bool.not_true, Bool.false_eq_true, if_false]
    exact wpAny_pure ⟨rfl, rfl, fun u hu' => hall u (List.mem_cons_of_mem _ hu')⟩
  · rintro ⟨r1, r2⟩ s' ⟨hr, rfl, _⟩
    simp only at hr
    subst hr
    exact wpAny_pure h
theorem nk_quiet {k : NK} {a : Addr} {Q : Bool → Shared → Prop} (hk : IsNest prog w s.heap k a) (h : Q true s) : wpAny (model prog w) A (eqIsQuiet 8 (.ref a)) Q E s := by
  have hT := hk.typeIs
  obtain ⟨o, m, t, tk, ho, _, hd, hi⟩ := hk
  unfold eqIsQuiet
  refine wpAny_bind (wpAny_specialOf hT F.slot_tuple_eq.lookup ?_)
  show wpAny _ _ (isInstance (.ref a) (.type "tuple") >>= _) _ _ s
  refine wpAny_bind (wpAny_isInstance hT isSubtype_tuple_tuple ?_)
  simp only [Bool.not_true, Bool.false_eq_true, if_false]
  refine wpAny_bind (wpAny_seqItems ho hd ?_)
  refine wpAny_bind ?_
  show wpAny _ _ (forIn #[Value.ref t, Value.str k.2 tk] _ _) _ _ s
  rw [← Array.forIn_toList]
  refine wpAny_forIn_list _ (fun rest r s' => r.1 = none ∧ s' = s ∧ (rest = [.ref t, .str k.2 tk] ∨ rest = [.str k.2 tk] ∨ rest = [])) _ ?_ ?_ _ _ ⟨rfl, rfl, .inl rfl⟩
  · rintro v rest r s' ⟨hr, rfl, hz | hz | hz⟩
    · cases hz
      refine wpAny_bind (quiet_tuple (n := 6) hi ?_)
      simp only [Bool.not_true, Bool.false_eq_true, if_false]
      exact wpAny_pure ⟨rfl, rfl, .inr (.inl trivial)⟩
    · cases hz
      rw [eqIsQuiet_byValue _ rfl]
      refine wpAny_bind (wpAny_pure ?_)
      simp only [Bool.not_true, Bool.false_eq_true, if_false]
      exact wpAny_pure ⟨rfl, rfl, .inr (.inr trivial)⟩
    · cases hz
  · rintro ⟨r1, r2⟩ s' ⟨hr, rfl, _⟩
    simp only at hr
    subst hr
    exact wpAny_pure h
end
def nestKind (prog : Program) (w : World) : HeapKind prog w NK where
  is := IsNest prog w
  hash := nkHash prog w
  draws := fun k => k.1.length + 3
  room := fun A => A.units + 8 < cLine
  inj := fun hx hy => hx.inj hy
  keeps := fun x ho hd hs => x.keeps ho hd hs
  pyHash := fun hu hk h => nk_pyHash hu hk h
  eqBool := fun hu hx hy h => nk_eqBool hu hx hy h
  quiet := fun hk h => nk_quiet hk h
/-! ### a dict of such keys, whatever it holds -/
section
variable {P : Program} {w : World}
def SeenR (P : Program) (w : World) (d : Addr) (xs : List (NK × Addr × Value)) (h : Heap) : Prop := ∃ o es ep, h.get? d = some o ∧ o.ExactDict ∧ o.data = .dict es ep ∧ es.toList = xs.map (entryOfKey (nestKind P w)) ∧ (xs.map (·.1)).Nodup
theorem SeenR.ok {H : Hp} {h : Heap} {d : Addr} {xs : List (NK × Addr × Value)} (x : SeenR P w d xs h) : ObjOk P w H h d (.ext (SeenR P w d xs)) :=
  ⟨x, let ⟨o, _, _, ho, _⟩ := x; ⟨o, ho⟩, fun h1 h2 ⟨o, es, ep, ho, r⟩ k => ⟨o, es, ep, k o ho, r⟩⟩
def KeyN (H : Hp) (q : Addr) (k : NK) : Prop := ∃ t, H q = some (.tup [.ref t, .str k.2]) ∧ H t = some (.tup (k.1.map kV))
theorem KeyN.keep {H H' : Hp} {q : Addr} {k : NK} (h : KeyN H q k) (kp : ∀ b ys, H b = some (.tup ys) → H' b = some (.tup ys)) : KeyN H' q k := let ⟨t, a, b⟩ := h; ⟨t, kp _ _ a, kp _ _ b⟩
/-- a dict of at most n such keys at d -/
def SeenAt (P : Program) (w : World) (H : Hp) (d : Addr) (n : Nat) : Prop := ∃ xs : List (NK × Addr × Value), H d = some (.ext (SeenR P w d xs)) ∧ (d == sysModules) = false ∧ xs.length ≤ n ∧ ∀ x ∈ xs, KeyN H x.2.1 x.1
theorem SeenAt.keep {H H' : Hp} {d : Addr} {n : Nat} (h : SeenAt P w H d n) (hd : H' d = H d) (kp : ∀ b ys, H b = some (.tup ys) → H' b = some (.tup ys)) : SeenAt P w H' d n :=
  let ⟨xs, a, b, c, e⟩ := h; ⟨xs, hd.trans a, b, c, fun x hx => (e x hx).keep kp⟩
theorem SeenAt.keepK {H H' : Hp} {M : List Addr} {d : Addr} {n : Nat} (h : SeenAt P w H d n) (k : Keep M H H') (hd : d ∉ M) (hm : ∀ m ∈ M, ∀ ys, H m ≠ some (.tup ys)) : SeenAt P w H' d n :=
  let ⟨xs, a, b, c, e⟩ := h; ⟨xs, k _ _ hd a, b, c, fun x hx => (e x hx).keep fun b ys hb => k _ _ (fun z => hm b z ys hb) hb⟩
theorem key_nest {H : Hp} {h : Heap} {q : Addr} {k : NK} (ok : HOk P w H h) (e : KeyN H q k) : (nestKind P w).is h k q := by
  obtain ⟨t, e1, e2⟩ := e
  obtain ⟨_, its, r, o, h1, h2, n, h3⟩ := (show ObjOk P w H h q (.tup [.ref t, .str k.2]) from ok q _ e1)
  cases r with
  | cons r1 r2 =>
    cases r2 with
    | cons r3 r4 =>
      cases r4
      cases r1
      obtain ⟨tk, rfl⟩ := r3
      exact ⟨o, n, t, tk, h1, h2, h3, key_of ok e2⟩
theorem seen_dict {H : Hp} {h : Heap} {d : Addr} {xs : List (NK × Addr × Value)} (ok : HOk P w H h) (e : H d = some (.ext (SeenR P w d xs))) (hk : ∀ x ∈ xs, KeyN H x.2.1 x.1) : h.DictOfH (nestKind P w) d xs := by
  obtain ⟨⟨o, es, ep, h1, h2, h3, h4, h5⟩, _⟩ := (show ObjOk P w H h d (.ext (SeenR P w d xs)) from ok d _ e)
  exact ⟨o, es, ep, h1, h2, h3, h4, fun x hx => key_nest ok (hk x hx), h5⟩
end
def rInN (P : Program) (w : World) (f : Bool → Bool) : R2 := fun x y H Q => ∃ d q k n, x = .ref q ∧ y = .ref d ∧ KeyN H q k ∧ SeenAt P w H d n ∧ ∀ b, Q (.bl (f b)) H
def tDNewN (P : Program) (w : World) : TE := fun _ H Q => ∀ p, H p = none → SeenAt P w (upd H p (.ext (SeenR P w p []))) p 0 → Q (.ref p) (upd H p (.ext (SeenR P w p [])))
def sDPutN (P : Program) (w : World) (td ty tv : TE) : TS := fun D σ H => tv σ H fun v H1 => td σ H1 fun x H2 => ty σ H2 fun y H3 => ∃ d q k n, x = .ref d ∧ y = .ref q ∧ KeyN H3 q k ∧ SeenAt P w H3 d n ∧ n < sizeLine ∧ ∀ ob, SeenAt P w (upd H3 d ob) d (n + 1) → D.nx σ (upd H3 d ob)
section
variable {X : Cx} {pins : List (Addr × Obj)} {σ : L2.St} {H : Hp} {s : Shared} {td ty tv : TE} {o i value : Expr} {pos pos' : Pos}
theorem op_inN (hu : X.A.units + 64 < cLine) : OpR X (compareOp .In) (rInN X.prog X.w id) := by
  intro pins s σ H x y v u Q I rx ry h
  obtain ⟨d, q, k, n, rfl, rfl, hk, ⟨xs, e, hd, _, hx⟩, q2⟩ := h
  cases (show v = Value.ref q from rx)
  cases (show u = Value.ref d from ry)
  exact wpAny_in_heap (show X.A.in1.units + 8 < cLine from by show X.A.units + 1 + 8 < cLine; omega) (key_nest I.hok hk) hd (seen_dict I.hok e hx) ⟨.bl _, H, I.kept (fun _ _ z => z), rfl, q2 _⟩
theorem op_notInN (hu : X.A.units + 64 < cLine) : OpR X (compareOp .NotIn) (rInN X.prog X.w not) := by
  intro pins s σ H x y v u Q I rx ry h
  obtain ⟨d, q, k, n, rfl, rfl, hk, ⟨xs, e, hd, _, hx⟩, q2⟩ := h
  cases (show v = Value.ref q from rx)
  cases (show u = Value.ref d from ry)
  exact wpAny_notIn_heap (show X.A.in1.units + 8 < cLine from by show X.A.units + 1 + 8 < cLine; omega) (key_nest I.hok hk) hd (seen_dict I.hok e hx) ⟨.bl _, H, I.kept (fun _ _ z => z), rfl, q2 _⟩
theorem pe_dnewN : PE X (.Dict [] [] pos) (tDNewN X.prog X.w) := ⟨fun pins s σ H Q I h => by
  have ok : ∀ H', ObjOk X.prog X.w H' (s.heap.push { cls := .type "dict", data := .dict #[] }) s.heap.objs.size (.ext (SeenR X.prog X.w s.heap.objs.size [])) := fun H' => SeenR.ok ⟨_, #[], 0, Heap.get?_push_size _ rfl, ⟨rfl, rfl, rfl⟩, rfl, rfl, List.nodup_nil⟩
  refine wpAny_Dict_empty ⟨.ref s.heap.objs.size, _, I.laid (a := s.heap.objs.size) (o := .ext (SeenR X.prog X.w s.heap.objs.size [])) (t' := s.toks) (fun _ _ q => Heap.get?_push_of_some _ q) (Nat.le_refl _) (ok _), rfl, h _ (I.hok.fresh (Nat.le_refl _)) ?_⟩
  exact ⟨[], upd_same, beq_eq_false_iff_ne.mpr (Ne.symm (Nat.ne_of_lt I.big)), Nat.le_refl _, by simp⟩⟩
theorem ps_dputN (hu : X.A.units + 64 < cLine) (ho : PE X o td) (hi : PE X i ty) (hv : PE X value tv) (hs : swapsWith value (some (.Subscript o i pos')) pos.line X.env = pure false) :
    PS X (.Assign [.Subscript o i pos'] value pos) (sDPutN X.prog X.w td ty tv) := by
  refine ⟨fun pins s σ H D I h => ?_⟩
  refine wpAny_Assign_Subscript (thn (hv.run pins s σ H _ I h) fun r s1 ⟨v, H1, I1, rv, q1⟩ => thn (ho.run pins s1 σ H1 _ I1 q1) fun u s2 ⟨x, H2, I2, rx, q2⟩ => thn (hi.run pins s2 σ H2 _ I2 q2) fun iv s3 ⟨y, H3, I3, ry, d, q, k, n, ex, ey, hk, ⟨xs, e, hd, hn, hx⟩, hz, q3⟩ => ?_) hs
  subst ex ey
  obtain rfl : u = Value.ref d := rx
  obtain rfl : iv = Value.ref q := ry
  refine wpAny_setItem_heap (hsz := by omega) (show X.A.in1.units + 8 < cLine from by show X.A.units + 1 + 8 < cLine; omega) (key_nest I3.hok hk) (seen_dict I3.hok e hx) fun h' dd' hs' => ?_
  obtain ⟨ob, es, ep, h1, h2, h3, h4, _, h5⟩ := dd'
  have I4 := d_write (t' := s3.toks + (nestKind X.prog X.w).draws k) I3 (by rw [e]; exact True.intro) hs' ⟨ob, h1⟩ (SeenR.ok (P := X.prog) (w := X.w) (xs := storedH xs k q r) (H := upd H3 d (.ext (SeenR X.prog X.w d (storedH xs k q r)))) ⟨ob, es, ep, h1, h2, h3, h4, h5⟩)
  have nt : ∀ b ys, H3 b = some (.tup ys) → b ≠ d := fun b ys hb z => by rw [z, e] at hb; cases hb
  refine ⟨σ, _, I4, q3 _ ⟨storedH xs k q r, upd_same, hd, ?_, fun x hx' => ?_⟩⟩
  · unfold storedH
    split
    · rw [List.length_map]; omega
    · rw [List.length_append, List.length_singleton]; omega
  · have kp : ∀ b ys, H3 b = some (.tup ys) → upd H3 d (.ext (SeenR X.prog X.w d (storedH xs k q r))) b = some (.tup ys) := fun b ys hb => by rw [upd_ne (nt b ys hb)]; exact hb
    unfold storedH at hx'
    split at hx'
    · obtain ⟨z, hz1, rfl⟩ := List.mem_map.mp hx'
      have := (hx z hz1).keep kp
      unfold putAt
      split <;> exact this
    · rcases List.mem_append.mp hx' with hx' | hx'
      · exact (hx x hx').keep kp
      · rw [List.mem_singleton.mp hx']
        exact hk.keep kp
end
end Nk
namespace Dt
open PySem PySem.Spec PyProof.Rows PyProof.V L2 StX
/-! ### name = {k: v for ..} on one line, the keys tuples, the name a local -/
section
variable {X : Cx}
theorem dcT_core {use : Option (Value → Sem Unit)} {Qf : Value → Shared → Prop} {Q : VK} {pins : List (Addr × Obj)} {s0 : Shared} {σ : L2.St} {H0 : Hp} {pos2 : Pos} {kx vx tg iter : Expr} {ifs : List Expr} {scope : Scope} {own : List (Str × Nat)} {pos : Pos} {wi : TI} {g : TG} {tt : TT} {tk tv : TE} (small : X.A.units < cLine) (calm : X.calm = true) (nodup : X.N.Nodup) (hi : PI X tg iter wi) (ok : BlkOk X.N X.env.scope scope own)
    (hg : ∀ (s : Shared) (H : Hp) (C : Addr) (cl : List (Str × Addr)) (fp : List Addr), PG (X.blk s H scope (compEnvC scope cl C X.env) fp) tg g) (ht : ∀ (s : Shared) (H : Hp) (C : Addr) (cl : List (Str × Addr)) (fp : List Addr), PTs (X.blk s H scope (compEnvC scope cl C X.env) fp) ifs tt)
    (hk : ∀ (s : Shared) (H : Hp) (C : Addr) (cl : List (Str × Addr)) (fp : List Addr), PE (X.blk s H scope (compEnvC scope cl C X.env) fp) kx tk) (he : ∀ (s : Shared) (H : Hp) (C : Addr) (cl : List (Str × Addr)) (fp : List Addr), PE (X.blk s H scope (compEnvC scope cl C X.env) fp) vx tv)
    (unfolded : ∀ x, foldedSetIterable iter X.env x = pure x ) (I0 : Inv X pins σ H0 s0) (wish : tDcT wi g tt tk tv (own.map (·.2)) σ H0 Q)
    (fin : ∀ D C s' m H', Inv X pins σ H' s' → Q (.ref D) H' → s'.heap.Ns C m → FpOk X pins H' C → compPost (model X.prog X.w) X.A X.xe use Qf (.ref D) C (.ok .next) s') :
    wpAny (model X.prog X.w) X.A (comprehension (.DictComp kx vx [⟨tg, iter, ifs, 0⟩] scope pos) scope X.env pos2 newDict false (eval iter X.env) use) Qf X.xe s0 := by
  have bound : ∀ y ∈ scope.names, y.2 = .free → ∃ c, X.env.cells.lookup y.1 = some c := fun y hy e => (ok.free y hy e).elim (fun k => I0.ok.has _ (.inl k)) fun k => I0.ok.has _ (.inr k)
  refine wpAny_comprehension_free (use := use) rfl unfolded (closure_ok bound) ok.kind (fun y hy e => by rw [ok.uniq y hy, e]) (thn (hi.run pins s0 σ H0 _ I0 wish) fun xv sA walked => thn walked fun itv sB arrived => ?_)
  obtain ⟨it, fp, tn, J, HB, rfl, IB, T, stB, fpB, made⟩ := arrived
  refine wpAny_newObj_type (newEnv_comp ?_)
  -- the new dict
  obtain ⟨D, hD⟩ : ∃ D, sB.heap.objs.size = D := ⟨_, rfl⟩
  have free : HB D = none := IB.hok.fresh (Nat.le_of_eq hD)
  obtain ⟨W, ⟨m0, w0⟩, turn⟩ := made D free
  let sC : Shared := { sB with heap := sB.heap.push { cls := .type "dict", data := .dict #[] } }
  have over : ∀ b u, sB.heap.get? b = some u → sC.heap.get? b = some u := fun b u e => Heap.get?_push_of_some _ e
  have IC : Inv X pins σ (upd HB D (.dT [])) sC := IB.laid (t' := sB.toks) over (Nat.le_of_eq hD) (by rw [← hD]; exact dt_empty sB.heap IB.big)
  have fpC : ∀ b ∈ fp, FpOk X pins (upd HB D (.dT [])) b ∧ b < sC.heap.objs.size := fun b hb => by
    obtain ⟨u, e, _⟩ := T.obj _ _ stB b hb
    have lt := Heap.lt_size e
    refine ⟨⟨?_, (fpB b hb).2⟩, by show b < (sB.heap.push _).objs.size; rw [Heap.size_push]; exact Nat.lt_succ_of_lt lt⟩
    rw [upd_ne (by rw [← hD]; exact Nat.ne_of_lt lt)]
    exact (fpB b hb).1
  -- the block of names
  have ID := block_start IC ok nodup fpC
  let cells := cellsFrom (sC.heap.objs.size + 1) scope.names (cloFrom X.env.cells scope.names [])
  have pg := hg sC (upd HB D (.dT [])) sC.heap.objs.size cells fp
  have pt := ht sC (upd HB D (.dT [])) sC.heap.objs.size cells fp
  have pk := hk sC (upd HB D (.dT [])) sC.heap.objs.size cells fp
  have pv := he sC (upd HB D (.dT [])) sC.heap.objs.size cells fp
  let env2 := compEnvC scope cells sC.heap.objs.size X.env
  let X2 := X.blk sC (upd HB D (.dT [])) scope env2 fp
  let sD : Shared := { sC with heap := pushCells (sC.heap.push { cls := .type "dict", data := .dict #[] }) scope.names }
  have stD : tn 0 sD.heap := T.keep _ _ _ (T.keep _ _ _ stB fun b _ u e => over b u e) fun b _ u e => pushCells_keeps _ _ _ _ (Heap.get?_push_of_some _ e)
  have stays : ∀ {σ' : L2.St} {H' : Hp} {s' : Shared}, Inv X2 [] σ' H' s' → (∀ b ∈ fp, H' b = none) → ∀ b ∈ fp, FpOk X2 [] H' b := fun {σ' H' s'} I' none' b hb =>
    ⟨none' b hb, (I'.ok.exf b hb).1, I'.ok.exfs b hb, .inl hb, fun x c e => (I'.ok.exf b hb).2 x c e, fun p hp => absurd (show p ∈ ([] : List (Addr × Obj)) ++ [] from hp) (by simp)⟩
  have loop : codeAny (model X.prog X.w) X.A (.compLoop (.DictComp kx vx [⟨tg, iter, ifs, 0⟩] scope pos) 0 (.ref it) (.ref D) env2) (compPost (model X.prog X.w) X.A X.xe use Qf (.ref D) sC.heap.objs.size) sD := by
    refine compLoop_anyD (fun m s' => ∃ i H', Inv X2 [] (wipe σ (own.map (·.2))) H' s' ∧ tn i s'.heap ∧ (∀ b ∈ fp, H' b = none) ∧ W i m H') ?_ m0 ⟨0, _, ID, stD, fun b hb => (fpC b hb).1.1, w0⟩
    rintro m s1 ⟨i, H1, I1, st1, none1, w1⟩
    rcases turn i m H1 w1 with ⟨stop, last⟩ | ⟨go, Nx, less, step⟩
    · refine thnF (T.done X2 rfl rfl rfl calm i [] s1 _ H1 (fun _ _ => False) I1 (stays I1 none1) st1 stop) fun r s2 ⟨hr, I2⟩ => ?_
      subst hr
      have back : Inv X pins σ H1 s2 := IC.call' (ch := fp) I2.os I2.base I2.hok I2.bare fun b hb => ⟨(fpC b hb).1.2.2.2.1, (fpC b hb).1.2.1, (fpC b hb).1.2.2.2.2.1, (fpC b hb).1.2.2.2.2.2⟩
      have freeC : H1 sC.heap.objs.size = none := I2.free
      obtain ⟨names, held, _⟩ := I2.loc
      exact fin D sC.heap.objs.size s2 names H1 back last held (IC.fpOk (Nat.le_refl _) freeC)
    · refine thnF (T.item X2 rfl rfl rfl calm i [] s1 _ H1 (fun _ _ => False) I1 (stays I1 none1) st1 go) fun r s2 ⟨u, hr, taken⟩ => ?_
      subst hr
      refine thnF taken fun _ s3 ⟨x, H3, I3, r3, y3, st3, none3⟩ => ?_
      refine thnF (pg.run _ s3 _ H3 x u _ (I3.pinned (stays I3 none3) (T.obj _ _ st3)) r3 (step x H3 y3)) fun _ s4 ⟨σ4, H4, I4, wiped, q4⟩ => ?_
      refine thnF (pt.run _ s4 σ4 H4 _ I4 q4) fun b s5 ⟨H5, I5, q5⟩ => ?_
      have turned : ∀ {s' : Shared} {H' : Hp}, Inv X2 ([] ++ pinsAt fp s3.heap) σ4 H' s' → Nx H' → ∃ m', m' < m ∧ ∃ i H', Inv X2 [] (wipe σ (own.map (·.2))) H' s' ∧ tn i s'.heap ∧ (∀ b ∈ fp, H' b = none) ∧ W i m' H' := fun {s' H'} I' nx => by
        obtain ⟨m', lt, w'⟩ := less H' nx
        have pin : ∀ b ∈ fp, ∀ u, s3.heap.get? b = some u → s'.heap.get? b = some u ∧ H' b = none := fun b hb u e =>
          have z := I'.pin (b, u) (List.mem_append_right _ (List.mem_append_right _ (mem_pinsAt hb e)))
          ⟨z.1, z.2.1⟩
        have same : (wipe σ (own.map (·.2))).length = σ4.length := by rw [← wiped, wipe_length]
        refine ⟨m', lt, i + 1, H', (I'.unpinned (pins := [])).weak same (fun j v e => ?_), T.keep _ _ _ st3 fun b hb u e => (pin b hb u e).1, fun b hb => ?_, w'⟩
        · rw [← wiped] at e; exact (wipe_some e).1
        · obtain ⟨u, e, _⟩ := T.obj _ _ st3 b hb
          exact (pin b hb u e).2
      cases b with
      | false => exact turned I5 q5
      | true =>
        refine thnF (pk.run _ s5 σ4 H5 _ I5 q5) fun kv s6 ⟨yk, H6, I6, r6, q6⟩ => ?_
        refine thnF (pv.run _ s6 σ4 H6 _ I6 q6) fun vv s7 ⟨yv, H7, I7, r7, kvs, k, q, ek, tup, at7, few, nx⟩ => ?_
        subst ek
        cases (show kv = Value.ref q from r6)
        exact dictSetT (X := X2) small I7 at7 few tup r7 fun s8 I8 => turned I8 nx
  subst hD
  show codeAny (model X.prog X.w) X.A (.compStart (.DictComp kx vx [⟨tg, iter, ifs, 0⟩] scope pos) 0 (.ref it) (.ref sB.heap.objs.size) env2) (compPost (model X.prog X.w) X.A X.xe use Qf (.ref sB.heap.objs.size) sC.heap.objs.size) sD
  exact codeAny_compStart_dict loop (T.self X.A 0 _ _ _ stD loop)
theorem ps_setDcT {i : Nat} {y : Str} {py : Pos} {kx vx tg iter : Expr} {ifs : List Expr} {scope : Scope} {own : List (Str × Nat)} {pos spos : Pos} {wi : TI} {g : TG} {tt : TT} {tk tv : TE} (small : X.A.units < cLine) (calm : X.calm = true) (nodup : X.N.Nodup) (at1 : X.N[i]? = some y) (yloc : X.env.scope.names.lookup y = some .local)
    (sw : swapsWith (.DictComp kx vx [⟨tg, iter, ifs, 0⟩] scope pos) (some (.Name y py)) spos.line X.env = pure true) (hi : PI X tg iter wi) (ok : BlkOk X.N X.env.scope scope own)
    (hg : ∀ (s : Shared) (H : Hp) (C : Addr) (cl : List (Str × Addr)) (fp : List Addr), PG (X.blk s H scope (compEnvC scope cl C X.env) fp) tg g) (ht : ∀ (s : Shared) (H : Hp) (C : Addr) (cl : List (Str × Addr)) (fp : List Addr), PTs (X.blk s H scope (compEnvC scope cl C X.env) fp) ifs tt)
    (hk : ∀ (s : Shared) (H : Hp) (C : Addr) (cl : List (Str × Addr)) (fp : List Addr), PE (X.blk s H scope (compEnvC scope cl C X.env) fp) kx tk) (he : ∀ (s : Shared) (H : Hp) (C : Addr) (cl : List (Str × Addr)) (fp : List Addr), PE (X.blk s H scope (compEnvC scope cl C X.env) fp) vx tv)
    (unfolded : ∀ x, foldedSetIterable iter X.env x = pure x := by intro _; rfl) : PS X (.Assign [.Name y py] (.DictComp kx vx [⟨tg, iter, ifs, 0⟩] scope pos) spos) (tAsg (tDcT wi g tt tk tv (own.map (·.2))) (gName i)) := by
  refine ⟨fun pins s0 σ H0 D I0 wish => ?_⟩
  rw [exec_Assign_Name_used _ _ _ _ sw]
  refine wpAny_bind (wpAny_standAt (wpAny_bind ?_))
  show wpAny _ X.A (do let _ ← comprehension (.DictComp kx vx [⟨tg, iter, ifs, 0⟩] scope pos) scope X.env (firstIterPos [⟨tg, iter, ifs, 0⟩] pos) newDict false (eval iter X.env) (some (assign (.Name y py) X.env))) _ _ s0
  have wish : tDcT wi g tt tk tv (own.map (·.2)) σ H0 (fun x H1 => gName i x σ H1 D.nx) := wish
  refine wpAny_bind (thn (dcT_core (Qf := fun _ s' => SP X pins D .next s') small calm nodup hi ok hg ht hk he unfolded I0 wish fun L C s' names H' I' last held free => ?_) fun _ s' done => wpAny_pure (wpAny_pure done))
  show wpAny _ _ (assign (.Name y py) X.env (.ref L)) _ _ _
  obtain ⟨f0, f1, _, f3, f4, f5⟩ := free
  refine wpAny_assign_Name (store_ok2 (v := V.ref L) I' nodup at1 (.inl yloc) rfl (fun s2 I2 moved => ?_) (.inr yloc))
  obtain ⟨a, but, where_⟩ := moved
  have apart : C ≠ a := where_.elim (fun z => by rw [z]; exact f1) fun z e => f4 y a z e.symm
  exact ⟨names, held.sameBut but apart, fun h3 but3 => ⟨_, H', I2.turned (t' := s2.toks) (fun b u hb e => (but3.2 b hb).trans e) f0 f1 f3 f4 f5, last⟩⟩
theorem sw_dict {kx vx : Expr} {gs : List Comprehension} {scope : Scope} {pos py : Pos} {y : Str} {l : Nat} {env : Env} (kind : env.scope.kind = .function) (yloc : env.scope.names.lookup y = some .local) (line : (py.line == pos.line) = true)
    (apart : (scope.names.any fun (n, k) => n == y && (k == .local || k == .cell)) = false) : swapsWith (.DictComp kx vx gs scope pos) (some (.Name y py)) l env = pure true := by
  have k1 : env.kindOf y = some .local := yloc
  have k2 : env.blockKind = .function := by unfold Env.blockKind; rw [kind]; rfl
  unfold swapsWith
  simp only [k1, k2, apart, Expr.pos, line]
  rfl
end
/-! ### the reading over a range, D told with what it holds -/
section
variable {tas : TA} {G : TG} {tt : TT} {tk tv : TE} {vs : List Nat} {σ : L2.St} {H : Hp} {Q : VK}
def DcR1 (G : TG) (tt : TT) (tk tv : TE) (vs : List Nat) (σ : L2.St) (Q : VK) (us : List V) (H1 : Hp) : Prop := ∃ j : Int, us = [.int j] ∧ -(2 ^ 62) ≤ j ∧ j < 2 ^ 62 ∧ ∀ D, H1 D = none → ∃ W : Nat → Nat → Hp → Prop, (∃ m, W 0 m (upd H1 D (.dT []))) ∧ ∀ i m H, W i m H →
  ((Itr 0 j.toNat).stop i H ∧ Q (.ref D) H) ∨ ((Itr 0 j.toNat).go i H ∧ ∃ Nx : Hp → Prop, (∀ H', Nx H' → ∃ m', m' < m ∧ W (i + 1) m' H') ∧ ∀ x H', (Itr 0 j.toNat).yld i H x H' → G x (wipe σ vs) H' fun σ2 H2 => wipe σ2 vs = wipe σ vs ∧ tt σ2 H2 fun b H3 =>
    if b = true then tk σ2 H3 fun y H4 => tv σ2 H4 fun z H5 => ∃ (kvs : Tb) (k : List Key) (q : Addr), y = .ref q ∧ H5 q = some (.tup (k.map kV)) ∧ H5 D = some (.dT kvs) ∧ kvs.length < sizeLine ∧ Nx (upd H5 D (.dT (putK kvs k z))) else Nx H3)
theorem r_dcR1 (k : tas σ H fun us H1 => DcR1 G tt tk tv vs σ Q us H1) : tDcT (iRng1 tas) G tt tk tv vs σ H Q := k
theorem dcR1_go {j : Int} (Pv : Addr → Nat → Hp → Prop) (hb : -(2 ^ 62) ≤ j ∧ j < 2 ^ 62) (h0 : ∀ D, H D = none → Pv D 0 (upd H D (.dT [])))
    (hs : ∀ D (i : Nat) H', H D = none → (i : Int) < j → Pv D i H' → G (.int i) (wipe σ vs) H' fun σ2 H2 => wipe σ2 vs = wipe σ vs ∧ tt σ2 H2 fun b H3 =>
      if b = true then tk σ2 H3 fun y H4 => tv σ2 H4 fun z H5 => ∃ (kvs : Tb) (k : List Key) (q : Addr), y = .ref q ∧ H5 q = some (.tup (k.map kV)) ∧ H5 D = some (.dT kvs) ∧ kvs.length < sizeLine ∧ Pv D (i + 1) (upd H5 D (.dT (putK kvs k z))) else Pv D (i + 1) H3)
    (hd : ∀ D H', H D = none → Pv D j.toNat H' → Q (.ref D) H') : DcR1 G tt tk tv vs σ Q [.int j] H := by
  refine ⟨j, rfl, hb.1, hb.2, fun D hD => ⟨fun i m H' => m = j.toNat - i ∧ i ≤ j.toNat ∧ Pv D i H', ⟨_, rfl, Nat.zero_le _, h0 D hD⟩, ?_⟩⟩
  rintro i m H' ⟨rfl, le, pv⟩
  rcases Nat.lt_or_ge i j.toNat with lt | ge
  · refine .inr ⟨lt, Pv D (i + 1), fun H2 p2 => ⟨_, Nat.sub_lt_sub_left lt (Nat.lt_succ_self i), rfl, lt, p2⟩, ?_⟩
    rintro x H2 ⟨rfl, rfl⟩
    rw [Int.zero_add]
    exact hs D i _ hD (by omega) pv
  · obtain rfl : i = j.toNat := by omega
    exact .inl ⟨Nat.le_refl _, hd D H' hD pv⟩
end
end Dt
namespace Dk
open PySem PySem.Spec PyProof.Rows PyProof.V L2 StX
/-! ### {k: v}, the key a text or an int -/
def tDisp1K (tk tv : TE) : TE := fun σ H Q => ∀ p, H p = none → tk σ (upd H p (.dK [])) fun y H1 => tv σ H1 fun z H2 => ∃ k : Key, y = kV k ∧ H2 p = some (.dK []) ∧ Q (.ref p) (upd H2 p (.dK [(k, z)]))
theorem pe_disp1K {X : Cx} {pos : Pos} {ke ve : Expr} {tk tv : TE} (hu : X.A.units + 64 < cLine) (hk : PE X ke tk) (hv : PE X ve tv) : PE X (.Dict [some ke] [ve] pos) (tDisp1K tk tv) := by
  refine ⟨fun pins s σ H Q I q => ?_⟩
  have hn := I.hok.fresh (Nat.le_refl s.heap.objs.size)
  have I1 := I.laid (a := s.heap.objs.size) (o := .dK []) (h' := s.heap.push { cls := .type "dict", data := .dict #[] }) (t' := s.toks) (fun _ _ q => Heap.get?_push_of_some _ q) (Nat.le_refl _) (dk_empty s.heap I.big)
  have run := (pps_cons (pos := pos) hk hv pps_nil).run pins _ σ _ (fun ps H2 => ∃ y z, ps = [(y, z)] ∧ ∃ k : Key, y = kV k ∧ H2 s.heap.objs.size = some (.dK []) ∧ Q (.ref s.heap.objs.size) (upd H2 s.heap.objs.size (.dK [(k, z)]))) I1
    (by
      have q0 := q _ hn
      show tk σ (upd H s.heap.objs.size (.dK [])) fun x H1 => tv σ H1 fun y H2 => ∃ y' z, [(x, y)] = [(y', z)] ∧ _
      have e : (fun (x : V) (H1 : Hp) => tv σ H1 fun y H2 => ∃ k : Key, x = kV k ∧ H2 s.heap.objs.size = some (.dK []) ∧ Q (.ref s.heap.objs.size) (upd H2 s.heap.objs.size (.dK [(k, y)]))) = fun (x : V) (H1 : Hp) => tv σ H1 fun y H2 => ∃ y' z, [(x, y)] = [(y', z)] ∧ ∃ k : Key, y' = kV k ∧ H2 s.heap.objs.size = some (.dK []) ∧ Q (.ref s.heap.objs.size) (upd H2 s.heap.objs.size (.dK [(k, z)])) := by
        funext x H1
        congr 1
        funext y H2
        apply propext
        constructor
        · intro h; exact ⟨x, y, rfl, h⟩
        · rintro ⟨y', z, e, h⟩
          cases e; exact h
      rw [← e]; exact q0)
  rw [arm_eval_Dict, zip_pairTrees [some ke] [ve] X.env pos rfl rfl, dictDisplay_pairs (pairTrees [some ke] [ve] X.env pos) (by simp [pairTrees]) (by simp [pairTrees])]
  refine wpAny_bind (wpAny_standAt (wpAny_bind (wpAny_subDict (knd := mixKind X.prog X.w) (Q := fun d s' => wpAny (model X.prog X.w) X.A (pure (Value.ref d)) (EP X pins σ Q) X.xe s') (by simp [pairTrees]) (thn run fun vs s1 got => ?_))))
  obtain ⟨ps, H2, I2, rel, y, z, eps, k, ey, at2, fin⟩ := got
  subst eps
  subst ey
  cases rel with
  | cons r rest =>
    cases rest
    rename_i b
    obtain ⟨b1, b2⟩ := b
    obtain ⟨r1, r2⟩ := r
    obtain ⟨small, apart, us, rel, held⟩ := dk_of I2.hok at2
    cases us with
    | cons u us => exact (nomatch rel.length)
    | nil =>
    refine ⟨[(k, b2)], ⟨kV_is r1, rfl, trivial⟩, held, fun h' held' but => wpAny_pure ⟨.ref s.heap.objs.size, _, ?_, rfl, fin⟩⟩
    have stands : ∃ q, h'.get? s.heap.objs.size = some q := let ⟨q, _, _, hq, _⟩ := held'; ⟨q, hq⟩
    exact d_write I2 (by rw [at2]; exact True.intro) but stands (dk_new (by show 1 ≤ sizeLine; decide) apart (rel.put k r2) held')
theorem ps_setDcK {X : Cx} {i : Nat} {y : Str} {py : Pos} {kx vx tg iter : Expr} {ifs : List Expr} {scope : Scope} {own : List (Str × Nat)} {pos spos : Pos} {wi : TI} {g : TG} {tt : TT} {tk tv : TE} (calm : X.calm = true) (nodup : X.N.Nodup) (at1 : X.N[i]? = some y) (yloc : X.env.scope.names.lookup y = some .local)
    (sw : swapsWith (.DictComp kx vx [⟨tg, iter, ifs, 0⟩] scope pos) (some (.Name y py)) spos.line X.env = pure true) (hi : PI X tg iter wi) (ok : BlkOk X.N X.env.scope scope own)
    (hg : ∀ (s : Shared) (H : Hp) (C : Addr) (cl : List (Str × Addr)) (fp : List Addr), PG (X.blk s H scope (compEnvC scope cl C X.env) fp) tg g) (ht : ∀ (s : Shared) (H : Hp) (C : Addr) (cl : List (Str × Addr)) (fp : List Addr), PTs (X.blk s H scope (compEnvC scope cl C X.env) fp) ifs tt)
    (hk : ∀ (s : Shared) (H : Hp) (C : Addr) (cl : List (Str × Addr)) (fp : List Addr), PE (X.blk s H scope (compEnvC scope cl C X.env) fp) kx tk) (he : ∀ (s : Shared) (H : Hp) (C : Addr) (cl : List (Str × Addr)) (fp : List Addr), PE (X.blk s H scope (compEnvC scope cl C X.env) fp) vx tv)
    (unfolded : ∀ x, foldedSetIterable iter X.env x = pure x := by intro _; rfl) : PS X (.Assign [.Name y py] (.DictComp kx vx [⟨tg, iter, ifs, 0⟩] scope pos) spos) (tAsg (tDc wi g tt tk tv (own.map (·.2))) (gName i)) := by
  refine ⟨fun pins s0 σ H0 D I0 wish => ?_⟩
  rw [exec_Assign_Name_used _ _ _ _ sw]
  refine wpAny_bind (wpAny_standAt (wpAny_bind ?_))
  show wpAny _ X.A (do let _ ← comprehension (.DictComp kx vx [⟨tg, iter, ifs, 0⟩] scope pos) scope X.env (firstIterPos [⟨tg, iter, ifs, 0⟩] pos) newDict false (eval iter X.env) (some (assign (.Name y py) X.env))) _ _ s0
  have wish : tDc wi g tt tk tv (own.map (·.2)) σ H0 (fun x H1 => gName i x σ H1 D.nx) := wish
  refine wpAny_bind (thn (dc_core (Qf := fun _ s' => SP X pins D .next s') calm nodup I0 hi ok hg ht hk he unfolded wish fun L C s' names H' I' last held free => ?_) fun _ s' done => wpAny_pure (wpAny_pure done))
  show wpAny _ _ (assign (.Name y py) X.env (.ref L)) _ _ _
  obtain ⟨f0, f1, _, f3, f4, f5⟩ := free
  refine wpAny_assign_Name (store_ok2 (v := V.ref L) I' nodup at1 (.inl yloc) rfl (fun s2 I2 moved => ?_) (.inr yloc))
  obtain ⟨a, but, where_⟩ := moved
  have apart : C ≠ a := where_.elim (fun z => by rw [z]; exact f1) fun z e => f4 y a z e.symm
  exact ⟨names, held.sameBut but apart, fun h3 but3 => ⟨_, H', I2.turned (t' := s2.toks) (fun b u hb e => (but3.2 b hb).trans e) f0 f1 f3 f4 f5, last⟩⟩
end Dk
namespace Tz
/-! ### for .. in zip(t, u), t and u tuples -/
section
variable {K : PySem.W.Frag} {σ : L2.St} {H : Hp} {G : TG} {tas : TA} {ts : TS} {D : Ends}
def ForZA (K : PySem.W.Frag) (G : TG) (ts : TS) (D : Ends) (σ : L2.St) (us : List V) (H : Hp) : Prop := ∃ a b xs ys, us = [.ref a, .ref b] ∧ ((SqL K H a xs ∧ SqL K H b ys ∧ ForW (Itz K a b) G ts D σ H) ∨ (SqT K H a xs ∧ SqT K H b ys ∧ ForW (RZ.ItzT K a b) G ts D σ H))
theorem r_forZA (k : tas σ H fun us H1 => ForZA K G ts D σ us H1) : tFor (RZ.iZipA K tas) G ts D σ H := k
theorem forZT_go {a b : Addr} {xs ys : List V} (hl : xs.length = ys.length) (Pv : Nat → L2.St → Hp → Prop) (hx : SqT K H a xs) (hy : SqT K H b ys) (h0 : Pv 0 σ H) (hq : ∀ i σ' H', Pv i σ' H' → SqT K H' a xs ∧ SqT K H' b ys)
    (hs : ∀ (i : Nat) (x y : V) (T : Addr) σ' H', xs[i]? = some x → ys[i]? = some y → Pv i σ' H' → H' T = none → G (.ref T) σ' (upd H' T (.tup [x, y])) fun σ2 H2 => ts { D with nx := Pv (i + 1), ct := Pv (i + 1), bk := D.nx } σ2 H2)
    (hd : ∀ σ' H', Pv xs.length σ' H' → D.nx σ' H') : ForZA K G ts D σ [.ref a, .ref b] H := ⟨a, b, xs, ys, rfl, .inr ⟨hx, hy, RZ.for_zipT hl Pv h0 hq hs hd⟩⟩
end
/-! ### enumerate(t), t a tuple -/
theorem meets_new (t : Addr) (items : Array Value) (n : Nat) (dct : Option Addr) (sl : Array (Option Value)) :
    Meets (Builtin.«enumerate.__new__» ⟨[.type "enumerate", .ref t], []⟩) (fun _ R s => s.heap.get? t = some { cls := .type "tuple", dict := dct, data := .seq items n, slots := sl } ∧
      R (.ok (.ret (.ref (s.heap.push { cls := .type "tuple_iterator", data := .fields #[.ref t, .int 0 0] }).objs.size)))
        { s with heap := (s.heap.push { cls := .type "tuple_iterator", data := .fields #[.ref t, .int 0 0] }).push { cls := .type "enumerate", data := .fields #[.none, .bool false, .ref s.heap.objs.size, rawInt 0, .none, .none] } }) :=
  .of_wp fun prog w A R s h => by
    obtain ⟨hp, g, d, tk, os⟩ := s; obtain ⟨ht, h⟩ := h
    have hsub := sub_enumerate
    have isT : Heap.IsTuple (Shared.heap ⟨hp, g, d, tk, os⟩) t items := ⟨_, ht, rfl, n, rfl⟩
    wp_walk using wpAny_loadPart' ht
    refine wpAny_stack_any fun st => wpAny_pure ?_
    split
    · rename_i c _ _ _ _ _
      cases (c == Value.type "enumerate")
      · wp_walk using wpAny_loadPart' ht, wpAny_pyIter_tuple isT
        exact ⟨_, rfl, h⟩
      · wp_walk using wpAny_loadPart' ht, wpAny_pyIter_tuple isT
        exact ⟨_, rfl, h⟩
    · wp_walk using wpAny_loadPart' ht, wpAny_pyIter_tuple isT
      exact ⟨_, rfl, h⟩
theorem call_enumT {P : Program} {w : World} {A : Around} {E : Value → Shared → Prop} {s : Shared} {t : Addr} {items : Array Value} {Q : Value → Shared → Prop} (hT : s.heap.IsTuple t items)
    (k : ∀ h', IsEnum h' (s.heap.objs.size + 1) s.heap.objs.size 0 .none → h'.IsTupleIter s.heap.objs.size t 0 → (∀ b o, s.heap.get? b = some o → h'.get? b = some o) → Q (.ref (s.heap.objs.size + 1)) { s with heap := h' }) :
    wpAny (model P w) A (call (.type "enumerate") [.ref t]) Q E s := by
  obtain ⟨⟨c, dct, dt, sl⟩, ht, hc, n, hd⟩ := hT
  obtain rfl : c = .type "tuple" := hc
  obtain rfl : dt = .seq items n := hd
  refine callType_new F.called_enumerate (by decide) (F.typeCall_enumerate_1 _) (F.newCall_enumerate_1 _) (fun obj => F.args_object_init_2 obj _) F.entry_enumerate_new (meets_new t items n dct sl) ⟨ht, ?_⟩
  have z : (s.heap.push { cls := .type "tuple_iterator", data := .fields #[.ref t, .int 0 0] }).objs.size = s.heap.objs.size + 1 := Heap.size_push ..
  show _ ∧ _
  rw [z]
  have e : IsEnum ((s.heap.push { cls := .type "tuple_iterator", data := .fields #[.ref t, .int 0 0] }).push { cls := .type "enumerate", data := .fields #[.none, .bool false, .ref s.heap.objs.size, rawInt 0, .none, .none] }) (s.heap.objs.size + 1) s.heap.objs.size 0 .none := by
    have q := Heap.get?_push_size (s.heap.push { cls := .type "tuple_iterator", data := .fields #[.ref t, .int 0 0] }) (o := { cls := .type "enumerate", data := .fields #[.none, .bool false, .ref s.heap.objs.size, rawInt 0, .none, .none] }) rfl
    rw [z] at q; exact q
  exact ⟨⟨_, e, rfl⟩, k _ e ⟨_, Heap.get?_push_of_some _ (Heap.get?_push_size _ rfl), rfl, rfl⟩ fun b o x => Heap.get?_push_of_some _ (Heap.get?_push_of_some _ x)⟩
/-- the tuple at a, numbered -/
def Itn (K : PySem.W.Frag) (a : Addr) : It :=
  ⟨fun i H => ∃ (xs : List V) (x : V), SqT K H a xs ∧ xs[i]? = some x, fun i H v H' => ∃ T x, v = .ref T ∧ H T = none ∧ H' = upd H T (.tup [.int (i : Nat), x]) ∧ ∀ xs, SqT K H a xs → xs[i]? = some x, fun i H => ∃ xs : List V, SqT K H a xs ∧ xs.length ≤ i⟩
theorem turn_enumT {P : Program} {w : World} {K : PySem.W.Frag} {elts : List Expr} {kk : Nat} {tpos : Pos} (a e it : Addr) :
    Turn P w K (.Tuple elts kk tpos) (Itn K a) [e, it] e (fun i h => (∃ old, IsEnum h e it ((i : Nat) : Int) old) ∧ h.IsTupleIter it a i ∧ e ≠ it ∧ e ≠ a ∧ a ≠ it) where
  mem := by simp
  obj := fun i h st b hb => by
    obtain ⟨⟨old, he⟩, ⟨o, ho, hc, hd⟩, _⟩ := st
    rcases (by simpa using hb : b = e ∨ b = it) with z | z
    · rw [z]; exact ⟨_, he, fun v q => nomatch q⟩
    · rw [z]; exact ⟨o, ho, fun v q => by rw [hd] at q; cases q⟩
  keep := fun i h h' st k => let ⟨⟨old, he⟩, hi, hne⟩ := st; ⟨⟨old, k e (by simp) _ he⟩, hi.at fun o q => k it (by simp) o q, hne⟩
  item := by
    intro X hP hw hK hc i pins s σ H E I hf st hg
    subst hP hw hK
    obtain ⟨⟨old, he⟩, hit, hne, hea, hai⟩ := st
    obtain ⟨xs, x, hq, hx⟩ := hg
    obtain ⟨its, rv, p, hz⟩ := I.tuple hq
    obtain ⟨u, hu, ru⟩ := rv.get hx
    have hel : e < s.heap.objs.size := Heap.lt_size he
    have hil : it < s.heap.objs.size := by obtain ⟨_, q, _⟩ := hit; exact Heap.lt_size q
    have isT : s.heap.IsTuple a its.toArray := p
    have lt : i < its.toArray.size := by rw [List.size_toArray]; exact (List.getElem?_eq_some_iff.mp hu).1
    have D := Draws.tuple (prog := X.prog) (w := X.w) (A := X.A.in1) (I.ok.hd hc) it a hai its.toArray
    refine wpAny_pyNext_enum_itemD D he ⟨hit, isT⟩ lt hne (by simp [hne, hea]) fun y h' tk hy ho st' hT hsz hk => ?_
    have ey : y = u := by
      have q : its.toArray[i]? = some y := hy
      rw [List.getElem?_toArray, hu] at q
      exact (Option.some.inj q).symm
    subst ey
    refine ⟨_, rfl, wpAny_letOwnedTupleGo_enum (s := { s with heap := h', toks := tk + 1 }) ho fun h'' he' sb => ?_⟩
    have hT2 : h''.get? s.heap.objs.size = some { cls := .type "tuple", data := .seq #[.int i tk, y] } := (sb.2 _ (Nat.ne_of_gt hel)).trans hT
    have new : ObjOk X.prog X.w (upd H s.heap.objs.size (.tup [.int (i : Nat), x])) h'' s.heap.objs.size (.tup [.int (i : Nat), x]) :=
      ⟨by show 2 ≤ sizeLine; decide, [.int i tk, y], .cons ⟨_, rfl⟩ (.cons ru .nil), ⟨_, hT2, rfl, _, rfl⟩⟩
    have I1 : Inv X pins σ (upd H s.heap.objs.size (.tup [.int (i : Nat), x])) { s with heap := h'', toks := tk + 1 } :=
      I.turnedNew (ch := [e, it]) (fun b ob hb q => (sb.2 b (fun z => hb (by simp [z]))).trans (hk b ob (fun z => hb (by simp [z])) (fun z => hb (by simp [z])) q)) hf (Nat.le_refl _) new
    refine ⟨.ref s.heap.objs.size, _, I1, rfl, ⟨_, x, rfl, I.hok.fresh (Nat.le_refl _), rfl, fun ys hy => by rw [I.tuple_inj hy hq]; exact hx⟩, ⟨⟨y, ?_⟩, st'.1.at fun o q => (sb.2 it (Ne.symm hne)).trans q, hne, hea, hai⟩, fun b hb => ?_⟩
    · rw [show ((i + 1 : Nat) : Int) = (i : Int) + 1 by omega]; exact he'
    · have hb' : b < s.heap.objs.size := by
        rcases (by simpa using hb : b = e ∨ b = it) with z | z
        · rw [z]; exact hel
        · rw [z]; exact hil
      rw [upd_ne (Nat.ne_of_lt hb')]
      exact (hf b hb).1
  done := by
    intro X hP hw hK hc i pins s σ H E I hf st hg
    subst hP hw hK
    obtain ⟨⟨old, he⟩, hit, hne, hea, hai⟩ := st
    obtain ⟨xs, hq, hx⟩ := hg
    obtain ⟨its, rv, p, hz⟩ := I.tuple hq
    obtain ⟨f0, f1, f2, f3, f4, f5⟩ := hf it (by simp)
    have isT : s.heap.IsTuple a its.toArray := p
    have past : its.toArray[i]? = none := by
      rw [List.getElem?_toArray, List.getElem?_eq_none]
      have := rv.length
      omega
    have D : Draws X.prog X.w X.A.in1 it [it, a] i (fun _ _ => True) (fun j h => j = i ∧ h.IsTupleIter it a i ∧ h.IsTuple a its.toArray) :=
      ⟨fun _ _ st => let ⟨o, ho, _⟩ := st.2.1; ⟨o, ho⟩, fun _ _ _ st hk => ⟨st.1, st.2.1.at fun o e => hk it (by simp) o e, st.2.2.at fun o e => hk a (by simp) o e⟩, fun j s Q E lt st _ => absurd lt (by rw [st.1]; exact Nat.lt_irrefl _),
        fun s Q E st hE => wpAny_nextOf_tuple_end (I.ok.hd hc) st.2.1 st.2.2 past hE⟩
    exact wpAny_pyNext_enum_endD D he ⟨rfl, hit, isT⟩ fun h' eb => ⟨rfl, I.turned (t' := s.toks) (fun b o hb q => eb b o hb q) f0 f1 f3 f4 f5⟩
  self := fun _ _ _ _ _ st h => wpAny_pyIter_enum st.1.choose_spec h
def iEnumT (K : PySem.W.Frag) (ta : TA) : TI := fun σ H R => ta σ H fun vs H1 => ∃ a xs, vs = [.ref a] ∧ SqT K H1 a xs ∧ R (Itn K a) H1
theorem pi_enumT {X : Cx} {e : Expr} {ta : TA} {p pos tpos : Pos} {elts : List Expr} {kk : Nat} (hg : Gl X "enumerate") (hm : X.mg "enumerate" = none) (ha : PA X [e] ta) (hs : starEach [e] X.env = [(false, eval e X.env)] := by rfl) :
    PI X (.Tuple elts kk tpos) (.Call (.Name "enumerate" p) [e] [] pos) (iEnumT X.K ta) := by
  refine ⟨fun pins s σ H R I h => ?_⟩
  refine Call_ (ld_blt I hg hm boot_enumerate (PyProof.Rows.callWith_type1 (thn (ha.run pos pins s σ H _ I h) fun us s1 ⟨vs, H1, I1, rv, a, xs, ex, hq, q⟩ => ?_) hs rfl))
  subst ex
  cases rv with
  | cons r rr =>
  cases rr
  cases r
  obtain ⟨its, rv, p', hz⟩ := I1.tuple hq
  have isT : s1.heap.IsTuple a its.toArray := p'
  have la : a < s1.heap.objs.size := let ⟨o, ho, _⟩ := isT; Heap.lt_size ho
  refine call_enumT isT fun h' he hit hk => wpAny_pyIter_enum he ?_
  have I2 : Inv X pins σ H1 { s1 with heap := h' } := I1.kept (t' := s1.toks) hk
  refine ⟨s1.heap.objs.size + 1, [s1.heap.objs.size + 1, s1.heap.objs.size], _, _, H1, rfl, I2, turn_enumT a (s1.heap.objs.size + 1) s1.heap.objs.size, ⟨⟨.none, he⟩, hit, Nat.succ_ne_self _, Nat.ne_of_gt (Nat.lt_succ_of_lt la), Nat.ne_of_lt la⟩, fun b hb => ?_, q⟩
  have hle : s1.heap.objs.size ≤ b := by
    rcases (by simpa using hb : b = s1.heap.objs.size + 1 ∨ b = s1.heap.objs.size) with z | z
    · rw [z]; exact Nat.le_add_right _ _
    · rw [z]; exact Nat.le_refl _
  exact I1.fpOk hle (I1.hok.fresh hle)
section
variable {K : PySem.W.Frag} {σ : L2.St} {H : Hp} {G : TG} {tas : TA} {ts : TS} {D : Ends}
def ForNT (K : PySem.W.Frag) (G : TG) (ts : TS) (D : Ends) (σ : L2.St) (us : List V) (H : Hp) : Prop := ∃ a xs, us = [.ref a] ∧ SqT K H a xs ∧ ForW (Itn K a) G ts D σ H
theorem r_forNT (k : tas σ H fun us H1 => ForNT K G ts D σ us H1) : tFor (iEnumT K tas) G ts D σ H := k
theorem forNT_go {a : Addr} {xs : List V} (Pv : Nat → L2.St → Hp → Prop) (hx : SqT K H a xs) (h0 : Pv 0 σ H) (hq : ∀ i σ' H', Pv i σ' H' → SqT K H' a xs)
    (hs : ∀ (i : Nat) (x : V) (T : Addr) σ' H', xs[i]? = some x → Pv i σ' H' → H' T = none → G (.ref T) σ' (upd H' T (.tup [.int (i : Nat), x])) fun σ2 H2 => ts { D with nx := Pv (i + 1), ct := Pv (i + 1), bk := D.nx } σ2 H2)
    (hd : ∀ σ' H', Pv xs.length σ' H' → D.nx σ' H') : ForNT K G ts D σ [.ref a] H := by
  refine ⟨a, xs, rfl, hx, fun i m σ H => m = xs.length - i ∧ i ≤ xs.length ∧ Pv i σ H, ⟨xs.length, by simp, Nat.zero_le _, h0⟩, ?_⟩
  rintro i m σ H ⟨rfl, hi, p⟩
  have q := hq i σ H p
  by_cases lt : i < xs.length
  · refine .inr ⟨⟨xs, xs[i], q, by simp [lt]⟩, Pv (i + 1), fun σ' H' p' => ⟨xs.length - (i + 1), by omega, rfl, lt, p'⟩, ?_⟩
    rintro v H' ⟨T, x, rfl, nT, rfl, ex⟩
    exact hs i x T σ H (ex xs q) p nT
  · have e : i = xs.length := by omega
    subst e
    exact .inl ⟨⟨xs, q, Nat.le_refl _⟩, hd σ H p⟩
end
end Tz
/-! for .. in zip(l, t), l a list and t a tuple of one length -/
namespace Zm
def ItM (K : PySem.W.Frag) (a b : Addr) : It where
  go := fun i H => ∃ (ls ts : List V) (v u : V), SqL K H a ls ∧ SqT K H b ts ∧ ls[i]? = some v ∧ ts[i]? = some u
  yld := fun i H v H' => ∃ T x y, v = .ref T ∧ H T = none ∧ H' = upd H T (.tup [x, y]) ∧ (∀ ls, SqL K H a ls → ls[i]? = some x) ∧ ∀ ts, SqT K H b ts → ts[i]? = some y
  stop := fun i H => ∃ ls ts : List V, SqL K H a ls ∧ SqT K H b ts ∧ i = ls.length ∧ i = ts.length
/-- the cells of such a zip -/
def Cells (N : Nat) : List Addr := [N + 4, N + 2, N + 3, N, N + 1]
theorem cells_old {N c : Nat} (h : c ∈ Cells N) : N ≤ c := by
  have : c = N + 4 ∨ c = N + 2 ∨ c = N + 3 ∨ c = N ∨ c = N + 1 := by simpa [Cells] using h
  omega
theorem cells_top {N c : Nat} (h : c ∈ Cells N) : c ≤ N + 4 := by
  have : c = N + 4 ∨ c = N + 2 ∨ c = N + 3 ∨ c = N ∨ c = N + 1 := by simpa [Cells] using h
  omega
def ZSt (N a b : Addr) (i : Nat) (h : Heap) : Prop :=
  IsZip h (N + 4) (N + 2) (N + 3) .none ∧ IsTupOf2 h (N + 2) (.ref N) (.ref (N + 1)) ∧ (∃ x y, IsTupOf2 h (N + 3) x y) ∧ h.IsListIter N a i ∧ h.IsTupleIter (N + 1) b i
theorem out2 {c x y : Nat} (h1 : c ≠ x) (h2 : c ≠ y) : c ∉ [x, y] := by simp [h1, h2]
theorem sep {N a b : Nat} (la : a < N) (lb : b < N) : ZipSep2 (N + 4) (N + 2) (N + 3) N (N + 1) [N, a] [N + 1, b] where
  TIz := Nat.ne_of_lt (by omega)
  TOz := Nat.ne_of_lt (by omega)
  TITO := Nat.ne_of_lt (by omega)
  TIi1 := Nat.ne_of_gt (by omega)
  mem1 := by simp
  zf1 := out2 (by omega) (by omega)
  Tf1 := out2 (by omega) (by omega)
  TIi2 := Nat.ne_of_gt (by omega)
  mem2 := by simp
  zf2 := out2 (by omega) (by omega)
  Tf2 := out2 (by omega) (by omega)
  sep1_2 := out2 (by omega) (by omega)
  sep2_1 := out2 (by omega) (by omega)
theorem turnM {P : Program} {w : World} {K : PySem.W.Frag} {elts : List Expr} {kk : Nat} {tpos : Pos} {a b N : Nat} (la : a < N) (lb : b < N) :
    Turn P w K (.Tuple elts kk tpos) (ItM K a b) (Cells N) (N + 4) (ZSt N a b) where
  mem := by simp [Cells]
  obj := fun i h st c hc => by
    obtain ⟨s1, s2, ⟨x, y, s3⟩, ⟨o1, e1, _, d1⟩, ⟨o2, e2, _, d2⟩⟩ := st
    have q : c = N + 4 ∨ c = N + 2 ∨ c = N + 3 ∨ c = N ∨ c = N + 1 := by simpa [Cells] using hc
    rcases q with rfl | rfl | rfl | rfl | rfl
    · exact ⟨_, s1, fun v q => nomatch q⟩
    · exact ⟨_, s2, fun v q => nomatch q⟩
    · exact ⟨_, s3, fun v q => nomatch q⟩
    · exact ⟨o1, e1, fun v q => nomatch d1.symm.trans q⟩
    · exact ⟨o2, e2, fun v q => nomatch d2.symm.trans q⟩
  keep := fun i h h' st k => by
    obtain ⟨s1, s2, ⟨x, y, s3⟩, s4, s5⟩ := st
    exact ⟨k _ (by simp [Cells]) _ s1, k _ (by simp [Cells]) _ s2, ⟨x, y, k _ (by simp [Cells]) _ s3⟩, s4.at fun o q => k N (by simp [Cells]) o q, s5.at fun o q => k (N + 1) (by simp [Cells]) o q⟩
  item := by
    intro X eP ew eK hc i pins s σ H E I hf st hg
    subst eP ew eK
    obtain ⟨s1, s2, ⟨x0, y0, s3⟩, s4, s5⟩ := st
    obtain ⟨ls, ts, x, y, hl, ht, hx, hy⟩ := hg
    obtain ⟨iv, rv, p1, _⟩ := I.list hl
    obtain ⟨jv, rw_, p2, _⟩ := I.tuple ht
    obtain ⟨u, hu, ru⟩ := rv.get hx
    obtain ⟨t, hu2, ru2⟩ := rw_.get hy
    have zl : N + 4 < s.heap.objs.size := Heap.lt_size s1
    have lu := (List.getElem?_eq_some_iff.mp hu).1
    have lt := (List.getElem?_eq_some_iff.mp hu2).1
    have isT : s.heap.IsTuple b jv.toArray := p2
    have D1 := Draws.list (prog := X.prog) (w := X.w) (A := X.A.in1) (I.ok.hd hc) N a (Nat.ne_of_lt la) iv.toArray
    have D2 := Draws.tuple (prog := X.prog) (w := X.w) (A := X.A.in1) (I.ok.hd hc) (N + 1) b (Nat.ne_of_lt (Nat.lt_succ_of_lt lb)) jv.toArray
    refine wpAny_pyNext_zipD2_item (sep la lb) D1 D2 s1 s2 s3 ⟨s4, p1.isList⟩ ⟨s5, isT⟩ (by simpa using lu) (by simpa using lt) fun v1 v2 h' tk g1 g2 z' TO' d1 d2 hT hsz hk => ?_
    have e1 : v1 = u := by
      have q : iv.toArray[i]? = some v1 := g1
      rw [List.getElem?_toArray, hu] at q
      exact (Option.some.inj q).symm
    have e2 : v2 = t := by
      have q : jv.toArray[i]? = some v2 := g2
      rw [List.getElem?_toArray, hu2] at q
      exact (Option.some.inj q).symm
    subst e1 e2
    refine ⟨_, rfl, wpAny_letOwnedTupleGo_zip (s := { s with heap := h', toks := tk }) z' fun h'' z'' sb => ?_⟩
    have T2 : h''.get? s.heap.objs.size = some { cls := .type "tuple", data := .seq #[v1, v2] } := (sb.2 _ (Nat.ne_of_gt zl)).trans hT
    have new : ObjOk X.prog X.w (upd H s.heap.objs.size (.tup [x, y])) h'' s.heap.objs.size (.tup [x, y]) := ⟨le_size (by simp), [v1, v2], .cons ru (.cons ru2 .nil), ⟨_, T2, rfl, _, rfl⟩⟩
    have I1 : Inv X pins σ (upd H s.heap.objs.size (.tup [x, y])) { s with heap := h'', toks := tk } := I.turnedNew (ch := Cells N) (fun c o hb q => by
      have n : c ≠ N + 4 ∧ c ≠ N + 2 ∧ c ≠ N + 3 ∧ c ≠ N ∧ c ≠ N + 1 := by simpa [Cells] using hb
      exact (sb.2 c n.1).trans (hk c o n.1 n.2.2.1 n.2.2.2.1 n.2.2.2.2 q)) hf (Nat.le_refl _) new
    refine ⟨.ref s.heap.objs.size, _, I1, rfl, ⟨_, x, y, rfl, I.hok.fresh (Nat.le_refl _), rfl, fun l q => by rw [I.list_inj q hl]; exact hx, fun l q => by rw [I.tuple_inj q ht]; exact hy⟩, ⟨z'', ?_, ⟨v1, v2, ?_⟩, ?_, ?_⟩, fun c hcm => ?_⟩
    · exact (sb.2 _ (Nat.ne_of_lt (by omega))).trans (hk _ _ (Nat.ne_of_lt (by omega)) (Nat.ne_of_lt (by omega)) (Nat.ne_of_gt (by omega)) (Nat.ne_of_gt (by omega)) s2)
    · exact (sb.2 _ (Nat.ne_of_lt (by omega))).trans TO'
    · exact d1.1.at fun o q => (sb.2 _ (Nat.ne_of_lt (by omega))).trans q
    · exact d2.1.at fun o q => (sb.2 _ (Nat.ne_of_lt (by omega))).trans q
    · have lc : c < s.heap.objs.size := Nat.lt_of_le_of_lt (cells_top hcm) zl
      rw [upd_ne (Nat.ne_of_lt lc)]
      exact (hf c hcm).1
  done := by
    intro X eP ew eK hc i pins s σ H E I hf st hg
    subst eP ew eK
    obtain ⟨s1, s2, ⟨x0, y0, s3⟩, s4, s5⟩ := st
    obtain ⟨ls, ts, hl, ht, e1, e2⟩ := hg
    obtain ⟨iv, rv, p1, _⟩ := I.list hl
    obtain ⟨jv, rw_, p2, _⟩ := I.tuple ht
    have n1 := rv.length
    have n2 := rw_.length
    have isT : s.heap.IsTuple b jv.toArray := p2
    have D1 := Draws.list (prog := X.prog) (w := X.w) (A := X.A.in1) (I.ok.hd hc) N a (Nat.ne_of_lt la) iv.toArray
    have D2 := Draws.tuple (prog := X.prog) (w := X.w) (A := X.A.in1) (I.ok.hd hc) (N + 1) b (Nat.ne_of_lt (Nat.lt_succ_of_lt lb)) jv.toArray
    exact wpAny_pyNext_zipD2_end (i := i) (sep la lb) D1 D2 s1 s2 s3 ⟨s4, p1.isList⟩ ⟨s5, isT⟩ (by simp; omega) (by simp; omega) (.inl (by simp; omega))
      fun h' tk hk => ⟨rfl, I.turnedL (t' := tk) (ch := Cells N) (fun c o hb q => by
        have n : c ≠ N + 4 ∧ c ≠ N + 2 ∧ c ≠ N + 3 ∧ c ≠ N ∧ c ≠ N + 1 := by simpa [Cells] using hb
        exact hk c o n.1 n.2.2.1 n.2.2.2.1 n.2.2.2.2 q) hf⟩
  self := fun A i s Q E st h => wpAny_pyIter_zip st.1 h
def iZipM (K : PySem.W.Frag) (ta : TA) : TI := fun σ H R => ta σ H fun us H1 => ∃ a b ls ts, us = [.ref a, .ref b] ∧ SqL K H1 a ls ∧ SqT K H1 b ts ∧ R (ItM K a b) H1
theorem pi_zipM {X : Cx} {e e2 : Expr} {ta : TA} {p pos tpos : Pos} {elts : List Expr} {kk : Nat} (hg : Gl X "zip") (hm : X.mg "zip" = none) (ha : PA X [e, e2] ta)
    (na : starEach [e, e2] X.env = (false, eval e X.env) :: starEach [e2] X.env := by rfl) (nb : (backTo pos (starEach [e2] X.env)).any (·.1) = false := by rfl) :
    PI X (.Tuple elts kk tpos) (.Call (.Name "zip" p) [e, e2] [] pos) (iZipM X.K ta) := by
  refine ⟨fun pins s σ H R I h => Call_ (ld_blt I hg hm boot_zip (PyProof.Rows.callWith_type1 (thn (ha.run pos pins s σ H _ I h) fun us s1 ⟨vs, H1, I1, rr, a, b, ls, ts, ev, hl, ht, q⟩ => ?_) na nb))⟩
  subst ev
  obtain ⟨u1, u2, rfl, r1, r2⟩ : ∃ u1 u2, us = [u1, u2] ∧ RelV (.ref a) u1 ∧ RelV (.ref b) u2 := by
    cases rr with
    | cons r rr => cases rr with
      | cons r' rr => cases rr; exact ⟨_, _, rfl, r, r'⟩
  obtain rfl : u1 = Value.ref a := r1
  obtain rfl : u2 = Value.ref b := r2
  obtain ⟨iv, rv, p1, _⟩ := I1.list hl
  obtain ⟨jv, rw_, p2, _⟩ := I1.tuple ht
  have isT : s1.heap.IsTuple b jv.toArray := p2
  have lb : b < s1.heap.objs.size := let ⟨o, ho, _⟩ := isT; Heap.lt_size ho
  refine zip_begins2 (begins_list a iv.toArray) (begins_tuple b jv.toArray) p1.isList isT fun h' hz hTI hTO g1 g2 hsz hk => wpAny_pyIter_zip hz ?_
  have I2 : Inv X pins σ H1 { s1 with heap := h' } := I1.kept (t' := s1.toks) hk
  exact ⟨s1.heap.objs.size + 4, Cells s1.heap.objs.size, _, _, H1, rfl, I2, turnM p1.lt lb, ⟨hz, hTI, ⟨_, _, hTO⟩, ⟨_, g1, rfl, rfl⟩, ⟨_, g2, rfl, rfl⟩⟩, fun c hcm => I1.fpOk (cells_old hcm) (I1.hok.fresh (cells_old hcm)), q⟩
section
variable {K : PySem.W.Frag} {σ : L2.St} {H : Hp} {G : TG} {tas : TA} {ts : TS} {D : Ends}
def ForZM (K : PySem.W.Frag) (G : TG) (ts : TS) (D : Ends) (σ : L2.St) (us : List V) (H : Hp) : Prop := ∃ a b xs ys, us = [.ref a, .ref b] ∧ SqL K H a xs ∧ SqT K H b ys ∧ ForW (ItM K a b) G ts D σ H
theorem r_forZM (k : tas σ H fun us H1 => ForZM K G ts D σ us H1) : tFor (iZipM K tas) G ts D σ H := k
theorem forZM_go {a b : Addr} {xs ys : List V} (hl : xs.length = ys.length) (Pv : Nat → L2.St → Hp → Prop) (hx : SqL K H a xs) (hy : SqT K H b ys) (h0 : Pv 0 σ H) (hq : ∀ i σ' H', Pv i σ' H' → SqL K H' a xs ∧ SqT K H' b ys)
    (hs : ∀ (i : Nat) (x y : V) (T : Addr) σ' H', xs[i]? = some x → ys[i]? = some y → Pv i σ' H' → H' T = none → G (.ref T) σ' (upd H' T (.tup [x, y])) fun σ2 H2 => ts { D with nx := Pv (i + 1), ct := Pv (i + 1), bk := D.nx } σ2 H2)
    (hd : ∀ σ' H', Pv xs.length σ' H' → D.nx σ' H') : ForZM K G ts D σ [.ref a, .ref b] H := by
  refine ⟨a, b, xs, ys, rfl, hx, hy, fun i m σ H => m + i = xs.length ∧ Pv i σ H, ⟨xs.length, rfl, h0⟩, ?_⟩
  rintro i m σ H ⟨e, p⟩
  obtain ⟨qx, qy⟩ := hq i σ H p
  rcases Nat.eq_or_lt_of_le (show i ≤ xs.length by omega) with full | lt
  · subst full
    exact .inl ⟨⟨xs, ys, qx, qy, rfl, hl⟩, hd σ H p⟩
  · have ex : xs[i]? = some xs[i] := List.getElem?_eq_getElem lt
    have ey : ys[i]? = some (ys[i]'(by omega)) := List.getElem?_eq_getElem (by omega)
    refine .inr ⟨⟨xs, ys, _, _, qx, qy, ex, ey⟩, Pv (i + 1), fun σ' H' p' => ⟨m - 1, by omega, by omega, p'⟩, ?_⟩
    rintro v H' ⟨T, x, y, rfl, nT, rfl, f1, f2⟩
    exact hs i x y T σ H (f1 xs qx) (f2 ys qy) p nT
/-! for .. in enumerate(l), l a list -/
def ForNL (K : PySem.W.Frag) (G : TG) (ts : TS) (D : Ends) (σ : L2.St) (us : List V) (H : Hp) : Prop := ∃ a xs, us = [.ref a] ∧ SqL K H a xs ∧ ForW (Ite K a) G ts D σ H
theorem r_forNL (k : tas σ H fun us H1 => ForNL K G ts D σ us H1) : tFor (iEnum K tas) G ts D σ H := k
theorem forNL_go {a : Addr} {xs : List V} (Pv : Nat → L2.St → Hp → Prop) (hx : SqL K H a xs) (h0 : Pv 0 σ H) (hq : ∀ i σ' H', Pv i σ' H' → SqL K H' a xs)
    (hs : ∀ (i : Nat) (x : V) (T : Addr) σ' H', xs[i]? = some x → Pv i σ' H' → H' T = none → G (.ref T) σ' (upd H' T (.tup [.int (i : Nat), x])) fun σ2 H2 => ts { D with nx := Pv (i + 1), ct := Pv (i + 1), bk := D.nx } σ2 H2)
    (hd : ∀ σ' H', Pv xs.length σ' H' → D.nx σ' H') : ForNL K G ts D σ [.ref a] H := by
  refine ⟨a, xs, rfl, hx, fun i m σ H => m + i = xs.length ∧ Pv i σ H, ⟨xs.length, rfl, h0⟩, ?_⟩
  rintro i m σ H ⟨e, p⟩
  have q := hq i σ H p
  rcases Nat.eq_or_lt_of_le (show i ≤ xs.length by omega) with full | lt
  · subst full
    exact .inl ⟨⟨xs, q, Nat.le_refl _⟩, hd σ H p⟩
  · refine .inr ⟨⟨xs, xs[i], q, List.getElem?_eq_getElem lt⟩, Pv (i + 1), fun σ' H' p' => ⟨m - 1, by omega, by omega, p'⟩, ?_⟩
    rintro v H' ⟨T, x, rfl, nT, rfl, ex⟩
    exact hs i x T σ H (ex xs q) p nT
/-! [.. for .. in enumerate(t)], t a tuple -/
theorem walk_en {a : Addr} {xs : List V} : Walk (Tz.Itn K a) xs.length (fun H => SqT K H a xs) (fun i H v H' => ∃ T x, v = .ref T ∧ H T = none ∧ H' = upd H T (.tup [.int (i : Nat), x]) ∧ xs[i]? = some x) where
  goes := fun i H lt h => ⟨xs, xs[i], h, List.getElem?_eq_getElem lt⟩
  yields := fun i H v H' _ h ⟨T, x, e, n, e2, f⟩ => ⟨T, x, e, n, e2, f xs h⟩
  stops := fun H h => ⟨xs, h, Nat.le_refl _⟩
variable {tt : TT} {te : TE} {vs : List Nat} {Q : VK}
def CompNT (K : PySem.W.Frag) (G : TG) (tt : TT) (te : TE) (vs : List Nat) (σ : L2.St) (Q : VK) (us : List V) (H1 : Hp) : Prop := ∃ a xs, us = [.ref a] ∧ SqT K H1 a xs ∧ CompW (Tz.Itn K a) G tt te vs σ Q H1
theorem r_lcNT (k : tas σ H fun us H1 => CompNT K G tt te vs σ Q us H1) : tLc (Tz.iEnumT K tas) G tt te vs σ H Q := k
theorem lcNT_go {a : Addr} {xs : List V} (Pv : Addr → Nat → List V → Hp → Prop) (hx : SqT K H a xs) (h0 : ∀ D, H D = none → Pv D 0 [] (upd H D (.lst []))) (hq : ∀ D i acc H', H D = none → Pv D i acc H' → SqT K H' a xs)
    (hs : ∀ D (i : Nat) x T acc H', xs[i]? = some x → H D = none → H' D = some (.lst acc) → Pv D i acc H' → H' T = none → G (.ref T) (wipe σ vs) (upd H' T (.tup [.int (i : Nat), x])) fun σ2 H2 => wipe σ2 vs = wipe σ vs ∧ tt σ2 H2 fun b H3 =>
      if b = true then te σ2 H3 fun y H4 => ∃ acc, H4 D = some (.lst acc) ∧ acc.length < sizeLine ∧ (∃ ac, (upd H4 D (.lst (acc ++ [y]))) D = some (.lst ac) ∧ Pv D (i + 1) ac (upd H4 D (.lst (acc ++ [y])))) else ∃ ac, H3 D = some (.lst ac) ∧ Pv D (i + 1) ac H3)
    (hd : ∀ D acc H', H D = none → H' D = some (.lst acc) → Pv D xs.length acc H' → Q (.ref D) H') : CompNT K G tt te vs σ Q [.ref a] H := by
  refine ⟨a, xs, rfl, hx, fun D hD => lc_it walk_en (fun i H' => ∃ acc, H' D = some (.lst acc) ∧ Pv D i acc H') ⟨[], upd_same, h0 D hD⟩ (fun i H' _ ⟨acc, _, p⟩ => hq D i acc H' hD p) ?_ fun H' ⟨acc, ha, p⟩ => hd D acc H' hD ha p⟩
  rintro i v H1 H' hi ⟨acc, ha, p⟩ ⟨T, x, rfl, nT, rfl, ex⟩
  exact hs D i x T acc H1 ex hD ha p nT
end
end Zm
theorem call_tuple_ofK {X : Cx} {K : PySem.W.Frag} (hK : X.K = K) : CallR X (.type "tuple") (fun xs H Q => ∃ p ys, xs = [.ref p] ∧ ((SqL K H p ys ∧ ∀ l, H l = none → Q (.ref l) (upd H l (.tup ys))) ∨ SqT K H p ys ∧ Q (.ref p) H)) := by subst hK; exact call_tuple_of
theorem sl_listK {X : Cx} {K : PySem.W.Frag} (hK : X.K = K) : SlR X (rSlL K) := by subst hK; exact sl_list
/-! k19, pure: sums, combinations of lines, small solutions (pigeons), echelons, bounds. -/
namespace Ec
/-! ### sums -/
def sumN : Nat → (Nat → Int) → Int
  | 0, _ => 0
  | n + 1, f => sumN n f + f n
theorem sumN_congr {f g : Nat → Int} : ∀ {n : Nat}, (∀ k, k < n → f k = g k) → sumN n f = sumN n g
  | 0, _ => rfl
  | n + 1, h => by rw [sumN, sumN, sumN_congr fun k hk => h k (by omega), h n (by omega)]
theorem sumN_zero : ∀ {n : Nat} {f : Nat → Int}, (∀ k, k < n → f k = 0) → sumN n f = 0
  | 0, _, _ => rfl
  | n + 1, f, h => by rw [sumN, sumN_zero fun k hk => h k (by omega), h n (by omega)]; rfl
theorem sumN_add {f g : Nat → Int} : ∀ n : Nat, sumN n (fun k => f k + g k) = sumN n f + sumN n g
  | 0 => rfl
  | n + 1 => by rw [sumN, sumN, sumN, sumN_add n]; omega
theorem sumN_mul {f : Nat → Int} {c : Int} : ∀ n : Nat, sumN n (fun k => c * f k) = c * sumN n f
  | 0 => by simp [sumN]
  | n + 1 => by rw [sumN, sumN, sumN_mul n, Int.mul_add]
theorem sumN_one {f : Nat → Int} {i : Nat} : ∀ {n : Nat}, i < n → (∀ k, k < n → k ≠ i → f k = 0) → sumN n f = f i
  | 0, h, _ => absurd h (by omega)
  | n + 1, h, z => by
    rw [sumN]
    by_cases e : i = n
    · subst e
      rw [sumN_zero fun k hk => z k (by omega) (by omega)]; omega
    · rw [sumN_one (n := n) (by omega) fun k hk ne => z k (by omega) ne, z n (by omega) (by omega)]; omega
theorem sumN_dvd {f : Nat → Int} {g : Int} : ∀ {n : Nat}, (∀ k, k < n → g ∣ f k) → g ∣ sumN n f
  | 0, _ => ⟨0, by simp [sumN]⟩
  | n + 1, h => Int.dvd_add (sumN_dvd fun k hk => h k (by omega)) (h n (by omega))
section
variable {α : Type}
def sumX (xs : List α) (f : α → Int) : Int := (xs.map f).sum
theorem sumX_nil {f : α → Int} : sumX [] f = 0 := rfl
theorem sumX_cons {x : α} {xs : List α} {f : α → Int} : sumX (x :: xs) f = f x + sumX xs f := by simp [sumX]
theorem sumX_congr {f g : α → Int} : ∀ {xs : List α}, (∀ x ∈ xs, f x = g x) → sumX xs f = sumX xs g
  | [], _ => rfl
  | x :: xs, h => by rw [sumX_cons, sumX_cons, h x (by simp), sumX_congr fun y hy => h y (by simp [hy])]
theorem sumX_zero {f : α → Int} : ∀ {xs : List α}, (∀ x ∈ xs, f x = 0) → sumX xs f = 0
  | [], _ => rfl
  | x :: xs, h => by rw [sumX_cons, h x (by simp), sumX_zero fun y hy => h y (by simp [hy])]; rfl
theorem sumX_add {f g : α → Int} : ∀ xs : List α, sumX xs (fun x => f x + g x) = sumX xs f + sumX xs g
  | [] => rfl
  | x :: xs => by rw [sumX_cons, sumX_cons, sumX_cons, sumX_add xs]; omega
theorem sumX_mul {f : α → Int} {c : Int} : ∀ xs : List α, sumX xs (fun x => c * f x) = c * sumX xs f
  | [] => by simp [sumX]
  | x :: xs => by rw [sumX_cons, sumX_cons, sumX_mul xs, Int.mul_add]
theorem sumX_app {f : α → Int} : ∀ {xs ys : List α}, sumX (xs ++ ys) f = sumX xs f + sumX ys f := by
  intro xs ys; simp [sumX]
theorem sumX_one {f : α → Int} {a : α} : ∀ {xs : List α}, xs.Nodup → a ∈ xs → (∀ x ∈ xs, x ≠ a → f x = 0) → sumX xs f = f a
  | [], _, h, _ => by cases h
  | x :: xs, n, h, z => by
    rw [sumX_cons]
    obtain ⟨n1, n2⟩ := List.nodup_cons.mp n
    by_cases e : x = a
    · subst e
      rw [sumX_zero fun y hy => z y (by simp [hy]) (fun e => n1 (e ▸ hy))]; omega
    · have : a ∈ xs := by
        cases h with
        | head => exact absurd rfl e
        | tail _ h => exact h
      rw [z x (by simp) e, sumX_one n2 this fun y hy ne => z y (by simp [hy]) ne]; omega
/-- a change of the level of one name -/
theorem sumX_bound {f : α → Int} {M : Nat} : ∀ {xs : List α}, (∀ x ∈ xs, (f x).natAbs ≤ M) → (sumX xs f).natAbs ≤ xs.length * M
  | [], _ => by simp [sumX]
  | x :: xs, h => by
    rw [sumX_cons]
    have h1 := h x (by simp)
    have h2 := sumX_bound (M := M) fun y hy => h y (List.mem_cons_of_mem x hy)
    have h3 := Int.natAbs_add_le (f x) (sumX xs f)
    have : (x :: xs).length * M = xs.length * M + M := by rw [List.length_cons, Nat.add_mul, Nat.one_mul]
    omega
abbrev dotX (xs : List α) (f L : α → Int) : Int := sumX xs fun x => f x * L x
def comb (N : Nat) (l : Nat → α → Int) (w : Nat → Int) (x : α) : Int := sumN N fun k => w k * l k x
theorem comb_add {N : Nat} {l : Nat → α → Int} {u w : Nat → Int} {x : α} : comb N l (fun k => u k + w k) x = comb N l u x + comb N l w x := by
  unfold comb
  rw [← sumN_add]
  exact sumN_congr fun k _ => Int.add_mul _ _ _
theorem comb_mul {N : Nat} {l : Nat → α → Int} {w : Nat → Int} {c : Int} {x : α} : comb N l (fun k => c * w k) x = c * comb N l w x := by
  unfold comb
  rw [← sumN_mul]
  exact sumN_congr fun k _ => Int.mul_assoc _ _ _
theorem comb_congr {N : Nat} {l : Nat → α → Int} {u w : Nat → Int} {x : α} (h : ∀ k, k < N → u k = w k) : comb N l u x = comb N l w x := sumN_congr fun k hk => by rw [h k hk]
theorem comb_zero {N : Nat} {l : Nat → α → Int} {w : Nat → Int} {x : α} (h : ∀ k, k < N → w k = 0) : comb N l w x = 0 := sumN_zero fun k hk => by rw [h k hk, Int.zero_mul]
theorem comb_one {N : Nat} {l : Nat → α → Int} {w : Nat → Int} {x : α} {i : Nat} (hi : i < N) (h : ∀ k, k < N → k ≠ i → w k = 0) : comb N l w x = w i * l i x := sumN_one hi fun k hk ne => by rw [h k hk ne, Int.zero_mul]
theorem dot_comb {xs : List α} {N : Nat} {l : Nat → α → Int} {w : Nat → Int} {L : α → Int} : dotX xs (comb N l w) L = sumN N fun k => w k * dotX xs (l k) L := by
  induction N with
  | zero => exact sumX_zero fun x _ => by simp [comb, sumN]
  | succ N ih =>
    rw [sumN, ← ih]
    have : (fun x => comb (N + 1) l w x * L x) = fun x => comb N l w x * L x + w N * (l N x * L x) := by
      funext x
      show (sumN N (fun k => w k * l k x) + w N * l N x) * L x = _
      rw [Int.add_mul, Int.mul_assoc]; rfl
    show sumX xs (fun x => comb (N + 1) l w x * L x) = _
    rw [this, sumX_add, sumX_mul]
end
/-! ### small solutions -/
def dotL : List Int → List Int → Int
  | a :: as, b :: bs => a * b + dotL as bs
  | _, _ => 0
def box : Nat → Nat → List (List Int)
  | 0, _ => [[]]
  | n + 1, X => (List.range (X + 1)).flatMap fun (a : Nat) => (box n X).map fun v => (a : Int) :: v
theorem flat_len {α β : Type} {f : α → List β} {c : Nat} (h : ∀ a, (f a).length = c) : ∀ l : List α, (l.flatMap f).length = l.length * c
  | [] => by simp
  | a :: l => by rw [List.flatMap_cons, List.length_append, h, flat_len h l, List.length_cons, Nat.add_mul, Nat.one_mul, Nat.add_comm]
theorem box_len (X : Nat) : ∀ n : Nat, (box n X).length = (X + 1) ^ n
  | 0 => rfl
  | n + 1 => by
    rw [box, flat_len (c := (X + 1) ^ n) (fun a => by rw [List.length_map, box_len X n]), List.length_range, Nat.pow_succ, Nat.mul_comm]
theorem mem_box {X : Nat} : ∀ {n : Nat} {v : List Int}, v ∈ box n X ↔ v.length = n ∧ ∀ a ∈ v, 0 ≤ a ∧ a ≤ X
  | 0, v => by
    rw [box, List.mem_singleton]
    constructor
    · rintro rfl; exact ⟨rfl, by simp⟩
    · intro h; exact List.length_eq_zero_iff.mp h.1
  | n + 1, v => by
    rw [box, List.mem_flatMap]
    constructor
    · rintro ⟨a, ha, h⟩
      obtain ⟨u, hu, rfl⟩ := List.mem_map.mp h
      obtain ⟨h1, h2⟩ := mem_box.mp hu
      have ha := List.mem_range.mp ha
      refine ⟨by rw [List.length_cons, h1], fun b hb => ?_⟩
      cases hb with
      | head => exact ⟨by omega, by omega⟩
      | tail _ hb => exact h2 b hb
    · rintro ⟨h1, h2⟩
      cases v with
      | nil => cases h1
      | cons b u =>
        have hb := h2 b (by simp)
        refine ⟨b.toNat, List.mem_range.mpr (by omega), List.mem_map.mpr ⟨u, mem_box.mpr ⟨by simpa using h1, fun a ha => h2 a (by simp [ha])⟩, ?_⟩⟩
        have : ((b.toNat : Nat) : Int) = b := by omega
        rw [this]
theorem map_nodup {α β : Type} {f : α → β} : ∀ {l : List α}, l.Nodup → (∀ a ∈ l, ∀ b ∈ l, f a = f b → a = b) → (l.map f).Nodup
  | [], _, _ => List.nodup_nil
  | a :: l, n, h => by
    obtain ⟨n1, n2⟩ := List.nodup_cons.mp n
    rw [List.map_cons]
    refine List.nodup_cons.mpr ⟨fun m => ?_, map_nodup n2 fun x hx y hy => h x (by simp [hx]) y (by simp [hy])⟩
    obtain ⟨b, hb, e⟩ := List.mem_map.mp m
    exact n1 (h a (by simp) b (by simp [hb]) e.symm ▸ hb)
theorem flat_nodup {B : List (List Int)} (hB : B.Nodup) : ∀ {l : List Nat}, l.Nodup → (l.flatMap fun (a : Nat) => B.map fun v => (a : Int) :: v).Nodup
  | [], _ => List.nodup_nil
  | a :: l, n => by
    obtain ⟨n1, n2⟩ := List.nodup_cons.mp n
    rw [List.flatMap_cons]
    refine List.nodup_append.mpr ⟨map_nodup hB fun x _ y _ e => (List.cons.inj e).2, flat_nodup hB n2, fun x hx y hy e => ?_⟩
    obtain ⟨u, _, rfl⟩ := List.mem_map.mp hx
    obtain ⟨b, hb, h⟩ := List.mem_flatMap.mp hy
    obtain ⟨v, _, rfl⟩ := List.mem_map.mp h
    have := (List.cons.inj e).1
    have : a = b := by omega
    exact n1 (this ▸ hb)
theorem box_nodup (X : Nat) : ∀ n : Nat, (box n X).Nodup
  | 0 => by simp [box]
  | n + 1 => flat_nodup (box_nodup X n) List.nodup_range
theorem nodup_len {α : Type} [DecidableEq α] : ∀ {l m : List α}, l.Nodup → (∀ x ∈ l, x ∈ m) → l.length ≤ m.length
  | [], _, _, _ => Nat.zero_le _
  | a :: l, m, n, h => by
    obtain ⟨n1, n2⟩ := List.nodup_cons.mp n
    have hm : a ∈ m := h a (by simp)
    have := nodup_len (m := m.erase a) n2 fun x hx => (List.mem_erase_of_ne fun e => n1 (by rw [← e]; exact hx)).mpr (h x (by simp [hx]))
    rw [List.length_erase_of_mem hm] at this
    have := List.length_pos_of_mem hm
    rw [List.length_cons]; omega
def subL : List Int → List Int → List Int
  | a :: as, b :: bs => (a - b) :: subL as bs
  | _, _ => []
theorem sub_len : ∀ {u v : List Int}, u.length = v.length → (subL u v).length = u.length
  | [], [], _ => rfl
  | a :: u, b :: v, h => by rw [subL, List.length_cons, List.length_cons, sub_len (by simpa using h)]
  | [], _ :: _, h => by cases h
  | _ :: _, [], h => by cases h
theorem dot_sub : ∀ {r u v : List Int}, u.length = v.length → dotL r (subL u v) = dotL r u - dotL r v
  | [], u, v, _ => by cases u <;> cases v <;> simp [dotL, subL]
  | c :: r, [], [], _ => by simp [dotL, subL]
  | c :: r, a :: u, b :: v, h => by
    rw [subL, dotL, dotL, dotL, dot_sub (by simpa using h), Int.mul_sub]; omega
  | _ :: _, [], _ :: _, h => by cases h
  | _ :: _, _ :: _, [], h => by cases h
theorem sub_mem {X : Nat} : ∀ {u v : List Int}, (∀ a ∈ u, 0 ≤ a ∧ a ≤ X) → (∀ a ∈ v, 0 ≤ a ∧ a ≤ X) → ∀ a ∈ subL u v, a.natAbs ≤ X
  | [], _, _, _ => by intro a h; cases h
  | _ :: _, [], _, _ => by intro a h; cases h
  | a :: u, b :: v, h1, h2 => by
    intro c hc
    have x := h1 a (by simp)
    have y := h2 b (by simp)
    cases hc with
    | head => omega
    | tail _ hc => exact sub_mem (fun a ha => h1 a (by simp [ha])) (fun a ha => h2 a (by simp [ha])) c hc
theorem sub_zero : ∀ {u v : List Int}, u.length = v.length → (∀ a ∈ subL u v, a = 0) → u = v
  | [], [], _, _ => rfl
  | a :: u, b :: v, h, z => by
    have := z (a - b) (by simp [subL])
    have e : a = b := by omega
    rw [e, sub_zero (u := u) (v := v) (by simpa using h) fun c hc => z c (by simp [subL, hc])]
  | [], _ :: _, h, _ => by cases h
  | _ :: _, [], h, _ => by cases h
theorem dot_bound {B X : Nat} : ∀ {r v : List Int}, (∀ a ∈ r, a.natAbs ≤ B) → (∀ a ∈ v, 0 ≤ a ∧ a ≤ X) → (dotL r v).natAbs ≤ v.length * (B * X)
  | [], v, _, _ => by simp [dotL]
  | _ :: _, [], _, _ => by simp [dotL]
  | c :: r, a :: v, h1, h2 => by
    have x := h1 c (by simp)
    have y := h2 a (by simp)
    have z := dot_bound (r := r) (v := v) (B := B) (X := X) (fun b hb => h1 b (by simp [hb])) (fun b hb => h2 b (by simp [hb]))
    rw [dotL, List.length_cons, Nat.add_mul, Nat.one_mul]
    have h3 := Int.natAbs_add_le (c * a) (dotL r v)
    have h4 : (c * a).natAbs ≤ B * X := by rw [Int.natAbs_mul]; exact Nat.mul_le_mul x (by omega)
    omega
theorem siegel {A : List (List Int)} {n B : Nat} (hA : ∀ r ∈ A, ∀ a ∈ r, a.natAbs ≤ B) (h : A.length < n) :
    ∃ v : List Int, v.length = n ∧ (∃ a ∈ v, a ≠ 0) ∧ (∀ a ∈ v, a.natAbs ≤ (2 * n * B + 1) ^ A.length) ∧ ∀ r ∈ A, dotL r v = 0 := by
  generalize hX : (2 * n * B + 1) ^ A.length = X
  have hX1 : 1 ≤ X := by rw [← hX]; exact Nat.one_le_pow _ _ (by omega)
  let f : List Int → List Int := fun v => A.map fun r => dotL r v + ((n * (B * X) : Nat) : Int)
  have hno : ¬ ∀ a ∈ box n X, ∀ b ∈ box n X, f a = f b → a = b := by
    intro inj
    have l1 := map_nodup (box_nodup X n) inj
    have l2 : ∀ y ∈ (box n X).map f, y ∈ box A.length (2 * (n * (B * X))) := by
      intro y hy
      obtain ⟨v, hv, rfl⟩ := List.mem_map.mp hy
      obtain ⟨v1, v2⟩ := mem_box.mp hv
      refine mem_box.mpr ⟨by simp [f], fun a ha => ?_⟩
      obtain ⟨r, hr, rfl⟩ := List.mem_map.mp ha
      have := dot_bound (hA r hr) v2
      rw [v1] at this
      omega
    have l3 := nodup_len l1 l2
    rw [List.length_map, box_len, box_len] at l3
    have e1 : 2 * (n * (B * X)) + 1 ≤ (2 * n * B + 1) * X := by
      have : (2 * n * B + 1) * X = 2 * (n * (B * X)) + X := by rw [Nat.add_mul, Nat.one_mul, ← Nat.mul_assoc n B X, ← Nat.mul_assoc 2 (n * B) X, Nat.mul_assoc 2 n B]
      omega
    have e2 : (2 * (n * (B * X)) + 1) ^ A.length ≤ X * X ^ A.length := by
      refine Nat.le_trans (Nat.pow_le_pow_left e1 _) ?_
      rw [Nat.mul_pow, hX]
      exact Nat.le_refl _
    have e3 : X * X ^ A.length < (X + 1) ^ n := by
      have : X * X ^ A.length = X ^ (A.length + 1) := by rw [Nat.pow_succ, Nat.mul_comm]
      rw [this]
      exact Nat.lt_of_lt_of_le (Nat.pow_lt_pow_left (by omega) (by omega)) (Nat.pow_le_pow_right (by omega) h)
    omega
  have : ∃ u, u ∈ box n X ∧ ∃ v, v ∈ box n X ∧ f u = f v ∧ u ≠ v := by
    refine Classical.byContradiction fun c => hno fun a ha b hb e => Classical.byContradiction fun ne => c ⟨a, ha, b, hb, e, ne⟩
  obtain ⟨u, hu, v, hv, e, ne⟩ := this
  obtain ⟨u1, u2⟩ := mem_box.mp hu
  obtain ⟨v1, v2⟩ := mem_box.mp hv
  refine ⟨subL u v, by rw [sub_len (by omega), u1], ?_, sub_mem u2 v2, fun r hr => ?_⟩
  · refine Classical.byContradiction fun c => ne (sub_zero (by omega) fun a ha => Classical.byContradiction fun na => c ⟨a, ha, na⟩)
  · rw [dot_sub (by omega)]
    have := List.map_inj_left.mp e r hr
    omega
/-! ### divisors -/
theorem cop_dvd {a b c : Int} (h : a ∣ b * c) (g : Int.gcd a b = 1) : a ∣ c :=
  Int.natAbs_dvd_natAbs.mp (Nat.Coprime.dvd_of_dvd_mul_left (k := a.natAbs) (m := b.natAbs) g (by rw [← Int.natAbs_mul]; exact Int.natAbs_dvd_natAbs.mpr h))
theorem cop_of {x y : Int} (h : x ≠ 0) : ∃ g a b : Int, g ≠ 0 ∧ x = g * a ∧ y = g * b ∧ Int.gcd a b = 1 := by
  have hg : 0 < Int.gcd x y := Int.gcd_pos_of_ne_zero_left _ h
  obtain ⟨a, ha⟩ := Int.gcd_dvd_left x y
  obtain ⟨b, hb⟩ := Int.gcd_dvd_right x y
  refine ⟨Int.gcd x y, a, b, by omega, ha, hb, ?_⟩
  have : Int.gcd x y * Int.gcd a b = Int.gcd x y * 1 := by
    have e : Int.gcd (((Int.gcd x y : Nat) : Int) * a) (((Int.gcd x y : Nat) : Int) * b) = Int.gcd x y * Int.gcd a b := by rw [Int.gcd_mul_left]; simp
    rw [← e, ← ha, ← hb]; omega
  exact Nat.eq_of_mul_eq_mul_left hg this
end Ec
/-! k19, pure: echelons. -/
namespace Ec
/-! ### assignments to few indexes -/
def asg : List Nat → List Int → Nat → Int
  | k :: ks, a :: v, j => (if j = k then a else 0) + asg ks v j
  | _, _, _ => 0
theorem asg_off : ∀ {ks : List Nat} {v : List Int} {j : Nat}, j ∉ ks → asg ks v j = 0
  | [], _, _, _ => by simp [asg]
  | k :: ks, [], _, _ => by simp [asg]
  | k :: ks, a :: v, j, h => by
    rw [asg, if_neg (fun e => h (by simp [e])), asg_off (fun m => h (List.mem_cons_of_mem _ m))]; rfl
theorem asg_bound {X : Nat} : ∀ {ks : List Nat} {v : List Int} {j : Nat}, ks.Nodup → (∀ a ∈ v, a.natAbs ≤ X) → (asg ks v j).natAbs ≤ X
  | [], _, _, _, _ => by simp [asg]
  | k :: ks, [], _, _, _ => by simp [asg]
  | k :: ks, a :: v, j, n, h => by
    obtain ⟨n1, n2⟩ := List.nodup_cons.mp n
    rw [asg]
    by_cases e : j = k
    · subst e
      rw [if_pos rfl, asg_off n1]
      have := h a (by simp); omega
    · rw [if_neg e]
      have := asg_bound (v := v) (j := j) n2 fun b hb => h b (List.mem_cons_of_mem _ hb)
      omega
theorem asg_ne : ∀ {ks : List Nat} {v : List Int}, ks.Nodup → v.length = ks.length → (∃ a ∈ v, a ≠ 0) → ∃ k ∈ ks, asg ks v k ≠ 0
  | [], [], _, _, h => by obtain ⟨a, h, _⟩ := h; cases h
  | [], _ :: _, _, h, _ => by cases h
  | _ :: _, [], _, h, _ => by cases h
  | k :: ks, a :: v, n, h, ⟨b, hb, ne⟩ => by
    obtain ⟨n1, n2⟩ := List.nodup_cons.mp n
    by_cases e : a = 0
    · have : b ∈ v := by
        cases hb with
        | head => exact absurd e ne
        | tail _ h => exact h
      obtain ⟨j, hj, nj⟩ := asg_ne n2 (by simpa using h) ⟨b, this, ne⟩
      refine ⟨j, List.mem_cons_of_mem _ hj, ?_⟩
      rw [asg, if_neg (fun e => n1 (by rw [← e]; exact hj))]
      omega
    · refine ⟨k, by simp, ?_⟩
      rw [asg, if_pos rfl, asg_off n1]; omega
section
variable {α : Type} {N : Nat} {l : Nat → α → Int} {xs : List α}
theorem comb_asg {x : α} : ∀ {ks : List Nat} {v : List Int}, (∀ k ∈ ks, k < N) → comb N l (asg ks v) x = dotL (ks.map fun k => l k x) v
  | [], v, _ => by rw [comb_zero fun k _ => by simp [asg]]; cases v <;> simp [dotL]
  | k :: ks, [], _ => by rw [comb_zero fun k _ => by simp [asg]]; simp [dotL]
  | k :: ks, a :: v, h => by
    have e : asg (k :: ks) (a :: v) = fun j => (if j = k then a else 0) + asg ks v j := by funext j; rw [asg]
    rw [e, comb_add, comb_asg (v := v) fun j hj => h j (List.mem_cons_of_mem _ hj), comb_one (h k (by simp)) fun j _ ne => if_neg ne, if_pos rfl, List.map_cons, dotL, Int.mul_comm]
/-! ### steps -/
structure Step (α : Type) where
  h : α
  t : α → Int
  w : Nat → Int
  p : Nat
/-- what is told of a step behind the steps ss -/
structure StepOk (N : Nat) (l : Nat → α → Int) (xs : List α) (ss : List (Step α)) (s : Step α) : Prop where
  hx : s.h ∈ xs
  hp : 0 < s.t s.h
  c : ∀ x, s.t x = comb N l s.w x
  sup : ∀ k, s.w k ≠ 0 → k = s.p ∨ ∃ r ∈ ss, k = r.p
  wp : s.w s.p ≠ 0
  z : ∀ r ∈ ss, s.t r.h = 0
  np : ∀ r ∈ ss, r.p ≠ s.p
  pN : s.p < N
  prim : ∀ g : Int, (∀ k, g ∣ s.w k) → g ∣ 1
inductive Ech (N : Nat) (l : Nat → α → Int) (xs : List α) : List (Step α) → Prop
  | nil : Ech N l xs []
  | snoc {ss : List (Step α)} {s : Step α} (h : Ech N l xs ss) (k : StepOk N l xs ss s) : Ech N l xs (ss ++ [s])
theorem Ech.at {ss : List (Step α)} (h : Ech N l xs ss) : ∀ {j : Nat} {s : Step α}, ss[j]? = some s → StepOk N l xs (ss.take j) s ∧ Ech N l xs (ss.take j) := by
  induction h with
  | nil => intro j s e; simp at e
  | @snoc ss r h k ih =>
    intro j s e
    by_cases c : j < ss.length
    · rw [List.getElem?_append_left c] at e
      rw [List.take_append_of_le_length (by omega)]
      exact ih e
    · have : j = ss.length := by
        have := (List.getElem?_eq_some_iff.mp e).1
        rw [List.length_append] at this
        simp at this; omega
      subst this
      rw [List.getElem?_append_right (by omega)] at e
      simp at e
      subst e
      rw [List.take_left]
      exact ⟨k, h⟩
theorem Ech.mem {ss : List (Step α)} (h : Ech N l xs ss) {s : Step α} (m : s ∈ ss) : s.h ∈ xs ∧ 0 < s.t s.h ∧ (∀ x, s.t x = comb N l s.w x) ∧ s.p < N ∧ (∀ k, s.w k ≠ 0 → ∃ r ∈ ss, k = r.p) := by
  obtain ⟨j, e⟩ := List.getElem?_of_mem m
  obtain ⟨k, _⟩ := h.at e
  refine ⟨k.hx, k.hp, k.c, k.pN, fun i hi => ?_⟩
  rcases k.sup i hi with rfl | ⟨r, hr, rfl⟩
  · exact ⟨s, m, rfl⟩
  · exact ⟨r, List.mem_of_mem_take hr, rfl⟩
theorem Ech.pnodup {ss : List (Step α)} (h : Ech N l xs ss) : (ss.map (·.p)).Nodup := by
  induction h with
  | nil => exact List.nodup_nil
  | @snoc ss s h k ih =>
    rw [List.map_append]
    refine List.nodup_append.mpr ⟨ih, by simp, fun x hx y hy e => ?_⟩
    obtain ⟨r, hr, rfl⟩ := List.mem_map.mp hx
    simp at hy
    subst hy
    exact k.np r hr e
theorem Ech.hnodup {ss : List (Step α)} (h : Ech N l xs ss) : (ss.map (·.h)).Nodup := by
  induction h with
  | nil => exact List.nodup_nil
  | @snoc ss s h k ih =>
    rw [List.map_append]
    refine List.nodup_append.mpr ⟨ih, by simp, fun x hx y hy e => ?_⟩
    obtain ⟨r, hr, rfl⟩ := List.mem_map.mp hx
    simp at hy
    subst hy
    have h1 := k.z r hr
    have h2 := k.hp
    rw [e] at h1
    omega
theorem Ech.short [DecidableEq α] {ss : List (Step α)} (h : Ech N l xs ss) : ss.length ≤ xs.length := by
  have := nodup_len h.hnodup fun x hx => by
    obtain ⟨r, hr, rfl⟩ := List.mem_map.mp hx
    exact (h.mem hr).1
  rwa [List.length_map] at this
theorem Ech.indep {ss : List (Step α)} (h : Ech N l xs ss) : ∀ {u : Nat → Int}, (∀ k, u k ≠ 0 → ∃ r ∈ ss, k = r.p) → (∀ r ∈ ss, comb N l u r.h = 0) → ∀ k, u k = 0 := by
  induction h with
  | nil => intro u s _ k; exact Classical.byContradiction fun c => by obtain ⟨r, hr, _⟩ := s k c; cases hr
  | @snoc ss s h k ih =>
    intro u sp z
    have e : ∀ j, s.w s.p * u j + -(u s.p) * s.w j = 0 := by
      refine ih (fun j hj => ?_) (fun r hr => ?_)
      · by_cases c : j = s.p
        · subst c
          exact absurd (by rw [Int.neg_mul, Int.mul_comm (u s.p)]; omega) hj
        · have : u j ≠ 0 ∨ s.w j ≠ 0 := by
            refine Classical.byContradiction fun n => hj ?_
            have n1 : u j = 0 := Classical.byContradiction fun x => n (.inl x)
            have n2 : s.w j = 0 := Classical.byContradiction fun x => n (.inr x)
            rw [n1, n2]; simp
          rcases this with c1 | c1
          · obtain ⟨r, hr, rfl⟩ := sp j c1
            rcases List.mem_append.mp hr with hr | hr
            · exact ⟨r, hr, rfl⟩
            · simp at hr; subst hr; exact absurd rfl c
          · rcases k.sup j c1 with c2 | c2
            · exact absurd c2 c
            · exact c2
      · rw [comb_add, comb_mul, comb_mul, z r (by simp [hr]), ← k.c, k.z r hr]; simp
    have e2 : u s.p = 0 := by
      have : comb N l (fun j => s.w s.p * u j + -(u s.p) * s.w j) s.h = 0 := comb_zero fun j _ => e j
      rw [comb_add, comb_mul, comb_mul, z s (by simp), ← k.c, Int.mul_zero, Int.zero_add, Int.neg_mul] at this
      have h3 : u s.p * s.t s.h = 0 := by omega
      rcases Int.mul_eq_zero.mp h3 with h | h
      · exact h
      · have := k.hp; omega
    intro j
    have := e j
    rw [e2] at this
    have h3 : s.w s.p * u j = 0 := by simpa using this
    rcases Int.mul_eq_zero.mp h3 with h | h
    · exact absurd h k.wp
    · exact h
/-- the weights that free a line of the heads of ss are small, once they have no common divisor -/
theorem Ech.small {B : Nat} {ss : List (Step α)} (h : Ech N l xs ss) {i : Nat} {w : Nat → Int} (hi : ∀ r ∈ ss, r.p ≠ i) (iN : i < N) (wi : w i ≠ 0) (sup : ∀ k, w k ≠ 0 → k = i ∨ ∃ r ∈ ss, k = r.p) (z : ∀ r ∈ ss, comb N l w r.h = 0)
    (prim : ∀ g : Int, (∀ k, g ∣ w k) → g ∣ 1) (hB : ∀ k x, (l k x).natAbs ≤ B) : ∀ k, (w k).natAbs ≤ (2 * (ss.length + 1) * B + 1) ^ ss.length := by
  have nd : (i :: ss.map (·.p)).Nodup := List.nodup_cons.mpr ⟨fun m => by obtain ⟨r, hr, e⟩ := List.mem_map.mp m; exact hi r hr e, h.pnodup⟩
  have lt : ∀ k ∈ i :: ss.map (·.p), k < N := fun k hk => by
    cases hk with
    | head => exact iN
    | tail _ hk =>
      obtain ⟨r, hr, rfl⟩ := List.mem_map.mp hk
      exact (h.mem hr).2.2.2.1
  obtain ⟨v, v1, v2, v3, v4⟩ := siegel (A := ss.map fun r => (i :: ss.map (·.p)).map fun k => l k r.h) (n := ss.length + 1) (B := B) (fun r hr a ha => by
    obtain ⟨s, _, rfl⟩ := List.mem_map.mp hr
    obtain ⟨k, _, rfl⟩ := List.mem_map.mp ha
    exact hB _ _) (by simp)
  rw [List.length_map] at v3
  generalize hf : asg (i :: ss.map (·.p)) v = f
  have f1 : ∀ k, (f k).natAbs ≤ (2 * (ss.length + 1) * B + 1) ^ ss.length := fun k => by rw [← hf]; exact asg_bound nd v3
  have f2 : ∀ k, f k ≠ 0 → k = i ∨ ∃ r ∈ ss, k = r.p := fun k hk => by
    refine Classical.byContradiction fun c => hk ?_
    rw [← hf]
    refine asg_off fun m => c ?_
    cases m with
    | head => exact .inl rfl
    | tail _ m => obtain ⟨r, hr, e⟩ := List.mem_map.mp m; exact .inr ⟨r, hr, e.symm⟩
  have f3 : ∀ r ∈ ss, comb N l f r.h = 0 := fun r hr => by rw [← hf, comb_asg lt]; exact v4 _ (List.mem_map.mpr ⟨r, hr, rfl⟩)
  have e : ∀ k, w i * f k + -(f i) * w k = 0 := by
    refine h.indep (fun k hk => ?_) (fun r hr => by rw [comb_add, comb_mul, comb_mul, f3 r hr, z r hr]; simp)
    by_cases c : k = i
    · subst c
      exact absurd (by rw [Int.neg_mul, Int.mul_comm (w k)]; omega) hk
    · have : f k ≠ 0 ∨ w k ≠ 0 := by
        refine Classical.byContradiction fun n => hk ?_
        have n1 : f k = 0 := Classical.byContradiction fun x => n (.inl x)
        have n2 : w k = 0 := Classical.byContradiction fun x => n (.inr x)
        rw [n1, n2]; simp
      rcases this with c1 | c1
      · exact (f2 k c1).resolve_left c
      · exact (sup k c1).resolve_left c
  have fi : f i ≠ 0 := fun c => by
    obtain ⟨k, _, hk⟩ := asg_ne nd (by rw [v1]; simp) v2
    rw [hf] at hk
    have := e k
    rw [c] at this
    have : w i * f k = 0 := by simpa using this
    rcases Int.mul_eq_zero.mp this with h | h
    · exact wi h
    · exact hk h
  have eq : ∀ k, w i * f k = f i * w k := fun k => by have := e k; rw [Int.neg_mul] at this; omega
  have div : ∀ k, w k ∣ f k := by
    obtain ⟨G, a, b, hG, ha, hb, cop⟩ := cop_of (x := w i) (y := f i) wi
    have eq2 : ∀ k, a * f k = b * w k := fun k => by
      have := eq k
      rw [ha, hb, Int.mul_assoc, Int.mul_assoc] at this
      exact Int.eq_of_mul_eq_mul_left hG this
    have ad : a ∣ 1 := prim a fun k => by
      have : a ∣ b * w k := ⟨f k, (eq2 k).symm⟩
      exact cop_dvd this cop
    intro k
    obtain ⟨c, hc⟩ := ad
    refine ⟨c * b, ?_⟩
    have : a * f k * c = b * w k * c := by rw [eq2]
    have h2 : a * f k * c = f k := by rw [Int.mul_right_comm, ← hc, Int.one_mul]
    rw [h2] at this
    rw [this, Int.mul_comm b, Int.mul_assoc, Int.mul_comm b c]
  intro k
  by_cases c : w k = 0
  · rw [c]; simp
  · have : f k ≠ 0 := fun z => by
      have := eq k
      rw [z, Int.mul_zero] at this
      rcases Int.mul_eq_zero.mp this.symm with h | h
      · exact fi h
      · exact c h
    exact Nat.le_trans (Nat.le_of_dvd (by omega) (Int.natAbs_dvd_natAbs.mpr (div k))) (f1 k)
end
end Ec
/-! k19, pure: a line freed, the lines that are done, a shift. -/
namespace Ec
section
variable {α : Type} {N : Nat} {l : Nat → α → Int} {xs : List α}
/-! ### a line freed of the heads -/
structure Fr (N : Nat) (l : Nat → α → Int) (ss : List (Step α)) (i : Nat) (t : α → Int) (w : Nat → Int) : Prop where
  wi : 0 < w i
  sup : ∀ k, w k ≠ 0 → k = i ∨ ∃ r ∈ ss, k = r.p
  c : ∀ x, t x = comb N l w x
  z : ∀ r ∈ ss, t r.h = 0
  prim : ∀ g : Int, (∀ k, g ∣ w k) → g ∣ 1
def one (i : Nat) : Nat → Int := fun k => if k = i then 1 else 0
theorem Fr.start {i : Nat} (hi : i < N) : Fr N l [] i (l i) (one i) := ⟨by simp [one], fun k hk => .inl (Classical.byContradiction fun c => hk (if_neg c)), fun x => by
  rw [comb_one (w := one i) hi fun k _ ne => if_neg ne]; simp [one], by simp, fun g h => by have := h i; simpa [one] using this⟩
theorem Fr.skip {ss : List (Step α)} {i : Nat} {t : α → Int} {w : Nat → Int} {s : Step α} (f : Fr N l ss i t w) (h : t s.h = 0) : Fr N l (ss ++ [s]) i t w :=
  ⟨f.wi, fun k hk => (f.sup k hk).imp id fun ⟨r, hr, e⟩ => ⟨r, by simp [hr], e⟩, f.c, fun r hr => by
    rcases List.mem_append.mp hr with hr | hr
    · exact f.z r hr
    · simp at hr; subst hr; exact h, f.prim⟩
theorem Fr.step {ss : List (Step α)} {i : Nat} {t t2 : α → Int} {w w2 : Nat → Int} {s : Step α} {d1 fa mo d : Int} (f : Fr N l ss i t w) (k : StepOk N l xs ss s) (hi : ∀ r ∈ ss, r.p ≠ i) (hs : s.p ≠ i)
    (d1p : 0 < d1) (hf : fa * d1 = s.t s.h) (hm : mo * d1 = -(t s.h)) (dp : 0 < d) (ht : ∀ x, d * t2 x = t x * fa + s.t x * mo) (hw : ∀ k, d * w2 k = w k * fa + s.w k * mo)
    (pr : ∀ g : Int, (∀ x, g ∣ t2 x) → (∀ k, g ∣ w2 k) → g ∣ 1) : Fr N l (ss ++ [s]) i t2 w2 := by
  have dn : d ≠ 0 := by omega
  have swi : s.w i = 0 := Classical.byContradiction fun c => by
    rcases k.sup i c with e | ⟨r, hr, e⟩
    · exact hs e.symm
    · exact hi r hr e.symm
  have fap : 0 < fa := Int.pos_of_mul_pos_left (a := fa) (b := d1) (by rw [hf]; exact k.hp) d1p
  have c2 : ∀ x, t2 x = comb N l w2 x := fun x => by
    refine Int.eq_of_mul_eq_mul_left dn ?_
    rw [ht, ← comb_mul, comb_congr (u := fun k => d * w2 k) (w := fun k => fa * w k + mo * s.w k) fun j _ => by rw [hw, Int.mul_comm (w j), Int.mul_comm (s.w j)], comb_add, comb_mul, comb_mul, ← f.c, ← k.c, Int.mul_comm (t x), Int.mul_comm (s.t x)]
  refine ⟨?_, fun j hj => ?_, c2, fun r hr => ?_, fun g hg => pr g (fun x => ?_) hg⟩
  · have := hw i
    rw [swi, Int.zero_mul, Int.add_zero] at this
    have h2 : 0 < d * w2 i := by rw [this]; exact Int.mul_pos f.wi fap
    exact Int.pos_of_mul_pos_right h2 dp
  · have : w j ≠ 0 ∨ s.w j ≠ 0 := by
      refine Classical.byContradiction fun n => hj ?_
      have n1 : w j = 0 := Classical.byContradiction fun x => n (.inl x)
      have n2 : s.w j = 0 := Classical.byContradiction fun x => n (.inr x)
      have := hw j
      rw [n1, n2, Int.zero_mul, Int.zero_mul] at this
      rcases Int.mul_eq_zero.mp this with h | h
      · exact absurd h dn
      · exact h
    rcases this with c | c
    · exact (f.sup j c).imp id fun ⟨r, hr, e⟩ => ⟨r, by simp [hr], e⟩
    · rcases k.sup j c with e | ⟨r, hr, e⟩
      · exact .inr ⟨s, by simp, e⟩
      · exact .inr ⟨r, by simp [hr], e⟩
  · have : d * t2 r.h = 0 := by
      rw [ht]
      rcases List.mem_append.mp hr with hr | hr
      · rw [f.z r hr, k.z r hr]; simp
      · simp at hr
        subst hr
        have h1 : (t r.h * fa + r.t r.h * mo) * d1 = 0 := by
          rw [Int.add_mul, Int.mul_assoc, Int.mul_assoc, hf, hm, Int.mul_neg, Int.mul_comm (t r.h)]; omega
        rcases Int.mul_eq_zero.mp h1 with h | h
        · exact h
        · omega
    rcases Int.mul_eq_zero.mp this with h | h
    · exact absurd h dn
    · exact h
  · rw [c2]
    exact sumN_dvd fun j _ => Int.dvd_mul_of_dvd_left (hg j)
theorem pow_small {n : Nat} (h8 : n ≤ 8) : (2 * (n + 1) * 2 ^ 98 + 1) ^ n ≤ 2 ^ (103 * n) := by
  rw [Nat.pow_mul]
  refine Nat.pow_le_pow_left ?_ _
  have : 2 * (n + 1) * 2 ^ 98 ≤ 18 * 2 ^ 98 := Nat.mul_le_mul_right _ (by omega)
  have h2 : 18 * 2 ^ 98 + 1 ≤ 2 ^ 103 := by decide
  exact Nat.le_trans (Nat.succ_le_succ this) h2
theorem comb_small {n : Nat} {w : Nat → Int} (a : ∀ k, (w k).natAbs ≤ 2 ^ (103 * n)) (hN : N ≤ 16) (hB : ∀ k x, (l k x).natAbs ≤ 2 ^ 98) (x : α) : (comb N l w x).natAbs < 2 ^ (104 * (n + 1)) := by
  have b : ∀ m : Nat, (sumN m fun k => w k * l k x).natAbs ≤ m * (2 ^ (103 * n) * 2 ^ 98) := by
    intro m
    induction m with
    | zero => simp [sumN]
    | succ m ih =>
      rw [sumN, Nat.add_mul, Nat.one_mul]
      have h1 := Int.natAbs_add_le (sumN m fun k => w k * l k x) (w m * l m x)
      have h2 : (w m * l m x).natAbs ≤ 2 ^ (103 * n) * 2 ^ 98 := by rw [Int.natAbs_mul]; exact Nat.mul_le_mul (a m) (hB m x)
      omega
  refine Nat.lt_of_le_of_lt (b N) ?_
  refine Nat.lt_of_le_of_lt (Nat.mul_le_mul_right _ hN) ?_
  rw [show (16 : Nat) = 2 ^ 4 from rfl, ← Nat.pow_add, ← Nat.pow_add]
  exact Nat.pow_lt_pow_right (by omega) (by omega)
theorem Fr.small {ss : List (Step α)} (E : Ech N l xs ss) {i : Nat} {t : α → Int} {w : Nat → Int} (f : Fr N l ss i t w) (hi : ∀ r ∈ ss, r.p ≠ i) (iN : i < N) (hN : N ≤ 16) (h8 : ss.length ≤ 8) (hB : ∀ k x, (l k x).natAbs ≤ 2 ^ 98) :
    (∀ k, (w k).natAbs ≤ 2 ^ (103 * ss.length)) ∧ ∀ x, (t x).natAbs < 2 ^ (104 * (ss.length + 1)) := by
  have a : ∀ k, (w k).natAbs ≤ 2 ^ (103 * ss.length) := fun k => Nat.le_trans (E.small hi iN (by have := f.wi; omega) f.sup (fun r hr => by rw [← f.c]; exact f.z r hr) f.prim hB k) (pow_small h8)
  exact ⟨a, fun x => by rw [f.c]; exact comb_small a hN hB x⟩
theorem StepOk.small {ss : List (Step α)} {s : Step α} (k : StepOk N l xs ss s) (E : Ech N l xs ss) (hN : N ≤ 16) (h8 : ss.length ≤ 8) (hB : ∀ k x, (l k x).natAbs ≤ 2 ^ 98) :
    (∀ k, (s.w k).natAbs ≤ 2 ^ (103 * ss.length)) ∧ ∀ x, (s.t x).natAbs < 2 ^ (104 * (ss.length + 1)) := by
  have a : ∀ j, (s.w j).natAbs ≤ 2 ^ (103 * ss.length) := fun j => Nat.le_trans (E.small k.np k.pN k.wp k.sup (fun r hr => by rw [← k.c]; exact k.z r hr) k.prim hB j) (pow_small h8)
  exact ⟨a, fun x => by rw [k.c]; exact comb_small a hN hB x⟩
theorem Fr.toStep {ss : List (Step α)} {i : Nat} {t : α → Int} {w : Nat → Int} {h : α} {sg : Int} (f : Fr N l ss i t w) (hi : ∀ r ∈ ss, r.p ≠ i) (iN : i < N) (hx : h ∈ xs) (hs : sg = 1 ∨ sg = -1) (hp : 0 < t h * sg) :
    StepOk N l xs ss ⟨h, fun x => t x * sg, fun k => w k * sg, i⟩ := by
  have sn : sg ≠ 0 := by omega
  refine ⟨hx, hp, fun x => ?_, fun k hk => f.sup k fun c => hk (by show w k * sg = 0; rw [c, Int.zero_mul]), ?_, fun r hr => by show t r.h * sg = 0; rw [f.z r hr, Int.zero_mul], hi, iN, fun g hg => f.prim g fun k => ?_⟩
  · show t x * sg = comb N l (fun k => w k * sg) x
    rw [comb_congr (w := fun k => sg * w k) fun k _ => Int.mul_comm _ _, comb_mul, ← f.c, Int.mul_comm]
  · show w i * sg ≠ 0
    exact Int.mul_ne_zero (by have := f.wi; omega) sn
  · have := hg k
    rcases hs with rfl | rfl
    · simpa using this
    · have h2 : g ∣ w k * -1 := this
      rw [Int.mul_neg, Int.mul_one] at h2
      exact Int.dvd_neg.mp h2
/-! ### the lines that are done -/
def Dn (N : Nat) (l : Nat → α → Int) (xs : List α) (ss : List (Step α)) (m : Nat) : Prop := ∀ k, k < m → ∀ L : α → Int, (∀ s ∈ ss, dotX xs s.t L = 0) → dotX xs (l k) L = 0
theorem Fr.dot {ss : List (Step α)} {i : Nat} {t : α → Int} {w : Nat → Int} (f : Fr N l ss i t w) (iN : i < N) {L : α → Int} (h : ∀ r ∈ ss, dotX xs (l r.p) L = 0) : dotX xs t L = w i * dotX xs (l i) L := by
  have e : dotX xs t L = dotX xs (comb N l w) L := sumX_congr fun x _ => by rw [f.c]
  rw [e, dot_comb, sumN_one iN fun k _ ne => ?_]
  by_cases c : w k = 0
  · rw [c, Int.zero_mul]
  · rcases f.sup k c with e | ⟨r, hr, rfl⟩
    · exact absurd e ne
    · rw [h r hr, Int.mul_zero]
theorem Dn.same {ss : List (Step α)} {m : Nat} {t : α → Int} {w : Nat → Int} (d : Dn N l xs ss m) (f : Fr N l ss m t w) (mN : m < N) (hp : ∀ r ∈ ss, r.p < m) (z : ∀ x ∈ xs, t x = 0) : Dn N l xs ss (m + 1) := by
  intro k hk L hL
  by_cases c : k < m
  · exact d k c L hL
  · have : k = m := by omega
    subst this
    have := f.dot (xs := xs) mN (L := L) fun r hr => d r.p (hp r hr) L hL
    rw [show dotX xs t L = 0 from sumX_zero fun x hx => by rw [z x hx, Int.zero_mul]] at this
    rcases Int.mul_eq_zero.mp this.symm with h | h
    · have := f.wi; omega
    · exact h
theorem Dn.push {ss : List (Step α)} {m : Nat} {t : α → Int} {w : Nat → Int} {h : α} {sg : Int} {w' : Nat → Int} {p : Nat} (d : Dn N l xs ss m) (f : Fr N l ss m t w) (mN : m < N) (hp : ∀ r ∈ ss, r.p < m) (hs : sg = 1 ∨ sg = -1) :
    Dn N l xs (ss ++ [⟨h, fun x => t x * sg, w', p⟩]) (m + 1) := by
  intro k hk L hL
  have hL' : ∀ s ∈ ss, dotX xs s.t L = 0 := fun s hs => hL s (by simp [hs])
  by_cases c : k < m
  · exact d k c L hL'
  · have : k = m := by omega
    subst this
    have e := f.dot (xs := xs) mN (L := L) fun r hr => d r.p (hp r hr) L hL'
    have e2 : dotX xs (fun x => t x * sg) L = 0 := hL ⟨h, fun x => t x * sg, w', p⟩ (by simp)
    have e3 : sg * dotX xs t L = 0 := by
      rw [← e2, ← sumX_mul]
      exact sumX_congr fun x _ => by simp only [Int.mul_comm, Int.mul_left_comm]
    have e4 : dotX xs t L = 0 := by
      rcases Int.mul_eq_zero.mp e3 with h | h
      · omega
      · exact h
    rw [e4] at e
    rcases Int.mul_eq_zero.mp e.symm with h | h
    · have := f.wi; omega
    · exact h
/-! ### a shift -/
def Low (v : Int × Int) (top bot : Int) : Prop := 0 < v.2 ∧ Int.gcd v.1 v.2 = 1 ∧ v.1 * bot = top * v.2
theorem Low.re {v : Int × Int} {top bot S Q : Int} (h : Low v top bot) (hb : bot ≠ 0) (e : top * Q = S * bot) : Low v S Q := by
  refine ⟨h.1, h.2.1, Int.eq_of_mul_eq_mul_left hb ?_⟩
  have := h.2.2
  calc bot * (v.1 * Q) = v.1 * bot * Q := by rw [← Int.mul_assoc, Int.mul_comm bot]
    _ = top * v.2 * Q := by rw [this]
    _ = top * Q * v.2 := by rw [Int.mul_right_comm]
    _ = S * bot * v.2 := by rw [e]
    _ = bot * (S * v.2) := by rw [Int.mul_comm S, Int.mul_assoc]
theorem Low.dvd {v : Int × Int} {S Q : Int} (h : Low v S Q) : v.2 ∣ Q := by
  have h1 : v.2 ∣ v.1 * Q := ⟨S, by rw [h.2.2, Int.mul_comm]⟩
  exact cop_dvd h1 (by rw [Int.gcd_comm]; exact h.2.1)
theorem Low.bot {v : Int × Int} {S Q : Int} (h : Low v S Q) (q : 0 < Q) : v.2.natAbs ≤ Q.natAbs := Nat.le_of_dvd (by omega) (Int.natAbs_dvd_natAbs.mpr h.dvd)
theorem Low.top {v : Int × Int} {S Q : Int} (h : Low v S Q) (q : 0 < Q) : v.1.natAbs ≤ S.natAbs := by
  have e : v.1.natAbs * Q.natAbs = S.natAbs * v.2.natAbs := by rw [← Int.natAbs_mul, ← Int.natAbs_mul, h.2.2]
  have b := h.bot q
  have h1 : v.1.natAbs * Q.natAbs ≤ S.natAbs * Q.natAbs := by rw [e]; exact Nat.mul_le_mul_left _ b
  exact Nat.le_of_mul_le_mul_right h1 (by omega)
structure Sh (xs : List α) (M : α → Int × Int) (L : α → Int) (Q : Int) : Prop where
  q : 0 < Q
  a : ∀ x ∈ xs, Low (M x) (L x) Q
variable [DecidableEq α]
def rest (xs : List α) (h : α) (f L : α → Int) : Int := sumX xs fun x => if x = h then 0 else f x * L x
theorem dot_rest {h : α} {f L : α → Int} (nd : xs.Nodup) (hx : h ∈ xs) : dotX xs f L = f h * L h + rest xs h f L := by
  have e : (fun x => f x * L x) = fun x => (if x = h then f h * L h else 0) + (if x = h then 0 else f x * L x) := by
    funext x
    by_cases c : x = h
    · subst c; simp
    · simp [c]
  show sumX xs (fun x => f x * L x) = _
  rw [e, sumX_add, sumX_one nd hx fun x _ ne => if_neg ne, if_pos rfl]; rfl
def newL (h : α) (p S : Int) (L : α → Int) : α → Int := fun x => if x = h then -S else L x * p
theorem Sh.step {M : α → Int × Int} {L : α → Int} {Q p : Int} {h : α} {S : Int} {v m' : Int × Int} (g : Sh xs M L Q) (hp : 0 < p) (hv : Low v S Q) (hm : Low m' (-v.1) (v.2 * p)) :
    Sh xs (fun x => if x = h then m' else M x) (newL h p S L) (Q * p) := by
  refine ⟨Int.mul_pos g.q hp, fun x hx => ?_⟩
  show Low (if x = h then m' else M x) (if x = h then -S else L x * p) (Q * p)
  by_cases c : x = h
  · rw [if_pos c, if_pos c]
    refine hm.re (Int.mul_ne_zero (by have := hv.1; omega) (by omega)) ?_
    rw [Int.neg_mul, Int.neg_mul, ← Int.mul_assoc, hv.2.2, Int.mul_assoc]
  · rw [if_neg c, if_neg c]
    obtain ⟨a, b, e⟩ := g.a x hx
    exact ⟨a, b, by rw [← Int.mul_assoc, e, Int.mul_right_comm]⟩
theorem new_own {h : α} {p : Int} {f L : α → Int} (nd : xs.Nodup) (hx : h ∈ xs) (hp : f h = p) : dotX xs f (newL h p (rest xs h f L) L) = 0 := by
  rw [dot_rest nd hx]
  have e : rest xs h f (newL h p (rest xs h f L) L) = p * rest xs h f L := by
    show sumX xs _ = p * sumX xs _
    rw [← sumX_mul]
    refine sumX_congr fun x _ => ?_
    by_cases c : x = h
    · rw [if_pos c, if_pos c, Int.mul_zero]
    · rw [if_neg c, if_neg c]
      show f x * (if x = h then _ else L x * p) = _
      rw [if_neg c, ← Int.mul_assoc, Int.mul_comm]
  rw [e]
  show f h * (if h = h then _ else _) + _ = 0
  rw [if_pos rfl, hp, Int.mul_neg]; omega
theorem new_off {h : α} {p S : Int} {f L : α → Int} (hz : f h = 0) : dotX xs f (newL h p S L) = p * dotX xs f L := by
  rw [← sumX_mul]
  refine sumX_congr fun x _ => ?_
  show f x * (if x = h then _ else L x * p) = _
  by_cases c : x = h
  · rw [c, hz]; simp
  · rw [if_neg c, ← Int.mul_assoc, Int.mul_comm]
/-- the integers that a shift tells: all moves times the least common bottom -/
structure Wh (xs : List α) (M : α → Int × Int) (W : Int) : Prop where
  pos : 0 < W
  all : ∀ x ∈ xs, (M x).2 ∣ W
  least : ∀ h : Int, (∀ x ∈ xs, (M x).2 ∣ h) → W ∣ h
def whole (M : α → Int × Int) (W : Int) (x : α) : Int := (M x).1 * (W / (M x).2)
theorem Wh.eq {M : α → Int × Int} {L : α → Int} {Q W : Int} (g : Sh xs M L Q) (h : Wh xs M W) {x : α} (hx : x ∈ xs) : whole M W x * Q = L x * W := by
  obtain ⟨a, b, e⟩ := g.a x hx
  obtain ⟨k, hk⟩ := h.all x hx
  show (M x).1 * (W / (M x).2) * Q = _
  have : W / (M x).2 = k := by rw [hk]; exact Int.mul_ediv_cancel_left _ (by omega)
  rw [this, Int.mul_right_comm, e, hk, Int.mul_assoc]
theorem Wh.dot {M : α → Int × Int} {L f : α → Int} {Q W : Int} (g : Sh xs M L Q) (h : Wh xs M W) : dotX xs f (whole M W) * Q = W * dotX xs f L := by
  rw [Int.mul_comm, ← sumX_mul, ← sumX_mul]
  refine sumX_congr fun x hx => ?_
  rw [Int.mul_comm, Int.mul_assoc, h.eq g hx, ← Int.mul_assoc, Int.mul_comm]
theorem Wh.zero {M : α → Int × Int} {L f : α → Int} {Q W : Int} (g : Sh xs M L Q) (h : Wh xs M W) (z : dotX xs f L = 0) : dotX xs f (whole M W) = 0 := by
  have := h.dot (f := f) g
  rw [z, Int.mul_zero] at this
  rcases Int.mul_eq_zero.mp this with h | h
  · exact h
  · have := g.q; omega
theorem Wh.plus {M : α → Int × Int} {L f : α → Int} {Q W : Int} (g : Sh xs M L Q) (h : Wh xs M W) (z : 0 < dotX xs f L) : 0 < dotX xs f (whole M W) := by
  have e := h.dot (f := f) g
  have h2 : 0 < dotX xs f (whole M W) * Q := by rw [e]; exact Int.mul_pos h.pos z
  exact Int.pos_of_mul_pos_left h2 g.q
theorem Wh.prim {M : α → Int × Int} {L : α → Int} {Q W : Int} (g : Sh xs M L Q) (h : Wh xs M W) {st : α} (hs : st ∈ xs) (e1 : (M st).1 = 1 ∨ (M st).1 = -1) (e2 : (M st).2 = 1) {d : Int} (hd : ∀ x ∈ xs, d ∣ whole M W x) : d ∣ 1 := by
  have dW : d ∣ W := by
    have : d ∣ (M st).1 * (W / (M st).2) := hd st hs
    rw [e2, Int.ediv_one] at this
    rcases e1 with e | e
    · rw [e, Int.one_mul] at this; exact this
    · rw [e, Int.neg_one_mul] at this; exact Int.dvd_neg.mp this
  obtain ⟨k, hk⟩ := dW
  have d0 : d ≠ 0 := fun c => by rw [c, Int.zero_mul] at hk; have := h.pos; omega
  have : W ∣ k := h.least k fun x hx => by
    obtain ⟨a, b, _⟩ := g.a x hx
    obtain ⟨q, hq⟩ := h.all x hx
    obtain ⟨r, hr⟩ := hd x hx
    have e : W / (M x).2 = q := by rw [hq]; exact Int.mul_ediv_cancel_left _ (by omega)
    have hr' : (M x).1 * q = d * r := by rw [← e]; exact hr
    have h3 : (M x).1 * k = r * (M x).2 := by
      refine Int.eq_of_mul_eq_mul_left d0 ?_
      calc d * ((M x).1 * k) = (M x).1 * (d * k) := by rw [← Int.mul_assoc, Int.mul_comm d, Int.mul_assoc]
        _ = (M x).1 * ((M x).2 * q) := by rw [← hk, hq]
        _ = (M x).1 * q * (M x).2 := by rw [Int.mul_comm (M x).2, Int.mul_assoc]
        _ = d * r * (M x).2 := by rw [hr']
        _ = d * (r * (M x).2) := by rw [Int.mul_assoc]
    have h4 : (M x).2 ∣ (M x).1 * k := ⟨r, by rw [h3, Int.mul_comm]⟩
    exact cop_dvd h4 (by rw [Int.gcd_comm]; exact b)
  obtain ⟨c, hc⟩ := this
  have k0 : k ≠ 0 := fun z => by rw [z, Int.mul_zero] at hk; have := h.pos; omega
  refine ⟨c, Int.eq_of_mul_eq_mul_left k0 ?_⟩
  calc k * 1 = k := Int.mul_one k
    _ = W * c := hc
    _ = d * k * c := by rw [← hk]
    _ = k * (d * c) := by rw [Int.mul_comm d, Int.mul_assoc]
end
end Ec
abbrev PG : Program := PySem.Challenge.pw_metehouse_k19_whole_cancelled_or_shifted
def topS (i : Nat) : Stmt := PySem.Challenge.pw_metehouse_k19_whole_cancelled_or_shifted.main.body.getD i (.Pass ⟨0, 0, 0, 0⟩)
abbrev s_common : Stmt := topS 7
theorem sc_common : FnScope ["numbers", "found", "number"] ["numbers"] (defScope s_common) := ⟨rfl, rfl, rfl, by decide +kernel, rfl, by decide +kernel, by decide +kernel⟩
abbrev s_ratio : Stmt := topS 8
theorem sc_ratio : FnScope ["top", "bottom", "divisor"] ["top", "bottom"] (defScope s_ratio) := ⟨rfl, rfl, rfl, by decide +kernel, rfl, by decide +kernel, by decide +kernel⟩
abbrev s_plus : Stmt := topS 9
theorem sc_plus : FnScope ["first", "second"] ["first", "second"] (defScope s_plus) := ⟨rfl, rfl, rfl, by decide +kernel, rfl, by decide +kernel, by decide +kernel⟩
abbrev s_times : Stmt := topS 10
theorem sc_times : FnScope ["first", "second"] ["first", "second"] (defScope s_times) := ⟨rfl, rfl, rfl, by decide +kernel, rfl, by decide +kernel, by decide +kernel⟩
abbrev s_is_quantity : Stmt := topS 15
theorem sc_is_quantity : FnScope ["text", "sign"] ["text"] (defScope s_is_quantity) := ⟨rfl, rfl, rfl, by decide +kernel, rfl, by decide +kernel, by decide +kernel⟩
abbrev s_all_names : Stmt := topS 16
theorem sc_all_names : FnScope ["forms", "found", "form", "name", "_"] ["forms"] (defScope s_all_names) := ⟨rfl, rfl, rfl, by decide +kernel, rfl, by decide +kernel, by decide +kernel⟩
abbrev s_added_terms : Stmt := topS 18
theorem sc_added_terms : FnScope ["terms", "sums", "name", "weight"] ["terms"] (defScope s_added_terms) := ⟨rfl, rfl, rfl, by decide +kernel, rfl, by decide +kernel, by decide +kernel⟩
abbrev s_Form___init : Stmt := inClass (topS 22) 0
theorem sc_Form___init : FnScope ["self", "terms", "constant"] ["self", "terms", "constant"] (defScope s_Form___init) := ⟨rfl, rfl, rfl, by decide +kernel, rfl, by decide +kernel, by decide +kernel⟩
abbrev s_in_lowest_terms : Stmt := topS 24
theorem sc_in_lowest_terms : FnScope ["terms", "weights", "numbers", "divisor", "less", "key", "number"] ["terms", "weights"] (defScope s_in_lowest_terms) := ⟨rfl, rfl, rfl, by decide +kernel, rfl, by decide +kernel, by decide +kernel⟩
abbrev s_sum_of : Stmt := topS 25
theorem sc_sum_of : FnScope ["first", "factor", "second", "more", "total", "key", "number"] ["first", "factor", "second", "more"] (defScope s_sum_of) := ⟨rfl, rfl, rfl, by decide +kernel, rfl, by decide +kernel, by decide +kernel⟩
abbrev s_Echelon___init : Stmt := inClass (topS 26) 0
theorem sc_Echelon___init : FnScope ["self"] ["self"] (defScope s_Echelon___init) := ⟨rfl, rfl, rfl, by decide +kernel, rfl, by decide +kernel, by decide +kernel⟩
abbrev s_Echelon_freed : Stmt := inClass (topS 26) 1
theorem sc_Echelon_freed : FnScope ["self", "terms", "index", "weights", "head", "own_terms", "own_weights", "divisor", "factor", "more"] ["self", "terms", "index"] (defScope s_Echelon_freed) := ⟨rfl, rfl, rfl, by decide +kernel, rfl, by decide +kernel, by decide +kernel⟩
abbrev s_Echelon_take : Stmt := inClass (topS 26) 2
theorem sc_Echelon_take : FnScope ["self", "terms", "index", "left", "weights", "head", "sign", "key", "number"] ["self", "terms", "index"] (defScope s_Echelon_take) := ⟨rfl, rfl, rfl, by decide +kernel, rfl, by decide +kernel, by decide +kernel⟩
abbrev s_Echelon_shift : Stmt := inClass (topS 26) 3
theorem sc_Echelon_shift : FnScope ["self", "left", "names", "moves", "name", "start", "head", "terms", "_", "total", "weight"] ["self", "left", "names"] (defScope s_Echelon_shift) := ⟨rfl, rfl, rfl, by decide +kernel, rfl, by decide +kernel, by decide +kernel⟩
abbrev s_whole_moves : Stmt := topS 27
theorem sc_whole_moves : FnScope ["moves", "whole", "_", "bottom", "name", "top"] ["moves"] (defScope s_whole_moves) := ⟨rfl, rfl, rfl, by decide +kernel, rfl, by decide +kernel, by decide +kernel⟩
abbrev s_echelon_of : Stmt := topS 28
theorem sc_echelon_of : FnScope ["lines", "echelon", "index", "line"] ["lines"] (defScope s_echelon_of) := ⟨rfl, rfl, rfl, by decide +kernel, rfl, by decide +kernel, by decide +kernel⟩
abbrev s_cancel : Stmt := topS 29
theorem sc_cancel : FnScope ["lines", "target", "echelon", "size", "left", "weights", "index"] ["lines", "target"] (defScope s_cancel) := ⟨rfl, rfl, rfl, by decide +kernel, rfl, by decide +kernel, by decide +kernel⟩
abbrev s_w_bag : Stmt := topS 31
theorem sc_w_bag : FnScope ["_law_script", "_law_place", "_law_seed", "_law_cell"] ["_law_script", "_law_place"] (defScope s_w_bag) := ⟨rfl, rfl, rfl, by decide +kernel, rfl, by decide +kernel, by decide +kernel⟩
abbrev s_w_take : Stmt := topS 32
theorem sc_w_take : FnScope ["_law_bag_here", "_law_many", "_law_digit", "_law_first", "_law_second"] ["_law_bag_here", "_law_many"] (defScope s_w_take) := ⟨rfl, rfl, rfl, by decide +kernel, rfl, by decide +kernel, by decide +kernel⟩
abbrev s_w_is_int : Stmt := topS 33
theorem sc_w_is_int : FnScope ["_law_found"] ["_law_found"] (defScope s_w_is_int) := ⟨rfl, rfl, rfl, by decide +kernel, rfl, by decide +kernel, by decide +kernel⟩
abbrev s_w_number : Stmt := topS 34
theorem sc_w_number : FnScope ["_law_bag_here", "_law_shift", "_law_way", "_law_large"] ["_law_bag_here", "_law_shift"] (defScope s_w_number) := ⟨rfl, rfl, rfl, by decide +kernel, rfl, by decide +kernel, by decide +kernel⟩
abbrev s_w_quantity : Stmt := topS 35
theorem sc_w_quantity : FnScope ["_law_bag_here", "_law_shift", "_law_text", "_law_size", "_law_k"] ["_law_bag_here", "_law_shift"] (defScope s_w_quantity) := ⟨rfl, rfl, rfl, by decide +kernel, rfl, by decide +kernel, by decide +kernel⟩
abbrev s_w_names : Stmt := topS 36
theorem sc_w_names : FnScope ["_law_bag_here", "_law_many", "_law_names_here", "_law_k", "_law_name"] ["_law_bag_here", "_law_many"] (defScope s_w_names) := ⟨rfl, rfl, rfl, by decide +kernel, rfl, by decide +kernel, by decide +kernel⟩
abbrev s_w_terms : Stmt := topS 37
theorem sc_w_terms : FnScope ["_law_pairs", "_law_total", "_law_name", "_law_weight"] ["_law_pairs"] (defScope s_w_terms) := ⟨rfl, rfl, rfl, by decide +kernel, rfl, by decide +kernel, by decide +kernel⟩
abbrev s_w_free : Stmt := topS 38
theorem sc_w_free : FnScope ["_law_words", "_law_numbers", "_law_names_here", "_law_shift", "_law_pairs", "_law_k", "_law_name"] ["_law_words", "_law_numbers", "_law_names_here", "_law_shift"] (defScope s_w_free) := ⟨rfl, rfl, rfl, by decide +kernel, rfl, by decide +kernel, by decide +kernel⟩
abbrev s_w_mixed : Stmt := topS 39
theorem sc_w_mixed : FnScope ["_law_lines_here", "_law_numbers", "_law_shift", "_law_pairs", "_law_k", "_law_line", "_law_factor", "_law_name", "_law_weight"] ["_law_lines_here", "_law_numbers", "_law_shift"] (defScope s_w_mixed) := ⟨rfl, rfl, rfl, by decide +kernel, rfl, by decide +kernel, by decide +kernel⟩
abbrev s_w_lines : Stmt := topS 40
theorem sc_w_lines : FnScope ["_law_words", "_law_numbers", "_law_names_here", "_law_count", "_law_turn", "_law_lines_here", "_law_k", "_law_pairs", "_law_way", "_law_name", "_law_weight"] ["_law_words", "_law_numbers", "_law_names_here", "_law_count", "_law_turn"] (defScope s_w_lines) := ⟨rfl, rfl, rfl, by decide +kernel, rfl, by decide +kernel, by decide +kernel⟩
abbrev s_w_is_form : Stmt := topS 41
theorem sc_w_is_form : FnScope ["_law_found", "_law_terms_here", "_law_constant"] ["_law_found", "_law_terms_here", "_law_constant"] (defScope s_w_is_form) := ⟨rfl, rfl, rfl, by decide +kernel, rfl, by decide +kernel, by decide +kernel⟩
abbrev s_w_divisor : Stmt := topS 42
theorem sc_w_divisor : FnScope ["_law_numbers", "_law_found", "_law_number_here", "_law_first", "_law_turn"] ["_law_numbers"] (defScope s_w_divisor) := ⟨rfl, rfl, rfl, by decide +kernel, rfl, by decide +kernel, by decide +kernel⟩
abbrev s_w_change : Stmt := topS 43
theorem sc_w_change : FnScope ["_law_line", "_law_moves", "_law_name", "_law_weight"] ["_law_line", "_law_moves"] (defScope s_w_change) := ⟨rfl, rfl, rfl, by decide +kernel, rfl, by decide +kernel, by decide +kernel⟩
abbrev s_w_quantities : Stmt := topS 44
theorem sc_w_quantities : FnScope ["_law_lines_here", "_law_target_here", "_law_names_here", "_law_line", "_law_name", "_law_weight"] ["_law_lines_here", "_law_target_here"] (defScope s_w_quantities) := ⟨rfl, rfl, rfl, by decide +kernel, rfl, by decide +kernel, by decide +kernel⟩
abbrev s_w_gives : Stmt := topS 45
theorem sc_w_gives : FnScope ["_law_scale", "_law_weights", "_law_lines_here", "_law_target_here", "_law_weight", "_law_total", "_law_name", "_law_factor", "_law_line"] ["_law_scale", "_law_weights", "_law_lines_here", "_law_target_here"] (defScope s_w_gives) := ⟨rfl, rfl, rfl, by decide +kernel, rfl, by decide +kernel, by decide +kernel⟩
abbrev s_w_shifts : Stmt := topS 46
theorem sc_w_shifts : FnScope ["_law_moves", "_law_lines_here", "_law_target_here", "_law_names_here", "_law_name", "_law_line"] ["_law_moves", "_law_lines_here", "_law_target_here"] (defScope s_w_shifts) := ⟨rfl, rfl, rfl, by decide +kernel, rfl, by decide +kernel, by decide +kernel⟩
abbrev s_w_answer : Stmt := topS 47
theorem sc_w_answer : FnScope ["_law_found", "_law_lines_here", "_law_target_here"] ["_law_found", "_law_lines_here", "_law_target_here"] (defScope s_w_answer) := ⟨rfl, rfl, rfl, by decide +kernel, rfl, by decide +kernel, by decide +kernel⟩
abbrev s_w_target : Stmt := topS 48
theorem sc_w_target : FnScope ["_law_words", "_law_numbers", "_law_names_here", "_law_lines_here", "_law_way", "_law_pairs", "_law_total", "_law_common", "_law_name", "_law_weight"] ["_law_words", "_law_numbers", "_law_names_here", "_law_lines_here"] (defScope s_w_target) := ⟨rfl, rfl, rfl, by decide +kernel, rfl, by decide +kernel, by decide +kernel⟩
abbrev s_w_asked : Stmt := topS 49
theorem sc_w_asked : FnScope ["_law_lines_here", "_law_constants", "_law_target_here", "_law_constant", "_law_given", "_law_line", "_law_number_here", "_law_form", "_law_found", "_law_k"] ["_law_lines_here", "_law_constants", "_law_target_here", "_law_constant"] (defScope s_w_asked) := ⟨rfl, rfl, rfl, by decide +kernel, rfl, by decide +kernel, by decide +kernel⟩
abbrev s_law : Stmt := topS 50
theorem sc_law : FnScope ["_law_script", "_law_sizes", "_law_words", "_law_numbers", "_law_names_here", "_law_count", "_law_lines_here", "_law_constants", "_law_k", "_law_target_here", "_law_other", "_law_constant", "_law_turned"] ["_law_script"] (defScope s_law) := ⟨rfl, rfl, rfl, by decide +kernel, rfl, by decide +kernel, by decide +kernel⟩
/-- what the top has written -/
structure Tx (K : PySem.W.Frag) (mg : Str → Option Value) : Type where
  f_common : Addr
  fd_common : FuncData
  F_common : Fun K "common" "common" s_common f_common fd_common
  g_common : mg "common" = some (.ref f_common)
  f_ratio : Addr
  fd_ratio : FuncData
  F_ratio : FunD K "ratio" "ratio" (defArgs s_ratio) (defBody s_ratio) (defScope s_ratio) [V.int (1)] [] f_ratio fd_ratio
  g_ratio : mg "ratio" = some (.ref f_ratio)
  b1_ratio : ∃ ds, Vals (List.drop 0 [V.int (1)]) ds ∧ Binds K fd_ratio ["top", "bottom"] ds
  b2_ratio : ∃ ds, Vals (List.drop 1 [V.int (1)]) ds ∧ Binds K fd_ratio ["top", "bottom"] ds
  f_plus : Addr
  fd_plus : FuncData
  F_plus : Fun K "plus" "plus" s_plus f_plus fd_plus
  g_plus : mg "plus" = some (.ref f_plus)
  b_plus : Binds K fd_plus ["first", "second"] []
  f_times : Addr
  fd_times : FuncData
  F_times : Fun K "times" "times" s_times f_times fd_times
  g_times : mg "times" = some (.ref f_times)
  b_times : Binds K fd_times ["first", "second"] []
  f_is_quantity : Addr
  fd_is_quantity : FuncData
  F_is_quantity : Fun K "is_quantity" "is_quantity" s_is_quantity f_is_quantity fd_is_quantity
  g_is_quantity : mg "is_quantity" = some (.ref f_is_quantity)
  b_is_quantity : Binds K fd_is_quantity ["text"] []
  f_all_names : Addr
  fd_all_names : FuncData
  F_all_names : Fun K "all_names" "all_names" s_all_names f_all_names fd_all_names
  g_all_names : mg "all_names" = some (.ref f_all_names)
  b_all_names : Binds K fd_all_names ["forms"] []
  f_added_terms : Addr
  fd_added_terms : FuncData
  F_added_terms : Fun K "added_terms" "added_terms" s_added_terms f_added_terms fd_added_terms
  g_added_terms : mg "added_terms" = some (.ref f_added_terms)
  b_added_terms : Binds K fd_added_terms ["terms"] []
  f_Form___init : Addr
  fd_Form___init : FuncData
  e_Form___init : Addr
  te_Form___init : SqTK K e_Form___init []
  F_Form___init : FunD K "__init__" "Form.__init__" (defArgs s_Form___init) (defBody s_Form___init) (defScope s_Form___init) [V.ref e_Form___init, V.int (0)] [] f_Form___init fd_Form___init
  b1_Form___init : ∃ ds, Vals (List.drop 0 [V.ref e_Form___init, V.int (0)]) ds ∧ Binds K fd_Form___init ["self", "terms", "constant"] ds
  b2_Form___init : ∃ ds, Vals (List.drop 1 [V.ref e_Form___init, V.int (0)]) ds ∧ Binds K fd_Form___init ["self", "terms", "constant"] ds
  b3_Form___init : ∃ ds, Vals (List.drop 2 [V.ref e_Form___init, V.int (0)]) ds ∧ Binds K fd_Form___init ["self", "terms", "constant"] ds
  f_in_lowest_terms : Addr
  fd_in_lowest_terms : FuncData
  F_in_lowest_terms : Fun K "in_lowest_terms" "in_lowest_terms" s_in_lowest_terms f_in_lowest_terms fd_in_lowest_terms
  g_in_lowest_terms : mg "in_lowest_terms" = some (.ref f_in_lowest_terms)
  b_in_lowest_terms : Binds K fd_in_lowest_terms ["terms", "weights"] []
  f_sum_of : Addr
  fd_sum_of : FuncData
  F_sum_of : Fun K "sum_of" "sum_of" s_sum_of f_sum_of fd_sum_of
  g_sum_of : mg "sum_of" = some (.ref f_sum_of)
  b_sum_of : Binds K fd_sum_of ["first", "factor", "second", "more"] []
  f_Echelon___init : Addr
  fd_Echelon___init : FuncData
  F_Echelon___init : Fun K "__init__" "Echelon.__init__" s_Echelon___init f_Echelon___init fd_Echelon___init
  b_Echelon___init : Binds K fd_Echelon___init ["self"] []
  f_Echelon_freed : Addr
  fd_Echelon_freed : FuncData
  F_Echelon_freed : Fun K "freed" "Echelon.freed" s_Echelon_freed f_Echelon_freed fd_Echelon_freed
  b_Echelon_freed : Binds K fd_Echelon_freed ["self", "terms", "index"] []
  f_Echelon_take : Addr
  fd_Echelon_take : FuncData
  F_Echelon_take : Fun K "take" "Echelon.take" s_Echelon_take f_Echelon_take fd_Echelon_take
  b_Echelon_take : Binds K fd_Echelon_take ["self", "terms", "index"] []
  f_Echelon_shift : Addr
  fd_Echelon_shift : FuncData
  F_Echelon_shift : Fun K "shift" "Echelon.shift" s_Echelon_shift f_Echelon_shift fd_Echelon_shift
  b_Echelon_shift : Binds K fd_Echelon_shift ["self", "left", "names"] []
  f_whole_moves : Addr
  fd_whole_moves : FuncData
  F_whole_moves : Fun K "whole_moves" "whole_moves" s_whole_moves f_whole_moves fd_whole_moves
  g_whole_moves : mg "whole_moves" = some (.ref f_whole_moves)
  b_whole_moves : Binds K fd_whole_moves ["moves"] []
  f_echelon_of : Addr
  fd_echelon_of : FuncData
  F_echelon_of : Fun K "echelon_of" "echelon_of" s_echelon_of f_echelon_of fd_echelon_of
  g_echelon_of : mg "echelon_of" = some (.ref f_echelon_of)
  b_echelon_of : Binds K fd_echelon_of ["lines"] []
  f_cancel : Addr
  fd_cancel : FuncData
  F_cancel : Fun K "cancel" "cancel" s_cancel f_cancel fd_cancel
  g_cancel : mg "cancel" = some (.ref f_cancel)
  b_cancel : Binds K fd_cancel ["lines", "target"] []
  f_w_bag : Addr
  fd_w_bag : FuncData
  F_w_bag : Fun K "_law_bag" "_law_bag" s_w_bag f_w_bag fd_w_bag
  g_w_bag : mg "_law_bag" = some (.ref f_w_bag)
  b_w_bag : Binds K fd_w_bag ["_law_script", "_law_place"] []
  f_w_take : Addr
  fd_w_take : FuncData
  F_w_take : Fun K "_law_take" "_law_take" s_w_take f_w_take fd_w_take
  g_w_take : mg "_law_take" = some (.ref f_w_take)
  b_w_take : Binds K fd_w_take ["_law_bag_here", "_law_many"] []
  f_w_is_int : Addr
  fd_w_is_int : FuncData
  F_w_is_int : Fun K "_law_is_int" "_law_is_int" s_w_is_int f_w_is_int fd_w_is_int
  g_w_is_int : mg "_law_is_int" = some (.ref f_w_is_int)
  b_w_is_int : Binds K fd_w_is_int ["_law_found"] []
  f_w_number : Addr
  fd_w_number : FuncData
  F_w_number : Fun K "_law_number" "_law_number" s_w_number f_w_number fd_w_number
  g_w_number : mg "_law_number" = some (.ref f_w_number)
  b_w_number : Binds K fd_w_number ["_law_bag_here", "_law_shift"] []
  f_w_quantity : Addr
  fd_w_quantity : FuncData
  F_w_quantity : Fun K "_law_quantity" "_law_quantity" s_w_quantity f_w_quantity fd_w_quantity
  g_w_quantity : mg "_law_quantity" = some (.ref f_w_quantity)
  b_w_quantity : Binds K fd_w_quantity ["_law_bag_here", "_law_shift"] []
  f_w_names : Addr
  fd_w_names : FuncData
  F_w_names : Fun K "_law_names" "_law_names" s_w_names f_w_names fd_w_names
  g_w_names : mg "_law_names" = some (.ref f_w_names)
  b_w_names : Binds K fd_w_names ["_law_bag_here", "_law_many"] []
  f_w_terms : Addr
  fd_w_terms : FuncData
  F_w_terms : Fun K "_law_terms" "_law_terms" s_w_terms f_w_terms fd_w_terms
  g_w_terms : mg "_law_terms" = some (.ref f_w_terms)
  b_w_terms : Binds K fd_w_terms ["_law_pairs"] []
  f_w_free : Addr
  fd_w_free : FuncData
  F_w_free : Fun K "_law_free" "_law_free" s_w_free f_w_free fd_w_free
  g_w_free : mg "_law_free" = some (.ref f_w_free)
  b_w_free : Binds K fd_w_free ["_law_words", "_law_numbers", "_law_names_here", "_law_shift"] []
  f_w_mixed : Addr
  fd_w_mixed : FuncData
  F_w_mixed : Fun K "_law_mixed" "_law_mixed" s_w_mixed f_w_mixed fd_w_mixed
  g_w_mixed : mg "_law_mixed" = some (.ref f_w_mixed)
  b_w_mixed : Binds K fd_w_mixed ["_law_lines_here", "_law_numbers", "_law_shift"] []
  f_w_lines : Addr
  fd_w_lines : FuncData
  F_w_lines : Fun K "_law_lines" "_law_lines" s_w_lines f_w_lines fd_w_lines
  g_w_lines : mg "_law_lines" = some (.ref f_w_lines)
  b_w_lines : Binds K fd_w_lines ["_law_words", "_law_numbers", "_law_names_here", "_law_count", "_law_turn"] []
  f_w_is_form : Addr
  fd_w_is_form : FuncData
  F_w_is_form : Fun K "_law_is_form" "_law_is_form" s_w_is_form f_w_is_form fd_w_is_form
  g_w_is_form : mg "_law_is_form" = some (.ref f_w_is_form)
  b_w_is_form : Binds K fd_w_is_form ["_law_found", "_law_terms_here", "_law_constant"] []
  f_w_divisor : Addr
  fd_w_divisor : FuncData
  F_w_divisor : Fun K "_law_divisor" "_law_divisor" s_w_divisor f_w_divisor fd_w_divisor
  g_w_divisor : mg "_law_divisor" = some (.ref f_w_divisor)
  b_w_divisor : Binds K fd_w_divisor ["_law_numbers"] []
  f_w_change : Addr
  fd_w_change : FuncData
  F_w_change : Fun K "_law_change" "_law_change" s_w_change f_w_change fd_w_change
  g_w_change : mg "_law_change" = some (.ref f_w_change)
  b_w_change : Binds K fd_w_change ["_law_line", "_law_moves"] []
  f_w_quantities : Addr
  fd_w_quantities : FuncData
  F_w_quantities : Fun K "_law_quantities" "_law_quantities" s_w_quantities f_w_quantities fd_w_quantities
  g_w_quantities : mg "_law_quantities" = some (.ref f_w_quantities)
  b_w_quantities : Binds K fd_w_quantities ["_law_lines_here", "_law_target_here"] []
  f_w_gives : Addr
  fd_w_gives : FuncData
  F_w_gives : Fun K "_law_gives" "_law_gives" s_w_gives f_w_gives fd_w_gives
  g_w_gives : mg "_law_gives" = some (.ref f_w_gives)
  b_w_gives : Binds K fd_w_gives ["_law_scale", "_law_weights", "_law_lines_here", "_law_target_here"] []
  f_w_shifts : Addr
  fd_w_shifts : FuncData
  F_w_shifts : Fun K "_law_shifts" "_law_shifts" s_w_shifts f_w_shifts fd_w_shifts
  g_w_shifts : mg "_law_shifts" = some (.ref f_w_shifts)
  b_w_shifts : Binds K fd_w_shifts ["_law_moves", "_law_lines_here", "_law_target_here"] []
  f_w_answer : Addr
  fd_w_answer : FuncData
  F_w_answer : Fun K "_law_answer" "_law_answer" s_w_answer f_w_answer fd_w_answer
  g_w_answer : mg "_law_answer" = some (.ref f_w_answer)
  b_w_answer : Binds K fd_w_answer ["_law_found", "_law_lines_here", "_law_target_here"] []
  f_w_target : Addr
  fd_w_target : FuncData
  F_w_target : Fun K "_law_target" "_law_target" s_w_target f_w_target fd_w_target
  g_w_target : mg "_law_target" = some (.ref f_w_target)
  b_w_target : Binds K fd_w_target ["_law_words", "_law_numbers", "_law_names_here", "_law_lines_here"] []
  f_w_asked : Addr
  fd_w_asked : FuncData
  F_w_asked : Fun K "_law_asked" "_law_asked" s_w_asked f_w_asked fd_w_asked
  g_w_asked : mg "_law_asked" = some (.ref f_w_asked)
  b_w_asked : Binds K fd_w_asked ["_law_lines_here", "_law_constants", "_law_target_here", "_law_constant"] []
  f_law : Addr
  fd_law : FuncData
  F_law : Fun K "law" "law" s_law f_law fd_law
  g_law : mg "law" = some (.ref f_law)
  b_law : Binds K fd_law ["_law_script"] []
  C_Form : Addr
  gC_Form : mg "Form" = some (.ref C_Form)
  oc_Form : Ow.OC K C_Form
  na_Form_terms : NoAttr K C_Form "terms"
  na_Form_constant : NoAttr K C_Form "constant"
  mk_Form : Mk K C_Form f_Form___init
  si_Form : PySem.W.subIn K (.ref C_Form) (.type "int") = some false
  is_Form : PySem.W.subIn K (.type "int") (.ref C_Form) = some false
  C_Echelon : Addr
  gC_Echelon : mg "Echelon" = some (.ref C_Echelon)
  oc_Echelon : Ow.OC K C_Echelon
  na_Echelon_steps : NoAttr K C_Echelon "steps"
  mk_Echelon : Mk K C_Echelon f_Echelon___init
  me_Echelon_freed : Meth K C_Echelon "freed" f_Echelon_freed
  me_Echelon_take : Meth K C_Echelon "take" f_Echelon_take
  me_Echelon_shift : Meth K C_Echelon "shift" f_Echelon_shift
  si_Echelon : PySem.W.subIn K (.ref C_Echelon) (.type "int") = some false
  is_Echelon : PySem.W.subIn K (.type "int") (.ref C_Echelon) = some false
  m_len : mg "len" = none
  m_range : mg "range" = none
  m_isinstance : mg "isinstance" = none
  m_int : mg "int" = none
  m_bool : mg "bool" = none
  m_str : mg "str" = none
  m_list : mg "list" = none
  m_tuple : mg "tuple" = none
  m_dict : mg "dict" = none
  m_abs : mg "abs" = none
  m_max : mg "max" = none
  m_min : mg "min" = none
  m_sum : mg "sum" = none
  m_sorted : mg "sorted" = none
  m_enumerate : mg "enumerate" = none
  m_zip : mg "zip" = none
  m_all : mg "all" = none
  m_ZeroDivisionError : mg "ZeroDivisionError" = none
  m_gcd : mg "gcd" = some (.builtin "math.gcd")
  m_lcm : mg "lcm" = some (.builtin "math.lcm")
  c_LETTERS : ∃ t, mg "LETTERS" = some (.str "abcdefghijklmnopqrstuvwxyz" t)
  c_QUANTITY_SIGNS : ∃ t, mg "QUANTITY_SIGNS" = some (.str "abcdefghijklmnopqrstuvwxyz.0123456789" t)
  c_LONGEST_QUANTITY : ∃ t, mg "LONGEST_QUANTITY" = some (.int (12) t)
local macro_rules | `(tactic| walk_at "st") => `(tactic| first
  | (with_reducible refine r_seq ?_)
  | (with_reducible refine r_asg ?_)
  | (with_reducible refine r_ifS ?_)
  | (with_reducible refine r_ret ?_)
  | (with_reducible refine r_next ?_)
  | (with_reducible refine r_drop ?_)
  | (with_reducible refine r_retN ?_)
  | (with_reducible refine r_cont ?_)
  | (with_reducible refine r_break ?_)
  | (with_reducible refine r_op ?_)
  | (with_reducible refine r_un ?_)
  | ((with_reducible refine' r_var ?h1 ?_); (case h1 => exact rfl))
  | (with_reducible refine r_c ?_)
  | (with_reducible refine r_I0 ?_)
  | (with_reducible refine r_eqI ?_)
  | (with_reducible refine r_neI ?_)
  | (with_reducible refine r_eqS ?_)
  | (with_reducible refine r_neS ?_)
  | (with_reducible refine r_eqB ?_)
  | (with_reducible refine r_neB ?_)
  | (with_reducible refine r_U ?_)
  | (with_reducible refine r_test ?_)
  | (with_reducible refine r_tB ?_)
  | (with_reducible refine r_bl ?_)
  | (with_reducible refine r_and ?_)
  | (with_reducible refine r_or ?_)
  | (with_reducible refine r_not ?_)
  | (with_reducible refine r_andV ?_)
  | (with_reducible refine r_orV ?_)
  | (with_reducible refine r_notV ?_)
  | (with_reducible refine r_if ?_)
  | (with_reducible refine r_chain ?_)
  | (with_reducible refine r_gName0 ?_)
  | (with_reducible refine r_gName1 ?_)
  | (with_reducible refine r_gName2 ?_)
  | (with_reducible refine r_gName3 ?_)
  | (with_reducible refine r_gName4 ?_)
  | (with_reducible refine r_gName5 ?_)
  | (with_reducible refine r_gName6 ?_)
  | (with_reducible refine r_gName7 ?_)
  | (with_reducible refine r_gName8 ?_)
  | (with_reducible refine r_gName9 ?_)
  | (with_reducible refine r_gName10 ?_)
  | (with_reducible refine r_gName11 ?_)
  | (with_reducible refine r_gName12 ?_)
  | (with_reducible refine r_gName13 ?_)
  | (with_reducible refine r_gName14 ?_)
  | (with_reducible refine r_gName15 ?_)
  | (with_reducible refine r_gName16 ?_)
  | (with_reducible refine r_gName17 ?_)
  | (with_reducible refine r_gName18 ?_)
  | (with_reducible refine r_gName19 ?_)
  | (with_reducible refine r_cb ?_)
  | (with_reducible refine r_cons ?_)
  | (with_reducible refine r_nil ?_)
  | ((with_reducible refine r_call ?_); try simp only [List.cons_append, List.nil_append])
  | ((with_reducible refine r_callSD ?_); try simp only [List.cons_append, List.nil_append])
  | (with_reducible refine r_gSub ?_)
  | (with_reducible refine r_sl ?_)
  | (with_reducible refine r_lst ?_)
  | (with_reducible refine r_tup ?_)
  | (with_reducible refine r_int1 ?_)
  | (with_reducible refine r_intB ?_)
  | ((with_reducible refine r_in1 ?_); try simp only [abs_if])
  | ((with_reducible refine r_in2 ?_); try simp only [max_if])
  | (with_reducible refine r_forR1 ?_)
  | (with_reducible refine r_forR2 ?_)
  | (with_reducible refine r_forL ?_)
  | (with_reducible refine r_forT ?_)
  | (with_reducible refine r_lcR1 ?_)
  | (with_reducible refine r_lcL ?_)
  | (with_reducible refine r_lcT ?_)
  | (with_reducible refine r_yes ?_)
  | (with_reducible refine r_tPart ?_)
  | (with_reducible refine r_noPart ?_)
  | (with_reducible refine r_exI ?_)
  | (with_reducible refine r_par ?_)
  | (with_reducible refine Er.r_raise1 ?_)
  | (with_reducible refine r_isN ?_)
  | (with_reducible refine r_isI ?_)
  | (with_reducible refine r_isR ?_)
  | (with_reducible refine r_isS ?_)
  | (with_reducible refine r_noN ?_)
  | (with_reducible refine r_noI ?_)
  | (with_reducible refine r_noR ?_)
  | (with_reducible refine r_noS ?_)
  | (with_reducible refine r_isB ?_)
  | (with_reducible refine r_noB ?_)
  | (with_reducible refine r_iteTT ?_)
  | (with_reducible refine r_iteFF ?_)
  | (with_reducible refine Er.r_xf ?_)
  | (with_reducible refine r_bm ?_)
  | ((with_reducible refine' r_tyL ?h1 ?_); (case h1 => walk_at "sq"))
  | ((with_reducible refine' r_app ?h1 ?h2 ?_); (case h1 => walk_at "hp"); (case h2 => exact lt_size (by simp only [List.length_map, List.length_append, List.length_cons, List.length_nil]; omega)))
  | (with_reducible refine r_exP ?_)
  | (with_reducible refine r_iteT rfl ?_)
  | (with_reducible refine r_iteNF rfl ?_)
  | ((with_reducible refine' r_ixL ?h1 ?h2 ?_); (case h1 => walk_at "sq"); (case h2 => walk_at "at"))
  | ((with_reducible refine' r_ixT ?h1 ?h2 ?_); (case h1 => walk_at "sq"); (case h2 => walk_at "at"))
  | (with_reducible refine r_lenL (sqL_of (by assumption)) ?_)
  | (with_reducible refine r_lenT (sqT_of (by assumption)) ?_)
  | ((with_reducible refine' r_lenL ?h1 ?_); (case h1 => walk_at "sq"))
  | ((with_reducible refine' r_lenT ?h1 ?_); (case h1 => walk_at "sq"))
  | ((with_reducible refine' r_setP0 ?h1 ?_); (case h1 => walk_at "hp"); try simp only [upd_upd])
  | ((with_reducible refine' r_setP1 ?h1 ?_); (case h1 => walk_at "hp"); try simp only [upd_upd])
  | ((with_reducible refine' r_setP2 ?h1 ?_); (case h1 => walk_at "hp"); try simp only [upd_upd])
  | ((with_reducible refine' r_setP3 ?h1 ?_); (case h1 => walk_at "hp"); try simp only [upd_upd])
  | ((with_reducible refine' r_setL ?h1 ?h2 ?_); (case h1 => walk_at "hp"); (case h2 => walk_at "ix"))
  | ((with_reducible refine r_I ?h1 ?_); (case h1 => walk_at "side"); try simp only [Int.reduceToNat, Int.reducePow])
  | ((with_reducible refine r_iteT ?h1 ?_); (case h1 => walk_at "dec"))
  | ((with_reducible refine r_iteF ?h1 ?_); (case h1 => walk_at "dec"))
  | ((with_reducible refine r_iteNT ?h1 ?_); (case h1 => walk_at "dec"))
  | ((with_reducible refine r_iteNF ?h1 ?_); (case h1 => walk_at "dec"))
  | ((with_reducible refine' r_gNameW ?h1 ?_); (case h1 => (simp only [L2.wipe, List.map_cons, List.map_nil, List.set_cons_zero, List.set_cons_succ]; try exact rfl)))
  | ((with_reducible refine r_wipe ?h1 ?_); (case h1 => rfl))
  | (with_reducible refine iteT ?_)
  | (with_reducible refine r_iteNT1 ?_)
  | (with_reducible refine r_iteNF1 ?_)
  | (with_reducible refine r_gcd ?_)
  | ((with_reducible refine' r_isi ?h1 ?h2 ?_); (case h1 => first | exact .base (.int _) | exact .base (.bl _) | exact .base (.str _) | exact .base .non | exact .base (.tup (by walk_at "hp")) | exact .base (.lst (by walk_at "hp")) | exact .base (.dK (by walk_at "hp"))); (case h2 => first | (with_reducible exact kit_ii) | (with_reducible exact kit_ib) | (with_reducible exact kit_tt) | (with_reducible exact kit_ss) | (with_reducible exact kit_ll) | (with_reducible exact kit_bb) | (with_reducible exact kit_bi) | (with_reducible exact kit_dd) | (with_reducible exact kit_nt) | (with_reducible exact kit_ni) | (with_reducible exact kit_is) | (with_reducible exact kit_si) | (with_reducible exact kit_it)))
  | (with_reducible refine iteF ?_)
  | ((with_reducible refine And.intro ?h1 ?_); (case h1 => exact le_size (by simp only [List.length_cons, List.length_nil]; omega)))
  | (with_reducible refine r_nxE ?_)
  | (with_reducible refine r_bkE ?_)
  | (with_reducible refine r_ctE ?_)
  | (with_reducible refine r_rtE ?_))
local macro_rules | `(tactic| walk_at "sts") => `(tactic| repeat walk_at "st")
local macro_rules | `(tactic| walk_at "hp") => `(tactic| first | assumption | exact upd_same | (rw [upd_ne (by walk_at "ne")]; walk_at "hp") | exact Keep.out (by assumption) (by walk_at "nin") (by walk_at "hp"))
local macro_rules | `(tactic| walk_at "nin") => `(tactic| (simp only [List.mem_cons, List.not_mem_nil, or_false, not_false_eq_true]; first | done | walk_at "ne"))
local macro_rules | `(tactic| walk_at "ne") => `(tactic| first | assumption | (apply Ne.symm; assumption) | exact ne_free (by assumption) (by assumption) | exact (ne_free (by assumption) (by assumption)).symm)
local macro_rules | `(tactic| walk_at "sq") => `(tactic| first | assumption | exact sqL_of (by walk_at "hp") | exact sqT_of (by walk_at "hp") | exact Keep.l (by assumption) (by walk_at "nin") (by walk_at "sq") | exact Keep.t (by assumption) (by walk_at "nin") (by walk_at "sq"))
local macro_rules | `(tactic| walk_at "at") => `(tactic| first
  | exact atI_nat (j := 0) rfl | exact atI_nat (j := 1) rfl | exact atI_nat (j := 2) rfl | exact atI_nat (j := 3) rfl | exact atI_nat (j := 4) rfl | exact atI_nat (j := 5) rfl
  | (refine atI_map ?_ ?_ <;> omega) | assumption)
local macro_rules | `(tactic| walk_at "ix") => `(tactic| first | exact ixN_of (by decide) (by simp; omega) | exact ixN_of (by omega) (by simp; omega))
local macro_rules | `(tactic| walk_at "side") => `(tactic| first | omega | decide | exact .inl (by omega) | exact .inr (by omega) | exact ⟨by omega, by omega⟩ | exact .inl (.inl (by omega)) | exact .inl (.inr (by omega)) | (exact ⟨by decide, by decide, by decide⟩) | (exact ⟨by omega, by decide⟩))
local macro_rules | `(tactic| walk_at "start") => `(tactic| simp only [start_cc, start_cn, start_nn, cxOf_K])
local macro_rules | `(tactic| walk_at "dec") => `(tactic| first | omega | (simp only [List.length_cons, List.length_nil, List.length_map, List.length_append]; omega))
local macro_rules | `(tactic| walk_at "st") => `(tactic| first
  | (with_reducible refine Ow.r_fld ?_)
  | ((with_reducible refine' Ow.r_fldAt ?h1 ?h2 ?h3 ?h4 ?_); (case h1 => walk_at "hp"); (case h2 => exact Ow.OC.cl (by assumption)); (case h3 => assumption); (case h4 => rfl))
  | (with_reducible refine Ow.r_len_str ?_))
local macro_rules | `(tactic| walk_at "st") => `(tactic| first
  | (with_reducible refine r_inSg ?_)
  | (with_reducible refine r_ninSg ?_)
  | (with_reducible refine r_dnew ?_)
  | (with_reducible refine r_dget ?_)
  | (with_reducible refine r_dget2 ?_)
  | (with_reducible refine r_dput ?_)
  | (with_reducible refine r_din ?_)
  | (with_reducible refine r_dnin ?_)
  | (with_reducible refine r_strS ?_)
  | (with_reducible refine r_lcS ?_)
  | ((with_reducible refine' r_isD ?h1 ?_); (case h1 => walk_at "hp"))
  | ((with_reducible refine' r_dgetO ?h1 ?_); (case h1 => walk_at "hp"))
  | ((with_reducible refine' r_gTup2 ?h1 ?_); (case h1 => walk_at "sq"); try simp only [List.set_cons_zero, List.set_cons_succ]))
local macro_rules | `(tactic| walk_at "st") => `(tactic| first
  | (with_reducible refine r_js ?_)
  | (with_reducible refine r_js0 ?_)
  | (with_reducible refine r_fmt ?_))
local macro_rules | `(tactic| walk_at "st") => `(tactic| first
  | (with_reducible refine Ow.r_sfld ?_)
  | ((with_reducible refine' Ow.r_sfldAt ?h1 ?h2 ?h3 ?h4 ?_); (case h1 => walk_at "hp"); (case h2 => exact Ow.OC.cl (by assumption)); (case h3 => assumption); (case h4 => (simp only [List.length_cons, List.length_nil]; omega)))
  | ((with_reducible refine Ow.r_make ?_); try simp only [List.cons_append, List.nil_append])
  | ((with_reducible refine Ow.r_meth ?_); skip)
  | ((with_reducible refine' Ow.r_methAt ?h1 ?h2 ?_); (case h1 => walk_at "hp"); (case h2 => rfl); try simp only [List.cons_append, List.nil_append]))
/-! ### common, ratio, plus, times -/
def gcdAll (ns : List Int) : Int := ns.foldl (fun g x => ((Nat.gcd g.natAbs x.natAbs : Nat) : Int)) 0
theorem gcdAll_snoc {ns : List Int} {x : Int} : gcdAll (ns ++ [x]) = ((Nat.gcd (gcdAll ns).natAbs x.natAbs : Nat) : Int) := by unfold gcdAll; rw [List.foldl_append]; rfl
theorem gcdAll_nn : ∀ {ns : List Int}, 0 ≤ gcdAll ns := by
  intro ns
  rcases List.eq_nil_or_concat ns with rfl | ⟨l, x, rfl⟩
  · exact Int.le_refl _
  · rw [List.concat_eq_append, gcdAll_snoc]; exact Int.natCast_nonneg _
theorem gcdAll_dvd : ∀ (n : Nat) {ns : List Int}, ns.length = n → ∀ x ∈ ns, gcdAll ns ∣ x
  | 0, ns, h, x, hx => by rw [List.length_eq_zero_iff.mp h] at hx; cases hx
  | n + 1, ns, h, x, hx => by
    rcases List.eq_nil_or_concat ns with rfl | ⟨l, y, rfl⟩
    · cases hx
    · rw [List.concat_eq_append] at h hx ⊢
      rw [gcdAll_snoc]
      rcases List.mem_append.mp hx with hx | hx
      · have h1 := gcdAll_dvd n (ns := l) (by simpa using h) x hx
        refine Int.dvd_trans ?_ h1
        exact Int.ofNat_dvd_left.mpr (Nat.gcd_dvd_left _ _)
      · rw [List.mem_singleton.mp hx]
        exact Int.ofNat_dvd_left.mpr (Nat.gcd_dvd_right _ _)
theorem dvd_gcdAll {g : Int} : ∀ (n : Nat) {ns : List Int}, ns.length = n → (∀ x ∈ ns, g ∣ x) → g ∣ gcdAll ns
  | 0, ns, h, _ => by rw [List.length_eq_zero_iff.mp h]; exact Int.dvd_zero _
  | n + 1, ns, h, k => by
    rcases List.eq_nil_or_concat ns with rfl | ⟨l, y, rfl⟩
    · exact Int.dvd_zero _
    · rw [List.concat_eq_append] at h k ⊢
      rw [gcdAll_snoc]
      have h1 := dvd_gcdAll n (ns := l) (by simpa using h) fun x hx => k x (by simp [hx])
      have h2 := k y (by simp)
      exact Int.dvd_coe_gcd h1 h2
theorem gcdAll_le {ns : List Int} {x : Int} (hx : x ∈ ns) (h0 : x ≠ 0) : 0 < gcdAll ns ∧ (gcdAll ns).natAbs ≤ x.natAbs := by
  have d := gcdAll_dvd _ rfl x hx
  have n := gcdAll_nn (ns := ns)
  refine ⟨?_, Nat.le_of_dvd (by omega) (Int.natAbs_dvd_natAbs.mpr d)⟩
  have : gcdAll ns ≠ 0 := fun e => by rw [e] at d; exact h0 (Int.zero_dvd.mp d)
  omega
def spComm : Sp := fun vs H Q _ => ∃ (p : Addr) (ns : List Int), vs = [.ref p] ∧ H p = some (.tup (ns.map V.int)) ∧ Q (.int (gcdAll ns)) H
abbrev spCommR : Sp := fun vs H Q E => ∃ ws rest, vs = ws ++ rest ∧ ws.length = 0 ∧ rest.length ≤ sizeLine ∧ ∀ p, H p = Option.none → spComm (ws ++ [V.ref p]) (upd H p (.tup rest)) Q E
theorem r_comm {H : Hp} {Q : VK} {E : XK} {vs : List V} (ns : List Int) (e : vs = ns.map V.int) (hl : ns.length ≤ 1000) (k : ∀ H', Keep [] H H' → Q (.int (gcdAll ns)) H') : spCommR vs H Q E :=
  ⟨[], vs, rfl, rfl, by rw [e, List.length_map]; exact le_size (by omega), fun p hp => ⟨p, ns, rfl, by rw [upd_same, e], k _ (Keep.new hp)⟩⟩
def spTwoX (f : Int → Int → Int → Int → Int × Int) : Sp := fun vs H Q _ => ∃ (p q : Addr) (a b c d : Int), vs = [.ref p, .ref q] ∧ H p = some (.tup [.int a, .int b]) ∧ H q = some (.tup [.int c, .int d]) ∧ 0 < b ∧ 0 < d ∧ a.natAbs < 2 ^ 9000 ∧ b.natAbs < 2 ^ 3900 ∧ c.natAbs < 2 ^ 9000 ∧ d.natAbs < 2 ^ 3900 ∧
  ∀ (r : Addr) (v : Int × Int) (H' : Hp), Keep [] H H' → H r = none → Ec.Low v (f a b c d).1 (f a b c d).2 → H' r = some (.tup [.int v.1, .int v.2]) → Q (.ref r) H'
def fTimesX (a b c d : Int) : Int × Int := (a * c, b * d)
theorem low_Low {t b : Int} (h : 0 < b) : Ec.Low (lowT t b, lowB t b) t b := by
  refine ⟨lowB_pos h, ?_, low_cross⟩
  have e := low_mul (t := t) (b := b)
  have g : (dv t b).natAbs = Int.gcd t b := dv_abs
  have gp : 0 < Int.gcd t b := Int.gcd_pos_of_ne_zero_right _ (by omega)
  have z : Int.gcd (lowT t b * dv t b) (lowB t b * dv t b) = Int.gcd (lowT t b) (lowB t b) * (dv t b).natAbs := Int.gcd_mul_right _ _ _
  rw [e.1, e.2, g] at z
  have : 1 * Int.gcd t b = Int.gcd (lowT t b) (lowB t b) * Int.gcd t b := by rw [Nat.one_mul]; exact z
  exact (Nat.eq_of_mul_eq_mul_right gp this).symm
section
variable {P : Program} {w : World} {K : PySem.W.Frag} {mg : Str → Option Value} {base : Heap}
theorem ok_common (T : Tx K mg) : FnR P w K mg base CX0 1 T.f_common spCommR := by
  refine My.Fun.okStar (ps := []) T.F_common sc_common (fun _ _ _ _ _ _ us rest hl => ?_) (fun cdv A outer s H vs Q E hr h => ?_)
  · match us, hl with
    | [], _ => cases rest <;> rfl
  · obtain ⟨p, ns, rfl, hp, k⟩ := h
    refine ⟨_, (pss_cons (ps_set (i := 1) sc_common.nd rfl (Or.inl rfl) pe_int)
    (pss_cons (ps_for PassesOwn.never rfl (pi_tup (pv 0)) (pg_name (i := 2) sc_common.nd rfl (Or.inl rfl))
    (pss_one (ps_set (i := 1) sc_common.nd rfl (Or.inl rfl) (pe_callBfun cr_gcd rfl T.m_gcd (pa_cons (pv 1) (pa_cons (pv 2) pa_nil))))))
    (pss_one (ps_ret (pv 1))))), ?_⟩
    walk_at "start"
    walk_at "sts"
    refine forT_go (fun i σ' H' => ∃ z, σ' = [some (.ref p), some (.int (gcdAll (ns.take i))), z] ∧ H' = H) (sqT_of hp) ⟨_, rfl, rfl⟩ (fun i σ' H' _ h => by obtain ⟨z, _, rfl⟩ := h; exact sqT_of hp) ?_ ?_
    · rintro i x σ' H' hx ⟨z, rfl, rfl⟩
      obtain ⟨y, hy, rfl⟩ : ∃ y, ns[i]? = some y ∧ V.int y = x := by
        rw [List.getElem?_map] at hx
        cases e : ns[i]? with
        | none => rw [e] at hx; cases hx
        | some y => rw [e] at hx; exact ⟨y, rfl, Option.some.inj hx⟩
      walk_at "sts"
      refine ⟨some (.int y), ?_, rfl⟩
      rw [List.take_add_one, hy]
      unfold gcdAll
      rw [List.foldl_append]; rfl
    · rintro σ' H' ⟨z, rfl, rfl⟩
      walk_at "sts"
      rw [List.length_map, List.take_length]
      exact k
theorem ok_ratio (T : Tx K mg) : FnOk P w K mg base CX0 1 T.f_ratio T.fd_ratio ["top", "bottom"] spLow := by
  refine T.F_ratio.ok sc_ratio (fun vs H Q E h => ?_) (fun cdv A outer s H vs Q E hr h => ?_)
  · obtain ⟨a, b, rfl, _⟩ := h; rfl
  · obtain ⟨t, b, rfl, hb, hz, q⟩ := h
    refine ⟨_, PSs.nox (pss_cons (ps_if (pt_cmpR op_eq (pv 1) pe_int (nomark _))
    (pss_one ps_never)
    pss_nil)
    (pss_cons (ps_set (i := 2) sc_ratio.nd rfl (Or.inl rfl) (pe_callBfun cr_gcd rfl T.m_gcd (pa_cons (pv 0) (pa_cons (pv 1) pa_nil))))
    (pss_cons (ps_if (pt_cmpR op_lt (pv 1) pe_int (nomark _))
    (pss_one (ps_set (i := 2) sc_ratio.nd rfl (Or.inl rfl) (pe_un un_neg (pv 2))))
    pss_nil)
    (pss_one (ps_ret (pe_tup (pa_cons (pe_op op_fdivWN (pv 0) (pv 2)) (pa_cons (pe_op op_fdivWN (pv 1) (pv 2)) pa_nil)))))))), ?_⟩
    walk_at "start"
    walk_at "sts"
    have hl : (dv t b).natAbs.log2 < 9000 := log_ok 8000 (by rw [dv_abs]; exact Nat.lt_of_le_of_lt (gcd_le hb) hz)
    have hn := dv_ne (t := t) hb
    refine r_ite (fun c => ?_) (fun c => ?_)
    · have e : dv t b = -((Nat.gcd t.natAbs b.natAbs : Nat) : Int) := by unfold dv; rw [if_pos c]
      rw [e] at hl hn
      walk_at "sts"
      intro p hp
      refine q p _ (Keep.new hp) hp ?_
      rw [upd_same]; unfold lowT lowB; rw [e]
    · have e : dv t b = ((Nat.gcd t.natAbs b.natAbs : Nat) : Int) := by unfold dv; rw [if_neg c]
      rw [e] at hl hn
      walk_at "sts"
      intro p hp
      refine q p _ (Keep.new hp) hp ?_
      rw [upd_same]; unfold lowT lowB; rw [e]
theorem ok_plus (T : Tx K mg) (G_ratio : FnOk P w K mg base CX0 1 T.f_ratio T.fd_ratio ["top", "bottom"] spLow) : FnOk P w K mg base CX0 2 T.f_plus T.fd_plus ["first", "second"] (spTwoX fPlus) := by
  refine T.F_plus.ok sc_plus (fun vs H Q E h => ?_) (fun cdv A outer s H vs Q E hr h => ?_)
  · obtain ⟨p, q, a, b, c, d, rfl, _⟩ := h; rfl
  · obtain ⟨p, q, a, b, c, d, rfl, hp, hq, hb, hd, za, zb, zc, zd, k⟩ := h
    refine ⟨_, (pss_one (ps_ret (pe_call G_ratio (hr.mono (by decide)) rfl T.g_ratio T.F_ratio.kp T.b2_ratio.choose_spec.2 T.b2_ratio.choose_spec.1 pass0 (pa_cons (pe_op op_add (pe_op op_mulG (pe_ix ix_tup (pv 0) pe_int (fun _ _ => rfl)) (pe_ix ix_tup (pv 1) pe_int (fun _ _ => rfl))) (pe_op op_mulG (pe_ix ix_tup (pv 1) pe_int (fun _ _ => rfl)) (pe_ix ix_tup (pv 0) pe_int (fun _ _ => rfl)))) (pa_cons (pe_op op_mulG (pe_ix ix_tup (pv 0) pe_int (fun _ _ => rfl)) (pe_ix ix_tup (pv 1) pe_int (fun _ _ => rfl))) pa_nil))))), ?_⟩
    walk_at "start"
    walk_at "sts"
    refine r_I (mulw 9000 3900 za zd) ?_
    walk_at "sts"
    refine r_I (mulw 9000 3900 zc zb) ?_
    walk_at "sts"
    refine r_I (mulw 3900 3900 zb zd) ?_
    walk_at "sts"
    exact r_low (Int.mul_ne_zero (by omega) (by omega)) (pow_mono 7800 8000 (wide_lt zb zd)) fun r H' k1 n e => k r _ H' k1 n (low_Low (Int.mul_pos hb hd)) e
theorem ok_times (T : Tx K mg) (G_ratio : FnOk P w K mg base CX0 1 T.f_ratio T.fd_ratio ["top", "bottom"] spLow) : FnOk P w K mg base CX0 2 T.f_times T.fd_times ["first", "second"] (spTwoX fTimesX) := by
  refine T.F_times.ok sc_times (fun vs H Q E h => ?_) (fun cdv A outer s H vs Q E hr h => ?_)
  · obtain ⟨p, q, a, b, c, d, rfl, _⟩ := h; rfl
  · obtain ⟨p, q, a, b, c, d, rfl, hp, hq, hb, hd, za, zb, zc, zd, k⟩ := h
    refine ⟨_, (pss_one (ps_ret (pe_call G_ratio (hr.mono (by decide)) rfl T.g_ratio T.F_ratio.kp T.b2_ratio.choose_spec.2 T.b2_ratio.choose_spec.1 pass0 (pa_cons (pe_op op_mulG (pe_ix ix_tup (pv 0) pe_int (fun _ _ => rfl)) (pe_ix ix_tup (pv 1) pe_int (fun _ _ => rfl))) (pa_cons (pe_op op_mulG (pe_ix ix_tup (pv 0) pe_int (fun _ _ => rfl)) (pe_ix ix_tup (pv 1) pe_int (fun _ _ => rfl))) pa_nil))))), ?_⟩
    walk_at "start"
    walk_at "sts"
    refine r_I (mulw 9000 9000 za zc) ?_
    walk_at "sts"
    refine r_I (mulw 3900 3900 zb zd) ?_
    walk_at "sts"
    exact r_low (Int.mul_ne_zero (by omega) (by omega)) (pow_mono 7800 8000 (wide_lt zb zd)) fun r H' k1 n e => k r _ H' k1 n (low_Low (Int.mul_pos hb hd)) e
end
theorem r_twoX {H : Hp} {Q : VK} {E : XK} {f : Int → Int → Int → Int → Int × Int} {p q : Addr} {a b c d : Int} (hp : H p = some (.tup [.int a, .int b])) (hq : H q = some (.tup [.int c, .int d])) (hb : 0 < b) (hd : 0 < d) (za : a.natAbs < 2 ^ 9000) (zb : b.natAbs < 2 ^ 3900) (zc : c.natAbs < 2 ^ 9000) (zd : d.natAbs < 2 ^ 3900)
  (k : ∀ (r : Addr) (v : Int × Int) (H' : Hp), Keep [] H H' → H r = none → Ec.Low v (f a b c d).1 (f a b c d).2 → H' r = some (.tup [.int v.1, .int v.2]) → Q (.ref r) H') : spTwoX f [.ref p, .ref q] H Q E := ⟨p, q, a, b, c, d, rfl, hp, hq, hb, hd, za, zb, zc, zd, k⟩
/-! ### the bag -/
def BagAt (a : Addr) (H : Hp) : Prop := ∃ x y z q : Int, H a = some (.lst [.int x, .int y, .int z, .int q]) ∧ 0 ≤ y ∧ y < 2147483647
theorem BagAt.keep {a : Addr} {M : List Addr} {H H' : Hp} (h : BagAt a H) (k : Keep M H H') (n : a ∉ M) : BagAt a H' := by
  obtain ⟨x, y, z, q, e, h1, h2⟩ := h
  exact ⟨x, y, z, q, k _ _ n e, h1, h2⟩
theorem BagAt.keep0 {a : Addr} {H H' : Hp} (h : BagAt a H) (k : Keep [] H H') : BagAt a H' := h.keep k (by simp)
theorem BagAt.ne {a p : Addr} {H : Hp} (h : BagAt a H) (n : H p = none) : p ≠ a := by
  obtain ⟨x, y, z, q, e, _⟩ := h
  exact ne_free e n
theorem BagAt.lst {a : Addr} {H : Hp} (h : BagAt a H) : ∀ m ∈ [a], ∃ xs, H m = some (.lst xs) := fun m hm => by
  obtain ⟨x, y, z, q, e, _⟩ := h
  rw [List.mem_singleton.mp hm]; exact ⟨_, e⟩
def spBag (K : PySem.W.Frag) : Sp := fun vs H Q _ => ∃ (p : Addr) (ns : List Int) (i : Int), vs = [.ref p, .int i] ∧ SqL K H p (ns.map V.int) ∧ ns.length ≤ 63 ∧ 0 ≤ i ∧ ∀ (q : Addr) (H' : Hp), Keep [] H H' → H q = none → BagAt q H' → Q (.ref q) H'
def spTakeB : Sp := fun vs H Q _ => ∃ (a : Addr) (n : Int), vs = [.ref a, .int n] ∧ BagAt a H ∧ 0 < n ∧ n < 1073741824 ∧ ∀ (r : Int) (H' : Hp), 0 ≤ r → r < n → Keep [a] H H' → BagAt a H' → Q (.int r) H'
theorem r_takeB {H : Hp} {Q : VK} {E : XK} {a : Addr} {n : Int} (hp : BagAt a H) (h0 : 0 < n) (h1 : n < 1073741824) (k : ∀ (r : Int) (H' : Hp), 0 ≤ r → r < n → Keep [a] H H' → BagAt a H' → Q (.int r) H') : spTakeB [.ref a, .int n] H Q E := ⟨a, n, rfl, hp, h0, h1, k⟩
/-- an int, and no bool -/
def spIsInt : Sp := fun vs H Q _ => ∃ i : Int, vs = [.int i] ∧ Q (.bl true) H
theorem r_isInt {H : Hp} {Q : VK} {E : XK} {i : Int} (k : Q (.bl true) H) : spIsInt [.int i] H Q E := ⟨i, rfl, k⟩
theorem cut_take {xs : List V} {n : Nat} : cutV xs none (some (n : Int)) = xs.take n := by
  show (xs.drop 0).take (HT.sIx xs.length xs.length (some (n : Int)) - 0) = _
  rw [HT.sIx_nat, List.drop_zero, Nat.sub_zero]
  by_cases h : n ≤ xs.length
  · rw [Nat.min_eq_left h]
  · rw [Nat.min_eq_right (by omega), List.take_length, List.take_of_length_le (by omega)]
theorem getInt {ns : List Int} {i : Nat} {x : V} (h : (ns.map V.int)[i]? = some x) : ∃ n, ns[i]? = some n ∧ x = .int n := by
  rw [List.getElem?_map] at h
  obtain ⟨a, ha, rfl⟩ := Option.map_eq_some_iff.mp h
  exact ⟨a, ha, rfl⟩
section
variable {P : Program} {w : World} {K : PySem.W.Frag} {mg : Str → Option Value} {base : Heap}
theorem ok_isInt (T : Tx K mg) : FnOk P w K mg base CX0 1 T.f_w_is_int T.fd_w_is_int ["_law_found"] spIsInt := by
  refine T.F_w_is_int.ok sc_w_is_int (fun vs H Q E h => ?_) (fun cdv A outer s H vs Q E hr h => ?_)
  · obtain ⟨i, rfl, _⟩ := h; rfl
  · obtain ⟨i, rfl, k⟩ := h
    refine ⟨_, (pss_one (ps_ret (pe_and (pe_callB call_isi (by rfl) T.m_isinstance (by decide +kernel) (pa_cons (pv 0) (pa_cons (pe_bltn (v := .ty "int") (by rfl) T.m_int (by decide +kernel) rfl) pa_nil))) (pe_one (pe_not (pe_callB call_isi (by rfl) T.m_isinstance (by decide +kernel) (pa_cons (pv 0) (pa_cons (pe_bltn (v := .ty "bool") (by rfl) T.m_bool (by decide +kernel) rfl) pa_nil)))))))), ?_⟩
    walk_at "start"
    walk_at "sts"
    exact k
theorem ok_bag (T : Tx K mg) : FnOk P w K mg base CX0 1 T.f_w_bag T.fd_w_bag ["_law_script", "_law_place"] (spBag K) := by
  refine T.F_w_bag.ok sc_w_bag (fun vs H Q E h => ?_) (fun cdv A outer s H vs Q E hr h => ?_)
  · obtain ⟨p, ns, i, rfl, _⟩ := h; rfl
  · obtain ⟨p, ns, i, rfl, hp, hl, h0, q⟩ := h
    refine ⟨_, (Evl.pss_cut (ps_if (PW.pt (pw_and (pt_cmpR op_lt (pv 1) (pe_callB call_len_seq (by rfl) T.m_len PySem.boot_len (pa_cons (pv 0) pa_nil)) (nomark _)) (pw_and1 (pt_cmpR op_ge (pe_ix ix_list (pv 0) (pv 1) (fun _ _ => rfl)) (pe_op op_pow pe_int pe_int) (nomark _)))))
    (pss_one (ps_ret (pe_lst (pa_cons (pe_callTy call_int1 (by rfl) T.m_int (by decide +kernel) (pa_cons (pe_ix ix_list (pv 0) (pv 1) (fun _ _ => rfl)) pa_nil)) (pa_cons pe_int (pa_cons pe_int (pa_cons pe_int pa_nil)))))))
    pss_nil)
    (pss_cons (ps_set (i := 2) sc_w_bag.nd rfl (Or.inl rfl) pe_int)
    (pss_cons (ps_for PassesOwn.never rfl (pi_list (pe_slice sl_list (pv 0) po_none (po_some pe_int))) (pg_name (i := 3) sc_w_bag.nd rfl (Or.inl rfl))
    (pss_one (ps_set (i := 2) sc_w_bag.nd rfl (Or.inl rfl) (pe_op op_mod (pe_callTy call_int1 (by rfl) T.m_int (by decide +kernel) (pa_cons (pe_op op_add (pe_op op_add (pe_op op_mul (pv 2) pe_int) (pv 3)) pe_int) pa_nil)) pe_int))))
    (pss_one (ps_ret (pe_lst (pa_cons pe_int (pa_cons (pe_op op_mod (pe_callTy call_int1 (by rfl) T.m_int (by decide +kernel) (pa_cons (pe_op op_mulG (pv 2) (pe_op op_add (pv 1) pe_int)) pa_nil)) pe_int) (pa_cons pe_int (pa_cons pe_int pa_nil)))))))))), ?_⟩
    walk_at "start"
    walk_at "sts"
    refine r_cut (fun σ' H' => σ' = [some (.ref p), some (.int i), none, none] ∧ H' = H) ?_ ?_
    · walk_at "sts"
      refine r_ite (fun c1 => ?_) (fun c1 => ?_)
      · simp only [List.length_map] at c1
        walk_at "sts"
        generalize ns.getD i.toNat 0 = cell
        generalize (1000000000000000000 : Int) = big
        refine r_ite (fun c3 => ?_) (fun c3 => ?_)
        · walk_at "sts"
          intro a ha
          exact q a _ (Keep.new ha) ha ⟨_, 0, 0, 1, upd_same, by omega, by omega⟩
        · walk_at "sts"
          exact ⟨rfl, rfl⟩
      · walk_at "sts"
        exact ⟨rfl, rfl⟩
    · rintro σ' H' ⟨rfl, rfl⟩
      walk_at "sts"
      refine r_slL hp fun l hl2 => ?_
      rw [show cutV (ns.map V.int) none (some 63) = (ns.map V.int).take 63 from cut_take (n := 63)]
      have k1 : Keep [] H' (upd H' l (.lst ((ns.map V.int).take 63))) := Keep.new hl2
      have e1 : upd H' l (.lst ((ns.map V.int).take 63)) l = some (.lst ((ns.map V.int).take 63)) := upd_same
      generalize upd H' l (.lst ((ns.map V.int).take 63)) = H1 at k1 e1 ⊢
      rw [← List.map_take] at e1
      refine forL_go (fun i' σ' H2 => ∃ (s : Int) (x : Option V), σ' = [some (.ref p), some (.int i), some (.int s), x] ∧ H2 = H1 ∧ 0 ≤ s ∧ s < 2147483647) (sqL_of e1) ⟨0, none, rfl, rfl, by omega, by omega⟩ (fun i' σ' H2 _ h => by obtain ⟨_, _, _, rfl, _⟩ := h; exact sqL_of e1) ?_ ?_
      · rintro i' x σ' H2 hx ⟨s, y, rfl, rfl, s0, s1⟩
        obtain ⟨c, _, rfl⟩ := getInt hx
        walk_at "sts"
        exact ⟨_, _, rfl, rfl, Int.emod_nonneg _ (by omega), Int.emod_lt_of_pos _ (by omega)⟩
      · rintro σ' H2 ⟨s, y, rfl, rfl, s0, s1⟩
        walk_at "sts"
        intro a ha
        exact q a _ (k1.trans (Keep.new ha)) (k1.free (by simp) ha) ⟨0, _, 0, 0, upd_same, Int.emod_nonneg _ (by omega), Int.emod_lt_of_pos _ (by omega)⟩
theorem ok_take (T : Tx K mg) : FnOk P w K mg base CX0 1 T.f_w_take T.fd_w_take ["_law_bag_here", "_law_many"] spTakeB := by
  refine T.F_w_take.ok sc_w_take (fun vs H Q E h => ?_) (fun cdv A outer s H vs Q E hr h => ?_)
  · obtain ⟨a, n, rfl, _⟩ := h; rfl
  · obtain ⟨a, n, rfl, ⟨x, y, z, t, ha, y0, y1⟩, n0, n1, q⟩ := h
    refine ⟨_, (pss_cons (ps_if (pt_cmpR op_eq (pe_ix ix_list (pv 0) pe_int (fun _ _ => rfl)) pe_int (nomark _))
    (pss_cons (ps_set (i := 2) sc_w_take.nd rfl (Or.inl rfl) (pe_op op_mod (pe_callTy call_int1 (by rfl) T.m_int (by decide +kernel) (pa_cons (pe_ix ix_list (pv 0) pe_int (fun _ _ => rfl)) pa_nil)) (pv 1)))
    (pss_cons (ps_asg (pe_op op_fdivWN (pe_ix ix_list (pv 0) pe_int (fun _ _ => rfl)) (pv 1)) (pg_sub (pv 0) pe_int set_list))
    (pss_one (ps_ret (pv 2)))))
    pss_nil)
    (pss_cons (ps_asg (pe_op op_add (pe_ix ix_list (pv 0) pe_int (fun _ _ => rfl)) pe_int) (pg_sub (pv 0) pe_int set_list))
    (pss_cons (ps_set (i := 3) sc_w_take.nd rfl (Or.inl rfl) (pe_op op_mod (pe_callTy call_int1 (by rfl) T.m_int (by decide +kernel) (pa_cons (pe_op op_mulG (pe_ix ix_list (pv 0) pe_int (fun _ _ => rfl)) (pe_op op_add pe_int (pe_op op_mul pe_int (pe_ix ix_list (pv 0) pe_int (fun _ _ => rfl))))) pa_nil)) pe_int))
    (pss_cons (ps_set (i := 3) sc_w_take.nd rfl (Or.inl rfl) (pe_op op_mod (pe_callTy call_int1 (by rfl) T.m_int (by decide +kernel) (pa_cons (pe_op op_add (pe_op op_mulG (pv 3) (pv 3)) (pe_op op_mulG (pv 3) (pe_ix ix_list (pv 0) pe_int (fun _ _ => rfl)))) pa_nil)) pe_int))
    (pss_cons (ps_set (i := 4) sc_w_take.nd rfl (Or.inl rfl) (pe_op op_mod (pe_callTy call_int1 (by rfl) T.m_int (by decide +kernel) (pa_cons (pe_op op_mul (pv 3) pe_int) pa_nil)) pe_int))
    (pss_one (ps_ret (pe_op op_mod (pe_op op_fdiv (pv 4) pe_int) (pv 1))))))))), ?_⟩
    walk_at "start"
    walk_at "sts"
    refine r_ite (fun c => ?_) (fun c => ?_)
    · walk_at "sts"
      refine r_I ⟨by omega, log_ok 200 (by omega)⟩ ?_
      walk_at "sts"
      exact q _ _ (Int.emod_nonneg _ (by omega)) (Int.emod_lt_of_pos _ n0) (Keep.at (by simp)) ⟨_, _, _, _, upd_same, y0, y1⟩
    · walk_at "sts"
      exact q _ _ (Int.emod_nonneg _ (by omega)) (Int.emod_lt_of_pos _ n0) (Keep.at (by simp)) ⟨_, _, _, _, upd_same, y0, y1⟩
end
/-! ### names -/
def lettersL : List Nat := ("abcdefghijklmnopqrstuvwxyz" : Str).cps.toList
def signsL : List Nat := ("abcdefghijklmnopqrstuvwxyz.0123456789" : Str).cps.toList
/-- a quantity -/
structure IsQ (s : Str) : Prop where
  len : s.length ≤ 12
  hd : ∃ c, s.cps.toList[0]? = some c ∧ c ∈ lettersL
  la : ∃ c, s.cps.toList.getLast? = some c ∧ c ≠ 46
  al : ∀ c ∈ s.cps.toList, c ∈ signsL
theorem atI_m1 {α : Type} {xs : List α} {c : α} (h : xs.getLast? = some c) : atI xs (-1) = some c := by
  have hne : xs ≠ [] := by rintro rfl; simp at h
  have hl : 0 < xs.length := List.length_pos_iff.mpr hne
  unfold atI ixN
  rw [if_neg (by decide), if_pos (by omega)]
  show xs[(-1 + (xs.length : Int)).toNat]? = some c
  rw [show (-1 + (xs.length : Int)).toNat = xs.length - 1 by omega, ← List.getLast?_eq_getElem?]
  exact h
theorem IsQ.pos {s : Str} (h : IsQ s) : 1 ≤ s.length := by
  obtain ⟨c, hc, _⟩ := h.hd
  have := (List.getElem?_eq_some_iff.mp hc).1
  rw [Array.length_toList] at this
  exact this
theorem one_ne {c d : Nat} (h : c ≠ d) : (⟨#[c]⟩ : Str) ≠ ⟨#[d]⟩ := fun e => h (by simpa using congrArg Str.cps e)
def spIsQ : Sp := fun vs H Q _ => ∃ s : Str, vs = [.str s] ∧ IsQ s ∧ ∀ H', Keep [] H H' → Q (.bl true) H'
theorem r_isQ {Q : VK} {E : XK} {H : Hp} {s : Str} (h : IsQ s) (k : ∀ H', Keep [] H H' → Q (.bl true) H') : spIsQ [.str s] H Q E := ⟨s, rfl, h, k⟩
section
variable {P : Program} {w : World} {K : PySem.W.Frag} {mg : Str → Option Value} {base : Heap}
theorem ok_isQ (T : Tx K mg) : FnOk P w K mg base CX0 1 T.f_is_quantity T.fd_is_quantity ["text"] spIsQ := by
  refine T.F_is_quantity.ok sc_is_quantity (fun vs H Q E h => ?_) (fun cdv A outer s H vs Q E hr h => ?_)
  · obtain ⟨a, rfl, _⟩ := h; rfl
  · obtain ⟨t, rfl, hq, q⟩ := h
    have hp := hq.pos
    have hl := hq.len
    have hz : t.length ≤ sizeLine := le_size (by omega)
    obtain ⟨c0, hc0, hm0⟩ := hq.hd
    obtain ⟨c1, hc1, hm1⟩ := hq.la
    refine ⟨_, (pss_cons (ps_if (PW.pt (pw_or (pt_not (pt_val (pe_callB call_isi (by rfl) T.m_isinstance (by decide +kernel) (pa_cons (pv 0) (pa_cons (pe_bltn (v := .ty "str") (by rfl) T.m_str (by decide +kernel) rfl) pa_nil))))) (pw_or1 (pt_not (pt_chain op_le op_le pe_int (pe_callB call_len_str (by rfl) T.m_len PySem.boot_len (pa_cons (pv 0) pa_nil)) (pe_glob (v := .int (12)) rfl T.c_LONGEST_QUANTITY.choose_spec ⟨_, rfl⟩))))))
    (pss_one (ps_ret pe_bl))
    pss_nil)
    (pss_cons (ps_if (PW.pt (pw_or (pt_cmpR op_ninSg (pe_ix ix_str (pv 0) pe_int (fun _ _ => rfl)) (pe_glob (v := .str "abcdefghijklmnopqrstuvwxyz") rfl T.c_LETTERS.choose_spec ⟨_, rfl⟩) (by rfl)) (pw_or1 (pt_cmpR op_eq (pe_ix ix_str (pv 0) (pe_un un_neg pe_int) (fun _ _ => rfl)) pe_str (nomark _)))))
    (pss_one (ps_ret pe_bl))
    pss_nil)
    (pss_one (ps_ret (pe_callB (cr_all rfl) (by rfl) T.m_all (by decide +kernel) (pa_cons (pe_lc (own := [("sign", 1)]) (g := gName 1) (tt := tYes) rfl sc_is_quantity.nd (pi_str (pv 0)) (blkOk_by (own := [("sign", 1)]) (N := ["text", "sign"]) (sc := defScope s_is_quantity) (by decide +kernel)) (fun _ _ _ _ _ => pg_name (i := 1) sc_is_quantity.nd rfl (Or.inl rfl)) (fun _ _ _ _ _ => pts_nil) (fun _ _ _ _ _ => (pe_cmpR op_inSg (pv 1) (pe_glob (v := .str "abcdefghijklmnopqrstuvwxyz.0123456789") rfl T.c_QUANTITY_SIGNS.choose_spec ⟨_, rfl⟩) (by rfl)))) pa_nil)))))), ?_⟩
    walk_at "start"
    walk_at "sts"
    refine ⟨hz, ?_⟩
    walk_at "sts"
    refine r_ixS hz (atI_nat (j := 0) hc0) ?_
    walk_at "sts"
    refine r_iteNF (by exact hm0) ?_
    walk_at "sts"
    refine r_ixS hz (atI_m1 hc1) ?_
    walk_at "sts"
    refine r_iteF (one_ne hm1) ?_
    walk_at "sts"
    refine lcS_go (fun D i acc H' => acc = List.replicate i (V.bl true) ∧ Keep [] H H' ∧ H D = none) (fun D hD => ⟨rfl, Keep.new hD, hD⟩) ?_ ?_
    · rintro D i c acc H' hc hD ⟨rfl, hk, hn⟩
      have hc' : c ∈ signsL := hq.al c (Array.mem_toList_iff.mpr (Array.mem_of_getElem? hc))
      walk_at "sts"
      rw [show decide (c ∈ (Str.ofString "abcdefghijklmnopqrstuvwxyz.0123456789").cps.toList) = true from decide_eq_true hc']
      have h1 := (Array.getElem?_eq_some_iff.mp hc).1
      have h2 : t.cps.size = t.length := rfl
      exact lc_put hD (by rw [List.length_replicate]; exact lt_size (by omega)) ⟨by rw [← List.replicate_succ'], hk.mut hn, hn⟩
    · rintro D acc H' hD hD' ⟨rfl, hk, hn⟩
      walk_at "sts"
      refine r_all (bs := List.replicate t.cps.size true) (by rw [List.map_replicate]; exact sqL_of hD') ?_
      rw [show (List.replicate t.cps.size true).all id = true by simp]
      exact q _ hk
end
/-! ### the draws -/
/-- a name under way -/
structure PQ (n : Nat) (s : Str) : Prop where
  len : s.length = n
  hd : ∃ c, s.cps.toList[0]? = some c ∧ c ∈ lettersL
  al : ∀ c ∈ s.cps.toList, c ∈ signsL
def sgn1 (c : Nat) : Str := ⟨#[c]⟩
theorem letters_signs : ∀ c ∈ lettersL, c ∈ signsL := by decide +kernel
theorem PQ.one {c : Nat} (h : c ∈ lettersL) : PQ 1 (sgn1 c) := ⟨rfl, ⟨c, rfl, h⟩, fun d hd => by
  have : d = c := by simpa [sgn1] using hd
  rw [this]; exact letters_signs c h⟩
theorem tl_app (x y : Str) : (x ++ y).cps.toList = x.cps.toList ++ y.cps.toList := by show (x.cps ++ y.cps).toList = _; exact Array.toList_append
theorem len_tl (x : Str) : x.length = x.cps.toList.length := rfl
theorem len_app (x y : Str) : (x ++ y).length = x.length + y.length := by rw [len_tl, tl_app, List.length_append]; rfl
theorem PQ.snoc {n : Nat} {s : Str} {c : Nat} (h : PQ n s) (hc : c ∈ signsL) : PQ (n + 1) (s ++ sgn1 c) := by
  refine ⟨by rw [len_app, h.len]; rfl, ?_, fun d hd => ?_⟩
  · obtain ⟨d, hd, hm⟩ := h.hd
    refine ⟨d, ?_, hm⟩
    rw [tl_app, List.getElem?_append_left (List.getElem?_eq_some_iff.mp hd).1]; exact hd
  · rw [tl_app] at hd
    rcases List.mem_append.mp hd with hd | hd
    · exact h.al d hd
    · have : d = c := by simpa [sgn1] using hd
      rw [this]; exact hc
theorem PQ.pos {n : Nat} {s : Str} (h : PQ n s) : 1 ≤ n := by
  obtain ⟨c, hc, _⟩ := h.hd
  have := (List.getElem?_eq_some_iff.mp hc).1
  rw [← h.len, len_tl]; omega
theorem PQ.last {n : Nat} {s : Str} (h : PQ n s) : ∃ c, s.cps.toList.getLast? = some c := by
  have := h.pos
  have e : s.cps.toList ≠ [] := fun z => by have := h.len; rw [len_tl, z] at this; simp at this; omega
  exact ⟨_, List.getLast?_eq_some_getLast e⟩
theorem cut_m1 {s : Str} (h : 1 ≤ s.length) : (cutS s none (some (-1))).cps.toList = s.cps.toList.dropLast := by
  unfold cutS
  rw [HT.sIx_none, List.drop_zero, Nat.sub_zero]
  have : HT.sIx s.length s.length (some (-1)) = s.length - 1 := by
    unfold HT.sIx
    first
      | (simp; omega)
      | omega
  rw [this, List.dropLast_eq_take]; rfl
theorem cut_11 {s : Str} : (cutS s none (some 11)).cps.toList = s.cps.toList.take 11 := by
  unfold cutS
  rw [HT.sIx_none, List.drop_zero, Nat.sub_zero, show HT.sIx s.length s.length (some 11) = min 11 s.length from HT.sIx_nat _ _ 11]
  show s.cps.toList.take (min 11 s.length) = _
  rw [len_tl, List.take_eq_take_iff]; omega
/-- the last sign made another one -/
theorem PQ.fix {n : Nat} {s : Str} (h : PQ (n + 1) s) (hs : s.cps.toList.getLast? = some 46) : PQ (n + 1) (cutS s none (some (-1)) ++ sgn1 120) := by
  have e := cut_m1 (s := s) (by rw [h.len]; omega)
  obtain ⟨c, hc, hm⟩ := h.hd
  have hl : s.cps.toList.length = n + 1 := by rw [← len_tl]; exact h.len
  have hn : 0 < n := by
    rcases Nat.eq_zero_or_pos n with rfl | z
    · exfalso
      match hq : s.cps.toList, hl, hc, hs with
      | [d], _, hc, hs =>
        have h1 : d = c := by simpa using hc
        have h2 : d = 46 := by simpa using hs
        rw [← h1, h2] at hm
        exact absurd hm (by decide +kernel)
    · exact z
  refine ⟨by rw [len_app, len_tl, e, List.length_dropLast, hl]; rfl, ⟨c, ?_, hm⟩, fun d hd => ?_⟩
  · rw [tl_app, e, List.getElem?_append_left (by rw [List.length_dropLast, hl]; omega), List.getElem?_dropLast, if_pos (by rw [hl]; omega)]; exact hc
  · rw [tl_app, e] at hd
    rcases List.mem_append.mp hd with hd | hd
    · exact h.al d ((List.dropLast_sublist _).subset hd)
    · have : d = 120 := by simpa [sgn1] using hd
      rw [this]; decide +kernel
theorem PQ.isQ {n : Nat} {s : Str} {c : Nat} (h : PQ n s) (hn : n ≤ 12) (hc : s.cps.toList.getLast? = some c) (h46 : c ≠ 46) : IsQ s := ⟨by rw [h.len]; exact hn, h.hd, ⟨c, hc, h46⟩, h.al⟩
theorem last_snoc {s : Str} {c : Nat} : (s ++ sgn1 c).cps.toList.getLast? = some c := by rw [tl_app]; exact List.getLast?_concat
theorem IsQ.pq {s : Str} (h : IsQ s) : PQ s.length s := ⟨rfl, h.hd, h.al⟩
/-- cut to eleven signs, and one sign more -/
theorem IsQ.next {s : Str} {c : Nat} (h : IsQ s) (hc : c ∈ signsL) (h46 : c ≠ 46) : IsQ (cutS s none (some 11) ++ sgn1 c) := by
  have e := cut_11 (s := s)
  refine ⟨?_, ?_, ⟨c, last_snoc, h46⟩, fun d hd => ?_⟩
  · rw [len_app, len_tl, e, List.length_take]; have : (sgn1 c).length = 1 := rfl; omega
  · obtain ⟨d, hd, hm⟩ := h.hd
    have := (List.getElem?_eq_some_iff.mp hd).1
    refine ⟨d, ?_, hm⟩
    rw [tl_app, e, List.getElem?_append_left (by rw [List.length_take]; omega), List.getElem?_take, if_pos (by omega)]; exact hd
  · rw [tl_app, e] at hd
    rcases List.mem_append.mp hd with hd | hd
    · exact h.al d (List.mem_of_mem_take hd)
    · have : d = c := by simpa [sgn1] using hd
      rw [this]; exact hc
theorem inV_str {s : Str} : ∀ {xs : List Str}, inV (.str s) (xs.map V.str) = decide (s ∈ xs)
  | [] => rfl
  | x :: xs => by
    have ih := inV_str (s := s) (xs := xs)
    unfold inV at ih ⊢
    rw [List.map_cons, List.any_cons, ih]
    show (decide (x = s) || _) = _
    by_cases h : x = s
    · subst h; simp
    · have h' : ¬ s = x := fun e => h e.symm
      simp [h, h']
theorem flat_strs : ∀ xs : List Str, (xs.map V.str).all L2.flatV = true
  | [] => rfl
  | x :: xs => by rw [List.map_cons, List.all_cons, flat_strs xs]; rfl
theorem r_inT {K : PySem.W.Frag} {H : Hp} {Q : VK} {x : V} {p : Addr} {xs : List V} (h : SqT K H p xs) (fx : L2.flatV x = true) (fs : xs.all L2.flatV = true) (k : Q (.bl (inV x xs)) H) : rIn K false x (.ref p) H Q := ⟨p, xs, rfl, .inr h, fx, fs, by simpa using k⟩
theorem at_list {l : List Nat} {i : Int} (h0 : 0 ≤ i) (h1 : i < l.length) : ∃ c, atI l i = some c ∧ c ∈ l := by
  obtain ⟨n, rfl⟩ : ∃ n : Nat, i = n := ⟨i.toNat, by omega⟩
  have h2 : n < l.length := by omega
  exact ⟨l[n], atI_nat (List.getElem?_eq_getElem h2), List.getElem_mem h2⟩
/-! ### pools, weights, pairs -/
/-- a row of names -/
def NamesAt (H : Hp) (p : Addr) (xs : List Str) : Prop := H p = some (.lst (xs.map V.str))
theorem atI_nn {α : Type} {xs : List α} {i : Int} (h0 : 0 ≤ i) (h1 : i < xs.length) : ∃ c, atI xs i = some c ∧ c ∈ xs := by
  obtain ⟨n, rfl⟩ : ∃ n : Nat, i = n := ⟨i.toNat, by omega⟩
  have h2 : n < xs.length := by omega
  exact ⟨xs[n], atI_nat (List.getElem?_eq_getElem h2), List.getElem_mem h2⟩
theorem atI_strs {xs : List Str} {i : Int} (h0 : 0 ≤ i) (h1 : i < xs.length) : ∃ x, atI (xs.map V.str) i = some (.str x) ∧ x ∈ xs := by
  obtain ⟨c, hc, hm⟩ := atI_nn (xs := xs.map V.str) h0 (by rw [List.length_map]; exact h1)
  obtain ⟨x, hx, rfl⟩ := List.mem_map.mp hm
  exact ⟨x, hc, hx⟩
/-- what stands at addresses -/
def PairsAt (H : Hp) : List Addr → List Fm.Tm → Prop
  | [], [] => True
  | a :: as, p :: ts => H a = some (.tup [.str p.1, .int p.2]) ∧ PairsAt H as ts
  | _, _ => False
theorem PairsAt.len {H : Hp} : ∀ {as : List Addr} {ts : List Fm.Tm}, PairsAt H as ts → as.length = ts.length
  | [], [], _ => rfl
  | _ :: _, _ :: _, h => congrArg Nat.succ (PairsAt.len h.2)
  | [], _ :: _, h => h.elim
  | _ :: _, [], h => h.elim
theorem PairsAt.get {H : Hp} : ∀ {as : List Addr} {ts : List Fm.Tm} {i : Nat} {a : Addr}, PairsAt H as ts → as[i]? = some a → ∃ p, ts[i]? = some p ∧ H a = some (.tup [.str p.1, .int p.2])
  | [], _, _, _, _, e => by simp at e
  | _ :: _, [], _, _, h, _ => h.elim
  | b :: as, p :: ts, 0, a, h, e => by
    have : b = a := by simpa using e
    subst this; exact ⟨p, rfl, h.1⟩
  | b :: as, p :: ts, i + 1, a, h, e => by
    obtain ⟨q, h1, h2⟩ := PairsAt.get (i := i) h.2 (by simpa using e)
    exact ⟨q, by simpa using h1, h2⟩
theorem PairsAt.mono {H H' : Hp} : ∀ {as : List Addr} {ts : List Fm.Tm}, PairsAt H as ts → (∀ a p, a ∈ as → p ∈ ts → H a = some (.tup [.str p.1, .int p.2]) → H' a = some (.tup [.str p.1, .int p.2])) → PairsAt H' as ts
  | [], [], _, _ => trivial
  | a :: as, p :: ts, h, k => ⟨k a p (by simp) (by simp) h.1, h.2.mono fun b q hb hq => k b q (by simp [hb]) (by simp [hq])⟩
  | [], _ :: _, h, _ => h.elim
  | _ :: _, [], h, _ => h.elim
theorem PairsAt.app {H : Hp} : ∀ {as bs : List Addr} {ts us : List Fm.Tm}, PairsAt H as ts → PairsAt H bs us → PairsAt H (as ++ bs) (ts ++ us)
  | [], _, [], _, _, k => k
  | _ :: _, _, _ :: _, _, h, k => ⟨h.1, h.2.app k⟩
  | [], _, _ :: _, _, h, _ => h.elim
  | _ :: _, _, [], _, h, _ => h.elim
/-- kept where the changed addresses are no tuples -/
theorem PairsAt.keep {M : List Addr} {H H' : Hp} {as : List Addr} {ts : List Fm.Tm} (h : PairsAt H as ts) (k : Keep M H H') (n : ∀ m ∈ M, ∃ xs, H m = some (.lst xs)) : PairsAt H' as ts := by
  refine h.mono fun a p _ _ e => k a _ (fun hm => ?_) e
  obtain ⟨xs, hx⟩ := n a hm
  rw [hx] at e; cases e
theorem PairsAt.keep0 {H H' : Hp} {as : List Addr} {ts : List Fm.Tm} (h : PairsAt H as ts) (k : Keep [] H H') : PairsAt H' as ts := h.keep k (by simp)
/-- a row of pairs -/
def RowAt (H : Hp) (p : Addr) (ts : List Fm.Tm) : Prop := ∃ as : List Addr, H p = some (.lst (as.map V.ref)) ∧ PairsAt H as ts
/-- a tuple of pairs -/
def TupAt (H : Hp) (p : Addr) (ts : List Fm.Tm) : Prop := ∃ as : List Addr, H p = some (.tup (as.map V.ref)) ∧ PairsAt H as ts
/-! ### numbers, quantities, names -/
def spNum : Sp := fun vs H Q _ => ∃ (a : Addr) (sh : Int), vs = [.ref a, .int sh] ∧ BagAt a H ∧ ∀ (r : Int) (H' : Hp), r.natAbs < 10 ^ 21 → Keep [a] H H' → BagAt a H' → Q (.int r) H'
theorem r_num {Q : VK} {E : XK} {H : Hp} {a : Addr} {sh : Int} (hp : BagAt a H) (k : ∀ (r : Int) (H' : Hp), r.natAbs < 10 ^ 21 → Keep [a] H H' → BagAt a H' → Q (.int r) H') : spNum [.ref a, .int sh] H Q E := ⟨a, sh, rfl, hp, k⟩
def spName : Sp := fun vs H Q _ => ∃ (a : Addr) (sh : Int), vs = [.ref a, .int sh] ∧ BagAt a H ∧ ∀ (s : Str) (H' : Hp), IsQ s → Keep [a] H H' → BagAt a H' → Q (.str s) H'
theorem r_name {Q : VK} {E : XK} {H : Hp} {a : Addr} {sh : Int} (hp : BagAt a H) (k : ∀ (s : Str) (H' : Hp), IsQ s → Keep [a] H H' → BagAt a H' → Q (.str s) H') : spName [.ref a, .int sh] H Q E := ⟨a, sh, rfl, hp, k⟩
def spNames : Sp := fun vs H Q _ => ∃ (a : Addr) (n : Int), vs = [.ref a, .int n] ∧ BagAt a H ∧ 1 ≤ n ∧ n ≤ 8 ∧ ∀ (p : Addr) (xs : List Str) (H' : Hp), 1 ≤ xs.length → xs.length ≤ 8 → (∀ x ∈ xs, IsQ x) → xs.Nodup → Keep [a] H H' → BagAt a H' → H p = none → NamesAt H' p xs → Q (.ref p) H'
def al26 : List Nat := ("abcdefghijklmnopqrstuvwxyz" : Str).cps.toList
def al37 : List Nat := ("abcdefghijklmnopqrstuvwxyz0123456789." : Str).cps.toList
def al36 : List Nat := ("abcdefghijklmnopqrstuvwxyz0123456789" : Str).cps.toList
theorem al26_ok : ∀ c ∈ al26, c ∈ lettersL ∧ c ≠ 46 := by decide +kernel
theorem al37_ok : ∀ c ∈ al37, c ∈ signsL := by decide +kernel
theorem al36_ok : ∀ c ∈ al36, c ∈ signsL ∧ c ≠ 46 := by decide +kernel
section
variable {P : Program} {w : World} {K : PySem.W.Frag} {mg : Str → Option Value} {base : Heap}
abbrev GTake (P : Program) (w : World) (K : PySem.W.Frag) (mg : Str → Option Value) (base : Heap) (T : Tx K mg) := FnOk P w K mg base CX0 1 T.f_w_take T.fd_w_take ["_law_bag_here", "_law_many"] spTakeB
theorem ok_number (T : Tx K mg) (G_w_take : GTake P w K mg base T) : FnOk P w K mg base CX0 2 T.f_w_number T.fd_w_number ["_law_bag_here", "_law_shift"] spNum := by
  refine T.F_w_number.ok sc_w_number (fun vs H Q E h => ?_) (fun cdv A outer s H vs Q E hr h => ?_)
  · obtain ⟨a, sh, rfl, _⟩ := h; rfl
  · obtain ⟨a, sh, rfl, hp, q⟩ := h
    refine ⟨_, (pss_cons (ps_set (i := 2) sc_w_number.nd rfl (Or.inl rfl) (pe_call G_w_take (hr.mono (by decide)) rfl T.g_w_take T.F_w_take.kp T.b_w_take .nil pass0 (pa_cons (pv 0) (pa_cons pe_int pa_nil))))
    (pss_cons (ps_if (pt_cmpR op_lt (pv 2) pe_int (nomark _))
    (pss_one (ps_ret (pe_op op_sub (pe_op op_mod (pe_callTy call_int1 (by rfl) T.m_int (by decide +kernel) (pa_cons (pe_op op_add (pe_call G_w_take (hr.mono (by decide)) rfl T.g_w_take T.F_w_take.kp T.b_w_take .nil pass0 (pa_cons (pv 0) (pa_cons pe_int pa_nil))) (pv 1)) pa_nil)) pe_int) pe_int)))
    pss_nil)
    (pss_cons (ps_if (pt_cmpR op_lt (pv 2) pe_int (nomark _))
    (pss_one (ps_ret (pe_op op_sub (pe_call G_w_take (hr.mono (by decide)) rfl T.g_w_take T.F_w_take.kp T.b_w_take .nil pass0 (pa_cons (pv 0) (pa_cons pe_int pa_nil))) pe_int)))
    pss_nil)
    (pss_cons (ps_set (i := 3) sc_w_number.nd rfl (Or.inl rfl) (pe_op op_add (pe_op op_add (pe_op op_mul (pe_call G_w_take (hr.mono (by decide)) rfl T.g_w_take T.F_w_take.kp T.b_w_take .nil pass0 (pa_cons (pv 0) (pa_cons (pe_op op_pow pe_int pe_int) pa_nil))) (pe_op op_pow pe_int pe_int)) (pe_op op_mul (pe_call G_w_take (hr.mono (by decide)) rfl T.g_w_take T.F_w_take.kp T.b_w_take .nil pass0 (pa_cons (pv 0) (pa_cons (pe_op op_pow pe_int pe_int) pa_nil))) (pe_op op_pow pe_int pe_int))) (pe_call G_w_take (hr.mono (by decide)) rfl T.g_w_take T.F_w_take.kp T.b_w_take .nil pass0 (pa_cons (pv 0) (pa_cons (pe_op op_pow pe_int pe_int) pa_nil)))))
    (pss_one (ps_ret (pe_op op_mulG (pv 3) (pe_op op_sub pe_int (pe_op op_mul pe_int (pe_call G_w_take (hr.mono (by decide)) rfl T.g_w_take T.F_w_take.kp T.b_w_take .nil pass0 (pa_cons (pv 0) (pa_cons pe_int pa_nil)))))))))))), ?_⟩
    walk_at "start"
    walk_at "sts"
    refine r_takeB hp (by omega) (by omega) fun way H1 w0 w1 k1 p1 => ?_
    walk_at "sts"
    refine r_ite (fun c => ?_) (fun c => ?_)
    · walk_at "sts"
      refine r_takeB p1 (by omega) (by omega) fun r H2 r0 r1 k2 p2 => ?_
      walk_at "sts"
      have := Int.emod_nonneg (r + sh) (show (11 : Int) ≠ 0 by decide)
      have := Int.emod_lt_of_pos (r + sh) (show (0 : Int) < 11 by decide)
      exact q _ _ (by omega) (k1.trans k2) p2
    · walk_at "sts"
      refine r_ite (fun c => ?_) (fun c => ?_)
      · walk_at "sts"
        refine r_takeB p1 (by omega) (by omega) fun r H2 r0 r1 k2 p2 => ?_
        walk_at "sts"
        exact q _ _ (by omega) (k1.trans k2) p2
      · walk_at "sts"
        refine r_takeB p1 (by omega) (by omega) fun x H2 x0 x1 k2 p2 => ?_
        walk_at "sts"
        refine r_takeB p2 (by omega) (by omega) fun y H3 y0 y1 k3 p3 => ?_
        walk_at "sts"
        refine r_takeB p3 (by omega) (by omega) fun z H4 z0 z1 k4 p4 => ?_
        walk_at "sts"
        refine r_takeB p4 (by omega) (by omega) fun t H5 t0 t1 k5 p5 => ?_
        walk_at "sts"
        refine q _ _ ?_ ((((k1.trans k2).trans k3).trans k4).trans k5) p5
        rw [Int.mul_comm, sgn_abs t0 t1]; omega
theorem ok_quantity (T : Tx K mg) (G_w_take : GTake P w K mg base T) : FnOk P w K mg base CX0 2 T.f_w_quantity T.fd_w_quantity ["_law_bag_here", "_law_shift"] spName := by
  refine T.F_w_quantity.ok sc_w_quantity (fun vs H Q E h => ?_) (fun cdv A outer s H vs Q E hr h => ?_)
  · obtain ⟨a, sh, rfl, _⟩ := h; rfl
  · obtain ⟨a, sh, rfl, hp, q⟩ := h
    refine ⟨_, (pss_cons (ps_set (i := 2) sc_w_quantity.nd rfl (Or.inl rfl) (pe_ix ix_str pe_str (pe_op op_mod (pe_callTy call_int1 (by rfl) T.m_int (by decide +kernel) (pa_cons (pe_op op_add (pe_call G_w_take (hr.mono (by decide)) rfl T.g_w_take T.F_w_take.kp T.b_w_take .nil pass0 (pa_cons (pv 0) (pa_cons pe_int pa_nil))) (pv 1)) pa_nil)) pe_int) (fun _ _ => rfl)))
    (pss_cons (ps_set (i := 3) sc_w_quantity.nd rfl (Or.inl rfl) (pe_call G_w_take (hr.mono (by decide)) rfl T.g_w_take T.F_w_take.kp T.b_w_take .nil pass0 (pa_cons (pv 0) (pa_cons pe_int pa_nil))))
    (pss_cons (ps_for PassesOwn.never rfl (pi_range1 rfl T.m_range (pa_cons (pe_op op_sub (pv 3) pe_int) pa_nil)) (pg_name (i := 4) sc_w_quantity.nd rfl (Or.inl rfl))
    (pss_one (ps_set (i := 2) sc_w_quantity.nd rfl (Or.inl rfl) (pe_op op_addS (pv 2) (pe_ix ix_str pe_str (pe_call G_w_take (hr.mono (by decide)) rfl T.g_w_take T.F_w_take.kp T.b_w_take .nil pass0 (pa_cons (pv 0) (pa_cons pe_int pa_nil))) (fun _ _ => rfl))))))
    (pss_cons (ps_if (pt_cmpR op_eq (pv 3) pe_int (nomark _))
    (pss_one (ps_ret (pv 2)))
    pss_nil)
    (pss_one (ps_ret (pe_op op_addS (pv 2) (pe_ix ix_str pe_str (pe_call G_w_take (hr.mono (by decide)) rfl T.g_w_take T.F_w_take.kp T.b_w_take .nil pass0 (pa_cons (pv 0) (pa_cons pe_int pa_nil))) (fun _ _ => rfl))))))))), ?_⟩
    walk_at "start"
    walk_at "sts"
    refine r_takeB hp (by omega) (by omega) fun r1 H1 a1 b1 k1 p1 => ?_
    walk_at "sts"
    have := Int.emod_nonneg (r1 + sh) (show (26 : Int) ≠ 0 by decide)
    have := Int.emod_lt_of_pos (r1 + sh) (show (0 : Int) < 26 by decide)
    obtain ⟨c1, hc1, hm1⟩ := at_list (l := al26) (i := (r1 + sh) % 26) (by omega) (by show _ < ((26 : Nat) : Int); omega)
    refine r_ixS (by decide +kernel) hc1 ?_
    walk_at "sts"
    refine r_takeB p1 (by omega) (by omega) fun n H2 n0 n1 k2 p2 => ?_
    have k12 := k1.trans k2
    obtain ⟨l1, l2⟩ := al26_ok c1 hm1
    walk_at "sts"
    refine forR1_go (fun i σ' H' => ∃ (t : Str) (x : Option V), σ' = [some (.ref a), some (.int sh), some (.str t), some (.int n), x] ∧ Keep [a] H H' ∧ BagAt a H' ∧ PQ (i + 1) t ∧ (i = 0 → t = sgn1 c1)) (by omega) ⟨sgn1 c1, none, rfl, k12, p2, PQ.one l1, fun _ => rfl⟩ ?_ ?_
    · rintro i σ' H3 hi ⟨t, x, rfl, k3, p3, pq, _⟩
      walk_at "sts"
      refine r_takeB p3 (by omega) (by omega) fun r H4 r0 r1 k4 p4 => ?_
      walk_at "sts"
      obtain ⟨c, hc, hm⟩ := at_list (l := al37) (i := r) (by omega) (by show _ < ((37 : Nat) : Int); omega)
      refine r_ixS (by decide +kernel) hc ?_
      have hl : t.length ≤ 100 := by rw [pq.len]; omega
      refine r_addS (show t.length + 1 ≤ sizeLine from le_size (by omega)) ?_
      walk_at "sts"
      exact ⟨_, _, rfl, k3.trans k4, p4, pq.snoc (al37_ok c hm), fun e => by omega⟩
    · rintro σ' H3 ⟨t, x, rfl, k3, p3, pq, hz⟩
      walk_at "sts"
      refine r_ite (fun c => ?_) (fun c => ?_)
      · walk_at "sts"
        have e := hz (by omega)
        subst e
        exact q _ _ ((PQ.one l1).isQ (by omega) (by show [c1].getLast? = some c1; rfl) l2) k3 p3
      · walk_at "sts"
        refine r_takeB p3 (by omega) (by omega) fun r H4 r0 r1 k4 p4 => ?_
        walk_at "sts"
        obtain ⟨c, hc, hm⟩ := at_list (l := al36) (i := r) (by omega) (by show _ < ((36 : Nat) : Int); omega)
        refine r_ixS (by decide +kernel) hc ?_
        have hl : t.length ≤ 100 := by rw [pq.len]; omega
        refine r_addS (show t.length + 1 ≤ sizeLine from le_size (by omega)) ?_
        obtain ⟨m1, m2⟩ := al36_ok c hm
        exact q _ _ ((pq.snoc m1).isQ (by omega) last_snoc m2) (k3.trans k4) p4
theorem ok_names (T : Tx K mg) (G_w_quantity : FnOk P w K mg base CX0 2 T.f_w_quantity T.fd_w_quantity ["_law_bag_here", "_law_shift"] spName) : FnOk P w K mg base CX0 3 T.f_w_names T.fd_w_names ["_law_bag_here", "_law_many"] spNames := by
  refine T.F_w_names.ok sc_w_names (fun vs H Q E h => ?_) (fun cdv A outer s H vs Q E hr h => ?_)
  · obtain ⟨a, n, rfl, _⟩ := h; rfl
  · obtain ⟨a, n, rfl, hp, n1, n8, q⟩ := h
    refine ⟨_, (pss_cons (ps_set (i := 2) sc_w_names.nd rfl (Or.inl rfl) (pe_lst pa_nil))
    (pss_cons (ps_for PassesOwn.never rfl (pi_range1 rfl T.m_range (pa_cons (pv 1) pa_nil)) (pg_name (i := 3) sc_w_names.nd rfl (Or.inl rfl))
    (pss_cons (ps_set (i := 4) sc_w_names.nd rfl (Or.inl rfl) (pe_call G_w_quantity (hr.mono (by decide)) rfl T.g_w_quantity T.F_w_quantity.kp T.b_w_quantity .nil pass0 (pa_cons (pv 0) (pa_cons (pv 3) pa_nil))))
    (pss_one (ps_if (pt_cmpR op_notIn_seq (pv 4) (pv 2) (by rfl))
    (pss_one (ps_expr (pe_bm PySem.F.plainAttrs_list PySem.F.slot_list_append PySem.F.type_list_append mt_append (pv 2) (pa_cons (pv 4) pa_nil))))
    pss_nil))))
    (pss_one (ps_ret (pv 2))))), ?_⟩
    walk_at "start"
    walk_at "sts"
    intro p hpn
    have k1 : Keep [] H (upd H p (.lst [])) := Keep.new hpn
    have e1 : NamesAt (upd H p (.lst [])) p [] := upd_same
    have b1 := hp.keep0 k1
    have pa : p ≠ a := hp.ne hpn
    generalize upd H p (.lst []) = H1 at k1 e1 b1 ⊢
    walk_at "sts"
    refine forR1_go (fun i σ' H' => ∃ (xs : List Str) (x y : Option V), σ' = [some (.ref a), some (.int n), some (.ref p), x, y] ∧ Keep [a] H H' ∧ BagAt a H' ∧ NamesAt H' p xs ∧ xs.length ≤ i ∧ (1 ≤ i → 1 ≤ xs.length) ∧ xs.Nodup ∧ ∀ x ∈ xs, IsQ x) (by omega) ⟨[], none, none, rfl, k1.mono (by simp), b1, e1, by simp, by omega, by simp, by simp⟩ ?_ ?_
    · rintro i σ' H2 hi ⟨xs, x, y, rfl, k2, b2, e2, l2, l3, nd, hq⟩
      walk_at "sts"
      refine r_name b2 fun s H3 hs k3 b3 => ?_
      have e3 : NamesAt H3 p xs := k3 _ _ (by simpa using pa) e2
      have k23 := k2.trans k3
      walk_at "sts"
      refine r_ninL (sqL_of e3) rfl (flat_strs xs) ?_
      rw [inV_str]
      walk_at "sts"
      refine r_iteN (fun c => ?_) (fun c => ?_)
      · walk_at "sts"
        have pH : H p = none := hpn
        refine ⟨xs ++ [s], _, _, rfl, k23.mut pH, b3.keep (Keep.at (M := [p]) (by simp)) (by simpa using pa.symm), by unfold NamesAt; rw [upd_same, List.map_append]; rfl, by simp; omega, by simp, ?_, fun z hz => ?_⟩
        · exact List.nodup_append.mpr ⟨nd, by simp, fun x hx y hy e => by simp at hy; subst hy; subst e; exact c hx⟩
        · rcases List.mem_append.mp hz with hz | hz
          · exact hq z hz
          · rw [List.mem_singleton.mp hz]; exact hs
      · walk_at "sts"
        refine ⟨xs, _, _, rfl, k23, b3, e3, by omega, fun _ => ?_, nd, hq⟩
        exact List.length_pos_of_mem c
    · rintro σ' H2 ⟨xs, x, y, rfl, k2, b2, e2, l2, l3, nd, hq⟩
      walk_at "sts"
      exact q p xs _ (l3 (by omega)) (by omega) hq nd k2 b2 hpn e2
end
/-! ### the terms of a form made -/
/-- a tuple of pairs that has no dict -/
def TupX (H : Hp) (p : Addr) (ts : List Fm.Tm) : Prop := ∃ (as : List Addr) (o : Obj), H p = some (.frz o (.tup (as.map V.ref))) ∧ o.dict = none ∧ PairsAt H as ts
theorem TupX.keep {M : List Addr} {H H' : Hp} {t : Addr} {ts : List Fm.Tm} (h : TupX H t ts) (k : Keep M H H') (n : ∀ m ∈ M, ∃ xs, H m = some (.lst xs)) : TupX H' t ts := by
  obtain ⟨as, o, e, d, p⟩ := h
  refine ⟨as, o, k _ _ (fun hm => ?_) e, d, p.keep k n⟩
  obtain ⟨xs, hx⟩ := n t hm
  rw [hx] at e; cases e
theorem TupX.keep0 {H H' : Hp} {t : Addr} {ts : List Fm.Tm} (h : TupX H t ts) (k : Keep [] H H') : TupX H' t ts := h.keep k (by simp)
theorem TupX.sq {K : PySem.W.Frag} {H : Hp} {t : Addr} {as : List Addr} {o : Obj} (e : H t = some (.frz o (.tup (as.map V.ref)))) : SqT K H t (as.map V.ref) := Or.inl (Or.inr ⟨o, e⟩)
def spAdded : Sp := fun vs H Q _ => ∃ (p : Addr) (ts : List Fm.Tm), vs = [.ref p] ∧ RowAt H p ts ∧ ts.length ≤ 60 ∧ (∀ t ∈ ts, IsQ t.1) ∧ ∀ (q : Addr) (H' : Hp), Keep [] H H' → H q = none → TupX H' q (Fm.can ts) → Q (.ref q) H'
theorem keys_kOf {ks : List Fm.Tm} : ((Fm.kOf ks).map fun kv => kV kv.1) = (ks.map (·.1)).map V.str := by unfold Fm.kOf; rw [List.map_map, List.map_map]; rfl
theorem take_snoc {α : Type} {xs : List α} {i : Nat} {x : α} (h : xs[i]? = some x) : xs.take (i + 1) = xs.take i ++ [x] := by rw [List.take_add_one, h]; rfl
theorem getRef {as : List Addr} {i : Nat} {x : V} (h : (as.map V.ref)[i]? = some x) : ∃ a, as[i]? = some a ∧ x = .ref a := by
  rw [List.getElem?_map] at h
  obtain ⟨a, ha, rfl⟩ := Option.map_eq_some_iff.mp h
  exact ⟨a, ha, rfl⟩
theorem getStr {xs : List Str} {i : Nat} {x : V} (h : (xs.map V.str)[i]? = some x) : ∃ s, xs[i]? = some s ∧ x = .str s := by
  rw [List.getElem?_map] at h
  obtain ⟨a, ha, rfl⟩ := Option.map_eq_some_iff.mp h
  exact ⟨a, ha, rfl⟩
section
variable {P : Program} {w : World} {K : PySem.W.Frag} {mg : Str → Option Value} {base : Heap}
theorem ok_added (T : Tx K mg) (G_is_quantity : FnOk P w K mg base CX0 1 T.f_is_quantity T.fd_is_quantity ["text"] spIsQ) : FnOk P w K mg base CX0 2 T.f_added_terms T.fd_added_terms ["terms"] spAdded := by
  refine T.F_added_terms.ok sc_added_terms (fun vs H Q E h => ?_) (fun cdv A outer s H vs Q E hr h => ?_)
  · obtain ⟨a, ts, rfl, _⟩ := h; rfl
  · obtain ⟨p, ts, rfl, hp, hl, hq, q⟩ := h
    have hval : ∀ {ks us : List Fm.Tm} (S : Fm.Sums ks us) (nm : Str), (valV (Fm.kOf ks) (Sum.inr nm)).getD (V.int 0) = V.int (Fm.wt us nm) := fun {ks us} S nm => by
      rw [Fm.val_kOf, S.find]
      split
      · rfl
      · next e => rw [Fm.wt_none (fun p hp z => e (by rw [← z]; exact List.mem_map_of_mem hp))]; rfl
    obtain ⟨as, ep, hp⟩ := hp
    refine ⟨_, (pss_cons (ps_set (i := 1) sc_added_terms.nd rfl (Or.inr rfl) pe_dnewK)
    (pss_cons (ps_for PassesOwn.never rfl (pi_list (pv 0)) (pg_tup (n := 2) rfl (pgs_cons (pg_name (i := 2) sc_added_terms.nd rfl (Or.inl rfl)) (pgs_cons (pg_name (i := 3) sc_added_terms.nd rfl (Or.inl rfl)) pgs_nil)))
    (pss_cons (ps_if (pt_not (pt_val (pe_call G_is_quantity (hr.mono (by decide)) rfl T.g_is_quantity T.F_is_quantity.kp T.b_is_quantity .nil pass0 (pa_cons (pv 2) pa_nil))))
    (pss_one ps_never)
    pss_nil)
    (pss_one (ps_dput (hu_of hr) (pv 1) (pv 2) (pe_op op_add (pe_dget2 (hu_of hr) (pv 1) (pv 2) pe_int ⟨rfl, rfl, rfl, rfl⟩) (pv 3)) rfl))))
    (pss_one (ps_ret (pe_callTy Lv.call_tuple_ofE (by rfl) T.m_tuple (by decide +kernel) (pa_cons (pe_lc (own := [("name", 2)]) (g := gName 2)  rfl sc_added_terms.nd (pi_list (pe_callB cr_sortedS (by rfl) T.m_sorted (by decide +kernel) (pa_cons (pe_callTy (call_list_dK rfl) (by rfl) T.m_list (by decide +kernel) (pa_cons (pv 1) pa_nil)) pa_nil))) (blkOk_by (own := [("name", 2)]) (N := ["terms", "sums", "name", "weight"]) (sc := defScope s_added_terms) (by decide +kernel)) (fun _ _ _ _ _ => pg_name (i := 2) sc_added_terms.nd rfl (Or.inl rfl)) (fun _ _ _ _ _ => pts_one (pt_cmpR op_ne (pe_dget (hu_of hr) (pv 1) (pv 2) (fun _ _ => rfl)) pe_int (nomark _))) (fun _ _ _ _ _ => (pe_tup (pa_cons (pv 2) (pa_cons (pe_dget (hu_of hr) (pv 1) (pv 2) (fun _ _ => rfl)) pa_nil))))) pa_nil)))))), ?_⟩
    walk_at "start"
    walk_at "sts"
    intro d hd
    have k1 : Keep [] H (upd H d (.dK [])) := Keep.new hd
    have e1 : upd H d (.dK []) d = some (.dK (Fm.kOf [])) := upd_same
    generalize upd H d (.dK []) = H1 at k1 e1 ⊢
    walk_at "sts"
    refine forL_go (fun i σ' H' => ∃ (ks : List Fm.Tm) (x1 x2 : Option V), σ' = [some (.ref p), some (.ref d), x1, x2] ∧ H' d = some (.dK (Fm.kOf ks)) ∧ Fm.Sums ks (ts.take i) ∧ Keep [] H H') (sqL_of (k1 _ _ (by simp) ep)) ⟨[], _, _, rfl, e1, by simpa using Fm.Sums.nil, k1⟩ (fun i σ' H' _ h => by obtain ⟨_, _, _, _, _, _, k⟩ := h; exact sqL_of (k _ _ (by simp) ep)) ?_ ?_
    · rintro i x σ' H2 hx ⟨ks, x1, x2, rfl, e2, S, k2⟩
      obtain ⟨a, ha, rfl⟩ := getRef hx
      obtain ⟨t, ht, et⟩ := hp.get ha
      have et2 := k2 _ _ (by simp) et
      walk_at "sts"
      refine r_isQ (hq t (List.mem_of_getElem? ht)) fun H3 k3 => ?_
      have e3 := k3 _ _ (by simp) e2
      have k13 := k2.trans k3
      walk_at "sts"
      rw [hval S]
      walk_at "sts"
      refine r_dputS e3 (lt_size (by unfold Fm.kOf; rw [List.length_map]; have := S.len; rw [List.length_take] at this; omega)) ?_
      rw [Fm.put_kOf]
      exact ⟨_, _, _, rfl, upd_same, by rw [take_snoc ht]; exact S.put t, k13.mut hd⟩
    · rintro σ' H2 ⟨ks, x1, x2, rfl, e2, S, k2⟩
      rw [List.length_map, hp.len, List.take_length] at S
      walk_at "sts"
      refine r_listD e2 fun l hl2 => ?_
      rw [keys_kOf]
      have k3 : Keep [] H2 (upd H2 l (.lst ((ks.map (·.1)).map V.str))) := Keep.new hl2
      have e3 : upd H2 l (.lst ((ks.map (·.1)).map V.str)) l = some (.lst ((ks.map (·.1)).map V.str)) := upd_same
      generalize upd H2 l (.lst ((ks.map (·.1)).map V.str)) = H3 at k3 e3 ⊢
      walk_at "sts"
      refine r_sortS (sqL_of e3) (by rw [List.length_map]; have := S.len; omega) fun ys l2 pm st hl3 => ?_
      have k4 : Keep [] H3 (upd H3 l2 (.lst (ys.map V.str))) := Keep.new hl3
      have e4 : upd H3 l2 (.lst (ys.map V.str)) l2 = some (.lst (ys.map V.str)) := upd_same
      generalize upd H3 l2 (.lst (ys.map V.str)) = H4 at k4 e4 ⊢
      have k24 := k3.trans k4
      have kH4 := k2.trans k24
      have ed := k24 _ _ (by simp) e2
      have nd : ys.Nodup := pm.nodup_iff.mpr S.nd
      have asc := Fm.asc_of_sorted st nd
      have mem : ∀ x, x ∈ ys ↔ x ∈ ts.map (·.1) := fun x => (pm.mem_iff).trans (S.iff x)
      have ly : ys.length ≤ 60 := by have := pm.length_eq; rw [List.length_map] at this; have := S.len; omega
      refine lcL_go (fun D i acc H' => ∃ bs : List Addr, acc = bs.map V.ref ∧ PairsAt H' bs (Fm.rowOf (ys.take i) (Fm.wt ts)) ∧ Keep [] H4 H' ∧ H4 D = none) (sqL_of e4) (fun D hD => ⟨[], rfl, by simp [Fm.rowOf, PairsAt], Keep.new hD, hD⟩) (fun D i acc H' _ h => by obtain ⟨_, _, _, k, _⟩ := h; exact sqL_of (k _ _ (by simp) e4)) ?_ ?_
      · rintro D i x acc H5 hx hD ⟨bs, rfl, hb, k5, nD⟩
        obtain ⟨nm, hnm, rfl⟩ := getStr hx
        have ed5 := k5 _ _ (by simp) ed
        have hv : valV (Fm.kOf ks) (Sum.inr nm) = some (V.int (Fm.wt ts nm)) := by
          rw [Fm.val_kOf, S.find, if_pos ((mem nm).mp (List.mem_of_getElem? hnm))]
        have hlen := hb.len
        have hb60 : bs.length < 100000 := by
          have := List.length_filter_le (fun p : Fm.Tm => decide (p.2 ≠ 0)) ((ys.take i).map fun x => (x, Fm.wt ts x))
          unfold Fm.rowOf at hlen
          rw [List.length_map, List.length_take] at this
          omega
        walk_at "sts"
        refine r_dgetS ed5 hv ?_
        walk_at "sts"
        refine r_iteN (fun c => ?_) (fun c => ?_)
        · walk_at "sts"
          refine r_dgetS ed5 hv ?_
          walk_at "sts"
          intro t ht
          have k6 : Keep [] H5 (upd H5 t (.tup [.str nm, .int (Fm.wt ts nm)])) := Keep.new ht
          have e6 : upd H5 t (.tup [.str nm, .int (Fm.wt ts nm)]) t = some (.tup [.str nm, .int (Fm.wt ts nm)]) := upd_same
          generalize upd H5 t (.tup [.str nm, .int (Fm.wt ts nm)]) = H6 at k6 e6 ⊢
          have hD6 := k6 _ _ (by simp) hD
          refine lc_put hD6 (by rw [List.length_map]; exact lt_size hb60) ⟨bs ++ [t], by rw [List.map_append]; rfl, ?_, (k5.trans k6).mut nD, nD⟩
          rw [take_snoc hnm, Fm.rowOf_snoc, if_pos c]
          exact ((hb.keep0 k6).app (bs := [t]) (us := [(nm, Fm.wt ts nm)]) ⟨e6, trivial⟩).keep (Keep.at (M := [D]) (by simp)) (fun m hm => by rw [List.mem_singleton.mp hm]; exact ⟨_, hD6⟩)
        · walk_at "sts"
          exact ⟨_, hD, bs, rfl, by rw [take_snoc hnm, Fm.rowOf_snoc, if_neg (by simpa using c)]; exact hb, k5, nD⟩
      · rintro D acc H5 nD hD ⟨bs, rfl, hb, k5, _⟩
        rw [List.length_map, List.take_length, Fm.rowOf_can asc nd fun t ht => (mem _).mpr (List.mem_map_of_mem ht)] at hb
        walk_at "sts"
        refine Lv.r_tupE (sqL_of hD) fun u o hu oc od => ?_
        have kH5 := kH4.trans k5
        exact q u _ (kH5.trans (Keep.new hu)) (kH5.free (by simp) hu) ⟨bs, o, upd_same, od, hb.keep0 (Keep.new hu)⟩
end
theorem RowAt.keep {M : List Addr} {H H' : Hp} {t : Addr} {ts : List Fm.Tm} (h : RowAt H t ts) (k : Keep M H H') (n : ∀ m ∈ M, ∃ xs, H m = some (.lst xs)) (ht : t ∉ M) : RowAt H' t ts := by
  obtain ⟨as, e, p⟩ := h
  exact ⟨as, k _ _ ht e, p.keep k n⟩
theorem RowAt.keep0 {H H' : Hp} {t : Addr} {ts : List Fm.Tm} (h : RowAt H t ts) (k : Keep [] H H') : RowAt H' t ts := h.keep k (by simp) (by simp)
theorem TupAt.keep {M : List Addr} {H H' : Hp} {t : Addr} {ts : List Fm.Tm} (h : TupAt H t ts) (k : Keep M H H') (n : ∀ m ∈ M, ∃ xs, H m = some (.lst xs)) : TupAt H' t ts := by
  obtain ⟨as, e, p⟩ := h
  refine ⟨as, k _ _ (fun hm => ?_) e, p.keep k n⟩
  obtain ⟨xs, hx⟩ := n t hm
  rw [hx] at e; cases e
theorem TupAt.keep0 {H H' : Hp} {t : Addr} {ts : List Fm.Tm} (h : TupAt H t ts) (k : Keep [] H H') : TupAt H' t ts := h.keep k (by simp)
theorem put2 {v w : V} : putF (Str.ofString "constant") v [((Str.ofString "terms"), w)] = [((Str.ofString "terms"), w), ((Str.ofString "constant"), v)] := by
  unfold putF
  rw [if_neg (show ¬ (Str.ofString "terms") = (Str.ofString "constant") by decide +kernel)]
  rfl
def FormAt (C : Addr) (H : Hp) (x : Addr) (ts : List Fm.Tm) (c : Int) : Prop := ∃ dx t, H x = some (.ins C dx [("terms", .ref t), ("constant", .int c)]) ∧ TupX H t ts
theorem FormAt.keep {C : Addr} {M : List Addr} {H H' : Hp} {x : Addr} {ts : List Fm.Tm} {c : Int} (h : FormAt C H x ts c) (k : Keep M H H') (n : ∀ m ∈ M, ∃ xs, H m = some (.lst xs)) : FormAt C H' x ts c := by
  obtain ⟨dx, t, e, p⟩ := h
  refine ⟨dx, t, k _ _ (fun hm => ?_) e, p.keep k n⟩
  obtain ⟨xs, hx⟩ := n x hm
  rw [hx] at e; cases e
theorem FormAt.keep0 {C : Addr} {H H' : Hp} {x : Addr} {ts : List Fm.Tm} {c : Int} (h : FormAt C H x ts c) (k : Keep [] H H') : FormAt C H' x ts c := h.keep k (by simp)
theorem PairsAt.keepI {C dx x : Addr} {fs : List (Str × V)} {H H' : Hp} {as : List Addr} {ts : List Fm.Tm} (h : PairsAt H as ts) (k : Keep [x] H H') (e : H x = some (.ins C dx fs)) : PairsAt H' as ts := h.mono fun a p _ _ ea => k a _ (by simp; rintro rfl; rw [e] at ea; cases ea) ea
def spInit (C : Addr) : Sp := fun vs H Q _ => ∃ (x dx p : Addr) (ts : List Fm.Tm) (c : Int), vs = [.ref x, .ref p, .int c] ∧ H x = some (.ins C dx []) ∧ RowAt H p ts ∧ ts.length ≤ 60 ∧ (∀ t ∈ ts, IsQ t.1) ∧ ∀ H', Keep [x] H H' → FormAt C H' x (Fm.can ts) c → Q .non H'
theorem r_newForm {C p : Addr} {ts : List Fm.Tm} {c : Int} {H : Hp} {R : Addr → Hp → Prop} {E : XK} (hp : RowAt H p ts) (hl : ts.length ≤ 60) (hq : ∀ t ∈ ts, IsQ t.1) (k : ∀ x H', Keep [] H H' → H x = none → FormAt C H' x (Fm.can ts) c → R x H') :
    ∀ x dx, H x = none → H dx = none → dx ≠ x → spInit C [.ref x, .ref p, .int c] (upd (upd H dx (.own x)) x (.ins C dx [])) (fun v H2 => v = .non ∧ R x H2) E := fun x dx nx ndx ne => by
  have k0 : Keep [] H (upd (upd H dx (.own x)) x (.ins C dx [])) := (Keep.new ndx).mut nx
  refine ⟨x, dx, p, ts, c, rfl, upd_same, hp.keep0 k0, hl, hq, fun H' k1 f => ⟨rfl, k x H' (fun b o _ hb => ?_) nx f⟩⟩
  exact k1 b o (by simp; rintro rfl; rw [nx] at hb; cases hb) (k0 b o (by simp) hb)
section
variable {P : Program} {w : World} {K : PySem.W.Frag} {mg : Str → Option Value} {base : Heap}
theorem ok_init (T : Tx K mg) (G_added_terms : FnOk P w K mg base CX0 2 T.f_added_terms T.fd_added_terms ["terms"] spAdded) : FnOk P w K mg base CX0 3 T.f_Form___init T.fd_Form___init ["self", "terms", "constant"] (spInit T.C_Form) := by
  refine T.F_Form___init.ok sc_Form___init (fun vs H Q E h => ?_) (fun cdv A outer s H vs Q E hr h => ?_)
  · obtain ⟨x, dx, p, ts, c, rfl, _⟩ := h; rfl
  · obtain ⟨x, dx, p, ts, c, rfl, hx, hp, hl, hq, q⟩ := h
    have oc := T.oc_Form
    have na := T.na_Form_terms
    have nc := T.na_Form_constant
    refine ⟨_, PSs.nox (pss_cons (ps_fld (pv 0) (pe_call G_added_terms (hr.mono (by decide)) rfl T.g_added_terms T.F_added_terms.kp T.b_added_terms .nil pass0 (pa_cons (pv 1) pa_nil)) rfl)
    (pss_one (ps_fld (pv 0) (pv 2) rfl))), ?_⟩
    walk_at "start"
    walk_at "sts"
    refine ⟨p, ts, rfl, hp, hl, hq, fun t H1 k1 nt ht => ?_⟩
    have e1 := k1 _ _ (by simp) hx
    walk_at "sts"
    rw [show putF (Str.ofString "terms") (V.ref t) [] = [((Str.ofString "terms"), .ref t)] from rfl]
    walk_at "sts"
    rw [put2]
    have kx : Keep [x] H1 (upd H1 x (.ins T.C_Form dx [((Str.ofString "terms"), .ref t), ((Str.ofString "constant"), .int c)])) := Keep.at (by simp)
    rw [upd_upd]
    obtain ⟨as, o, et, od, pt⟩ := ht
    have nx : t ≠ x := by rintro rfl; rw [e1] at et; cases et
    exact q _ ((k1.mono (by simp)).trans kx) ⟨dx, t, upd_same, as, o, kx _ _ (by simpa using nx) et, od, pt.keepI kx e1⟩
abbrev GInit (P : Program) (w : World) (K : PySem.W.Frag) (mg : Str → Option Value) (base : Heap) (T : Tx K mg) := FnOk P w K mg base CX0 3 T.f_Form___init T.fd_Form___init ["self", "terms", "constant"] (spInit T.C_Form)
end
/-! ### dicts of ints -/
abbrev Kd := List (Key × Int)
def kd (d : Kd) : List (Key × V) := d.map fun p => (p.1, V.int p.2)
def gt : Kd → Key → Int
  | [], _ => 0
  | p :: d, k => if p.1 = k then p.2 else gt d k
def keysK (d : Kd) : List Key := d.map (·.1)
theorem kd_keys {d : Kd} : (kd d).map (·.1) = keysK d := by unfold kd keysK; rw [List.map_map]; rfl
theorem kd_len {d : Kd} : (kd d).length = d.length := List.length_map _
theorem keys_len {d : Kd} : (keysK d).length = d.length := List.length_map _
theorem kd_at {d : Kd} {i : Nat} {k : Key} {v : V} (h : (kd d)[i]? = some (k, v)) : ∃ n, d[i]? = some (k, n) ∧ v = .int n := by
  unfold kd at h
  rw [List.getElem?_map] at h
  obtain ⟨p, hp, e⟩ := Option.map_eq_some_iff.mp h
  obtain ⟨e1, e2⟩ := Prod.mk.inj e
  exact ⟨p.2, by rw [hp, ← e1], e2.symm⟩
noncomputable instance memDec (k : Key) (l : List Key) : Decidable (k ∈ l) := Classical.propDecidable _
theorem gt_off : ∀ {d : Kd} {k : Key}, k ∉ keysK d → gt d k = 0
  | [], _, _ => rfl
  | p :: d, k, h => by
    rw [gt, if_neg (fun e => h (by simp [keysK, e])), gt_off fun m => h (List.mem_cons_of_mem _ m)]
theorem gt_at : ∀ {d : Kd} {p : Key × Int}, (keysK d).Nodup → p ∈ d → gt d p.1 = p.2
  | q :: d, p, n, h => by
    obtain ⟨n1, n2⟩ := List.nodup_cons.mp n
    rw [gt]
    cases h with
    | head => rw [if_pos rfl]
    | tail _ h => rw [if_neg (fun e => n1 (by show q.1 ∈ keysK d; rw [e]; exact List.mem_map_of_mem h)), gt_at n2 h]
theorem val_kd : ∀ {d : Kd} {k : Key}, valV (kd d) k = if k ∈ keysK d then some (V.int (gt d k)) else none
  | [], k => by rw [if_neg (by simp [keysK])]; rfl
  | p :: d, k => by
    have e : kd (p :: d) = (p.1, V.int p.2) :: kd d := rfl
    rw [e, gt]
    by_cases c : p.1 = k
    · rw [valV_pos c, if_pos c, if_pos (by simp [keysK, c])]
    · rw [valV_neg c, if_neg c, val_kd]
      have : k ∈ keysK (p :: d) ↔ k ∈ keysK d := by
        constructor
        · intro h
          cases h with
          | head => exact absurd rfl c
          | tail _ h => exact h
        · exact List.mem_cons_of_mem _
      by_cases m : k ∈ keysK d
      · rw [if_pos m, if_pos (this.mpr m)]
      · rw [if_neg m, if_neg (fun h => m (this.mp h))]
theorem val_getD {d : Kd} {k : Key} : (valV (kd d) k).getD (V.int 0) = V.int (gt d k) := by
  rw [val_kd]
  split
  · rfl
  · next h => rw [gt_off h]; rfl
def putI (d : Kd) (k : Key) (n : Int) : Kd := if (d.any fun p => decide (p.1 = k)) = true then d.map (fun p => if p.1 = k then (p.1, n) else p) else d ++ [(k, n)]
theorem put_kd {d : Kd} {k : Key} {n : Int} : putK (kd d) k (V.int n) = kd (putI d k n) := by
  unfold putK putI
  have e : ((kd d).any fun p => decide (p.1 = k)) = d.any fun p => decide (p.1 = k) := by
    unfold kd; rw [List.any_map]; rfl
  rw [e]
  split
  · unfold kd
    rw [List.map_map, List.map_map]
    refine List.map_congr_left fun p _ => ?_
    show (if p.1 = k then (p.1, V.int n) else (p.1, V.int p.2)) = _
    by_cases c : p.1 = k
    · simp [c]
    · simp [c]
  · unfold kd; rw [List.map_append]; rfl
theorem any_key {d : Kd} {k : Key} : (d.any fun p => decide (p.1 = k)) = true ↔ k ∈ keysK d := by
  rw [List.any_eq_true]
  constructor
  · rintro ⟨p, hp, e⟩
    exact List.mem_map.mpr ⟨p, hp, of_decide_eq_true e⟩
  · intro h
    obtain ⟨p, hp, e⟩ := List.mem_map.mp h
    exact ⟨p, hp, decide_eq_true e⟩
theorem put_keys {d : Kd} {k : Key} {n : Int} : keysK (putI d k n) = if k ∈ keysK d then keysK d else keysK d ++ [k] := by
  unfold putI
  by_cases c : k ∈ keysK d
  · rw [if_pos (any_key.mpr c), if_pos c]
    unfold keysK
    rw [List.map_map]
    refine List.map_congr_left fun p _ => ?_
    show (if p.1 = k then (p.1, n) else p).1 = p.1
    by_cases c : p.1 = k <;> simp [c]
  · rw [if_neg (fun h => c (any_key.mp h)), if_neg c]
    unfold keysK
    rw [List.map_append]; rfl
theorem gt_app {d e : Kd} {k : Key} (h : k ∉ keysK d) : gt (d ++ e) k = gt e k := by
  induction d with
  | nil => rfl
  | cons p d ih =>
    rw [List.cons_append, gt, if_neg (fun c => h (by simp [keysK, c])), ih fun m => h (List.mem_cons_of_mem _ m)]
theorem gt_app1 {d e : Kd} {k : Key} (h : k ∈ keysK d) : gt (d ++ e) k = gt d k := by
  induction d with
  | nil => cases h
  | cons p d ih =>
    rw [List.cons_append, gt, gt]
    by_cases c : p.1 = k
    · rw [if_pos c, if_pos c]
    · rw [if_neg c, if_neg c]
      refine ih ?_
      cases h with
      | head => exact absurd rfl c
      | tail _ h => exact h
theorem put_gt {d : Kd} {k j : Key} {n : Int} : gt (putI d k n) j = if j = k then n else gt d j := by
  unfold putI
  by_cases c : k ∈ keysK d
  · rw [if_pos (any_key.mpr c)]
    induction d with
    | nil => cases c
    | cons p d ih =>
      rw [List.map_cons, gt, gt]
      by_cases e : p.1 = k
      · rw [if_pos e]
        by_cases j1 : p.1 = j
        · rw [if_pos j1, if_pos (by rw [← j1, e])]
        · rw [if_neg j1, if_neg j1, if_neg (fun z => j1 (by rw [e, z]))]
          by_cases m : k ∈ keysK d
          · rw [ih m, if_neg (fun z => j1 (by rw [e, z]))]
          · have : d.map (fun p => if p.1 = k then (p.1, n) else p) = d := by
              conv => rhs; rw [← List.map_id d]
              exact List.map_congr_left fun q hq => by rw [if_neg (fun z => m (by rw [← z]; exact List.mem_map_of_mem hq))]; rfl
            rw [this]
      · rw [if_neg e]
        have m : k ∈ keysK d := by
          cases c with
          | head => exact absurd rfl e
          | tail _ h => exact h
        by_cases j1 : p.1 = j
        · rw [if_pos j1, if_pos j1, if_neg (fun z => e (by rw [j1, z]))]
        · rw [if_neg j1, if_neg j1, ih m]
  · rw [if_neg (fun h => c (any_key.mp h))]
    by_cases m : j ∈ keysK d
    · rw [gt_app1 m, if_neg (fun z => c (by rw [← z]; exact m))]
    · rw [gt_app m, gt, gt, gt_off m]
      by_cases z : k = j
      · rw [if_pos z, if_pos z.symm]
      · rw [if_neg z, if_neg (Ne.symm z)]
structure Fine (d : Kd) : Prop where
  nd : (keysK d).Nodup
  nz : ∀ p ∈ d, p.2 ≠ 0
theorem Fine.iff {d : Kd} (f : Fine d) {k : Key} : k ∈ keysK d ↔ gt d k ≠ 0 := by
  constructor
  · intro h
    obtain ⟨p, hp, rfl⟩ := List.mem_map.mp h
    rw [gt_at f.nd hp]
    exact f.nz p hp
  · intro h
    exact Classical.byContradiction fun c => h (gt_off c)
/-- {k: f(n) for k, n in d.items() if g} -/
def mapK (f : Key → Int → Int) (g : Key → Int → Bool) (d : Kd) : Kd := (d.filter fun p => g p.1 p.2).map fun p => (p.1, f p.1 p.2)
theorem mapK_keys {f : Key → Int → Int} {g : Key → Int → Bool} {d : Kd} : keysK (mapK f g d) = (d.filter fun p => g p.1 p.2).map (·.1) := by unfold keysK mapK; rw [List.map_map]; rfl
theorem mapK_sub {f : Key → Int → Int} {g : Key → Int → Bool} {d : Kd} : ∀ k ∈ keysK (mapK f g d), k ∈ keysK d := fun k hk => by
  rw [mapK_keys] at hk
  obtain ⟨p, hp, rfl⟩ := List.mem_map.mp hk
  exact List.mem_map_of_mem (List.mem_filter.mp hp).1
theorem mapK_nd {f : Key → Int → Int} {g : Key → Int → Bool} {d : Kd} (h : (keysK d).Nodup) : (keysK (mapK f g d)).Nodup := by
  rw [mapK_keys]
  exact h.sublist (List.Sublist.map _ List.filter_sublist)
theorem mapK_gt {f : Key → Int → Int} {g : Key → Int → Bool} {d : Kd} (h : (keysK d).Nodup) {k : Key} : gt (mapK f g d) k = if k ∈ keysK d ∧ g k (gt d k) = true then f k (gt d k) else 0 := by
  by_cases c : k ∈ keysK (mapK f g d)
  · obtain ⟨q, hq, rfl⟩ := List.mem_map.mp c
    obtain ⟨p, hp, rfl⟩ := List.mem_map.mp hq
    obtain ⟨hp1, hp2⟩ := List.mem_filter.mp hp
    have e := gt_at h hp1
    rw [gt_at (mapK_nd h) hq, if_pos ⟨(List.mem_map.mpr ⟨p, hp1, rfl⟩ : p.1 ∈ keysK d), by show g p.1 (gt d p.1) = true; rw [e]; exact hp2⟩]
    show f p.1 p.2 = f p.1 (gt d p.1)
    rw [e]
  · rw [gt_off c]
    split
    · next hc =>
      obtain ⟨p, hp, rfl⟩ := List.mem_map.mp hc.1
      have e := gt_at h hp
      rw [e] at hc
      exact absurd (by rw [mapK_keys]; exact List.mem_map_of_mem (List.mem_filter.mpr ⟨hp, hc.2⟩)) c
    · rfl
theorem mapK_all {f : Key → Int → Int} {d : Kd} (h : (keysK d).Nodup) {k : Key} (z : f k 0 = 0) : gt (mapK f (fun _ _ => true) d) k = f k (gt d k) := by
  rw [mapK_gt h]
  by_cases c : k ∈ keysK d
  · rw [if_pos ⟨c, rfl⟩]
  · rw [if_neg (fun x => c x.1), gt_off c, z]
theorem mapK_len {f : Key → Int → Int} {g : Key → Int → Bool} {d : Kd} : (mapK f g d).length ≤ d.length := by unfold mapK; rw [List.length_map]; exact List.length_filter_le _ _
theorem mapK_keysT {f : Key → Int → Int} {d : Kd} : keysK (mapK f (fun _ _ => true) d) = keysK d := by
  rw [mapK_keys, List.filter_eq_self.mpr (fun _ _ => rfl)]; rfl
/-! ### rules -/
section
variable {K : PySem.W.Frag} {σ : L2.St} {H : Hp} {Q : VK} {te tk tv td : TE} {tt : TT} {G : TG} {vs : List Nat} {ts : TS} {D : L2.Ends} {d : Addr} {kvs : List (Key × V)}
theorem lockS {i : Nat} (k : tLockE te σ H fun v H' => D.nx (σ.set i (some v)) H') : tLock (tAsg te (gName i)) D σ H := k
theorem r_dgetK {p : Addr} {k : Key} {R : Option V → Prop} (h : H p = some (.dK kvs)) (q : R (valV kvs k)) : ∃ o, DGet H p (kV k) o ∧ R o := ⟨_, DGet.k (k := k) h, q⟩
theorem r_dputK {p : Addr} {k : Key} {v : V} {Q : Hp → Prop} (h : H p = some (.dK kvs)) (hl : kvs.length < sizeLine) (q : Q (upd H p (.dK (putK kvs k v)))) : rDPut (.ref p) (kV k) v H Q := ⟨p, _, rfl, DPut.k (k := k) h hl, q⟩
theorem r_dgetKS {p : Addr} {k : Key} {v : V} (h : H p = some (.dK kvs)) (h2 : valV kvs k = some v) (q : Q v H) : rDGet (.ref p) (kV k) H Q := ⟨p, v, rfl, .inl ⟨kvs, k, .inl h, rfl, h2.symm⟩, q⟩
/-- for k, v in d.items() -/
theorem forI_go (hd : H d = some (.dK kvs)) (up : ∀ od (Q' : VK), Q' (.ref d) (upd H d (.frz od (.dK kvs))) → td σ (upd H d (.frz od (.dK kvs))) Q') (Pv : Obj → Nat → L2.St → Hp → Prop) (h0 : ∀ od, Pv od 0 σ (upd H d (.frz od (.dK kvs)))) (hG : ∀ od i σ' H', Pv od i σ' H' → H' d = some (.frz od (.dK kvs)))
    (hs : ∀ od (i : Nat) k v T σ' H', kvs[i]? = some (k, v) → H' T = none → Pv od i σ' H' → G (.ref T) σ' (upd H' T (.tup [kV k, v])) fun σ2 H2 => ts ⟨Pv od (i + 1), fun v H' => H' d = some (.frz od (.dK kvs)) ∧ D.rt v (upd H' d (.dK kvs)), fun σ' H' => H' d = some (.frz od (.dK kvs)) ∧ D.nx σ' (upd H' d (.dK kvs)), Pv od (i + 1)⟩ σ2 H2)
    (he : ∀ od σ' H', Pv od kvs.length σ' H' → D.nx σ' (upd H' d (.dK kvs))) : tLock (tFor (iItems td) G ts) D σ H := by
  refine ⟨d, .dK kvs, hd, trivial, fun od => up od _ ⟨d, od, kvs, rfl, upd_same, ?_⟩⟩
  refine for_it walk_items (fun i σ' H' => Pv od i σ' H') (h0 od) (fun i σ' H' _ p => hG od i σ' H' p) ?_ fun σ' H' p => ⟨hG _ _ _ _ p, he od σ' H' p⟩
  rintro i v σ' H1 H' hi p ⟨T, x, y, ev, hT, eH, ex, ey⟩
  subst ev eH
  replace ex : kvs[i]?.map (fun kv => kV kv.1) = some x := ex
  replace ey : kvs[i]?.map Prod.snd = some y := ey
  cases hk : kvs[i]? with
  | none => rw [hk] at ex; cases ex
  | some kv =>
    rw [hk] at ex ey
    cases ex; cases ey
    exact hs od i kv.1 kv.2 T σ' H1 hk hT p
/-- for v in d.values() -/
theorem forV_go (hd : H d = some (.dK kvs)) (up : ∀ od (Q' : VK), Q' (.ref d) (upd H d (.frz od (.dK kvs))) → td σ (upd H d (.frz od (.dK kvs))) Q') (Pv : Obj → Nat → L2.St → Hp → Prop) (h0 : ∀ od, Pv od 0 σ (upd H d (.frz od (.dK kvs)))) (hG : ∀ od i σ' H', Pv od i σ' H' → H' d = some (.frz od (.dK kvs)))
    (hs : ∀ od (i : Nat) k v σ' H', kvs[i]? = some (k, v) → Pv od i σ' H' → G v σ' H' fun σ2 H2 => ts ⟨Pv od (i + 1), fun v H' => H' d = some (.frz od (.dK kvs)) ∧ D.rt v (upd H' d (.dK kvs)), fun σ' H' => H' d = some (.frz od (.dK kvs)) ∧ D.nx σ' (upd H' d (.dK kvs)), Pv od (i + 1)⟩ σ2 H2)
    (he : ∀ od σ' H', Pv od kvs.length σ' H' → D.nx σ' (upd H' d (.dK kvs))) : tLock (tFor (iVals td) G ts) D σ H := by
  refine ⟨d, .dK kvs, hd, trivial, fun od => up od _ ⟨d, od, kvs, rfl, upd_same, ?_⟩⟩
  refine for_it walk_values (fun i σ' H' => Pv od i σ' H') (h0 od) (fun i σ' H' _ p => hG od i σ' H' p) ?_ fun σ' H' p => ⟨hG _ _ _ _ p, he od σ' H' p⟩
  rintro i x σ' H1 H' hi p ⟨rfl, k, at1⟩
  exact hs od i k x σ' H' at1 p
theorem putK_fresh {kvs : List (Key × V)} {k : Key} {v : V} (h : k ∉ kvs.map (·.1)) : putK kvs k v = kvs ++ [(k, v)] := by
  unfold putK
  rw [if_neg]
  intro e
  obtain ⟨p, hp, g⟩ := List.any_eq_true.mp e
  exact h (List.mem_map.mpr ⟨p, hp, of_decide_eq_true g⟩)
theorem dc_kd {i j : Nat} {ks : Kd} {f : Key → Int → Int} {g : Key → Int → Bool} (hd : H d = some (.dK (kd ks))) (nd : (keysK ks).Nodup) (hl : ks.length ≤ 1000)
    (up : ∀ H' (Q' : VK), Q' (.ref d) H' → td σ H' Q')
    (hw : ∀ x y : V, wipe (((wipe σ vs).set i (some x)).set j (some y)) vs = wipe σ vs)
    (ht : ∀ k n H' (QB : Bool → Hp → Prop), (k, n) ∈ ks → QB (g k n) H' → tt (((wipe σ vs).set i (some (kV k))).set j (some (.int n))) H' QB)
    (hk : ∀ k n H' (Q' : VK), Q' (kV k) H' → tk (((wipe σ vs).set i (some (kV k))).set j (some (.int n))) H' Q')
    (hv : ∀ k n H' (Q' : VK), (k, n) ∈ ks → g k n = true → Q' (.int (f k n)) H' → tv (((wipe σ vs).set i (some (kV k))).set j (some (.int n))) H' Q')
    (q : ∀ D H', Keep [] H H' → H D = none → H' D = some (.dK (kd (mapK f g ks))) → Q (.ref D) H') : tLockE (tDc (iItems td) (gTup K 2 (gCons (gName i) (gCons (gName j) gNil))) tt tk tv vs) σ H Q := by
  refine dcI_go hd (fun od Q' h => up _ _ (h _ _ ⟨rfl, rfl⟩)) (fun od D i acc H' => acc = kd (mapK f g (ks.take i)) ∧ Keep [] (upd H d (.frz od (.dK (kd ks)))) H' ∧ D ≠ d) (fun od D hD => ⟨rfl, Keep.new hD, by rintro rfl; rw [upd_same] at hD; cases hD⟩) (fun od D i acc H' h => h.2.1 _ _ (by simp) upd_same) ?_ ?_
  · rintro od D m ky v T acc H' hn hD hacc ⟨rfl, kk, ne⟩ hT
    obtain ⟨n, hn2, rfl⟩ := kd_at hn
    have hm := List.mem_of_getElem? hn2
    have eT : upd H' T (.tup [kV ky, .int n]) T = some (.tup [kV ky, .int n]) := upd_same
    have k3 : Keep [] H' (upd H' T (.tup [kV ky, .int n])) := Keep.new hT
    refine r_gTup2 (sqT_of eT) ⟨hw _ _, ?_⟩
    have hD3 := k3 _ _ (by simp) hacc
    have st : ks.take (m + 1) = ks.take m ++ [(ky, n)] := take_snoc hn2
    have nDH : upd H d (.frz od (.dK (kd ks))) D = none := hD
    refine ht ky n _ _ hm ?_
    cases hg : g ky n with
    | false =>
      rw [if_neg (by simp)]
      refine ⟨_, hD3, ?_, kk.trans k3, ne⟩
      rw [st]; unfold mapK; rw [List.filter_append, List.map_append]; simp [hg]
    | true =>
      rw [if_pos rfl]
      refine hk ky n _ _ (hv ky n _ _ hm hg ⟨_, ky, rfl, hD3, lt_size (by rw [kd_len]; have := mapK_len (f := f) (g := g) (d := ks.take m); rw [List.length_take] at this; omega), _, upd_same, ?_, (kk.trans k3).mut nDH, ne⟩)
      have fresh : ky ∉ (kd (mapK f g (ks.take m))).map (·.1) := by
        rw [kd_keys]
        intro hc
        have hc := mapK_sub _ hc
        have n2 : (keysK (ks.take (m + 1))).Nodup := nd.sublist (List.Sublist.map _ (List.take_sublist _ _))
        rw [st] at n2
        unfold keysK at n2
        rw [List.map_append] at n2
        exact (List.nodup_append.mp n2).2.2 _ hc _ (by simp) rfl
      rw [putK_fresh fresh, st]
      unfold mapK
      rw [List.filter_append, List.map_append]
      simp [hg, kd]
  · rintro od D acc H' hD hacc ⟨rfl, kk, ne⟩
    rw [kd_len, List.take_length] at hacc
    exact q D _ (Keep.unlock hd kk) (by rw [upd_ne ne] at hD; exact hD) (by rw [upd_ne ne]; exact hacc)
end
/-! ### sums of dicts -/
def DictAt (H : Hp) (d : Addr) (ks : Kd) : Prop := H d = some (.dK (kd ks))
theorem DictAt.keep {H H' : Hp} {M : List Addr} {d : Addr} {ks : Kd} (h : DictAt H d ks) (k : Keep M H H') (n : ∀ m ∈ M, ∃ xs, H m = some (.lst xs)) : DictAt H' d ks := k _ _ (fun hm => by obtain ⟨xs, hx⟩ := n d hm; unfold DictAt at h; rw [h] at hx; cases hx) h
theorem DictAt.keep0 {H H' : Hp} {d : Addr} {ks : Kd} (h : DictAt H d ks) (k : Keep [] H H') : DictAt H' d ks := k _ _ (by simp) h
def Bits (b : Nat) (ks : Kd) : Prop := ∀ k, (gt ks k).natAbs < 2 ^ b
def spSum : Sp := fun vs H Q _ => ∃ (d e : Addr) (f m : Int) (ks us : Kd), vs = [.ref d, .int f, .ref e, .int m] ∧ DictAt H d ks ∧ DictAt H e us ∧ Fine ks ∧ Fine us ∧ ks.length ≤ 40 ∧ us.length ≤ 40 ∧ Bits 2000 ks ∧ Bits 2000 us ∧ f.natAbs < 2 ^ 2000 ∧ m.natAbs < 2 ^ 2000 ∧
  ∀ (q : Addr) (zs : Kd) (H' : Hp), Keep [] H H' → H q = none → DictAt H' q zs → Fine zs → (∀ k, gt zs k = gt ks k * f + gt us k * m) → Q (.ref q) H'
section
variable {P : Program} {w : World} {K : PySem.W.Frag} {mg : Str → Option Value} {base : Heap}
theorem ok_sumOf (T : Tx K mg) : FnOk P w K mg base CX0 1 T.f_sum_of T.fd_sum_of ["first", "factor", "second", "more"] spSum := by
  refine T.F_sum_of.ok sc_sum_of (fun vs H Q E h => ?_) (fun cdv A outer s H vs Q E hr h => ?_)
  · obtain ⟨d, e, f, m, ks, us, rfl, _⟩ := h; rfl
  · obtain ⟨d, e, f, m, ks, us, rfl, hd, he, fk, fu, lk, lu, bk, bu, bf, bm, q⟩ := h
    refine ⟨_, (pss_cons (ps_lock (Dk.ps_setDcK (i := 4) (own := [("key", 5), ("number", 6)]) (g := gTup K 2 (gCons (gName 5) (gCons (gName 6) gNil))) (tt := tYes) rfl sc_sum_of.nd rfl rfl (Dt.sw_dict rfl rfl rfl (by decide +kernel)) (pi_items (pv 0)) (blkOk_by (own := [("key", 5), ("number", 6)]) (N := ["first", "factor", "second", "more", "total", "key", "number"]) (sc := defScope s_sum_of) (by decide +kernel)) (fun _ _ _ _ _ => pg_tup (n := 2) rfl (pgs_cons (pg_name (i := 5) sc_sum_of.nd rfl (Or.inl rfl)) (pgs_cons (pg_name (i := 6) sc_sum_of.nd rfl (Or.inl rfl)) pgs_nil))) (fun _ _ _ _ _ => pts_nil) (fun _ _ _ _ _ => (pv 5)) (fun _ _ _ _ _ => (pe_op op_mulG (pv 6) (pv 1)))))
    (pss_cons (ps_lock (ps_for PassesOwn.never rfl (pi_items (pv 2)) (pg_tup (n := 2) rfl (pgs_cons (pg_name (i := 5) sc_sum_of.nd rfl (Or.inl rfl)) (pgs_cons (pg_name (i := 6) sc_sum_of.nd rfl (Or.inl rfl)) pgs_nil)))
    (pss_one (ps_dput (hu_of hr) (pv 4) (pv 5) (pe_op op_add (pe_dget2 (hu_of hr) (pv 4) (pv 5) pe_int ⟨rfl, rfl, rfl, rfl⟩) (pe_op op_mulG (pv 6) (pv 3))) rfl))))
    (pss_one (ps_ret (pe_lock (pe_dc (own := [("key", 5), ("number", 6)]) (g := gTup K 2 (gCons (gName 5) (gCons (gName 6) gNil)))  rfl sc_sum_of.nd (pi_items (pv 4)) (blkOk_by (own := [("key", 5), ("number", 6)]) (N := ["first", "factor", "second", "more", "total", "key", "number"]) (sc := defScope s_sum_of) (by decide +kernel)) (fun _ _ _ _ _ => pg_tup (n := 2) rfl (pgs_cons (pg_name (i := 5) sc_sum_of.nd rfl (Or.inl rfl)) (pgs_cons (pg_name (i := 6) sc_sum_of.nd rfl (Or.inl rfl)) pgs_nil))) (fun _ _ _ _ _ => pts_one (pt_cmpR op_ne (pv 6) pe_int (nomark _))) (fun _ _ _ _ _ => (pv 5)) (fun _ _ _ _ _ => (pv 6)))))))), ?_⟩
    walk_at "start"
    walk_at "sts"
    refine lockS ?_
    refine dc_kd (f := fun _ n => n * f) (g := fun _ _ => true) hd fk.nd (by omega) (fun H' Q' h => r_var rfl h) (fun x y => rfl) (fun k n H' QB _ h => r_yes h) (fun k n H' Q' h => r_var rfl h) (fun k n H' Q' hm _ h => ?_) ?_
    · walk_at "sts"
      have e := gt_at fk.nd hm
      have hb := bk k
      rw [show gt ks k = n from e] at hb
      refine r_I (mulw 2000 2000 hb bf) h
    · intro D H1 k1 nD e1
      have he1 := he.keep0 k1
      walk_at "sts"
      refine forI_go he1 (fun od Q' h => r_var rfl h) (fun od i σ' H' => ∃ (zs : Kd) (x y : Option V), σ' = [some (.ref d), some (.int f), some (.ref e), some (.int m), some (.ref D), x, y] ∧ Keep [D] (upd H1 e (.frz od (.dK (kd us)))) H' ∧ H' D = some (.dK (kd zs)) ∧ H' e = some (.frz od (.dK (kd us))) ∧ (keysK zs).Nodup ∧ zs.length ≤ ks.length + i ∧ ∀ k, gt zs k = gt ks k * f + gt (us.take i) k * m) (fun od => ?_) (fun od i σ' H' h => by obtain ⟨_, _, _, _, _, _, h, _⟩ := h; exact h) ?_ ?_
      · have ne : D ≠ e := by
          rintro rfl
          have := he
          unfold DictAt at this
          rw [nD] at this; cases this
        refine ⟨_, _, _, rfl, Keep.refl _ _, by rw [upd_ne ne]; exact e1, upd_same, mapK_nd fk.nd, by have := mapK_len (f := fun _ n => n * f) (g := fun _ _ => true) (d := ks); omega, fun k => ?_⟩
        rw [mapK_all fk.nd (Int.zero_mul _), List.take_zero]
        show gt ks k * f = gt ks k * f + 0 * m
        omega
      · rintro od i k v T σ' H2 hn hT ⟨zs, x, y, rfl, k2, e2, ee, nd, lz, hz⟩
        obtain ⟨n, hn2, rfl⟩ := kd_at hn
        have hi : i < us.length := (List.getElem?_eq_some_iff.mp hn2).1
        have hm := List.mem_of_getElem? hn2
        have en := gt_at fu.nd hm
        have bn := bu k
        rw [show gt us k = n from en] at bn
        have k3 : Keep [] H2 (upd H2 T (.tup [kV k, .int n])) := Keep.new hT
        refine r_gTup2 (sqT_of upd_same) ?_
        have e3 := k3 _ _ (by simp) e2
        have ee3 := k3 _ _ (by simp) ee
        have k23 := k2.trans (k3.mono (N := [D]) (by simp))
        generalize upd H2 T (.tup [kV k, .int n]) = H3 at e3 ee3 k23 ⊢
        refine r_dput (r_op (r_dget2 (r_var rfl ⟨D, rfl, .inl ⟨_, .inl e3⟩, r_var rfl (r_c (r_dgetK e3 ?_))⟩)))
        rw [val_getD]
        walk_at "sts"
        refine r_I (mulw 2000 2000 bn bm) ?_
        refine r_I0 (r_var rfl (r_var rfl (r_dputK e3 (lt_size (by rw [kd_len]; omega)) ?_)))
        rw [put_kd]
        have st : us.take (i + 1) = us.take i ++ [(k, n)] := take_snoc hn2
        have off : k ∉ keysK (us.take i) := fun hc => by
          have n2 : (keysK (us.take (i + 1))).Nodup := fu.nd.sublist (List.Sublist.map _ (List.take_sublist _ _))
          rw [st] at n2
          unfold keysK at n2
          rw [List.map_append] at n2
          exact (List.nodup_append.mp n2).2.2 _ hc _ (by simp) rfl
        have De : D ≠ e := by rintro rfl; rw [ee3] at e3; cases e3
        refine ⟨_, _, _, rfl, k23.trans (Keep.at (M := [D]) (by simp)), upd_same, by rw [upd_ne (Ne.symm De)]; exact ee3, ?_, ?_, fun j => ?_⟩
        · rw [put_keys]
          split
          · exact nd
          · next hc => exact List.nodup_append.mpr ⟨nd, by simp, fun a ha b hb z => by simp at hb; subst hb; subst z; exact hc ha⟩
        · have : (keysK (putI zs k (gt zs k + n * m))).length ≤ zs.length + 1 := by
            rw [put_keys]
            split
            · rw [keys_len]; omega
            · rw [List.length_append, keys_len]; simp
          rw [keys_len] at this
          omega
        · rw [put_gt, st]
          by_cases c : j = k
          · subst c
            rw [if_pos rfl, hz, gt_off off, gt_app off]
            show _ = gt ks j * f + (if j = j then n else 0) * m
            rw [if_pos rfl]; omega
          · rw [if_neg c, hz]
            congr 2
            by_cases mj : j ∈ keysK (us.take i)
            · rw [gt_app1 mj]
            · rw [gt_app mj, gt_off mj]
              show 0 = if k = j then n else 0
              rw [if_neg (Ne.symm c)]
      · rintro od σ' H2 ⟨zs, x, y, rfl, k2, e2, ee, nd, lz, hz⟩
        rw [kd_len] at lz hz
        rw [List.take_length] at hz
        have ke : Keep [D] H1 (upd H2 e (.dK (kd us))) := Keep.unlock he1 k2
        have De : D ≠ e := by rintro rfl; rw [ee] at e2; cases e2
        have e4 : upd H2 e (.dK (kd us)) D = some (.dK (kd zs)) := by rw [upd_ne De]; exact e2
        generalize upd H2 e (.dK (kd us)) = H4 at ke e4 ⊢
        have k14 : Keep [] H H4 := fun b o _ hb => ke b o (by simp; rintro rfl; rw [nD] at hb; cases hb) (k1 b o (by simp) hb)
        walk_at "sts"
        refine dc_kd (f := fun _ n => n) (g := fun _ n => !decide (n = 0)) e4 nd (by omega) (fun H' Q' h => r_var rfl h) (fun x y => rfl) (fun k n H' QB _ h => ?_) (fun k n H' Q' h => r_var rfl h) (fun k n H' Q' hm _ h => r_var rfl h) ?_
        · walk_at "sts"
          exact h
        · intro q1 H5 k5 n5 e5
          refine q q1 _ H5 (k14.trans k5) (k14.free (by simp) n5) e5 ⟨mapK_nd nd, fun p hp => ?_⟩ fun k => ?_
          · obtain ⟨r, hr, rfl⟩ := List.mem_map.mp hp
            have := (List.mem_filter.mp hr).2
            simpa using this
          · rw [mapK_gt nd, ← hz]
            split
            · rfl
            · next hc =>
              by_cases mk : k ∈ keysK zs
              · have : gt zs k = 0 := Classical.byContradiction fun c => hc ⟨mk, by simp [c]⟩
                exact this.symm
              · exact (gt_off mk).symm
end
/-! ### in lowest terms -/
def spLowest : Sp := fun vs H Q _ => ∃ (d e : Addr) (ks us : Kd), vs = [.ref d, .ref e] ∧ DictAt H d ks ∧ DictAt H e us ∧ Fine ks ∧ Fine us ∧ ks.length ≤ 40 ∧ us.length ≤ 40 ∧ us ≠ [] ∧ Bits 8000 ks ∧ Bits 8000 us ∧
  ∀ (p a b : Addr) (ks' us' : Kd) (g : Int) (H' : Hp), Keep [] H H' → H' p = some (.tup [.ref a, .ref b]) → DictAt H' a ks' → DictAt H' b us' → Fine ks' → Fine us' → 0 < g → (∀ k, g * gt ks' k = gt ks k) → (∀ k, g * gt us' k = gt us k) → (∀ h : Int, (∀ k, h ∣ gt ks' k) → (∀ k, h ∣ gt us' k) → h ∣ 1) → Q (.ref p) H'
theorem kd_vals {d : Kd} : (kd d).map (·.2) = (d.map (·.2)).map V.int := by unfold kd; rw [List.map_map, List.map_map]; rfl
theorem mem_vals {d : Kd} (f : Fine d) {k : Key} (h : gt d k ≠ 0) : gt d k ∈ d.map (·.2) := by
  obtain ⟨p, hp, rfl⟩ := List.mem_map.mp (f.iff.mpr h)
  rw [gt_at f.nd hp]
  exact List.mem_map_of_mem hp
theorem dvd_vals {d : Kd} (f : Fine d) {g : Int} : (∀ x ∈ d.map (·.2), g ∣ x) ↔ ∀ k, g ∣ gt d k := by
  constructor
  · intro h k
    by_cases c : gt d k = 0
    · rw [c]; exact Int.dvd_zero _
    · exact h _ (mem_vals f c)
  · intro h x hx
    obtain ⟨p, hp, rfl⟩ := List.mem_map.mp hx
    rw [← gt_at f.nd hp]
    exact h _
theorem fdiv_dvd {g n : Int} (g0 : 0 < g) (h : g ∣ n) : g * n.fdiv g = n := by
  obtain ⟨m, rfl⟩ := h
  rw [Int.mul_fdiv_cancel_left _ (by omega)]
section
variable {P : Program} {w : World} {K : PySem.W.Frag} {mg : Str → Option Value} {base : Heap}
theorem ok_lowest (T : Tx K mg) (G_common : FnR P w K mg base CX0 1 T.f_common spCommR) : FnOk P w K mg base CX0 2 T.f_in_lowest_terms T.fd_in_lowest_terms ["terms", "weights"] spLowest := by
  refine T.F_in_lowest_terms.ok sc_in_lowest_terms (fun vs H Q E h => ?_) (fun cdv A outer s H vs Q E hr h => ?_)
  · obtain ⟨d, e, ks, us, rfl, _⟩ := h; rfl
  · obtain ⟨d, e, ks, us, rfl, hd, he, fk, fu, lk, lu, ne, bk, bu, q⟩ := h
    refine ⟨_, (pss_cons (ps_set (i := 2) sc_in_lowest_terms.nd rfl (Or.inl rfl) (pe_op op_cat (Lv.pe_listVals rfl (pv 0) (by rfl) T.m_list (by decide +kernel)) (Lv.pe_listVals rfl (pv 1) (by rfl) T.m_list (by decide +kernel))))
    (pss_cons (ps_set (i := 3) sc_in_lowest_terms.nd rfl (Or.inr rfl) (pe_callS1 G_common (hr.mono (by decide)) T.F_common.kp rfl T.g_common pass0 (pv 2)))
    (pss_cons (ps_if (pt_cmpR op_lt (pv 3) pe_int (nomark _))
    (pss_one (ps_ret (pe_tup (pa_cons (pv 0) (pa_cons (pv 1) pa_nil)))))
    pss_nil)
    (pss_cons (ps_lock (Dk.ps_setDcK (i := 4) (own := [("key", 5), ("number", 6)]) (g := gTup K 2 (gCons (gName 5) (gCons (gName 6) gNil))) (tt := tYes) rfl sc_in_lowest_terms.nd rfl rfl (Dt.sw_dict rfl rfl rfl (by decide +kernel)) (pi_items (pv 0)) (blkOk_by (own := [("key", 5), ("number", 6)]) (N := ["terms", "weights", "numbers", "divisor", "less", "key", "number"]) (sc := defScope s_in_lowest_terms) (by decide +kernel)) (fun _ _ _ _ _ => pg_tup (n := 2) rfl (pgs_cons (pg_name (i := 5) sc_in_lowest_terms.nd rfl (Or.inl rfl)) (pgs_cons (pg_name (i := 6) sc_in_lowest_terms.nd rfl (Or.inl rfl)) pgs_nil))) (fun _ _ _ _ _ => pts_nil) (fun _ _ _ _ _ => (pv 5)) (fun _ _ _ _ _ => (pe_op op_fdivWN (pv 6) (pv 3)))))
    (pss_one (ps_ret (pe_tup (pa_cons (pv 4) (pa_cons (pe_lock (pe_dc (own := [("key", 5), ("number", 6)]) (g := gTup K 2 (gCons (gName 5) (gCons (gName 6) gNil))) (tt := tYes) rfl sc_in_lowest_terms.nd (pi_items (pv 1)) (blkOk_by (own := [("key", 5), ("number", 6)]) (N := ["terms", "weights", "numbers", "divisor", "less", "key", "number"]) (sc := defScope s_in_lowest_terms) (by decide +kernel)) (fun _ _ _ _ _ => pg_tup (n := 2) rfl (pgs_cons (pg_name (i := 5) sc_in_lowest_terms.nd rfl (Or.inl rfl)) (pgs_cons (pg_name (i := 6) sc_in_lowest_terms.nd rfl (Or.inl rfl)) pgs_nil))) (fun _ _ _ _ _ => pts_nil) (fun _ _ _ _ _ => (pv 5)) (fun _ _ _ _ _ => (pe_op op_fdivWN (pv 6) (pv 3))))) pa_nil))))))))), ?_⟩
    walk_at "start"
    walk_at "sts"
    refine Lv.r_listVals (r_var rfl ⟨d, _, rfl, hd, fun l1 n1 => ?_⟩)
    rw [kd_vals]
    have k1 : Keep [] H (upd H l1 (.lst ((ks.map (·.2)).map V.int))) := Keep.new n1
    have e1 : upd H l1 (.lst ((ks.map (·.2)).map V.int)) l1 = some (.lst ((ks.map (·.2)).map V.int)) := upd_same
    have he1 := he.keep0 k1
    generalize upd H l1 (.lst ((ks.map (·.2)).map V.int)) = H1 at k1 e1 he1 ⊢
    refine Lv.r_listVals (r_var rfl ⟨e, _, rfl, he1, fun l2 n2 => ?_⟩)
    rw [kd_vals]
    have k2 : Keep [] H1 (upd H1 l2 (.lst ((us.map (·.2)).map V.int))) := Keep.new n2
    have e2 : upd H1 l2 (.lst ((us.map (·.2)).map V.int)) l2 = some (.lst ((us.map (·.2)).map V.int)) := upd_same
    generalize upd H1 l2 (.lst ((us.map (·.2)).map V.int)) = H2 at k2 e2 ⊢
    have e1 := k2 _ _ (by simp) e1
    refine r_cat e1 e2 (le_size (by simp only [List.length_map]; omega)) fun l3 n3 => ?_
    rw [← List.map_append]
    have k3 : Keep [] H2 (upd H2 l3 (.lst ((ks.map (·.2) ++ us.map (·.2)).map V.int))) := Keep.new n3
    have e3 : upd H2 l3 (.lst ((ks.map (·.2) ++ us.map (·.2)).map V.int)) l3 = some (.lst ((ks.map (·.2) ++ us.map (·.2)).map V.int)) := upd_same
    generalize upd H2 l3 (.lst ((ks.map (·.2) ++ us.map (·.2)).map V.int)) = H3 at k3 e3 ⊢
    have k03 := (k1.trans k2).trans k3
    clear k1 k2 k3 e1 e2 n1 n2 n3 he1
    walk_at "sts"
    refine ⟨l3, _, rfl, .inr (sqL_of e3), ?_⟩
    refine r_comm _ rfl (by simp; omega) fun H4 k4 => ?_
    have k04 := k03.trans k4
    have hd4 := hd.keep0 k04
    have he4 := he.keep0 k04
    generalize hns : ks.map (·.2) ++ us.map (·.2) = ns
    have mem1 : ∀ x ∈ ks.map (·.2), x ∈ ns := fun x hx => by rw [← hns]; exact List.mem_append_left _ hx
    have mem2 : ∀ x ∈ us.map (·.2), x ∈ ns := fun x hx => by rw [← hns]; exact List.mem_append_right _ hx
    have memn : ∀ x ∈ ns, x ∈ ks.map (·.2) ∨ x ∈ us.map (·.2) := fun x hx => by rw [← hns] at hx; exact List.mem_append.mp hx
    obtain ⟨gp, gb⟩ : 0 < gcdAll ns ∧ (gcdAll ns).natAbs < 2 ^ 8000 := by
      cases us with
      | nil => exact absurd rfl ne
      | cons u us =>
        have h1 : u.2 ∈ ns := mem2 _ (by simp)
        obtain ⟨a, b⟩ := gcdAll_le h1 (fu.nz u (by simp))
        have := bu u.1
        rw [gt_at fu.nd (by simp)] at this
        exact ⟨a, Nat.lt_of_le_of_lt b this⟩
    have dk : ∀ k, gcdAll ns ∣ gt ks k := (dvd_vals fk).mp fun x hx => gcdAll_dvd _ rfl _ (mem1 x hx)
    have du : ∀ k, gcdAll ns ∣ gt us k := (dvd_vals fu).mp fun x hx => gcdAll_dvd _ rfl _ (mem2 x hx)
    have low : ∀ h : Int, (∀ k, h ∣ gt ks k) → (∀ k, h ∣ gt us k) → h ∣ gcdAll ns := fun h a b => dvd_gcdAll _ rfl fun x hx => by
      rcases memn x hx with hx | hx
      · exact (dvd_vals fk).mpr a x hx
      · exact (dvd_vals fu).mpr b x hx
    generalize gcdAll ns = g at gp gb dk du low ⊢
    clear mem1 mem2 memn hns k03 k4 e3
    walk_at "sts"
    refine r_ite (fun c => ?_) (fun c => ?_)
    · have g1 : g = 1 := by omega
      walk_at "sts"
      intro p hp
      exact q p d e ks us 1 _ (k04.trans (Keep.new hp)) upd_same (hd4.keep0 (Keep.new hp)) (he4.keep0 (Keep.new hp)) fk fu (by omega) (fun k => by omega) (fun k => by omega) (fun h a b => by rw [← g1]; exact low h a b)
    · walk_at "sts"
      have side : g ≠ 0 ∧ g.natAbs.log2 < 9000 := ⟨by omega, log_ok 8000 gb⟩
      have nz : ∀ {n : Int}, g ∣ n → n ≠ 0 → n.fdiv g ≠ 0 := fun {n} h n0 z => n0 (by rw [← fdiv_dvd gp h, z, Int.mul_zero])
      have z0 : (0 : Int).fdiv g = 0 := by simp
      refine lockS ?_
      refine dc_kd (f := fun _ n => n.fdiv g) (g := fun _ _ => true) hd4 fk.nd (by omega) (fun H' Q' h => r_var rfl h) (fun x y => rfl) (fun k n H' QB _ h => r_yes h) (fun k n H' Q' h => r_var rfl h) (fun k n H' Q' hm _ h => ?_) ?_
      · walk_at "sts"
        exact h
      intro a H5 k5 n5 e5
      have he5 := he4.keep0 k5
      have k05 := k04.trans k5
      walk_at "sts"
      refine dc_kd (f := fun _ n => n.fdiv g) (g := fun _ _ => true) he5 fu.nd (by omega) (fun H' Q' h => r_var rfl h) (fun x y => rfl) (fun k n H' QB _ h => r_yes h) (fun k n H' Q' h => r_var rfl h) (fun k n H' Q' hm _ h => ?_) ?_
      · walk_at "sts"
        exact h
      intro b H6 k6 n6 e6
      have e5 := k6 _ _ (by simp) e5
      walk_at "sts"
      intro p hp
      have kp : Keep [] H6 (upd H6 p (.tup [.ref a, .ref b])) := Keep.new hp
      have vk : ∀ k, g * gt (mapK (fun _ n => n.fdiv g) (fun _ _ => true) ks) k = gt ks k := fun k => by rw [mapK_all fk.nd z0]; exact fdiv_dvd gp (dk k)
      have vu : ∀ k, g * gt (mapK (fun _ n => n.fdiv g) (fun _ _ => true) us) k = gt us k := fun k => by rw [mapK_all fu.nd z0]; exact fdiv_dvd gp (du k)
      have fin : ∀ {zs : Kd}, Fine zs → (∀ k, g ∣ gt zs k) → Fine (mapK (fun _ n => n.fdiv g) (fun _ _ => true) zs) := fun {zs} f h => ⟨mapK_nd f.nd, fun p hp => by
        obtain ⟨r, hr, rfl⟩ := List.mem_map.mp hp
        have hr := (List.mem_filter.mp hr).1
        have := h r.1
        rw [gt_at f.nd hr] at this
        exact nz this (f.nz r hr)⟩
      refine q p a b _ _ g _ ((k05.trans k6).trans kp) upd_same (kp _ _ (by simp) e5) (kp _ _ (by simp) e6) (fin fk dk) (fin fu du) gp vk vu fun h h1 h2 => ?_
      have : g * h ∣ g := low (g * h) (fun k => by rw [← vk]; exact Int.mul_dvd_mul_left _ (h1 k)) fun k => by rw [← vu]; exact Int.mul_dvd_mul_left _ (h2 k)
      obtain ⟨m, hm⟩ := this
      refine ⟨m, Int.eq_of_mul_eq_mul_left (show g ≠ 0 by omega) ?_⟩
      rw [← Int.mul_assoc, ← hm, Int.mul_one]
end
/-! ### rows told by their items -/
def Each {α : Type} (R : Addr → α → Prop) : List Addr → List α → Prop
  | [], [] => True
  | a :: as, x :: xs => R a x ∧ Each R as xs
  | _, _ => False
section
variable {α : Type} {R S : Addr → α → Prop}
theorem Each.len : ∀ {as : List Addr} {xs : List α}, Each R as xs → as.length = xs.length
  | [], [], _ => rfl
  | _ :: _, _ :: _, h => congrArg Nat.succ (Each.len h.2)
  | [], _ :: _, h => h.elim
  | _ :: _, [], h => h.elim
theorem Each.get : ∀ {as : List Addr} {xs : List α} {i : Nat} {a : Addr}, Each R as xs → as[i]? = some a → ∃ x, xs[i]? = some x ∧ R a x
  | [], _, _, _, _, e => by simp at e
  | _ :: _, [], _, _, h, _ => h.elim
  | b :: as, p :: ts, 0, a, h, e => by
    have : b = a := by simpa using e
    subst this; exact ⟨p, rfl, h.1⟩
  | b :: as, p :: ts, i + 1, a, h, e => by
    obtain ⟨q, h1, h2⟩ := Each.get (i := i) h.2 (by simpa using e)
    exact ⟨q, by simpa using h1, h2⟩
theorem Each.getR {as : List Addr} {xs : List α} {i : Nat} {x : α} (h : Each R as xs) (e : xs[i]? = some x) : ∃ a, as[i]? = some a ∧ R a x := by
  have hi : i < as.length := by rw [h.len]; exact (List.getElem?_eq_some_iff.mp e).1
  obtain ⟨y, hy, r⟩ := h.get (List.getElem?_eq_getElem hi)
  rw [e] at hy
  exact ⟨_, List.getElem?_eq_getElem hi, Option.some.inj hy ▸ r⟩
theorem Each.mono : ∀ {as : List Addr} {xs : List α}, Each R as xs → (∀ a x, R a x → S a x) → Each S as xs
  | [], [], _, _ => trivial
  | a :: as, p :: ts, h, k => ⟨k a p h.1, h.2.mono k⟩
  | [], _ :: _, h, _ => h.elim
  | _ :: _, [], h, _ => h.elim
theorem Each.app : ∀ {as bs : List Addr} {xs ys : List α}, Each R as xs → Each R bs ys → Each R (as ++ bs) (xs ++ ys)
  | [], _, [], _, _, k => k
  | _ :: _, _, _ :: _, _, h, k => ⟨h.1, h.2.app k⟩
  | [], _, _ :: _, _, h, _ => h.elim
  | _ :: _, _, [], _, h, _ => h.elim
theorem Each.take {as : List Addr} {xs : List α} (h : Each R as xs) (n : Nat) : Each R (as.take n) (xs.take n) := by
  induction n generalizing as xs with
  | zero => simp only [List.take_zero]; trivial
  | succ n ih => match as, xs, h with
    | [], [], _ => trivial
    | _ :: _, _ :: _, h => exact ⟨h.1, ih h.2⟩
theorem Each.drop {as : List Addr} {xs : List α} (h : Each R as xs) (n : Nat) : Each R (as.drop n) (xs.drop n) := by
  induction n generalizing as xs with
  | zero => simpa using h
  | succ n ih => match as, xs, h with
    | [], [], _ => trivial
    | _ :: _, _ :: _, h => exact ih h.2
end
/-! ### an echelon -/
/-- a dict of weights by names, by line numbers -/
def TD (xs : List Str) (H : Hp) (d : Addr) (f : Str → Int) : Prop := ∃ ks : Kd, DictAt H d ks ∧ Fine ks ∧ (∀ k ∈ keysK ks, ∃ x ∈ xs, k = Sum.inr x) ∧ ∀ x, gt ks (Sum.inr x) = f x
def WD (N : Nat) (H : Hp) (d : Addr) (f : Nat → Int) : Prop := ∃ ks : Kd, DictAt H d ks ∧ Fine ks ∧ (∀ k ∈ keysK ks, ∃ i : Nat, i < N ∧ k = Sum.inl (i : Int)) ∧ ∀ i : Nat, gt ks (Sum.inl (i : Int)) = f i
theorem TD.keep0 {xs : List Str} {H H' : Hp} {d : Addr} {f : Str → Int} (h : TD xs H d f) (k : Keep [] H H') : TD xs H' d f := by
  obtain ⟨ks, a, b⟩ := h; exact ⟨ks, a.keep0 k, b⟩
theorem WD.keep0 {N : Nat} {H H' : Hp} {d : Addr} {f : Nat → Int} (h : WD N H d f) (k : Keep [] H H') : WD N H' d f := by
  obtain ⟨ks, a, b⟩ := h; exact ⟨ks, a.keep0 k, b⟩
theorem TD.keep {xs : List Str} {H H' : Hp} {M : List Addr} {d : Addr} {f : Str → Int} (h : TD xs H d f) (k : Keep M H H') (n : ∀ m ∈ M, ∃ xs, H m = some (.lst xs)) : TD xs H' d f := by
  obtain ⟨ks, a, b⟩ := h; exact ⟨ks, a.keep k n, b⟩
theorem WD.keep {N : Nat} {H H' : Hp} {M : List Addr} {d : Addr} {f : Nat → Int} (h : WD N H d f) (k : Keep M H H') (n : ∀ m ∈ M, ∃ xs, H m = some (.lst xs)) : WD N H' d f := by
  obtain ⟨ks, a, b⟩ := h; exact ⟨ks, a.keep k n, b⟩
theorem keys_short {ks : Kd} {m : List Key} (f : Fine ks) (h : ∀ k ∈ keysK ks, k ∈ m) : ks.length ≤ m.length := by
  have := Ec.nodup_len f.nd h
  rwa [keys_len] at this
theorem td_len {xs : List Str} {ks : Kd} (f : Fine ks) (h : ∀ k ∈ keysK ks, ∃ x ∈ xs, k = Sum.inr x) : ks.length ≤ xs.length := by
  have := keys_short (m := xs.map Sum.inr) f fun k hk => by obtain ⟨x, hx, rfl⟩ := h k hk; exact List.mem_map_of_mem hx
  rwa [List.length_map] at this
theorem wd_len {N : Nat} {ks : Kd} (f : Fine ks) (h : ∀ k ∈ keysK ks, ∃ i : Nat, i < N ∧ k = Sum.inl (i : Int)) : ks.length ≤ N := by
  have := keys_short (m := (List.range N).map fun i : Nat => Sum.inl (i : Int)) f fun k hk => by obtain ⟨i, hi, rfl⟩ := h k hk; exact List.mem_map.mpr ⟨i, List.mem_range.mpr hi, rfl⟩
  rwa [List.length_map, List.length_range] at this
theorem td_bits {xs : List Str} {ks : Kd} {f : Str → Int} {b : Nat} (h : ∀ k ∈ keysK ks, ∃ x ∈ xs, k = Sum.inr x) (e : ∀ x, gt ks (Sum.inr x) = f x) (hb : ∀ x, (f x).natAbs < 2 ^ b) : Bits b ks := fun k => by
  by_cases c : k ∈ keysK ks
  · obtain ⟨x, _, rfl⟩ := h k c
    rw [e]; exact hb x
  · rw [gt_off c]; exact Nat.pow_pos (by omega)
theorem wd_bits {N : Nat} {ks : Kd} {f : Nat → Int} {b : Nat} (h : ∀ k ∈ keysK ks, ∃ i : Nat, i < N ∧ k = Sum.inl (i : Int)) (e : ∀ i : Nat, gt ks (Sum.inl (i : Int)) = f i) (hb : ∀ x, (f x).natAbs < 2 ^ b) : Bits b ks := fun k => by
  by_cases c : k ∈ keysK ks
  · obtain ⟨x, _, rfl⟩ := h k c
    rw [e]; exact hb x
  · rw [gt_off c]; exact Nat.pow_pos (by omega)
def StepAt (N : Nat) (xs : List Str) (H : Hp) (a : Addr) (s : Ec.Step Str) : Prop := ∃ dt dw : Addr, H a = some (.tup [.str s.h, .ref dt, .ref dw]) ∧ TD xs H dt s.t ∧ WD N H dw s.w
theorem StepAt.keep {N : Nat} {xs : List Str} {H H' : Hp} {M : List Addr} {a : Addr} {s : Ec.Step Str} (h : StepAt N xs H a s) (k : Keep M H H') (n : ∀ m ∈ M, ∃ xs, H m = some (.lst xs)) : StepAt N xs H' a s := by
  obtain ⟨dt, dw, e, t, w⟩ := h
  exact ⟨dt, dw, k _ _ (fun hm => by obtain ⟨ys, hy⟩ := n a hm; rw [hy] at e; cases e) e, t.keep k n, w.keep k n⟩
def EchAt (N : Nat) (xs : List Str) (C : Addr) (H : Hp) (e : Addr) (ss : List (Ec.Step Str)) : Prop := ∃ (dx p : Addr) (as : List Addr), H e = some (.ins C dx [("steps", .ref p)]) ∧ H p = some (.lst (as.map V.ref)) ∧ Each (StepAt N xs H) as ss
theorem EchAt.keep0 {N : Nat} {xs : List Str} {C : Addr} {H H' : Hp} {e : Addr} {ss : List (Ec.Step Str)} (h : EchAt N xs C H e ss) (k : Keep [] H H') : EchAt N xs C H' e ss := by
  obtain ⟨dx, p, as, a, b, c⟩ := h
  exact ⟨dx, p, as, k _ _ (by simp) a, k _ _ (by simp) b, c.mono fun _ _ h => h.keep k (by simp)⟩
/-- what is told of the lines -/
structure Cl (N : Nat) (l : Nat → Str → Int) (xs : List Str) : Prop where
  hN : N ≤ 16
  hx : xs.length ≤ 8
  nd : xs.Nodup
  hB : ∀ k x, (l k x).natAbs ≤ 2 ^ 98
  off : ∀ k x, x ∉ xs → l k x = 0
theorem Cl.comb {N : Nat} {l : Nat → Str → Int} {xs : List Str} (c : Cl N l xs) {w : Nat → Int} {x : Str} (h : x ∉ xs) : Ec.comb N l w x = 0 := Ec.sumN_zero fun k _ => by rw [c.off k x h, Int.mul_zero]
theorem Cl.steps {N : Nat} {l : Nat → Str → Int} {xs : List Str} (c : Cl N l xs) {ss : List (Ec.Step Str)} (E : Ec.Ech N l xs ss) : ss.length ≤ 8 := Nat.le_trans E.short c.hx
theorem pow104 {n m : Nat} {x : Int} (h : x.natAbs < 2 ^ (104 * (n + 1))) (hn : n ≤ 8) (hm : 936 ≤ m) : x.natAbs < 2 ^ m := Nat.lt_of_lt_of_le h (Nat.pow_le_pow_right (by omega) (by omega))
theorem pow103 {n m : Nat} {x : Int} (h : x.natAbs ≤ 2 ^ (103 * n)) (hn : n ≤ 8) (hm : 936 ≤ m) : x.natAbs < 2 ^ m := Nat.lt_of_le_of_lt h (Nat.pow_lt_pow_right (by omega) (by omega))
theorem r_gTup3 {K : PySem.W.Frag} {σ : L2.St} {H : Hp} {p : Addr} {x y z : V} {i j l : Nat} {Q : L2.St → Hp → Prop} (h : SqT K H p [x, y, z]) (k : Q (((σ.set i (some x)).set j (some y)).set l (some z)) H) : gTup K 3 (gCons (gName i) (gCons (gName j) (gCons (gName l) gNil))) (.ref p) σ H Q := ⟨p, [x, y, z], rfl, h, rfl, x, [y, z], rfl, y, [z], rfl, z, [], rfl, rfl, k⟩
def spFreed (C : Addr) : Sp := fun vs H Q _ => ∃ (e d : Addr) (i N : Nat) (l : Nat → Str → Int) (xs : List Str) (ss : List (Ec.Step Str)), vs = [.ref e, .ref d, .int i] ∧ Cl N l xs ∧ EchAt N xs C H e ss ∧ Ec.Ech N l xs ss ∧ (∀ r ∈ ss, r.p ≠ i) ∧ i < N ∧ TD xs H d (l i) ∧
  ∀ (p a b : Addr) (t : Str → Int) (u : Nat → Int) (H' : Hp), Keep [] H H' → H' p = some (.tup [.ref a, .ref b]) → TD xs H' a t → WD N H' b u → Ec.Fr N l ss i t u → Q (.ref p) H'
def spEInit (C : Addr) : Sp := fun vs H Q _ => ∃ x dx : Addr, vs = [.ref x] ∧ H x = some (.ins C dx []) ∧ ∀ (p : Addr) (H' : Hp), Keep [x] H H' → H p = none → H' x = some (.ins C dx [("steps", .ref p)]) → H' p = some (.lst []) → Q .non H'
section
variable {P : Program} {w : World} {K : PySem.W.Frag} {mg : Str → Option Value} {base : Heap}
theorem ok_einit (T : Tx K mg) : FnOk P w K mg base CX0 1 T.f_Echelon___init T.fd_Echelon___init ["self"] (spEInit T.C_Echelon) := by
  refine T.F_Echelon___init.ok sc_Echelon___init (fun vs H Q E h => ?_) (fun cdv A outer s H vs Q E hr h => ?_)
  · obtain ⟨x, dx, rfl, _⟩ := h; rfl
  · obtain ⟨x, dx, rfl, hx, q⟩ := h
    have oc := T.oc_Echelon
    have na := T.na_Echelon_steps
    refine ⟨_, PSs.nox (pss_one (ps_fld (pv 0) (pe_lst pa_nil) rfl)), ?_⟩
    walk_at "start"
    walk_at "sts"
    intro p hp
    have k1 : Keep [x] H (upd H p (.lst [])) := Keep.new hp
    have ne : p ≠ x := by rintro rfl; rw [hp] at hx; cases hx
    have hx1 : upd H p (.lst []) x = some (.ins T.C_Echelon dx []) := by rw [upd_ne (Ne.symm ne)]; exact hx
    have e1 : upd H p (.lst []) p = some (.lst []) := upd_same
    generalize upd H p (.lst []) = H1 at k1 hx1 e1 ⊢
    walk_at "sts"
    rw [show putF (Str.ofString "steps") (V.ref p) [] = [((Str.ofString "steps"), .ref p)] from rfl]
    exact q p _ (k1.trans (Keep.at (by simp))) hp upd_same (by rw [upd_ne ne]; exact e1)
theorem ok_freed (T : Tx K mg) (G_common : FnR P w K mg base CX0 1 T.f_common spCommR) (G_sum_of : FnOk P w K mg base CX0 1 T.f_sum_of T.fd_sum_of ["first", "factor", "second", "more"] spSum) (G_in_lowest_terms : FnOk P w K mg base CX0 2 T.f_in_lowest_terms T.fd_in_lowest_terms ["terms", "weights"] spLowest) : FnOk P w K mg base CX0 3 T.f_Echelon_freed T.fd_Echelon_freed ["self", "terms", "index"] (spFreed T.C_Echelon) := by
  refine T.F_Echelon_freed.ok sc_Echelon_freed (fun vs H Q E h => ?_) (fun cdv A outer s H vs Q E hr h => ?_)
  · obtain ⟨e, d, i, N, l, xs, ss, rfl, _⟩ := h; rfl
  · obtain ⟨e, d, i, N, l, xs, ss, rfl, cl, ⟨dx, p, as, he, hp, eas⟩, Eh, hi, iN, td, q⟩ := h
    refine ⟨_, (pss_cons (ps_set (i := 3) sc_Echelon_freed.nd rfl (Or.inl rfl) (Dk.pe_disp1K (Nat.lt_of_succ_lt (Dt.inD_of hr)) (pv 2) pe_int))
    (pss_cons (ps_for PassesOwn.never rfl (pi_list (pe_fld (pv 0) rfl)) (pg_tup (n := 3) rfl (pgs_cons (pg_name (i := 4) sc_Echelon_freed.nd rfl (Or.inl rfl)) (pgs_cons (pg_name (i := 5) sc_Echelon_freed.nd rfl (Or.inl rfl)) (pgs_cons (pg_name (i := 6) sc_Echelon_freed.nd rfl (Or.inl rfl)) pgs_nil))))
    (pss_one (ps_if (pt_cmp (pc_din (hu_of hr) (pv 4) (pv 1)))
    (pss_cons (ps_set (i := 7) sc_Echelon_freed.nd rfl (Or.inl rfl) (pe_callR G_common (hr.mono (by decide)) rfl T.g_common T.F_common.kp pass0 (pa_cons (pe_dget (hu_of hr) (pv 5) (pv 4) (fun _ _ => rfl)) (pa_cons (pe_dget (hu_of hr) (pv 1) (pv 4) (fun _ _ => rfl)) pa_nil))))
    (pss_cons (ps_par (i := 8) (j := 9) (by rfl) sc_Echelon_freed.nd rfl rfl (by decide) rfl rfl (pa_cons (pe_op op_fdivWN (pe_dget (hu_of hr) (pv 5) (pv 4) (fun _ _ => rfl)) (pv 7)) (pa_cons (pe_op op_fdivWN (pe_un un_neg (pe_dget (hu_of hr) (pv 1) (pv 4) (fun _ _ => rfl))) (pv 7)) pa_nil)) (by rfl))
    (pss_cons (ps_set (i := 1) sc_Echelon_freed.nd rfl (Or.inl rfl) (pe_call G_sum_of (hr.mono (by decide)) rfl T.g_sum_of T.F_sum_of.kp T.b_sum_of .nil pass0 (pa_cons (pv 1) (pa_cons (pv 8) (pa_cons (pv 5) (pa_cons (pv 9) pa_nil))))))
    (pss_cons (ps_set (i := 3) sc_Echelon_freed.nd rfl (Or.inl rfl) (pe_call G_sum_of (hr.mono (by decide)) rfl T.g_sum_of T.F_sum_of.kp T.b_sum_of .nil pass0 (pa_cons (pv 3) (pa_cons (pv 8) (pa_cons (pv 6) (pa_cons (pv 9) pa_nil))))))
    (pss_one (ps_asg (pe_call G_in_lowest_terms (hr.mono (by decide)) rfl T.g_in_lowest_terms T.F_in_lowest_terms.kp T.b_in_lowest_terms .nil pass0 (pa_cons (pv 1) (pa_cons (pv 3) pa_nil))) (pg_tup (n := 2) rfl (pgs_cons (pg_name (i := 1) sc_Echelon_freed.nd rfl (Or.inl rfl)) (pgs_cons (pg_name (i := 3) sc_Echelon_freed.nd rfl (Or.inl rfl)) pgs_nil)))))))))
    pss_nil)))
    (pss_one (ps_ret (pe_tup (pa_cons (pv 1) (pa_cons (pv 3) pa_nil))))))), ?_⟩
    walk_at "start"
    walk_at "sts"
    have l8 := cl.steps Eh
    have elen := eas.len
    refine fun d0 nd0 => r_var rfl (r_c ⟨Sum.inl (i : Int), rfl, upd_same, ?_⟩)
    rw [upd_upd]
    have k1 : Keep [] H (upd H d0 (.dK [(Sum.inl (i : Int), V.int 1)])) := Keep.new nd0
    have w1 : WD N (upd H d0 (.dK [(Sum.inl (i : Int), V.int 1)])) d0 (Ec.one i) := by
      refine ⟨[(Sum.inl (i : Int), 1)], upd_same, ⟨by simp [keysK], by simp⟩, fun k hk => ⟨i, iN, by simpa [keysK] using hk⟩, fun j => ?_⟩
      show (if (Sum.inl (i : Int) : Key) = Sum.inl (j : Int) then (1 : Int) else 0) = if j = i then 1 else 0
      by_cases c : j = i
      · rw [if_pos c, if_pos (by rw [c])]
      · rw [if_neg c, if_neg (fun z => c (by have := Sum.inl.inj z; omega))]
    generalize upd H d0 (.dK [(Sum.inl (i : Int), V.int 1)]) = H1 at k1 w1 ⊢
    have he1 := k1 _ _ (by simp) he
    have hp1 := k1 _ _ (by simp) hp
    have td1 := td.keep0 k1
    walk_at "sts"
    refine Ow.r_fldAt he1 T.oc_Echelon.cl T.na_Echelon_steps rfl ?_
    refine forL_go (fun j σ' H' => ∃ (a b : Addr) (t : Str → Int) (u : Nat → Int) (x4 x5 x6 x7 x8 x9 : Option V), σ' = [some (.ref e), some (.ref a), some (.int i), some (.ref b), x4, x5, x6, x7, x8, x9] ∧ Keep [] H H' ∧ TD xs H' a t ∧ WD N H' b u ∧ Ec.Fr N l (ss.take j) i t u) (sqL_of hp1) ⟨d, d0, l i, _, none, none, none, none, none, none, rfl, k1, td1, w1, by rw [List.take_zero]; exact Ec.Fr.start iN⟩ (fun j σ' H' _ h => by obtain ⟨_, _, _, _, _, _, _, _, _, _, _, k, _⟩ := h; exact sqL_of (k _ _ (by simp) hp)) ?_ ?_
    · rintro j v σ' H2 hj ⟨a, b, t, u, x4, x5, x6, x7, x8, x9, rfl, k2, ta, wb, fr⟩
      obtain ⟨sa, hsa, rfl⟩ := getRef hj
      obtain ⟨s0, hs0, dt, dw, es, to, wo⟩ := eas.get hsa
      have es2 := k2 _ _ (by simp) es
      have to2 := to.keep0 k2
      have wo2 := wo.keep0 k2
      obtain ⟨stp, Ej⟩ := Eh.at hs0
      have jl : (ss.take j).length ≤ 8 := by rw [List.length_take]; omega
      have st : ss.take (j + 1) = ss.take j ++ [s0] := take_snoc hs0
      have hij : ∀ r ∈ ss.take j, r.p ≠ i := fun r hr => hi r (List.mem_of_mem_take hr)
      have sip : s0.p ≠ i := hi s0 (List.mem_of_getElem? hs0)
      obtain ⟨ub, tb⟩ := fr.small Ej hij iN cl.hN jl cl.hB
      obtain ⟨ob, otb⟩ := stp.small Ej cl.hN jl cl.hB
      obtain ⟨ka, da, fa, ka1, ka2⟩ := ta
      obtain ⟨kb, db, fb, kb1, kb2⟩ := wb
      obtain ⟨ko, dO, fo, ko1, ko2⟩ := to2
      obtain ⟨kq, dq, fq, kq1, kq2⟩ := wo2
      refine r_gTup3 (sqT_of es2) ?_
      simp only [List.set_cons_zero, List.set_cons_succ]
      walk_at "sts"
      refine r_dinS da ?_
      rw [val_kd]
      by_cases c : (Sum.inr s0.h : Key) ∈ keysK ka
      · rw [if_pos c]
        have hth : t s0.h ≠ 0 := by rw [← ka2]; exact fa.iff.mp c
        have hoh : (Sum.inr s0.h : Key) ∈ keysK ko := fo.iff.mpr (by rw [ko2]; have := stp.hp; omega)
        have va : valV (kd ka) (Sum.inr s0.h) = some (.int (t s0.h)) := by rw [val_kd, if_pos c, ka2]
        have vo : valV (kd ko) (Sum.inr s0.h) = some (.int (s0.t s0.h)) := by rw [val_kd, if_pos hoh, ko2]
        refine ⟨true, rfl, ?_⟩
        walk_at "sts"
        refine r_dgetS dO vo ?_
        walk_at "sts"
        refine r_dgetS da va ?_
        walk_at "sts"
        refine r_comm [s0.t s0.h, t s0.h] rfl (by simp) fun H3 k3 => ?_
        have g1 := gcdAll_dvd _ (ns := [s0.t s0.h, t s0.h]) rfl (s0.t s0.h) (by simp)
        have g2 := gcdAll_dvd _ (ns := [s0.t s0.h, t s0.h]) rfl (t s0.h) (by simp)
        obtain ⟨gp, gb⟩ := gcdAll_le (ns := [s0.t s0.h, t s0.h]) (x := t s0.h) (by simp) hth
        generalize gcdAll [s0.t s0.h, t s0.h] = g at g1 g2 gp gb ⊢
        have gb2 : g.natAbs < 2 ^ 1000 := Nat.lt_of_le_of_lt gb (pow104 (tb _) jl (by omega))
        have side : g ≠ 0 ∧ g.natAbs.log2 < 9000 := ⟨by omega, log_ok 1000 gb2⟩
        have da3 : DictAt H3 a ka := da.keep0 k3
        have db3 : DictAt H3 b kb := db.keep0 k3
        have dO3 : DictAt H3 dt ko := dO.keep0 k3
        have dq3 : DictAt H3 dw kq := dq.keep0 k3
        have k23 := k2.trans k3
        clear da db dO dq k2 k3 es2
        walk_at "sts"
        refine r_dgetS dO3 vo ?_
        walk_at "sts"
        refine r_dgetS da3 va ?_
        walk_at "sts"
        have ef : (s0.t s0.h).fdiv g * g = s0.t s0.h := Int.fdiv_mul_cancel g1
        have em : (-(t s0.h)).fdiv g * g = -(t s0.h) := Int.fdiv_mul_cancel (Int.dvd_neg.mpr g2)
        have bf : ((s0.t s0.h).fdiv g).natAbs < 2 ^ 936 := Nat.lt_of_le_of_lt (natAbs_fdiv_le (by omega) g1) (pow104 (otb _) jl (by omega))
        have bm : ((-(t s0.h)).fdiv g).natAbs < 2 ^ 936 := Nat.lt_of_le_of_lt (natAbs_fdiv_le (by omega) (Int.dvd_neg.mpr g2)) (by rw [Int.natAbs_neg]; exact pow104 (tb _) jl (by omega))
        generalize (s0.t s0.h).fdiv g = fac at ef bf ⊢
        generalize (-(t s0.h)).fdiv g = mo at em bm ⊢
        have Ba : Bits 936 ka := td_bits ka1 ka2 fun x => pow104 (tb x) jl (by omega)
        have Bb : Bits 936 kb := wd_bits kb1 kb2 fun x => pow103 (ub x) jl (by omega)
        have Bo : Bits 936 ko := td_bits ko1 ko2 fun x => pow104 (otb x) jl (by omega)
        have Bq : Bits 936 kq := wd_bits kq1 kq2 fun x => pow103 (ob x) jl (by omega)
        have up : ∀ {ks : Kd}, Bits 936 ks → Bits 2000 ks := fun {ks} h k => pow_mono 936 2000 (h k)
        have la := td_len fa ka1
        have lb := wd_len fb kb1
        have lo := td_len fo ko1
        have lq := wd_len fq kq1
        have cx := cl.hx
        have cn := cl.hN
        have mix : ∀ {x y : Int}, x.natAbs < 2 ^ 936 → y.natAbs < 2 ^ 936 → (x * fac + y * mo).natAbs < 2 ^ 8000 := fun {x y} hx hy => by
          have h1 := wide_lt hx bf
          have h2 := wide_lt hy bm
          have := Fm.natAbs_add_lt h1 h2
          exact pow_mono _ 8000 this
        refine ⟨a, dt, fac, mo, ka, ko, rfl, da3, dO3, fa, fo, by omega, by omega, up Ba, up Bo, pow_mono 936 2000 bf, pow_mono 936 2000 bm, fun q1 z1 H4 k4 n4 d4 f4 e4 => ?_⟩
        have db4 := db3.keep0 k4
        have dq4 := dq3.keep0 k4
        walk_at "sts"
        refine ⟨b, dw, fac, mo, kb, kq, rfl, db4, dq4, fb, fq, by omega, by omega, up Bb, up Bq, pow_mono 936 2000 bf, pow_mono 936 2000 bm, fun q2 z2 H5 k5 n5 d5 f5 e5 => ?_⟩
        have d45 := d4.keep0 k5
        walk_at "sts"
        have y1 : ∀ k ∈ keysK z1, ∃ x ∈ xs, k = Sum.inr x := fun k hk => by
          have h := f4.iff.mp hk
          rw [e4] at h
          by_cases c1 : k ∈ keysK ka
          · exact ka1 k c1
          · by_cases c2 : k ∈ keysK ko
            · exact ko1 k c2
            · exact absurd (by rw [gt_off c1, gt_off c2]; simp) h
        have y2 : ∀ k ∈ keysK z2, ∃ i : Nat, i < N ∧ k = Sum.inl (i : Int) := fun k hk => by
          have h := f5.iff.mp hk
          rw [e5] at h
          by_cases c1 : k ∈ keysK kb
          · exact kb1 k c1
          · by_cases c2 : k ∈ keysK kq
            · exact kq1 k c2
            · exact absurd (by rw [gt_off c1, gt_off c2]; simp) h
        have l1 := td_len f4 y1
        have l2 := wd_len f5 y2
        have facp : 0 < fac := Int.pos_of_mul_pos_left (a := fac) (b := g) (by rw [ef]; exact stp.hp) gp
        have swi : s0.w i = 0 := Classical.byContradiction fun c => by
          rcases stp.sup i c with h | ⟨r, hr, h⟩
          · exact sip h.symm
          · exact hij r hr h.symm
        have z2n : z2 ≠ [] := fun z => by
          have h := e5 (Sum.inl (i : Int))
          rw [z, kb2, kq2, swi] at h
          have h2 : (0 : Int) = u i * fac + 0 * mo := h
          rw [Int.zero_mul, Int.add_zero] at h2
          have := Int.mul_pos fr.wi facp
          omega
        refine ⟨q1, q2, z1, z2, rfl, d45, d5, f4, f5, by omega, by omega, z2n, fun k => by rw [e4]; exact mix (Ba k) (Bo k), fun k => by rw [e5]; exact mix (Bb k) (Bq k), fun p' a' b' v1 v2 g' H6 k6 ep da6 db6 f6 f7 g0 v1e v2e pr => ?_⟩
        refine r_gTup2 (sqT_of ep) ?_
        have step : Ec.Fr N l (ss.take (j + 1)) i (fun x => gt v1 (Sum.inr x)) (fun k => gt v2 (Sum.inl (k : Int))) := by
          rw [st]
          refine fr.step (d := g') stp hij sip gp ef em g0 (fun x => by rw [v1e, e4, ka2, ko2]) (fun k => by rw [v2e, e5, kb2, kq2]) fun h h1 h2 => pr h (fun k => ?_) fun k => ?_
          · by_cases c1 : k ∈ keysK v1
            · have : gt z1 k ≠ 0 := fun z => f6.iff.mp c1 (by have := v1e k; rw [z] at this; rcases Int.mul_eq_zero.mp this with h | h <;> omega)
              obtain ⟨x, _, rfl⟩ := y1 k (f4.iff.mpr this)
              exact h1 x
            · rw [gt_off c1]; exact Int.dvd_zero _
          · by_cases c1 : k ∈ keysK v2
            · have : gt z2 k ≠ 0 := fun z => f7.iff.mp c1 (by have := v2e k; rw [z] at this; rcases Int.mul_eq_zero.mp this with h | h <;> omega)
              obtain ⟨x, _, rfl⟩ := y2 k (f5.iff.mpr this)
              exact h2 x
            · rw [gt_off c1]; exact Int.dvd_zero _
        refine ⟨a', b', _, _, _, _, _, _, _, _, rfl, ((k23.trans k4).trans k5).trans k6, ⟨v1, da6, f6, fun k hk => ?_, fun _ => rfl⟩, ⟨v2, db6, f7, fun k hk => ?_, fun _ => rfl⟩, step⟩
        · have : gt z1 k ≠ 0 := fun z => f6.iff.mp hk (by have := v1e k; rw [z] at this; rcases Int.mul_eq_zero.mp this with h | h <;> omega)
          exact y1 k (f4.iff.mpr this)
        · have : gt z2 k ≠ 0 := fun z => f7.iff.mp hk (by have := v2e k; rw [z] at this; rcases Int.mul_eq_zero.mp this with h | h <;> omega)
          exact y2 k (f5.iff.mpr this)
      · rw [if_neg c]
        refine ⟨false, rfl, ?_⟩
        walk_at "sts"
        refine ⟨a, b, t, u, _, _, _, _, _, _, rfl, k2, ⟨ka, da, fa, ka1, ka2⟩, ⟨kb, db, fb, kb1, kb2⟩, ?_⟩
        rw [st]
        exact fr.skip (by rw [← ka2]; exact gt_off c)
    · rintro σ' H2 ⟨a, b, t, u, x4, x5, x6, x7, x8, x9, rfl, k2, ta, wb, fr⟩
      rw [List.length_map, elen, List.take_length] at fr
      walk_at "sts"
      intro r hr
      exact q r a b t u _ (k2.trans (Keep.new hr)) upd_same (ta.keep0 (Keep.new hr)) (wb.keep0 (Keep.new hr)) fr
end
/-! ### a line taken, an echelon of lines -/
/-- the lines below m are told: Ec.Dn, and the steps' lines are below m -/
structure Told (N : Nat) (l : Nat → Str → Int) (xs : List Str) (ss : List (Ec.Step Str)) (m : Nat) : Prop where
  E : Ec.Ech N l xs ss
  p : ∀ r ∈ ss, r.p < m
  d : Ec.Dn N l xs ss m
def spTakeE (C : Addr) : Sp := fun vs H Q _ => ∃ (e d : Addr) (i N : Nat) (l : Nat → Str → Int) (xs : List Str) (ss : List (Ec.Step Str)) (dx p : Addr) (as : List Addr), vs = [.ref e, .ref d, .int i] ∧ Cl N l xs ∧ H e = some (.ins C dx [("steps", .ref p)]) ∧ H p = some (.lst (as.map V.ref)) ∧ Each (StepAt N xs H) as ss ∧ Told N l xs ss i ∧ i < N ∧ TD xs H d (l i) ∧
  (∀ (a : Addr) (s : Ec.Step Str) (H' : Hp), Keep [p] H H' → H' p = some (.lst ((as ++ [a]).map V.ref)) → Each (StepAt N xs H') (as ++ [a]) (ss ++ [s]) → s.p = i → Told N l xs (ss ++ [s]) (i + 1) → Q .non H') ∧
  (∀ (b : Addr) (t : Str → Int) (u : Nat → Int) (H' : Hp), Keep [] H H' → WD N H' b u → Ec.Fr N l ss i t u → (∀ x ∈ xs, t x = 0) → Told N l xs ss (i + 1) → Q (.ref b) H')
theorem names_of {xs : List Str} : ∀ {ks : Kd}, (∀ k ∈ keysK ks, ∃ x ∈ xs, k = Sum.inr x) → ∃ ys : List Str, keysK ks = ys.map Sum.inr ∧ ∀ y ∈ ys, y ∈ xs
  | [], _ => ⟨[], rfl, by simp⟩
  | p :: ks, h => by
    obtain ⟨x, hx, e⟩ := h p.1 (by simp [keysK])
    obtain ⟨ys, e2, h2⟩ := names_of (ks := ks) fun k hk => h k (List.mem_cons_of_mem _ hk)
    refine ⟨x :: ys, ?_, fun y hy => ?_⟩
    · show p.1 :: keysK ks = _
      rw [e, e2]; rfl
    · cases hy with
      | head => exact hx
      | tail _ hy => exact h2 y hy
theorem kV_names {ks : Kd} {ys : List Str} (h : keysK ks = ys.map Sum.inr) : ((kd ks).map fun kv => kV kv.1) = ys.map V.str := by
  have : ((kd ks).map fun kv => kV kv.1) = (keysK ks).map kV := by unfold kd keysK; rw [List.map_map, List.map_map]; rfl
  rw [this, h, List.map_map]; rfl
theorem r_sgn {tst : TT} {σ : L2.St} {H : Hp} {Q : VK} {n : Int} (n0 : n ≠ 0) (hc : ∀ QB : Bool → Hp → Prop, QB (decide (0 < n)) H → tst σ H QB) (k : ∀ sg : Int, (sg = 1 ∨ sg = -1) → 0 < n * sg → Q (.int sg) H) : tIf tst (tC (V.int 1)) (tUn (rU fun i => V.int (-i)) (tC (V.int 1))) σ H Q := by
  refine r_if (hc _ ?_)
  refine r_ite (fun c => ?_) (fun c => ?_)
  · exact r_c (k 1 (.inl rfl) (by omega))
  · exact r_un (r_c (r_U (k (-1) (.inr rfl) (by omega))))
theorem map_fine {ks : Kd} {sg : Int} (f : Fine ks) (hs : sg = 1 ∨ sg = -1) : Fine (mapK (fun _ n => n * sg) (fun _ _ => true) ks) := ⟨mapK_nd f.nd, fun p hp => by
  obtain ⟨r, hr, rfl⟩ := List.mem_map.mp hp
  have h := f.nz r (List.mem_filter.mp hr).1
  exact Int.mul_ne_zero h (by omega)⟩
section
variable {P : Program} {w : World} {K : PySem.W.Frag} {mg : Str → Option Value} {base : Heap}
theorem ok_takeE (T : Tx K mg) (G_Echelon_freed : FnOk P w K mg base CX0 3 T.f_Echelon_freed T.fd_Echelon_freed ["self", "terms", "index"] (spFreed T.C_Echelon)) : FnOk P w K mg base CX0 4 T.f_Echelon_take T.fd_Echelon_take ["self", "terms", "index"] (spTakeE T.C_Echelon) := by
  refine T.F_Echelon_take.ok sc_Echelon_take (fun vs H Q E h => ?_) (fun cdv A outer s H vs Q E hr h => ?_)
  · obtain ⟨e, d, i, N, l, xs, ss, dx, p, as, rfl, _⟩ := h; rfl
  · obtain ⟨e, d, i, N, l, xs, ss, dx, p, as, rfl, cl, he, hp, eas, tl, iN, td, qn, qr⟩ := h
    have oc := T.oc_Echelon
    refine ⟨_, PSs.nox (pss_cons (ps_asg (pe_meth (pv 0) T.oc_Echelon.cl T.me_Echelon_freed G_Echelon_freed (hr.mono (by decide)) T.b_Echelon_freed .nil pass0 (pa_cons (pv 1) (pa_cons (pv 2) pa_nil))) (pg_tup (n := 2) rfl (pgs_cons (pg_name (i := 3) sc_Echelon_take.nd rfl (Or.inl rfl)) (pgs_cons (pg_name (i := 4) sc_Echelon_take.nd rfl (Or.inl rfl)) pgs_nil))))
    (pss_cons (ps_if (pt_cmpR op_eq (pe_callB call_lenD (by rfl) T.m_len PySem.boot_len (pa_cons (pv 3) pa_nil)) pe_int (nomark _))
    (pss_one (ps_ret (pv 4)))
    pss_nil)
    (pss_cons (ps_set (i := 5) sc_Echelon_take.nd rfl (Or.inl rfl) (pe_callB (Lv.cr_minS rfl (hu_of hr)) (by rfl) T.m_min (by decide +kernel) (pa_cons (pe_callTy (call_list_dK rfl) (by rfl) T.m_list (by decide +kernel) (pa_cons (pv 3) pa_nil)) pa_nil)))
    (pss_cons (ps_set (i := 6) sc_Echelon_take.nd rfl (Or.inr rfl) (pe_ifExp (pt_cmpR op_gt (pe_dget (hu_of hr) (pv 3) (pv 5) (fun _ _ => rfl)) pe_int (nomark _)) pe_int (pe_un un_neg pe_int)))
    (pss_cons (ps_lock (Dk.ps_setDcK (i := 3) (own := [("key", 7), ("number", 8)]) (g := gTup K 2 (gCons (gName 7) (gCons (gName 8) gNil))) (tt := tYes) rfl sc_Echelon_take.nd rfl rfl (Dt.sw_dict rfl rfl rfl (by decide +kernel)) (pi_items (pv 3)) (blkOk_by (own := [("key", 7), ("number", 8)]) (N := ["self", "terms", "index", "left", "weights", "head", "sign", "key", "number"]) (sc := defScope s_Echelon_take) (by decide +kernel)) (fun _ _ _ _ _ => pg_tup (n := 2) rfl (pgs_cons (pg_name (i := 7) sc_Echelon_take.nd rfl (Or.inl rfl)) (pgs_cons (pg_name (i := 8) sc_Echelon_take.nd rfl (Or.inl rfl)) pgs_nil))) (fun _ _ _ _ _ => pts_nil) (fun _ _ _ _ _ => (pv 7)) (fun _ _ _ _ _ => (pe_op op_mulG (pv 8) (pv 6)))))
    (pss_cons (ps_expr (pe_bm PySem.F.plainAttrs_list PySem.F.slot_list_append PySem.F.type_list_append mt_append (pe_fld (pv 0) rfl) (pa_cons (pe_tup (pa_cons (pv 5) (pa_cons (pv 3) (pa_cons (pe_lock (pe_dc (own := [("key", 7), ("number", 8)]) (g := gTup K 2 (gCons (gName 7) (gCons (gName 8) gNil))) (tt := tYes) rfl sc_Echelon_take.nd (pi_items (pv 4)) (blkOk_by (own := [("key", 7), ("number", 8)]) (N := ["self", "terms", "index", "left", "weights", "head", "sign", "key", "number"]) (sc := defScope s_Echelon_take) (by decide +kernel)) (fun _ _ _ _ _ => pg_tup (n := 2) rfl (pgs_cons (pg_name (i := 7) sc_Echelon_take.nd rfl (Or.inl rfl)) (pgs_cons (pg_name (i := 8) sc_Echelon_take.nd rfl (Or.inl rfl)) pgs_nil))) (fun _ _ _ _ _ => pts_nil) (fun _ _ _ _ _ => (pv 7)) (fun _ _ _ _ _ => (pe_op op_mulG (pv 8) (pv 6))))) pa_nil)))) pa_nil)))
    (pss_one (ps_ret pe_non)))))))), ?_⟩
    walk_at "start"
    walk_at "sts"
    have l8 := cl.steps tl.E
    have hi : ∀ r ∈ ss, r.p ≠ i := fun r hr => by have := tl.p r hr; omega
    refine ⟨e, d, i, N, l, xs, ss, rfl, cl, ⟨dx, p, as, he, hp, eas⟩, tl.E, hi, iN, td, fun v a b t u H1 k1 ev ta wb fr => ?_⟩
    refine r_gTup2 (sqT_of ev) ?_
    simp only [List.set_cons_zero, List.set_cons_succ]
    obtain ⟨ub, tb⟩ := fr.small tl.E hi iN cl.hN l8 cl.hB
    obtain ⟨ka, da, fa, ka1, ka2⟩ := ta
    obtain ⟨kb, db, fb, kb1, kb2⟩ := wb
    have la := td_len fa ka1
    have lb := wd_len fb kb1
    have cx := cl.hx
    have cn := cl.hN
    walk_at "sts"
    refine ⟨a, _, rfl, da, ?_⟩
    rw [kd_len]
    walk_at "sts"
    refine r_ite (fun c => ?_) (fun c => ?_)
    · have ke : ka = [] := List.length_eq_zero_iff.mp (by omega)
      subst ke
      have z : ∀ x ∈ xs, t x = 0 := fun x _ => by rw [← ka2]; rfl
      walk_at "sts"
      exact qr b t u H1 k1 ⟨kb, db, fb, kb1, kb2⟩ fr z ⟨tl.E, fun r hr => by have := tl.p r hr; omega, tl.d.same fr iN tl.p z⟩
    · obtain ⟨ys, ye, yx⟩ := names_of ka1
      have yl : ys.length = ka.length := by have := congrArg List.length ye; rw [keys_len, List.length_map] at this; omega
      walk_at "sts"
      refine r_listD da fun l0 n0 => ?_
      rw [kV_names ye]
      have k2 : Keep [] H1 (upd H1 l0 (.lst (ys.map V.str))) := Keep.new n0
      have e0 : upd H1 l0 (.lst (ys.map V.str)) l0 = some (.lst (ys.map V.str)) := upd_same
      have da := da.keep0 k2
      have db := db.keep0 k2
      generalize upd H1 l0 (.lst (ys.map V.str)) = H2 at k2 e0 da db ⊢
      walk_at "sts"
      refine Lv.r_minS (sqL_of e0) (fun z => c (by rw [z] at yl; simp at yl; omega)) fun h hh => ?_
      have hk : (Sum.inr h : Key) ∈ keysK ka := by rw [ye]; exact List.mem_map_of_mem hh
      have th : t h ≠ 0 := by rw [← ka2]; exact fa.iff.mp hk
      have va : valV (kd ka) (Sum.inr h) = some (.int (t h)) := by rw [val_kd, if_pos hk, ka2]
      have k12 := k1.trans k2
      walk_at "st"
      walk_at "st"
      walk_at "st"
      refine r_sgn th (fun QB hq => ?_) fun sg hs hp0 => ?_
      · walk_at "sts"
        refine r_dgetS da va ?_
        walk_at "sts"
        exact hq
      have bs : sg.natAbs < 2 ^ 10 := by rcases hs with rfl | rfl <;> decide
      walk_at "sts"
      refine lockS ?_
      refine dc_kd (f := fun _ n => n * sg) (g := fun _ _ => true) da fa.nd (by omega) (fun H' Q' h => r_var rfl h) (fun x y => rfl) (fun k n H' QB _ h => r_yes h) (fun k n H' Q' h => r_var rfl h) (fun k n H' Q' hm _ h => ?_) ?_
      · walk_at "sts"
        exact h
      · intro a2 H3 k3 n3 e3
        have db := db.keep0 k3
        have k13 := k12.trans k3
        have he3 := k13 _ _ (by simp) he
        have hp3 := k13 _ _ (by simp) hp
        simp only [List.set_cons_zero, List.set_cons_succ]
        walk_at "sts"
        refine Ow.r_fldAt he3 oc.cl T.na_Echelon_steps rfl ?_
        refine r_tyL (sqL_of hp3) ?_
        walk_at "sts"
        refine dc_kd (f := fun _ n => n * sg) (g := fun _ _ => true) db fb.nd (by omega) (fun H' Q' h => r_var rfl h) (fun x y => rfl) (fun k n H' QB _ h => r_yes h) (fun k n H' Q' h => r_var rfl h) (fun k n H' Q' hm _ h => ?_) ?_
        · walk_at "sts"
          exact h
        intro b2 H4 k4 n4 e4
        have e34 := k4 _ _ (by simp) e3
        have hp4 := k4 _ _ (by simp) hp3
        have k14 := k13.trans k4
        walk_at "sts"
        intro r nr
        have k5 : Keep [] H4 (upd H4 r (.tup [.str h, .ref a2, .ref b2])) := Keep.new nr
        have er : upd H4 r (.tup [.str h, .ref a2, .ref b2]) r = some (.tup [.str h, .ref a2, .ref b2]) := upd_same
        have e35 := k5 _ _ (by simp) e34
        have e45 := k5 _ _ (by simp) e4
        have hp5 := k5 _ _ (by simp) hp4
        have k15 := k14.trans k5
        generalize upd H4 r (.tup [.str h, .ref a2, .ref b2]) = H5 at k5 er e35 e45 hp5 k15 ⊢
        have lap : (as.map V.ref).length < sizeLine := by
          rw [List.length_map, eas.len]
          exact lt_size (by omega)
        walk_at "sts"
        refine r_app hp5 lap ?_
        walk_at "sts"
        have kp : Keep [p] H5 (upd H5 p (.lst (as.map V.ref ++ [V.ref r]))) := Keep.at (by simp)
        have ml : ∀ m ∈ [p], ∃ ys, H5 m = some (.lst ys) := fun m hm => by rw [List.mem_singleton.mp hm]; exact ⟨_, hp5⟩
        have stp : StepAt N xs H5 r ⟨h, fun x => t x * sg, fun k => u k * sg, i⟩ := by
          refine ⟨a2, b2, er, ⟨_, e35, map_fine fa hs, fun k hk => ?_, fun x => ?_⟩, ⟨_, e45, map_fine fb hs, fun k hk => ?_, fun x => ?_⟩⟩
          · rw [mapK_keysT] at hk; exact ka1 k hk
          · rw [mapK_all fa.nd (Int.zero_mul _), ka2]
          · rw [mapK_keysT] at hk; exact kb1 k hk
          · rw [mapK_all fb.nd (Int.zero_mul _), kb2]
        have hx : h ∈ xs := yx h hh
        refine qn r ⟨h, fun x => t x * sg, fun k => u k * sg, i⟩ _ ((k15.mono (by simp)).trans kp) (by rw [upd_same, List.map_append]; rfl) ?_ rfl ⟨.snoc tl.E (fr.toStep hi iN hx hs hp0), fun r hr => ?_, tl.d.push fr iN tl.p hs⟩
        · exact (eas.mono fun a s h => (h.keep k15 (by simp)).keep kp ml).app ⟨stp.keep kp ml, trivial⟩
        · rcases List.mem_append.mp hr with hr | hr
          · have := tl.p r hr; omega
          · rw [List.mem_singleton.mp hr]; show i < i + 1; omega
end
/-! ### moves -/
/-- a ratio at each name -/
def MvAt (H : Hp) (d : Addr) (ys : List Str) (M : Str → Int × Int) : Prop := ∃ kvs : List (Key × V), H d = some (.dK kvs) ∧ kvs.map (·.1) = ys.map Sum.inr ∧ ys.Nodup ∧ ∀ y ∈ ys, ∃ a, valV kvs (Sum.inr y) = some (.ref a) ∧ H a = some (.tup [.int (M y).1, .int (M y).2])
/-- an integer at each name -/
def RsAt (H : Hp) (d : Addr) (ys : List Str) (R : Str → Int) : Prop := DictAt H d (ys.map fun y => (Sum.inr y, R y)) ∧ ys.Nodup
theorem val_at : ∀ {kvs : List (Key × V)} {i : Nat} {k : Key} {v : V}, (kvs.map (·.1)).Nodup → kvs[i]? = some (k, v) → valV kvs k = some v
  | [], _, _, _, _, e => by simp at e
  | p :: kvs, 0, k, v, n, e => by
    have e2 : p = (k, v) := by simpa using e
    subst e2
    exact valV_pos rfl
  | p :: kvs, i + 1, k, v, n, e => by
    rw [List.map_cons] at n
    obtain ⟨n1, n2⟩ := List.nodup_cons.mp n
    have e2 : kvs[i]? = some (k, v) := by simpa using e
    rw [valV_neg, val_at n2 e2]
    intro c
    exact n1 (by rw [c]; exact List.mem_map.mpr ⟨_, List.mem_of_getElem? e2, rfl⟩)
theorem inr_nodup {ys : List Str} (h : ys.Nodup) : (ys.map (Sum.inr : Str → Key)).Nodup := Ec.map_nodup h fun a _ b _ e => Sum.inr.inj e
theorem MvAt.get {H : Hp} {ys : List Str} {M : Str → Int × Int} {kvs : List (Key × V)} (hk : kvs.map (·.1) = ys.map Sum.inr) (nd : ys.Nodup) (h : ∀ y ∈ ys, ∃ a, valV kvs (Sum.inr y) = some (.ref a) ∧ H a = some (.tup [.int (M y).1, .int (M y).2])) {i : Nat} {k : Key} {v : V} (e : kvs[i]? = some (k, v)) :
    ∃ y a, ys[i]? = some y ∧ k = Sum.inr y ∧ v = .ref a ∧ H a = some (.tup [.int (M y).1, .int (M y).2]) := by
  have e1 : (kvs.map (·.1))[i]? = some k := by rw [List.getElem?_map, e]; rfl
  rw [hk, List.getElem?_map] at e1
  obtain ⟨y, hy, rfl⟩ := Option.map_eq_some_iff.mp e1
  obtain ⟨a, ha, hb⟩ := h y (List.mem_of_getElem? hy)
  rw [val_at (by rw [hk]; exact inr_nodup nd) e] at ha
  exact ⟨y, a, hy, rfl, Option.some.inj ha, hb⟩
theorem r_gTup12 {K : PySem.W.Frag} {σ : L2.St} {H : Hp} {p T : Addr} {x y z : V} {i j k : Nat} {Q : L2.St → Hp → Prop} (h : SqT K H T [z, .ref p]) (h2 : SqT K H p [x, y]) (q : Q (((σ.set i (some z)).set j (some x)).set k (some y)) H) :
    gTup K 2 (gCons (gName i) (gCons (gTup K 2 (gCons (gName j) (gCons (gName k) gNil))) gNil)) (.ref T) σ H Q :=
  ⟨T, [z, .ref p], rfl, h, rfl, z, [.ref p], rfl, .ref p, [], rfl, ⟨p, [x, y], rfl, h2, rfl, x, [y], rfl, y, [], rfl, rfl, rfl, q⟩⟩
theorem lcm_cast {a b h : Int} (ha : a ∣ h) (hb : b ∣ h) : ((Nat.lcm a.natAbs b.natAbs : Nat) : Int) ∣ h := Int.ofNat_dvd_left.mpr (Nat.lcm_dvd (Int.natAbs_dvd_natAbs.mpr ha) (Int.natAbs_dvd_natAbs.mpr hb))
theorem dvd_lcm1 {a b : Int} : a ∣ ((Nat.lcm a.natAbs b.natAbs : Nat) : Int) := Int.natAbs_dvd_natAbs.mp (by rw [Int.natAbs_natCast]; exact Nat.dvd_lcm_left _ _)
theorem dvd_lcm2 {a b : Int} : b ∣ ((Nat.lcm a.natAbs b.natAbs : Nat) : Int) := Int.natAbs_dvd_natAbs.mp (by rw [Int.natAbs_natCast]; exact Nat.dvd_lcm_right _ _)
theorem dvd_lt {a q : Int} {n : Nat} (h : a ∣ q) (q0 : 0 < q) (hq : q.natAbs < 2 ^ n) : a.natAbs < 2 ^ n := Nat.lt_of_le_of_lt (Nat.le_of_dvd (by omega) (Int.natAbs_dvd_natAbs.mpr h)) hq
def spWhole2 : Sp := fun vs H Q _ => ∃ (d : Addr) (ys : List Str) (M : Str → Int × Int) (q0 : Int), vs = [.ref d] ∧ MvAt H d ys M ∧ ys.length ≤ 40 ∧ 0 < q0 ∧ q0.natAbs < 2 ^ 3900 ∧ (∀ y ∈ ys, 0 < (M y).2 ∧ (M y).2 ∣ q0 ∧ (M y).1.natAbs < 2 ^ 9000) ∧
  ∀ (q : Addr) (W : Int) (H' : Hp), Keep [] H H' → H q = none → RsAt H' q ys (Ec.whole M W) → Ec.Wh ys M W → Q (.ref q) H'
section
variable {P : Program} {w : World} {K : PySem.W.Frag} {mg : Str → Option Value} {base : Heap}
theorem ok_whole (T : Tx K mg) : FnOk P w K mg base CX0 1 T.f_whole_moves T.fd_whole_moves ["moves"] spWhole2 := by
  refine T.F_whole_moves.ok sc_whole_moves (fun vs H Q E h => ?_) (fun cdv A outer s H vs Q E hr h => ?_)
  · obtain ⟨d, ys, M, q0, rfl, _⟩ := h; rfl
  · obtain ⟨d, ys, M, q0, rfl, ⟨kvs, hd, hk, nd, hM⟩, l40, q0p, q0b, hall, q⟩ := h
    have lk : kvs.length = ys.length := by have := congrArg List.length hk; rwa [List.length_map, List.length_map] at this
    refine ⟨_, (pss_cons (ps_set (i := 1) sc_whole_moves.nd rfl (Or.inr rfl) pe_int)
    (pss_cons (ps_lock (ps_for PassesOwn.never rfl (pi_values (pv 0)) (pg_tup (n := 2) rfl (pgs_cons (pg_name (i := 2) sc_whole_moves.nd rfl (Or.inl rfl)) (pgs_cons (pg_name (i := 3) sc_whole_moves.nd rfl (Or.inl rfl)) pgs_nil)))
    (pss_one (ps_set (i := 1) sc_whole_moves.nd rfl (Or.inr rfl) (pe_callBfun Lv.cr_lcm rfl T.m_lcm (pa_cons (pv 1) (pa_cons (pv 3) pa_nil)))))))
    (pss_one (ps_ret (pe_lock (pe_dc (own := [("name", 4), ("top", 5), ("bottom", 3)]) (g := gTup K 2 (gCons (gName 4) (gCons (gTup K 2 (gCons (gName 5) (gCons (gName 3) gNil))) gNil))) (tt := tYes) rfl sc_whole_moves.nd (pi_items (pv 0)) (blkOk_by (own := [("name", 4), ("top", 5), ("bottom", 3)]) (N := ["moves", "whole", "_", "bottom", "name", "top"]) (sc := defScope s_whole_moves) (by decide +kernel)) (fun _ _ _ _ _ => pg_tup (n := 2) rfl (pgs_cons (pg_name (i := 4) sc_whole_moves.nd rfl (Or.inl rfl)) (pgs_cons (pg_tup (n := 2) rfl (pgs_cons (pg_name (i := 5) sc_whole_moves.nd rfl (Or.inl rfl)) (pgs_cons (pg_name (i := 3) sc_whole_moves.nd rfl (Or.inl rfl)) pgs_nil))) pgs_nil))) (fun _ _ _ _ _ => pts_nil) (fun _ _ _ _ _ => (pv 4)) (fun _ _ _ _ _ => (pe_op op_mulG (pv 5) (pe_op op_fdivWN (pv 1) (pv 3)))))))))), ?_⟩
    walk_at "start"
    walk_at "sts"
    refine forV_go hd (fun od Q' h => r_var rfl h) (fun od i σ' H' => ∃ (W : Int) (x y : Option V), σ' = [some (.ref d), some (.int W), x, y, none, none] ∧ H' = upd H d (.frz od (.dK kvs)) ∧ 0 < W ∧ W ∣ q0 ∧ (∀ z ∈ ys.take i, (M z).2 ∣ W) ∧ ∀ h : Int, (∀ z ∈ ys.take i, (M z).2 ∣ h) → W ∣ h) (fun od => ⟨1, none, none, rfl, rfl, by omega, Int.one_dvd _, by simp, fun h _ => Int.one_dvd _⟩) (fun od i σ' H' h => by obtain ⟨_, _, _, _, rfl, _⟩ := h; exact upd_same) ?_ ?_
    · rintro od i k v σ' H' hn ⟨W, x, y, rfl, rfl, W0, Wq, W1, W2⟩
      obtain ⟨z, a, hz, rfl, rfl, ha⟩ := MvAt.get hk nd hM hn
      have zm := List.mem_of_getElem? hz
      obtain ⟨b0, bq, tb⟩ := hall z zm
      have ne : a ≠ d := by rintro rfl; rw [hd] at ha; cases ha
      refine r_gTup2 (sqT_of (by rw [upd_ne ne]; exact ha)) ?_
      simp only [List.set_cons_zero, List.set_cons_succ]
      walk_at "sts"
      refine Lv.r_lcm (pow_mono 3900 4000 (dvd_lt Wq q0p q0b)) (pow_mono 3900 4000 (dvd_lt bq q0p q0b)) ?_
      have st : ys.take (i + 1) = ys.take i ++ [z] := take_snoc hz
      refine ⟨_, _, _, rfl, rfl, ?_, lcm_cast Wq bq, fun u hu => ?_, fun h hh => lcm_cast (W2 h fun u hu => hh u (by rw [st]; exact List.mem_append_left _ hu)) (hh z (by rw [st]; simp))⟩
      · have : 0 < Nat.lcm W.natAbs (M z).2.natAbs := Nat.lcm_pos (by omega) (by omega)
        omega
      · rw [st] at hu
        rcases List.mem_append.mp hu with hu | hu
        · exact Int.dvd_trans (W1 u hu) dvd_lcm1
        · rw [List.mem_singleton.mp hu]; exact dvd_lcm2
    · rintro od σ' H' ⟨W, x, y, rfl, rfl, W0, Wq, W1, W2⟩
      rw [lk, List.take_length] at W1 W2
      rw [upd_back hd]
      have wh : Ec.Wh ys M W := ⟨W0, W1, W2⟩
      walk_at "sts"
      refine dcI_go hd (fun od Q' h => r_var rfl (h _ _ ⟨rfl, rfl⟩)) (fun od D i acc H' => acc = kd ((ys.take i).map fun y => (Sum.inr y, Ec.whole M W y)) ∧ Keep [] (upd H d (.frz od (.dK kvs))) H' ∧ D ≠ d) (fun od D hD => ⟨rfl, Keep.new hD, by rintro rfl; rw [upd_same] at hD; cases hD⟩) (fun od D i acc H' h => h.2.1 _ _ (by simp) upd_same) ?_ ?_
      · rintro od D m ky v T acc H' hn hD hacc ⟨rfl, kk, ne⟩ hT
        obtain ⟨z, a, hz, rfl, rfl, ha⟩ := MvAt.get hk nd hM hn
        have zm := List.mem_of_getElem? hz
        obtain ⟨b0, bq, tb⟩ := hall z zm
        have nea : a ≠ d := by rintro rfl; rw [hd] at ha; cases ha
        have k3 : Keep [] H' (upd H' T (.tup [kV (Sum.inr z), .ref a])) := Keep.new hT
        have ha3 : upd H' T (.tup [kV (Sum.inr z), .ref a]) a = some (.tup [.int (M z).1, .int (M z).2]) := (kk.trans k3) a _ (by simp) (by rw [upd_ne nea]; exact ha)
        have hD3 := k3 _ _ (by simp) hacc
        refine r_gTup12 (sqT_of upd_same) (sqT_of ha3) ⟨rfl, ?_⟩
        generalize upd H' T (.tup [kV (Sum.inr z), .ref a]) = H3 at k3 ha3 hD3 ⊢
        have bl : (M z).2.natAbs < 2 ^ 3900 := dvd_lt bq q0p q0b
        have wb : W.natAbs < 2 ^ 3900 := dvd_lt Wq q0p q0b
        have side : (M z).2 ≠ 0 ∧ (M z).2.natAbs.log2 < 9000 := ⟨by omega, log_ok 3900 bl⟩
        have hw : W.fdiv (M z).2 = W / (M z).2 := Int.fdiv_eq_ediv_of_nonneg _ (by omega)
        have hb : (W / (M z).2).natAbs < 2 ^ 3900 := by rw [← hw]; exact Nat.lt_of_le_of_lt (natAbs_fdiv_le (by omega) (W1 z zm)) wb
        refine r_yes ?_
        rw [if_pos rfl]
        refine r_var rfl (r_op (r_var rfl (r_op (r_var rfl (r_var rfl (r_I side ?_))))))
        rw [hw]
        refine r_I (mulw 9000 3900 tb hb) ⟨_, Sum.inr z, rfl, hD3, lt_size (by rw [kd_len, List.length_map, List.length_take]; omega), _, upd_same, ?_, (kk.trans k3).mut hD, ne⟩
        have st : ys.take (m + 1) = ys.take m ++ [z] := take_snoc hz
        have fresh : (Sum.inr z : Key) ∉ (kd ((ys.take m).map fun y => (Sum.inr y, Ec.whole M W y))).map (·.1) := by
          rw [kd_keys]
          unfold keysK
          rw [List.map_map]
          intro hc
          obtain ⟨u, hu, e⟩ := List.mem_map.mp hc
          have e2 : u = z := Sum.inr.inj e
          subst e2
          have n2 : (ys.take (m + 1)).Nodup := nd.sublist (List.take_sublist _ _)
          rw [st] at n2
          exact (List.nodup_append.mp n2).2.2 _ hu _ (by simp) rfl
        rw [putK_fresh fresh, st, List.map_append]
        unfold kd
        rw [List.map_append]; rfl
      · rintro od D acc H' hD hacc ⟨rfl, kk, ne⟩
        rw [lk, List.take_length] at hacc
        exact q D W _ (Keep.unlock hd kk) (by rw [upd_ne ne] at hD; exact hD) ⟨by unfold DictAt; rw [upd_ne ne]; exact hacc, nd⟩ wh
end
/-! ### sums over the entries of a dict -/
def sK (g : Key → Int) (ks : Kd) : Int := (ks.map fun p => g p.1 * p.2).sum
theorem sK_snoc {g : Key → Int} {ks : Kd} {p : Key × Int} : sK g (ks ++ [p]) = sK g ks + g p.1 * p.2 := by simp [sK]
theorem gt_cons {p : Key × Int} {ks : Kd} {k : Key} (h : p.1 ∉ keysK ks) : gt (p :: ks) k = (if k = p.1 then p.2 else 0) + gt ks k := by
  rw [gt]
  by_cases c : p.1 = k
  · rw [if_pos c, if_pos c.symm, ← c, gt_off h]; omega
  · rw [if_neg c, if_neg (Ne.symm c)]; omega
theorem sK_sum {g : Key → Int} {ys : List Str} (nd : ys.Nodup) : ∀ {ks : Kd}, (keysK ks).Nodup → (∀ k ∈ keysK ks, ∃ y ∈ ys, k = Sum.inr y) → sK g ks = Ec.sumX ys fun y => g (Sum.inr y) * gt ks (Sum.inr y)
  | [], _, _ => by
    rw [Ec.sumX_zero fun y _ => by show g _ * 0 = 0; omega]; rfl
  | p :: ks, n, h => by
    obtain ⟨n1, n2⟩ := List.nodup_cons.mp n
    obtain ⟨z, hz, e⟩ := h p.1 (by simp [keysK])
    have e1 : (fun y : Str => g (Sum.inr y) * gt (p :: ks) (Sum.inr y)) = fun y => (if y = z then g p.1 * p.2 else 0) + g (Sum.inr y) * gt ks (Sum.inr y) := by
      funext y
      rw [gt_cons n1, Int.mul_add, e]
      by_cases c : y = z
      · rw [c, if_pos rfl, if_pos rfl]
      · rw [if_neg c, if_neg (fun h => c (Sum.inr.inj h)), Int.mul_zero]
    rw [e1, Ec.sumX_add, Ec.sumX_one nd hz fun x _ ne => if_neg ne, if_pos rfl, ← sK_sum nd n2 fun k hk => h k (List.mem_cons_of_mem _ hk)]
    simp [sK]
/-! ### a shift -/
def bS (n : Nat) : Nat → Nat
  | 0 => 0
  | j + 1 => bS n j + 104 * (n - j)
theorem bS_le : ∀ n, n < 9 → ∀ j, j < 9 → bS n j ≤ 3744 := by decide
theorem wh_small {ys : List Str} {M : Str → Int × Int} {L : Str → Int} {Q W : Int} (g : Ec.Sh ys M L Q) (h : Ec.Wh ys M W) {x : Str} (hx : x ∈ ys) : (Ec.whole M W x).natAbs ≤ (L x).natAbs := by
  have e := congrArg Int.natAbs (h.eq g hx)
  rw [Int.natAbs_mul, Int.natAbs_mul] at e
  have w : W ∣ Q := h.least Q fun z hz => (g.a z hz).dvd
  have q0 := g.q
  have w0 := h.pos
  have le : W.natAbs ≤ Q.natAbs := by have := Int.le_of_dvd q0 w; omega
  have m : (Ec.whole M W x).natAbs * Q.natAbs ≤ (L x).natAbs * Q.natAbs := by rw [e]; exact Nat.mul_le_mul_left _ le
  exact Nat.le_of_mul_le_mul_right m (by omega)
structure Mv (ys : List Str) (ss : List (Ec.Step Str)) (t : Str → Int) (st : Str) (j : Nat) (M : Str → Int × Int) (L : Str → Int) (Q : Int) : Prop where
  sh : Ec.Sh ys M L Q
  qb : Q.natAbs < 2 ^ (bS ss.length j + 1)
  lb : ∀ x ∈ ys, (L x).natAbs < 2 ^ (bS ss.length j + 3 * j + 1)
  done : ∀ r ∈ ss.drop (ss.length - j), Ec.dotX ys r.t L = 0
  up : 0 < Ec.dotX ys t L
  s1 : (M st).1 = 1 ∨ (M st).1 = -1
  s2 : (M st).2 = 1
theorem r_sgnT {tst : TT} {σ : L2.St} {H : Hp} {Q : VK} {n : Int} (n0 : n ≠ 0) (hc : ∀ QB : Bool → Hp → Prop, QB (decide (0 < n)) H → tst σ H QB) (k : ∀ (sg : Int) (q : Addr), (sg = 1 ∨ sg = -1) → 0 < n * sg → H q = none → Q (.ref q) (upd H q (.tup [.int sg, .int 1]))) :
    tIf tst (tTup (tCons (tC (V.int 1)) (tCons (tC (V.int 1)) tNil))) (tTup (tCons (tUn (rU fun i => V.int (-i)) (tC (V.int 1))) (tCons (tC (V.int 1)) tNil))) σ H Q := by
  refine r_if (hc _ ?_)
  refine r_ite (fun c => ?_) (fun c => ?_)
  · exact r_tup (r_cons (r_c (r_cons (r_c (r_nil ⟨le_size (by decide), fun p hp => k 1 p (.inl rfl) (by omega) hp⟩)))))
  · exact r_tup (r_cons (r_un (r_c (r_U (r_cons (r_c (r_nil ⟨le_size (by decide), fun p hp => k (-1) p (.inr rfl) (by omega) hp⟩)))))))
/-- {x: (0, 1) for x in names} -/
theorem dc_zero {K : PySem.W.Frag} {a i : Nat} {p : Addr} {ys : List Str} {vs : List Nat} {σ : L2.St} {H : Hp} {Q : VK} (hp : H p = some (.tup (ys.map V.str))) (nd : ys.Nodup) (l40 : ys.length ≤ 40) (ha : σ[a]? = some (some (.ref p))) (hw : ∀ x : V, wipe ((wipe σ vs).set i (some x)) vs = wipe σ vs) (hi : ∀ x : V, ((wipe σ vs).set i (some x))[i]? = some (some x))
    (k : ∀ D H', Keep [] H H' → H D = none → MvAt H' D ys (fun _ => (0, 1)) → Q (.ref D) H') : tDc (iTup K (tVar a)) (gName i) tYes (tVar i) (tTup (tCons (tC (V.int 0)) (tCons (tC (V.int 1)) tNil))) vs σ H Q := by
  refine (show iTup K (tVar a) σ H _ from ?_)
  refine ⟨.ref p, ha, p, rfl, ⟨_, sqT_of hp⟩, fun D hD => ?_⟩
  refine dc_it (walk_tup (xs := ys.map V.str)) (fun n H' => ∃ kvs : List (Key × V), H' D = some (.dK kvs) ∧ kvs.map (·.1) = (ys.take n).map Sum.inr ∧ Keep [] H H' ∧ ∀ y ∈ ys.take n, ∃ a, valV kvs (Sum.inr y) = some (.ref a) ∧ H' a = some (.tup [.int 0, .int 1])) ⟨[], upd_same, rfl, Keep.new hD, by simp⟩ (fun n H' _ ⟨kvs, _, _, kk, _⟩ => sqT_of (kk _ _ (by simp) hp)) ?_ ?_
  · rintro n v H1 H' hn ⟨kvs, e1, e2, kk, hv⟩ ⟨rfl, ex⟩
    obtain ⟨y, hy, rfl⟩ := getStr ex
    refine ⟨hw _, r_yes ?_⟩
    rw [if_pos rfl]
    refine r_var (hi _) (r_tup (r_cons (r_c (r_cons (r_c (r_nil ⟨le_size (by decide), fun t ht => ?_⟩))))))
    have k3 : Keep [] H' (upd H' t (.tup [.int 0, .int 1])) := Keep.new ht
    have st : ys.take (n + 1) = ys.take n ++ [y] := take_snoc hy
    have lk : kvs.length ≤ 40 := by have := congrArg List.length e2; rw [List.length_map, List.length_map, List.length_take] at this; omega
    have e13 := k3 _ _ (by simp) e1
    refine ⟨kvs, Sum.inr y, rfl, e13, lt_size (by omega), _, upd_same, ?_, (kk.trans k3).mut hD, fun z hz => ?_⟩
    · have fresh : (Sum.inr y : Key) ∉ kvs.map (·.1) := by
        rw [e2]
        intro hc
        obtain ⟨u, hu, e⟩ := List.mem_map.mp hc
        have e2 : u = y := Sum.inr.inj e
        subst e2
        have n2 : (ys.take (n + 1)).Nodup := nd.sublist (List.take_sublist _ _)
        rw [st] at n2
        exact (List.nodup_append.mp n2).2.2 _ hu _ (by simp) rfl
      rw [putK_fresh fresh, List.map_append, e2, st, List.map_append]; rfl
    · rw [valV_put]
      have nt : t ≠ D := by rintro rfl; rw [e1] at ht; cases ht
      by_cases c : (Sum.inr z : Key) = Sum.inr y
      · rw [if_pos c]
        exact ⟨t, rfl, by rw [upd_ne nt]; exact upd_same⟩
      · rw [if_neg c]
        rw [st] at hz
        rcases List.mem_append.mp hz with hz | hz
        · obtain ⟨a, h1, h2⟩ := hv z hz
          have na : a ≠ D := by rintro rfl; rw [e1] at h2; cases h2
          exact ⟨a, h1, by rw [upd_ne na]; exact k3 _ _ (by simp) h2⟩
        · exact absurd (by rw [List.mem_singleton.mp hz]) c
  · rintro H' ⟨kvs, e1, e2, kk, hv⟩
    rw [List.length_map, List.take_length] at e2 hv
    exact k D H' kk hD ⟨kvs, e1, e2, nd, hv⟩
theorem keys_put2 {kvs : List (Key × V)} {ks : List Str} {z : Str} {v : V} (h : kvs.map (·.1) = ks.map Sum.inr) (hz : z ∈ ks) : (putK kvs (Sum.inr z) v).map (·.1) = ks.map Sum.inr := by
  have e : (kvs.any fun kv => decide (kv.1 = Sum.inr z)) = true := by
    have : Sum.inr z ∈ kvs.map (·.1) := by rw [h]; exact List.mem_map.mpr ⟨z, hz, rfl⟩
    obtain ⟨kv, hkv, e⟩ := List.mem_map.mp this
    exact List.any_eq_true.mpr ⟨kv, hkv, decide_eq_true e⟩
  unfold putK
  rw [if_pos e, ← h, List.map_map]
  apply List.map_congr_left
  intro kv hkv
  simp only [Function.comp]
  split
  · rename_i g; first | exact g.symm | (have := of_decide_eq_true g; exact this.symm) | simp_all
  · rfl
theorem MvAt.put {H : Hp} {d q : Addr} {ys : List Str} {M : Str → Int × Int} {kvs : List (Key × V)} {z : Str} {m : Int × Int} (hd : H d = some (.dK kvs)) (hk : kvs.map (·.1) = ys.map Sum.inr) (nd : ys.Nodup) (h : ∀ y ∈ ys, ∃ a, valV kvs (Sum.inr y) = some (.ref a) ∧ H a = some (.tup [.int (M y).1, .int (M y).2])) (hz : z ∈ ys) (hq : H q = some (.tup [.int m.1, .int m.2])) :
    MvAt (upd H d (.dK (putK kvs (Sum.inr z) (.ref q)))) d ys (fun y => if y = z then m else M y) := by
  refine ⟨_, upd_same, by rw [keys_put2 hk hz], nd, fun y hy => ?_⟩
  rw [valV_put]
  show ∃ a, _ ∧ _ = some (HO.tup [.int (if y = z then m else M y).1, .int (if y = z then m else M y).2])
  by_cases c : y = z
  · rw [if_pos (by rw [c]), if_pos c]
    have nq : q ≠ d := by rintro rfl; rw [hd] at hq; cases hq
    exact ⟨q, rfl, by rw [upd_ne nq]; exact hq⟩
  · rw [if_neg (fun h => c (Sum.inr.inj h)), if_neg c]
    obtain ⟨a, h1, h2⟩ := h y hy
    have na : a ≠ d := by rintro rfl; rw [hd] at h2; cases h2
    exact ⟨a, h1, by rw [upd_ne na]; exact h2⟩
theorem MvAt.keep0 {H H' : Hp} {d : Addr} {ys : List Str} {M : Str → Int × Int} (h : MvAt H d ys M) (k : Keep [] H H') : MvAt H' d ys M := by
  obtain ⟨kvs, a, b, c, e⟩ := h
  exact ⟨kvs, k _ _ (by simp) a, b, c, fun y hy => by obtain ⟨q, h1, h2⟩ := e y hy; exact ⟨q, h1, k _ _ (by simp) h2⟩⟩
theorem r_revL {K : PySem.W.Frag} {te : TE} {σ : L2.St} {H : Hp} {Q : VK} (k : te σ H fun x H1 => ∃ a xs, x = .ref a ∧ SqL K H1 a xs ∧ ∀ p, H1 p = none → Q (.ref p) (upd H1 p (.lst xs.reverse))) : tRevL K te σ H Q := k
theorem sK_bound {g : Key → Int} {B : Nat} : ∀ {ks : Kd}, (∀ p ∈ ks, (g p.1 * p.2).natAbs ≤ B) → (sK g ks).natAbs ≤ ks.length * B
  | [], _ => by simp [sK]
  | p :: ks, h => by
    have h1 := h p (by simp)
    have h2 := sK_bound (g := g) (B := B) (ks := ks) fun q hq => h q (List.mem_cons_of_mem _ hq)
    have e : sK g (p :: ks) = g p.1 * p.2 + sK g ks := by simp [sK]
    have h3 := Int.natAbs_add_le (g p.1 * p.2) (sK g ks)
    rw [e, List.length_cons, Nat.add_mul, Nat.one_mul]
    omega
def gK (h : Str) (L : Str → Int) : Key → Int
  | .inr y => if y = h then 0 else L y
  | .inl _ => 0
theorem take_drop_one {α : Type} {l : List α} {k : Nat} {x : α} (h : l[k]? = some x) : l.drop k = x :: l.drop (k + 1) := by
  have hk := (List.getElem?_eq_some_iff.mp h)
  obtain ⟨h1, h2⟩ := hk
  rw [List.drop_eq_getElem_cons h1, h2]
theorem Mv.step {N : Nat} {l : Nat → Str → Int} {ys : List Str} {ss : List (Ec.Step Str)} {t : Str → Int} {st : Str} {j k : Nat} {M : Str → Int × Int} {L : Str → Int} {Q : Int} {s0 : Ec.Step Str} {v m' : Int × Int} (g : Mv ys ss t st j M L Q) (cl : Cl N l ys) (Eh : Ec.Ech N l ys ss) (hk : k + 1 + j = ss.length) (hs : ss[k]? = some s0)
    (tz : ∀ r ∈ ss, t r.h = 0) (ts : t st ≠ 0) (ob : ∀ x, (s0.t x).natAbs < 2 ^ (104 * (k + 1))) (hv : Ec.Low v (Ec.rest ys s0.h s0.t L) Q) (hm : Ec.Low m' (-v.1) (v.2 * s0.t s0.h)) :
    Mv ys ss t st (j + 1) (fun x => if x = s0.h then m' else M x) (Ec.newL s0.h (s0.t s0.h) (Ec.rest ys s0.h s0.t L) L) (Q * s0.t s0.h) := by
  have sm := List.mem_of_getElem? hs
  obtain ⟨hx, hp, _⟩ := Eh.mem sm
  have e1 : bS ss.length (j + 1) = bS ss.length j + 104 * (k + 1) := by show bS ss.length j + 104 * (ss.length - j) = _; rw [show ss.length - j = k + 1 by omega]
  have th := tz s0 sm
  have sth : st ≠ s0.h := fun e => ts (by rw [e]; exact th)
  refine ⟨g.sh.step hp hv hm, ?_, fun x hx => ?_, fun r hr => ?_, ?_, ?_, ?_⟩
  · rw [e1]
    have := wide_lt g.qb (ob s0.h)
    exact Nat.lt_of_lt_of_le this (Nat.pow_le_pow_right (by omega) (by omega))
  · rw [e1]
    show (if x = s0.h then -Ec.rest ys s0.h s0.t L else L x * s0.t s0.h).natAbs < _
    by_cases c : x = s0.h
    · rw [if_pos c, Int.natAbs_neg]
      have pw : 0 < 2 ^ (104 * (k + 1) + (bS ss.length j + 3 * j + 1)) := Nat.pow_pos (by omega)
      have b : (Ec.rest ys s0.h s0.t L).natAbs ≤ ys.length * (2 ^ (104 * (k + 1) + (bS ss.length j + 3 * j + 1)) - 1) := Ec.sumX_bound fun z hz => by
        show (if z = s0.h then 0 else s0.t z * L z).natAbs ≤ _
        split
        · exact Nat.zero_le _
        · have := wide_lt (ob z) (g.lb z hz); omega
      have y8 := cl.hx
      have b2 : ys.length * (2 ^ (104 * (k + 1) + (bS ss.length j + 3 * j + 1)) - 1) ≤ 8 * (2 ^ (104 * (k + 1) + (bS ss.length j + 3 * j + 1)) - 1) := Nat.mul_le_mul_right _ y8
      have b3 : 2 ^ (bS ss.length j + 104 * (k + 1) + 3 * (j + 1) + 1) = 8 * 2 ^ (104 * (k + 1) + (bS ss.length j + 3 * j + 1)) := by
        rw [show (8 : Nat) = 2 ^ 3 from rfl, ← Nat.pow_add]; congr 1; omega
      omega
    · rw [if_neg c]
      exact Nat.lt_of_lt_of_le (wide_lt (g.lb x hx) (ob s0.h)) (Nat.pow_le_pow_right (by omega) (by omega))
  · have e2 : ss.length - (j + 1) = k := by omega
    rw [e2, take_drop_one hs] at hr
    cases hr with
    | head => exact Ec.new_own cl.nd hx rfl
    | tail _ hr =>
      rw [show k + 1 = ss.length - j by omega] at hr
      have z := g.done r hr
      have rz : r.t s0.h = 0 := by
        obtain ⟨i, hi⟩ := List.getElem?_of_mem hr
        rw [List.getElem?_drop] at hi
        obtain ⟨stp, _⟩ := Eh.at hi
        refine stp.z s0 (List.mem_of_getElem? (i := k) ?_)
        rw [List.getElem?_take_of_lt (by omega)]
        exact hs
      rw [Ec.new_off rz, z, Int.mul_zero]
  · rw [Ec.new_off th]
    exact Int.mul_pos hp g.up
  · show (if st = s0.h then m' else M st).1 = 1 ∨ _
    rw [if_neg sth]
    exact g.s1
  · show (if st = s0.h then m' else M st).2 = 1
    rw [if_neg sth]
    exact g.s2
def spShift (C : Addr) : Sp := fun vs H Q _ => ∃ (e d p : Addr) (N : Nat) (l : Nat → Str → Int) (ys : List Str) (ss : List (Ec.Step Str)) (t : Str → Int), vs = [.ref e, .ref d, .ref p] ∧ Cl N l ys ∧ EchAt N ys C H e ss ∧ Ec.Ech N l ys ss ∧ TD ys H d t ∧ (∃ x, t x ≠ 0) ∧ (∀ r ∈ ss, t r.h = 0) ∧ H p = some (.tup (ys.map V.str)) ∧
  ∀ (q : Addr) (R : Str → Int) (H' : Hp), Keep [] H H' → H q = none → RsAt H' q ys R → (∀ r ∈ ss, Ec.dotX ys r.t R = 0) → 0 < Ec.dotX ys t R → (∀ g : Int, (∀ x ∈ ys, g ∣ R x) → g ∣ 1) → (∀ x ∈ ys, (R x).natAbs < 2 ^ 3900) → Q (.ref q) H'
section
variable {P : Program} {w : World} {K : PySem.W.Frag} {mg : Str → Option Value} {base : Heap}
theorem ok_shift (T : Tx K mg) (G_plus : FnOk P w K mg base CX0 2 T.f_plus T.fd_plus ["first", "second"] (spTwoX fPlus)) (G_times : FnOk P w K mg base CX0 2 T.f_times T.fd_times ["first", "second"] (spTwoX fTimesX)) (G_whole_moves : FnOk P w K mg base CX0 1 T.f_whole_moves T.fd_whole_moves ["moves"] spWhole2) :
    FnOk P w K mg base CX0 3 T.f_Echelon_shift T.fd_Echelon_shift ["self", "left", "names"] (spShift T.C_Echelon) := by
  refine T.F_Echelon_shift.ok sc_Echelon_shift (fun vs H Q E h => ?_) (fun cdv A outer s H vs Q E hr h => ?_)
  · obtain ⟨e, d, p, N, l, ys, ss, t, rfl, _⟩ := h; rfl
  · obtain ⟨e, d, p, N, l, ys, ss, t, rfl, cl, ⟨dx, sp, as, he, hsp, eas⟩, Eh, ⟨kt, dt, ft, kt1, kt2⟩, tne, tz, hp, q⟩ := h
    have oc := T.oc_Echelon
    refine ⟨_, (pss_cons (Dk.ps_setDcK (i := 3) (own := [("name", 4)]) (g := gName 4) (tt := tYes) rfl sc_Echelon_shift.nd rfl rfl (Dt.sw_dict rfl rfl rfl (by decide +kernel)) (pi_tup (pv 2)) (blkOk_by (own := [("name", 4)]) (N := ["self", "left", "names", "moves", "name", "start", "head", "terms", "_", "total", "weight"]) (sc := defScope s_Echelon_shift) (by decide +kernel)) (fun _ _ _ _ _ => pg_name (i := 4) sc_Echelon_shift.nd rfl (Or.inl rfl)) (fun _ _ _ _ _ => pts_nil) (fun _ _ _ _ _ => (pv 4)) (fun _ _ _ _ _ => (pe_tup (pa_cons pe_int (pa_cons pe_int pa_nil)))))
    (pss_cons (ps_set (i := 5) sc_Echelon_shift.nd rfl (Or.inl rfl) (pe_callB (Lv.cr_minS rfl (hu_of hr)) (by rfl) T.m_min (by decide +kernel) (pa_cons (pe_callTy (call_list_dK rfl) (by rfl) T.m_list (by decide +kernel) (pa_cons (pv 1) pa_nil)) pa_nil)))
    (pss_cons (ps_dput (hu_of hr) (pv 3) (pv 5) (pe_ifExp (pt_cmpR op_gt (pe_dget (hu_of hr) (pv 1) (pv 5) (fun _ _ => rfl)) pe_int (nomark _)) (pe_tup (pa_cons pe_int (pa_cons pe_int pa_nil))) (pe_tup (pa_cons (pe_un un_neg pe_int) (pa_cons pe_int pa_nil)))) rfl)
    (pss_cons (ps_for PassesOwn.never rfl (pi_list (pe_revL (pe_fld (pv 0) rfl))) (pg_tup (n := 3) rfl (pgs_cons (pg_name (i := 6) sc_Echelon_shift.nd rfl (Or.inl rfl)) (pgs_cons (pg_name (i := 7) sc_Echelon_shift.nd rfl (Or.inl rfl)) (pgs_cons (pg_name (i := 8) sc_Echelon_shift.nd rfl (Or.inl rfl)) pgs_nil))))
    (pss_cons (ps_set (i := 9) sc_Echelon_shift.nd rfl (Or.inl rfl) (pe_tup (pa_cons pe_int (pa_cons pe_int pa_nil))))
    (pss_cons (ps_lock (ps_for PassesOwn.never rfl (pi_items (pv 7)) (pg_tup (n := 2) rfl (pgs_cons (pg_name (i := 4) sc_Echelon_shift.nd rfl (Or.inl rfl)) (pgs_cons (pg_name (i := 10) sc_Echelon_shift.nd rfl (Or.inl rfl)) pgs_nil)))
    (pss_one (ps_if (pt_cmpR op_ne (pv 4) (pv 6) (nomark _))
    (pss_one (ps_set (i := 9) sc_Echelon_shift.nd rfl (Or.inl rfl) (pe_call G_plus (hr.mono (by decide)) rfl T.g_plus T.F_plus.kp T.b_plus .nil pass0 (pa_cons (pv 9) (pa_cons (pe_call G_times (hr.mono (by decide)) rfl T.g_times T.F_times.kp T.b_times .nil pass0 (pa_cons (pe_tup (pa_cons (pv 10) (pa_cons pe_int pa_nil))) (pa_cons (pe_dget (hu_of hr) (pv 3) (pv 4) (fun _ _ => rfl)) pa_nil))) pa_nil)))))
    pss_nil))))
    (pss_one (ps_dput (hu_of hr) (pv 3) (pv 6) (pe_call G_times (hr.mono (by decide)) rfl T.g_times T.F_times.kp T.b_times .nil pass0 (pa_cons (pv 9) (pa_cons (pe_tup (pa_cons (pe_un un_neg pe_int) (pa_cons (pe_dget (hu_of hr) (pv 7) (pv 6) (fun _ _ => rfl)) pa_nil))) pa_nil))) rfl)))))
    (pss_one (ps_ret (pe_call G_whole_moves (hr.mono (by decide)) rfl T.g_whole_moves T.F_whole_moves.kp T.b_whole_moves .nil pass0 (pa_cons (pv 3) pa_nil)))))))), ?_⟩
    walk_at "start"
    walk_at "sts"
    have l8 := cl.steps Eh
    have elen := eas.len
    have ynd := cl.nd
    have yl := cl.hx
    have lt := td_len ft kt1
    refine dc_zero hp ynd (by omega) rfl (fun x => rfl) (fun x => rfl) fun dm H1 k1 nm m1 => ?_
    have dt1 := dt.keep0 k1
    walk_at "sts"
    obtain ⟨zs, ze, zx⟩ := names_of kt1
    have zl : zs.length = kt.length := by have := congrArg List.length ze; rw [keys_len, List.length_map] at this; omega
    refine r_listD dt1 fun l0 n0 => ?_
    rw [kV_names ze]
    have k2 : Keep [] H1 (upd H1 l0 (.lst (zs.map V.str))) := Keep.new n0
    have e0 : upd H1 l0 (.lst (zs.map V.str)) l0 = some (.lst (zs.map V.str)) := upd_same
    have dt2 := dt1.keep0 k2
    have m2 := m1.keep0 k2
    have k02 := k1.trans k2
    generalize upd H1 l0 (.lst (zs.map V.str)) = H2 at k2 e0 dt2 m2 k02 ⊢
    walk_at "sts"
    refine Lv.r_minS (sqL_of e0) (fun z => ?_) fun st hst => ?_
    · obtain ⟨x, hx⟩ := tne
      have := ft.iff.mpr (by rw [kt2]; exact hx)
      rw [ze, z] at this
      cases this
    have sk : (Sum.inr st : Key) ∈ keysK kt := by rw [ze]; exact List.mem_map_of_mem hst
    have tst : t st ≠ 0 := by rw [← kt2]; exact ft.iff.mp sk
    have sty : st ∈ ys := zx st hst
    have vst : valV (kd kt) (Sum.inr st) = some (.int (t st)) := by rw [val_kd, if_pos sk, kt2]
    walk_at "st"
    walk_at "st"
    refine r_dput (r_sgnT tst (fun QB hq => ?_) fun sg q0 hs hp0 nq => r_var rfl (r_var rfl ?_))
    · walk_at "sts"
      refine r_dgetS dt2 vst ?_
      walk_at "sts"
      exact hq
    have k3 : Keep [] H2 (upd H2 q0 (.tup [.int sg, .int 1])) := Keep.new nq
    have eq0 : upd H2 q0 (.tup [.int sg, .int 1]) q0 = some (.tup [.int sg, .int 1]) := upd_same
    have m3 := m2.keep0 k3
    have k03 := k02.trans k3
    generalize upd H2 q0 (.tup [.int sg, .int 1]) = H3 at k3 eq0 m3 k03 ⊢
    obtain ⟨kv0, kv1, kv2, kv3, kv4⟩ := m3
    have lkv : kv0.length = ys.length := by have := congrArg List.length kv2; rwa [List.length_map, List.length_map] at this
    refine r_dputS kv1 (lt_size (by omega)) ?_
    have m4 := MvAt.put (m := (sg, 1)) kv1 kv2 kv3 kv4 sty eq0
    have k04 : Keep [] H (upd H3 dm (.dK (putK kv0 (Sum.inr st) (.ref q0)))) := k03.mut nm
    generalize upd H3 dm (.dK (putK kv0 (Sum.inr st) (.ref q0))) = H4 at m4 k04 ⊢
    have g0 : Mv ys ss t st 0 (fun y => if y = st then (sg, 1) else (0, 1)) (fun y => if y = st then sg else 0) 1 := by
      refine ⟨⟨by omega, fun x hx => ?_⟩, by show 1 < 2 ^ (0 + 1); decide, fun x _ => ?_, fun r hr => ?_, ?_, ?_, ?_⟩
      · show Ec.Low (if x = st then (sg, 1) else (0, 1)) (if x = st then sg else 0) 1
        by_cases c : x = st
        · rw [if_pos c, if_pos c]; exact ⟨Int.one_pos, by simp, rfl⟩
        · rw [if_neg c, if_neg c]; exact ⟨by decide, by decide, rfl⟩
      · show (if x = st then sg else 0).natAbs < 2 ^ (0 + 0 + 1)
        split
        · rcases hs with rfl | rfl <;> decide
        · decide
      · rw [Nat.sub_zero, List.drop_length] at hr; cases hr
      · show 0 < Ec.sumX ys fun x => t x * (if x = st then sg else 0)
        rw [Ec.sumX_one ynd sty fun x _ ne => by rw [if_neg ne, Int.mul_zero], if_pos rfl]
        exact hp0
      · show (if st = st then (sg, (1 : Int)) else (0, 1)).1 = 1 ∨ _
        rw [if_pos rfl]; exact hs
      · show (if st = st then (sg, (1 : Int)) else (0, 1)).2 = 1
        rw [if_pos rfl]
    have hsp4 := k04 _ _ (by simp) hsp
    have he4 := k04 _ _ (by simp) he
    clear k1 k2 k3 k02 k03 m1 m2 kv1 kv2 kv3 kv4 eq0 e0 n0 nq dt2 dt1 kv0 lkv
    walk_at "sts"
    refine r_revL (Ow.r_fld (r_var rfl (Ow.r_fldAt he4 oc.cl T.na_Echelon_steps rfl ⟨sp, _, rfl, sqL_of hsp4, fun rv nrv => ?_⟩)))
    rw [← List.map_reverse]
    have k5 : Keep [] H4 (upd H4 rv (.lst (as.reverse.map V.ref))) := Keep.new nrv
    have er : upd H4 rv (.lst (as.reverse.map V.ref)) rv = some (.lst (as.reverse.map V.ref)) := upd_same
    have m5 := m4.keep0 k5
    have k05 := k04.trans k5
    have nrvH : H rv = none := k04.free (by simp) nrv
    have dne : dm ≠ rv := by
      obtain ⟨kv0, h, _⟩ := m4
      rintro rfl; rw [h] at nrv; cases nrv
    generalize upd H4 rv (.lst (as.reverse.map V.ref)) = H5 at er m5 k05 ⊢
    clear k5 nrv m4 k04 hsp4 he4
    refine forL_go (fun j σ' H' => ∃ (M : Str → Int × Int) (L : Str → Int) (Q : Int) (x4 x6 x7 x8 x9 x10 : Option V), σ' = [some (.ref e), some (.ref d), some (.ref p), some (.ref dm), x4, some (.str st), x6, x7, x8, x9, x10] ∧ Keep [] H H' ∧ H' rv = some (.lst (as.reverse.map V.ref)) ∧ MvAt H' dm ys M ∧ Mv ys ss t st j M L Q) (sqL_of er) ⟨_, _, _, _, _, _, _, _, _, rfl, k05, er, m5, g0⟩ (fun j σ' H' _ h => by obtain ⟨_, _, _, _, _, _, _, _, _, _, _, h, _⟩ := h; exact sqL_of h) ?_ ?_
    · rintro j v σ' H6 hj ⟨M, L, Q0, x4, x6, x7, x8, x9, x10, rfl, k6, er6, m6, g6⟩
      obtain ⟨sa, hsa, rfl⟩ := getRef hj
      have jl : j < ss.length := by have := (List.getElem?_eq_some_iff.mp hsa).1; rw [List.length_reverse] at this; omega
      obtain ⟨k, hk⟩ : ∃ k, k + 1 + j = ss.length := ⟨ss.length - 1 - j, by omega⟩
      rw [List.getElem?_reverse (by omega), show as.length - 1 - j = k by omega] at hsa
      obtain ⟨s0, hs0, dt0, dw0, es, ⟨ko, dO, fo, ko1, ko2⟩, _⟩ := eas.get hsa
      have es6 := k6 _ _ (by simp) es
      have dO6 : DictAt H6 dt0 ko := dO.keep0 k6
      obtain ⟨stp, Ej⟩ := Eh.at hs0
      have lk : (ss.take k).length = k := by rw [List.length_take]; omega
      obtain ⟨_, otb⟩ := stp.small Ej cl.hN (by omega) cl.hB
      rw [lk] at otb
      have lo := td_len fo ko1
      have hoh : (Sum.inr s0.h : Key) ∈ keysK ko := fo.iff.mpr (by rw [ko2]; have := stp.hp; omega)
      have vo : valV (kd ko) (Sum.inr s0.h) = some (.int (s0.t s0.h)) := by rw [val_kd, if_pos hoh, ko2]
      have q0 := g6.sh.q
      have b3744 : bS ss.length j ≤ 3744 := bS_le _ (by omega) _ (by omega)
      have qb : Q0.natAbs < 2 ^ 3800 := Nat.lt_of_lt_of_le g6.qb (Nat.pow_le_pow_right (by omega) (by omega))
      have lb : ∀ x ∈ ys, (L x).natAbs < 2 ^ 3800 := fun x hx => Nat.lt_of_lt_of_le (g6.lb x hx) (Nat.pow_le_pow_right (by omega) (by omega))
      have ot : ∀ x, (s0.t x).natAbs < 2 ^ 936 := fun x => pow104 (otb x) (by omega) (by omega)
      refine r_gTup3 (sqT_of es6) ?_
      simp only [List.set_cons_zero, List.set_cons_succ]
      walk_at "sts"
      intro tq ntq
      have k7 : Keep [] H6 (upd H6 tq (.tup [.int 0, .int 1])) := Keep.new ntq
      have eq7 : upd H6 tq (.tup [.int 0, .int 1]) tq = some (.tup [.int 0, .int 1]) := upd_same
      have m7 := m6.keep0 k7
      have dO7 := dO6.keep0 k7
      have er7 := k7 _ _ (by simp) er6
      have k67 := k6.trans k7
      generalize upd H6 tq (.tup [.int 0, .int 1]) = H7 at k7 eq7 m7 dO7 er7 k67 ⊢
      clear k7 ntq dO6 m6 er6 es6
      walk_at "sts"
      obtain ⟨kv0, kv1, kv2, kv3, kv4⟩ := m7
      have lkv : kv0.length = ys.length := by have := congrArg List.length kv2; rwa [List.length_map, List.length_map] at this
      have dne2 : dm ≠ dt0 := by rintro rfl; unfold DictAt at dO; rw [nm] at dO; cases dO
      have gb : ∀ p ∈ ko, (gK s0.h L p.1 * p.2).natAbs ≤ 2 ^ 4736 := fun p hp => by
        obtain ⟨y, hy, e⟩ := ko1 p.1 (List.mem_map_of_mem hp)
        have e2 := gt_at fo.nd hp
        rw [e, ko2] at e2
        have h1 : (gK s0.h L p.1).natAbs < 2 ^ 3800 := by
          rw [e]
          show (if y = s0.h then 0 else L y).natAbs < _
          split
          · exact Nat.pow_pos (by omega)
          · exact lb y hy
        have h2 : p.2.natAbs < 2 ^ 936 := by rw [← e2]; exact ot y
        exact Nat.le_of_lt (wide_lt h1 h2)
      refine forI_go dO7 (fun od Q' h => r_var rfl h) (fun od i σ' H' => ∃ (tq : Addr) (v : Int × Int) (x4 x10 : Option V), σ' = [some (.ref e), some (.ref d), some (.ref p), some (.ref dm), x4, some (.str st), some (.str s0.h), some (.ref dt0), some (.ref dw0), some (.ref tq), x10] ∧ Keep [] (upd H7 dt0 (.frz od (.dK (kd ko)))) H' ∧ H' tq = some (.tup [.int v.1, .int v.2]) ∧ Ec.Low v (sK (gK s0.h L) (ko.take i)) Q0) (fun od => ⟨tq, (0, 1), _, _, rfl, Keep.refl _ _, ?_, ⟨Int.one_pos, by decide, by show 0 * Q0 = 0 * 1; omega⟩⟩) (fun od i σ' H' h => by obtain ⟨_, _, _, _, _, h, _⟩ := h; exact h _ _ (by simp) upd_same) ?_ ?_
      · rw [upd_ne (by rintro rfl; unfold DictAt at dO7; rw [eq7] at dO7; cases dO7)]; exact eq7
      · rintro od i ky v T σ' H8 hn hT ⟨tv, v, y4, y10, rfl, k8, etv, lo8⟩
        obtain ⟨n, hn2, rfl⟩ := kd_at hn
        have hm := List.mem_of_getElem? hn2
        obtain ⟨y, hy, rfl⟩ := ko1 ky (List.mem_map_of_mem hm)
        have en : gt ko (Sum.inr y) = n := gt_at fo.nd hm
        rw [ko2] at en
        have nb : n.natAbs < 2 ^ 936 := by rw [← en]; exact ot y
        have st8 : ko.take (i + 1) = ko.take i ++ [(Sum.inr y, n)] := take_snoc hn2
        have kT : Keep [] H8 (upd H8 T (.tup [kV (Sum.inr y), .int n])) := Keep.new hT
        refine r_gTup2 (sqT_of upd_same) ?_
        simp only [List.set_cons_zero, List.set_cons_succ]
        have etv9 := kT _ _ (by simp) etv
        have k89 := k8.trans kT
        generalize upd H8 T (.tup [kV (Sum.inr y), .int n]) = H9 at etv9 k89 ⊢
        clear kT k8 etv
        rw [show kV (Sum.inr y) = V.str y from rfl]
        have pre : Keep [dt0] H7 H9 := fun b o nb hb => k89 b o (by simp) (by rw [upd_ne (by simpa using nb)]; exact hb)
        have kv9 : H9 dm = some (.dK kv0) := pre _ _ (by simpa using dne2) kv1
        walk_at "sts"
        refine r_iteN (fun c => ?_) (fun c => ?_)
        · walk_at "sts"
          intro t1 nt1
          obtain ⟨a1, va1, ea1⟩ := kv4 y hy
          have na1 : a1 ≠ dt0 := by rintro rfl; unfold DictAt at dO7; rw [dO7] at ea1; cases ea1
          have ea9 := pre _ _ (by simpa using na1) ea1
          have kt1 : Keep [] H9 (upd H9 t1 (.tup [.int n, .int 1])) := Keep.new nt1
          have et1 : upd H9 t1 (.tup [.int n, .int 1]) t1 = some (.tup [.int n, .int 1]) := upd_same
          have kv10 := kt1 _ _ (by simp) kv9
          have ea10 := kt1 _ _ (by simp) ea9
          have etv10 := kt1 _ _ (by simp) etv9
          have k810 := k89.trans kt1
          generalize upd H9 t1 (.tup [.int n, .int 1]) = H10 at et1 kv10 ea10 etv10 k810 ⊢
          walk_at "sts"
          refine r_dgetS kv10 va1 ?_
          walk_at "sts"
          have lm := g6.sh.a y hy
          have mb := lm.bot q0
          refine r_twoX et1 ea10 (by omega) lm.1 (pow_mono 936 9000 nb) (by decide) (Nat.lt_of_le_of_lt (lm.top q0) (pow_mono 3800 9000 (lb y hy))) (Nat.lt_of_le_of_lt mb (pow_mono 3800 3900 qb)) fun r1 v1 H11 k11 nr1 lv1 er1 => ?_
          have l1 : Ec.Low v1 (L y * n) Q0 := by
            refine lv1.re (show (1 : Int) * (M y).2 ≠ 0 by have := lm.1; omega) ?_
            show n * (M y).1 * Q0 = L y * n * (1 * (M y).2)
            rw [Int.mul_assoc, lm.2.2, Int.one_mul, Int.mul_comm (L y) n, Int.mul_assoc]
          have etv11 := k11 _ _ (by simp) etv10
          walk_at "sts"
          have sb : (sK (gK s0.h L) (ko.take i)).natAbs < 2 ^ 9000 := by
            have h1 := sK_bound (g := gK s0.h L) (B := 2 ^ 4736) (ks := ko.take i) fun p hp => gb p (List.mem_of_mem_take hp)
            have h2 : (ko.take i).length * 2 ^ 4736 ≤ 2 ^ 4 * 2 ^ 4736 := Nat.mul_le_mul_right _ (by rw [List.length_take]; omega)
            rw [← Nat.pow_add] at h2
            exact Nat.lt_of_le_of_lt (Nat.le_trans h1 h2) (Nat.pow_lt_pow_right (by omega) (by omega))
          have sb1 : (L y * n).natAbs < 2 ^ 9000 := pow_mono _ 9000 (wide_lt (lb y hy) nb)
          refine r_twoX etv11 er1 lo8.1 l1.1 (Nat.lt_of_le_of_lt (lo8.top q0) sb) (Nat.lt_of_le_of_lt (lo8.bot q0) (pow_mono 3800 3900 qb)) (Nat.lt_of_le_of_lt (l1.top q0) sb1) (Nat.lt_of_le_of_lt (l1.bot q0) (pow_mono 3800 3900 qb)) fun r2 v2 H12 k12 nr2 lv2 er2 => ?_
          have l2 : Ec.Low v2 (sK (gK s0.h L) (ko.take (i + 1))) Q0 := by
            refine lv2.re (show v.2 * v1.2 ≠ 0 from Int.mul_ne_zero (by have := lo8.1; omega) (by have := l1.1; omega)) ?_
            rw [st8, sK_snoc]
            show (v.1 * v1.2 + v1.1 * v.2) * Q0 = (_ + (if y = s0.h then 0 else L y) * n) * (v.2 * v1.2)
            rw [if_neg c, Int.add_mul, Int.add_mul]
            have h1 := lo8.2.2
            have h2 := l1.2.2
            congr 1
            · calc v.1 * v1.2 * Q0 = v.1 * Q0 * v1.2 := by rw [Int.mul_right_comm]
                _ = _ := by rw [h1, Int.mul_assoc]
            · calc v1.1 * v.2 * Q0 = v1.1 * Q0 * v.2 := by rw [Int.mul_right_comm]
                _ = _ := by rw [h2, Int.mul_assoc, Int.mul_comm v1.2]
          walk_at "sts"
          exact ⟨r2, v2, _, _, rfl, (k810.trans k11).trans k12, er2, l2⟩
        · walk_at "sts"
          refine ⟨tv, v, _, _, rfl, k89, etv9, ?_⟩
          rw [st8, sK_snoc]
          show Ec.Low v (_ + (if y = s0.h then 0 else L y) * n) Q0
          rw [if_pos c, Int.zero_mul, Int.add_zero]
          exact lo8
      · rintro od σ' H8 ⟨tv, v, y4, y10, rfl, k8, etv, lo8⟩
        rw [kd_len, List.take_length] at lo8
        have er : sK (gK s0.h L) ko = Ec.rest ys s0.h s0.t L := by
          rw [sK_sum ynd fo.nd ko1]
          refine Ec.sumX_congr fun x _ => ?_
          show (if x = s0.h then 0 else L x) * gt ko (Sum.inr x) = if x = s0.h then 0 else s0.t x * L x
          rw [ko2]
          by_cases c : x = s0.h
          · rw [if_pos c, if_pos c, Int.zero_mul]
          · rw [if_neg c, if_neg c, Int.mul_comm]
        rw [er] at lo8
        have kU : Keep [] H7 (upd H8 dt0 (.dK (kd ko))) := Keep.unlock dO7 k8
        have ntv : tv ≠ dt0 := by
          rintro rfl
          have := k8 tv _ (by simp) upd_same
          rw [etv] at this; cases this
        have etv8 : upd H8 dt0 (.dK (kd ko)) tv = some (.tup [.int v.1, .int v.2]) := by rw [upd_ne ntv]; exact etv
        generalize upd H8 dt0 (.dK (kd ko)) = H9 at kU etv8 ⊢
        have dO9 : DictAt H9 dt0 ko := kU _ _ (by simp) dO7
        have kv9 := kU _ _ (by simp) kv1
        have er9 := kU _ _ (by simp) er7
        have k69 := k67.trans kU
        have kv49 : ∀ y ∈ ys, ∃ a, valV kv0 (Sum.inr y) = some (.ref a) ∧ H9 a = some (.tup [.int (M y).1, .int (M y).2]) := fun y hy => by
          obtain ⟨a, h1, h2⟩ := kv4 y hy
          exact ⟨a, h1, kU _ _ (by simp) h2⟩
        walk_at "sts"
        refine r_dgetS dO9 vo ?_
        walk_at "sts"
        intro t2 nt2
        have k2 : Keep [] H9 (upd H9 t2 (.tup [.int (-1), .int (s0.t s0.h)])) := Keep.new nt2
        have et2 : upd H9 t2 (.tup [.int (-1), .int (s0.t s0.h)]) t2 = some (.tup [.int (-1), .int (s0.t s0.h)]) := upd_same
        have etv9 := k2 _ _ (by simp) etv8
        generalize upd H9 t2 (.tup [.int (-1), .int (s0.t s0.h)]) = H10 at k2 et2 etv9 ⊢
        walk_at "sts"
        have rb : (Ec.rest ys s0.h s0.t L).natAbs < 2 ^ 9000 := by
          have h1 := sK_bound (g := gK s0.h L) (B := 2 ^ 4736) (ks := ko) gb
          rw [er] at h1
          have h2 : ko.length * 2 ^ 4736 ≤ 2 ^ 4 * 2 ^ 4736 := Nat.mul_le_mul_right _ (by omega)
          rw [← Nat.pow_add] at h2
          exact Nat.lt_of_le_of_lt (Nat.le_trans h1 h2) (Nat.pow_lt_pow_right (by omega) (by omega))
        refine r_twoX etv9 et2 lo8.1 stp.hp (Nat.lt_of_le_of_lt (lo8.top q0) rb) (Nat.lt_of_le_of_lt (lo8.bot q0) (pow_mono 3800 3900 qb)) (Nat.lt_of_lt_of_le (by decide : (1 : Nat) < 2 ^ 1) (Nat.pow_le_pow_right (by omega) (by omega))) (pow_mono 936 3900 (ot _)) fun mq m' H11 k11 nmq lm emq => ?_
        have kv11 := (k2.trans k11) _ _ (by simp) kv9
        have er11 := (k2.trans k11) _ _ (by simp) er9
        have k611 := (k69.trans k2).trans k11
        walk_at "sts"
        refine r_dputS kv11 (lt_size (by omega)) ?_
        have m12 := MvAt.put (m := m') kv11 kv2 kv3 (fun y hy => by obtain ⟨a, h1, h2⟩ := kv49 y hy; exact ⟨a, h1, (k2.trans k11) _ _ (by simp) h2⟩) stp.hx emq
        have hm : Ec.Low m' (-v.1) (v.2 * s0.t s0.h) := by
          have : (-v.1) = v.1 * -1 := by omega
          rw [this]; exact lm
        exact ⟨_, _, _, _, _, _, _, _, _, rfl, k611.mut nm, by rw [upd_ne (Ne.symm dne)]; exact er11, m12, g6.step cl Eh hk hs0 tz tst otb lo8 hm⟩
    · rintro σ' H6 ⟨M, L, Q0, x4, x6, x7, x8, x9, x10, rfl, k6, er6, m6, g6⟩
      rw [List.length_map, List.length_reverse, elen] at g6
      walk_at "sts"
      have b3744 : bS ss.length ss.length ≤ 3744 := bS_le _ (by omega) _ (by omega)
      have qb : Q0.natAbs < 2 ^ 3900 := Nat.lt_of_lt_of_le g6.qb (Nat.pow_le_pow_right (by omega) (by omega))
      refine ⟨dm, ys, M, Q0, rfl, m6, by omega, g6.sh.q, qb, fun y hy => ?_, fun r W H7 k7 n7 rs wh => ?_⟩
      · have lo := g6.sh.a y hy
        exact ⟨lo.1, lo.dvd, Nat.lt_of_le_of_lt (lo.top g6.sh.q) (Nat.lt_of_lt_of_le (g6.lb y hy) (Nat.pow_le_pow_right (by omega) (by omega)))⟩
      · refine q r _ H7 (k6.trans k7) (k6.free (by simp) n7) rs (fun s hs => wh.zero g6.sh (g6.done s ?_)) (wh.plus g6.sh g6.up) (fun h hh => wh.prim g6.sh sty g6.s1 g6.s2 hh) fun y hy => Nat.lt_of_le_of_lt (wh_small g6.sh wh hy) (Nat.lt_of_lt_of_le (g6.lb y hy) (Nat.pow_le_pow_right (by omega) (by omega)))
        rw [Nat.sub_self, List.drop_zero]; exact hs
end
/-! ### the names of lines -/
open Fm in
theorem asc_unique {ys zs : List Str} (h : ys.Pairwise Fm.Lt) (h' : zs.Pairwise Fm.Lt) (m : ∀ x, x ∈ ys ↔ x ∈ zs) : ys = zs := by
  have nd : ys.Nodup := h.imp fun {a b} l (e : a = b) => by subst e; exact l.irr
  have nd' : zs.Nodup := h'.imp fun {a b} l (e : a = b) => by subst e; exact l.irr
  have f : ∀ l : List Str, (Fm.rowOf l fun _ => 1).map (·.1) = l := fun l => by
    unfold Fm.rowOf
    rw [List.filter_eq_self.mpr (fun p hp => by obtain ⟨x, _, rfl⟩ := List.mem_map.mp hp; exact decide_eq_true (by show (1 : Int) ≠ 0; omega)), List.map_map]
    exact List.map_id' l
  rw [← f ys, ← f zs, Fm.canon_eq (Fm.canon_rowOf h) (Fm.canon_rowOf h') fun x => by
    rw [Fm.wt_rowOf nd, Fm.wt_rowOf nd']
    by_cases c : x ∈ ys
    · rw [if_pos c, if_pos ((m x).mp c)]
    · rw [if_neg c, if_neg (fun h => c ((m x).mpr h))]]
def namesL (ls : List (List Fm.Tm)) : List Str := ls.flatMap fun ts => ts.map (·.1)
def onesT (ns : List Str) : List Fm.Tm := ns.map fun x => (x, 1)
theorem wt_ones {x : Str} : ∀ {ns : List Str}, 0 ≤ Fm.wt (onesT ns) x ∧ (x ∈ ns ↔ Fm.wt (onesT ns) x ≠ 0)
  | [] => by simp [onesT, Fm.wt]
  | n :: ns => by
    obtain ⟨h1, h2⟩ := wt_ones (x := x) (ns := ns)
    have e : Fm.wt (onesT (n :: ns)) x = (if n = x then 1 else 0) + Fm.wt (onesT ns) x := by
      unfold onesT Fm.wt
      rw [List.map_cons, List.filter_cons]
      by_cases c : n = x
      · rw [if_pos (by simpa using c), List.map_cons, List.sum_cons, if_pos c]
      · rw [if_neg (by simpa using c), if_neg c]; omega
    rw [e, List.mem_cons]
    by_cases c : n = x
    · rw [if_pos c]
      exact ⟨by omega, ⟨fun _ => by omega, fun _ => .inl c.symm⟩⟩
    · rw [if_neg c]
      refine ⟨by omega, ⟨fun h => ?_, fun h => .inr (h2.mpr (by omega))⟩⟩
      rcases h with h | h
      · exact absurd h.symm c
      · have := h2.mp h; omega
def nmL (ls : List (List Fm.Tm)) : List Str := (Fm.can (onesT (namesL ls))).map (·.1)
theorem nmL_asc {ls : List (List Fm.Tm)} : (nmL ls).Pairwise Fm.Lt := (Fm.can_canon _).asc
theorem nmL_nodup {ls : List (List Fm.Tm)} : (nmL ls).Nodup := (Fm.can_canon _).nodup
theorem mem_nmL {ls : List (List Fm.Tm)} {x : Str} : x ∈ nmL ls ↔ x ∈ namesL ls := by
  rw [(wt_ones (x := x) (ns := namesL ls)).2, ← Fm.can_wt]
  constructor
  · intro h
    obtain ⟨p, hp, rfl⟩ := List.mem_map.mp h
    rw [(Fm.can_canon _).wt_mem hp]
    exact (Fm.can_canon _).nz p hp
  · intro h
    obtain ⟨p, hp, e⟩ := Fm.mem_of_wt h
    exact List.mem_map.mpr ⟨p, hp, e⟩
theorem mem_namesL {ls : List (List Fm.Tm)} {x : Str} : x ∈ namesL ls ↔ ∃ ts ∈ ls, ∃ p ∈ ts, p.1 = x := by
  unfold namesL
  rw [List.mem_flatMap]
  constructor
  · rintro ⟨ts, h, m⟩
    obtain ⟨p, hp, e⟩ := List.mem_map.mp m
    exact ⟨ts, h, p, hp, e⟩
  · rintro ⟨ts, h, p, hp, e⟩
    exact ⟨ts, h, List.mem_map.mpr ⟨p, hp, e⟩⟩
theorem namesL_snoc {ls : List (List Fm.Tm)} {ts : List Fm.Tm} : namesL (ls ++ [ts]) = namesL ls ++ ts.map (·.1) := by simp [namesL]
def FormsAt (C : Addr) (H : Hp) (as : List Addr) (ls : List (List Fm.Tm)) : Prop := Each (fun a ts => ∃ c, FormAt C H a ts c) as ls
theorem FormsAt.keep0 {C : Addr} {H H' : Hp} {as : List Addr} {ls : List (List Fm.Tm)} (h : FormsAt C H as ls) (k : Keep [] H H') : FormsAt C H' as ls := h.mono fun a ts ⟨c, h⟩ => ⟨c, h.keep0 k⟩
theorem keys_put3 {kvs : List (Key × V)} {ks : List Str} {z : Str} {v : V} (h : kvs.map (·.1) = ks.map Sum.inr) : (putK kvs (Sum.inr z) v).map (·.1) = (if z ∈ ks then ks else ks ++ [z]).map Sum.inr := by
  by_cases hz : z ∈ ks
  · rw [if_pos hz]; exact keys_put2 h hz
  · have f : (Sum.inr z : Key) ∉ kvs.map (·.1) := by
      rw [h]
      intro hc
      obtain ⟨u, hu, e⟩ := List.mem_map.mp hc
      exact hz (by rw [← Sum.inr.inj e]; exact hu)
    rw [if_neg hz, putK_fresh f, List.map_append, h, List.map_append]; rfl
theorem keys_str {kvs : List (Key × V)} {ns : List Str} (h : kvs.map (·.1) = ns.map Sum.inr) : (kvs.map fun kv => kV kv.1) = ns.map V.str := by
  have : (kvs.map fun kv => kV kv.1) = (kvs.map (·.1)).map kV := by rw [List.map_map]; rfl
  rw [this, h, List.map_map]; rfl
def spAllNames (C : Addr) : Sp := fun vs H Q _ => ∃ (p : Addr) (as : List Addr) (ls : List (List Fm.Tm)) (xs : List Str), vs = [.ref p] ∧ H p = some (.lst (as.map V.ref)) ∧ FormsAt C H as ls ∧ (∀ x ∈ namesL ls, x ∈ xs) ∧ xs.length ≤ 20 ∧ ∀ (q : Addr) (H' : Hp), Keep [] H H' → H q = none → H' q = some (.tup ((nmL ls).map V.str)) → Q (.ref q) H'
section
variable {P : Program} {w : World} {K : PySem.W.Frag} {mg : Str → Option Value} {base : Heap}
theorem ok_allNames (T : Tx K mg) : FnOk P w K mg base CX0 1 T.f_all_names T.fd_all_names ["forms"] (spAllNames T.C_Form) := by
  refine T.F_all_names.ok sc_all_names (fun vs H Q E h => ?_) (fun cdv A outer s H vs Q E hr h => ?_)
  · obtain ⟨p, as, ls, xs, rfl, _⟩ := h; rfl
  · obtain ⟨p, as, ls, xs, rfl, ep, pr, nx, l4, qq⟩ := h
    have has := pr.len
    have oc := T.oc_Form
    have na := T.na_Form_terms
    refine ⟨_, (pss_cons (ps_set (i := 1) sc_all_names.nd rfl (Or.inl rfl) pe_dnewK)
    (pss_cons (ps_for PassesOwn.never rfl (pi_list (pv 0)) (pg_name (i := 2) sc_all_names.nd rfl (Or.inl rfl))
    (pss_one (ps_for PassesOwn.never rfl (pi_tup (pe_fld (pv 2) rfl)) (pg_tup (n := 2) rfl (pgs_cons (pg_name (i := 3) sc_all_names.nd rfl (Or.inl rfl)) (pgs_cons (pg_name (i := 4) sc_all_names.nd rfl (Or.inl rfl)) pgs_nil)))
    (pss_one (ps_dput (hu_of hr) (pv 1) (pv 3) pe_bl rfl)))))
    (pss_one (ps_ret (pe_callTy call_tuple_of (by rfl) T.m_tuple (by decide +kernel) (pa_cons (pe_callB cr_sortedS (by rfl) T.m_sorted (by decide +kernel) (pa_cons (pe_callTy (call_list_dK rfl) (by rfl) T.m_list (by decide +kernel) (pa_cons (pv 1) pa_nil)) pa_nil)) pa_nil)))))), ?_⟩
    walk_at "start"
    walk_at "sts"
    intro m hm0
    have k1 : Keep [] H (upd H m (.dK [])) := Keep.new hm0
    have e1 : upd H m (.dK []) m = some (.dK []) := upd_same
    generalize upd H m (.dK []) = H1 at k1 e1 ⊢
    walk_at "sts"
    refine forL_go (fun i σ' H' => ∃ (kvs : List (Key × V)) (ns : List Str) (x1 x2 x3 : Option V), σ' = [some (.ref p), some (.ref m), x1, x2, x3] ∧ H' m = some (.dK kvs) ∧ kvs.map (·.1) = ns.map Sum.inr ∧ Keep [] H H' ∧ ns.Nodup ∧ (∀ z, z ∈ ns ↔ z ∈ namesL (ls.take i))) (sqL_of (k1 _ _ (by simp) ep)) ⟨[], [], _, _, _, by first | exact rfl | trivial, e1, rfl, k1, by simp, by simp [namesL]⟩ (fun i σ' H' _ h => by obtain ⟨_, _, _, _, _, _, _, _, k, _⟩ := h; exact sqL_of (k _ _ (by simp) ep)) ?_ ?_
    · rintro i v σ' H2 hv ⟨kvs, ns, x1, x2, x3, rfl, e2, hk, k2, nd, hm⟩
      obtain ⟨a, ha, rfl⟩ := getRef hv
      obtain ⟨r, hr, c0, dx, t, ea, cs, o, et, od, pt⟩ := pr.get ha
      have ea2 := k2 _ _ (by simp) ea
      have et2 := k2 _ _ (by simp) et
      have hcl := pt.len
      have rin : ∀ z ∈ r, z.1 ∈ xs := fun z hz => nx _ (mem_namesL.mpr ⟨r, List.mem_of_getElem? hr, z, hz, rfl⟩)
      walk_at "sts"
      refine forT_go (fun j σ' H' => ∃ (kvs : List (Key × V)) (ns : List Str) (x2 x3 : Option V), σ' = [some (.ref p), some (.ref m), some (.ref a), x2, x3] ∧ H' m = some (.dK kvs) ∧ kvs.map (·.1) = ns.map Sum.inr ∧ Keep [] H H' ∧ ns.Nodup ∧ (∀ z, z ∈ ns ↔ z ∈ namesL (ls.take i) ∨ z ∈ (r.take j).map (·.1))) (TupX.sq et2) ⟨kvs, ns, _, _, by first | exact rfl | trivial, e2, hk, k2, nd, fun z => by rw [hm]; simp⟩ (fun j σ' H' _ h => by obtain ⟨_, _, _, _, _, _, _, k, _⟩ := h; exact TupX.sq (k _ _ (by simp) et)) ?_ ?_
      · rintro j v σ' H3 hv ⟨kvs3, ns3, y2, y3, rfl, e3, hk3, k3, nd3, hm3⟩
        obtain ⟨b, hb, rfl⟩ := getRef hv
        obtain ⟨z, hz, ez⟩ := pt.get hb
        have ez3 := k3 _ _ (by simp) ez
        have sub : ∀ x ∈ ns3, x ∈ xs := fun x hx => by
          rcases (hm3 x).mp hx with h | h
          · obtain ⟨ts, h1, h2⟩ := mem_namesL.mp h
            exact nx _ (mem_namesL.mpr ⟨ts, List.mem_of_mem_take h1, h2⟩)
          · obtain ⟨t', ht', rfl⟩ := List.mem_map.mp h
            exact rin t' (List.mem_of_mem_take ht')
        have ln := Fm.nodup_len nd3 sub
        have lk : kvs3.length = ns3.length := by have := congrArg List.length hk3; simpa using this
        walk_at "sts"
        refine r_dputS e3 (lt_size (by omega)) ?_
        refine ⟨_, if z.1 ∈ ns3 then ns3 else ns3 ++ [z.1], _, _, by first | exact rfl | trivial, upd_same, keys_put3 hk3, k3.mut hm0, ?_, fun x => ?_⟩
        · split
          · exact nd3
          · rename_i c1
            exact List.nodup_append.mpr ⟨nd3, by simp, fun x hx y hy e => c1 (by rw [← List.mem_singleton.mp hy, ← e]; exact hx)⟩
        · rw [take_snoc hz, List.map_append, List.mem_append, ← or_assoc, ← hm3]
          split
          · rename_i c1
            constructor
            · exact .inl
            · rintro (h | h)
              · exact h
              · have : x = z.1 := by simpa using h
                rw [this]; exact c1
          · rw [List.mem_append]; simp
      · rintro σ' H3 ⟨kvs3, ns3, y2, y3, rfl, e3, hk3, k3, nd3, hm3⟩
        have hct : (cs.map V.ref).length = r.length := by rw [List.length_map, hcl]
        rw [hct, List.take_length] at hm3
        walk_at "sts"
        refine ⟨kvs3, ns3, _, _, _, by first | exact rfl | trivial, e3, hk3, k3, nd3, fun x => ?_⟩
        rw [hm3, take_snoc hr, namesL_snoc, List.mem_append]
    · rintro σ' H2 ⟨kvs, ns, x1, x2, x3, rfl, e2, hk, k2, nd, hm⟩
      rw [List.length_map, has, List.take_length] at hm
      have ln := Fm.nodup_len nd fun x hx => nx x ((hm x).mp hx)
      walk_at "sts"
      refine r_listD e2 fun l hl2 => ?_
      rw [keys_str hk]
      have k3 : Keep [] H2 (upd H2 l (.lst (ns.map V.str))) := Keep.new hl2
      have e3 : upd H2 l (.lst (ns.map V.str)) l = some (.lst (ns.map V.str)) := upd_same
      generalize upd H2 l (.lst (ns.map V.str)) = H3 at k3 e3 ⊢
      walk_at "sts"
      refine r_sortS (sqL_of e3) (by omega) fun ys q pm st hq => ?_
      have k4 : Keep [] H3 (upd H3 q (.lst (ys.map V.str))) := Keep.new hq
      have e4 : upd H3 q (.lst (ys.map V.str)) q = some (.lst (ys.map V.str)) := upd_same
      generalize upd H3 q (.lst (ys.map V.str)) = H4 at k4 e4 ⊢
      have nd' : ys.Nodup := pm.nodup_iff.mpr nd
      have ye : ys = nmL ls := asc_unique (Fm.asc_of_sorted st nd') nmL_asc fun x => ((pm.mem_iff).trans (hm x)).trans mem_nmL.symm
      subst ye
      walk_at "sts"
      have k14 := k2.trans (k3.trans k4)
      exact ⟨q, _, rfl, .inl ⟨sqL_of e4, fun l5 h5 => qq l5 _ (k14.trans (Keep.new h5)) (k14.free (by simp) h5) upd_same⟩⟩
end
/-! ### an echelon of lines -/
def kdT (ts : List Fm.Tm) : Kd := ts.map fun p => (Sum.inr p.1, p.2)
theorem kdT_keys {ts : List Fm.Tm} : keysK (kdT ts) = (ts.map (·.1)).map Sum.inr := by unfold keysK kdT; rw [List.map_map, List.map_map]; rfl
theorem kdT_fine {ts : List Fm.Tm} (c : Fm.Canon ts) : Fine (kdT ts) := ⟨by rw [kdT_keys]; exact inr_nodup c.nodup, fun p hp => by
  obtain ⟨q, hq, rfl⟩ := List.mem_map.mp hp
  exact c.nz q hq⟩
theorem kdT_gt {ts : List Fm.Tm} (c : Fm.Canon ts) {x : Str} : gt (kdT ts) (Sum.inr x) = Fm.wt ts x := by
  by_cases h : (Sum.inr x : Key) ∈ keysK (kdT ts)
  · obtain ⟨p, hp, e⟩ := List.mem_map.mp h
    obtain ⟨q, hq, rfl⟩ := List.mem_map.mp hp
    have e2 : q.1 = x := Sum.inr.inj e
    subst e2
    rw [gt_at (kdT_fine c).nd hp, c.wt_mem hq]
  · rw [gt_off h]
    refine (Fm.wt_none fun p hp e => h ?_).symm
    rw [kdT_keys]
    exact List.mem_map.mpr ⟨x, List.mem_map.mpr ⟨p, hp, e⟩, rfl⟩
theorem merge_fresh : ∀ {more kvs : List (Key × V)}, ((kvs ++ more).map (·.1)).Nodup → mergeK kvs more = kvs ++ more
  | [], kvs, _ => by simp [mergeK]
  | p :: more, kvs, n => by
    have f : p.1 ∉ kvs.map (·.1) := by
      rw [List.map_append] at n
      exact fun h => (List.nodup_append.mp n).2.2 _ h _ (by simp) rfl
    have e : mergeK kvs (p :: more) = mergeK (putK kvs p.1 p.2) more := rfl
    rw [e, putK_fresh f, merge_fresh (by rw [List.append_assoc]; exact n), List.append_assoc]; rfl
theorem paired_pairs {K : PySem.W.Frag} {H : Hp} : ∀ {as : List Addr} {ts : List Fm.Tm}, PairsAt H as ts → Paired (fun p kv => SqT K H p [kV kv.1, kv.2]) as (kd (kdT ts))
  | [], [], _ => .nil
  | a :: as, p :: ts, h => .cons (sqT_of h.1) (paired_pairs h.2)
  | [], _ :: _, h => h.elim
  | _ :: _, [], h => h.elim
def spEchOf (CF C : Addr) : Sp := fun vs H Q _ => ∃ (p : Addr) (as : List Addr) (ls : List (List Fm.Tm)) (N : Nat) (l : Nat → Str → Int) (xs : List Str), vs = [.ref p] ∧ H p = some (.lst (as.map V.ref)) ∧ FormsAt CF H as ls ∧ Cl N l xs ∧ ls.length ≤ N ∧ (∀ (k : Nat) (ts : List Fm.Tm), ls[k]? = some ts → Fm.Canon ts ∧ l k = Fm.wt ts) ∧
  ∀ (e : Addr) (ss : List (Ec.Step Str)) (H' : Hp), Keep [] H H' → H e = none → EchAt N xs C H' e ss → Told N l xs ss ls.length → Q (.ref e) H'
section
variable {P : Program} {w : World} {K : PySem.W.Frag} {mg : Str → Option Value} {base : Heap}
theorem ok_echOf (T : Tx K mg) (G_Echelon___init : FnOk P w K mg base CX0 1 T.f_Echelon___init T.fd_Echelon___init ["self"] (spEInit T.C_Echelon)) (G_Echelon_take : FnOk P w K mg base CX0 4 T.f_Echelon_take T.fd_Echelon_take ["self", "terms", "index"] (spTakeE T.C_Echelon)) :
    FnOk P w K mg base CX0 5 T.f_echelon_of T.fd_echelon_of ["lines"] (spEchOf T.C_Form T.C_Echelon) := by
  refine T.F_echelon_of.ok sc_echelon_of (fun vs H Q E h => ?_) (fun cdv A outer s H vs Q E hr h => ?_)
  · obtain ⟨p, as, ls, N, l, xs, rfl, _⟩ := h; rfl
  · obtain ⟨p, as, ls, N, l, xs, rfl, hp, fs, cl, lN, hl, q⟩ := h
    have flen := fs.len
    refine ⟨_, (pss_cons (ps_set (i := 1) sc_echelon_of.nd rfl (Or.inl rfl) (pe_make0 T.mk_Echelon G_Echelon___init (hr.mono (by decide)) rfl T.gC_Echelon T.b_Echelon___init .nil pass0))
    (pss_cons (ps_for PassesOwn.never rfl (pi_enum (by rfl) T.m_enumerate (pa_cons (pv 0) pa_nil)) (pg_tup (n := 2) rfl (pgs_cons (pg_name (i := 2) sc_echelon_of.nd rfl (Or.inl rfl)) (pgs_cons (pg_name (i := 3) sc_echelon_of.nd rfl (Or.inl rfl)) pgs_nil)))
    (pss_one (ps_expr (pe_meth (pv 1) T.oc_Echelon.cl T.me_Echelon_take G_Echelon_take (hr.mono (by decide)) T.b_Echelon_take .nil pass0 (pa_cons (pe_callTy (Lv.call_dictPT rfl) (by rfl) T.m_dict (by decide +kernel) (pa_cons (pe_fld (pv 3) rfl) pa_nil)) (pa_cons (pv 2) pa_nil))))))
    (pss_one (ps_ret (pv 1))))), ?_⟩
    walk_at "start"
    walk_at "sts"
    intro e dx ne nd0 dne
    have k0 : Keep [] H (upd (upd H dx (.own e)) e (.ins T.C_Echelon dx [])) := (Keep.new nd0).mut ne
    have nex : ∀ b o, H b = some o → b ≠ e := fun b o h => by rintro rfl; rw [ne] at h; cases h
    refine ⟨e, dx, rfl, upd_same, fun sp H1 k1 nsp ee es => ⟨rfl, ?_⟩⟩
    have k01 : Keep [] H H1 := fun b o _ hb => k1 b o (by simpa using nex b o hb) (k0 b o (by simp) hb)
    have nspH : H sp = none := k0.free (by simp) nsp
    clear k0 k1 nsp nd0 dne
    walk_at "sts"
    refine Zm.r_forNL ?_
    walk_at "sts"
    refine Zm.forNL_go (fun i σ' H' => ∃ (ss : List (Ec.Step Str)) (as' : List Addr) (x y : Option V), σ' = [some (.ref p), some (.ref e), x, y] ∧ Keep [] H H' ∧ H' e = some (.ins T.C_Echelon dx [("steps", .ref sp)]) ∧ H' sp = some (.lst (as'.map V.ref)) ∧ Each (StepAt N xs H') as' ss ∧ Told N l xs ss i) (sqL_of (k01 _ _ (by simp) hp)) ⟨[], [], none, none, rfl, k01, ee, es, trivial, .nil, by simp, fun k hk => by omega⟩ (fun i σ' H' h => by obtain ⟨_, _, _, _, _, k, _⟩ := h; exact sqL_of (k _ _ (by simp) hp)) ?_ ?_
    · rintro i v T' σ' H2 hv ⟨ss, as', x, y, rfl, k2, ee2, es2, eas, tl⟩ hT
      obtain ⟨a, ha, rfl⟩ := getRef hv
      obtain ⟨ts, hts, c0, dx0, t0, ea, bs, o, et, od, pt⟩ := fs.get ha
      obtain ⟨can, lk⟩ := hl i ts hts
      have iN : i < N := by have := (List.getElem?_eq_some_iff.mp hts).1; omega
      have kT : Keep [] H2 (upd H2 T' (.tup [.int (i : Nat), .ref a])) := Keep.new hT
      refine r_gTup2 (sqT_of upd_same) ?_
      simp only [List.set_cons_zero, List.set_cons_succ]
      have ee3 := kT _ _ (by simp) ee2
      have es3 := kT _ _ (by simp) es2
      have eas3 : Each (StepAt N xs (upd H2 T' (.tup [.int (i : Nat), .ref a]))) as' ss := eas.mono fun _ _ h => h.keep kT (by simp)
      have k3 := k2.trans kT
      generalize upd H2 T' (.tup [.int (i : Nat), .ref a]) = H3 at ee3 es3 eas3 k3 ⊢
      have ea3 := k3 _ _ (by simp) ea
      have et3 := k3 _ _ (by simp) et
      have pt3 : PairsAt H3 bs ts := pt.keep0 k3
      have oc := T.oc_Form
      have na := T.na_Form_terms
      have oe := T.oc_Echelon
      walk_at "sts"
      refine Lv.r_dictPT et3 od (paired_pairs pt3) fun dq nd => ?_
      have mf : mergeK [] (kd (kdT ts)) = kd (kdT ts) := by
        rw [merge_fresh (by rw [List.nil_append, kd_keys]; exact (kdT_fine can).nd), List.nil_append]
      rw [mf]
      have k4 : Keep [] H3 (upd H3 dq (.dK (kd (kdT ts)))) := Keep.new nd
      have ed : upd H3 dq (.dK (kd (kdT ts))) dq = some (.dK (kd (kdT ts))) := upd_same
      have ee4 := k4 _ _ (by simp) ee3
      have es4 := k4 _ _ (by simp) es3
      have eas4 : Each (StepAt N xs (upd H3 dq (.dK (kd (kdT ts))))) as' ss := eas3.mono fun _ _ h => h.keep k4 (by simp)
      have k04 := k3.trans k4
      generalize upd H3 dq (.dK (kd (kdT ts))) = H4 at ed ee4 es4 eas4 k04 ⊢
      walk_at "sts"
      have td : TD xs H4 dq (l i) := by
        refine ⟨kdT ts, ed, kdT_fine can, fun k hk => ?_, fun x => by rw [kdT_gt can, lk]⟩
        rw [kdT_keys] at hk
        obtain ⟨x, hx, rfl⟩ := List.mem_map.mp hk
        obtain ⟨p', hp', rfl⟩ := List.mem_map.mp hx
        refine ⟨p'.1, Classical.byContradiction fun c => ?_, rfl⟩
        have := cl.off i p'.1 c
        rw [lk, can.wt_mem hp'] at this
        exact can.nz p' hp' this
      refine ⟨e, dq, i, N, l, xs, ss, dx, sp, as', rfl, cl, ee4, es4, eas4, tl, iN, td, fun a2 s2 H5 k5 es5 eas5 _ tl5 => ?_, fun b t u H5 k5 _ _ _ tl5 => ?_⟩
      · have k05 : Keep [] H H5 := fun b o _ hb => k5 b o (by simp; rintro rfl; rw [nspH] at hb; cases hb) (k04 b o (by simp) hb)
        exact ⟨_, _, _, _, rfl, k05, k5 _ _ (by simp; rintro rfl; rw [ee4] at es4; cases es4) ee4, es5, eas5, tl5⟩
      · exact ⟨_, _, _, _, rfl, k04.trans k5, k5 _ _ (by simp) ee4, k5 _ _ (by simp) es4, eas4.mono fun _ _ h => h.keep k5 (by simp), tl5⟩
    · rintro σ' H2 ⟨ss, as', x, y, rfl, k2, ee2, es2, eas, tl⟩
      rw [List.length_map, flen] at tl
      walk_at "sts"
      exact q e ss _ k2 ne ⟨dx, sp, as', ee2, es2, eas⟩ tl
end
/-! ### cancel -/
/-- lines by their numbers -/
def lnF (ls : List (List Fm.Tm)) : Nat → Str → Int := fun k x => Fm.wt (ls.getD k []) x
theorem lnF_at {ls : List (List Fm.Tm)} {k : Nat} {ts : List Fm.Tm} (h : ls[k]? = some ts) : lnF ls k = Fm.wt ts := by
  funext x
  show Fm.wt (ls.getD k []) x = _
  rw [List.getD_eq_getElem?_getD, h]; rfl
theorem Fm.lin_dot {xs : List Str} {ts : List Fm.Tm} {L : Str → Int} (nd : xs.Nodup) (c : Fm.Canon ts) (h : ∀ p ∈ ts, p.1 ∈ xs) : Fm.lin ts L = Ec.dotX xs (Fm.wt ts) L := by
  have e : sK (fun k => match k with | .inr y => L y | .inl _ => 0) (kdT ts) = Fm.lin ts L := by
    clear c h
    induction ts with
    | nil => rfl
    | cons p ts ih =>
      have e1 : sK (fun k => match k with | .inr y => L y | .inl _ => 0) (kdT (p :: ts)) = L p.1 * p.2 + sK (fun k => match k with | .inr y => L y | .inl _ => 0) (kdT ts) := by simp [sK, kdT]
      rw [e1, ih, Fm.lin_cons, Int.mul_comm]
  rw [← e, sK_sum nd (kdT_fine c).nd fun k hk => by
    rw [kdT_keys] at hk
    obtain ⟨x, hx, rfl⟩ := List.mem_map.mp hk
    obtain ⟨p, hp, rfl⟩ := List.mem_map.mp hx
    exact ⟨p.1, h p hp, rfl⟩]
  refine Ec.sumX_congr fun x _ => ?_
  rw [kdT_gt c, Int.mul_comm]
/-- what is asked of lines and target -/
structure LsOk (ls : List (List Fm.Tm)) : Prop where
  can : ∀ ts ∈ ls, Fm.Canon ts
  len : ls.length ≤ 16
  bnd : ∀ ts ∈ ls, ∀ x, (Fm.wt ts x).natAbs ≤ 2 ^ 98
  few : (nmL ls).length ≤ 8
theorem LsOk.cl {ls : List (List Fm.Tm)} (h : LsOk ls) : Cl ls.length (lnF ls) (nmL ls) := by
  have at_ : ∀ k x, lnF ls k x ≠ 0 → ∃ ts ∈ ls, lnF ls k x = Fm.wt ts x := fun k x hx => by
    have e : lnF ls k x = Fm.wt (ls.getD k []) x := rfl
    rw [List.getD_eq_getElem?_getD] at e
    cases hk : ls[k]? with
    | none => rw [hk] at e; exact absurd (by rw [e]; rfl) hx
    | some ts => rw [hk] at e; exact ⟨ts, List.mem_of_getElem? hk, e⟩
  refine ⟨h.len, h.few, nmL_nodup, fun k x => ?_, fun k x hx => Classical.byContradiction fun c => ?_⟩
  · by_cases c : lnF ls k x = 0
    · rw [c]; exact Nat.zero_le _
    · obtain ⟨ts, hts, e⟩ := at_ k x c
      rw [e]; exact h.bnd ts hts x
  · obtain ⟨ts, hts, e⟩ := at_ k x c
    rw [e] at c
    obtain ⟨p, hp, e2⟩ := Fm.mem_of_wt c
    exact hx (mem_nmL.mpr (mem_namesL.mpr ⟨ts, hts, p, hp, e2⟩))
/-- what cancel tells: weights, or a shift -/
structure Wts (ls : List (List Fm.Tm)) (t : List Fm.Tm) (sc : Int) (ws : List Int) : Prop where
  len : ws.length = ls.length
  pos : 0 < sc
  sum : ∀ x, sc * Fm.wt t x = Ec.sumN ls.length fun k => ws.getD k 0 * lnF ls k x
  prim : ∀ g : Int, g ∣ sc → (∀ w ∈ ws, g ∣ w) → g ∣ 1
  small : sc.natAbs < 2 ^ 1000 ∧ ∀ w ∈ ws, w.natAbs < 2 ^ 1000
structure Shf (ls : List (List Fm.Tm)) (t : List Fm.Tm) (R : Str → Int) : Prop where
  zero : ∀ ts ∈ ls, Fm.lin ts R = 0
  up : 0 < Fm.lin t R
  prim : ∀ g : Int, (∀ x ∈ nmL (ls ++ [t]), g ∣ R x) → g ∣ 1
  small : ∀ x ∈ nmL (ls ++ [t]), (R x).natAbs < 2 ^ 3900
def AnsAt (H : Hp) (p : Addr) (ls : List (List Fm.Tm)) (t : List Fm.Tm) : Prop :=
  (∃ (q : Addr) (sc : Int) (ws : List Int), H p = some (.tup [.str (Str.ofString "weights"), .int sc, .ref q]) ∧ H q = some (.lst (ws.map V.int)) ∧ Wts ls t sc ws) ∨
  (∃ (q : Addr) (R : Str → Int), H p = some (.tup [.str (Str.ofString "shift"), .ref q]) ∧ RsAt H q (nmL (ls ++ [t])) R ∧ Shf ls t R)
def spCancel (CF : Addr) : Sp := fun vs H Q _ => ∃ (p a : Addr) (as : List Addr) (ls : List (List Fm.Tm)) (t : List Fm.Tm) (c : Int), vs = [.ref p, .ref a] ∧ H p = some (.lst (as.map V.ref)) ∧ FormsAt CF H as ls ∧ FormAt CF H a t c ∧ LsOk (ls ++ [t]) ∧
  ∀ (q : Addr) (H' : Hp), Keep [] H H' → AnsAt H' q ls t → Q (.ref q) H'
section
variable {P : Program} {w : World} {K : PySem.W.Frag} {mg : Str → Option Value} {base : Heap}
theorem ok_cancel (T : Tx K mg) (G_echelon_of : FnOk P w K mg base CX0 5 T.f_echelon_of T.fd_echelon_of ["lines"] (spEchOf T.C_Form T.C_Echelon)) (G_Echelon_freed : FnOk P w K mg base CX0 3 T.f_Echelon_freed T.fd_Echelon_freed ["self", "terms", "index"] (spFreed T.C_Echelon))
    (G_Echelon_shift : FnOk P w K mg base CX0 3 T.f_Echelon_shift T.fd_Echelon_shift ["self", "left", "names"] (spShift T.C_Echelon)) (G_all_names : FnOk P w K mg base CX0 1 T.f_all_names T.fd_all_names ["forms"] (spAllNames T.C_Form)) : FnOk P w K mg base CX0 6 T.f_cancel T.fd_cancel ["lines", "target"] (spCancel T.C_Form) := by
  refine T.F_cancel.ok sc_cancel (fun vs H Q E h => ?_) (fun cdv A outer s H vs Q E hr h => ?_)
  · obtain ⟨p, a, as, ls, t, c, rfl, _⟩ := h; rfl
  · obtain ⟨p, a, as, ls, t, c0, rfl, hp, fs, ⟨dx, tt, ea, bs, o, et, od, pt⟩, ok, q⟩ := h
    have flen := fs.len
    have oc := T.oc_Form
    have na := T.na_Form_terms
    have oe := T.oc_Echelon
    have cl := ok.cl
    refine ⟨_, (pss_cons (ps_set (i := 2) sc_cancel.nd rfl (Or.inl rfl) (pe_call G_echelon_of (hr.mono (by decide)) rfl T.g_echelon_of T.F_echelon_of.kp T.b_echelon_of .nil pass0 (pa_cons (pv 0) pa_nil)))
    (pss_cons (ps_set (i := 3) sc_cancel.nd rfl (Or.inl rfl) (pe_callB call_len_seq (by rfl) T.m_len PySem.boot_len (pa_cons (pv 0) pa_nil)))
    (pss_cons (ps_asg (pe_meth (pv 2) T.oc_Echelon.cl T.me_Echelon_freed G_Echelon_freed (hr.mono (by decide)) T.b_Echelon_freed .nil pass0 (pa_cons (pe_callTy (Lv.call_dictPT rfl) (by rfl) T.m_dict (by decide +kernel) (pa_cons (pe_fld (pv 1) rfl) pa_nil)) (pa_cons (pv 3) pa_nil))) (pg_tup (n := 2) rfl (pgs_cons (pg_name (i := 4) sc_cancel.nd rfl (Or.inl rfl)) (pgs_cons (pg_name (i := 5) sc_cancel.nd rfl (Or.inr rfl)) pgs_nil))))
    (pss_cons (ps_if (pt_cmpR op_gt (pe_callB call_lenD (by rfl) T.m_len PySem.boot_len (pa_cons (pv 4) pa_nil)) pe_int (nomark _))
    (pss_one (ps_ret (pe_tup (pa_cons pe_str (pa_cons (pe_meth (pv 2) T.oc_Echelon.cl T.me_Echelon_shift G_Echelon_shift (hr.mono (by decide)) T.b_Echelon_shift .nil pass0 (pa_cons (pv 4) (pa_cons (pe_call G_all_names (hr.mono (by decide)) rfl T.g_all_names T.F_all_names.kp T.b_all_names .nil pass0 (pa_cons (pe_lst (Dt.pa_starK (K := K) rfl (pv 0) (pa_cons (pv 1) pa_nil))) pa_nil)) pa_nil))) pa_nil)))))
    pss_nil)
    (pss_one (ps_ret (pe_tup (pa_cons pe_str (pa_cons (pe_dget (hu_of hr) (pv 5) (pv 3) (fun _ _ => rfl)) (pa_cons (pe_lc (own := [("index", 6)]) (g := gName 6) (tt := tYes) rfl sc_cancel.nd (pi_range1 rfl T.m_range (pa_cons (pv 3) pa_nil)) (blkOk_by (own := [("index", 6)]) (N := ["lines", "target", "echelon", "size", "left", "weights", "index"]) (sc := defScope s_cancel) (by decide +kernel)) (fun _ _ _ _ _ => pg_name (i := 6) sc_cancel.nd rfl (Or.inl rfl)) (fun _ _ _ _ _ => pts_nil) (fun _ _ _ _ _ => (pe_un un_neg (pe_dget2 (hu_of hr) (pv 5) (pv 6) pe_int ⟨rfl, rfl, rfl, rfl⟩)))) pa_nil)))))))))), ?_⟩
    walk_at "start"
    walk_at "sts"
    have lN : (ls ++ [t]).length = ls.length + 1 := by simp
    have hat : ∀ (k : Nat) (ts : List Fm.Tm), (ls ++ [t])[k]? = some ts → Fm.Canon ts ∧ lnF (ls ++ [t]) k = Fm.wt ts := fun k ts h => ⟨ok.can ts (List.mem_of_getElem? h), lnF_at h⟩
    have hatl : ∀ (k : Nat) (ts : List Fm.Tm), ls[k]? = some ts → Fm.Canon ts ∧ lnF (ls ++ [t]) k = Fm.wt ts := fun k ts h => hat k ts (by rw [List.getElem?_append_left (List.getElem?_eq_some_iff.mp h).1]; exact h)
    have tat : (ls ++ [t])[ls.length]? = some t := by simp
    have tcan := ok.can t (by simp)
    have tl := lnF_at tat
    have same : ∀ k, k < ls.length → lnF (ls ++ [t]) k = lnF ls k := fun k hk => by
      rw [(hatl k ls[k] (List.getElem?_eq_getElem hk)).2, lnF_at (List.getElem?_eq_getElem hk)]
    have inx : ∀ ts ∈ ls ++ [t], ∀ p ∈ ts, p.1 ∈ nmL (ls ++ [t]) := fun ts hts p hp => mem_nmL.mpr (mem_namesL.mpr ⟨ts, hts, p, hp, rfl⟩)
    refine ⟨p, as, ls, (ls ++ [t]).length, lnF (ls ++ [t]), nmL (ls ++ [t]), rfl, hp, fs, cl, by omega, hatl, fun e ss H1 k1 ne ech told => ?_⟩
    have hp1 := k1 _ _ (by simp) hp
    have ea1 := k1 _ _ (by simp) ea
    have et1 := k1 _ _ (by simp) et
    have pt1 := pt.keep0 k1
    have ins := ech
    obtain ⟨dxe, spe, ase, eei, _, _⟩ := ins
    walk_at "sts"
    rw [List.length_map, flen]
    refine Lv.r_dictPT et1 od (paired_pairs pt1) fun dq nd => ?_
    have mf : mergeK [] (kd (kdT t)) = kd (kdT t) := by
      rw [merge_fresh (by rw [List.nil_append, kd_keys]; exact (kdT_fine tcan).nd), List.nil_append]
    rw [mf]
    have k2 : Keep [] H1 (upd H1 dq (.dK (kd (kdT t)))) := Keep.new nd
    have ed : upd H1 dq (.dK (kd (kdT t))) dq = some (.dK (kd (kdT t))) := upd_same
    have ech2 := ech.keep0 k2
    have k02 := k1.trans k2
    generalize upd H1 dq (.dK (kd (kdT t))) = H2 at k2 ed ech2 k02 ⊢
    walk_at "sts"
    have td : TD (nmL (ls ++ [t])) H2 dq (lnF (ls ++ [t]) ls.length) := by
      refine ⟨kdT t, ed, kdT_fine tcan, fun k hk => ?_, fun x => by rw [kdT_gt tcan, tl]⟩
      rw [kdT_keys] at hk
      obtain ⟨x, hx, rfl⟩ := List.mem_map.mp hk
      obtain ⟨p', hp', rfl⟩ := List.mem_map.mp hx
      exact ⟨p'.1, inx t (by simp) p' hp', rfl⟩
    have hi : ∀ r ∈ ss, r.p ≠ ls.length := fun r hr => by have := told.p r hr; omega
    refine ⟨e, dq, ls.length, (ls ++ [t]).length, lnF (ls ++ [t]), nmL (ls ++ [t]), ss, rfl, cl, ech2, told.E, hi, by omega, td, fun v d1 d2 f u H3 k3 ev t3 w3 fr => ?_⟩
    have sm := fr.small told.E hi (by omega) cl.hN (cl.steps told.E) cl.hB
    obtain ⟨ka, da, fa, ka1, ka2⟩ := t3
    obtain ⟨kb, db, fb, kb1, kb2⟩ := w3
    have ech3 := ech2.keep0 k3
    have k03 := k02.trans k3
    refine r_gTup2 (sqT_of ev) ?_
    simp only [List.set_cons_zero, List.set_cons_succ]
    walk_at "sts"
    refine ⟨d1, _, rfl, da, ?_⟩
    rw [kd_len]
    walk_at "sts"
    refine r_ite (fun c => ?_) (fun c => ?_)
    · have ins3 := ech3
      obtain ⟨dx3, sp3, as3, ee3, _, _⟩ := ins3
      have hp3 := k03 _ _ (by simp) hp
      walk_at "sts"
      refine ⟨.ref p, rfl, p, as.map V.ref, rfl, .inr (sqL_of hp3), ?_⟩
      walk_at "sts"
      refine ⟨le_size (by simp; have := cl.hN; omega), fun lq nlq => ?_⟩
      have eas : as.map V.ref ++ [V.ref a] = (as ++ [a]).map V.ref := by rw [List.map_append]; rfl
      rw [eas]
      have k4 : Keep [] H3 (upd H3 lq (.lst ((as ++ [a]).map V.ref))) := Keep.new nlq
      have elq : upd H3 lq (.lst ((as ++ [a]).map V.ref)) lq = some (.lst ((as ++ [a]).map V.ref)) := upd_same
      have ech4 := ech3.keep0 k4
      have da4 := da.keep0 k4
      have k04 := k03.trans k4
      generalize upd H3 lq (.lst ((as ++ [a]).map V.ref)) = H4 at k4 elq ech4 da4 k04 ⊢
      walk_at "sts"
      have fs4 : FormsAt T.C_Form H4 (as ++ [a]) (ls ++ [t]) := (fs.keep0 k04).app ⟨⟨c0, (show FormAt T.C_Form H a t _ from ⟨dx, tt, ea, bs, o, et, od, pt⟩).keep0 k04⟩, trivial⟩
      refine ⟨lq, as ++ [a], ls ++ [t], nmL (ls ++ [t]), rfl, elq, fs4, fun x hx => mem_nmL.mpr hx, by have := ok.few; omega, fun nq H5 k5 nnq enq => ?_⟩
      have ech5 := ech4.keep0 k5
      walk_at "sts"
      have tne : ∃ x, f x ≠ 0 := by
        cases ka with
        | nil => exact absurd c (by show ¬ (0 : Int) < ((0 : Nat) : Int); omega)
        | cons p0 ka =>
          obtain ⟨x, hx, e⟩ := ka1 p0.1 (by simp [keysK])
          refine ⟨x, ?_⟩
          rw [← ka2, ← e]
          exact fa.iff.mp (by simp [keysK])
      refine ⟨e, d1, nq, (ls ++ [t]).length, lnF (ls ++ [t]), nmL (ls ++ [t]), ss, f, rfl, cl, ech5, told.E, ⟨ka, da4.keep0 k5, fa, ka1, ka2⟩, tne, fr.z, enq, fun rq R H6 k6 nrq rs zr up pr sm => ?_⟩
      walk_at "sts"
      intro aq naq
      have k7 : Keep [] H6 (upd H6 aq (.tup [.str (Str.ofString "shift"), .ref rq])) := Keep.new naq
      have dz : ∀ k, k < ls.length → Ec.dotX (nmL (ls ++ [t])) (lnF (ls ++ [t]) k) R = 0 := fun k hk => told.d k hk R zr
      refine q aq _ (((k04.trans k5).trans k6).trans k7) (.inr ⟨rq, R, upd_same, ⟨k7 _ _ (by simp) rs.1, rs.2⟩, fun ts hts => ?_, ?_, pr, sm⟩)
      · obtain ⟨k, hk⟩ := List.getElem?_of_mem hts
        obtain ⟨can, lk⟩ := hatl k ts hk
        rw [Fm.lin_dot nmL_nodup can (inx ts (by simp [hts])), ← lk]
        exact dz k (List.getElem?_eq_some_iff.mp hk).1
      · rw [Fm.lin_dot nmL_nodup tcan (inx t (by simp)), ← tl]
        have e1 := fr.dot (xs := nmL (ls ++ [t])) (by omega) (L := R) fun r hr => dz r.p (told.p r hr)
        rw [e1] at up
        exact Int.pos_of_mul_pos_right up fr.wi
    · have ke : ka = [] := List.length_eq_zero_iff.mp (by omega)
      subst ke
      have z0 : ∀ x, f x = 0 := fun x => by rw [← ka2]; rfl
      have sk : (Sum.inl ((ls.length : Nat) : Int) : Key) ∈ keysK kb := fb.iff.mpr (by rw [kb2]; have := fr.wi; omega)
      have vk : valV (kd kb) (Sum.inl ((ls.length : Nat) : Int)) = some (.int (u ls.length)) := by rw [val_kd, if_pos sk, kb2]
      walk_at "sts"
      refine r_dgetKS (k := Sum.inl ((ls.length : Nat) : Int)) db vk ?_
      walk_at "sts"
      refine lcR1_go (fun D i acc H' => acc = ((List.range i).map fun k => -(u k)).map V.int ∧ Keep [] H H' ∧ DictAt H' d2 kb ∧ H3 D = none) (by have := cl.hN; omega) (fun D hD => ⟨rfl, k03.trans (Keep.new hD), db.keep0 (Keep.new hD), hD⟩) ?_ ?_
      · rintro D i acc H' hi' hacc ⟨rfl, kk, db', nD⟩
        walk_at "sts"
        refine r_dgetK (k := Sum.inl ((i : Nat) : Int)) db' ?_
        rw [val_getD, kb2]
        have neD : D ≠ d2 := by rintro rfl; unfold DictAt at db; rw [nD] at db; cases db
        refine r_U ?_
        refine lc_put hacc (lt_size (by simp only [List.length_map, List.length_range]; have := cl.hN; omega)) ⟨?_, ?_, ?_, nD⟩
        · rw [List.range_succ, List.map_append, List.map_append]; rfl
        · exact kk.mut (k03.free (by simp) nD)
        · unfold DictAt; rw [upd_ne (Ne.symm neD)]; exact db'
      · rintro D acc H' nD hacc ⟨rfl, kk, db', _⟩
        walk_at "sts"
        intro aq naq
        have k7 : Keep [] H' (upd H' aq (.tup [.str (Str.ofString "weights"), .int (u ls.length), .ref D])) := Keep.new naq
        rw [Int.toNat_natCast] at hacc
        have zero : ∀ k, ls.length < k → u k = 0 := fun k hk => Classical.byContradiction fun c => by
          rcases fr.sup k c with h | ⟨r, hr, h⟩
          · omega
          · have := told.p r hr; omega
        have small : ∀ k, (u k).natAbs < 2 ^ 1000 := fun k => pow103 (sm.1 k) (cl.steps told.E) (by omega)
        have gd : ∀ k, k < ls.length → ((List.range ls.length).map fun k => -(u k)).getD k 0 = -(u k) := fun k hk => by
          rw [List.getD_eq_getElem?_getD, List.getElem?_map, List.getElem?_range hk]; rfl
        refine q aq _ (kk.trans k7) (.inl ⟨D, u ls.length, (List.range ls.length).map fun k => -(u k), upd_same, k7 _ _ (by simp) hacc, by simp, fr.wi, fun x => ?_, fun g h1 h2 => fr.prim g fun k => ?_, small _, fun w hw => ?_⟩)
        · have e1 := z0 x
          rw [fr.c] at e1
          have e2 : Ec.comb (ls ++ [t]).length (lnF (ls ++ [t])) u x = (Ec.sumN ls.length fun k => u k * lnF (ls ++ [t]) k x) + u ls.length * lnF (ls ++ [t]) ls.length x := by
            unfold Ec.comb
            rw [lN]; rfl
          rw [e2, tl] at e1
          have e3 : (Ec.sumN ls.length fun k => ((List.range ls.length).map fun k => -(u k)).getD k 0 * lnF ls k x) = -1 * Ec.sumN ls.length fun k => u k * lnF (ls ++ [t]) k x := by
            rw [← Ec.sumN_mul]
            refine Ec.sumN_congr fun k hk => ?_
            rw [gd k hk, same k hk, Int.neg_mul, Int.neg_one_mul]
          rw [e3]; omega
        · by_cases c1 : k < ls.length
          · have := h2 (-(u k)) (List.mem_map.mpr ⟨k, List.mem_range.mpr c1, rfl⟩)
            exact Int.dvd_neg.mp this
          · by_cases c2 : k = ls.length
            · rw [c2]; exact h1
            · rw [zero k (by omega)]; exact Int.dvd_zero _
        · obtain ⟨k, _, rfl⟩ := List.mem_map.mp hw
          rw [Int.natAbs_neg]; exact small k
end
/-! ### the law's own terms -/
def spTerms : Sp := fun vs H Q _ => ∃ (p : Addr) (ts : List Fm.Tm) (xs : List Str), vs = [.ref p] ∧ RowAt H p ts ∧ ts.length ≤ 1000 ∧ (∀ t ∈ ts, t.1 ∈ xs) ∧ xs.length ≤ 20 ∧ ∀ (q : Addr) (H' : Hp), Keep [] H H' → H q = none → TupAt H' q (Fm.can ts) → Q (.ref q) H'
theorem r_terms {H : Hp} {Q : VK} {E : XK} {p : Addr} {ts : List Fm.Tm} {xs : List Str} (hp : RowAt H p ts) (hl : ts.length ≤ 1000) (hx : ∀ t ∈ ts, t.1 ∈ xs) (xl : xs.length ≤ 20) (k : ∀ (q : Addr) (H' : Hp), Keep [] H H' → H q = none → TupAt H' q (Fm.can ts) → Q (.ref q) H') : spTerms [.ref p] H Q E := ⟨p, ts, xs, rfl, hp, hl, hx, xl, k⟩
section
variable {P : Program} {w : World} {K : PySem.W.Frag} {mg : Str → Option Value} {base : Heap}
theorem ok_terms (T : Tx K mg) : FnOk P w K mg base CX0 1 T.f_w_terms T.fd_w_terms ["_law_pairs"] spTerms := by
  refine T.F_w_terms.ok sc_w_terms (fun vs H Q E h => ?_) (fun cdv A outer s H vs Q E hr h => ?_)
  · obtain ⟨a, ts, xs, rfl, _⟩ := h; rfl
  · obtain ⟨p, ts, xs, rfl, hp, hl, hq, xl, q⟩ := h
    have hval : ∀ {ks us : List Fm.Tm} (S : Fm.Sums ks us) (nm : Str), (valV (Fm.kOf ks) (Sum.inr nm)).getD (V.int 0) = V.int (Fm.wt us nm) := fun {ks us} S nm => by
      rw [Fm.val_kOf, S.find]
      split
      · rfl
      · next e => rw [Fm.wt_none (fun p hp z => e (by rw [← z]; exact List.mem_map_of_mem hp))]; rfl
    obtain ⟨as, ep, hp⟩ := hp
    refine ⟨_, (pss_cons (ps_set (i := 1) sc_w_terms.nd rfl (Or.inr rfl) pe_dnewK)
    (pss_cons (ps_for PassesOwn.never rfl (pi_list (pv 0)) (pg_tup (n := 2) rfl (pgs_cons (pg_name (i := 2) sc_w_terms.nd rfl (Or.inl rfl)) (pgs_cons (pg_name (i := 3) sc_w_terms.nd rfl (Or.inl rfl)) pgs_nil)))
    (pss_one (ps_dput (hu_of hr) (pv 1) (pv 2) (pe_op op_add (pe_dget2 (hu_of hr) (pv 1) (pv 2) pe_int ⟨rfl, rfl, rfl, rfl⟩) (pv 3)) rfl)))
    (pss_one (ps_ret (pe_callTy call_tuple_of (by rfl) T.m_tuple (by decide +kernel) (pa_cons (pe_lc (own := [("_law_name", 2)]) (g := gName 2)  rfl sc_w_terms.nd (pi_list (pe_callB (call_sortedD rfl) (by rfl) T.m_sorted (by decide +kernel) (pa_cons (pv 1) pa_nil))) (blkOk_by (own := [("_law_name", 2)]) (N := ["_law_pairs", "_law_total", "_law_name", "_law_weight"]) (sc := defScope s_w_terms) (by decide +kernel)) (fun _ _ _ _ _ => pg_name (i := 2) sc_w_terms.nd rfl (Or.inl rfl)) (fun _ _ _ _ _ => pts_one (pt_cmpR op_ne (pe_dget (hu_of hr) (pv 1) (pv 2) (fun _ _ => rfl)) pe_int (nomark _))) (fun _ _ _ _ _ => (pe_tup (pa_cons (pv 2) (pa_cons (pe_dget (hu_of hr) (pv 1) (pv 2) (fun _ _ => rfl)) pa_nil))))) pa_nil)))))), ?_⟩
    walk_at "start"
    walk_at "sts"
    intro d hd
    have k1 : Keep [] H (upd H d (.dK [])) := Keep.new hd
    have e1 : upd H d (.dK []) d = some (.dK (Fm.kOf [])) := upd_same
    generalize upd H d (.dK []) = H1 at k1 e1 ⊢
    walk_at "sts"
    refine forL_go (fun i σ' H' => ∃ (ks : List Fm.Tm) (x1 x2 : Option V), σ' = [some (.ref p), some (.ref d), x1, x2] ∧ H' d = some (.dK (Fm.kOf ks)) ∧ Fm.Sums ks (ts.take i) ∧ Keep [] H H') (sqL_of (k1 _ _ (by simp) ep)) ⟨[], _, _, rfl, e1, by simpa using Fm.Sums.nil, k1⟩ (fun i σ' H' _ h => by obtain ⟨_, _, _, _, _, _, k⟩ := h; exact sqL_of (k _ _ (by simp) ep)) ?_ ?_
    · rintro i x σ' H2 hx ⟨ks, x1, x2, rfl, e2, S, k2⟩
      obtain ⟨a, ha, rfl⟩ := getRef hx
      obtain ⟨t, ht, et⟩ := hp.get ha
      have et2 := k2 _ _ (by simp) et
      walk_at "sts"
      have e3 := e2
      have k13 := k2
      rw [hval S]
      walk_at "sts"
      refine r_dputS e3 (lt_size (by unfold Fm.kOf; rw [List.length_map]; have := S.len; rw [List.length_take] at this; omega)) ?_
      rw [Fm.put_kOf]
      exact ⟨_, _, _, rfl, upd_same, by rw [take_snoc ht]; exact S.put t, k13.mut hd⟩
    · rintro σ' H2 ⟨ks, x1, x2, rfl, e2, S, k2⟩
      rw [List.length_map, hp.len, List.take_length] at S
      walk_at "sts"
      have kl : ks.length ≤ xs.length := by
        have := Fm.nodup_len (l := ks.map (·.1)) (xs := xs) S.nd fun x hx => by
          obtain ⟨p', hp', rfl⟩ := List.mem_map.mp ((S.iff x).mp hx)
          exact hq p' hp'
        rwa [List.length_map] at this
      refine ⟨d, _, ks.map (·.1), rfl, .inl e2, by unfold Fm.kOf; rw [List.map_map, List.map_map]; rfl, by rw [List.length_map]; omega, fun ys l2 pm st hl3 => ?_⟩
      have k4 : Keep [] H2 (upd H2 l2 (.lst (ys.map V.str))) := Keep.new hl3
      have e4 : upd H2 l2 (.lst (ys.map V.str)) l2 = some (.lst (ys.map V.str)) := upd_same
      generalize upd H2 l2 (.lst (ys.map V.str)) = H4 at k4 e4 ⊢
      have k24 := k4
      have kH4 := k2.trans k24
      have ed := k24 _ _ (by simp) e2
      have nd : ys.Nodup := pm.nodup_iff.mpr S.nd
      have asc := Fm.asc_of_sorted st nd
      have mem : ∀ x, x ∈ ys ↔ x ∈ ts.map (·.1) := fun x => (pm.mem_iff).trans (S.iff x)
      have ly : ys.length ≤ 60 := by have := pm.length_eq; rw [List.length_map] at this; omega
      refine lcL_go (fun D i acc H' => ∃ bs : List Addr, acc = bs.map V.ref ∧ PairsAt H' bs (Fm.rowOf (ys.take i) (Fm.wt ts)) ∧ Keep [] H4 H' ∧ H4 D = none) (sqL_of e4) (fun D hD => ⟨[], rfl, by simp [Fm.rowOf, PairsAt], Keep.new hD, hD⟩) (fun D i acc H' _ h => by obtain ⟨_, _, _, k, _⟩ := h; exact sqL_of (k _ _ (by simp) e4)) ?_ ?_
      · rintro D i x acc H5 hx hD ⟨bs, rfl, hb, k5, nD⟩
        obtain ⟨nm, hnm, rfl⟩ := getStr hx
        have ed5 := k5 _ _ (by simp) ed
        have hv : valV (Fm.kOf ks) (Sum.inr nm) = some (V.int (Fm.wt ts nm)) := by
          rw [Fm.val_kOf, S.find, if_pos ((mem nm).mp (List.mem_of_getElem? hnm))]
        have hlen := hb.len
        have hb60 : bs.length < 100000 := by
          have := List.length_filter_le (fun p : Fm.Tm => decide (p.2 ≠ 0)) ((ys.take i).map fun x => (x, Fm.wt ts x))
          unfold Fm.rowOf at hlen
          rw [List.length_map, List.length_take] at this
          omega
        walk_at "sts"
        refine r_dgetS ed5 hv ?_
        walk_at "sts"
        refine r_iteN (fun c => ?_) (fun c => ?_)
        · walk_at "sts"
          refine r_dgetS ed5 hv ?_
          walk_at "sts"
          intro t ht
          have k6 : Keep [] H5 (upd H5 t (.tup [.str nm, .int (Fm.wt ts nm)])) := Keep.new ht
          have e6 : upd H5 t (.tup [.str nm, .int (Fm.wt ts nm)]) t = some (.tup [.str nm, .int (Fm.wt ts nm)]) := upd_same
          generalize upd H5 t (.tup [.str nm, .int (Fm.wt ts nm)]) = H6 at k6 e6 ⊢
          have hD6 := k6 _ _ (by simp) hD
          refine lc_put hD6 (by rw [List.length_map]; exact lt_size hb60) ⟨bs ++ [t], by rw [List.map_append]; rfl, ?_, (k5.trans k6).mut nD, nD⟩
          rw [take_snoc hnm, Fm.rowOf_snoc, if_pos c]
          exact ((hb.keep0 k6).app (bs := [t]) (us := [(nm, Fm.wt ts nm)]) ⟨e6, trivial⟩).keep (Keep.at (M := [D]) (by simp)) (fun m hm => by rw [List.mem_singleton.mp hm]; exact ⟨_, hD6⟩)
        · walk_at "sts"
          exact ⟨_, hD, bs, rfl, by rw [take_snoc hnm, Fm.rowOf_snoc, if_neg (by simpa using c)]; exact hb, k5, nD⟩
      · rintro D acc H5 nD hD ⟨bs, rfl, hb, k5, _⟩
        rw [List.length_map, List.take_length, Fm.rowOf_can asc nd fun t ht => (mem _).mpr (List.mem_map_of_mem ht)] at hb
        walk_at "sts"
        refine r_tupL (sqL_of hD) fun u hu => ?_
        have kH5 := kH4.trans k5
        exact q u _ (kH5.trans (Keep.new hu)) (kH5.free (by simp) hu) ⟨bs, upd_same, hb.keep0 (Keep.new hu)⟩
end
/-! ### comparisons of pairs -/
theorem dp_pairs {K : PySem.W.Frag} {H : Hp} : ∀ {as : List Addr} {ts : List Fm.Tm}, PairsAt H as ts → DpAll K H (as.map V.ref) (ts.map fun p => PyData.tuple [.str p.1, .int p.2])
  | [], [], _ => .nil
  | a :: as, p :: ts, h => .cons (.tup (sqT_of h.1) (.cons (.str _) (.cons (.int _) .nil))) (dp_pairs h.2)
  | [], _ :: _, h => h.elim
  | _ :: _, [], h => h.elim
theorem IsQ.ok {s : Str} (h : IsQ s) : PyData.strOk s = true := by
  unfold PyData.strOk
  rw [← Array.all_toList, List.all_eq_true]
  intro c hc
  have := (by decide +kernel : ∀ c ∈ signsL, c < 0x110000) c (h.al c hc)
  simpa using this
theorem lay_pairs : ∀ {ts : List Fm.Tm}, (∀ t ∈ ts, IsQ t.1) → PyData.canLayAll0 (ts.map fun p => PyData.tuple [.str p.1, .int p.2]) = true ∧ PyData.depthAll (ts.map fun p => PyData.tuple [.str p.1, .int p.2]) ≤ 1
  | [], _ => by simp [PyData.canLayAll0, PyData.depthAll]
  | t :: ts, h => by
    have ih := lay_pairs (ts := ts) fun z hz => h z (by simp [hz])
    have e := (h t (by simp)).ok
    refine ⟨by simp [PyData.canLayAll0, PyData.canLay0, ih.1, e], ?_⟩
    have := ih.2
    simp [PyData.depthAll, PyData.depth]
    omega
theorem shaped_pairs {ts : List Fm.Tm} (h : ∀ t ∈ ts, IsQ t.1) : SeqAt.shaped (.tuple (ts.map fun p => PyData.tuple [.str p.1, .int p.2])) = true := by
  have := lay_pairs h
  unfold SeqAt.shaped
  simp [PyData.canLay0, PyData.depth, this.1]
  omega
theorem eqv_nil {ts : List Fm.Tm} : PyData.eqv (.tuple (ts.map fun p => PyData.tuple [.str p.1, .int p.2])) (.tuple []) = decide (ts = []) := by
  rw [eqvT]
  cases ts with
  | nil => rfl
  | cons t ts => simp [PyData.eqvAll]
theorem dp_lines {K : PySem.W.Frag} {H : Hp} : ∀ {as : List Addr} {ls : List (List Fm.Tm)}, Each (TupAt H) as ls → DpAll K H (as.map V.ref) (ls.map fun ts => PyData.tuple (ts.map fun p => PyData.tuple [.str p.1, .int p.2]))
  | [], [], _ => .nil
  | a :: as, ts :: ls, h => by
    obtain ⟨bs, e, pt⟩ := h.1
    exact .cons (.tup (sqT_of e) (dp_pairs pt)) (dp_lines h.2)
  | [], _ :: _, h => h.elim
  | _ :: _, [], h => h.elim
theorem lay_lines : ∀ {ls : List (List Fm.Tm)}, (∀ ts ∈ ls, ∀ t ∈ ts, IsQ t.1) → PyData.canLayAll0 (ls.map fun ts => PyData.tuple (ts.map fun p => PyData.tuple [.str p.1, .int p.2])) = true ∧ PyData.depthAll (ls.map fun ts => PyData.tuple (ts.map fun p => PyData.tuple [.str p.1, .int p.2])) ≤ 2
  | [], _ => by simp [PyData.canLayAll0, PyData.depthAll]
  | ts :: ls, h => by
    have ih := lay_lines (ls := ls) fun z hz => h z (by simp [hz])
    have l := lay_pairs (h ts (by simp))
    refine ⟨by simp [PyData.canLayAll0, PyData.canLay0, ih.1, l.1], ?_⟩
    have := ih.2
    have := l.2
    simp [PyData.depthAll, PyData.depth]
    omega
theorem r_neLinesNil {K : PySem.W.Frag} {H : Hp} {Q : VK} {p q : Addr} {as : List Addr} {ls : List (List Fm.Tm)} (hp : H p = some (.lst (as.map V.ref))) (ha : Each (TupAt H) as ls) (hq : H q = some (.lst [])) (h : ∀ ts ∈ ls, ∀ t ∈ ts, IsQ t.1) (k : Q (.bl (!decide (ls = []))) H) : rNeD K (.ref p) (.ref q) H Q := by
  refine ⟨_, _, .lst (sqL_of hp) (dp_lines ha), .lst (sqL_of hq) .nil, ?_, by decide, ?_⟩
  · have l := lay_lines h
    unfold SeqAt.shaped
    simp [PyData.canLay0, PyData.depth, l.1]
    omega
  · have e : PyData.eqv (.list (ls.map fun ts => PyData.tuple (ts.map fun p => PyData.tuple [.str p.1, .int p.2]))) (.list []) = decide (ls = []) := by
      cases ls with
      | nil => rfl
      | cons t ts => simp [PyData.eqv, PyData.eqvAll]
    rw [e]; exact k
theorem r_eqPairsNil {K : PySem.W.Frag} {H : Hp} {Q : VK} {p q : Addr} {ts : List Fm.Tm} (hp : TupAt H p ts) (hq : H q = some (.tup [])) (h : ∀ t ∈ ts, IsQ t.1) (k : Q (.bl (decide (ts = []))) H) : rEqD K (.ref p) (.ref q) H Q := by
  obtain ⟨as, e, pt⟩ := hp
  exact ⟨_, _, .tup (sqT_of e) (dp_pairs pt), .tup (sqT_of hq) .nil, shaped_pairs h, by decide, by rw [eqv_nil]; exact k⟩
/-! ### lines -/
def LinesAt (H : Hp) (p : Addr) (ls : List (List Fm.Tm)) : Prop := ∃ as : List Addr, H p = some (.lst (as.map V.ref)) ∧ Each (TupAt H) as ls
theorem LinesAt.keep {H H' : Hp} {M : List Addr} {p : Addr} {ls : List (List Fm.Tm)} (h : LinesAt H p ls) (k : Keep M H H') (n : ∀ m ∈ M, ∃ xs, H m = some (.lst xs)) (hp : p ∉ M) : LinesAt H' p ls := by
  obtain ⟨as, e, pr⟩ := h
  exact ⟨as, k _ _ hp e, pr.mono fun _ _ h => h.keep k n⟩
theorem LinesAt.keep0 {H H' : Hp} {p : Addr} {ls : List (List Fm.Tm)} (h : LinesAt H p ls) (k : Keep [] H H') : LinesAt H' p ls := h.keep k (by simp) (by simp)
/-- a line over the names xs, its weights at most 10 ^ 22 times 4 ^ k -/
structure LOk (xs : List Str) (k : Nat) (ts : List Fm.Tm) : Prop where
  can : Fm.Canon ts
  nm : ∀ t ∈ ts, t.1 ∈ xs
  bd : ∀ x, (Fm.wt ts x).natAbs ≤ 10 ^ 22 * 4 ^ k
theorem LOk.len {xs : List Str} {k : Nat} {ts : List Fm.Tm} (h : LOk xs k ts) : ts.length ≤ xs.length := h.can.short h.nm
theorem LOk.wb {xs : List Str} {k : Nat} {ts : List Fm.Tm} (h : LOk xs k ts) {t : Fm.Tm} (m : t ∈ ts) : t.2.natAbs ≤ 10 ^ 22 * 4 ^ k := by rw [← h.can.wt_mem m]; exact h.bd _
theorem p4 {k : Nat} (h : k ≤ 11) : 10 ^ 22 * 4 ^ k < 2 ^ 97 := Nat.lt_of_le_of_lt (Nat.mul_le_mul_left _ (Nat.pow_le_pow_right (by omega) h)) (by decide)
theorem wt_bd {ts : List Fm.Tm} {n : Nat} (hl : ts.length ≤ n) (h : ∀ t ∈ ts, t.2.natAbs < 10 ^ 21) (x : Str) : (Fm.wt ts x).natAbs ≤ n * 10 ^ 21 := Nat.le_trans (Fm.wt_bound (fun t ht => Nat.le_of_lt (h t ht))) (Nat.mul_le_mul_right _ hl)
def spFree : Sp := fun vs H Q _ => ∃ (a b p : Addr) (sh : Int) (xs : List Str), vs = [.ref a, .ref b, .ref p, .int sh] ∧ BagAt a H ∧ BagAt b H ∧ a ≠ b ∧ NamesAt H p xs ∧ 1 ≤ xs.length ∧ xs.length ≤ 8 ∧
  ∀ (q : Addr) (ts : List Fm.Tm) (H' : Hp), Keep [a, b] H H' → BagAt a H' → BagAt b H' → H q = none → RowAt H' q ts → ts.length ≤ 9 → (∀ t ∈ ts, t.1 ∈ xs ∧ t.2.natAbs < 10 ^ 21) → Q (.ref q) H'
def spMixed : Sp := fun vs H Q _ => ∃ (p b : Addr) (sh : Int) (xs : List Str) (ls : List (List Fm.Tm)), vs = [.ref p, .ref b, .int sh] ∧ LinesAt H p ls ∧ BagAt b H ∧ p ≠ b ∧ xs.length ≤ 8 ∧ ls.length ≤ 10 ∧ (∀ k ts, ls[k]? = some ts → LOk xs k ts) ∧
  ∀ (q : Addr) (ts : List Fm.Tm) (H' : Hp), Keep [b] H H' → BagAt b H' → H q = none → RowAt H' q ts → ts.length ≤ 80 → (∀ t ∈ ts, t.1 ∈ xs) → (∀ x, (Fm.wt ts x).natAbs ≤ 10 ^ 22 * 4 ^ ls.length) → Q (.ref q) H'
theorem bags_keep {a b : Addr} {H : Hp} (ha : BagAt a H) (hb : BagAt b H) : ∀ m ∈ [a, b], ∃ xs, H m = some (.lst xs) := fun m hm => by
  rcases List.mem_cons.mp hm with rfl | hm
  · exact ha.lst _ (by simp)
  · exact hb.lst m hm
section
variable {P : Program} {w : World} {K : PySem.W.Frag} {mg : Str → Option Value} {base : Heap}
theorem ok_free (T : Tx K mg) (G_w_take : GTake P w K mg base T) (G_w_number : FnOk P w K mg base CX0 2 T.f_w_number T.fd_w_number ["_law_bag_here", "_law_shift"] spNum) : FnOk P w K mg base CX0 3 T.f_w_free T.fd_w_free ["_law_words", "_law_numbers", "_law_names_here", "_law_shift"] spFree := by
  refine T.F_w_free.ok sc_w_free (fun vs H Q E h => ?_) (fun cdv A outer s H vs Q E hr h => ?_)
  · obtain ⟨a, b, p, sh, xs, rfl, _⟩ := h; rfl
  · obtain ⟨a, b, p, sh, xs, rfl, ha, hb, ab, hp, l1, l8, q⟩ := h
    refine ⟨_, (pss_cons (ps_set (i := 4) sc_w_free.nd rfl (Or.inl rfl) (pe_lst pa_nil))
    (pss_cons (ps_for PassesOwn.never rfl (pi_range1 rfl T.m_range (pa_cons (pe_op op_mod (pe_callTy call_int1 (by rfl) T.m_int (by decide +kernel) (pa_cons (pe_op op_add (pe_call G_w_take (hr.mono (by decide)) rfl T.g_w_take T.F_w_take.kp T.b_w_take .nil pass0 (pa_cons (pv 0) (pa_cons (pe_op op_add (pe_callB call_len_seq (by rfl) T.m_len PySem.boot_len (pa_cons (pv 2) pa_nil)) pe_int) pa_nil))) pe_int) pa_nil)) (pe_op op_add (pe_callB call_len_seq (by rfl) T.m_len PySem.boot_len (pa_cons (pv 2) pa_nil)) pe_int)) pa_nil)) (pg_name (i := 5) sc_w_free.nd rfl (Or.inl rfl))
    (pss_cons (ps_set (i := 6) sc_w_free.nd rfl (Or.inl rfl) (pe_ix ix_list (pv 2) (pe_op op_mod (pe_callTy call_int1 (by rfl) T.m_int (by decide +kernel) (pa_cons (pe_op op_add (pe_op op_add (pe_call G_w_take (hr.mono (by decide)) rfl T.g_w_take T.F_w_take.kp T.b_w_take .nil pass0 (pa_cons (pv 0) (pa_cons (pe_callB call_len_seq (by rfl) T.m_len PySem.boot_len (pa_cons (pv 2) pa_nil)) pa_nil))) (pv 3)) (pv 5)) pa_nil)) (pe_callB call_len_seq (by rfl) T.m_len PySem.boot_len (pa_cons (pv 2) pa_nil))) (fun _ _ => rfl)))
    (pss_one (ps_expr (pe_bm PySem.F.plainAttrs_list PySem.F.slot_list_append PySem.F.type_list_append mt_append (pv 4) (pa_cons (pe_tup (pa_cons (pv 6) (pa_cons (pe_call G_w_number (hr.mono (by decide)) rfl T.g_w_number T.F_w_number.kp T.b_w_number .nil pass0 (pa_cons (pv 1) (pa_cons (pe_op op_add pe_int (pv 5)) pa_nil))) pa_nil))) pa_nil))))))
    (pss_one (ps_ret (pv 4))))), ?_⟩
    walk_at "start"
    walk_at "sts"
    intro r nr
    have k1 : Keep [] H (upd H r (.lst [])) := Keep.new nr
    have er : RowAt (upd H r (.lst [])) r [] := ⟨[], upd_same, trivial⟩
    have ra := ha.ne nr
    have rb := hb.ne nr
    have pr : p ≠ r := by rintro rfl; unfold NamesAt at hp; rw [nr] at hp; cases hp
    have pa : p ≠ a := by rintro rfl; obtain ⟨_, _, _, _, e, _⟩ := ha; unfold NamesAt at hp; rw [e] at hp; cases xs <;> simp at hp
    have pb : p ≠ b := by rintro rfl; obtain ⟨_, _, _, _, e, _⟩ := hb; unfold NamesAt at hp; rw [e] at hp; cases xs <;> simp at hp
    have ha1 := ha.keep0 k1
    have hb1 := hb.keep0 k1
    have hp1 : NamesAt (upd H r (.lst [])) p xs := k1 _ _ (by simp) hp
    generalize upd H r (.lst []) = H1 at k1 er ha1 hb1 hp1 ⊢
    walk_at "sts"
    simp only [List.length_map]
    refine r_takeB ha1 (by omega) (by omega) fun x H2 x0 x1 k2 ha2 => ?_
    have hb2 := hb1.keep k2 (by simpa using Ne.symm ab)
    have hp2 : NamesAt H2 p xs := k2 _ _ (by simpa using pa) hp1
    have er2 : RowAt H2 r [] := er.keep k2 (by intro m hm; exact ha1.lst m hm) (by simpa using ra)
    have k02 : Keep [a, b] H H2 := (k1.mono (by simp)).trans (k2.mono (by simp))
    walk_at "sts"
    simp only [List.length_map]
    have m0 := Int.emod_nonneg (x + 2) (show ((xs.length : Nat) : Int) + 2 ≠ 0 by omega)
    have m1 := Int.emod_lt_of_pos (x + 2) (show (0 : Int) < ((xs.length : Nat) : Int) + 2 by omega)
    generalize (x + 2) % (((xs.length : Nat) : Int) + 2) = n at m0 m1 ⊢
    refine forR1_go (fun i σ' H' => ∃ (ts : List Fm.Tm) (y1 y2 : Option V), σ' = [some (.ref a), some (.ref b), some (.ref p), some (.int sh), some (.ref r), y1, y2] ∧ Keep [a, b] H H' ∧ BagAt a H' ∧ BagAt b H' ∧ NamesAt H' p xs ∧ RowAt H' r ts ∧ ts.length = i ∧ ∀ t ∈ ts, t.1 ∈ xs ∧ t.2.natAbs < 10 ^ 21) (by omega) ⟨[], none, none, rfl, k02, ha2, hb2, hp2, er2, rfl, by simp⟩ ?_ ?_
    · rintro i σ' H3 hi ⟨ts, y1, y2, rfl, k3, ha3, hb3, hp3, er3, tl, tx⟩
      unfold NamesAt at hp3
      walk_at "sts"
      simp only [List.length_map]
      refine r_takeB ha3 (by omega) (by omega) fun u H4 u0 u1 k4 ha4 => ?_
      have hb4 := hb3.keep k4 (by simpa using Ne.symm ab)
      have hp4 : H4 p = some (.lst (xs.map V.str)) := k4 _ _ (by simpa using pa) hp3
      have er4 : RowAt H4 r ts := er3.keep k4 (by intro m hm; exact ha3.lst m hm) (by simpa using ra)
      have k34 := k3.trans (k4.mono (N := [a, b]) (by simp))
      walk_at "sts"
      simp only [List.length_map]
      have q0 := Int.emod_nonneg (u + sh + i) (show ((xs.length : Nat) : Int) ≠ 0 by omega)
      have q1 := Int.emod_lt_of_pos (u + sh + i) (show (0 : Int) < ((xs.length : Nat) : Int) by omega)
      refine r_I (by omega) ?_
      obtain ⟨z, hz, zm⟩ := atI_strs (xs := xs) q0 q1
      refine r_ixL (sqL_of hp4) hz ?_
      obtain ⟨rs, e4, pt4⟩ := er4
      walk_at "sts"
      refine r_num hb4 fun v H5 v0 k5 hb5 => ?_
      have ha5 := ha4.keep k5 (by simpa using ab)
      have hp5 : H5 p = some (.lst (xs.map V.str)) := k5 _ _ (by simpa using pb) hp4
      have e5 := k5 _ _ (by simpa using rb) e4
      have pt5 := pt4.keep k5 hb4.lst
      have k35 := k34.trans (k5.mono (N := [a, b]) (by simp))
      walk_at "sts"
      intro t nt
      have kt : Keep [] H5 (upd H5 t (.tup [.str z, .int v])) := Keep.new nt
      have et : upd H5 t (.tup [.str z, .int v]) t = some (.tup [.str z, .int v]) := upd_same
      have ha6 := ha5.keep0 kt
      have hb6 := hb5.keep0 kt
      have hp6 := kt _ _ (by simp) hp5
      have e6 := kt _ _ (by simp) e5
      have pt6 := pt5.keep0 kt
      have k36 := k35.trans (kt.mono (N := [a, b]) (by simp))
      generalize upd H5 t (.tup [.str z, .int v]) = H6 at et ha6 hb6 hp6 e6 pt6 k36 ⊢
      have rl : rs.length = ts.length := pt6.len
      walk_at "sts"
      have kr : Keep [r] H6 (upd H6 r (.lst (rs.map V.ref ++ [V.ref t]))) := Keep.at (by simp)
      have mr : ∀ m ∈ [r], ∃ ys, H6 m = some (.lst ys) := fun m hm => by rw [List.mem_singleton.mp hm]; exact ⟨_, e6⟩
      refine ⟨ts ++ [(z, v)], _, _, rfl, k36.mut nr, ha6.keep kr (by simpa using Ne.symm ra), hb6.keep kr (by simpa using Ne.symm rb), by unfold NamesAt; rw [upd_ne pr]; exact hp6, ⟨rs ++ [t], by rw [upd_same, List.map_append]; rfl, (pt6.app (bs := [t]) (us := [(z, v)]) ⟨et, trivial⟩).keep kr mr⟩, by simp [tl], fun t' ht' => ?_⟩
      rcases List.mem_append.mp ht' with ht' | ht'
      · exact tx t' ht'
      · rw [List.mem_singleton.mp ht']; exact ⟨zm, v0⟩
    · rintro σ' H3 ⟨ts, y1, y2, rfl, k3, ha3, hb3, hp3, er3, tl, tx⟩
      walk_at "sts"
      exact q r ts _ k3 ha3 hb3 nr er3 (by omega) tx
theorem ok_mixed (T : Tx K mg) (G_w_take : GTake P w K mg base T) : FnOk P w K mg base CX0 2 T.f_w_mixed T.fd_w_mixed ["_law_lines_here", "_law_numbers", "_law_shift"] spMixed := by
  refine T.F_w_mixed.ok sc_w_mixed (fun vs H Q E h => ?_) (fun cdv A outer s H vs Q E hr h => ?_)
  · obtain ⟨p, b, sh, xs, ls, rfl, _⟩ := h; rfl
  · obtain ⟨p, b, sh, xs, ls, rfl, ⟨as, hp, pr⟩, hb, pb, x8, l10, hl, q⟩ := h
    refine ⟨_, (pss_cons (ps_set (i := 3) sc_w_mixed.nd rfl (Or.inl rfl) (pe_lst pa_nil))
    (pss_cons (ps_for PassesOwn.never rfl (pi_enum (by rfl) T.m_enumerate (pa_cons (pv 0) pa_nil)) (pg_tup (n := 2) rfl (pgs_cons (pg_name (i := 4) sc_w_mixed.nd rfl (Or.inl rfl)) (pgs_cons (pg_name (i := 5) sc_w_mixed.nd rfl (Or.inl rfl)) pgs_nil)))
    (pss_cons (ps_set (i := 6) sc_w_mixed.nd rfl (Or.inr rfl) (pe_op op_sub (pe_op op_mod (pe_callTy call_int1 (by rfl) T.m_int (by decide +kernel) (pa_cons (pe_op op_add (pe_op op_add (pe_call G_w_take (hr.mono (by decide)) rfl T.g_w_take T.F_w_take.kp T.b_w_take .nil pass0 (pa_cons (pv 1) (pa_cons pe_int pa_nil))) (pv 2)) (pv 4)) pa_nil)) pe_int) pe_int))
    (pss_one (ps_set (i := 3) sc_w_mixed.nd rfl (Or.inl rfl) (pe_op op_cat (pv 3) (pe_lc (own := [("_law_name", 7), ("_law_weight", 8)]) (g := gTup K 2 (gCons (gName 7) (gCons (gName 8) gNil))) (tt := tYes) rfl sc_w_mixed.nd (pi_tup (pv 5)) (blkOk_by (own := [("_law_name", 7), ("_law_weight", 8)]) (N := ["_law_lines_here", "_law_numbers", "_law_shift", "_law_pairs", "_law_k", "_law_line", "_law_factor", "_law_name", "_law_weight"]) (sc := defScope s_w_mixed) (by decide +kernel)) (fun _ _ _ _ _ => pg_tup (n := 2) rfl (pgs_cons (pg_name (i := 7) sc_w_mixed.nd rfl (Or.inl rfl)) (pgs_cons (pg_name (i := 8) sc_w_mixed.nd rfl (Or.inl rfl)) pgs_nil))) (fun _ _ _ _ _ => pts_nil) (fun _ _ _ _ _ => (pe_tup (pa_cons (pv 7) (pa_cons (pe_op op_mulG (pv 8) (pv 6)) pa_nil))))))))))
    (pss_one (ps_ret (pv 3))))), ?_⟩
    walk_at "start"
    walk_at "sts"
    intro r nr
    have k1 : Keep [] H (upd H r (.lst [])) := Keep.new nr
    have er : RowAt (upd H r (.lst [])) r [] := ⟨[], upd_same, trivial⟩
    have hb1 := hb.keep0 k1
    generalize upd H r (.lst []) = H1 at k1 er hb1 ⊢
    walk_at "sts"
    refine Zm.r_forNL ?_
    walk_at "sts"
    have ml : ∀ m ∈ [b], ∃ xs, H m = some (.lst xs) := hb.lst
    refine Zm.forNL_go (fun i σ' H' => ∃ (r : Addr) (ts : List Fm.Tm) (y1 y2 y3 y4 y5 : Option V), σ' = [some (.ref p), some (.ref b), some (.int sh), some (.ref r), y1, y2, y3, y4, y5] ∧ Keep [b] H H' ∧ BagAt b H' ∧ H r = none ∧ RowAt H' r ts ∧ ts.length ≤ 8 * i ∧ (∀ t ∈ ts, t.1 ∈ xs) ∧ ∀ x, (Fm.wt ts x).natAbs + 10 ^ 22 ≤ 10 ^ 22 * 4 ^ i) (sqL_of (k1 _ _ (by simp) hp)) ⟨r, [], none, none, none, none, none, rfl, k1.mono (by simp), hb1, nr, er, by simp, by simp, fun x => by show 0 + 10 ^ 22 ≤ 10 ^ 22 * 4 ^ 0; decide⟩ (fun i σ' H' h => by obtain ⟨_, _, _, _, _, _, _, _, k, _⟩ := h; exact sqL_of (k _ _ (by simpa using pb) hp)) ?_ ?_
    · rintro i v T' σ' H2 hv ⟨r2, ts, y1, y2, y3, y4, y5, rfl, k2, hb2, nr2, er2, tl, tx, tw⟩ hT
      obtain ⟨a, ha, rfl⟩ := getRef hv
      obtain ⟨us, hus, bs, eu, pu⟩ := pr.get ha
      have lok := hl i us hus
      have il : i < ls.length := (List.getElem?_eq_some_iff.mp hus).1
      have kT : Keep [] H2 (upd H2 T' (.tup [.int (i : Nat), .ref a])) := Keep.new hT
      refine r_gTup2 (sqT_of upd_same) ?_
      simp only [List.set_cons_zero, List.set_cons_succ]
      have hb3 := hb2.keep0 kT
      have er3 := er2.keep0 kT
      have k23 := k2.trans (kT.mono (N := [b]) (by simp))
      generalize upd H2 T' (.tup [.int (i : Nat), .ref a]) = H3 at hb3 er3 k23 ⊢
      walk_at "sts"
      refine r_takeB hb3 (by omega) (by omega) fun u H4 u0 u1 k4 hb4 => ?_
      have rb : r2 ≠ b := by
        obtain ⟨_, _, _, _, e, _⟩ := hb
        rintro rfl; rw [nr2] at e; cases e
      have er4 : RowAt H4 r2 ts := er3.keep k4 hb3.lst (by simpa using rb)
      have k24 := k23.trans k4
      walk_at "sts"
      have f0 := Int.emod_nonneg (u + sh + i) (show (7 : Int) ≠ 0 by decide)
      have f1 := Int.emod_lt_of_pos (u + sh + i) (show (0 : Int) < 7 by decide)
      generalize (u + sh + (i : Nat)) % 7 = fm at f0 f1 ⊢
      obtain ⟨f, rfl⟩ : ∃ f : Int, fm = f + 3 := ⟨fm - 3, by omega⟩
      rw [show f + 3 - 3 = f by omega]
      have eu4 : H4 a = some (.tup (bs.map V.ref)) := k24 _ _ (by simp; rintro rfl; obtain ⟨_, _, _, _, e, _⟩ := hb; rw [eu] at e; cases e) eu
      have pu4 : PairsAt H4 bs us := pu.keep k24 ml
      have bl := pu.len
      have ulen := lok.len
      refine lcT_go (fun D j acc H' => ∃ cs : List Addr, acc = cs.map V.ref ∧ Keep [] H4 H' ∧ PairsAt H' cs (Fm.scl f (us.take j)) ∧ H4 D = none) (sqT_of eu4) (fun D hD => ⟨[], rfl, Keep.new hD, by simp [Fm.scl, PairsAt], hD⟩) (fun D j acc H' _ h => by obtain ⟨_, _, k, _⟩ := h; exact sqT_of (k _ _ (by simp) eu4)) ?_ ?_
      · rintro D j w' acc H5 hw hacc ⟨cs, rfl, k5, pc, nD⟩
        obtain ⟨a2, ha2, rfl⟩ := getRef hw
        obtain ⟨t, ht, et⟩ := pu4.get ha2
        have et5 := k5 _ _ (by simp) et
        have st : us.take (j + 1) = us.take j ++ [t] := take_snoc ht
        refine r_gTup2 (sqT_of et5) ⟨rfl, ?_⟩
        walk_at "sts"
        intro z nz
        rw [Int.mul_comm t.2 f]
        have k6 : Keep [] H5 (upd H5 z (.tup [.str t.1, .int (f * t.2)])) := Keep.new nz
        have ez : upd H5 z (.tup [.str t.1, .int (f * t.2)]) z = some (.tup [.str t.1, .int (f * t.2)]) := upd_same
        have hD6 := k6 _ _ (by simp) hacc
        have pc6 := pc.keep0 k6
        generalize upd H5 z (.tup [.str t.1, .int (f * t.2)]) = H6 at k6 ez hD6 pc6 ⊢
        have cl := pc6.len
        have jl : j < us.length := (List.getElem?_eq_some_iff.mp ht).1
        have cl2 : cs.length ≤ 8 := by rw [cl, Fm.scl, List.length_map, List.length_take]; omega
        have kD : Keep [D] H6 (upd H6 D (.lst (cs.map V.ref ++ [V.ref z]))) := Keep.at (by simp)
        refine lc_put hD6 (lt_size (by rw [List.length_map]; omega)) ⟨cs ++ [z], by rw [List.map_append]; rfl, (k5.trans k6).mut nD, ?_, nD⟩
        rw [st, Fm.scl, List.map_append]
        exact (pc6.app (bs := [z]) (us := [(t.1, f * t.2)]) ⟨ez, trivial⟩).keep kD fun m hm => by rw [List.mem_singleton.mp hm]; exact ⟨_, hD6⟩
      · rintro D acc H5 nD hacc ⟨cs, rfl, k5, pc, _⟩
        rw [List.length_map, bl, List.take_length] at pc
        obtain ⟨rs, er5, pr5⟩ := er4.keep0 k5
        have cl := pc.len
        have rl := pr5.len
        rw [Fm.scl, List.length_map] at cl
        walk_at "sts"
        refine r_cat er5 hacc (le_size (by simp only [List.length_map]; omega)) fun w' nw => ?_
        rw [← List.map_append]
        have kw : Keep [] H5 (upd H5 w' (.lst ((rs ++ cs).map V.ref))) := Keep.new nw
        have k25 := k24.trans ((k5.trans kw).mono (N := [b]) (by simp))
        walk_at "sts"
        refine ⟨w', ts ++ Fm.scl f us, _, _, _, _, _, rfl, k25, (hb4.keep0 k5).keep0 kw, ?_, ⟨rs ++ cs, upd_same, (pr5.app pc).keep0 kw⟩, by rw [List.length_append, Fm.scl, List.length_map]; omega, fun t ht => ?_, fun x => ?_⟩
        · exact (k24.trans (k5.mono (N := [b]) (by simp))).free (hb4.keep0 k5 |>.ne nw |> fun h => by simpa using h) nw
        · rcases List.mem_append.mp ht with ht | ht
          · exact tx t ht
          · obtain ⟨t', ht', rfl⟩ := List.mem_map.mp ht
            exact lok.nm t' ht'
        · rw [Fm.wt_append, Fm.wt_scl]
          have h1 := tw x
          have h2 := lok.bd x
          have h3 := Int.natAbs_add_le (Fm.wt ts x) (f * Fm.wt us x)
          have h4 : (f * Fm.wt us x).natAbs ≤ 3 * (10 ^ 22 * 4 ^ i) := by rw [Int.natAbs_mul]; exact Nat.mul_le_mul (by omega) h2
          have h5 : 10 ^ 22 * 4 ^ (i + 1) = 4 * (10 ^ 22 * 4 ^ i) := by rw [Nat.pow_succ]; omega
          omega
    · rintro σ' H2 ⟨r2, ts, y1, y2, y3, y4, y5, rfl, k2, hb2, nr2, er2, tl, tx, tw⟩
      rw [List.length_map, pr.len] at tl tw
      walk_at "sts"
      exact q r2 ts _ k2 hb2 nr2 er2 (by omega) tx fun x => by have := tw x; omega
end
/-! ### the lines drawn -/
def spLines : Sp := fun vs H Q _ => ∃ (a b p : Addr) (n tr : Int) (xs : List Str), vs = [.ref a, .ref b, .ref p, .int n, .int tr] ∧ BagAt a H ∧ BagAt b H ∧ a ≠ b ∧ NamesAt H p xs ∧ (∀ x ∈ xs, IsQ x) ∧ 1 ≤ xs.length ∧ xs.length ≤ 8 ∧ 0 ≤ n ∧ n ≤ 10 ∧
  ∀ (q : Addr) (ls : List (List Fm.Tm)) (H' : Hp), Keep [a, b] H H' → BagAt a H' → BagAt b H' → H q = none → LinesAt H' q ls → (ls.length : Int) = n → (∀ k ts, ls[k]? = some ts → LOk xs k ts) → Q (.ref q) H'
theorem names_ne {a p : Addr} {xs : List Str} {H : Hp} (hp : NamesAt H p xs) (ha : BagAt a H) : p ≠ a := by
  rintro rfl
  obtain ⟨_, _, _, _, e, _⟩ := ha
  unfold NamesAt at hp; rw [e] at hp; cases xs <;> simp at hp
theorem can_ok {xs : List Str} {k : Nat} {ts : List Fm.Tm} (hx : ∀ t ∈ ts, t.1 ∈ xs) (hb : ∀ x, (Fm.wt ts x).natAbs ≤ 10 ^ 22 * 4 ^ k) : LOk xs k (Fm.can ts) := ⟨Fm.can_canon _, fun t ht => by
  obtain ⟨⟨p, hp, e⟩, _⟩ := Fm.can_mem ht
  rw [← e]; exact hx p hp, fun x => by rw [Fm.can_wt]; exact hb x⟩
theorem free_bd {ts : List Fm.Tm} {xs : List Str} (hl : ts.length ≤ 9) (h : ∀ t ∈ ts, t.1 ∈ xs ∧ t.2.natAbs < 10 ^ 21) (k : Nat) (x : Str) : (Fm.wt ts x).natAbs ≤ 10 ^ 22 * 4 ^ k := by
  have := wt_bd hl (fun t ht => (h t ht).2) x
  have h4 : 10 ^ 22 * 1 ≤ 10 ^ 22 * 4 ^ k := Nat.mul_le_mul_left _ (Nat.one_le_pow _ _ (by omega))
  omega
section
variable {P : Program} {w : World} {K : PySem.W.Frag} {mg : Str → Option Value} {base : Heap}
theorem ok_lines (T : Tx K mg) (G_w_take : GTake P w K mg base T) (G_w_free : FnOk P w K mg base CX0 3 T.f_w_free T.fd_w_free ["_law_words", "_law_numbers", "_law_names_here", "_law_shift"] spFree) (G_w_mixed : FnOk P w K mg base CX0 2 T.f_w_mixed T.fd_w_mixed ["_law_lines_here", "_law_numbers", "_law_shift"] spMixed)
    (G_w_terms : FnOk P w K mg base CX0 1 T.f_w_terms T.fd_w_terms ["_law_pairs"] spTerms) : FnOk P w K mg base CX0 4 T.f_w_lines T.fd_w_lines ["_law_words", "_law_numbers", "_law_names_here", "_law_count", "_law_turn"] spLines := by
  refine T.F_w_lines.ok sc_w_lines (fun vs H Q E h => ?_) (fun cdv A outer s H vs Q E hr h => ?_)
  · obtain ⟨a, b, p, n, tr, xs, rfl, _⟩ := h; rfl
  · obtain ⟨a, b, p, n, tr, xs, rfl, ha, hb, ab, hp, xq, l1, l8, n0, n10, q⟩ := h
    refine ⟨_, (pss_cons (ps_set (i := 5) sc_w_lines.nd rfl (Or.inl rfl) (pe_lst pa_nil))
    (pss_cons (ps_for PassesOwn.never rfl (pi_range1 rfl T.m_range (pa_cons (pv 3) pa_nil)) (pg_name (i := 6) sc_w_lines.nd rfl (Or.inl rfl))
    (pss_cons (ps_set (i := 7) sc_w_lines.nd rfl (Or.inl rfl) (pe_call G_w_free (hr.mono (by decide)) rfl T.g_w_free T.F_w_free.kp T.b_w_free .nil pass0 (pa_cons (pv 0) (pa_cons (pv 1) (pa_cons (pv 2) (pa_cons (pv 6) pa_nil))))))
    (pss_cons (ps_set (i := 8) sc_w_lines.nd rfl (Or.inl rfl) (pe_op op_mod (pe_callTy call_int1 (by rfl) T.m_int (by decide +kernel) (pa_cons (pe_op op_add (pe_op op_add (pe_call G_w_take (hr.mono (by decide)) rfl T.g_w_take T.F_w_take.kp T.b_w_take .nil pass0 (pa_cons (pv 0) (pa_cons pe_int pa_nil))) (pv 4)) (pv 6)) pa_nil)) pe_int))
    (Evl.pss_cut (ps_if (pt_cmpR op_eq (pv 8) pe_int (nomark _))
    (pss_one (ps_set (i := 7) sc_w_lines.nd rfl (Or.inl rfl) (pe_call G_w_mixed (hr.mono (by decide)) rfl T.g_w_mixed T.F_w_mixed.kp T.b_w_mixed .nil pass0 (pa_cons (pv 5) (pa_cons (pv 1) (pa_cons pe_int pa_nil))))))
    pss_nil)
    (Evl.pss_cut (ps_if (PW.pt (pw_and (pt_cmpR op_eq (pv 8) pe_int (nomark _)) (pw_and1 (pt_cmpR (op_neD hr.units) (pv 5) (pe_lst pa_nil) (nomark _)))))
    (pss_one (ps_setLc (i := 7) (own := [("_law_name", 9), ("_law_weight", 10)]) (g := gTup K 2 (gCons (gName 9) (gCons (gName 10) gNil))) (tt := tYes) rfl sc_w_lines.nd rfl rfl (sw_true rfl rfl rfl (by decide +kernel)) (pi_tup (pe_ix ix_list (pv 5) (pe_un un_neg pe_int) (fun _ _ => rfl))) (blkOk_by (own := [("_law_name", 9), ("_law_weight", 10)]) (N := ["_law_words", "_law_numbers", "_law_names_here", "_law_count", "_law_turn", "_law_lines_here", "_law_k", "_law_pairs", "_law_way", "_law_name", "_law_weight"]) (sc := defScope s_w_lines) (by decide +kernel)) (fun _ _ _ _ _ => pg_tup (n := 2) rfl (pgs_cons (pg_name (i := 9) sc_w_lines.nd rfl (Or.inl rfl)) (pgs_cons (pg_name (i := 10) sc_w_lines.nd rfl (Or.inl rfl)) pgs_nil))) (fun _ _ _ _ _ => pts_nil) (fun _ _ _ _ _ => (pe_tup (pa_cons (pv 9) (pa_cons (pe_un un_neg (pv 10)) pa_nil))))))
    pss_nil)
    (pss_one (ps_expr (pe_bm PySem.F.plainAttrs_list PySem.F.slot_list_append PySem.F.type_list_append mt_append (pv 5) (pa_cons (pe_call G_w_terms (hr.mono (by decide)) rfl T.g_w_terms T.F_w_terms.kp T.b_w_terms .nil pass0 (pa_cons (pv 7) pa_nil)) pa_nil)))))))))
    (pss_one (ps_ret (pv 5))))), ?_⟩
    walk_at "start"
    walk_at "sts"
    intro r nr
    have k1 : Keep [] H (upd H r (.lst [])) := Keep.new nr
    have er : LinesAt (upd H r (.lst [])) r [] := ⟨[], upd_same, trivial⟩
    have ra := ha.ne nr
    have rb := hb.ne nr
    have pa := names_ne hp ha
    have pb := names_ne hp hb
    have pr : p ≠ r := by rintro rfl; unfold NamesAt at hp; rw [nr] at hp; cases hp
    have ha1 := ha.keep0 k1
    have hb1 := hb.keep0 k1
    have hp1 : NamesAt (upd H r (.lst [])) p xs := k1 _ _ (by simp) hp
    generalize upd H r (.lst []) = H1 at k1 er ha1 hb1 hp1 ⊢
    walk_at "sts"
    refine forR1_go (fun i σ' H' => ∃ (ls : List (List Fm.Tm)) (y1 y2 y3 y4 y5 : Option V), σ' = [some (.ref a), some (.ref b), some (.ref p), some (.int n), some (.int tr), some (.ref r), y1, y2, y3, y4, y5] ∧ Keep [a, b] H H' ∧ BagAt a H' ∧ BagAt b H' ∧ NamesAt H' p xs ∧ LinesAt H' r ls ∧ ls.length = i ∧ ∀ k ts, ls[k]? = some ts → LOk xs k ts) (by omega) ⟨[], none, none, none, none, none, rfl, k1.mono (by simp), ha1, hb1, hp1, er, rfl, by simp⟩ ?_ ?_
    · rintro i σ' H2 hi ⟨ls, y1, y2, y3, y4, y5, rfl, k2, ha2, hb2, hp2, er2, ll, lo⟩
      walk_at "sts"
      refine ⟨a, b, p, _, xs, rfl, ha2, hb2, ab, hp2, l1, l8, fun q1 ts H3 k3 ha3 hb3 nq1 eq1 tl tx => ?_⟩
      have hp3 : NamesAt H3 p xs := k3 _ _ (by simp [pa, pb]) hp2
      have er3 := er2.keep k3 (bags_keep ha2 hb2) (by simp [ra, rb])
      have k23 := k2.trans k3
      walk_at "sts"
      refine r_takeB ha3 (by omega) (by omega) fun u H4 u0 u1 k4 ha4 => ?_
      have hb4 := hb3.keep k4 (by simpa using Ne.symm ab)
      have hp4 : NamesAt H4 p xs := k4 _ _ (by simpa using pa) hp3
      have er4 := er3.keep k4 ha3.lst (by simpa using ra)
      have q1a : q1 ≠ a := ha2.ne nq1
      have q1b : q1 ≠ b := hb2.ne nq1
      have eq4 : RowAt H4 q1 ts := eq1.keep k4 ha3.lst (by simpa using q1a)
      have k24 := k23.trans (k4.mono (N := [a, b]) (by simp))
      have nqr : ∀ z, H2 z = none → z ≠ r := fun z hz => by obtain ⟨as, e, _⟩ := er2; rintro rfl; rw [e] at hz; cases hz
      walk_at "sts"
      generalize (u + tr + (i : Nat)) % 6 = wy
      let M : Option V → Hp → (List (Option V) → Hp → Prop) := fun _ _ => fun _ _ => True
      clear M
      refine r_cut (fun σ' H' => ∃ (q' : Addr) (ts' : List Fm.Tm), σ' = [some (.ref a), some (.ref b), some (.ref p), some (.int n), some (.int tr), some (.ref r), some (.int i), some (.ref q'), some (.int wy), y4, y5] ∧ Keep [a, b] H H' ∧ BagAt a H' ∧ BagAt b H' ∧ NamesAt H' p xs ∧ LinesAt H' r ls ∧ RowAt H' q' ts' ∧ ts'.length ≤ 100 ∧ (∀ t ∈ ts', t.1 ∈ xs) ∧ ∀ x, (Fm.wt ts' x).natAbs ≤ 10 ^ 22 * 4 ^ i) ?_ ?_
      · walk_at "sts"
        refine r_ite (fun c => ?_) (fun c => ?_)
        · walk_at "sts"
          refine ⟨r, b, 5, xs, ls, rfl, er4, hb4, fun h => rb h, l8, by omega, lo, fun q2 ts2 H5 k5 hb5 nq2 eq2 tl2 tx2 tw2 => ?_⟩
          have ha5 := ha4.keep k5 (by simpa using ab)
          have hp5 : NamesAt H5 p xs := k5 _ _ (by simpa using pb) hp4
          have er5 := er4.keep k5 hb4.lst (by simpa using rb)
          have k25 := k24.trans (k5.mono (N := [a, b]) (by simp))
          walk_at "sts"
          exact ⟨q2, ts2, rfl, k25, ha5, hb5, hp5, er5, eq2, by omega, tx2, by rw [← ll]; exact tw2⟩
        · walk_at "sts"
          exact ⟨q1, ts, rfl, k24, ha4, hb4, hp4, er4, eq4, by omega, fun t ht => (tx t ht).1, free_bd tl tx i⟩
      · rintro σ' H5 ⟨q2, ts2, rfl, k5, ha5, hb5, hp5, er5, eq5, tl2, tx2, tw2⟩
        refine r_cut (fun σ' H' => ∃ (q' : Addr) (ts' : List Fm.Tm) (y4 y5 : Option V), σ' = [some (.ref a), some (.ref b), some (.ref p), some (.int n), some (.int tr), some (.ref r), some (.int i), some (.ref q'), some (.int wy), y4, y5] ∧ Keep [a, b] H H' ∧ BagAt a H' ∧ BagAt b H' ∧ NamesAt H' p xs ∧ LinesAt H' r ls ∧ RowAt H' q' ts' ∧ ts'.length ≤ 100 ∧ (∀ t ∈ ts', t.1 ∈ xs) ∧ ∀ x, (Fm.wt ts' x).natAbs ≤ 10 ^ 22 * 4 ^ i) ?_ ?_
        · walk_at "sts"
          refine r_ite (fun c => ?_) (fun c => ?_)
          · walk_at "sts"
            intro d nd
            have kd : Keep [] H5 (upd H5 d (.lst [])) := Keep.new nd
            have ed : upd H5 d (.lst []) d = some (.lst []) := upd_same
            have ha6 := ha5.keep0 kd
            have hb6 := hb5.keep0 kd
            have hp6 : NamesAt (upd H5 d (.lst [])) p xs := kd _ _ (by simp) hp5
            have er6 := er5.keep0 kd
            have eq6 : RowAt (upd H5 d (.lst [])) q2 ts2 := eq5.keep kd (by simp) (by simp)
            have k6 := k5.trans (kd.mono (N := [a, b]) (by simp))
            generalize upd H5 d (.lst []) = H6 at ed ha6 hb6 hp6 er6 eq6 k6 ⊢
            obtain ⟨as6, e6, pr6⟩ := er6
            refine r_neLinesNil e6 pr6 ed (fun ts' hts' t ht => ?_) ?_
            · obtain ⟨k, hk, e⟩ := List.getElem_of_mem hts'
              exact xq _ ((lo k ts' (by rw [List.getElem?_eq_getElem hk, e])).nm t ht)
            · refine ⟨_, rfl, ?_⟩
              refine r_iteN (fun c2 => ?_) (fun c2 => ?_)
              · have l0 : 0 < ls.length := by rcases ls with _ | _ <;> simp at c2 ⊢
                have al := pr6.len
                obtain ⟨a6, ha6'⟩ : ∃ a6, as6[ls.length - 1]? = some a6 := ⟨_, List.getElem?_eq_getElem (by omega)⟩
                obtain ⟨us, hus, bs, eu, pu⟩ := pr6.get ha6'
                have lok := lo _ us hus
                walk_at "sts"
                refine r_ixL (sqL_of e6) (atI_m1 (by rw [List.getLast?_eq_getElem?, List.length_map, List.getElem?_map, show as6.length - 1 = ls.length - 1 by omega, ha6']; rfl)) ?_
                have bl := pu.len
                have ulen := lok.len
                refine lcT_go (fun D j acc H' => ∃ cs : List Addr, acc = cs.map V.ref ∧ Keep [] H6 H' ∧ PairsAt H' cs (Fm.scl (-1) (us.take j)) ∧ H6 D = none) (sqT_of eu) (fun D hD => ⟨[], rfl, Keep.new hD, by simp [Fm.scl, PairsAt], hD⟩) (fun D j acc H' _ h => by obtain ⟨_, _, k, _⟩ := h; exact sqT_of (k _ _ (by simp) eu)) ?_ ?_
                · rintro D j w' acc H7 hw hacc ⟨cs, rfl, k7, pc, nD⟩
                  obtain ⟨a2, ha2, rfl⟩ := getRef hw
                  obtain ⟨t, ht, et⟩ := pu.get ha2
                  have et5 := k7 _ _ (by simp) et
                  have st : us.take (j + 1) = us.take j ++ [t] := take_snoc ht
                  refine r_gTup2 (sqT_of et5) ⟨rfl, ?_⟩
                  walk_at "sts"
                  intro z nz
                  have en : -t.2 = -1 * t.2 := by omega
                  rw [en]
                  have k8 : Keep [] H7 (upd H7 z (.tup [.str t.1, .int (-1 * t.2)])) := Keep.new nz
                  have ez : upd H7 z (.tup [.str t.1, .int (-1 * t.2)]) z = some (.tup [.str t.1, .int (-1 * t.2)]) := upd_same
                  have hD6 := k8 _ _ (by simp) hacc
                  have pc6 := pc.keep0 k8
                  generalize upd H7 z (.tup [.str t.1, .int (-1 * t.2)]) = H8 at k8 ez hD6 pc6 ⊢
                  have cl := pc6.len
                  have jl : j < us.length := (List.getElem?_eq_some_iff.mp ht).1
                  have cl2 : cs.length ≤ 8 := by rw [cl, Fm.scl, List.length_map, List.length_take]; omega
                  have kD : Keep [D] H8 (upd H8 D (.lst (cs.map V.ref ++ [V.ref z]))) := Keep.at (by simp)
                  refine lc_put hD6 (lt_size (by rw [List.length_map]; omega)) ⟨cs ++ [z], by rw [List.map_append]; rfl, (k7.trans k8).mut nD, ?_, nD⟩
                  rw [st, Fm.scl, List.map_append]
                  exact (pc6.app (bs := [z]) (us := [(t.1, -1 * t.2)]) ⟨ez, trivial⟩).keep kD fun m hm => by rw [List.mem_singleton.mp hm]; exact ⟨_, hD6⟩
                · rintro D acc H7 nD hacc ⟨cs, rfl, k7, pc, _⟩
                  rw [List.length_map, bl, List.take_length] at pc
                  have k57 := k6.trans (k7.mono (N := [a, b]) (by simp))
                  walk_at "sts"
                  refine ⟨D, Fm.scl (-1) us, _, _, rfl, k57, ha6.keep0 k7, hb6.keep0 k7, k7 _ _ (by simp) hp6, LinesAt.keep0 ⟨as6, e6, pr6⟩ k7, ⟨cs, hacc, pc⟩, by rw [Fm.scl, List.length_map]; omega, fun t ht => ?_, fun x => ?_⟩
                  · obtain ⟨t', ht', rfl⟩ := List.mem_map.mp ht
                    exact lok.nm t' ht'
                  · rw [Fm.wt_scl, Int.natAbs_mul]
                    have h2 := lok.bd x
                    have h3 : 10 ^ 22 * 4 ^ (ls.length - 1) ≤ 10 ^ 22 * 4 ^ i := Nat.mul_le_mul_left _ (Nat.pow_le_pow_right (by omega) (by omega))
                    simp only [Int.natAbs_neg, Int.natAbs_one, Nat.one_mul]
                    omega
              · walk_at "sts"
                exact ⟨q2, ts2, _, _, rfl, k6, ha6, hb6, hp6, ⟨as6, e6, pr6⟩, eq6, tl2, tx2, tw2⟩
          · walk_at "sts"
            exact ⟨q2, ts2, _, _, rfl, k5, ha5, hb5, hp5, er5, eq5, tl2, tx2, tw2⟩
        · rintro σ' H6 ⟨q3, ts3, z4, z5, rfl, k6, ha6, hb6, hp6, er6, eq6, tl3, tx3, tw3⟩
          have e6 := er6
          obtain ⟨as6, e6, _⟩ := e6
          walk_at "sts"
          refine r_terms eq6 (by omega) tx3 (by omega) fun q4 H7 k7 nq4 eq4' => ?_
          have ha7 := ha6.keep0 k7
          have hb7 := hb6.keep0 k7
          have hp7 : NamesAt H7 p xs := k7 _ _ (by simp) hp6
          obtain ⟨as, e7, pr7⟩ := er6.keep0 k7
          have k67 := k6.trans (k7.mono (N := [a, b]) (by simp))
          have al := pr7.len
          walk_at "sts"
          have kr : Keep [r] H7 (upd H7 r (.lst (as.map V.ref ++ [V.ref q4]))) := Keep.at (by simp)
          have mr : ∀ m ∈ [r], ∃ ys, H7 m = some (.lst ys) := fun m hm => by rw [List.mem_singleton.mp hm]; exact ⟨_, e7⟩
          refine ⟨ls ++ [Fm.can ts3], _, _, _, _, _, rfl, k67.mut nr, ha7.keep kr (by simpa using Ne.symm ra), hb7.keep kr (by simpa using Ne.symm rb), by unfold NamesAt; rw [upd_ne pr]; exact hp7, ⟨as ++ [q4], by rw [upd_same, List.map_append]; rfl, ?_⟩, by simp [ll], fun k us hk => ?_⟩
          · exact (pr7.app (bs := [q4]) (ys := [Fm.can ts3]) ⟨eq4', trivial⟩).mono fun _ _ h => h.keep kr mr
          · by_cases hk2 : k < ls.length
            · rw [List.getElem?_append_left hk2] at hk; exact lo k us hk
            · have hk3 := (List.getElem?_eq_some_iff.mp hk).1
              rw [List.length_append, List.length_singleton] at hk3
              have e : k = ls.length := by omega
              subst e
              rw [List.getElem?_append_right (by omega), Nat.sub_self] at hk
              obtain rfl : Fm.can ts3 = us := by simpa using hk
              exact can_ok tx3 (by rw [ll]; exact tw3)
    · rintro σ' H2 ⟨ls, y1, y2, y3, y4, y5, rfl, k2, ha2, hb2, hp2, er2, ll, lo⟩
      walk_at "sts"
      exact q r ls _ k2 ha2 hb2 nr er2 (by omega) lo
end
/-! ### a form as it was given -/
def spIsForm (C : Addr) : Sp := fun vs H Q _ => ∃ (x q : Addr) (ts : List Fm.Tm) (c : Int), vs = [.ref x, .ref q, .int c] ∧ FormAt C H x ts c ∧ TupAt H q ts ∧ (∀ t ∈ ts, IsQ t.1) ∧ Q (.bl true) H
theorem r_neTups {K : PySem.W.Frag} {H : Hp} {Q : VK} {p q : Addr} {ts : List Fm.Tm} (hp : TupX H p ts) (hq : TupAt H q ts) (h : ∀ t ∈ ts, IsQ t.1) (k : Q (.bl false) H) : rNeD K (.ref p) (.ref q) H Q := by
  obtain ⟨as, o, ea, od, pa⟩ := hp
  obtain ⟨bs, eb, pb⟩ := hq
  refine ⟨_, _, .tup (TupX.sq ea) (dp_pairs pa), .tup (sqT_of eb) (dp_pairs pb), shaped_pairs h, shaped_pairs h, ?_⟩
  rw [SeqAt.eqv_refl _ (SeqAt.canLay_of_shaped (shaped_pairs h))]
  exact k
section
variable {P : Program} {w : World} {K : PySem.W.Frag} {mg : Str → Option Value} {base : Heap}
theorem ok_is_form (T : Tx K mg) (G_w_is_int : FnOk P w K mg base CX0 1 T.f_w_is_int T.fd_w_is_int ["_law_found"] spIsInt) : FnOk P w K mg base CX0 2 T.f_w_is_form T.fd_w_is_form ["_law_found", "_law_terms_here", "_law_constant"] (spIsForm T.C_Form) := by
  refine T.F_w_is_form.ok sc_w_is_form (fun vs H Q E h => ?_) (fun cdv A outer s H vs Q E hr h => ?_)
  · obtain ⟨x, q, ts, c, rfl, _⟩ := h; rfl
  · obtain ⟨x, q, ts, c, rfl, fx, tq, iq, k⟩ := h
    have oc := T.oc_Form
    have na := T.na_Form_terms
    have nc := T.na_Form_constant
    obtain ⟨dx, t, ex, tx⟩ := fx
    have tx' := tx
    obtain ⟨as, o, et, od, pt⟩ := tx'
    refine ⟨_, (pss_cons (ps_if (PW.pt (pw_or (pt_not (pt_val (pe_callB call_isi (by rfl) T.m_isinstance (by decide +kernel) (pa_cons (pv 0) (pa_cons (pe_glob (v := .ref T.C_Form) rfl T.gC_Form rfl) pa_nil))))) (pw_or (pt_not (pt_val (pe_callB call_isi (by rfl) T.m_isinstance (by decide +kernel) (pa_cons (pe_fld (pv 0) rfl) (pa_cons (pe_bltn (v := .ty "tuple") (by rfl) T.m_tuple (by decide +kernel) rfl) pa_nil))))) (pw_or1 (pt_cmpR (op_neD hr.units) (pe_fld (pv 0) rfl) (pv 1) (nomark _))))))
    (pss_one (ps_ret pe_bl))
    pss_nil)
    (pss_one (ps_ret (pe_and (pe_call G_w_is_int (hr.mono (by decide)) rfl T.g_w_is_int T.F_w_is_int.kp T.b_w_is_int .nil pass0 (pa_cons (pe_fld (pv 0) rfl) pa_nil)) (pe_one (pe_cmpR op_eq (pe_fld (pv 0) rfl) (pv 2) (nomark _))))))), ?_⟩
    walk_at "start"
    walk_at "sts"
    refine Ow.r_isiOwn oc ex ?_
    refine ⟨_, rfl, ?_⟩
    walk_at "sts"
    refine r_isi (.fTuple et) kit_tt ?_
    refine ⟨_, rfl, ?_⟩
    walk_at "sts"
    refine r_neTups tx tq iq ?_
    walk_at "sts"
    refine r_isInt ?_
    walk_at "sts"
    simpa using k
end
/-! ### the greatest common divisor of a row -/
def gcdL (ws : List Int) : Nat := ws.foldl (fun g w => Nat.gcd g w.natAbs) 0
theorem gcdL_snoc {ws : List Int} {w : Int} : gcdL (ws ++ [w]) = Nat.gcd (gcdL ws) w.natAbs := by unfold gcdL; rw [List.foldl_append]; rfl
theorem fold_dvd : ∀ (ws : List Int) (g : Nat), ws.foldl (fun g w => Nat.gcd g w.natAbs) g ∣ g ∧ ∀ w ∈ ws, ws.foldl (fun g w => Nat.gcd g w.natAbs) g ∣ w.natAbs
  | [], g => ⟨Nat.dvd_refl _, by simp⟩
  | w :: ws, g => by
    obtain ⟨h1, h2⟩ := fold_dvd ws (Nat.gcd g w.natAbs)
    refine ⟨Nat.dvd_trans h1 (Nat.gcd_dvd_left _ _), fun v hv => ?_⟩
    rcases List.mem_cons.mp hv with rfl | hv
    · exact Nat.dvd_trans h1 (Nat.gcd_dvd_right _ _)
    · exact h2 v hv
theorem gcdL_dvd {ws : List Int} {w : Int} (h : w ∈ ws) : ((gcdL ws : Nat) : Int) ∣ w := Int.ofNat_dvd_left.mpr ((fold_dvd ws 0).2 w h)
theorem gcdL_one {ws : List Int} (h : ∀ g : Int, (∀ w ∈ ws, g ∣ w) → g ∣ 1) : gcdL ws = 1 := by
  have := h (gcdL ws : Nat) fun w hw => gcdL_dvd hw
  have := Int.ofNat_dvd_left.mp this
  simpa using this
theorem eu_half {f x B : Nat} {i n : Nat} (hx : 0 < x) (xf : x < f) (h : f * 2 ^ i < 2 ^ n) : (f % x) * 2 ^ (i + 1) < 2 ^ n := by
  have e := Nat.mod_add_div f x
  have m := Nat.mod_lt f hx
  have d : 1 ≤ f / x := Nat.div_pos (Nat.le_of_lt xf) hx
  have q : x ≤ x * (f / x) := Nat.le_mul_of_pos_right x d
  have t : 2 * (f % x) ≤ f := by omega
  have : 2 * (f % x) * 2 ^ i ≤ f * 2 ^ i := Nat.mul_le_mul_right _ t
  rw [Nat.pow_succ]
  have e2 : f % x * (2 ^ i * 2) = 2 * (f % x) * 2 ^ i := by rw [Nat.mul_comm (2 ^ i) 2, ← Nat.mul_assoc, Nat.mul_comm (f % x) 2]
  omega
/-- what stands after i turns -/
structure Eu (g v n i f x : Nat) : Prop where
  gcd : Nat.gcd f x = Nat.gcd g v
  xb : x * 2 ^ (i / 2) < 2 ^ n
  lt : 0 < i → x < f
  fb : 0 < i → f * 2 ^ ((i - 1) / 2) < 2 ^ n
theorem Eu.init {g v n : Nat} (h : v < 2 ^ n) : Eu g v n 0 g v := ⟨rfl, by simpa using h, by omega, by omega⟩
theorem Eu.step {g v n i f x : Nat} (e : Eu g v n i f x) (hx : 0 < x) : Eu g v n (i + 1) x (f % x) := by
  refine ⟨by rw [← e.gcd, Nat.gcd_comm f x, Nat.gcd_rec x f, Nat.gcd_comm], ?_, fun _ => Nat.mod_lt _ hx, fun _ => by rw [Nat.add_sub_cancel]; exact e.xb⟩
  by_cases i0 : i = 0
  · subst i0
    have := e.xb
    have m := Nat.mod_lt f hx
    simp at this ⊢
    omega
  · have := eu_half (B := 0) hx (e.lt (by omega)) (e.fb (by omega))
    rwa [show (i + 1) / 2 = (i - 1) / 2 + 1 by omega]
theorem Eu.fin {g v n f x : Nat} (e : Eu g v n (2 * n + 2) f x) : x = 0 := by
  have := e.xb
  rw [show (2 * n + 2) / 2 = n + 1 by omega, Nat.pow_succ] at this
  rcases Nat.eq_zero_or_pos x with h | h
  · exact h
  · have := Nat.mul_le_mul_right (2 ^ n * 2) h
    have := Nat.two_pow_pos n
    omega
theorem Eu.end_ {g v n i f x : Nat} (e : Eu g v n i f x) (h : x = 0) : f = Nat.gcd g v := by rw [← e.gcd, h, Nat.gcd_zero_right]
def spDivisor : Sp := fun vs H Q _ => ∃ (p : Addr) (ws : List Int), vs = [.ref p] ∧ H p = some (.lst (ws.map V.int)) ∧ (∀ w ∈ ws, w.natAbs < 2 ^ 4000) ∧ Q (.int (gcdL ws : Nat)) H
theorem bits_lt {v : Int} (h : v.natAbs < 2 ^ 4000) : v.natAbs < 2 ^ 4000 := h
section
variable {P : Program} {w : World} {K : PySem.W.Frag} {mg : Str → Option Value} {base : Heap}
theorem ok_divisor (T : Tx K mg) : FnOk P w K mg base CX0 1 T.f_w_divisor T.fd_w_divisor ["_law_numbers"] spDivisor := by
  refine T.F_w_divisor.ok sc_w_divisor (fun vs H Q E h => ?_) (fun cdv A outer s H vs Q E hr h => ?_)
  · obtain ⟨p, ws, rfl, _⟩ := h; rfl
  · obtain ⟨p, ws, rfl, hp, hw, q⟩ := h
    refine ⟨_, (pss_cons (ps_set (i := 1) sc_w_divisor.nd rfl (Or.inl rfl) pe_int)
    (pss_cons (ps_for PassesOwn.never rfl (pi_list (pv 0)) (pg_name (i := 2) sc_w_divisor.nd rfl (Or.inl rfl))
    (pss_cons (ps_set (i := 3) sc_w_divisor.nd rfl (Or.inl rfl) (pe_callB call_abs (by rfl) T.m_abs (by decide +kernel) (pa_cons (pv 2) pa_nil)))
    (pss_one (ps_for PassesOwn.never rfl (pi_range1 rfl T.m_range (pa_cons (pe_op op_add (pe_op op_mul pe_int (pe_bits (pe_callB call_abs (by rfl) T.m_abs (by decide +kernel) (pa_cons (pv 2) pa_nil)))) pe_int) pa_nil)) (pg_name (i := 4) sc_w_divisor.nd rfl (Or.inl rfl))
    (pss_cons (ps_if (pt_cmpR op_eq (pv 3) pe_int (nomark _))
    (pss_one ps_break)
    pss_nil)
    (pss_one (ps_par (i := 1) (j := 3) (by rfl) sc_w_divisor.nd rfl rfl (by decide) rfl rfl (pa_cons (pv 3) (pa_cons (pe_op op_mod (pe_callTy call_int1 (by rfl) T.m_int (by decide +kernel) (pa_cons (pv 1) pa_nil)) (pv 3)) pa_nil)) (by rfl))))))))
    (pss_one (ps_ret (pv 1))))), ?_⟩
    walk_at "start"
    walk_at "sts"
    refine forL_go (fun i σ' H' => ∃ y1 y2 y3 : Option V, σ' = [some (.ref p), some (.int (gcdL (ws.take i) : Nat)), y1, y2, y3] ∧ H' = H) (sqL_of hp) ⟨none, none, none, rfl, rfl⟩ (fun i σ' H' _ h => by obtain ⟨_, _, _, _, rfl⟩ := h; exact sqL_of hp) ?_ ?_
    · rintro i x σ' H2 hx ⟨y1, y2, y3, rfl, rfl⟩
      rw [List.getElem?_map] at hx
      obtain ⟨v, hv, rfl⟩ := Option.map_eq_some_iff.mp hx
      have vb := hw v (List.mem_of_getElem? hv)
      rw [take_snoc hv, gcdL_snoc]
      generalize gcdL (ws.take i) = g
      walk_at "sts"
      unfold tBits
      walk_at "sts"
      have bn : Builtin.Int.intBits ((v.natAbs : Nat) : Int) ≤ 4000 := PySem.intBits_le_iff.mpr (by simpa using vb)
      have vn : v.natAbs < 2 ^ Builtin.Int.intBits ((v.natAbs : Nat) : Int) := by have := PySem.intBits_le_iff.mp (Nat.le_refl (Builtin.Int.intBits ((v.natAbs : Nat) : Int))); simpa using this
      generalize Builtin.Int.intBits ((v.natAbs : Nat) : Int) = n at bn vn ⊢
      have hb : -(2 ^ 62) ≤ 2 * (n : Int) + 2 ∧ 2 * (n : Int) + 2 < 2 ^ 62 := ⟨by omega, by omega⟩
      refine forR1_go (j := 2 * (n : Int) + 2) (fun j σ' H' => ∃ (f x : Nat) (y : Option V), σ' = [some (.ref p), some (.int (f : Nat)), some (.int v), some (.int (x : Nat)), y] ∧ H' = H2 ∧ Eu g v.natAbs n j f x) hb ⟨g, v.natAbs, y3, rfl, rfl, Eu.init vn⟩ ?_ ?_
      · rintro j σ' H3 hj ⟨f, x, y, rfl, rfl, eu⟩
        walk_at "sts"
        refine r_ite (fun c => ?_) (fun c => ?_)
        · walk_at "sts"
          exact ⟨_, _, _, by rw [eu.end_ (by omega)], rfl⟩
        · walk_at "sts"
          exact ⟨x, f % x, _, rfl, rfl, eu.step (by omega)⟩
      · rintro σ' H3 ⟨f, x, y, rfl, rfl, eu⟩
        rw [show (2 * (n : Int) + 2).toNat = 2 * n + 2 by omega] at eu
        exact ⟨_, _, _, by rw [eu.end_ eu.fin], rfl⟩
    · rintro σ' H2 ⟨y1, y2, y3, rfl, rfl⟩
      rw [List.length_map, List.take_length]
      walk_at "sts"
      exact q
end
/-! ### what a line changes by -/
theorem rs_gt {R : Str → Int} {x : Str} : ∀ {ys : List Str}, x ∈ ys → gt (ys.map fun y => (Sum.inr y, R y)) (Sum.inr x) = R x
  | y :: ys, h => by
    rw [List.map_cons, gt]
    by_cases c : y = x
    · subst c; rw [if_pos rfl]
    · rw [if_neg (by simpa using c)]
      exact rs_gt (by simpa [Ne.symm c] using h)
theorem rs_key {R : Str → Int} {x : Str} {ys : List Str} (h : x ∈ ys) : (Sum.inr x : Key) ∈ keysK (ys.map fun y => (Sum.inr y, R y)) := by
  unfold keysK
  rw [List.map_map]
  exact List.mem_map.mpr ⟨x, h, rfl⟩
theorem r_rsGet {H : Hp} {Q : VK} {d : Addr} {ys : List Str} {R : Str → Int} {x : Str} (h : RsAt H d ys R) (hx : x ∈ ys) (k : Q (.int (R x)) H) : rDGet (.ref d) (.str x) H Q := r_dgetKS (k := Sum.inr x) h.1 (by rw [val_kd, if_pos (rs_key hx), rs_gt hx]) k
theorem RsAt.keep0 {H H' : Hp} {d : Addr} {ys : List Str} {R : Str → Int} (h : RsAt H d ys R) (k : Keep [] H H') : RsAt H' d ys R := ⟨h.1.keep0 k, h.2⟩
def spChange : Sp := fun vs H Q _ => ∃ (p d : Addr) (ts : List Fm.Tm) (ys : List Str) (R : Str → Int), vs = [.ref p, .ref d] ∧ TupAt H p ts ∧ RsAt H d ys R ∧ ts.length ≤ 60 ∧ (∀ t ∈ ts, t.1 ∈ ys) ∧ (∀ t ∈ ts, t.2.natAbs < 2 ^ 200) ∧ (∀ y ∈ ys, (R y).natAbs < 2 ^ 4000) ∧ ∀ H', Keep [] H H' → Q (.int (Fm.lin ts R)) H'
section
variable {P : Program} {w : World} {K : PySem.W.Frag} {mg : Str → Option Value} {base : Heap}
theorem ok_change (T : Tx K mg) : FnOk P w K mg base CX0 1 T.f_w_change T.fd_w_change ["_law_line", "_law_moves"] spChange := by
  refine T.F_w_change.ok sc_w_change (fun vs H Q E h => ?_) (fun cdv A outer s H vs Q E hr h => ?_)
  · obtain ⟨p, d, ts, ys, R, rfl, _⟩ := h; rfl
  · obtain ⟨p, d, ts, ys, R, rfl, tp, rs, l60, tx, tb, rb, q⟩ := h
    obtain ⟨as, ep, pt⟩ := tp
    refine ⟨_, (pss_one (ps_ret (pe_callB (cr_sum rfl) (by rfl) T.m_sum (by decide +kernel) (pa_cons (pe_lc (own := [("_law_name", 2), ("_law_weight", 3)]) (g := gTup K 2 (gCons (gName 2) (gCons (gName 3) gNil))) (tt := tYes) rfl sc_w_change.nd (pi_tup (pv 0)) (blkOk_by (own := [("_law_name", 2), ("_law_weight", 3)]) (N := ["_law_line", "_law_moves", "_law_name", "_law_weight"]) (sc := defScope s_w_change) (by decide +kernel)) (fun _ _ _ _ _ => pg_tup (n := 2) rfl (pgs_cons (pg_name (i := 2) sc_w_change.nd rfl (Or.inl rfl)) (pgs_cons (pg_name (i := 3) sc_w_change.nd rfl (Or.inl rfl)) pgs_nil))) (fun _ _ _ _ _ => pts_nil) (fun _ _ _ _ _ => (pe_op op_mulG (pv 3) (pe_dget (hu_of hr) (pv 1) (pv 2) (fun _ _ => rfl))))) pa_nil)))), ?_⟩
    walk_at "start"
    walk_at "sts"
    refine lcT_go (fun D i acc H' => acc = ((ts.take i).map fun t => t.2 * R t.1).map V.int ∧ Keep [] H H' ∧ H D = none) (sqT_of ep) (fun D hD => ⟨rfl, Keep.new hD, hD⟩) (fun D i acc H' _ h => sqT_of (h.2.1 _ _ (by simp) ep)) ?_ ?_
    · rintro D i x acc H2 hx hacc ⟨rfl, k2, nD⟩
      obtain ⟨a, ha, rfl⟩ := getRef hx
      obtain ⟨t, ht, et⟩ := pt.get ha
      have tm := List.mem_of_getElem? ht
      refine r_gTup2 (sqT_of (k2 _ _ (by simp) et)) ⟨rfl, ?_⟩
      have rs2 := rs.keep0 k2
      walk_at "sts"
      refine r_rsGet rs2 (tx t tm) ?_
      have il : i < ts.length := (List.getElem?_eq_some_iff.mp ht).1
      refine r_I (mulw 200 4000 (tb t tm) (rb _ (tx t tm))) ?_
      refine lc_put hacc (lt_size (by rw [List.length_map, List.length_map, List.length_take]; omega)) ⟨?_, k2.mut nD, nD⟩
      rw [take_snoc ht]; simp
    · rintro D acc H2 nD hacc ⟨rfl, k2, _⟩
      rw [List.length_map, pt.len, List.take_length] at hacc
      walk_at "sts"
      refine r_sum (sqL_of hacc) ?_
      exact q _ k2
end
/-! ### the quantities of lines and target -/
def spQuants : Sp := fun vs H Q _ => ∃ (p q : Addr) (ls : List (List Fm.Tm)) (t : List Fm.Tm), vs = [.ref p, .ref q] ∧ LinesAt H p ls ∧ TupAt H q t ∧ (∀ ts ∈ ls ++ [t], Fm.Canon ts) ∧ (∀ ts ∈ ls ++ [t], ∀ p ∈ ts, IsQ p.1) ∧ (nmL (ls ++ [t])).length ≤ 60 ∧ ls.length ≤ 60 ∧
  ∀ (r : Addr) (ys : List Str) (H' : Hp), Keep [] H H' → H r = none → H' r = some (.lst (ys.map V.str)) → ys.Nodup → (∀ x, x ∈ ys ↔ x ∈ nmL (ls ++ [t])) → Q (.ref r) H'
section
variable {P : Program} {w : World} {K : PySem.W.Frag} {mg : Str → Option Value} {base : Heap}
theorem ok_quants (T : Tx K mg) : FnOk P w K mg base CX0 1 T.f_w_quantities T.fd_w_quantities ["_law_lines_here", "_law_target_here"] spQuants := by
  refine T.F_w_quantities.ok sc_w_quantities (fun vs H Q E h => ?_) (fun cdv A outer s H vs Q E hr h => ?_)
  · obtain ⟨p, q, ls, t, rfl, _⟩ := h; rfl
  · obtain ⟨p, q, ls, t, rfl, lp, tq, can, iq, l60, m60, k⟩ := h
    refine ⟨_, (pss_cons (ps_set (i := 2) sc_w_quantities.nd rfl (Or.inl rfl) (pe_lst pa_nil))
    (pss_cons (ps_for PassesOwn.never rfl (pi_list (pe_op op_cat (pv 0) (pe_lst (pa_cons (pv 1) pa_nil)))) (pg_name (i := 3) sc_w_quantities.nd rfl (Or.inl rfl))
    (pss_one (ps_for PassesOwn.never rfl (pi_tup (pv 3)) (pg_tup (n := 2) rfl (pgs_cons (pg_name (i := 4) sc_w_quantities.nd rfl (Or.inl rfl)) (pgs_cons (pg_name (i := 5) sc_w_quantities.nd rfl (Or.inl rfl)) pgs_nil)))
    (pss_one (ps_if (PW.pt (pw_and (pt_cmpR op_ne (pv 5) pe_int (nomark _)) (pw_and1 (pt_cmpR op_notIn_seq (pv 4) (pv 2) (by rfl)))))
    (pss_one (ps_expr (pe_bm PySem.F.plainAttrs_list PySem.F.slot_list_append PySem.F.type_list_append mt_append (pv 2) (pa_cons (pv 4) pa_nil))))
    pss_nil)))))
    (pss_one (ps_ret (pv 2))))), ?_⟩
    walk_at "start"
    walk_at "sts"
    intro r nr
    have k1 : Keep [] H (upd H r (.lst [])) := Keep.new nr
    have er : upd H r (.lst []) r = some (.lst (([] : List Str).map V.str)) := upd_same
    obtain ⟨as, ep, pp⟩ := lp.keep0 k1
    have tq1 := tq.keep0 k1
    generalize upd H r (.lst []) = H1 at k1 er ep pp tq1 ⊢
    walk_at "sts"
    intro s1 ns1
    have k2 : Keep [] H1 (upd H1 s1 (.lst [.ref q])) := Keep.new ns1
    have es1 : upd H1 s1 (.lst [.ref q]) s1 = some (.lst (([q] : List Addr).map V.ref)) := upd_same
    have ep2 := k2 _ _ (by simp) ep
    have er2 := k2 _ _ (by simp) er
    have pp2 := pp.mono fun _ _ h => TupAt.keep0 h k2
    have tq2 := tq1.keep0 k2
    have k12 := k1.trans k2
    generalize upd H1 s1 (.lst [.ref q]) = H2 at es1 ep2 er2 pp2 tq2 k12 ⊢
    have al := pp2.len
    walk_at "sts"
    refine r_cat ep2 es1 (le_size (by simp only [List.length_map, List.length_cons, List.length_nil]; omega)) fun w' nw => ?_
    rw [← List.map_append]
    have k3 : Keep [] H2 (upd H2 w' (.lst ((as ++ [q]).map V.ref))) := Keep.new nw
    have ew : upd H2 w' (.lst ((as ++ [q]).map V.ref)) w' = some (.lst ((as ++ [q]).map V.ref)) := upd_same
    have er3 := k3 _ _ (by simp) er2
    have pw : Each (TupAt (upd H2 w' (.lst ((as ++ [q]).map V.ref)))) (as ++ [q]) (ls ++ [t]) := Each.app (bs := [q]) (ys := [t]) (pp2.mono fun _ _ h => TupAt.keep0 h k3) ⟨tq2.keep0 k3, trivial⟩
    have k13 := k12.trans k3
    have nwr : w' ≠ r := by rintro rfl; rw [er2] at nw; cases nw
    generalize upd H2 w' (.lst ((as ++ [q]).map V.ref)) = H3 at ew er3 pw k13 ⊢
    generalize ls ++ [t] = L at can iq l60 pw k ⊢
    have wl := pw.len
    have lenB : ∀ ns : List Str, ns.Nodup → (∀ x ∈ ns, x ∈ nmL L) → ns.length ≤ 60 := fun ns nd h => Nat.le_trans (Fm.nodup_len nd h) l60
    have mr : ∀ {Hx : Hp} {ns : List Str}, Hx r = some (.lst (ns.map V.str)) → ∀ m ∈ [r], ∃ ys, Hx m = some (.lst ys) := fun {Hx ns} e m hm => by rw [List.mem_singleton.mp hm]; exact ⟨_, e⟩
    refine forL_go (fun i σ' H' => ∃ (ns : List Str) (y1 y2 y3 : Option V), σ' = [some (.ref p), some (.ref q), some (.ref r), y1, y2, y3] ∧ Keep [] H H' ∧ H' r = some (.lst (ns.map V.str)) ∧ H' w' = some (.lst ((as ++ [q]).map V.ref)) ∧ Each (TupAt H') (as ++ [q]) L ∧ ns.Nodup ∧ ∀ x, x ∈ ns ↔ x ∈ namesL (L.take i)) (sqL_of ew) ⟨[], none, none, none, rfl, k13, er3, ew, pw, List.nodup_nil, by simp [namesL]⟩ (fun i σ' H' _ h => by obtain ⟨_, _, _, _, _, _, _, e, _⟩ := h; exact sqL_of e) ?_ ?_
    · rintro i x σ' H4 hx ⟨ns, y1, y2, y3, rfl, k4, er4, ew4, pw4, nd, mem⟩
      obtain ⟨a, ha, rfl⟩ := getRef hx
      obtain ⟨us, hus, bs, eb, pb⟩ := pw4.get ha
      have um := List.mem_of_getElem? hus
      have st : L.take (i + 1) = L.take i ++ [us] := take_snoc hus
      have nL : ∀ x, x ∈ namesL (L.take (i + 1)) ↔ x ∈ namesL (L.take i) ∨ x ∈ us.map (·.1) := fun x => by rw [st]; unfold namesL; rw [List.flatMap_append, List.mem_append]; simp
      have nI : ∀ x, x ∈ namesL (L.take (i + 1)) → x ∈ nmL L := fun x h => mem_nmL.mpr (by
        unfold namesL at h ⊢
        obtain ⟨z, hz, h2⟩ := List.mem_flatMap.mp h
        exact List.mem_flatMap.mpr ⟨z, List.mem_of_mem_take hz, h2⟩)
      walk_at "sts"
      refine forT_go (fun j σ' H' => ∃ (ns : List Str) (y2 y3 : Option V), σ' = [some (.ref p), some (.ref q), some (.ref r), some (.ref a), y2, y3] ∧ Keep [] H H' ∧ H' r = some (.lst (ns.map V.str)) ∧ H' w' = some (.lst ((as ++ [q]).map V.ref)) ∧ Each (TupAt H') (as ++ [q]) L ∧ H' a = some (.tup (bs.map V.ref)) ∧ PairsAt H' bs us ∧ ns.Nodup ∧ ∀ x, x ∈ ns ↔ x ∈ namesL (L.take i) ∨ x ∈ (us.take j).map (·.1)) (sqT_of eb) ⟨ns, y2, y3, rfl, k4, er4, ew4, pw4, eb, pb, nd, fun x => by rw [mem]; simp⟩ (fun j σ' H' _ h => by obtain ⟨_, _, _, _, _, _, _, _, e, _⟩ := h; exact sqT_of e) ?_ ?_
      · rintro j x σ' H5 hx ⟨ns5, z2, z3, rfl, k5, er5, ew5, pw5, eb5, pb5, nd5, mem5⟩
        obtain ⟨a2, ha2, rfl⟩ := getRef hx
        obtain ⟨u, hu, eu⟩ := pb5.get ha2
        have uum := List.mem_of_getElem? hu
        have nz := (can us um).nz u uum
        have st2 : us.take (j + 1) = us.take j ++ [u] := take_snoc hu
        have mem6 : ∀ x, x ∈ namesL (L.take i) ∨ x ∈ (us.take (j + 1)).map (·.1) ↔ x ∈ ns5 ∨ x = u.1 := fun x => by rw [mem5, st2, List.map_append, List.mem_append, List.map_singleton, List.mem_singleton, or_assoc]
        refine r_gTup2 (sqT_of eu) ?_
        simp only [List.set_cons_zero, List.set_cons_succ]
        walk_at "sts"
        refine r_ninL (sqL_of er5) rfl (flat_strs ns5) ?_
        rw [inV_str]
        refine ⟨_, rfl, ?_⟩
        refine r_iteN (fun c2 => ?_) (fun c2 => ?_)
        · have c3 : u.1 ∉ ns5 := by simpa using c2
          have nl : ns5.length ≤ 60 := lenB ns5 nd5 fun x hx => nI x ((nL x).mpr (((mem5 x).mp hx).imp id fun h => by obtain ⟨z, hz, e⟩ := List.mem_map.mp h; exact List.mem_map.mpr ⟨z, List.mem_of_mem_take hz, e⟩))
          walk_at "sts"
          have kr : Keep [r] H5 (upd H5 r (.lst (ns5.map V.str ++ [V.str u.1]))) := Keep.at (by simp)
          have ar : a ≠ r := by rintro rfl; rw [eb5] at er5; cases er5
          refine ⟨ns5 ++ [u.1], _, _, rfl, k5.mut nr, by rw [upd_same, List.map_append]; rfl, kr _ _ (by simpa using nwr) ew5, pw5.mono fun _ _ h => h.keep kr (mr er5), kr _ _ (by simpa using ar) eb5, pb5.keep kr (mr er5), ?_, fun x => by rw [mem6, List.mem_append, List.mem_singleton]⟩
          exact List.nodup_append.mpr ⟨nd5, by simp, fun x hx y hy e => c3 (by rw [← List.mem_singleton.mp hy, ← e]; exact hx)⟩
        · have c3 : u.1 ∈ ns5 := by simpa using c2
          walk_at "sts"
          exact ⟨ns5, _, _, rfl, k5, er5, ew5, pw5, eb5, pb5, nd5, fun x => by rw [mem6]; exact ⟨.inl, fun h => h.elim id fun e => e ▸ c3⟩⟩
      · rintro σ' H5 ⟨ns5, z2, z3, rfl, k5, er5, ew5, pw5, eb5, pb5, nd5, mem5⟩
        rw [List.length_map, pb.len, List.take_length] at mem5
        exact ⟨ns5, _, _, _, rfl, k5, er5, ew5, pw5, nd5, fun x => by rw [mem5, nL]⟩
    · rintro σ' H4 ⟨ns, y1, y2, y3, rfl, k4, er4, ew4, pw4, nd, mem⟩
      rw [List.length_map, wl, List.take_length] at mem
      walk_at "sts"
      exact k r ns _ k4 nr er4 nd fun x => by rw [mem, mem_nmL]
end
/-! ### the weights told -/
/-- [(name, f * weight) for name, weight in line], however it is written -/
theorem lc_scl {K : PySem.W.Frag} {i j : Nat} {te : TE} {vs : List Nat} {σ : L2.St} {Q : VK} {H : Hp} {a : Addr} {bs : List Addr} {us : List Fm.Tm} (f : Int) (ea : H a = some (.tup (bs.map V.ref))) (pt : PairsAt H bs us) (l : us.length ≤ 100)
    (hw : ∀ x y : V, wipe (((wipe σ vs).set i (some x)).set j (some y)) vs = wipe σ vs)
    (he : ∀ t ∈ us, ∀ (H2 : Hp) (Q2 : VK), (∀ z, H2 z = none → Q2 (.ref z) (upd H2 z (.tup [.str t.1, .int (f * t.2)]))) → te (((wipe σ vs).set i (some (.str t.1))).set j (some (.int t.2))) H2 Q2)
    (k : ∀ D H2, Keep [] H H2 → H D = none → RowAt H2 D (Fm.scl f us) → Q (.ref D) H2) : CompT K (gTup K 2 (gCons (gName i) (gCons (gName j) gNil))) tYes te vs σ Q (.ref a) H := by
  refine lcT_go (fun D j acc H' => ∃ cs : List Addr, acc = cs.map V.ref ∧ Keep [] H H' ∧ PairsAt H' cs (Fm.scl f (us.take j)) ∧ H D = none) (sqT_of ea) (fun D hD => ⟨[], rfl, Keep.new hD, by simp [Fm.scl, PairsAt], hD⟩) (fun D j acc H' _ h => by obtain ⟨_, _, k, _⟩ := h; exact sqT_of (k _ _ (by simp) ea)) ?_ ?_
  · rintro D m w' acc H7 hw' hacc ⟨cs, rfl, k7, pc, nD⟩
    obtain ⟨a2, ha2, rfl⟩ := getRef hw'
    obtain ⟨t, ht, et⟩ := pt.get ha2
    have et5 := k7 _ _ (by simp) et
    have st : us.take (m + 1) = us.take m ++ [t] := take_snoc ht
    refine r_gTup2 (sqT_of et5) ⟨hw _ _, ?_⟩
    refine r_yes ?_
    rw [if_pos rfl]
    refine he t (List.mem_of_getElem? ht) _ _ fun z nz => ?_
    have k8 : Keep [] H7 (upd H7 z (.tup [.str t.1, .int (f * t.2)])) := Keep.new nz
    have ez : upd H7 z (.tup [.str t.1, .int (f * t.2)]) z = some (.tup [.str t.1, .int (f * t.2)]) := upd_same
    have hD6 := k8 _ _ (by simp) hacc
    have pc6 := pc.keep0 k8
    generalize upd H7 z (.tup [.str t.1, .int (f * t.2)]) = H8 at k8 ez hD6 pc6 ⊢
    have cl := pc6.len
    have jl : m < us.length := (List.getElem?_eq_some_iff.mp ht).1
    have cl2 : cs.length ≤ 100 := by rw [cl, Fm.scl, List.length_map, List.length_take]; omega
    have kD : Keep [D] H8 (upd H8 D (.lst (cs.map V.ref ++ [V.ref z]))) := Keep.at (by simp)
    refine lc_put hD6 (lt_size (by rw [List.length_map]; omega)) ⟨cs ++ [z], by rw [List.map_append]; rfl, (k7.trans k8).mut nD, ?_, nD⟩
    rw [st, Fm.scl, List.map_append]
    exact (pc6.app (bs := [z]) (us := [(t.1, f * t.2)]) ⟨ez, trivial⟩).keep kD fun m hm => by rw [List.mem_singleton.mp hm]; exact ⟨_, hD6⟩
  · rintro D acc H7 nD hacc ⟨cs, rfl, k7, pc, _⟩
    rw [List.length_map, pt.len, List.take_length] at pc
    exact k D _ k7 nD ⟨cs, hacc, pc⟩
theorem RowAt.keep0' {H H' : Hp} {p : Addr} {ts : List Fm.Tm} (h : RowAt H p ts) (k : Keep [] H H') : RowAt H' p ts := h.keep k (by simp) (by simp)
theorem scl_len {f : Int} {ts : List Fm.Tm} : (Fm.scl f ts).length = ts.length := by rw [Fm.scl, List.length_map]
theorem scl_nm {f : Int} {ts : List Fm.Tm} {xs : List Str} (h : ∀ t ∈ ts, t.1 ∈ xs) : ∀ t ∈ Fm.scl f ts, t.1 ∈ xs := fun t ht => by
  obtain ⟨t', ht', rfl⟩ := List.mem_map.mp ht
  exact h t' ht'
def spGives : Sp := fun vs H Q _ => ∃ (sc : Int) (a p q : Addr) (ws : List Int) (ls : List (List Fm.Tm)) (t : List Fm.Tm) (xs : List Str), vs = [.int sc, .ref a, .ref p, .ref q] ∧ H a = some (.lst (ws.map V.int)) ∧ LinesAt H p ls ∧ TupAt H q t ∧ Wts ls t sc ws ∧ ls.length ≤ 10 ∧ xs.length ≤ 8 ∧ (∀ ts ∈ ls ++ [t], Fm.Canon ts) ∧ (∀ ts ∈ ls ++ [t], ∀ p ∈ ts, p.1 ∈ xs ∧ p.2.natAbs < 2 ^ 200) ∧ (∀ x ∈ xs, IsQ x) ∧
  ∀ H' : Hp, Keep [] H H' → Q (.bl true) H'
section
variable {P : Program} {w : World} {K : PySem.W.Frag} {mg : Str → Option Value} {base : Heap}
theorem ok_gives (T : Tx K mg) (G_w_is_int : FnOk P w K mg base CX0 1 T.f_w_is_int T.fd_w_is_int ["_law_found"] spIsInt) (G_w_terms : FnOk P w K mg base CX0 1 T.f_w_terms T.fd_w_terms ["_law_pairs"] spTerms) : FnOk P w K mg base CX0 2 T.f_w_gives T.fd_w_gives ["_law_scale", "_law_weights", "_law_lines_here", "_law_target_here"] spGives := by
  refine T.F_w_gives.ok sc_w_gives (fun vs H Q E h => ?_) (fun cdv A outer s H vs Q E hr h => ?_)
  · obtain ⟨sc, a, p, q, ws, ls, t, xs, rfl, _⟩ := h; rfl
  · obtain ⟨sc, a, p, q, ws, ls, t, xs, rfl, ea, ⟨as, ep, pp⟩, ⟨bs, eq, pt⟩, wt, l10, x8, can, nmb, xq, k⟩ := h
    have al := pp.len
    have wl := wt.len
    have sp := wt.pos
    refine ⟨_, (pss_cons (ps_if (PW.pt (pw_or (pt_not (pt_val (pe_call G_w_is_int (hr.mono (by decide)) rfl T.g_w_is_int T.F_w_is_int.kp T.b_w_is_int .nil pass0 (pa_cons (pv 0) pa_nil)))) (pw_or (pt_cmpR op_lt (pv 0) pe_int (nomark _)) (pw_or (pt_not (pt_val (pe_callB call_isi (by rfl) T.m_isinstance (by decide +kernel) (pa_cons (pv 1) (pa_cons (pe_bltn (v := .ty "list") (by rfl) T.m_list (by decide +kernel) rfl) pa_nil))))) (pw_or1 (pt_cmpR op_ne (pe_callB call_len_seq (by rfl) T.m_len PySem.boot_len (pa_cons (pv 1) pa_nil)) (pe_callB call_len_seq (by rfl) T.m_len PySem.boot_len (pa_cons (pv 2) pa_nil)) (nomark _)))))))
    (pss_one (ps_ret pe_bl))
    pss_nil)
    (pss_cons (ps_for PassesOwn.never rfl (pi_list (pv 1)) (pg_name (i := 4) sc_w_gives.nd rfl (Or.inl rfl))
    (pss_one (ps_if (pt_not (pt_val (pe_call G_w_is_int (hr.mono (by decide)) rfl T.g_w_is_int T.F_w_is_int.kp T.b_w_is_int .nil pass0 (pa_cons (pv 4) pa_nil))))
    (pss_one (ps_ret pe_bl))
    pss_nil)))
    (pss_cons (ps_setLc (i := 5) (own := [("_law_name", 6), ("_law_weight", 4)]) (g := gTup K 2 (gCons (gName 6) (gCons (gName 4) gNil))) (tt := tYes) rfl sc_w_gives.nd rfl rfl (sw_true rfl rfl rfl (by decide +kernel)) (pi_tup (pv 3)) (blkOk_by (own := [("_law_name", 6), ("_law_weight", 4)]) (N := ["_law_scale", "_law_weights", "_law_lines_here", "_law_target_here", "_law_weight", "_law_total", "_law_name", "_law_factor", "_law_line"]) (sc := defScope s_w_gives) (by decide +kernel)) (fun _ _ _ _ _ => pg_tup (n := 2) rfl (pgs_cons (pg_name (i := 6) sc_w_gives.nd rfl (Or.inl rfl)) (pgs_cons (pg_name (i := 4) sc_w_gives.nd rfl (Or.inl rfl)) pgs_nil))) (fun _ _ _ _ _ => pts_nil) (fun _ _ _ _ _ => (pe_tup (pa_cons (pv 6) (pa_cons (pe_op op_mulG (pe_un un_neg (pv 0)) (pv 4)) pa_nil)))))
    (pss_cons (ps_for PassesOwn.never rfl (pi_zip (by rfl) T.m_zip (pa_cons (pv 1) (pa_cons (pv 2) pa_nil))) (pg_tup (n := 2) rfl (pgs_cons (pg_name (i := 7) sc_w_gives.nd rfl (Or.inr rfl)) (pgs_cons (pg_name (i := 8) sc_w_gives.nd rfl (Or.inl rfl)) pgs_nil)))
    (pss_one (ps_set (i := 5) sc_w_gives.nd rfl (Or.inl rfl) (pe_op op_cat (pv 5) (pe_lc (own := [("_law_name", 6), ("_law_weight", 4)]) (g := gTup K 2 (gCons (gName 6) (gCons (gName 4) gNil))) (tt := tYes) rfl sc_w_gives.nd (pi_tup (pv 8)) (blkOk_by (own := [("_law_name", 6), ("_law_weight", 4)]) (N := ["_law_scale", "_law_weights", "_law_lines_here", "_law_target_here", "_law_weight", "_law_total", "_law_name", "_law_factor", "_law_line"]) (sc := defScope s_w_gives) (by decide +kernel)) (fun _ _ _ _ _ => pg_tup (n := 2) rfl (pgs_cons (pg_name (i := 6) sc_w_gives.nd rfl (Or.inl rfl)) (pgs_cons (pg_name (i := 4) sc_w_gives.nd rfl (Or.inl rfl)) pgs_nil))) (fun _ _ _ _ _ => pts_nil) (fun _ _ _ _ _ => (pe_tup (pa_cons (pv 6) (pa_cons (pe_op op_mulG (pv 7) (pv 4)) pa_nil)))))))))
    (pss_one (ps_ret (pe_cmpR (op_eqD hr.units) (pe_call G_w_terms (hr.mono (by decide)) rfl T.g_w_terms T.F_w_terms.kp T.b_w_terms .nil pass0 (pa_cons (pv 5) pa_nil)) (pe_tup pa_nil) (nomark _)))))))), ?_⟩
    walk_at "start"
    walk_at "sts"
    refine r_isInt ?_
    walk_at "sts"
    refine forL_go (fun i σ' H' => ∃ (y : Option V), σ' = [some (.int sc), some (.ref a), some (.ref p), some (.ref q), y, none, none, none, none] ∧ H' = H) (sqL_of ea) ⟨none, rfl, rfl⟩ (fun i σ' H' _ h => by obtain ⟨_, _, rfl⟩ := h; exact sqL_of ea) ?_ ?_
    · rintro i x σ' H2 hx ⟨y, rfl, rfl⟩
      rw [List.getElem?_map] at hx
      obtain ⟨v, hv, rfl⟩ := Option.map_eq_some_iff.mp hx
      walk_at "sts"
      refine r_isInt ?_
      walk_at "sts"
      exact ⟨_, rfl, rfl⟩
    · rintro σ' H2 ⟨y, rfl, rfl⟩
      have tcan := can t (by simp)
      have tn : ∀ p ∈ t, p.1 ∈ xs := fun p hp => (nmb t (by simp) p hp).1
      have tl := tcan.short tn
      have sb := wt.small.1
      walk_at "sts"
      refine lc_scl (-sc) eq pt (by omega) (fun _ _ => rfl) (fun z hz H3 Q3 k3 => ?_) fun r H3 k3 nr er => ?_
      · have side : CMul (-sc) z.2 ∨ CMulW (-sc) z.2 := mulw 1000 200 (by rw [Int.natAbs_neg]; exact sb) ((nmb t (by simp) z hz).2)
        walk_at "sts"
        exact k3
      walk_at "sts"
      refine r_forZ ?_
      walk_at "sts"
      refine forZ_go (xs := ws.map V.int) (ys := as.map V.ref) (by simp only [List.length_map]; omega) (fun i σ' H' => ∃ (r : Addr) (tl : List Fm.Tm) (x1 x2 x3 x4 : Option V), σ' = [some (.int sc), some (.ref a), some (.ref p), some (.ref q), x1, some (.ref r), x2, x3, x4] ∧ Keep [] H2 H' ∧ RowAt H' r tl ∧ tl.length ≤ 8 + 8 * i ∧ (∀ t ∈ tl, t.1 ∈ xs) ∧ ∀ x, Fm.wt tl x = -sc * Fm.wt t x + Ec.sumN i fun k => ws.getD k 0 * lnF ls k x) (sqL_of (k3 _ _ (by simp) ea)) (sqL_of (k3 _ _ (by simp) ep)) ⟨r, _, _, _, _, _, rfl, k3, er, by rw [scl_len]; omega, scl_nm tn, fun x => by rw [Fm.wt_scl]; show _ = _ + 0; omega⟩ (fun i σ' H' h => by obtain ⟨_, _, _, _, _, _, _, k, _⟩ := h; exact ⟨sqL_of (k _ _ (by simp) ea), sqL_of (k _ _ (by simp) ep)⟩) ?_ ?_
      · rintro i x y' T0 σ' H4 hx hy ⟨r, tl, x1, x2, x3, x4, rfl, k4, er4, tll, tln, tlw⟩ nT0
        rw [List.getElem?_map] at hx
        obtain ⟨v, hv, rfl⟩ := Option.map_eq_some_iff.mp hx
        obtain ⟨a2, ha2, rfl⟩ := getRef hy
        obtain ⟨us, hus, cs, ec, pc⟩ := pp.get ha2
        have um : us ∈ ls ++ [t] := List.mem_append_left _ (List.mem_of_getElem? hus)
        have il : i < ls.length := (List.getElem?_eq_some_iff.mp hus).1
        have un : ∀ p ∈ us, p.1 ∈ xs := fun p hp => (nmb us um p hp).1
        have ul := (can us um).short un
        have vb := wt.small.2 v (List.mem_of_getElem? hv)
        have k5 : Keep [] H4 (upd H4 T0 (.tup [.int v, .ref a2])) := Keep.new nT0
        refine r_gTup2 (sqT_of upd_same) ?_
        simp only [List.set_cons_zero, List.set_cons_succ]
        have k45 := k4.trans k5
        have er5 := er4.keep0' k5
        have ec5 := k45 _ _ (by simp) ec
        have pc5 := pc.keep0 k45
        generalize upd H4 T0 (.tup [.int v, .ref a2]) = H5 at k45 er5 ec5 pc5 ⊢
        walk_at "sts"
        refine lc_scl v ec5 pc5 (by omega) (fun _ _ => rfl) (fun z hz H6 Q6 k6 => ?_) fun r6 H6 k6 nr6 er6 => ?_
        · have side : CMul v z.2 ∨ CMulW v z.2 := mulw 1000 200 vb ((nmb us um z hz).2)
          walk_at "sts"
          exact k6
        obtain ⟨as5, e5, p5⟩ := er5.keep0' k6
        obtain ⟨as6, e6, p6⟩ := er6
        have l5 := p5.len
        have l6 := p6.len
        rw [scl_len] at l6
        walk_at "sts"
        refine r_cat e5 e6 (le_size (by simp only [List.length_map]; omega)) fun w' nw => ?_
        rw [← List.map_append]
        have k7 : Keep [] H6 (upd H6 w' (.lst ((as5 ++ as6).map V.ref))) := Keep.new nw
        walk_at "sts"
        refine ⟨w', tl ++ Fm.scl v us, _, _, _, _, rfl, (k45.trans k6).trans k7, ⟨as5 ++ as6, upd_same, (p5.app p6).keep0 k7⟩, by rw [List.length_append, scl_len]; omega, fun z hz => ?_, fun x => ?_⟩
        · rcases List.mem_append.mp hz with hz | hz
          · exact tln z hz
          · exact scl_nm un z hz
        · rw [Fm.wt_append, Fm.wt_scl, tlw]
          show _ = _ + (Ec.sumN i (fun k => ws.getD k 0 * lnF ls k x) + ws.getD i 0 * Fm.wt (ls.getD i []) x)
          rw [List.getD_eq_getElem?_getD, List.getD_eq_getElem?_getD, hv, hus]
          show _ = _ + (_ + v * Fm.wt us x)
          omega
      · rintro σ' H4 ⟨r, tl, x1, x2, x3, x4, rfl, k4, er4, tll, tln, tlw⟩
        rw [List.length_map, wl] at tlw tll
        have z0 : Fm.can tl = [] := (Fm.can_eq (us := []) (ts := tl) ⟨by simp, by simp⟩ fun x => by
          rw [tlw, ← wt.sum x]
          show (0 : Int) = _
          rw [Int.neg_mul]; omega).symm
        walk_at "sts"
        refine r_terms er4 (by omega) tln (by omega) fun q5 H5 k5 nq5 eq5 => ?_
        rw [z0] at eq5
        walk_at "sts"
        intro e0 ne0
        have k6 : Keep [] H5 (upd H5 e0 (.tup [])) := Keep.new ne0
        refine r_eqPairsNil (eq5.keep0 k6) upd_same (by simp) ?_
        exact k _ ((k4.trans k5).trans k6)
end
/-! ### the shift told -/
def spShifts : Sp := fun vs H Q _ => ∃ (d p q : Addr) (ls : List (List Fm.Tm)) (t : List Fm.Tm) (xs : List Str) (R : Str → Int), vs = [.ref d, .ref p, .ref q] ∧ RsAt H d (nmL (ls ++ [t])) R ∧ LinesAt H p ls ∧ TupAt H q t ∧ Shf ls t R ∧ ls.length ≤ 10 ∧ xs.length ≤ 8 ∧ (∀ ts ∈ ls ++ [t], Fm.Canon ts) ∧ (∀ ts ∈ ls ++ [t], ∀ p ∈ ts, p.1 ∈ xs ∧ p.2.natAbs < 2 ^ 200) ∧ (∀ x ∈ xs, IsQ x) ∧
  ∀ H' : Hp, Keep [] H H' → Q (.bl true) H'
theorem nm_in {L : List (List Fm.Tm)} {ts : List Fm.Tm} (h : ts ∈ L) : ∀ t ∈ ts, t.1 ∈ nmL L := fun t ht => mem_nmL.mpr (by unfold namesL; exact List.mem_flatMap.mpr ⟨ts, h, List.mem_map_of_mem ht⟩)
section
variable {P : Program} {w : World} {K : PySem.W.Frag} {mg : Str → Option Value} {base : Heap}
theorem ok_shifts (T : Tx K mg) (G_w_is_int : FnOk P w K mg base CX0 1 T.f_w_is_int T.fd_w_is_int ["_law_found"] spIsInt) (G_w_quantities : FnOk P w K mg base CX0 1 T.f_w_quantities T.fd_w_quantities ["_law_lines_here", "_law_target_here"] spQuants)
    (G_w_change : FnOk P w K mg base CX0 1 T.f_w_change T.fd_w_change ["_law_line", "_law_moves"] spChange) (G_w_divisor : FnOk P w K mg base CX0 1 T.f_w_divisor T.fd_w_divisor ["_law_numbers"] spDivisor) : FnOk P w K mg base CX0 2 T.f_w_shifts T.fd_w_shifts ["_law_moves", "_law_lines_here", "_law_target_here"] spShifts := by
  refine T.F_w_shifts.ok sc_w_shifts (fun vs H Q E h => ?_) (fun cdv A outer s H vs Q E hr h => ?_)
  · obtain ⟨d, p, q, ls, t, xs, R, rfl, _⟩ := h; rfl
  · obtain ⟨d, p, q, ls, t, xs, R, rfl, rs, lp, tq, sh, l10, x8, can, nmb, xq, k⟩ := h
    have nx : ∀ x ∈ nmL (ls ++ [t]), x ∈ xs := fun x hx => by
      have := mem_nmL.mp hx
      unfold namesL at this
      obtain ⟨ts, hts, h2⟩ := List.mem_flatMap.mp this
      obtain ⟨z, hz, rfl⟩ := List.mem_map.mp h2
      exact (nmb ts hts z hz).1
    have nl : (nmL (ls ++ [t])).length ≤ 8 := Nat.le_trans (Fm.nodup_len nmL_nodup nx) x8
    refine ⟨_, (pss_cons (ps_set (i := 3) sc_w_shifts.nd rfl (Or.inl rfl) (pe_call G_w_quantities (hr.mono (by decide)) rfl T.g_w_quantities T.F_w_quantities.kp T.b_w_quantities .nil pass0 (pa_cons (pv 1) (pa_cons (pv 2) pa_nil))))
    (pss_cons (ps_if (PW.pt (pw_or (pt_not (pt_val (pe_callB call_isi (by rfl) T.m_isinstance (by decide +kernel) (pa_cons (pv 0) (pa_cons (pe_bltn (v := .ty "dict") (by rfl) T.m_dict (by decide +kernel) rfl) pa_nil))))) (pw_or1 (pt_cmpR op_ne (pe_callB call_lenD (by rfl) T.m_len PySem.boot_len (pa_cons (pv 0) pa_nil)) (pe_callB call_len_seq (by rfl) T.m_len PySem.boot_len (pa_cons (pv 3) pa_nil)) (nomark _)))))
    (pss_one (ps_ret pe_bl))
    pss_nil)
    (pss_cons (ps_for PassesOwn.never rfl (pi_list (pv 3)) (pg_name (i := 4) sc_w_shifts.nd rfl (Or.inl rfl))
    (pss_one (ps_if (PW.pt (pw_or (pt_cmp (pc_dnotin (hu_of hr) (pv 4) (pv 0))) (pw_or1 (pt_not (pt_val (pe_call G_w_is_int (hr.mono (by decide)) rfl T.g_w_is_int T.F_w_is_int.kp T.b_w_is_int .nil pass0 (pa_cons (pe_dget (hu_of hr) (pv 0) (pv 4) (fun _ _ => rfl)) pa_nil)))))))
    (pss_one (ps_ret pe_bl))
    pss_nil)))
    (pss_cons (ps_for PassesOwn.never rfl (pi_list (pv 1)) (pg_name (i := 5) sc_w_shifts.nd rfl (Or.inl rfl))
    (pss_one (ps_if (pt_cmpR op_ne (pe_call G_w_change (hr.mono (by decide)) rfl T.g_w_change T.F_w_change.kp T.b_w_change .nil pass0 (pa_cons (pv 5) (pa_cons (pv 0) pa_nil))) pe_int (nomark _))
    (pss_one (ps_ret pe_bl))
    pss_nil)))
    (pss_one (ps_ret (pe_and (pe_cmpR op_gt (pe_call G_w_change (hr.mono (by decide)) rfl T.g_w_change T.F_w_change.kp T.b_w_change .nil pass0 (pa_cons (pv 2) (pa_cons (pv 0) pa_nil))) pe_int (nomark _)) (pe_one (pe_cmpR op_eq (pe_call G_w_divisor (hr.mono (by decide)) rfl T.g_w_divisor T.F_w_divisor.kp T.b_w_divisor .nil pass0 (pa_cons (pe_lc (own := [("_law_name", 4)]) (g := gName 4) (tt := tYes) rfl sc_w_shifts.nd (pi_list (pv 3)) (blkOk_by (own := [("_law_name", 4)]) (N := ["_law_moves", "_law_lines_here", "_law_target_here", "_law_names_here", "_law_name", "_law_line"]) (sc := defScope s_w_shifts) (by decide +kernel)) (fun _ _ _ _ _ => pg_name (i := 4) sc_w_shifts.nd rfl (Or.inl rfl)) (fun _ _ _ _ _ => pts_nil) (fun _ _ _ _ _ => (pe_dget (hu_of hr) (pv 0) (pv 4) (fun _ _ => rfl)))) pa_nil)) pe_int (nomark _)))))))))), ?_⟩
    walk_at "start"
    walk_at "sts"
    refine ⟨p, q, ls, t, rfl, lp, tq, can, fun ts hts z hz => xq _ (nmb ts hts z hz).1, by omega, by omega, fun r ys H1 k1 nr er nd mem => ?_⟩
    have yl : ys.length = (nmL (ls ++ [t])).length := Nat.le_antisymm (Fm.nodup_len nd fun x hx => (mem x).mp hx) (Fm.nodup_len nmL_nodup fun x hx => (mem x).mpr hx)
    have rs1 := rs.keep0 k1
    have lp1 := lp.keep0 k1
    have tq1 := tq.keep0 k1
    have rd1 : H1 d = some (.dK (kd ((nmL (ls ++ [t])).map fun y => (Sum.inr y, R y)))) := rs1.1
    walk_at "sts"
    have kl : (kd ((nmL (ls ++ [t])).map fun y => (Sum.inr y, R y))).length = ys.length := by rw [kd_len, List.length_map, yl]
    refine ⟨d, _, rfl, rd1, ?_⟩
    rw [kl]
    walk_at "sts"
    refine r_iteN (fun c => absurd c (by rw [List.length_map]; simp)) (fun _ => ?_)
    walk_at "sts"
    refine forL_go (fun i σ' H' => ∃ (y z : Option V), σ' = [some (.ref d), some (.ref p), some (.ref q), some (.ref r), y, z] ∧ H' = H1) (sqL_of er) ⟨none, none, rfl, rfl⟩ (fun i σ' H' _ h => by obtain ⟨_, _, _, rfl⟩ := h; exact sqL_of er) ?_ ?_
    · rintro i x σ' H2 hx ⟨y, z, rfl, rfl⟩
      obtain ⟨v, hv, rfl⟩ := getStr hx
      have vm := (mem v).mp (List.mem_of_getElem? hv)
      walk_at "sts"
      refine r_dinS rd1 ?_
      rw [val_kd, if_pos (rs_key vm)]
      refine ⟨_, rfl, ?_⟩
      simp only [Option.isSome_some, Bool.not_true]
      walk_at "sts"
      refine r_rsGet rs1 vm ?_
      walk_at "sts"
      refine r_isInt ?_
      walk_at "sts"
      exact ⟨_, _, rfl, rfl⟩
    · rintro σ' H2 ⟨y, z, rfl, rfl⟩
      obtain ⟨as, ep, pp⟩ := lp1
      have al := pp.len
      walk_at "sts"
      refine forL_go (fun i σ' H' => ∃ (y z : Option V), σ' = [some (.ref d), some (.ref p), some (.ref q), some (.ref r), y, z] ∧ Keep [] H2 H') (sqL_of ep) ⟨_, _, rfl, Keep.refl _ _⟩ (fun i σ' H' _ h => by obtain ⟨_, _, _, k⟩ := h; exact sqL_of (k _ _ (by simp) ep)) ?_ ?_
      · rintro i x σ' H3 hx ⟨y, z, rfl, k3⟩
        obtain ⟨a2, ha2, rfl⟩ := getRef hx
        obtain ⟨us, hus, tu⟩ := pp.get ha2
        have um := List.mem_of_getElem? hus
        have um2 : us ∈ ls ++ [t] := List.mem_append_left _ um
        have ul := (can us um2).short fun z hz => (nmb us um2 z hz).1
        walk_at "sts"
        refine ⟨a2, d, us, nmL (ls ++ [t]), R, rfl, tu.keep0 k3, rs1.keep0 k3, by omega, nm_in um2, fun z hz => (nmb us um2 z hz).2, fun y hy => pow_mono 3900 4000 (sh.small y hy), fun H4 k4 => ?_⟩
        rw [sh.zero us um]
        walk_at "sts"
        exact ⟨_, _, rfl, k3.trans k4⟩
      · rintro σ' H3 ⟨y, z, rfl, k3⟩
        have tm : t ∈ ls ++ [t] := by simp
        have tl := (can t tm).short fun z hz => (nmb t tm z hz).1
        walk_at "sts"
        refine ⟨q, d, t, nmL (ls ++ [t]), R, rfl, tq1.keep0 k3, rs1.keep0 k3, by omega, nm_in tm, fun z hz => (nmb t tm z hz).2, fun y hy => pow_mono 3900 4000 (sh.small y hy), fun H4 k4 => ?_⟩
        have up := sh.up
        have k34 := k3.trans k4
        have er4 := k34 _ _ (by simp) er
        walk_at "sts"
        refine lcL_go (fun D i acc H' => acc = ((ys.take i).map R).map V.int ∧ Keep [] H4 H' ∧ H4 D = none) (sqL_of er4) (fun D hD => ⟨rfl, Keep.new hD, hD⟩) (fun D i acc H' _ h => sqL_of (h.2.1 _ _ (by simp) er4)) ?_ ?_
        · rintro D i x acc H5 hx hacc ⟨rfl, k5, nD⟩
          obtain ⟨v, hv, rfl⟩ := getStr hx
          have vm := (mem v).mp (List.mem_of_getElem? hv)
          walk_at "sts"
          refine r_rsGet (rs1.keep0 (k34.trans k5)) vm ?_
          refine lc_put hacc (lt_size (by rw [List.length_map, List.length_map, List.length_take]; omega)) ⟨?_, k5.mut nD, nD⟩
          rw [take_snoc hv]; simp
        · rintro D acc H5 nD hacc ⟨rfl, k5, _⟩
          rw [List.length_map, List.take_length] at hacc
          walk_at "sts"
          have g1 : gcdL (ys.map R) = 1 := gcdL_one fun g hg => sh.prim g fun x hx => hg _ (List.mem_map_of_mem ((mem x).mpr hx))
          refine ⟨D, ys.map R, rfl, hacc, fun u hu => ?_, ?_⟩
          · obtain ⟨x, hx, rfl⟩ := List.mem_map.mp hu
            exact pow_mono 3900 4000 (sh.small x ((mem x).mp hx))
          · rw [g1]
            walk_at "sts"
            exact k _ ((k1.trans k34).trans k5)
end
/-! ### the answer judged -/
def spAnswer : Sp := fun vs H Q _ => ∃ (d p q : Addr) (ls : List (List Fm.Tm)) (t : List Fm.Tm) (xs : List Str), vs = [.ref d, .ref p, .ref q] ∧ AnsAt H d ls t ∧ LinesAt H p ls ∧ TupAt H q t ∧ ls.length ≤ 10 ∧ xs.length ≤ 8 ∧ (∀ ts ∈ ls ++ [t], Fm.Canon ts) ∧ (∀ ts ∈ ls ++ [t], ∀ p ∈ ts, p.1 ∈ xs ∧ p.2.natAbs < 2 ^ 200) ∧ (∀ x ∈ xs, IsQ x) ∧
  ∀ (s : Str) (H' : Hp), Keep [] H H' → s ≠ Str.ofString "wrong" → Q (.str s) H'
section
variable {P : Program} {w : World} {K : PySem.W.Frag} {mg : Str → Option Value} {base : Heap}
theorem ok_answer (T : Tx K mg) (G_w_gives : FnOk P w K mg base CX0 2 T.f_w_gives T.fd_w_gives ["_law_scale", "_law_weights", "_law_lines_here", "_law_target_here"] spGives) (G_w_shifts : FnOk P w K mg base CX0 2 T.f_w_shifts T.fd_w_shifts ["_law_moves", "_law_lines_here", "_law_target_here"] spShifts)
    (G_w_divisor : FnOk P w K mg base CX0 1 T.f_w_divisor T.fd_w_divisor ["_law_numbers"] spDivisor) : FnOk P w K mg base CX0 3 T.f_w_answer T.fd_w_answer ["_law_found", "_law_lines_here", "_law_target_here"] spAnswer := by
  refine T.F_w_answer.ok sc_w_answer (fun vs H Q E h => ?_) (fun cdv A outer s H vs Q E hr h => ?_)
  · obtain ⟨d, p, q, ls, t, xs, rfl, _⟩ := h; rfl
  · obtain ⟨d, p, q, ls, t, xs, rfl, an, lp, tq, l10, x8, can, nmb, xq, k⟩ := h
    refine ⟨_, (pss_cons (ps_if (PW.pt (pw_or (pt_not (pt_val (pe_callB call_isi (by rfl) T.m_isinstance (by decide +kernel) (pa_cons (pv 0) (pa_cons (pe_bltn (v := .ty "tuple") (by rfl) T.m_tuple (by decide +kernel) rfl) pa_nil))))) (pw_or (pt_cmpR op_lt (pe_callB call_len_seq (by rfl) T.m_len PySem.boot_len (pa_cons (pv 0) pa_nil)) pe_int (nomark _)) (pw_or1 (pt_not (pt_val (pe_callB call_isi (by rfl) T.m_isinstance (by decide +kernel) (pa_cons (pe_ix ix_tup (pv 0) pe_int (fun _ _ => rfl)) (pa_cons (pe_bltn (v := .ty "str") (by rfl) T.m_str (by decide +kernel) rfl) pa_nil)))))))))
    (pss_one (ps_ret pe_str))
    pss_nil)
    (pss_cons (ps_if (PW.pt (pw_and (pt_cmpR op_eq (pe_ix ix_tup (pv 0) pe_int (fun _ _ => rfl)) pe_str (nomark _)) (pw_and (pt_cmpR op_eq (pe_callB call_len_seq (by rfl) T.m_len PySem.boot_len (pa_cons (pv 0) pa_nil)) pe_int (nomark _)) (pw_and1 (pt_val (pe_call G_w_gives (hr.mono (by decide)) rfl T.g_w_gives T.F_w_gives.kp T.b_w_gives .nil pass0 (pa_cons (pe_ix ix_tup (pv 0) pe_int (fun _ _ => rfl)) (pa_cons (pe_ix ix_tup (pv 0) pe_int (fun _ _ => rfl)) (pa_cons (pv 1) (pa_cons (pv 2) pa_nil))))))))))
    (pss_one (ps_if (pt_cmpR op_eq (pe_call G_w_divisor (hr.mono (by decide)) rfl T.g_w_divisor T.F_w_divisor.kp T.b_w_divisor .nil pass0 (pa_cons (pe_op op_cat (pe_lst (pa_cons (pe_ix ix_tup (pv 0) pe_int (fun _ _ => rfl)) pa_nil)) (pe_ix ix_tup (pv 0) pe_int (fun _ _ => rfl))) pa_nil)) pe_int (nomark _))
    (pss_one (ps_ret pe_str))
    pss_nil))
    pss_nil)
    (pss_cons (ps_if (PW.pt (pw_and (pt_cmpR op_eq (pe_ix ix_tup (pv 0) pe_int (fun _ _ => rfl)) pe_str (nomark _)) (pw_and (pt_cmpR op_eq (pe_callB call_len_seq (by rfl) T.m_len PySem.boot_len (pa_cons (pv 0) pa_nil)) pe_int (nomark _)) (pw_and1 (pt_val (pe_call G_w_shifts (hr.mono (by decide)) rfl T.g_w_shifts T.F_w_shifts.kp T.b_w_shifts .nil pass0 (pa_cons (pe_ix ix_tup (pv 0) pe_int (fun _ _ => rfl)) (pa_cons (pv 1) (pa_cons (pv 2) pa_nil)))))))))
    (pss_one (ps_ret pe_str))
    pss_nil)
    (pss_one (ps_ret pe_str))))), ?_⟩
    rcases an with ⟨a, sc, ws, ed, ea, wt⟩ | ⟨a, R, ed, rs, sh⟩
    · walk_at "start"
      walk_at "sts"
      refine ⟨sc, a, p, q, ws, ls, t, xs, rfl, ea, lp, tq, wt, l10, x8, can, nmb, xq, fun H1 k1 => ?_⟩
      have ed1 := k1 _ _ (by simp) ed
      have ea1 := k1 _ _ (by simp) ea
      have wl := wt.len
      refine ⟨_, rfl, ?_⟩
      walk_at "sts"
      intro r nr
      have k2 : Keep [] H1 (upd H1 r (.lst [.int sc])) := Keep.new nr
      have er : upd H1 r (.lst [.int sc]) r = some (.lst [.int sc]) := upd_same
      have ed2 := k2 _ _ (by simp) ed1
      have ea2 := k2 _ _ (by simp) ea1
      have k12 := k1.trans k2
      generalize upd H1 r (.lst [.int sc]) = H2 at er ed2 ea2 k12 ⊢
      walk_at "sts"
      refine r_cat er ea2 (le_size (by simp only [List.length_map, List.length_cons, List.length_nil]; omega)) fun w' nw => ?_
      have k3 : Keep [] H2 (upd H2 w' (.lst ([.int sc] ++ ws.map V.int))) := Keep.new nw
      walk_at "sts"
      refine ⟨w', sc :: ws, rfl, upd_same, fun u hu => ?_, ?_⟩
      · rcases List.mem_cons.mp hu with rfl | hu
        · exact pow_mono 1000 4000 wt.small.1
        · exact pow_mono 1000 4000 (wt.small.2 u hu)
      · rw [gcdL_one fun g hg => wt.prim g (hg sc (by simp)) fun u hu => hg u (by simp [hu])]
        walk_at "sts"
        exact k _ _ (k12.trans k3) (by decide)
    · walk_at "start"
      walk_at "sts"
      rw [if_neg (by decide)]
      walk_at "sts"
      refine ⟨a, p, q, ls, t, xs, R, rfl, rs, lp, tq, sh, l10, x8, can, nmb, xq, fun H1 k1 => ?_⟩
      refine ⟨_, rfl, ?_⟩
      walk_at "sts"
      exact k _ _ k1 (by decide)
end
/-! ### the target drawn -/
/-- [g(name, weight) for name, weight in line], however it is written -/
theorem lc_map {K : PySem.W.Frag} {i j : Nat} {te : TE} {vs : List Nat} {σ : L2.St} {Q : VK} {H : Hp} {a : Addr} {bs : List Addr} {us : List Fm.Tm} (g : Fm.Tm → Fm.Tm) (ea : H a = some (.tup (bs.map V.ref))) (pt : PairsAt H bs us) (l : us.length ≤ 100)
    (hw : ∀ x y : V, wipe (((wipe σ vs).set i (some x)).set j (some y)) vs = wipe σ vs)
    (he : ∀ t ∈ us, ∀ (H2 : Hp) (Q2 : VK), (∀ z, H2 z = none → Q2 (.ref z) (upd H2 z (.tup [.str (g t).1, .int (g t).2]))) → te (((wipe σ vs).set i (some (.str t.1))).set j (some (.int t.2))) H2 Q2)
    (k : ∀ D H2, Keep [] H H2 → H D = none → RowAt H2 D (us.map g) → Q (.ref D) H2) : CompT K (gTup K 2 (gCons (gName i) (gCons (gName j) gNil))) tYes te vs σ Q (.ref a) H := by
  refine lcT_go (fun D j acc H' => ∃ cs : List Addr, acc = cs.map V.ref ∧ Keep [] H H' ∧ PairsAt H' cs ((us.take j).map g) ∧ H D = none) (sqT_of ea) (fun D hD => ⟨[], rfl, Keep.new hD, by simp [PairsAt], hD⟩) (fun D j acc H' _ h => by obtain ⟨_, _, k, _⟩ := h; exact sqT_of (k _ _ (by simp) ea)) ?_ ?_
  · rintro D m w' acc H7 hw' hacc ⟨cs, rfl, k7, pc, nD⟩
    obtain ⟨a2, ha2, rfl⟩ := getRef hw'
    obtain ⟨t, ht, et⟩ := pt.get ha2
    have et5 := k7 _ _ (by simp) et
    have st : us.take (m + 1) = us.take m ++ [t] := take_snoc ht
    refine r_gTup2 (sqT_of et5) ⟨hw _ _, ?_⟩
    refine r_yes ?_
    rw [if_pos rfl]
    refine he t (List.mem_of_getElem? ht) _ _ fun z nz => ?_
    have k8 : Keep [] H7 (upd H7 z (.tup [.str (g t).1, .int (g t).2])) := Keep.new nz
    have ez : upd H7 z (.tup [.str (g t).1, .int (g t).2]) z = some (.tup [.str (g t).1, .int (g t).2]) := upd_same
    have hD6 := k8 _ _ (by simp) hacc
    have pc6 := pc.keep0 k8
    generalize upd H7 z (.tup [.str (g t).1, .int (g t).2]) = H8 at k8 ez hD6 pc6 ⊢
    have cl := pc6.len
    have jl : m < us.length := (List.getElem?_eq_some_iff.mp ht).1
    have cl2 : cs.length ≤ 100 := by rw [cl, List.length_map, List.length_take]; omega
    have kD : Keep [D] H8 (upd H8 D (.lst (cs.map V.ref ++ [V.ref z]))) := Keep.at (by simp)
    refine lc_put hD6 (lt_size (by rw [List.length_map]; omega)) ⟨cs ++ [z], by rw [List.map_append]; rfl, (k7.trans k8).mut nD, ?_, nD⟩
    rw [st, List.map_append]
    exact (pc6.app (bs := [z]) (us := [g t]) ⟨ez, trivial⟩).keep kD fun m hm => by rw [List.mem_singleton.mp hm]; exact ⟨_, hD6⟩
  · rintro D acc H7 nD hacc ⟨cs, rfl, k7, pc, _⟩
    rw [List.length_map, pt.len, List.take_length] at pc
    exact k D _ k7 nD ⟨cs, hacc, pc⟩
theorem p4g : 10 ^ 22 * 4 ^ 10 < 2 ^ 97 := p4 (by omega)
theorem LOk.up {xs : List Str} {k m : Nat} {ts : List Fm.Tm} (h : LOk xs k ts) (l : k ≤ m) : LOk xs m ts := ⟨h.can, h.nm, fun x => Nat.le_trans (h.bd x) (Nat.mul_le_mul_left _ (Nat.pow_le_pow_right (by omega) l))⟩
/-- a line divided -/
def dvL (c : Int) (ts : List Fm.Tm) : List Fm.Tm := ts.map fun p => (p.1, p.2.fdiv c)
theorem dvL_scl {c : Int} {ts : List Fm.Tm} (c0 : c ≠ 0) (h : ∀ t ∈ ts, c ∣ t.2) : Fm.scl c (dvL c ts) = ts := by
  unfold Fm.scl dvL
  rw [List.map_map]
  refine (List.map_congr_left fun p hp => ?_).trans (List.map_id ts)
  obtain ⟨m, hm⟩ := h p hp
  show (p.1, c * p.2.fdiv c) = p
  rw [hm, Int.mul_fdiv_cancel_left _ c0, ← hm]
theorem dvL_ok {xs : List Str} {k : Nat} {c : Int} {ts : List Fm.Tm} (h : LOk xs k ts) (c0 : 0 < c) (d : ∀ t ∈ ts, c ∣ t.2) : LOk xs k (dvL c ts) := by
  have e := dvL_scl (by omega) d
  refine ⟨⟨?_, fun p hp => ?_⟩, fun p hp => ?_, fun x => ?_⟩
  · have : (dvL c ts).map (·.1) = ts.map (·.1) := by unfold dvL; rw [List.map_map]; rfl
    rw [this]; exact h.can.asc
  · intro z
    have : (p.1, c * p.2) ∈ ts := by rw [← e]; exact List.mem_map_of_mem (f := fun p : Fm.Tm => (p.1, c * p.2)) hp
    have := h.can.nz _ this
    rw [z] at this
    exact this (Int.mul_zero c)
  · obtain ⟨p', hp', rfl⟩ := List.mem_map.mp hp
    exact h.nm p' hp'
  · refine Nat.le_trans ?_ (h.bd x)
    have : Fm.wt ts x = c * Fm.wt (dvL c ts) x := by rw [← Fm.wt_scl, e]
    rw [this, Int.natAbs_mul]
    exact Nat.le_mul_of_pos_left _ (by omega)
def spTarget : Sp := fun vs H Q _ => ∃ (a b p q : Addr) (xs : List Str) (ls : List (List Fm.Tm)), vs = [.ref a, .ref b, .ref p, .ref q] ∧ BagAt a H ∧ BagAt b H ∧ a ≠ b ∧ NamesAt H p xs ∧ (∀ x ∈ xs, IsQ x) ∧ 1 ≤ xs.length ∧ xs.length ≤ 8 ∧ LinesAt H q ls ∧ q ≠ a ∧ q ≠ b ∧ ls.length ≤ 10 ∧ (∀ k ts, ls[k]? = some ts → LOk xs k ts) ∧
  ∀ (r : Addr) (t : List Fm.Tm) (H' : Hp), Keep [a, b] H H' → BagAt a H' → BagAt b H' → TupAt H' r t → LOk xs 11 t → Q (.ref r) H'
section
variable {P : Program} {w : World} {K : PySem.W.Frag} {mg : Str → Option Value} {base : Heap}
theorem ok_target (T : Tx K mg) (G_w_take : GTake P w K mg base T) (G_w_number : FnOk P w K mg base CX0 2 T.f_w_number T.fd_w_number ["_law_bag_here", "_law_shift"] spNum) (G_w_free : FnOk P w K mg base CX0 3 T.f_w_free T.fd_w_free ["_law_words", "_law_numbers", "_law_names_here", "_law_shift"] spFree) (G_w_mixed : FnOk P w K mg base CX0 2 T.f_w_mixed T.fd_w_mixed ["_law_lines_here", "_law_numbers", "_law_shift"] spMixed)
    (G_w_terms : FnOk P w K mg base CX0 1 T.f_w_terms T.fd_w_terms ["_law_pairs"] spTerms) (G_w_divisor : FnOk P w K mg base CX0 1 T.f_w_divisor T.fd_w_divisor ["_law_numbers"] spDivisor) : FnOk P w K mg base CX0 4 T.f_w_target T.fd_w_target ["_law_words", "_law_numbers", "_law_names_here", "_law_lines_here"] spTarget := by
  refine T.F_w_target.ok sc_w_target (fun vs H Q E h => ?_) (fun cdv A outer s H vs Q E hr h => ?_)
  · obtain ⟨a, b, p, q, xs, ls, rfl, _⟩ := h; rfl
  · obtain ⟨a, b, p, q, xs, ls, rfl, ha, hb, ab, hp, xq, l1, l8, lq, qa, qb, l10, lo, k⟩ := h
    have pa := names_ne hp ha
    have pb := names_ne hp hb
    refine ⟨_, (pss_cons (ps_set (i := 4) sc_w_target.nd rfl (Or.inl rfl) (pe_call G_w_take (hr.mono (by decide)) rfl T.g_w_take T.F_w_take.kp T.b_w_take .nil pass0 (pa_cons (pv 0) (pa_cons pe_int pa_nil))))
    (pss_cons (ps_set (i := 5) sc_w_target.nd rfl (Or.inl rfl) (pe_call G_w_mixed (hr.mono (by decide)) rfl T.g_w_mixed T.F_w_mixed.kp T.b_w_mixed .nil pass0 (pa_cons (pv 3) (pa_cons (pv 1) (pa_cons pe_int pa_nil)))))
    (pss_cons (ps_if (pt_cmpR op_eq (pv 4) pe_int (nomark _))
    (pss_cons (ps_set (i := 6) sc_w_target.nd rfl (Or.inl rfl) (pe_call G_w_terms (hr.mono (by decide)) rfl T.g_w_terms T.F_w_terms.kp T.b_w_terms .nil pass0 (pa_cons (pv 5) pa_nil)))
    (pss_cons (ps_set (i := 7) sc_w_target.nd rfl (Or.inr rfl) (pe_callB (call_max2 rfl) (by rfl) T.m_max (by decide +kernel) (pa_cons pe_int (pa_cons (pe_call G_w_divisor (hr.mono (by decide)) rfl T.g_w_divisor T.F_w_divisor.kp T.b_w_divisor .nil pass0 (pa_cons (pe_lc (own := [("_law_name", 8), ("_law_weight", 9)]) (g := gTup K 2 (gCons (gName 8) (gCons (gName 9) gNil))) (tt := tYes) rfl sc_w_target.nd (pi_tup (pv 6)) (blkOk_by (own := [("_law_name", 8), ("_law_weight", 9)]) (N := ["_law_words", "_law_numbers", "_law_names_here", "_law_lines_here", "_law_way", "_law_pairs", "_law_total", "_law_common", "_law_name", "_law_weight"]) (sc := defScope s_w_target) (by decide +kernel)) (fun _ _ _ _ _ => pg_tup (n := 2) rfl (pgs_cons (pg_name (i := 8) sc_w_target.nd rfl (Or.inl rfl)) (pgs_cons (pg_name (i := 9) sc_w_target.nd rfl (Or.inl rfl)) pgs_nil))) (fun _ _ _ _ _ => pts_nil) (fun _ _ _ _ _ => (pv 9))) pa_nil)) pa_nil))))
    (pss_one (ps_ret (pe_callTy call_tuple_of (by rfl) T.m_tuple (by decide +kernel) (pa_cons (pe_lc (own := [("_law_name", 8), ("_law_weight", 9)]) (g := gTup K 2 (gCons (gName 8) (gCons (gName 9) gNil))) (tt := tYes) rfl sc_w_target.nd (pi_tup (pv 6)) (blkOk_by (own := [("_law_name", 8), ("_law_weight", 9)]) (N := ["_law_words", "_law_numbers", "_law_names_here", "_law_lines_here", "_law_way", "_law_pairs", "_law_total", "_law_common", "_law_name", "_law_weight"]) (sc := defScope s_w_target) (by decide +kernel)) (fun _ _ _ _ _ => pg_tup (n := 2) rfl (pgs_cons (pg_name (i := 8) sc_w_target.nd rfl (Or.inl rfl)) (pgs_cons (pg_name (i := 9) sc_w_target.nd rfl (Or.inl rfl)) pgs_nil))) (fun _ _ _ _ _ => pts_nil) (fun _ _ _ _ _ => (pe_tup (pa_cons (pv 8) (pa_cons (pe_op op_fdivWN (pv 9) (pv 7)) pa_nil))))) pa_nil))))))
    pss_nil)
    (pss_cons (ps_if (pt_cmpR op_eq (pv 4) pe_int (nomark _))
    (pss_one (ps_set (i := 5) sc_w_target.nd rfl (Or.inl rfl) (pe_op op_cat (pv 5) (pe_lst (pa_cons (pe_tup (pa_cons (pe_ix ix_list (pv 2) (pe_call G_w_take (hr.mono (by decide)) rfl T.g_w_take T.F_w_take.kp T.b_w_take .nil pass0 (pa_cons (pv 0) (pa_cons (pe_callB call_len_seq (by rfl) T.m_len PySem.boot_len (pa_cons (pv 2) pa_nil)) pa_nil))) (fun _ _ => rfl)) (pa_cons (pe_call G_w_number (hr.mono (by decide)) rfl T.g_w_number T.F_w_number.kp T.b_w_number .nil pass0 (pa_cons (pv 1) (pa_cons pe_int pa_nil))) pa_nil))) pa_nil)))))
    pss_nil)
    (pss_cons (ps_if (pt_cmpR op_eq (pv 4) pe_int (nomark _))
    (pss_one (ps_set (i := 5) sc_w_target.nd rfl (Or.inl rfl) (pe_call G_w_free (hr.mono (by decide)) rfl T.g_w_free T.F_w_free.kp T.b_w_free .nil pass0 (pa_cons (pv 0) (pa_cons (pv 1) (pa_cons (pv 2) (pa_cons pe_int pa_nil)))))))
    pss_nil)
    (pss_cons (ps_if (PW.pt (pw_and (pt_cmpR op_eq (pv 4) pe_int (nomark _)) (pw_and1 (pt_cmpR (op_neD hr.units) (pv 3) (pe_lst pa_nil) (nomark _)))))
    (pss_one (ps_ret (pe_ix ix_list (pv 3) (pe_call G_w_take (hr.mono (by decide)) rfl T.g_w_take T.F_w_take.kp T.b_w_take .nil pass0 (pa_cons (pv 0) (pa_cons (pe_callB call_len_seq (by rfl) T.m_len PySem.boot_len (pa_cons (pv 3) pa_nil)) pa_nil))) (fun _ _ => rfl))))
    pss_nil)
    (pss_cons (ps_if (pt_cmpR op_eq (pv 4) pe_int (nomark _))
    (pss_one (ps_set (i := 5) sc_w_target.nd rfl (Or.inl rfl) (pe_lst pa_nil)))
    pss_nil)
    (pss_one (ps_ret (pe_call G_w_terms (hr.mono (by decide)) rfl T.g_w_terms T.F_w_terms.kp T.b_w_terms .nil pass0 (pa_cons (pv 5) pa_nil))))))))))), ?_⟩
    walk_at "start"
    walk_at "sts"
    refine r_takeB ha (by omega) (by omega) fun u H1 u0 u1 k1 ha1 => ?_
    have hb1 := hb.keep k1 (by simpa using Ne.symm ab)
    have hp1 : NamesAt H1 p xs := k1 _ _ (by simpa using pa) hp
    have lq1 := lq.keep k1 ha.lst (by simpa using qa)
    walk_at "sts"
    refine ⟨q, b, 4, xs, ls, rfl, lq1, hb1, qb, l8, l10, lo, fun r ts H2 k2 hb2 nr er tl tx tw => ?_⟩
    have ha2 := ha1.keep k2 (by simpa using ab)
    have hp2 : NamesAt H2 p xs := k2 _ _ (by simpa using pb) hp1
    have lq2 := lq1.keep k2 hb1.lst (by simpa using qb)
    have k02 : Keep [a, b] H H2 := (k1.mono (by simp)).trans (k2.mono (by simp))
    have u6 : u = 0 ∨ u = 1 ∨ u = 2 ∨ u = 3 ∨ u = 4 ∨ u = 5 := by omega
    have tw' : ∀ x, (Fm.wt ts x).natAbs ≤ 10 ^ 22 * 4 ^ 10 := fun x => Nat.le_trans (tw x) (Nat.mul_le_mul_left _ (Nat.pow_le_pow_right (by omega) l10))
    have fin : ∀ {r : Addr} {ts : List Fm.Tm} {H3 : Hp} {E : XK}, Keep [a, b] H H3 → BagAt a H3 → BagAt b H3 → RowAt H3 r ts → ts.length ≤ 1000 → (∀ t ∈ ts, t.1 ∈ xs) → (∀ x, (Fm.wt ts x).natAbs ≤ 10 ^ 22 * 4 ^ 11) → spTerms [.ref r] H3 Q E := fun {r ts H3 E} k3 ha3 hb3 er3 tl3 tx3 tw3 =>
      r_terms er3 tl3 tx3 (by omega) fun q4 H4 k4 nq4 eq4 => k q4 (Fm.can ts) H4 (k3.trans (k4.mono (by simp))) (ha3.keep0 k4) (hb3.keep0 k4) eq4 (can_ok tx3 tw3)
    rcases u6 with rfl | rfl | rfl | rfl | rfl | rfl
    · walk_at "sts"
      exact fin k02 ha2 hb2 er (by omega) tx fun x => Nat.le_trans (tw' x) (by decide)
    · walk_at "sts"
      refine r_terms er (by omega) tx (by omega) fun q4 H3 k3 nq4 eq4 => ?_
      have ok := can_ok (k := 10) tx tw'
      have tcl := ok.len
      obtain ⟨bs, e4, p4⟩ := eq4
      have bl := p4.len
      walk_at "sts"
      refine lcT_go (fun D i acc H' => acc = (((Fm.can ts).take i).map (·.2)).map V.int ∧ Keep [] H3 H' ∧ H3 D = none) (sqT_of e4) (fun D hD => ⟨rfl, Keep.new hD, hD⟩) (fun D i acc H' _ h => sqT_of (h.2.1 _ _ (by simp) e4)) ?_ ?_
      · rintro D i x acc H5 hx hacc ⟨rfl, k5, nD⟩
        obtain ⟨a2, ha2', rfl⟩ := getRef hx
        obtain ⟨t, ht, et⟩ := p4.get ha2'
        refine r_gTup2 (sqT_of (k5 _ _ (by simp) et)) ⟨rfl, ?_⟩
        walk_at "sts"
        refine lc_put hacc (lt_size (by rw [List.length_map, List.length_map, List.length_take]; omega)) ⟨?_, k5.mut nD, nD⟩
        rw [take_snoc ht]; simp
      · rintro D acc H5 nD hacc ⟨rfl, k5, _⟩
        rw [List.length_map, bl, List.take_length] at hacc
        have wlt : ∀ t ∈ Fm.can ts, t.2.natAbs < 2 ^ 97 := fun t ht => Nat.lt_of_le_of_lt (ok.wb ht) p4g
        walk_at "sts"
        refine ⟨D, (Fm.can ts).map (·.2), rfl, hacc, fun u hu => ?_, ?_⟩
        · obtain ⟨t, ht, rfl⟩ := List.mem_map.mp hu
          exact pow_mono 97 4000 (wlt t ht)
        · have gd : ∀ t ∈ Fm.can ts, ((gcdL ((Fm.can ts).map (·.2)) : Nat) : Int) ∣ t.2 := fun t ht => gcdL_dvd (List.mem_map_of_mem ht)
          generalize gcdL ((Fm.can ts).map (·.2)) = g0 at gd ⊢
          have c0 : 0 < max 1 (g0 : Int) := by omega
          have cd : ∀ t ∈ Fm.can ts, max 1 (g0 : Int) ∣ t.2 := fun t ht => by
            rcases (by omega : max 1 (g0 : Int) = 1 ∨ max 1 (g0 : Int) = g0) with e | e
            · rw [e]; exact Int.one_dvd _
            · rw [e]; exact gd t ht
          walk_at "sts"
          generalize max 1 (g0 : Int) = c at c0 cd ⊢
          refine lc_map (fun p => (p.1, p.2.fdiv c)) (k5 _ _ (by simp) e4) (p4.keep0 k5) (by omega) (fun _ _ => rfl) (fun t ht H6 Q6 k6 => ?_) fun r7 H7 k7 nr7 er7 => ?_
          · have le : c.natAbs ≤ t.2.natAbs := Nat.le_of_dvd (by have := ok.can.nz t ht; omega) (Int.natAbs_dvd_natAbs.mpr (cd t ht))
            have side : c ≠ 0 ∧ c.natAbs.log2 < 9000 := ⟨by omega, log_ok 97 (Nat.lt_of_le_of_lt le (wlt t ht))⟩
            walk_at "sts"
            exact k6
          · obtain ⟨cs, e7, p7⟩ := er7
            walk_at "sts"
            refine r_tupL (sqL_of e7) fun l nl => ?_
            have k8 : Keep [] H7 (upd H7 l (.tup (cs.map V.ref))) := Keep.new nl
            have k38 := ((k3.trans k5).trans k7).trans k8
            exact k l (dvL c (Fm.can ts)) _ (k02.trans (k38.mono (N := [a, b]) (by simp))) (ha2.keep0 k38) (hb2.keep0 k38) ⟨cs, upd_same, p7.keep0 k8⟩ ((dvL_ok ok c0 cd).up (by omega))
    · walk_at "sts"
      simp only [List.length_map]
      refine r_takeB ha2 (by omega) (by omega) fun v H3 v0 v1 k3 ha3 => ?_
      have hb3 := hb2.keep k3 (by simpa using Ne.symm ab)
      have hp3 : NamesAt H3 p xs := k3 _ _ (by simpa using pa) hp2
      have ra : r ≠ a := ha1.ne nr
      have rb : r ≠ b := hb1.ne nr
      have er3 := er.keep k3 ha2.lst (by simpa using ra)
      have k03 := k02.trans (k3.mono (N := [a, b]) (by simp))
      obtain ⟨z, hz, zm⟩ := atI_strs (xs := xs) v0 v1
      refine r_ixL (sqL_of hp3) hz ?_
      walk_at "sts"
      refine r_num hb3 fun n H4 n0 k4 hb4 => ?_
      have ha4 := ha3.keep k4 (by simpa using ab)
      obtain ⟨rs, e4, p4⟩ := er3.keep k4 hb3.lst (by simpa using rb)
      have k04 := k03.trans (k4.mono (N := [a, b]) (by simp))
      have rl := p4.len
      walk_at "sts"
      intro t1 nt1
      have k5 : Keep [] H4 (upd H4 t1 (.tup [.str z, .int n])) := Keep.new nt1
      have et1 : upd H4 t1 (.tup [.str z, .int n]) t1 = some (.tup [.str z, .int n]) := upd_same
      have e5 := k5 _ _ (by simp) e4
      have p5 := p4.keep0 k5
      have ha5 := ha4.keep0 k5
      have hb5 := hb4.keep0 k5
      have k05 := k04.trans (k5.mono (N := [a, b]) (by simp))
      generalize upd H4 t1 (.tup [.str z, .int n]) = H5 at et1 e5 p5 ha5 hb5 k05 ⊢
      walk_at "sts"
      intro t2 nt2
      have k6 : Keep [] H5 (upd H5 t2 (.lst [.ref t1])) := Keep.new nt2
      have et2 : upd H5 t2 (.lst [.ref t1]) t2 = some (.lst (([t1] : List Addr).map V.ref)) := upd_same
      have et6 := k6 _ _ (by simp) et1
      have e6 := k6 _ _ (by simp) e5
      have p6 := p5.keep0 k6
      have ha6 := ha5.keep0 k6
      have hb6 := hb5.keep0 k6
      have k06 := k05.trans (k6.mono (N := [a, b]) (by simp))
      generalize upd H5 t2 (.lst [.ref t1]) = H6 at et2 et6 e6 p6 ha6 hb6 k06 ⊢
      refine r_cat e6 et2 (le_size (by simp only [List.length_map, List.length_cons, List.length_nil]; omega)) fun w' nw => ?_
      rw [← List.map_append]
      have k7 : Keep [] H6 (upd H6 w' (.lst ((rs ++ [t1]).map V.ref))) := Keep.new nw
      have ew : RowAt (upd H6 w' (.lst ((rs ++ [t1]).map V.ref))) w' (ts ++ [(z, n)]) := ⟨rs ++ [t1], upd_same, (p6.app (bs := [t1]) (us := [(z, n)]) ⟨et6, trivial⟩).keep0 k7⟩
      have ha7 := ha6.keep0 k7
      have hb7 := hb6.keep0 k7
      have k07 := k06.trans (k7.mono (N := [a, b]) (by simp))
      walk_at "sts"
      refine fin k07 ha7 hb7 ew (by simp; omega) (fun t ht => ?_) fun x => ?_
      · rcases List.mem_append.mp ht with ht | ht
        · exact tx t ht
        · rw [List.mem_singleton.mp ht]; exact zm
      · rw [Fm.wt_append]
        have h1 := tw' x
        have h2 := wt_bd (ts := [(z, n)]) (n := 1) (by simp) (fun t ht => by rw [List.mem_singleton.mp ht]; exact n0) x
        have h3 := Int.natAbs_add_le (Fm.wt ts x) (Fm.wt [(z, n)] x)
        omega
    · walk_at "sts"
      refine ⟨a, b, p, 0, xs, rfl, ha2, hb2, ab, hp2, l1, l8, fun q4 ts4 H3 k3 ha3 hb3 nq4 eq4 tl4 tx4 => ?_⟩
      walk_at "sts"
      exact fin (k02.trans k3) ha3 hb3 eq4 (by omega) (fun t ht => (tx4 t ht).1) (free_bd tl4 tx4 11)
    · walk_at "sts"
      intro d nd
      have kd : Keep [] H2 (upd H2 d (.lst [])) := Keep.new nd
      have ed : upd H2 d (.lst []) d = some (.lst []) := upd_same
      have ha3 := ha2.keep0 kd
      have hb3 := hb2.keep0 kd
      have er3 := er.keep0' kd
      have k03 := k02.trans (kd.mono (N := [a, b]) (by simp))
      obtain ⟨as, eq3, pp⟩ := lq2.keep0 kd
      have al := pp.len
      generalize upd H2 d (.lst []) = H3 at ed ha3 hb3 er3 k03 eq3 pp ⊢
      refine r_neLinesNil eq3 pp ed (fun ts' hts' t ht => ?_) ?_
      · obtain ⟨k, hk, e⟩ := List.getElem_of_mem hts'
        exact xq _ ((lo k ts' (by rw [List.getElem?_eq_getElem hk, e])).nm t ht)
      refine ⟨_, rfl, ?_⟩
      refine r_iteN (fun c2 => ?_) (fun c2 => ?_)
      · have l0 : 0 < ls.length := by rcases ls with _ | _ <;> simp at c2 ⊢
        walk_at "sts"
        simp only [List.length_map]
        refine r_takeB ha3 (by omega) (by omega) fun v H4 v0 v1 k4 ha4 => ?_
        have hb4 := hb3.keep k4 (by simpa using Ne.symm ab)
        have eq4 : H4 q = some (.lst (as.map V.ref)) := k4 _ _ (by simpa using qa) eq3
        have k04 := k03.trans (k4.mono (N := [a, b]) (by simp))
        obtain ⟨m, rfl⟩ : ∃ m : Nat, v = m := ⟨v.toNat, by omega⟩
        obtain ⟨a6, ha6⟩ : ∃ a6, as[m]? = some a6 := ⟨_, List.getElem?_eq_getElem (by omega)⟩
        obtain ⟨us, hus, tu⟩ := pp.get ha6
        walk_at "sts"
        refine r_ixL (sqL_of eq4) (atI_nat (by rw [List.getElem?_map, ha6]; rfl)) ?_
        walk_at "sts"
        exact k a6 us H4 k04 ha4 hb4 (tu.keep k4 ha3.lst) ((lo m us hus).up (by omega))
      · walk_at "sts"
        exact fin k03 ha3 hb3 er3 (by omega) tx fun x => Nat.le_trans (tw' x) (by decide)
    · walk_at "sts"
      intro d nd
      have kd : Keep [] H2 (upd H2 d (.lst [])) := Keep.new nd
      have ed : RowAt (upd H2 d (.lst [])) d [] := ⟨[], upd_same, trivial⟩
      have ha3 := ha2.keep0 kd
      have hb3 := hb2.keep0 kd
      have k03 := k02.trans (kd.mono (N := [a, b]) (by simp))
      walk_at "sts"
      exact fin k03 ha3 hb3 ed (by simp) (by simp) fun x => Nat.zero_le _
end
/-! ### one call -/
theorem AnsAt.keep0 {H H' : Hp} {d : Addr} {ls : List (List Fm.Tm)} {t : List Fm.Tm} (h : AnsAt H d ls t) (k : Keep [] H H') : AnsAt H' d ls t := by
  rcases h with ⟨q, sc, ws, e, ea, w⟩ | ⟨q, R, e, rs, s⟩
  · exact .inl ⟨q, sc, ws, k _ _ (by simp) e, k _ _ (by simp) ea, w⟩
  · exact .inr ⟨q, R, k _ _ (by simp) e, rs.keep0 k, s⟩
def spAsked : Sp := fun vs H Q _ => ∃ (p e q : Addr) (c : Int) (ks : List Int) (xs : List Str) (ls : List (List Fm.Tm)) (t : List Fm.Tm), vs = [.ref p, .ref e, .ref q, .int c] ∧ LinesAt H p ls ∧ H e = some (.lst (ks.map V.int)) ∧ ks.length = ls.length ∧ TupAt H q t ∧ (∀ x ∈ xs, IsQ x) ∧ xs.length ≤ 8 ∧ ls.length ≤ 10 ∧ (∀ ts ∈ ls ++ [t], LOk xs 11 ts) ∧
  ∀ H' : Hp, Keep [] H H' → Q (.bl true) H'
theorem call_list_ofK {X : Cx} {K : PySem.W.Frag} (hK : X.K = K) : CallR X (.type "list") (fun xs H Q => ∃ p ys, xs = [.ref p] ∧ (SqL K H p ys ∨ SqT K H p ys) ∧ ∀ l, H l = none → Q (.ref l) (upd H l (.lst ys))) := by subst hK; exact call_list_of
theorem Each.zipL {α β : Type} {R : Addr → α → β → Prop} : ∀ {as : List Addr} {ls : List α} {ks : List β}, ls.length = ks.length → Each (fun a p => R a p.1 p.2) as (ls.zip ks) → Each (fun a x => ∃ c, R a x c) as ls
  | [], [], _, _, _ => trivial
  | a :: as, l :: ls, k :: ks, e, h => ⟨⟨k, h.1⟩, Each.zipL (by simpa using e) h.2⟩
  | _, [], _ :: _, e, _ => by simp at e
  | _, _ :: _, [], e, _ => by simp at e
  | [], _ :: _, _ :: _, _, h => h.elim
  | _ :: _, [], [], _, h => h.elim
theorem zip_snoc {α β : Type} {ls : List α} {ks : List β} {i : Nat} {x : α} {y : β} (h : ls[i]? = some x) (h' : ks[i]? = some y) : (ls.zip ks).take (i + 1) = (ls.zip ks).take i ++ [(x, y)] := take_snoc (List.getElem?_zip_eq_some.mpr ⟨h, h'⟩)
theorem nm_few {xs : List Str} {L : List (List Fm.Tm)} (h : ∀ ts ∈ L, ∀ t ∈ ts, t.1 ∈ xs) : (nmL L).length ≤ xs.length := Fm.nodup_len nmL_nodup fun x hx => by
  have := mem_nmL.mp hx
  unfold namesL at this
  obtain ⟨ts, hts, h2⟩ := List.mem_flatMap.mp this
  obtain ⟨z, hz, rfl⟩ := List.mem_map.mp h2
  exact h ts hts z hz
theorem ls_ok {xs : List Str} {ls : List (List Fm.Tm)} {t : List Fm.Tm} (x8 : xs.length ≤ 8) (l10 : ls.length ≤ 10) (lo : ∀ ts ∈ ls ++ [t], LOk xs 11 ts) : LsOk (ls ++ [t]) :=
  ⟨fun ts h => (lo ts h).can, by simp; omega, fun ts h x => Nat.le_trans ((lo ts h).bd x) (Nat.le_of_lt (Nat.lt_of_lt_of_le (p4 (by omega)) (by decide))), Nat.le_trans (nm_few fun ts h => (lo ts h).nm) x8⟩
def FKs (C : Addr) (H : Hp) (bs : List Addr) (zs : List (List Fm.Tm × Int)) : Prop := Each (fun a p => FormAt C H a p.1 p.2) bs zs
section
variable {w : World} {K : PySem.W.Frag} {mg : Str → Option Value} {base : Heap} {P : Program}
theorem ok_asked (T : Tx K mg) (G_Form___init : GInit P w K mg base T) (G_cancel : FnOk P w K mg base CX0 6 T.f_cancel T.fd_cancel ["lines", "target"] (spCancel T.C_Form)) (G_w_is_form : FnOk P w K mg base CX0 2 T.f_w_is_form T.fd_w_is_form ["_law_found", "_law_terms_here", "_law_constant"] (spIsForm T.C_Form))
    (G_w_answer : FnOk P w K mg base CX0 3 T.f_w_answer T.fd_w_answer ["_law_found", "_law_lines_here", "_law_target_here"] spAnswer) : FnOk P w K mg base CX0 7 T.f_w_asked T.fd_w_asked ["_law_lines_here", "_law_constants", "_law_target_here", "_law_constant"] spAsked := by
  refine T.F_w_asked.ok sc_w_asked (fun vs H Q E h => ?_) (fun cdv A outer s H vs Q E hr h => ?_)
  · obtain ⟨p, e, q, c, ks, xs, ls, t, rfl, _⟩ := h; rfl
  · obtain ⟨p, e, q, c, ks, xs, ls, t, rfl, ⟨as, ep, pp⟩, ee, kl, tq, xq, x8, l10, lo, k⟩ := h
    have oc := T.oc_Form
    have al := pp.len
    refine ⟨_, (pss_cons (ps_setLc (i := 4) (own := [("_law_line", 5), ("_law_number_here", 6)]) (g := gTup K 2 (gCons (gName 5) (gCons (gName 6) gNil))) (tt := tYes) rfl sc_w_asked.nd rfl rfl (sw_true rfl rfl rfl (by decide +kernel)) (pi_zip (by rfl) T.m_zip (pa_cons (pv 0) (pa_cons (pv 1) pa_nil))) (blkOk_by (own := [("_law_line", 5), ("_law_number_here", 6)]) (N := ["_law_lines_here", "_law_constants", "_law_target_here", "_law_constant", "_law_given", "_law_line", "_law_number_here", "_law_form", "_law_found", "_law_k"]) (sc := defScope s_w_asked) (by decide +kernel)) (fun _ _ _ _ _ => pg_tup (n := 2) rfl (pgs_cons (pg_name (i := 5) sc_w_asked.nd rfl (Or.inl rfl)) (pgs_cons (pg_name (i := 6) sc_w_asked.nd rfl (Or.inl rfl)) pgs_nil))) (fun _ _ _ _ _ => pts_nil) (fun _ _ _ _ _ => (pe_make T.mk_Form G_Form___init (hr.mono (by decide)) rfl T.gC_Form T.b3_Form___init.choose_spec.2 T.b3_Form___init.choose_spec.1 pass0 (pa_cons (pe_callTy (call_list_ofK (K := K) rfl) (by rfl) T.m_list (by decide +kernel) (pa_cons (pv 5) pa_nil)) (pa_cons (pv 6) pa_nil)))))
    (pss_cons (ps_set (i := 7) sc_w_asked.nd rfl (Or.inl rfl) (pe_make T.mk_Form G_Form___init (hr.mono (by decide)) rfl T.gC_Form T.b3_Form___init.choose_spec.2 T.b3_Form___init.choose_spec.1 pass0 (pa_cons (pe_callTy call_list_of (by rfl) T.m_list (by decide +kernel) (pa_cons (pv 2) pa_nil)) (pa_cons (pv 3) pa_nil))))
    (pss_cons (ps_set (i := 8) sc_w_asked.nd rfl (Or.inl rfl) (pe_call G_cancel (hr.mono (by decide)) rfl T.g_cancel T.F_cancel.kp T.b_cancel .nil pass0 (pa_cons (pv 4) (pa_cons (pv 7) pa_nil))))
    (pss_cons (ps_if (PW.pt (pw_or (pt_cmpR op_ne (pe_callB call_len_seq (by rfl) T.m_len PySem.boot_len (pa_cons (pv 4) pa_nil)) (pe_callB call_len_seq (by rfl) T.m_len PySem.boot_len (pa_cons (pv 0) pa_nil)) (nomark _)) (pw_or1 (pt_not (pt_val (pe_call G_w_is_form (hr.mono (by decide)) rfl T.g_w_is_form T.F_w_is_form.kp T.b_w_is_form .nil pass0 (pa_cons (pv 7) (pa_cons (pv 2) (pa_cons (pv 3) pa_nil)))))))))
    (pss_one (ps_ret pe_bl))
    pss_nil)
    (pss_cons (ps_for PassesOwn.never rfl (pi_enum (by rfl) T.m_enumerate (pa_cons (pv 0) pa_nil)) (pg_tup (n := 2) rfl (pgs_cons (pg_name (i := 9) sc_w_asked.nd rfl (Or.inl rfl)) (pgs_cons (pg_name (i := 5) sc_w_asked.nd rfl (Or.inl rfl)) pgs_nil)))
    (pss_one (ps_if (pt_not (pt_val (pe_call G_w_is_form (hr.mono (by decide)) rfl T.g_w_is_form T.F_w_is_form.kp T.b_w_is_form .nil pass0 (pa_cons (pe_ix ix_list (pv 4) (pv 9) (fun _ _ => rfl)) (pa_cons (pv 5) (pa_cons (pe_ix ix_list (pv 1) (pv 9) (fun _ _ => rfl)) pa_nil))))))
    (pss_one (ps_ret pe_bl))
    pss_nil)))
    (pss_one (ps_ret (pe_cmpR op_ne (pe_call G_w_answer (hr.mono (by decide)) rfl T.g_w_answer T.F_w_answer.kp T.b_w_answer .nil pass0 (pa_cons (pv 8) (pa_cons (pv 0) (pa_cons (pv 2) pa_nil)))) pe_str (nomark _))))))))), ?_⟩
    walk_at "start"
    walk_at "sts"
    refine r_lcZ ?_
    walk_at "sts"
    refine lcZ_go (xs := as.map V.ref) (ys := ks.map V.int) (by simp only [List.length_map]; omega) (fun D i acc H' => ∃ bs : List Addr, acc = bs.map V.ref ∧ Keep [] H H' ∧ H D = none ∧ FKs T.C_Form H' bs ((ls.zip ks).take i)) (sqL_of ep) (sqL_of ee) (fun D hD => ⟨[], rfl, Keep.new hD, hD, trivial⟩) (fun D i acc H' _ h => by obtain ⟨_, _, k, _⟩ := h; exact ⟨sqL_of (k _ _ (by simp) ep), sqL_of (k _ _ (by simp) ee)⟩) ?_ ?_
    · rintro D i x y T0 acc H1 hx hy hD0 hacc ⟨bs, rfl, k1, nD, fk⟩ hT
      obtain ⟨a, ha, rfl⟩ := getRef hx
      rw [List.getElem?_map] at hy
      obtain ⟨v, hv, rfl⟩ := Option.map_eq_some_iff.mp hy
      obtain ⟨us, hus, cs, et, pt⟩ := pp.get ha
      have um := List.mem_of_getElem? hus
      have lok := lo us (List.mem_append_left _ um)
      have ul := lok.len
      have k2 : Keep [] H1 (upd H1 T0 (.tup [.ref a, .int v])) := Keep.new hT
      refine r_gTup2 (sqT_of upd_same) ⟨rfl, ?_⟩
      have k12 := k1.trans k2
      have fk2 := fk.mono fun _ _ h => FormAt.keep0 h k2
      have hD2 := k2 _ _ (by simp) hacc
      have et2 := k12 _ _ (by simp) et
      have pt2 := pt.keep0 k12
      generalize upd H1 T0 (.tup [.ref a, .int v]) = H2 at k12 fk2 hD2 et2 pt2 ⊢
      have hcl := pt.len
      have hbl := fk.len
      rw [List.length_take, List.length_zip] at hbl
      walk_at "sts"
      intro l hl
      have k3 : Keep [] H2 (upd H2 l (.lst (cs.map V.ref))) := Keep.new hl
      have row : RowAt (upd H2 l (.lst (cs.map V.ref))) l us := ⟨cs, upd_same, pt2.keep0 k3⟩
      generalize upd H2 l (.lst (cs.map V.ref)) = H3 at k3 row ⊢
      walk_at "sts"
      refine r_newForm row (by omega) (fun z hz => xq _ (lok.nm z hz)) fun x H4 k4 nx f4 => ?_
      rw [Fm.can_self lok.can] at f4
      have k24 := k3.trans k4
      have hD4 := k24 _ _ (by simp) hD2
      refine lc_put (acc := bs.map V.ref) hD4 (by rw [List.length_map]; exact lt_size (by omega)) ⟨bs ++ [x], by rw [List.map_append]; rfl, (k12.trans k24).mut nD, nD, ?_⟩
      rw [zip_snoc hus hv]
      exact (Each.app (bs := [x]) (ys := [(us, v)]) (fk2.mono fun _ _ h => FormAt.keep0 h k24) ⟨f4, trivial⟩).mono fun _ _ h => FormAt.keep h (Keep.at (M := [D]) (by simp)) fun m hm => by rw [List.mem_singleton.mp hm]; exact ⟨_, hD4⟩
    · rintro D acc H1 nD hacc ⟨bs, rfl, k1, _, fk⟩
      have zl : (ls.zip ks).length = ls.length := by rw [List.length_zip]; omega
      rw [List.length_map, al, List.take_of_length_le (by omega)] at fk
      have bl := fk.len
      obtain ⟨cs, eq, pt⟩ := tq
      have tm : t ∈ ls ++ [t] := by simp
      have tok := lo t tm
      have tl := tok.len
      have eq1 := k1 _ _ (by simp) eq
      have hcl := pt.len
      walk_at "sts"
      intro l hl
      have k2 : Keep [] H1 (upd H1 l (.lst (cs.map V.ref))) := Keep.new hl
      have row : RowAt (upd H1 l (.lst (cs.map V.ref))) l t := ⟨cs, upd_same, (pt.keep0 k1).keep0 k2⟩
      generalize upd H1 l (.lst (cs.map V.ref)) = H2 at k2 row ⊢
      walk_at "sts"
      refine r_newForm row (by omega) (fun z hz => xq _ (tok.nm z hz)) fun x H3 k3 nx f3 => ?_
      rw [Fm.can_self tok.can] at f3
      have k13 := k2.trans k3
      have eD3 := k13 _ _ (by simp) hacc
      have fk3 : FKs T.C_Form H3 bs (ls.zip ks) := fk.mono fun _ _ h => FormAt.keep0 h k13
      walk_at "sts"
      refine ⟨D, x, bs, ls, t, c, rfl, eD3, Each.zipL kl.symm fk3, f3, ls_ok x8 l10 lo, fun z H4 k4 an => ?_⟩
      have k04 := (k1.trans k13).trans k4
      have eD4 := k4 _ _ (by simp) eD3
      have ep4 := k04 _ _ (by simp) ep
      have ee4 := k04 _ _ (by simp) ee
      have tq4 : TupAt H4 q t := ⟨cs, k04 _ _ (by simp) eq, pt.keep0 k04⟩
      have fk4 : FKs T.C_Form H4 bs (ls.zip ks) := fk3.mono fun _ _ h => FormAt.keep0 h k4
      have f4 := f3.keep0 k4
      have pp4 : Each (TupAt H4) as ls := pp.mono fun _ _ h => TupAt.keep0 h k04
      walk_at "sts"
      refine ⟨x, q, t, c, rfl, f4, tq4, fun z hz => xq _ (tok.nm z hz), ?_⟩
      refine ⟨_, rfl, ?_⟩
      walk_at "sts"
      refine Zm.r_forNL ?_
      walk_at "sts"
      refine Zm.forNL_go (fun i σ' H' => ∃ (y5 y6 y9 : Option V), σ' = [some (.ref p), some (.ref e), some (.ref q), some (.int c), some (.ref D), y5, y6, some (.ref x), some (.ref z), y9] ∧ Keep [] H4 H') (sqL_of ep4) ⟨_, _, _, rfl, Keep.refl _ _⟩ (fun i σ' H' h => by obtain ⟨_, _, _, _, k⟩ := h; exact sqL_of (k _ _ (by simp) ep4)) ?_ ?_
      · rintro i v T' σ' H5 hv ⟨y5, y6, y9, rfl, k5⟩ hT
        obtain ⟨a, ha, rfl⟩ := getRef hv
        obtain ⟨us, hus, tu⟩ := pp4.get ha
        have um := List.mem_of_getElem? hus
        have lok := lo us (List.mem_append_left _ um)
        obtain ⟨kv, hk⟩ : ∃ kv, ks[i]? = some kv := ⟨_, List.getElem?_eq_getElem (by have := (List.getElem?_eq_some_iff.mp hus).1; omega)⟩
        obtain ⟨b, hb, fb⟩ := fk4.getR (x := (us, kv)) (List.getElem?_zip_eq_some.mpr ⟨hus, hk⟩)
        have kT : Keep [] H5 (upd H5 T' (.tup [.int (i : Nat), .ref a])) := Keep.new hT
        refine r_gTup2 (sqT_of upd_same) ?_
        simp only [List.set_cons_zero, List.set_cons_succ]
        have k45 := k5.trans kT
        generalize upd H5 T' (.tup [.int (i : Nat), .ref a]) = H6 at k45 ⊢
        have eD6 := k45 _ _ (by simp) eD4
        have ee6 := k45 _ _ (by simp) ee4
        walk_at "sts"
        refine r_ixL (sqL_of eD6) (atI_nat (by rw [List.getElem?_map, hb]; rfl)) ?_
        walk_at "sts"
        refine r_ixL (sqL_of ee6) (atI_nat (by rw [List.getElem?_map, hk]; rfl)) ?_
        walk_at "sts"
        refine ⟨b, a, us, kv, rfl, fb.keep0 k45, tu.keep0 k45, fun z hz => xq _ (lok.nm z hz), ?_⟩
        walk_at "sts"
        exact ⟨_, _, _, rfl, k45⟩
      · rintro σ' H5 ⟨y5, y6, y9, rfl, k5⟩
        walk_at "sts"
        refine ⟨z, p, q, ls, t, xs, rfl, an.keep0 k5, ⟨as, k5 _ _ (by simp) ep4, pp4.mono fun _ _ h => TupAt.keep0 h k5⟩, tq4.keep0 k5, l10, x8, fun ts h => (lo ts h).can, fun ts h z hz => ⟨(lo ts h).nm z hz, Nat.lt_of_le_of_lt ((lo ts h).wb hz) (pow_mono 97 200 (p4 (by omega)))⟩, xq, fun s H6 k6 sn => ?_⟩
        walk_at "sts"
        rw [decide_eq_false sn]
        exact k _ ((k04.trans k5).trans k6)
end
/-! ### the law -/
def spLaw (K : PySem.W.Frag) : Sp := fun vs H Q _ => ∃ (a : Addr) (ns : List Int), vs = [.ref a] ∧ SqL K H a (ns.map V.int) ∧ ns.length ≤ 63 ∧ ∀ H', Q (.bl true) H'
/-- what stands while cancel is asked -/
structure CL (q e r g : Addr) (ls : List (List Fm.Tm)) (ks : List Int) (t gs : List Fm.Tm) (H : Hp) : Prop where
  lq : LinesAt H q ls
  ee : H e = some (.lst (ks.map V.int))
  tr : TupAt H r t
  gr : TupAt H g gs
theorem CL.k {q e r g : Addr} {ls : List (List Fm.Tm)} {ks : List Int} {t gs : List Fm.Tm} {H H' : Hp} (h : CL q e r g ls ks t gs H) (k : Keep [] H H') : CL q e r g ls ks t gs H' := ⟨h.lq.keep0 k, k _ _ (by simp) h.ee, h.tr.keep0 k, h.gr.keep0 k⟩
theorem ok_app {xs : List Str} {ls : List (List Fm.Tm)} {t : List Fm.Tm} (h : ∀ ts ∈ ls, LOk xs 11 ts) (ht : LOk xs 11 t) : ∀ ts ∈ ls ++ [t], LOk xs 11 ts := fun ts hs => by
  rcases List.mem_append.mp hs with hs | hs
  · exact h ts hs
  · rw [List.mem_singleton.mp hs]; exact ht
theorem cutV_from {xs : List V} {n : Nat} (h : n ≤ xs.length) : cutV xs (some ((n : Nat) : Int)) none = xs.drop n := by
  unfold cutV
  rw [HT.sIx_nat, HT.sIx_none, Nat.min_eq_left h]
  exact List.take_of_length_le (by simp)
theorem cutV_tail {xs : List V} : cutV xs (some 1) none = xs.drop 1 := by
  rcases xs with _ | ⟨x, xs⟩
  · unfold cutV; simp
  · exact cutV_from (n := 1) (by simp)
theorem r_tailL {K : PySem.W.Frag} {H : Hp} {Q : VK} {q : Addr} {ls : List (List Fm.Tm)} (h : LinesAt H q ls) (k : ∀ p H', Keep [] H H' → LinesAt H' p (ls.drop 1) → Q (.ref p) H') : rSlL K (.ref q) (some 1) none H Q := by
  obtain ⟨as, e, pp⟩ := h
  refine r_slL (sqL_of e) fun p np => ?_
  rw [cutV_tail, ← List.map_drop]
  exact k p _ (Keep.new np) ⟨as.drop 1, upd_same, (pp.drop 1).mono fun _ _ h => TupAt.keep0 h (Keep.new np)⟩
theorem r_tailI {K : PySem.W.Frag} {H : Hp} {Q : VK} {e : Addr} {ks : List Int} (h : H e = some (.lst (ks.map V.int))) (k : ∀ p H', Keep [] H H' → H' p = some (.lst ((ks.drop 1).map V.int)) → Q (.ref p) H') : rSlL K (.ref e) (some 1) none H Q := by
  refine r_slL (sqL_of h) fun p np => ?_
  rw [cutV_tail, ← List.map_drop]
  exact k p _ (Keep.new np) upd_same
theorem count_at {v : Int} (v0 : 0 ≤ v) (v1 : v < 10) : ∃ n : Int, atI [V.int 3, V.int 0, V.int 1, V.int 2, V.int 4, V.int 5, V.int 6, V.int 7, V.int 8, V.int 10] v = some (.int n) ∧ 0 ≤ n ∧ n ≤ 10 := by
  rcases (by omega : v = 0 ∨ v = 1 ∨ v = 2 ∨ v = 3 ∨ v = 4 ∨ v = 5 ∨ v = 6 ∨ v = 7 ∨ v = 8 ∨ v = 9) with rfl | rfl | rfl | rfl | rfl | rfl | rfl | rfl | rfl | rfl <;> exact ⟨_, rfl, by decide, by decide⟩
section
variable {w : World} {K : PySem.W.Frag} {mg : Str → Option Value} {base : Heap}
theorem ok_law (T : Tx K mg) (G_w_bag : FnOk PG w K mg base CX0 1 T.f_w_bag T.fd_w_bag ["_law_script", "_law_place"] (spBag K)) (G_w_take : GTake PG w K mg base T)
    (G_w_names : FnOk PG w K mg base CX0 3 T.f_w_names T.fd_w_names ["_law_bag_here", "_law_many"] spNames)
    (G_w_lines : FnOk PG w K mg base CX0 4 T.f_w_lines T.fd_w_lines ["_law_words", "_law_numbers", "_law_names_here", "_law_count", "_law_turn"] spLines)
    (G_w_number : FnOk PG w K mg base CX0 2 T.f_w_number T.fd_w_number ["_law_bag_here", "_law_shift"] spNum)
    (G_w_target : FnOk PG w K mg base CX0 4 T.f_w_target T.fd_w_target ["_law_words", "_law_numbers", "_law_names_here", "_law_lines_here"] spTarget)
    (G_w_free : FnOk PG w K mg base CX0 3 T.f_w_free T.fd_w_free ["_law_words", "_law_numbers", "_law_names_here", "_law_shift"] spFree)
    (G_w_terms : FnOk PG w K mg base CX0 1 T.f_w_terms T.fd_w_terms ["_law_pairs"] spTerms)
    (G_w_asked : FnOk PG w K mg base CX0 7 T.f_w_asked T.fd_w_asked ["_law_lines_here", "_law_constants", "_law_target_here", "_law_constant"] spAsked) : FnOk PG w K mg base CX0 8 T.f_law T.fd_law ["_law_script"] (spLaw K) := by
  refine T.F_law.ok sc_law (fun vs H Q E h => ?_) (fun cdv A outer s H vs Q E hr h => ?_)
  · obtain ⟨a, ns, rfl, _⟩ := h; rfl
  · obtain ⟨sc, ns, rfl, hs, hn, qq⟩ := h
    refine ⟨_, (pss_cons (ps_set (i := 1) sc_law.nd rfl (Or.inl rfl) (pe_call G_w_bag (hr.mono (by decide)) rfl T.g_w_bag T.F_w_bag.kp T.b_w_bag .nil pass0 (pa_cons (pv 0) (pa_cons pe_int pa_nil))))
    (pss_cons (ps_set (i := 2) sc_law.nd rfl (Or.inl rfl) (pe_call G_w_bag (hr.mono (by decide)) rfl T.g_w_bag T.F_w_bag.kp T.b_w_bag .nil pass0 (pa_cons (pv 0) (pa_cons pe_int pa_nil))))
    (pss_cons (ps_set (i := 3) sc_law.nd rfl (Or.inr rfl) (pe_call G_w_bag (hr.mono (by decide)) rfl T.g_w_bag T.F_w_bag.kp T.b_w_bag .nil pass0 (pa_cons (pv 0) (pa_cons pe_int pa_nil))))
    (pss_cons (ps_set (i := 4) sc_law.nd rfl (Or.inl rfl) (pe_call G_w_names (hr.mono (by decide)) rfl T.g_w_names T.F_w_names.kp T.b_w_names .nil pass0 (pa_cons (pv 2) (pa_cons (pe_op op_add pe_int (pe_op op_mod (pe_callTy call_int1 (by rfl) T.m_int (by decide +kernel) (pa_cons (pe_op op_add (pe_call G_w_take (hr.mono (by decide)) rfl T.g_w_take T.F_w_take.kp T.b_w_take .nil pass0 (pa_cons (pv 1) (pa_cons pe_int pa_nil))) pe_int) pa_nil)) pe_int)) pa_nil))))
    (pss_cons (ps_set (i := 5) sc_law.nd rfl (Or.inr rfl) (pe_ix ix_list (pe_lst (pa_cons pe_int (pa_cons pe_int (pa_cons pe_int (pa_cons pe_int (pa_cons pe_int (pa_cons pe_int (pa_cons pe_int (pa_cons pe_int (pa_cons pe_int (pa_cons pe_int pa_nil))))))))))) (pe_call G_w_take (hr.mono (by decide)) rfl T.g_w_take T.F_w_take.kp T.b_w_take .nil pass0 (pa_cons (pv 1) (pa_cons pe_int pa_nil))) (fun _ _ => rfl)))
    (pss_cons (ps_set (i := 6) sc_law.nd rfl (Or.inr rfl) (pe_call G_w_lines (hr.mono (by decide)) rfl T.g_w_lines T.F_w_lines.kp T.b_w_lines .nil pass0 (pa_cons (pv 2) (pa_cons (pv 3) (pa_cons (pv 4) (pa_cons (pv 5) (pa_cons pe_int pa_nil)))))))
    (pss_cons (ps_setLc (i := 7) (own := [("_law_k", 8)]) (g := gName 8) (tt := tYes) rfl sc_law.nd rfl rfl (sw_true rfl rfl rfl (by decide +kernel)) (pi_range1 rfl T.m_range (pa_cons (pv 5) pa_nil)) (blkOk_by (own := [("_law_k", 8)]) (N := ["_law_script", "_law_sizes", "_law_words", "_law_numbers", "_law_names_here", "_law_count", "_law_lines_here", "_law_constants", "_law_k", "_law_target_here", "_law_other", "_law_constant", "_law_turned"]) (sc := defScope s_law) (by decide +kernel)) (fun _ _ _ _ _ => pg_name (i := 8) sc_law.nd rfl (Or.inl rfl)) (fun _ _ _ _ _ => pts_nil) (fun _ _ _ _ _ => (pe_call G_w_number (hr.mono (by decide)) rfl T.g_w_number T.F_w_number.kp T.b_w_number .nil pass0 (pa_cons (pv 3) (pa_cons (pe_op op_add pe_int (pv 8)) pa_nil)))))
    (pss_cons (ps_set (i := 9) sc_law.nd rfl (Or.inl rfl) (pe_call G_w_target (hr.mono (by decide)) rfl T.g_w_target T.F_w_target.kp T.b_w_target .nil pass0 (pa_cons (pv 2) (pa_cons (pv 3) (pa_cons (pv 4) (pa_cons (pv 6) pa_nil))))))
    (pss_cons (ps_set (i := 10) sc_law.nd rfl (Or.inl rfl) (pe_call G_w_terms (hr.mono (by decide)) rfl T.g_w_terms T.F_w_terms.kp T.b_w_terms .nil pass0 (pa_cons (pe_call G_w_free (hr.mono (by decide)) rfl T.g_w_free T.F_w_free.kp T.b_w_free .nil pass0 (pa_cons (pv 2) (pa_cons (pv 3) (pa_cons (pv 4) (pa_cons pe_int pa_nil))))) pa_nil)))
    (pss_cons (ps_set (i := 11) sc_law.nd rfl (Or.inl rfl) (pe_call G_w_number (hr.mono (by decide)) rfl T.g_w_number T.F_w_number.kp T.b_w_number .nil pass0 (pa_cons (pv 3) (pa_cons pe_int pa_nil))))
    (pss_cons (ps_if (PW.pt (pw_or (pt_not (pt_val (pe_call G_w_asked (hr.mono (by decide)) rfl T.g_w_asked T.F_w_asked.kp T.b_w_asked .nil pass0 (pa_cons (pv 6) (pa_cons (pv 7) (pa_cons (pv 9) (pa_cons (pv 11) pa_nil))))))) (pw_or1 (pt_not (pt_val (pe_call G_w_asked (hr.mono (by decide)) rfl T.g_w_asked T.F_w_asked.kp T.b_w_asked .nil pass0 (pa_cons (pv 6) (pa_cons (pv 7) (pa_cons (pv 10) (pa_cons pe_int pa_nil))))))))))
    (pss_one (ps_ret pe_bl))
    pss_nil)
    (pss_cons (ps_setLc (i := 12) (own := [("_law_k", 8)]) (g := gName 8) (tt := tYes) rfl sc_law.nd rfl rfl (sw_true rfl rfl rfl (by decide +kernel)) (pi_range1 rfl T.m_range (pa_cons (pv 5) pa_nil)) (blkOk_by (own := [("_law_k", 8)]) (N := ["_law_script", "_law_sizes", "_law_words", "_law_numbers", "_law_names_here", "_law_count", "_law_lines_here", "_law_constants", "_law_k", "_law_target_here", "_law_other", "_law_constant", "_law_turned"]) (sc := defScope s_law) (by decide +kernel)) (fun _ _ _ _ _ => pg_name (i := 8) sc_law.nd rfl (Or.inl rfl)) (fun _ _ _ _ _ => pts_nil) (fun _ _ _ _ _ => (pe_ix (ix_listK (K := K) rfl) (pv 6) (pe_op op_sub (pe_op op_sub (pv 5) pe_int) (pv 8)) (fun _ _ => rfl))))
    (pss_cons (ps_if (PW.pt (pw_or (pt_not (pt_val (pe_call G_w_asked (hr.mono (by decide)) rfl T.g_w_asked T.F_w_asked.kp T.b_w_asked .nil pass0 (pa_cons (pv 12) (pa_cons (pv 7) (pa_cons (pv 9) (pa_cons pe_int pa_nil))))))) (pw_or1 (pt_not (pt_val (pe_call G_w_asked (hr.mono (by decide)) rfl T.g_w_asked T.F_w_asked.kp T.b_w_asked .nil pass0 (pa_cons (pe_lst pa_nil) (pa_cons (pe_lst pa_nil) (pa_cons (pv 9) (pa_cons (pv 11) pa_nil))))))))))
    (pss_one (ps_ret pe_bl))
    pss_nil)
    (pss_one (ps_ret (pe_and (pe_call G_w_asked (hr.mono (by decide)) rfl T.g_w_asked T.F_w_asked.kp T.b_w_asked .nil pass0 (pa_cons (pe_slice sl_list (pv 6) (po_some pe_int) po_none) (pa_cons (pe_slice sl_list (pv 7) (po_some pe_int) po_none) (pa_cons (pv 9) (pa_cons pe_int pa_nil))))) (pe_one (pe_call G_w_asked (hr.mono (by decide)) rfl T.g_w_asked T.F_w_asked.kp T.b_w_asked .nil pass0 (pa_cons (pe_slice sl_list (pv 6) (po_some pe_int) po_none) (pa_cons (pe_slice sl_list (pv 7) (po_some pe_int) po_none) (pa_cons (pv 10) (pa_cons (pv 11) pa_nil)))))))))))))))))))))), ?_⟩
    walk_at "start"
    walk_at "sts"
    refine ⟨sc, ns, 0, rfl, hs, hn, by omega, fun s H1 k1 ns1 bs1 => ?_⟩
    have hs1 := k1.l (K := K) (by simp) hs
    walk_at "sts"
    refine ⟨sc, ns, 1, rfl, hs1, hn, by omega, fun a H2 k2 na2 ba2 => ?_⟩
    have hs2 := k2.l (K := K) (by simp) hs1
    have bs2 := bs1.keep0 k2
    have as_ : a ≠ s := bs1.ne na2
    walk_at "sts"
    refine ⟨sc, ns, 2, rfl, hs2, hn, by omega, fun b H3 k3 nb3 bb3 => ?_⟩
    have bs3 := bs2.keep0 k3
    have ba3 := ba2.keep0 k3
    have bs_ : b ≠ s := bs2.ne nb3
    have ba_ : b ≠ a := ba2.ne nb3
    clear hs hs1 hs2 k1 k2 k3 bs1 bs2 ba2 ns1 na2 nb3
    walk_at "sts"
    refine r_takeB bs3 (by omega) (by omega) fun v H4 v0 v1 k4 bs4 => ?_
    have ba4 := ba3.keep k4 (by simpa using as_)
    have bb4 := bb3.keep k4 (by simpa using bs_)
    walk_at "sts"
    have m0 := Int.emod_nonneg (v + 2) (show (8 : Int) ≠ 0 by decide)
    have m1 := Int.emod_lt_of_pos (v + 2) (show (0 : Int) < 8 by decide)
    generalize (v + 2) % 8 = m at m0 m1 ⊢
    clear k4 bs3 ba3 bb3 v0 v1
    walk_at "sts"
    refine ⟨a, 1 + m, rfl, ba4, by omega, by omega, fun p xs H5 x1 x8 xq nd k5 ba5 np hp5 => ?_⟩
    have bs5 := bs4.keep k5 (by simpa using Ne.symm as_)
    have bb5 := bb4.keep k5 (by simpa using ba_)
    have ps : p ≠ s := bs4.ne np
    have pa : p ≠ a := ba4.ne np
    have pb : p ≠ b := bb4.ne np
    clear k5 bs4 ba4 bb4 np
    walk_at "sts"
    intro l nl
    have k6 : Keep [] H5 (upd H5 l (.lst [V.int 3, V.int 0, V.int 1, V.int 2, V.int 4, V.int 5, V.int 6, V.int 7, V.int 8, V.int 10])) := Keep.new nl
    have el : upd H5 l (.lst [V.int 3, V.int 0, V.int 1, V.int 2, V.int 4, V.int 5, V.int 6, V.int 7, V.int 8, V.int 10]) l = some (.lst [V.int 3, V.int 0, V.int 1, V.int 2, V.int 4, V.int 5, V.int 6, V.int 7, V.int 8, V.int 10]) := upd_same
    have ls_ : l ≠ s := bs5.ne nl
    have bs6 := bs5.keep0 k6
    have ba6 := ba5.keep0 k6
    have bb6 := bb5.keep0 k6
    have hp6 : NamesAt _ p xs := k6 _ _ (by simp) hp5
    generalize upd H5 l (.lst [V.int 3, V.int 0, V.int 1, V.int 2, V.int 4, V.int 5, V.int 6, V.int 7, V.int 8, V.int 10]) = H6 at k6 el bs6 ba6 bb6 hp6 ⊢
    clear bs5 ba5 bb5 hp5 nl k6
    walk_at "sts"
    refine r_takeB bs6 (by omega) (by omega) fun v H7 v0 v1 k7 bs7 => ?_
    have ba7 := ba6.keep k7 (by simpa using as_)
    have bb7 := bb6.keep k7 (by simpa using bs_)
    have hp7 : NamesAt _ p xs := k7 _ _ (by simpa using ps) hp6
    have el7 := k7 _ _ (by simpa using ls_) el
    obtain ⟨n, hn7, n0, n10⟩ := count_at v0 v1
    refine r_ixL (sqL_of el7) hn7 ?_
    clear k7 bs6 ba6 bb6 hp6 el el7 hn7 bs7
    walk_at "sts"
    refine ⟨a, b, p, n, 3, xs, rfl, ba7, bb7, Ne.symm ba_, hp7, xq, x1, x8, n0, n10, fun q ls H8 k8 ba8 bb8 nq lq ll lo => ?_⟩
    have hp8 : NamesAt _ p xs := k8 _ _ (by simp [pa, pb]) hp7
    have qa : q ≠ a := ba7.ne nq
    have qb : q ≠ b := bb7.ne nq
    clear k8 ba7 bb7 hp7 nq
    walk_at "sts"
    refine lcR1_go (fun D i acc H' => ∃ ks : List Int, acc = ks.map V.int ∧ ks.length = i ∧ Keep [b] H8 H' ∧ BagAt b H' ∧ H8 D = none) ⟨by omega, by omega⟩ (fun D hD => ⟨[], rfl, rfl, Keep.mono (M := []) (Keep.new hD) (by simp), bb8.keep0 (Keep.new hD), hD⟩) ?_ ?_
    · rintro D i acc H9 hi hacc ⟨ks, rfl, kl, k9, bb9, nD⟩
      have Db : D ≠ b := bb8.ne nD
      walk_at "sts"
      refine r_num bb9 fun z H10 z0 k10 bb10 => ?_
      have hacc10 := k10 _ _ (by simpa using Db) hacc
      have kD : Keep [D] H10 (upd H10 D (.lst (ks.map V.int ++ [V.int z]))) := Keep.at (by simp)
      refine lc_put hacc10 (lt_size (by rw [List.length_map]; omega)) ⟨ks ++ [z], by rw [List.map_append]; rfl, by simp [kl], (k9.trans k10).mut nD, bb10.keep kD (by simpa using Ne.symm Db), nD⟩
    · rintro e acc H9 ne ee ⟨ks, rfl, kl, k9, bb9, _⟩
      have ba9 := ba8.keep k9 (by simpa using Ne.symm ba_)
      have hp9 : NamesAt _ p xs := k9 _ _ (by simpa using pb) hp8
      have lq9 := lq.keep k9 bb8.lst (by simpa using qb)
      have ea : e ≠ a := ba8.ne ne
      have eb : e ≠ b := bb8.ne ne
      clear k9 ba8 bb8 hp8 lq ne
      walk_at "sts"
      refine ⟨a, b, p, q, xs, ls, rfl, ba9, bb9, Ne.symm ba_, hp9, xq, x1, x8, lq9, qa, qb, by omega, lo, fun r t H10 k10 ba10 bb10 tr tok => ?_⟩
      have hp10 : NamesAt _ p xs := k10 _ _ (by simp [pa, pb]) hp9
      have lq10 := lq9.keep k10 (bags_keep ba9 bb9) (by simp [qa, qb])
      have ee10 := k10 _ _ (by simp [ea, eb]) ee
      clear k10 ba9 bb9 hp9 lq9 ee
      walk_at "sts"
      refine ⟨a, b, p, 1, xs, rfl, ba10, bb10, Ne.symm ba_, hp10, x1, x8, fun f fs H11 k11 ba11 bb11 nf ef fl fx => ?_⟩
      have lq11 := lq10.keep k11 (bags_keep ba10 bb10) (by simp [qa, qb])
      have ee11 := k11 _ _ (by simp [ea, eb]) ee10
      have tr11 := tr.keep k11 (bags_keep ba10 bb10)
      clear k11 ba10 bb10 hp10 lq10 ee10 tr nf
      walk_at "sts"
      refine r_terms ef (by omega) (fun t ht => (fx t ht).1) (by omega) fun g H12 k12 ng eg => ?_
      have gok : LOk xs 11 (Fm.can fs) := can_ok (fun t ht => (fx t ht).1) (free_bd fl fx 11)
      have lq12 := lq11.keep0 k12
      have ee12 := k12 _ _ (by simp) ee11
      have tr12 := tr11.keep0 k12
      have bb12 := bb11.keep0 k12
      clear k12 ba11 bb11 lq11 ee11 tr11 ng ef fl fx
      generalize Fm.can fs = gs at gok eg
      walk_at "sts"
      refine r_num bb12 fun cc H13 c0 k13 bb13 => ?_
      have lq13 := lq12.keep k13 bb12.lst (by simpa using qb)
      have ee13 := k13 _ _ (by simpa using eb) ee12
      have tr13 := tr12.keep k13 bb12.lst
      have gr13 := eg.keep k13 bb12.lst
      clear k13 bb12 bb13 lq12 ee12 tr12 eg c0
      have lo11 : ∀ ts ∈ ls, LOk xs 11 ts := fun ts h => by
        obtain ⟨k, hk, e⟩ := List.getElem_of_mem h
        exact (lo k ts (by rw [List.getElem?_eq_getElem hk, e])).up (by omega)
      have kls : ks.length = ls.length := by omega
      have l10 : ls.length ≤ 10 := by omega
      have cl : CL q e r g ls ks t gs H13 := ⟨lq13, ee13, tr13, gr13⟩
      have lot := ok_app lo11 tok
      have log := ok_app lo11 gok
      clear lq13 ee13 tr13 gr13 lo bs_ as_ ba_ ls_ ps pa pb x1
      walk_at "sts"
      refine ⟨q, e, r, cc, ks, xs, ls, t, rfl, cl.lq, cl.ee, kls, cl.tr, xq, x8, l10, lot, fun H14 k14 => ?_⟩
      have cl14 := cl.k k14
      clear cl k14
      refine ⟨_, rfl, ?_⟩
      walk_at "sts"
      refine ⟨q, e, g, 0, ks, xs, ls, gs, rfl, cl14.lq, cl14.ee, kls, cl14.gr, xq, x8, l10, log, fun H15 k15 => ?_⟩
      have cl15 := cl14.k k15
      clear cl14 k15
      refine ⟨_, rfl, ?_⟩
      walk_at "sts"
      refine lcR1_go (fun D i acc H' => ∃ (bs : List Addr) (us : List (List Fm.Tm)), acc = bs.map V.ref ∧ us.length = i ∧ Each (TupAt H') bs us ∧ (∀ u ∈ us, LOk xs 11 u) ∧ CL q e r g ls ks t gs H' ∧ H15 D = none) ⟨by omega, by omega⟩ (fun D hD => ⟨[], [], rfl, rfl, trivial, by simp, cl15.k (Keep.new hD), hD⟩) ?_ ?_
      · rintro D i acc H16 hi hacc ⟨bs, us, rfl, ul, eu, uo, cl16, nD⟩
        have bl := eu.len
        obtain ⟨as, eq16, pp⟩ := cl16.lq
        have al := pp.len
        have im : (n - 1 - (i : Int)) = ((ls.length - 1 - i : Nat) : Int) := by omega
        obtain ⟨a6, ha6⟩ : ∃ a6, as[ls.length - 1 - i]? = some a6 := ⟨_, List.getElem?_eq_getElem (by omega)⟩
        obtain ⟨u, hu, tu⟩ := pp.get ha6
        walk_at "sts"
        rw [im]
        refine r_ixL (sqL_of eq16) (atI_nat (by rw [List.getElem?_map, ha6]; rfl)) ?_
        have mD : ∀ m ∈ [D], ∃ xs, H16 m = some (.lst xs) := fun m hm => by rw [List.mem_singleton.mp hm]; exact ⟨_, hacc⟩
        have kD : Keep [D] H16 (upd H16 D (.lst (bs.map V.ref ++ [V.ref a6]))) := Keep.at (by simp)
        have qD : q ≠ D := by rintro rfl; obtain ⟨as', e', _⟩ := cl15.lq; rw [nD] at e'; cases e'
        have eD : e ≠ D := by rintro rfl; have e' := cl15.ee; rw [nD] at e'; cases e'
        refine lc_put hacc (lt_size (by rw [List.length_map]; omega)) ⟨bs ++ [a6], us ++ [u], by rw [List.map_append]; rfl, by simp [ul], (Each.app (bs := [a6]) (ys := [u]) eu ⟨tu, trivial⟩).mono fun _ _ h => h.keep kD mD, fun z hz => ?_, ⟨LinesAt.keep ⟨as, eq16, pp⟩ kD mD (by simpa using qD), kD _ _ (by simpa using eD) cl16.ee, cl16.tr.keep kD mD, cl16.gr.keep kD mD⟩, nD⟩
        rcases List.mem_append.mp hz with hz | hz
        · exact uo z hz
        · rw [List.mem_singleton.mp hz]; exact lo11 u (List.mem_of_getElem? hu)
      · rintro d acc H16 nd ed ⟨bs, us, rfl, ul, eu, uo, cl16, _⟩
        have lu : LinesAt H16 d us := ⟨bs, ed, eu⟩
        clear cl15 nd
        have ul2 : us.length = ls.length := by omega
        walk_at "sts"
        refine ⟨d, e, r, 0, ks, xs, us, t, rfl, lu, cl16.ee, by omega, cl16.tr, xq, x8, by omega, ok_app uo tok, fun H17 k17 => ?_⟩
        have cl17 := cl16.k k17
        clear cl16 k17 ed eu lu
        refine ⟨_, rfl, ?_⟩
        walk_at "sts"
        intro e1 ne1
        have k18 : Keep [] H17 (upd H17 e1 (.lst [])) := Keep.new ne1
        have ee1 : LinesAt (upd H17 e1 (.lst [])) e1 [] := ⟨[], upd_same, trivial⟩
        have cl18 := cl17.k k18
        generalize upd H17 e1 (.lst []) = H18 at ee1 cl18 ⊢
        clear cl17 k18
        walk_at "sts"
        intro e2 ne2
        have k19 : Keep [] H18 (upd H18 e2 (.lst [])) := Keep.new ne2
        have ee2 : upd H18 e2 (.lst []) e2 = some (.lst (([] : List Int).map V.int)) := upd_same
        have ee19 := ee1.keep0 k19
        have cl19 := cl18.k k19
        generalize upd H18 e2 (.lst []) = H19 at ee2 ee19 cl19 ⊢
        clear cl18 k19 ee1
        walk_at "sts"
        refine ⟨e1, e2, r, cc, [], xs, [], t, rfl, ee19, ee2, rfl, cl19.tr, xq, x8, by simp, ok_app (by simp) tok, fun H20 k20 => ?_⟩
        have cl20 := cl19.k k20
        clear cl19 k20 ee19 ee2
        refine ⟨_, rfl, ?_⟩
        have dl : ∀ ts ∈ ls.drop 1, LOk xs 11 ts := fun ts h => lo11 ts (List.mem_of_mem_drop h)
        have kd : (ks.drop 1).length = (ls.drop 1).length := by rw [List.length_drop, List.length_drop, kls]
        have d10 : (ls.drop 1).length ≤ 10 := by rw [List.length_drop]; omega
        walk_at "sts"
        refine r_tailL cl20.lq fun q1 H21 k21 lq1 => ?_
        have cl21 := cl20.k k21
        clear cl20 k21
        walk_at "sts"
        refine r_tailI cl21.ee fun e1 H22 k22 le1 => ?_
        have cl22 := cl21.k k22
        have lq22 := lq1.keep0 k22
        clear cl21 k22 lq1
        walk_at "sts"
        refine ⟨q1, e1, r, 0, ks.drop 1, xs, ls.drop 1, t, rfl, lq22, le1, kd, cl22.tr, xq, x8, d10, ok_app dl tok, fun H23 k23 => ?_⟩
        have cl23 := cl22.k k23
        clear cl22 k23 lq22 le1
        refine ⟨_, rfl, ?_⟩
        walk_at "sts"
        refine r_tailL cl23.lq fun q1 H24 k24 lq1 => ?_
        have cl24 := cl23.k k24
        clear cl23 k24
        walk_at "sts"
        refine r_tailI cl24.ee fun e1 H25 k25 le1 => ?_
        have cl25 := cl24.k k25
        have lq25 := lq1.keep0 k25
        clear cl24 k25 lq1
        walk_at "sts"
        refine ⟨q1, e1, g, cc, ks.drop 1, xs, ls.drop 1, gs, rfl, lq25, le1, kd, cl25.gr, xq, x8, d10, ok_app dl gok, fun H26 k26 => ?_⟩
        exact qq _
end
/-! ### the end -/
theorem law_of {w : World} {K : PySem.W.Frag} {mg : Str → Option Value} {base : Heap} (T : Tx K mg) : FnOk PG w K mg base CX0 8 T.f_law T.fd_law ["_law_script"] (spLaw K) := by
  have gt := ok_take (w := w) (base := base) (P := PG) T
  have gii := ok_isInt (w := w) (base := base) (P := PG) T
  have gn := ok_number T gt
  have gi := ok_init T (ok_added T (ok_isQ (w := w) (base := base) (P := PG) T))
  have gr := ok_ratio (w := w) (base := base) (P := PG) T
  have gco := ok_common (w := w) (base := base) (P := PG) T
  have gfr := ok_freed T gco (ok_sumOf (w := w) (base := base) (P := PG) T) (ok_lowest T gco)
  have gte := ok_takeE T gfr
  have gsh := ok_shift T (ok_plus T gr) (ok_times T gr) (ok_whole (w := w) (base := base) (P := PG) T)
  have gec := ok_echOf T (ok_einit (w := w) (base := base) (P := PG) T) gte
  have gca := ok_cancel T gec gfr gsh (ok_allNames (w := w) (base := base) (P := PG) T)
  have gte := ok_terms (w := w) (base := base) (P := PG) T
  have gf := ok_free T gt gn
  have gm := ok_mixed T gt
  have gd := ok_divisor (w := w) (base := base) (P := PG) T
  have gan := ok_answer T (ok_gives T gii gte) (ok_shifts T gii (ok_quants (w := w) (base := base) (P := PG) T) (ok_change (w := w) (base := base) (P := PG) T) gd) gd
  exact ok_law T (ok_bag (w := w) (base := base) (P := PG) T) gt (ok_names T (ok_quantity T gt)) (ok_lines T gt gf gm gte) gn (ok_target T gt gn gf gm gte gd) gf gte (ok_asked T gi gca (ok_is_form T gii) gan)
theorem all_mk {w : World} {K : PySem.W.Frag} {h : Heap} {mg : Str → Option Value} {fa : Addr} (X : K.In h) (G : h.Ns mainGlobals mg) (hfa : mg "law" = some (.ref fa))
    {C_Form : Addr} {C_Echelon : Addr} {f0 : Addr} {od0 an0 : Option Addr} {sl0 : Array (Option Value)} {oc0 kV0 dc0 pm0 cd0 ct0 : Value} {f1 : Addr} {od1 an1 : Option Addr} {sl1 : Array (Option Value)} {oc1 kV1 dc1 pm1 cd1 ct1 : Value} {T1 : Addr} {ocT1 : Value} {odT1 : Option Addr} {nT1 : Nat} {slT1 : Array (Option Value)} {tT1_0 : Tok} {f2 : Addr} {od2 an2 : Option Addr} {sl2 : Array (Option Value)} {oc2 kV2 dc2 pm2 cd2 ct2 : Value} {f3 : Addr} {od3 an3 : Option Addr} {sl3 : Array (Option Value)} {oc3 kV3 dc3 pm3 cd3 ct3 : Value} {f4 : Addr} {od4 an4 : Option Addr} {sl4 : Array (Option Value)} {oc4 kV4 dc4 pm4 cd4 ct4 : Value} {f5 : Addr} {od5 an5 : Option Addr} {sl5 : Array (Option Value)} {oc5 kV5 dc5 pm5 cd5 ct5 : Value} {f6 : Addr} {od6 an6 : Option Addr} {sl6 : Array (Option Value)} {oc6 kV6 dc6 pm6 cd6 ct6 : Value} {eT7 : Addr} {oeT7 : Option Addr} {neT7 : Nat} {seT7 : Array (Option Value)} {f7 : Addr} {od7 an7 : Option Addr} {sl7 : Array (Option Value)} {oc7 kV7 dc7 pm7 cd7 ct7 : Value} {T7 : Addr} {ocT7 : Value} {odT7 : Option Addr} {nT7 : Nat} {slT7 : Array (Option Value)} {tT7_1 : Tok} {f8 : Addr} {od8 an8 : Option Addr} {sl8 : Array (Option Value)} {oc8 kV8 dc8 pm8 cd8 ct8 : Value} {f9 : Addr} {od9 an9 : Option Addr} {sl9 : Array (Option Value)} {oc9 kV9 dc9 pm9 cd9 ct9 : Value} {f10 : Addr} {od10 an10 : Option Addr} {sl10 : Array (Option Value)} {oc10 kV10 dc10 pm10 cd10 ct10 : Value} {f11 : Addr} {od11 an11 : Option Addr} {sl11 : Array (Option Value)} {oc11 kV11 dc11 pm11 cd11 ct11 : Value} {f12 : Addr} {od12 an12 : Option Addr} {sl12 : Array (Option Value)} {oc12 kV12 dc12 pm12 cd12 ct12 : Value} {f13 : Addr} {od13 an13 : Option Addr} {sl13 : Array (Option Value)} {oc13 kV13 dc13 pm13 cd13 ct13 : Value} {f14 : Addr} {od14 an14 : Option Addr} {sl14 : Array (Option Value)} {oc14 kV14 dc14 pm14 cd14 ct14 : Value} {f15 : Addr} {od15 an15 : Option Addr} {sl15 : Array (Option Value)} {oc15 kV15 dc15 pm15 cd15 ct15 : Value} {f16 : Addr} {od16 an16 : Option Addr} {sl16 : Array (Option Value)} {oc16 kV16 dc16 pm16 cd16 ct16 : Value} {f17 : Addr} {od17 an17 : Option Addr} {sl17 : Array (Option Value)} {oc17 kV17 dc17 pm17 cd17 ct17 : Value} {f18 : Addr} {od18 an18 : Option Addr} {sl18 : Array (Option Value)} {oc18 kV18 dc18 pm18 cd18 ct18 : Value} {f19 : Addr} {od19 an19 : Option Addr} {sl19 : Array (Option Value)} {oc19 kV19 dc19 pm19 cd19 ct19 : Value} {f20 : Addr} {od20 an20 : Option Addr} {sl20 : Array (Option Value)} {oc20 kV20 dc20 pm20 cd20 ct20 : Value} {f21 : Addr} {od21 an21 : Option Addr} {sl21 : Array (Option Value)} {oc21 kV21 dc21 pm21 cd21 ct21 : Value} {f22 : Addr} {od22 an22 : Option Addr} {sl22 : Array (Option Value)} {oc22 kV22 dc22 pm22 cd22 ct22 : Value} {f23 : Addr} {od23 an23 : Option Addr} {sl23 : Array (Option Value)} {oc23 kV23 dc23 pm23 cd23 ct23 : Value} {f24 : Addr} {od24 an24 : Option Addr} {sl24 : Array (Option Value)} {oc24 kV24 dc24 pm24 cd24 ct24 : Value} {f25 : Addr} {od25 an25 : Option Addr} {sl25 : Array (Option Value)} {oc25 kV25 dc25 pm25 cd25 ct25 : Value} {f26 : Addr} {od26 an26 : Option Addr} {sl26 : Array (Option Value)} {oc26 kV26 dc26 pm26 cd26 ct26 : Value} {f27 : Addr} {od27 an27 : Option Addr} {sl27 : Array (Option Value)} {oc27 kV27 dc27 pm27 cd27 ct27 : Value} {f28 : Addr} {od28 an28 : Option Addr} {sl28 : Array (Option Value)} {oc28 kV28 dc28 pm28 cd28 ct28 : Value} {f29 : Addr} {od29 an29 : Option Addr} {sl29 : Array (Option Value)} {oc29 kV29 dc29 pm29 cd29 ct29 : Value} {f30 : Addr} {od30 an30 : Option Addr} {sl30 : Array (Option Value)} {oc30 kV30 dc30 pm30 cd30 ct30 : Value} {f31 : Addr} {od31 an31 : Option Addr} {sl31 : Array (Option Value)} {oc31 kV31 dc31 pm31 cd31 ct31 : Value} {f32 : Addr} {od32 an32 : Option Addr} {sl32 : Array (Option Value)} {oc32 kV32 dc32 pm32 cd32 ct32 : Value} {f33 : Addr} {od33 an33 : Option Addr} {sl33 : Array (Option Value)} {oc33 kV33 dc33 pm33 cd33 ct33 : Value} {f34 : Addr} {od34 an34 : Option Addr} {sl34 : Array (Option Value)} {oc34 kV34 dc34 pm34 cd34 ct34 : Value} {f35 : Addr} {od35 an35 : Option Addr} {sl35 : Array (Option Value)} {oc35 kV35 dc35 pm35 cd35 ct35 : Value} {f36 : Addr} {od36 an36 : Option Addr} {sl36 : Array (Option Value)} {oc36 kV36 dc36 pm36 cd36 ct36 : Value} {tc20 : Tok} {tc21 : Tok} {tc22 : Tok}
    (o0g : PySem.W.nsIn K mainGlobals "Form" = some (some (.ref C_Form)))
    (o1g : PySem.W.nsIn K mainGlobals "Echelon" = some (some (.ref C_Echelon)))
    (a0 : PySem.W.nsIn K mainGlobals "common" = some (some (.ref f0)))
    (l0 : K.lookup f0 = some ⟨oc0, od0, .func (PySem.W.fnOf "common" "common" (defArgs s_common) (defBody s_common) (defScope s_common) .none kV0 dc0 pm0 an0 cd0 ct0), sl0⟩)
    (c0 : PySem.W.codeIn K cd0 "common" = true)
    (k0 : PySem.W.keepIn K (.ref f0) = true)
    (a1 : PySem.W.nsIn K mainGlobals "ratio" = some (some (.ref f1)))
    (l1 : K.lookup f1 = some ⟨oc1, od1, .func (PySem.W.fnOf "ratio" "ratio" (defArgs s_ratio) (defBody s_ratio) (defScope s_ratio) (.ref T1) kV1 dc1 pm1 an1 cd1 ct1), sl1⟩)
    (c1 : PySem.W.codeIn K cd1 "ratio" = true)
    (k1 : PySem.W.keepIn K (.ref f1) = true)
    (d1 : K.lookup T1 = some ⟨ocT1, odT1, .seq #[.int (1) tT1_0] nT1, slT1⟩)
    (a2 : PySem.W.nsIn K mainGlobals "plus" = some (some (.ref f2)))
    (l2 : K.lookup f2 = some ⟨oc2, od2, .func (PySem.W.fnOf "plus" "plus" (defArgs s_plus) (defBody s_plus) (defScope s_plus) .none kV2 dc2 pm2 an2 cd2 ct2), sl2⟩)
    (c2 : PySem.W.codeIn K cd2 "plus" = true)
    (k2 : PySem.W.keepIn K (.ref f2) = true)
    (a3 : PySem.W.nsIn K mainGlobals "times" = some (some (.ref f3)))
    (l3 : K.lookup f3 = some ⟨oc3, od3, .func (PySem.W.fnOf "times" "times" (defArgs s_times) (defBody s_times) (defScope s_times) .none kV3 dc3 pm3 an3 cd3 ct3), sl3⟩)
    (c3 : PySem.W.codeIn K cd3 "times" = true)
    (k3 : PySem.W.keepIn K (.ref f3) = true)
    (a4 : PySem.W.nsIn K mainGlobals "is_quantity" = some (some (.ref f4)))
    (l4 : K.lookup f4 = some ⟨oc4, od4, .func (PySem.W.fnOf "is_quantity" "is_quantity" (defArgs s_is_quantity) (defBody s_is_quantity) (defScope s_is_quantity) .none kV4 dc4 pm4 an4 cd4 ct4), sl4⟩)
    (c4 : PySem.W.codeIn K cd4 "is_quantity" = true)
    (k4 : PySem.W.keepIn K (.ref f4) = true)
    (a5 : PySem.W.nsIn K mainGlobals "all_names" = some (some (.ref f5)))
    (l5 : K.lookup f5 = some ⟨oc5, od5, .func (PySem.W.fnOf "all_names" "all_names" (defArgs s_all_names) (defBody s_all_names) (defScope s_all_names) .none kV5 dc5 pm5 an5 cd5 ct5), sl5⟩)
    (c5 : PySem.W.codeIn K cd5 "all_names" = true)
    (k5 : PySem.W.keepIn K (.ref f5) = true)
    (a6 : PySem.W.nsIn K mainGlobals "added_terms" = some (some (.ref f6)))
    (l6 : K.lookup f6 = some ⟨oc6, od6, .func (PySem.W.fnOf "added_terms" "added_terms" (defArgs s_added_terms) (defBody s_added_terms) (defScope s_added_terms) .none kV6 dc6 pm6 an6 cd6 ct6), sl6⟩)
    (c6 : PySem.W.codeIn K cd6 "added_terms" = true)
    (k6 : PySem.W.keepIn K (.ref f6) = true)
    (a7 : PySem.W.findIn K (.ref C_Form) "__init__" = some (some (.ref f7)))
    (l7 : K.lookup f7 = some ⟨oc7, od7, .func (PySem.W.fnOf "__init__" "Form.__init__" (defArgs s_Form___init) (defBody s_Form___init) (defScope s_Form___init) (.ref T7) kV7 dc7 pm7 an7 cd7 ct7), sl7⟩)
    (c7 : PySem.W.codeIn K cd7 "Form.__init__" = true)
    (k7 : PySem.W.keepIn K (.ref f7) = true)
    (d7 : K.lookup T7 = some ⟨ocT7, odT7, .seq #[.ref eT7, .int (0) tT7_1] nT7, slT7⟩)
    (yE7 : K.lookup eT7 = some ⟨.type "tuple", oeT7, .seq #[] neT7, seT7⟩)
    (a8 : PySem.W.nsIn K mainGlobals "in_lowest_terms" = some (some (.ref f8)))
    (l8 : K.lookup f8 = some ⟨oc8, od8, .func (PySem.W.fnOf "in_lowest_terms" "in_lowest_terms" (defArgs s_in_lowest_terms) (defBody s_in_lowest_terms) (defScope s_in_lowest_terms) .none kV8 dc8 pm8 an8 cd8 ct8), sl8⟩)
    (c8 : PySem.W.codeIn K cd8 "in_lowest_terms" = true)
    (k8 : PySem.W.keepIn K (.ref f8) = true)
    (a9 : PySem.W.nsIn K mainGlobals "sum_of" = some (some (.ref f9)))
    (l9 : K.lookup f9 = some ⟨oc9, od9, .func (PySem.W.fnOf "sum_of" "sum_of" (defArgs s_sum_of) (defBody s_sum_of) (defScope s_sum_of) .none kV9 dc9 pm9 an9 cd9 ct9), sl9⟩)
    (c9 : PySem.W.codeIn K cd9 "sum_of" = true)
    (k9 : PySem.W.keepIn K (.ref f9) = true)
    (a10 : PySem.W.findIn K (.ref C_Echelon) "__init__" = some (some (.ref f10)))
    (l10 : K.lookup f10 = some ⟨oc10, od10, .func (PySem.W.fnOf "__init__" "Echelon.__init__" (defArgs s_Echelon___init) (defBody s_Echelon___init) (defScope s_Echelon___init) .none kV10 dc10 pm10 an10 cd10 ct10), sl10⟩)
    (c10 : PySem.W.codeIn K cd10 "Echelon.__init__" = true)
    (k10 : PySem.W.keepIn K (.ref f10) = true)
    (a11 : PySem.W.findIn K (.ref C_Echelon) "freed" = some (some (.ref f11)))
    (l11 : K.lookup f11 = some ⟨oc11, od11, .func (PySem.W.fnOf "freed" "Echelon.freed" (defArgs s_Echelon_freed) (defBody s_Echelon_freed) (defScope s_Echelon_freed) .none kV11 dc11 pm11 an11 cd11 ct11), sl11⟩)
    (c11 : PySem.W.codeIn K cd11 "Echelon.freed" = true)
    (k11 : PySem.W.keepIn K (.ref f11) = true)
    (a12 : PySem.W.findIn K (.ref C_Echelon) "take" = some (some (.ref f12)))
    (l12 : K.lookup f12 = some ⟨oc12, od12, .func (PySem.W.fnOf "take" "Echelon.take" (defArgs s_Echelon_take) (defBody s_Echelon_take) (defScope s_Echelon_take) .none kV12 dc12 pm12 an12 cd12 ct12), sl12⟩)
    (c12 : PySem.W.codeIn K cd12 "Echelon.take" = true)
    (k12 : PySem.W.keepIn K (.ref f12) = true)
    (a13 : PySem.W.findIn K (.ref C_Echelon) "shift" = some (some (.ref f13)))
    (l13 : K.lookup f13 = some ⟨oc13, od13, .func (PySem.W.fnOf "shift" "Echelon.shift" (defArgs s_Echelon_shift) (defBody s_Echelon_shift) (defScope s_Echelon_shift) .none kV13 dc13 pm13 an13 cd13 ct13), sl13⟩)
    (c13 : PySem.W.codeIn K cd13 "Echelon.shift" = true)
    (k13 : PySem.W.keepIn K (.ref f13) = true)
    (a14 : PySem.W.nsIn K mainGlobals "whole_moves" = some (some (.ref f14)))
    (l14 : K.lookup f14 = some ⟨oc14, od14, .func (PySem.W.fnOf "whole_moves" "whole_moves" (defArgs s_whole_moves) (defBody s_whole_moves) (defScope s_whole_moves) .none kV14 dc14 pm14 an14 cd14 ct14), sl14⟩)
    (c14 : PySem.W.codeIn K cd14 "whole_moves" = true)
    (k14 : PySem.W.keepIn K (.ref f14) = true)
    (a15 : PySem.W.nsIn K mainGlobals "echelon_of" = some (some (.ref f15)))
    (l15 : K.lookup f15 = some ⟨oc15, od15, .func (PySem.W.fnOf "echelon_of" "echelon_of" (defArgs s_echelon_of) (defBody s_echelon_of) (defScope s_echelon_of) .none kV15 dc15 pm15 an15 cd15 ct15), sl15⟩)
    (c15 : PySem.W.codeIn K cd15 "echelon_of" = true)
    (k15 : PySem.W.keepIn K (.ref f15) = true)
    (a16 : PySem.W.nsIn K mainGlobals "cancel" = some (some (.ref f16)))
    (l16 : K.lookup f16 = some ⟨oc16, od16, .func (PySem.W.fnOf "cancel" "cancel" (defArgs s_cancel) (defBody s_cancel) (defScope s_cancel) .none kV16 dc16 pm16 an16 cd16 ct16), sl16⟩)
    (c16 : PySem.W.codeIn K cd16 "cancel" = true)
    (k16 : PySem.W.keepIn K (.ref f16) = true)
    (a17 : PySem.W.nsIn K mainGlobals "_law_bag" = some (some (.ref f17)))
    (l17 : K.lookup f17 = some ⟨oc17, od17, .func (PySem.W.fnOf "_law_bag" "_law_bag" (defArgs s_w_bag) (defBody s_w_bag) (defScope s_w_bag) .none kV17 dc17 pm17 an17 cd17 ct17), sl17⟩)
    (c17 : PySem.W.codeIn K cd17 "_law_bag" = true)
    (k17 : PySem.W.keepIn K (.ref f17) = true)
    (a18 : PySem.W.nsIn K mainGlobals "_law_take" = some (some (.ref f18)))
    (l18 : K.lookup f18 = some ⟨oc18, od18, .func (PySem.W.fnOf "_law_take" "_law_take" (defArgs s_w_take) (defBody s_w_take) (defScope s_w_take) .none kV18 dc18 pm18 an18 cd18 ct18), sl18⟩)
    (c18 : PySem.W.codeIn K cd18 "_law_take" = true)
    (k18 : PySem.W.keepIn K (.ref f18) = true)
    (a19 : PySem.W.nsIn K mainGlobals "_law_is_int" = some (some (.ref f19)))
    (l19 : K.lookup f19 = some ⟨oc19, od19, .func (PySem.W.fnOf "_law_is_int" "_law_is_int" (defArgs s_w_is_int) (defBody s_w_is_int) (defScope s_w_is_int) .none kV19 dc19 pm19 an19 cd19 ct19), sl19⟩)
    (c19 : PySem.W.codeIn K cd19 "_law_is_int" = true)
    (k19 : PySem.W.keepIn K (.ref f19) = true)
    (a20 : PySem.W.nsIn K mainGlobals "_law_number" = some (some (.ref f20)))
    (l20 : K.lookup f20 = some ⟨oc20, od20, .func (PySem.W.fnOf "_law_number" "_law_number" (defArgs s_w_number) (defBody s_w_number) (defScope s_w_number) .none kV20 dc20 pm20 an20 cd20 ct20), sl20⟩)
    (c20 : PySem.W.codeIn K cd20 "_law_number" = true)
    (k20 : PySem.W.keepIn K (.ref f20) = true)
    (a21 : PySem.W.nsIn K mainGlobals "_law_quantity" = some (some (.ref f21)))
    (l21 : K.lookup f21 = some ⟨oc21, od21, .func (PySem.W.fnOf "_law_quantity" "_law_quantity" (defArgs s_w_quantity) (defBody s_w_quantity) (defScope s_w_quantity) .none kV21 dc21 pm21 an21 cd21 ct21), sl21⟩)
    (c21 : PySem.W.codeIn K cd21 "_law_quantity" = true)
    (k21 : PySem.W.keepIn K (.ref f21) = true)
    (a22 : PySem.W.nsIn K mainGlobals "_law_names" = some (some (.ref f22)))
    (l22 : K.lookup f22 = some ⟨oc22, od22, .func (PySem.W.fnOf "_law_names" "_law_names" (defArgs s_w_names) (defBody s_w_names) (defScope s_w_names) .none kV22 dc22 pm22 an22 cd22 ct22), sl22⟩)
    (c22 : PySem.W.codeIn K cd22 "_law_names" = true)
    (k22 : PySem.W.keepIn K (.ref f22) = true)
    (a23 : PySem.W.nsIn K mainGlobals "_law_terms" = some (some (.ref f23)))
    (l23 : K.lookup f23 = some ⟨oc23, od23, .func (PySem.W.fnOf "_law_terms" "_law_terms" (defArgs s_w_terms) (defBody s_w_terms) (defScope s_w_terms) .none kV23 dc23 pm23 an23 cd23 ct23), sl23⟩)
    (c23 : PySem.W.codeIn K cd23 "_law_terms" = true)
    (k23 : PySem.W.keepIn K (.ref f23) = true)
    (a24 : PySem.W.nsIn K mainGlobals "_law_free" = some (some (.ref f24)))
    (l24 : K.lookup f24 = some ⟨oc24, od24, .func (PySem.W.fnOf "_law_free" "_law_free" (defArgs s_w_free) (defBody s_w_free) (defScope s_w_free) .none kV24 dc24 pm24 an24 cd24 ct24), sl24⟩)
    (c24 : PySem.W.codeIn K cd24 "_law_free" = true)
    (k24 : PySem.W.keepIn K (.ref f24) = true)
    (a25 : PySem.W.nsIn K mainGlobals "_law_mixed" = some (some (.ref f25)))
    (l25 : K.lookup f25 = some ⟨oc25, od25, .func (PySem.W.fnOf "_law_mixed" "_law_mixed" (defArgs s_w_mixed) (defBody s_w_mixed) (defScope s_w_mixed) .none kV25 dc25 pm25 an25 cd25 ct25), sl25⟩)
    (c25 : PySem.W.codeIn K cd25 "_law_mixed" = true)
    (k25 : PySem.W.keepIn K (.ref f25) = true)
    (a26 : PySem.W.nsIn K mainGlobals "_law_lines" = some (some (.ref f26)))
    (l26 : K.lookup f26 = some ⟨oc26, od26, .func (PySem.W.fnOf "_law_lines" "_law_lines" (defArgs s_w_lines) (defBody s_w_lines) (defScope s_w_lines) .none kV26 dc26 pm26 an26 cd26 ct26), sl26⟩)
    (c26 : PySem.W.codeIn K cd26 "_law_lines" = true)
    (k26 : PySem.W.keepIn K (.ref f26) = true)
    (a27 : PySem.W.nsIn K mainGlobals "_law_is_form" = some (some (.ref f27)))
    (l27 : K.lookup f27 = some ⟨oc27, od27, .func (PySem.W.fnOf "_law_is_form" "_law_is_form" (defArgs s_w_is_form) (defBody s_w_is_form) (defScope s_w_is_form) .none kV27 dc27 pm27 an27 cd27 ct27), sl27⟩)
    (c27 : PySem.W.codeIn K cd27 "_law_is_form" = true)
    (k27 : PySem.W.keepIn K (.ref f27) = true)
    (a28 : PySem.W.nsIn K mainGlobals "_law_divisor" = some (some (.ref f28)))
    (l28 : K.lookup f28 = some ⟨oc28, od28, .func (PySem.W.fnOf "_law_divisor" "_law_divisor" (defArgs s_w_divisor) (defBody s_w_divisor) (defScope s_w_divisor) .none kV28 dc28 pm28 an28 cd28 ct28), sl28⟩)
    (c28 : PySem.W.codeIn K cd28 "_law_divisor" = true)
    (k28 : PySem.W.keepIn K (.ref f28) = true)
    (a29 : PySem.W.nsIn K mainGlobals "_law_change" = some (some (.ref f29)))
    (l29 : K.lookup f29 = some ⟨oc29, od29, .func (PySem.W.fnOf "_law_change" "_law_change" (defArgs s_w_change) (defBody s_w_change) (defScope s_w_change) .none kV29 dc29 pm29 an29 cd29 ct29), sl29⟩)
    (c29 : PySem.W.codeIn K cd29 "_law_change" = true)
    (k29 : PySem.W.keepIn K (.ref f29) = true)
    (a30 : PySem.W.nsIn K mainGlobals "_law_quantities" = some (some (.ref f30)))
    (l30 : K.lookup f30 = some ⟨oc30, od30, .func (PySem.W.fnOf "_law_quantities" "_law_quantities" (defArgs s_w_quantities) (defBody s_w_quantities) (defScope s_w_quantities) .none kV30 dc30 pm30 an30 cd30 ct30), sl30⟩)
    (c30 : PySem.W.codeIn K cd30 "_law_quantities" = true)
    (k30 : PySem.W.keepIn K (.ref f30) = true)
    (a31 : PySem.W.nsIn K mainGlobals "_law_gives" = some (some (.ref f31)))
    (l31 : K.lookup f31 = some ⟨oc31, od31, .func (PySem.W.fnOf "_law_gives" "_law_gives" (defArgs s_w_gives) (defBody s_w_gives) (defScope s_w_gives) .none kV31 dc31 pm31 an31 cd31 ct31), sl31⟩)
    (c31 : PySem.W.codeIn K cd31 "_law_gives" = true)
    (k31 : PySem.W.keepIn K (.ref f31) = true)
    (a32 : PySem.W.nsIn K mainGlobals "_law_shifts" = some (some (.ref f32)))
    (l32 : K.lookup f32 = some ⟨oc32, od32, .func (PySem.W.fnOf "_law_shifts" "_law_shifts" (defArgs s_w_shifts) (defBody s_w_shifts) (defScope s_w_shifts) .none kV32 dc32 pm32 an32 cd32 ct32), sl32⟩)
    (c32 : PySem.W.codeIn K cd32 "_law_shifts" = true)
    (k32 : PySem.W.keepIn K (.ref f32) = true)
    (a33 : PySem.W.nsIn K mainGlobals "_law_answer" = some (some (.ref f33)))
    (l33 : K.lookup f33 = some ⟨oc33, od33, .func (PySem.W.fnOf "_law_answer" "_law_answer" (defArgs s_w_answer) (defBody s_w_answer) (defScope s_w_answer) .none kV33 dc33 pm33 an33 cd33 ct33), sl33⟩)
    (c33 : PySem.W.codeIn K cd33 "_law_answer" = true)
    (k33 : PySem.W.keepIn K (.ref f33) = true)
    (a34 : PySem.W.nsIn K mainGlobals "_law_target" = some (some (.ref f34)))
    (l34 : K.lookup f34 = some ⟨oc34, od34, .func (PySem.W.fnOf "_law_target" "_law_target" (defArgs s_w_target) (defBody s_w_target) (defScope s_w_target) .none kV34 dc34 pm34 an34 cd34 ct34), sl34⟩)
    (c34 : PySem.W.codeIn K cd34 "_law_target" = true)
    (k34 : PySem.W.keepIn K (.ref f34) = true)
    (a35 : PySem.W.nsIn K mainGlobals "_law_asked" = some (some (.ref f35)))
    (l35 : K.lookup f35 = some ⟨oc35, od35, .func (PySem.W.fnOf "_law_asked" "_law_asked" (defArgs s_w_asked) (defBody s_w_asked) (defScope s_w_asked) .none kV35 dc35 pm35 an35 cd35 ct35), sl35⟩)
    (c35 : PySem.W.codeIn K cd35 "_law_asked" = true)
    (k35 : PySem.W.keepIn K (.ref f35) = true)
    (a36 : PySem.W.nsIn K mainGlobals "law" = some (some (.ref f36)))
    (l36 : K.lookup f36 = some ⟨oc36, od36, .func (PySem.W.fnOf "law" "law" (defArgs s_law) (defBody s_law) (defScope s_law) .none kV36 dc36 pm36 an36 cd36 ct36), sl36⟩)
    (c36 : PySem.W.codeIn K cd36 "law" = true)
    (k36 : PySem.W.keepIn K (.ref f36) = true)
    (z0 : PySem.W.nsIn K mainGlobals "len" = some none)
    (z1 : PySem.W.nsIn K mainGlobals "range" = some none)
    (z2 : PySem.W.nsIn K mainGlobals "isinstance" = some none)
    (z3 : PySem.W.nsIn K mainGlobals "int" = some none)
    (z4 : PySem.W.nsIn K mainGlobals "bool" = some none)
    (z5 : PySem.W.nsIn K mainGlobals "str" = some none)
    (z6 : PySem.W.nsIn K mainGlobals "list" = some none)
    (z7 : PySem.W.nsIn K mainGlobals "tuple" = some none)
    (z8 : PySem.W.nsIn K mainGlobals "dict" = some none)
    (z9 : PySem.W.nsIn K mainGlobals "abs" = some none)
    (z10 : PySem.W.nsIn K mainGlobals "max" = some none)
    (z11 : PySem.W.nsIn K mainGlobals "min" = some none)
    (z12 : PySem.W.nsIn K mainGlobals "sum" = some none)
    (z13 : PySem.W.nsIn K mainGlobals "sorted" = some none)
    (z14 : PySem.W.nsIn K mainGlobals "enumerate" = some none)
    (z15 : PySem.W.nsIn K mainGlobals "zip" = some none)
    (z16 : PySem.W.nsIn K mainGlobals "all" = some none)
    (z17 : PySem.W.nsIn K mainGlobals "ZeroDivisionError" = some none)
    (z18 : PySem.W.nsIn K mainGlobals "gcd" = some (some (.builtin "math.gcd")))
    (z19 : PySem.W.nsIn K mainGlobals "lcm" = some (some (.builtin "math.lcm")))
    (o0a : PySem.W.plainGet K C_Form Str.empty = true)
    (o0b : PySem.W.hasDictIn K C_Form = true)
    (o0c : PySem.W.plainOver K C_Form = true)
    (o0d : PySem.W.findIn K (.ref C_Form) "__setattr__" = some (some (.builtin "object.__setattr__")))
    (o0e : PySem.W.selfFirst K C_Form = true)
    (o0f : PySem.W.findIn K (.ref C_Form) "__class__" = some (some (.builtin "object.__class__")))
    (o0h : PySem.W.specialIn K (.builtin "object.__class__") "__get__" = some (some (.builtin "getset_descriptor.__get__")))
    (o0i : PySem.W.takesIn K (.builtin "object.__class__") = some true)
    (o0j : PySem.W.mroIn K C_Form (.type "object") = some true)
    (o0n0 : PySem.W.findIn K (.ref C_Form) "terms" = some none)
    (o0n1 : PySem.W.findIn K (.ref C_Form) "constant" = some none)
    (o0k : PySem.W.makesIn K C_Form = true)
    (o0l : PySem.W.keepIn K (.ref C_Form) = true)
    (fn7 : PySem.W.isFn K (.ref f7) = true)
    (o0s : PySem.W.subIn K (.ref C_Form) (.type "int") = some false)
    (o0t : PySem.W.subIn K (.type "int") (.ref C_Form) = some false)
    (o1a : PySem.W.plainGet K C_Echelon Str.empty = true)
    (o1b : PySem.W.hasDictIn K C_Echelon = true)
    (o1c : PySem.W.plainOver K C_Echelon = true)
    (o1d : PySem.W.findIn K (.ref C_Echelon) "__setattr__" = some (some (.builtin "object.__setattr__")))
    (o1e : PySem.W.selfFirst K C_Echelon = true)
    (o1f : PySem.W.findIn K (.ref C_Echelon) "__class__" = some (some (.builtin "object.__class__")))
    (o1h : PySem.W.specialIn K (.builtin "object.__class__") "__get__" = some (some (.builtin "getset_descriptor.__get__")))
    (o1i : PySem.W.takesIn K (.builtin "object.__class__") = some true)
    (o1j : PySem.W.mroIn K C_Echelon (.type "object") = some true)
    (o1n0 : PySem.W.findIn K (.ref C_Echelon) "steps" = some none)
    (o1k : PySem.W.makesIn K C_Echelon = true)
    (o1l : PySem.W.keepIn K (.ref C_Echelon) = true)
    (fn10 : PySem.W.isFn K (.ref f10) = true)
    (fn11 : PySem.W.isFn K (.ref f11) = true)
    (fn12 : PySem.W.isFn K (.ref f12) = true)
    (fn13 : PySem.W.isFn K (.ref f13) = true)
    (o1s : PySem.W.subIn K (.ref C_Echelon) (.type "int") = some false)
    (o1t : PySem.W.subIn K (.type "int") (.ref C_Echelon) = some false)
    (z20 : PySem.W.nsIn K mainGlobals "LETTERS" = some (some (.str "abcdefghijklmnopqrstuvwxyz" tc20)))
    (z21 : PySem.W.nsIn K mainGlobals "QUANTITY_SIGNS" = some (some (.str "abcdefghijklmnopqrstuvwxyz.0123456789" tc21)))
    (z22 : PySem.W.nsIn K mainGlobals "LONGEST_QUANTITY" = some (some (.int (12) tc22))) :
    ∃ fd : FuncData, (∀ (s : Shared) (v : Value), BindsTo s fd ⟨[v], []⟩ [("_law_script", v)]) ∧ ∀ base : Heap, K.In base → base.Ns mainGlobals mg → FnOk PG w K mg base CX0 8 fa fd ["_law_script"] (spLaw K) := by
  have F0 := fun_mk (st := s_common) l0 c0 k0
  have FD1 : FunD K "ratio" "ratio" (defArgs s_ratio) (defBody s_ratio) (defScope s_ratio) [V.int (1)] [] f1 _ := ⟨⟨_, _, _, _, _, _, _, _, _, _, rfl, l1, c1, Or.inr ⟨by simp, T1, _, _, _, rfl, d1, rfl, (.cons ⟨_, rfl⟩ .nil)⟩, Or.inl rfl⟩, k1⟩
  have F2 := fun_mk (st := s_plus) l2 c2 k2
  have F3 := fun_mk (st := s_times) l3 c3 k3
  have F4 := fun_mk (st := s_is_quantity) l4 c4 k4
  have F5 := fun_mk (st := s_all_names) l5 c5 k5
  have F6 := fun_mk (st := s_added_terms) l6 c6 k6
  have FD7 : FunD K "__init__" "Form.__init__" (defArgs s_Form___init) (defBody s_Form___init) (defScope s_Form___init) [V.ref eT7, V.int (0)] [] f7 _ := ⟨⟨_, _, _, _, _, _, _, _, _, _, rfl, l7, c7, Or.inr ⟨by simp, T7, _, _, _, rfl, d7, rfl, (.cons rfl (.cons ⟨_, rfl⟩ .nil))⟩, Or.inl rfl⟩, k7⟩
  have F8 := fun_mk (st := s_in_lowest_terms) l8 c8 k8
  have F9 := fun_mk (st := s_sum_of) l9 c9 k9
  have F10 := fun_mk (st := s_Echelon___init) l10 c10 k10
  have F11 := fun_mk (st := s_Echelon_freed) l11 c11 k11
  have F12 := fun_mk (st := s_Echelon_take) l12 c12 k12
  have F13 := fun_mk (st := s_Echelon_shift) l13 c13 k13
  have F14 := fun_mk (st := s_whole_moves) l14 c14 k14
  have F15 := fun_mk (st := s_echelon_of) l15 c15 k15
  have F16 := fun_mk (st := s_cancel) l16 c16 k16
  have F17 := fun_mk (st := s_w_bag) l17 c17 k17
  have F18 := fun_mk (st := s_w_take) l18 c18 k18
  have F19 := fun_mk (st := s_w_is_int) l19 c19 k19
  have F20 := fun_mk (st := s_w_number) l20 c20 k20
  have F21 := fun_mk (st := s_w_quantity) l21 c21 k21
  have F22 := fun_mk (st := s_w_names) l22 c22 k22
  have F23 := fun_mk (st := s_w_terms) l23 c23 k23
  have F24 := fun_mk (st := s_w_free) l24 c24 k24
  have F25 := fun_mk (st := s_w_mixed) l25 c25 k25
  have F26 := fun_mk (st := s_w_lines) l26 c26 k26
  have F27 := fun_mk (st := s_w_is_form) l27 c27 k27
  have F28 := fun_mk (st := s_w_divisor) l28 c28 k28
  have F29 := fun_mk (st := s_w_change) l29 c29 k29
  have F30 := fun_mk (st := s_w_quantities) l30 c30 k30
  have F31 := fun_mk (st := s_w_gives) l31 c31 k31
  have F32 := fun_mk (st := s_w_shifts) l32 c32 k32
  have F33 := fun_mk (st := s_w_answer) l33 c33 k33
  have F34 := fun_mk (st := s_w_target) l34 c34 k34
  have F35 := fun_mk (st := s_w_asked) l35 c35 k35
  have F36 := fun_mk (st := s_law) l36 c36 k36
  have e := hfa.symm.trans (PySem.W.mg_of X G a36)
  cases e
  let T : Tx K mg := {
    f_common := f0, fd_common := _, F_common := F0,
    g_common := PySem.W.mg_of X G a0,
    f_ratio := f1, fd_ratio := _, F_ratio := FD1,
    g_ratio := PySem.W.mg_of X G a1,
    b1_ratio := FD1.binds1 (ps := ["top", "bottom"]) 1 0 (by simp) rfl fun _ _ _ _ _ _ _ us its h1 h2 => match us, its, h1, h2 with | [_], [_], _, _ => ⟨_, rfl, rfl⟩,
    b2_ratio := FD1.binds1 (ps := ["top", "bottom"]) 2 1 (by simp) rfl fun _ _ _ _ _ _ _ us its h1 h2 => match us, its, h1, h2 with | [_, _], [_], _, _ => ⟨_, rfl, rfl⟩,
    f_plus := f2, fd_plus := _, F_plus := F2,
    g_plus := PySem.W.mg_of X G a2,
    b_plus := F2.binds (ps := ["first", "second"]) fun _ _ _ _ _ _ us hl => match us, hl with | [_, _], _ => rfl,
    f_times := f3, fd_times := _, F_times := F3,
    g_times := PySem.W.mg_of X G a3,
    b_times := F3.binds (ps := ["first", "second"]) fun _ _ _ _ _ _ us hl => match us, hl with | [_, _], _ => rfl,
    f_is_quantity := f4, fd_is_quantity := _, F_is_quantity := F4,
    g_is_quantity := PySem.W.mg_of X G a4,
    b_is_quantity := F4.binds (ps := ["text"]) fun _ _ _ _ _ _ us hl => match us, hl with | [_], _ => rfl,
    f_all_names := f5, fd_all_names := _, F_all_names := F5,
    g_all_names := PySem.W.mg_of X G a5,
    b_all_names := F5.binds (ps := ["forms"]) fun _ _ _ _ _ _ us hl => match us, hl with | [_], _ => rfl,
    f_added_terms := f6, fd_added_terms := _, F_added_terms := F6,
    g_added_terms := PySem.W.mg_of X G a6,
    b_added_terms := F6.binds (ps := ["terms"]) fun _ _ _ _ _ _ us hl => match us, hl with | [_], _ => rfl,
    e_Form___init := eT7,
    te_Form___init := ⟨_, _, _, yE7, rfl, rfl, (le_size (by simp)), .nil⟩,
    f_Form___init := f7, fd_Form___init := _, F_Form___init := FD7,
    b1_Form___init := FD7.binds1 (ps := ["self", "terms", "constant"]) 1 0 (by simp) rfl fun _ _ _ _ _ _ _ us its h1 h2 => match us, its, h1, h2 with | [_], [_, _], _, _ => ⟨_, rfl, rfl⟩,
    b2_Form___init := FD7.binds1 (ps := ["self", "terms", "constant"]) 2 1 (by simp) rfl fun _ _ _ _ _ _ _ us its h1 h2 => match us, its, h1, h2 with | [_, _], [_, _], _, _ => ⟨_, rfl, rfl⟩,
    b3_Form___init := FD7.binds1 (ps := ["self", "terms", "constant"]) 3 2 (by simp) rfl fun _ _ _ _ _ _ _ us its h1 h2 => match us, its, h1, h2 with | [_, _, _], [_, _], _, _ => ⟨_, rfl, rfl⟩,
    f_in_lowest_terms := f8, fd_in_lowest_terms := _, F_in_lowest_terms := F8,
    g_in_lowest_terms := PySem.W.mg_of X G a8,
    b_in_lowest_terms := F8.binds (ps := ["terms", "weights"]) fun _ _ _ _ _ _ us hl => match us, hl with | [_, _], _ => rfl,
    f_sum_of := f9, fd_sum_of := _, F_sum_of := F9,
    g_sum_of := PySem.W.mg_of X G a9,
    b_sum_of := F9.binds (ps := ["first", "factor", "second", "more"]) fun _ _ _ _ _ _ us hl => match us, hl with | [_, _, _, _], _ => rfl,
    f_Echelon___init := f10, fd_Echelon___init := _, F_Echelon___init := F10,
    b_Echelon___init := F10.binds (ps := ["self"]) fun _ _ _ _ _ _ us hl => match us, hl with | [_], _ => rfl,
    f_Echelon_freed := f11, fd_Echelon_freed := _, F_Echelon_freed := F11,
    b_Echelon_freed := F11.binds (ps := ["self", "terms", "index"]) fun _ _ _ _ _ _ us hl => match us, hl with | [_, _, _], _ => rfl,
    f_Echelon_take := f12, fd_Echelon_take := _, F_Echelon_take := F12,
    b_Echelon_take := F12.binds (ps := ["self", "terms", "index"]) fun _ _ _ _ _ _ us hl => match us, hl with | [_, _, _], _ => rfl,
    f_Echelon_shift := f13, fd_Echelon_shift := _, F_Echelon_shift := F13,
    b_Echelon_shift := F13.binds (ps := ["self", "left", "names"]) fun _ _ _ _ _ _ us hl => match us, hl with | [_, _, _], _ => rfl,
    f_whole_moves := f14, fd_whole_moves := _, F_whole_moves := F14,
    g_whole_moves := PySem.W.mg_of X G a14,
    b_whole_moves := F14.binds (ps := ["moves"]) fun _ _ _ _ _ _ us hl => match us, hl with | [_], _ => rfl,
    f_echelon_of := f15, fd_echelon_of := _, F_echelon_of := F15,
    g_echelon_of := PySem.W.mg_of X G a15,
    b_echelon_of := F15.binds (ps := ["lines"]) fun _ _ _ _ _ _ us hl => match us, hl with | [_], _ => rfl,
    f_cancel := f16, fd_cancel := _, F_cancel := F16,
    g_cancel := PySem.W.mg_of X G a16,
    b_cancel := F16.binds (ps := ["lines", "target"]) fun _ _ _ _ _ _ us hl => match us, hl with | [_, _], _ => rfl,
    f_w_bag := f17, fd_w_bag := _, F_w_bag := F17,
    g_w_bag := PySem.W.mg_of X G a17,
    b_w_bag := F17.binds (ps := ["_law_script", "_law_place"]) fun _ _ _ _ _ _ us hl => match us, hl with | [_, _], _ => rfl,
    f_w_take := f18, fd_w_take := _, F_w_take := F18,
    g_w_take := PySem.W.mg_of X G a18,
    b_w_take := F18.binds (ps := ["_law_bag_here", "_law_many"]) fun _ _ _ _ _ _ us hl => match us, hl with | [_, _], _ => rfl,
    f_w_is_int := f19, fd_w_is_int := _, F_w_is_int := F19,
    g_w_is_int := PySem.W.mg_of X G a19,
    b_w_is_int := F19.binds (ps := ["_law_found"]) fun _ _ _ _ _ _ us hl => match us, hl with | [_], _ => rfl,
    f_w_number := f20, fd_w_number := _, F_w_number := F20,
    g_w_number := PySem.W.mg_of X G a20,
    b_w_number := F20.binds (ps := ["_law_bag_here", "_law_shift"]) fun _ _ _ _ _ _ us hl => match us, hl with | [_, _], _ => rfl,
    f_w_quantity := f21, fd_w_quantity := _, F_w_quantity := F21,
    g_w_quantity := PySem.W.mg_of X G a21,
    b_w_quantity := F21.binds (ps := ["_law_bag_here", "_law_shift"]) fun _ _ _ _ _ _ us hl => match us, hl with | [_, _], _ => rfl,
    f_w_names := f22, fd_w_names := _, F_w_names := F22,
    g_w_names := PySem.W.mg_of X G a22,
    b_w_names := F22.binds (ps := ["_law_bag_here", "_law_many"]) fun _ _ _ _ _ _ us hl => match us, hl with | [_, _], _ => rfl,
    f_w_terms := f23, fd_w_terms := _, F_w_terms := F23,
    g_w_terms := PySem.W.mg_of X G a23,
    b_w_terms := F23.binds (ps := ["_law_pairs"]) fun _ _ _ _ _ _ us hl => match us, hl with | [_], _ => rfl,
    f_w_free := f24, fd_w_free := _, F_w_free := F24,
    g_w_free := PySem.W.mg_of X G a24,
    b_w_free := F24.binds (ps := ["_law_words", "_law_numbers", "_law_names_here", "_law_shift"]) fun _ _ _ _ _ _ us hl => match us, hl with | [_, _, _, _], _ => rfl,
    f_w_mixed := f25, fd_w_mixed := _, F_w_mixed := F25,
    g_w_mixed := PySem.W.mg_of X G a25,
    b_w_mixed := F25.binds (ps := ["_law_lines_here", "_law_numbers", "_law_shift"]) fun _ _ _ _ _ _ us hl => match us, hl with | [_, _, _], _ => rfl,
    f_w_lines := f26, fd_w_lines := _, F_w_lines := F26,
    g_w_lines := PySem.W.mg_of X G a26,
    b_w_lines := F26.binds (ps := ["_law_words", "_law_numbers", "_law_names_here", "_law_count", "_law_turn"]) fun _ _ _ _ _ _ us hl => match us, hl with | [_, _, _, _, _], _ => rfl,
    f_w_is_form := f27, fd_w_is_form := _, F_w_is_form := F27,
    g_w_is_form := PySem.W.mg_of X G a27,
    b_w_is_form := F27.binds (ps := ["_law_found", "_law_terms_here", "_law_constant"]) fun _ _ _ _ _ _ us hl => match us, hl with | [_, _, _], _ => rfl,
    f_w_divisor := f28, fd_w_divisor := _, F_w_divisor := F28,
    g_w_divisor := PySem.W.mg_of X G a28,
    b_w_divisor := F28.binds (ps := ["_law_numbers"]) fun _ _ _ _ _ _ us hl => match us, hl with | [_], _ => rfl,
    f_w_change := f29, fd_w_change := _, F_w_change := F29,
    g_w_change := PySem.W.mg_of X G a29,
    b_w_change := F29.binds (ps := ["_law_line", "_law_moves"]) fun _ _ _ _ _ _ us hl => match us, hl with | [_, _], _ => rfl,
    f_w_quantities := f30, fd_w_quantities := _, F_w_quantities := F30,
    g_w_quantities := PySem.W.mg_of X G a30,
    b_w_quantities := F30.binds (ps := ["_law_lines_here", "_law_target_here"]) fun _ _ _ _ _ _ us hl => match us, hl with | [_, _], _ => rfl,
    f_w_gives := f31, fd_w_gives := _, F_w_gives := F31,
    g_w_gives := PySem.W.mg_of X G a31,
    b_w_gives := F31.binds (ps := ["_law_scale", "_law_weights", "_law_lines_here", "_law_target_here"]) fun _ _ _ _ _ _ us hl => match us, hl with | [_, _, _, _], _ => rfl,
    f_w_shifts := f32, fd_w_shifts := _, F_w_shifts := F32,
    g_w_shifts := PySem.W.mg_of X G a32,
    b_w_shifts := F32.binds (ps := ["_law_moves", "_law_lines_here", "_law_target_here"]) fun _ _ _ _ _ _ us hl => match us, hl with | [_, _, _], _ => rfl,
    f_w_answer := f33, fd_w_answer := _, F_w_answer := F33,
    g_w_answer := PySem.W.mg_of X G a33,
    b_w_answer := F33.binds (ps := ["_law_found", "_law_lines_here", "_law_target_here"]) fun _ _ _ _ _ _ us hl => match us, hl with | [_, _, _], _ => rfl,
    f_w_target := f34, fd_w_target := _, F_w_target := F34,
    g_w_target := PySem.W.mg_of X G a34,
    b_w_target := F34.binds (ps := ["_law_words", "_law_numbers", "_law_names_here", "_law_lines_here"]) fun _ _ _ _ _ _ us hl => match us, hl with | [_, _, _, _], _ => rfl,
    f_w_asked := f35, fd_w_asked := _, F_w_asked := F35,
    g_w_asked := PySem.W.mg_of X G a35,
    b_w_asked := F35.binds (ps := ["_law_lines_here", "_law_constants", "_law_target_here", "_law_constant"]) fun _ _ _ _ _ _ us hl => match us, hl with | [_, _, _, _], _ => rfl,
    f_law := fa, fd_law := _, F_law := F36,
    g_law := PySem.W.mg_of X G a36,
    b_law := F36.binds (ps := ["_law_script"]) fun _ _ _ _ _ _ us hl => match us, hl with | [_], _ => rfl,
    m_len := PySem.W.mg_none_of X G z0,
    m_range := PySem.W.mg_none_of X G z1,
    m_isinstance := PySem.W.mg_none_of X G z2,
    m_int := PySem.W.mg_none_of X G z3,
    m_bool := PySem.W.mg_none_of X G z4,
    m_str := PySem.W.mg_none_of X G z5,
    m_list := PySem.W.mg_none_of X G z6,
    m_tuple := PySem.W.mg_none_of X G z7,
    m_dict := PySem.W.mg_none_of X G z8,
    m_abs := PySem.W.mg_none_of X G z9,
    m_max := PySem.W.mg_none_of X G z10,
    m_min := PySem.W.mg_none_of X G z11,
    m_sum := PySem.W.mg_none_of X G z12,
    m_sorted := PySem.W.mg_none_of X G z13,
    m_enumerate := PySem.W.mg_none_of X G z14,
    m_zip := PySem.W.mg_none_of X G z15,
    m_all := PySem.W.mg_none_of X G z16,
    m_ZeroDivisionError := PySem.W.mg_none_of X G z17,
    m_gcd := PySem.W.mg_of X G z18,
    m_lcm := PySem.W.mg_of X G z19,
    C_Form := C_Form, gC_Form := PySem.W.mg_of X G o0g, oc_Form := ⟨⟨o0a, o0b, o0c, o0d⟩, o0e, o0f, o0h, o0i, o0j⟩,
    na_Form_terms := o0n0,
    na_Form_constant := o0n1,
    mk_Form := ⟨o0k, a7, fn7, o0l⟩,
    si_Form := o0s, is_Form := o0t,
    C_Echelon := C_Echelon, gC_Echelon := PySem.W.mg_of X G o1g, oc_Echelon := ⟨⟨o1a, o1b, o1c, o1d⟩, o1e, o1f, o1h, o1i, o1j⟩,
    na_Echelon_steps := o1n0,
    mk_Echelon := ⟨o1k, a10, fn10, o1l⟩,
    me_Echelon_freed := ⟨a11, fn11, k11⟩,
    me_Echelon_take := ⟨a12, fn12, k12⟩,
    me_Echelon_shift := ⟨a13, fn13, k13⟩,
    si_Echelon := o1s, is_Echelon := o1t,
    c_LETTERS := ⟨_, PySem.W.mg_of X G z20⟩,
    c_QUANTITY_SIGNS := ⟨_, PySem.W.mg_of X G z21⟩,
    c_LONGEST_QUANTITY := ⟨_, PySem.W.mg_of X G z22⟩ }
  refine ⟨T.fd_law, fun s v => .of_eq rfl, fun base _ _ => ?_⟩
  exact law_of T
end My
open PySem PySem.W PyProof.Rows
set_option maxHeartbeats 0 in
theorem PySem.Challenge.cw_metehouse_k19_whole_cancelled_or_shifted_holds : PySem.Challenge.rw_metehouse_k19_whole_cancelled_or_shifted.Holds := by
  w_on; o_law; k_head; (case hw => w_witness2)
  k_fill
  refine L2.walk_of (l := PySem.Challenge.rw_metehouse_k19_whole_cancelled_or_shifted) (n := 63) (k := 8) (x := "_law_script") (CX := fun _ => L2.CX0) (sp := fun w => My.spLaw _) rfl (by decide) rfl ⟨rfl, by decide, by decide⟩ (fun w h Y => PySem.W.kIn_of Y) ?F (fun _ _ a ns hl _ hS => ⟨a, ns, rfl, hS, hl, fun _ => rfl⟩) (fun _ _ _ _ _ h => h)
  case F =>
    intro w mg fa h KX G hmg
    refine' My.all_mk KX G hmg ?o0g ?o1g ?a0 ?l0 ?c0 ?k0 ?a1 ?l1 ?c1 ?k1 ?d1 ?a2 ?l2 ?c2 ?k2 ?a3 ?l3 ?c3 ?k3 ?a4 ?l4 ?c4 ?k4 ?a5 ?l5 ?c5 ?k5 ?a6 ?l6 ?c6 ?k6 ?a7 ?l7 ?c7 ?k7 ?d7 ?yE7 ?a8 ?l8 ?c8 ?k8 ?a9 ?l9 ?c9 ?k9 ?a10 ?l10 ?c10 ?k10 ?a11 ?l11 ?c11 ?k11 ?a12 ?l12 ?c12 ?k12 ?a13 ?l13 ?c13 ?k13 ?a14 ?l14 ?c14 ?k14 ?a15 ?l15 ?c15 ?k15 ?a16 ?l16 ?c16 ?k16 ?a17 ?l17 ?c17 ?k17 ?a18 ?l18 ?c18 ?k18 ?a19 ?l19 ?c19 ?k19 ?a20 ?l20 ?c20 ?k20 ?a21 ?l21 ?c21 ?k21 ?a22 ?l22 ?c22 ?k22 ?a23 ?l23 ?c23 ?k23 ?a24 ?l24 ?c24 ?k24 ?a25 ?l25 ?c25 ?k25 ?a26 ?l26 ?c26 ?k26 ?a27 ?l27 ?c27 ?k27 ?a28 ?l28 ?c28 ?k28 ?a29 ?l29 ?c29 ?k29 ?a30 ?l30 ?c30 ?k30 ?a31 ?l31 ?c31 ?k31 ?a32 ?l32 ?c32 ?k32 ?a33 ?l33 ?c33 ?k33 ?a34 ?l34 ?c34 ?k34 ?a35 ?l35 ?c35 ?k35 ?a36 ?l36 ?c36 ?k36 ?z0 ?z1 ?z2 ?z3 ?z4 ?z5 ?z6 ?z7 ?z8 ?z9 ?z10 ?z11 ?z12 ?z13 ?z14 ?z15 ?z16 ?z17 ?z18 ?z19 ?o0a ?o0b ?o0c ?o0d ?o0e ?o0f ?o0h ?o0i ?o0j ?o0n0 ?o0n1 ?o0k ?o0l ?fn7 ?o0s ?o0t ?o1a ?o1b ?o1c ?o1d ?o1e ?o1f ?o1h ?o1i ?o1j ?o1n0 ?o1k ?o1l ?fn10 ?fn11 ?fn12 ?fn13 ?o1s ?o1t ?z20 ?z21 ?z22
    (case o0g => k_is)
    (case o1g => k_is)
    (case a0 => k_is)
    (case l0 => k_is)
    (case c0 => k_is)
    (case k0 => k_is)
    (case a1 => k_is)
    (case l1 => k_is)
    (case c1 => k_is)
    (case k1 => k_is)
    (case d1 => k_is)
    (case a2 => k_is)
    (case l2 => k_is)
    (case c2 => k_is)
    (case k2 => k_is)
    (case a3 => k_is)
    (case l3 => k_is)
    (case c3 => k_is)
    (case k3 => k_is)
    (case a4 => k_is)
    (case l4 => k_is)
    (case c4 => k_is)
    (case k4 => k_is)
    (case a5 => k_is)
    (case l5 => k_is)
    (case c5 => k_is)
    (case k5 => k_is)
    (case a6 => k_is)
    (case l6 => k_is)
    (case c6 => k_is)
    (case k6 => k_is)
    (case a7 => k_is)
    (case l7 => k_is)
    (case c7 => k_is)
    (case k7 => k_is)
    (case d7 => k_is)
    (case yE7 => k_is)
    (case a8 => k_is)
    (case l8 => k_is)
    (case c8 => k_is)
    (case k8 => k_is)
    (case a9 => k_is)
    (case l9 => k_is)
    (case c9 => k_is)
    (case k9 => k_is)
    (case a10 => k_is)
    (case l10 => k_is)
    (case c10 => k_is)
    (case k10 => k_is)
    (case a11 => k_is)
    (case l11 => k_is)
    (case c11 => k_is)
    (case k11 => k_is)
    (case a12 => k_is)
    (case l12 => k_is)
    (case c12 => k_is)
    (case k12 => k_is)
    (case a13 => k_is)
    (case l13 => k_is)
    (case c13 => k_is)
    (case k13 => k_is)
    (case a14 => k_is)
    (case l14 => k_is)
    (case c14 => k_is)
    (case k14 => k_is)
    (case a15 => k_is)
    (case l15 => k_is)
    (case c15 => k_is)
    (case k15 => k_is)
    (case a16 => k_is)
    (case l16 => k_is)
    (case c16 => k_is)
    (case k16 => k_is)
    (case a17 => k_is)
    (case l17 => k_is)
    (case c17 => k_is)
    (case k17 => k_is)
    (case a18 => k_is)
    (case l18 => k_is)
    (case c18 => k_is)
    (case k18 => k_is)
    (case a19 => k_is)
    (case l19 => k_is)
    (case c19 => k_is)
    (case k19 => k_is)
    (case a20 => k_is)
    (case l20 => k_is)
    (case c20 => k_is)
    (case k20 => k_is)
    (case a21 => k_is)
    (case l21 => k_is)
    (case c21 => k_is)
    (case k21 => k_is)
    (case a22 => k_is)
    (case l22 => k_is)
    (case c22 => k_is)
    (case k22 => k_is)
    (case a23 => k_is)
    (case l23 => k_is)
    (case c23 => k_is)
    (case k23 => k_is)
    (case a24 => k_is)
    (case l24 => k_is)
    (case c24 => k_is)
    (case k24 => k_is)
    (case a25 => k_is)
    (case l25 => k_is)
    (case c25 => k_is)
    (case k25 => k_is)
    (case a26 => k_is)
    (case l26 => k_is)
    (case c26 => k_is)
    (case k26 => k_is)
    (case a27 => k_is)
    (case l27 => k_is)
    (case c27 => k_is)
    (case k27 => k_is)
    (case a28 => k_is)
    (case l28 => k_is)
    (case c28 => k_is)
    (case k28 => k_is)
    (case a29 => k_is)
    (case l29 => k_is)
    (case c29 => k_is)
    (case k29 => k_is)
    (case a30 => k_is)
    (case l30 => k_is)
    (case c30 => k_is)
    (case k30 => k_is)
    (case a31 => k_is)
    (case l31 => k_is)
    (case c31 => k_is)
    (case k31 => k_is)
    (case a32 => k_is)
    (case l32 => k_is)
    (case c32 => k_is)
    (case k32 => k_is)
    (case a33 => k_is)
    (case l33 => k_is)
    (case c33 => k_is)
    (case k33 => k_is)
    (case a34 => k_is)
    (case l34 => k_is)
    (case c34 => k_is)
    (case k34 => k_is)
    (case a35 => k_is)
    (case l35 => k_is)
    (case c35 => k_is)
    (case k35 => k_is)
    (case a36 => k_is)
    (case l36 => k_is)
    (case c36 => k_is)
    (case k36 => k_is)
    (case z0 => k_is)
    (case z1 => k_is)
    (case z2 => k_is)
    (case z3 => k_is)
    (case z4 => k_is)
    (case z5 => k_is)
    (case z6 => k_is)
    (case z7 => k_is)
    (case z8 => k_is)
    (case z9 => k_is)
    (case z10 => k_is)
    (case z11 => k_is)
    (case z12 => k_is)
    (case z13 => k_is)
    (case z14 => k_is)
    (case z15 => k_is)
    (case z16 => k_is)
    (case z17 => k_is)
    (case z18 => k_is)
    (case z19 => k_is)
    (case o0a => k_is)
    (case o0b => k_is)
    (case o0c => k_is)
    (case o0d => k_is)
    (case o0e => k_is)
    (case o0f => k_is)
    (case o0h => k_is)
    (case o0i => k_is)
    (case o0j => k_is)
    (case o0n0 => k_is)
    (case o0n1 => k_is)
    (case o0k => k_is)
    (case o0l => k_is)
    (case fn7 => k_is)
    (case o0s => k_is)
    (case o0t => k_is)
    (case o1a => k_is)
    (case o1b => k_is)
    (case o1c => k_is)
    (case o1d => k_is)
    (case o1e => k_is)
    (case o1f => k_is)
    (case o1h => k_is)
    (case o1i => k_is)
    (case o1j => k_is)
    (case o1n0 => k_is)
    (case o1k => k_is)
    (case o1l => k_is)
    (case fn10 => k_is)
    (case fn11 => k_is)
    (case fn12 => k_is)
    (case fn13 => k_is)
    (case o1s => k_is)
    (case o1t => k_is)
    (case z20 => k_is)
    (case z21 => k_is)
    (case z22 => k_is)
