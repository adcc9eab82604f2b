import PyProof.Rows.All
import Wide.All
import OpenK.AllK
import Wide.FinOn
import HandS.ForMost
import HandS.Exc
import HandS.TryOnly
import HandS.ExcOwn
import HandS.ExcBuiltin
import HandS.WordsExc
import HandS.IsInst
import HandS.Defaults
import HandS.Star
import HandS.Flow
import HandS.Wide
import HandS.Gcd
import HandS.Evl
import HandS.CallSlots
import KE.KExcSuper
import HandS.ExcInit
import HandS.FStr
import HandS.ExcIs
import HandS.ExcField
import KE.KExcIs
import KE.KOpsOwn
import KE.KCallOwn
import HandS.OwnEq
import PyProof.ListMulRight
import HandS.Codes
import HandS.SlotsOwn
import PyProof.Rows.TmSorted
import PyProof.Rows.StrMeet
import HandS.Walk
import HandS.RaiseMore
import HandS.TupAny
import HandS.Conv
import PyProof.Rows.StrDigitsNeg
import HandS.Zip
import HandS.DictComp
import KE.KDictWalk
import HandS.TupLen
import HandS.Deep
import HandS.SortRule
import HandS.Sort
import HandS.DictEq
import KE.KDictCopyH
import HandS.ClsMeth
import PyProof.StrLawsRepr
import KE.KParD
import HandS.DictTup
import KE.KDictDisplayH
import PyProof.DictMoreH
import PySem.Challenge.RW_metehouse_k01_forms_as_values
set_option Elab.async false
set_option linter.all false
set_option maxRecDepth 100000
set_option maxHeartbeats 4000000
namespace My
open PySem PySem.Spec PyProof.Rows L2 StX
/-! ### rules of my own -/
section
variable {X : Cx}
/-- floor division by any divisor that is not 0, below 2 ^ 9000 in size -/
theorem op_fdivWN : OpR X (binaryOp .FloorDiv) (rI (fun _ j => j ≠ 0 ∧ j.natAbs.log2 < 9000) fun i j => .int (i.fdiv j)) :=
  opI fun _ _ _ _ _ _ _ hc q => floordiv_int hc.1 q (.inl (PyProof.noPylong_of_log2 hc.2))
theorem op_mulG : OpR X (binaryOp .Mult) (rI (fun i j => CMul i j ∨ CMulW i j) fun i j => .int (i * j)) := opI fun _ _ _ _ _ _ _ hc q => mul_int q (hc.elim CMul.ok CMulW.ok)
variable {CX : CXT} {k : Nat} {f : Addr} {sp : Sp} {E : XK} {x : Str} {p pos : Pos} {e : Expr} {es : List Expr} {t : TA}
/-- a call of a def whose promise is told raw -/
theorem pe_callR (F : FnR X.prog X.w X.K X.mg X.base CX k f sp) (hr : Room k X.A) (hg : Gl X x) (hm : X.mg x = some (.ref f)) (hk : PySem.W.keepIn X.K (.ref f) = true) (hx : Passes CX X E)
    (ha : PA X (e :: es) t) (hdb : (x == ("__debug__" : Str)) = false := by decide) (he : starEach (e :: es) X.env = (false, eval e X.env) :: starEach es X.env := by rfl) (hpl : (backTo pos (starEach es X.env)).any (·.1) = false := by rfl) :
    PE X (.Call (.Name x p) (e :: es) [] pos) (fun σ H Q => t σ H fun vs H1 => sp vs H1 Q E) := by
  refine ⟨fun pins s σ H Q I h => ?_⟩
  refine wpAny_Call_Name_kw (ld_glob I hg hm ?_ hdb)
  refine PySem.W.callWith_K (h₀ := X.base) I.ok.mod.kin hk (thn (ha.run pos pins s σ H _ I h) fun us s1 ⟨vs, H1, I1, r, q⟩ => ⟨I1.kIn, ?_⟩) he hpl
  exact wpAny_call (run_fnR F hr hx I1 r q)
theorem pe_callR0 (F : FnR X.prog X.w X.K X.mg X.base CX k f sp) (hr : Room k X.A) (hg : Gl X x) (hm : X.mg x = some (.ref f)) (hk : PySem.W.keepIn X.K (.ref f) = true) (hx : Passes CX X E)
    (hdb : (x == ("__debug__" : Str)) = false := by decide) : PE X (.Call (.Name x p) [] [] pos) (fun σ H Q => sp [] H Q E) := by
  refine ⟨fun pins s σ H Q I h => ?_⟩
  refine wpAny_Call_Name_kw (ld_glob I hg hm ?_ hdb)
  exact PySem.W.callWith_K0 I.kIn hk (wpAny_call (run_fnR (us := []) F hr hx I .nil h))
end
section
variable {P : Program} {w : World} {K : PySem.W.Frag} {mg : Str → Option Value} {base : Heap}
/-- def f(a, .., *v) that lets nothing out -/
theorem Fun.okStar {x qual : Str} {st : Stmt} {f : Addr} {fd : FuncData} {N ps : List Str} {pv : Str} {k : Nat} {sp : Sp} (F : Fun K x qual st f fd) (S : FnScope N (ps ++ [pv]) (defScope st))
    (hb : ∀ (kV doc pm : Value) (an : Option Addr) (cdv ct : Value) (us rest : List Value), us.length = ps.length → bindArgs (PySem.W.fnOf x qual (defArgs st) (defBody st) (defScope st) .none kV doc pm an cdv ct) ⟨us ++ rest, []⟩ = (newTuple rest >>= fun t => pure (ps.zip us ++ [(pv, t)])))
    (hbody : ∀ (cdv : Value) (A : Around) (outer : List Env) (s : Shared) (H : Hp) (vs : List V) (Q : VK) (E : XK), Room k (A.deeper (envOfC qual (defScope st) s.heap.objs.size f cdv)) → sp vs H Q E →
      ∃ t, PSs (cxOf CX0 P w K mg base N qual (defScope st) f cdv A outer s H E).nox (defBody st) t ∧ t { nx := fun _ H' => Q .non H', rt := Q } (start N vs) H) :
    FnR P w K mg base CX0 (k + 1) f (fun vs H Q E => ∃ ws rest, vs = ws ++ rest ∧ ws.length = ps.length ∧ rest.length ≤ sizeLine ∧ ∀ p, H p = Option.none → sp (ws ++ [V.ref p]) (upd H p (.tup rest)) Q E) := by
  obtain ⟨oc, od, kV, doc, pm, an, cdv, ct, osl, rfl, lk, hcd⟩ := F.ex
  refine fn_star lk hcd S cxUp_none (hb kV doc pm an cdv ct) fun A outer s H vs Q E hr hsp => ?_
  obtain ⟨t, h, q⟩ := hbody cdv A outer s H vs Q E hr hsp
  exact ⟨t, h.nox, q⟩
end
/-! ### heaps: what is kept but at some addresses -/
def Keep (M : List Addr) (H H' : Hp) : Prop := ∀ b o, b ∉ M → H b = some o → H' b = some o
theorem Keep.refl (M : List Addr) (H : Hp) : Keep M H H := fun _ _ _ h => h
theorem Keep.trans {M : List Addr} {H H1 H2 : Hp} (a : Keep M H H1) (b : Keep M H1 H2) : Keep M H H2 := fun c o n h => b c o n (a c o n h)
theorem Keep.new {M : List Addr} {H : Hp} {p : Addr} {o : HO} (h : H p = none) : Keep M H (upd H p o) := fun b u _ e => by
  rw [upd_ne (ne_of_none e h)]; exact e
theorem Keep.at {M : List Addr} {H : Hp} {p : Addr} {o : HO} (h : p ∈ M) : Keep M H (upd H p o) := fun b u n e => by
  rw [upd_ne (fun z => n (by rw [z]; exact h))]; exact e
/-- an object that H does not know may change -/
theorem Keep.mut {M : List Addr} {H H' : Hp} {p : Addr} {o : HO} (e : Keep M H H') (h : H p = none) : Keep M H (upd H' p o) := fun b u n hb => by
  rw [upd_ne (ne_of_none hb h)]; exact e b u n hb
theorem Keep.mono {M N : List Addr} {H H' : Hp} (e : Keep M H H') (h : ∀ a ∈ M, a ∈ N) : Keep N H H' := fun b o n hb => e b o (fun z => n (h b z)) hb
theorem Keep.rd {M : List Addr} {H H' : Hp} {a : Addr} {u : HO} (e : Keep M H H') (n : a ∉ M) (h : Rd H a u) : Rd H' a u := by
  rcases h with h | ⟨o, h⟩
  · exact Or.inl (e a _ n h)
  · exact Or.inr ⟨o, e a _ n h⟩
theorem Keep.l {M : List Addr} {K : PySem.W.Frag} {H H' : Hp} {a : Addr} {xs : List V} (e : Keep M H H') (n : a ∉ M) (h : SqL K H a xs) : SqL K H' a xs := by
  rcases h with h | h
  · exact Or.inl (e.rd n h)
  · exact Or.inr h
theorem Keep.t {M : List Addr} {K : PySem.W.Frag} {H H' : Hp} {a : Addr} {xs : List V} (e : Keep M H H') (n : a ∉ M) (h : SqT K H a xs) : SqT K H' a xs := by
  rcases h with h | h
  · exact Or.inl (e.rd n h)
  · exact Or.inr h
theorem Keep.free {M : List Addr} {H H' : Hp} (e : Keep M H H') {l : Addr} (n : l ∉ M) (h : H' l = Option.none) : H l = Option.none := by
  cases q : H l with
  | none => rfl
  | some o => rw [e l o n q] at h; cases h
/-- an address that is untracked later, though tracked addresses stay (M's own, too) -/
theorem ne_free {H : Hp} {a p : Addr} {o : HO} (h : H a = some o) (n : H p = none) : p ≠ a := fun e => by rw [e, h] at n; cases n
theorem sqL_of {K : PySem.W.Frag} {H : Hp} {a : Addr} {xs : List V} (h : H a = some (.lst xs)) : SqL K H a xs := Or.inl (Or.inl h)
theorem sqT_of {K : PySem.W.Frag} {H : Hp} {a : Addr} {xs : List V} (h : H a = some (.tup xs)) : SqT K H a xs := Or.inl (Or.inl h)
theorem le_size {n : Nat} (h : n ≤ 100000) : n ≤ sizeLine := Nat.le_trans h (by decide)
theorem lt_size {n : Nat} (h : n < 100000) : n < sizeLine := Nat.lt_of_lt_of_le h (by decide)
theorem ixN_nn {n j : Nat} (h : j < n) : ixN n (j : Int) = some j := by
  unfold ixN; rw [if_pos (by omega), if_pos (by omega), Int.toNat_natCast]
theorem cxOf_K {CX : CXT} {P : Program} {w : World} {K : PySem.W.Frag} {mg : Str → Option Value} {base : Heap} {N : List Str} {qual : Str} {scope : Scope} {f : Addr} {cd : Value} {A : Around} {outer : List Env} {s : Shared} {H : Hp} {E : XK} :
    (cxOf CX P w K mg base N qual scope f cd A outer s H E).K = K := rfl
/-! ### readings, by the head of their terms -/
section
variable {K : PySem.W.Frag} {σ : L2.St} {H : Hp} {Q : VK} {QA : List V → Hp → Prop} {QB : Bool → Hp → Prop} {QO : Option Int → Hp → Prop} {D : Ends} {ta tb te tc : TE} {t u : TT} {ts tr : TS} {r : R2} {v x y : V} {G : TG} {tas : TA}
theorem r_nxE {a b d : L2.St → Hp → Prop} {c : VK} (k : a σ H) : Ends.nx ⟨a, c, b, d⟩ σ H := k
theorem r_bkE {a b d : L2.St → Hp → Prop} {c : VK} (k : b σ H) : Ends.bk ⟨a, c, b, d⟩ σ H := k
theorem r_ctE {a b d : L2.St → Hp → Prop} {c : VK} (k : d σ H) : Ends.ct ⟨a, c, b, d⟩ σ H := k
theorem r_rtE {a b d : L2.St → Hp → Prop} {c : VK} (k : c v H) : Ends.rt ⟨a, c, b, d⟩ v H := k
theorem r_var {i : Nat} (h : σ[i]? = some (some v)) (k : Q v H) : tVar i σ H Q := ⟨v, h, k⟩
theorem r_c (k : Q v H) : tC v σ H Q := k
theorem r_op (k : ta σ H fun x H1 => tb σ H1 fun y H2 => r x y H2 Q) : tOp r ta tb σ H Q := k
theorem r_un {r : V → Hp → VK → Prop} (k : ta σ H fun x H1 => r x H1 Q) : tUn r ta σ H Q := k
theorem r_I0 {g : Int → Int → V} {i j : Int} (k : Q (g i j) H) : rI0 g (.int i) (.int j) H Q := ⟨i, j, rfl, rfl, k⟩
theorem r_I {C : Int → Int → Prop} {g : Int → Int → V} {i j : Int} (c : C i j) (k : Q (g i j) H) : rI C g (.int i) (.int j) H Q := ⟨i, j, rfl, rfl, c, k⟩
theorem r_U {g : Int → V} {i : Int} (k : Q (g i) H) : rU g (.int i) H Q := ⟨i, rfl, k⟩
theorem dec_int {i j : Int} : decide (V.int i = V.int j) = decide (i = j) := by
  by_cases h : i = j
  · subst h; simp
  · rw [decide_eq_false h, decide_eq_false (fun e => h (V.int.inj e))]
theorem dec_str {i j : Str} : decide (V.str i = V.str j) = decide (i = j) := by
  by_cases h : i = j
  · subst h; simp
  · rw [decide_eq_false h, decide_eq_false (fun e => h (V.str.inj e))]
theorem dec_bl {i j : Bool} : decide (V.bl i = V.bl j) = decide (i = j) := by
  by_cases h : i = j
  · subst h; simp
  · rw [decide_eq_false h, decide_eq_false (fun e => h (V.bl.inj e))]
theorem r_eqI {i j : Int} (k : Q (.bl (decide (i = j))) H) : rEq (.int i) (.int j) H Q := ⟨rfl, by rw [dec_int]; exact k⟩
theorem r_neI {i j : Int} (k : Q (.bl (!decide (i = j))) H) : rNe (.int i) (.int j) H Q := ⟨rfl, by rw [dec_int]; exact k⟩
theorem r_eqS {i j : Str} (k : Q (.bl (decide (i = j))) H) : rEq (.str i) (.str j) H Q := ⟨rfl, by rw [dec_str]; exact k⟩
theorem r_neS {i j : Str} (k : Q (.bl (!decide (i = j))) H) : rNe (.str i) (.str j) H Q := ⟨rfl, by rw [dec_str]; exact k⟩
theorem r_eqB {i j : Bool} (k : Q (.bl (decide (i = j))) H) : rEq (.bl i) (.bl j) H Q := ⟨rfl, by rw [dec_bl]; exact k⟩
theorem r_neB {i j : Bool} (k : Q (.bl (!decide (i = j))) H) : rNe (.bl i) (.bl j) H Q := ⟨rfl, by rw [dec_bl]; exact k⟩
theorem r_test (k : te σ H fun x H' => ∃ k, x = .bl k ∧ QB k H') : tTest te σ H QB := k
theorem r_tB (k : te σ H fun x H' => ∃ k, x = .bl k ∧ QB k H') : tB te σ H QB := k
theorem r_bl {b : Bool} {P : Bool → Prop} (k : P b) : ∃ c, V.bl b = .bl c ∧ P c := ⟨b, rfl, k⟩
theorem r_and (k : t σ H fun c H1 => if c = true then u σ H1 QB else QB false H1) : tAnd t u σ H QB := k
theorem r_or (k : t σ H fun c H1 => if c = true then QB true H1 else u σ H1 QB) : tOr t u σ H QB := k
theorem r_not (k : t σ H fun c H1 => QB (!c) H1) : tNot t σ H QB := k
theorem r_andV (k : ta σ H fun x H1 => ∃ c, x = .bl c ∧ if c = true then tb σ H1 Q else Q (.bl false) H1) : tAndV ta tb σ H Q := k
theorem r_orV (k : ta σ H fun x H1 => ∃ c, x = .bl c ∧ if c = true then Q (.bl true) H1 else tb σ H1 Q) : tOrV ta tb σ H Q := k
theorem r_notV (k : ta σ H fun x H1 => ∃ c, x = .bl c ∧ Q (.bl (!c)) H1) : tNotV ta σ H Q := k
theorem r_if (k : t σ H fun c H1 => if c = true then ta σ H1 Q else tb σ H1 Q) : tIf t ta tb σ H Q := k
theorem r_chain {r' : R2} (k : ta σ H fun x H1 => tb σ H1 fun y H2 => r x y H2 fun z H3 => ∃ k, z = .bl k ∧ (if k = true then tc σ H3 fun w' H4 => r' y w' H4 Q else Q (.bl false) H3)) : tChain r r' ta tb tc σ H Q := k
theorem r_seq (k : ts { D with nx := tr D } σ H) : tSeq ts tr D σ H := k
theorem r_asg (k : te σ H fun x H1 => G x σ H1 D.nx) : tAsg te G D σ H := k
theorem r_gName {i : Nat} {Q : L2.St → Hp → Prop} (k : Q (σ.set i (some v)) H) : gName i v σ H Q := k
theorem r_gName0 {x0 : Option V} {Q : L2.St → Hp → Prop} (k : Q (some v :: σ) H) : gName 0 v (x0 :: σ) H Q := k
theorem r_gName1 {x0 x1 : Option V} {Q : L2.St → Hp → Prop} (k : Q (x0 :: some v :: σ) H) : gName 1 v (x0 :: x1 :: σ) H Q := k
theorem r_gName2 {x0 x1 x2 : Option V} {Q : L2.St → Hp → Prop} (k : Q (x0 :: x1 :: some v :: σ) H) : gName 2 v (x0 :: x1 :: x2 :: σ) H Q := k
theorem r_gName3 {x0 x1 x2 x3 : Option V} {Q : L2.St → Hp → Prop} (k : Q (x0 :: x1 :: x2 :: some v :: σ) H) : gName 3 v (x0 :: x1 :: x2 :: x3 :: σ) H Q := k
theorem r_gName4 {x0 x1 x2 x3 x4 : Option V} {Q : L2.St → Hp → Prop} (k : Q (x0 :: x1 :: x2 :: x3 :: some v :: σ) H) : gName 4 v (x0 :: x1 :: x2 :: x3 :: x4 :: σ) H Q := k
theorem r_gName5 {x0 x1 x2 x3 x4 x5 : Option V} {Q : L2.St → Hp → Prop} (k : Q (x0 :: x1 :: x2 :: x3 :: x4 :: some v :: σ) H) : gName 5 v (x0 :: x1 :: x2 :: x3 :: x4 :: x5 :: σ) H Q := k
theorem r_gName6 {x0 x1 x2 x3 x4 x5 x6 : Option V} {Q : L2.St → Hp → Prop} (k : Q (x0 :: x1 :: x2 :: x3 :: x4 :: x5 :: some v :: σ) H) : gName 6 v (x0 :: x1 :: x2 :: x3 :: x4 :: x5 :: x6 :: σ) H Q := k
theorem r_gName7 {x0 x1 x2 x3 x4 x5 x6 x7 : Option V} {Q : L2.St → Hp → Prop} (k : Q (x0 :: x1 :: x2 :: x3 :: x4 :: x5 :: x6 :: some v :: σ) H) : gName 7 v (x0 :: x1 :: x2 :: x3 :: x4 :: x5 :: x6 :: x7 :: σ) H Q := k
theorem r_gName8 {x0 x1 x2 x3 x4 x5 x6 x7 x8 : Option V} {Q : L2.St → Hp → Prop} (k : Q (x0 :: x1 :: x2 :: x3 :: x4 :: x5 :: x6 :: x7 :: some v :: σ) H) : gName 8 v (x0 :: x1 :: x2 :: x3 :: x4 :: x5 :: x6 :: x7 :: x8 :: σ) H Q := k
theorem r_gName9 {x0 x1 x2 x3 x4 x5 x6 x7 x8 x9 : Option V} {Q : L2.St → Hp → Prop} (k : Q (x0 :: x1 :: x2 :: x3 :: x4 :: x5 :: x6 :: x7 :: x8 :: some v :: σ) H) : gName 9 v (x0 :: x1 :: x2 :: x3 :: x4 :: x5 :: x6 :: x7 :: x8 :: x9 :: σ) H Q := k
theorem r_gName10 {x0 x1 x2 x3 x4 x5 x6 x7 x8 x9 x10 : Option V} {Q : L2.St → Hp → Prop} (k : Q (x0 :: x1 :: x2 :: x3 :: x4 :: x5 :: x6 :: x7 :: x8 :: x9 :: some v :: σ) H) : gName 10 v (x0 :: x1 :: x2 :: x3 :: x4 :: x5 :: x6 :: x7 :: x8 :: x9 :: x10 :: σ) H Q := k
theorem r_gName11 {x0 x1 x2 x3 x4 x5 x6 x7 x8 x9 x10 x11 : Option V} {Q : L2.St → Hp → Prop} (k : Q (x0 :: x1 :: x2 :: x3 :: x4 :: x5 :: x6 :: x7 :: x8 :: x9 :: x10 :: some v :: σ) H) : gName 11 v (x0 :: x1 :: x2 :: x3 :: x4 :: x5 :: x6 :: x7 :: x8 :: x9 :: x10 :: x11 :: σ) H Q := k
theorem r_gName12 {x0 x1 x2 x3 x4 x5 x6 x7 x8 x9 x10 x11 x12 : Option V} {Q : L2.St → Hp → Prop} (k : Q (x0 :: x1 :: x2 :: x3 :: x4 :: x5 :: x6 :: x7 :: x8 :: x9 :: x10 :: x11 :: some v :: σ) H) : gName 12 v (x0 :: x1 :: x2 :: x3 :: x4 :: x5 :: x6 :: x7 :: x8 :: x9 :: x10 :: x11 :: x12 :: σ) H Q := k
theorem r_gName13 {x0 x1 x2 x3 x4 x5 x6 x7 x8 x9 x10 x11 x12 x13 : Option V} {Q : L2.St → Hp → Prop} (k : Q (x0 :: x1 :: x2 :: x3 :: x4 :: x5 :: x6 :: x7 :: x8 :: x9 :: x10 :: x11 :: x12 :: some v :: σ) H) : gName 13 v (x0 :: x1 :: x2 :: x3 :: x4 :: x5 :: x6 :: x7 :: x8 :: x9 :: x10 :: x11 :: x12 :: x13 :: σ) H Q := k
theorem r_gName14 {x0 x1 x2 x3 x4 x5 x6 x7 x8 x9 x10 x11 x12 x13 x14 : Option V} {Q : L2.St → Hp → Prop} (k : Q (x0 :: x1 :: x2 :: x3 :: x4 :: x5 :: x6 :: x7 :: x8 :: x9 :: x10 :: x11 :: x12 :: x13 :: some v :: σ) H) : gName 14 v (x0 :: x1 :: x2 :: x3 :: x4 :: x5 :: x6 :: x7 :: x8 :: x9 :: x10 :: x11 :: x12 :: x13 :: x14 :: σ) H Q := k
theorem r_gName15 {x0 x1 x2 x3 x4 x5 x6 x7 x8 x9 x10 x11 x12 x13 x14 x15 : Option V} {Q : L2.St → Hp → Prop} (k : Q (x0 :: x1 :: x2 :: x3 :: x4 :: x5 :: x6 :: x7 :: x8 :: x9 :: x10 :: x11 :: x12 :: x13 :: x14 :: some v :: σ) H) : gName 15 v (x0 :: x1 :: x2 :: x3 :: x4 :: x5 :: x6 :: x7 :: x8 :: x9 :: x10 :: x11 :: x12 :: x13 :: x14 :: x15 :: σ) H Q := k
theorem r_gName16 {x0 x1 x2 x3 x4 x5 x6 x7 x8 x9 x10 x11 x12 x13 x14 x15 x16 : Option V} {Q : L2.St → Hp → Prop} (k : Q (x0 :: x1 :: x2 :: x3 :: x4 :: x5 :: x6 :: x7 :: x8 :: x9 :: x10 :: x11 :: x12 :: x13 :: x14 :: x15 :: some v :: σ) H) : gName 16 v (x0 :: x1 :: x2 :: x3 :: x4 :: x5 :: x6 :: x7 :: x8 :: x9 :: x10 :: x11 :: x12 :: x13 :: x14 :: x15 :: x16 :: σ) H Q := k
theorem r_gName17 {x0 x1 x2 x3 x4 x5 x6 x7 x8 x9 x10 x11 x12 x13 x14 x15 x16 x17 : Option V} {Q : L2.St → Hp → Prop} (k : Q (x0 :: x1 :: x2 :: x3 :: x4 :: x5 :: x6 :: x7 :: x8 :: x9 :: x10 :: x11 :: x12 :: x13 :: x14 :: x15 :: x16 :: some v :: σ) H) : gName 17 v (x0 :: x1 :: x2 :: x3 :: x4 :: x5 :: x6 :: x7 :: x8 :: x9 :: x10 :: x11 :: x12 :: x13 :: x14 :: x15 :: x16 :: x17 :: σ) H Q := k
theorem r_gName18 {x0 x1 x2 x3 x4 x5 x6 x7 x8 x9 x10 x11 x12 x13 x14 x15 x16 x17 x18 : Option V} {Q : L2.St → Hp → Prop} (k : Q (x0 :: x1 :: x2 :: x3 :: x4 :: x5 :: x6 :: x7 :: x8 :: x9 :: x10 :: x11 :: x12 :: x13 :: x14 :: x15 :: x16 :: x17 :: some v :: σ) H) : gName 18 v (x0 :: x1 :: x2 :: x3 :: x4 :: x5 :: x6 :: x7 :: x8 :: x9 :: x10 :: x11 :: x12 :: x13 :: x14 :: x15 :: x16 :: x17 :: x18 :: σ) H Q := k
theorem r_gName19 {x0 x1 x2 x3 x4 x5 x6 x7 x8 x9 x10 x11 x12 x13 x14 x15 x16 x17 x18 x19 : Option V} {Q : L2.St → Hp → Prop} (k : Q (x0 :: x1 :: x2 :: x3 :: x4 :: x5 :: x6 :: x7 :: x8 :: x9 :: x10 :: x11 :: x12 :: x13 :: x14 :: x15 :: x16 :: x17 :: x18 :: some v :: σ) H) : gName 19 v (x0 :: x1 :: x2 :: x3 :: x4 :: x5 :: x6 :: x7 :: x8 :: x9 :: x10 :: x11 :: x12 :: x13 :: x14 :: x15 :: x16 :: x17 :: x18 :: x19 :: σ) H Q := k
theorem r_ret (k : te σ H D.rt) : tRet te D σ H := k
theorem r_retN (k : D.rt .non H) : tRetN D σ H := k
theorem r_drop (k : te σ H fun _ H1 => D.nx σ H1) : tDrop te D σ H := k
theorem r_ifS (k : t σ H fun b H1 => if b = true then ts D σ H1 else tr D σ H1) : tIfS t ts tr D σ H := k
theorem r_next (k : D.nx σ H) : tNext D σ H := k
theorem r_cont (k : D.ct σ H) : tCont D σ H := k
theorem r_break (k : D.bk σ H) : tBreak D σ H := k
theorem r_cb {r : List V → Hp → VK → Prop} (k : tas σ H fun vs H1 => r vs H1 Q) : tCB r tas σ H Q := k
theorem r_cons (k : ta σ H fun x H1 => tas σ H1 fun xs H2 => QA (x :: xs) H2) : tCons ta tas σ H QA := k
theorem r_nil (k : QA [] H) : tNil σ H QA := k
theorem r_call {sp : Sp} {dvs : List V} {E : XK} (k : tas σ H fun vs H1 => sp (vs ++ dvs) H1 Q E) : tCall sp dvs E tas σ H Q := k
theorem r_lst (k : tas σ H fun xs H1 => xs.length ≤ sizeLine ∧ ∀ p, H1 p = none → Q (.ref p) (upd H1 p (.lst xs))) : tLst tas σ H Q := k
theorem r_tup (k : tas σ H fun xs H1 => xs.length ≤ sizeLine ∧ ∀ p, H1 p = none → Q (.ref p) (upd H1 p (.tup xs))) : tTup tas σ H Q := k
theorem r_ixL {p : Addr} {xs : List V} {i : Int} (h : SqL K H p xs) (h2 : atI xs i = some v) (k : Q v H) : rIxL K (.ref p) (.int i) H Q := ⟨p, xs, i, v, rfl, rfl, h, h2, k⟩
theorem r_ixT {p : Addr} {xs : List V} {i : Int} (h : SqT K H p xs) (h2 : atI xs i = some v) (k : Q v H) : rIxT K (.ref p) (.int i) H Q := ⟨p, xs, i, v, rfl, rfl, h, h2, k⟩
theorem r_gSub {to ti : TE} {s : TSet} {Q : L2.St → Hp → Prop} (k : to σ H fun o H1 => ti σ H1 fun i H2 => s o i v H2 fun H3 => Q σ H3) : gSub to ti s v σ H Q := k
theorem r_setL {p : Addr} {xs : List V} {i : Int} {j : Nat} {Q : Hp → Prop} (h : H p = some (.lst xs)) (h2 : ixN xs.length i = some j) (k : Q (upd H p (.lst (xs.set j v)))) : rSetL (.ref p) (.int i) v H Q := ⟨p, xs, i, j, rfl, rfl, h, h2, k⟩
theorem r_setP0 {p : Addr} {x0 : V} {xs : List V} {Q : Hp → Prop} (h : H p = some (.lst (x0 :: xs))) (k : Q (upd H p (.lst (v :: xs)))) : rSetL (.ref p) (.int 0) v H Q := ⟨p, _, 0, 0, rfl, rfl, h, ixN_nn (j := 0) (by simp), k⟩
theorem r_setP1 {p : Addr} {x0 x1 : V} {xs : List V} {Q : Hp → Prop} (h : H p = some (.lst (x0 :: x1 :: xs))) (k : Q (upd H p (.lst (x0 :: v :: xs)))) : rSetL (.ref p) (.int 1) v H Q := ⟨p, _, 1, 1, rfl, rfl, h, ixN_nn (j := 1) (by simp), k⟩
theorem r_setP2 {p : Addr} {x0 x1 x2 : V} {xs : List V} {Q : Hp → Prop} (h : H p = some (.lst (x0 :: x1 :: x2 :: xs))) (k : Q (upd H p (.lst (x0 :: x1 :: v :: xs)))) : rSetL (.ref p) (.int 2) v H Q := ⟨p, _, 2, 2, rfl, rfl, h, ixN_nn (j := 2) (by simp), k⟩
theorem r_setP3 {p : Addr} {x0 x1 x2 x3 : V} {xs : List V} {Q : Hp → Prop} (h : H p = some (.lst (x0 :: x1 :: x2 :: x3 :: xs))) (k : Q (upd H p (.lst (x0 :: x1 :: x2 :: v :: xs)))) : rSetL (.ref p) (.int 3) v H Q := ⟨p, _, 3, 3, rfl, rfl, h, ixN_nn (j := 3) (by simp), k⟩
theorem r_cut (M : L2.St → Hp → Prop) (h : ts { D with nx := M } σ H) (k : ∀ σ' H', M σ' H' → tr D σ' H') : Evl.tCut ts tr D σ H := ⟨M, h, k⟩
theorem r_sl {r : V → Option Int → Option Int → Hp → VK → Prop} {tl th : TO} (k : te σ H fun x H1 => tl σ H1 fun l H2 => th σ H2 fun u H3 => r x l u H3 Q) : tSl r te tl th σ H Q := k
theorem r_ite {p : Prop} {_i : Decidable p} {A B : Prop} (h1 : p → A) (h2 : ¬ p → B) : if decide p = true then A else B := by
  by_cases h : p
  · rw [if_pos (decide_eq_true h)]; exact h1 h
  · rw [if_neg (by rw [decide_eq_false h]; decide)]; exact h2 h
theorem r_iteN {p : Prop} {_i : Decidable p} {A B : Prop} (h1 : ¬ p → A) (h2 : p → B) : if (!decide p) = true then A else B := by
  by_cases h : p
  · rw [if_neg (by rw [decide_eq_true h]; decide)]; exact h2 h
  · rw [if_pos (by rw [decide_eq_false h]; rfl)]; exact h1 h
theorem r_iteT {p : Prop} [Decidable p] {A B : Prop} (h : p) (k : A) : if decide p = true then A else B := by
  rw [if_pos (decide_eq_true h)]; exact k
theorem r_iteF {p : Prop} [Decidable p] {A B : Prop} (h : ¬ p) (k : B) : if decide p = true then A else B := by
  rw [if_neg (by rw [decide_eq_false h]; decide)]; exact k
theorem r_iteNT {p : Prop} [Decidable p] {A B : Prop} (h : ¬ p) (k : A) : if (!decide p) = true then A else B := by
  rw [if_pos (by rw [decide_eq_false h]; rfl)]; exact k
theorem r_iteNF {p : Prop} [Decidable p] {A B : Prop} (h : p) (k : B) : if (!decide p) = true then A else B := by
  rw [if_neg (by rw [decide_eq_true h]; decide)]; exact k
theorem r_iteb {b : Bool} {A B : Prop} (h1 : b = true → A) (h2 : b = false → B) : if b = true then A else B := by
  cases b with
  | true => rw [if_pos rfl]; exact h1 rfl
  | false => rw [if_neg (by decide)]; exact h2 rfl
theorem r_itebN {b : Bool} {A B : Prop} (h1 : b = false → A) (h2 : b = true → B) : if (!b) = true then A else B := by
  cases b with
  | true => exact (if_neg (by decide : ¬ (!true) = true)).mpr (h2 rfl)
  | false => exact (if_pos (by decide : (!false) = true)).mpr (h1 rfl)
theorem r_int1 {i : Int} {F : Int → Prop} {G : Bool → Prop} (k : F i) : (∃ j, [V.int i] = [.int j] ∧ F j) ∨ ∃ b, [V.int i] = [.bl b] ∧ G b := .inl ⟨i, rfl, k⟩
theorem r_intB {b : Bool} {F : Int → Prop} {G : Bool → Prop} (k : G b) : (∃ j, [V.bl b] = [.int j] ∧ F j) ∨ ∃ c, [V.bl b] = [.bl c] ∧ G c := .inr ⟨b, rfl, k⟩
theorem r_lenL {p : Addr} {xs : List V} {F : List V → Prop} (h : SqL K H p xs) (k : F xs) : ∃ q ys, [V.ref p] = [.ref q] ∧ (SqL K H q ys ∨ SqT K H q ys) ∧ F ys := ⟨p, xs, rfl, .inl h, k⟩
theorem r_lenT {p : Addr} {xs : List V} {F : List V → Prop} (h : SqT K H p xs) (k : F xs) : ∃ q ys, [V.ref p] = [.ref q] ∧ (SqL K H q ys ∨ SqT K H q ys) ∧ F ys := ⟨p, xs, rfl, .inr h, k⟩
theorem abs_if {i : Int} : (if i < 0 then -i else i) = (i.natAbs : Int) := by split <;> omega
theorem max_if {i j : Int} : (if j > i then j else i) = max i j := by split <;> omega
theorem r_in1 {i : Int} {F : Int → Prop} (k : F i) : ∃ j, [V.int i] = [.int j] ∧ F j := ⟨i, rfl, k⟩
theorem r_in2 {i j : Int} {F : Int → Int → Prop} (k : F i j) : ∃ a b, [V.int i, V.int j] = [.int a, .int b] ∧ F a b := ⟨i, j, rfl, k⟩
theorem r_isi {x : V} {T : String} {b : Bool} {ty : String} (ty1 : TyX K H x (.type ty)) (h : kitB ty T = some b) (k : Q (.bl b) H) : rIsi K [x, .ty T] H Q :=
  ⟨x, .ty T, .type ty, .type T, b, rfl, .ty T, ty1, kit_ty h, k⟩
end
/-! ### loops -/
def ForR1 (G : TG) (ts : TS) (D : Ends) (σ : L2.St) (vs : List V) (H : Hp) : Prop := ∃ j : Int, vs = [.int j] ∧ -(2 ^ 62) ≤ j ∧ j < 2 ^ 62 ∧ ∃ W : Nat → Nat → L2.St → Hp → Prop, (∃ m, W 0 m σ H) ∧ ∀ i m σ H, W i m σ H →
  ((Itr 0 j.toNat).stop i H ∧ D.nx σ H) ∨ ((Itr 0 j.toNat).go i H ∧ ∃ N : L2.St → Hp → Prop, (∀ σ' H', N σ' H' → ∃ m', m' < m ∧ W (i + 1) m' σ' H') ∧ ∀ x H', (Itr 0 j.toNat).yld i H x H' → G x σ H' fun σ2 H2 => ts { D with nx := N, ct := N, bk := D.nx } σ2 H2)
def ForR2 (G : TG) (ts : TS) (D : Ends) (σ : L2.St) (vs : List V) (H : Hp) : Prop := ∃ i j : Int, vs = [.int i, .int j] ∧ (-(2 ^ 62) ≤ i ∧ i < 2 ^ 62 ∧ -(2 ^ 62) ≤ j ∧ j < 2 ^ 62) ∧ ∃ W : Nat → Nat → L2.St → Hp → Prop, (∃ m, W 0 m σ H) ∧ ∀ k m σ H, W k m σ H →
  ((Itr i (j - i).toNat).stop k H ∧ D.nx σ H) ∨ ((Itr i (j - i).toNat).go k H ∧ ∃ N : L2.St → Hp → Prop, (∀ σ' H', N σ' H' → ∃ m', m' < m ∧ W (k + 1) m' σ' H') ∧ ∀ x H', (Itr i (j - i).toNat).yld k H x H' → G x σ H' fun σ2 H2 => ts { D with nx := N, ct := N, bk := D.nx } σ2 H2)
def ForL (K : PySem.W.Frag) (G : TG) (ts : TS) (D : Ends) (σ : L2.St) (v : V) (H : Hp) : Prop := ∃ a, v = .ref a ∧ (∃ xs, SqL K H a xs) ∧ ∃ W : Nat → Nat → L2.St → Hp → Prop, (∃ m, W 0 m σ H) ∧ ∀ i m σ H, W i m σ H →
  ((Itl K a).stop i H ∧ D.nx σ H) ∨ ((Itl K a).go i H ∧ ∃ N : L2.St → Hp → Prop, (∀ σ' H', N σ' H' → ∃ m', m' < m ∧ W (i + 1) m' σ' H') ∧ ∀ x H', (Itl K a).yld i H x H' → G x σ H' fun σ2 H2 => ts { D with nx := N, ct := N, bk := D.nx } σ2 H2)
def ForT (K : PySem.W.Frag) (G : TG) (ts : TS) (D : Ends) (σ : L2.St) (v : V) (H : Hp) : Prop := ∃ a, v = .ref a ∧ (∃ xs, SqT K H a xs) ∧ ∃ W : Nat → Nat → L2.St → Hp → Prop, (∃ m, W 0 m σ H) ∧ ∀ i m σ H, W i m σ H →
  ((Itt K a).stop i H ∧ D.nx σ H) ∨ ((Itt K a).go i H ∧ ∃ N : L2.St → Hp → Prop, (∀ σ' H', N σ' H' → ∃ m', m' < m ∧ W (i + 1) m' σ' H') ∧ ∀ x H', (Itt K a).yld i H x H' → G x σ H' fun σ2 H2 => ts { D with nx := N, ct := N, bk := D.nx } σ2 H2)
section
variable {K : PySem.W.Frag} {σ : L2.St} {H : Hp} {Q : VK} {D : Ends} {te tl : TE} {tt c : TT} {ts : TS} {G : TG} {tas : TA} {v : V} {vs : List Nat}
theorem r_forR1 (k : tas σ H fun vs H1 => ForR1 G ts D σ vs H1) : tFor (iRng1 tas) G ts D σ H := k
theorem r_forR2 (k : tas σ H fun vs H1 => ForR2 G ts D σ vs H1) : tFor (iRng2 tas) G ts D σ H := k
theorem r_forL (k : tl σ H fun x H1 => ForL K G ts D σ x H1) : tFor (iList K tl) G ts D σ H := k
theorem r_forT (k : tl σ H fun x H1 => ForT K G ts D σ x H1) : tFor (iTup K tl) G ts D σ H := k
theorem forR1_go {j : Int} (Pv : Nat → L2.St → Hp → Prop) (hb : -(2 ^ 62) ≤ j ∧ j < 2 ^ 62) (h0 : Pv 0 σ H)
    (hs : ∀ (i : Nat) σ' H', (i : Int) < j → Pv i σ' H' → G (.int i) σ' H' fun σ2 H2 => ts { D with nx := Pv (i + 1), ct := Pv (i + 1), bk := D.nx } σ2 H2) (hd : ∀ σ' H', Pv j.toNat σ' H' → D.nx σ' H') : ForR1 G ts D σ [.int j] H :=
  ⟨j, rfl, hb.1, hb.2, for_range (lo := 0) Pv h0 (fun i σ' H' hi p => by rw [Int.zero_add]; exact hs i σ' H' (by omega) p) hd⟩
theorem forR2_go {i j : Int} (Pv : Nat → L2.St → Hp → Prop) (hb : -(2 ^ 62) ≤ i ∧ i < 2 ^ 62 ∧ -(2 ^ 62) ≤ j ∧ j < 2 ^ 62) (h0 : Pv 0 σ H)
    (hs : ∀ (k : Nat) σ' H', i + (k : Int) < j → Pv k σ' H' → G (.int (i + k)) σ' H' fun σ2 H2 => ts { D with nx := Pv (k + 1), ct := Pv (k + 1), bk := D.nx } σ2 H2) (hd : ∀ σ' H', Pv (j - i).toNat σ' H' → D.nx σ' H') : ForR2 G ts D σ [.int i, .int j] H :=
  ⟨i, j, rfl, hb, for_range (lo := i) Pv h0 (fun k σ' H' hi p => hs k σ' H' (by omega) p) hd⟩
theorem forL_go {a : Addr} {xs : List V} (Pv : Nat → L2.St → Hp → Prop) (hx : SqL K H a xs) (h0 : Pv 0 σ H) (hl : ∀ i σ' H', i ≤ xs.length → Pv i σ' H' → SqL K H' a xs)
    (hs : ∀ i x σ' H', xs[i]? = some x → Pv i σ' H' → G x σ' H' fun σ2 H2 => ts { D with nx := Pv (i + 1), ct := Pv (i + 1), bk := D.nx } σ2 H2) (hd : ∀ σ' H', Pv xs.length σ' H' → D.nx σ' H') : ForL K G ts D σ (.ref a) H :=
  ⟨a, rfl, ⟨xs, hx⟩, for_list Pv h0 hl hs hd⟩
theorem forT_go {a : Addr} {xs : List V} (Pv : Nat → L2.St → Hp → Prop) (hx : SqT K H a xs) (h0 : Pv 0 σ H) (hl : ∀ i σ' H', i ≤ xs.length → Pv i σ' H' → SqT K H' a xs)
    (hs : ∀ i x σ' H', xs[i]? = some x → Pv i σ' H' → G x σ' H' fun σ2 H2 => ts { D with nx := Pv (i + 1), ct := Pv (i + 1), bk := D.nx } σ2 H2) (hd : ∀ σ' H', Pv xs.length σ' H' → D.nx σ' H') : ForT K G ts D σ (.ref a) H :=
  ⟨a, rfl, ⟨xs, hx⟩, for_tup Pv h0 hl hs hd⟩
theorem r_while (W : Nat → L2.St → Hp → Prop) {m0 : Nat} (h0 : W m0 σ H)
    (hs : ∀ m σ' H', W m σ' H' → c σ' H' fun b H1 => if b = true then ∃ N : L2.St → Hp → Prop, (∀ σ2 H2, N σ2 H2 → ∃ m', m' < m ∧ W m' σ2 H2) ∧ ts { D with nx := N, ct := N, bk := D.nx } σ' H1 else D.nx σ' H1) : tWhile c ts D σ H := ⟨W, ⟨m0, h0⟩, hs⟩
theorem r_turn {B : L2.St → Hp → Prop} {R : VK} {Bk : L2.St → Hp → Prop} (k : ts { nx := B, rt := R, bk := Bk, ct := B } σ H) :
    ∃ N : L2.St → Hp → Prop, (∀ σ2 H2, N σ2 H2 → B σ2 H2) ∧ ts { nx := N, rt := R, bk := Bk, ct := N } σ H := ⟨_, fun _ _ h => h, k⟩
end
/-! ### comprehensions -/
section
variable {K : PySem.W.Frag} {σ : L2.St} {H : Hp} {Q : VK} {te tl : TE} {tt : TT} {G : TG} {tas : TA} {v : V} {vs : List Nat} {QB : Bool → Hp → Prop}
def CompW (J : It) (G : TG) (tt : TT) (te : TE) (vs : List Nat) (σ : L2.St) (Q : VK) (H1 : Hp) : Prop := ∀ D, H1 D = none → ∃ W : Nat → Nat → Hp → Prop, (∃ m, W 0 m (upd H1 D (.lst []))) ∧ ∀ i m H, W i m H → (J.stop i H ∧ Q (.ref D) H) ∨ (J.go i H ∧ ∃ Nx : Hp → Prop, (∀ H', Nx H' → ∃ m', m' < m ∧ W (i + 1) m' H') ∧
  ∀ x H', J.yld i H x H' → G x (wipe σ vs) H' fun σ2 H2 => wipe σ2 vs = wipe σ vs ∧ tt σ2 H2 fun b H3 => if b = true then te σ2 H3 fun y H4 => ∃ acc, H4 D = some (.lst acc) ∧ acc.length < sizeLine ∧ Nx (upd H4 D (.lst (acc ++ [y]))) else Nx H3)
def CompR1 (G : TG) (tt : TT) (te : TE) (vs : List Nat) (σ : L2.St) (Q : VK) (us : List V) (H1 : Hp) : Prop := ∃ j : Int, us = [.int j] ∧ -(2 ^ 62) ≤ j ∧ j < 2 ^ 62 ∧ CompW (Itr 0 j.toNat) G tt te vs σ Q H1
def CompL (K : PySem.W.Frag) (G : TG) (tt : TT) (te : TE) (vs : List Nat) (σ : L2.St) (Q : VK) (x : V) (H1 : Hp) : Prop := ∃ a, x = .ref a ∧ (∃ xs, SqL K H1 a xs) ∧ CompW (Itl K a) G tt te vs σ Q H1
def CompT (K : PySem.W.Frag) (G : TG) (tt : TT) (te : TE) (vs : List Nat) (σ : L2.St) (Q : VK) (x : V) (H1 : Hp) : Prop := ∃ a, x = .ref a ∧ (∃ xs, SqT K H1 a xs) ∧ CompW (Itt K a) G tt te vs σ Q H1
theorem r_lcR1 (k : tas σ H fun us H1 => CompR1 G tt te vs σ Q us H1) : tLc (iRng1 tas) G tt te vs σ H Q := k
theorem r_lcL (k : tl σ H fun x H1 => CompL K G tt te vs σ Q x H1) : tLc (iList K tl) G tt te vs σ H Q := k
theorem r_lcT (k : tl σ H fun x H1 => CompT K G tt te vs σ Q x H1) : tLc (iTup K tl) G tt te vs σ H Q := k
theorem r_wipe {σ2 : L2.St} {R : Prop} (h : wipe σ2 vs = wipe σ vs) (k : R) : wipe σ2 vs = wipe σ vs ∧ R := ⟨h, k⟩
theorem r_gNameW {i : Nat} {σ' : L2.St} {Q : L2.St → Hp → Prop} (h : wipe σ vs = σ') (k : gName i v σ' H Q) : gName i v (wipe σ vs) H Q := by rw [h]; exact k
theorem r_yes (k : QB true H) : tYes σ H QB := k
/-- the reading of one item, told with the list so far: P of the turn's number, the items made, the heap -/
def CompTurn (G : TG) (tt : TT) (te : TE) (vs : List Nat) (σ : L2.St) (D : Addr) (Nx : List V → Hp → Prop) (acc : List V) (x : V) (H : Hp) : Prop :=
  G x (wipe σ vs) H fun σ2 H2 => wipe σ2 vs = wipe σ vs ∧ tt σ2 H2 fun b H3 => if b = true then te σ2 H3 fun y H4 => H4 D = some (.lst acc) ∧ acc.length < sizeLine ∧ Nx (acc ++ [y]) (upd H4 D (.lst (acc ++ [y]))) else Nx acc H3
theorem lcR1_go {j : Int} (Pv : Addr → Nat → List V → Hp → Prop) (hb : -(2 ^ 62) ≤ j ∧ j < 2 ^ 62) (h0 : ∀ D, H D = none → Pv D 0 [] (upd H D (.lst [])))
    (hs : ∀ D (i : Nat) acc H', (i : Int) < j → H' D = some (.lst acc) → Pv D i acc H' → G (.int i) (wipe σ vs) H' fun σ2 H2 => wipe σ2 vs = wipe σ vs ∧ tt σ2 H2 fun b H3 =>
      if b = true then te σ2 H3 fun y H4 => ∃ acc, H4 D = some (.lst acc) ∧ acc.length < sizeLine ∧ (∃ ac, (upd H4 D (.lst (acc ++ [y]))) D = some (.lst ac) ∧ Pv D (i + 1) ac (upd H4 D (.lst (acc ++ [y])))) else ∃ ac, H3 D = some (.lst ac) ∧ Pv D (i + 1) ac H3)
    (hd : ∀ D acc H', H D = none → H' D = some (.lst acc) → Pv D j.toNat acc H' → Q (.ref D) H') : CompR1 G tt te vs σ Q [.int j] H :=
  ⟨j, rfl, hb.1, hb.2, fun D hD => lc_range (lo := 0) (fun i H' => ∃ acc, H' D = some (.lst acc) ∧ Pv D i acc H') ⟨[], upd_same, h0 D hD⟩ (fun i H' hi ⟨acc, ha, p⟩ => by rw [Int.zero_add]; exact hs D i acc H' (by omega) ha p) fun H' ⟨acc, ha, p⟩ => hd D acc H' hD ha p⟩
theorem lcL_go {a : Addr} {xs : List V} (Pv : Addr → Nat → List V → Hp → Prop) (hx : SqL K H a xs) (h0 : ∀ D, H D = none → Pv D 0 [] (upd H D (.lst []))) (hl : ∀ D i acc H', i ≤ xs.length → Pv D i acc H' → SqL K H' a xs)
    (hs : ∀ D (i : Nat) x acc H', xs[i]? = some x → H' D = some (.lst acc) → Pv D i acc H' → G x (wipe σ vs) H' fun σ2 H2 => wipe σ2 vs = wipe σ vs ∧ tt σ2 H2 fun b H3 =>
      if b = true then te σ2 H3 fun y H4 => ∃ acc, H4 D = some (.lst acc) ∧ acc.length < sizeLine ∧ (∃ ac, (upd H4 D (.lst (acc ++ [y]))) D = some (.lst ac) ∧ Pv D (i + 1) ac (upd H4 D (.lst (acc ++ [y])))) else ∃ ac, H3 D = some (.lst ac) ∧ Pv D (i + 1) ac H3)
    (hd : ∀ D acc H', H D = none → H' D = some (.lst acc) → Pv D xs.length acc H' → Q (.ref D) H') : CompL K G tt te vs σ Q (.ref a) H :=
  ⟨a, rfl, ⟨xs, hx⟩, fun D hD => lc_list (xs := xs) (fun i H' => ∃ acc, H' D = some (.lst acc) ∧ Pv D i acc H') ⟨[], upd_same, h0 D hD⟩ (fun i H' hi ⟨acc, ha, p⟩ => hl D i acc H' hi p) (fun i x H' hi ⟨acc, ha, p⟩ => hs D i x acc H' hi ha p) fun H' ⟨acc, ha, p⟩ => hd D acc H' hD ha p⟩
theorem lcT_go {a : Addr} {xs : List V} (Pv : Addr → Nat → List V → Hp → Prop) (hx : SqT K H a xs) (h0 : ∀ D, H D = none → Pv D 0 [] (upd H D (.lst []))) (hl : ∀ D i acc H', i ≤ xs.length → Pv D i acc H' → SqT K H' a xs)
    (hs : ∀ D (i : Nat) x acc H', xs[i]? = some x → H' D = some (.lst acc) → Pv D i acc H' → G x (wipe σ vs) H' fun σ2 H2 => wipe σ2 vs = wipe σ vs ∧ tt σ2 H2 fun b H3 =>
      if b = true then te σ2 H3 fun y H4 => ∃ acc, H4 D = some (.lst acc) ∧ acc.length < sizeLine ∧ (∃ ac, (upd H4 D (.lst (acc ++ [y]))) D = some (.lst ac) ∧ Pv D (i + 1) ac (upd H4 D (.lst (acc ++ [y])))) else ∃ ac, H3 D = some (.lst ac) ∧ Pv D (i + 1) ac H3)
    (hd : ∀ D acc H', H D = none → H' D = some (.lst acc) → Pv D xs.length acc H' → Q (.ref D) H') : CompT K G tt te vs σ Q (.ref a) H :=
  ⟨a, rfl, ⟨xs, hx⟩, fun D hD => lc_tup (xs := xs) (fun i H' => ∃ acc, H' D = some (.lst acc) ∧ Pv D i acc H') ⟨[], upd_same, h0 D hD⟩ (fun i H' hi ⟨acc, ha, p⟩ => hl D i acc H' hi p) (fun i x H' hi ⟨acc, ha, p⟩ => hs D i x acc H' hi ha p) fun H' ⟨acc, ha, p⟩ => hd D acc H' hD ha p⟩
/-- an item is kept: behind te, the list is known -/
theorem lc_put {D : Addr} {acc : List V} {y : V} {P : List V → List V → Prop} {H4 : Hp} (h : H4 D = some (.lst acc)) (hz : acc.length < sizeLine) (k : P acc (acc ++ [y])) :
    ∃ acc, H4 D = some (.lst acc) ∧ acc.length < sizeLine ∧ (∃ ac, (upd H4 D (.lst (acc ++ [y]))) D = some (.lst ac) ∧ P acc ac) := ⟨acc, h, hz, _, upd_same, k⟩
end
/-! ### lists, displays -/
section
variable {K : PySem.W.Frag} {H : Hp} {Q : VK}
theorem Keep.out {M : List Addr} {H H' : Hp} {a : Addr} {o : HO} (h : Keep M H H') (n : a ∉ M) (e : H a = some o) : H' a = some o := h a o n e
theorem getD_all {p : Int → Prop} {P : List Int} {i : Nat} (h : ∀ x ∈ P, p x) (hi : i < P.length) : p (P.getD i 0) := by
  rw [List.getD_eq_getElem?_getD, List.getElem?_eq_getElem hi]; exact h _ (List.getElem_mem hi)
theorem r_slL {a : Addr} {xs : List V} {lo hi : Option Int} (h : SqL K H a xs) (k : ∀ p, H p = none → Q (.ref p) (upd H p (.lst (cutV xs lo hi)))) : rSlL K (.ref a) lo hi H Q := ⟨a, xs, rfl, h, k⟩
theorem r_cat {l b : Addr} {xs zs : List V} (h : H l = some (.lst xs)) (h2 : H b = some (.lst zs)) (hz : xs.length + zs.length ≤ sizeLine) (k : ∀ p, H p = none → Q (.ref p) (upd H p (.lst (xs ++ zs)))) : rCat (.ref l) (.ref b) H Q :=
  ⟨l, b, xs, zs, rfl, rfl, h, h2, hz, k⟩
theorem r_listL {p : Addr} {xs : List V} {F : List V → Prop} (h : SqL K H p xs) (k : F xs) : ∃ q ys, [V.ref p] = [.ref q] ∧ (SqL K H q ys ∨ SqT K H q ys) ∧ F ys := ⟨p, xs, rfl, .inl h, k⟩
theorem r_tPart {te : TE} {σ : L2.St} {QO : Option Int → Hp → Prop} (k : te σ H fun v H1 => ∃ i, v = .int i ∧ QO (some i) H1) : tPart te σ H QO := k
theorem r_noPart {σ : L2.St} {QO : Option Int → Hp → Prop} (k : QO none H) : tNoPart σ H QO := k
theorem r_gcd {a b : Int} (k : Q (.int ((Nat.gcd a.natAbs b.natAbs : Nat) : Int)) H) : rGcd [.int a, .int b] H Q := ⟨a, b, rfl, k⟩
theorem r_iteNT1 {A B : Prop} (k : B) : if (!true) = true then A else B := by rw [if_neg (by decide)]; exact k
theorem r_iteNF1 {A B : Prop} (k : A) : if (!false) = true then A else B := by rw [if_pos (by decide)]; exact k
theorem kit_ii : kitB "int" "int" = some true := by decide +kernel
theorem kit_ib : kitB "int" "bool" = some false := by decide +kernel
theorem kit_bi : kitB "bool" "int" = some true := by decide +kernel
theorem kit_bb : kitB "bool" "bool" = some true := by decide +kernel
theorem kit_tt : kitB "tuple" "tuple" = some true := by decide +kernel
theorem kit_ss : kitB "str" "str" = some true := by decide +kernel
theorem kit_ll : kitB "list" "list" = some true := by decide +kernel
theorem kit_dd : kitB "dict" "dict" = some true := by decide +kernel
theorem kit_nt : kitB "NoneType" "tuple" = some false := by decide +kernel
theorem kit_ni : kitB "NoneType" "int" = some false := by decide +kernel
theorem kit_is : kitB "int" "str" = some false := by decide +kernel
theorem kit_si : kitB "str" "int" = some false := by decide +kernel
theorem kit_it : kitB "int" "tuple" = some false := by decide +kernel
theorem mulw {i j : Int} (a b : Nat) (ha : i.natAbs < 2 ^ a) (hb : j.natAbs < 2 ^ b) (h0 : 0 < a := by decide) (h1 : 0 < b := by decide) (h : a + b ≤ 1000000 := by decide) : CMul i j ∨ CMulW i j := .inr (wide_mul ha hb h0 h1 h)
theorem r_callSD {sp : Sp} {dvs : List V} {E : L2.St → XK} {tas : TA} {σ : L2.St} (k : tas σ H fun vs H1 => sp (vs ++ dvs) H1 Q (E σ)) : tCallSD sp dvs E tas σ H Q := k
theorem exm_ZD {K : PySem.W.Frag} : PySem.W.exmOne K (.type "ZeroDivisionError") (.type "ZeroDivisionError") = some true := by kernel_rfl
theorem r_par {i j : Nat} {ta : TA} {D : Ends} {σ : L2.St} (k : ta σ H fun vs H1 => ∃ v w, vs = [v, w] ∧ gName i v σ H1 fun σ1 H2 => gName j w σ1 H2 D.nx) : tPar i j ta D σ H := k
theorem r_exP {x y : V} {F : V → V → Prop} (k : F x y) : ∃ v w, [x, y] = [v, w] ∧ F v w := ⟨x, y, rfl, k⟩
theorem r_bm {T : String} {r : V → List V → Hp → VK → Prop} {to : TE} {ta : TA} {σ : L2.St} (k : to σ H fun x H1 => tyV K T x H1 ∧ ta σ H1 fun xs H2 => r x xs H2 Q) : tBM K T r to ta σ H Q := k
theorem r_tyL {p : Addr} {xs : List V} {R : Prop} (h : SqL K H p xs) (k : R) : tyV K "list" (.ref p) H ∧ R := ⟨.inl ⟨rfl, xs, h⟩, k⟩
theorem r_app {l : Addr} {xs : List V} {y : V} (h : H l = some (.lst xs)) (hz : xs.length < sizeLine) (k : Q .non (upd H l (.lst (xs ++ [y])))) : rAppend (.ref l) [y] H Q := ⟨l, xs, y, rfl, rfl, h, hz, k⟩
theorem r_exI {i : Int} {F : Int → Prop} (k : F i) : ∃ j, V.int i = .int j ∧ F j := ⟨i, rfl, k⟩
end
theorem start_cc {n : Str} {N : List Str} {v : V} {vs : List V} : L2.start (n :: N) (v :: vs) = some v :: L2.start N vs := by
  unfold L2.start
  rw [List.map_cons, List.length_cons, List.length_cons, Nat.add_sub_add_right, List.cons_append]
theorem start_cn {n : Str} {N : List Str} : L2.start (n :: N) [] = none :: L2.start N [] := rfl
theorem start_nn : L2.start [] [] = [] := rfl
theorem atI_map {P : List Int} {i : Int} (h0 : 0 ≤ i) (h1 : i < P.length) : atI (P.map V.int) i = some (.int (P.getD i.toNat 0)) := by
  obtain ⟨n, rfl⟩ : ∃ n : Nat, i = n := ⟨i.toNat, by omega⟩
  refine atI_nat ?_
  have h2 : n < P.length := by omega
  rw [List.getElem?_map, List.getElem?_eq_getElem h2, Int.toNat_natCast, List.getD_eq_getElem?_getD, List.getElem?_eq_getElem h2]; rfl
theorem ixN_of {n : Nat} {i : Int} (h0 : 0 ≤ i) (h1 : i < n) : ixN n i = some i.toNat := by
  unfold ixN; rw [if_pos h0, if_pos h1]
/-- sizes of ints -/
theorem log2_of {i : Int} {n : Nat} (h : i.natAbs < 2 ^ n) (h0 : 0 < n) : i.natAbs.log2 < n := PySem.Flt.log2_lt_of h0 h
theorem log_ok {j : Int} (n : Nat) (h : j.natAbs < 2 ^ n) (h0 : 0 < n := by decide) (h9 : n ≤ 9000 := by decide) : j.natAbs.log2 < 9000 := Nat.lt_of_lt_of_le (log2_of h h0) h9
theorem cmulw {i j : Int} (a b : Nat) (ha : i.natAbs < 2 ^ a) (hb : j.natAbs < 2 ^ b) (h0 : 0 < a := by decide) (h1 : 0 < b := by decide) (h : a + b ≤ 1000000 := by decide) : CMulW i j := wide_mul ha hb h0 h1 h
/-! ### == of flat rows -/
def fdV : V → PyData
  | .bl b => .bool b
  | .int i => .int i
  | .str x => .str x
  | _ => .none
def flatV : V → Bool
  | .non => true
  | .bl _ => true
  | .int _ => true
  | .str x => PyData.canLay0 (.str x)
  | _ => false
theorem dp_flat {K : PySem.W.Frag} {H : Hp} : ∀ {v : V}, flatV v = true → Dp K H v (fdV v)
  | .non, _ => .non
  | .bl b, _ => .bl b
  | .int i, _ => .int i
  | .str x, _ => .str x
theorem dp_flats {K : PySem.W.Frag} {H : Hp} : ∀ {xs : List V}, xs.all flatV = true → DpAll K H xs (xs.map fdV)
  | [], _ => .nil
  | v :: xs, h => by
    rw [List.all_cons, Bool.and_eq_true] at h
    exact .cons (dp_flat h.1) (dp_flats h.2)
theorem flat_lay : ∀ {v : V}, flatV v = true → (fdV v).canLay0 = true ∧ (fdV v).depth = 0
  | .non, _ => by simp [fdV, PyData.canLay0, PyData.depth]
  | .bl b, _ => by simp [fdV, PyData.canLay0, PyData.depth]
  | .int i, _ => by simp [fdV, PyData.canLay0, PyData.depth]
  | .str x, h => ⟨h, by simp [fdV, PyData.depth]⟩
theorem flats_lay : ∀ {xs : List V}, xs.all flatV = true → PyData.canLayAll0 (xs.map fdV) = true ∧ PyData.depthAll (xs.map fdV) = 0
  | [], _ => by simp [PyData.canLayAll0, PyData.depthAll]
  | v :: xs, h => by
    rw [List.all_cons, Bool.and_eq_true] at h
    have a := flat_lay h.1
    have b := flats_lay h.2
    simp [PyData.canLayAll0, PyData.depthAll, a.1, a.2, b.1, b.2]
theorem shaped_flat {xs : List V} (h : xs.all flatV = true) : SeqAt.shaped (.list (xs.map fdV)) = true ∧ SeqAt.shaped (.tuple (xs.map fdV)) = true := by
  have b := flats_lay h
  constructor <;> simp [SeqAt.shaped, PyData.canLay0, PyData.depth, b.1, b.2]
theorem eqv_flat : ∀ {v : V}, flatV v = true → PyData.eqv (fdV v) (fdV v) = true
  | .non, _ => by simp [fdV, PyData.eqv]
  | .bl b, _ => by simp [fdV, PyData.eqv]
  | .int i, _ => by simp [fdV, PyData.eqv]
  | .str x, _ => by simp [fdV, PyData.eqv]
theorem eqv_flats : ∀ {xs : List V}, xs.all flatV = true → PyData.eqvAll (xs.map fdV) (xs.map fdV) = true
  | [], _ => by simp [PyData.eqvAll]
  | v :: xs, h => by
    rw [List.all_cons, Bool.and_eq_true] at h
    simp [PyData.eqvAll, eqv_flat h.1, eqv_flats h.2]
section
variable {K : PySem.W.Frag} {H : Hp} {Q : VK} {p q : Addr} {xs ys : List V} {b : Bool}
theorem eqvL {xs ys : List PyData} : PyData.eqv (.list xs) (.list ys) = PyData.eqvAll xs ys := by simp [PyData.eqv]
theorem eqvT {xs ys : List PyData} : PyData.eqv (.tuple xs) (.tuple ys) = PyData.eqvAll xs ys := by simp [PyData.eqv]
theorem r_eqL (hp : SqL K H p xs) (hq : SqL K H q ys) (fx : xs.all flatV = true) (fy : ys.all flatV = true) (hb : PyData.eqvAll (xs.map fdV) (ys.map fdV) = b) (k : Q (.bl b) H) : rEqD K (.ref p) (.ref q) H Q :=
  ⟨_, _, .lst hp (dp_flats fx), .lst hq (dp_flats fy), (shaped_flat fx).1, (shaped_flat fy).1, by rw [eqvL, hb]; exact k⟩
theorem r_eqT (hp : SqT K H p xs) (hq : SqT K H q ys) (fx : xs.all flatV = true) (fy : ys.all flatV = true) (hb : PyData.eqvAll (xs.map fdV) (ys.map fdV) = b) (k : Q (.bl b) H) : rEqD K (.ref p) (.ref q) H Q :=
  ⟨_, _, .tup hp (dp_flats fx), .tup hq (dp_flats fy), (shaped_flat fx).2, (shaped_flat fy).2, by rw [eqvT, hb]; exact k⟩
theorem r_neL (hp : SqL K H p xs) (hq : SqL K H q ys) (fx : xs.all flatV = true) (fy : ys.all flatV = true) (hb : PyData.eqvAll (xs.map fdV) (ys.map fdV) = b) (k : Q (.bl (!b)) H) : rNeD K (.ref p) (.ref q) H Q :=
  ⟨_, _, .lst hp (dp_flats fx), .lst hq (dp_flats fy), (shaped_flat fx).1, (shaped_flat fy).1, by rw [eqvL, hb]; exact k⟩
theorem r_neT (hp : SqT K H p xs) (hq : SqT K H q ys) (fx : xs.all flatV = true) (fy : ys.all flatV = true) (hb : PyData.eqvAll (xs.map fdV) (ys.map fdV) = b) (k : Q (.bl (!b)) H) : rNeD K (.ref p) (.ref q) H Q :=
  ⟨_, _, .tup hp (dp_flats fx), .tup hq (dp_flats fy), (shaped_flat fx).2, (shaped_flat fy).2, by rw [eqvT, hb]; exact k⟩
end
/-! ### rules whose reading names K, told for a context that hides it (a comprehension, an except suite) -/
section
variable {X : Cx} {K : PySem.W.Frag}
theorem ix_listK (hK : X.K = K) : IxR X (rIxL K) := by subst hK; exact ix_list
theorem ix_tupK (hK : X.K = K) : IxR X (rIxT K) := by subst hK; exact ix_tup
theorem op_in_seqK (hK : X.K = K) : OpR X (compareOp .In) (rIn K false) := by subst hK; exact op_in_seq
theorem op_notIn_seqK (hK : X.K = K) : OpR X (compareOp .NotIn) (rIn K true) := by subst hK; exact op_notIn_seq
theorem call_len_seqK (hK : X.K = K) : CallR X (.builtin "len") (fun xs H Q => ∃ p ys, xs = [.ref p] ∧ (SqL K H p ys ∨ SqT K H p ys) ∧ Q (.int ys.length) H) := by subst hK; exact call_len_seq
theorem call_isiK (hK : X.K = K) : CallR X (.builtin "isinstance") (rIsi K) := by subst hK; exact call_isi
end
section
variable {H : Hp}
def rIsN : R2 := fun x y H Q => y = .non ∧ Q (.bl (decide (x = .non))) H
def rNoN : R2 := fun x y H Q => y = .non ∧ Q (.bl (!decide (x = .non))) H
theorem op_isNc {X : Cx} : OpR X (compareOp .Is) rIsN := op_isN
theorem op_notNc {X : Cx} : OpR X (compareOp .IsNot) rNoN := op_notN
theorem r_isN {Q : VK} (k : Q (.bl true) H) : rIsN (V.non) .non H Q := ⟨rfl, by rw [decide_eq_true rfl]; exact k⟩
theorem r_noN {Q : VK} (k : Q (.bl false) H) : rNoN (V.non) .non H Q := ⟨rfl, by rw [decide_eq_true rfl]; exact k⟩
theorem r_isI {i : Int} {Q : VK} (k : Q (.bl false) H) : rIsN (.int i) .non H Q := ⟨rfl, by rw [decide_eq_false (fun e => by cases e)]; exact k⟩
theorem r_noI {i : Int} {Q : VK} (k : Q (.bl true) H) : rNoN (.int i) .non H Q := ⟨rfl, by rw [decide_eq_false (fun e => by cases e)]; exact k⟩
theorem r_isR {p : Addr} {Q : VK} (k : Q (.bl false) H) : rIsN (.ref p) .non H Q := ⟨rfl, by rw [decide_eq_false (fun e => by cases e)]; exact k⟩
theorem r_noR {p : Addr} {Q : VK} (k : Q (.bl true) H) : rNoN (.ref p) .non H Q := ⟨rfl, by rw [decide_eq_false (fun e => by cases e)]; exact k⟩
theorem r_isS {x : Str} {Q : VK} (k : Q (.bl false) H) : rIsN (.str x) .non H Q := ⟨rfl, by rw [decide_eq_false (fun e => by cases e)]; exact k⟩
theorem r_noS {x : Str} {Q : VK} (k : Q (.bl true) H) : rNoN (.str x) .non H Q := ⟨rfl, by rw [decide_eq_false (fun e => by cases e)]; exact k⟩
theorem r_isB {b : Bool} {Q : VK} (k : Q (.bl false) H) : rIsN (.bl b) .non H Q := ⟨rfl, by rw [decide_eq_false (fun e => by cases e)]; exact k⟩
theorem r_noB {b : Bool} {Q : VK} (k : Q (.bl true) H) : rNoN (.bl b) .non H Q := ⟨rfl, by rw [decide_eq_false (fun e => by cases e)]; exact k⟩
theorem r_inL {K : PySem.W.Frag} {x : V} {p : Addr} {xs : List V} {Q : VK} (h : SqL K H p xs) (fx : L2.flatV x = true) (fs : xs.all L2.flatV = true) (k : Q (.bl (inV x xs)) H) : rIn K false x (.ref p) H Q := ⟨p, xs, rfl, .inl h, fx, fs, by simpa using k⟩
theorem r_ninL {K : PySem.W.Frag} {x : V} {p : Addr} {xs : List V} {Q : VK} (h : SqL K H p xs) (fx : L2.flatV x = true) (fs : xs.all L2.flatV = true) (k : Q (.bl (!inV x xs)) H) : rIn K true x (.ref p) H Q := ⟨p, xs, rfl, .inl h, fx, fs, by simpa using k⟩
theorem r_iteTT {A B : Prop} (k : A) : if true = true then A else B := by rw [if_pos rfl]; exact k
theorem r_iteFF {A B : Prop} (k : B) : if false = true then A else B := by rw [if_neg (by decide)]; exact k
end
/-! ### an own error over ValueError (through own classes) whose __init__ says super().__init__(a text), then stores its arguments -/
namespace Er
open PySem.W PySem.Calls PySem.HandSPX
section
variable {prog : Program} {w : World} {A : Around} {E : Value → Shared → Prop} {s : Shared} {K : Frag} {mg : Str → Option Value} {base : Heap} {m : Str → Option Value}
/-- what the written part says of the class at C: its __init__ at fI, the cell of __class__ at cc, the code at cda -/
structure Txt (P : Program) (K : Frag) (mg : Str → Option Value) (C fI cc cda : Addr) : Prop where
  cls : ∃ nm q N bs bm sn sub ab col dd k0 k1 k2 k3 k5, K.lookup C = some (excClassObj nm q C N bs bm true sn sub ab col dd k0 k1 k2 k3 k5 "ValueError.__new__") ∧ refsVE bm = true
  sa : findIn K (.ref C) "__setattr__" = some (some (.builtin "object.__setattr__"))
  iC : findIn K (.ref C) "__init__" = some (some (.ref fI))
  tI : typeIn K (.ref fI) = some (.type "function")
  cell : ∃ cl cld csl, K.lookup cc = some ⟨cl, cld, .cell (some (.ref C)), csl⟩
  code : ∃ ccl cdd vs ccs tf, K.lookup cda = some ⟨ccl, cdd, .fields vs, ccs⟩ ∧ vs[2]? = some (.str P.main.file tf)
  sup : ks_superIn K C C "__init__" = some (some (.builtin "ValueError.__init__"))
  supB : subIn K (.ref C) (.type "ValueError") = some true
  self : mroIn K C (.ref C) = some true
  opq : nsIn K cStatics "thirdparty.any" = some none
  mS : mg "super" = none
  top : (P.main.scope.names.lookup ("super" : Str)).isSome = false
theorem clsIn_of {C N : Addr} {nm q : Str} {bs bm : List Value} {hd : Bool} {sn : List Str} {sub : List Value} {ab : Bool} {col : Option Bool} {dd : Option Addr} {k0 k1 k2 k3 k5 : Option Value} {nw : String}
    (hC : K.lookup C = some (excClassObj nm q C N bs bm hd sn sub ab col dd k0 k1 k2 k3 k5 nw)) :
    clsIn K C = some { name := nm, bases := bs, mro := .ref C :: bm, ns := N, qualname := q, hasDict := hd, slotNames := sn, subclasses := sub, abstract := ab, collection := col, hasDel := false } := by
  unfold clsIn; rw [hC] <;> rfl
theorem call_mw {u e t0 C N : Addr} {nm q : Str} {bs bm : List Value} {hdct : Bool} {sn : List Str} {sub : List Value} {ab : Bool} {col : Option Bool} {dd : Option Addr} {k0 k1 k2 k3 k5 : Option Value} {h : Heap} {g : Array GenState} {d : Drawn} {t : Nat} {os : OsState} {rest : List Value} {Q : Value → Shared → Prop}
    (hC : h.get? C = some (excClassObj nm q C N bs bm hdct sn sub ab col dd k0 k1 k2 k3 k5 "ValueError.__new__")) (he : h.get? e = some (excObj C t0 none .none)) (hu : h.get? u = some (kxs_mw "ValueError.__init__" e)) (hrest : rest.length ≤ sizeLine)
    (hq : ∀ h' t1, (∀ b o, b ≠ e → h.get? b = some o → h'.get? b = some o) → h'.get? e = some (excObj C t1 none .none) → Q .none ⟨h', g, d, t, os⟩) :
    wpAny (model prog w) A (call (.ref u) rest) Q E ⟨h, g, d, t, os⟩ := by
  refine wpAny_call (codeAny_of_tree ?_)
  show wpAny _ A.in1 (callAny (.ref u) ⟨rest, []⟩) _ _ _
  simp only [callAny]
  refine wpAny_bind (wpAny_load hu ?_)
  simp only [kxs_mw, show (Value.type "method-wrapper" == Value.type "method" || Value.type "method-wrapper" == Value.type "builtin_function_or_method" || Value.type "method-wrapper" == Value.type "method-wrapper") = true by decide, if_true]
  refine KFB.if_so (by decide) ?_
  refine wpAny_bind (check_bound_init F.excBase_ValueError.toExcCallFacts hC he rfl ?_)
  refine wpAny_bind (wpAny_pure (wpAny_pure ?_))
  refine ⟨plainId_quiet F.excBase_ValueError.init.plain _, codeAny_builtin F.excBase_ValueError.initEntry ?_⟩
  exact exc_init_tree (cls := .ref C) (t0 := t0) (dv := none) (c2 := .none) (c3 := .none) (b4 := .bool false) he hrest fun h' k e' _ => hq h' _ k e'
theorem super_stmt {pl : Sem Bool} {C fI cc cda L x t0 : Addr} {fd : FuncData} {oc : Value} {od : Option Addr} {osl : Array (Option Value)} {ar : Arg} {q : Str} {scope : Scope} {body : List Stmt} {msg : Expr} {p0 p1 p2 p3 p4 : Pos} {Q : Flow → Shared → Prop}
    (T : Txt prog K mg C fI cc cda) (Mo : Mod K mg base) (kb : ∀ b o, base.get? b = some o → s.heap.get? b = some o)
    (hf : K.lookup fI = some ⟨oc, od, .func fd, osl⟩) (hp : (fd.params.posonlyargs ++ fd.params.args).head? = some ar) (har : ar.arg = "self")
    (hks : scope.names.lookup ("super" : Str) = some .globalImplicit) (hkc : scope.names.lookup ("__class__" : Str) = some .free) (hka : scope.names.lookup ("self" : Str) = some .local) (hk : scope.kind = .function)
    (hns : s.heap.Ns L m) (hv : m "self" = some (.ref x)) (hx : s.heap.get? x = some (excO C t0))
    (hmsg : ∀ (s' : Shared) (Q' : Value → Shared → Prop), s'.heap.Ns L m → (∀ (z : Str) tk n, Q' (.str z tk) { s' with toks := n }) → wpAny (model prog w) A (eval msg (ksEnv q scope L fI (.ref cda) cc)) Q' E s')
    (hq : ∀ h' tk t1, (∀ b o, b ≠ x → s.heap.get? b = some o → h'.get? b = some o) → h'.get? x = some (excO C t1) → Q .next { s with heap := h', toks := tk })
    (hin : interactive (ksEnv q scope L fI (.ref cda) cc) = false := by rfl)
    (he : starEach [msg] (ksEnv q scope L fI (.ref cda) cc) = (false, eval msg (ksEnv q scope L fI (.ref cda) cc)) :: starEach [] (ksEnv q scope L fI (.ref cda) cc) := by rfl)
    (hsw : swapsWith (.Call (.Attribute (.Call (.Name "super" p0) [] [] p1) "__init__" p2) [msg] [] p3) none p4.line (ksEnv q scope L fI (.ref cda) cc) = pure false := by rfl)
    (hmc : eval (.Call (.Attribute (.Call (.Name "super" p0) [] [] p1) "__init__" p2) [msg] [] p3) (ksEnv q scope L fI (.ref cda) cc) = (do
      let ov ← attributeBase (.Call (.Name "super" p0) [] [] p1) "__init__" (ksEnv q scope L fI (.ref cda) cc) (eval (.Call (.Name "super" p0) [] [] p1) (ksEnv q scope L fI (.ref cda) cc))
      standAt p2.atName
      let (f, first) ← holding [ov] (getMethod ov "__init__" pl)
      callWith p3 f first (backTo p3 (starEach [msg] (ksEnv q scope L fI (.ref cda) cc))) []) := by rfl) :
    PySem.wpAt (model prog w) A (.func body (ksEnv q scope L fI (.ref cda) cc)) (exec (.Expr (.Call (.Attribute (.Call (.Name "super" p0) [] [] p1) "__init__" p2) [msg] [] p3) p4) (ksEnv q scope L fI (.ref cda) cc)) Q E s := by
  obtain ⟨nm, q0, N, bs, bm, sn, sub, ab, col, dd, k0, k1, k2, k3, k5, hC, hbm⟩ := T.cls
  obtain ⟨cl, cld, csl, hcell⟩ := T.cell
  obtain ⟨ccl, cdd, vs, ccs, tf, hcode, hvs⟩ := T.code
  obtain ⟨mb, hb1, hb2⟩ := Mo.blt
  have X : K.In s.heap := Mo.kin.keeps kb
  have hcl := clsIn_of hC
  have hss : alongIn K "__init__" (((Value.ref C :: bm).dropWhile (· != .ref C)).drop 1) = some (some (.builtin "ValueError.__init__")) := by
    have z := T.sup
    unfold ks_superIn at z
    rw [hcl] at z
    exact z
  have Ix : InstAt s.heap x (excO C t0) C none := ⟨hx, rfl, rfl, trivial⟩
  have hxC : x ≠ C := ks_ne X Ix hcl
  obtain ⟨hh, g, d, t, os⟩ := s
  refine ks_wpAt_Expr_any (ks_wpAt_MethodCall (pl := pl) ?_ hmc) hin hsw
  refine ks_wpAt_super_base (env := ksEnv q scope L fI (.ref cda) cc) hks hkc rfl rfl (X _ _ hf) rfl hp rfl (X _ _ hcode) rfl hvs (beq_self_eq_true _) T.top ?_
  refine ks_loadName_global hk hks (loadGlobal_builtin (env := ksEnv q scope L fI (.ref cda) cc) (Mo.glob.keeps kb) T.mS (hb1.keeps kb) ((hb2 _ (by decide)).trans (by decide +kernel : bootBuiltins "super" = some (.type "super"))) ⟨rfl, ?_⟩)
  refine wpAny_loadName_free hk hkc rfl ⟨_, X _ _ hcell, rfl⟩ ?_
  rw [har]
  refine wpAny_loadName_local hk hka hns hv ?_
  refine ks_wpAny_isType_cls (X _ _ hC) rfl ⟨rfl, ?_⟩
  refine ks_wpAny_call_super (X _ _ hC) rfl hx rfl (fun c e => by cases e) (looks_mroIn X T.self) (fun h1 e1 kk1 => ?_)
  have X1 : K.In h1 := X.keeps kk1
  have hx1 := kk1 _ _ hx
  have I1 : InstAt h1 x (excO C t0) C none := ⟨hx1, rfl, rfl, trivial⟩
  refine kxs_getMethod kxs_ValueError e1 (looks_opaque X1 T.opq) (l₀ := .ref C :: bm) (fun A Q E s k q => wpAny_bind ((looks_clsIn X1 hcl) A _ E s k (wpAny_pure q))) rfl X1 hss (I1.type.andThen (looks_subIn X1 T.supB)) hxC rfl ?_
  have hns1 : (h1.push (kxs_mw "ValueError.__init__" x)).Ns L m := hns.keeps fun b o e => Heap.get?_push_of_some _ (kk1 b o e)
  rw [he]
  refine kxs_callWith (i := "ValueError.__init__") (x := x) rfl (evalArgs_plain (Calls.spliced_cons (hmsg _ _ hns1 fun z tk n => Calls.spliced_nil ⟨?_, ?_⟩)))
  · exact Heap.get?_push_size _ rfl
  · refine call_mw (Heap.get?_push_of_some _ (X1 _ _ hC)) (Heap.get?_push_of_some _ hx1) (Heap.get?_push_size _ rfl) (show 1 ≤ sizeLine by decide) fun h' t1 k e => ?_
    exact hq h' _ t1 (fun b o hb ho => k b o hb (Heap.get?_push_of_some _ (kk1 b o ho))) e
end
/-! ### the text -/
def TxE (prog : Program) (w : World) (env : Env) (m : Str → Option Value) (e : Expr) : Prop := ∀ (A : Around) (E : Value → Shared → Prop) (s : Shared) (Q : Value → Shared → Prop), s.heap.Ns env.locals m →
  (∀ (z : Str) tk n, z.length ≤ 100000 → Q (.str z tk) { s with toks := n }) → wpAny (model prog w) A (eval e env) Q E s
/-- what {x!r} is written of -/
def MsgV (v : Value) : Prop := (∃ i t, v = .int i t ∧ i.natAbs.log2 < 1920) ∨ ∃ y t, v = .str y t ∧ (reprText y).length ≤ 100000 ∧ y.length ≤ 100000
section
variable {prog : Program} {w : World} {env : Env} {m : Str → Option Value}
theorem small_size {n : Nat} (h : n ≤ 100000) : n ≤ sizeLine := Nat.le_trans h (by decide)
theorem tx_const {z : Str} {k : Nat} {pos : Pos} (h : z.length ≤ 100000) : TxE prog w env m (.Constant (.str z) k pos) := fun A E s Q _ q => by
  rw [eval_Constant]
  exact wpAny_mkText (q z _ _ h)
theorem ld_name {A : Around} {E : Value → Shared → Prop} {s : Shared} {Q : Value → Shared → Prop} {x : Str} {p : Pos} {v : Value} (hn : s.heap.Ns env.locals m) (hv : m x = some v) (hk : env.scope.kind = .function) (hl : env.kindOf x = some .local) (h : Q v s) (hd : (x == ("__debug__" : Str)) = false := by decide) :
    wpAny (model prog w) A (eval (.Name x p) env) Q E s := wpAny_Name (wpAny_loadName_local hk hl hn hv h) hd
theorem tx_repr {x : Str} {p pos : Pos} {v : Value} (hv : m x = some v) (ok : MsgV v) (hk : env.scope.kind = .function) (hl : env.kindOf x = some .local) (hd : (x == ("__debug__" : Str)) = false := by decide) : TxE prog w env m (.FormattedValue (.Name x p) 114 none pos) := fun A E s Q hn q => by
  refine wpAny_FormattedValue_repr (ld_name hn hv hk hl ?_ hd)
  rcases ok with ⟨i, t, rfl, hz⟩ | ⟨y, t, rfl, hz, _⟩
  · have hl : (Str.ofString (toString i)).length ≤ 100000 := by
      have e := int_text_length_le (k := 1920) (by decide) hz
      rw [PySem.ofString_length]; omega
    exact pyReprObj_int hz (wpAny_formatField_str (q _ _ _ hl) (q _ _ _ hl) (small_size hl))
  · exact pyReprObj_str (wpAny_formatField_str (q _ _ _ hz) (q _ _ _ hz) (small_size hz)) (small_size hz)
theorem tx_plain {x : Str} {p pos : Pos} {v : Value} (hv : m x = some v) (ok : MsgV v) (hk : env.scope.kind = .function) (hl : env.kindOf x = some .local) (hd : (x == ("__debug__" : Str)) = false := by decide) : TxE prog w env m (.FormattedValue (.Name x p) (-1) none pos) := fun A E s Q hn q => by
  refine wpAny_FormattedValue_plain (ld_name hn hv hk hl ?_ hd)
  rcases ok with ⟨i, t, rfl, hz⟩ | ⟨y, t, rfl, _, hz⟩
  · have hl : (Str.ofString (toString i)).length ≤ 100000 := by
      have e := int_text_length_le (k := 1920) (by decide) hz
      rw [PySem.ofString_length]; omega
    exact wpAny_formatField_int hz (q _ _ _ hl)
  · exact wpAny_formatField_str (q y _ s.toks hz) (q _ _ _ hz) (small_size hz)
inductive TxP (prog : Program) (w : World) (env : Env) (m : Str → Option Value) : List Expr → Prop where
  | nil : TxP prog w env m []
  | cons {e : Expr} {es : List Expr} (h : TxE prog w env m e) (r : TxP prog w env m es) : TxP prog w env m (e :: es)
theorem txp_run {es : List Expr} (h : TxP prog w env m es) : ∀ (A : Around) (E : Value → Shared → Prop) (acc : Str) (s : Shared) (R : Str → Shared → Prop), acc.length + 100000 * es.length ≤ sizeLine → s.heap.Ns env.locals m →
    (∀ out n, out.length ≤ sizeLine → R out { s with toks := n }) → Joins (model prog w) A E (evalEach es env) acc R s := by
  induction h with
  | nil =>
    intro A E acc s R hz hn k
    have e0 : evalEach [] env = [] := by first | rfl | simp [evalEach]
    rw [e0]
    exact k acc s.toks (by simpa using hz)
  | @cons e es he r ih =>
    intro A E acc s R hz hn k
    have e0 : evalEach (e :: es) env = eval e env :: evalEach es env := by first | rfl | simp [evalEach]
    rw [e0]
    rw [List.length_cons] at hz
    refine he A E s _ hn fun z tk n hl => ⟨z, tk, rfl, ?_, ?_⟩
    · rw [Str.length_append]; omega
    · refine ih A E (acc ++ z) { s with toks := n } R (by rw [Str.length_append]; omega) hn fun out n' ho => ?_
      exact k out n' ho
theorem tx_joined {v1 v2 : Expr} {rest : List Expr} {pos : Pos} {A : Around} {E : Value → Shared → Prop} {s : Shared} {Q : Value → Shared → Prop} (h : TxP prog w env m (v1 :: v2 :: rest)) (hz : 100000 * (v1 :: v2 :: rest).length ≤ sizeLine) (hn : s.heap.Ns env.locals m)
    (q : ∀ (z : Str) tk n, Q (.str z tk) { s with toks := n }) : wpAny (model prog w) A (eval (.JoinedStr (v1 :: v2 :: rest) pos) env) Q E s :=
  wpAny_JoinedStr (txp_run h A E Str.empty s _ (by rw [show Str.empty.length = 0 from rfl, Nat.zero_add]; exact hz) hn fun out n ho => ⟨ho, q out _ _⟩)
end
/-! ### __init__ of one argument -/
/-- the text of def __init__(self, f): super().__init__(msg); self.f = f -/
structure Sh1 (prog : Program) (w : World) (st : Stmt) (f : Str) : Prop where
  body : ∃ (msg : Expr) (p0 p1 p2 p3 p4 q1 q2 q3 q4 : Pos) (pl : Sem Bool), defBody st = [.Expr (.Call (.Attribute (.Call (.Name "super" p0) [] [] p1) "__init__" p2) [msg] [] p3) p4, .Assign [.Attribute (.Name "self" q1) f q2] (.Name f q3) q4] ∧
    (∀ (q : Str) (L fI cda cc : Addr) (m : Str → Option Value) (v : Value) (A : Around) (E : Value → Shared → Prop) (s : Shared) (Q : Value → Shared → Prop), m f = some v → MsgV v → s.heap.Ns L m → (∀ (z : Str) tk n, Q (.str z tk) { s with toks := n }) →
      wpAny (model prog w) A (eval msg (ksEnv q (defScope st) L fI (.ref cda) cc)) Q E s) ∧
    (∀ (q : Str) (L fI cda cc : Addr), interactive (ksEnv q (defScope st) L fI (.ref cda) cc) = false ∧ starEach [msg] (ksEnv q (defScope st) L fI (.ref cda) cc) = (false, eval msg (ksEnv q (defScope st) L fI (.ref cda) cc)) :: starEach [] (ksEnv q (defScope st) L fI (.ref cda) cc) ∧
      swapsWith (.Call (.Attribute (.Call (.Name "super" p0) [] [] p1) "__init__" p2) [msg] [] p3) none p4.line (ksEnv q (defScope st) L fI (.ref cda) cc) = pure false ∧
      eval (.Call (.Attribute (.Call (.Name "super" p0) [] [] p1) "__init__" p2) [msg] [] p3) (ksEnv q (defScope st) L fI (.ref cda) cc) = (do
        let ov ← attributeBase (.Call (.Name "super" p0) [] [] p1) "__init__" (ksEnv q (defScope st) L fI (.ref cda) cc) (eval (.Call (.Name "super" p0) [] [] p1) (ksEnv q (defScope st) L fI (.ref cda) cc))
        standAt p2.atName
        let (f, first) ← holding [ov] (getMethod ov "__init__" pl)
        callWith p3 f first (backTo p3 (starEach [msg] (ksEnv q (defScope st) L fI (.ref cda) cc))) []) ∧
      swapsWith (.Name f q3) (some (.Attribute (.Name "self" q1) f q2)) q4.line (ksEnv q (defScope st) L fI (.ref cda) cc) = pure false)
  head : ∃ ar, ((defArgs st).posonlyargs ++ (defArgs st).args).head? = some ar ∧ ar.arg = "self"
  ks : (defScope st).names.lookup ("super" : Str) = some .globalImplicit
  kc : (defScope st).names.lookup ("__class__" : Str) = some .free
  ka : (defScope st).names.lookup ("self" : Str) = some .local
  kf : (defScope st).names.lookup f = some .local
  fd : (f == ("__debug__" : Str)) = false
  fs : (("self" : Str) == f) = false
  k : (defScope st).kind = .function
  co : (defScope st).isCoroutine = false
  gen : (defScope st).isGenerator = false
  nocell : ∀ x ∈ (defScope st).names, x.2 ≠ .cell
  binds : ∀ (s : Shared) (x : Addr) (v : Value) (qual : Str) (doc pm : Value) (an : Option Addr) (cda cc : Addr) (ct : Value), BindsTo s (ksFn "__init__" qual (defArgs st) (defBody st) (defScope st) .none .none doc pm an (.ref cda) ct cc) ⟨[.ref x, v], []⟩ [("self", .ref x), (f, v)]
/-- what __init__ leaves of a fresh exception at x -/
structure IEnd (h h' : Heap) (x C dx t1 : Addr) (mA : Str → Option Value) : Prop where
  keep : ∀ b o, b ≠ x → h.get? b = some o → h'.get? b = some o
  obj : h'.get? x = some { cls := .ref C, dict := some dx, data := .fields #[.ref t1, .none, .none, .none, .bool false, .none] }
  dbig : h.objs.size ≤ dx
  dne : dx ≠ x
  ns : h'.Ns1 dx mA
section
variable {prog : Program} {w : World} {A : Around} {E : Value → Shared → Prop} {R : Result → Shared → Prop} {s : Shared} {K : Frag} {mg : Str → Option Value} {base : Heap}
theorem init1 {C fI cc cda x t0 : Addr} {st : Stmt} {f qual : Str} {oc doc pm ct : Value} {od an : Option Addr} {osl : Array (Option Value)} {v : Value} (S : Sh1 prog w st f) (T : Txt prog K mg C fI cc cda) (Mo : Mod K mg base) (kb : ∀ b o, base.get? b = some o → s.heap.get? b = some o)
    (hf : K.lookup fI = some ⟨oc, od, .func (ksFn "__init__" qual (defArgs st) (defBody st) (defScope st) .none .none doc pm an (.ref cda) ct cc), osl⟩) (hcd : codeIn K (.ref cda) qual = true) (noN : findIn K (.ref C) f = some none)
    (hx : s.heap.get? x = some (excO C t0)) (hnx : K.lookup x = none) (hroom : A.depth < recursionLimit) (ok : MsgV v)
    (hq : ∀ h' tk dx t1, IEnd s.heap h' x C dx t1 (fun y => if y = f then some v else none) → R (.ok (.ret .none)) { s with heap := h', toks := tk }) :
    codeAny (model prog w) A (.call (.ref fI) ⟨[.ref x, v], []⟩) R s := by
  obtain ⟨msg, p0, p1, p2, p3, p4, q1, q2, q3, q4, pl, hb, hmsg, hev⟩ := S.body
  obtain ⟨ar, har, hself⟩ := S.head
  obtain ⟨nm, q0, N, bs, bm, sn, sub, ab, col, dd, k0, k1, k2, k3, k5, hC, hbm⟩ := T.cls
  have hcl := clsIn_of hC
  have X : K.In s.heap := Mo.kin.keeps kb
  refine ks_codeAny_call_defAt (fd := ksFn "__init__" qual (defArgs st) (defBody st) (defScope st) .none .none doc pm an (.ref cda) ct cc) (body := defBody st) (binds := [("self", .ref x), (f, v)]) hroom (X _ _ hf) rfl (Mo.nolimit.keeps kb) (codeRec_of X hcd) rfl (S.binds s x v qual doc pm an cda cc ct) S.nocell (fun y hy => ?_) (fun h1 hns k1 => ?_) S.co S.gen S.k
  · rcases List.mem_cons.mp hy with rfl | hy
    · exact S.ka
    · rw [List.mem_singleton.mp hy]; exact S.kf
  · have hx1 := k1 _ _ hx
    have kb1 : ∀ b o, base.get? b = some o → h1.get? b = some o := fun b o e => k1 b o (kb b o e)
    obtain ⟨e0, e1, e2, e3, e4⟩ := hev qual s.heap.objs.size fI cda cc
    have hv1 : (fun y => List.lookup y [(("self" : Str), Value.ref x), (f, v)].reverse) "self" = some (.ref x) := by
      show List.lookup ("self" : Str) ([(f, v), (("self" : Str), Value.ref x)] : List (Str × Value)) = _
      simp [List.lookup, S.fs]
    have hv2 : (fun y => List.lookup y [(("self" : Str), Value.ref x), (f, v)].reverse) f = some v := by
      show List.lookup f ([(f, v), (("self" : Str), Value.ref x)] : List (Str × Value)) = _
      simp [List.lookup]
    show PySem.wpAt (model prog w) (A.deeper (ksEnv qual (defScope st) s.heap.objs.size fI (.ref cda) cc)) (.func (defBody st) (ksEnv qual (defScope st) s.heap.objs.size fI (.ref cda) cc)) (execs (defBody st) (ksEnv qual (defScope st) s.heap.objs.size fI (.ref cda) cc)) _ _ _
    generalize hbb : defBody st = bb at hb ⊢
    rw [hb]
    refine ks_wpAt_execs_cons (super_stmt (pl := pl) T Mo kb1 hf har hself S.ks S.kc S.ka S.k hns hv1 hx1 (fun s' Q' hn q => hmsg _ _ _ _ _ _ v _ _ _ _ hv2 ok hn q) (fun h2 tk2 t1 k2 hx2 => ?_) e0 e1 e2 e3)
    refine wpAt_of_wpAny ?_
    have hL : s.heap.objs.size ≠ x := Nat.ne_of_gt (Heap.lt_size hx)
    obtain ⟨oL, es, ep, hoL, hr⟩ := hns
    have hns2 : h2.Ns s.heap.objs.size (fun y => List.lookup y [(("self" : Str), Value.ref x), (f, v)].reverse) := ⟨oL, es, ep, k2 _ _ hL hoL, hr⟩
    have X2 : K.In h2 := fun b o e => k2 b o (fun z => by rw [z, hnx] at e; cases e) (k1 b o (X _ _ e))
    refine wpAny_execs_cons (plainObj_wpAny_Assign_Attribute ?_ e4)
    refine ld_name (v := v) hns2 hv2 S.k S.kf (ld_name (v := .ref x) hns2 hv1 S.k S.ka ?_) S.fd
    refine set_plain X2 (ox := excO C t1) (od := none) ⟨hx2, rfl, rfl, trivial⟩ T.sa ?_
    refine PySem.HandSPX.exc_osa X2 hx2 hcl (show refsVE (.ref C :: bm) = true from hbm) rfl noN (fun h3 tk3 dx k3 dn dne hx3 hn3 => ?_)
    have z : s.heap.objs.size ≤ h2.objs.size := Nat.le_of_lt (Heap.lt_size (k2 _ _ hL hoL))
    exact wpAny_execs_nil (hq h3 _ dx t1 ⟨fun b o hb e => k3 b o hb (k2 b o hb (k1 b o e)), hx3, Nat.le_trans z dn, dne, hn3⟩)
/-- a made error: its own dict d holds the field -/
structure Made (h h' : Heap) (e C d : Addr) (mA : Str → Option Value) : Prop where
  keep : ∀ b o, h.get? b = some o → h'.get? b = some o
  new : h.objs.size ≤ e
  obj : ∃ oe vs, h'.get? e = some oe ∧ oe.cls = .ref C ∧ oe.dict = some d ∧ oe.data = .fields vs ∧ vs[1]? = some .none
  dbig : h.objs.size ≤ d
  dne : d ≠ e
  ns : h'.Ns1 d mA
/-- all that is told of an own error class of one argument -/
structure Cls1 (prog : Program) (w : World) (K : Frag) (mg : Str → Option Value) (cn f : Str) (C : Addr) : Prop where
  ex : ∃ (fI cc cda : Addr) (st : Stmt) (qual : Str) (oc doc pm ct : Value) (od an : Option Addr) (osl : Array (Option Value)), Sh1 prog w st f ∧ Txt prog K mg C fI cc cda ∧
    K.lookup fI = some ⟨oc, od, .func (ksFn "__init__" qual (defArgs st) (defBody st) (defScope st) .none .none doc pm an (.ref cda) ct cc), osl⟩ ∧ codeIn K (.ref cda) qual = true
  gC : mg cn = some (.ref C)
  kC : keepIn K (.ref C) = true
  noN : findIn K (.ref C) f = some none
  exC : subIn K (.ref C) (.type "BaseException") = some true
  tyC : typeIn K (.ref C) = some (.type "type")
theorem one_size (v : Value) : [v].length ≤ sizeLine := by
  rw [sizeLine_eq]
  exact (by decide : 1 ≤ 16777216)
theorem made1 {cn f : Str} {C : Addr} {v : Value} (Z : Cls1 prog w K mg cn f C) (Mo : Mod K mg base) (kb : ∀ b o, base.get? b = some o → s.heap.get? b = some o) (hroom : A.depth + 1 < recursionLimit) (ok : MsgV v)
    (hq : ∀ h' tk e d, Made s.heap h' e C d (fun y => if y = f then some v else none) → R (.ok (.ret (.ref e))) { s with heap := h', toks := tk }) :
    codeAny (model prog w) A (.call (.ref C) ⟨[v], []⟩) R s := by
  obtain ⟨fI, cc, cda, st, qual, oc, doc, pm, ct, od, an, osl, S, T, hf, hcd⟩ := Z.ex
  obtain ⟨nm, q, N, bs, bm, sn, sub, ab, col, dd, k0, k1, k2, k3, k5, hC, hbm⟩ := T.cls
  have X : K.In s.heap := Mo.kin.keeps kb
  obtain ⟨hp, g, dr, tk, os⟩ := s
  have k : ∀ b o, hp.get? b = some o → ((hp.push (kdv_tup [v])).push (excO C hp.objs.size)).get? b = some o := fun b o e => Heap.get?_push_of_some _ (Heap.get?_push_of_some _ e)
  have hget : ((hp.push (kdv_tup [v])).push (excO C hp.objs.size)).get? (hp.objs.size + 1) = some (excO C hp.objs.size) := by heap_get
  have hnx : K.lookup (hp.objs.size + 1) = none := by
    cases e : K.lookup (hp.objs.size + 1) with
    | none => rfl
    | some o =>
      have z : hp.get? (hp.objs.size + 1) = some o := X _ _ e
      exact absurd (Nat.lt_of_succ_lt (Heap.lt_size z)) (Nat.lt_irrefl _)
  refine PySem.HandSPX.call_own F.excBase_ValueError (fun X => PySem.HandSPX.refsVE_contains X bm hbm) (X _ _ hC) (looks_findIn X T.iC) (fun self => bind_fn X self T.tI) (one_size v) ?_
  refine init1 (s := ⟨(hp.push (kdv_tup [v])).push (excO C hp.objs.size), g, dr, tk, os⟩) S T Mo (fun b o e => k b o (kb b o e)) hf hcd Z.noN hget hnx ?_ ok fun h' tk' dx t1 ⟨k', hx, dn, dne, hns⟩ => ?_
  · show A.depth + 1 < recursionLimit
    exact hroom
  · have old : ∀ b o, hp.get? b = some o → h'.get? b = some o := fun b o e => k' b o (Nat.ne_of_lt (Nat.lt_succ_of_lt (Heap.lt_size e))) (k b o e)
    have z : hp.objs.size + 1 + 1 ≤ dx := by
      first
        | (simpa only [Heap.size_push] using dn)
        | exact dn
        | (have q := dn; rw [Heap.size_push, Heap.size_push] at q; exact q)
    exact ⟨rfl, hq h' tk' (hp.objs.size + 1) dx ⟨old, Nat.le_succ _, ⟨_, _, hx, rfl, rfl, rfl, rfl⟩, Nat.le_trans (Nat.le_trans (Nat.le_succ _) (Nat.le_succ _)) z, dne, hns⟩⟩
end
theorem relO_one {f : Str} {v : V} {v' : Value} (r : RelV v v') (g : Str) : RelO (List.lookup g [(f, v)]) (if g = f then some v' else none) := by
  by_cases hw : g = f
  · subst hw
    rw [if_pos rfl]
    have q : List.lookup g [(g, v)] = some v := by simp [List.lookup]
    rw [q]
    exact r
  · rw [if_neg hw]
    have qw : (g == f) = false := by simpa using hw
    have q2 : List.lookup g [(f, v)] = none := by simp [List.lookup, qw]
    rw [q2]
    trivial
/-- what may be written in the message: ints below 2 ^ 1920, short texts -/
def MsgA (v : V) : Prop := (∃ i, v = .int i ∧ i.natAbs.log2 < 1920) ∨ ∃ y, v = .str y ∧ (reprText y).length ≤ 100000 ∧ y.length ≤ 100000
theorem MsgA.v {v : V} {u : Value} (h : MsgA v) (r : RelV v u) : MsgV u := by
  rcases h with ⟨i, rfl, h⟩ | ⟨y, rfl, h⟩
  · obtain ⟨t, rfl⟩ := r; exact .inl ⟨i, t, rfl, h⟩
  · obtain ⟨t, rfl⟩ := r; exact .inr ⟨y, t, rfl, h⟩
section
variable {X : Cx} {C : Addr}
/-- the error of one argument, made -/
def tMk1 (C : Addr) (f : Str) (ta : TA) : L2.St → Hp → XK → Prop := fun σ H Q => ta σ H fun vs H1 => ∃ v, vs = [v] ∧ MsgA v ∧ ∀ d, H1 d = none → Q (.ref C) (some d) (upd H1 d (.xd [(f, v)]))
theorem pmk1 {cn f : Str} {a : Expr} {ta : TA} {p pos : Pos} {k : Nat} (Z : Cls1 X.prog X.w X.K X.mg cn f C) (hr : Room k X.A) (ha : PA X [a] ta) (hg : Gl X cn := by rfl) (hdb : (cn == ("__debug__" : Str)) = false := by decide)
    (he : starEach (a :: []) X.env = (false, eval a X.env) :: starEach [] X.env := by rfl) (hpl : (backTo pos (starEach [] X.env)).any (·.1) = false := by rfl) :
    PMk X (.Call (.Name cn p) [a] [] pos) (tMk1 C f ta) := by
  intro pins s σ H Q I h
  refine wpAny_Call_Name_kw (ld_glob I hg Z.gC ?_ hdb)
  refine PySem.W.callWith_K (h₀ := X.base) I.ok.mod.kin Z.kC (thn (ha.run pos pins s σ H _ I h) fun us s1 hh => ?_) he hpl
  obtain ⟨vs, H1, I1, r1, v, ev, hok, q1⟩ := hh
  subst ev
  refine ⟨I1.kIn, ?_⟩
  cases r1 with
  | cons rv rn =>
    rename_i v' us'
    cases rn
    show wpAny _ _ (call (.ref C) [v']) _ _ _
    have hbk := I1.bk
    obtain ⟨hp, g, dr, tk, os⟩ := s1
    refine wpAny_call (made1 Z I1.mod hbk (by have := hr.dp; omega) (hok.v rv) fun h' tk' e d M => ?_)
    show MkP X pins σ Q (.ref e) ⟨h', g, dr, tk', os⟩
    obtain ⟨oe, fv, hoe, hc, hd, hdat, h1⟩ := M.obj
    have hns := M.ns
    obtain ⟨G', g1, g2⟩ := restrict h' fun b => decide (b ≠ e)
    have gk : ∀ b, b ≠ e → G'.get? b = h'.get? b := fun b hb => g1 b (decide_eq_true hb)
    have ge : G'.get? e = none := g2 e (by simp)
    have old : ∀ b o, hp.get? b = some o → G'.get? b = some o := fun b o q => (gk b (Nat.ne_of_lt (Nat.lt_of_lt_of_le (Heap.lt_size q) M.new))).trans (M.keep b o q)
    have ob : ObjOk X.prog X.w (upd H1 d (.xd [(f, v)])) G' d (.xd [(f, v)]) :=
      ⟨_, hns.at (fun o q => (gk d M.dne).trans q), fun g => relO_one rv g⟩
    have J : Inv X pins σ (upd H1 d (.xd [(f, v)])) ⟨G', g, dr, tk', os⟩ := I1.laid (t' := tk') old M.dbig ob
    refine ⟨e, oe, fv, ⟨G', g, dr, tk', os⟩, _, .ref C, some d, rfl, J, fun b o q => ?_, ge, hoe, ⟨hc, hd⟩, hdat, h1, ?_, rfl, I1.bare, raises_own Z.exC Z.tyC, q1 d (I1.hok.fresh M.dbig)⟩
    · by_cases hb : b = e
      · have q' : G'.get? b = some o := q
        rw [hb, ge] at q'; cases q'
      · exact (gk b hb).symm.trans q
    · rw [upd_ne (Ne.symm M.dne)]
      exact I1.hok.fresh M.new
/-- raise C(e) -/
def tRaise1 (C : Addr) (f : Str) (W : WX) (ta : TA) : TS := fun _ σ H => tMk1 C f ta σ H fun cls d H' => W cls d σ H'
theorem ps_raise1 {cn f : Str} {a : Expr} {ta : TA} {W : WX} {p pos pos2 : Pos} {k : Nat} (hc : X.calm = true) (Z : Cls1 X.prog X.w X.K X.mg cn f C) (hr : Room k X.A) (tk : Takes X W) (ha : PA X [a] ta) (hg : Gl X cn := by rfl) (hdb : (cn == ("__debug__" : Str)) = false := by decide)
    (he : starEach (a :: []) X.env = (false, eval a X.env) :: starEach [] X.env := by rfl) (hpl : (backTo pos (starEach [] X.env)).any (·.1) = false := by rfl) :
    PS X (.Raise (some (.Call (.Name cn p) [a] [] pos)) none pos2) (tRaise1 C f W ta) := ps_raise hc tk (pmk1 Z hr ha hg hdb he hpl)
end
theorem r_raise1 {C : Addr} {f : Str} {W : WX} {ta : TA} {D : Ends} {σ : L2.St} {H : Hp} (k : ta σ H fun vs H1 => ∃ v, vs = [v] ∧ MsgA v ∧ ∀ d, H1 d = none → W (.ref C) (some d) σ (upd H1 d (.xd [(f, v)]))) : tRaise1 C f W ta D σ H := k
theorem r_msgI {i : Int} {F : V → Prop} (h : i.natAbs < 2 ^ 1000) (k : F (.int i)) : ∃ v, [V.int i] = [v] ∧ MsgA v ∧ F v := ⟨_, rfl, .inl ⟨i, rfl, Nat.lt_trans (log2_of h (by decide)) (by decide)⟩, k⟩
theorem r_msgS {y : Str} {F : V → Prop} (h : (reprText y).length ≤ 100000) (h2 : y.length ≤ 100000) (k : F (.str y)) : ∃ v, [V.str y] = [v] ∧ MsgA v ∧ F v := ⟨_, rfl, .inr ⟨y, rfl, h, h2⟩, k⟩
theorem r_xf {a C : Addr} {cls : Value} {d : Option Addr} {f : Str} {te : TE} {σ : L2.St} {H : Hp} {Q : VK}
    (k : te σ H fun x H1 => x = .ref a ∧ cls = .ref C ∧ ∃ (dd : Addr) (fs : List (Str × V)) (v : V), d = some dd ∧ H1 dd = some (.xd fs) ∧ fs.lookup f = some v ∧ Q v H1) : tXf a cls d C f te σ H Q := k
theorem r_xfE {a C dd : Addr} {f : Str} {H : Hp} {fs : List (Str × V)} {v : V} {Q : V → Prop} (hd : H dd = some (.xd fs)) (hv : fs.lookup f = some v) (k : Q v) :
    V.ref a = .ref a ∧ Value.ref C = .ref C ∧ ∃ (dd' : Addr) (fs : List (Str × V)) (v : V), some dd = some dd' ∧ H dd' = some (.xd fs) ∧ fs.lookup f = some v ∧ Q v := ⟨rfl, rfl, dd, fs, v, rfl, hd, hv, k⟩
theorem kit_self {K : PySem.W.Frag} {C : Addr} : PySem.W.kitOne K (.ref C) (.ref C) = some true := by
  unfold PySem.W.kitOne
  rw [if_pos (beq_self_eq_true _)]
theorem kit_refs {K : PySem.W.Frag} {C D : Addr} {b : Bool} (hdct : PySem.W.hasDictIn K D = true) (ht : PySem.W.typeIn K (.ref D) = some (.type "type")) (h4 : PySem.W.subIn K (.ref C) (.ref D) = some b) (hq : (Value.ref C == Value.ref D) = false) : PySem.W.kitOne K (.ref C) (.ref D) = some b := by
  obtain ⟨cd, hc, _⟩ := PySem.W.any_some hdct
  have e2 : ((PySem.W.clsIn K D).isSome && PySem.W.typeIn K (.ref D) == some (.type "type")) = true := by rw [hc, ht] <;> rfl
  unfold PySem.W.kitOne
  rw [if_neg (by rw [hq]; decide)]
  show (if ((PySem.W.clsIn K D).isSome && PySem.W.typeIn K (.ref D) == some (.type "type")) = true then PySem.W.subIn K (.ref C) (.ref D) else none) = some b
  rw [if_pos e2]
  exact h4
theorem kit_typ {K : PySem.W.Frag} {C : Addr} {T : String} {b : Bool} (hm : PySem.W.kitMeta T = true) (h4 : PySem.W.subIn K (.ref C) (.type T) = some b) : PySem.W.kitOne K (.ref C) (.type T) = some b := by
  unfold PySem.W.kitOne
  rw [if_neg (by show ¬ (Value.ref C == Value.type T) = true; intro z; cases (beq_iff_eq.mp z))]
  show (if PySem.W.kitMeta T = true then PySem.W.subIn K (.ref C) (.type T) else none) = some b
  rw [if_pos hm]
  exact h4
/-- the comparison within an except suite -/
theorem op_eqDK {X : Cx} {K : PySem.W.Frag} (hK : X.K = K) (hu : X.A.units + 64 < cLine) : OpR X (compareOp .Eq) (rEqD K) := by subst hK; exact op_eqD hu
theorem op_neDK {X : Cx} {K : PySem.W.Frag} (hK : X.K = K) (hu : X.A.units + 64 < cLine) : OpR X (compareOp .NotEq) (rNeD K) := by subst hK; exact op_neD hu
/-! ### isinstance(e, c), e a caught error of an own class with its dict -/
def rIsD (K : PySem.W.Frag) (a : Addr) (cls : Value) (d : Option Addr) : List V → Hp → VK → Prop := fun xs H Q => ∃ (D dd : Addr) (fs : List (Str × V)) (c : V) (cv : Value) (b : Bool), cls = .ref D ∧ d = some dd ∧ ExcC K D ∧ xs = [.ref a, c] ∧ H dd = some (.xd fs) ∧ (∀ u, RelV c u → u = cv) ∧ PySem.W.kitOne K (.ref D) cv = some b ∧ Q (.bl b) H
theorem call_isD {X : Cx} {a : Addr} {cls : Value} {d : Option Addr} {oe : Obj} {pn : List (Addr × Obj)} (hz : Zc cls d oe) (hf : ∃ vs, oe.data = .fields vs) : CallR (X.suite a ((a, oe) :: pn)) (.builtin "isinstance") (rIsD X.K a cls d) := by
  intro pins s σ H xs us Q I r h
  obtain ⟨D, dd, fs, c, cv, b, rfl, rfl, C, rfl, hdd, hcv, e, q⟩ := h
  cases r with
  | cons rx rr =>
    cases rr with
    | cons rt rr =>
      cases rr
      cases rx
      have ec := hcv _ rt
      subst ec
      obtain ⟨hget, _⟩ := I.pin (a, oe) (List.mem_append.mpr (.inl List.mem_cons_self))
      obtain ⟨vs, hv⟩ := hf
      have hx : ObjOk X.prog X.w H s.heap dd (.xd fs) := I.hok dd _ hdd
      obtain ⟨mA, ⟨od, es, ep, ho, hr⟩, hl⟩ := hx
      have J : PySem.W.InstAt s.heap a oe D (some od) := by
        refine ⟨hget, hz.1, by unfold PySem.W.notCls; rw [hv] <;> rfl, ?_⟩
        rw [hz.2]; exact ho
      obtain ⟨cd, hcd, _⟩ := PySem.W.any_some C.hd
      exact PySem.W.kia_one (PySem.W.kitx_exc (by rw [hcd]; rfl) C.hg C.hk C.hs C.ha C.hn C.ht C.hm) I.kIn J e (fun z => nomatch z) fun tk => ⟨.bl b, H, I.kept (t' := tk) fun _ _ z => z, rfl, q⟩
theorem r_isD {K : PySem.W.Frag} {a D dd : Addr} {fs : List (Str × V)} {c : V} {cv : Value} {b : Bool} {H : Hp} {Q : VK} (C : ExcC K D) (hd : H dd = some (.xd fs)) (hc : ∀ u, RelV c u → u = cv) (hk : PySem.W.kitOne K (.ref D) cv = some b) (k : Q (.bl b) H) :
    rIsD K a (.ref D) (some dd) [.ref a, c] H Q := ⟨D, dd, fs, c, cv, b, rfl, rfl, C, rfl, hd, hc, hk, k⟩
end Er
/-! ### operators of own classes, over the layer -/
namespace Ow
open PySem.W PySem.Calls
theorem inst_of {X : Cx} {pins : List (Addr × Obj)} {σ : L2.St} {H : Hp} {s : Shared} {a C dx : Addr} {fs : List (Str × V)} (I : Inv X pins σ H s) (h : H a = some (.ins C dx fs)) : ∃ ox od, InstAt s.heap a ox C od ∧ ox.data = .plain := by
  obtain ⟨mA, O, _⟩ := ins_get I.hok h
  obtain ⟨od, J, _⟩ := O.look
  exact ⟨_, _, J, rfl⟩
theorem not_ni {v : V} {u : Value} (r : RelV v u) : u ≠ .notImplemented := by
  rintro rfl
  cases v <;> first | (cases r; done) | (obtain ⟨t, e⟩ := r; cases e)
theorem cmpBack {X : Cx} {pins : List (Addr × Obj)} {σ : L2.St} {Q : VK} {u : Value} {s : Shared} (h : EP X pins σ Q u s) : PySem.W.CmpBack (EP X pins σ Q) u s := by
  obtain ⟨v, H', I, r, q⟩ := id h
  have n := not_ni r
  cases u <;> first | exact h | exact absurd rfl n
section
variable {X : Cx} {CX : CXT} {k : Nat} {C f : Addr} {sp : Sp} {E : XK}
/-- the callee, with values -/
theorem run_own {pins : List (Addr × Obj)} {σ : L2.St} {H : Hp} {s : Shared} {Q : VK} {us : List Value} {vs : List V} (F : FnR X.prog X.w X.K X.mg X.base CX k f sp) (hr : Room k X.A) (hx : Passes CX X E) (I : Inv X pins σ H s) (r : Vals vs us) (h : sp vs H Q E) :
    wpAny (model X.prog X.w) X.A (call (.ref f) us) (EP X pins σ Q) X.xe s := wpAny_call (run_fnR F hr hx I r h)
/-- x op y, both of the class C -/
def rOwn2 (C : Addr) (sp : Sp) (E : XK) : R2 := fun x y H Q => ∃ a dx fs b dy gs, x = .ref a ∧ y = .ref b ∧ H a = some (.ins C dx fs) ∧ H b = some (.ins C dy gs) ∧ sp [x, y] H Q E
theorem op_own2 {op : Operator} {m : Str} (sf : selfFirst X.K C = true) (M : Meth X.K C m f) (F : FnR X.prog X.w X.K X.mg X.base CX k f sp) (hr : Room k X.A) (hx : Passes CX X E) (hm : PySem.dunder op.info.2 = m := by rfl) : OpR X (binaryOp op) (rOwn2 C sp E) := by
  intro pins s σ H x y v u Q I rx ry h
  obtain ⟨a, dx, fs, b, dy, gs, rfl, rfl, ha, hb, q⟩ := h
  obtain rfl : v = Value.ref a := rx
  obtain rfl : u = Value.ref b := ry
  obtain ⟨ox, od, J, _⟩ := inst_of I ha
  obtain ⟨oy, od', J', _⟩ := inst_of I hb
  obtain ⟨mm, Fm⟩ := I.fr
  refine binop_K Fm I.ok.mod.kin J J'.type sf (by rw [hm]; exact M.at_) M.fn ?_
  exact wpAny_mono (run_own (vs := [.ref a, .ref b]) F hr hx I (.cons rfl (.cons rfl .nil)) q) (fun _ _ z => cmpBack z) fun _ _ e => e
/-- x op n, x of the class C, n an int -/
def rOwnI (C : Addr) (sp : Sp) (E : XK) : R2 := fun x y H Q => ∃ a dx fs n, x = .ref a ∧ y = .int n ∧ H a = some (.ins C dx fs) ∧ sp [x, y] H Q E
theorem op_ownI {op : Operator} {m mr : Str} {fo ro rc : Option Value} (sf : selfFirst X.K C = true) (M : Meth X.K C m f) (F : FnR X.prog X.w X.K X.mg X.base CX k f sp) (hr : Room k X.A) (hx : Passes CX X E)
    (hrc : findIn X.K (.ref C) mr = some rc) (hp : rc = none ∨ ∃ g : Addr, rc = some (.ref g)) (h1 : findIn X.K (.type "int") m = some fo) (h2 : findIn X.K (.type "int") mr = some ro) (hs : subIn X.K (.type "int") (.ref C) = some false)
    (hm : PySem.dunder op.info.2 = m := by rfl) (hmr : dunderR op.info.2 = mr := by rfl) : OpR X (binaryOp op) (rOwnI C sp E) := by
  intro pins s σ H x y v u Q I rx ry h
  obtain ⟨a, dx, fs, n, rfl, rfl, ha, q⟩ := h
  obtain rfl : v = Value.ref a := rx
  obtain ⟨t, rfl⟩ := ry
  obtain ⟨ox, od, J, _⟩ := inst_of I ha
  obtain ⟨mm, Fm⟩ := I.fr
  subst hm hmr
  refine ksp_binT Fm I.ok.mod.kin J (T := "int") rfl sf M.at_ M.fn hrc hp h1 h2 hs ?_
  exact wpAny_mono (run_own (vs := [.ref a, .int n]) F hr hx I (.cons rfl (.cons ⟨t, rfl⟩ .nil)) q) (fun _ _ z => cmpBack z) fun _ _ e => e
/-- -x -/
def rOwn1 (C : Addr) (sp : Sp) (E : XK) : V → Hp → VK → Prop := fun x H Q => ∃ a dx fs, x = .ref a ∧ H a = some (.ins C dx fs) ∧ sp [x] H Q E
theorem un_ownNeg (M : Meth X.K C "__neg__" f) (F : FnR X.prog X.w X.K X.mg X.base CX k f sp) (hr : Room k X.A) (hx : Passes CX X E) : UnR X (unaryOp .USub) (rOwn1 C sp E) := by
  intro pins s σ H x v Q I rx h
  obtain ⟨a, dx, fs, rfl, ha, q⟩ := h
  obtain rfl : v = Value.ref a := rx
  obtain ⟨ox, od, J, _⟩ := inst_of I ha
  obtain ⟨mm, Fm⟩ := I.fr
  exact ksp_neg Fm I.ok.mod.kin J M.at_ M.fn (run_own (vs := [.ref a]) F hr hx I (.cons rfl .nil) q)
/-- x == y, both of the class C -/
theorem op_ownEq {op : CmpOp} {m : Str} (M : Meth X.K C m f) (F : FnR X.prog X.w X.K X.mg X.base CX k f sp) (hr : Room k X.A) (hx : Passes CX X E) (hu : X.A.units < cLine) (hm : (cmpInfo op).2.1 = m := by rfl)
    (ho : ∀ a b, compareOp op a b = richCompare op a b := by intro _ _; rfl) : OpR X (compareOp op) (rOwn2 C sp E) := by
  intro pins s σ H x y v u Q I rx ry h
  obtain ⟨a, dx, fs, b, dy, gs, rfl, rfl, ha, hb, q⟩ := h
  obtain rfl : v = Value.ref a := rx
  obtain rfl : u = Value.ref b := ry
  obtain ⟨ox, od, J, _⟩ := inst_of I ha
  obtain ⟨oy, od', J', _⟩ := inst_of I hb
  obtain ⟨mm, Fm⟩ := I.fr
  rw [ho]
  refine cmp_K hu Fm I.ok.mod.kin J J'.type (by unfold notFirst; rw [beq_self_eq_true]; rfl) (by rw [hm]; exact M.at_) M.fn ?_
  exact wpAny_mono (run_own (vs := [.ref a, .ref b]) F hr hx I (.cons rfl (.cons rfl .nil)) q) (fun _ _ z => cmpBack z) fun _ _ e => e
end
section
open PySem.Builtin
theorem int_mul_own (a : Int) (t : Tok) (x C dx : Addr) :
    Meets (Builtin.«int.__mul__» ⟨[.int a t, .ref x], []⟩) (fun _ R s => s.heap.get? x = some (PySem.W.instObj C dx) ∧ R (.ok (.ret Value.notImplemented)) s) :=
  .of_wp fun prog w A R s ⟨hl, h⟩ => by
    obtain ⟨hp, g, d, tk, os⟩ := s
    wp_walk
    exact ⟨_, rfl, h⟩
theorem decl_gen {prog : Program} {w : World} {A : Around} {E : Value → Shared → Prop} {s : Shared} {self other : Value} {T id : String} {name : Str} {B : Builtin} {Q : Option Value → Shared → Prop} (hT : s.TypeIs self T) (h : Slot T name id) (entry : entryFor table id = some B)
    (args : argsOk id ⟨[self, other], []⟩) (hm : wpAny (model prog w) A.in1 (B ⟨[self, other], []⟩) (GQ.FinOf prog w A (wants (fun v s' => v = Value.notImplemented ∧ Q none s') E)) (fun e s' => wants (fun v s' => v = Value.notImplemented ∧ Q none s') E (.error e) s') s) :
    wpAny (model prog w) A (tryMethod self name other) Q E s := by
  refine wpAny_tryMethod_declines hT h ?_
  exact GQ.call_here h hT entry args hm
theorem int_declines {prog : Program} {w : World} {A : Around} {E : Value → Shared → Prop} {s : Shared} {x C dx : Addr} {i : Int} {t : Tok} {Q : Option Value → Shared → Prop} (hx : s.heap.get? x = some (instObj C dx)) (q : Q none s) :
    wpAny (model prog w) A (tryMethod (.int i t) (PySem.dunder "mul") (.ref x)) Q E s := by
  have h1 := @decl_gen prog w A E s (.int i t) (.ref x) "int" "int.__mul__" (PySem.dunder "mul") Builtin.«int.__mul__» Q
  have h2 := h1 (typeIs_int _ _ _) 
  have h3 := h2 PySem.F.slot_int_mul
  have h4 := h3 PySem.F.entry_int_mul 
  have h5 := h4 (PySem.F.args_int_mul_2 _ _)
  refine h5 ?_
  exact (int_mul_own i t x C dx prog w A (wants (fun v s' => v = Value.notImplemented ∧ Q none s') E) s ⟨hx, rfl, q⟩)
section
variable {prog : Program} {w : World} {A : Around} {E : Value → Shared → Prop} {s : Shared} {K : Frag} {x C dx f : Addr} {od : Obj}
theorem int_own {i : Int} {t : Tok} {g : Addr} {Q : Value → Shared → Prop} (X : K.In s.heap) (I : InstAt s.heap x (instObj C dx) C (some od)) (hc : selfFirst K C = true) (hm : findIn K (.ref C) "__mul__" = some (some (.ref g)))
    (hs : findIn K (.ref C) "__rmul__" = some (some (.ref f))) (hf : isFn K (.ref f) = true) (hsub : subIn K (.ref C) (.type "int") = some false) (h : wpAny (model prog w) A (call (.ref f) [.ref x, .int i t]) (PySem.W.CmpBack Q) E s) :
    wpAny (model prog w) A (binaryOp .Mult (.int i t) (.ref x)) Q E s := by
  obtain ⟨cd, rest, hcd, hmro⟩ := ksp_first hc
  have one := ksp_try (name := "__rmul__") X I hs hf h
  have L1 : Looks (model prog w) s.heap (typeOf (.int i t)) (.type "int") := Looks.of_pure rfl
  have L2 : Looks (model prog w) s.heap (typeOf (.ref x)) (.ref C) := I.type
  obtain ⟨hh, g', d, tt, os⟩ := s
  have L3 : Looks (model prog w) hh (fillsNumberSlot (.type "int") "mul") true := Looks.of_pure PySem.F.fills_int_mul
  have L4 : Looks (model prog w) hh (fillsNumberSlot (.ref C) "mul") true := fills_K X hcd hmro hm
  have L5 : Looks (model prog w) hh (isSubtype (.ref C) (.type "int")) false := looks_subIn X hsub
  have L7 : Looks (model prog w) hh (numberSlotInPython (.type "int") "mul") false := Looks.of_pure rfl
  have hne : (Value.type "int" == Value.ref C) = false := Bool.eq_false_iff.mpr fun q => by cases beq_iff_eq.mp q
  unfold binaryOp binaryOp1
  refine wpAny_holding (wpAny_bind ?_)
  refine wpAny_bind (L1.at (wpAny_bind (L2.at (wpAny_bind (L3.at ?_)))))
  simp only [hne, Bool.false_eq_true, if_false]
  ksp_lk
  refine int_declines I.at_ ?_
  ksp_lk
  refine wpAny_mono one (fun r s' hr' => ?_) fun _ _ e => e
  obtain ⟨v, rfl, hq⟩ := hr'
  ksp_lk
  exact hq
end
end
section
variable {X : Cx} {CX : CXT} {k : Nat} {C f : Addr} {sp : Sp} {E : XK}
/-- n * x, n an int, x of the class C: the reflected method -/
def rIntOwn (C : Addr) (sp : Sp) (E : XK) : R2 := fun x y H Q => ∃ b dx fs n, x = .int n ∧ y = .ref b ∧ H b = some (.ins C dx fs) ∧ sp [y, x] H Q E
theorem op_intMul {g : Addr} (sf : selfFirst X.K C = true) (M0 : Meth X.K C "__mul__" g) (M : Meth X.K C "__rmul__" f) (hs : subIn X.K (.ref C) (.type "int") = some false) (F : FnR X.prog X.w X.K X.mg X.base CX k f sp) (hr : Room k X.A) (hx : Passes CX X E) : OpR X (binaryOp .Mult) (rIntOwn C sp E) := by
  intro pins s σ H x y v u Q I rx ry h
  obtain ⟨b, dx, fs, n, rfl, rfl, hb, q⟩ := h
  obtain ⟨t, rfl⟩ := rx
  obtain rfl : u = Value.ref b := ry
  obtain ⟨mA, O, _⟩ := ins_get I.hok hb
  obtain ⟨od, J, _⟩ := O.look
  exact int_own I.kIn J sf M0.at_ M.at_ M.fn hs (wpAny_mono (run_own (vs := [.ref b, .int n]) F hr hx I (.cons rfl (.cons ⟨t, rfl⟩ .nil)) q) (fun _ _ z => cmpBack z) fun _ _ e => e)
/-- str(x), x of the class C -/
def rStrOwn (C : Addr) (sp : Sp) (E : XK) : List V → Hp → VK → Prop := fun xs H Q => ∃ a dx fs, xs = [.ref a] ∧ H a = some (.ins C dx fs) ∧ sp [.ref a] H (fun v H' => ∃ z, v = .str z ∧ Q v H') E
theorem call_strOwn (M : Meth X.K C "__str__" f) (F : FnR X.prog X.w X.K X.mg X.base CX k f sp) (hr : Room (k + 2) X.A) (hx : Passes CX X E) : CallR X (.type "str") (rStrOwn C sp E) := by
  intro pins s σ H xs us Q I r h
  obtain ⟨a, dx, fs, rfl, ha, q⟩ := h
  obtain ⟨u, rfl, ru⟩ := r.one
  obtain rfl : u = Value.ref a := ru
  obtain ⟨ox, od, J, _⟩ := inst_of I ha
  have hr2 : Room k X.A.in1.in1 := (show Room (k + 1) X.A.in1 from Room.in1 hr).in1
  refine kso_call hr2.units0 I.kIn J M.at_ M.fn (wpAny_mono (wpAny_call (SlX.run_at (us := [.ref a]) (ws := [.ref a]) F hr2 I.env0.in1.in1 hx I (.cons rfl .nil) q)) (fun u' s' z => ?_) fun _ _ x => x)
  obtain ⟨z', H', I', rz, y, ey, qz⟩ := z
  subst ey
  obtain ⟨t, e⟩ := (show ∃ t, u' = Value.str y t from rz)
  subst e
  exact ⟨.str y, H', I', ⟨t, rfl⟩, qz⟩
/-- x.f, read -/
def rFld (K : Frag) (f : Str) : V → Hp → VK → Prop := fun x H Q => ∃ a C dx fs v, x = .ref a ∧ H a = some (.ins C dx fs) ∧ Cls K C ∧ NoAttr K C f ∧ fs.lookup f = some v ∧ Q v H
theorem r_fld {K : Frag} {ta : TE} {f : Str} {σ : L2.St} {H : Hp} {Q : VK} (k : ta σ H fun x H1 => rFld K f x H1 Q) : tFld K ta f σ H Q := k
theorem r_fldAt {K : Frag} {f : Str} {H : Hp} {Q : VK} {a C dx : Addr} {fs : List (Str × V)} {v : V} (h : H a = some (.ins C dx fs)) (c : Cls K C) (n : NoAttr K C f) (l : fs.lookup f = some v) (k : Q v H) : rFld K f (.ref a) H Q := ⟨a, C, dx, fs, v, rfl, h, c, n, l, k⟩
/-- x.f = v -/
def rSFld (K : Frag) (f : Str) : V → V → Hp → (Hp → Prop) → Prop := fun x y H Q => ∃ a C dx fs, x = .ref a ∧ H a = some (.ins C dx fs) ∧ Cls K C ∧ NoAttr K C f ∧ fs.length < 1000 ∧ Q (upd H a (.ins C dx (putF f y fs)))
theorem r_sfld {K : Frag} {ta tv : TE} {f : Str} {D : Ends} {σ : L2.St} {H : Hp} (k : tv σ H fun y H1 => ta σ H1 fun x H2 => rSFld K f x y H2 fun H3 => D.nx σ H3) : sFld K ta tv f D σ H := k
theorem r_sfldAt {K : Frag} {f : Str} {H : Hp} {y : V} {Q : Hp → Prop} {a C dx : Addr} {fs : List (Str × V)} (h : H a = some (.ins C dx fs)) (c : Cls K C) (n : NoAttr K C f) (l : fs.length < 1000) (k : Q (upd H a (.ins C dx (putF f y fs)))) : rSFld K f (.ref a) y H Q := ⟨a, C, dx, fs, rfl, h, c, n, l, k⟩
/-- C(..) -/
theorem r_make {C : Addr} {sp : Sp} {dvs : List V} {E : XK} {t : TA} {σ : L2.St} {H : Hp} {Q : VK} (k : t σ H fun vs H1 => ∀ x dx, H1 x = none → H1 dx = none → dx ≠ x → sp (.ref x :: (vs ++ dvs)) (upd (upd H1 dx (.own x)) x (.ins C dx [])) (fun v H2 => v = .non ∧ Q (.ref x) H2) E) : tMake C sp dvs E t σ H Q := k
/-- x.m(..) -/
def rMeth (C : Addr) (m : Str) (R : V → Hp → Prop) : V → Hp → Prop := fun x H => ∃ a dx fs, x = .ref a ∧ H a = some (.ins C dx fs) ∧ fs.lookup m = none ∧ R x H
theorem r_meth {C : Addr} {m : Str} {sp : Sp} {dvs : List V} {E : XK} {ta : TE} {t : TA} {σ : L2.St} {H : Hp} {Q : VK} (k : ta σ H fun x H1 => rMeth C m (fun x H1 => t σ H1 fun vs H2 => sp (x :: (vs ++ dvs)) H2 Q E) x H1) : tMeth C m sp dvs E ta t σ H Q := k
theorem r_methAt {C a dx : Addr} {m : Str} {fs : List (Str × V)} {R : V → Hp → Prop} {H : Hp} (h : H a = some (.ins C dx fs)) (l : fs.lookup m = none) (k : R (.ref a) H) : rMeth C m R (.ref a) H := ⟨a, dx, fs, rfl, h, l, k⟩
/-- the operators -/
theorem r_own2 {C a b dx dy : Addr} {fs gs : List (Str × V)} {sp : Sp} {E : XK} {H : Hp} {Q : VK} (ha : H a = some (.ins C dx fs)) (hb : H b = some (.ins C dy gs)) (k : sp [.ref a, .ref b] H Q E) : rOwn2 C sp E (.ref a) (.ref b) H Q := ⟨a, dx, fs, b, dy, gs, rfl, rfl, ha, hb, k⟩
theorem r_ownI {C a dx : Addr} {n : Int} {fs : List (Str × V)} {sp : Sp} {E : XK} {H : Hp} {Q : VK} (ha : H a = some (.ins C dx fs)) (k : sp [.ref a, .int n] H Q E) : rOwnI C sp E (.ref a) (.int n) H Q := ⟨a, dx, fs, n, rfl, rfl, ha, k⟩
theorem r_own1 {C a dx : Addr} {fs : List (Str × V)} {sp : Sp} {E : XK} {H : Hp} {Q : VK} (ha : H a = some (.ins C dx fs)) (k : sp [.ref a] H Q E) : rOwn1 C sp E (.ref a) H Q := ⟨a, dx, fs, rfl, ha, k⟩
theorem r_len_str {x : Str} {F : Str → Prop} (k : x.length ≤ sizeLine ∧ F x) : ∃ y, [V.str x] = [.str y] ∧ y.length ≤ sizeLine ∧ F y := ⟨x, rfl, k.1, k.2⟩
/-- what is told of an own class -/
structure OC (K : Frag) (C : Addr) : Prop where
  cl : Cls K C
  sf : selfFirst K C = true
  ca : findIn K (.ref C) "__class__" = some (some (.builtin "object.__class__"))
  cn : specialIn K (.builtin "object.__class__") "__get__" = some (some (.builtin "getset_descriptor.__get__"))
  ct : takesIn K (.builtin "object.__class__") = some true
  cm : mroIn K C (.type "object") = some true
theorem OC.ty {K : Frag} {C a dx : Addr} {H : Hp} {fs : List (Str × V)} (o : OC K C) (h : H a = some (.ins C dx fs)) : TyX K H (.ref a) (.ref C) := .base (.ins h o.cl o.ca o.cn o.ct o.cm)
theorem r_isiOwn {K : Frag} {C a dx : Addr} {H : Hp} {fs : List (Str × V)} {Q : VK} (o : OC K C) (h : H a = some (.ins C dx fs)) (k : Q (.bl true) H) : rIsi K [.ref a, .ref C] H Q := ⟨_, _, _, _, true, rfl, .own C, o.ty h, Er.kit_self, k⟩
theorem r_isiNot {K : Frag} {C a dx : Addr} {T : String} {H : Hp} {fs : List (Str × V)} {Q : VK} (o : OC K C) (h : H a = some (.ins C dx fs)) (hm : kitMeta T = true) (hs : subIn K (.ref C) (.type T) = some false) (k : Q (.bl false) H) : rIsi K [.ref a, .ty T] H Q :=
  ⟨_, _, _, _, false, rfl, .ty T, o.ty h, Er.kit_typ hm hs, k⟩
end
theorem r_intOwn {C b dx : Addr} {n : Int} {fs : List (Str × V)} {sp : Sp} {E : XK} {H : Hp} {Q : VK} (hb : H b = some (.ins C dx fs)) (k : sp [.ref b, .int n] H Q E) : rIntOwn C sp E (.int n) (.ref b) H Q := ⟨b, dx, fs, n, rfl, rfl, hb, k⟩
theorem r_strOwn {C a dx : Addr} {fs : List (Str × V)} {sp : Sp} {E : XK} {H : Hp} {Q : VK} (ha : H a = some (.ins C dx fs)) (k : sp [.ref a] H (fun v H' => ∃ z, v = .str z ∧ Q v H') E) : rStrOwn C sp E [.ref a] H Q := ⟨a, dx, fs, rfl, ha, k⟩
end Ow
namespace Fm
open PySem PySem.Spec PyProof.Rows L2
/-! ### the order of texts -/
theorem lt_irr : ∀ a : List Nat, ltCps a a = false
  | [] => rfl
  | a :: r => by simp [ltCps, lt_irr r]
theorem lt_tr : ∀ {a b c : List Nat}, ltCps a b = true → ltCps b c = true → ltCps a c = true
  | [], [], _, h, _ => by simp [ltCps] at h
  | [], _ :: _, [], _, h => by simp [ltCps] at h
  | [], _ :: _, _ :: _, _, _ => by simp [ltCps]
  | _ :: _, [], _, h, _ => by simp [ltCps] at h
  | _ :: _, _ :: _, [], _, h => by simp [ltCps] at h
  | x :: a, y :: b, z :: c, h, k => by
    simp only [ltCps, Bool.or_eq_true, decide_eq_true_eq, Bool.and_eq_true, beq_iff_eq] at h k ⊢
    rcases h with h | ⟨rfl, h⟩ <;> rcases k with k | ⟨rfl, k⟩
    · exact .inl (Nat.lt_trans h k)
    · exact .inl h
    · exact .inl k
    · exact .inr ⟨rfl, lt_tr h k⟩
theorem lt_tri : ∀ a b : List Nat, a = b ∨ ltCps a b = true ∨ ltCps b a = true
  | [], [] => .inl rfl
  | [], _ :: _ => .inr (.inl rfl)
  | _ :: _, [] => .inr (.inr rfl)
  | x :: a, y :: b => by
    simp only [ltCps, Bool.or_eq_true, decide_eq_true_eq, Bool.and_eq_true, beq_iff_eq]
    rcases Nat.lt_trichotomy x y with h | rfl | h
    · exact .inr (.inl (.inl h))
    · rcases lt_tri a b with rfl | h | h
      · exact .inl rfl
      · exact .inr (.inl (.inr ⟨rfl, h⟩))
      · exact .inr (.inr (.inr ⟨rfl, h⟩))
    · exact .inr (.inr (.inl h))
def Lt (x y : Str) : Prop := ltCps x.cps.toList y.cps.toList = true
theorem Lt.irr {x : Str} (h : Lt x x) : False := by unfold Lt at h; rw [lt_irr] at h; cases h
theorem Lt.tr {x y z : Str} (h : Lt x y) (k : Lt y z) : Lt x z := lt_tr h k
theorem str_ext {x y : Str} (h : x.cps.toList = y.cps.toList) : x = y := by
  cases x; cases y; simp only [Str.mk.injEq]; exact Array.ext' h
theorem Lt.tri (x y : Str) : x = y ∨ Lt x y ∨ Lt y x := (lt_tri x.cps.toList y.cps.toList).imp str_ext id
/-- a sorted row without repetition ascends -/
theorem asc_of_rising : ∀ {l : List Str} {p : Str}, risingS p l = true → (p :: l).Nodup → (p :: l).Pairwise Lt
  | [], _, _, _ => by simp
  | x :: r, p, h, n => by
    have h' : ltCps x.cps.toList p.cps.toList = false ∧ risingS x r = true := by simpa [risingS] using h
    have n' : p ≠ x ∧ (x :: r).Nodup := ⟨fun e => by rw [e] at n; simp at n, (List.nodup_cons.mp n).2⟩
    have ih := asc_of_rising h'.2 n'.2
    have hp : Lt p x := by
      rcases Lt.tri p x with e | e | e
      · exact absurd e n'.1
      · exact e
      · unfold Lt at e; rw [h'.1] at e; cases e
    refine List.pairwise_cons.mpr ⟨fun y hy => ?_, ih⟩
    rcases List.mem_cons.mp hy with rfl | hy
    · exact hp
    · exact hp.tr (List.rel_of_pairwise_cons ih hy)
theorem asc_of_sorted : ∀ {l : List Str}, sortedS l = true → l.Nodup → l.Pairwise Lt
  | [], _, _ => .nil
  | _ :: _, h, n => asc_of_rising h n
/-! ### weights of names -/
abbrev Tm := Str × Int
/-- the weight of a name -/
def wt (ts : List Tm) (x : Str) : Int := ((ts.filter fun p => decide (p.1 = x)).map (·.2)).sum
theorem wt_nil {x : Str} : wt [] x = 0 := rfl
theorem wt_cons {p : Tm} {ts : List Tm} {x : Str} : wt (p :: ts) x = (if p.1 = x then p.2 else 0) + wt ts x := by
  unfold wt
  by_cases h : p.1 = x
  · rw [List.filter_cons_of_pos (by simpa using h), if_pos h]; simp
  · rw [List.filter_cons_of_neg (by simpa using h), if_neg h]; simp
theorem wt_append {x : Str} : ∀ {ts us : List Tm}, wt (ts ++ us) x = wt ts x + wt us x
  | [], us => by rw [List.nil_append, wt_nil, Int.zero_add]
  | p :: ts, us => by rw [List.cons_append, wt_cons, wt_cons, wt_append, Int.add_assoc]
theorem wt_none {x : Str} : ∀ {ts : List Tm}, (∀ p ∈ ts, p.1 ≠ x) → wt ts x = 0
  | [], _ => rfl
  | p :: ts, h => by rw [wt_cons, if_neg (h p (by simp)), wt_none fun q hq => h q (by simp [hq])]; rfl
/-- all weights times k -/
def scl (k : Int) (ts : List Tm) : List Tm := ts.map fun p => (p.1, k * p.2)
theorem wt_scl {k : Int} {x : Str} : ∀ {ts : List Tm}, wt (scl k ts) x = k * wt ts x
  | [] => by simp [scl, wt]
  | p :: ts => by
    show wt ((p.1, k * p.2) :: scl k ts) x = _
    rw [wt_cons, wt_cons, wt_scl, Int.mul_add]
    by_cases h : p.1 = x
    · rw [if_pos h, if_pos h]
    · rw [if_neg h, if_neg h, Int.mul_zero]
def dropN (x : Str) (ts : List Tm) : List Tm := ts.filter fun p => decide (p.1 ≠ x)
theorem wt_drop {x z : Str} : ∀ {ts : List Tm}, wt (dropN x ts) z = if z = x then 0 else wt ts z
  | [] => by simp [dropN, wt]
  | p :: ts => by
    unfold dropN
    by_cases h : p.1 = x
    · rw [List.filter_cons_of_neg (by simpa using h)]
      show wt (dropN x ts) z = _
      rw [wt_drop, wt_cons]
      by_cases hz : z = x
      · rw [if_pos hz, if_pos hz]
      · rw [if_neg hz, if_neg hz, if_neg (fun e => hz (e.symm.trans h)), Int.zero_add]
    · rw [List.filter_cons_of_pos (by simpa using h), wt_cons]
      show _ + wt (dropN x ts) z = _
      rw [wt_drop, wt_cons]
      by_cases hz : z = x
      · rw [if_pos hz, if_pos hz, if_neg (fun e => h (e.trans hz))]; rfl
      · rw [if_neg hz, if_neg hz]
/-- terms as a form has them -/
structure Canon (ts : List Tm) : Prop where
  asc : (ts.map (·.1)).Pairwise Lt
  nz : ∀ p ∈ ts, p.2 ≠ 0
theorem Canon.nil : Canon [] := ⟨by simp, by simp⟩
theorem Canon.tail {p : Tm} {ts : List Tm} (c : Canon (p :: ts)) : Canon ts := ⟨(List.pairwise_cons.mp c.asc).2, fun q hq => c.nz q (by simp [hq])⟩
theorem Canon.lt {p : Tm} {ts : List Tm} (c : Canon (p :: ts)) {q : Tm} (h : q ∈ ts) : Lt p.1 q.1 := (List.pairwise_cons.mp c.asc).1 q.1 (List.mem_map_of_mem h)
theorem Canon.head {p : Tm} {ts : List Tm} (c : Canon (p :: ts)) : wt (p :: ts) p.1 = p.2 := by
  rw [wt_cons, if_pos rfl, wt_none fun q hq e => ?_, Int.add_zero]
  exact (e ▸ c.lt hq).irr
theorem canon_eq : ∀ {ts us : List Tm}, Canon ts → Canon us → (∀ x, wt ts x = wt us x) → ts = us
  | [], [], _, _, _ => rfl
  | [], q :: us, _, d, h => by
    have := h q.1; rw [d.head, wt_nil] at this
    exact absurd this.symm (d.nz q (by simp))
  | p :: ts, [], c, _, h => by
    have := h p.1; rw [c.head, wt_nil] at this
    exact absurd this (c.nz p (by simp))
  | p :: ts, q :: us, c, d, h => by
    have e : p.1 = q.1 := by
      rcases Lt.tri p.1 q.1 with e | e | e
      · exact e
      · have := h p.1
        rw [c.head, wt_none (ts := q :: us) fun r hr z => ?_] at this
        · exact absurd this (c.nz p (by simp))
        · rcases List.mem_cons.mp hr with rfl | hr
          · exact (z ▸ e).irr
          · exact (z ▸ e.tr (d.lt hr)).irr
      · have := h q.1
        rw [d.head, wt_none (ts := p :: ts) fun r hr z => ?_] at this
        · exact absurd this.symm (d.nz q (by simp))
        · rcases List.mem_cons.mp hr with rfl | hr
          · exact (z ▸ e).irr
          · exact (z ▸ e.tr (c.lt hr)).irr
    have e2 : p.2 = q.2 := by rw [← c.head, ← d.head, h, e]
    have ep : p = q := Prod.ext e e2
    subst ep
    rw [canon_eq c.tail d.tail fun x => ?_]
    have := h x
    rw [wt_cons, wt_cons] at this
    omega
/-! ### what is linear in the weights -/
def lin (ts : List Tm) (L : Str → Int) : Int := (ts.map fun p => p.2 * L p.1).sum
theorem lin_nil {L : Str → Int} : lin [] L = 0 := rfl
theorem lin_cons {p : Tm} {ts : List Tm} {L : Str → Int} : lin (p :: ts) L = p.2 * L p.1 + lin ts L := by simp [lin]
theorem lin_append {L : Str → Int} : ∀ {ts us : List Tm}, lin (ts ++ us) L = lin ts L + lin us L
  | [], us => by simp [lin]
  | p :: ts, us => by rw [List.cons_append, lin_cons, lin_cons, lin_append, Int.add_assoc]
theorem lin_scl {k : Int} {L : Str → Int} : ∀ {ts : List Tm}, lin (scl k ts) L = k * lin ts L
  | [] => by simp [scl, lin]
  | p :: ts => by
    show lin ((p.1, k * p.2) :: scl k ts) L = _
    rw [lin_cons, lin_cons, lin_scl, Int.mul_add, Int.mul_assoc]
theorem lin_drop {x : Str} {L : Str → Int} : ∀ {ts : List Tm}, lin ts L = wt ts x * L x + lin (dropN x ts) L
  | [] => by simp [dropN, lin, wt]
  | p :: ts => by
    unfold dropN
    rw [lin_cons, wt_cons, lin_drop (x := x) (ts := ts)]
    by_cases h : p.1 = x
    · rw [List.filter_cons_of_neg (by simpa using h), if_pos h, Int.add_mul, h, Int.add_assoc]; rfl
    · rw [List.filter_cons_of_pos (by simpa using h), if_neg h, lin_cons, Int.zero_add]
      show _ = _ + (_ + lin (dropN x ts) L)
      omega
theorem lin_zero {L : Str → Int} : ∀ (n : Nat) {ts : List Tm}, ts.length ≤ n → (∀ x, wt ts x = 0) → lin ts L = 0
  | _, [], _, _ => rfl
  | 0, _ :: _, h, _ => by simp at h
  | n + 1, p :: ts, h, hz => by
    have l : (dropN p.1 (p :: ts)).length ≤ n := by
      unfold dropN
      rw [List.filter_cons_of_neg (by simp)]
      have := List.length_filter_le (fun q : Tm => decide (q.1 ≠ p.1)) ts
      simp at h; omega
    rw [lin_drop (x := p.1), hz, Int.zero_mul, Int.zero_add]
    refine lin_zero n l fun x => ?_
    rw [wt_drop, hz]; split <;> rfl
theorem lin_of_wt {ts us : List Tm} {L : Str → Int} (h : ∀ x, wt ts x = wt us x) : lin ts L = lin us L := by
  have := lin_zero (L := L) _ (ts := ts ++ scl (-1) us) (Nat.le_refl _) fun x => by rw [wt_append, wt_scl, h]; omega
  rw [lin_append, lin_scl] at this
  omega
/-! ### values in a world: a top and a bottom -/
abbrev Wd := Str → Int × Int
def accV (W : Wd) : List Tm → Int × Int → Int × Int
  | [], s => s
  | p :: ts, s => accV W ts (s.1 * (W p.1).2 + p.2 * (W p.1).1 * s.2, s.2 * (W p.1).2)
theorem acc_lin {W : Wd} {L : Str → Int} {M : Int} : ∀ {ts : List Tm} {s : Int × Int} {S : Int}, (∀ p ∈ ts, (W p.1).1 * M = L p.1 * (W p.1).2) → s.1 * M = s.2 * S → (accV W ts s).1 * M = (accV W ts s).2 * (S + lin ts L)
  | [], s, S, _, h => by rw [lin_nil, Int.add_zero]; exact h
  | p :: ts, s, S, hL, h => by
    have := acc_lin (ts := ts) (s := (s.1 * (W p.1).2 + p.2 * (W p.1).1 * s.2, s.2 * (W p.1).2)) (S := S + p.2 * L p.1) (fun q hq => hL q (by simp [hq])) (by
      have e := hL p (by simp)
      show (s.1 * (W p.1).2 + p.2 * (W p.1).1 * s.2) * M = s.2 * (W p.1).2 * (S + p.2 * L p.1)
      have e1 : s.1 * (W p.1).2 * M = s.2 * (W p.1).2 * S := by
        rw [Int.mul_right_comm, h, Int.mul_right_comm]
      have e2 : p.2 * (W p.1).1 * s.2 * M = s.2 * (W p.1).2 * (p.2 * L p.1) := by
        calc p.2 * (W p.1).1 * s.2 * M = p.2 * s.2 * ((W p.1).1 * M) := by ac_rfl
          _ = p.2 * s.2 * (L p.1 * (W p.1).2) := by rw [e]
          _ = s.2 * (W p.1).2 * (p.2 * L p.1) := by ac_rfl
      rw [Int.add_mul, Int.mul_add, e1, e2])
    rw [lin_cons, ← Int.add_assoc]
    exact this
theorem acc_pos {W : Wd} : ∀ {ts : List Tm} {s : Int × Int}, (∀ p ∈ ts, 0 < (W p.1).2) → 0 < s.2 → 0 < (accV W ts s).2
  | [], _, _, h => h
  | p :: ts, s, hw, h => acc_pos (s := (s.1 * (W p.1).2 + p.2 * (W p.1).1 * s.2, s.2 * (W p.1).2)) (fun q hq => hw q (by simp [hq])) (Int.mul_pos h (hw p (by simp)))
/-- a common bottom -/
theorem common (W : Wd) : ∀ xs : List Str, (∀ x ∈ xs, 0 < (W x).2) → ∃ (M : Int) (L : Str → Int), 0 < M ∧ ∀ x ∈ xs, (W x).1 * M = L x * (W x).2
  | [], _ => ⟨1, fun _ => 0, by decide, by simp⟩
  | x :: xs, h => by
    obtain ⟨M, L, hM, hL⟩ := common W xs fun y hy => h y (by simp [hy])
    refine ⟨M * (W x).2, fun y => if y = x then (W x).1 * M else L y * (W x).2, Int.mul_pos hM (h x (by simp)), fun y hy => ?_⟩
    by_cases e : y = x
    · subst e; simp only [if_true]; ac_rfl
    · have hy' : y ∈ xs := (List.mem_cons.mp hy).resolve_left e
      simp only [if_neg e]
      rw [← Int.mul_assoc, hL y hy']; ac_rfl
/-- the world in which x has another level -/
def moved (W : Wd) (x : Str) (v : Int × Int) : Wd := fun y => if y = x then v else W y
/-- a form put in the place of a quantity has the value that the form has where the quantity has its value -/
theorem put_value {W : Wd} {x : Str} {ts gs us : List Tm} {c cg : Int} {v : Int × Int}
    (hts : ∀ p ∈ ts, p.1 ≠ x → 0 < (W p.1).2) (hgs : ∀ p ∈ gs, 0 < (W p.1).2) (hus : ∀ p ∈ us, 0 < (W p.1).2)
    (hw : ∀ y, wt us y = wt (dropN x ts ++ scl (wt ts x) gs) y) (hv : v.1 * (accV W gs (cg, 1)).2 = (accV W gs (cg, 1)).1 * v.2) (hv0 : 0 < v.2) :
    (accV W us (c + wt ts x * cg, 1)).1 * (accV (moved W x v) ts (c, 1)).2 = (accV (moved W x v) ts (c, 1)).1 * (accV W us (c + wt ts x * cg, 1)).2 := by
  obtain ⟨M, L, hM, hL⟩ := common W ((ts.filter fun p => decide (p.1 ≠ x)).map (·.1) ++ gs.map (·.1) ++ us.map (·.1)) (by
    intro y hy
    simp only [List.mem_append, List.mem_map, List.mem_filter, decide_eq_true_eq] at hy
    rcases hy with (⟨p, ⟨h1, h2⟩, rfl⟩ | ⟨p, h1, rfl⟩) | ⟨p, h1, rfl⟩
    · exact hts p h1 h2
    · exact hgs p h1
    · exact hus p h1)
  have hLg : ∀ p ∈ gs, (W p.1).1 * M = L p.1 * (W p.1).2 := fun p hp => hL _ (by simp only [List.mem_append]; exact .inl (.inr (List.mem_map_of_mem hp)))
  have hLu : ∀ p ∈ us, (W p.1).1 * M = L p.1 * (W p.1).2 := fun p hp => hL _ (by simp only [List.mem_append]; exact .inr (List.mem_map_of_mem hp))
  have hg := acc_lin (s := (cg, 1)) (S := cg * M) hLg (by simp)
  have hu := acc_lin (s := (c + wt ts x * cg, 1)) (S := (c + wt ts x * cg) * M) hLu (by simp)
  have hgp := acc_pos (s := (cg, 1)) hgs Int.one_pos
  have hup := acc_pos (s := (c + wt ts x * cg, 1)) hus Int.one_pos
  -- the value of g over M
  have hvM : v.1 * M = v.2 * (cg * M + lin gs L) := by
    have e : v.1 * M * (accV W gs (cg, 1)).2 = v.2 * (cg * M + lin gs L) * (accV W gs (cg, 1)).2 := by
      rw [Int.mul_right_comm, hv, Int.mul_right_comm, hg]; ac_rfl
    exact Int.eq_of_mul_eq_mul_right (by omega) e
  -- the moved world over M * v.2
  have hm := acc_lin (W := moved W x v) (L := fun y => if y = x then v.1 * M else L y * v.2) (M := M * v.2) (ts := ts) (s := (c, 1)) (S := c * (M * v.2)) (by
    intro p hp
    unfold moved
    by_cases e : p.1 = x
    · simp only [if_pos e]; ac_rfl
    · simp only [if_neg e]
      have := hL p.1 (by simp only [List.mem_append]; exact .inl (.inl (List.mem_map_of_mem (List.mem_filter.mpr ⟨hp, by simpa using e⟩))))
      rw [← Int.mul_assoc, this]; ac_rfl) (by simp)
  have hmp : 0 < (accV (moved W x v) ts (c, 1)).2 := acc_pos (fun p hp => by
    unfold moved
    by_cases e : p.1 = x
    · rw [if_pos e]; exact hv0
    · rw [if_neg e]; exact hts p hp e) Int.one_pos
  have key : c * (M * v.2) + lin ts (fun y => if y = x then v.1 * M else L y * v.2) = v.2 * ((c + wt ts x * cg) * M + lin us L) := by
    rw [lin_drop (x := x), lin_of_wt hw, lin_append, lin_scl]
    have e1 : lin (dropN x ts) (fun y => if y = x then v.1 * M else L y * v.2) = v.2 * lin (dropN x ts) L := by
      have : ∀ l : List Tm, (∀ p ∈ l, p.1 ≠ x) → lin l (fun y => if y = x then v.1 * M else L y * v.2) = v.2 * lin l L := by
        intro l
        induction l with
        | nil => intro _; simp [lin]
        | cons p l ih =>
          intro h
          rw [lin_cons, lin_cons, ih fun q hq => h q (by simp [hq])]
          simp only [if_neg (h p (by simp))]
          rw [Int.mul_add]
          congr 1
          ac_rfl
      exact this _ fun p hp => by simpa [dropN] using (List.mem_filter.mp hp).2
    rw [e1]
    simp only [if_true]
    rw [hvM]
    simp only [Int.mul_add, Int.add_mul]
    have a1 : c * (M * v.2) = v.2 * (c * M) := by ac_rfl
    have a2 : wt ts x * (v.2 * (cg * M)) = v.2 * (wt ts x * cg * M) := by ac_rfl
    have a3 : wt ts x * (v.2 * lin gs L) = v.2 * (wt ts x * lin gs L) := by ac_rfl
    omega
  rw [key] at hm
  generalize accV W us (c + wt ts x * cg, 1) = U at *
  generalize accV (moved W x v) ts (c, 1) = T at *
  generalize (c + wt ts x * cg) * M + lin us L = S at *
  have : U.1 * T.2 * (M * v.2) = T.1 * U.2 * (M * v.2) := by
    calc U.1 * T.2 * (M * v.2) = (U.1 * M) * (T.2 * v.2) := by ac_rfl
      _ = (U.2 * S) * (T.2 * v.2) := by rw [hu]
      _ = (T.2 * (v.2 * S)) * U.2 := by ac_rfl
      _ = (T.1 * (M * v.2)) * U.2 := by rw [hm]
      _ = T.1 * U.2 * (M * v.2) := by ac_rfl
  exact Int.eq_of_mul_eq_mul_right (by have := Int.mul_pos hM hv0; omega) this
/-! ### the terms of a form, by its pairs -/
instance : DecidableRel Lt := fun x y => inferInstanceAs (Decidable (ltCps x.cps.toList y.cps.toList = true))
def ins (x : Str) (w : Int) : List Tm → List Tm
  | [] => if w = 0 then [] else [(x, w)]
  | p :: us => if x = p.1 then (if w + p.2 = 0 then us else (x, w + p.2) :: us) else if Lt x p.1 then (if w = 0 then p :: us else (x, w) :: p :: us) else p :: ins x w us
theorem ins_mem {x : Str} {w : Int} : ∀ {us : List Tm} {q : Tm}, q ∈ ins x w us → q.1 = x ∨ q ∈ us
  | [], q, h => by
    unfold ins at h; split at h
    · cases h
    · rw [List.mem_singleton.mp h]; exact .inl rfl
  | p :: us, q, h => by
    unfold ins at h
    split at h
    · split at h
      · exact .inr (by simp [h])
      · rcases List.mem_cons.mp h with rfl | h
        · exact .inl rfl
        · exact .inr (by simp [h])
    · split at h
      · split at h
        · exact .inr h
        · rcases List.mem_cons.mp h with rfl | h
          · exact .inl rfl
          · exact .inr h
      · rcases List.mem_cons.mp h with rfl | h
        · exact .inr (by simp)
        · exact (ins_mem h).imp id fun z => by simp [z]
theorem Canon.cons {p : Tm} {us : List Tm} (h : ∀ q ∈ us, Lt p.1 q.1) (n : p.2 ≠ 0) (c : Canon us) : Canon (p :: us) :=
  ⟨List.pairwise_cons.mpr ⟨fun y hy => by obtain ⟨q, hq, rfl⟩ := List.mem_map.mp hy; exact h q hq, c.asc⟩, fun q hq => by
    rcases List.mem_cons.mp hq with rfl | hq
    · exact n
    · exact c.nz q hq⟩
theorem ins_canon {x : Str} {w : Int} : ∀ {us : List Tm}, Canon us → Canon (ins x w us)
  | [], _ => by
    unfold ins; split
    · exact .nil
    · next h => exact .cons (by simp) h .nil
  | p :: us, c => by
    unfold ins
    split
    · next e =>
      split
      · exact c.tail
      · next h => exact .cons (fun q hq => e ▸ c.lt hq) h c.tail
    · next e =>
      split
      · next l =>
        split
        · exact c
        · next h => exact .cons (fun q hq => by
            rcases List.mem_cons.mp hq with rfl | hq
            · exact l
            · exact l.tr (c.lt hq)) h c
      · next l =>
        have l' : Lt p.1 x := by
          rcases Lt.tri x p.1 with z | z | z
          · exact absurd z e
          · exact absurd z l
          · exact z
        refine .cons (fun q hq => ?_) (c.nz p (by simp)) (ins_canon c.tail)
        rcases ins_mem hq with z | z
        · rw [z]; exact l'
        · exact c.lt z
theorem ins_wt {x y : Str} {w : Int} : ∀ {us : List Tm}, wt (ins x w us) y = (if x = y then w else 0) + wt us y
  | [] => by
    unfold ins; split
    · next h => subst h; simp [wt]
    · rw [wt_cons]
  | p :: us => by
    unfold ins
    split
    · next e =>
      split
      · next h =>
        rw [wt_cons, ← e]
        split <;> omega
      · rw [wt_cons, wt_cons, ← e]
        dsimp only
        split <;> omega
    · split
      · split
        · next h => subst h; simp
        · rw [wt_cons]
      · rw [wt_cons, ins_wt, wt_cons]; omega
def can : List Tm → List Tm
  | [] => []
  | p :: ts => ins p.1 p.2 (can ts)
theorem can_canon : ∀ ts : List Tm, Canon (can ts)
  | [] => .nil
  | _ :: ts => ins_canon (can_canon ts)
theorem can_wt : ∀ (ts : List Tm) (x : Str), wt (can ts) x = wt ts x
  | [], _ => rfl
  | p :: ts, x => by
    show wt (ins p.1 p.2 (can ts)) x = _
    rw [ins_wt, can_wt, wt_cons]
theorem can_eq {us ts : List Tm} (c : Canon us) (h : ∀ x, wt us x = wt ts x) : us = can ts := canon_eq c (can_canon ts) fun x => by rw [h, can_wt]
theorem can_can {ts us : List Tm} (h : ∀ x, wt ts x = wt us x) : can ts = can us := can_eq (can_canon ts) fun x => by rw [can_wt, h]
theorem can_self {ts : List Tm} (c : Canon ts) : can ts = ts := (can_eq c fun _ => rfl).symm
theorem Canon.wt_mem {ts : List Tm} (c : Canon ts) {p : Tm} (h : p ∈ ts) : wt ts p.1 = p.2 := by
  induction ts with
  | nil => cases h
  | cons q ts ih =>
    rcases List.mem_cons.mp h with rfl | h
    · exact c.head
    · rw [wt_cons, if_neg (fun e => (e ▸ c.lt h).irr), Int.zero_add]; exact ih c.tail h
theorem mem_of_wt {ts : List Tm} {x : Str} (h : wt ts x ≠ 0) : ∃ p ∈ ts, p.1 = x := Decidable.byContradiction fun n => h (wt_none fun p hp e => n ⟨p, hp, e⟩)
theorem can_mem {ts : List Tm} {u : Tm} (h : u ∈ can ts) : (∃ p ∈ ts, p.1 = u.1) ∧ u.2 = wt ts u.1 := by
  have c := can_canon ts
  have e := c.wt_mem h
  rw [can_wt] at e
  exact ⟨mem_of_wt (by rw [e]; exact c.nz u h), e.symm⟩
theorem ins_len {x : Str} {w : Int} : ∀ {us : List Tm}, (ins x w us).length ≤ us.length + 1
  | [] => by unfold ins; split <;> simp
  | p :: us => by
    unfold ins
    have := ins_len (x := x) (w := w) (us := us)
    repeat' split
    all_goals simp
    all_goals omega
theorem can_len : ∀ ts : List Tm, (can ts).length ≤ ts.length
  | [] => Nat.le_refl _
  | p :: ts => by
    have := can_len ts
    have := ins_len (x := p.1) (w := p.2) (us := can ts)
    show (ins p.1 p.2 (can ts)).length ≤ ts.length + 1
    omega
theorem wt_bound {B : Nat} {x : Str} : ∀ {ts : List Tm}, (∀ p ∈ ts, p.2.natAbs ≤ B) → (wt ts x).natAbs ≤ ts.length * B
  | [], _ => by simp [wt]
  | p :: ts, h => by
    have a := h p (by simp)
    have b := wt_bound (x := x) (ts := ts) fun q hq => h q (by simp [hq])
    rw [wt_cons, List.length_cons, Nat.succ_mul]
    split <;> omega
/-- a form within bounds: weights and constant below 2 ^ k, at most n terms, names that keep N -/
structure FOk (N : Str → Prop) (n k : Nat) (ts : List Tm) (c : Int) : Prop where
  can : Canon ts
  len : ts.length ≤ n
  nm : ∀ p ∈ ts, N p.1
  wb : ∀ p ∈ ts, p.2.natAbs < 2 ^ k
  cb : c.natAbs < 2 ^ k
theorem pow6 {m n k : Nat} (h : n ≤ 64) (hm : m ≤ n * 2 ^ k) : m ≤ 2 ^ (k + 6) := by
  refine Nat.le_trans hm ?_
  rw [Nat.pow_add, Nat.mul_comm]
  exact Nat.mul_le_mul_left _ h
/-- what is made of pairs is a form -/
theorem can_ok {N : Str → Prop} {k : Nat} {ts : List Tm} {c : Int} (hl : ts.length ≤ 60) (hn : ∀ p ∈ ts, N p.1) (hb : ∀ p ∈ ts, p.2.natAbs < 2 ^ k) (hc : c.natAbs < 2 ^ (k + 6)) : FOk N ts.length (k + 6) (can ts) c := by
  refine ⟨can_canon ts, can_len ts, fun u hu => ?_, fun u hu => ?_, hc⟩
  · obtain ⟨⟨p, hp, e⟩, _⟩ := can_mem hu
    rw [← e]; exact hn p hp
  · obtain ⟨_, e⟩ := can_mem hu
    rw [e]
    have h1 := wt_bound (x := u.1) (B := 2 ^ k) (ts := ts) fun p hp => Nat.le_of_lt (hb p hp)
    have h2 : ts.length * 2 ^ k < 64 * 2 ^ k := Nat.mul_lt_mul_of_pos_right (by omega) (Nat.pow_pos (by decide))
    have h3 : 64 * 2 ^ k = 2 ^ (k + 6) := by rw [Nat.pow_add, Nat.mul_comm]
    omega
/-! ### a row made by names -/
def rowOf (ys : List Str) (f : Str → Int) : List Tm := (ys.map fun x => (x, f x)).filter fun p => decide (p.2 ≠ 0)
theorem wt_rowOf {f : Str → Int} {x : Str} : ∀ {ys : List Str}, ys.Nodup → wt (rowOf ys f) x = if x ∈ ys then f x else 0
  | [], _ => by simp [rowOf, wt]
  | y :: ys, n => by
    have ih := wt_rowOf (f := f) (x := x) (List.nodup_cons.mp n).2
    unfold rowOf at ih ⊢
    rw [List.map_cons]
    by_cases h : f y = 0
    · rw [List.filter_cons_of_neg (by simpa using h), ih]
      by_cases e : x = y
      · subst e; rw [if_neg (List.nodup_cons.mp n).1, if_pos (by simp), h]
      · simp [e]
    · rw [List.filter_cons_of_pos (by simpa using h), wt_cons, ih]
      by_cases e : y = x
      · subst e; rw [if_pos rfl, if_neg (List.nodup_cons.mp n).1, if_pos (by simp), Int.add_zero]
      · have e' : ¬ x = y := fun z => e z.symm
        simp [e, e']
theorem canon_rowOf {f : Str → Int} {ys : List Str} (h : ys.Pairwise Lt) : Canon (rowOf ys f) := by
  refine ⟨?_, fun p hp => by simpa using (List.mem_filter.mp hp).2⟩
  unfold rowOf
  have : ((ys.map fun x => (x, f x)).map (·.1)).Pairwise Lt := by simpa [List.map_map, Function.comp_def] using h
  exact this.sublist ((List.filter_sublist).map _)
theorem rowOf_can {ts : List Tm} {ys : List Str} (h : ys.Pairwise Lt) (n : ys.Nodup) (hm : ∀ p ∈ ts, p.1 ∈ ys) : rowOf ys (wt ts) = can ts := can_eq (canon_rowOf h) fun x => by
  rw [wt_rowOf n]
  split
  · rfl
  · next e => exact (wt_none fun p hp z => e (by have := hm p hp; rw [z] at this; exact this)).symm
theorem rowOf_snoc {f : Str → Int} {ys : List Str} {y : Str} : rowOf (ys ++ [y]) f = if f y ≠ 0 then rowOf ys f ++ [(y, f y)] else rowOf ys f := by
  unfold rowOf
  rw [List.map_append, List.filter_append]
  by_cases h : f y = 0 <;> simp [h]
/-! ### sums by names in a dict -/
def putT (ks : List Tm) (x : Str) (v : Int) : List Tm := if (ks.any fun p => decide (p.1 = x)) = true then ks.map (fun p => if p.1 = x then (p.1, v) else p) else ks ++ [(x, v)]
def kOf (ks : List Tm) : List (Key × V) := ks.map fun p => (Sum.inr p.1, V.int p.2)
theorem val_kOf {x : Str} : ∀ {ks : List Tm}, valV (kOf ks) (Sum.inr x) = (ks.find? fun p => decide (p.1 = x)).map fun p => V.int p.2
  | [] => rfl
  | p :: ks => by
    by_cases h : p.1 = x
    · have : valV (kOf (p :: ks)) (Sum.inr x) = some (V.int p.2) := valV_pos (by show Sum.inr p.1 = Sum.inr x; rw [h])
      rw [this, List.find?_cons_of_pos (by simpa using h)]; rfl
    · have : valV (kOf (p :: ks)) (Sum.inr x) = valV (kOf ks) (Sum.inr x) := valV_neg (fun e => h (Sum.inr.inj e))
      rw [this, List.find?_cons_of_neg (by simpa using h)]; exact val_kOf
theorem put_kOf {ks : List Tm} {x : Str} {v : Int} : putK (kOf ks) (Sum.inr x) (V.int v) = kOf (putT ks x v) := by
  unfold putK putT
  have e : ((kOf ks).any fun kv => decide (kv.1 = Sum.inr x)) = ks.any fun p => decide (p.1 = x) := by
    unfold kOf; rw [List.any_map]; congr 1; funext p; simp
  rw [e]
  split
  · unfold kOf; rw [List.map_map, List.map_map]; congr 1; funext p
    simp only [Function.comp, Sum.inr.injEq]
    split <;> rfl
  · unfold kOf; rw [List.map_append]; rfl
/-- the sums so far -/
structure Sums (ks ts : List Tm) : Prop where
  nd : (ks.map (·.1)).Nodup
  iff : ∀ x, (x ∈ ks.map (·.1)) ↔ x ∈ ts.map (·.1)
  val : ∀ p ∈ ks, p.2 = wt ts p.1
  len : ks.length ≤ ts.length
theorem Sums.nil : Sums [] [] := ⟨by simp, by simp, by simp, Nat.le_refl _⟩
theorem Sums.find {ks ts : List Tm} (h : Sums ks ts) (x : Str) : ((ks.find? fun p => decide (p.1 = x)).map fun p => V.int p.2) = if x ∈ ts.map (·.1) then some (V.int (wt ts x)) else none := by
  cases e : ks.find? fun p => decide (p.1 = x) with
  | none =>
    have n : x ∉ ks.map (·.1) := fun z => by
      obtain ⟨p, hp, rfl⟩ := List.mem_map.mp z
      have := List.find?_eq_none.mp e p hp
      simp at this
    rw [if_neg (fun z => n ((h.iff x).mpr z))]; rfl
  | some p =>
    have hp := List.mem_of_find?_eq_some e
    have hx : p.1 = x := by simpa using List.find?_some e
    have : x ∈ ts.map (·.1) := (h.iff x).mp (hx ▸ List.mem_map_of_mem hp)
    rw [if_pos this]
    show some (V.int p.2) = _
    rw [h.val p hp, hx]
theorem Sums.put {ks ts : List Tm} (h : Sums ks ts) (p : Tm) : Sums (putT ks p.1 (wt ts p.1 + p.2)) (ts ++ [p]) := by
  have hw : ∀ x, wt (ts ++ [p]) x = wt ts x + if p.1 = x then p.2 else 0 := fun x => by rw [wt_append, wt_cons, wt_nil, Int.add_zero]
  unfold putT
  by_cases c : (ks.any fun q => decide (q.1 = p.1)) = true
  · rw [if_pos c]
    obtain ⟨q, hq, eq⟩ := List.any_eq_true.mp c
    have eq' : q.1 = p.1 := by simpa using eq
    have e : ((ks.map fun q => if q.1 = p.1 then (q.1, wt ts p.1 + p.2) else q).map (·.1)) = ks.map (·.1) := by
      rw [List.map_map]; congr 1; funext r; simp only [Function.comp]; split <;> rfl
    refine ⟨by rw [e]; exact h.nd, fun x => ?_, fun r hr => ?_, by rw [List.length_map, List.length_append]; have := h.len; simp; omega⟩
    · rw [e, h.iff, List.map_append]
      constructor
      · intro z; simp only [List.mem_append]; exact .inl z
      · intro z
        rcases List.mem_append.mp z with z | z
        · exact z
        · have : x = p.1 := by simpa using z
          rw [this, ← eq']; exact (h.iff _).mp (List.mem_map_of_mem hq)
    · obtain ⟨s, hs, rfl⟩ := List.mem_map.mp hr
      rw [hw]
      by_cases z : s.1 = p.1
      · simp only [if_pos z]; rw [if_pos z.symm, z]
      · simp only [if_neg z]; rw [if_neg (fun e => z e.symm), Int.add_zero]; exact h.val s hs
  · rw [if_neg c]
    have n : p.1 ∉ ks.map (·.1) := fun z => by
      obtain ⟨q, hq, e⟩ := List.mem_map.mp z
      exact c (List.any_eq_true.mpr ⟨q, hq, by simpa using e⟩)
    have n' : p.1 ∉ ts.map (·.1) := fun z => n ((h.iff _).mpr z)
    have w0 : wt ts p.1 = 0 := wt_none fun q hq e => n' (e ▸ List.mem_map_of_mem hq)
    refine ⟨?_, fun x => ?_, fun r hr => ?_, by have := h.len; simp; omega⟩
    · rw [List.map_append]
      refine List.nodup_append.mpr ⟨h.nd, by simp, fun x hx y hy e => n ?_⟩
      have hy' : y = p.1 := by simpa using hy
      rw [← hy', ← e]
      exact hx
    · simp only [List.map_append, List.mem_append, h.iff]; simp
    · rw [hw]
      rcases List.mem_append.mp hr with hr | hr
      · have : ¬ p.1 = r.1 := fun e => n (e ▸ List.mem_map_of_mem hr)
        rw [if_neg this, Int.add_zero]; exact h.val r hr
      · rw [List.mem_singleton.mp hr]; simp
/-! ### sizes -/
theorem natAbs_mul_lt {x y : Int} {a b : Nat} (hx : x.natAbs < 2 ^ a) (hy : y.natAbs < 2 ^ b) : (x * y).natAbs < 2 ^ (a + b) := wide_lt hx hy
theorem natAbs_add_lt {x y : Int} {a : Nat} (hx : x.natAbs < 2 ^ a) (hy : y.natAbs < 2 ^ a) : (x + y).natAbs < 2 ^ (a + 1) := by
  have := Int.natAbs_add_le x y
  rw [Nat.pow_succ]; omega
theorem pow_le {x : Int} {a b : Nat} (h : x.natAbs < 2 ^ a) (hab : a ≤ b) : x.natAbs < 2 ^ b := Nat.lt_of_lt_of_le h (Nat.pow_le_pow_right (by decide) hab)
/-- the sizes of a value under way: weights and constant below 2 ^ a, tops below 2 ^ b, bottoms below 2 ^ g -/
theorem acc_boundG {W : Wd} (a b g : Nat) : ∀ {ts : List Tm} {s : Int × Int} {i : Nat}, (∀ p ∈ ts, p.2.natAbs < 2 ^ a ∧ (W p.1).1.natAbs < 2 ^ b ∧ (W p.1).2.natAbs < 2 ^ g) → s.1.natAbs < 2 ^ (a + 1 + (b + g + 1) * i) → s.2.natAbs < 2 ^ (1 + g * i) →
    (accV W ts s).1.natAbs < 2 ^ (a + 1 + (b + g + 1) * (i + ts.length)) ∧ (accV W ts s).2.natAbs < 2 ^ (1 + g * (i + ts.length))
  | [], _, _, _, h1, h2 => ⟨h1, h2⟩
  | p :: ts, s, i, h, h1, h2 => by
    obtain ⟨ha, hb, hc⟩ := h p (by simp)
    have m1 : (b + g + 1) * (i + 1) = (b + g + 1) * i + (b + g + 1) := Nat.mul_succ _ _
    have m2 : g * (i + 1) = g * i + g := Nat.mul_succ _ _
    have m3 : g * i ≤ (b + g + 1) * i := Nat.mul_le_mul_right i (by omega)
    have e1 : (s.1 * (W p.1).2).natAbs < 2 ^ (a + 1 + (b + g + 1) * i + (b + g)) := pow_le (natAbs_mul_lt h1 hc) (by omega)
    have e2 : (p.2 * (W p.1).1 * s.2).natAbs < 2 ^ (a + 1 + (b + g + 1) * i + (b + g)) := pow_le (natAbs_mul_lt (natAbs_mul_lt ha hb) h2) (by omega)
    have e3 := natAbs_add_lt e1 e2
    have := acc_boundG (W := W) a b g (ts := ts) (s := (s.1 * (W p.1).2 + p.2 * (W p.1).1 * s.2, s.2 * (W p.1).2)) (i := i + 1) (fun q hq => h q (by simp [hq])) (pow_le e3 (by omega)) (pow_le (natAbs_mul_lt h2 hc) (by omega))
    rw [List.length_cons, show i + (ts.length + 1) = i + 1 + ts.length by omega]
    exact this
theorem acc_bound {W : Wd} {ts : List Tm} {c : Int} (h : ∀ p ∈ ts, p.2.natAbs < 2 ^ 400 ∧ (W p.1).1.natAbs < 2 ^ 1000 ∧ (W p.1).2.natAbs < 2 ^ 401) (hc : c.natAbs < 2 ^ 400) :
    (accV W ts (c, 1)).1.natAbs < 2 ^ (401 + 1402 * ts.length) ∧ (accV W ts (c, 1)).2.natAbs < 2 ^ (1 + 401 * ts.length) := by
  have := acc_boundG (W := W) 400 1000 401 (ts := ts) (s := (c, 1)) (i := 0) h (pow_le hc (by omega)) (show (1 : Int).natAbs < 2 ^ (1 + 401 * 0) by decide)
  rw [Nat.zero_add] at this
  exact this
theorem accV_append {W : Wd} : ∀ {ts us : List Tm} {s : Int × Int}, accV W (ts ++ us) s = accV W us (accV W ts s)
  | [], _, _ => rfl
  | p :: ts, us, s => accV_append (ts := ts)
theorem nodup_len : ∀ {l xs : List Str}, l.Nodup → (∀ x ∈ l, x ∈ xs) → l.length ≤ xs.length
  | [], _, _, _ => Nat.zero_le _
  | x :: l, xs, n, h => by
    have hx := h x (by simp)
    have := nodup_len (l := l) (xs := xs.erase x) (List.nodup_cons.mp n).2 fun y hy => (List.mem_erase_of_ne (fun e => (List.nodup_cons.mp n).1 (by rw [← e]; exact hy))).mpr (h y (by simp [hy]))
    rw [List.length_erase_of_mem hx] at this
    have := List.length_pos_of_mem hx
    rw [List.length_cons]; omega
theorem Canon.nodup {ts : List Tm} (c : Canon ts) : (ts.map (·.1)).Nodup := c.asc.imp fun {a b} h (e : a = b) => by subst e; exact h.irr
theorem Canon.short {ts : List Tm} {xs : List Str} (c : Canon ts) (h : ∀ p ∈ ts, p.1 ∈ xs) : ts.length ≤ xs.length := by
  have := nodup_len c.nodup fun x hx => by
    obtain ⟨p, hp, rfl⟩ := List.mem_map.mp hx
    exact h p hp
  rwa [List.length_map] at this
end Fm
/-! ### the pot of a law, pairs in lowest terms -/
def Pot (P : List V) : Prop := ∃ (pos car cnt mix : Int) (sc : List Int), P = V.int pos :: V.int car :: V.int cnt :: V.int mix :: sc.map V.int ∧ 4 ≤ pos ∧ 0 ≤ car ∧ 0 ≤ mix ∧ mix < 2147483647 ∧ sc.length ≤ 63
def PotAt (a : Addr) (H : Hp) : Prop := ∃ P, H a = some (.lst P) ∧ Pot P
theorem pot_at {x0 x1 x2 x3 : V} {sc : List Int} {i : Int} (h : 4 ≤ i) (h2 : i < sc.length + 4) : atI (x0 :: x1 :: x2 :: x3 :: sc.map V.int) i = some (.int (sc.getD (i.toNat - 4) 0)) := by
  obtain ⟨n, rfl⟩ : ∃ n : Nat, i = ((n + 4 : Nat) : Int) := ⟨i.toNat - 4, by omega⟩
  refine atI_nat ?_
  have h3 : n < sc.length := by omega
  have e : ((n + 4 : Nat) : Int).toNat - 4 = n := by omega
  rw [e, List.getElem?_cons_succ, List.getElem?_cons_succ, List.getElem?_cons_succ, List.getElem?_cons_succ, List.getElem?_map, List.getElem?_eq_getElem h3, List.getD_eq_getElem?_getD, List.getElem?_eq_getElem h3]
  rfl
def spTake : Sp := fun vs H Q _ => ∃ (a : Addr) (n : Int), vs = [.ref a, .int n] ∧ PotAt a H ∧ 0 < n ∧ n < 2 ^ 200 ∧ ∀ (r : Int) (H' : Hp), 0 ≤ r → r < n → Keep [a] H H' → PotAt a H' → Q (.int r) H'
theorem PotAt.new {a p : Addr} {o : HO} {H : Hp} (h : PotAt a H) (n : H p = none) : PotAt a (upd H p o) := by
  obtain ⟨P, hP, hp⟩ := h
  exact ⟨P, by rw [upd_ne (ne_of_none hP n)]; exact hP, hp⟩
theorem PotAt.put {a p : Addr} {o : HO} {H : Hp} (h : PotAt a H) (n : p ≠ a) : PotAt a (upd H p o) := by
  obtain ⟨P, hP, hp⟩ := h
  exact ⟨P, by rw [upd_ne n.symm]; exact hP, hp⟩
theorem PotAt.ne' {a p : Addr} {xs : List V} {H : Hp} (h : PotAt a H) (h2 : H p = some (.lst xs)) (n : ¬ Pot xs) : p ≠ a := by
  obtain ⟨P, hP, hp⟩ := h
  rintro rfl
  rw [hP] at h2; cases h2; exact n hp
theorem PotAt.ne {a p : Addr} {H : Hp} (h : PotAt a H) (n : H p = none) : p ≠ a := by
  obtain ⟨P, hP, _⟩ := h
  exact ne_free hP n
section
variable {Q : VK} {E : XK} {H : Hp}
theorem r_take {a : Addr} {n : Int} (hp : PotAt a H) (h0 : 0 < n) (h1 : n < 2 ^ 200) (k : ∀ (r : Int) (H' : Hp), 0 ≤ r → r < n → Keep [a] H H' → PotAt a H' → Q (.int r) H') : spTake [.ref a, .int n] H Q E := ⟨a, n, rfl, hp, h0, h1, k⟩
/-- a def of the pot that gives an int below m in size -/
def spPotInt (m : Nat) : Sp := fun vs H Q _ => ∃ a : Addr, vs = [.ref a] ∧ PotAt a H ∧ ∀ (r : Int) (H' : Hp), r.natAbs < m → Keep [a] H H' → PotAt a H' → Q (.int r) H'
theorem r_potInt {m : Nat} {a : Addr} (hp : PotAt a H) (k : ∀ (r : Int) (H' : Hp), r.natAbs < m → Keep [a] H H' → PotAt a H' → Q (.int r) H') : spPotInt m [.ref a] H Q E := ⟨a, rfl, hp, k⟩
def spPot (K : PySem.W.Frag) : Sp := fun vs H Q _ => ∃ (a : Addr) (ns : List Int), vs = [.ref a] ∧ SqL K H a (ns.map V.int) ∧ ns.length ≤ 63 ∧ ∀ (p : Addr) (H' : Hp), Keep [] H H' → H p = none → PotAt p H' → Q (.ref p) H'
/-- the divisor with the bottom's sign, and the pair in lowest terms -/
def dv (t b : Int) : Int := if b < 0 then -((Nat.gcd t.natAbs b.natAbs : Nat) : Int) else ((Nat.gcd t.natAbs b.natAbs : Nat) : Int)
def lowT (t b : Int) : Int := t.fdiv (dv t b)
def lowB (t b : Int) : Int := b.fdiv (dv t b)
def spLow : Sp := fun vs H Q _ => ∃ t b : Int, vs = [.int t, .int b] ∧ b ≠ 0 ∧ b.natAbs < 2 ^ 8000 ∧ ∀ (p : Addr) (H' : Hp), Keep [] H H' → H p = none → H' p = some (.tup [.int (lowT t b), .int (lowB t b)]) → Q (.ref p) H'
theorem r_low {t b : Int} (hb : b ≠ 0) (hz : b.natAbs < 2 ^ 8000) (k : ∀ (p : Addr) (H' : Hp), Keep [] H H' → H p = none → H' p = some (.tup [.int (lowT t b), .int (lowB t b)]) → Q (.ref p) H') : spLow [.int t, .int b] H Q E := ⟨t, b, rfl, hb, hz, k⟩
end
theorem gcd_pos {t b : Int} (h : b ≠ 0) : 0 < Nat.gcd t.natAbs b.natAbs := Nat.gcd_pos_of_pos_right _ (by omega)
theorem gcd_le {t b : Int} (h : b ≠ 0) : Nat.gcd t.natAbs b.natAbs ≤ b.natAbs := Nat.gcd_le_right _ (by omega)
theorem dv_ne {t b : Int} (h : b ≠ 0) : dv t b ≠ 0 := by
  have := gcd_pos (t := t) h
  unfold dv; split <;> omega
theorem dv_abs {t b : Int} : (dv t b).natAbs = Nat.gcd t.natAbs b.natAbs := by
  unfold dv; split <;> omega
theorem pow_mono {n : Nat} (a b : Nat) (h : n < 2 ^ a) (hab : a ≤ b := by decide) : n < 2 ^ b := Nat.lt_of_lt_of_le h (Nat.pow_le_pow_right (by decide) hab)
theorem lowT_one {x : Int} : lowT x 1 = x := by
  unfold lowT dv
  rw [if_neg (by decide), show (1 : Int).natAbs = 1 from rfl, Nat.gcd_one_right]
  exact Int.fdiv_one x
theorem lowB_one {x : Int} : lowB x 1 = 1 := by
  unfold lowB dv
  rw [if_neg (by decide), show (1 : Int).natAbs = 1 from rfl, Nat.gcd_one_right]
  rfl
theorem natAbs_fdiv_le {x g : Int} (hg : g ≠ 0) (hd : g ∣ x) : (x.fdiv g).natAbs ≤ x.natAbs := by
  obtain ⟨k, rfl⟩ := hd
  rw [Int.mul_fdiv_cancel_left _ hg, Int.natAbs_mul]
  exact Nat.le_mul_of_pos_left _ (by omega)
theorem dv_dvd_t {t b : Int} : dv t b ∣ t := by
  have h : ((Nat.gcd t.natAbs b.natAbs : Nat) : Int) ∣ t := Int.ofNat_dvd_left.mpr (Nat.gcd_dvd_left _ _)
  unfold dv; split
  · exact (Int.neg_dvd).mpr h
  · exact h
theorem dv_dvd_b {t b : Int} : dv t b ∣ b := by
  have h : ((Nat.gcd t.natAbs b.natAbs : Nat) : Int) ∣ b := Int.ofNat_dvd_left.mpr (Nat.gcd_dvd_right _ _)
  unfold dv; split
  · exact (Int.neg_dvd).mpr h
  · exact h
theorem lowT_le {t b : Int} (h : b ≠ 0) : (lowT t b).natAbs ≤ t.natAbs := natAbs_fdiv_le (dv_ne h) dv_dvd_t
theorem lowB_le {t b : Int} (h : b ≠ 0) : (lowB t b).natAbs ≤ b.natAbs := natAbs_fdiv_le (dv_ne h) dv_dvd_b
theorem lowB_ne {t b : Int} (h : b ≠ 0) : lowB t b ≠ 0 := by
  intro e
  have hd := dv_ne (t := t) h
  have h2 : b = dv t b * lowB t b := by
    unfold lowB
    rw [Int.mul_comm]; exact (Int.fdiv_mul_cancel dv_dvd_b).symm
  rw [e, Int.mul_zero] at h2
  exact h h2
theorem sgn_abs {s x : Int} (h0 : 0 ≤ s) (h1 : s < 2) : ((1 - 2 * s) * x).natAbs = x.natAbs := by
  have h : s = 0 ∨ s = 1 := by omega
  rcases h with rfl | rfl <;> omega
section
variable {Q : VK} {E : XK} {H : Hp}
/-- two pairs, made one in lowest terms -/
def spTwo (f : Int → Int → Int → Int → Int × Int) : Sp := fun vs H Q _ => ∃ (p q : Addr) (a b c d : Int), vs = [.ref p, .ref q] ∧ H p = some (.tup [.int a, .int b]) ∧ H q = some (.tup [.int c, .int d]) ∧ b ≠ 0 ∧ d ≠ 0 ∧ a.natAbs < 2 ^ 9000 ∧ b.natAbs < 2 ^ 3000 ∧ c.natAbs < 2 ^ 9000 ∧ d.natAbs < 2 ^ 3000 ∧
  ∀ (r : Addr) (H' : Hp), Keep [] H H' → H r = none → H' r = some (.tup [.int (lowT (f a b c d).1 (f a b c d).2), .int (lowB (f a b c d).1 (f a b c d).2)]) → Q (.ref r) H'
def fPlus (a b c d : Int) : Int × Int := (a * d + c * b, b * d)
def fTimes (a b c d : Int) : Int × Int := (a * c, b * d)
theorem r_two {f : Int → Int → Int → Int → Int × Int} {p q : Addr} {a b c d : Int} (hp : H p = some (.tup [.int a, .int b])) (hq : H q = some (.tup [.int c, .int d])) (hb : b ≠ 0) (hd : d ≠ 0) (za : a.natAbs < 2 ^ 9000) (zb : b.natAbs < 2 ^ 3000) (zc : c.natAbs < 2 ^ 9000) (zd : d.natAbs < 2 ^ 3000)
  (k : ∀ (r : Addr) (H' : Hp), Keep [] H H' → H r = none → H' r = some (.tup [.int (lowT (f a b c d).1 (f a b c d).2), .int (lowB (f a b c d).1 (f a b c d).2)]) → Q (.ref r) H') : spTwo f [.ref p, .ref q] H Q E := ⟨p, q, a, b, c, d, rfl, hp, hq, hb, hd, za, zb, zc, zd, k⟩
def spWhole : Sp := fun vs H Q _ => ∃ i : Int, vs = [.int i] ∧ Q (.bl true) H
theorem r_whole {i : Int} (k : Q (.bl true) H) : spWhole [.int i] H Q E := ⟨i, rfl, k⟩
def spPairIs : Sp := fun vs H Q _ => ∃ (p q : Addr) (a b : Int), vs = [.ref p, .ref q] ∧ H p = some (.tup [.int a, .int b]) ∧ H q = some (.tup [.int a, .int b]) ∧ Q (.bl true) H
theorem r_pairIs {p q : Addr} {a b : Int} (hp : H p = some (.tup [.int a, .int b])) (hq : H q = some (.tup [.int a, .int b])) (k : Q (.bl true) H) : spPairIs [.ref p, .ref q] H Q E := ⟨p, q, a, b, rfl, hp, hq, k⟩
/-- the law's pair in lowest terms: a bottom above 0 -/
def spLow0 : Sp := fun vs H Q _ => ∃ t b : Int, vs = [.int t, .int b] ∧ 0 < b ∧ b.natAbs < 2 ^ 8000 ∧ ∀ (p : Addr) (H' : Hp), Keep [] H H' → H p = none → H' p = some (.tup [.int (lowT t b), .int (lowB t b)]) → Q (.ref p) H'
theorem r_low0 {t b : Int} (hb : 0 < b) (hz : b.natAbs < 2 ^ 8000) (k : ∀ (p : Addr) (H' : Hp), Keep [] H H' → H p = none → H' p = some (.tup [.int (lowT t b), .int (lowB t b)]) → Q (.ref p) H') : spLow0 [.int t, .int b] H Q E := ⟨t, b, rfl, hb, hz, k⟩
end
theorem low_mul {t b : Int} : lowT t b * dv t b = t ∧ lowB t b * dv t b = b := ⟨Int.fdiv_mul_cancel dv_dvd_t, Int.fdiv_mul_cancel dv_dvd_b⟩
theorem lowB_pos {t b : Int} (h : 0 < b) : 0 < lowB t b := by
  have e := (low_mul (t := t) (b := b)).2
  have g : 0 < dv t b := by
    have := gcd_pos (t := t) (show b ≠ 0 by omega)
    unfold dv; rw [if_neg (by omega)]; omega
  have : 0 < lowB t b * dv t b := by rw [e]; exact h
  exact Int.pos_of_mul_pos_left this g
theorem low_cross {t b : Int} : lowT t b * b = t * lowB t b := by
  have e := low_mul (t := t) (b := b)
  calc lowT t b * b = lowT t b * (lowB t b * dv t b) := by rw [e.2]
    _ = (lowT t b * dv t b) * lowB t b := by ac_rfl
    _ = t * lowB t b := by rw [e.1]
/-- equal ratios have one pair in lowest terms -/
theorem low_eq {t b t' b' : Int} (hb : 0 < b) (hb' : 0 < b') (h : t * b' = t' * b) : lowT t b = lowT t' b' ∧ lowB t b = lowB t' b' := by
  have cop : ∀ {t b : Int}, 0 < b → Nat.gcd (lowT t b).natAbs (lowB t b).natAbs = 1 := by
    intro t b hb
    have g := gcd_pos (t := t) (show b ≠ 0 by omega)
    have e := low_mul (t := t) (b := b)
    have z : Nat.gcd t.natAbs b.natAbs = Nat.gcd (lowT t b).natAbs (lowB t b).natAbs * Nat.gcd t.natAbs b.natAbs := by
      have a := dv_abs (t := t) (b := b)
      have et : t.natAbs = (lowT t b).natAbs * Nat.gcd t.natAbs b.natAbs := by rw [← a, ← Int.natAbs_mul, e.1]
      have eb : b.natAbs = (lowB t b).natAbs * Nat.gcd t.natAbs b.natAbs := by rw [← a, ← Int.natAbs_mul, e.2]
      calc Nat.gcd t.natAbs b.natAbs = Nat.gcd ((lowT t b).natAbs * Nat.gcd t.natAbs b.natAbs) ((lowB t b).natAbs * Nat.gcd t.natAbs b.natAbs) := by rw [← et, ← eb]
        _ = _ := Nat.gcd_mul_right _ _ _
    have : 1 * Nat.gcd t.natAbs b.natAbs = Nat.gcd (lowT t b).natAbs (lowB t b).natAbs * Nat.gcd t.natAbs b.natAbs := by rw [Nat.one_mul]; exact z
    exact (Nat.eq_of_mul_eq_mul_right g this).symm
  have p := lowB_pos (t := t) hb
  have p' := lowB_pos (t := t') hb'
  have x : lowT t b * lowB t' b' = lowT t' b' * lowB t b := by
    have c := low_cross (t := t) (b := b)
    have c' := low_cross (t := t') (b := b')
    have : lowT t b * lowB t' b' * (b * b') = lowT t' b' * lowB t b * (b * b') := by
      calc lowT t b * lowB t' b' * (b * b') = (lowT t b * b) * (lowB t' b' * b') := by ac_rfl
        _ = (t * lowB t b) * (lowB t' b' * b') := by rw [c]
        _ = (t * b') * (lowB t b * lowB t' b') := by ac_rfl
        _ = (t' * b) * (lowB t b * lowB t' b') := by rw [h]
        _ = (t' * lowB t' b') * (lowB t b * b) := by ac_rfl
        _ = (lowT t' b' * b') * (lowB t b * b) := by rw [c']
        _ = lowT t' b' * lowB t b * (b * b') := by ac_rfl
    exact Int.eq_of_mul_eq_mul_right (by have := Int.mul_pos hb hb'; omega) this
  have d1 : (lowB t b).natAbs ∣ (lowB t' b').natAbs := by
    refine Nat.Coprime.dvd_of_dvd_mul_left (k := (lowB t b).natAbs) (m := (lowT t b).natAbs) (Nat.Coprime.symm (cop hb)) ?_
    rw [← Int.natAbs_mul, x, Int.natAbs_mul]; exact Nat.dvd_mul_left _ _
  have d2 : (lowB t' b').natAbs ∣ (lowB t b).natAbs := by
    refine Nat.Coprime.dvd_of_dvd_mul_left (k := (lowB t' b').natAbs) (m := (lowT t' b').natAbs) (Nat.Coprime.symm (cop hb')) ?_
    rw [← Int.natAbs_mul, ← x, Int.natAbs_mul]; exact Nat.dvd_mul_left _ _
  have e := Nat.dvd_antisymm d1 d2
  have e' : lowB t b = lowB t' b' := by omega
  refine ⟨?_, e'⟩
  rw [e'] at x
  exact Int.eq_of_mul_eq_mul_right (by omega) x
theorem low_step {N D w p q : Int} (hD : 0 < D) (hq : 0 < q) :
    let f := fPlus (lowT N D) (lowB N D) (lowT (fTimes w 1 p q).1 (fTimes w 1 p q).2) (lowB (fTimes w 1 p q).1 (fTimes w 1 p q).2)
    lowT f.1 f.2 = lowT (N * q + w * p * D) (D * q) ∧ lowB f.1 f.2 = lowB (N * q + w * p * D) (D * q) ∧ 0 < f.2 := by
  intro f
  have hq' : 0 < (fTimes w 1 p q).2 := by show 0 < 1 * q; omega
  have p1 := lowB_pos (t := N) hD
  have p2 := lowB_pos (t := (fTimes w 1 p q).1) hq'
  have c1 := low_cross (t := N) (b := D)
  have c2 := low_cross (t := (fTimes w 1 p q).1) (b := (fTimes w 1 p q).2)
  have hf : 0 < f.2 := Int.mul_pos p1 p2
  have e : f.1 * (D * q) = (N * q + w * p * D) * f.2 := by
    show (lowT N D * lowB (w * p) (1 * q) + lowT (w * p) (1 * q) * lowB N D) * (D * q) = (N * q + w * p * D) * (lowB N D * lowB (w * p) (1 * q))
    have c2' : lowT (w * p) (1 * q) * q = w * p * lowB (w * p) (1 * q) := by
      have := c2
      show lowT (w * p) (1 * q) * q = _
      have h : (fTimes w 1 p q).2 = q := by show 1 * q = q; omega
      rw [h] at this
      have h2 : (1 : Int) * q = q := by omega
      rw [h2]; exact this
    generalize lowB (w * p) (1 * q) = b2 at *
    generalize lowT (w * p) (1 * q) = t2 at *
    calc (lowT N D * b2 + t2 * lowB N D) * (D * q) = (lowT N D * D) * (b2 * q) + (t2 * q) * (lowB N D * D) := by rw [Int.add_mul]; congr 1 <;> ac_rfl
      _ = (N * lowB N D) * (b2 * q) + (w * p * b2) * (lowB N D * D) := by rw [c1, c2']
      _ = (N * q + w * p * D) * (lowB N D * b2) := by rw [Int.add_mul]; congr 1 <;> ac_rfl
  obtain ⟨a, b⟩ := low_eq hf (Int.mul_pos hD hq) e
  exact ⟨a, b, hf⟩
/-! ### readings of texts, dicts, tuples as targets -/
def rInSg : R2 := fun x y H Q => ∃ (c : Nat) (z : Str), x = .str ⟨#[c]⟩ ∧ y = .str z ∧ Q (.bl (decide (c ∈ z.cps.toList))) H
def rNinSg : R2 := fun x y H Q => ∃ (c : Nat) (z : Str), x = .str ⟨#[c]⟩ ∧ y = .str z ∧ Q (.bl (!decide (c ∈ z.cps.toList))) H
def rAddS : R2 := fun x y H Q => ∃ i j, x = .str i ∧ y = .str j ∧ i.length + j.length ≤ sizeLine ∧ Q (.str (i ++ j)) H
theorem op_inSg {X : Cx} : OpR X (compareOp .In) rInSg := op_in_sign
theorem op_ninSg {X : Cx} : OpR X (compareOp .NotIn) rNinSg := op_notIn_sign
theorem op_addS {X : Cx} : OpR X (binaryOp .Add) rAddS := op_add_str
section
variable {K : PySem.W.Frag} {σ : L2.St} {H : Hp} {Q : VK} {QB : Bool → Hp → Prop} {D : Ends} {ta tb td ty tv te : TE} {v x y : V} {i j z : Str} {n : Int} {c : Nat} {p : Addr}
theorem r_inSg (k : Q (.bl (decide (c ∈ z.cps.toList))) H) : rInSg (.str ⟨#[c]⟩) (.str z) H Q := ⟨c, z, rfl, rfl, k⟩
theorem r_ninSg (k : Q (.bl (!decide (c ∈ z.cps.toList))) H) : rNinSg (.str ⟨#[c]⟩) (.str z) H Q := ⟨c, z, rfl, rfl, k⟩
theorem r_addS (h : i.length + j.length ≤ sizeLine) (k : Q (.str (i ++ j)) H) : rAddS (.str i) (.str j) H Q := ⟨i, j, rfl, rfl, h, k⟩
theorem r_ixS (h : z.length ≤ sizeLine) (h2 : atI z.cps.toList n = some c) (k : Q (.str ⟨#[c]⟩) H) : rIxS (.str z) (.int n) H Q := ⟨z, n, c, rfl, rfl, h, h2, k⟩
theorem r_slS {lo hi : Option Int} (h : z.length ≤ sizeLine) (k : Q (.str (cutS z lo hi)) H) : rSlS (.str z) lo hi H Q := ⟨z, rfl, h, k⟩
theorem r_sum {ns : List Int} (h : SqL K H p (ns.map V.int)) (k : Q (.int ns.sum) H) : rSum K [.ref p] H Q := ⟨p, ns, rfl, h, k⟩
theorem r_all {bs : List Bool} (h : SqL K H p (bs.map V.bl)) (k : Q (.bl (bs.all id)) H) : rAll K [.ref p] H Q := ⟨p, bs, rfl, h, k⟩
theorem r_sortS {xs : List Str} (h : SqL K H p (xs.map V.str)) (h2 : xs.length < 64) (k : ∀ (ys : List Str) (q : Addr), ys.Perm xs → sortedS ys = true → H q = none → Q (.ref q) (upd H q (.lst (ys.map V.str)))) : rSortedS K [.ref p] H Q := ⟨p, xs, rfl, h, h2, k⟩
theorem r_listD {kvs : List (Key × V)} (h : H p = some (.dK kvs)) (k : ∀ q, H q = none → Q (.ref q) (upd H q (.lst (kvs.map fun kv => kV kv.1)))) : rListD [.ref p] H Q := ⟨p, kvs, rfl, h, k⟩
/-- dicts with texts as keys -/
def rDGet : V → V → Hp → VK → Prop := fun x y H Q => ∃ a v, x = .ref a ∧ DGet H a y (some v) ∧ Q v H
def rDGet2 : V → V → V → Hp → VK → Prop := fun x y z H Q => ∃ a o, x = .ref a ∧ DGet H a y o ∧ Q (o.getD z) H
def rDPut : V → V → V → Hp → (Hp → Prop) → Prop := fun x y v H Q => ∃ a H4, x = .ref a ∧ DPut H a y v H4 ∧ Q H4
def rDInB (f : Bool → Bool) : V → V → Hp → VK → Prop := fun y x H Q => ∃ a o, x = .ref a ∧ DGet H a y o ∧ Q (.bl (f o.isSome)) H
theorem r_dget (k : td σ H fun x H1 => ty σ H1 fun y H2 => rDGet x y H2 Q) : tDGet td ty σ H Q := k
theorem r_dgetS {kvs : List (Key × V)} (h : H p = some (.dK kvs)) (h2 : valV kvs (Sum.inr z) = some v) (k : Q v H) : rDGet (.ref p) (.str z) H Q := ⟨p, v, rfl, .inl ⟨kvs, Sum.inr z, .inl h, rfl, h2.symm⟩, k⟩
theorem r_dput (k : tv σ H fun v H1 => td σ H1 fun x H2 => ty σ H2 fun y H3 => rDPut x y v H3 fun H4 => D.nx σ H4) : sDPut td ty tv D σ H := k
theorem r_dputS {kvs : List (Key × V)} {Q : Hp → Prop} (h : H p = some (.dK kvs)) (hl : kvs.length < sizeLine) (k : Q (upd H p (.dK (putK kvs (Sum.inr z) v)))) : rDPut (.ref p) (.str z) v H Q := ⟨p, _, rfl, DPut.k (k := Sum.inr z) h hl, k⟩
theorem r_dget2 {tx : TE} (h : td σ H fun x H1 => ∃ a, x = .ref a ∧ IsD H1 a ∧ ty σ H1 fun y H2 => tx σ H2 fun z H3 => ∃ o, DGet H3 a y o ∧ Q (o.getD z) H3) : tDGet2 td ty tx σ H Q := h
theorem r_dgetO {kvs : List (Key × V)} {R : Option V → Prop} (h : H p = some (.dK kvs)) (k : R (valV kvs (Sum.inr z))) : ∃ o, DGet H p (.str z) o ∧ R o := ⟨_, DGet.k (k := Sum.inr z) h, k⟩
theorem r_isD {kvs : List (Key × V)} {R : Addr → Prop} (h : H p = some (.dK kvs)) (k : R p) : ∃ a, V.ref p = .ref a ∧ IsD H a ∧ R a := ⟨p, rfl, .inl ⟨kvs, .inl h⟩, k⟩
theorem r_din (k : ty σ H fun y H1 => td σ H1 fun x H2 => rDInB id y x H2 Q) : tDIn ty td σ H Q := k
theorem r_dnin (k : ty σ H fun y H1 => td σ H1 fun x H2 => rDInB (fun b => !b) y x H2 Q) : tDNotIn ty td σ H Q := k
theorem r_dinS {kvs : List (Key × V)} {f : Bool → Bool} (h : H p = some (.dK kvs)) (k : Q (.bl (f (valV kvs (Sum.inr z)).isSome)) H) : rDInB f (.str z) (.ref p) H Q := ⟨p, _, rfl, DGet.k (k := Sum.inr z) h, k⟩
theorem r_dnew (k : ∀ p, H p = none → Q (.ref p) (upd H p (.dK []))) : tDNewK σ H Q := k
theorem r_gTup2 {i j : Nat} {Q : L2.St → Hp → Prop} (h : SqT K H p [x, y]) (k : Q ((σ.set i (some x)).set j (some y)) H) : gTup K 2 (gCons (gName i) (gCons (gName j) gNil)) (.ref p) σ H Q := ⟨p, [x, y], rfl, h, rfl, x, [y], rfl, y, [], rfl, rfl, k⟩
theorem r_strI {i : Int} {F : Int → Prop} (h : i.natAbs.log2 < 1920) (k : F i) : ∃ j, [V.int i] = [.int j] ∧ j.natAbs.log2 < 1920 ∧ F j := ⟨i, rfl, h, k⟩
theorem r_strS {i : Str} {F : Str → Prop} (k : F i) : ∃ j, [V.str i] = [.str j] ∧ F j := ⟨i, rfl, k⟩
theorem r_tupL {xs : List V} {F : Addr → Prop} {G : List V → Addr → Prop} (h : SqL K H p xs) (k : ∀ l, H l = none → G xs l) : ∃ q ys, [V.ref p] = [.ref q] ∧ ((SqL K H q ys ∧ ∀ l, H l = none → G ys l) ∨ (SqT K H q ys ∧ F q)) := ⟨p, xs, rfl, .inl ⟨h, k⟩⟩
theorem r_js {t : TE} {ts : List TE} {acc : Str} {Q : Str → Hp → Prop} (k : t σ H fun x H1 => ∃ y : Str, x = .str y ∧ (acc ++ y).length ≤ sizeLine ∧ tJs ts (acc ++ y) σ H1 Q) : tJs (t :: ts) acc σ H Q := k
theorem r_js0 {acc : Str} {Q : Str → Hp → Prop} (k : Q acc H) : tJs [] acc σ H Q := k
theorem r_jsS {y : Str} {A B : Str → Prop} (h : A y) (k : B y) : ∃ z, V.str y = .str z ∧ A z ∧ B z := ⟨y, rfl, h, k⟩
theorem r_fmt (k : te σ H fun x H1 => (∃ y : Str, x = .str y ∧ y.length ≤ sizeLine ∧ Q (.str y) H1) ∨ ∃ i : Int, x = .int i ∧ i.natAbs.log2 < 1920 ∧ Q (.str (toString i)) H1) : tFmt te σ H Q := k
end
/-! ### comprehensions over a text -/
section
variable {K : PySem.W.Frag} {σ : L2.St} {H : Hp} {Q : VK} {te tl : TE} {tt : TT} {G : TG} {vs : List Nat}
def CompS (G : TG) (tt : TT) (te : TE) (vs : List Nat) (σ : L2.St) (Q : VK) (x : V) (H1 : Hp) : Prop := ∃ z, x = .str z ∧ CompW (Its z) G tt te vs σ Q H1
theorem r_lcS (k : tl σ H fun x H1 => CompS G tt te vs σ Q x H1) : tLc (iStr tl) G tt te vs σ H Q := k
theorem lcS_go {z : Str} (Pv : Addr → Nat → List V → Hp → Prop) (h0 : ∀ D, H D = none → Pv D 0 [] (upd H D (.lst [])))
    (hs : ∀ D (i : Nat) c acc H', z.cps[i]? = some c → H' D = some (.lst acc) → Pv D i acc H' → G (.str ⟨#[c]⟩) (wipe σ vs) H' fun σ2 H2 => wipe σ2 vs = wipe σ vs ∧ tt σ2 H2 fun b H3 =>
      if b = true then te σ2 H3 fun y H4 => ∃ acc, H4 D = some (.lst acc) ∧ acc.length < sizeLine ∧ (∃ ac, (upd H4 D (.lst (acc ++ [y]))) D = some (.lst ac) ∧ Pv D (i + 1) ac (upd H4 D (.lst (acc ++ [y])))) else ∃ ac, H3 D = some (.lst ac) ∧ Pv D (i + 1) ac H3)
    (hd : ∀ D acc H', H D = none → H' D = some (.lst acc) → Pv D z.cps.size acc H' → Q (.ref D) H') : CompS G tt te vs σ Q (.str z) H :=
  ⟨z, rfl, fun D hD => lc_it (walk_str (z := z)) (fun i H' => ∃ acc, H' D = some (.lst acc) ∧ Pv D i acc H') ⟨[], upd_same, h0 D hD⟩ (fun _ _ _ _ => True.intro) (fun i x H' H2 hi ⟨acc, ha, p⟩ ⟨e, c, hc, hx⟩ => by subst e; subst hx; exact hs D i c acc _ hc ha p) fun H' ⟨acc, ha, p⟩ => hd D acc H' hD ha p⟩
end
namespace Wr
open PySem PySem.Spec PyProof.Rows L2
/-! ### forms written -/
theorem app_assoc (x y z : Str) : x ++ y ++ z = x ++ (y ++ z) := by
  show (⟨x.cps ++ y.cps ++ z.cps⟩ : Str) = ⟨x.cps ++ (y.cps ++ z.cps)⟩
  rw [Array.append_assoc]
theorem emp_app (x : Str) : Str.empty ++ x = x := by
  show (⟨#[] ++ x.cps⟩ : Str) = x
  rw [Array.empty_append]
theorem len_app (x y : Str) : (x ++ y).length = x.length + y.length := Array.size_append
theorem ne_emp {x : Str} (h : 0 < x.length) : x ≠ Str.empty := by rintro rfl; cases h
def num (i : Int) : Str := Str.ofString (toString i)
theorem of_app (s t : String) : Str.ofString (s ++ t) = Str.ofString s ++ Str.ofString t := by
  rw [Str.ofString_eq_toList, Str.ofString_eq_toList, Str.ofString_eq_toList]
  show _ = (⟨(s.toList.map Char.toNat).toArray ++ (t.toList.map Char.toNat).toArray⟩ : Str)
  rw [String.toList_append, List.map_append, List.append_toArray]
theorem num_neg {i : Int} (h : i < 0) : num i = Str.ofString "-" ++ num (i.natAbs : Int) := by
  unfold num
  rw [PyProof.Rows.toString_neg h, of_app, show (0 - i) = ((i.natAbs : Nat) : Int) by omega]
theorem num_len {i : Int} {k : Nat} (hk : 0 < k) (h : i.natAbs.log2 < k) : (num i).length ≤ k + 5 := by
  have e := int_text_length_le (k := k) hk h
  unfold num
  rw [PySem.ofString_length]; omega
def sp : Str := Str.ofString " "
def sg (w : Int) : Str := if w < 0 then Str.ofString "-" else Str.ofString "+"
/-- one term -/
def part (w : Int) (x : Str) : Str := if (w.natAbs : Int) = 1 then x else num (w.natAbs : Int) ++ sp ++ x
abbrev Pt := Int × Str
/-- the parts of a form -/
def pts (ts : List Fm.Tm) (c : Int) : List Pt := (ts.map fun p => (p.2, part p.2 p.1)) ++ (if c ≠ 0 ∨ ts = [] then [(c, num (c.natAbs : Int))] else [])
def tailW (ps : List Pt) : List Str := ps.flatMap fun p => [sg p.1, p.2]
def first (p : Pt) : Str := if p.1 < 0 then Str.ofString "-" ++ p.2 else p.2
def words : List Pt → List Str
  | [] => []
  | p :: r => first p :: tailW r
/-- as the program writes it -/
def prog (ts : List Fm.Tm) (c : Int) : Str := Str.join sp (words (pts ts c))
/-- as the law writes it -/
def step (line : Str) (p : Fm.Tm) : Str := (if line ≠ Str.empty then line ++ sp ++ sg p.2 ++ sp else if p.2 < 0 then Str.ofString "-" else line) ++ part p.2 p.1
def due (ts : List Fm.Tm) (c : Int) : Str := if ts = [] then num c else
  if 0 < c then ts.foldl step Str.empty ++ Str.ofString " + " ++ num c else if c < 0 then ts.foldl step Str.empty ++ Str.ofString " - " ++ num (-c) else ts.foldl step Str.empty
theorem join_snoc (s : Str) (t : Str) : ∀ (y : Str) (ws : List Str), Str.join s (y :: (ws ++ [t])) = Str.join s (y :: ws) ++ s ++ t
  | y, [] => rfl
  | y, z :: ws => by
    show y ++ s ++ Str.join s (z :: (ws ++ [t])) = (y ++ s ++ Str.join s (z :: ws)) ++ s ++ t
    rw [join_snoc s t z ws, ← app_assoc, ← app_assoc]
theorem part_pos {w : Int} {x : Str} (h : 0 < x.length) : 0 < (part w x).length := by
  unfold part; split
  · exact h
  · rw [len_app]; omega
theorem fold_step : ∀ (r : List Fm.Tm) (y : Str) (ws : List Str), 0 < (Str.join sp (y :: ws)).length → (∀ p ∈ r, 0 < p.1.length) →
    r.foldl step (Str.join sp (y :: ws)) = Str.join sp (y :: (ws ++ tailW (r.map fun p => (p.2, part p.2 p.1)))) ∧ 0 < (r.foldl step (Str.join sp (y :: ws))).length
  | [], y, ws, h, _ => ⟨by simp [tailW], h⟩
  | p :: r, y, ws, h, hn => by
    have e : step (Str.join sp (y :: ws)) p = Str.join sp (y :: (ws ++ [sg p.2, part p.2 p.1])) := by
      unfold step
      rw [if_pos (ne_emp h), show ws ++ [sg p.2, part p.2 p.1] = (ws ++ [sg p.2]) ++ [part p.2 p.1] by simp, join_snoc, join_snoc]
    have h2 : 0 < (Str.join sp (y :: (ws ++ [sg p.2, part p.2 p.1]))).length := by
      rw [← e]; unfold step; rw [len_app]; have := part_pos (w := p.2) (hn p (by simp)); omega
    have ih := fold_step r y (ws ++ [sg p.2, part p.2 p.1]) h2 fun q hq => hn q (by simp [hq])
    rw [List.foldl_cons, e]
    refine ⟨?_, ih.2⟩
    rw [ih.1]
    congr 2
    simp [tailW]
/-- both write the same -/
theorem same {ts : List Fm.Tm} {c : Int} (hn : ∀ p ∈ ts, 0 < p.1.length) : prog ts c = due ts c := by
  unfold prog due pts
  cases ts with
  | nil =>
    rw [if_pos rfl]
    simp only [List.map_nil, List.nil_append, or_true, if_true, words, tailW, List.flatMap_nil]
    show first (c, num (c.natAbs : Int)) = _
    unfold first
    split
    · next h => exact (num_neg h).symm
    · next h => show num (c.natAbs : Int) = _; rw [show ((c.natAbs : Nat) : Int) = c by have h' : ¬ c < 0 := h; omega]
  | cons p r =>
    rw [if_neg (show ¬ (p :: r = []) by simp)]
    have s0 : step Str.empty p = first (p.2, part p.2 p.1) := by
      unfold step first
      rw [if_neg (by simp)]
      split
      · rfl
      · exact emp_app _
    have h1 : 0 < (Str.join sp [first (p.2, part p.2 p.1)]).length := by
      show 0 < (first (p.2, part p.2 p.1)).length
      have := part_pos (w := p.2) (hn p (by simp))
      unfold first; split
      · rw [len_app]; dsimp only; omega
      · exact this
    have f := fold_step r (first (p.2, part p.2 p.1)) [] h1 fun q hq => hn q (by simp [hq])
    have f1 : (p :: r).foldl step Str.empty = Str.join sp (first (p.2, part p.2 p.1) :: tailW (r.map fun p => (p.2, part p.2 p.1))) := by
      rw [List.foldl_cons, s0]; exact f.1
    rw [f1]
    have wc : ∀ t : Pt, words (((p :: r).map fun p => (p.2, part p.2 p.1)) ++ [t]) = first (p.2, part p.2 p.1) :: (tailW (r.map fun p => (p.2, part p.2 p.1)) ++ [sg t.1] ++ [t.2]) := fun t => by
      simp [words, tailW]
    by_cases h : c = 0
    · subst h
      rw [if_neg (by simp), if_neg (by decide), if_neg (by decide), List.append_nil]; rfl
    · rw [if_pos (.inl h), wc, join_snoc, join_snoc]
      dsimp only
      by_cases h0 : 0 < c
      · rw [if_pos h0]
        unfold sg
        rw [if_neg (by omega), show ((c.natAbs : Nat) : Int) = c by omega, show Str.ofString " + " = sp ++ (Str.ofString "+" ++ sp) by decide +kernel]
        simp only [app_assoc]
      · rw [if_neg h0, if_pos (by omega)]
        unfold sg
        rw [if_pos (by omega), show ((c.natAbs : Nat) : Int) = -c by omega, show Str.ofString " - " = sp ++ (Str.ofString "-" ++ sp) by decide +kernel]
        simp only [app_assoc]
theorem tailW_len : ∀ ps : List Pt, (tailW ps).length = 2 * ps.length
  | [] => rfl
  | p :: ps => by
    have := tailW_len ps
    show (sg p.1 :: p.2 :: tailW ps).length = _
    simp only [List.length_cons, this]; omega
theorem tailW_snoc (ps : List Pt) (p : Pt) : tailW (ps ++ [p]) = tailW ps ++ [sg p.1, p.2] := by simp [tailW]
theorem tailW_mem {ps : List Pt} {y : Str} (h : y ∈ tailW ps) : (∃ w, y = sg w) ∨ ∃ p ∈ ps, y = p.2 := by
  obtain ⟨p, hp, hy⟩ := List.mem_flatMap.mp h
  rcases List.mem_cons.mp hy with e | e
  · exact .inl ⟨p.1, e⟩
  · exact .inr ⟨p, hp, List.mem_singleton.mp e⟩
theorem sum_len {B : Nat} : ∀ {ys : List Str}, (∀ y ∈ ys, y.length ≤ B) → (ys.map (·.length)).sum ≤ ys.length * B
  | [], _ => by simp
  | y :: ys, h => by
    have a := h y (by simp)
    have b := sum_len (B := B) (ys := ys) fun z hz => h z (by simp [hz])
    rw [List.map_cons, List.sum_cons, List.length_cons, Nat.succ_mul]; omega
end Wr
/-! ### a row of objects, each told by its item -/
section
variable {α : Type} {f : α → HO} {H H' : Hp}
def AllAt (f : α → HO) (H : Hp) : List Addr → List α → Prop
  | [], [] => True
  | a :: as, x :: xs => H a = some (f x) ∧ AllAt f H as xs
  | _, _ => False
theorem AllAt.len : ∀ {as : List Addr} {xs : List α}, AllAt f H as xs → as.length = xs.length
  | [], [], _ => rfl
  | _ :: _, _ :: _, h => congrArg Nat.succ (AllAt.len h.2)
  | [], _ :: _, h => h.elim
  | _ :: _, [], h => h.elim
theorem AllAt.get : ∀ {as : List Addr} {xs : List α} {i : Nat} {a : Addr}, AllAt f H as xs → as[i]? = some a → ∃ x, xs[i]? = some x ∧ H a = some (f x)
  | [], _, _, _, _, e => by simp at e
  | _ :: _, [], _, _, h, _ => h.elim
  | b :: as, p :: ts, 0, a, h, e => by
    have : b = a := by simpa using e
    subst this; exact ⟨p, rfl, h.1⟩
  | b :: as, p :: ts, i + 1, a, h, e => by
    obtain ⟨q, h1, h2⟩ := AllAt.get (i := i) h.2 (by simpa using e)
    exact ⟨q, by simpa using h1, h2⟩
theorem AllAt.mono : ∀ {as : List Addr} {xs : List α}, AllAt f H as xs → (∀ a x, a ∈ as → x ∈ xs → H a = some (f x) → H' a = some (f x)) → AllAt f H' as xs
  | [], [], _, _ => trivial
  | a :: as, p :: ts, h, k => ⟨k a p (by simp) (by simp) h.1, h.2.mono fun b q hb hq => k b q (by simp [hb]) (by simp [hq])⟩
  | [], _ :: _, h, _ => h.elim
  | _ :: _, [], h, _ => h.elim
theorem AllAt.app : ∀ {as bs : List Addr} {xs ys : List α}, AllAt f H as xs → AllAt f H bs ys → AllAt f H (as ++ bs) (xs ++ ys)
  | [], _, [], _, _, k => k
  | _ :: _, _, _ :: _, _, h, k => ⟨h.1, h.2.app k⟩
  | [], _, _ :: _, _, h, _ => h.elim
  | _ :: _, _, [], _, h, _ => h.elim
theorem AllAt.keep0 {as : List Addr} {xs : List α} (h : AllAt f H as xs) (k : Keep [] H H') : AllAt f H' as xs := h.mono fun a p _ _ e => k a _ (by simp) e
/-- kept where the changed addresses hold other things -/
theorem AllAt.keep {M : List Addr} {as : List Addr} {xs : List α} (h : AllAt f H as xs) (k : Keep M H H') (n : ∀ m ∈ M, ∀ x, H m ≠ some (f x)) : AllAt f H' as xs := h.mono fun a p _ _ e => k a _ (fun hm => n a hm p e) e
end
/-! ### loops and comprehensions over zip of two lists, dict comprehensions over the items of a dict -/
section
variable {K : PySem.W.Frag} {σ : L2.St} {H : Hp} {Q : VK} {te tk tv : TE} {tt : TT} {G : TG} {tas : TA} {vs : List Nat} {ts : TS} {D : Ends}
def ForW (J : It) (G : TG) (ts : TS) (D : Ends) (σ : L2.St) (H : Hp) : Prop := ∃ W : Nat → Nat → L2.St → Hp → Prop, (∃ m, W 0 m σ H) ∧ ∀ i m σ H, W i m σ H →
  (J.stop i H ∧ D.nx σ H) ∨ (J.go i H ∧ ∃ N : L2.St → Hp → Prop, (∀ σ' H', N σ' H' → ∃ m', m' < m ∧ W (i + 1) m' σ' H') ∧ ∀ x H', J.yld i H x H' → G x σ H' fun σ2 H2 => ts { D with nx := N, ct := N, bk := D.nx } σ2 H2)
def ForZ (K : PySem.W.Frag) (G : TG) (ts : TS) (D : Ends) (σ : L2.St) (us : List V) (H : Hp) : Prop := ∃ a b xs ys, us = [.ref a, .ref b] ∧ SqL K H a xs ∧ SqL K H b ys ∧ ForW (Itz K a b) G ts D σ H
theorem r_forZ (k : tas σ H fun us H1 => ForZ K G ts D σ us H1) : tFor (iZip K tas) G ts D σ H := k
theorem forZ_go {a b : Addr} {xs ys : List V} (hl : xs.length = ys.length) (Pv : Nat → L2.St → Hp → Prop) (hx : SqL K H a xs) (hy : SqL K H b ys) (h0 : Pv 0 σ H) (hq : ∀ i σ' H', Pv i σ' H' → SqL K H' a xs ∧ SqL K H' b ys)
    (hs : ∀ (i : Nat) (x y : V) (T : Addr) σ' H', xs[i]? = some x → ys[i]? = some y → Pv i σ' H' → H' T = none → G (.ref T) σ' (upd H' T (.tup [x, y])) fun σ2 H2 => ts { D with nx := Pv (i + 1), ct := Pv (i + 1), bk := D.nx } σ2 H2)
    (hd : ∀ σ' H', Pv xs.length σ' H' → D.nx σ' H') : ForZ K G ts D σ [.ref a, .ref b] H := ⟨a, b, xs, ys, rfl, hx, hy, RZ.for_zipL hl Pv h0 hq hs hd⟩
def CompZ (K : PySem.W.Frag) (G : TG) (tt : TT) (te : TE) (vs : List Nat) (σ : L2.St) (Q : VK) (us : List V) (H1 : Hp) : Prop := ∃ a b xs ys, us = [.ref a, .ref b] ∧ SqL K H1 a xs ∧ SqL K H1 b ys ∧ CompW (Itz K a b) G tt te vs σ Q H1
theorem r_lcZ (k : tas σ H fun us H1 => CompZ K G tt te vs σ Q us H1) : tLc (iZip K tas) G tt te vs σ H Q := k
theorem lcZ_go {a b : Addr} {xs ys : List V} (hl : xs.length = ys.length) (Pv : Addr → Nat → List V → Hp → Prop) (hx : SqL K H a xs) (hy : SqL K H b ys) (h0 : ∀ D, H D = none → Pv D 0 [] (upd H D (.lst []))) (hq : ∀ D i acc H', H D = none → Pv D i acc H' → SqL K H' a xs ∧ SqL K H' b ys)
    (hs : ∀ D (i : Nat) x y T acc H', xs[i]? = some x → ys[i]? = some y → H D = none → H' D = some (.lst acc) → Pv D i acc H' → H' T = none → G (.ref T) (wipe σ vs) (upd H' T (.tup [x, y])) fun σ2 H2 => wipe σ2 vs = wipe σ vs ∧ tt σ2 H2 fun b H3 =>
      if b = true then te σ2 H3 fun y H4 => ∃ acc, H4 D = some (.lst acc) ∧ acc.length < sizeLine ∧ (∃ ac, (upd H4 D (.lst (acc ++ [y]))) D = some (.lst ac) ∧ Pv D (i + 1) ac (upd H4 D (.lst (acc ++ [y])))) else ∃ ac, H3 D = some (.lst ac) ∧ Pv D (i + 1) ac H3)
    (hd : ∀ D acc H', H D = none → H' D = some (.lst acc) → Pv D xs.length acc H' → Q (.ref D) H') : CompZ K G tt te vs σ Q [.ref a, .ref b] H :=
  ⟨a, b, xs, ys, rfl, hx, hy, fun D hD => lc_it (walk_zip (n := xs.length) (by omega)) (fun i H' => ∃ acc, H' D = some (.lst acc) ∧ Pv D i acc H') ⟨[], upd_same, h0 D hD⟩ (fun i H' _ ⟨acc, _, p⟩ => hq D i acc H' hD p)
    (fun i v H1 H' hi ⟨acc, ha, p⟩ ⟨T, x, y, ev, hT, eH, ex, ey⟩ => by subst ev eH; exact hs D i x y T acc H1 ex ey hD ha p hT) fun H' ⟨acc, ha, p⟩ => hd D acc H' hD ha p⟩
/-- a target (x, y), z -/
theorem r_gTup21 {p T : Addr} {x y z : V} {i j k : Nat} {Q : L2.St → Hp → Prop} (h : SqT K H T [.ref p, z]) (h2 : SqT K H p [x, y]) (q : Q (((σ.set i (some x)).set j (some y)).set k (some z)) H) :
    gTup K 2 (gCons (gTup K 2 (gCons (gName i) (gCons (gName j) gNil))) (gCons (gName k) gNil)) (.ref T) σ H Q :=
  ⟨T, [.ref p, z], rfl, h, rfl, .ref p, [z], rfl, ⟨p, [x, y], rfl, h2, rfl, x, [y], rfl, y, [], rfl, rfl, z, [], rfl, rfl, q⟩⟩
/-- a dict comprehension over a walk -/
theorem dc_it {J : It} {n : Nat} {Go : Hp → Prop} {Y : Nat → Hp → V → Hp → Prop} (w : Walk J n Go Y) {H1 : Hp} {D : Addr} {Qd : Hp → Prop} (Pv : Nat → Hp → Prop) (h0 : Pv 0 (upd H1 D (.dK []))) (hG : ∀ i H, i ≤ n → Pv i H → Go H)
    (hs : ∀ i x H H', i < n → Pv i H → Y i H x H' → G x (wipe σ vs) H' fun σ2 H2 => wipe σ2 vs = wipe σ vs ∧ tt σ2 H2 fun b H3 =>
      if b = true then tk σ2 H3 fun y H4 => tv σ2 H4 fun z H5 => ∃ kvs k, y = kV k ∧ H5 D = some (.dK kvs) ∧ kvs.length < sizeLine ∧ Pv (i + 1) (upd H5 D (.dK (putK kvs k z))) else Pv (i + 1) H3) (hd : ∀ H, Pv n H → Qd H) :
    ∃ W : Nat → Nat → Hp → Prop, (∃ m, W 0 m (upd H1 D (.dK []))) ∧ ∀ i m H, W i m H →
      (J.stop i H ∧ Qd H) ∨ (J.go i H ∧ ∃ Nx : Hp → Prop, (∀ H', Nx H' → ∃ m', m' < m ∧ W (i + 1) m' H') ∧ ∀ x H', J.yld i H x H' → G x (wipe σ vs) H' fun σ2 H2 => wipe σ2 vs = wipe σ vs ∧ tt σ2 H2 fun b H3 =>
        if b = true then tk σ2 H3 fun y H4 => tv σ2 H4 fun z H5 => ∃ kvs k, y = kV k ∧ H5 D = some (.dK kvs) ∧ kvs.length < sizeLine ∧ Nx (upd H5 D (.dK (putK kvs k z))) else Nx H3) := by
  let Turn : Nat → Nat → Hp → Prop := fun i left H => left + i = n ∧ Pv i H
  refine ⟨Turn, ⟨n, rfl, h0⟩, fun i left H ⟨sum, p⟩ => ?_⟩
  have stands := hG i H (by omega) p
  rcases Nat.eq_or_lt_of_le (show i ≤ n by omega) with full | more
  · cases full
    exact .inl ⟨w.stops H stands, hd H p⟩
  · exact .inr ⟨w.goes i H more stands, Pv (i + 1), fun H' p' => ⟨left - 1, by omega, by omega, p'⟩, fun v H' y => hs i v H H' more p (w.yields i H v H' more stands y)⟩
/-- {k: v for k, v in d.items() if ..} where d is looked up by a reading, locked for the time -/
theorem dcI_go {td : TE} {d : Addr} {kvs : List (Key × V)} (hd : H d = some (.dK kvs)) (up : ∀ od (Q' : VK), (∀ v H1, v = .ref d ∧ H1 = upd H d (.frz od (.dK kvs)) → Q' v H1) → td σ (upd H d (.frz od (.dK kvs))) Q')
    (Pv : Obj → Addr → Nat → List (Key × V) → Hp → Prop) (h0 : ∀ od D, upd H d (.frz od (.dK kvs)) D = none → Pv od D 0 [] (upd (upd H d (.frz od (.dK kvs))) D (.dK []))) (hG : ∀ od D i acc H', Pv od D i acc H' → H' d = some (.frz od (.dK kvs)))
    (hs : ∀ od D (i : Nat) k v T acc H', kvs[i]? = some (k, v) → upd H d (.frz od (.dK kvs)) D = none → H' D = some (.dK acc) → Pv od D i acc H' → H' T = none → G (.ref T) (wipe σ vs) (upd H' T (.tup [kV k, v])) fun σ2 H2 => wipe σ2 vs = wipe σ vs ∧ tt σ2 H2 fun b H3 =>
      if b = true then tk σ2 H3 fun y H4 => tv σ2 H4 fun z H5 => ∃ acc k, y = kV k ∧ H5 D = some (.dK acc) ∧ acc.length < sizeLine ∧ (∃ ac, (upd H5 D (.dK (putK acc k z))) D = some (.dK ac) ∧ Pv od D (i + 1) ac (upd H5 D (.dK (putK acc k z)))) else ∃ ac, H3 D = some (.dK ac) ∧ Pv od D (i + 1) ac H3)
    (he : ∀ od D acc H', upd H d (.frz od (.dK kvs)) D = none → H' D = some (.dK acc) → Pv od D kvs.length acc H' → Q (.ref D) (upd H' d (.dK kvs))) : tLockE (tDc (iItems td) G tt tk tv vs) σ H Q := by
  refine ⟨d, .dK kvs, hd, trivial, fun od => up od _ ?_⟩
  rintro v H1 ⟨rfl, rfl⟩
  refine ⟨d, od, kvs, rfl, upd_same, fun D hD => dc_it walk_items (fun i H' => ∃ acc, H' D = some (.dK acc) ∧ Pv od D i acc H') ⟨[], upd_same, h0 od D hD⟩ (fun i H' _ ⟨acc, _, p⟩ => hG od D i acc H' p) ?_ fun H' ⟨acc, ha, p⟩ => ⟨hG _ _ _ _ _ p, he od D acc H' hD ha p⟩⟩
  rintro i v H1 H' hi ⟨acc, ha, p⟩ ⟨T, x, y, ev, hT, eH, ex, ey⟩
  subst ev eH
  replace ex : kvs[i]?.map (fun kv => kV kv.1) = some x := ex
  replace ey : kvs[i]?.map Prod.snd = some y := ey
  cases hk : kvs[i]? with
  | none => rw [hk] at ex; cases ex
  | some kv =>
    rw [hk] at ex ey
    cases ex; cases ey
    exact hs od D i kv.1 kv.2 T acc H1 hk hD ha p hT
theorem Keep.unlock {M : List Addr} {H' : Hp} {d : Addr} {o f : HO} (h : H d = some o) (k : Keep M (upd H d f) H') : Keep M H (upd H' d o) := fun b u n e => by
  by_cases c : b = d
  · subst c; rw [h] at e; cases e; exact upd_same
  · rw [upd_ne c]; exact k b u n (by rw [upd_ne c]; exact e)
theorem r_any {a : Addr} {bs : List Bool} (h : SqL K H a (bs.map V.bl)) (k : Q (.bl (bs.any id)) H) : rAny K [V.ref a] H Q := ⟨a, bs, rfl, h, k⟩
theorem r_truD {p : Addr} {kvs : List (Key × V)} {QB : Bool → Hp → Prop} (h : H p = some (.dK kvs)) (k : QB (!kvs.isEmpty) H) : ∃ b, TruV K (.ref p) H b ∧ QB b H := ⟨_, .inr (.inr ⟨kvs, h, rfl⟩), k⟩
end
/-! ### == and != of two dicts whose values are the same things -/
def SameV (v : V) : Prop := flatB v = true ∨ ∃ a, v = .ref a
theorem eqAt_sameV {A : Around} {s : Shared} {v : V} {u u' : Value} (r : RelV v u) (r' : RelV v u') (f : SameV v) : SeqAt.EqAt A s u u' true := by
  rcases f with f | ⟨a, rfl⟩
  · exact eqAt_same r r' f
  · cases (show u = Value.ref a from r)
    cases (show u' = Value.ref a from r')
    exact SeqAt.EqAt.same _
theorem hits_same {A : Around} {s : Shared} {ls : List (Key × V)} {lv : List (Key × Value)} (rl : KV ls lv) {us : List (Key × V)} {uv : List (Key × Value)} (ru : KV us uv) :
    (∀ e ∈ us, valV ls e.1 = some e.2 ∧ SameV e.2) → PySem.W.KeqHits A s lv uv true := by
  unfold KV at ru
  induction ru with
  | nil => exact fun _ => .nil
  | @cons e f es fs both more ih =>
    intro all
    have first := all e List.mem_cons_self
    have look : RelO (some e.2) (valueAt lv e.1) := first.1 ▸ rl.val e.1
    obtain ⟨there, found, rel⟩ := look.some_of
    obtain ⟨key, worth⟩ := f
    rw [show e.1 = key from both.1] at found
    show PySem.W.KeqHits A s lv ((key, worth) :: fs) (true && true)
    exact .hit found (eqAt_sameV both.2 rel first.2) (ih fun g hg => all g (List.mem_cons_of_mem _ hg))
def SameD (x y : V) (H : Hp) : Prop := ∃ a b ks ls, x = .ref a ∧ y = .ref b ∧ H a = some (.dK ks) ∧ H b = some (.dK ls) ∧ ks.length = ls.length ∧ (∀ p ∈ ks, valV ls p.1 = some p.2 ∧ SameV p.2)
def rEqSame : R2 := fun x y H Q => SameD x y H ∧ Q (.bl true) H
def rNeSame : R2 := fun x y H Q => SameD x y H ∧ Q (.bl false) H
theorem same_run {X : Cx} {pins : List (Addr × Obj)} {σ : L2.St} {H : Hp} {s : Shared} {x y : V} {v u : Value} (I : Inv X pins σ H s) (rx : RelV x v) (ry : RelV y u) (d : SameD x y H) : ∃ (a b : Addr) (fa fb : List (Key × Value)), v = .ref a ∧ u = .ref b ∧
    (a == sysModules) = false ∧ (b == sysModules) = false ∧ s.heap.DictOf (mixKind X.prog X.w) a fa ∧ s.heap.DictOf (mixKind X.prog X.w) b fb ∧ fa.length = fb.length ∧ PySem.W.KeqHits X.A.in1 s fb fa true := by
  obtain ⟨a, b, ks, ls, rfl, rfl, ha, hb, len, same⟩ := d
  have oa : ObjOk X.prog X.w H s.heap a (.dK ks) := I.hok a _ ha
  have ob : ObjOk X.prog X.w H s.heap b (.dK ls) := I.hok b _ hb
  obtain ⟨_, na, fa, ra, da⟩ := oa
  obtain ⟨_, nb, fb, rb, db⟩ := ob
  exact ⟨a, b, fa, fb, rx, ry, na, nb, da, db, by have h1 := ra.length; have h2 := rb.length; omega, hits_same rb ra same⟩
theorem op_eqSame {X : Cx} (small : X.A.units < cLine) : OpR X (compareOp .Eq) rEqSame := by
  rintro pins s σ H x y v u Q I rx ry ⟨d, q⟩
  obtain ⟨a, b, fa, fb, rfl, rfl, na, nb, da, db, len, hits⟩ := same_run I rx ry d
  exact PySem.W.keq_eq (r := true) na nb da db small (fun _ => hits) ⟨.bl true, H, I, by simp [len]; rfl, q⟩
theorem op_neSame {X : Cx} (small : X.A.units < cLine) : OpR X (compareOp .NotEq) rNeSame := by
  rintro pins s σ H x y v u Q I rx ry ⟨d, q⟩
  obtain ⟨a, b, fa, fb, rfl, rfl, na, nb, da, db, len, hits⟩ := same_run I rx ry d
  exact PySem.W.keq_ne (r := true) na nb da db small (fun _ => hits) ⟨.bl false, H, I, by simp [len]; rfl, q⟩
theorem val_self : ∀ {ks : List (Key × V)}, (ks.map (·.1)).Nodup → ∀ p ∈ ks, valV ks p.1 = some p.2
  | [], _, p, h => by simp at h
  | kv :: ks, n, p, h => by
    rw [List.map_cons, List.nodup_cons] at n
    rcases List.mem_cons.mp h with e | h
    · subst e; unfold valV; simp
    · have ne : kv.1 ≠ p.1 := fun e => n.1 (by rw [e]; exact List.mem_map_of_mem h)
      have ih := val_self n.2 p h
      unfold valV at ih ⊢
      rw [List.find?_cons_of_neg (by simpa using ne)]
      exact ih
theorem same_self {H : Hp} {a b : Addr} {ks : List (Key × V)} (ha : H a = some (.dK ks)) (hb : H b = some (.dK ks)) (n : (ks.map (·.1)).Nodup) (h : ∀ p ∈ ks, SameV p.2) : SameD (.ref a) (.ref b) H :=
  ⟨a, b, ks, ks, rfl, rfl, ha, hb, rfl, fun p hp => ⟨val_self n p hp, h p hp⟩⟩
namespace Dt
/-! ### dicts with tuples as keys: walked by values and by items -/
abbrev Tb := List (List Key × V)
/-- a locked dict, its entries as they are stored -/
theorem raw {X : Cx} {pins : List (Addr × Obj)} {σ : L2.St} {H : Hp} {s : Shared} {d : Addr} {o : Obj} {kvs : Tb} (I : Inv X pins σ H s) (h : H d = some (.frz o (.dT kvs))) :
    (d == sysModules) = false ∧ ∃ (es : Array DictEntry) (ep : Nat), o.data = .dict es ep ∧ es.size = kvs.length ∧ s.heap.DictRaw d es ep ∧
      ∀ (i : Nat) (hi : i < es.size), ∃ (k : List Key) (v : V) (q : Addr), kvs[i]? = some (k, v) ∧ es[i].key = .ref q ∧ H q = some (.tup (k.map kV)) ∧ RelV v es[i].val := by
  obtain ⟨stands, _, apart, cells, pairs, o2, es, ep, stands2, exact, data, list, _⟩ := I.hok d _ h
  obtain rfl : o2 = o := Option.some.inj (stands2.symm.trans stands)
  have len : es.size = cells.length := size_of_entries list
  have len2 : kvs.length = cells.length := Paired.length pairs
  refine ⟨apart, es, ep, data, by omega, ⟨_, stands, exact, data⟩, fun i hi => ?_⟩
  have more : i < kvs.length := by omega
  obtain ⟨c, at1, e1, e2, e3⟩ := L2.paired_get pairs (List.getElem?_eq_getElem more)
  have entry := entry_at list i
  rw [at1, Array.getElem?_eq_getElem hi] at entry
  have entry' : es[i] = entryOfKey (tupleKind (mixKind X.prog X.w)) c := Option.some.inj entry
  refine ⟨kvs[i].1, kvs[i].2, c.2.1, List.getElem?_eq_getElem more, by rw [entry']; rfl, e2, by rw [entry']; exact e3⟩
/-- the values, one by one -/
def Vals (d : Addr) (o : Obj) (kvs : Tb) : It :=
  ⟨fun i H => H d = some (.frz o (.dT kvs)) ∧ i < kvs.length, fun i H x H' => H' = H ∧ ∃ k, kvs[i]? = some (k, x), fun i H => H d = some (.frz o (.dT kvs)) ∧ kvs.length ≤ i⟩
/-- the pairs: the key's own tuple and the value, in a new tuple -/
def Items (d : Addr) (o : Obj) (kvs : Tb) : It :=
  ⟨fun i H => H d = some (.frz o (.dT kvs)) ∧ i < kvs.length, fun i H x H' => ∃ (T q : Addr) (k : List Key) (v : V), kvs[i]? = some (k, v) ∧ H q = some (.tup (k.map kV)) ∧ x = .ref T ∧ H T = none ∧ H' = upd H T (.tup [.ref q, v]), fun i H => H d = some (.frz o (.dT kvs)) ∧ kvs.length ≤ i⟩
section
variable {P : Program} {w : World} {K : PySem.W.Frag} {d : Addr} {o : Obj} {es : Array DictEntry} {ep : Nat} {kvs : Tb}
theorem turn_vals {tg : Expr} (it : Addr) (data : o.data = .dict es ep) : Turn P w K tg (Vals d o kvs) [it] it (fun i h => h.IsValIter it d i es.size ep) := by
  refine ⟨List.mem_singleton.mpr rfl, fun i h st b hb => ?_, fun i h h' st k => st.at fun u e => k it (List.mem_singleton.mpr rfl) u e, ?_, ?_, fun A i s Q E st h => wpAny_pyIter_valiter st h⟩
  · obtain ⟨u, e, _, fields⟩ := st
    rw [List.mem_singleton.mp hb]
    exact ⟨u, e, fun v z => by rw [fields] at z; cases z⟩
  · intro X hP hw hK calm i pins s σ H E I own st go
    subst hP hw hK
    obtain ⟨locked, more⟩ := go
    obtain ⟨g0, g1, g2, g3, g4, g5⟩ := own it (List.mem_singleton.mpr rfl)
    obtain ⟨_, es2, ep2, data2, len, stands, entries⟩ := raw I locked
    obtain ⟨rfl, rfl⟩ := dict_ep data data2
    obtain ⟨k, v, q, at1, _, _, rel⟩ := entries i (by omega)
    refine PySem.wpAny_pyNext_values_item_raw st stands (by omega) fun h' st' but => ?_
    have I' := I.turned (h' := h') (t' := s.toks) (fun b u hb e => (but.2 b hb).trans e) g0 g1 g3 g4 g5
    obtain ⟨oi, e, c, dd⟩ := id st'
    exact ⟨_, rfl, go_of (s := { s with heap := h' }) e c dd (by decide) ⟨v, H, I', rel, ⟨rfl, k, at1⟩, st', fun b hb => (own b hb).1⟩⟩
  · intro X hP hw hK calm i pins s σ H E I own st stop
    subst hP hw hK
    obtain ⟨locked, full⟩ := stop
    obtain ⟨g0, g1, g2, g3, g4, g5⟩ := own it (List.mem_singleton.mpr rfl)
    obtain ⟨_, es2, ep2, data2, len, stands, _⟩ := raw I locked
    obtain ⟨rfl, rfl⟩ := dict_ep data data2
    exact PySem.wpAny_pyNext_values_end_raw (I.ok.hd calm) st stands (by omega) fun h' but => ⟨rfl, I.turned (t' := s.toks) (fun b u hb e => but b u hb e) g0 g1 g3 g4 g5⟩
theorem turn_items {elts : List Expr} {kk : Nat} {tpos : Pos} (it : Addr) (data : o.data = .dict es ep) : Turn P w K (.Tuple elts kk tpos) (Items d o kvs) [it] it (fun i h => ∃ x y, IsItemIter h it d i es.size ep x y) := by
  refine ⟨List.mem_singleton.mpr rfl, fun i h st b hb => ?_, fun i h h' st k => ?_, ?_, ?_, fun A i s Q E st h => ?_⟩
  · obtain ⟨x, y, e⟩ := st
    rw [List.mem_singleton.mp hb]
    exact ⟨_, e, fun v z => nomatch z⟩
  · obtain ⟨x, y, e⟩ := st
    exact ⟨x, y, k it (List.mem_singleton.mpr rfl) _ e⟩
  · intro X hP hw hK calm i pins s σ H E I own st go
    subst hP hw hK
    obtain ⟨locked, more⟩ := go
    obtain ⟨_, es2, ep2, data2, len, stands, entries⟩ := raw I locked
    obtain ⟨rfl, rfl⟩ := dict_ep data data2
    obtain ⟨k, v, q, at1, key, tup, rel⟩ := entries i (by omega)
    obtain ⟨x, y, here⟩ := st
    have young : it < s.heap.objs.size := Heap.lt_size here
    refine PySem.wpAny_pyNext_items_item_raw here stands (by omega) fun h' out pair _ kept => ⟨_, rfl, ?_⟩
    refine wpAny_letOwnedTupleGo_items (s := { s with heap := h' }) out fun h2 back but => ?_
    have pair2 := (but.2 _ (Nat.ne_of_gt young)).trans pair
    have laid : ObjOk X.prog X.w (upd H s.heap.objs.size (.tup [.ref q, v])) h2 s.heap.objs.size (.tup [.ref q, v]) := by
      refine ⟨show 2 ≤ sizeLine by decide, [(es2[i]'(by omega)).key, (es2[i]'(by omega)).val], .cons ?_ (.cons rel .nil), _, pair2, rfl, _, rfl⟩
      rw [key]; rfl
    have I' := I.turnedNew (t' := s.toks) (ch := [it]) (fun b u hb e => (but.2 b (by simpa using hb)).trans (kept b u (by simpa using hb) e)) own (Nat.le_refl _) laid
    refine ⟨.ref s.heap.objs.size, _, I', rfl, ⟨_, q, k, v, at1, tup, rfl, I.hok.fresh (Nat.le_refl _), rfl⟩, ⟨_, _, back⟩, fun b hb => ?_⟩
    rw [List.mem_singleton.mp hb, upd_ne (Nat.ne_of_lt young)]
    exact (own it (List.mem_singleton.mpr rfl)).1
  · intro X hP hw hK calm i pins s σ H E I own st stop
    subst hP hw hK
    obtain ⟨locked, full⟩ := stop
    obtain ⟨g0, g1, g2, g3, g4, g5⟩ := own it (List.mem_singleton.mpr rfl)
    obtain ⟨_, es2, ep2, data2, len, stands, _⟩ := raw I locked
    obtain ⟨rfl, rfl⟩ := dict_ep data data2
    obtain ⟨x, y, here⟩ := st
    exact PySem.wpAny_pyNext_items_end_raw (I.ok.hd calm) here stands (by omega) fun h' but => ⟨rfl, I.turned (t' := s.toks) (fun b u hb e => but b u hb e) g0 g1 g3 g4 g5⟩
  · obtain ⟨x, y, e⟩ := st
    exact PySem.W.kcp_self e h
end
/-! ### d.values() and d.items() of a locked dict, in a loop's head -/
def iValsT (td : TE) : TI := fun σ H R => td σ H fun x H1 => ∃ d o kvs, x = .ref d ∧ H1 d = some (.frz o (.dT kvs)) ∧ R (Vals d o kvs) H1
def iItemsT (td : TE) : TI := fun σ H R => td σ H fun x H1 => ∃ d o kvs, x = .ref d ∧ H1 d = some (.frz o (.dT kvs)) ∧ R (Items d o kvs) H1
section
variable {X : Cx} {tg e : Expr} {td : TE} {apos cpos : Pos}
theorem noDict {s : Shared} {d : Addr} {es : Array DictEntry} {ep : Nat} (h : s.heap.DictRaw d es ep) : ∀ b, Value.ref d = .ref b → ∃ ob, s.heap.get? b = some ob ∧ ob.dict = none := fun b e => by
  obtain ⟨u, hu, exact, _⟩ := h
  cases e
  exact ⟨u, hu, exact.2.1⟩
theorem pi_valuesT (he : PE X e td) (hbase : attributeBase e "values" X.env (eval e X.env) = eval e X.env := by rfl) (hline : (apos.endLine == cpos.line) = true := by rfl) : PI X tg (.Call (.Attribute e "values" apos) [] [] cpos) (iValsT td) := by
  refine ⟨fun pins s σ H R I h => wpAny_Call_method (T := "dict") (id := "dict.values") hbase rfl hline F.plainAttrs_dict F.slot_dict_values F.type_dict_values (thn (he.run pins s σ H _ I h) fun u s1 h1 => ?_)⟩
  obtain ⟨_, H1, I1, rx, d, o, kvs, rfl, locked, q⟩ := h1
  obtain rfl : u = Value.ref d := rx
  obtain ⟨apart, es, ep, data, len, stands, _⟩ := raw I1 locked
  refine ⟨stands.typeIs, noDict stands, ?_⟩
  have over : ∀ b ob, s1.heap.get? b = some ob → (s1.heap.push { cls := .type "dict_values", data := .fields #[.ref d] }).get? b = some ob := fun b ob e => Heap.get?_push_of_some _ e
  have I2 := I1.kept (t' := s1.toks) over
  have fin : wpAny (model X.prog X.w) X.A (pyIter (.ref s1.heap.objs.size)) (PIE X pins σ tg R) X.xe { s1 with heap := s1.heap.push { cls := .type "dict_values", data := .fields #[.ref d] } } :=
    PySem.wpAny_pyIter_values_raw (d := d) ⟨_, Heap.get?_push_size _ rfl, rfl, rfl⟩ (stands.at fun ob e => over d ob e) (pi_one (tk := s1.toks) I2 _ (turn_vals _ data) ⟨_, Heap.get?_push_size _ rfl, rfl, rfl⟩ q)
  show wpAny _ _ (callWith cpos (.builtin "dict.values") [.ref d] [] []) _ X.xe s1
  exact method_meetsIn F.slot_dict_values F.entry_dict_values rfl (PySem.evalArgs_none ⟨rfl, stands.typeIs, F.args_dict_values_1 _, _, PySem.meets_dict_values_raw d apart, ⟨_, _, stands⟩, fin⟩)
theorem pi_itemsT {elts : List Expr} {kk : Nat} {tpos : Pos} (he : PE X e td) (hbase : attributeBase e "items" X.env (eval e X.env) = eval e X.env := by rfl) (hline : (apos.endLine == cpos.line) = true := by rfl) : PI X (.Tuple elts kk tpos) (.Call (.Attribute e "items" apos) [] [] cpos) (iItemsT td) := by
  refine ⟨fun pins s σ H R I h => wpAny_Call_method (T := "dict") (id := "dict.items") hbase rfl hline F.plainAttrs_dict F.slot_dict_items F.type_dict_items (thn (he.run pins s σ H _ I h) fun u s1 h1 => ?_)⟩
  obtain ⟨_, H1, I1, rx, d, o, kvs, rfl, locked, q⟩ := h1
  obtain rfl : u = Value.ref d := rx
  obtain ⟨apart, es, ep, data, len, stands, _⟩ := raw I1 locked
  refine ⟨stands.typeIs, noDict stands, ?_⟩
  have over : ∀ b ob, s1.heap.get? b = some ob → (s1.heap.push { cls := .type "dict_items", data := .fields #[.ref d] }).get? b = some ob := fun b ob e => Heap.get?_push_of_some _ e
  have I2 := I1.kept (t' := s1.toks) over
  have fin : wpAny (model X.prog X.w) X.A (pyIter (.ref s1.heap.objs.size)) (PIE X pins σ (.Tuple elts kk tpos) R) X.xe { s1 with heap := s1.heap.push { cls := .type "dict_items", data := .fields #[.ref d] } } :=
    PySem.wpAny_pyIter_items_raw (d := d) ⟨_, Heap.get?_push_size _ rfl, rfl, rfl⟩ (stands.at fun ob e => over d ob e) (pi_one (tk := s1.toks) I2 _ (turn_items _ data) ⟨.none, .none, Heap.get?_push_size _ rfl⟩ q)
  show wpAny _ _ (callWith cpos (.builtin "dict.items") [.ref d] [] []) _ X.xe s1
  exact method_meetsIn F.slot_dict_items F.entry_dict_items rfl (PySem.evalArgs_none ⟨rfl, stands.typeIs, F.args_dict_items_1 _, _, PySem.meets_dict_items_raw d apart, ⟨_, _, stands⟩, fin⟩)
end
/-! ### a dict comprehension whose keys are tuples -/
/-- D[q] = v by a comprehension, q a tuple -/
theorem dictSetT {X : Cx} {pins : List (Addr × Obj)} {σ : L2.St} {H : Hp} {s : Shared} {E : Value → Shared → Prop} {D q : Addr} {kvs : Tb} {k : List Key} {v : V} {r : Value} {Q : Unit → Shared → Prop} (hu : X.A.units < cLine) (I : Inv X pins σ H s) (at1 : H D = some (.dT kvs)) (few : kvs.length < sizeLine)
    (tup : H q = some (.tup (k.map kV))) (rv : RelV v r) (then1 : ∀ s', Inv X pins σ (upd H D (.dT (putK kvs k v))) s' → Q () s') : wpAny (model X.prog X.w) X.A (dictSet D (.ref q) r) Q E s := by
  obtain ⟨small, apart, cells, pairs, held⟩ := dt_of I.hok at1
  have small2 : cells.length ≤ sizeLine := by rw [← Paired.length pairs]; exact small
  have small3 : (putK kvs k v).length ≤ sizeLine := by have := length_putK kvs k v; omega
  refine wpAny_dictSet_heap (hsz := small2) (show X.A.units < cLine from hu) (key_of I.hok tup) held fun h' held' but => then1 _ ?_
  obtain ⟨u, es, ep, stands, a1, a2, a3, _, a4⟩ := held'
  have pairs' : Paired (fun (p : List Key × V) (c : List Key × Addr × Value) => p.1 = c.1 ∧ (upd H D (.dT (putK kvs k v))) c.2.1 = some (.tup (p.1.map kV)) ∧ RelV p.2 c.2.2) (putK kvs k v) (storedH cells k q r) :=
    KT.keeps (KT.put pairs k tup rv) fun c ys ec => by rw [upd_ne (ne_of ec at1 (fun z => nomatch z))]; exact ec
  exact d_write I (by rw [at1]; exact True.intro) but ⟨u, stands⟩ ⟨small3, apart, _, pairs', u, es, ep, stands, a1, a2, a3, a4⟩
section
variable {X : Cx}
/-- {k: v for target in iter if ..}, the keys tuples: D the new dict -/
def tDcT (wi : TI) (g : TG) (tt : TT) (tk tv : TE) (vs : List Nat) : TE := fun σ H Q => wi σ H fun J H1 => ∀ D, H1 D = none → ∃ W : Nat → Nat → Hp → Prop, (∃ m, W 0 m (upd H1 D (.dT []))) ∧ ∀ i m H, W i m H →
  (J.stop i H ∧ Q (.ref D) H) ∨ (J.go i H ∧ ∃ Nx : Hp → Prop, (∀ H', Nx H' → ∃ m', m' < m ∧ W (i + 1) m' H') ∧ ∀ x H', J.yld i H x H' → g x (wipe σ vs) H' fun σ2 H2 => wipe σ2 vs = wipe σ vs ∧ tt σ2 H2 fun b H3 =>
    if b = true then tk σ2 H3 fun y H4 => tv σ2 H4 fun z H5 => ∃ (kvs : Tb) (k : List Key) (q : Addr), y = .ref q ∧ H5 q = some (.tup (k.map kV)) ∧ H5 D = some (.dT kvs) ∧ kvs.length < sizeLine ∧ Nx (upd H5 D (.dT (putK kvs k z))) else Nx H3)
theorem pe_dcT {kx vx tg iter : Expr} {ifs : List Expr} {scope : Scope} {own : List (Str × Nat)} {pos : Pos} {wi : TI} {g : TG} {tt : TT} {tk tv : TE} (small : X.A.units < cLine) (calm : X.calm = true) (nodup : X.N.Nodup) (hi : PI X tg iter wi) (ok : BlkOk X.N X.env.scope scope own)
    (hg : ∀ (s : Shared) (H : Hp) (C : Addr) (cl : List (Str × Addr)) (fp : List Addr), PG (X.blk s H scope (compEnvC scope cl C X.env) fp) tg g) (ht : ∀ (s : Shared) (H : Hp) (C : Addr) (cl : List (Str × Addr)) (fp : List Addr), PTs (X.blk s H scope (compEnvC scope cl C X.env) fp) ifs tt)
    (hk : ∀ (s : Shared) (H : Hp) (C : Addr) (cl : List (Str × Addr)) (fp : List Addr), PE (X.blk s H scope (compEnvC scope cl C X.env) fp) kx tk) (he : ∀ (s : Shared) (H : Hp) (C : Addr) (cl : List (Str × Addr)) (fp : List Addr), PE (X.blk s H scope (compEnvC scope cl C X.env) fp) vx tv)
    (unfolded : ∀ x, foldedSetIterable iter X.env x = pure x := by intro _; rfl) : PE X (.DictComp kx vx [⟨tg, iter, ifs, 0⟩] scope pos) (tDcT wi g tt tk tv (own.map (·.2))) := by
  refine ⟨fun pins s0 σ H0 Q I0 wish => ?_⟩
  rw [arm_eval_DictComp]
  have bound : ∀ y ∈ scope.names, y.2 = .free → ∃ c, X.env.cells.lookup y.1 = some c := fun y hy e => (ok.free y hy e).elim (fun k => I0.ok.has _ (.inl k)) fun k => I0.ok.has _ (.inr k)
  refine wpAny_comprehension_free (use := none) rfl unfolded (closure_ok bound) ok.kind (fun y hy e => by rw [ok.uniq y hy, e]) (thn (hi.run pins s0 σ H0 _ I0 wish) fun xv sA walked => thn walked fun itv sB arrived => ?_)
  obtain ⟨it, fp, tn, J, HB, rfl, IB, T, stB, fpB, made⟩ := arrived
  refine wpAny_newObj_type (newEnv_comp ?_)
  -- the new dict
  obtain ⟨D, hD⟩ : ∃ D, sB.heap.objs.size = D := ⟨_, rfl⟩
  have free : HB D = none := IB.hok.fresh (Nat.le_of_eq hD)
  obtain ⟨W, ⟨m0, w0⟩, turn⟩ := made D free
  let sC : Shared := { sB with heap := sB.heap.push { cls := .type "dict", data := .dict #[] } }
  have over : ∀ b u, sB.heap.get? b = some u → sC.heap.get? b = some u := fun b u e => Heap.get?_push_of_some _ e
  have IC : Inv X pins σ (upd HB D (.dT [])) sC := IB.laid (t' := sB.toks) over (Nat.le_of_eq hD) (by rw [← hD]; exact dt_empty sB.heap IB.big)
  have fpC : ∀ b ∈ fp, FpOk X pins (upd HB D (.dT [])) b ∧ b < sC.heap.objs.size := fun b hb => by
    obtain ⟨u, e, _⟩ := T.obj _ _ stB b hb
    have lt := Heap.lt_size e
    refine ⟨⟨?_, (fpB b hb).2⟩, by show b < (sB.heap.push _).objs.size; rw [Heap.size_push]; exact Nat.lt_succ_of_lt lt⟩
    rw [upd_ne (by rw [← hD]; exact Nat.ne_of_lt lt)]
    exact (fpB b hb).1
  -- the block of names
  have ID := block_start IC ok nodup fpC
  let cells := cellsFrom (sC.heap.objs.size + 1) scope.names (cloFrom X.env.cells scope.names [])
  have pg := hg sC (upd HB D (.dT [])) sC.heap.objs.size cells fp
  have pt := ht sC (upd HB D (.dT [])) sC.heap.objs.size cells fp
  have pk := hk sC (upd HB D (.dT [])) sC.heap.objs.size cells fp
  have pv := he sC (upd HB D (.dT [])) sC.heap.objs.size cells fp
  let env2 := compEnvC scope cells sC.heap.objs.size X.env
  let X2 := X.blk sC (upd HB D (.dT [])) scope env2 fp
  let sD : Shared := { sC with heap := pushCells (sC.heap.push { cls := .type "dict", data := .dict #[] }) scope.names }
  have stD : tn 0 sD.heap := T.keep _ _ _ (T.keep _ _ _ stB fun b _ u e => over b u e) fun b _ u e => pushCells_keeps _ _ _ _ (Heap.get?_push_of_some _ e)
  have stays : ∀ {σ' : L2.St} {H' : Hp} {s' : Shared}, Inv X2 [] σ' H' s' → (∀ b ∈ fp, H' b = none) → ∀ b ∈ fp, FpOk X2 [] H' b := fun {σ' H' s'} I' none' b hb =>
    ⟨none' b hb, (I'.ok.exf b hb).1, I'.ok.exfs b hb, .inl hb, fun x c e => (I'.ok.exf b hb).2 x c e, fun p hp => absurd (show p ∈ ([] : List (Addr × Obj)) ++ [] from hp) (by simp)⟩
  let Q0 : Value → Shared → Prop := fun v s' => ∃ x H', Inv X pins σ H' s' ∧ RelV x v ∧ Q x H'
  have loop : codeAny (model X.prog X.w) X.A (.compLoop (.DictComp kx vx [⟨tg, iter, ifs, 0⟩] scope pos) 0 (.ref it) (.ref D) env2) (compPost (model X.prog X.w) X.A X.xe none Q0 (.ref D) sC.heap.objs.size) sD := by
    refine compLoop_anyD (fun m s' => ∃ i H', Inv X2 [] (wipe σ (own.map (·.2))) H' s' ∧ tn i s'.heap ∧ (∀ b ∈ fp, H' b = none) ∧ W i m H') ?_ m0 ⟨0, _, ID, stD, fun b hb => (fpC b hb).1.1, w0⟩
    rintro m s1 ⟨i, H1, I1, st1, none1, w1⟩
    rcases turn i m H1 w1 with ⟨stop, last⟩ | ⟨go, Nx, less, step⟩
    · refine thnF (T.done X2 rfl rfl rfl calm i [] s1 _ H1 (fun _ _ => False) I1 (stays I1 none1) st1 stop) fun r s2 ⟨hr, I2⟩ => ?_
      subst hr
      have back : Inv X pins σ H1 s2 := IC.call' (ch := fp) I2.os I2.base I2.hok I2.bare fun b hb => ⟨(fpC b hb).1.2.2.2.1, (fpC b hb).1.2.1, (fpC b hb).1.2.2.2.2.1, (fpC b hb).1.2.2.2.2.2⟩
      have freeC : H1 sC.heap.objs.size = none := I2.free
      obtain ⟨names, held, _⟩ := I2.loc
      refine ⟨names, held, fun h2 but => ?_⟩
      obtain ⟨f0, f1, f2, f3, f4, f5⟩ := IC.fpOk (Nat.le_refl _) freeC
      exact ⟨.ref D, H1, back.turned (t' := s2.toks) (fun b u hb e => (but.2 b hb).trans e) f0 f1 f3 f4 f5, rfl, last⟩
    · refine thnF (T.item X2 rfl rfl rfl calm i [] s1 _ H1 (fun _ _ => False) I1 (stays I1 none1) st1 go) fun r s2 ⟨u, hr, taken⟩ => ?_
      subst hr
      refine thnF taken fun _ s3 ⟨x, H3, I3, r3, y3, st3, none3⟩ => ?_
      refine thnF (pg.run _ s3 _ H3 x u _ (I3.pinned (stays I3 none3) (T.obj _ _ st3)) r3 (step x H3 y3)) fun _ s4 ⟨σ4, H4, I4, wiped, q4⟩ => ?_
      refine thnF (pt.run _ s4 σ4 H4 _ I4 q4) fun b s5 ⟨H5, I5, q5⟩ => ?_
      have turned : ∀ {s' : Shared} {H' : Hp}, Inv X2 ([] ++ pinsAt fp s3.heap) σ4 H' s' → Nx H' → ∃ m', m' < m ∧ ∃ i H', Inv X2 [] (wipe σ (own.map (·.2))) H' s' ∧ tn i s'.heap ∧ (∀ b ∈ fp, H' b = none) ∧ W i m' H' := fun {s' H'} I' nx => by
        obtain ⟨m', lt, w'⟩ := less H' nx
        have pin : ∀ b ∈ fp, ∀ u, s3.heap.get? b = some u → s'.heap.get? b = some u ∧ H' b = none := fun b hb u e =>
          have z := I'.pin (b, u) (List.mem_append_right _ (List.mem_append_right _ (mem_pinsAt hb e)))
          ⟨z.1, z.2.1⟩
        have same : (wipe σ (own.map (·.2))).length = σ4.length := by rw [← wiped, wipe_length]
        refine ⟨m', lt, i + 1, H', (I'.unpinned (pins := [])).weak same (fun j v e => ?_), T.keep _ _ _ st3 fun b hb u e => (pin b hb u e).1, fun b hb => ?_, w'⟩
        · rw [← wiped] at e; exact (wipe_some e).1
        · obtain ⟨u, e, _⟩ := T.obj _ _ st3 b hb
          exact (pin b hb u e).2
      cases b with
      | false => exact turned I5 q5
      | true =>
        refine thnF (pk.run _ s5 σ4 H5 _ I5 q5) fun kv s6 ⟨yk, H6, I6, r6, q6⟩ => ?_
        refine thnF (pv.run _ s6 σ4 H6 _ I6 q6) fun vv s7 ⟨yv, H7, I7, r7, kvs, k, q, ek, tup, at7, few, nx⟩ => ?_
        subst ek
        cases (show kv = Value.ref q from r6)
        exact dictSetT (X := X2) small I7 at7 few tup r7 fun s8 I8 => turned I8 nx
  subst hD
  show codeAny (model X.prog X.w) X.A (.compStart (.DictComp kx vx [⟨tg, iter, ifs, 0⟩] scope pos) 0 (.ref it) (.ref sB.heap.objs.size) env2) (compPost (model X.prog X.w) X.A X.xe none Q0 (.ref sB.heap.objs.size) sC.heap.objs.size) sD
  exact codeAny_compStart_dict loop (T.self X.A 0 _ _ _ stD loop)
end
/-! ### d.setdefault(q, v), the keys tuples -/
def tSetdT (td ty tx : TE) : TE := fun σ H Q => td σ H fun x H1 => ∃ a, x = .ref a ∧ IsD H1 a ∧ ty σ H1 fun y H2 => tx σ H2 fun z H3 => ∃ (kvs : Tb) (k : List Key) (q : Addr), H3 a = some (.dT kvs) ∧ y = .ref q ∧ H3 q = some (.tup (k.map kV)) ∧ kvs.length < sizeLine ∧
  (∀ v, valV kvs k = some v → Q v H3) ∧ (valV kvs k = none → Q z (upd H3 a (.dT (putK kvs k z))))
theorem setdefaultT {X : Cx} {pins : List (Addr × Obj)} {σ : L2.St} {H : Hp} {s : Shared} {a q : Addr} {r : Value} {v : V} {k : List Key} {kvs : Tb} {E Q : Value → Shared → Prop} (small : X.A.units + 1 < cLine) (I : Inv X pins σ H s) (at1 : H a = some (.dT kvs)) (tup : H q = some (.tup (k.map kV))) (rv : RelV v r) (few : kvs.length < sizeLine)
    (there : ∀ w, valV kvs k = some w → ∀ (u : Value) (s' : Shared), Inv X pins σ H s' → RelV w u → Q u s') (new : valV kvs k = none → ∀ (u : Value) (s' : Shared), Inv X pins σ (upd H a (.dT (putK kvs k v))) s' → RelV v u → Q u s') :
    wpAny (model X.prog X.w) X.A (call (.builtin "dict.setdefault") [.ref a, .ref q, r]) Q E s := by
  obtain ⟨fits, apart, cells, pairs, held⟩ := dt_of I.hok at1
  have look := pairs.val k
  refine PySem.call_setdefault_heap (hsz := by rw [← Paired.length pairs]; exact fits) (show X.A.in1.units < cLine from small) (key_of I.hok tup) apart held (fun p hp => ?_) fun hn h' held' but => ?_
  · rw [hp] at look
    cases e : valV kvs k with
    | none => rw [e] at look; exact (show False from look).elim
    | some w => rw [e] at look; exact there w e _ _ (I.tok _) look
  · rw [hn] at look
    cases e : valV kvs k with
    | some w => rw [e] at look; exact (show False from look).elim
    | none =>
      obtain ⟨u, es, ep, stands, a1, a2, a3, _, a4⟩ := held'
      have fits2 : (putK kvs k v).length ≤ sizeLine := by have := length_putK kvs k v; omega
      have pairs' : Paired (fun (p : List Key × V) (c : List Key × Addr × Value) => p.1 = c.1 ∧ (upd H a (.dT (putK kvs k v))) c.2.1 = some (.tup (p.1.map kV)) ∧ RelV p.2 c.2.2) (putK kvs k v) (storedH cells k q r) :=
        KT.keeps (KT.put pairs k tup rv) fun c ys ec => by rw [upd_ne (ne_of ec at1 (fun z => nomatch z))]; exact ec
      exact new e _ _ (d_write I (by rw [at1]; exact True.intro) but ⟨u, stands⟩ ⟨fits2, apart, _, pairs', u, es, ep, stands, a1, a2, a3, a4⟩) rv
theorem pe_setdT {X : Cx} {o e f : Expr} {td ty tx : TE} {apos cpos : Pos} (small : X.A.units + 1 < cLine) (ho : PE X o td) (he : PE X e ty) (hf : PE X f tx) (m : M2 X o "setdefault" apos e f cpos) : PE X (.Call (.Attribute o "setdefault" apos) [e, f] [] cpos) (tSetdT td ty tx) := by
  refine ⟨fun pins s σ H Q I h => wpAny_Call_method m.base m.few m.line PySem.F.plainAttrs_dict PySem.F.slot_dict_setdefault PySem.F.type_dict_setdefault (thn (ho.run pins s σ H _ I h) fun u s1 got => ?_)⟩
  obtain ⟨_, H1, I1, rx, a, rfl, isd, q1⟩ := got
  obtain rfl : u = Value.ref a := rx
  refine ⟨(isD_at I1 isd).1, (isD_at I1 isd).2.1, ?_⟩
  rw [m.trees]
  refine Calls.callWith_builtin rfl (Calls.evalArgs_plain (Calls.spliced_cons (thn (he.run pins s1 σ H1 _ I1 q1) fun key s2 ⟨y, H2, I2, ry, q2⟩ => Calls.spliced_cons (thn (hf.run pins s2 σ H2 _ I2 q2) fun dflt s3 last => Calls.spliced_nil ?_))))
  obtain ⟨z, H3, I3, rz, kvs, k, q, at3, rfl, tup, few, old, new⟩ := last
  cases (show key = Value.ref q from ry)
  exact setdefaultT small I3 at3 tup rz few (fun w hw u s4 I4 ru => ⟨w, _, I4, ru, old w hw⟩) fun hn u s4 I4 ru => ⟨z, _, I4, ru, new hn⟩
/-! ### small rules -/
theorem inD_of {k : Nat} {A : Around} (r : Room k A) : A.units + 65 < cLine := by have := r.un; omega
theorem pa_starK {X : Cx} {K : PySem.W.Frag} {e : Expr} {es : List Expr} {te : TE} {t : TA} {p : Pos} (hK : X.K = K) (he : PE X e te) (hr : PA X es t) (hs : starEach (.Starred e p :: es) X.env = (true, eval e X.env) :: starEach es X.env := by rfl) : PA X (.Starred e p :: es) (tStar K te t) := by
  subst hK; exact pa_star he hr hs
/-- o.m(e, ..) in a try: what is raised is wished for at the caller's slots -/
def tMethSD (C : Addr) (m : Str) (sp : Sp) (dvs : List V) (E : L2.St → XK) (ta : TE) (t : TA) : TE := fun σ H Q => ta σ H fun x H1 => ∃ a dx fs, x = .ref a ∧ H1 a = some (.ins C dx fs) ∧ fs.lookup m = none ∧ t σ H1 fun vs H2 => sp (x :: vs ++ dvs) H2 Q (E σ)
theorem pe_methSD {X : Cx} {CX : CXT} {C f : Addr} {fd : FuncData} {k : Nat} {sp : Sp} {ps : List Str} {ds : List Value} {dvs : List V} {E : L2.St → XK} {m : Str} {o e : Expr} {es : List Expr} {ta : TE} {t : TA} {pos apos : Pos} {pl : Sem Bool} (he : PE X o ta) (c : Cls X.K C) (hm : Meth X.K C m f) (F : FnOk X.prog X.w X.K X.mg X.base CX k f fd ps sp) (hr : Room k X.A)
    (hb : Binds X.K fd ps ds) (hd : L2.Vals dvs ds) (hx : ∀ σ, PassesAt CX X σ (E σ)) (ha : PA X (e :: es) t) (hst : starEach (e :: es) X.env = (false, eval e X.env) :: starEach es X.env := by rfl) (hpl : (backTo pos (starEach es X.env)).any (·.1) = false := by rfl)
    (ht : eval (.Call (.Attribute o m apos) (e :: es) [] pos) X.env = (do
      let ov ← eval o X.env
      standAt apos.atName
      let (g, first) ← holding [ov] (getMethod ov m pl)
      callWith pos g first (backTo pos (starEach (e :: es) X.env)) (backToKw pos (keywordEach [] X.env))) := by rfl) :
    PE X (.Call (.Attribute o m apos) (e :: es) [] pos) (tMethSD C m sp dvs E ta t) := by
  refine ⟨fun pins s σ H Q I h => PySem.W.methodCall_KW (pl := pl) (thn (he.run pins s σ H _ I h) fun u s1 got => ?_) ht⟩
  obtain ⟨_, H1, I1, rx, a, dx, fs, rfl, ea, l, q⟩ := got
  obtain rfl : u = Value.ref a := rx
  refine getmeth_ok I1 ea c hm l (PySem.W.callWith_K (first := [.ref a]) (h₀ := X.base) I.ok.mod.kin hm.kp (thn (ha.run pos pins s1 σ H1 _ I1 q) fun us s2 got2 => ?_) hst hpl)
  obtain ⟨vs, H2, I2, r, q2⟩ := got2
  exact ⟨I2.kIn, run_fnSD (us := .ref a :: us) (vs := .ref a :: vs) F hr hb hd (hx σ) I2 (.cons rfl r) q2⟩
end Dt
/-- a tuple of the written part -/
def SqTK (K : PySem.W.Frag) (a : Addr) (xs : List V) : Prop := ∃ (o : Obj) (its : Array Value) (n : Nat), K.lookup a = some o ∧ o.cls = .type "tuple" ∧ o.data = .seq its n ∧ its.size ≤ sizeLine ∧ L2.Vals xs its.toList
theorem SqTK.at {K : PySem.W.Frag} {a : Addr} {xs : List V} {H : Hp} (h : SqTK K a xs) : SqT K H a xs := .inr h
/-! ### loops over dicts with tuples as keys, and their copies -/
theorem Dt.pe_fldK {X : Cx} {K : PySem.W.Frag} {e : Expr} {f : Str} {ta : TE} {pos : Pos} (hK : X.K = K) (he : PE X e ta) (hb : attributeBase e f X.env (eval e X.env) = eval e X.env) : PE X (.Attribute e f pos) (tFld K ta f) := by subst hK; exact pe_fld he hb
section
variable {d : Addr} {o : Obj} {kvs : Dt.Tb}
theorem walk_valsT : Walk (Dt.Vals d o kvs) kvs.length (fun H => H d = some (.frz o (.dT kvs))) (fun i H x H' => H' = H ∧ ∃ k, kvs[i]? = some (k, x)) :=
  ⟨fun _ _ more q => ⟨q, more⟩, fun _ q => ⟨q, Nat.le_refl _⟩, fun _ _ _ _ _ _ y => y⟩
theorem walk_itemsT : Walk (Dt.Items d o kvs) kvs.length (fun H => H d = some (.frz o (.dT kvs)))
    (fun i H x H' => ∃ (T q : Addr) (k : List Key) (v : V), kvs[i]? = some (k, v) ∧ H q = some (.tup (k.map kV)) ∧ x = .ref T ∧ H T = none ∧ H' = upd H T (.tup [.ref q, v])) :=
  ⟨fun _ _ more q => ⟨q, more⟩, fun _ q => ⟨q, Nat.le_refl _⟩, fun _ _ _ _ _ _ y => y⟩
end
theorem upd_back {H : Hp} {d : Addr} {o f : HO} (h : H d = some o) : upd (upd H d f) d o = H := by
  funext b
  by_cases c : b = d
  · subst c; rw [upd_same, h]
  · rw [upd_ne c, upd_ne c]
section
variable {K : PySem.W.Frag} {σ : L2.St} {H : Hp} {Q : VK} {te tk tv td : TE} {tt : TT} {G : TG} {vs : List Nat} {ts : TS} {D : L2.Ends} {d : Addr} {kvs : Dt.Tb}
/-- for k in d -/
theorem forKT_go (hd : H d = some (.dT kvs)) (up : ∀ od (Q' : VK), Q' (.ref d) (upd H d (.frz od (.dT kvs))) → td σ (upd H d (.frz od (.dT kvs))) Q') (Pv : Obj → Nat → L2.St → Hp → Prop) (h0 : ∀ od, Pv od 0 σ (upd H d (.frz od (.dT kvs)))) (hG : ∀ od i σ' H', Pv od i σ' H' → H' d = some (.frz od (.dT kvs)))
    (hs : ∀ od (i : Nat) k v q σ' H', kvs[i]? = some (k, v) → H' q = some (.tup (k.map kV)) → Pv od i σ' H' → G (.ref q) σ' H' fun σ2 H2 => ts ⟨Pv od (i + 1), fun v H' => H' d = some (.frz od (.dT kvs)) ∧ D.rt v (upd H' d (.dT kvs)), fun σ' H' => H' d = some (.frz od (.dT kvs)) ∧ D.nx σ' (upd H' d (.dT kvs)), Pv od (i + 1)⟩ σ2 H2)
    (he : ∀ od σ' H', Pv od kvs.length σ' H' → D.nx σ' (upd H' d (.dT kvs))) : tLock (tFor (iKeys td) G ts) D σ H := by
  refine ⟨d, .dT kvs, hd, trivial, fun od => up od _ ⟨d, od, rfl, .inr ⟨kvs, upd_same, ?_⟩⟩⟩
  refine for_it walk_keysT (fun i σ' H' => Pv od i σ' H') (h0 od) (fun i σ' H' _ p => hG od i σ' H' p) ?_ fun σ' H' p => ⟨hG _ _ _ _ p, he od σ' H' p⟩
  rintro i x σ' H1 H' hi p ⟨rfl, k, v, q, at1, rfl, tup⟩
  exact hs od i k v q σ' H' at1 tup p
/-- for v in d.values() -/
theorem forVT_go (hd : H d = some (.dT kvs)) (up : ∀ od (Q' : VK), Q' (.ref d) (upd H d (.frz od (.dT kvs))) → td σ (upd H d (.frz od (.dT kvs))) Q') (Pv : Obj → Nat → L2.St → Hp → Prop) (h0 : ∀ od, Pv od 0 σ (upd H d (.frz od (.dT kvs)))) (hG : ∀ od i σ' H', Pv od i σ' H' → H' d = some (.frz od (.dT kvs)))
    (hs : ∀ od (i : Nat) k v σ' H', kvs[i]? = some (k, v) → Pv od i σ' H' → G v σ' H' fun σ2 H2 => ts ⟨Pv od (i + 1), fun v H' => H' d = some (.frz od (.dT kvs)) ∧ D.rt v (upd H' d (.dT kvs)), fun σ' H' => H' d = some (.frz od (.dT kvs)) ∧ D.nx σ' (upd H' d (.dT kvs)), Pv od (i + 1)⟩ σ2 H2)
    (he : ∀ od σ' H', Pv od kvs.length σ' H' → D.nx σ' (upd H' d (.dT kvs))) : tLock (tFor (Dt.iValsT td) G ts) D σ H := by
  refine ⟨d, .dT kvs, hd, trivial, fun od => up od _ ⟨d, od, kvs, rfl, upd_same, ?_⟩⟩
  refine for_it walk_valsT (fun i σ' H' => Pv od i σ' H') (h0 od) (fun i σ' H' _ p => hG od i σ' H' p) ?_ fun σ' H' p => ⟨hG _ _ _ _ p, he od σ' H' p⟩
  rintro i x σ' H1 H' hi p ⟨rfl, k, at1⟩
  exact hs od i k x σ' H' at1 p
/-- [.. for k in d if ..], d locked -/
theorem lcKT_go {od : Obj} (hd : H d = some (.frz od (.dT kvs))) (up : ∀ (Q' : VK), Q' (.ref d) H → td σ H Q') (Pv : Addr → Nat → List V → Hp → Prop) (h0 : ∀ D, H D = none → Pv D 0 [] (upd H D (.lst []))) (hG : ∀ D i acc H', H D = none → Pv D i acc H' → H' d = some (.frz od (.dT kvs)))
    (hs : ∀ D (i : Nat) k v q acc H', kvs[i]? = some (k, v) → H' q = some (.tup (k.map kV)) → H D = none → H' D = some (.lst acc) → Pv D i acc H' → G (.ref q) (wipe σ vs) H' fun σ2 H2 => wipe σ2 vs = wipe σ vs ∧ tt σ2 H2 fun b H3 =>
      if b = true then te σ2 H3 fun y H4 => ∃ acc, H4 D = some (.lst acc) ∧ acc.length < sizeLine ∧ (∃ ac, (upd H4 D (.lst (acc ++ [y]))) D = some (.lst ac) ∧ Pv D (i + 1) ac (upd H4 D (.lst (acc ++ [y])))) else ∃ ac, H3 D = some (.lst ac) ∧ Pv D (i + 1) ac H3)
    (he : ∀ D acc H', H D = none → H' D = some (.lst acc) → Pv D kvs.length acc H' → Q (.ref D) H') : tLc (iKeys td) G tt te vs σ H Q := by
  refine up _ ⟨d, od, rfl, .inr ⟨kvs, hd, fun D hD => ?_⟩⟩
  refine lc_it walk_keysT (fun i H' => ∃ acc, H' D = some (.lst acc) ∧ Pv D i acc H') ⟨[], upd_same, h0 D hD⟩ (fun i H' _ ⟨acc, _, p⟩ => hG D i acc H' hD p) ?_ fun H' ⟨acc, ha, p⟩ => he D acc H' hD ha p
  rintro i x H1 H' hi ⟨acc, ha, p⟩ ⟨rfl, k, v, q, at1, rfl, tup⟩
  exact hs D i k v q acc H' at1 tup hD ha p
theorem dcT_it {J : It} {n : Nat} {Go : Hp → Prop} {Y : Nat → Hp → V → Hp → Prop} (w : Walk J n Go Y) {H1 : Hp} {D : Addr} {Qd : Hp → Prop} (Pv : Nat → Hp → Prop) (h0 : Pv 0 (upd H1 D (.dT []))) (hG : ∀ i H, i ≤ n → Pv i H → Go H)
    (hs : ∀ i x H H', i < n → Pv i H → Y i H x H' → G x (wipe σ vs) H' fun σ2 H2 => wipe σ2 vs = wipe σ vs ∧ tt σ2 H2 fun b H3 =>
      if b = true then tk σ2 H3 fun y H4 => tv σ2 H4 fun z H5 => ∃ (kvs : Dt.Tb) (k : List Key) (q : Addr), y = .ref q ∧ H5 q = some (.tup (k.map kV)) ∧ H5 D = some (.dT kvs) ∧ kvs.length < sizeLine ∧ Pv (i + 1) (upd H5 D (.dT (putK kvs k z))) else Pv (i + 1) H3) (hd : ∀ H, Pv n H → Qd H) :
    ∃ W : Nat → Nat → Hp → Prop, (∃ m, W 0 m (upd H1 D (.dT []))) ∧ ∀ i m H, W i m H →
      (J.stop i H ∧ Qd H) ∨ (J.go i H ∧ ∃ Nx : Hp → Prop, (∀ H', Nx H' → ∃ m', m' < m ∧ W (i + 1) m' H') ∧ ∀ x H', J.yld i H x H' → G x (wipe σ vs) H' fun σ2 H2 => wipe σ2 vs = wipe σ vs ∧ tt σ2 H2 fun b H3 =>
        if b = true then tk σ2 H3 fun y H4 => tv σ2 H4 fun z H5 => ∃ (kvs : Dt.Tb) (k : List Key) (q : Addr), y = .ref q ∧ H5 q = some (.tup (k.map kV)) ∧ H5 D = some (.dT kvs) ∧ kvs.length < sizeLine ∧ Nx (upd H5 D (.dT (putK kvs k z))) else Nx H3) := by
  let Turn : Nat → Nat → Hp → Prop := fun i left H => left + i = n ∧ Pv i H
  refine ⟨Turn, ⟨n, rfl, h0⟩, fun i left H ⟨sum, p⟩ => ?_⟩
  have stands := hG i H (by omega) p
  rcases Nat.eq_or_lt_of_le (show i ≤ n by omega) with full | more
  · cases full
    exact .inl ⟨w.stops H stands, hd H p⟩
  · exact .inr ⟨w.goes i H more stands, Pv (i + 1), fun H' p' => ⟨left - 1, by omega, by omega, p'⟩, fun v H' y => hs i v H H' more p (w.yields i H v H' more stands y)⟩
theorem put_new {k : List Key} {v : V} (h : k ∉ kvs.map (·.1)) : putK kvs k v = kvs ++ [(k, v)] := by
  unfold putK
  rw [if_neg]
  intro e
  obtain ⟨p, hp, g⟩ := List.any_eq_true.mp e
  exact h (List.mem_map.mpr ⟨p, hp, of_decide_eq_true g⟩)
/-- {k: v for k, v in d.items()}: a copy -/
theorem r_copyT {i j : Nat} (hd : H d = some (.dT kvs)) (nd : (kvs.map (·.1)).Nodup) (few : kvs.length ≤ 100000) (up : ∀ od (Q' : VK), Q' (.ref d) (upd H d (.frz od (.dT kvs))) → td σ (upd H d (.frz od (.dT kvs))) Q')
    (hw : ∀ x y, wipe (((wipe σ vs).set i (some x)).set j (some y)) vs = wipe σ vs) (hi : ∀ x y : V, (((wipe σ vs).set i (some x)).set j (some y))[i]? = some (some x)) (hj : ∀ x y : V, (((wipe σ vs).set i (some x)).set j (some y))[j]? = some (some y))
    (q : ∀ D H', Keep [] H H' → H D = none → H' D = some (.dT kvs) → Q (.ref D) H') : tLockE (Dt.tDcT (Dt.iItemsT td) (gTup K 2 (gCons (gName i) (gCons (gName j) gNil))) tYes (tVar i) (tVar j) vs) σ H Q := by
  refine ⟨d, .dT kvs, hd, trivial, fun od => up od _ ⟨d, od, kvs, rfl, upd_same, fun D hD => ?_⟩⟩
  have dne : D ≠ d := by rintro rfl; rw [upd_same] at hD; cases hD
  have hD0 : H D = none := by rw [upd_ne dne] at hD; exact hD
  refine dcT_it walk_itemsT (fun n H' => H' D = some (.dT (kvs.take n)) ∧ H' d = some (.frz od (.dT kvs)) ∧ Keep [] (upd H d (.frz od (.dT kvs))) H') ⟨by rw [upd_same]; simp, by rw [upd_ne (Ne.symm dne)]; exact upd_same, Keep.new hD⟩ (fun n H' _ p => p.2.1) ?_ ?_
  · rintro n x H1 H' more ⟨atD, atd, kp⟩ ⟨T, a, k, v, at1, tup, rfl, hT, rfl⟩
    have kT : Keep [] H1 (upd H1 T (.tup [.ref a, v])) := Keep.new hT
    refine r_gTup2 (sqT_of upd_same) ⟨hw _ _, ?_⟩
    refine r_yes (iteT ?_)
    refine r_var (hi _ _) (r_var (hj _ _) ?_)
    have atD' := kT _ _ (by simp) atD
    have atd' := kT _ _ (by simp) atd
    refine ⟨kvs.take n, k, a, rfl, kT _ _ (by simp) tup, atD', lt_size (by rw [List.length_take]; omega), ?_, by rw [upd_ne (Ne.symm dne)]; exact atd', (kp.trans kT).mut hD⟩
    have fresh : k ∉ (kvs.take n).map (·.1) := fun h => by
      obtain ⟨p, hp, e⟩ := List.mem_map.mp h
      obtain ⟨z, hz⟩ := List.getElem?_of_mem hp
      rw [List.getElem?_take] at hz
      split at hz
      · rename_i lt
        have h1 : (kvs.map (·.1))[z]? = some k := by rw [List.getElem?_map, hz]; exact congrArg some e
        have h2 : (kvs.map (·.1))[n]? = some k := by rw [List.getElem?_map, at1]; rfl
        have := (List.getElem?_inj (List.getElem?_eq_some_iff.mp h1).1 nd).mp (h1.trans h2.symm)
        omega
      · cases hz
    rw [upd_same, put_new fresh, List.take_add_one, at1]; rfl
  · rintro H' ⟨atD, atd, kp⟩
    rw [List.take_length] at atD
    exact ⟨atd, q D _ (Keep.unlock hd kp) hD0 (by rw [upd_ne dne]; exact atD)⟩
end
namespace Dt
open PySem PySem.Spec PyProof.Rows PyProof.V L2 StX
/-! ### == of two dicts with the same keys, tuples, in the same order, and the same values -/
section
variable {prog : Program} {w : World} {Ky : Type} [DecidableEq Ky] {knd : HeapKind prog w Ky} {A : Around} {E : Value → Shared → Prop} {s : Shared}
theorem same_pairsT {nm : String} {a b : Addr} {xa xb : List (Ky × Addr × Value)} {Q : Bool → Shared → Prop} (ha : (a == sysModules) = false) (hb : (b == sysModules) = false) (hu : knd.room A) (da : s.heap.DictOfH knd a xa) (db : s.heap.DictOfH knd b xb)
    (len : xa.length = xb.length) (al : ∀ (i : Nat) x, xa[i]? = some x → ∃ y, xb[i]? = some y ∧ y.1 = x.1 ∧ SeqAt.EqAt A s x.2.2 y.2.2 true) (q : Q true s) : wpAny (model prog w) A (Builtin.Dict.samePairs nm a b) Q E s := by
  obtain ⟨oa, es, ep, hoa, _, hda, hes, hia, _⟩ := da
  obtain ⟨ob, fs, fp, hob, _, hdb, hfs, hib, hnb⟩ := db
  have sa := size_of_entries hes
  have sb := size_of_entries hfs
  unfold Builtin.Dict.samePairs Builtin.Dict.showsAll
  rw [if_neg (show ¬ (a == sysModules) = true by rw [ha]; exact Bool.false_ne_true), if_neg (show ¬ (b == sysModules) = true by rw [hb]; exact Bool.false_ne_true)]
  refine wpAny_bind (wpAny_pure (wpAny_bind (wpAny_pure (wpAny_bind (wpAny_dictEntries hoa hda ?_)))))
  dsimp only
  refine wpAny_bind (wpAny_dictEntries hob hdb ?_)
  have hsz : es.size = fs.size := by omega
  rw [if_neg (by rw [hsz]; simp)]
  refine wpAny_bind (wpAny_dictEpoch hoa hda (wpAny_bind ?_))
  rw [Std.Legacy.Range.forIn_eq_forIn_range']
  simp only [Std.Legacy.Range.size, Nat.sub_zero, Nat.add_sub_cancel, Nat.div_one]
  refine wpAny_forIn_list _ (fun rest r s' => s' = s ∧ r = (none, ()) ∧ ∃ i, rest = List.range' i (es.size - i) ∧ i ≤ es.size) _ ?_ ?_ _ _ ⟨rfl, rfl, 0, by simp, Nat.zero_le _⟩
  · rintro x rest r s' ⟨rfl, rfl, i, hr, hi⟩
    have lt : i < es.size := by
      rcases Nat.lt_or_ge i es.size with h | h
      · exact h
      · rw [Nat.sub_eq_zero_of_le h] at hr; simp at hr
    rw [show es.size - i = (es.size - (i + 1)) + 1 by omega, List.range'_succ] at hr
    injection hr with h1 h2
    subst h1
    obtain ⟨e, he⟩ : ∃ e, xa[x]? = some e := ⟨_, List.getElem?_eq_getElem (by omega)⟩
    obtain ⟨f, hf, ek, ev⟩ := al x e he
    have ge : es[x]? = some (entryOfKey knd e) := by rw [entry_at hes, he]; rfl
    have gf : fs[x]? = some (entryOfKey knd f) := by rw [entry_at hfs, hf]; rfl
    refine wpAny_bind (wpAny_dictEntries hoa hda ?_)
    rw [ge]
    refine wpAny_bind (wpAny_holding (wpAny_bind (wpAny_dictFind_heap hu (hia _ (List.mem_of_getElem? he)) hob hdb hfs hib hnb (fun no => ?_) fun j p hj => ?_)))
    · exact absurd (show xb[x]? = some (e.1, f.2) by rw [hf, ← ek]) (no x _)
    · obtain rfl : j = x := idxH_unique hnb hj (show xb[x]? = some (e.1, f.2) by rw [hf, ← ek])
      refine wpAny_bind (wpAny_dictEntries hob hdb ?_)
      rw [gf]
      refine wpAny_holding (ev _ _ _ _ ?_)
      show wpAny _ _ (if (!true) = true then _ else _) _ _ _
      rw [if_neg (by decide)]
      refine wpAny_bind (wpAny_dictEpoch hoa hda ?_)
      rw [if_neg (by simp)]
      exact wpAny_pure ⟨rfl, rfl, j + 1, h2, lt⟩
  · rintro r s' ⟨rfl, rfl, _⟩
    exact wpAny_pure q
end
theorem kt_both {H : Hp} {kvs : List (List Key × V)} {xa xb : List (List Key × Addr × Value)} (ra : KT H kvs xa) (rb : KT H kvs xb) : xa.length = xb.length ∧
    ∀ (i : Nat) x, xa[i]? = some x → ∃ y p, xb[i]? = some y ∧ y.1 = x.1 ∧ p ∈ kvs ∧ RelV p.2 x.2.2 ∧ RelV p.2 y.2.2 := by
  induction ra generalizing xb with
  | nil =>
    cases rb
    exact ⟨rfl, fun i x h => by simp at h⟩
  | @cons p q ps qs h t ih =>
    cases rb with
    | @cons _ q2 _ qs2 h2 t2 =>
      obtain ⟨l, g⟩ := ih t2
      refine ⟨by rw [List.length_cons, List.length_cons, l], fun i x hx => ?_⟩
      cases i with
      | zero =>
        have e : q = x := by simpa using hx
        subst e
        exact ⟨q2, p, by simp, h2.1.symm.trans h.1, List.mem_cons_self, h.2.2, h2.2.2⟩
      | succ i =>
        obtain ⟨y, p2, a, b, c, d, e⟩ := g i x (by simpa using hx)
        exact ⟨y, p2, by simpa using a, b, List.mem_cons_of_mem _ c, d, e⟩
def rEqSameT : R2 := fun x y H Q => ∃ a b kvs, x = .ref a ∧ y = .ref b ∧ H a = some (.dT kvs) ∧ H b = some (.dT kvs) ∧ (∀ p ∈ kvs, SameV p.2) ∧ Q (.bl true) H
theorem op_eqSameT {X : Cx} (small : X.A.units + 1 < cLine) : OpR X (compareOp .Eq) rEqSameT := by
  rintro pins s σ H x y v u Q I rx ry ⟨a, b, kvs, rfl, rfl, ea, eb, same, q⟩
  cases (show v = Value.ref a from rx)
  cases (show u = Value.ref b from ry)
  obtain ⟨_, na, xa, ra, da⟩ := dt_of I.hok ea
  obtain ⟨_, nb, xb, rb, db⟩ := dt_of I.hok eb
  obtain ⟨len, al⟩ := kt_both ra rb
  refine wpAny_richCompare_same_room (op := .Eq) da.typeIs db.typeIs PySem.F.slot_dict_eq (wpAny_call_entry PySem.F.slot_dict_eq da.typeIs PySem.F.entry_dict_eq ?_ (PySem.F.args_dict_eq_2 _ _)) (by omega)
  show wpAny _ _ (Builtin.Dict.dictSlotArgs "__eq__" ⟨[.ref a, .ref b], []⟩ >>= _) _ _ s
  refine wpAny_bind ?_
  unfold Builtin.Dict.dictSlotArgs
  refine wpAny_bind (wpAny_notOrdered_dict da.typeIs ?_)
  show wpAny _ _ (pure (Value.ref a, Value.ref b)) _ _ s
  refine wpAny_pure (wpAny_bind (wpAny_isInstance (T := "dict") db.typeIs PySem.F.sub_dict_dict ?_))
  simp only [Bool.not_true, Bool.false_eq_true, if_false]
  refine wpAny_bind (wpAny_pure (wpAny_bind (wpAny_pure (wpAny_bind (same_pairsT na nb (show X.A.in1.units < cLine from small) da db len (fun i x hx => ?_) ?_)))))
  · obtain ⟨y, p, hy, ek, hp, r1, r2⟩ := al i x hx
    exact ⟨y, hy, ek, eqAt_sameV r1 r2 (same p hp)⟩
  · refine wpAny_pure ⟨_, rfl, ?_, ?_⟩
    · exact fun x => nomatch x
    · exact ⟨.bl true, H, I, rfl, q⟩
end Dt
namespace Ow
open PySem PySem.Spec PyProof.Rows PyProof.V L2 StX
open PySem.W PySem.Calls
/-! ### x != y where the class has its own __eq__ and object's __ne__ -/
section
variable {prog : Program} {w : World} {M : Model} {A : Around} {E : Value → Shared → Prop} {s : Shared} {K : Frag} {x y C f : Addr} {ox oy : Obj} {od od' : Option Obj}
theorem ifBound_objNe {args : List Value} {Q : Option Value → Shared → Prop} (X : K.In s.heap) (I : InstAt s.heap x ox C od) (hs : findIn K (.ref C) "__ne__" = some (some (.builtin "object.__ne__")))
    (h : wpAny M A (call (.builtin "object.__ne__") (.ref x :: args)) (fun v => Q (some v)) E s) : wpAny M A (callSpecialIfBound? (.ref x) "__ne__" args) Q E s := by
  simp only [callSpecialIfBound?, bindSpecialIfBound?]
  refine wpAny_holding (wpAny_bind (wpAny_bind (wpAny_bind (I.type.here ((looks_findIn X hs).here ?_)))))
  refine wpAny_bind (wpAny_askSetting (wpAny_ite ?_))
  have fin : wpAny M A (call (.builtin "object.__ne__") ([.ref x] ++ args) >>= fun v => pure (some v)) Q E s := wpAny_bind (wpAny_mono h (fun v s' h' => wpAny_pure h') fun _ _ h' => h')
  split
  · exact wpAny_bind (wpAny_of_eq (F.cmp_object.ne.bind _) (wpAny_pure (by exact fin)))
  · exact wpAny_tryCatch (wpAny_bind (wpAny_of_eq (F.cmp_object.ne.bind _) (wpAny_pure (by exact fin))))
theorem entry_ne {Q : Fin → Shared → Prop} (hu : A.units < cLine) (X : K.In s.heap) (I : InstAt s.heap x ox C od) (hs : findIn K (.ref C) "__eq__" = some (some (.ref f))) (hf : isFn K (.ref f) = true)
    (h : wpAny (model prog w) A (call (.ref f) [.ref x, .ref y]) (fun v s' => ∃ b, v = .bool b ∧ Q (.done (.ret (.bool (!b)))) s') E s) : wpAny (model prog w) A (Builtin.«object.__ne__» ⟨[.ref x, .ref y], []⟩) Q E s := by
  have one := ifBound_K (M := model prog w) (args := [.ref y]) (Q := fun r s' => ∃ b, r = some (.bool b) ∧ Q (.done (.ret (.bool (!b)))) s') X I hs hf (wpAny_mono h (fun v s' hv => by obtain ⟨b, rfl, q⟩ := hv; exact ⟨b, rfl, q⟩) fun _ _ e => e)
  obtain ⟨hh, g, d, t, os⟩ := s
  unfold Builtin.«object.__ne__»
  repeat (first
    | with_reducible refine wpAny_cRoomFor hu ?_
    | (refine wpAny_bind (m := callSpecialIfBound? (.ref x) (Str.ofString "__eq__") [.ref y]) (wpAny_mono one (fun r s' hr => ?_) fun _ _ e => e))
    | wp_step)
  · obtain ⟨b, rfl, q⟩ := hr
    repeat (first | exact q | exact wpAny_pure q | exact wpAny_truthy_bool q | (refine wpAny_bind (m := truthy (.bool _)) (wpAny_truthy_bool ?_)) | wp_step)
theorem call_objNe {Q : Value → Shared → Prop} (hu : A.in1.units < cLine) (X : K.In s.heap) (I : InstAt s.heap x ox C od) (hm : mroIn K C (.type "object") = some true) (hs : findIn K (.ref C) "__eq__" = some (some (.ref f))) (hf : isFn K (.ref f) = true)
    (h : wpAny (model prog w) A.in1 (call (.ref f) [.ref x, .ref y]) (fun v s' => ∃ b, v = .bool b ∧ Q (.bool (!b)) s') E s) : wpAny (model prog w) A (call (.builtin "object.__ne__") [.ref x, .ref y]) Q E s :=
  wpAny_call (codeAny_call_builtin F.cmp_object.ne.plain F.cmpEntry_ne (check_slot F.cmpKind_ne F.cmpSplit_ne (I.type.andThen (looks_mroIn X hm)) (F.cmpArgs_ne _ _) (entry_ne hu X I hs hf (wpAny_mono h (fun v s' hv => by obtain ⟨b, e, q⟩ := hv; exact ⟨b, e, q⟩) fun _ _ e => e))))
theorem rc_ownNe {Q : Value → Shared → Prop} (hu0 : A.units < cLine) (hu : A.in1.units < cLine) (X : K.In s.heap) (I : InstAt s.heap x ox C od) (J : InstAt s.heap y oy C od') (hm : mroIn K C (.type "object") = some true) (hn : findIn K (.ref C) "__ne__" = some (some (.builtin "object.__ne__"))) (hs : findIn K (.ref C) "__eq__" = some (some (.ref f))) (hf : isFn K (.ref f) = true)
    (h : wpAny (model prog w) A.in1 (call (.ref f) [.ref x, .ref y]) (fun v s' => ∃ b, v = .bool b ∧ Q (.bool (!b)) s') E s) : wpAny (model prog w) A (richCompare .NotEq (.ref x) (.ref y)) Q E s := by
  have one : wpAny (model prog w) A (tryCompare (.ref x) "__ne__" (.ref y)) (fun r s' => ∃ b : Bool, r = some (.bool b) ∧ Q (.bool b) s') E s := by
    unfold tryCompare
    refine wpAny_bind (ifBound_objNe X I hn (call_objNe hu X I hm hs hf (wpAny_mono h (fun v s' hv => ?_) fun _ _ e => e)))
    obtain ⟨b, rfl, q⟩ := hv
    exact ⟨b, rfl, wpAny_pure ⟨_, rfl, q⟩⟩
  unfold richCompare
  simp only [oneThing_ref]
  refine wpAny_holding (wpAny_bind (wpAny_cRoomFor hu0 ?_))
  refine wpAny_bind (I.type.here (wpAny_bind (J.type.here ?_)))
  rw [show (Value.ref C != Value.ref C) = false from by simp]
  simp only [Bool.false_eq_true, if_false]
  refine wpAny_bind (wpAny_pure ?_)
  simp only [Bool.false_eq_true, if_false]
  refine wpAny_bind (wpAny_mono one (fun r s' z => ?_) fun _ _ e => e)
  obtain ⟨v, rfl, hq⟩ := z
  exact wpAny_pure hq
end
section
variable {X : Cx} {CX : CXT} {k : Nat} {C f : Addr} {sp : Sp} {E : XK}
def rOwnNe (C : Addr) (sp : Sp) (E : XK) : R2 := fun x y H Q => ∃ a dx fs b dy gs, x = .ref a ∧ y = .ref b ∧ H a = some (.ins C dx fs) ∧ H b = some (.ins C dy gs) ∧ sp [x, y] H (fun v H' => ∃ c, v = .bl c ∧ Q (.bl (!c)) H') E
theorem op_ownNe (M : Meth X.K C "__eq__" f) (hn : findIn X.K (.ref C) "__ne__" = some (some (.builtin "object.__ne__"))) (hm : mroIn X.K C (.type "object") = some true) (F : FnR X.prog X.w X.K X.mg X.base CX k f sp) (hr : Room (k + 1) X.A) (hx : Passes CX X E) (hu : X.A.units < cLine) : OpR X (compareOp .NotEq) (rOwnNe C sp E) := by
  intro pins s σ H x y v u Q I rx ry h
  obtain ⟨a, dx, fs, b, dy, gs, rfl, rfl, ha, hb, q⟩ := h
  obtain rfl : v = Value.ref a := rx
  obtain rfl : u = Value.ref b := ry
  obtain ⟨ox, od, J, _⟩ := inst_of I ha
  obtain ⟨oy, od', J', _⟩ := inst_of I hb
  have hr1 : Room k X.A.in1 := Room.in1 hr
  show wpAny _ _ (richCompare .NotEq (.ref a) (.ref b)) _ _ _
  refine rc_ownNe hu hr1.units0 I.kIn J J' hm hn M.at_ M.fn (wpAny_mono (wpAny_call (SlX.run_at (us := [.ref a, .ref b]) (ws := [.ref a, .ref b]) F hr1 I.env0.in1 hx I (.cons rfl (.cons rfl .nil)) q)) (fun u' s' z => ?_) fun _ _ x => x)
  obtain ⟨z', H', I', rz, c, ec, qz⟩ := z
  subst ec
  cases (show u' = Value.bool c from rz)
  exact ⟨c, rfl, .bl (!c), H', I', rfl, qz⟩
theorem r_ownNe {C a b dx dy : Addr} {fs gs : List (Str × V)} {sp : Sp} {E : XK} {H : Hp} {Q : VK} (ha : H a = some (.ins C dx fs)) (hb : H b = some (.ins C dy gs)) (k : sp [.ref a, .ref b] H (fun v H' => ∃ c, v = .bl c ∧ Q (.bl (!c)) H') E) : rOwnNe C sp E (.ref a) (.ref b) H Q := ⟨a, dx, fs, b, dy, gs, rfl, rfl, ha, hb, k⟩
end
end Ow
namespace Dt
open PySem PySem.Spec PyProof.Rows PyProof.V L2 StX
/-! ### d.clear(), the keys tuples -/
def rClearT : V → List V → Hp → VK → Prop := fun x vs H Q => ∃ (a : Addr) (kvs : Tb), x = .ref a ∧ vs = [] ∧ H a = some (.dT kvs) ∧ Q .non (upd H a (.dT []))
theorem mtd_clearT {X : Cx} : MtR X "dict.clear" rClearT := by
  intro pins s σ H x vs v us Q I rx rv h
  obtain ⟨a, kvs, ex, ev, e, q⟩ := h
  subst ex
  subst ev
  obtain rfl : v = Value.ref a := rx
  have hus := rv.zero
  subst hus
  obtain ⟨small, apart, cells, pairs, u, es, ep, stands, cls, data, list, _⟩ := dt_of I.hok e
  have len : es.size = cells.length := size_of_entries list
  have len2 : kvs.length = cells.length := Paired.length pairs
  have raw : s.heap.DictRaw a es ep := ⟨u, stands, cls, data⟩
  refine call_meetsIn PySem.F.slot_dict_clear raw.typeIs PySem.F.entry_dict_clear (PySem.F.args_dict_clear_1 _) (PySem.meets_dict_clear_raw a) ⟨es, ep, raw, by omega, fun h' dd' hs => ?_⟩
  obtain ⟨o', ho', hc', hd'⟩ := dd'
  refine ⟨.non, _, d_write (t' := s.toks) I (by rw [e]; exact True.intro) hs ⟨o', ho'⟩ ?_, rfl, q⟩
  exact ⟨Nat.zero_le _, apart, [], .nil, o', #[], ep + 1, ho', hc', hd', rfl, List.Pairwise.nil⟩
section
variable {X : Cx} {o : Expr} {to : TE} {apos cpos : Pos}
theorem pe_dclearT (ho : PE X o to) (hbase : attributeBase o "clear" X.env (eval o X.env) = eval o X.env := by rfl) (hline : (apos.endLine == cpos.line) = true := by rfl) : PE X (.Call (.Attribute o "clear" apos) [] [] cpos) (tBM0 X.K "dict" rClearT to) :=
  pe_bm0 PySem.F.plainAttrs_dict PySem.F.slot_dict_clear PySem.F.type_dict_clear mtd_clearT ho hbase hline
end
/-! ### == of two dicts with the same keys in the same order, the values flat -/
section
variable {prog : Program} {w : World} {Ky : Type} [DecidableEq Ky] {knd : HeapKind prog w Ky} {A : Around} {E : Value → Shared → Prop} {s : Shared}
theorem pairsT {nm : String} {a b : Addr} {xa xb : List (Ky × Addr × Value)} {P : Nat → Bool} {Q : Bool → Shared → Prop} (ha : (a == sysModules) = false) (hb : (b == sysModules) = false) (hu : knd.room A) (da : s.heap.DictOfH knd a xa) (db : s.heap.DictOfH knd b xb)
    (len : xa.length = xb.length) (al : ∀ (i : Nat) x, xa[i]? = some x → ∃ y, xb[i]? = some y ∧ y.1 = x.1 ∧ SeqAt.EqAt A s x.2.2 y.2.2 (P i)) (q : (∀ i, i < xa.length → P i = true) → Q true s) (n : ∀ i, i < xa.length → P i = false → Q false s) : wpAny (model prog w) A (Builtin.Dict.samePairs nm a b) Q E s := by
  obtain ⟨oa, es, ep, hoa, _, hda, hes, hia, _⟩ := da
  obtain ⟨ob, fs, fp, hob, _, hdb, hfs, hib, hnb⟩ := db
  have sa := size_of_entries hes
  have sb := size_of_entries hfs
  unfold Builtin.Dict.samePairs Builtin.Dict.showsAll
  rw [if_neg (show ¬ (a == sysModules) = true by rw [ha]; exact Bool.false_ne_true), if_neg (show ¬ (b == sysModules) = true by rw [hb]; exact Bool.false_ne_true)]
  refine wpAny_bind (wpAny_pure (wpAny_bind (wpAny_pure (wpAny_bind (wpAny_dictEntries hoa hda ?_)))))
  dsimp only
  refine wpAny_bind (wpAny_dictEntries hob hdb ?_)
  have hsz : es.size = fs.size := by omega
  rw [if_neg (by rw [hsz]; simp)]
  refine wpAny_bind (wpAny_dictEpoch hoa hda (wpAny_bind ?_))
  rw [Std.Legacy.Range.forIn_eq_forIn_range']
  simp only [Std.Legacy.Range.size, Nat.sub_zero, Nat.add_sub_cancel, Nat.div_one]
  refine wpAny_forIn_list _ (fun rest r s' => s' = s ∧ r = (none, ()) ∧ ∃ i, rest = List.range' i (es.size - i) ∧ i ≤ es.size ∧ ∀ j, j < i → P j = true) _ ?_ ?_ _ _ ⟨rfl, rfl, 0, by simp, Nat.zero_le _, by simp⟩
  · rintro x rest r s' ⟨rfl, rfl, i, hr, hi, ok⟩
    have lt : i < es.size := by
      rcases Nat.lt_or_ge i es.size with h | h
      · exact h
      · rw [Nat.sub_eq_zero_of_le h] at hr; simp at hr
    rw [show es.size - i = (es.size - (i + 1)) + 1 by omega, List.range'_succ] at hr
    injection hr with h1 h2
    subst h1
    obtain ⟨e, he⟩ : ∃ e, xa[x]? = some e := ⟨_, List.getElem?_eq_getElem (by omega)⟩
    obtain ⟨f, hf, ek, ev⟩ := al x e he
    have ge : es[x]? = some (entryOfKey knd e) := by rw [entry_at hes, he]; rfl
    have gf : fs[x]? = some (entryOfKey knd f) := by rw [entry_at hfs, hf]; rfl
    refine wpAny_bind (wpAny_dictEntries hoa hda ?_)
    rw [ge]
    refine wpAny_bind (wpAny_holding (wpAny_bind (wpAny_dictFind_heap hu (hia _ (List.mem_of_getElem? he)) hob hdb hfs hib hnb (fun no => ?_) fun j p hj => ?_)))
    · exact absurd (show xb[x]? = some (e.1, f.2) by rw [hf, ← ek]) (no x _)
    · obtain rfl : j = x := idxH_unique hnb hj (show xb[x]? = some (e.1, f.2) by rw [hf, ← ek])
      refine wpAny_bind (wpAny_dictEntries hob hdb ?_)
      rw [gf]
      refine wpAny_holding (ev _ _ _ _ ?_)
      cases hp : P j with
      | false =>
        show wpAny _ _ (if (!false) = true then _ else _) _ _ _
        rw [if_pos (by decide)]
        exact wpAny_pure (wpAny_pure (n j (by omega) hp))
      | true =>
        show wpAny _ _ (if (!true) = true then _ else _) _ _ _
        rw [if_neg (by decide)]
        refine wpAny_bind (wpAny_dictEpoch hoa hda ?_)
        rw [if_neg (by simp)]
        refine wpAny_pure ⟨rfl, rfl, j + 1, h2, lt, fun i hi => ?_⟩
        rcases Nat.lt_or_ge i j with h | h
        · exact ok i h
        · obtain rfl : i = j := by omega
          exact hp
  · rintro r s' ⟨rfl, rfl, i, hr, hi, ok⟩
    refine wpAny_pure (q fun j hj => ok j ?_)
    rcases Nat.lt_or_ge i es.size with h | h
    · rw [show es.size - i = (es.size - (i + 1)) + 1 by omega, List.range'_succ] at hr; cases hr
    · omega
end
/-- keys alike, values flat -/
def rEqFlatT : R2 := fun x y H Q => ∃ (a b : Addr) (kvs lvs : Tb), x = .ref a ∧ y = .ref b ∧ H a = some (.dT kvs) ∧ H b = some (.dT lvs) ∧ kvs.map (·.1) = lvs.map (·.1) ∧ (∀ p ∈ kvs, L2.flatV p.2 = true) ∧ (∀ p ∈ lvs, L2.flatV p.2 = true) ∧
  ((∀ i : Nat, ∀ p q, kvs[i]? = some p → lvs[i]? = some q → L2.eqV p.2 q.2 = true) → Q (.bl true) H) ∧ (∀ i : Nat, ∀ p q, kvs[i]? = some p → lvs[i]? = some q → L2.eqV p.2 q.2 = false → Q (.bl false) H)
theorem kt_at {H : Hp} : ∀ {kvs : Tb} {xa : List (List Key × Addr × Value)}, KT H kvs xa → kvs.length = xa.length ∧ ∀ (i : Nat) x, xa[i]? = some x → ∃ p, kvs[i]? = some p ∧ p.1 = x.1 ∧ RelV p.2 x.2.2
  | _, _, .nil => ⟨rfl, fun i x h => by simp at h⟩
  | _, _, .cons (a := p) (b := q) h t => by
    obtain ⟨l, g⟩ := kt_at t
    refine ⟨by rw [List.length_cons, List.length_cons, l], fun i x hx => ?_⟩
    cases i with
    | zero =>
      have e : q = x := by simpa using hx
      subst e
      exact ⟨p, by simp, h.1, h.2.2⟩
    | succ i => simpa using g i x (by simpa using hx)
theorem op_eqFlatT {X : Cx} (small : X.A.units + 1 < cLine) : OpR X (compareOp .Eq) rEqFlatT := by
  rintro pins s σ H x y v u Q I rx ry ⟨a, b, kvs, lvs, rfl, rfl, ea, eb, keys, fa, fb, q, n⟩
  cases (show v = Value.ref a from rx)
  cases (show u = Value.ref b from ry)
  obtain ⟨_, na, xa, ra, da⟩ := dt_of I.hok ea
  obtain ⟨_, nb, xb, rb, db⟩ := dt_of I.hok eb
  obtain ⟨la, ga⟩ := kt_at ra
  obtain ⟨lb, gb⟩ := kt_at rb
  have lk : kvs.length = lvs.length := by have := congrArg List.length keys; rwa [List.length_map, List.length_map] at this
  let P : Nat → Bool := fun i => match kvs[i]?, lvs[i]? with
    | some p, some q => L2.eqV p.2 q.2
    | _, _ => true
  refine wpAny_richCompare_same_room (op := .Eq) da.typeIs db.typeIs PySem.F.slot_dict_eq (wpAny_call_entry PySem.F.slot_dict_eq da.typeIs PySem.F.entry_dict_eq ?_ (PySem.F.args_dict_eq_2 _ _)) (by omega)
  show wpAny _ _ (Builtin.Dict.dictSlotArgs "__eq__" ⟨[.ref a, .ref b], []⟩ >>= _) _ _ s
  refine wpAny_bind ?_
  unfold Builtin.Dict.dictSlotArgs
  refine wpAny_bind (wpAny_notOrdered_dict da.typeIs ?_)
  show wpAny _ _ (pure (Value.ref a, Value.ref b)) _ _ s
  refine wpAny_pure (wpAny_bind (wpAny_isInstance (T := "dict") db.typeIs PySem.F.sub_dict_dict ?_))
  simp only [Bool.not_true, Bool.false_eq_true, if_false]
  refine wpAny_bind (wpAny_pure (wpAny_bind (wpAny_pure (wpAny_bind (pairsT (P := P) na nb (show X.A.in1.units < cLine from small) da db (by omega) (fun i x hx => ?_) (fun all => ?_) fun i hi hp => ?_)))))
  · obtain ⟨p, hp, ek, rp⟩ := ga i x hx
    have lt : i < xb.length := by have := (List.getElem?_eq_some_iff.mp hx).1; omega
    obtain ⟨y, hy⟩ : ∃ y, xb[i]? = some y := ⟨_, List.getElem?_eq_getElem lt⟩
    obtain ⟨r, hr, er, rr⟩ := gb i y hy
    have kk : p.1 = r.1 := by
      have h1 : (kvs.map (·.1))[i]? = some p.1 := by rw [List.getElem?_map, hp]; rfl
      have h2 : (lvs.map (·.1))[i]? = some r.1 := by rw [List.getElem?_map, hr]; rfl
      rw [keys, h2] at h1
      exact (Option.some.inj h1).symm
    refine ⟨y, hy, er.symm.trans (kk.symm.trans ek), ?_⟩
    have : P i = L2.eqV p.2 r.2 := by show (match kvs[i]?, lvs[i]? with | some p, some q => L2.eqV p.2 q.2 | _, _ => true) = _; rw [hp, hr]
    rw [this]
    exact eqAt_V rp rr (fa p (List.mem_of_getElem? hp)) (fb r (List.mem_of_getElem? hr))
  · refine wpAny_pure ⟨_, rfl, (fun x => nomatch x), ⟨.bl true, H, I, rfl, q fun i p r hp hr => ?_⟩⟩
    have := all i (by have := (List.getElem?_eq_some_iff.mp hp).1; omega)
    have e : P i = L2.eqV p.2 r.2 := by show (match kvs[i]?, lvs[i]? with | some p, some q => L2.eqV p.2 q.2 | _, _ => true) = _; rw [hp, hr]
    rw [← e]; exact this
  · obtain ⟨p, hp0⟩ : ∃ p, kvs[i]? = some p := ⟨_, List.getElem?_eq_getElem (by omega)⟩
    obtain ⟨r, hr0⟩ : ∃ r, lvs[i]? = some r := ⟨_, List.getElem?_eq_getElem (by omega)⟩
    have e : P i = L2.eqV p.2 r.2 := by show (match kvs[i]?, lvs[i]? with | some p, some q => L2.eqV p.2 q.2 | _, _ => true) = _; rw [hp0, hr0]
    exact wpAny_pure ⟨_, rfl, (fun x => nomatch x), ⟨.bl false, H, I, rfl, n i p r hp0 hr0 (by rw [← e]; exact hp)⟩⟩
end Dt
namespace Ow
open PySem PySem.Spec PyProof.Rows PyProof.V L2 StX
open PySem.W PySem.Calls
/-! ### x in o, o[x], len(o): the class of o has its own __contains__, __getitem__, __len__ -/
section
variable {X : Cx} {CX : CXT} {k : Nat} {C f : Addr} {sp : Sp} {E : XK}
def rOwnIn (C : Addr) (sp : Sp) (E : XK) (g : Bool → Bool) : R2 := fun x y H Q => ∃ a dx fs, y = .ref a ∧ H a = some (.ins C dx fs) ∧ sp [y, x] H (fun v H' => ∃ c, v = .bl c ∧ Q (.bl (g c)) H') E
theorem op_ownIn (M : Meth X.K C "__contains__" f) (F : FnR X.prog X.w X.K X.mg X.base CX k f sp) (hr : Room k X.A) (hx : Passes CX X E) : OpR X (compareOp .In) (rOwnIn C sp E id) := by
  intro pins s σ H x y v u Q I rx ry h
  obtain ⟨a, dx, fs, rfl, ha, q⟩ := h
  obtain rfl : u = Value.ref a := ry
  obtain ⟨ox, od, J, _⟩ := inst_of I ha
  obtain ⟨mm, Fm⟩ := I.fr
  refine in_K Fm I.ok.mod.kin J M.at_ M.fn ?_
  refine wpAny_mono (run_own (vs := [.ref a, x]) F hr hx I (.cons rfl (.cons rx .nil)) q) (fun r s' z => ?_) fun _ _ e => e
  obtain ⟨z', H', I', rz, c, ec, qz⟩ := z
  subst ec
  cases (show r = Value.bool c from rz)
  exact wpAny_truthy_bool ⟨.bl c, H', I', rfl, qz⟩
theorem op_ownNotIn (M : Meth X.K C "__contains__" f) (F : FnR X.prog X.w X.K X.mg X.base CX k f sp) (hr : Room k X.A) (hx : Passes CX X E) : OpR X (compareOp .NotIn) (rOwnIn C sp E fun b => !b) := by
  intro pins s σ H x y v u Q I rx ry h
  obtain ⟨a, dx, fs, rfl, ha, q⟩ := h
  obtain rfl : u = Value.ref a := ry
  obtain ⟨ox, od, J, _⟩ := inst_of I ha
  obtain ⟨mm, Fm⟩ := I.fr
  refine notIn_K Fm I.ok.mod.kin J M.at_ M.fn ?_
  refine wpAny_mono (run_own (vs := [.ref a, x]) F hr hx I (.cons rfl (.cons rx .nil)) q) (fun r s' z => ?_) fun _ _ e => e
  obtain ⟨z', H', I', rz, c, ec, qz⟩ := z
  subst ec
  cases (show r = Value.bool c from rz)
  exact wpAny_truthy_bool ⟨.bl (!c), H', I', rfl, qz⟩
theorem r_ownIn {C a dx : Addr} {fs : List (Str × V)} {sp : Sp} {E : XK} {g : Bool → Bool} {H : Hp} {Q : VK} {x : V} (ha : H a = some (.ins C dx fs)) (k : sp [.ref a, x] H (fun v H' => ∃ c, v = .bl c ∧ Q (.bl (g c)) H') E) : rOwnIn C sp E g x (.ref a) H Q := ⟨a, dx, fs, rfl, ha, k⟩
/-- o[x] -/
def rOwnIx (C : Addr) (sp : Sp) (E : XK) : R2 := fun x y H Q => ∃ a dx fs, x = .ref a ∧ H a = some (.ins C dx fs) ∧ sp [x, y] H Q E
theorem pe_ownIx {o i : Expr} {to ti : TE} {pos : Pos} (ho : PE X o to) (hi : PE X i ti) (M : Meth X.K C "__getitem__" f) (hfn : fnIn X.K f = true) (F : FnR X.prog X.w X.K X.mg X.base CX k f sp) (hr : Room (k + 1) X.A) (hx : Passes CX X E)
    (hs : ∀ v u, subscripted i true v u = runValue (.builtin "lifetime.subscript" ⟨[v, u], []⟩)) : PE X (.Subscript o i pos) (tOp (rOwnIx C sp E) to ti) := by
  refine ⟨fun pins s σ H Q I h => ?_⟩
  refine Subscript_ (binT ho hi I h fun v u s2 x y H2 I2 rx ry q => ?_)
  obtain ⟨a, dx, fs, rfl, ha, q⟩ := q
  obtain rfl : v = Value.ref a := rx
  obtain ⟨ox, od, J, _⟩ := inst_of I2 ha
  obtain ⟨mm, Fm⟩ := I2.fr
  have hr1 : Room k X.A.in1 := Room.in1 hr
  exact sub_K Fm I2.ok.mod.kin J M.at_ hfn M.fn (wpAny_call (SlX.run_at (us := [.ref a, u]) (ws := [.ref a, y]) F hr1 I2.env0.in1 hx I2 (.cons rfl (.cons ry .nil)) q)) (hs _ _)
theorem r_ownIx {C a dx : Addr} {fs : List (Str × V)} {sp : Sp} {E : XK} {H : Hp} {Q : VK} {y : V} (ha : H a = some (.ins C dx fs)) (k : sp [.ref a, y] H Q E) : rOwnIx C sp E (.ref a) y H Q := ⟨a, dx, fs, rfl, ha, k⟩
/-- len(o) -/
def rOwnLen (C : Addr) (sp : Sp) (E : XK) : List V → Hp → VK → Prop := fun xs H Q => ∃ a dx fs, xs = [.ref a] ∧ H a = some (.ins C dx fs) ∧ sp [.ref a] H (fun v H' => ∃ n : Int, v = .int n ∧ 0 ≤ n ∧ n < 2 ^ 63 ∧ Q (.int n) H') E
theorem call_lenOwn (M : Meth X.K C "__len__" f) (F : FnR X.prog X.w X.K X.mg X.base CX k f sp) (hr : Room (k + 1) X.A) (hx : Passes CX X E) : CallR X (.builtin "len") (rOwnLen C sp E) := by
  intro pins s σ H xs us Q I r h
  obtain ⟨a, dx, fs, rfl, ha, q⟩ := h
  obtain ⟨u, rfl, ru⟩ := r.one
  obtain rfl : u = Value.ref a := ru
  obtain ⟨ox, od, J, _⟩ := inst_of I ha
  obtain ⟨mm, Fm⟩ := I.fr
  have hr1 : Room k X.A.in1 := Room.in1 hr
  refine len_K Fm I.ok.mod.kin J M.at_ M.fn (wpAny_mono (wpAny_call (SlX.run_at (us := [.ref a]) (ws := [.ref a]) F hr1 I.env0.in1 hx I (.cons rfl .nil) q)) (fun u' s' z => ?_) fun _ _ x => x)
  obtain ⟨z', H', I', rz, n, en, n0, n1, qz⟩ := z
  subst en
  obtain ⟨t, e⟩ := (show ∃ t, u' = Value.int n t from rz)
  subst e
  exact ⟨⟨n0, n1⟩, .int n, H', I'.tok _, ⟨_, rfl⟩, qz⟩
theorem r_ownLen {C a dx : Addr} {fs : List (Str × V)} {sp : Sp} {E : XK} {H : Hp} {Q : VK} (ha : H a = some (.ins C dx fs)) (k : sp [.ref a] H (fun v H' => ∃ n : Int, v = .int n ∧ 0 ≤ n ∧ n < 2 ^ 63 ∧ Q (.int n) H') E) : rOwnLen C sp E [.ref a] H Q := ⟨a, dx, fs, rfl, ha, k⟩
end
/-! ### o == y, y no object of an own class -/
inductive Oth (H : Hp) : V → String → Prop where
  | int (i : Int) : Oth H (.int i) "int"
  | str (z : Str) : Oth H (.str z) "str"
  | tup {a : Addr} {xs : List V} (e : H a = some (.tup xs)) : Oth H (.ref a) "tuple"
section
variable {X : Cx} {CX : CXT} {k : Nat} {C f : Addr} {sp : Sp} {E : XK}
theorem oth_looks {M : Model} {pins : List (Addr × Obj)} {σ : L2.St} {H : Hp} {s : Shared} {y : V} {u : Value} {T : String} (I : Inv X pins σ H s) (ry : RelV y u) (o : Oth H y T) : Looks M s.heap (typeOf u) (.type T) := by
  cases o with
  | int i => obtain ⟨t, e⟩ := (show ∃ t, u = Value.int i t from ry); subst e; exact Looks.of_pure rfl
  | str z => obtain ⟨t, e⟩ := (show ∃ t, u = Value.str z t from ry); subst e; exact Looks.of_pure rfl
  | @tup a xs e =>
    cases (show u = Value.ref a from ry)
    obtain ⟨_, _, _, o, h1, h2, _⟩ := (show ObjOk X.prog X.w H s.heap a (.tup xs) from I.hok a _ e)
    have z := (Looks.ld (M := M) (part := none) h1)
    exact fun A Q E s' k q => wpAny_typeOf_ref (k _ _ h1) (by rw [h2]; exact q)
def rOwnX (K : Frag) (C : Addr) (sp : Sp) (E : XK) : R2 := fun x y H Q => ∃ a dx fs T, x = .ref a ∧ H a = some (.ins C dx fs) ∧ Oth H y T ∧ subIn K (.type T) (.ref C) = some false ∧ sp [x, y] H Q E
theorem op_ownEqX {op : CmpOp} {m : Str} (M : Meth X.K C m f) (F : FnR X.prog X.w X.K X.mg X.base CX k f sp) (hr : Room k X.A) (hx : Passes CX X E) (hu : X.A.units < cLine) (hm : (cmpInfo op).2.1 = m := by rfl)
    (ho : ∀ a b, compareOp op a b = richCompare op a b := by intro _ _; rfl) : OpR X (compareOp op) (rOwnX X.K C sp E) := by
  intro pins s σ H x y v u Q I rx ry h
  obtain ⟨a, dx, fs, T, rfl, ha, oy, hs, q⟩ := h
  obtain rfl : v = Value.ref a := rx
  obtain ⟨ox, od, J, _⟩ := inst_of I ha
  obtain ⟨mm, Fm⟩ := I.fr
  rw [ho]
  refine cmp_K hu Fm I.ok.mod.kin J (oth_looks I ry oy) (by unfold notFirst; rw [hs]; simp) (by rw [hm]; exact M.at_) M.fn ?_
  exact wpAny_mono (run_own (vs := [.ref a, y]) F hr hx I (.cons rfl (.cons ry .nil)) q) (fun _ _ z => cmpBack z) fun _ _ e => e
theorem r_ownX {K : Frag} {C a dx : Addr} {fs : List (Str × V)} {sp : Sp} {E : XK} {H : Hp} {Q : VK} {y : V} {T : String} (ha : H a = some (.ins C dx fs)) (o : Oth H y T) (hs : subIn K (.type T) (.ref C) = some false) (k : sp [.ref a, y] H Q E) : rOwnX K C sp E (.ref a) y H Q := ⟨a, dx, fs, T, rfl, ha, o, hs, k⟩
end
end Ow
namespace Ow
open PySem PySem.Spec PyProof.Rows PyProof.V L2 StX
open PySem.W PySem.Calls
/-! ### C.m(..), m a static method of the class C -/
/-- C.m is a static method: its record at p, its def at g -/
structure SMet (K : PySem.W.Frag) (C : Addr) (mc : Value) (m : Str) (p g : Addr) : Prop where
  at_ : PySem.W.findCls K (.ref C) mc m = some (.get (.builtin "staticmethod.__get__") (.ref p) .none (.ref C))
  rc : ∃ rest, PySem.W.recIn K p "staticmethod" = some (.ref g :: rest)
  kp : PySem.W.keepIn K (.ref g) = true
section
variable {X : Cx} {CX : CXT} {k : Nat} {C p g : Addr} {mc : Value} {sp : Sp} {E : XK} {o e : Expr} {es : List Expr} {m : Str} {pos apos : Pos} {ta : TE} {t : TA} {pl : Sem Bool} {fd : FuncData} {ps : List Str} {dvs : List V} {ds : List Value}
variable {pins : List (Addr × Obj)} {σ : L2.St} {H : Hp} {s : Shared} {A : Around} {Ex : Value → Shared → Prop}
theorem getsmet_ok {b : Bool} {Q : Value → Shared → Prop} (I : Inv X pins σ H s) (r : ClX.CRead X.K C mc) (k : SMet X.K C mc m p g) (h : ∀ s', Inv X pins σ H s' → Q (.ref g) s') : wpAny (model X.prog X.w) A (getAttr (.ref C) m b) Q Ex s := by
  obtain ⟨rest, hp⟩ := k.rc
  refine PySem.W.cls_bind I.kIn r.rd k.at_ ?_
  exact wpAny_call (PySem.W.sm_get (s := { s with toks := s.toks + 1 }) I.kIn hp (PySem.W.handed_on rfl (h _ (I.tok _))))
def tSMeth (C : Addr) (sp : Sp) (dvs : List V) (E : XK) (ta : TE) (t : TA) : TE := fun σ H Q => ta σ H fun x H1 => x = .ref C ∧ t σ H1 fun vs H2 => sp (vs ++ dvs) H2 Q E
theorem pe_smeth (he : PE X o ta) (r : ClX.CRead X.K C mc) (c : SMet X.K C mc m p g) (F : FnOk X.prog X.w X.K X.mg X.base CX k g fd ps sp) (hr : Room k X.A) (hb : Binds X.K fd ps ds) (hd : Vals dvs ds) (hx : Passes CX X E) (ha : PA X (e :: es) t)
    (hst : starEach (e :: es) X.env = (false, eval e X.env) :: starEach es X.env := by rfl) (hpl : (backTo pos (starEach es X.env)).any (·.1) = false := by rfl)
    (ht : eval (.Call (.Attribute o m apos) (e :: es) [] pos) X.env = (do
      let ov ← eval o X.env
      standAt apos.atName
      let (f, first) ← holding [ov] (getMethod ov m pl)
      callWith pos f first (backTo pos (starEach (e :: es) X.env)) (backToKw pos (keywordEach [] X.env))) := by rfl) :
    PE X (.Call (.Attribute o m apos) (e :: es) [] pos) (tSMeth C sp dvs E ta t) := by
  refine ⟨fun pins s σ H Q I h => ?_⟩
  refine PySem.W.methodCall_KW (pl := pl) (thn (he.run pins s σ H _ I h) fun u s1 ⟨x, H1, I1, rx, ex, q⟩ => ?_) ht
  subst ex
  obtain rfl : u = Value.ref C := rx
  refine PySem.W.method_cls I1.kIn r.ga (getsmet_ok I1 r c fun s2 I2 => ?_)
  exact PySem.W.callWith_K (h₀ := X.base) I2.ok.mod.kin c.kp (thn (ha.run pos _ s2 σ H1 _ I2 q) fun us s3 ⟨vs, H2, I3, rv, q2⟩ => ⟨I3.kIn, run_fn F hr hb hd hx I3 rv q2⟩) hst hpl
theorem r_smeth {C : Addr} {sp : Sp} {dvs : List V} {E : XK} {ta : TE} {t : TA} {σ : L2.St} {H : Hp} {Q : VK} (k : ta σ H fun x H1 => x = .ref C ∧ t σ H1 fun vs H2 => sp (vs ++ dvs) H2 Q E) : tSMeth C sp dvs E ta t σ H Q := k
end
end Ow
namespace Ow
open PySem PySem.Spec PyProof.Rows PyProof.V L2 StX
open PySem.W PySem.Calls
/-! ### n + x -/
section
open PySem.Builtin
theorem int_add_own (a : Int) (t : Tok) (x C dx : Addr) :
    Meets (Builtin.«int.__add__» ⟨[.int a t, .ref x], []⟩) (fun _ R s => s.heap.get? x = some (PySem.W.instObj C dx) ∧ R (.ok (.ret Value.notImplemented)) s) :=
  .of_wp fun prog w A R s ⟨hl, h⟩ => by
    obtain ⟨hp, g, d, tk, os⟩ := s
    wp_walk
    exact ⟨_, rfl, h⟩
theorem int_declines_add {prog : Program} {w : World} {A : Around} {E : Value → Shared → Prop} {s : Shared} {x C dx : Addr} {i : Int} {t : Tok} {Q : Option Value → Shared → Prop} (hx : s.heap.get? x = some (instObj C dx)) (q : Q none s) :
    wpAny (model prog w) A (tryMethod (.int i t) (PySem.dunder "add") (.ref x)) Q E s := by
  have h1 := @decl_gen prog w A E s (.int i t) (.ref x) "int" "int.__add__" (PySem.dunder "add") Builtin.«int.__add__» Q
  have h2 := h1 (typeIs_int _ _ _) 
  have h3 := h2 PySem.F.slot_int_add
  have h4 := h3 PySem.F.entry_int_add 
  have h5 := h4 (PySem.F.args_int_add_2 _ _)
  refine h5 ?_
  exact (int_add_own i t x C dx prog w A (wants (fun v s' => v = Value.notImplemented ∧ Q none s') E) s ⟨hx, rfl, q⟩)
section
variable {prog : Program} {w : World} {A : Around} {E : Value → Shared → Prop} {s : Shared} {K : Frag} {x C dx f : Addr} {od : Obj}
theorem int_own_add {i : Int} {t : Tok} {g : Addr} {Q : Value → Shared → Prop} (X : K.In s.heap) (I : InstAt s.heap x (instObj C dx) C (some od)) (hc : selfFirst K C = true) (hm : findIn K (.ref C) "__add__" = some (some (.ref g)))
    (hs : findIn K (.ref C) "__radd__" = some (some (.ref f))) (hf : isFn K (.ref f) = true) (hsub : subIn K (.ref C) (.type "int") = some false) (h : wpAny (model prog w) A (call (.ref f) [.ref x, .int i t]) (PySem.W.CmpBack Q) E s) :
    wpAny (model prog w) A (binaryOp .Add (.int i t) (.ref x)) Q E s := by
  obtain ⟨cd, rest, hcd, hmro⟩ := ksp_first hc
  have one := ksp_try (name := "__radd__") X I hs hf h
  have L1 : Looks (model prog w) s.heap (typeOf (.int i t)) (.type "int") := Looks.of_pure rfl
  have L2 : Looks (model prog w) s.heap (typeOf (.ref x)) (.ref C) := I.type
  obtain ⟨hh, g', d, tt, os⟩ := s
  have L3 : Looks (model prog w) hh (fillsNumberSlot (.type "int") "add") true := Looks.of_pure PySem.F.fills_int_add
  have L4 : Looks (model prog w) hh (fillsNumberSlot (.ref C) "add") true := fills_K X hcd hmro hm
  have L5 : Looks (model prog w) hh (isSubtype (.ref C) (.type "int")) false := looks_subIn X hsub
  have L7 : Looks (model prog w) hh (numberSlotInPython (.type "int") "add") false := Looks.of_pure rfl
  have hne : (Value.type "int" == Value.ref C) = false := Bool.eq_false_iff.mpr fun q => by cases beq_iff_eq.mp q
  unfold binaryOp binaryOp1
  refine wpAny_holding (wpAny_bind ?_)
  refine wpAny_bind (L1.at (wpAny_bind (L2.at (wpAny_bind (L3.at ?_)))))
  simp only [hne, Bool.false_eq_true, if_false]
  ksp_lk
  refine int_declines_add I.at_ ?_
  ksp_lk
  refine wpAny_mono one (fun r s' hr' => ?_) fun _ _ e => e
  obtain ⟨v, rfl, hq⟩ := hr'
  ksp_lk
  exact hq
end
end
section
variable {X : Cx} {CX : CXT} {k : Nat} {C f : Addr} {sp : Sp} {E : XK}
theorem op_intAdd {g : Addr} (sf : selfFirst X.K C = true) (M0 : Meth X.K C "__add__" g) (M : Meth X.K C "__radd__" f) (hs : subIn X.K (.ref C) (.type "int") = some false) (F : FnR X.prog X.w X.K X.mg X.base CX k f sp) (hr : Room k X.A) (hx : Passes CX X E) : OpR X (binaryOp .Add) (rIntOwn C sp E) := by
  intro pins s σ H x y v u Q I rx ry h
  obtain ⟨b, dx, fs, n, rfl, rfl, hb, q⟩ := h
  obtain ⟨t, rfl⟩ := rx
  obtain rfl : u = Value.ref b := ry
  obtain ⟨mA, O, _⟩ := ins_get I.hok hb
  obtain ⟨od, J, _⟩ := O.look
  exact int_own_add I.kIn J sf M0.at_ M.at_ M.fn hs (wpAny_mono (run_own (vs := [.ref b, .int n]) F hr hx I (.cons rfl (.cons ⟨t, rfl⟩ .nil)) q) (fun _ _ z => cmpBack z) fun _ _ e => e)
end
/-! ### n - x -/
section
open PySem.Builtin
theorem int_sub_own (a : Int) (t : Tok) (x C dx : Addr) :
    Meets (Builtin.«int.__sub__» ⟨[.int a t, .ref x], []⟩) (fun _ R s => s.heap.get? x = some (PySem.W.instObj C dx) ∧ R (.ok (.ret Value.notImplemented)) s) :=
  .of_wp fun prog w A R s ⟨hl, h⟩ => by
    obtain ⟨hp, g, d, tk, os⟩ := s
    wp_walk
    exact ⟨_, rfl, h⟩
theorem int_declines_sub {prog : Program} {w : World} {A : Around} {E : Value → Shared → Prop} {s : Shared} {x C dx : Addr} {i : Int} {t : Tok} {Q : Option Value → Shared → Prop} (hx : s.heap.get? x = some (instObj C dx)) (q : Q none s) :
    wpAny (model prog w) A (tryMethod (.int i t) (PySem.dunder "sub") (.ref x)) Q E s := by
  have h1 := @decl_gen prog w A E s (.int i t) (.ref x) "int" "int.__sub__" (PySem.dunder "sub") Builtin.«int.__sub__» Q
  have h2 := h1 (typeIs_int _ _ _) 
  have h3 := h2 PySem.F.slot_int_sub
  have h4 := h3 PySem.F.entry_int_sub 
  have h5 := h4 (PySem.F.args_int_sub_2 _ _)
  refine h5 ?_
  exact (int_sub_own i t x C dx prog w A (wants (fun v s' => v = Value.notImplemented ∧ Q none s') E) s ⟨hx, rfl, q⟩)
section
variable {prog : Program} {w : World} {A : Around} {E : Value → Shared → Prop} {s : Shared} {K : Frag} {x C dx f : Addr} {od : Obj}
theorem int_own_sub {i : Int} {t : Tok} {g : Addr} {Q : Value → Shared → Prop} (X : K.In s.heap) (I : InstAt s.heap x (instObj C dx) C (some od)) (hc : selfFirst K C = true) (hm : findIn K (.ref C) "__sub__" = some (some (.ref g)))
    (hs : findIn K (.ref C) "__rsub__" = some (some (.ref f))) (hf : isFn K (.ref f) = true) (hsub : subIn K (.ref C) (.type "int") = some false) (h : wpAny (model prog w) A (call (.ref f) [.ref x, .int i t]) (PySem.W.CmpBack Q) E s) :
    wpAny (model prog w) A (binaryOp .Sub (.int i t) (.ref x)) Q E s := by
  obtain ⟨cd, rest, hcd, hmro⟩ := ksp_first hc
  have one := ksp_try (name := "__rsub__") X I hs hf h
  have L1 : Looks (model prog w) s.heap (typeOf (.int i t)) (.type "int") := Looks.of_pure rfl
  have L2 : Looks (model prog w) s.heap (typeOf (.ref x)) (.ref C) := I.type
  obtain ⟨hh, g', d, tt, os⟩ := s
  have L3 : Looks (model prog w) hh (fillsNumberSlot (.type "int") "sub") true := Looks.of_pure PySem.F.fills_int_sub
  have L4 : Looks (model prog w) hh (fillsNumberSlot (.ref C) "sub") true := fills_K X hcd hmro hm
  have L5 : Looks (model prog w) hh (isSubtype (.ref C) (.type "int")) false := looks_subIn X hsub
  have L7 : Looks (model prog w) hh (numberSlotInPython (.type "int") "sub") false := Looks.of_pure rfl
  have hne : (Value.type "int" == Value.ref C) = false := Bool.eq_false_iff.mpr fun q => by cases beq_iff_eq.mp q
  unfold binaryOp binaryOp1
  refine wpAny_holding (wpAny_bind ?_)
  refine wpAny_bind (L1.at (wpAny_bind (L2.at (wpAny_bind (L3.at ?_)))))
  simp only [hne, Bool.false_eq_true, if_false]
  ksp_lk
  refine int_declines_sub I.at_ ?_
  ksp_lk
  refine wpAny_mono one (fun r s' hr' => ?_) fun _ _ e => e
  obtain ⟨v, rfl, hq⟩ := hr'
  ksp_lk
  exact hq
end
end
section
variable {X : Cx} {CX : CXT} {k : Nat} {C f : Addr} {sp : Sp} {E : XK}
theorem op_intSub {g : Addr} (sf : selfFirst X.K C = true) (M0 : Meth X.K C "__sub__" g) (M : Meth X.K C "__rsub__" f) (hs : subIn X.K (.ref C) (.type "int") = some false) (F : FnR X.prog X.w X.K X.mg X.base CX k f sp) (hr : Room k X.A) (hx : Passes CX X E) : OpR X (binaryOp .Sub) (rIntOwn C sp E) := by
  intro pins s σ H x y v u Q I rx ry h
  obtain ⟨b, dx, fs, n, rfl, rfl, hb, q⟩ := h
  obtain ⟨t, rfl⟩ := rx
  obtain rfl : u = Value.ref b := ry
  obtain ⟨mA, O, _⟩ := ins_get I.hok hb
  obtain ⟨od, J, _⟩ := O.look
  exact int_own_sub I.kIn J sf M0.at_ M.at_ M.fn hs (wpAny_mono (run_own (vs := [.ref b, .int n]) F hr hx I (.cons rfl (.cons ⟨t, rfl⟩ .nil)) q) (fun _ _ z => cmpBack z) fun _ _ e => e)
end
end Ow
abbrev PG : Program := PySem.Challenge.pw_metehouse_k01_forms_as_values
def topS (i : Nat) : Stmt := PySem.Challenge.pw_metehouse_k01_forms_as_values.main.body.getD i (.Pass ⟨0, 0, 0, 0⟩)
abbrev s_ratio : Stmt := topS 7
theorem sc_ratio : FnScope ["top", "bottom", "divisor"] ["top", "bottom"] (defScope s_ratio) := ⟨rfl, rfl, rfl, by decide +kernel, rfl, by decide +kernel, by decide +kernel⟩
abbrev s_plus : Stmt := topS 8
theorem sc_plus : FnScope ["first", "second"] ["first", "second"] (defScope s_plus) := ⟨rfl, rfl, rfl, by decide +kernel, rfl, by decide +kernel, by decide +kernel⟩
abbrev s_times : Stmt := topS 9
theorem sc_times : FnScope ["first", "second"] ["first", "second"] (defScope s_times) := ⟨rfl, rfl, rfl, by decide +kernel, rfl, by decide +kernel, by decide +kernel⟩
abbrev s_is_quantity : Stmt := topS 16
theorem sc_is_quantity : FnScope ["text", "sign"] ["text"] (defScope s_is_quantity) := ⟨rfl, rfl, rfl, by decide +kernel, rfl, by decide +kernel, by decide +kernel⟩
abbrev s_need_levels : Stmt := topS 17
theorem sc_need_levels : FnScope ["names", "world", "name"] ["names", "world"] (defScope s_need_levels) := ⟨rfl, rfl, rfl, by decide +kernel, rfl, by decide +kernel, by decide +kernel⟩
abbrev s_added_terms : Stmt := topS 18
theorem sc_added_terms : FnScope ["terms", "sums", "name", "weight"] ["terms"] (defScope s_added_terms) := ⟨rfl, rfl, rfl, by decide +kernel, rfl, by decide +kernel, by decide +kernel⟩
abbrev s_weight_of : Stmt := topS 19
theorem sc_weight_of : FnScope ["terms", "name", "found", "weight"] ["terms", "name"] (defScope s_weight_of) := ⟨rfl, rfl, rfl, by decide +kernel, rfl, by decide +kernel, by decide +kernel⟩
abbrev s_write_term : Stmt := topS 20
theorem sc_write_term : FnScope ["size", "name"] ["size", "name"] (defScope s_write_term) := ⟨rfl, rfl, rfl, by decide +kernel, rfl, by decide +kernel, by decide +kernel⟩
abbrev s_write_form : Stmt := topS 21
theorem sc_write_form : FnScope ["terms", "constant", "parts", "name", "weight", "text", "words"] ["terms", "constant"] (defScope s_write_form) := ⟨rfl, rfl, rfl, by decide +kernel, rfl, by decide +kernel, by decide +kernel⟩
abbrev s_Form___init : Stmt := inClass (topS 22) 0
theorem sc_Form___init : FnScope ["self", "terms", "constant"] ["self", "terms", "constant"] (defScope s_Form___init) := ⟨rfl, rfl, rfl, by decide +kernel, rfl, by decide +kernel, by decide +kernel⟩
abbrev s_Form_names : Stmt := inClass (topS 22) 3
theorem sc_Form_names : FnScope ["self", "name", "_"] ["self"] (defScope s_Form_names) := ⟨rfl, rfl, rfl, by decide +kernel, rfl, by decide +kernel, by decide +kernel⟩
abbrev s_Form___call : Stmt := inClass (topS 22) 5
theorem sc_Form___call : FnScope ["self", "world", "total", "name", "weight"] ["self", "world"] (defScope s_Form___call) := ⟨rfl, rfl, rfl, by decide +kernel, rfl, by decide +kernel, by decide +kernel⟩
abbrev s_Form___add : Stmt := inClass (topS 22) 6
theorem sc_Form___add : FnScope ["self", "other"] ["self", "other"] (defScope s_Form___add) := ⟨rfl, rfl, rfl, by decide +kernel, rfl, by decide +kernel, by decide +kernel⟩
abbrev s_Form___sub : Stmt := inClass (topS 22) 8
theorem sc_Form___sub : FnScope ["self", "other"] ["self", "other"] (defScope s_Form___sub) := ⟨rfl, rfl, rfl, by decide +kernel, rfl, by decide +kernel, by decide +kernel⟩
abbrev s_Form___neg : Stmt := inClass (topS 22) 10
theorem sc_Form___neg : FnScope ["self"] ["self"] (defScope s_Form___neg) := ⟨rfl, rfl, rfl, by decide +kernel, rfl, by decide +kernel, by decide +kernel⟩
abbrev s_Form___mul : Stmt := inClass (topS 22) 11
theorem sc_Form___mul : FnScope ["self", "other", "name", "weight"] ["self", "other"] (defScope s_Form___mul) := ⟨rfl, rfl, rfl, by decide +kernel, rfl, by decide +kernel, by decide +kernel⟩
abbrev s_Form___rmul : Stmt := inClass (topS 22) 12
theorem sc_Form___rmul : FnScope ["self", "other"] ["self", "other"] (defScope s_Form___rmul) := ⟨rfl, rfl, rfl, by decide +kernel, rfl, by decide +kernel, by decide +kernel⟩
abbrev s_Form___eq : Stmt := inClass (topS 22) 13
theorem sc_Form___eq : FnScope ["self", "other"] ["self", "other"] (defScope s_Form___eq) := ⟨rfl, rfl, rfl, by decide +kernel, rfl, by decide +kernel, by decide +kernel⟩
abbrev s_Form___str : Stmt := inClass (topS 22) 18
theorem sc_Form___str : FnScope ["self"] ["self"] (defScope s_Form___str) := ⟨rfl, rfl, rfl, by decide +kernel, rfl, by decide +kernel, by decide +kernel⟩
abbrev s_w_pot : Stmt := topS 25
theorem sc_w_pot : FnScope ["_law_script"] ["_law_script"] (defScope s_w_pot) := ⟨rfl, rfl, rfl, by decide +kernel, rfl, by decide +kernel, by decide +kernel⟩
abbrev s_w_take : Stmt := topS 26
theorem sc_w_take : FnScope ["_law_pot_here", "_law_size", "_law_cell", "_law_mixed"] ["_law_pot_here", "_law_size"] (defScope s_w_take) := ⟨rfl, rfl, rfl, by decide +kernel, rfl, by decide +kernel, by decide +kernel⟩
abbrev s_w_whole : Stmt := topS 27
theorem sc_w_whole : FnScope ["_law_found"] ["_law_found"] (defScope s_w_whole) := ⟨rfl, rfl, rfl, by decide +kernel, rfl, by decide +kernel, by decide +kernel⟩
abbrev s_w_quantity : Stmt := topS 28
theorem sc_w_quantity : FnScope ["_law_pot_here", "_law_shift", "_law_letters_here", "_law_signs", "_law_text", "_law_way", "_law_long", "_law_k"] ["_law_pot_here", "_law_shift"] (defScope s_w_quantity) := ⟨rfl, rfl, rfl, by decide +kernel, rfl, by decide +kernel, by decide +kernel⟩
abbrev s_w_pool : Stmt := topS 29
theorem sc_w_pool : FnScope ["_law_pot_here", "_law_most", "_law_pool_here", "_law_k", "_law_text"] ["_law_pot_here", "_law_most"] (defScope s_w_pool) := ⟨rfl, rfl, rfl, by decide +kernel, rfl, by decide +kernel, by decide +kernel⟩
abbrev s_w_weight : Stmt := topS 30
theorem sc_w_weight : FnScope ["_law_pot_here", "_law_way", "_law_sign", "_law_edge", "_law_large"] ["_law_pot_here"] (defScope s_w_weight) := ⟨rfl, rfl, rfl, by decide +kernel, rfl, by decide +kernel, by decide +kernel⟩
abbrev s_w_pairs : Stmt := topS 31
theorem sc_w_pairs : FnScope ["_law_pot_here", "_law_pool_here", "_law_pairs_here", "_law_k", "_law_pair", "_law_old"] ["_law_pot_here", "_law_pool_here"] (defScope s_w_pairs) := ⟨rfl, rfl, rfl, by decide +kernel, rfl, by decide +kernel, by decide +kernel⟩
abbrev s_w_tidy : Stmt := topS 32
theorem sc_w_tidy : FnScope ["_law_pairs_here", "_law_constant", "_law_seen", "_law_pair", "_law_terms", "_law_text", "_law_weight_here"] ["_law_pairs_here", "_law_constant"] (defScope s_w_tidy) := ⟨rfl, rfl, rfl, by decide +kernel, rfl, by decide +kernel, by decide +kernel⟩
abbrev s_w_added : Stmt := topS 33
theorem sc_w_added : FnScope ["_law_one", "_law_two", "_law_factor", "_law_pairs_here", "_law_pair"] ["_law_one", "_law_two", "_law_factor"] (defScope s_w_added) := ⟨rfl, rfl, rfl, by decide +kernel, rfl, by decide +kernel, by decide +kernel⟩
abbrev s_w_form_is : Stmt := topS 34
theorem sc_w_form_is : FnScope ["_law_found", "_law_due", "_law_k", "_law_pair"] ["_law_found", "_law_due"] (defScope s_w_form_is) := ⟨rfl, rfl, rfl, by decide +kernel, rfl, by decide +kernel, by decide +kernel⟩
abbrev s_w_lowest : Stmt := topS 35
theorem sc_w_lowest : FnScope ["_law_top", "_law_bottom", "_law_first", "_law_second", "_law_rest"] ["_law_top", "_law_bottom"] (defScope s_w_lowest) := ⟨rfl, rfl, rfl, by decide +kernel, rfl, by decide +kernel, by decide +kernel⟩
abbrev s_w_pair_is : Stmt := topS 36
theorem sc_w_pair_is : FnScope ["_law_found", "_law_pair"] ["_law_found", "_law_pair"] (defScope s_w_pair_is) := ⟨rfl, rfl, rfl, by decide +kernel, rfl, by decide +kernel, by decide +kernel⟩
abbrev s_w_value : Stmt := topS 37
theorem sc_w_value : FnScope ["_law_due", "_law_world_here", "_law_top", "_law_bottom", "_law_pair", "_law_level_here"] ["_law_due", "_law_world_here"] (defScope s_w_value) := ⟨rfl, rfl, rfl, by decide +kernel, rfl, by decide +kernel, by decide +kernel⟩
abbrev s_w_level : Stmt := topS 41
theorem sc_w_level : FnScope ["_law_pot_here", "_law_top", "_law_bottom"] ["_law_pot_here"] (defScope s_w_level) := ⟨rfl, rfl, rfl, by decide +kernel, rfl, by decide +kernel, by decide +kernel⟩
abbrev s_is_word : Stmt := topS 15
theorem sc_is_word : FnScope ["text", "sign"] ["text"] (defScope s_is_word) := ⟨rfl, rfl, rfl, by decide +kernel, rfl, by decide +kernel, by decide +kernel⟩
abbrev s_Form_one : Stmt := inClass (topS 22) 1
theorem sc_Form_one : FnScope ["name"] ["name"] (defScope s_Form_one) := ⟨rfl, rfl, rfl, by decide +kernel, rfl, by decide +kernel, by decide +kernel⟩
abbrev s_Form_gap : Stmt := inClass (topS 22) 2
theorem sc_Form_gap : FnScope ["first", "second"] ["first", "second"] (defScope s_Form_gap) := ⟨rfl, rfl, rfl, by decide +kernel, rfl, by decide +kernel, by decide +kernel⟩
abbrev s_Form___radd : Stmt := inClass (topS 22) 7
theorem sc_Form___radd : FnScope ["self", "other"] ["self", "other"] (defScope s_Form___radd) := ⟨rfl, rfl, rfl, by decide +kernel, rfl, by decide +kernel, by decide +kernel⟩
abbrev s_Form___rsub : Stmt := inClass (topS 22) 9
theorem sc_Form___rsub : FnScope ["self", "other"] ["self", "other"] (defScope s_Form___rsub) := ⟨rfl, rfl, rfl, by decide +kernel, rfl, by decide +kernel, by decide +kernel⟩
abbrev s_Form___contains : Stmt := inClass (topS 22) 14
theorem sc_Form___contains : FnScope ["self", "name"] ["self", "name"] (defScope s_Form___contains) := ⟨rfl, rfl, rfl, by decide +kernel, rfl, by decide +kernel, by decide +kernel⟩
abbrev s_Form___getitem : Stmt := inClass (topS 22) 15
theorem sc_Form___getitem : FnScope ["self", "name"] ["self", "name"] (defScope s_Form___getitem) := ⟨rfl, rfl, rfl, by decide +kernel, rfl, by decide +kernel, by decide +kernel⟩
abbrev s_Form___len : Stmt := inClass (topS 22) 17
theorem sc_Form___len : FnScope ["self"] ["self"] (defScope s_Form___len) := ⟨rfl, rfl, rfl, by decide +kernel, rfl, by decide +kernel, by decide +kernel⟩
abbrev s_w_contents_right : Stmt := topS 38
theorem sc_w_contents_right : FnScope ["_law_found", "_law_due", "_law_pool_here", "_law_told", "_law_pair", "_law_text", "_law_weight_here", "_law_got"] ["_law_found", "_law_due", "_law_pool_here"] (defScope s_w_contents_right) := ⟨rfl, rfl, rfl, by decide +kernel, rfl, by decide +kernel, by decide +kernel⟩
abbrev s_w_sums_right : Stmt := topS 39
theorem sc_w_sums_right : FnScope ["_law_first", "_law_second", "_law_one", "_law_two", "_law_number", "_law_due", "_law_none"] ["_law_first", "_law_second", "_law_one", "_law_two", "_law_number"] (defScope s_w_sums_right) := ⟨rfl, rfl, rfl, by decide +kernel, rfl, by decide +kernel, by decide +kernel⟩
abbrev s_w_equal_right : Stmt := topS 40
theorem sc_w_equal_right : FnScope ["_law_first", "_law_second", "_law_one", "_law_two", "_law_pairs_here", "_law_text", "_law_turned", "_law_k", "_law_other"] ["_law_first", "_law_second", "_law_one", "_law_two", "_law_pairs_here", "_law_text"] (defScope s_w_equal_right) := ⟨rfl, rfl, rfl, by decide +kernel, rfl, by decide +kernel, by decide +kernel⟩
abbrev s_w_world : Stmt := topS 42
theorem sc_w_world : FnScope ["_law_pot_here", "_law_pool_here", "_law_world_here", "_law_text", "_law_level_here"] ["_law_pot_here", "_law_pool_here"] (defScope s_w_world) := ⟨rfl, rfl, rfl, by decide +kernel, rfl, by decide +kernel, by decide +kernel⟩
abbrev s_w_value_right : Stmt := topS 43
theorem sc_w_value_right : FnScope ["_law_found", "_law_due", "_law_world_here", "_law_missing", "_law_pair", "_law_kept", "_law_value_here", "e"] ["_law_found", "_law_due", "_law_world_here"] (defScope s_w_value_right) := ⟨rfl, rfl, rfl, by decide +kernel, rfl, by decide +kernel, by decide +kernel⟩
abbrev s_w_letters : Stmt := topS 44
theorem sc_w_letters : FnScope ["_law_text", "_law_signs", "_law_sign"] ["_law_text", "_law_signs"] (defScope s_w_letters) := ⟨rfl, rfl, rfl, by decide +kernel, rfl, by decide +kernel, by decide +kernel⟩
abbrev s_w_word : Stmt := topS 45
theorem sc_w_word : FnScope ["_law_text"] ["_law_text"] (defScope s_w_word) := ⟨rfl, rfl, rfl, by decide +kernel, rfl, by decide +kernel, by decide +kernel⟩
abbrev s_w_good : Stmt := topS 46
theorem sc_w_good : FnScope ["_law_text"] ["_law_text"] (defScope s_w_good) := ⟨rfl, rfl, rfl, by decide +kernel, rfl, by decide +kernel, by decide +kernel⟩
abbrev s_make_form : Stmt := topS 23
theorem sc_make_form : FnScope ["constants", "weights", "name", "weight"] ["constants", "weights"] (defScope s_make_form) := ⟨rfl, rfl, rfl, by decide +kernel, rfl, by decide +kernel, by decide +kernel⟩
abbrev s_w_near : Stmt := topS 47
theorem sc_w_near : FnScope ["_law_pot_here", "_law_text", "_law_way", "_law_signs", "_law_at"] ["_law_pot_here", "_law_text"] (defScope s_w_near) := ⟨rfl, rfl, rfl, by decide +kernel, rfl, by decide +kernel, by decide +kernel⟩
abbrev s_w_names_right : Stmt := topS 48
theorem sc_w_names_right : FnScope ["_law_pot_here", "_law_pool_here", "_law_pairs_here", "_law_given", "_law_texts", "_law_turn", "_law_text", "_law_at", "_law_found", "_law_short", "_law_bad", "_law_pair", "_law_kept", "_law_made", "e"] ["_law_pot_here", "_law_pool_here", "_law_pairs_here"] (defScope s_w_names_right) := ⟨rfl, rfl, rfl, by decide +kernel, rfl, by decide +kernel, by decide +kernel⟩
abbrev s_w_keywords_refused : Stmt := topS 49
theorem sc_w_keywords_refused : FnScope ["_law_one", "_law_two", "_law_first", "_law_second", "_law_third", "e"] ["_law_one", "_law_two"] (defScope s_w_keywords_refused) := ⟨rfl, rfl, rfl, by decide +kernel, rfl, by decide +kernel, by decide +kernel⟩
abbrev s_w_made_right : Stmt := topS 50
theorem sc_w_made_right : FnScope ["_law_pot_here", "_law_one", "_law_two", "_law_three", "_law_due"] ["_law_pot_here"] (defScope s_w_made_right) := ⟨rfl, rfl, rfl, by decide +kernel, rfl, by decide +kernel, by decide +kernel⟩
abbrev s_w_single_right : Stmt := topS 51
theorem sc_w_single_right : FnScope ["_law_pot_here", "_law_pool_here", "_law_one", "_law_two"] ["_law_pot_here", "_law_pool_here"] (defScope s_w_single_right) := ⟨rfl, rfl, rfl, by decide +kernel, rfl, by decide +kernel, by decide +kernel⟩
abbrev s_law : Stmt := topS 52
theorem sc_law : FnScope ["_law_script", "_law_pot_here", "_law_pool_here", "_law_pairs_here", "_law_one", "_law_more", "_law_two", "_law_handed", "_law_first", "_law_second", "_law_number", "_law_world_here"] ["_law_script"] (defScope s_law) := ⟨rfl, rfl, rfl, by decide +kernel, rfl, by decide +kernel, by decide +kernel⟩
abbrev s_BadName_init : Stmt := inClass (topS 4) 0
theorem sh_BadName {w : World} : Er.Sh1 PG w s_BadName_init "name" := by
  refine ⟨⟨_, _, _, _, _, _, _, _, _, _, _, rfl, fun q L fI cda cc m v A E s Q hm hv hn k => ?_, fun q L fI cda cc => ⟨rfl, rfl, rfl, rfl, rfl⟩⟩, ⟨_, rfl, rfl⟩, rfl, rfl, rfl, rfl, by decide, by decide, rfl, rfl, rfl, by decide +kernel, fun s x v qual doc pm an cda cc ct => .of_eq rfl⟩
  exact Er.tx_joined (.cons (Er.tx_repr hm hv rfl rfl) (.cons (Er.tx_const (by decide)) .nil)) (by decide) hn k
abbrev s_NoQuantity_init : Stmt := inClass (topS 5) 0
theorem sh_NoQuantity {w : World} : Er.Sh1 PG w s_NoQuantity_init "name" := by
  refine ⟨⟨_, _, _, _, _, _, _, _, _, _, _, rfl, fun q L fI cda cc m v A E s Q hm hv hn k => ?_, fun q L fI cda cc => ⟨rfl, rfl, rfl, rfl, rfl⟩⟩, ⟨_, rfl, rfl⟩, rfl, rfl, rfl, rfl, by decide, by decide, rfl, rfl, rfl, by decide +kernel, fun s x v qual doc pm an cda cc ct => .of_eq rfl⟩
  exact Er.tx_joined (.cons (Er.tx_const (by decide)) (.cons (Er.tx_repr hm hv rfl rfl) .nil)) (by decide) hn k
/-- what the top has written -/
structure Tx (K : PySem.W.Frag) (mg : Str → Option Value) : Type where
  f_ratio : Addr
  fd_ratio : FuncData
  F_ratio : FunD K "ratio" "ratio" (defArgs s_ratio) (defBody s_ratio) (defScope s_ratio) [V.int (1)] [] f_ratio fd_ratio
  g_ratio : mg "ratio" = some (.ref f_ratio)
  b1_ratio : ∃ ds, Vals (List.drop 0 [V.int (1)]) ds ∧ Binds K fd_ratio ["top", "bottom"] ds
  b2_ratio : ∃ ds, Vals (List.drop 1 [V.int (1)]) ds ∧ Binds K fd_ratio ["top", "bottom"] ds
  f_plus : Addr
  fd_plus : FuncData
  F_plus : Fun K "plus" "plus" s_plus f_plus fd_plus
  g_plus : mg "plus" = some (.ref f_plus)
  b_plus : Binds K fd_plus ["first", "second"] []
  f_times : Addr
  fd_times : FuncData
  F_times : Fun K "times" "times" s_times f_times fd_times
  g_times : mg "times" = some (.ref f_times)
  b_times : Binds K fd_times ["first", "second"] []
  f_is_quantity : Addr
  fd_is_quantity : FuncData
  F_is_quantity : Fun K "is_quantity" "is_quantity" s_is_quantity f_is_quantity fd_is_quantity
  g_is_quantity : mg "is_quantity" = some (.ref f_is_quantity)
  b_is_quantity : Binds K fd_is_quantity ["text"] []
  f_need_levels : Addr
  fd_need_levels : FuncData
  F_need_levels : Fun K "need_levels" "need_levels" s_need_levels f_need_levels fd_need_levels
  g_need_levels : mg "need_levels" = some (.ref f_need_levels)
  b_need_levels : Binds K fd_need_levels ["names", "world"] []
  f_added_terms : Addr
  fd_added_terms : FuncData
  F_added_terms : Fun K "added_terms" "added_terms" s_added_terms f_added_terms fd_added_terms
  g_added_terms : mg "added_terms" = some (.ref f_added_terms)
  b_added_terms : Binds K fd_added_terms ["terms"] []
  f_weight_of : Addr
  fd_weight_of : FuncData
  F_weight_of : Fun K "weight_of" "weight_of" s_weight_of f_weight_of fd_weight_of
  g_weight_of : mg "weight_of" = some (.ref f_weight_of)
  b_weight_of : Binds K fd_weight_of ["terms", "name"] []
  f_write_term : Addr
  fd_write_term : FuncData
  F_write_term : Fun K "write_term" "write_term" s_write_term f_write_term fd_write_term
  g_write_term : mg "write_term" = some (.ref f_write_term)
  b_write_term : Binds K fd_write_term ["size", "name"] []
  f_write_form : Addr
  fd_write_form : FuncData
  F_write_form : Fun K "write_form" "write_form" s_write_form f_write_form fd_write_form
  g_write_form : mg "write_form" = some (.ref f_write_form)
  b_write_form : Binds K fd_write_form ["terms", "constant"] []
  f_Form___init : Addr
  fd_Form___init : FuncData
  e_Form___init : Addr
  te_Form___init : SqTK K e_Form___init []
  F_Form___init : FunD K "__init__" "Form.__init__" (defArgs s_Form___init) (defBody s_Form___init) (defScope s_Form___init) [V.ref e_Form___init, V.int (0)] [] f_Form___init fd_Form___init
  b1_Form___init : ∃ ds, Vals (List.drop 0 [V.ref e_Form___init, V.int (0)]) ds ∧ Binds K fd_Form___init ["self", "terms", "constant"] ds
  b2_Form___init : ∃ ds, Vals (List.drop 1 [V.ref e_Form___init, V.int (0)]) ds ∧ Binds K fd_Form___init ["self", "terms", "constant"] ds
  b3_Form___init : ∃ ds, Vals (List.drop 2 [V.ref e_Form___init, V.int (0)]) ds ∧ Binds K fd_Form___init ["self", "terms", "constant"] ds
  f_Form_names : Addr
  fd_Form_names : FuncData
  F_Form_names : Fun K "names" "Form.names" s_Form_names f_Form_names fd_Form_names
  b_Form_names : Binds K fd_Form_names ["self"] []
  f_Form___call : Addr
  fd_Form___call : FuncData
  F_Form___call : Fun K "__call__" "Form.__call__" s_Form___call f_Form___call fd_Form___call
  b_Form___call : Binds K fd_Form___call ["self", "world"] []
  f_Form___add : Addr
  fd_Form___add : FuncData
  F_Form___add : Fun K "__add__" "Form.__add__" s_Form___add f_Form___add fd_Form___add
  b_Form___add : Binds K fd_Form___add ["self", "other"] []
  f_Form___sub : Addr
  fd_Form___sub : FuncData
  F_Form___sub : Fun K "__sub__" "Form.__sub__" s_Form___sub f_Form___sub fd_Form___sub
  b_Form___sub : Binds K fd_Form___sub ["self", "other"] []
  f_Form___neg : Addr
  fd_Form___neg : FuncData
  F_Form___neg : Fun K "__neg__" "Form.__neg__" s_Form___neg f_Form___neg fd_Form___neg
  b_Form___neg : Binds K fd_Form___neg ["self"] []
  f_Form___mul : Addr
  fd_Form___mul : FuncData
  F_Form___mul : Fun K "__mul__" "Form.__mul__" s_Form___mul f_Form___mul fd_Form___mul
  b_Form___mul : Binds K fd_Form___mul ["self", "other"] []
  f_Form___rmul : Addr
  fd_Form___rmul : FuncData
  F_Form___rmul : Fun K "__rmul__" "Form.__rmul__" s_Form___rmul f_Form___rmul fd_Form___rmul
  b_Form___rmul : Binds K fd_Form___rmul ["self", "other"] []
  f_Form___eq : Addr
  fd_Form___eq : FuncData
  F_Form___eq : Fun K "__eq__" "Form.__eq__" s_Form___eq f_Form___eq fd_Form___eq
  b_Form___eq : Binds K fd_Form___eq ["self", "other"] []
  f_Form___str : Addr
  fd_Form___str : FuncData
  F_Form___str : Fun K "__str__" "Form.__str__" s_Form___str f_Form___str fd_Form___str
  b_Form___str : Binds K fd_Form___str ["self"] []
  f_w_pot : Addr
  fd_w_pot : FuncData
  F_w_pot : Fun K "_law_pot" "_law_pot" s_w_pot f_w_pot fd_w_pot
  g_w_pot : mg "_law_pot" = some (.ref f_w_pot)
  b_w_pot : Binds K fd_w_pot ["_law_script"] []
  f_w_take : Addr
  fd_w_take : FuncData
  F_w_take : Fun K "_law_take" "_law_take" s_w_take f_w_take fd_w_take
  g_w_take : mg "_law_take" = some (.ref f_w_take)
  b_w_take : Binds K fd_w_take ["_law_pot_here", "_law_size"] []
  f_w_whole : Addr
  fd_w_whole : FuncData
  F_w_whole : Fun K "_law_whole" "_law_whole" s_w_whole f_w_whole fd_w_whole
  g_w_whole : mg "_law_whole" = some (.ref f_w_whole)
  b_w_whole : Binds K fd_w_whole ["_law_found"] []
  f_w_quantity : Addr
  fd_w_quantity : FuncData
  F_w_quantity : Fun K "_law_quantity" "_law_quantity" s_w_quantity f_w_quantity fd_w_quantity
  g_w_quantity : mg "_law_quantity" = some (.ref f_w_quantity)
  b_w_quantity : Binds K fd_w_quantity ["_law_pot_here", "_law_shift"] []
  f_w_pool : Addr
  fd_w_pool : FuncData
  F_w_pool : Fun K "_law_pool" "_law_pool" s_w_pool f_w_pool fd_w_pool
  g_w_pool : mg "_law_pool" = some (.ref f_w_pool)
  b_w_pool : Binds K fd_w_pool ["_law_pot_here", "_law_most"] []
  f_w_weight : Addr
  fd_w_weight : FuncData
  F_w_weight : Fun K "_law_weight" "_law_weight" s_w_weight f_w_weight fd_w_weight
  g_w_weight : mg "_law_weight" = some (.ref f_w_weight)
  b_w_weight : Binds K fd_w_weight ["_law_pot_here"] []
  f_w_pairs : Addr
  fd_w_pairs : FuncData
  F_w_pairs : Fun K "_law_pairs" "_law_pairs" s_w_pairs f_w_pairs fd_w_pairs
  g_w_pairs : mg "_law_pairs" = some (.ref f_w_pairs)
  b_w_pairs : Binds K fd_w_pairs ["_law_pot_here", "_law_pool_here"] []
  f_w_tidy : Addr
  fd_w_tidy : FuncData
  F_w_tidy : Fun K "_law_tidy" "_law_tidy" s_w_tidy f_w_tidy fd_w_tidy
  g_w_tidy : mg "_law_tidy" = some (.ref f_w_tidy)
  b_w_tidy : Binds K fd_w_tidy ["_law_pairs_here", "_law_constant"] []
  f_w_added : Addr
  fd_w_added : FuncData
  F_w_added : Fun K "_law_added" "_law_added" s_w_added f_w_added fd_w_added
  g_w_added : mg "_law_added" = some (.ref f_w_added)
  b_w_added : Binds K fd_w_added ["_law_one", "_law_two", "_law_factor"] []
  f_w_form_is : Addr
  fd_w_form_is : FuncData
  F_w_form_is : Fun K "_law_form_is" "_law_form_is" s_w_form_is f_w_form_is fd_w_form_is
  g_w_form_is : mg "_law_form_is" = some (.ref f_w_form_is)
  b_w_form_is : Binds K fd_w_form_is ["_law_found", "_law_due"] []
  f_w_lowest : Addr
  fd_w_lowest : FuncData
  F_w_lowest : Fun K "_law_lowest" "_law_lowest" s_w_lowest f_w_lowest fd_w_lowest
  g_w_lowest : mg "_law_lowest" = some (.ref f_w_lowest)
  b_w_lowest : Binds K fd_w_lowest ["_law_top", "_law_bottom"] []
  f_w_pair_is : Addr
  fd_w_pair_is : FuncData
  F_w_pair_is : Fun K "_law_pair_is" "_law_pair_is" s_w_pair_is f_w_pair_is fd_w_pair_is
  g_w_pair_is : mg "_law_pair_is" = some (.ref f_w_pair_is)
  b_w_pair_is : Binds K fd_w_pair_is ["_law_found", "_law_pair"] []
  f_w_value : Addr
  fd_w_value : FuncData
  F_w_value : Fun K "_law_value" "_law_value" s_w_value f_w_value fd_w_value
  g_w_value : mg "_law_value" = some (.ref f_w_value)
  b_w_value : Binds K fd_w_value ["_law_due", "_law_world_here"] []
  f_w_level : Addr
  fd_w_level : FuncData
  F_w_level : Fun K "_law_level" "_law_level" s_w_level f_w_level fd_w_level
  g_w_level : mg "_law_level" = some (.ref f_w_level)
  b_w_level : Binds K fd_w_level ["_law_pot_here"] []
  f_is_word : Addr
  fd_is_word : FuncData
  F_is_word : Fun K "is_word" "is_word" s_is_word f_is_word fd_is_word
  g_is_word : mg "is_word" = some (.ref f_is_word)
  b_is_word : Binds K fd_is_word ["text"] []
  f_Form_one : Addr
  fd_Form_one : FuncData
  F_Form_one : Fun K "one" "Form.one" s_Form_one f_Form_one fd_Form_one
  b_Form_one : Binds K fd_Form_one ["name"] []
  f_Form_gap : Addr
  fd_Form_gap : FuncData
  F_Form_gap : Fun K "gap" "Form.gap" s_Form_gap f_Form_gap fd_Form_gap
  b_Form_gap : Binds K fd_Form_gap ["first", "second"] []
  f_Form___radd : Addr
  fd_Form___radd : FuncData
  F_Form___radd : Fun K "__radd__" "Form.__radd__" s_Form___radd f_Form___radd fd_Form___radd
  b_Form___radd : Binds K fd_Form___radd ["self", "other"] []
  f_Form___rsub : Addr
  fd_Form___rsub : FuncData
  F_Form___rsub : Fun K "__rsub__" "Form.__rsub__" s_Form___rsub f_Form___rsub fd_Form___rsub
  b_Form___rsub : Binds K fd_Form___rsub ["self", "other"] []
  f_Form___contains : Addr
  fd_Form___contains : FuncData
  F_Form___contains : Fun K "__contains__" "Form.__contains__" s_Form___contains f_Form___contains fd_Form___contains
  b_Form___contains : Binds K fd_Form___contains ["self", "name"] []
  f_Form___getitem : Addr
  fd_Form___getitem : FuncData
  F_Form___getitem : Fun K "__getitem__" "Form.__getitem__" s_Form___getitem f_Form___getitem fd_Form___getitem
  b_Form___getitem : Binds K fd_Form___getitem ["self", "name"] []
  f_Form___len : Addr
  fd_Form___len : FuncData
  F_Form___len : Fun K "__len__" "Form.__len__" s_Form___len f_Form___len fd_Form___len
  b_Form___len : Binds K fd_Form___len ["self"] []
  f_w_contents_right : Addr
  fd_w_contents_right : FuncData
  F_w_contents_right : Fun K "_law_contents_right" "_law_contents_right" s_w_contents_right f_w_contents_right fd_w_contents_right
  g_w_contents_right : mg "_law_contents_right" = some (.ref f_w_contents_right)
  b_w_contents_right : Binds K fd_w_contents_right ["_law_found", "_law_due", "_law_pool_here"] []
  f_w_sums_right : Addr
  fd_w_sums_right : FuncData
  F_w_sums_right : Fun K "_law_sums_right" "_law_sums_right" s_w_sums_right f_w_sums_right fd_w_sums_right
  g_w_sums_right : mg "_law_sums_right" = some (.ref f_w_sums_right)
  b_w_sums_right : Binds K fd_w_sums_right ["_law_first", "_law_second", "_law_one", "_law_two", "_law_number"] []
  f_w_equal_right : Addr
  fd_w_equal_right : FuncData
  F_w_equal_right : Fun K "_law_equal_right" "_law_equal_right" s_w_equal_right f_w_equal_right fd_w_equal_right
  g_w_equal_right : mg "_law_equal_right" = some (.ref f_w_equal_right)
  b_w_equal_right : Binds K fd_w_equal_right ["_law_first", "_law_second", "_law_one", "_law_two", "_law_pairs_here", "_law_text"] []
  f_w_world : Addr
  fd_w_world : FuncData
  F_w_world : Fun K "_law_world" "_law_world" s_w_world f_w_world fd_w_world
  g_w_world : mg "_law_world" = some (.ref f_w_world)
  b_w_world : Binds K fd_w_world ["_law_pot_here", "_law_pool_here"] []
  f_w_value_right : Addr
  fd_w_value_right : FuncData
  F_w_value_right : Fun K "_law_value_right" "_law_value_right" s_w_value_right f_w_value_right fd_w_value_right
  g_w_value_right : mg "_law_value_right" = some (.ref f_w_value_right)
  b_w_value_right : Binds K fd_w_value_right ["_law_found", "_law_due", "_law_world_here"] []
  f_w_letters : Addr
  fd_w_letters : FuncData
  F_w_letters : Fun K "_law_letters" "_law_letters" s_w_letters f_w_letters fd_w_letters
  g_w_letters : mg "_law_letters" = some (.ref f_w_letters)
  b_w_letters : Binds K fd_w_letters ["_law_text", "_law_signs"] []
  f_w_word : Addr
  fd_w_word : FuncData
  F_w_word : Fun K "_law_word" "_law_word" s_w_word f_w_word fd_w_word
  g_w_word : mg "_law_word" = some (.ref f_w_word)
  b_w_word : Binds K fd_w_word ["_law_text"] []
  f_w_good : Addr
  fd_w_good : FuncData
  F_w_good : Fun K "_law_good" "_law_good" s_w_good f_w_good fd_w_good
  g_w_good : mg "_law_good" = some (.ref f_w_good)
  b_w_good : Binds K fd_w_good ["_law_text"] []
  f_make_form : Addr
  fd_make_form : FuncData
  F_make_form : Fun K "make_form" "make_form" s_make_form f_make_form fd_make_form
  g_make_form : mg "make_form" = some (.ref f_make_form)
  f_w_near : Addr
  fd_w_near : FuncData
  F_w_near : Fun K "_law_near" "_law_near" s_w_near f_w_near fd_w_near
  g_w_near : mg "_law_near" = some (.ref f_w_near)
  b_w_near : Binds K fd_w_near ["_law_pot_here", "_law_text"] []
  f_w_names_right : Addr
  fd_w_names_right : FuncData
  F_w_names_right : Fun K "_law_names_right" "_law_names_right" s_w_names_right f_w_names_right fd_w_names_right
  g_w_names_right : mg "_law_names_right" = some (.ref f_w_names_right)
  b_w_names_right : Binds K fd_w_names_right ["_law_pot_here", "_law_pool_here", "_law_pairs_here"] []
  f_w_keywords_refused : Addr
  fd_w_keywords_refused : FuncData
  F_w_keywords_refused : Fun K "_law_keywords_refused" "_law_keywords_refused" s_w_keywords_refused f_w_keywords_refused fd_w_keywords_refused
  g_w_keywords_refused : mg "_law_keywords_refused" = some (.ref f_w_keywords_refused)
  b_w_keywords_refused : Binds K fd_w_keywords_refused ["_law_one", "_law_two"] []
  f_w_made_right : Addr
  fd_w_made_right : FuncData
  F_w_made_right : Fun K "_law_made_right" "_law_made_right" s_w_made_right f_w_made_right fd_w_made_right
  g_w_made_right : mg "_law_made_right" = some (.ref f_w_made_right)
  b_w_made_right : Binds K fd_w_made_right ["_law_pot_here"] []
  f_w_single_right : Addr
  fd_w_single_right : FuncData
  F_w_single_right : Fun K "_law_single_right" "_law_single_right" s_w_single_right f_w_single_right fd_w_single_right
  g_w_single_right : mg "_law_single_right" = some (.ref f_w_single_right)
  b_w_single_right : Binds K fd_w_single_right ["_law_pot_here", "_law_pool_here"] []
  f_law : Addr
  fd_law : FuncData
  F_law : Fun K "law" "law" s_law f_law fd_law
  g_law : mg "law" = some (.ref f_law)
  b_law : Binds K fd_law ["_law_script"] []
  C_Form : Addr
  gC_Form : mg "Form" = some (.ref C_Form)
  oc_Form : Ow.OC K C_Form
  ty_Form : PySem.W.typeIn K (.ref C_Form) = some (.type "type")
  kt_Form : PySem.W.subIn K (.type "tuple") (.ref C_Form) = some false
  ks_Form : PySem.W.subIn K (.type "str") (.ref C_Form) = some false
  na_Form_terms : NoAttr K C_Form "terms"
  na_Form_constant : NoAttr K C_Form "constant"
  mk_Form : Mk K C_Form f_Form___init
  me_Form_names : Meth K C_Form "names" f_Form_names
  me_Form___add : Meth K C_Form "__add__" f_Form___add
  me_Form___sub : Meth K C_Form "__sub__" f_Form___sub
  me_Form___neg : Meth K C_Form "__neg__" f_Form___neg
  me_Form___mul : Meth K C_Form "__mul__" f_Form___mul
  me_Form___rmul : Meth K C_Form "__rmul__" f_Form___rmul
  me_Form___eq : Meth K C_Form "__eq__" f_Form___eq
  me_Form___str : Meth K C_Form "__str__" f_Form___str
  sp_Form_one : Addr
  sm_Form_one : Ow.SMet K C_Form (.type "type") "one" sp_Form_one f_Form_one
  sp_Form_gap : Addr
  sm_Form_gap : Ow.SMet K C_Form (.type "type") "gap" sp_Form_gap f_Form_gap
  me_Form___radd : Meth K C_Form "__radd__" f_Form___radd
  me_Form___rsub : Meth K C_Form "__rsub__" f_Form___rsub
  me_Form___contains : Meth K C_Form "__contains__" f_Form___contains
  me_Form___getitem : Meth K C_Form "__getitem__" f_Form___getitem
  fi_Form___getitem : PySem.W.fnIn K f_Form___getitem = true
  me_Form___len : Meth K C_Form "__len__" f_Form___len
  cr_Form : ClX.CRead K C_Form (.type "type")
  co_Form : StX.CallO K C_Form f_Form___call
  si_Form : PySem.W.subIn K (.ref C_Form) (.type "int") = some false
  is_Form : PySem.W.subIn K (.type "int") (.ref C_Form) = some false
  rr_Form_mul : ∃ g : Addr, PySem.W.findIn K (.ref C_Form) "__rmul__" = some (some (.ref g))
  if_mul : PySem.W.findIn K (.type "int") "__mul__" = some (some (.builtin "int.__mul__"))
  ir_mul : PySem.W.findIn K (.type "int") "__rmul__" = some (some (.builtin "int.__rmul__"))
  rr_Form_add : ∃ g : Addr, PySem.W.findIn K (.ref C_Form) "__radd__" = some (some (.ref g))
  if_add : PySem.W.findIn K (.type "int") "__add__" = some (some (.builtin "int.__add__"))
  ir_add : PySem.W.findIn K (.type "int") "__radd__" = some (some (.builtin "int.__radd__"))
  rr_Form_sub : ∃ g : Addr, PySem.W.findIn K (.ref C_Form) "__rsub__" = some (some (.ref g))
  if_sub : PySem.W.findIn K (.type "int") "__sub__" = some (some (.builtin "int.__sub__"))
  ir_sub : PySem.W.findIn K (.type "int") "__rsub__" = some (some (.builtin "int.__rsub__"))
  C_BadName : Addr
  gC_BadName : mg "BadName" = some (.ref C_BadName)
  C_NoQuantity : Addr
  gC_NoQuantity : mg "NoQuantity" = some (.ref C_NoQuantity)
  C_MeteError : Addr
  gC_MeteError : mg "MeteError" = some (.ref C_MeteError)
  Z_BadName : ∀ w, Er.Cls1 PG w K mg "BadName" "name" C_BadName
  X_BadName : ExcC K C_BadName
  xf_BadName : XfC K C_BadName
  Z_NoQuantity : ∀ w, Er.Cls1 PG w K mg "NoQuantity" "name" C_NoQuantity
  X_NoQuantity : ExcC K C_NoQuantity
  xf_NoQuantity : XfC K C_NoQuantity
  kit_BadName_MeteError : PySem.W.kitOne K (.ref C_BadName) (.ref C_MeteError) = some true
  kit_BadName_ValueError : PySem.W.kitOne K (.ref C_BadName) (.type "ValueError") = some true
  kit_BadName_NoQuantity : PySem.W.kitOne K (.ref C_BadName) (.ref C_NoQuantity) = some false
  kit_NoQuantity_MeteError : PySem.W.kitOne K (.ref C_NoQuantity) (.ref C_MeteError) = some true
  kit_NoQuantity_ValueError : PySem.W.kitOne K (.ref C_NoQuantity) (.type "ValueError") = some true
  kit_NoQuantity_BadName : PySem.W.kitOne K (.ref C_NoQuantity) (.ref C_BadName) = some false
  exm_BadName_BadName : PySem.W.exmOne K (.ref C_BadName) (.ref C_BadName) = some true
  exm_NoQuantity_NoQuantity : PySem.W.exmOne K (.ref C_NoQuantity) (.ref C_NoQuantity) = some true
  m_len : mg "len" = none
  m_range : mg "range" = none
  m_isinstance : mg "isinstance" = none
  m_int : mg "int" = none
  m_bool : mg "bool" = none
  m_str : mg "str" = none
  m_list : mg "list" = none
  m_tuple : mg "tuple" = none
  m_dict : mg "dict" = none
  m_abs : mg "abs" = none
  m_max : mg "max" = none
  m_sum : mg "sum" = none
  m_sorted : mg "sorted" = none
  m_all : mg "all" = none
  m_NotImplemented : mg "NotImplemented" = none
  m_ZeroDivisionError : mg "ZeroDivisionError" = none
  m_ValueError : mg "ValueError" = none
  m_gcd : mg "gcd" = some (.builtin "math.gcd")
  c_LETTERS : ∃ t, mg "LETTERS" = some (.str "abcdefghijklmnopqrstuvwxyz" t)
  c_QUANTITY_SIGNS : ∃ t, mg "QUANTITY_SIGNS" = some (.str "abcdefghijklmnopqrstuvwxyz.0123456789" t)
  c_LONGEST_WORD : ∃ t, mg "LONGEST_WORD" = some (.int (8) t)
  c_LONGEST_QUANTITY : ∃ t, mg "LONGEST_QUANTITY" = some (.int (12) t)
local macro_rules | `(tactic| walk_at "st") => `(tactic| first
  | (with_reducible refine r_seq ?_)
  | (with_reducible refine r_asg ?_)
  | (with_reducible refine r_ifS ?_)
  | (with_reducible refine r_ret ?_)
  | (with_reducible refine r_next ?_)
  | (with_reducible refine r_drop ?_)
  | (with_reducible refine r_retN ?_)
  | (with_reducible refine r_cont ?_)
  | (with_reducible refine r_break ?_)
  | (with_reducible refine r_op ?_)
  | (with_reducible refine r_un ?_)
  | ((with_reducible refine' r_var ?h1 ?_); (case h1 => exact rfl))
  | (with_reducible refine r_c ?_)
  | (with_reducible refine r_I0 ?_)
  | (with_reducible refine r_eqI ?_)
  | (with_reducible refine r_neI ?_)
  | (with_reducible refine r_eqS ?_)
  | (with_reducible refine r_neS ?_)
  | (with_reducible refine r_eqB ?_)
  | (with_reducible refine r_neB ?_)
  | (with_reducible refine r_U ?_)
  | (with_reducible refine r_test ?_)
  | (with_reducible refine r_tB ?_)
  | (with_reducible refine r_bl ?_)
  | (with_reducible refine r_and ?_)
  | (with_reducible refine r_or ?_)
  | (with_reducible refine r_not ?_)
  | (with_reducible refine r_andV ?_)
  | (with_reducible refine r_orV ?_)
  | (with_reducible refine r_notV ?_)
  | (with_reducible refine r_if ?_)
  | (with_reducible refine r_chain ?_)
  | (with_reducible refine r_gName0 ?_)
  | (with_reducible refine r_gName1 ?_)
  | (with_reducible refine r_gName2 ?_)
  | (with_reducible refine r_gName3 ?_)
  | (with_reducible refine r_gName4 ?_)
  | (with_reducible refine r_gName5 ?_)
  | (with_reducible refine r_gName6 ?_)
  | (with_reducible refine r_gName7 ?_)
  | (with_reducible refine r_gName8 ?_)
  | (with_reducible refine r_gName9 ?_)
  | (with_reducible refine r_gName10 ?_)
  | (with_reducible refine r_gName11 ?_)
  | (with_reducible refine r_gName12 ?_)
  | (with_reducible refine r_gName13 ?_)
  | (with_reducible refine r_gName14 ?_)
  | (with_reducible refine r_gName15 ?_)
  | (with_reducible refine r_gName16 ?_)
  | (with_reducible refine r_gName17 ?_)
  | (with_reducible refine r_gName18 ?_)
  | (with_reducible refine r_gName19 ?_)
  | (with_reducible refine r_cb ?_)
  | (with_reducible refine r_cons ?_)
  | (with_reducible refine r_nil ?_)
  | ((with_reducible refine r_call ?_); try simp only [List.cons_append, List.nil_append])
  | ((with_reducible refine r_callSD ?_); try simp only [List.cons_append, List.nil_append])
  | (with_reducible refine r_gSub ?_)
  | (with_reducible refine r_sl ?_)
  | (with_reducible refine r_lst ?_)
  | (with_reducible refine r_tup ?_)
  | (with_reducible refine r_int1 ?_)
  | (with_reducible refine r_intB ?_)
  | ((with_reducible refine r_in1 ?_); try simp only [abs_if])
  | ((with_reducible refine r_in2 ?_); try simp only [max_if])
  | (with_reducible refine r_forR1 ?_)
  | (with_reducible refine r_forR2 ?_)
  | (with_reducible refine r_forL ?_)
  | (with_reducible refine r_forT ?_)
  | (with_reducible refine r_lcR1 ?_)
  | (with_reducible refine r_lcL ?_)
  | (with_reducible refine r_lcT ?_)
  | (with_reducible refine r_yes ?_)
  | (with_reducible refine r_tPart ?_)
  | (with_reducible refine r_noPart ?_)
  | (with_reducible refine r_exI ?_)
  | (with_reducible refine r_par ?_)
  | (with_reducible refine Er.r_raise1 ?_)
  | (with_reducible refine r_isN ?_)
  | (with_reducible refine r_isI ?_)
  | (with_reducible refine r_isR ?_)
  | (with_reducible refine r_isS ?_)
  | (with_reducible refine r_noN ?_)
  | (with_reducible refine r_noI ?_)
  | (with_reducible refine r_noR ?_)
  | (with_reducible refine r_noS ?_)
  | (with_reducible refine r_isB ?_)
  | (with_reducible refine r_noB ?_)
  | (with_reducible refine r_iteTT ?_)
  | (with_reducible refine r_iteFF ?_)
  | (with_reducible refine Er.r_xf ?_)
  | (with_reducible refine r_bm ?_)
  | ((with_reducible refine' r_tyL ?h1 ?_); (case h1 => walk_at "sq"))
  | ((with_reducible refine' r_app ?h1 ?h2 ?_); (case h1 => walk_at "hp"); (case h2 => exact lt_size (by simp only [List.length_map, List.length_append, List.length_cons, List.length_nil]; omega)))
  | (with_reducible refine r_exP ?_)
  | (with_reducible refine r_iteT rfl ?_)
  | (with_reducible refine r_iteNF rfl ?_)
  | ((with_reducible refine' r_ixL ?h1 ?h2 ?_); (case h1 => walk_at "sq"); (case h2 => walk_at "at"))
  | ((with_reducible refine' r_ixT ?h1 ?h2 ?_); (case h1 => walk_at "sq"); (case h2 => walk_at "at"))
  | (with_reducible refine r_lenL (sqL_of (by assumption)) ?_)
  | (with_reducible refine r_lenT (sqT_of (by assumption)) ?_)
  | ((with_reducible refine' r_lenL ?h1 ?_); (case h1 => walk_at "sq"))
  | ((with_reducible refine' r_lenT ?h1 ?_); (case h1 => walk_at "sq"))
  | ((with_reducible refine' r_setP0 ?h1 ?_); (case h1 => walk_at "hp"); try simp only [upd_upd])
  | ((with_reducible refine' r_setP1 ?h1 ?_); (case h1 => walk_at "hp"); try simp only [upd_upd])
  | ((with_reducible refine' r_setP2 ?h1 ?_); (case h1 => walk_at "hp"); try simp only [upd_upd])
  | ((with_reducible refine' r_setP3 ?h1 ?_); (case h1 => walk_at "hp"); try simp only [upd_upd])
  | ((with_reducible refine' r_setL ?h1 ?h2 ?_); (case h1 => walk_at "hp"); (case h2 => walk_at "ix"))
  | ((with_reducible refine r_I ?h1 ?_); (case h1 => walk_at "side"); try simp only [Int.reduceToNat, Int.reducePow])
  | ((with_reducible refine r_iteT ?h1 ?_); (case h1 => walk_at "dec"))
  | ((with_reducible refine r_iteF ?h1 ?_); (case h1 => walk_at "dec"))
  | ((with_reducible refine r_iteNT ?h1 ?_); (case h1 => walk_at "dec"))
  | ((with_reducible refine r_iteNF ?h1 ?_); (case h1 => walk_at "dec"))
  | ((with_reducible refine' r_gNameW ?h1 ?_); (case h1 => (simp only [L2.wipe, List.map_cons, List.map_nil, List.set_cons_zero, List.set_cons_succ]; try exact rfl)))
  | ((with_reducible refine r_wipe ?h1 ?_); (case h1 => rfl))
  | (with_reducible refine iteT ?_)
  | (with_reducible refine r_iteNT1 ?_)
  | (with_reducible refine r_iteNF1 ?_)
  | (with_reducible refine r_gcd ?_)
  | ((with_reducible refine' r_isi ?h1 ?h2 ?_); (case h1 => first | exact .base (.int _) | exact .base (.bl _) | exact .base (.str _) | exact .base .non | exact .base (.tup (by walk_at "hp")) | exact .base (.lst (by walk_at "hp")) | exact .base (.dK (by walk_at "hp"))); (case h2 => first | (with_reducible exact kit_ii) | (with_reducible exact kit_ib) | (with_reducible exact kit_tt) | (with_reducible exact kit_ss) | (with_reducible exact kit_ll) | (with_reducible exact kit_bb) | (with_reducible exact kit_bi) | (with_reducible exact kit_dd) | (with_reducible exact kit_nt) | (with_reducible exact kit_ni) | (with_reducible exact kit_is) | (with_reducible exact kit_si) | (with_reducible exact kit_it)))
  | (with_reducible refine iteF ?_)
  | ((with_reducible refine And.intro ?h1 ?_); (case h1 => exact le_size (by simp only [List.length_cons, List.length_nil]; omega)))
  | (with_reducible refine r_nxE ?_)
  | (with_reducible refine r_bkE ?_)
  | (with_reducible refine r_ctE ?_)
  | (with_reducible refine r_rtE ?_))
local macro_rules | `(tactic| walk_at "sts") => `(tactic| repeat walk_at "st")
local macro_rules | `(tactic| walk_at "hp") => `(tactic| first | assumption | exact upd_same | (rw [upd_ne (by walk_at "ne")]; walk_at "hp") | exact Keep.out (by assumption) (by walk_at "nin") (by walk_at "hp"))
local macro_rules | `(tactic| walk_at "nin") => `(tactic| (simp only [List.mem_cons, List.not_mem_nil, or_false, not_false_eq_true]; first | done | walk_at "ne"))
local macro_rules | `(tactic| walk_at "ne") => `(tactic| first | assumption | (apply Ne.symm; assumption) | exact ne_free (by assumption) (by assumption) | exact (ne_free (by assumption) (by assumption)).symm)
local macro_rules | `(tactic| walk_at "sq") => `(tactic| first | assumption | exact sqL_of (by walk_at "hp") | exact sqT_of (by walk_at "hp") | exact Keep.l (by assumption) (by walk_at "nin") (by walk_at "sq") | exact Keep.t (by assumption) (by walk_at "nin") (by walk_at "sq"))
local macro_rules | `(tactic| walk_at "at") => `(tactic| first
  | exact atI_nat (j := 0) rfl | exact atI_nat (j := 1) rfl | exact atI_nat (j := 2) rfl | exact atI_nat (j := 3) rfl | exact atI_nat (j := 4) rfl | exact atI_nat (j := 5) rfl
  | (refine atI_map ?_ ?_ <;> omega) | assumption)
local macro_rules | `(tactic| walk_at "ix") => `(tactic| first | exact ixN_of (by decide) (by simp; omega) | exact ixN_of (by omega) (by simp; omega))
local macro_rules | `(tactic| walk_at "side") => `(tactic| first | omega | decide | exact .inl (by omega) | exact .inr (by omega) | exact ⟨by omega, by omega⟩ | exact .inl (.inl (by omega)) | exact .inl (.inr (by omega)) | (exact ⟨by decide, by decide, by decide⟩) | (exact ⟨by omega, by decide⟩))
local macro_rules | `(tactic| walk_at "start") => `(tactic| simp only [start_cc, start_cn, start_nn, cxOf_K])
local macro_rules | `(tactic| walk_at "dec") => `(tactic| first | omega | (simp only [List.length_cons, List.length_nil, List.length_map, List.length_append]; omega))
local macro_rules | `(tactic| walk_at "st") => `(tactic| first
  | (with_reducible refine Ow.r_fld ?_)
  | ((with_reducible refine' Ow.r_fldAt ?h1 ?h2 ?h3 ?h4 ?_); (case h1 => walk_at "hp"); (case h2 => exact Ow.OC.cl (by assumption)); (case h3 => assumption); (case h4 => rfl))
  | (with_reducible refine Ow.r_len_str ?_))
local macro_rules | `(tactic| walk_at "st") => `(tactic| first
  | (with_reducible refine r_inSg ?_)
  | (with_reducible refine r_ninSg ?_)
  | (with_reducible refine r_dnew ?_)
  | (with_reducible refine r_dget ?_)
  | (with_reducible refine r_dget2 ?_)
  | (with_reducible refine r_dput ?_)
  | (with_reducible refine r_din ?_)
  | (with_reducible refine r_dnin ?_)
  | (with_reducible refine r_strS ?_)
  | (with_reducible refine r_lcS ?_)
  | ((with_reducible refine' r_isD ?h1 ?_); (case h1 => walk_at "hp"))
  | ((with_reducible refine' r_dgetO ?h1 ?_); (case h1 => walk_at "hp"))
  | ((with_reducible refine' r_gTup2 ?h1 ?_); (case h1 => walk_at "sq"); try simp only [List.set_cons_zero, List.set_cons_succ]))
local macro_rules | `(tactic| walk_at "st") => `(tactic| first
  | (with_reducible refine r_js ?_)
  | (with_reducible refine r_js0 ?_)
  | (with_reducible refine r_fmt ?_))
local macro_rules | `(tactic| walk_at "st") => `(tactic| first
  | (with_reducible refine Ow.r_sfld ?_)
  | ((with_reducible refine' Ow.r_sfldAt ?h1 ?h2 ?h3 ?h4 ?_); (case h1 => walk_at "hp"); (case h2 => exact Ow.OC.cl (by assumption)); (case h3 => assumption); (case h4 => (simp only [List.length_cons, List.length_nil]; omega)))
  | ((with_reducible refine Ow.r_make ?_); try simp only [List.cons_append, List.nil_append])
  | ((with_reducible refine Ow.r_meth ?_); skip)
  | ((with_reducible refine' Ow.r_methAt ?h1 ?h2 ?_); (case h1 => walk_at "hp"); (case h2 => rfl); try simp only [List.cons_append, List.nil_append]))
section
variable {P : Program} {w : World} {K : PySem.W.Frag} {mg : Str → Option Value} {base : Heap}
theorem ok_take (T : Tx K mg) : FnOk P w K mg base CX0 1 T.f_w_take T.fd_w_take ["_law_pot_here", "_law_size"] spTake := by
  refine T.F_w_take.ok sc_w_take (fun vs H Q E h => ?_) (fun cdv A outer s H vs Q E hr h => ?_)
  · obtain ⟨a, n, rfl, _⟩ := h; rfl
  · obtain ⟨a, n, rfl, ⟨P0, hP, pos, car, cnt, mix, sc, rfl, h4, hcar, hm0, hm1, hsc⟩, hn0, hn1, q⟩ := h
    refine ⟨_, (pss_cons (ps_asg (pe_op op_add (pe_ix ix_list (pv 0) pe_int (fun _ _ => rfl)) pe_int) (pg_sub (pv 0) pe_int set_list))
    (Evl.pss_cut (ps_if (PW.pt (pw_and (pt_cmpR op_eq (pe_ix ix_list (pv 0) pe_int (fun _ _ => rfl)) pe_int (nomark _)) (pw_and1 (pt_cmpR op_lt (pe_ix ix_list (pv 0) pe_int (fun _ _ => rfl)) (pe_callB call_len_seq (by rfl) T.m_len PySem.boot_len (pa_cons (pv 0) pa_nil)) (nomark _)))))
    (pss_cons (ps_set (i := 2) sc_w_take.nd rfl (Or.inl rfl) (pe_callTy call_int1 (by rfl) T.m_int (by decide +kernel) (pa_cons (pe_ix ix_list (pv 0) (pe_ix ix_list (pv 0) pe_int (fun _ _ => rfl)) (fun _ _ => rfl)) pa_nil)))
    (pss_cons (ps_asg (pe_op op_add (pe_ix ix_list (pv 0) pe_int (fun _ _ => rfl)) pe_int) (pg_sub (pv 0) pe_int set_list))
    (pss_one (ps_if (pt_cmpR op_ge (pv 2) (pe_op op_pow pe_int pe_int) (nomark _))
    (pss_one (ps_asg (pe_op op_sub (pv 2) (pe_op op_pow pe_int pe_int)) (pg_sub (pv 0) pe_int set_list)))
    (pss_one (ps_asg (pe_op op_mod (pe_callTy call_int1 (by rfl) T.m_int (by decide +kernel) (pa_cons (pe_op op_add (pe_op op_add (pe_op op_mul (pe_ix ix_list (pv 0) pe_int (fun _ _ => rfl)) pe_int) (pe_op op_mul (pv 2) pe_int)) pe_int) pa_nil)) pe_int) (pg_sub (pv 0) pe_int set_list)))))))
    pss_nil)
    (pss_cons (ps_if (pt_cmpR op_gt (pe_ix ix_list (pv 0) pe_int (fun _ _ => rfl)) pe_int (nomark _))
    (pss_cons (ps_set (i := 2) sc_w_take.nd rfl (Or.inl rfl) (pe_callTy call_int1 (by rfl) T.m_int (by decide +kernel) (pa_cons (pe_ix ix_list (pv 0) pe_int (fun _ _ => rfl)) pa_nil)))
    (pss_cons (ps_asg (pe_op op_fdivWN (pv 2) (pv 1)) (pg_sub (pv 0) pe_int set_list))
    (pss_one (ps_ret (pe_op op_mod (pe_callTy call_int1 (by rfl) T.m_int (by decide +kernel) (pa_cons (pv 2) pa_nil)) (pv 1))))))
    pss_nil)
    (pss_cons (ps_set (i := 3) sc_w_take.nd rfl (Or.inl rfl) (pe_op op_mod (pe_callTy call_int1 (by rfl) T.m_int (by decide +kernel) (pa_cons (pe_op op_mulG (pe_ix ix_list (pv 0) pe_int (fun _ _ => rfl)) (pe_op op_add (pe_op op_mul (pe_ix ix_list (pv 0) pe_int (fun _ _ => rfl)) pe_int) pe_int)) pa_nil)) pe_int))
    (pss_cons (ps_set (i := 3) sc_w_take.nd rfl (Or.inl rfl) (pe_op op_mod (pe_callTy call_int1 (by rfl) T.m_int (by decide +kernel) (pa_cons (pe_op op_mulG (pv 3) (pe_op op_add (pe_op op_add (pv 3) (pe_op op_mul (pe_ix ix_list (pv 0) pe_int (fun _ _ => rfl)) pe_int)) pe_int)) pa_nil)) pe_int))
    (pss_one (ps_ret (pe_op op_mod (pe_callTy call_int1 (by rfl) T.m_int (by decide +kernel) (pa_cons (pe_op op_add (pe_op op_fdiv (pv 3) pe_int) (pe_ix ix_list (pv 0) pe_int (fun _ _ => rfl))) pa_nil)) (pv 1))))))))), ?_⟩
    walk_at "start"
    walk_at "sts"
    refine r_cut (fun σ' H' => ∃ (pos car cnt mix : Int) (x : Option V), σ' = [some (.ref a), some (.int n), x, none] ∧ H' = upd H a (.lst (V.int pos :: V.int car :: V.int cnt :: V.int mix :: sc.map V.int)) ∧ 4 ≤ pos ∧ 0 ≤ car ∧ 0 ≤ mix ∧ mix < 2147483647) ?_ ?_
    · walk_at "sts"
      refine r_ite (fun c1 => ?_) (fun c1 => ?_)
      · walk_at "sts"
        refine r_ite (fun c2 => ?_) (fun c2 => ?_)
        · walk_at "sts"
          simp only [List.length_cons, List.length_map] at c2
          refine r_ixL (sqL_of upd_same) (pot_at h4 (by omega)) ?_
          walk_at "sts"
          refine r_ite (fun c3 => ?_) (fun c3 => ?_)
          · walk_at "sts"
            exact ⟨_, _, _, _, _, rfl, rfl, by omega, by omega, hm0, hm1⟩
          · walk_at "sts"
            exact ⟨_, _, _, _, _, rfl, rfl, by omega, by omega, Int.emod_nonneg _ (by decide), Int.emod_lt_of_pos _ (by decide)⟩
        · walk_at "sts"
          exact ⟨_, _, _, _, _, rfl, rfl, h4, hcar, hm0, hm1⟩
      · walk_at "sts"
        exact ⟨_, _, _, _, _, rfl, rfl, h4, hcar, hm0, hm1⟩
    · rintro σ' H' ⟨pos, car, cnt, mix, x, rfl, rfl, h4, hcar, hm0, hm1⟩
      walk_at "sts"
      refine r_ite (fun c1 => ?_) (fun c1 => ?_)
      · walk_at "sts"
        refine r_I ⟨by omega, log_ok 200 (by omega)⟩ ?_
        walk_at "sts"
        exact q _ _ (Int.emod_nonneg _ (by omega)) (Int.emod_lt_of_pos _ hn0) (Keep.at (by simp)) ⟨_, upd_same, pos, _, cnt, mix, sc, rfl, h4, Int.fdiv_nonneg (by omega) (by omega), hm0, hm1, hsc⟩
      · walk_at "sts"
        exact q _ _ (Int.emod_nonneg _ (by omega)) (Int.emod_lt_of_pos _ hn0) (Keep.at (by simp)) ⟨_, upd_same, pos, car, cnt, mix, sc, rfl, h4, hcar, hm0, hm1, hsc⟩
theorem ok_pot (T : Tx K mg) : FnOk P w K mg base CX0 1 T.f_w_pot T.fd_w_pot ["_law_script"] (spPot K) := by
  refine T.F_w_pot.ok sc_w_pot (fun vs H Q E h => ?_) (fun cdv A outer s H vs Q E hr h => ?_)
  · obtain ⟨a, ns, rfl, _⟩ := h; rfl
  · obtain ⟨a, ns, rfl, hs, hl, q⟩ := h
    refine ⟨_, (pss_one (ps_ret (pe_op op_cat (pe_lst (pa_cons pe_int (pa_cons pe_int (pa_cons pe_int (pa_cons pe_int pa_nil))))) (pe_callTy call_list_of (by rfl) T.m_list (by decide +kernel) (pa_cons (pe_slice sl_list (pv 0) po_none (po_some pe_int)) pa_nil))))), ?_⟩
    walk_at "start"
    walk_at "sts"
    intro p hp
    walk_at "sts"
    refine r_slL (Keep.l (Keep.new (M := []) hp) (by simp) hs) (fun p2 hp2 => ?_)
    walk_at "sts"
    intro p3 hp3
    have n2 : p ≠ p2 := ne_of_none (o := .lst [.int 4, .int 0, .int 0, .int 0]) upd_same hp2
    have n3 : p ≠ p3 := by
      refine ne_of_none (o := .lst [.int 4, .int 0, .int 0, .int 0]) ?_ hp3
      rw [upd_ne n2]; exact upd_same
    have e : cutV (ns.map V.int) none (some 63) = ns.map V.int := by
      unfold cutV
      rw [show HT.sIx (ns.map V.int).length (ns.map V.int).length (some 63) = min 63 (ns.map V.int).length from HT.sIx_nat _ _ 63, HT.sIx_none, List.length_map, Nat.min_eq_right hl, Nat.sub_zero, List.drop_zero]
      exact List.take_of_length_le (by rw [List.length_map]; exact Nat.le_refl _)
    refine r_cat (by rw [upd_ne n3, upd_ne n2]; exact upd_same) upd_same (le_size (by rw [e, List.length_map]; simp only [List.length_cons, List.length_nil]; omega)) (fun p4 hp4 => ?_)
    have k3 : Keep [] H (upd (upd (upd H p (.lst [.int 4, .int 0, .int 0, .int 0])) p2 (.lst (cutV (ns.map V.int) none (some 63)))) p3 (.lst (cutV (ns.map V.int) none (some 63)))) := ((Keep.new hp).trans (Keep.new hp2)).trans (Keep.new hp3)
    refine q p4 _ (k3.trans (Keep.new hp4)) (k3.free (by simp) hp4) ⟨_, upd_same, 4, 0, 0, 0, ns, ?_, by decide, by decide, by decide, by decide, hl⟩
    rw [e]; rfl
theorem ok_ratio (T : Tx K mg) : FnOk P w K mg base CX0 1 T.f_ratio T.fd_ratio ["top", "bottom"] spLow := by
  refine T.F_ratio.ok sc_ratio (fun vs H Q E h => ?_) (fun cdv A outer s H vs Q E hr h => ?_)
  · obtain ⟨a, b, rfl, _⟩ := h; rfl
  · obtain ⟨t, b, rfl, hb, hz, q⟩ := h
    refine ⟨_, PSs.nox (pss_cons (ps_if (pt_cmpR op_eq (pv 1) pe_int (nomark _))
    (pss_one ps_never)
    pss_nil)
    (pss_cons (ps_set (i := 2) sc_ratio.nd rfl (Or.inl rfl) (pe_callBfun cr_gcd rfl T.m_gcd (pa_cons (pv 0) (pa_cons (pv 1) pa_nil))))
    (pss_cons (ps_if (pt_cmpR op_lt (pv 1) pe_int (nomark _))
    (pss_one (ps_set (i := 2) sc_ratio.nd rfl (Or.inl rfl) (pe_un un_neg (pv 2))))
    pss_nil)
    (pss_one (ps_ret (pe_tup (pa_cons (pe_op op_fdivWN (pv 0) (pv 2)) (pa_cons (pe_op op_fdivWN (pv 1) (pv 2)) pa_nil)))))))), ?_⟩
    walk_at "start"
    walk_at "sts"
    have hl : (dv t b).natAbs.log2 < 9000 := log_ok 8000 (by rw [dv_abs]; exact Nat.lt_of_le_of_lt (gcd_le hb) hz)
    have hn := dv_ne (t := t) hb
    refine r_ite (fun c => ?_) (fun c => ?_)
    · have e : dv t b = -((Nat.gcd t.natAbs b.natAbs : Nat) : Int) := by unfold dv; rw [if_pos c]
      rw [e] at hl hn
      walk_at "sts"
      intro p hp
      refine q p _ (Keep.new hp) hp ?_
      rw [upd_same]; unfold lowT lowB; rw [e]
    · have e : dv t b = ((Nat.gcd t.natAbs b.natAbs : Nat) : Int) := by unfold dv; rw [if_neg c]
      rw [e] at hl hn
      walk_at "sts"
      intro p hp
      refine q p _ (Keep.new hp) hp ?_
      rw [upd_same]; unfold lowT lowB; rw [e]
theorem ok_plus (T : Tx K mg) (G_ratio : FnOk P w K mg base CX0 1 T.f_ratio T.fd_ratio ["top", "bottom"] spLow) : FnOk P w K mg base CX0 2 T.f_plus T.fd_plus ["first", "second"] (spTwo fPlus) := by
  refine T.F_plus.ok sc_plus (fun vs H Q E h => ?_) (fun cdv A outer s H vs Q E hr h => ?_)
  · obtain ⟨p, q, a, b, c, d, rfl, _⟩ := h; rfl
  · obtain ⟨p, q, a, b, c, d, rfl, hp, hq, hb, hd, za, zb, zc, zd, k⟩ := h
    refine ⟨_, (pss_one (ps_ret (pe_call G_ratio (hr.mono (by decide)) rfl T.g_ratio T.F_ratio.kp T.b2_ratio.choose_spec.2 T.b2_ratio.choose_spec.1 pass0 (pa_cons (pe_op op_add (pe_op op_mulG (pe_ix ix_tup (pv 0) pe_int (fun _ _ => rfl)) (pe_ix ix_tup (pv 1) pe_int (fun _ _ => rfl))) (pe_op op_mulG (pe_ix ix_tup (pv 1) pe_int (fun _ _ => rfl)) (pe_ix ix_tup (pv 0) pe_int (fun _ _ => rfl)))) (pa_cons (pe_op op_mulG (pe_ix ix_tup (pv 0) pe_int (fun _ _ => rfl)) (pe_ix ix_tup (pv 1) pe_int (fun _ _ => rfl))) pa_nil))))), ?_⟩
    walk_at "start"
    walk_at "sts"
    refine r_I (mulw 9000 3000 za zd) ?_
    walk_at "sts"
    refine r_I (mulw 9000 3000 zc zb) ?_
    walk_at "sts"
    refine r_I (mulw 3000 3000 zb zd) ?_
    walk_at "sts"
    exact r_low (Int.mul_ne_zero hb hd) (pow_mono 6000 8000 (wide_lt zb zd)) k
theorem ok_times (T : Tx K mg) (G_ratio : FnOk P w K mg base CX0 1 T.f_ratio T.fd_ratio ["top", "bottom"] spLow) : FnOk P w K mg base CX0 2 T.f_times T.fd_times ["first", "second"] (spTwo fTimes) := by
  refine T.F_times.ok sc_times (fun vs H Q E h => ?_) (fun cdv A outer s H vs Q E hr h => ?_)
  · obtain ⟨p, q, a, b, c, d, rfl, _⟩ := h; rfl
  · obtain ⟨p, q, a, b, c, d, rfl, hp, hq, hb, hd, za, zb, zc, zd, k⟩ := h
    refine ⟨_, (pss_one (ps_ret (pe_call G_ratio (hr.mono (by decide)) rfl T.g_ratio T.F_ratio.kp T.b2_ratio.choose_spec.2 T.b2_ratio.choose_spec.1 pass0 (pa_cons (pe_op op_mulG (pe_ix ix_tup (pv 0) pe_int (fun _ _ => rfl)) (pe_ix ix_tup (pv 1) pe_int (fun _ _ => rfl))) (pa_cons (pe_op op_mulG (pe_ix ix_tup (pv 0) pe_int (fun _ _ => rfl)) (pe_ix ix_tup (pv 1) pe_int (fun _ _ => rfl))) pa_nil))))), ?_⟩
    walk_at "start"
    walk_at "sts"
    refine r_I (mulw 9000 9000 za zc) ?_
    walk_at "sts"
    refine r_I (mulw 3000 3000 zb zd) ?_
    walk_at "sts"
    exact r_low (Int.mul_ne_zero hb hd) (pow_mono 6000 8000 (wide_lt zb zd)) k
theorem ok_whole (T : Tx K mg) : FnOk P w K mg base CX0 1 T.f_w_whole T.fd_w_whole ["_law_found"] spWhole := by
  refine T.F_w_whole.ok sc_w_whole (fun vs H Q E h => ?_) (fun cdv A outer s H vs Q E hr h => ?_)
  · obtain ⟨i, rfl, _⟩ := h; rfl
  · obtain ⟨i, rfl, k⟩ := h
    refine ⟨_, (pss_one (ps_ret (pe_and (pe_callB call_isi (by rfl) T.m_isinstance (by decide +kernel) (pa_cons (pv 0) (pa_cons (pe_bltn (v := .ty "int") (by rfl) T.m_int (by decide +kernel) rfl) pa_nil))) (pe_one (pe_not (pe_callB call_isi (by rfl) T.m_isinstance (by decide +kernel) (pa_cons (pv 0) (pa_cons (pe_bltn (v := .ty "bool") (by rfl) T.m_bool (by decide +kernel) rfl) pa_nil)))))))), ?_⟩
    walk_at "start"
    walk_at "sts"
    exact k
theorem ok_pairIs (T : Tx K mg) (G_w_whole : FnOk P w K mg base CX0 1 T.f_w_whole T.fd_w_whole ["_law_found"] spWhole) : FnOk P w K mg base CX0 2 T.f_w_pair_is T.fd_w_pair_is ["_law_found", "_law_pair"] spPairIs := by
  refine T.F_w_pair_is.ok sc_w_pair_is (fun vs H Q E h => ?_) (fun cdv A outer s H vs Q E hr h => ?_)
  · obtain ⟨p, q, a, b, rfl, _⟩ := h; rfl
  · obtain ⟨p, q, a, b, rfl, hp, hq, k⟩ := h
    refine ⟨_, (pss_cons (ps_if (PW.pt (pw_or (pt_not (pt_val (pe_callB call_isi (by rfl) T.m_isinstance (by decide +kernel) (pa_cons (pv 0) (pa_cons (pe_bltn (v := .ty "tuple") (by rfl) T.m_tuple (by decide +kernel) rfl) pa_nil))))) (pw_or1 (pt_cmpR op_ne (pe_callB call_len_seq (by rfl) T.m_len PySem.boot_len (pa_cons (pv 0) pa_nil)) pe_int (nomark _)))))
    (pss_one (ps_ret pe_bl))
    pss_nil)
    (pss_cons (ps_if (PW.pt (pw_or (pt_not (pt_val (pe_call G_w_whole (hr.mono (by decide)) rfl T.g_w_whole T.F_w_whole.kp T.b_w_whole .nil pass0 (pa_cons (pe_ix ix_tup (pv 0) pe_int (fun _ _ => rfl)) pa_nil)))) (pw_or1 (pt_not (pt_val (pe_call G_w_whole (hr.mono (by decide)) rfl T.g_w_whole T.F_w_whole.kp T.b_w_whole .nil pass0 (pa_cons (pe_ix ix_tup (pv 0) pe_int (fun _ _ => rfl)) pa_nil)))))))
    (pss_one (ps_ret pe_bl))
    pss_nil)
    (pss_one (ps_ret (pe_and (pe_cmpR op_eq (pe_ix ix_tup (pv 0) pe_int (fun _ _ => rfl)) (pe_ix ix_tup (pv 1) pe_int (fun _ _ => rfl)) (nomark _)) (pe_one (pe_cmpR op_eq (pe_ix ix_tup (pv 0) pe_int (fun _ _ => rfl)) (pe_ix ix_tup (pv 1) pe_int (fun _ _ => rfl)) (nomark _)))))))), ?_⟩
    walk_at "start"
    walk_at "sts"
    refine r_whole ?_
    walk_at "sts"
    refine r_whole ?_
    walk_at "sts"
    rw [decide_eq_true rfl]
    exact k
theorem ok_lowest (T : Tx K mg) : FnOk P w K mg base CX0 1 T.f_w_lowest T.fd_w_lowest ["_law_top", "_law_bottom"] spLow0 := by
  refine T.F_w_lowest.ok sc_w_lowest (fun vs H Q E h => ?_) (fun cdv A outer s H vs Q E hr h => ?_)
  · obtain ⟨a, b, rfl, _⟩ := h; rfl
  · obtain ⟨t, b, rfl, hb, hz, q⟩ := h
    refine ⟨_, (pss_cons (ps_set (i := 2) sc_w_lowest.nd rfl (Or.inl rfl) (pe_callB call_abs (by rfl) T.m_abs (by decide +kernel) (pa_cons (pv 0) pa_nil)))
    (pss_cons (ps_set (i := 3) sc_w_lowest.nd rfl (Or.inl rfl) (pv 1))
    (pss_cons (ps_while PassesOwn.never (pt_cmpR op_gt (pv 3) pe_int (nomark _))
    (pss_cons (ps_set (i := 4) sc_w_lowest.nd rfl (Or.inl rfl) (pe_op op_mod (pe_callTy call_int1 (by rfl) T.m_int (by decide +kernel) (pa_cons (pv 2) pa_nil)) (pv 3)))
    (pss_cons (ps_set (i := 2) sc_w_lowest.nd rfl (Or.inl rfl) (pv 3))
    (pss_one (ps_set (i := 3) sc_w_lowest.nd rfl (Or.inl rfl) (pv 4))))))
    (pss_one (ps_ret (pe_tup (pa_cons (pe_op op_fdivWN (pv 0) (pv 2)) (pa_cons (pe_op op_fdivWN (pv 1) (pv 2)) pa_nil)))))))), ?_⟩
    walk_at "start"
    walk_at "sts"
    refine r_while (fun m σ' H' => ∃ (x y : Int) (z : Option V), σ' = [some (.int t), some (.int b), some (.int x), some (.int y), z] ∧ H' = H ∧ 0 ≤ x ∧ 0 ≤ y ∧ m = y.toNat ∧ Nat.gcd x.natAbs y.natAbs = Nat.gcd t.natAbs b.natAbs) (m0 := b.toNat) ⟨_, _, _, rfl, rfl, by omega, by omega, rfl, by rw [Int.natAbs_natCast]⟩ ?_
    rintro m σ' H' ⟨x, y, z, rfl, rfl, hx, hy, rfl, hg⟩
    walk_at "sts"
    refine r_ite (fun c => ?_) (fun c => ?_)
    · refine r_turn ?_
      walk_at "sts"
      have h1 := Int.emod_nonneg x (show y ≠ 0 by omega)
      have h2 := Int.emod_lt_of_pos x c
      refine ⟨(x % y).toNat, by omega, y, x % y, _, rfl, rfl, by omega, h1, rfl, ?_⟩
      rw [← hg, Nat.gcd_comm y.natAbs, Int.natAbs_emod_of_nonneg hx, ← Nat.gcd_rec, Nat.gcd_comm]
    · have hy0 : y = 0 := by omega
      subst hy0
      rw [Int.natAbs_zero, Nat.gcd_zero_right] at hg
      have e : dv t b = x := by unfold dv; rw [if_neg (by omega), ← hg]; omega
      have hn : x ≠ 0 := by rw [← e]; exact dv_ne (by omega)
      have hl : x.natAbs.log2 < 9000 := log_ok 8000 (by rw [hg]; exact Nat.lt_of_le_of_lt (gcd_le (by omega)) hz)
      walk_at "sts"
      intro p hp
      refine q p _ (Keep.new hp) hp ?_
      rw [upd_same]; unfold lowT lowB; rw [e]
end
/-! ### names -/
def lettersL : List Nat := ("abcdefghijklmnopqrstuvwxyz" : Str).cps.toList
def signsL : List Nat := ("abcdefghijklmnopqrstuvwxyz.0123456789" : Str).cps.toList
/-- a quantity -/
structure IsQ (s : Str) : Prop where
  len : s.length ≤ 12
  hd : ∃ c, s.cps.toList[0]? = some c ∧ c ∈ lettersL
  la : ∃ c, s.cps.toList.getLast? = some c ∧ c ≠ 46
  al : ∀ c ∈ s.cps.toList, c ∈ signsL
theorem atI_m1 {α : Type} {xs : List α} {c : α} (h : xs.getLast? = some c) : atI xs (-1) = some c := by
  have hne : xs ≠ [] := by rintro rfl; simp at h
  have hl : 0 < xs.length := List.length_pos_iff.mpr hne
  unfold atI ixN
  rw [if_neg (by decide), if_pos (by omega)]
  show xs[(-1 + (xs.length : Int)).toNat]? = some c
  rw [show (-1 + (xs.length : Int)).toNat = xs.length - 1 by omega, ← List.getLast?_eq_getElem?]
  exact h
theorem IsQ.pos {s : Str} (h : IsQ s) : 1 ≤ s.length := by
  obtain ⟨c, hc, _⟩ := h.hd
  have := (List.getElem?_eq_some_iff.mp hc).1
  rw [Array.length_toList] at this
  exact this
theorem one_ne {c d : Nat} (h : c ≠ d) : (⟨#[c]⟩ : Str) ≠ ⟨#[d]⟩ := fun e => h (by simpa using congrArg Str.cps e)
def spIsQ : Sp := fun vs H Q _ => ∃ s : Str, vs = [.str s] ∧ IsQ s ∧ ∀ H', Keep [] H H' → Q (.bl true) H'
theorem r_isQ {Q : VK} {E : XK} {H : Hp} {s : Str} (h : IsQ s) (k : ∀ H', Keep [] H H' → Q (.bl true) H') : spIsQ [.str s] H Q E := ⟨s, rfl, h, k⟩
section
variable {P : Program} {w : World} {K : PySem.W.Frag} {mg : Str → Option Value} {base : Heap}
theorem ok_isQ (T : Tx K mg) : FnOk P w K mg base CX0 1 T.f_is_quantity T.fd_is_quantity ["text"] spIsQ := by
  refine T.F_is_quantity.ok sc_is_quantity (fun vs H Q E h => ?_) (fun cdv A outer s H vs Q E hr h => ?_)
  · obtain ⟨a, rfl, _⟩ := h; rfl
  · obtain ⟨t, rfl, hq, q⟩ := h
    have hp := hq.pos
    have hl := hq.len
    have hz : t.length ≤ sizeLine := le_size (by omega)
    obtain ⟨c0, hc0, hm0⟩ := hq.hd
    obtain ⟨c1, hc1, hm1⟩ := hq.la
    refine ⟨_, (pss_cons (ps_if (PW.pt (pw_or (pt_not (pt_val (pe_callB call_isi (by rfl) T.m_isinstance (by decide +kernel) (pa_cons (pv 0) (pa_cons (pe_bltn (v := .ty "str") (by rfl) T.m_str (by decide +kernel) rfl) pa_nil))))) (pw_or1 (pt_not (pt_chain op_le op_le pe_int (pe_callB call_len_str (by rfl) T.m_len PySem.boot_len (pa_cons (pv 0) pa_nil)) (pe_glob (v := .int (12)) rfl T.c_LONGEST_QUANTITY.choose_spec ⟨_, rfl⟩))))))
    (pss_one (ps_ret pe_bl))
    pss_nil)
    (pss_cons (ps_if (PW.pt (pw_or (pt_cmpR op_ninSg (pe_ix ix_str (pv 0) pe_int (fun _ _ => rfl)) (pe_glob (v := .str "abcdefghijklmnopqrstuvwxyz") rfl T.c_LETTERS.choose_spec ⟨_, rfl⟩) (by rfl)) (pw_or1 (pt_cmpR op_eq (pe_ix ix_str (pv 0) (pe_un un_neg pe_int) (fun _ _ => rfl)) pe_str (nomark _)))))
    (pss_one (ps_ret pe_bl))
    pss_nil)
    (pss_one (ps_ret (pe_callB (cr_all rfl) (by rfl) T.m_all (by decide +kernel) (pa_cons (pe_lc (own := [("sign", 1)]) (g := gName 1) (tt := tYes) rfl sc_is_quantity.nd (pi_str (pv 0)) (blkOk_by (own := [("sign", 1)]) (N := ["text", "sign"]) (sc := defScope s_is_quantity) (by decide +kernel)) (fun _ _ _ _ _ => pg_name (i := 1) sc_is_quantity.nd rfl (Or.inl rfl)) (fun _ _ _ _ _ => pts_nil) (fun _ _ _ _ _ => (pe_cmpR op_inSg (pv 1) (pe_glob (v := .str "abcdefghijklmnopqrstuvwxyz.0123456789") rfl T.c_QUANTITY_SIGNS.choose_spec ⟨_, rfl⟩) (by rfl)))) pa_nil)))))), ?_⟩
    walk_at "start"
    walk_at "sts"
    refine ⟨hz, ?_⟩
    walk_at "sts"
    refine r_ixS hz (atI_nat (j := 0) hc0) ?_
    walk_at "sts"
    refine r_iteNF (by exact hm0) ?_
    walk_at "sts"
    refine r_ixS hz (atI_m1 hc1) ?_
    walk_at "sts"
    refine r_iteF (one_ne hm1) ?_
    walk_at "sts"
    refine lcS_go (fun D i acc H' => acc = List.replicate i (V.bl true) ∧ Keep [] H H' ∧ H D = none) (fun D hD => ⟨rfl, Keep.new hD, hD⟩) ?_ ?_
    · rintro D i c acc H' hc hD ⟨rfl, hk, hn⟩
      have hc' : c ∈ signsL := hq.al c (Array.mem_toList_iff.mpr (Array.mem_of_getElem? hc))
      walk_at "sts"
      rw [show decide (c ∈ (Str.ofString "abcdefghijklmnopqrstuvwxyz.0123456789").cps.toList) = true from decide_eq_true hc']
      have h1 := (Array.getElem?_eq_some_iff.mp hc).1
      have h2 : t.cps.size = t.length := rfl
      exact lc_put hD (by rw [List.length_replicate]; exact lt_size (by omega)) ⟨by rw [← List.replicate_succ'], hk.mut hn, hn⟩
    · rintro D acc H' hD hD' ⟨rfl, hk, hn⟩
      walk_at "sts"
      refine r_all (bs := List.replicate t.cps.size true) (by rw [List.map_replicate]; exact sqL_of hD') ?_
      rw [show (List.replicate t.cps.size true).all id = true by simp]
      exact q _ hk
end
/-! ### the draws -/
/-- a name under way -/
structure PQ (n : Nat) (s : Str) : Prop where
  len : s.length = n
  hd : ∃ c, s.cps.toList[0]? = some c ∧ c ∈ lettersL
  al : ∀ c ∈ s.cps.toList, c ∈ signsL
def sgn1 (c : Nat) : Str := ⟨#[c]⟩
theorem letters_signs : ∀ c ∈ lettersL, c ∈ signsL := by decide +kernel
theorem PQ.one {c : Nat} (h : c ∈ lettersL) : PQ 1 (sgn1 c) := ⟨rfl, ⟨c, rfl, h⟩, fun d hd => by
  have : d = c := by simpa [sgn1] using hd
  rw [this]; exact letters_signs c h⟩
theorem tl_app (x y : Str) : (x ++ y).cps.toList = x.cps.toList ++ y.cps.toList := by show (x.cps ++ y.cps).toList = _; exact Array.toList_append
theorem len_tl (x : Str) : x.length = x.cps.toList.length := rfl
theorem len_app (x y : Str) : (x ++ y).length = x.length + y.length := by rw [len_tl, tl_app, List.length_append]; rfl
theorem PQ.snoc {n : Nat} {s : Str} {c : Nat} (h : PQ n s) (hc : c ∈ signsL) : PQ (n + 1) (s ++ sgn1 c) := by
  refine ⟨by rw [len_app, h.len]; rfl, ?_, fun d hd => ?_⟩
  · obtain ⟨d, hd, hm⟩ := h.hd
    refine ⟨d, ?_, hm⟩
    rw [tl_app, List.getElem?_append_left (List.getElem?_eq_some_iff.mp hd).1]; exact hd
  · rw [tl_app] at hd
    rcases List.mem_append.mp hd with hd | hd
    · exact h.al d hd
    · have : d = c := by simpa [sgn1] using hd
      rw [this]; exact hc
theorem PQ.pos {n : Nat} {s : Str} (h : PQ n s) : 1 ≤ n := by
  obtain ⟨c, hc, _⟩ := h.hd
  have := (List.getElem?_eq_some_iff.mp hc).1
  rw [← h.len, len_tl]; omega
theorem PQ.last {n : Nat} {s : Str} (h : PQ n s) : ∃ c, s.cps.toList.getLast? = some c := by
  have := h.pos
  have e : s.cps.toList ≠ [] := fun z => by have := h.len; rw [len_tl, z] at this; simp at this; omega
  exact ⟨_, List.getLast?_eq_some_getLast e⟩
theorem cut_m1 {s : Str} (h : 1 ≤ s.length) : (cutS s none (some (-1))).cps.toList = s.cps.toList.dropLast := by
  unfold cutS
  rw [HT.sIx_none, List.drop_zero, Nat.sub_zero]
  have : HT.sIx s.length s.length (some (-1)) = s.length - 1 := by
    unfold HT.sIx
    first
      | (simp; omega)
      | omega
  rw [this, List.dropLast_eq_take]; rfl
theorem cut_11 {s : Str} : (cutS s none (some 11)).cps.toList = s.cps.toList.take 11 := by
  unfold cutS
  rw [HT.sIx_none, List.drop_zero, Nat.sub_zero, show HT.sIx s.length s.length (some 11) = min 11 s.length from HT.sIx_nat _ _ 11]
  show s.cps.toList.take (min 11 s.length) = _
  rw [len_tl, List.take_eq_take_iff]; omega
/-- the last sign made another one -/
theorem PQ.fix {n : Nat} {s : Str} (h : PQ (n + 1) s) (hs : s.cps.toList.getLast? = some 46) : PQ (n + 1) (cutS s none (some (-1)) ++ sgn1 120) := by
  have e := cut_m1 (s := s) (by rw [h.len]; omega)
  obtain ⟨c, hc, hm⟩ := h.hd
  have hl : s.cps.toList.length = n + 1 := by rw [← len_tl]; exact h.len
  have hn : 0 < n := by
    rcases Nat.eq_zero_or_pos n with rfl | z
    · exfalso
      match hq : s.cps.toList, hl, hc, hs with
      | [d], _, hc, hs =>
        have h1 : d = c := by simpa using hc
        have h2 : d = 46 := by simpa using hs
        rw [← h1, h2] at hm
        exact absurd hm (by decide +kernel)
    · exact z
  refine ⟨by rw [len_app, len_tl, e, List.length_dropLast, hl]; rfl, ⟨c, ?_, hm⟩, fun d hd => ?_⟩
  · rw [tl_app, e, List.getElem?_append_left (by rw [List.length_dropLast, hl]; omega), List.getElem?_dropLast, if_pos (by rw [hl]; omega)]; exact hc
  · rw [tl_app, e] at hd
    rcases List.mem_append.mp hd with hd | hd
    · exact h.al d ((List.dropLast_sublist _).subset hd)
    · have : d = 120 := by simpa [sgn1] using hd
      rw [this]; decide +kernel
theorem PQ.isQ {n : Nat} {s : Str} {c : Nat} (h : PQ n s) (hn : n ≤ 12) (hc : s.cps.toList.getLast? = some c) (h46 : c ≠ 46) : IsQ s := ⟨by rw [h.len]; exact hn, h.hd, ⟨c, hc, h46⟩, h.al⟩
theorem last_snoc {s : Str} {c : Nat} : (s ++ sgn1 c).cps.toList.getLast? = some c := by rw [tl_app]; exact List.getLast?_concat
theorem IsQ.pq {s : Str} (h : IsQ s) : PQ s.length s := ⟨rfl, h.hd, h.al⟩
/-- cut to eleven signs, and one sign more -/
theorem IsQ.next {s : Str} {c : Nat} (h : IsQ s) (hc : c ∈ signsL) (h46 : c ≠ 46) : IsQ (cutS s none (some 11) ++ sgn1 c) := by
  have e := cut_11 (s := s)
  refine ⟨?_, ?_, ⟨c, last_snoc, h46⟩, fun d hd => ?_⟩
  · rw [len_app, len_tl, e, List.length_take]; have : (sgn1 c).length = 1 := rfl; omega
  · obtain ⟨d, hd, hm⟩ := h.hd
    have := (List.getElem?_eq_some_iff.mp hd).1
    refine ⟨d, ?_, hm⟩
    rw [tl_app, e, List.getElem?_append_left (by rw [List.length_take]; omega), List.getElem?_take, if_pos (by omega)]; exact hd
  · rw [tl_app, e] at hd
    rcases List.mem_append.mp hd with hd | hd
    · exact h.al d (List.mem_of_mem_take hd)
    · have : d = c := by simpa [sgn1] using hd
      rw [this]; exact hc
theorem inV_str {s : Str} : ∀ {xs : List Str}, inV (.str s) (xs.map V.str) = decide (s ∈ xs)
  | [] => rfl
  | x :: xs => by
    have ih := inV_str (s := s) (xs := xs)
    unfold inV at ih ⊢
    rw [List.map_cons, List.any_cons, ih]
    show (decide (x = s) || _) = _
    by_cases h : x = s
    · subst h; simp
    · have h' : ¬ s = x := fun e => h e.symm
      simp [h, h']
theorem flat_strs : ∀ xs : List Str, (xs.map V.str).all L2.flatV = true
  | [] => rfl
  | x :: xs => by rw [List.map_cons, List.all_cons, flat_strs xs]; rfl
theorem r_inT {K : PySem.W.Frag} {H : Hp} {Q : VK} {x : V} {p : Addr} {xs : List V} (h : SqT K H p xs) (fx : L2.flatV x = true) (fs : xs.all L2.flatV = true) (k : Q (.bl (inV x xs)) H) : rIn K false x (.ref p) H Q := ⟨p, xs, rfl, .inr h, fx, fs, by simpa using k⟩
theorem at_list {l : List Nat} {i : Int} (h0 : 0 ≤ i) (h1 : i < l.length) : ∃ c, atI l i = some c ∧ c ∈ l := by
  obtain ⟨n, rfl⟩ : ∃ n : Nat, i = n := ⟨i.toNat, by omega⟩
  have h2 : n < l.length := by omega
  exact ⟨l[n], atI_nat (List.getElem?_eq_getElem h2), List.getElem_mem h2⟩
def spName : Sp := fun vs H Q _ => ∃ (a : Addr) (sh : Int), vs = [.ref a, .int sh] ∧ PotAt a H ∧ 0 ≤ sh ∧ ∀ (s : Str) (H' : Hp), IsQ s → Keep [a] H H' → PotAt a H' → Q (.str s) H'
theorem r_name {Q : VK} {E : XK} {H : Hp} {a : Addr} {sh : Int} (hp : PotAt a H) (h0 : 0 ≤ sh) (k : ∀ (s : Str) (H' : Hp), IsQ s → Keep [a] H H' → PotAt a H' → Q (.str s) H') : spName [.ref a, .int sh] H Q E := ⟨a, sh, rfl, hp, h0, k⟩
section
variable {P : Program} {w : World} {K : PySem.W.Frag} {mg : Str → Option Value} {base : Heap}
abbrev GTake (P : Program) (w : World) (K : PySem.W.Frag) (mg : Str → Option Value) (base : Heap) (T : Tx K mg) := FnOk P w K mg base CX0 1 T.f_w_take T.fd_w_take ["_law_pot_here", "_law_size"] spTake
theorem ok_name (T : Tx K mg) (G_w_take : GTake P w K mg base T) : FnOk P w K mg base CX0 2 T.f_w_quantity T.fd_w_quantity ["_law_pot_here", "_law_shift"] spName := by
  refine T.F_w_quantity.ok sc_w_quantity (fun vs H Q E h => ?_) (fun cdv A outer s H vs Q E hr h => ?_)
  · obtain ⟨a, sh, rfl, _⟩ := h; rfl
  · obtain ⟨a, sh, rfl, hp, hsh, q⟩ := h
    refine ⟨_, (pss_cons (ps_set (i := 2) sc_w_quantity.nd rfl (Or.inl rfl) pe_str)
    (pss_cons (ps_set (i := 3) sc_w_quantity.nd rfl (Or.inl rfl) (pe_op op_addS (pv 2) pe_str))
    (pss_cons (ps_set (i := 4) sc_w_quantity.nd rfl (Or.inl rfl) (pe_ix ix_str (pv 2) (pe_op op_mod (pe_callTy call_int1 (by rfl) T.m_int (by decide +kernel) (pa_cons (pe_op op_add (pe_call G_w_take (hr.mono (by decide)) rfl T.g_w_take T.F_w_take.kp T.b_w_take .nil pass0 (pa_cons (pv 0) (pa_cons pe_int pa_nil))) (pv 1)) pa_nil)) pe_int) (fun _ _ => rfl)))
    (pss_cons (ps_set (i := 5) sc_w_quantity.nd rfl (Or.inl rfl) (pe_call G_w_take (hr.mono (by decide)) rfl T.g_w_take T.F_w_take.kp T.b_w_take .nil pass0 (pa_cons (pv 0) (pa_cons pe_int pa_nil))))
    (pss_cons (ps_set (i := 6) sc_w_quantity.nd rfl (Or.inl rfl) pe_int)
    (Evl.pss_cut (ps_if (pt_cmpR op_in_seq (pv 5) (pe_tup (pa_cons pe_int (pa_cons pe_int pa_nil))) (by rfl))
    (pss_one (ps_set (i := 6) sc_w_quantity.nd rfl (Or.inl rfl) (pv 5)))
    pss_nil)
    (Evl.pss_cut (ps_if (pt_cmpR op_gt (pv 5) pe_int (nomark _))
    (pss_one (ps_set (i := 6) sc_w_quantity.nd rfl (Or.inl rfl) (pe_call G_w_take (hr.mono (by decide)) rfl T.g_w_take T.F_w_take.kp T.b_w_take .nil pass0 (pa_cons (pv 0) (pa_cons pe_int pa_nil)))))
    pss_nil)
    (pss_cons (ps_for PassesOwn.never rfl (pi_range1 rfl T.m_range (pa_cons (pv 6) pa_nil)) (pg_name (i := 7) sc_w_quantity.nd rfl (Or.inl rfl))
    (pss_one (ps_set (i := 4) sc_w_quantity.nd rfl (Or.inl rfl) (pe_op op_addS (pv 4) (pe_ix ix_str (pv 3) (pe_call G_w_take (hr.mono (by decide)) rfl T.g_w_take T.F_w_take.kp T.b_w_take .nil pass0 (pa_cons (pv 0) (pa_cons pe_int pa_nil))) (fun _ _ => rfl))))))
    (pss_cons (ps_if (pt_cmpR op_eq (pe_ix ix_str (pv 4) (pe_un un_neg pe_int) (fun _ _ => rfl)) pe_str (nomark _))
    (pss_one (ps_set (i := 4) sc_w_quantity.nd rfl (Or.inl rfl) (pe_op op_addS (pe_slice sl_str (pv 4) po_none (po_some (pe_un un_neg pe_int))) pe_str)))
    pss_nil)
    (pss_one (ps_ret (pv 4)))))))))))), ?_⟩
    walk_at "start"
    walk_at "sts"
    refine r_addS (by decide +kernel) ?_
    walk_at "sts"
    refine r_take hp (by omega) (by omega) fun r1 H1 a1 b1 k1 p1 => ?_
    walk_at "sts"
    have := Int.emod_nonneg (r1 + sh) (show (26 : Int) ≠ 0 by decide)
    have := Int.emod_lt_of_pos (r1 + sh) (show (0 : Int) < 26 by decide)
    obtain ⟨c1, hc1, hm1⟩ := at_list (l := lettersL) (i := (r1 + sh) % 26) (by omega) (by show _ < ((26 : Nat) : Int); omega)
    refine r_ixS (by decide +kernel) hc1 ?_
    walk_at "sts"
    refine r_take p1 (by omega) (by omega) fun way H2 a2 b2 k2 p2 => ?_
    have k12 := k1.trans k2
    walk_at "sts"
    refine r_cut (fun σ' H' => ∃ (lg : Int), σ' = [some (.ref a), some (.int sh), some (.str (Str.ofString "abcdefghijklmnopqrstuvwxyz")), some (.str (Str.ofString "abcdefghijklmnopqrstuvwxyz" ++ Str.ofString "0123456789.")), some (.str (sgn1 c1)), some (.int way), some (.int lg), none] ∧ 0 ≤ lg ∧ lg < 12 ∧ Keep [a] H H' ∧ PotAt a H') ?_ ?_
    · walk_at "sts"
      intro t ht
      refine r_inT (sqT_of upd_same) rfl rfl ?_
      have p3 := p2.new (o := .tup [.int 1, .int 2]) ht
      have k3 := k12.trans (Keep.new (o := .tup [.int 1, .int 2]) ht)
      generalize upd H2 t (.tup [.int 1, .int 2]) = H3 at p3 k3 ⊢
      walk_at "sts"
      refine r_iteb (fun c => ?_) (fun c => ?_)
      · walk_at "sts"
        exact ⟨way, rfl, a2, by omega, k3, p3⟩
      · walk_at "sts"
        exact ⟨0, rfl, by decide, by decide, k3, p3⟩
    rintro σ0 H3 ⟨lg0, rfl, h00, h012, k3, p3⟩
    refine r_cut (fun σ' H' => ∃ (lg : Int), σ' = [some (.ref a), some (.int sh), some (.str (Str.ofString "abcdefghijklmnopqrstuvwxyz")), some (.str (Str.ofString "abcdefghijklmnopqrstuvwxyz" ++ Str.ofString "0123456789.")), some (.str (sgn1 c1)), some (.int way), some (.int lg), none] ∧ 0 ≤ lg ∧ lg < 12 ∧ Keep [a] H H' ∧ PotAt a H') ?_ ?_
    · walk_at "sts"
      refine r_ite (fun c2 => ?_) (fun c2 => ?_)
      · walk_at "sts"
        refine r_take p3 (by omega) (by omega) fun lg H4 a4 b4 k4 p4 => ?_
        walk_at "sts"
        exact ⟨lg, rfl, a4, b4, k3.trans k4, p4⟩
      · walk_at "sts"
        exact ⟨lg0, rfl, h00, h012, k3, p3⟩
    · clear k3 p3
      rintro σ' H3 ⟨lg, rfl, h0, h12, k3, p3⟩
      walk_at "sts"
      refine forR1_go (fun i σ' H' => ∃ (s : Str) (x : Option V), σ' = [some (.ref a), some (.int sh), some (.str (Str.ofString "abcdefghijklmnopqrstuvwxyz")), some (.str (Str.ofString "abcdefghijklmnopqrstuvwxyz" ++ Str.ofString "0123456789.")), some (.str s), some (.int way), some (.int lg), x] ∧ PQ (i + 1) s ∧ Keep [a] H H' ∧ PotAt a H') (by omega) ⟨_, _, rfl, PQ.one hm1, k3, p3⟩ ?_ ?_
      · rintro i σ' H4 hi ⟨s, x, rfl, hs, k4, p4⟩
        walk_at "sts"
        refine r_take p4 (by omega) (by omega) fun r H5 a5 b5 k5 p5 => ?_
        walk_at "sts"
        obtain ⟨c, hc, hm⟩ := at_list (l := (Str.ofString "abcdefghijklmnopqrstuvwxyz" ++ Str.ofString "0123456789.").cps.toList) (i := r) a5 (by show _ < ((37 : Nat) : Int); omega)
        refine r_ixS (by decide +kernel) hc ?_
        walk_at "sts"
        refine r_addS (le_size (by have := hs.len; have : (Str.mk #[c]).length = 1 := rfl; omega)) ?_
        walk_at "sts"
        exact ⟨_, _, rfl, hs.snoc ((by decide +kernel : ∀ c ∈ (Str.ofString "abcdefghijklmnopqrstuvwxyz" ++ Str.ofString "0123456789.").cps.toList, c ∈ signsL) c hm), k4.trans k5, p5⟩
      · rintro σ' H4 ⟨s, x, rfl, hs, k4, p4⟩
        obtain ⟨c, hc⟩ := hs.last
        have hz : s.length ≤ sizeLine := le_size (by have := hs.len; omega)
        walk_at "sts"
        refine r_ixS hz (atI_m1 hc) ?_
        walk_at "sts"
        refine r_ite (fun c2 => ?_) (fun c2 => ?_)
        · have e46 : c = 46 := by
            have := congrArg Str.cps c2
            exact (show #[c] = #[46] from this) |> fun z => by simpa using z
          subst e46
          walk_at "sts"
          refine r_slS hz ?_
          walk_at "sts"
          refine r_addS (le_size (by have h1 := (hs.fix hc).len; rw [len_app] at h1; have : (Str.ofString "x").length = (sgn1 120).length := rfl; omega)) ?_
          walk_at "sts"
          exact q _ _ ((hs.fix hc).isQ (by omega) last_snoc (by decide)) k4 p4
        · walk_at "sts"
          exact q _ _ (hs.isQ (by omega) hc (fun e => c2 (by rw [e]; rfl))) k4 p4
end
/-! ### pools, weights, pairs -/
/-- a row of names -/
def NamesAt (H : Hp) (p : Addr) (xs : List Str) : Prop := H p = some (.lst (xs.map V.str))
def spPool : Sp := fun vs H Q _ => ∃ (a : Addr) (m : Int), vs = [.ref a, .int m] ∧ PotAt a H ∧ 1 ≤ m ∧ m < 20 ∧ ∀ (p : Addr) (xs : List Str) (H' : Hp), 0 < xs.length → (xs.length : Int) ≤ m → (∀ x ∈ xs, IsQ x) → xs.Nodup → Keep [a] H H' → PotAt a H' → H p = none → NamesAt H' p xs → Q (.ref p) H'
theorem atI_nn {α : Type} {xs : List α} {i : Int} (h0 : 0 ≤ i) (h1 : i < xs.length) : ∃ c, atI xs i = some c ∧ c ∈ xs := by
  obtain ⟨n, rfl⟩ : ∃ n : Nat, i = n := ⟨i.toNat, by omega⟩
  have h2 : n < xs.length := by omega
  exact ⟨xs[n], atI_nat (List.getElem?_eq_getElem h2), List.getElem_mem h2⟩
theorem atI_strs {xs : List Str} {i : Int} (h0 : 0 ≤ i) (h1 : i < xs.length) : ∃ x, atI (xs.map V.str) i = some (.str x) ∧ x ∈ xs := by
  obtain ⟨c, hc, hm⟩ := atI_nn (xs := xs.map V.str) h0 (by rw [List.length_map]; exact h1)
  obtain ⟨x, hx, rfl⟩ := List.mem_map.mp hm
  exact ⟨x, hc, hx⟩
/-- what stands at addresses -/
def PairsAt (H : Hp) : List Addr → List Fm.Tm → Prop
  | [], [] => True
  | a :: as, p :: ts => H a = some (.tup [.str p.1, .int p.2]) ∧ PairsAt H as ts
  | _, _ => False
theorem PairsAt.len {H : Hp} : ∀ {as : List Addr} {ts : List Fm.Tm}, PairsAt H as ts → as.length = ts.length
  | [], [], _ => rfl
  | _ :: _, _ :: _, h => congrArg Nat.succ (PairsAt.len h.2)
  | [], _ :: _, h => h.elim
  | _ :: _, [], h => h.elim
theorem PairsAt.get {H : Hp} : ∀ {as : List Addr} {ts : List Fm.Tm} {i : Nat} {a : Addr}, PairsAt H as ts → as[i]? = some a → ∃ p, ts[i]? = some p ∧ H a = some (.tup [.str p.1, .int p.2])
  | [], _, _, _, _, e => by simp at e
  | _ :: _, [], _, _, h, _ => h.elim
  | b :: as, p :: ts, 0, a, h, e => by
    have : b = a := by simpa using e
    subst this; exact ⟨p, rfl, h.1⟩
  | b :: as, p :: ts, i + 1, a, h, e => by
    obtain ⟨q, h1, h2⟩ := PairsAt.get (i := i) h.2 (by simpa using e)
    exact ⟨q, by simpa using h1, h2⟩
theorem PairsAt.mono {H H' : Hp} : ∀ {as : List Addr} {ts : List Fm.Tm}, PairsAt H as ts → (∀ a p, a ∈ as → p ∈ ts → H a = some (.tup [.str p.1, .int p.2]) → H' a = some (.tup [.str p.1, .int p.2])) → PairsAt H' as ts
  | [], [], _, _ => trivial
  | a :: as, p :: ts, h, k => ⟨k a p (by simp) (by simp) h.1, h.2.mono fun b q hb hq => k b q (by simp [hb]) (by simp [hq])⟩
  | [], _ :: _, h, _ => h.elim
  | _ :: _, [], h, _ => h.elim
theorem PairsAt.app {H : Hp} : ∀ {as bs : List Addr} {ts us : List Fm.Tm}, PairsAt H as ts → PairsAt H bs us → PairsAt H (as ++ bs) (ts ++ us)
  | [], _, [], _, _, k => k
  | _ :: _, _, _ :: _, _, h, k => ⟨h.1, h.2.app k⟩
  | [], _, _ :: _, _, h, _ => h.elim
  | _ :: _, _, [], _, h, _ => h.elim
/-- kept where the changed addresses are no tuples -/
theorem PairsAt.keep {M : List Addr} {H H' : Hp} {as : List Addr} {ts : List Fm.Tm} (h : PairsAt H as ts) (k : Keep M H H') (n : ∀ m ∈ M, ∃ xs, H m = some (.lst xs)) : PairsAt H' as ts := by
  refine h.mono fun a p _ _ e => k a _ (fun hm => ?_) e
  obtain ⟨xs, hx⟩ := n a hm
  rw [hx] at e; cases e
theorem PairsAt.keep0 {H H' : Hp} {as : List Addr} {ts : List Fm.Tm} (h : PairsAt H as ts) (k : Keep [] H H') : PairsAt H' as ts := h.keep k (by simp)
/-- a row of pairs -/
def RowAt (H : Hp) (p : Addr) (ts : List Fm.Tm) : Prop := ∃ as : List Addr, H p = some (.lst (as.map V.ref)) ∧ PairsAt H as ts
/-- a tuple of pairs -/
def TupAt (H : Hp) (p : Addr) (ts : List Fm.Tm) : Prop := ∃ as : List Addr, H p = some (.tup (as.map V.ref)) ∧ PairsAt H as ts
theorem PotAt.lst {a : Addr} {H : Hp} (h : PotAt a H) : ∀ m ∈ [a], ∃ xs, H m = some (.lst xs) := fun m hm => by
  obtain ⟨P, hP, _⟩ := h
  rw [List.mem_singleton.mp hm]; exact ⟨P, hP⟩
theorem notpot_strs {xs : List Str} : ¬ Pot (xs.map V.str) := by
  rintro ⟨pos, car, cnt, mix, sc, e, _⟩
  cases xs with
  | nil => simp at e
  | cons x xs => simp at e
theorem notpot_refs {xs : List Addr} : ¬ Pot (xs.map V.ref) := by
  rintro ⟨pos, car, cnt, mix, sc, e, _⟩
  cases xs with
  | nil => simp at e
  | cons x xs => simp at e
theorem dp_pairs {K : PySem.W.Frag} {H : Hp} : ∀ {as : List Addr} {ts : List Fm.Tm}, PairsAt H as ts → DpAll K H (as.map V.ref) (ts.map fun p => PyData.tuple [.str p.1, .int p.2])
  | [], [], _ => .nil
  | a :: as, p :: ts, h => .cons (.tup (sqT_of h.1) (.cons (.str _) (.cons (.int _) .nil))) (dp_pairs h.2)
  | [], _ :: _, h => h.elim
  | _ :: _, [], h => h.elim
theorem IsQ.ok {s : Str} (h : IsQ s) : PyData.strOk s = true := by
  unfold PyData.strOk
  rw [← Array.all_toList, List.all_eq_true]
  intro c hc
  have := (by decide +kernel : ∀ c ∈ signsL, c < 0x110000) c (h.al c hc)
  simpa using this
theorem lay_pairs : ∀ {ts : List Fm.Tm}, (∀ t ∈ ts, IsQ t.1) → PyData.canLayAll0 (ts.map fun p => PyData.tuple [.str p.1, .int p.2]) = true ∧ PyData.depthAll (ts.map fun p => PyData.tuple [.str p.1, .int p.2]) ≤ 1
  | [], _ => by simp [PyData.canLayAll0, PyData.depthAll]
  | t :: ts, h => by
    have ih := lay_pairs (ts := ts) fun z hz => h z (by simp [hz])
    have e := (h t (by simp)).ok
    refine ⟨by simp [PyData.canLayAll0, PyData.canLay0, ih.1, e], ?_⟩
    have := ih.2
    simp [PyData.depthAll, PyData.depth]
    omega
theorem shaped_pairs {ts : List Fm.Tm} (h : ∀ t ∈ ts, IsQ t.1) : SeqAt.shaped (.tuple (ts.map fun p => PyData.tuple [.str p.1, .int p.2])) = true := by
  have := lay_pairs h
  unfold SeqAt.shaped
  simp [PyData.canLay0, PyData.depth, this.1]
  omega
def spPairs : Sp := fun vs H Q _ => ∃ (a p : Addr) (xs : List Str), vs = [.ref a, .ref p] ∧ PotAt a H ∧ NamesAt H p xs ∧ 0 < xs.length ∧ xs.length < 20 ∧ (∀ x ∈ xs, IsQ x) ∧ ∀ (q : Addr) (ts : List Fm.Tm) (H' : Hp), ts.length ≤ 8 → (∀ t ∈ ts, t.1 ∈ xs ∧ t.2.natAbs < 2 ^ 100) → Keep [a] H H' → PotAt a H' → H q = none → RowAt H' q ts → Q (.ref q) H'
/-- a level: a ratio -/
def spLevel : Sp := fun vs H Q _ => ∃ a : Addr, vs = [.ref a] ∧ PotAt a H ∧ ∀ (p : Addr) (t b : Int) (H' : Hp), 0 < b → t.natAbs < 2 ^ 100 → b.natAbs < 2 ^ 100 → Keep [a] H H' → PotAt a H' → H p = none → H' p = some (.tup [.int t, .int b]) → Q (.ref p) H'
section
variable {P : Program} {w : World} {K : PySem.W.Frag} {mg : Str → Option Value} {base : Heap}
theorem ok_pool (T : Tx K mg) (G_w_take : GTake P w K mg base T) (G_w_quantity : FnOk P w K mg base CX0 2 T.f_w_quantity T.fd_w_quantity ["_law_pot_here", "_law_shift"] spName) :
    FnOk P w K mg base CX0 3 T.f_w_pool T.fd_w_pool ["_law_pot_here", "_law_most"] spPool := by
  refine T.F_w_pool.ok sc_w_pool (fun vs H Q E h => ?_) (fun cdv A outer s H vs Q E hr h => ?_)
  · obtain ⟨a, m, rfl, _⟩ := h; rfl
  · obtain ⟨a, m, rfl, hp, h1, h20, q⟩ := h
    refine ⟨_, (pss_cons (ps_set (i := 2) sc_w_pool.nd rfl (Or.inl rfl) (pe_lst (pa_cons (pe_call G_w_quantity (hr.mono (by decide)) rfl T.g_w_quantity T.F_w_quantity.kp T.b_w_quantity .nil pass0 (pa_cons (pv 0) (pa_cons pe_int pa_nil))) pa_nil)))
    (pss_cons (ps_for PassesOwn.never rfl (pi_range2 rfl T.m_range (pa_cons pe_int (pa_cons (pv 1) pa_nil))) (pg_name (i := 3) sc_w_pool.nd rfl (Or.inl rfl))
    (pss_cons (ps_set (i := 4) sc_w_pool.nd rfl (Or.inl rfl) (pe_call G_w_quantity (hr.mono (by decide)) rfl T.g_w_quantity T.F_w_quantity.kp T.b_w_quantity .nil pass0 (pa_cons (pv 0) (pa_cons (pv 3) pa_nil))))
    (Evl.pss_cut (ps_if (pt_cmpR op_eq (pe_call G_w_take (hr.mono (by decide)) rfl T.g_w_take T.F_w_take.kp T.b_w_take .nil pass0 (pa_cons (pv 0) (pa_cons pe_int pa_nil))) pe_int (nomark _))
    (pss_one (ps_set (i := 4) sc_w_pool.nd rfl (Or.inl rfl) (pe_op op_addS (pe_slice sl_str (pe_ix ix_list (pv 2) (pe_un un_neg pe_int) (fun _ _ => rfl)) po_none (po_some pe_int)) (pe_ix ix_str pe_str (pe_call G_w_take (hr.mono (by decide)) rfl T.g_w_take T.F_w_take.kp T.b_w_take .nil pass0 (pa_cons (pv 0) (pa_cons pe_int pa_nil))) (fun _ _ => rfl)))))
    pss_nil)
    (pss_one (ps_if (pt_cmpR op_notIn_seq (pv 4) (pv 2) (by rfl))
    (pss_one (ps_expr (pe_bm PySem.F.plainAttrs_list PySem.F.slot_list_append PySem.F.type_list_append mt_append (pv 2) (pa_cons (pv 4) pa_nil))))
    pss_nil)))))
    (pss_one (ps_ret (pv 2))))), ?_⟩
    walk_at "start"
    walk_at "sts"
    refine r_name hp (by omega) fun s0 H1 i1 k1 p1 => ?_
    walk_at "sts"
    intro p hpn
    have np := p1.ne hpn
    have e2 : NamesAt (upd H1 p (.lst [.str s0])) p [s0] := upd_same
    have p2 := p1.new (o := .lst [.str s0]) hpn
    have k2 := k1.trans (Keep.new (o := .lst [.str s0]) hpn)
    have nH : H p = none := (k1).free (by simpa using np) hpn
    generalize upd H1 p (.lst [.str s0]) = H2 at e2 p2 k2 ⊢
    walk_at "sts"
    refine forR2_go (fun i σ' H' => ∃ (xs : List Str) (x1 x2 : Option V), σ' = [some (.ref a), some (.int m), some (.ref p), x1, x2] ∧ NamesAt H' p xs ∧ PotAt a H' ∧ Keep [a] H H' ∧ 0 < xs.length ∧ (xs.length : Int) ≤ 1 + i ∧ (∀ x ∈ xs, IsQ x) ∧ xs.Nodup) (by omega) ⟨_, _, _, rfl, e2, p2, k2, by simp, by simp, by simpa using i1, by simp⟩ ?_ ?_
    · rintro i σ' H3 hi ⟨xs, x1, x2, rfl, e3, p3, k3, l0, l1, hq, hd⟩
      walk_at "sts"
      refine r_name p3 (by omega) fun s1 H4 i4 k4 p4 => ?_
      have e4 : NamesAt H4 p xs := k4 _ _ (by simpa using np) e3
      refine r_cut (fun σ' H' => ∃ (s : Str), σ' = [some (.ref a), some (.int m), some (.ref p), some (.int (1 + i)), some (.str s)] ∧ NamesAt H' p xs ∧ PotAt a H' ∧ Keep [a] H H' ∧ IsQ s) ?_ ?_
      · walk_at "sts"
        refine r_take p4 (by omega) (by omega) fun r5 H5 a5 b5 k5 p5 => ?_
        have e5 : NamesAt H5 p xs := k5 _ _ (by simpa using np) e4
        have k35 := k3.trans (k4.trans k5)
        walk_at "sts"
        refine r_ite (fun c => ?_) (fun c => ?_)
        · walk_at "sts"
          obtain ⟨x, hx⟩ : ∃ x, xs.getLast? = some x := ⟨_, List.getLast?_eq_some_getLast (List.length_pos_iff.mp l0)⟩
          have qx := hq x (List.mem_of_getLast? hx)
          refine r_ixL (sqL_of e5) (atI_m1 (c := V.str x) (by rw [List.getLast?_map, hx]; rfl)) ?_
          walk_at "sts"
          refine r_slS (le_size (by have := qx.len; omega)) ?_
          walk_at "sts"
          refine r_take p5 (by omega) (by omega) fun r6 H6 a6 b6 k6 p6 => ?_
          walk_at "sts"
          obtain ⟨c1, hc1, hm1⟩ := at_list (l := (Str.ofString "0ax9").cps.toList) (i := r6) a6 (by show _ < ((4 : Nat) : Int); omega)
          refine r_ixS (by decide +kernel) hc1 ?_
          have nx := qx.next ((by decide +kernel : ∀ c ∈ (Str.ofString "0ax9").cps.toList, c ∈ signsL) c1 hm1) ((by decide +kernel : ∀ c ∈ (Str.ofString "0ax9").cps.toList, c ≠ 46) c1 hm1)
          refine r_addS (le_size (by have h := nx.len; rw [len_app] at h; have : (sgn1 c1).length = (Str.mk #[c1]).length := rfl; omega)) ?_
          walk_at "sts"
          exact ⟨_, rfl, k6 _ _ (by simpa using np) e5, p6, k35.trans k6, nx⟩
        · walk_at "sts"
          exact ⟨_, rfl, e5, p5, k35, i4⟩
      · rintro σ' H5 ⟨s, rfl, e5, p5, k5, qs⟩
        walk_at "sts"
        refine r_ninL (sqL_of e5) rfl (flat_strs xs) ?_
        rw [inV_str]
        walk_at "sts"
        refine r_iteN (fun c => ?_) (fun c => ?_)
        · walk_at "sts"
          have e6 : NamesAt (upd H5 p (.lst (xs.map V.str ++ [.str s]))) p (xs ++ [s]) := by unfold NamesAt; rw [upd_same, List.map_append]; rfl
          refine ⟨xs ++ [s], _, _, rfl, e6, p5.put np, k5.mut nH, by simp, by simp; omega, fun x hx => ?_, ?_⟩
          · rcases List.mem_append.mp hx with hx | hx
            · exact hq x hx
            · rw [List.mem_singleton.mp hx]; exact qs
          · exact List.nodup_append.mpr ⟨hd, by simp, fun x hx y hy e => c (by rw [← List.mem_singleton.mp hy, ← e]; exact hx)⟩
        · walk_at "sts"
          exact ⟨xs, _, _, rfl, e5, p5, k5, l0, by omega, hq, hd⟩
    · rintro σ' H3 ⟨xs, x1, x2, rfl, e3, p3, k3, l0, l1, hq, hd⟩
      walk_at "sts"
      exact q p xs H3 l0 (by omega) hq hd k3 p3 nH e3
end
theorem RowAt.snoc {H : Hp} {p q : Addr} {as : List Addr} {ts : List Fm.Tm} {t : Fm.Tm} (h : PairsAt H as ts) (hq : H q = some (.tup [.str t.1, .int t.2])) (e : H p = some (.lst ((as ++ [q]).map V.ref))) : RowAt H p (ts ++ [t]) := ⟨as ++ [q], e, h.app ⟨hq, trivial⟩⟩
theorem r_potIntW {Q : VK} {E : XK} {H : Hp} {m : Nat} {a : Addr} (hp : PotAt a H) (k : ∀ (r : Int) (H' : Hp), r.natAbs < m → Keep [a] H H' → PotAt a H' → Q (.int r) H') : spPotInt m [.ref a] H Q E := ⟨a, rfl, hp, k⟩
theorem shaped_pairsL {ts : List Fm.Tm} (h : ∀ t ∈ ts, IsQ t.1) : SeqAt.shaped (.list (ts.map fun p => PyData.tuple [.str p.1, .int p.2])) = true := by
  have := lay_pairs h
  unfold SeqAt.shaped
  simp [PyData.canLay0, PyData.depth, this.1]
  omega
theorem r_nePairsNil {K : PySem.W.Frag} {H : Hp} {Q : VK} {p q : Addr} {as : List Addr} {ts : List Fm.Tm} (hp : H p = some (.lst (as.map V.ref))) (ht : PairsAt H as ts) (hq : H q = some (.lst [])) (h : ∀ t ∈ ts, IsQ t.1) (k : Q (.bl (!decide (ts = []))) H) : rNeD K (.ref p) (.ref q) H Q :=
  ⟨_, _, .lst (sqL_of hp) (dp_pairs ht), .lst (sqL_of hq) .nil, shaped_pairsL h, shaped_pairsL (ts := []) (by simp), by
    have e : PyData.eqv (.list (ts.map fun p => PyData.tuple [.str p.1, .int p.2])) (.list []) = decide (ts = []) := by
      rw [eqvL]
      cases ts with
      | nil => rfl
      | cons t ts => simp [PyData.eqvAll]
    rw [e]; exact k⟩
section
variable {P : Program} {w : World} {K : PySem.W.Frag} {mg : Str → Option Value} {base : Heap}
theorem ok_weight (T : Tx K mg) (G_w_take : GTake P w K mg base T) : FnOk P w K mg base CX0 2 T.f_w_weight T.fd_w_weight ["_law_pot_here"] (spPotInt (10 ^ 30)) := by
  refine T.F_w_weight.ok sc_w_weight (fun vs H Q E h => ?_) (fun cdv A outer s H vs Q E hr h => ?_)
  · obtain ⟨a, rfl, _⟩ := h; rfl
  · obtain ⟨a, rfl, hp, q⟩ := h
    refine ⟨_, (pss_cons (ps_set (i := 1) sc_w_weight.nd rfl (Or.inl rfl) (pe_call G_w_take (hr.mono (by decide)) rfl T.g_w_take T.F_w_take.kp T.b_w_take .nil pass0 (pa_cons (pv 0) (pa_cons pe_int pa_nil))))
    (pss_cons (ps_set (i := 2) sc_w_weight.nd rfl (Or.inl rfl) (pe_op op_sub pe_int (pe_op op_mul pe_int (pe_call G_w_take (hr.mono (by decide)) rfl T.g_w_take T.F_w_take.kp T.b_w_take .nil pass0 (pa_cons (pv 0) (pa_cons pe_int pa_nil))))))
    (pss_cons (ps_if (pt_cmpR op_lt (pv 1) pe_int (nomark _))
    (pss_one (ps_ret (pe_op op_mulG (pv 2) (pe_call G_w_take (hr.mono (by decide)) rfl T.g_w_take T.F_w_take.kp T.b_w_take .nil pass0 (pa_cons (pv 0) (pa_cons pe_int pa_nil))))))
    pss_nil)
    (pss_cons (ps_if (pt_cmpR op_eq (pv 1) pe_int (nomark _))
    (pss_one (ps_ret (pe_op op_mulG (pv 2) (pe_call G_w_take (hr.mono (by decide)) rfl T.g_w_take T.F_w_take.kp T.b_w_take .nil pass0 (pa_cons (pv 0) (pa_cons pe_int pa_nil))))))
    pss_nil)
    (pss_cons (ps_if (pt_cmpR op_eq (pv 1) pe_int (nomark _))
    (pss_cons (ps_set (i := 3) sc_w_weight.nd rfl (Or.inl rfl) (pe_ix ix_list (pe_lst (pa_cons (pe_op op_pow pe_int pe_int) (pa_cons (pe_op op_add (pe_op op_pow pe_int pe_int) pe_int) (pa_cons (pe_op op_pow pe_int pe_int) (pa_cons (pe_op op_pow pe_int pe_int) pa_nil))))) (pe_call G_w_take (hr.mono (by decide)) rfl T.g_w_take T.F_w_take.kp T.b_w_take .nil pass0 (pa_cons (pv 0) (pa_cons pe_int pa_nil))) (fun _ _ => rfl)))
    (pss_one (ps_ret (pe_op op_mulG (pv 2) (pe_op op_sub (pe_op op_sub (pv 3) pe_int) (pe_call G_w_take (hr.mono (by decide)) rfl T.g_w_take T.F_w_take.kp T.b_w_take .nil pass0 (pa_cons (pv 0) (pa_cons pe_int pa_nil))))))))
    pss_nil)
    (pss_cons (ps_set (i := 4) sc_w_weight.nd rfl (Or.inl rfl) (pe_op op_add (pe_op op_mulG (pe_call G_w_take (hr.mono (by decide)) rfl T.g_w_take T.F_w_take.kp T.b_w_take .nil pass0 (pa_cons (pv 0) (pa_cons (pe_op op_pow pe_int pe_int) pa_nil))) (pe_op op_pow pe_int pe_int)) (pe_op op_mul (pe_call G_w_take (hr.mono (by decide)) rfl T.g_w_take T.F_w_take.kp T.b_w_take .nil pass0 (pa_cons (pv 0) (pa_cons (pe_op op_pow pe_int pe_int) pa_nil))) (pe_op op_pow pe_int pe_int))))
    (pss_one (ps_ret (pe_op op_mulG (pv 2) (pe_op op_add (pv 4) (pe_call G_w_take (hr.mono (by decide)) rfl T.g_w_take T.F_w_take.kp T.b_w_take .nil pass0 (pa_cons (pv 0) (pa_cons (pe_op op_pow pe_int pe_int) pa_nil))))))))))))), ?_⟩
    walk_at "start"
    walk_at "sts"
    refine r_take hp (by omega) (by omega) fun r1 H1 a1 b1 k1 p1 => ?_
    walk_at "sts"
    refine r_take p1 (by omega) (by omega) fun r2 H2 a2 b2 k2 p2 => ?_
    walk_at "sts"
    refine r_ite (fun c1 => ?_) (fun c1 => ?_)
    · walk_at "sts"
      refine r_take p2 (by omega) (by omega) fun r3 H3 a3 b3 k3 p3 => ?_
      walk_at "sts"
      exact q _ _ (by rw [sgn_abs a2 b2]; omega) (k1.trans (k2.trans k3)) p3
    walk_at "sts"
    refine r_ite (fun c2 => ?_) (fun c2 => ?_)
    · walk_at "sts"
      refine r_take p2 (by omega) (by omega) fun r3 H3 a3 b3 k3 p3 => ?_
      walk_at "sts"
      exact q _ _ (by rw [sgn_abs a2 b2]; omega) (k1.trans (k2.trans k3)) p3
    walk_at "sts"
    refine r_ite (fun c3 => ?_) (fun c3 => ?_)
    · walk_at "sts"
      intro l hl
      walk_at "sts"
      refine r_take (p2.new hl) (by omega) (by omega) fun r3 H3 a3 b3 k3 p3 => ?_
      have el : H3 l = some (.lst ([10 ^ 9, 2 ^ 53 + 3, 10 ^ 29, 10 ^ 30].map V.int)) := k3 l _ (by simp; exact p2.ne hl) upd_same
      walk_at "sts"
      have hb := getD_all (p := fun x => 4 ≤ x ∧ x ≤ 10 ^ 30) (P := [10 ^ 9, 2 ^ 53 + 3, 10 ^ 29, 10 ^ 30]) (i := r3.toNat) (by decide) (by show r3.toNat < 4; omega)
      generalize List.getD [10 ^ 9, 2 ^ 53 + 3, 10 ^ 29, 10 ^ 30] r3.toNat (0 : Int) = ed at hb ⊢
      walk_at "sts"
      refine r_take p3 (by omega) (by omega) fun r4 H4 a4 b4 k4 p4 => ?_
      walk_at "sts"
      exact q _ _ (by rw [sgn_abs a2 b2]; omega) (k1.trans (k2.trans ((Keep.new hl).trans (k3.trans k4)))) p4
    walk_at "sts"
    refine r_take p2 (by omega) (by omega) fun r3 H3 a3 b3 k3 p3 => ?_
    walk_at "sts"
    refine r_take p3 (by omega) (by omega) fun r4 H4 a4 b4 k4 p4 => ?_
    walk_at "sts"
    refine r_take p4 (by omega) (by omega) fun r5 H5 a5 b5 k5 p5 => ?_
    walk_at "sts"
    exact q _ _ (by rw [sgn_abs a2 b2]; omega) (k1.trans (k2.trans (k3.trans (k4.trans k5)))) p5
theorem ok_pairs (T : Tx K mg) (G_w_take : GTake P w K mg base T) (G_w_weight : FnOk P w K mg base CX0 2 T.f_w_weight T.fd_w_weight ["_law_pot_here"] (spPotInt (10 ^ 30))) :
    FnOk P w K mg base CX0 3 T.f_w_pairs T.fd_w_pairs ["_law_pot_here", "_law_pool_here"] spPairs := by
  refine T.F_w_pairs.ok sc_w_pairs (fun vs H Q E h => ?_) (fun cdv A outer s H vs Q E hr h => ?_)
  · obtain ⟨a, p, xs, rfl, _⟩ := h; rfl
  · obtain ⟨a, p, xs, rfl, hp, hx, l0, l20, hq0, q⟩ := h
    have npa := hp.ne' hx notpot_strs
    refine ⟨_, (pss_cons (ps_set (i := 2) sc_w_pairs.nd rfl (Or.inl rfl) (pe_lst pa_nil))
    (pss_cons (ps_for PassesOwn.never rfl (pi_range1 rfl T.m_range (pa_cons (pe_call G_w_take (hr.mono (by decide)) rfl T.g_w_take T.F_w_take.kp T.b_w_take .nil pass0 (pa_cons (pv 0) (pa_cons pe_int pa_nil))) pa_nil)) (pg_name (i := 3) sc_w_pairs.nd rfl (Or.inl rfl))
    (pss_cons (ps_set (i := 4) sc_w_pairs.nd rfl (Or.inl rfl) (pe_tup (pa_cons (pe_ix ix_list (pv 1) (pe_call G_w_take (hr.mono (by decide)) rfl T.g_w_take T.F_w_take.kp T.b_w_take .nil pass0 (pa_cons (pv 0) (pa_cons (pe_callB call_len_seq (by rfl) T.m_len PySem.boot_len (pa_cons (pv 1) pa_nil)) pa_nil))) (fun _ _ => rfl)) (pa_cons (pe_call G_w_weight (hr.mono (by decide)) rfl T.g_w_weight T.F_w_weight.kp T.b_w_weight .nil pass0 (pa_cons (pv 0) pa_nil)) pa_nil))))
    (Evl.pss_cut (ps_if (PW.pt (pw_and (pt_cmpR (op_neD hr.units) (pv 2) (pe_lst pa_nil) (nomark _)) (pw_and1 (pt_cmpR op_eq (pe_call G_w_take (hr.mono (by decide)) rfl T.g_w_take T.F_w_take.kp T.b_w_take .nil pass0 (pa_cons (pv 0) (pa_cons pe_int pa_nil))) pe_int (nomark _)))))
    (pss_cons (ps_set (i := 5) sc_w_pairs.nd rfl (Or.inl rfl) (pe_ix ix_list (pv 2) (pe_call G_w_take (hr.mono (by decide)) rfl T.g_w_take T.F_w_take.kp T.b_w_take .nil pass0 (pa_cons (pv 0) (pa_cons (pe_callB call_len_seq (by rfl) T.m_len PySem.boot_len (pa_cons (pv 2) pa_nil)) pa_nil))) (fun _ _ => rfl)))
    (pss_one (ps_set (i := 4) sc_w_pairs.nd rfl (Or.inl rfl) (pe_tup (pa_cons (pe_ix ix_tup (pv 5) pe_int (fun _ _ => rfl)) (pa_cons (pe_un un_neg (pe_ix ix_tup (pv 5) pe_int (fun _ _ => rfl))) pa_nil))))))
    pss_nil)
    (pss_one (ps_expr (pe_bm PySem.F.plainAttrs_list PySem.F.slot_list_append PySem.F.type_list_append mt_append (pv 2) (pa_cons (pv 4) pa_nil)))))))
    (pss_one (ps_ret (pv 2))))), ?_⟩
    walk_at "start"
    walk_at "sts"
    intro l hl
    have nla := hp.ne hl
    have p1 := hp.new (o := .lst []) hl
    have k1 : Keep [a] H (upd H l (.lst [])) := Keep.new hl
    have e1 : upd H l (.lst []) l = some (.lst (([] : List Addr).map V.ref)) := upd_same
    have x1 : NamesAt (upd H l (.lst [])) p xs := k1 _ _ (by simpa using npa) hx
    have npl : p ≠ l := by rintro rfl; cases (hl.symm.trans hx)
    generalize upd H l (.lst []) = H1 at p1 k1 e1 x1 ⊢
    walk_at "sts"
    refine r_take p1 (by omega) (by omega) fun n H2 a2 b2 k2 p2 => ?_
    have e2 := k2 _ _ (by simpa using nla) e1
    have x2 : NamesAt H2 p xs := k2 _ _ (by simpa using npa) x1
    refine forR1_go (fun i σ' H' => ∃ (as : List Addr) (ts : List Fm.Tm) (x y z : Option V), σ' = [some (.ref a), some (.ref p), some (.ref l), x, y, z] ∧ H' l = some (.lst (as.map V.ref)) ∧ PairsAt H' as ts ∧ NamesAt H' p xs ∧ PotAt a H' ∧ Keep [a] H H' ∧ ts.length ≤ i ∧ ∀ t ∈ ts, t.1 ∈ xs ∧ t.2.natAbs < 2 ^ 100) (by omega) ⟨[], [], _, _, _, by first | exact rfl | trivial, e2, trivial, x2, p2, k1.trans k2, by simp, by simp⟩ ?_ ?_
    · rintro i σ' H3 hi ⟨as, ts, x, y, z, rfl, e3, r3, x3, p3, k3, l3, h3⟩
      have x3' : H3 p = some (.lst (xs.map V.str)) := x3
      walk_at "sts"
      simp only [List.length_map]
      refine r_take p3 (by omega) (by omega) fun n4 H4 a4 b4 k4 p4 => ?_
      have x4 : NamesAt H4 p xs := k4 _ _ (by simpa using npa) x3
      obtain ⟨nm, hnm, mnm⟩ := atI_strs (xs := xs) a4 (by omega)
      refine r_ixL (sqL_of x4) hnm ?_
      walk_at "sts"
      refine r_potIntW p4 fun wg H5 h5 k5 p5 => ?_
      have k45 := k4.trans k5
      have e5 := k45 _ _ (by simpa using nla) e3
      have r5 := r3.keep k45 p3.lst
      have x5 : NamesAt H5 p xs := k45 _ _ (by simpa using npa) x3
      have k5' := k3.trans k45
      walk_at "sts"
      intro t ht
      have e6 : upd H5 t (.tup [.str nm, .int wg]) t = some (.tup [.str nm, .int wg]) := upd_same
      have kt : Keep [] H5 (upd H5 t (.tup [.str nm, .int wg])) := Keep.new ht
      have p6 := p5.new (o := .tup [.str nm, .int wg]) ht
      have el6 := kt _ _ (by simp) e5
      have x6 : NamesAt (upd H5 t (.tup [.str nm, .int wg])) p xs := kt _ _ (by simp) x5
      have r6 := r5.keep0 kt
      have k6 := k5'.trans (kt.mono (by simp))
      generalize upd H5 t (.tup [.str nm, .int wg]) = H6 at e6 p6 el6 x6 r6 k6 ⊢
      clear k4 k5 k45 e5 r5 x5 k5' p5 p4 x4 kt
      have hlen := r6.len
      refine r_cut (fun σ' H' => ∃ (t2 : Addr) (nm2 : Str) (wg2 : Int) (z : Option V), σ' = [some (.ref a), some (.ref p), some (.ref l), some (.int i), some (.ref t2), z] ∧ H' t2 = some (.tup [.str nm2, .int wg2]) ∧ nm2 ∈ xs ∧ wg2.natAbs < 2 ^ 100 ∧ H' l = some (.lst (as.map V.ref)) ∧ PairsAt H' as ts ∧ NamesAt H' p xs ∧ PotAt a H' ∧ Keep [a] H H') ?_ ?_
      · walk_at "sts"
        intro z0 hz0
        have kz : Keep [] H6 (upd H6 z0 (.lst [])) := Keep.new hz0
        have ez : upd H6 z0 (.lst []) z0 = some (.lst []) := upd_same
        have e7 := kz _ _ (by simp) e6
        have el7 := kz _ _ (by simp) el6
        have x7 : NamesAt (upd H6 z0 (.lst [])) p xs := kz _ _ (by simp) x6
        have r7 := r6.keep0 kz
        have p7 := p6.new (o := .lst []) hz0
        have k7 := k6.trans (kz.mono (by simp))
        generalize upd H6 z0 (.lst []) = H7 at ez e7 el7 x7 r7 p7 k7 ⊢
        clear e6 el6 x6 r6 p6 k6 kz
        refine r_nePairsNil el7 r7 ez (fun u hu => hq0 _ (h3 u hu).1) ?_
        by_cases hts : ts = []
        · rw [decide_eq_true hts]
          walk_at "sts"
          exact ⟨t, nm, wg, _, by first | exact rfl | trivial, e7, mnm, by omega, el7, r7, x7, p7, k7⟩
        rw [decide_eq_false hts]
        walk_at "sts"
        have nta : t ≠ a := by rintro rfl; obtain ⟨_, e0, _⟩ := p7; cases (e0.symm.trans e7)
        refine r_take p7 (by decide) (by decide) fun n8 H8 a8 b8 k8 p8 => ?_
        have e8 := k8 _ _ (by simpa using nta) e7
        have el8 := k8 _ _ (by simpa using nla) el7
        have x8 : NamesAt H8 p xs := k8 _ _ (by simpa using npa) x7
        have r8 := r7.keep k8 p7.lst
        have k18 := k7.trans k8
        walk_at "sts"
        refine r_ite (fun c1 => ?_) (fun c1 => ?_)
        case refine_2 =>
          walk_at "sts"
          exact ⟨t, nm, wg, _, by first | exact rfl | trivial, e8, mnm, by omega, el8, r8, x8, p8, k18⟩
        have hpos : 0 < ts.length := List.length_pos_iff.mpr hts
        walk_at "sts"
        simp only [List.length_map]
        refine r_take p8 (by omega) (by omega) fun n9 H9 a9 b9 k9 p9 => ?_
        have e9 := k9 _ _ (by simpa using nta) e8
        have el9 := k9 _ _ (by simpa using nla) el8
        have x9 : NamesAt H9 p xs := k9 _ _ (by simpa using npa) x8
        have r9 := r8.keep k9 p8.lst
        have k19 := k18.trans k9
        obtain ⟨j, rfl⟩ : ∃ j : Nat, n9 = j := ⟨n9.toNat, by omega⟩
        have laj : j < as.length := by omega
        obtain ⟨aj, haj⟩ : ∃ u, as[j]? = some u := ⟨_, List.getElem?_eq_getElem laj⟩
        obtain ⟨zt, hzt, ezt⟩ := r9.get haj
        have hm := h3 zt (List.mem_of_getElem? hzt)
        refine r_ixL (sqL_of el9) (atI_nat (by rw [List.getElem?_map, haj]; rfl)) ?_
        simp only [List.set_cons_zero, List.set_cons_succ]
        walk_at "sts"
        intro t2 ht2
        have k10 : Keep [] H9 (upd H9 t2 (.tup [.str zt.1, .int (-zt.2)])) := Keep.new ht2
        have e10 : upd H9 t2 (.tup [.str zt.1, .int (-zt.2)]) t2 = some (.tup [.str zt.1, .int (-zt.2)]) := upd_same
        refine ⟨t2, zt.1, -zt.2, _, by first | exact rfl | trivial, e10, hm.1, by rw [Int.natAbs_neg]; exact hm.2, k10 _ _ (by simp) el9, r9.keep0 k10, k10 _ _ (by simp) x9, p9.new ht2, k19.trans (k10.mono (by simp))⟩
      rintro σ' H7 ⟨t2, nm2, wg2, z', rfl, e7, mn, w7, el7, r7, x7, p7, k7⟩
      walk_at "sts"
      have nlt : t2 ≠ l := by rintro rfl; rw [e7] at el7; cases el7
      have k8 : Keep [l] H7 (upd H7 l (.lst (as.map V.ref ++ [.ref t2]))) := Keep.at (by simp)
      refine ⟨as ++ [t2], ts ++ [(nm2, wg2)], _, _, _, by first | exact rfl | trivial, by rw [upd_same, List.map_append]; rfl, (r7.app (bs := [t2]) (us := [(nm2, wg2)]) ⟨e7, trivial⟩).keep k8 (fun m hm => by rw [List.mem_singleton.mp hm]; exact ⟨_, el7⟩), k8 _ _ (by simpa using npl) x7, p7.put nla, k7.mut hl, by simp; omega, fun u hu => ?_⟩
      rcases List.mem_append.mp hu with hu | hu
      · exact h3 u hu
      · rw [List.mem_singleton.mp hu]; exact ⟨mn, w7⟩
    · rintro σ' H3 ⟨as, ts, x, y, z, rfl, e3, r3, x3, p3, k3, l3, h3⟩
      walk_at "sts"
      exact q l ts H3 (by omega) h3 k3 p3 hl ⟨as, e3, r3⟩
theorem ok_level (T : Tx K mg) (G_w_take : GTake P w K mg base T) (G_w_weight : FnOk P w K mg base CX0 2 T.f_w_weight T.fd_w_weight ["_law_pot_here"] (spPotInt (10 ^ 30)))
    (G_w_lowest : FnOk P w K mg base CX0 1 T.f_w_lowest T.fd_w_lowest ["_law_top", "_law_bottom"] spLow0) : FnOk P w K mg base CX0 3 T.f_w_level T.fd_w_level ["_law_pot_here"] spLevel := by
  refine T.F_w_level.ok sc_w_level (fun vs H Q E h => ?_) (fun cdv A outer s H vs Q E hr h => ?_)
  · obtain ⟨a, rfl, _⟩ := h; rfl
  · obtain ⟨a, rfl, hp, q⟩ := h
    refine ⟨_, (pss_cons (ps_set (i := 1) sc_w_level.nd rfl (Or.inl rfl) (pe_call G_w_weight (hr.mono (by decide)) rfl T.g_w_weight T.F_w_weight.kp T.b_w_weight .nil pass0 (pa_cons (pv 0) pa_nil)))
    (pss_cons (ps_set (i := 2) sc_w_level.nd rfl (Or.inl rfl) pe_int)
    (pss_cons (ps_if (pt_cmpR op_eq (pe_call G_w_take (hr.mono (by decide)) rfl T.g_w_take T.F_w_take.kp T.b_w_take .nil pass0 (pa_cons (pv 0) (pa_cons pe_int pa_nil))) pe_int (nomark _))
    (pss_one (ps_set (i := 2) sc_w_level.nd rfl (Or.inl rfl) (pe_callB (call_max2 rfl) (by rfl) T.m_max (by decide +kernel) (pa_cons pe_int (pa_cons (pe_callB call_abs (by rfl) T.m_abs (by decide +kernel) (pa_cons (pe_call G_w_weight (hr.mono (by decide)) rfl T.g_w_weight T.F_w_weight.kp T.b_w_weight .nil pass0 (pa_cons (pv 0) pa_nil)) pa_nil)) pa_nil)))))
    pss_nil)
    (pss_one (ps_ret (pe_call G_w_lowest (hr.mono (by decide)) rfl T.g_w_lowest T.F_w_lowest.kp T.b_w_lowest .nil pass0 (pa_cons (pv 1) (pa_cons (pv 2) pa_nil)))))))), ?_⟩
    walk_at "start"
    walk_at "sts"
    refine r_potIntW hp fun t H1 h1 k1 p1 => ?_
    walk_at "sts"
    refine r_take p1 (by omega) (by omega) fun r2 H2 a2 b2 k2 p2 => ?_
    have k12 := k1.trans k2
    have fin : ∀ (b : Int) (H3 : Hp), 0 < b → b.natAbs < 10 ^ 30 → Keep [a] H H3 → PotAt a H3 → spLow0 [.int t, .int b] H3 Q E0 := fun b H3 hb hz k3 p3 => by
      refine r_low0 hb (Nat.lt_trans (Nat.lt_trans hz (by decide : (10 : Nat) ^ 30 < 2 ^ 100)) (Nat.pow_lt_pow_right (by decide) (by decide))) fun p H' kk np ep => ?_
      have hb' : b ≠ 0 := by omega
      refine q p _ _ H' (lowB_pos (t := t) hb) (by have := lowT_le (t := t) hb'; omega) (by have := lowB_le (t := t) hb'; omega) (k3.trans (kk.mono (by simp))) ?_ (k3.free (by simpa using p3.ne np) np) ep
      obtain ⟨P0, e0, h0⟩ := p3
      exact ⟨P0, kk _ _ (by simp) e0, h0⟩
    walk_at "sts"
    refine r_ite (fun c => ?_) (fun c => ?_)
    · walk_at "sts"
      refine r_potIntW p2 fun b H3 h3 k3 p3 => ?_
      walk_at "sts"
      exact fin _ H3 (by omega) (by omega) (k12.trans k3) p3
    · walk_at "sts"
      exact fin 1 H2 (by decide) (by decide) k12 p2
end
/-! ### the terms of a form made -/
def spAdded (K : PySem.W.Frag) : Sp := fun vs H Q _ => ∃ (p : Addr) (ts : List Fm.Tm), vs = [.ref p] ∧ (RowAt H p ts ∨ TupAt H p ts) ∧ ts.length ≤ 60 ∧ (∀ t ∈ ts, IsQ t.1) ∧ ∀ (q : Addr) (H' : Hp), Keep [] H H' → H q = none → TupAt H' q (Fm.can ts) → Q (.ref q) H'
theorem keys_kOf {ks : List Fm.Tm} : ((Fm.kOf ks).map fun kv => kV kv.1) = (ks.map (·.1)).map V.str := by unfold Fm.kOf; rw [List.map_map, List.map_map]; rfl
theorem take_snoc {α : Type} {xs : List α} {i : Nat} {x : α} (h : xs[i]? = some x) : xs.take (i + 1) = xs.take i ++ [x] := by rw [List.take_add_one, h]; rfl
theorem getRef {as : List Addr} {i : Nat} {x : V} (h : (as.map V.ref)[i]? = some x) : ∃ a, as[i]? = some a ∧ x = .ref a := by
  rw [List.getElem?_map] at h
  obtain ⟨a, ha, rfl⟩ := Option.map_eq_some_iff.mp h
  exact ⟨a, ha, rfl⟩
theorem getStr {xs : List Str} {i : Nat} {x : V} (h : (xs.map V.str)[i]? = some x) : ∃ s, xs[i]? = some s ∧ x = .str s := by
  rw [List.getElem?_map] at h
  obtain ⟨a, ha, rfl⟩ := Option.map_eq_some_iff.mp h
  exact ⟨a, ha, rfl⟩
section
variable {P : Program} {w : World} {K : PySem.W.Frag} {mg : Str → Option Value} {base : Heap}
theorem ok_added (T : Tx K mg) (G_is_quantity : FnOk P w K mg base CX0 1 T.f_is_quantity T.fd_is_quantity ["text"] spIsQ) : FnOk P w K mg base CX0 2 T.f_added_terms T.fd_added_terms ["terms"] (spAdded K) := by
  refine T.F_added_terms.ok sc_added_terms (fun vs H Q E h => ?_) (fun cdv A outer s H vs Q E hr h => ?_)
  · obtain ⟨a, ts, rfl, _⟩ := h; rfl
  · obtain ⟨p, ts, rfl, hp, hl, hq, q⟩ := h
    have hval : ∀ {ks us : List Fm.Tm} (S : Fm.Sums ks us) (nm : Str), (valV (Fm.kOf ks) (Sum.inr nm)).getD (V.int 0) = V.int (Fm.wt us nm) := fun {ks us} S nm => by
      rw [Fm.val_kOf, S.find]
      split
      · rfl
      · next e => rw [Fm.wt_none (fun p hp z => e (by rw [← z]; exact List.mem_map_of_mem hp))]; rfl
    rcases hp with ⟨as, ep, hp⟩ | ⟨as, ep, hp⟩
    · refine ⟨_, (pss_cons (ps_set (i := 1) sc_added_terms.nd rfl (Or.inr rfl) pe_dnewK)
    (pss_cons (ps_for PassesOwn.never rfl (pi_list (pv 0)) (pg_tup (n := 2) rfl (pgs_cons (pg_name (i := 2) sc_added_terms.nd rfl (Or.inl rfl)) (pgs_cons (pg_name (i := 3) sc_added_terms.nd rfl (Or.inl rfl)) pgs_nil)))
    (pss_cons (ps_if (pt_not (pt_val (pe_call G_is_quantity (hr.mono (by decide)) rfl T.g_is_quantity T.F_is_quantity.kp T.b_is_quantity .nil pass0 (pa_cons (pv 2) pa_nil))))
    (pss_one ps_never)
    pss_nil)
    (pss_one (ps_dput (hu_of hr) (pv 1) (pv 2) (pe_op op_add (pe_dget2 (hu_of hr) (pv 1) (pv 2) pe_int ⟨rfl, rfl, rfl, rfl⟩) (pv 3)) rfl))))
    (pss_one (ps_ret (pe_callTy call_tuple_of (by rfl) T.m_tuple (by decide +kernel) (pa_cons (pe_lc (own := [("name", 2)]) (g := gName 2)  rfl sc_added_terms.nd (pi_list (pe_callB cr_sortedS (by rfl) T.m_sorted (by decide +kernel) (pa_cons (pe_callTy (call_list_dK rfl) (by rfl) T.m_list (by decide +kernel) (pa_cons (pv 1) pa_nil)) pa_nil))) (blkOk_by (own := [("name", 2)]) (N := ["terms", "sums", "name", "weight"]) (sc := defScope s_added_terms) (by decide +kernel)) (fun _ _ _ _ _ => pg_name (i := 2) sc_added_terms.nd rfl (Or.inl rfl)) (fun _ _ _ _ _ => pts_one (pt_cmpR op_ne (pe_dget (hu_of hr) (pv 1) (pv 2) (fun _ _ => rfl)) pe_int (nomark _))) (fun _ _ _ _ _ => (pe_tup (pa_cons (pv 2) (pa_cons (pe_dget (hu_of hr) (pv 1) (pv 2) (fun _ _ => rfl)) pa_nil))))) pa_nil)))))), ?_⟩
      walk_at "start"
      walk_at "sts"
      intro d hd
      have k1 : Keep [] H (upd H d (.dK [])) := Keep.new hd
      have e1 : upd H d (.dK []) d = some (.dK (Fm.kOf [])) := upd_same
      generalize upd H d (.dK []) = H1 at k1 e1 ⊢
      walk_at "sts"
      refine forL_go (fun i σ' H' => ∃ (ks : List Fm.Tm) (x1 x2 : Option V), σ' = [some (.ref p), some (.ref d), x1, x2] ∧ H' d = some (.dK (Fm.kOf ks)) ∧ Fm.Sums ks (ts.take i) ∧ Keep [] H H') (sqL_of (k1 _ _ (by simp) ep)) ⟨[], _, _, rfl, e1, by simpa using Fm.Sums.nil, k1⟩ (fun i σ' H' _ h => by obtain ⟨_, _, _, _, _, _, k⟩ := h; exact sqL_of (k _ _ (by simp) ep)) ?_ ?_
      · rintro i x σ' H2 hx ⟨ks, x1, x2, rfl, e2, S, k2⟩
        obtain ⟨a, ha, rfl⟩ := getRef hx
        obtain ⟨t, ht, et⟩ := hp.get ha
        have et2 := k2 _ _ (by simp) et
        walk_at "sts"
        refine r_isQ (hq t (List.mem_of_getElem? ht)) fun H3 k3 => ?_
        have e3 := k3 _ _ (by simp) e2
        have k13 := k2.trans k3
        walk_at "sts"
        rw [hval S]
        walk_at "sts"
        refine r_dputS e3 (lt_size (by unfold Fm.kOf; rw [List.length_map]; have := S.len; rw [List.length_take] at this; omega)) ?_
        rw [Fm.put_kOf]
        exact ⟨_, _, _, rfl, upd_same, by rw [take_snoc ht]; exact S.put t, k13.mut hd⟩
      · rintro σ' H2 ⟨ks, x1, x2, rfl, e2, S, k2⟩
        rw [List.length_map, hp.len, List.take_length] at S
        walk_at "sts"
        refine r_listD e2 fun l hl2 => ?_
        rw [keys_kOf]
        have k3 : Keep [] H2 (upd H2 l (.lst ((ks.map (·.1)).map V.str))) := Keep.new hl2
        have e3 : upd H2 l (.lst ((ks.map (·.1)).map V.str)) l = some (.lst ((ks.map (·.1)).map V.str)) := upd_same
        generalize upd H2 l (.lst ((ks.map (·.1)).map V.str)) = H3 at k3 e3 ⊢
        walk_at "sts"
        refine r_sortS (sqL_of e3) (by rw [List.length_map]; have := S.len; omega) fun ys l2 pm st hl3 => ?_
        have k4 : Keep [] H3 (upd H3 l2 (.lst (ys.map V.str))) := Keep.new hl3
        have e4 : upd H3 l2 (.lst (ys.map V.str)) l2 = some (.lst (ys.map V.str)) := upd_same
        generalize upd H3 l2 (.lst (ys.map V.str)) = H4 at k4 e4 ⊢
        have k24 := k3.trans k4
        have kH4 := k2.trans k24
        have ed := k24 _ _ (by simp) e2
        have nd : ys.Nodup := pm.nodup_iff.mpr S.nd
        have asc := Fm.asc_of_sorted st nd
        have mem : ∀ x, x ∈ ys ↔ x ∈ ts.map (·.1) := fun x => (pm.mem_iff).trans (S.iff x)
        have ly : ys.length ≤ 60 := by have := pm.length_eq; rw [List.length_map] at this; have := S.len; omega
        refine lcL_go (fun D i acc H' => ∃ bs : List Addr, acc = bs.map V.ref ∧ PairsAt H' bs (Fm.rowOf (ys.take i) (Fm.wt ts)) ∧ Keep [] H4 H' ∧ H4 D = none) (sqL_of e4) (fun D hD => ⟨[], rfl, by simp [Fm.rowOf, PairsAt], Keep.new hD, hD⟩) (fun D i acc H' _ h => by obtain ⟨_, _, _, k, _⟩ := h; exact sqL_of (k _ _ (by simp) e4)) ?_ ?_
        · rintro D i x acc H5 hx hD ⟨bs, rfl, hb, k5, nD⟩
          obtain ⟨nm, hnm, rfl⟩ := getStr hx
          have ed5 := k5 _ _ (by simp) ed
          have hv : valV (Fm.kOf ks) (Sum.inr nm) = some (V.int (Fm.wt ts nm)) := by
            rw [Fm.val_kOf, S.find, if_pos ((mem nm).mp (List.mem_of_getElem? hnm))]
          have hlen := hb.len
          have hb60 : bs.length < 100000 := by
            have := List.length_filter_le (fun p : Fm.Tm => decide (p.2 ≠ 0)) ((ys.take i).map fun x => (x, Fm.wt ts x))
            unfold Fm.rowOf at hlen
            rw [List.length_map, List.length_take] at this
            omega
          walk_at "sts"
          refine r_dgetS ed5 hv ?_
          walk_at "sts"
          refine r_iteN (fun c => ?_) (fun c => ?_)
          · walk_at "sts"
            refine r_dgetS ed5 hv ?_
            walk_at "sts"
            intro t ht
            have k6 : Keep [] H5 (upd H5 t (.tup [.str nm, .int (Fm.wt ts nm)])) := Keep.new ht
            have e6 : upd H5 t (.tup [.str nm, .int (Fm.wt ts nm)]) t = some (.tup [.str nm, .int (Fm.wt ts nm)]) := upd_same
            generalize upd H5 t (.tup [.str nm, .int (Fm.wt ts nm)]) = H6 at k6 e6 ⊢
            have hD6 := k6 _ _ (by simp) hD
            refine lc_put hD6 (by rw [List.length_map]; exact lt_size hb60) ⟨bs ++ [t], by rw [List.map_append]; rfl, ?_, (k5.trans k6).mut nD, nD⟩
            rw [take_snoc hnm, Fm.rowOf_snoc, if_pos c]
            exact ((hb.keep0 k6).app (bs := [t]) (us := [(nm, Fm.wt ts nm)]) ⟨e6, trivial⟩).keep (Keep.at (M := [D]) (by simp)) (fun m hm => by rw [List.mem_singleton.mp hm]; exact ⟨_, hD6⟩)
          · walk_at "sts"
            exact ⟨_, hD, bs, rfl, by rw [take_snoc hnm, Fm.rowOf_snoc, if_neg (by simpa using c)]; exact hb, k5, nD⟩
        · rintro D acc H5 nD hD ⟨bs, rfl, hb, k5, _⟩
          rw [List.length_map, List.take_length, Fm.rowOf_can asc nd fun t ht => (mem _).mpr (List.mem_map_of_mem ht)] at hb
          walk_at "sts"
          refine r_tupL (sqL_of hD) fun u hu => ?_
          have kH5 := kH4.trans k5
          exact q u _ (kH5.trans (Keep.new hu)) (kH5.free (by simp) hu) ⟨bs, upd_same, hb.keep0 (Keep.new hu)⟩
    · refine ⟨_, (pss_cons (ps_set (i := 1) sc_added_terms.nd rfl (Or.inr rfl) pe_dnewK)
    (pss_cons (ps_for PassesOwn.never rfl (pi_tup (pv 0)) (pg_tup (n := 2) rfl (pgs_cons (pg_name (i := 2) sc_added_terms.nd rfl (Or.inl rfl)) (pgs_cons (pg_name (i := 3) sc_added_terms.nd rfl (Or.inl rfl)) pgs_nil)))
    (pss_cons (ps_if (pt_not (pt_val (pe_call G_is_quantity (hr.mono (by decide)) rfl T.g_is_quantity T.F_is_quantity.kp T.b_is_quantity .nil pass0 (pa_cons (pv 2) pa_nil))))
    (pss_one ps_never)
    pss_nil)
    (pss_one (ps_dput (hu_of hr) (pv 1) (pv 2) (pe_op op_add (pe_dget2 (hu_of hr) (pv 1) (pv 2) pe_int ⟨rfl, rfl, rfl, rfl⟩) (pv 3)) rfl))))
    (pss_one (ps_ret (pe_callTy call_tuple_of (by rfl) T.m_tuple (by decide +kernel) (pa_cons (pe_lc (own := [("name", 2)]) (g := gName 2)  rfl sc_added_terms.nd (pi_list (pe_callB cr_sortedS (by rfl) T.m_sorted (by decide +kernel) (pa_cons (pe_callTy (call_list_dK rfl) (by rfl) T.m_list (by decide +kernel) (pa_cons (pv 1) pa_nil)) pa_nil))) (blkOk_by (own := [("name", 2)]) (N := ["terms", "sums", "name", "weight"]) (sc := defScope s_added_terms) (by decide +kernel)) (fun _ _ _ _ _ => pg_name (i := 2) sc_added_terms.nd rfl (Or.inl rfl)) (fun _ _ _ _ _ => pts_one (pt_cmpR op_ne (pe_dget (hu_of hr) (pv 1) (pv 2) (fun _ _ => rfl)) pe_int (nomark _))) (fun _ _ _ _ _ => (pe_tup (pa_cons (pv 2) (pa_cons (pe_dget (hu_of hr) (pv 1) (pv 2) (fun _ _ => rfl)) pa_nil))))) pa_nil)))))), ?_⟩
      walk_at "start"
      walk_at "sts"
      intro d hd
      have k1 : Keep [] H (upd H d (.dK [])) := Keep.new hd
      have e1 : upd H d (.dK []) d = some (.dK (Fm.kOf [])) := upd_same
      generalize upd H d (.dK []) = H1 at k1 e1 ⊢
      walk_at "sts"
      refine forT_go (fun i σ' H' => ∃ (ks : List Fm.Tm) (x1 x2 : Option V), σ' = [some (.ref p), some (.ref d), x1, x2] ∧ H' d = some (.dK (Fm.kOf ks)) ∧ Fm.Sums ks (ts.take i) ∧ Keep [] H H') (sqT_of (k1 _ _ (by simp) ep)) ⟨[], _, _, rfl, e1, by simpa using Fm.Sums.nil, k1⟩ (fun i σ' H' _ h => by obtain ⟨_, _, _, _, _, _, k⟩ := h; exact sqT_of (k _ _ (by simp) ep)) ?_ ?_
      · rintro i x σ' H2 hx ⟨ks, x1, x2, rfl, e2, S, k2⟩
        obtain ⟨a, ha, rfl⟩ := getRef hx
        obtain ⟨t, ht, et⟩ := hp.get ha
        have et2 := k2 _ _ (by simp) et
        walk_at "sts"
        refine r_isQ (hq t (List.mem_of_getElem? ht)) fun H3 k3 => ?_
        have e3 := k3 _ _ (by simp) e2
        have k13 := k2.trans k3
        walk_at "sts"
        rw [hval S]
        walk_at "sts"
        refine r_dputS e3 (lt_size (by unfold Fm.kOf; rw [List.length_map]; have := S.len; rw [List.length_take] at this; omega)) ?_
        rw [Fm.put_kOf]
        exact ⟨_, _, _, rfl, upd_same, by rw [take_snoc ht]; exact S.put t, k13.mut hd⟩
      · rintro σ' H2 ⟨ks, x1, x2, rfl, e2, S, k2⟩
        rw [List.length_map, hp.len, List.take_length] at S
        walk_at "sts"
        refine r_listD e2 fun l hl2 => ?_
        rw [keys_kOf]
        have k3 : Keep [] H2 (upd H2 l (.lst ((ks.map (·.1)).map V.str))) := Keep.new hl2
        have e3 : upd H2 l (.lst ((ks.map (·.1)).map V.str)) l = some (.lst ((ks.map (·.1)).map V.str)) := upd_same
        generalize upd H2 l (.lst ((ks.map (·.1)).map V.str)) = H3 at k3 e3 ⊢
        walk_at "sts"
        refine r_sortS (sqL_of e3) (by rw [List.length_map]; have := S.len; omega) fun ys l2 pm st hl3 => ?_
        have k4 : Keep [] H3 (upd H3 l2 (.lst (ys.map V.str))) := Keep.new hl3
        have e4 : upd H3 l2 (.lst (ys.map V.str)) l2 = some (.lst (ys.map V.str)) := upd_same
        generalize upd H3 l2 (.lst (ys.map V.str)) = H4 at k4 e4 ⊢
        have k24 := k3.trans k4
        have kH4 := k2.trans k24
        have ed := k24 _ _ (by simp) e2
        have nd : ys.Nodup := pm.nodup_iff.mpr S.nd
        have asc := Fm.asc_of_sorted st nd
        have mem : ∀ x, x ∈ ys ↔ x ∈ ts.map (·.1) := fun x => (pm.mem_iff).trans (S.iff x)
        have ly : ys.length ≤ 60 := by have := pm.length_eq; rw [List.length_map] at this; have := S.len; omega
        refine lcL_go (fun D i acc H' => ∃ bs : List Addr, acc = bs.map V.ref ∧ PairsAt H' bs (Fm.rowOf (ys.take i) (Fm.wt ts)) ∧ Keep [] H4 H' ∧ H4 D = none) (sqL_of e4) (fun D hD => ⟨[], rfl, by simp [Fm.rowOf, PairsAt], Keep.new hD, hD⟩) (fun D i acc H' _ h => by obtain ⟨_, _, _, k, _⟩ := h; exact sqL_of (k _ _ (by simp) e4)) ?_ ?_
        · rintro D i x acc H5 hx hD ⟨bs, rfl, hb, k5, nD⟩
          obtain ⟨nm, hnm, rfl⟩ := getStr hx
          have ed5 := k5 _ _ (by simp) ed
          have hv : valV (Fm.kOf ks) (Sum.inr nm) = some (V.int (Fm.wt ts nm)) := by
            rw [Fm.val_kOf, S.find, if_pos ((mem nm).mp (List.mem_of_getElem? hnm))]
          have hlen := hb.len
          have hb60 : bs.length < 100000 := by
            have := List.length_filter_le (fun p : Fm.Tm => decide (p.2 ≠ 0)) ((ys.take i).map fun x => (x, Fm.wt ts x))
            unfold Fm.rowOf at hlen
            rw [List.length_map, List.length_take] at this
            omega
          walk_at "sts"
          refine r_dgetS ed5 hv ?_
          walk_at "sts"
          refine r_iteN (fun c => ?_) (fun c => ?_)
          · walk_at "sts"
            refine r_dgetS ed5 hv ?_
            walk_at "sts"
            intro t ht
            have k6 : Keep [] H5 (upd H5 t (.tup [.str nm, .int (Fm.wt ts nm)])) := Keep.new ht
            have e6 : upd H5 t (.tup [.str nm, .int (Fm.wt ts nm)]) t = some (.tup [.str nm, .int (Fm.wt ts nm)]) := upd_same
            generalize upd H5 t (.tup [.str nm, .int (Fm.wt ts nm)]) = H6 at k6 e6 ⊢
            have hD6 := k6 _ _ (by simp) hD
            refine lc_put hD6 (by rw [List.length_map]; exact lt_size hb60) ⟨bs ++ [t], by rw [List.map_append]; rfl, ?_, (k5.trans k6).mut nD, nD⟩
            rw [take_snoc hnm, Fm.rowOf_snoc, if_pos c]
            exact ((hb.keep0 k6).app (bs := [t]) (us := [(nm, Fm.wt ts nm)]) ⟨e6, trivial⟩).keep (Keep.at (M := [D]) (by simp)) (fun m hm => by rw [List.mem_singleton.mp hm]; exact ⟨_, hD6⟩)
          · walk_at "sts"
            exact ⟨_, hD, bs, rfl, by rw [take_snoc hnm, Fm.rowOf_snoc, if_neg (by simpa using c)]; exact hb, k5, nD⟩
        · rintro D acc H5 nD hD ⟨bs, rfl, hb, k5, _⟩
          rw [List.length_map, List.take_length, Fm.rowOf_can asc nd fun t ht => (mem _).mpr (List.mem_map_of_mem ht)] at hb
          walk_at "sts"
          refine r_tupL (sqL_of hD) fun u hu => ?_
          have kH5 := kH4.trans k5
          exact q u _ (kH5.trans (Keep.new hu)) (kH5.free (by simp) hu) ⟨bs, upd_same, hb.keep0 (Keep.new hu)⟩
end
/-! ### read, written -/
def spWeightOf : Sp := fun vs H Q _ => ∃ (p : Addr) (ts : List Fm.Tm) (x : Str), vs = [.ref p, .str x] ∧ TupAt H p ts ∧ Fm.Canon ts ∧ Q (.int (Fm.wt ts x)) H
def spNeed : Sp := fun vs H Q _ => ∃ (p d : Addr) (xs : List Str) (kvs : List (Key × V)), vs = [.ref p, .ref d] ∧ H p = some (.tup (xs.map V.str)) ∧ H d = some (.dK kvs) ∧ (∀ x ∈ xs, (valV kvs (Sum.inr x)).isSome = true) ∧ Q .non H
def spTerm : Sp := fun vs H Q _ => ∃ (n : Int) (x : Str), vs = [.int n, .str x] ∧ n.natAbs < 2 ^ 1500 ∧ x.length ≤ 12 ∧ Q (.str (if n = 1 then x else Wr.num n ++ Wr.sp ++ x)) H
def spWForm : Sp := fun vs H Q _ => ∃ (p : Addr) (ts : List Fm.Tm) (c : Int), vs = [.ref p, .int c] ∧ TupAt H p ts ∧ ts.length ≤ 60 ∧ (∀ t ∈ ts, IsQ t.1) ∧ (∀ t ∈ ts, t.2.natAbs < 2 ^ 1500) ∧ c.natAbs < 2 ^ 1500 ∧ ∀ H', Keep [] H H' → Q (.str (Wr.prog ts c)) H'
theorem fmtS {x : Str} {F : Str → Prop} (h : x.length ≤ sizeLine) (k : F x) : (∃ y : Str, V.str x = .str y ∧ y.length ≤ sizeLine ∧ F y) ∨ ∃ i : Int, V.str x = .int i ∧ i.natAbs.log2 < 1920 ∧ F (toString i) := .inl ⟨x, rfl, h, k⟩
theorem fmtI {i : Int} {F : Str → Prop} (h : i.natAbs < 2 ^ 1500) (k : F (Wr.num i)) : (∃ y : Str, V.int i = .str y ∧ y.length ≤ sizeLine ∧ F y) ∨ ∃ j : Int, V.int i = .int j ∧ j.natAbs.log2 < 1920 ∧ F (toString j) := .inr ⟨i, rfl, Nat.lt_trans (log2_of h (by decide)) (by decide), k⟩
theorem num_le {i : Int} (h : i.natAbs < 2 ^ 1500) : (Wr.num i).length ≤ 1600 := by
  have := Wr.num_len (k := 1500) (by decide) (log2_of h (by decide))
  omega
section
variable {P : Program} {w : World} {K : PySem.W.Frag} {mg : Str → Option Value} {base : Heap}
theorem ok_weightOf (T : Tx K mg) : FnOk P w K mg base CX0 1 T.f_weight_of T.fd_weight_of ["terms", "name"] spWeightOf := by
  refine T.F_weight_of.ok sc_weight_of (fun vs H Q E h => ?_) (fun cdv A outer s H vs Q E hr h => ?_)
  · obtain ⟨a, ts, x, rfl, _⟩ := h; rfl
  · obtain ⟨p, ts, x, rfl, ⟨as, ep, hp⟩, hc, q⟩ := h
    refine ⟨_, (pss_cons (ps_for PassesOwn.never rfl (pi_tup (pv 0)) (pg_tup (n := 2) rfl (pgs_cons (pg_name (i := 2) sc_weight_of.nd rfl (Or.inl rfl)) (pgs_cons (pg_name (i := 3) sc_weight_of.nd rfl (Or.inl rfl)) pgs_nil)))
    (pss_one (ps_if (pt_cmpR op_eq (pv 2) (pv 1) (nomark _))
    (pss_one (ps_ret (pv 3)))
    pss_nil)))
    (pss_one (ps_ret pe_int))), ?_⟩
    walk_at "start"
    walk_at "sts"
    refine forT_go (fun i σ' H' => ∃ (x1 x2 : Option V), σ' = [some (.ref p), some (.str x), x1, x2] ∧ H' = H ∧ ∀ t ∈ ts.take i, t.1 ≠ x) (sqT_of ep) ⟨_, _, rfl, rfl, by simp⟩ (fun i σ' H' _ h => by obtain ⟨_, _, _, rfl, _⟩ := h; exact sqT_of ep) ?_ ?_
    · rintro i v σ' H' hx ⟨x1, x2, rfl, rfl, hn⟩
      obtain ⟨a, ha, rfl⟩ := getRef hx
      obtain ⟨t, ht, et⟩ := hp.get ha
      walk_at "sts"
      refine r_ite (fun c => ?_) (fun c => ?_)
      · walk_at "sts"
        rw [← c, hc.wt_mem (List.mem_of_getElem? ht)] at q
        exact q
      · walk_at "sts"
        refine ⟨_, _, rfl, rfl, fun z hz => ?_⟩
        rw [take_snoc ht] at hz
        rcases List.mem_append.mp hz with hz | hz
        · exact hn z hz
        · rw [List.mem_singleton.mp hz]; exact c
    · rintro σ' H' ⟨x1, x2, rfl, rfl, hn⟩
      rw [List.length_map, hp.len, List.take_length] at hn
      walk_at "sts"
      rw [Fm.wt_none hn] at q
      exact q
theorem ok_need (T : Tx K mg) : FnOk P w K mg base CX0 1 T.f_need_levels T.fd_need_levels ["names", "world"] spNeed := by
  refine T.F_need_levels.ok sc_need_levels (fun vs H Q E h => ?_) (fun cdv A outer s H vs Q E hr h => ?_)
  · obtain ⟨a, d, xs, kvs, rfl, _⟩ := h; rfl
  · obtain ⟨p, d, xs, kvs, rfl, hp, hd, hx, q⟩ := h
    refine ⟨_, (pss_one (ps_for PassesOwn.never rfl (pi_tup (pv 0)) (pg_name (i := 2) sc_need_levels.nd rfl (Or.inl rfl))
    (pss_one (ps_if (pt_cmp (pc_dnotin (hu_of hr) (pv 2) (pv 1)))
    (pss_one ps_never)
    pss_nil)))), ?_⟩
    walk_at "start"
    walk_at "sts"
    refine forT_go (fun i σ' H' => ∃ (x1 : Option V), σ' = [some (.ref p), some (.ref d), x1] ∧ H' = H) (sqT_of hp) ⟨_, rfl, rfl⟩ (fun i σ' H' _ h => by obtain ⟨_, _, rfl⟩ := h; exact sqT_of hp) ?_ ?_
    · rintro i v σ' H' hv ⟨x1, rfl, rfl⟩
      obtain ⟨nm, hnm, rfl⟩ := getStr hv
      walk_at "sts"
      refine r_dinS hd ?_
      rw [hx nm (List.mem_of_getElem? hnm)]
      walk_at "sts"
      exact ⟨_, rfl, rfl⟩
    · rintro σ' H' ⟨x1, rfl, rfl⟩
      walk_at "sts"
      exact q
theorem ok_term (T : Tx K mg) : FnOk P w K mg base CX0 1 T.f_write_term T.fd_write_term ["size", "name"] spTerm := by
  refine T.F_write_term.ok sc_write_term (fun vs H Q E h => ?_) (fun cdv A outer s H vs Q E hr h => ?_)
  · obtain ⟨a, ts, rfl, _⟩ := h; rfl
  · obtain ⟨n, x, rfl, hn, hx, q⟩ := h
    have hl := num_le hn
    refine ⟨_, (pss_one (ps_ret (pe_ifExp (pt_cmpR op_eq (pv 0) pe_int (nomark _)) (pv 1) (pe_joined (.cons (pe_fmt (pv 0)) (.cons pe_str (.cons (pe_fmt (pv 1)) .nil))))))), ?_⟩
    walk_at "start"
    walk_at "sts"
    refine r_ite (fun c => ?_) (fun c => ?_)
    · walk_at "sts"
      rw [if_pos c] at q; exact q
    · rw [if_neg c] at q
      walk_at "sts"
      refine fmtI hn ?_
      refine r_jsS (le_size (by rw [Wr.emp_app]; omega)) ?_
      rw [Wr.emp_app]
      walk_at "sts"
      have h1 : (Wr.sp).length = 1 := rfl
      refine r_jsS (le_size (by rw [Wr.len_app]; show _ + Wr.sp.length ≤ _; omega)) ?_
      walk_at "sts"
      refine fmtS (le_size (by omega)) ?_
      refine r_jsS (le_size (by rw [Wr.len_app, Wr.len_app]; show _ + Wr.sp.length + _ ≤ _; omega)) ?_
      walk_at "sts"
      exact q
end
/-! ### a form written -/
def fPt (p : Wr.Pt) : HO := .tup [.int p.1, .str p.2]
theorem not_fPt {H : Hp} {m : Addr} {xs : List V} (h : H m = some (.lst xs)) : ∀ z ∈ [m], ∀ x, H z ≠ some (fPt x) := fun z hz x e => by
  rw [List.mem_singleton.mp hz, h] at e; cases e
theorem part_len {t : Fm.Tm} (h1 : IsQ t.1) (h2 : t.2.natAbs < 2 ^ 1500) : (Wr.part t.2 t.1).length ≤ 1700 := by
  have := h1.len
  have e := num_le (i := (t.2.natAbs : Int)) (by rw [Int.natAbs_natCast]; exact h2)
  unfold Wr.part
  split
  · omega
  · rw [Wr.len_app, Wr.len_app]; have : Wr.sp.length = 1 := rfl; omega
theorem pts_len {ts : List Fm.Tm} {c : Int} (hq : ∀ t ∈ ts, IsQ t.1) (hw : ∀ t ∈ ts, t.2.natAbs < 2 ^ 1500) (hc : c.natAbs < 2 ^ 1500) : ∀ p ∈ Wr.pts ts c, p.2.length ≤ 1700 := fun p hp => by
  unfold Wr.pts at hp
  rcases List.mem_append.mp hp with hp | hp
  · obtain ⟨t, ht, rfl⟩ := List.mem_map.mp hp
    exact part_len (hq t ht) (hw t ht)
  · split at hp
    · rw [List.mem_singleton.mp hp]
      have := num_le (i := (c.natAbs : Int)) (by rw [Int.natAbs_natCast]; exact hc)
      show (Wr.num _).length ≤ _; omega
    · cases hp
theorem pts_count {ts : List Fm.Tm} {c : Int} : (Wr.pts ts c).length ≤ ts.length + 1 ∧ 0 < (Wr.pts ts c).length := by
  unfold Wr.pts
  rw [List.length_append, List.length_map]
  by_cases h : c ≠ 0 ∨ ts = []
  · rw [if_pos h]; simp
  · rw [if_neg h]
    have : ts ≠ [] := fun e => h (.inr e)
    have := List.length_pos_iff.mpr this
    simp; omega
theorem cut_1 {as : List Addr} : cutV (as.map V.ref) (some 1) none = (as.drop 1).map V.ref := by
  unfold cutV
  rw [HT.sIx_none, show HT.sIx (as.map V.ref).length 0 (some 1) = min 1 (as.map V.ref).length from HT.sIx_nat _ _ 1, List.length_map, ← List.map_drop]
  rw [List.take_of_length_le (by simp)]
  cases as with
  | nil => rfl
  | cons a as => simp
section
variable {P : Program} {w : World} {K : PySem.W.Frag} {mg : Str → Option Value} {base : Heap}
theorem ok_wform (T : Tx K mg) (G_write_term : FnOk P w K mg base CX0 1 T.f_write_term T.fd_write_term ["size", "name"] spTerm) : FnOk P w K mg base CX0 2 T.f_write_form T.fd_write_form ["terms", "constant"] spWForm := by
  refine T.F_write_form.ok sc_write_form (fun vs H Q E h => ?_) (fun cdv A outer s H vs Q E hr h => ?_)
  · obtain ⟨a, ts, c, rfl, _⟩ := h; rfl
  · obtain ⟨p, ts, c, rfl, ⟨as, ep, hp⟩, hl, hq, hw, hc, q⟩ := h
    have hlen := hp.len
    refine ⟨_, (pss_cons (ps_setLc (i := 2) (own := [("name", 3), ("weight", 4)]) (g := gTup K 2 (gCons (gName 3) (gCons (gName 4) gNil))) (tt := tYes) rfl sc_write_form.nd rfl rfl (sw_true rfl rfl rfl (by decide +kernel)) (pi_tup (pv 0)) (blkOk_by (own := [("name", 3), ("weight", 4)]) (N := ["terms", "constant", "parts", "name", "weight", "text", "words"]) (sc := defScope s_write_form) (by decide +kernel)) (fun _ _ _ _ _ => pg_tup (n := 2) rfl (pgs_cons (pg_name (i := 3) sc_write_form.nd rfl (Or.inl rfl)) (pgs_cons (pg_name (i := 4) sc_write_form.nd rfl (Or.inl rfl)) pgs_nil))) (fun _ _ _ _ _ => pts_nil) (fun _ _ _ _ _ => (pe_tup (pa_cons (pv 4) (pa_cons (pe_call G_write_term (hr.mono (by decide)) rfl T.g_write_term T.F_write_term.kp T.b_write_term .nil pass0 (pa_cons (pe_callB call_abs (by rfl) T.m_abs (by decide +kernel) (pa_cons (pv 4) pa_nil)) (pa_cons (pv 3) pa_nil))) pa_nil)))))
    (Evl.pss_cut (ps_if (PW.pt (pw_or (pt_cmpR op_ne (pv 1) pe_int (nomark _)) (pw_or1 (pt_cmpR op_eq (pe_callB call_len_seq (by rfl) T.m_len PySem.boot_len (pa_cons (pv 2) pa_nil)) pe_int (nomark _)))))
    (pss_one (ps_expr (pe_bm PySem.F.plainAttrs_list PySem.F.slot_list_append PySem.F.type_list_append mt_append (pv 2) (pa_cons (pe_tup (pa_cons (pv 1) (pa_cons (pe_callTy call_str_int (by rfl) T.m_str (by decide +kernel) (pa_cons (pe_callB call_abs (by rfl) T.m_abs (by decide +kernel) (pa_cons (pv 1) pa_nil)) pa_nil)) pa_nil))) pa_nil))))
    pss_nil)
    (pss_cons (ps_asg (pe_ix ix_list (pv 2) pe_int (fun _ _ => rfl)) (pg_tup (n := 2) rfl (pgs_cons (pg_name (i := 4) sc_write_form.nd rfl (Or.inl rfl)) (pgs_cons (pg_name (i := 5) sc_write_form.nd rfl (Or.inl rfl)) pgs_nil))))
    (Evl.pss_cut (ps_set (i := 6) sc_write_form.nd rfl (Or.inl rfl) (pe_lst (pa_cons (pe_ifExp (pt_cmpR op_lt (pv 4) pe_int (nomark _)) (pe_joined (.cons pe_str (.cons (pe_fmt (pv 5)) .nil))) (pv 5)) pa_nil)))
    (pss_cons (ps_for PassesOwn.never rfl (pi_list (pe_slice sl_list (pv 2) (po_some pe_int) po_none)) (pg_tup (n := 2) rfl (pgs_cons (pg_name (i := 4) sc_write_form.nd rfl (Or.inl rfl)) (pgs_cons (pg_name (i := 5) sc_write_form.nd rfl (Or.inl rfl)) pgs_nil)))
    (pss_cons (ps_expr (pe_bm PySem.F.plainAttrs_list PySem.F.slot_list_append PySem.F.type_list_append mt_append (pv 6) (pa_cons (pe_ifExp (pt_cmpR op_lt (pv 4) pe_int (nomark _)) pe_str pe_str) pa_nil)))
    (pss_one (ps_expr (pe_bm PySem.F.plainAttrs_list PySem.F.slot_list_append PySem.F.type_list_append mt_append (pv 6) (pa_cons (pv 5) pa_nil))))))
    (pss_one (ps_ret (pe_bm PySem.F.plainAttrs_str PySem.F.slot_str_join PySem.F.type_str_join mt_join pe_str (pa_cons (pv 6) pa_nil))))))))), ?_⟩
    walk_at "start"
    walk_at "sts"
    refine lcT_go (fun D i acc H' => ∃ bs : List Addr, acc = bs.map V.ref ∧ AllAt fPt H' bs ((ts.take i).map fun p => (p.2, Wr.part p.2 p.1)) ∧ Keep [] H H' ∧ H D = none) (sqT_of ep) (fun D hD => ⟨[], rfl, trivial, Keep.new hD, hD⟩) (fun D i acc H' _ h => by obtain ⟨_, _, _, k, _⟩ := h; exact sqT_of (k _ _ (by simp) ep)) ?_ ?_
    · rintro D i x acc H1 hx hD ⟨bs, rfl, hb, k1, nD⟩
      obtain ⟨a, ha, rfl⟩ := getRef hx
      obtain ⟨t, ht, et⟩ := hp.get ha
      have et1 := k1 _ _ (by simp) et
      have mt := List.mem_of_getElem? ht
      have hbl := hb.len
      rw [List.length_map, List.length_take] at hbl
      refine r_gTup2 (sqT_of et1) ?_
      refine ⟨rfl, ?_⟩
      simp only [L2.wipe, List.map_cons, List.map_nil, List.set_cons_zero, List.set_cons_succ]
      walk_at "sts"
      refine ⟨_, _, rfl, by rw [Int.natAbs_natCast]; exact hw t mt, (hq t mt).len, ?_⟩
      walk_at "sts"
      intro z hz
      have k2 : Keep [] H1 (upd H1 z (fPt (t.2, Wr.part t.2 t.1))) := Keep.new hz
      have e2 : upd H1 z (fPt (t.2, Wr.part t.2 t.1)) z = some (fPt (t.2, Wr.part t.2 t.1)) := upd_same
      have hD2 := k2 _ _ (by simp) hD
      refine lc_put (acc := bs.map V.ref) hD2 (by rw [List.length_map]; exact lt_size (by omega)) ⟨bs ++ [z], by rw [List.map_append]; rfl, ?_, (k1.trans k2).mut nD, nD⟩
      rw [take_snoc ht, List.map_append]
      exact ((hb.keep0 k2).app (bs := [z]) (ys := [(t.2, Wr.part t.2 t.1)]) ⟨e2, trivial⟩).keep (Keep.at (M := [D]) (by simp)) (not_fPt hD2)
    · rintro D acc H1 nD hD ⟨bs, rfl, hb, k1, _⟩
      rw [List.take_of_length_le (by rw [List.length_map, hlen]; exact Nat.le_refl _)] at hb
      have hbl := hb.len
      rw [List.length_map] at hbl
      have hnd := pts_count (ts := ts) (c := c)
      walk_at "sts"
      refine r_cut (fun σ' H' => ∃ (cs : List Addr), σ' = [some (.ref p), some (.int c), some (.ref D), none, none, none, none] ∧ H' D = some (.lst (cs.map V.ref)) ∧ AllAt fPt H' cs (Wr.pts ts c) ∧ Keep [] H H') ?_ ?_
      · walk_at "sts"
        refine r_iteN (fun c1 => ?_) (fun c1 => ?_)
        · walk_at "sts"
          refine ⟨Nat.lt_trans (log2_of (n := 1500) (by rw [Int.natAbs_natCast]; exact hc) (by decide)) (by decide), ?_⟩
          walk_at "sts"
          intro z hz
          have k2 : Keep [] H1 (upd H1 z (fPt (c, Wr.num (c.natAbs : Int)))) := Keep.new hz
          have e2 : upd H1 z (fPt (c, Wr.num (c.natAbs : Int))) z = some (fPt (c, Wr.num (c.natAbs : Int))) := upd_same
          have hD2 := k2 _ _ (by simp) hD
          walk_at "sts"
          refine ⟨bs ++ [z], by first | exact rfl | trivial, by rw [upd_same, List.map_append]; rfl, ?_, (k1.trans k2).mut nD⟩
          unfold Wr.pts
          rw [if_pos (.inl c1)]
          exact ((hb.keep0 k2).app (bs := [z]) (ys := [(c, Wr.num (c.natAbs : Int))]) ⟨e2, trivial⟩).keep (Keep.at (M := [D]) (by simp)) (not_fPt hD2)
        · walk_at "sts"
          simp only [List.length_map]
          refine r_ite (fun c2 => ?_) (fun c2 => ?_)
          · have h0 : ts = [] := List.length_eq_zero_iff.mp (by omega)
            walk_at "sts"
            refine ⟨Nat.lt_trans (log2_of (n := 1500) (by rw [Int.natAbs_natCast]; exact hc) (by decide)) (by decide), ?_⟩
            walk_at "sts"
            intro z hz
            have k2 : Keep [] H1 (upd H1 z (fPt (c, Wr.num (c.natAbs : Int)))) := Keep.new hz
            have e2 : upd H1 z (fPt (c, Wr.num (c.natAbs : Int))) z = some (fPt (c, Wr.num (c.natAbs : Int))) := upd_same
            have hD2 := k2 _ _ (by simp) hD
            walk_at "sts"
            refine ⟨bs ++ [z], by first | exact rfl | trivial, by rw [upd_same, List.map_append]; rfl, ?_, (k1.trans k2).mut nD⟩
            unfold Wr.pts
            rw [if_pos (.inr h0)]
            exact ((hb.keep0 k2).app (bs := [z]) (ys := [(c, Wr.num (c.natAbs : Int))]) ⟨e2, trivial⟩).keep (Keep.at (M := [D]) (by simp)) (not_fPt hD2)
          · walk_at "sts"
            refine ⟨bs, by first | exact rfl | trivial, hD, ?_, k1⟩
            unfold Wr.pts
            rw [if_neg (fun z => z.elim (fun z => z c1) (fun z => c2 (by rw [hbl, z]; rfl))), List.append_nil]
            exact hb
      · rintro σ' H2 ⟨cs, rfl, e2, r2, k2⟩
        have hcl := r2.len
        have hpl := pts_len hq hw hc
        obtain ⟨hd, hpts⟩ : ∃ hd, (Wr.pts ts c)[0]? = some hd := ⟨_, List.getElem?_eq_getElem hnd.2⟩
        obtain ⟨a0, ha0⟩ : ∃ a0, cs[0]? = some a0 := ⟨_, List.getElem?_eq_getElem (by omega)⟩
        obtain ⟨hd', hp', e0⟩ := r2.get ha0
        obtain rfl : hd' = hd := Option.some.inj (hp'.symm.trans hpts)
        have l0 := hpl _ (List.mem_of_getElem? hpts)
        have hsplit : Wr.pts ts c = hd' :: (Wr.pts ts c).drop 1 := by
          cases hz : Wr.pts ts c with
          | nil => rw [hz] at hnd; simp at hnd
          | cons x r => rw [hz] at hpts; simp at hpts; rw [hpts]; rfl
        have e0' : H2 a0 = some (.tup [.int hd'.1, .str hd'.2]) := e0
        walk_at "sts"
        refine r_ixL (sqL_of e2) (atI_nat (j := 0) (v := V.ref a0) (by rw [List.getElem?_map, ha0]; rfl)) ?_
        walk_at "sts"
        refine r_cut (fun σ' H' => ∃ (lw : Addr), σ' = [some (.ref p), some (.int c), some (.ref D), none, some (.int hd'.1), some (.str hd'.2), some (.ref lw)] ∧ H' lw = some (.lst (([Wr.first hd'] : List Str).map V.str)) ∧ Keep [] H2 H' ∧ H2 lw = none) ?_ ?_
        · walk_at "sts"
          refine r_ite (fun c1 => ?_) (fun c1 => ?_)
          · walk_at "sts"
            refine r_jsS (by rw [Wr.emp_app]; decide +kernel) ?_
            rw [Wr.emp_app]
            walk_at "sts"
            refine fmtS (le_size (by omega)) ?_
            refine r_jsS (le_size (by rw [Wr.len_app]; have : (Str.ofString "-").length = 1 := rfl; omega)) ?_
            walk_at "sts"
            intro lw hlw
            walk_at "sts"
            exact ⟨lw, by first | exact rfl | trivial, by rw [upd_same]; unfold Wr.first; rw [if_pos c1]; rfl, Keep.new hlw, hlw⟩
          · walk_at "sts"
            intro lw hlw
            walk_at "sts"
            exact ⟨lw, by first | exact rfl | trivial, by rw [upd_same]; unfold Wr.first; rw [if_neg c1]; rfl, Keep.new hlw, hlw⟩
        · rintro σ' H3 ⟨lw, rfl, e3, k3, n3⟩
          have r3 := r2.keep0 k3
          have eD := k3 _ _ (by simp) e2
          walk_at "sts"
          refine r_slL (sqL_of eD) (fun s hs => ?_)
          rw [cut_1]
          have k4 : Keep [] H3 (upd H3 s (.lst ((cs.drop 1).map V.ref))) := Keep.new hs
          have e4 : upd H3 s (.lst ((cs.drop 1).map V.ref)) s = some (.lst ((cs.drop 1).map V.ref)) := upd_same
          have elw := k4 _ _ (by simp) e3
          have nsl : lw ≠ s := ne_free e3 hs |>.symm
          generalize upd H3 s (.lst ((cs.drop 1).map V.ref)) = H4 at k4 e4 elw ⊢
          have r4 := r3.keep0 k4
          refine forL_go (fun i σ' H' => ∃ (x1 x2 : Option V), σ' = [some (.ref p), some (.int c), some (.ref D), none, x1, x2, some (.ref lw)] ∧ H' lw = some (.lst ((Wr.first hd' :: Wr.tailW (((Wr.pts ts c).drop 1).take i)).map V.str)) ∧ Keep [lw] H4 H') (sqL_of e4) ⟨_, _, rfl, elw, Keep.refl _ _⟩ (fun i σ' H' _ h => by obtain ⟨_, _, _, _, k⟩ := h; exact sqL_of (k _ _ (by simpa using nsl.symm) e4)) ?_ ?_
          · rintro i x σ' H5 hx ⟨x1, x2, rfl, e5, k5⟩
            obtain ⟨a, ha, rfl⟩ := getRef hx
            obtain ⟨y, hy, ey⟩ := r4.get (i := i + 1) (a := a) (by rw [List.getElem?_drop] at ha; rw [Nat.add_comm]; exact ha)
            have ey4 : H4 a = some (.tup [.int y.1, .str y.2]) := ey
            have ey5 : H5 a = some (.tup [.int y.1, .str y.2]) := k5 _ _ (by simp; rintro rfl; rw [elw] at ey4; cases ey4) ey4
            have hy' : ((Wr.pts ts c).drop 1)[i]? = some y := by rw [List.getElem?_drop, Nat.add_comm]; exact hy
            have hi := (List.getElem?_eq_some_iff.mp hy').1
            rw [List.length_drop] at hi
            have lt : (Wr.tailW (((Wr.pts ts c).drop 1).take i)).length ≤ 2 * 61 := by
              rw [Wr.tailW_len, List.length_take]; omega
            have tk : Wr.tailW (((Wr.pts ts c).drop 1).take (i + 1)) = Wr.tailW (((Wr.pts ts c).drop 1).take i) ++ [Wr.sg y.1, y.2] := by rw [take_snoc hy', Wr.tailW_snoc]
            have fin : ∀ z : Str, z = Wr.sg y.1 → ((Wr.first hd' :: Wr.tailW (((Wr.pts ts c).drop 1).take i)).map V.str ++ [V.str z]) ++ [V.str y.2] = (Wr.first hd' :: Wr.tailW (((Wr.pts ts c).drop 1).take (i + 1))).map V.str := fun z hz => by
              rw [tk, hz]; simp
            walk_at "sts"
            refine r_ite (fun c3 => ?_) (fun c3 => ?_)
            · walk_at "sts"
              exact ⟨_, _, by first | exact rfl | trivial, by rw [upd_same, fin _ (by unfold Wr.sg; rw [if_pos c3])], by rw [upd_upd]; exact k5.trans (Keep.at (by simp))⟩
            · walk_at "sts"
              exact ⟨_, _, by first | exact rfl | trivial, by rw [upd_same, fin _ (by unfold Wr.sg; rw [if_neg c3])], by rw [upd_upd]; exact k5.trans (Keep.at (by simp))⟩
          · rintro σ' H5 ⟨x1, x2, rfl, e5, k5⟩
            rw [List.length_map, List.length_drop, hcl, show (Wr.pts ts c).length - 1 = ((Wr.pts ts c).drop 1).length by rw [List.length_drop], List.take_length] at e5
            have ew : Wr.first hd' :: Wr.tailW ((Wr.pts ts c).drop 1) = Wr.words (Wr.pts ts c) := by
              have z := congrArg Wr.words hsplit
              exact z.symm
            have kA : Keep [] H H5 := fun b o _ hb => by
              have h4 := (k2.trans (k3.trans k4)) b o (by simp) hb
              exact k5 b o (by simp; rintro rfl; exact absurd (k2 b o (by simp) hb) (by rw [n3]; simp)) h4
            walk_at "sts"
            refine ⟨rfl, ?_⟩
            walk_at "sts"
            rw [ew] at e5
            have wl : (Wr.words (Wr.pts ts c)).length ≤ 200 := by
              rw [← ew, List.length_cons, Wr.tailW_len, List.length_drop]; omega
            have wy : ∀ y ∈ Wr.words (Wr.pts ts c), y.length ≤ 1800 := fun y hy => by
              rw [← ew] at hy
              rcases List.mem_cons.mp hy with rfl | hy
              · unfold Wr.first; split
                · rw [Wr.len_app]; have : (Str.ofString "-").length = 1 := rfl; omega
                · omega
              · rcases Wr.tailW_mem hy with ⟨w, rfl⟩ | ⟨z, hz, rfl⟩
                · unfold Wr.sg; split <;> decide +kernel
                · have := hpl z (List.mem_of_mem_drop hz); omega
            have ws := Wr.sum_len wy
            refine ⟨_, _, Wr.words (Wr.pts ts c), rfl, rfl, .inl (sqL_of e5), ?_, by rw [show Txt.join (Str.ofString " ") (Wr.words (Wr.pts ts c)) = Wr.prog ts c from PySem.StrLaws.glued_eq_join _ _]; exact q _ kA⟩
            have : (Str.ofString " ").length = 1 := rfl
            rw [this, Nat.mul_one]
            have := Nat.mul_le_mul_right 1800 wl
            omega
end
/-! ### forms as objects -/
theorem put2 {v w : V} : putF (Str.ofString "constant") v [((Str.ofString "terms"), w)] = [((Str.ofString "terms"), w), ((Str.ofString "constant"), v)] := by
  unfold putF
  rw [if_neg (show ¬ (Str.ofString "terms") = (Str.ofString "constant") by decide +kernel)]
  rfl
theorem r_catT {K : PySem.W.Frag} {t u : Addr} {ts us : List Fm.Tm} {H : Hp} {Q : VK} (ht : TupAt H t ts) (hu : TupAt H u us) (hl : ts.length + us.length ≤ 60) (k : ∀ p H', Keep [] H H' → TupAt H' p (ts ++ us) → Q (.ref p) H') : rCatA K (.ref t) (.ref u) H Q := by
  obtain ⟨as, et, pt⟩ := ht
  obtain ⟨bs, eu, pu⟩ := hu
  have l1 := pt.len
  have l2 := pu.len
  refine ⟨t, u, as.map V.ref, bs.map V.ref, rfl, rfl, sqT_of et, sqT_of eu, by rw [List.length_map, List.length_map]; exact le_size (by omega), fun e => ?_, fun _ e => ?_, fun _ _ p hp => ?_⟩
  · have e0 : as = [] := List.map_eq_nil_iff.mp e
    subst e0
    have : ts = [] := List.length_eq_zero_iff.mp l1.symm
    subst this
    exact k u H (Keep.refl _ _) ⟨bs, eu, pu⟩
  · have e0 : bs = [] := List.map_eq_nil_iff.mp e
    subst e0
    have : us = [] := List.length_eq_zero_iff.mp l2.symm
    subst this
    rw [List.append_nil] at k
    exact k t H (Keep.refl _ _) ⟨as, et, pt⟩
  · exact k p _ (Keep.new hp) ⟨as ++ bs, by rw [upd_same, List.map_append], (pt.app pu).keep0 (Keep.new hp)⟩
/-- the form of the terms ts and the constant c at x -/
def FormAt (C : Addr) (H : Hp) (x : Addr) (ts : List Fm.Tm) (c : Int) : Prop := ∃ dx t, H x = some (.ins C dx [("terms", .ref t), ("constant", .int c)]) ∧ TupAt H t ts
theorem TupAt.keep {M : List Addr} {H H' : Hp} {t : Addr} {ts : List Fm.Tm} (h : TupAt H t ts) (k : Keep M H H') (n : ∀ m ∈ M, ∃ xs, H m = some (.lst xs)) : TupAt H' t ts := by
  obtain ⟨as, e, p⟩ := h
  refine ⟨as, k _ _ (fun hm => ?_) e, p.keep k n⟩
  obtain ⟨xs, hx⟩ := n t hm
  rw [hx] at e; cases e
theorem RowAt.keep0 {H H' : Hp} {t : Addr} {ts : List Fm.Tm} (h : RowAt H t ts) (k : Keep [] H H') : RowAt H' t ts := by
  obtain ⟨as, e, p⟩ := h
  exact ⟨as, k _ _ (by simp) e, p.keep0 k⟩
theorem TupAt.keep0 {H H' : Hp} {t : Addr} {ts : List Fm.Tm} (h : TupAt H t ts) (k : Keep [] H H') : TupAt H' t ts := h.keep k (by simp)
theorem FormAt.keep {C : Addr} {M : List Addr} {H H' : Hp} {x : Addr} {ts : List Fm.Tm} {c : Int} (h : FormAt C H x ts c) (k : Keep M H H') (n : ∀ m ∈ M, ∃ xs, H m = some (.lst xs)) : FormAt C H' x ts c := by
  obtain ⟨dx, t, e, p⟩ := h
  refine ⟨dx, t, k _ _ (fun hm => ?_) e, p.keep k n⟩
  obtain ⟨xs, hx⟩ := n x hm
  rw [hx] at e; cases e
theorem FormAt.keep0 {C : Addr} {H H' : Hp} {x : Addr} {ts : List Fm.Tm} {c : Int} (h : FormAt C H x ts c) (k : Keep [] H H') : FormAt C H' x ts c := h.keep k (by simp)
/-- an instance changed alone keeps the rows -/
theorem PairsAt.keepI {C dx x : Addr} {fs : List (Str × V)} {H H' : Hp} {as : List Addr} {ts : List Fm.Tm} (h : PairsAt H as ts) (k : Keep [x] H H') (e : H x = some (.ins C dx fs)) : PairsAt H' as ts := h.mono fun a p _ _ ea => k a _ (by simp; rintro rfl; rw [e] at ea; cases ea) ea
def spInit (C : Addr) : Sp := fun vs H Q _ => ∃ (x dx p : Addr) (ts : List Fm.Tm) (c : Int), vs = [.ref x, .ref p, .int c] ∧ H x = some (.ins C dx []) ∧ (RowAt H p ts ∨ TupAt H p ts) ∧ ts.length ≤ 60 ∧ (∀ t ∈ ts, IsQ t.1) ∧ ∀ H', Keep [x] H H' → FormAt C H' x (Fm.can ts) c → Q .non H'
theorem r_newForm {C p : Addr} {ts : List Fm.Tm} {c : Int} {H : Hp} {R : Addr → Hp → Prop} {E : XK} (hp : RowAt H p ts ∨ TupAt H p ts) (hl : ts.length ≤ 60) (hq : ∀ t ∈ ts, IsQ t.1) (k : ∀ x H', Keep [] H H' → H x = none → FormAt C H' x (Fm.can ts) c → R x H') :
    ∀ x dx, H x = none → H dx = none → dx ≠ x → spInit C [.ref x, .ref p, .int c] (upd (upd H dx (.own x)) x (.ins C dx [])) (fun v H2 => v = .non ∧ R x H2) E := fun x dx nx ndx ne => by
  have k0 : Keep [] H (upd (upd H dx (.own x)) x (.ins C dx [])) := (Keep.new ndx).mut nx
  refine ⟨x, dx, p, ts, c, rfl, upd_same, hp.imp (fun h => h.keep0 k0) fun h => h.keep0 k0, hl, hq, fun H' k1 f => ⟨rfl, k x H' (fun b o _ hb => ?_) nx f⟩⟩
  exact k1 b o (by simp; rintro rfl; rw [nx] at hb; cases hb) (k0 b o (by simp) hb)
def spAdd (C : Addr) : Sp := fun vs H Q _ => ∃ (x y : Addr) (ts us : List Fm.Tm) (c d : Int), vs = [.ref x, .ref y] ∧ FormAt C H x ts c ∧ FormAt C H y us d ∧ ts.length + us.length ≤ 60 ∧ (∀ t ∈ ts, IsQ t.1) ∧ (∀ t ∈ us, IsQ t.1) ∧ ∀ z H', Keep [] H H' → H z = none → FormAt C H' z (Fm.can (ts ++ us)) (c + d) → Q (.ref z) H'
def spMul (C : Addr) : Sp := fun vs H Q _ => ∃ (x : Addr) (ts : List Fm.Tm) (c n : Int), vs = [.ref x, .int n] ∧ FormAt C H x ts c ∧ ts.length ≤ 60 ∧ (∀ t ∈ ts, IsQ t.1) ∧ (∀ t ∈ ts, t.2.natAbs < 2 ^ 1500) ∧ c.natAbs < 2 ^ 1500 ∧ n.natAbs < 2 ^ 1500 ∧ ∀ z H', Keep [] H H' → H z = none → FormAt C H' z (Fm.can (Fm.scl n ts)) (c * n) → Q (.ref z) H'
theorem r_add {C x y : Addr} {ts us : List Fm.Tm} {c d : Int} {H : Hp} {Q : VK} {E : XK} (hx : FormAt C H x ts c) (hy : FormAt C H y us d) (hl : ts.length + us.length ≤ 60) (q1 : ∀ t ∈ ts, IsQ t.1) (q2 : ∀ t ∈ us, IsQ t.1) (k : ∀ z H', Keep [] H H' → H z = none → FormAt C H' z (Fm.can (ts ++ us)) (c + d) → Q (.ref z) H') : Ow.rOwn2 C (fun vs H Q E => spAdd C (vs ++ []) H Q E) E (.ref x) (.ref y) H Q := by
  obtain ⟨dx, t, e, _⟩ := id hx
  obtain ⟨dy, u, e', _⟩ := id hy
  exact Ow.r_own2 e e' ⟨x, y, ts, us, c, d, rfl, hx, hy, hl, q1, q2, k⟩
theorem r_mul {C x : Addr} {ts : List Fm.Tm} {c n : Int} {H : Hp} {Q : VK} {E : XK} (hx : FormAt C H x ts c) (hl : ts.length ≤ 60) (q1 : ∀ t ∈ ts, IsQ t.1) (hw : ∀ t ∈ ts, t.2.natAbs < 2 ^ 1500) (hc : c.natAbs < 2 ^ 1500) (hn : n.natAbs < 2 ^ 1500) (k : ∀ z H', Keep [] H H' → H z = none → FormAt C H' z (Fm.can (Fm.scl n ts)) (c * n) → Q (.ref z) H') : Ow.rOwnI C (fun vs H Q E => spMul C (vs ++ []) H Q E) E (.ref x) (.int n) H Q := by
  obtain ⟨dx, t, e, _⟩ := id hx
  exact Ow.r_ownI e ⟨x, ts, c, n, rfl, hx, hl, q1, hw, hc, hn, k⟩
section
variable {P : Program} {w : World} {K : PySem.W.Frag} {mg : Str → Option Value} {base : Heap}
theorem ok_init (T : Tx K mg) (G_added_terms : FnOk P w K mg base CX0 2 T.f_added_terms T.fd_added_terms ["terms"] (spAdded K)) : FnOk P w K mg base CX0 3 T.f_Form___init T.fd_Form___init ["self", "terms", "constant"] (spInit T.C_Form) := by
  refine T.F_Form___init.ok sc_Form___init (fun vs H Q E h => ?_) (fun cdv A outer s H vs Q E hr h => ?_)
  · obtain ⟨x, dx, p, ts, c, rfl, _⟩ := h; rfl
  · obtain ⟨x, dx, p, ts, c, rfl, hx, hp, hl, hq, q⟩ := h
    have oc := T.oc_Form
    have na := T.na_Form_terms
    have nc := T.na_Form_constant
    refine ⟨_, PSs.nox (pss_cons (ps_fld (pv 0) (pe_call G_added_terms (hr.mono (by decide)) rfl T.g_added_terms T.F_added_terms.kp T.b_added_terms .nil pass0 (pa_cons (pv 1) pa_nil)) rfl)
    (pss_one (ps_fld (pv 0) (pv 2) rfl))), ?_⟩
    walk_at "start"
    walk_at "sts"
    refine ⟨p, ts, rfl, hp, hl, hq, fun t H1 k1 nt ht => ?_⟩
    have e1 := k1 _ _ (by simp) hx
    walk_at "sts"
    rw [show putF (Str.ofString "terms") (V.ref t) [] = [((Str.ofString "terms"), .ref t)] from rfl]
    walk_at "sts"
    rw [put2]
    have kx : Keep [x] H1 (upd H1 x (.ins T.C_Form dx [((Str.ofString "terms"), .ref t), ((Str.ofString "constant"), .int c)])) := Keep.at (by simp)
    rw [upd_upd]
    obtain ⟨as, et, pt⟩ := ht
    have nx : t ≠ x := by rintro rfl; rw [e1] at et; cases et
    exact q _ ((k1.mono (by simp)).trans kx) ⟨dx, t, upd_same, as, kx _ _ (by simpa using nx) et, pt.keepI kx e1⟩
abbrev GInit (P : Program) (w : World) (K : PySem.W.Frag) (mg : Str → Option Value) (base : Heap) (T : Tx K mg) := FnOk P w K mg base CX0 3 T.f_Form___init T.fd_Form___init ["self", "terms", "constant"] (spInit T.C_Form)
theorem ok_add (T : Tx K mg) (G_Form___init : GInit P w K mg base T) : FnOk P w K mg base CX0 5 T.f_Form___add T.fd_Form___add ["self", "other"] (spAdd T.C_Form) := by
  refine T.F_Form___add.ok sc_Form___add (fun vs H Q E h => ?_) (fun cdv A outer s H vs Q E hr h => ?_)
  · obtain ⟨x, y, ts, us, c, d, rfl, _⟩ := h; rfl
  · obtain ⟨x, y, ts, us, c, d, rfl, hx, hy, hl, q1, q2, q⟩ := h
    have oc := T.oc_Form
    have na := T.na_Form_terms
    have nc := T.na_Form_constant
    obtain ⟨dx, t, ex, as, et, pt⟩ := hx
    obtain ⟨dy, u, ey, bs, eu, pu⟩ := hy
    have hlt := pt.len
    have hlu := pu.len
    refine ⟨_, PSs.nox (pss_cons (ps_if (pt_val (pe_callB call_isi (by rfl) T.m_isinstance (by decide +kernel) (pa_cons (pv 1) (pa_cons (pe_bltn (v := .ty "int") (by rfl) T.m_int (by decide +kernel) rfl) pa_nil))))
    (pss_one ps_never)
    pss_nil)
    (pss_cons (ps_if (pt_not (pt_val (pe_callB call_isi (by rfl) T.m_isinstance (by decide +kernel) (pa_cons (pv 1) (pa_cons (pe_glob (v := .ref T.C_Form) rfl T.gC_Form rfl) pa_nil)))))
    (pss_one ps_never)
    pss_nil)
    (pss_one (ps_ret (pe_make T.mk_Form G_Form___init (hr.mono (by decide)) rfl T.gC_Form T.b3_Form___init.choose_spec.2 T.b3_Form___init.choose_spec.1 pass0 (pa_cons (pe_op op_catA (pe_fld (pv 0) rfl) (pe_fld (pv 1) rfl)) (pa_cons (pe_op op_add (pe_fld (pv 0) rfl) (pe_fld (pv 1) rfl)) pa_nil))))))), ?_⟩
    walk_at "start"
    walk_at "sts"
    refine Ow.r_isiNot oc ey (by decide +kernel) T.si_Form ?_
    walk_at "sts"
    refine Ow.r_isiOwn oc ey ?_
    walk_at "sts"
    refine r_catT ⟨as, et, pt⟩ ⟨bs, eu, pu⟩ hl fun p H1 k1 hp => ?_
    have ex1 := k1 _ _ (by simp) ex
    have ey1 := k1 _ _ (by simp) ey
    walk_at "sts"
    exact r_newForm (.inr hp) (by rw [List.length_append]; exact hl) (fun z hz => (List.mem_append.mp hz).elim (q1 z) (q2 z)) fun z H2 k2 nz f => q z H2 (k1.trans k2) (k1.free (by simp) nz) f
theorem ok_mul (T : Tx K mg) (G_Form___init : GInit P w K mg base T) : FnOk P w K mg base CX0 5 T.f_Form___mul T.fd_Form___mul ["self", "other"] (spMul T.C_Form) := by
  refine T.F_Form___mul.ok sc_Form___mul (fun vs H Q E h => ?_) (fun cdv A outer s H vs Q E hr h => ?_)
  · obtain ⟨x, ts, c, n, rfl, _⟩ := h; rfl
  · obtain ⟨x, ts, c, n, rfl, hx, hl, q1, hw, hc, hn, q⟩ := h
    have oc := T.oc_Form
    have na := T.na_Form_terms
    have nc := T.na_Form_constant
    obtain ⟨dx, t, ex, as, et, pt⟩ := hx
    have hlt := pt.len
    refine ⟨_, PSs.nox (pss_cons (ps_if (pt_not (pt_val (pe_callB call_isi (by rfl) T.m_isinstance (by decide +kernel) (pa_cons (pv 1) (pa_cons (pe_bltn (v := .ty "int") (by rfl) T.m_int (by decide +kernel) rfl) pa_nil)))))
    (pss_one ps_never)
    pss_nil)
    (pss_one (ps_ret (pe_make T.mk_Form G_Form___init (hr.mono (by decide)) rfl T.gC_Form T.b3_Form___init.choose_spec.2 T.b3_Form___init.choose_spec.1 pass0 (pa_cons (pe_lc (own := [("name", 2), ("weight", 3)]) (g := gTup K 2 (gCons (gName 2) (gCons (gName 3) gNil))) (tt := tYes) rfl sc_Form___mul.nd (pi_tup (pe_fld (pv 0) rfl)) (blkOk_by (own := [("name", 2), ("weight", 3)]) (N := ["self", "other", "name", "weight"]) (sc := defScope s_Form___mul) (by decide +kernel)) (fun _ _ _ _ _ => pg_tup (n := 2) rfl (pgs_cons (pg_name (i := 2) sc_Form___mul.nd rfl (Or.inl rfl)) (pgs_cons (pg_name (i := 3) sc_Form___mul.nd rfl (Or.inl rfl)) pgs_nil))) (fun _ _ _ _ _ => pts_nil) (fun _ _ _ _ _ => (pe_tup (pa_cons (pv 2) (pa_cons (pe_op op_mulG (pv 3) (pv 1)) pa_nil))))) (pa_cons (pe_op op_mulG (pe_fld (pv 0) rfl) (pv 1)) pa_nil)))))), ?_⟩
    walk_at "start"
    walk_at "sts"
    refine lcT_go (fun D i acc H' => ∃ bs : List Addr, acc = bs.map V.ref ∧ PairsAt H' bs (Fm.scl n (ts.take i)) ∧ Keep [] H H' ∧ H D = none) (sqT_of et) (fun D hD => ⟨[], rfl, trivial, Keep.new hD, hD⟩) (fun D i acc H' _ h => by obtain ⟨_, _, _, k, _⟩ := h; exact sqT_of (k _ _ (by simp) et)) ?_ ?_
    · rintro D i v acc H1 hv hD ⟨bs, rfl, hb, k1, nD⟩
      obtain ⟨a, ha, rfl⟩ := getRef hv
      obtain ⟨z, hz, ez⟩ := pt.get ha
      have ez1 := k1 _ _ (by simp) ez
      have mz := List.mem_of_getElem? hz
      have hbl := hb.len
      rw [Fm.scl, List.length_map, List.length_take] at hbl
      refine r_gTup2 (sqT_of ez1) ?_
      refine ⟨rfl, ?_⟩
      simp only [L2.wipe, List.map_cons, List.map_nil, List.set_cons_zero, List.set_cons_succ]
      walk_at "sts"
      refine r_I (mulw 1500 1500 (hw z mz) hn) ?_
      walk_at "sts"
      intro y hy
      rw [Int.mul_comm]
      have k2 : Keep [] H1 (upd H1 y (.tup [.str z.1, .int (n * z.2)])) := Keep.new hy
      have e2 : upd H1 y (.tup [.str z.1, .int (n * z.2)]) y = some (.tup [.str z.1, .int (n * z.2)]) := upd_same
      generalize upd H1 y (.tup [.str z.1, .int (n * z.2)]) = H2 at k2 e2 ⊢
      have hD2 := k2 _ _ (by simp) hD
      refine lc_put (acc := bs.map V.ref) hD2 (by rw [List.length_map]; exact lt_size (by omega)) ⟨bs ++ [y], by rw [List.map_append]; rfl, ?_, (k1.trans k2).mut nD, nD⟩
      rw [take_snoc hz, show Fm.scl n (ts.take i ++ [z]) = Fm.scl n (ts.take i) ++ [(z.1, n * z.2)] by simp [Fm.scl]]
      exact ((hb.keep0 k2).app (bs := [y]) (us := [(z.1, n * z.2)]) ⟨e2, trivial⟩).keep (Keep.at (M := [D]) (by simp)) (fun m hm => by rw [List.mem_singleton.mp hm]; exact ⟨_, hD2⟩)
    · rintro D acc H1 nD hD ⟨bs, rfl, hb, k1, _⟩
      rw [List.take_of_length_le (by rw [List.length_map, hlt]; exact Nat.le_refl _)] at hb
      have ex1 := k1 _ _ (by simp) ex
      walk_at "sts"
      refine r_I (mulw 1500 1500 hc hn) ?_
      walk_at "sts"
      exact r_newForm (.inl ⟨bs, hD, hb⟩) (by rw [Fm.scl, List.length_map]; exact hl) (fun z hz => by obtain ⟨y, hy, rfl⟩ := List.mem_map.mp hz; exact q1 y hy) fun z H2 k2 nz f => q z H2 (k1.trans k2) (k1.free (by simp) nz) f
end
/-! ### more of the form -/
def spSub (C : Addr) : Sp := fun vs H Q _ => ∃ (x y : Addr) (ts us : List Fm.Tm) (c d : Int), vs = [.ref x, .ref y] ∧ FormAt C H x ts c ∧ FormAt C H y us d ∧ ts.length + us.length ≤ 60 ∧ (∀ t ∈ ts, IsQ t.1) ∧ (∀ t ∈ us, IsQ t.1) ∧ (∀ t ∈ us, t.2.natAbs < 2 ^ 1500) ∧ d.natAbs < 2 ^ 1500 ∧ ∀ z H', Keep [] H H' → H z = none → FormAt C H' z (Fm.can (ts ++ Fm.scl (-1) us)) (c - d) → Q (.ref z) H'
def spNeg (C : Addr) : Sp := fun vs H Q _ => ∃ (x : Addr) (ts : List Fm.Tm) (c : Int), vs = [.ref x] ∧ FormAt C H x ts c ∧ ts.length ≤ 60 ∧ (∀ t ∈ ts, IsQ t.1) ∧ (∀ t ∈ ts, t.2.natAbs < 2 ^ 1500) ∧ c.natAbs < 2 ^ 1500 ∧ ∀ z H', Keep [] H H' → H z = none → FormAt C H' z (Fm.can (Fm.scl (-1) ts)) (-c) → Q (.ref z) H'
def spNames (C : Addr) : Sp := fun vs H Q _ => ∃ (x : Addr) (ts : List Fm.Tm) (c : Int), vs = [.ref x] ∧ FormAt C H x ts c ∧ ts.length ≤ 60 ∧ ∀ p H', Keep [] H H' → H' p = some (.tup ((ts.map (·.1)).map V.str)) → Q (.ref p) H'
def spPut (C : Addr) : Sp := fun vs H Q _ => ∃ (x y : Addr) (ts us : List Fm.Tm) (c d : Int) (nm : Str), vs = [.ref x, .str nm, .ref y] ∧ FormAt C H x ts c ∧ FormAt C H y us d ∧ Fm.Canon ts ∧ ts.length + us.length ≤ 60 ∧ (∀ t ∈ ts, IsQ t.1 ∧ t.2.natAbs < 2 ^ 1500) ∧ (∀ t ∈ us, IsQ t.1 ∧ t.2.natAbs < 2 ^ 1500) ∧ d.natAbs < 2 ^ 1500 ∧
  ∀ z H', Keep [] H H' → H z = none → FormAt C H' z (Fm.can (Fm.dropN nm ts ++ Fm.scl (Fm.wt ts nm) us)) (c + Fm.wt ts nm * d) → Q (.ref z) H'
def spEq1 (C : Addr) : Sp := fun vs H Q _ => ∃ (x y : Addr) (ts : List Fm.Tm) (c : Int), vs = [.ref x, .ref y] ∧ FormAt C H x ts c ∧ FormAt C H y ts c ∧ (∀ t ∈ ts, IsQ t.1) ∧ Q (.bl true) H
def spStr (C : Addr) : Sp := fun vs H Q _ => ∃ (x : Addr) (ts : List Fm.Tm) (c : Int), vs = [.ref x] ∧ FormAt C H x ts c ∧ ts.length ≤ 60 ∧ (∀ t ∈ ts, IsQ t.1 ∧ t.2.natAbs < 2 ^ 1500) ∧ c.natAbs < 2 ^ 1500 ∧ ∀ H', Keep [] H H' → Q (.str (Wr.due ts c)) H'
/-- the level of a name in the world at d -/
def LevAt (H : Hp) (kvs : List (Key × V)) (W : Fm.Wd) (x : Str) : Prop := ∃ a, valV kvs (Sum.inr x) = some (.ref a) ∧ H a = some (.tup [.int (W x).1, .int (W x).2])
theorem LevAt.keep {M : List Addr} {H H' : Hp} {kvs : List (Key × V)} {W : Fm.Wd} {x : Str} (h : LevAt H kvs W x) (k : Keep M H H') (n : ∀ m ∈ M, ∃ xs, H m = some (.lst xs)) : LevAt H' kvs W x := by
  obtain ⟨a, e1, e2⟩ := h
  refine ⟨a, e1, k _ _ (fun hm => ?_) e2⟩
  obtain ⟨xs, hx⟩ := n a hm
  rw [hx] at e2; cases e2
def spVal (C : Addr) : Sp := fun vs H Q _ => ∃ (x d : Addr) (ts : List Fm.Tm) (c : Int) (kvs : List (Key × V)) (W : Fm.Wd), vs = [.ref x, .ref d] ∧ FormAt C H x ts c ∧ H d = some (.dK kvs) ∧ (∀ t ∈ ts, LevAt H kvs W t.1 ∧ 0 < (W t.1).2) ∧ ts.length ≤ 5 ∧ (∀ t ∈ ts, t.2.natAbs < 2 ^ 400 ∧ (W t.1).1.natAbs < 2 ^ 1000 ∧ (W t.1).2.natAbs < 2 ^ 401) ∧ c.natAbs < 2 ^ 400 ∧
  ∀ p H', Keep [] H H' → H' p = some (.tup [.int (lowT (Fm.accV W ts (c, 1)).1 (Fm.accV W ts (c, 1)).2), .int (lowB (Fm.accV W ts (c, 1)).1 (Fm.accV W ts (c, 1)).2)]) → Q (.ref p) H'
theorem lev_some {H : Hp} {kvs : List (Key × V)} {W : Fm.Wd} {x : Str} (h : LevAt H kvs W x) : (valV kvs (Sum.inr x)).isSome = true := by obtain ⟨a, e, _⟩ := h; rw [e]; rfl
section
variable {P : Program} {w : World} {K : PySem.W.Frag} {mg : Str → Option Value} {base : Heap}
abbrev GAdd (P : Program) (w : World) (K : PySem.W.Frag) (mg : Str → Option Value) (base : Heap) (T : Tx K mg) := FnOk P w K mg base CX0 5 T.f_Form___add T.fd_Form___add ["self", "other"] (spAdd T.C_Form)
abbrev GMul (P : Program) (w : World) (K : PySem.W.Frag) (mg : Str → Option Value) (base : Heap) (T : Tx K mg) := FnOk P w K mg base CX0 5 T.f_Form___mul T.fd_Form___mul ["self", "other"] (spMul T.C_Form)
theorem can_snd {ts us : List Fm.Tm} : Fm.can (ts ++ Fm.can us) = Fm.can (ts ++ us) := Fm.can_can fun x => by rw [Fm.wt_append, Fm.wt_append, Fm.can_wt]
theorem can_both {ts us : List Fm.Tm} : Fm.can (Fm.can ts ++ Fm.can us) = Fm.can (ts ++ us) := Fm.can_can fun x => by rw [Fm.wt_append, Fm.wt_append, Fm.can_wt, Fm.can_wt]
theorem can_names {ts : List Fm.Tm} {p : Str → Prop} (h : ∀ t ∈ ts, p t.1) : ∀ t ∈ Fm.can ts, p t.1 := fun t ht => by
  obtain ⟨⟨q, hq, e⟩, _⟩ := Fm.can_mem ht
  rw [← e]; exact h q hq
theorem scl_names {ts : List Fm.Tm} {p : Str → Prop} {k : Int} (h : ∀ t ∈ ts, p t.1) : ∀ t ∈ Fm.scl k ts, p t.1 := fun t ht => by
  obtain ⟨q, hq, rfl⟩ := List.mem_map.mp ht
  exact h q hq
theorem scl_len {ts : List Fm.Tm} {k : Int} : (Fm.scl k ts).length = ts.length := by rw [Fm.scl, List.length_map]
theorem drop_len {ts : List Fm.Tm} {x : Str} : (Fm.dropN x ts).length ≤ ts.length := List.length_filter_le _ _
theorem drop_names {ts : List Fm.Tm} {p : Fm.Tm → Prop} {x : Str} (h : ∀ t ∈ ts, p t) : ∀ t ∈ Fm.dropN x ts, p t := fun t ht => h t (List.mem_filter.mp ht).1
theorem ok_sub (T : Tx K mg) (G_Form___add : GAdd P w K mg base T) (G_Form___mul : GMul P w K mg base T) : FnOk P w K mg base CX0 6 T.f_Form___sub T.fd_Form___sub ["self", "other"] (spSub T.C_Form) := by
  refine T.F_Form___sub.ok sc_Form___sub (fun vs H Q E h => ?_) (fun cdv A outer s H vs Q E hr h => ?_)
  · obtain ⟨x, y, ts, us, c, d, rfl, _⟩ := h; rfl
  · obtain ⟨x, y, ts, us, c, d, rfl, hx, hy, hl, q1, q2, hw, hd, q⟩ := h
    refine ⟨_, PSs.nox (pss_one (ps_ret (pe_op (Ow.op_own2 T.oc_Form.sf T.me_Form___add (G_Form___add.raw T.b_Form___add .nil) (hr.mono (by decide)) pass0) (pv 0) (pe_op (Ow.op_ownI T.oc_Form.sf T.me_Form___mul (G_Form___mul.raw T.b_Form___mul .nil) (hr.mono (by decide)) pass0 T.rr_Form_mul.choose_spec (Or.inr ⟨_, rfl⟩) T.if_mul T.ir_mul T.is_Form) (pv 1) (pe_un un_neg pe_int))))), ?_⟩
    walk_at "start"
    walk_at "sts"
    refine r_mul hy (by omega) q2 hw hd (by decide +kernel) fun z H1 k1 nz f1 => ?_
    refine r_add (hx.keep0 k1) f1 (by have := Fm.can_len (Fm.scl (-1) us); rw [scl_len] at this; omega) q1 (can_names (scl_names q2)) fun z2 H2 k2 nz2 f2 => ?_
    walk_at "sts"
    rw [can_snd, show c + d * -1 = c - d by omega] at f2
    exact q z2 H2 (k1.trans k2) (k1.free (by simp) nz2) f2
theorem ok_neg (T : Tx K mg) (G_Form___mul : GMul P w K mg base T) : FnOk P w K mg base CX0 6 T.f_Form___neg T.fd_Form___neg ["self"] (spNeg T.C_Form) := by
  refine T.F_Form___neg.ok sc_Form___neg (fun vs H Q E h => ?_) (fun cdv A outer s H vs Q E hr h => ?_)
  · obtain ⟨x, ts, c, rfl, _⟩ := h; rfl
  · obtain ⟨x, ts, c, rfl, hx, hl, q1, hw, hc, q⟩ := h
    refine ⟨_, PSs.nox (pss_one (ps_ret (pe_op (Ow.op_ownI T.oc_Form.sf T.me_Form___mul (G_Form___mul.raw T.b_Form___mul .nil) (hr.mono (by decide)) pass0 T.rr_Form_mul.choose_spec (Or.inr ⟨_, rfl⟩) T.if_mul T.ir_mul T.is_Form) (pv 0) (pe_un un_neg pe_int)))), ?_⟩
    walk_at "start"
    walk_at "sts"
    refine r_mul hx hl q1 hw hc (by decide +kernel) fun z H1 k1 nz f1 => ?_
    walk_at "sts"
    rw [show c * -1 = -c by omega] at f1
    exact q z H1 k1 nz f1
theorem ok_rmul (T : Tx K mg) (G_Form___mul : GMul P w K mg base T) : FnOk P w K mg base CX0 6 T.f_Form___rmul T.fd_Form___rmul ["self", "other"] (spMul T.C_Form) := by
  refine T.F_Form___rmul.ok sc_Form___rmul (fun vs H Q E h => ?_) (fun cdv A outer s H vs Q E hr h => ?_)
  · obtain ⟨x, ts, c, n, rfl, _⟩ := h; rfl
  · obtain ⟨x, ts, c, n, rfl, hx, hl, q1, hw, hc, hn, q⟩ := h
    refine ⟨_, PSs.nox (pss_one (ps_ret (pe_op (Ow.op_ownI T.oc_Form.sf T.me_Form___mul (G_Form___mul.raw T.b_Form___mul .nil) (hr.mono (by decide)) pass0 T.rr_Form_mul.choose_spec (Or.inr ⟨_, rfl⟩) T.if_mul T.ir_mul T.is_Form) (pv 0) (pv 1)))), ?_⟩
    walk_at "start"
    walk_at "sts"
    exact r_mul hx hl q1 hw hc hn q
theorem ok_str (T : Tx K mg) (G_write_form : FnOk P w K mg base CX0 2 T.f_write_form T.fd_write_form ["terms", "constant"] spWForm) : FnOk P w K mg base CX0 3 T.f_Form___str T.fd_Form___str ["self"] (spStr T.C_Form) := by
  refine T.F_Form___str.ok sc_Form___str (fun vs H Q E h => ?_) (fun cdv A outer s H vs Q E hr h => ?_)
  · obtain ⟨x, ts, c, rfl, _⟩ := h; rfl
  · obtain ⟨x, ts, c, rfl, ⟨dx, t, ex, ht⟩, hl, hw, hc, q⟩ := h
    have oc := T.oc_Form
    have na := T.na_Form_terms
    have nc := T.na_Form_constant
    refine ⟨_, PSs.nox (pss_one (ps_ret (pe_callTy SkE.call_str_str (by rfl) T.m_str (by decide +kernel) (pa_cons (pe_call G_write_form (hr.mono (by decide)) rfl T.g_write_form T.F_write_form.kp T.b_write_form .nil pass0 (pa_cons (pe_fld (pv 0) rfl) (pa_cons (pe_fld (pv 0) rfl) pa_nil))) pa_nil)))), ?_⟩
    walk_at "start"
    walk_at "sts"
    refine ⟨t, ts, c, rfl, ht, hl, fun z hz => (hw z hz).1, fun z hz => (hw z hz).2, hc, fun H1 k1 => ?_⟩
    walk_at "sts"
    rw [Wr.same fun z hz => (hw z hz).1.pos]
    exact q H1 k1
theorem ok_names (T : Tx K mg) : FnOk P w K mg base CX0 1 T.f_Form_names T.fd_Form_names ["self"] (spNames T.C_Form) := by
  refine T.F_Form_names.ok sc_Form_names (fun vs H Q E h => ?_) (fun cdv A outer s H vs Q E hr h => ?_)
  · obtain ⟨x, ts, c, rfl, _⟩ := h; rfl
  · obtain ⟨x, ts, c, rfl, ⟨dx, t, ex, as, et, pt⟩, hl, q⟩ := h
    have oc := T.oc_Form
    have na := T.na_Form_terms
    have hlt := pt.len
    refine ⟨_, PSs.nox (pss_one (ps_ret (pe_callTy call_tuple_of (by rfl) T.m_tuple (by decide +kernel) (pa_cons (pe_lc (own := [("name", 1), ("_", 2)]) (g := gTup K 2 (gCons (gName 1) (gCons (gName 2) gNil))) (tt := tYes) rfl sc_Form_names.nd (pi_tup (pe_fld (pv 0) rfl)) (blkOk_by (own := [("name", 1), ("_", 2)]) (N := ["self", "name", "_"]) (sc := defScope s_Form_names) (by decide +kernel)) (fun _ _ _ _ _ => pg_tup (n := 2) rfl (pgs_cons (pg_name (i := 1) sc_Form_names.nd rfl (Or.inl rfl)) (pgs_cons (pg_name (i := 2) sc_Form_names.nd rfl (Or.inl rfl)) pgs_nil))) (fun _ _ _ _ _ => pts_nil) (fun _ _ _ _ _ => (pv 1))) pa_nil)))), ?_⟩
    walk_at "start"
    walk_at "sts"
    refine lcT_go (fun D i acc H' => acc = ((ts.take i).map (·.1)).map V.str ∧ Keep [] H H' ∧ H D = none) (sqT_of et) (fun D hD => ⟨rfl, Keep.new hD, hD⟩) (fun D i acc H' _ h => by obtain ⟨_, k, _⟩ := h; exact sqT_of (k _ _ (by simp) et)) ?_ ?_
    · rintro D i v acc H1 hv hD ⟨rfl, k1, nD⟩
      obtain ⟨a, ha, rfl⟩ := getRef hv
      obtain ⟨z, hz, ez⟩ := pt.get ha
      refine r_gTup2 (sqT_of (k1 _ _ (by simp) ez)) ?_
      refine ⟨rfl, ?_⟩
      simp only [L2.wipe, List.map_cons, List.map_nil, List.set_cons_zero, List.set_cons_succ]
      walk_at "sts"
      exact lc_put hD (by simp only [List.length_map, List.length_take]; exact lt_size (by omega)) ⟨by rw [take_snoc hz]; simp, k1.mut nD, nD⟩
    · rintro D acc H1 nD hD ⟨rfl, k1, _⟩
      rw [List.take_of_length_le (by rw [List.length_map, hlt]; exact Nat.le_refl _)] at hD
      walk_at "sts"
      refine r_tupL (sqL_of hD) fun u hu => ?_
      exact q u _ (k1.trans (Keep.new hu)) upd_same
end
/-! ### a form and an int -/
def spAddI (C : Addr) : Sp := fun vs H Q _ => ∃ (x : Addr) (ts : List Fm.Tm) (c n : Int), vs = [.ref x, .int n] ∧ FormAt C H x ts c ∧ ts.length ≤ 60 ∧ (∀ t ∈ ts, IsQ t.1) ∧ ∀ z H', Keep [] H H' → H z = none → FormAt C H' z (Fm.can ts) (c + n) → Q (.ref z) H'
theorem r_addI {C x : Addr} {ts : List Fm.Tm} {c n : Int} {H : Hp} {Q : VK} {E : XK} (hx : FormAt C H x ts c) (hl : ts.length ≤ 60) (q1 : ∀ t ∈ ts, IsQ t.1) (k : ∀ z H', Keep [] H H' → H z = none → FormAt C H' z (Fm.can ts) (c + n) → Q (.ref z) H') : Ow.rOwnI C (fun vs H Q E => spAddI C (vs ++ []) H Q E) E (.ref x) (.int n) H Q := by
  obtain ⟨dx, t, e, _⟩ := id hx
  exact Ow.r_ownI e ⟨x, ts, c, n, rfl, hx, hl, q1, k⟩
section
variable {P : Program} {w : World} {K : PySem.W.Frag} {mg : Str → Option Value} {base : Heap}
theorem ok_addI (T : Tx K mg) (G_Form___init : GInit P w K mg base T) : FnOk P w K mg base CX0 5 T.f_Form___add T.fd_Form___add ["self", "other"] (spAddI T.C_Form) := by
  refine T.F_Form___add.ok sc_Form___add (fun vs H Q E h => ?_) (fun cdv A outer s H vs Q E hr h => ?_)
  · obtain ⟨x, ts, c, n, rfl, _⟩ := h; rfl
  · obtain ⟨x, ts, c, n, rfl, hx, hl, q1, q⟩ := h
    have oc := T.oc_Form
    have na := T.na_Form_terms
    have nc := T.na_Form_constant
    obtain ⟨dx, t, ex, as, et, pt⟩ := hx
    have hlt := pt.len
    refine ⟨_, PSs.nox (pss_cons (ps_if (pt_val (pe_callB call_isi (by rfl) T.m_isinstance (by decide +kernel) (pa_cons (pv 1) (pa_cons (pe_bltn (v := .ty "int") (by rfl) T.m_int (by decide +kernel) rfl) pa_nil))))
    (pss_one (ps_ret (pe_make T.mk_Form G_Form___init (hr.mono (by decide)) rfl T.gC_Form T.b3_Form___init.choose_spec.2 T.b3_Form___init.choose_spec.1 pass0 (pa_cons (pe_fld (pv 0) rfl) (pa_cons (pe_op op_add (pe_fld (pv 0) rfl) (pv 1)) pa_nil)))))
    pss_nil)
    (pss_cons (ps_if (pt_not (pt_val (pe_callB call_isi (by rfl) T.m_isinstance (by decide +kernel) (pa_cons (pv 1) (pa_cons (pe_glob (v := .ref T.C_Form) rfl T.gC_Form rfl) pa_nil)))))
    (pss_one ps_never)
    pss_nil)
    (pss_one ps_never))), ?_⟩
    walk_at "start"
    walk_at "sts"
    exact r_newForm (.inr ⟨as, et, pt⟩) hl q1 fun z H2 k2 nz f => q z H2 k2 nz f
end
abbrev GAddI (P : Program) (w : World) (K : PySem.W.Frag) (mg : Str → Option Value) (base : Heap) (T : Tx K mg) := FnOk P w K mg base CX0 5 T.f_Form___add T.fd_Form___add ["self", "other"] (spAddI T.C_Form)
/-! ### less an int, an int and a form -/
def spSubI (C : Addr) : Sp := fun vs H Q _ => ∃ (x : Addr) (ts : List Fm.Tm) (c n : Int), vs = [.ref x, .int n] ∧ FormAt C H x ts c ∧ ts.length ≤ 60 ∧ (∀ t ∈ ts, IsQ t.1) ∧ n.natAbs < 2 ^ 1500 ∧ ∀ z H', Keep [] H H' → H z = none → FormAt C H' z (Fm.can ts) (c - n) → Q (.ref z) H'
def spRsub (C : Addr) : Sp := fun vs H Q _ => ∃ (x : Addr) (ts : List Fm.Tm) (c n : Int), vs = [.ref x, .int n] ∧ FormAt C H x ts c ∧ ts.length ≤ 60 ∧ (∀ t ∈ ts, IsQ t.1) ∧ (∀ t ∈ ts, t.2.natAbs < 2 ^ 1500) ∧ c.natAbs < 2 ^ 1500 ∧ ∀ z H', Keep [] H H' → H z = none → FormAt C H' z (Fm.can (Fm.scl (-1) ts)) (n - c) → Q (.ref z) H'
section
variable {P : Program} {w : World} {K : PySem.W.Frag} {mg : Str → Option Value} {base : Heap}
theorem ok_subI (T : Tx K mg) (G_Form___addI : GAddI P w K mg base T) : FnOk P w K mg base CX0 6 T.f_Form___sub T.fd_Form___sub ["self", "other"] (spSubI T.C_Form) := by
  refine T.F_Form___sub.ok sc_Form___sub (fun vs H Q E h => ?_) (fun cdv A outer s H vs Q E hr h => ?_)
  · obtain ⟨x, ts, c, n, rfl, _⟩ := h; rfl
  · obtain ⟨x, ts, c, n, rfl, hx, hl, q1, hn, q⟩ := h
    refine ⟨_, PSs.nox (pss_one (ps_ret (pe_op (Ow.op_ownI T.oc_Form.sf T.me_Form___add (G_Form___addI.raw T.b_Form___add .nil) (hr.mono (by decide)) pass0 T.rr_Form_add.choose_spec (Or.inr ⟨_, rfl⟩) T.if_add T.ir_add T.is_Form) (pv 0) (pe_op op_mul (pv 1) (pe_un un_neg pe_int))))), ?_⟩
    walk_at "start"
    walk_at "sts"
    refine r_addI hx hl q1 fun z H1 k1 nz f1 => ?_
    walk_at "sts"
    rw [show c + n * -1 = c - n by omega] at f1
    exact q z H1 k1 nz f1
theorem ok_radd (T : Tx K mg) (G_Form___addI : GAddI P w K mg base T) : FnOk P w K mg base CX0 6 T.f_Form___radd T.fd_Form___radd ["self", "other"] (spAddI T.C_Form) := by
  refine T.F_Form___radd.ok sc_Form___radd (fun vs H Q E h => ?_) (fun cdv A outer s H vs Q E hr h => ?_)
  · obtain ⟨x, ts, c, n, rfl, _⟩ := h; rfl
  · obtain ⟨x, ts, c, n, rfl, hx, hl, q1, q⟩ := h
    refine ⟨_, PSs.nox (pss_one (ps_ret (pe_op (Ow.op_ownI T.oc_Form.sf T.me_Form___add (G_Form___addI.raw T.b_Form___add .nil) (hr.mono (by decide)) pass0 T.rr_Form_add.choose_spec (Or.inr ⟨_, rfl⟩) T.if_add T.ir_add T.is_Form) (pv 0) (pv 1)))), ?_⟩
    walk_at "start"
    walk_at "sts"
    exact r_addI hx hl q1 q
theorem ok_rsub (T : Tx K mg) (G_Form___addI : GAddI P w K mg base T) (G_Form___mul : GMul P w K mg base T) : FnOk P w K mg base CX0 6 T.f_Form___rsub T.fd_Form___rsub ["self", "other"] (spRsub T.C_Form) := by
  refine T.F_Form___rsub.ok sc_Form___rsub (fun vs H Q E h => ?_) (fun cdv A outer s H vs Q E hr h => ?_)
  · obtain ⟨x, ts, c, n, rfl, _⟩ := h; rfl
  · obtain ⟨x, ts, c, n, rfl, hx, hl, q1, hw, hc, q⟩ := h
    refine ⟨_, PSs.nox (pss_one (ps_ret (pe_op (Ow.op_ownI T.oc_Form.sf T.me_Form___add (G_Form___addI.raw T.b_Form___add .nil) (hr.mono (by decide)) pass0 T.rr_Form_add.choose_spec (Or.inr ⟨_, rfl⟩) T.if_add T.ir_add T.is_Form) (pe_op (Ow.op_ownI T.oc_Form.sf T.me_Form___mul (G_Form___mul.raw T.b_Form___mul .nil) (hr.mono (by decide)) pass0 T.rr_Form_mul.choose_spec (Or.inr ⟨_, rfl⟩) T.if_mul T.ir_mul T.is_Form) (pv 0) (pe_un un_neg pe_int)) (pv 1)))), ?_⟩
    walk_at "start"
    walk_at "sts"
    refine r_mul hx hl q1 hw hc (by decide +kernel) fun z H1 k1 nz f1 => ?_
    walk_at "sts"
    refine r_addI f1 (by have := Fm.can_len (Fm.scl (-1) ts); rw [scl_len] at this; omega) (can_names (scl_names q1)) fun z2 H2 k2 nz2 f2 => ?_
    walk_at "sts"
    rw [Fm.can_can fun x => Fm.can_wt _ x, show c * -1 + n = n - c by omega] at f2
    exact q z2 H2 (k1.trans k2) (k1.free (by simp) nz2) f2
end
/-! ### a form compared, asked for a weight, its length -/
theorem eqv_pr {p q : Fm.Tm} : PyData.eqv (.tuple [.str p.1, .int p.2]) (.tuple [.str q.1, .int q.2]) = decide (p = q) := by
  rw [eqvT]
  by_cases h : p = q
  · subst h; simp [PyData.eqvAll, PyData.eqv]
  · rw [decide_eq_false h]
    have : ¬ (p.1 = q.1 ∧ p.2 = q.2) := fun g => h (Prod.ext g.1 g.2)
    simp [PyData.eqvAll, PyData.eqv]
    intro g1 g2
    exact this ⟨g1, g2⟩
theorem eqv_prs : ∀ {ts us : List Fm.Tm}, PyData.eqvAll (ts.map fun p => PyData.tuple [.str p.1, .int p.2]) (us.map fun p => PyData.tuple [.str p.1, .int p.2]) = decide (ts = us)
  | [], [] => rfl
  | [], _ :: _ => by simp [PyData.eqvAll]
  | _ :: _, [] => by simp [PyData.eqvAll]
  | t :: ts, u :: us => by
    have ih := eqv_prs (ts := ts) (us := us)
    simp only [List.map_cons, PyData.eqvAll, eqv_pr, ih]
    by_cases h : t = u
    · subst h
      by_cases g : ts = us
      · subst g; simp
      · simp [g]
    · simp [h]
def spEqA (K : PySem.W.Frag) (C : Addr) : Sp := fun vs H Q _ => (∃ (x y : Addr) (ts us : List Fm.Tm) (c d : Int), vs = [.ref x, .ref y] ∧ FormAt C H x ts c ∧ FormAt C H y us d ∧ (∀ t ∈ ts, IsQ t.1) ∧ (∀ t ∈ us, IsQ t.1) ∧ Q (.bl (decide (ts = us) && decide (c = d))) H) ∨
  ∃ (x : Addr) (ts : List Fm.Tm) (c : Int) (y : V) (T : String), vs = [.ref x, y] ∧ FormAt C H x ts c ∧ Ow.Oth H y T ∧ PySem.W.subIn K (.type T) (.ref C) = some false ∧ Q (.bl false) H
theorem kit_into {K : PySem.W.Frag} {C : Addr} {T : String} {b : Bool} (hdct : PySem.W.hasDictIn K C = true) (ht : PySem.W.typeIn K (.ref C) = some (.type "type")) (h4 : PySem.W.subIn K (.type T) (.ref C) = some b) : PySem.W.kitOne K (.type T) (.ref C) = some b := by
  obtain ⟨cd, hc, _⟩ := PySem.W.any_some hdct
  have e2 : ((PySem.W.clsIn K C).isSome && PySem.W.typeIn K (.ref C) == some (.type "type")) = true := by rw [hc, ht] <;> rfl
  unfold PySem.W.kitOne
  rw [if_neg (by show ¬ (Value.type T == Value.ref C) = true; intro z; cases (beq_iff_eq.mp z))]
  show (if ((PySem.W.clsIn K C).isSome && PySem.W.typeIn K (.ref C) == some (.type "type")) = true then PySem.W.subIn K (.type T) (.ref C) else none) = some b
  rw [if_pos e2]
  exact h4
theorem oth_ty {K : PySem.W.Frag} {H : Hp} {y : V} {T : String} (o : Ow.Oth H y T) : TyX K H y (.type T) := by
  cases o with
  | int i => exact .base (.int i)
  | str z => exact .base (.str z)
  | tup e => exact .base (.tup e)
def spOne (C : Addr) : Sp := fun vs H Q _ => ∃ nm : Str, vs = [.str nm] ∧ IsQ nm ∧ ∀ z H', Keep [] H H' → H z = none → FormAt C H' z (Fm.can [(nm, 1)]) 0 → Q (.ref z) H'
def spGap (C : Addr) : Sp := fun vs H Q _ => ∃ nm mm : Str, vs = [.str nm, .str mm] ∧ IsQ nm ∧ IsQ mm ∧ ∀ z H', Keep [] H H' → H z = none → FormAt C H' z (Fm.can [(nm, 1), (mm, -1)]) 0 → Q (.ref z) H'
def spHas (C : Addr) : Sp := fun vs H Q _ => ∃ (x : Addr) (ts : List Fm.Tm) (c : Int) (nm : Str), vs = [.ref x, .str nm] ∧ FormAt C H x ts c ∧ Fm.Canon ts ∧ Q (.bl (!decide (Fm.wt ts nm = 0))) H
def spGet (C : Addr) : Sp := fun vs H Q _ => ∃ (x : Addr) (ts : List Fm.Tm) (c : Int) (nm : Str), vs = [.ref x, .str nm] ∧ FormAt C H x ts c ∧ Fm.Canon ts ∧ Q (.int (Fm.wt ts nm)) H
def spLen (C : Addr) : Sp := fun vs H Q _ => ∃ (x : Addr) (ts : List Fm.Tm) (c : Int), vs = [.ref x] ∧ FormAt C H x ts c ∧ Q (.int ts.length) H
section
variable {P : Program} {w : World} {K : PySem.W.Frag} {mg : Str → Option Value} {base : Heap}
theorem ok_eqA (T : Tx K mg) : FnOk P w K mg base CX0 1 T.f_Form___eq T.fd_Form___eq ["self", "other"] (spEqA K T.C_Form) := by
  refine T.F_Form___eq.ok sc_Form___eq (fun vs H Q E h => ?_) (fun cdv A outer s H vs Q E hr h => ?_)
  · rcases h with ⟨x, y, ts, us, c, d, rfl, _⟩ | ⟨x, ts, c, y, Ty, rfl, _⟩ <;> rfl
  · have oc := T.oc_Form
    have na := T.na_Form_terms
    have nc := T.na_Form_constant
    rcases h with ⟨x, y, ts, us, c, d, rfl, ⟨dx, t, ex, as, et, pt⟩, ⟨dy, u, ey, bs, eu, pu⟩, hq, hq2, q⟩ | ⟨x, ts, c, y, Ty, rfl, ⟨dx, t, ex, as, et, pt⟩, oy, hs, q⟩
    · refine ⟨_, PSs.nox (pss_one (ps_ret (pe_and (pe_callB call_isi (by rfl) T.m_isinstance (by decide +kernel) (pa_cons (pv 1) (pa_cons (pe_glob (v := .ref T.C_Form) rfl T.gC_Form rfl) pa_nil))) (pe_and (pe_cmpR (op_eqD hr.units) (pe_fld (pv 0) rfl) (pe_fld (pv 1) rfl) (nomark _)) (pe_one (pe_cmpR op_eq (pe_fld (pv 0) rfl) (pe_fld (pv 1) rfl) (nomark _))))))), ?_⟩
      walk_at "start"
      walk_at "sts"
      refine Ow.r_isiOwn oc ey ?_
      walk_at "sts"
      refine ⟨_, _, .tup (sqT_of et) (dp_pairs pt), .tup (sqT_of eu) (dp_pairs pu), shaped_pairs hq, shaped_pairs hq2, ?_⟩
      rw [eqvT, eqv_prs]
      by_cases h : ts = us
      · rw [decide_eq_true h] at q ⊢
        rw [Bool.true_and] at q
        walk_at "sts"
        exact q
      · rw [decide_eq_false h] at q ⊢
        rw [Bool.false_and] at q
        walk_at "sts"
        exact q
    · refine ⟨_, PSs.nox (pss_one (ps_ret (pe_and (pe_callB call_isi (by rfl) T.m_isinstance (by decide +kernel) (pa_cons (pv 1) (pa_cons (pe_glob (v := .ref T.C_Form) rfl T.gC_Form rfl) pa_nil))) (pe_and (pe_cmpR (op_eqD hr.units) (pe_fld (pv 0) rfl) (pe_fld (pv 1) rfl) (nomark _)) (pe_one (pe_cmpR op_eq (pe_fld (pv 0) rfl) (pe_fld (pv 1) rfl) (nomark _))))))), ?_⟩
      walk_at "start"
      walk_at "sts"
      refine ⟨_, _, _, _, false, rfl, .own _, oth_ty oy, kit_into oc.cl.hd T.ty_Form hs, ?_⟩
      walk_at "sts"
      exact q
theorem ok_has (T : Tx K mg) (G_weight_of : FnOk P w K mg base CX0 1 T.f_weight_of T.fd_weight_of ["terms", "name"] spWeightOf) : FnOk P w K mg base CX0 2 T.f_Form___contains T.fd_Form___contains ["self", "name"] (spHas T.C_Form) := by
  refine T.F_Form___contains.ok sc_Form___contains (fun vs H Q E h => ?_) (fun cdv A outer s H vs Q E hr h => ?_)
  · obtain ⟨x, ts, c, nm, rfl, _⟩ := h; rfl
  · obtain ⟨x, ts, c, nm, rfl, ⟨dx, t, ex, tt⟩, cn, q⟩ := h
    have oc := T.oc_Form
    have na := T.na_Form_terms
    have nc := T.na_Form_constant
    refine ⟨_, PSs.nox (pss_one (ps_ret (pe_cmpR op_ne (pe_call G_weight_of (hr.mono (by decide)) rfl T.g_weight_of T.F_weight_of.kp T.b_weight_of .nil pass0 (pa_cons (pe_fld (pv 0) rfl) (pa_cons (pv 1) pa_nil))) pe_int (nomark _)))), ?_⟩
    walk_at "start"
    walk_at "sts"
    refine ⟨t, ts, nm, rfl, tt, cn, ?_⟩
    walk_at "sts"
    exact q
theorem ok_get (T : Tx K mg) (G_weight_of : FnOk P w K mg base CX0 1 T.f_weight_of T.fd_weight_of ["terms", "name"] spWeightOf) : FnOk P w K mg base CX0 2 T.f_Form___getitem T.fd_Form___getitem ["self", "name"] (spGet T.C_Form) := by
  refine T.F_Form___getitem.ok sc_Form___getitem (fun vs H Q E h => ?_) (fun cdv A outer s H vs Q E hr h => ?_)
  · obtain ⟨x, ts, c, nm, rfl, _⟩ := h; rfl
  · obtain ⟨x, ts, c, nm, rfl, ⟨dx, t, ex, tt⟩, cn, q⟩ := h
    have oc := T.oc_Form
    have na := T.na_Form_terms
    have nc := T.na_Form_constant
    refine ⟨_, PSs.nox (pss_one (ps_ret (pe_call G_weight_of (hr.mono (by decide)) rfl T.g_weight_of T.F_weight_of.kp T.b_weight_of .nil pass0 (pa_cons (pe_fld (pv 0) rfl) (pa_cons (pv 1) pa_nil))))), ?_⟩
    walk_at "start"
    walk_at "sts"
    exact ⟨t, ts, nm, rfl, tt, cn, q⟩
theorem ok_len (T : Tx K mg) : FnOk P w K mg base CX0 1 T.f_Form___len T.fd_Form___len ["self"] (spLen T.C_Form) := by
  refine T.F_Form___len.ok sc_Form___len (fun vs H Q E h => ?_) (fun cdv A outer s H vs Q E hr h => ?_)
  · obtain ⟨x, ts, c, rfl, _⟩ := h; rfl
  · obtain ⟨x, ts, c, rfl, ⟨dx, t, ex, as, et, pt⟩, q⟩ := h
    have oc := T.oc_Form
    have na := T.na_Form_terms
    have nc := T.na_Form_constant
    have la := pt.len
    refine ⟨_, PSs.nox (pss_one (ps_ret (pe_callB call_len_seq (by rfl) T.m_len PySem.boot_len (pa_cons (pe_fld (pv 0) rfl) pa_nil)))), ?_⟩
    walk_at "start"
    walk_at "sts"
    rw [List.length_map, la]
    exact q
theorem ok_one (T : Tx K mg) (G_Form___init : GInit P w K mg base T) : FnOk P w K mg base CX0 5 T.f_Form_one T.fd_Form_one ["name"] (spOne T.C_Form) := by
  refine T.F_Form_one.ok sc_Form_one (fun vs H Q E h => ?_) (fun cdv A outer s H vs Q E hr h => ?_)
  · obtain ⟨nm, rfl, _⟩ := h; rfl
  · obtain ⟨nm, rfl, hq, q⟩ := h
    refine ⟨_, PSs.nox (pss_one (ps_ret (pe_make T.mk_Form G_Form___init (hr.mono (by decide)) rfl T.gC_Form T.b2_Form___init.choose_spec.2 T.b2_Form___init.choose_spec.1 pass0 (pa_cons (pe_lst (pa_cons (pe_tup (pa_cons (pv 0) (pa_cons pe_int pa_nil))) pa_nil)) pa_nil)))), ?_⟩
    walk_at "start"
    walk_at "sts"
    intro p hp
    refine ⟨le_size (by show 1 ≤ 100000; decide), fun l hl => ?_⟩
    have k1 : Keep [] H (upd H p (.tup [.str nm, .int 1])) := Keep.new hp
    have ep : upd H p (.tup [.str nm, .int 1]) p = some (.tup [.str nm, .int 1]) := upd_same
    generalize upd H p (.tup [.str nm, .int 1]) = H1 at k1 ep hl ⊢
    have k2 : Keep [] H1 (upd H1 l (.lst [.ref p])) := Keep.new hl
    have el : upd H1 l (.lst [.ref p]) l = some (.lst ([p].map V.ref)) := upd_same
    have ep2 := k2 _ _ (by simp) ep
    have k12 := k1.trans k2
    show ∀ x dx, _
    generalize upd H1 l (.lst [.ref p]) = H2 at k2 el ep2 k12 ⊢
    exact r_newForm (ts := [(nm, 1)]) (.inl ⟨[p], el, ep2, trivial⟩) (by show 1 ≤ 60; decide) (fun t ht => by rw [List.mem_singleton.mp ht]; exact hq) fun z H3 k3 nz f => q z H3 (k12.trans k3) (k12.free (by simp) nz) f
theorem ok_gap (T : Tx K mg) (G_Form___init : GInit P w K mg base T) : FnOk P w K mg base CX0 5 T.f_Form_gap T.fd_Form_gap ["first", "second"] (spGap T.C_Form) := by
  refine T.F_Form_gap.ok sc_Form_gap (fun vs H Q E h => ?_) (fun cdv A outer s H vs Q E hr h => ?_)
  · obtain ⟨nm, mm, rfl, _⟩ := h; rfl
  · obtain ⟨nm, mm, rfl, hq, hq2, q⟩ := h
    refine ⟨_, PSs.nox (pss_one (ps_ret (pe_make T.mk_Form G_Form___init (hr.mono (by decide)) rfl T.gC_Form T.b2_Form___init.choose_spec.2 T.b2_Form___init.choose_spec.1 pass0 (pa_cons (pe_lst (pa_cons (pe_tup (pa_cons (pv 0) (pa_cons pe_int pa_nil))) (pa_cons (pe_tup (pa_cons (pv 1) (pa_cons (pe_un un_neg pe_int) pa_nil))) pa_nil))) pa_nil)))), ?_⟩
    walk_at "start"
    walk_at "sts"
    intro p hp
    have k1 : Keep [] H (upd H p (.tup [.str nm, .int 1])) := Keep.new hp
    have ep : upd H p (.tup [.str nm, .int 1]) p = some (.tup [.str nm, .int 1]) := upd_same
    generalize upd H p (.tup [.str nm, .int 1]) = H1 at k1 ep ⊢
    walk_at "sts"
    intro p2 hp2
    have k2 : Keep [] H1 (upd H1 p2 (.tup [.str mm, .int (-1)])) := Keep.new hp2
    have ep2 : upd H1 p2 (.tup [.str mm, .int (-1)]) p2 = some (.tup [.str mm, .int (-1)]) := upd_same
    have ep1 := k2 _ _ (by simp) ep
    have k12 := k1.trans k2
    generalize upd H1 p2 (.tup [.str mm, .int (-1)]) = H2 at k2 ep1 ep2 k12 ⊢
    refine ⟨le_size (by show 2 ≤ 100000; decide), fun l hl => ?_⟩
    have k3 : Keep [] H2 (upd H2 l (.lst [.ref p, .ref p2])) := Keep.new hl
    have el : upd H2 l (.lst [.ref p, .ref p2]) l = some (.lst ([p, p2].map V.ref)) := upd_same
    have e1 := k3 _ _ (by simp) ep1
    have e2 := k3 _ _ (by simp) ep2
    have k13 := k12.trans k3
    show ∀ x dx, _
    generalize upd H2 l (.lst [.ref p, .ref p2]) = H3 at k3 el e1 e2 k13 ⊢
    refine r_newForm (ts := [(nm, 1), (mm, -1)]) (.inl ⟨[p, p2], el, e1, e2, trivial⟩) (by show 2 ≤ 60; decide) (fun t ht => ?_) fun z H4 k4 nz f => q z H4 (k13.trans k4) (k13.free (by simp) nz) f
    rcases List.mem_cons.mp ht with rfl | ht
    · exact hq
    · rw [List.mem_singleton.mp ht]; exact hq2
end
/-! ### the law's own forms -/
def DueAt (H : Hp) (p : Addr) (ts : List Fm.Tm) (c : Int) : Prop := ∃ t, H p = some (.tup [.ref t, .int c]) ∧ TupAt H t ts
theorem DueAt.keep {M : List Addr} {H H' : Hp} {p : Addr} {ts : List Fm.Tm} {c : Int} (h : DueAt H p ts c) (k : Keep M H H') (n : ∀ m ∈ M, ∃ xs, H m = some (.lst xs)) : DueAt H' p ts c := by
  obtain ⟨t, e, ht⟩ := h
  refine ⟨t, k _ _ (fun hm => ?_) e, ht.keep k n⟩
  obtain ⟨xs, hx⟩ := n p hm
  rw [hx] at e; cases e
theorem DueAt.keep0 {H H' : Hp} {p : Addr} {ts : List Fm.Tm} {c : Int} (h : DueAt H p ts c) (k : Keep [] H H') : DueAt H' p ts c := h.keep k (by simp)
def spTidy : Sp := fun vs H Q _ => ∃ (p : Addr) (ts : List Fm.Tm) (c : Int), vs = [.ref p, .int c] ∧ RowAt H p ts ∧ ts.length ≤ 60 ∧ ∀ q H', Keep [] H H' → H q = none → DueAt H' q (Fm.can ts) c → Q (.ref q) H'
def spDueAdd : Sp := fun vs H Q _ => ∃ (p q : Addr) (ts us : List Fm.Tm) (c d k : Int), vs = [.ref p, .ref q, .int k] ∧ DueAt H p ts c ∧ DueAt H q us d ∧ ts.length + us.length ≤ 60 ∧ (∀ t ∈ us, t.2.natAbs < 2 ^ 1500) ∧ d.natAbs < 2 ^ 1500 ∧ k.natAbs < 2 ^ 1500 ∧ ∀ r H', Keep [] H H' → H r = none → DueAt H' r (Fm.can (ts ++ Fm.scl k us)) (c + k * d) → Q (.ref r) H'
def spValL : Sp := fun vs H Q _ => ∃ (p d : Addr) (ts : List Fm.Tm) (c : Int) (kvs : List (Key × V)) (W : Fm.Wd), vs = [.ref p, .ref d] ∧ DueAt H p ts c ∧ H d = some (.dK kvs) ∧ (∀ t ∈ ts, LevAt H kvs W t.1 ∧ 0 < (W t.1).2) ∧ ts.length ≤ 5 ∧ (∀ t ∈ ts, t.2.natAbs < 2 ^ 400 ∧ (W t.1).1.natAbs < 2 ^ 1000 ∧ (W t.1).2.natAbs < 2 ^ 401) ∧ c.natAbs < 2 ^ 400 ∧
  ∀ r H', Keep [] H H' → H r = none → H' r = some (.tup [.int (lowT (Fm.accV W ts (c, 1)).1 (Fm.accV W ts (c, 1)).2), .int (lowB (Fm.accV W ts (c, 1)).1 (Fm.accV W ts (c, 1)).2)]) → Q (.ref r) H'
def spPart : Sp := fun vs H Q _ => ∃ (i : Int) (x : Str), vs = [.int i, .str x] ∧ i.natAbs < 2 ^ 1500 ∧ x.length ≤ 12 ∧ Q (.str (Wr.part i x)) H
section
variable {P : Program} {w : World} {K : PySem.W.Frag} {mg : Str → Option Value} {base : Heap}
theorem ok_tidy (T : Tx K mg) : FnOk P w K mg base CX0 1 T.f_w_tidy T.fd_w_tidy ["_law_pairs_here", "_law_constant"] spTidy := by
  refine T.F_w_tidy.ok sc_w_tidy (fun vs H Q E h => ?_) (fun cdv A outer s H vs Q E hr h => ?_)
  · obtain ⟨p, ts, c, rfl, _⟩ := h; rfl
  · obtain ⟨p, ts, c, rfl, ⟨as, ep, pp⟩, hl, q⟩ := h
    have hlen := pp.len
    refine ⟨_, (pss_cons (ps_set (i := 2) sc_w_tidy.nd rfl (Or.inl rfl) (pe_lst pa_nil))
    (pss_cons (ps_for PassesOwn.never rfl (pi_list (pv 0)) (pg_name (i := 3) sc_w_tidy.nd rfl (Or.inl rfl))
    (pss_one (ps_if (pt_cmpR op_notIn_seq (pe_ix ix_tup (pv 3) pe_int (fun _ _ => rfl)) (pv 2) (by rfl))
    (pss_one (ps_expr (pe_bm PySem.F.plainAttrs_list PySem.F.slot_list_append PySem.F.type_list_append mt_append (pv 2) (pa_cons (pe_ix ix_tup (pv 3) pe_int (fun _ _ => rfl)) pa_nil))))
    pss_nil)))
    (pss_cons (ps_set (i := 4) sc_w_tidy.nd rfl (Or.inl rfl) (pe_lst pa_nil))
    (pss_cons (ps_for PassesOwn.never rfl (pi_list (pe_callB cr_sortedS (by rfl) T.m_sorted (by decide +kernel) (pa_cons (pv 2) pa_nil))) (pg_name (i := 5) sc_w_tidy.nd rfl (Or.inr rfl))
    (pss_cons (ps_set (i := 6) sc_w_tidy.nd rfl (Or.inl rfl) (pe_callB (cr_sum rfl) (by rfl) T.m_sum (by decide +kernel) (pa_cons (pe_lc (own := [("_law_pair", 3)]) (g := gName 3)  rfl sc_w_tidy.nd (pi_list (pv 0)) (blkOk_by (own := [("_law_pair", 3)]) (N := ["_law_pairs_here", "_law_constant", "_law_seen", "_law_pair", "_law_terms", "_law_text", "_law_weight_here"]) (sc := defScope s_w_tidy) (by decide +kernel)) (fun _ _ _ _ _ => pg_name (i := 3) sc_w_tidy.nd rfl (Or.inl rfl)) (fun _ _ _ _ _ => pts_one (pt_cmpR op_eq (pe_ix (ix_tupK (K := K) rfl) (pv 3) pe_int (fun _ _ => rfl)) (pv 5) (nomark _))) (fun _ _ _ _ _ => (pe_ix (ix_tupK (K := K) rfl) (pv 3) pe_int (fun _ _ => rfl)))) pa_nil)))
    (pss_one (ps_if (pt_cmpR op_ne (pv 6) pe_int (nomark _))
    (pss_one (ps_expr (pe_bm PySem.F.plainAttrs_list PySem.F.slot_list_append PySem.F.type_list_append mt_append (pv 4) (pa_cons (pe_tup (pa_cons (pv 5) (pa_cons (pv 6) pa_nil))) pa_nil))))
    pss_nil))))
    (pss_one (ps_ret (pe_tup (pa_cons (pe_callTy call_tuple_of (by rfl) T.m_tuple (by decide +kernel) (pa_cons (pv 4) pa_nil)) (pa_cons (pv 1) pa_nil))))))))), ?_⟩
    walk_at "start"
    walk_at "sts"
    intro s1 hs1
    have k1 : Keep [] H (upd H s1 (.lst [])) := Keep.new hs1
    have e1 : upd H s1 (.lst []) s1 = some (.lst (([] : List Str).map V.str)) := upd_same
    generalize upd H s1 (.lst []) = H1 at k1 e1 ⊢
    walk_at "sts"
    refine forL_go (fun i σ' H' => ∃ (xs : List Str) (x1 : Option V), σ' = [some (.ref p), some (.int c), some (.ref s1), x1, none, none, none] ∧ H' s1 = some (.lst (xs.map V.str)) ∧ Keep [] H H' ∧ xs.Nodup ∧ (∀ x, x ∈ xs ↔ x ∈ (ts.take i).map (·.1)) ∧ xs.length ≤ i) (sqL_of (k1 _ _ (by simp) ep)) ⟨[], _, rfl, e1, k1, by simp, by simp, by simp⟩ (fun i σ' H' _ h => by obtain ⟨_, _, _, _, k, _⟩ := h; exact sqL_of (k _ _ (by simp) ep)) ?_ ?_
    · rintro i v σ' H2 hv ⟨xs, x1, rfl, e2, k2, nd, hm, hx⟩
      obtain ⟨a, ha, rfl⟩ := getRef hv
      obtain ⟨z, hz, ez⟩ := pp.get ha
      have ez2 := k2 _ _ (by simp) ez
      have hi := (List.getElem?_eq_some_iff.mp hz).1
      walk_at "sts"
      refine r_ninL (sqL_of e2) rfl (flat_strs xs) ?_
      rw [inV_str]
      walk_at "sts"
      refine r_iteN (fun c1 => ?_) (fun c1 => ?_)
      · walk_at "sts"
        refine ⟨xs ++ [z.1], _, by first | exact rfl | trivial, by rw [upd_same, List.map_append]; rfl, k2.mut hs1, List.nodup_append.mpr ⟨nd, by simp, fun x hx y hy e => c1 (by rw [← List.mem_singleton.mp hy, ← e]; exact hx)⟩, fun x => ?_, by simp; omega⟩
        rw [take_snoc hz, List.map_append, List.mem_append, List.mem_append, hm]; simp
      · walk_at "sts"
        refine ⟨xs, _, by first | exact rfl | trivial, e2, k2, nd, fun x => ?_, by omega⟩
        rw [take_snoc hz, List.map_append, List.mem_append, ← hm]
        constructor
        · exact .inl
        · rintro (h | h)
          · exact h
          · have : x = z.1 := by simpa using h
            rw [this]; exact c1
    · rintro σ' H2 ⟨xs, x1, rfl, e2, k2, nd, hm, hx⟩
      rw [List.length_map, hlen] at hx
      rw [List.length_map, hlen, List.take_length] at hm
      walk_at "sts"
      intro lt hlt
      have k3 : Keep [] H2 (upd H2 lt (.lst [])) := Keep.new hlt
      have e3 : upd H2 lt (.lst []) lt = some (.lst (([] : List Addr).map V.ref)) := upd_same
      have nlt : H lt = none := k2.free (by simp) hlt
      generalize upd H2 lt (.lst []) = H3 at k3 e3 ⊢
      have k23 := k2.trans k3
      have es3 := k3 _ _ (by simp) e2
      walk_at "sts"
      refine r_sortS (sqL_of es3) (by omega) fun ys l pm st hl3 => ?_
      have k4 : Keep [] H3 (upd H3 l (.lst (ys.map V.str))) := Keep.new hl3
      have e4 : upd H3 l (.lst (ys.map V.str)) l = some (.lst (ys.map V.str)) := upd_same
      have el4 := k4 _ _ (by simp) e3
      generalize upd H3 l (.lst (ys.map V.str)) = H4 at k4 e4 el4 ⊢
      have k24 := k23.trans k4
      have nd' : ys.Nodup := pm.nodup_iff.mpr nd
      have asc := Fm.asc_of_sorted st nd'
      have mem : ∀ x, x ∈ ys ↔ x ∈ ts.map (·.1) := fun x => (pm.mem_iff).trans (hm x)
      have ly : ys.length ≤ 60 := by have := pm.length_eq; omega
      have nll : l ≠ lt := by rintro rfl; rw [e3] at hl3; cases hl3
      refine forL_go (fun i σ' H' => ∃ (bs : List Addr) (x1 x2 x3 : Option V), σ' = [some (.ref p), some (.int c), some (.ref s1), x1, some (.ref lt), x2, x3] ∧ H' lt = some (.lst (bs.map V.ref)) ∧ PairsAt H' bs (Fm.rowOf (ys.take i) (Fm.wt ts)) ∧ Keep [lt] H4 H') (sqL_of e4) ⟨[], _, _, _, by first | exact rfl | trivial, el4, by simp [Fm.rowOf, PairsAt], Keep.refl _ _⟩ (fun i σ' H' _ h => by obtain ⟨_, _, _, _, _, _, _, k⟩ := h; exact sqL_of (k _ _ (by simpa using nll) e4)) ?_ ?_
      · rintro i v σ' H5 hv ⟨bs, x1, x2, x3, rfl, e5, r5, k5⟩
        obtain ⟨nm, hnm, rfl⟩ := getStr hv
        have kept : Keep [] H H5 := fun b o _ hb => k5 b o (by simp; rintro rfl; rw [nlt] at hb; cases hb) (k24 b o (by simp) hb)
        have hbl := r5.len
        have hb60 : bs.length ≤ 60 := by
          have := List.length_filter_le (fun p : Fm.Tm => decide (p.2 ≠ 0)) ((ys.take i).map fun x => (x, Fm.wt ts x))
          unfold Fm.rowOf at hbl
          rw [List.length_map, List.length_take] at this
          omega
        walk_at "sts"
        refine lcL_go (fun D j acc H' => acc = (((ts.take j).filter fun p => decide (p.1 = nm)).map (·.2)).map V.int ∧ Keep [] H5 H' ∧ H5 D = none) (sqL_of (kept _ _ (by simp) ep)) (fun D hD => ⟨by simp, Keep.new hD, hD⟩) (fun D j acc H' _ h => by obtain ⟨_, k, _⟩ := h; exact sqL_of (k _ _ (by simp) (kept _ _ (by simp) ep))) ?_ ?_
        · rintro D j v2 acc H6 hv2 hD ⟨rfl, k6, nD⟩
          obtain ⟨a, ha, rfl⟩ := getRef hv2
          obtain ⟨z, hz, ez⟩ := pp.get ha
          have ez6 := k6 _ _ (by simp) (kept _ _ (by simp) ez)
          have snoc : (((ts.take (j + 1)).filter fun p => decide (p.1 = nm)).map (·.2)).map V.int = if z.1 = nm then (((ts.take j).filter fun p => decide (p.1 = nm)).map (·.2)).map V.int ++ [V.int z.2] else (((ts.take j).filter fun p => decide (p.1 = nm)).map (·.2)).map V.int := by
            rw [take_snoc hz, List.filter_append]
            by_cases h : z.1 = nm <;> simp [h]
          have hfl := List.length_filter_le (fun p : Fm.Tm => decide (p.1 = nm)) (ts.take j)
          rw [List.length_take] at hfl
          walk_at "sts"
          refine r_ite (fun c2 => ?_) (fun c2 => ?_)
          · walk_at "sts"
            exact lc_put hD (by rw [List.length_map, List.length_map]; exact lt_size (by omega)) ⟨by rw [snoc, if_pos c2], k6.mut nD, nD⟩
          · walk_at "sts"
            exact ⟨_, hD, by rw [snoc, if_neg c2], k6, nD⟩
        · rintro D acc H6 nD hD ⟨rfl, k6, _⟩
          rw [List.take_of_length_le (by rw [List.length_map, hlen]; exact Nat.le_refl _)] at hD
          walk_at "sts"
          refine r_sum (sqL_of hD) ?_
          rw [show ((ts.filter fun p => decide (p.1 = nm)).map (·.2)).sum = Fm.wt ts nm from rfl]
          have e6 := k6 _ _ (by simp) e5
          have r6 := r5.keep0 k6
          have k56 : Keep [lt] H4 H6 := k5.trans (k6.mono (by simp))
          walk_at "sts"
          refine r_iteN (fun c2 => ?_) (fun c2 => ?_)
          · walk_at "sts"
            intro t ht
            have k7 : Keep [] H6 (upd H6 t (.tup [.str nm, .int (Fm.wt ts nm)])) := Keep.new ht
            have e7 : upd H6 t (.tup [.str nm, .int (Fm.wt ts nm)]) t = some (.tup [.str nm, .int (Fm.wt ts nm)]) := upd_same
            have el7 := k7 _ _ (by simp) e6
            walk_at "sts"
            refine ⟨bs ++ [t], _, _, _, by first | exact rfl | trivial, by rw [upd_same, List.map_append]; rfl, ?_, ?_⟩
            · rw [take_snoc hnm, Fm.rowOf_snoc, if_pos c2]
              exact ((r6.keep0 k7).app (bs := [t]) (us := [(nm, Fm.wt ts nm)]) ⟨e7, trivial⟩).keep (Keep.at (M := [lt]) (by simp)) (fun m hm => by rw [List.mem_singleton.mp hm]; exact ⟨_, el7⟩)
            · exact k56.trans ((k7.mono (by simp)).trans (Keep.at (by simp)))
          · walk_at "sts"
            exact ⟨bs, _, _, _, by first | exact rfl | trivial, e6, by rw [take_snoc hnm, Fm.rowOf_snoc, if_neg (fun z => z c2)]; exact r6, k56⟩
      · rintro σ' H5 ⟨bs, x1, x2, x3, rfl, e5, r5, k5⟩
        rw [List.length_map, List.take_length, Fm.rowOf_can asc nd' fun t ht => (mem _).mpr (List.mem_map_of_mem ht)] at r5
        have kept : Keep [] H H5 := fun b o _ hb => k5 b o (by simp; rintro rfl; rw [nlt] at hb; cases hb) (k24 b o (by simp) hb)
        walk_at "sts"
        refine r_tupL (sqL_of e5) fun u hu => ?_
        have k6 : Keep [] H5 (upd H5 u (.tup (bs.map V.ref))) := Keep.new hu
        have e6 : upd H5 u (.tup (bs.map V.ref)) u = some (.tup (bs.map V.ref)) := upd_same
        have r6 := r5.keep0 k6
        generalize upd H5 u (.tup (bs.map V.ref)) = H6 at k6 e6 r6 ⊢
        walk_at "sts"
        intro z hz
        have k7 : Keep [] H6 (upd H6 z (.tup [.ref u, .int c])) := Keep.new hz
        exact q z _ (kept.trans (k6.trans k7)) ((kept.trans k6).free (by simp) hz) ⟨u, upd_same, bs, k7 _ _ (by simp) e6, r6.keep0 k7⟩
theorem ok_dueAdd (T : Tx K mg) (G_w_tidy : FnOk P w K mg base CX0 1 T.f_w_tidy T.fd_w_tidy ["_law_pairs_here", "_law_constant"] spTidy) : FnOk P w K mg base CX0 2 T.f_w_added T.fd_w_added ["_law_one", "_law_two", "_law_factor"] spDueAdd := by
  refine T.F_w_added.ok sc_w_added (fun vs H Q E h => ?_) (fun cdv A outer s H vs Q E hr h => ?_)
  · obtain ⟨p, q, ts, us, c, d, k, rfl, _⟩ := h; rfl
  · obtain ⟨p, q, ts, us, c, d, k, rfl, ⟨t, ep, as, et, pt⟩, ⟨u, eq, bs, eu, pu⟩, hl, hw, hd, hk, qq⟩ := h
    have hlt := pt.len
    have hlu := pu.len
    refine ⟨_, (pss_cons (ps_set (i := 3) sc_w_added.nd rfl (Or.inl rfl) (pe_op op_cat (pe_callTy call_list_of (by rfl) T.m_list (by decide +kernel) (pa_cons (pe_ix ix_tup (pv 0) pe_int (fun _ _ => rfl)) pa_nil)) (pe_lc (own := [("_law_pair", 4)]) (g := gName 4) (tt := tYes) rfl sc_w_added.nd (pi_tup (pe_ix ix_tup (pv 1) pe_int (fun _ _ => rfl))) (blkOk_by (own := [("_law_pair", 4)]) (N := ["_law_one", "_law_two", "_law_factor", "_law_pairs_here", "_law_pair"]) (sc := defScope s_w_added) (by decide +kernel)) (fun _ _ _ _ _ => pg_name (i := 4) sc_w_added.nd rfl (Or.inl rfl)) (fun _ _ _ _ _ => pts_nil) (fun _ _ _ _ _ => (pe_tup (pa_cons (pe_ix (ix_tupK (K := K) rfl) (pv 4) pe_int (fun _ _ => rfl)) (pa_cons (pe_op op_mulG (pv 2) (pe_ix (ix_tupK (K := K) rfl) (pv 4) pe_int (fun _ _ => rfl))) pa_nil)))))))
    (pss_one (ps_ret (pe_call G_w_tidy (hr.mono (by decide)) rfl T.g_w_tidy T.F_w_tidy.kp T.b_w_tidy .nil pass0 (pa_cons (pv 3) (pa_cons (pe_op op_add (pe_ix ix_tup (pv 0) pe_int (fun _ _ => rfl)) (pe_op op_mulG (pv 2) (pe_ix ix_tup (pv 1) pe_int (fun _ _ => rfl)))) pa_nil)))))), ?_⟩
    walk_at "start"
    walk_at "sts"
    intro l hl1
    have k1 : Keep [] H (upd H l (.lst (as.map V.ref))) := Keep.new hl1
    have e1 : upd H l (.lst (as.map V.ref)) l = some (.lst (as.map V.ref)) := upd_same
    generalize upd H l (.lst (as.map V.ref)) = H1 at k1 e1 ⊢
    have eq1 := k1 _ _ (by simp) eq
    walk_at "sts"
    refine lcT_go (fun D i acc H' => ∃ cs : List Addr, acc = cs.map V.ref ∧ PairsAt H' cs (Fm.scl k (us.take i)) ∧ Keep [] H1 H' ∧ H1 D = none) (sqT_of (k1 _ _ (by simp) eu)) (fun D hD => ⟨[], rfl, trivial, Keep.new hD, hD⟩) (fun D i acc H' _ h => by obtain ⟨_, _, _, k, _⟩ := h; exact sqT_of (k _ _ (by simp) (k1 _ _ (by simp) eu))) ?_ ?_
    · rintro D i v acc H2 hv hD ⟨cs, rfl, hb, k2, nD⟩
      obtain ⟨a, ha, rfl⟩ := getRef hv
      obtain ⟨z, hz, ez⟩ := pu.get ha
      have ez2 := k2 _ _ (by simp) (k1 _ _ (by simp) ez)
      have mz := List.mem_of_getElem? hz
      have hbl := hb.len
      rw [Fm.scl, List.length_map, List.length_take] at hbl
      walk_at "sts"
      refine r_I (mulw 1500 1500 hk (hw z mz)) ?_
      walk_at "sts"
      intro y hy
      have k3 : Keep [] H2 (upd H2 y (.tup [.str z.1, .int (k * z.2)])) := Keep.new hy
      have e3 : upd H2 y (.tup [.str z.1, .int (k * z.2)]) y = some (.tup [.str z.1, .int (k * z.2)]) := upd_same
      generalize upd H2 y (.tup [.str z.1, .int (k * z.2)]) = H3 at k3 e3 ⊢
      have hD3 := k3 _ _ (by simp) hD
      refine lc_put (acc := cs.map V.ref) hD3 (by rw [List.length_map]; exact lt_size (by omega)) ⟨cs ++ [y], by rw [List.map_append]; rfl, ?_, (k2.trans k3).mut nD, nD⟩
      rw [take_snoc hz, show Fm.scl k (us.take i ++ [z]) = Fm.scl k (us.take i) ++ [(z.1, k * z.2)] by simp [Fm.scl]]
      exact ((hb.keep0 k3).app (bs := [y]) (us := [(z.1, k * z.2)]) ⟨e3, trivial⟩).keep (Keep.at (M := [D]) (by simp)) (fun m hm => by rw [List.mem_singleton.mp hm]; exact ⟨_, hD3⟩)
    · rintro D acc H2 nD hD ⟨cs, rfl, hb, k2, _⟩
      rw [List.take_of_length_le (by rw [List.length_map, hlu]; exact Nat.le_refl _)] at hb
      have hcl := hb.len
      rw [scl_len] at hcl
      have e2 := k2 _ _ (by simp) e1
      have k12 := k1.trans k2
      refine r_cat e2 hD (le_size (by rw [List.length_map, List.length_map]; omega)) fun l2 hl2 => ?_
      have k3 : Keep [] H2 (upd H2 l2 (.lst (as.map V.ref ++ cs.map V.ref))) := Keep.new hl2
      have e3 : upd H2 l2 (.lst (as.map V.ref ++ cs.map V.ref)) l2 = some (.lst ((as ++ cs).map V.ref)) := by rw [upd_same, List.map_append]
      generalize upd H2 l2 (.lst (as.map V.ref ++ cs.map V.ref)) = H3 at k3 e3 ⊢
      have k13 := k12.trans k3
      have ep3 := k13 _ _ (by simp) ep
      have eq3 := k13 _ _ (by simp) eq
      walk_at "sts"
      refine r_I (mulw 1500 1500 hk hd) ?_
      walk_at "sts"
      refine ⟨l2, ts ++ Fm.scl k us, c + k * d, rfl, ⟨as ++ cs, e3, (pt.keep0 k13).app (hb.keep0 k3)⟩, by rw [List.length_append, scl_len]; exact hl, fun r H4 k4 nr dr => ?_⟩
      exact qq r H4 (k13.trans k4) (k13.free (by simp) nr) dr
end
/-! ### the law's checks -/
def spFormIs (C : Addr) : Sp := fun vs H Q _ => ∃ (x p : Addr) (ts : List Fm.Tm) (c : Int), vs = [.ref x, .ref p] ∧ FormAt C H x ts c ∧ DueAt H p ts c ∧ ts.length ≤ 60 ∧ Q (.bl true) H
def spWrit : Sp := fun vs H Q _ => ∃ (p : Addr) (ts : List Fm.Tm) (c : Int), vs = [.ref p] ∧ DueAt H p ts c ∧ ts.length ≤ 60 ∧ (∀ t ∈ ts, IsQ t.1 ∧ t.2.natAbs < 2 ^ 1500) ∧ c.natAbs < 2 ^ 1500 ∧ ∀ H', Keep [] H H' → Q (.str (Wr.due ts c)) H'
def spRight (C : Addr) : Sp := fun vs H Q _ => ∃ (x p : Addr) (ts : List Fm.Tm) (c : Int), vs = [.ref x, .ref p] ∧ FormAt C H x ts c ∧ DueAt H p ts c ∧ ts.length ≤ 60 ∧ (∀ t ∈ ts, IsQ t.1 ∧ t.2.natAbs < 2 ^ 1500) ∧ c.natAbs < 2 ^ 1500 ∧ ∀ H', Keep [] H H' → Q (.bl true) H'
def spLPut : Sp := fun vs H Q _ => ∃ (p q : Addr) (ts us : List Fm.Tm) (c d : Int) (nm : Str), vs = [.ref p, .str nm, .ref q] ∧ DueAt H p ts c ∧ DueAt H q us d ∧ Fm.Canon ts ∧ ts.length + us.length ≤ 60 ∧ (∀ t ∈ ts, t.2.natAbs < 2 ^ 1500) ∧ (∀ t ∈ us, t.2.natAbs < 2 ^ 1500) ∧ d.natAbs < 2 ^ 1500 ∧
  ∀ r H', Keep [] H H' → H r = none → DueAt H' r (Fm.can (Fm.dropN nm ts ++ Fm.scl (Fm.wt ts nm) us)) (c + Fm.wt ts nm * d) → Q (.ref r) H'
theorem le_of_eq_size {n : Nat} (h : n ≤ 1000000) : n ≤ sizeLine := Nat.le_trans h (by decide)
theorem atRef {as : List Addr} {i : Nat} {a : Addr} (h : as[i]? = some a) : atI (as.map V.ref) (i : Int) = some (V.ref a) := atI_nat (by rw [List.getElem?_map, h]; rfl)
theorem line_len {ts : List Fm.Tm} : ∀ {i : Nat} {s : Str} {B : Nat}, (∀ t ∈ ts, (Wr.part t.2 t.1).length ≤ 1700) → s.length ≤ B → (ts.foldl Wr.step s).length ≤ B + ts.length * 1710 := by
  intro i s B h hs
  induction ts generalizing s B with
  | nil => simpa using hs
  | cons t ts ih =>
    have e : (Wr.step s t).length ≤ B + 1710 := by
      unfold Wr.step
      have := h t (by simp)
      have h1 : Wr.sp.length = 1 := rfl
      have h2 : (Wr.sg t.2).length = 1 := by unfold Wr.sg; split <;> rfl
      have h3 : (Str.ofString "-").length = 1 := rfl
      rw [Wr.len_app]
      split
      · rw [Wr.len_app, Wr.len_app, Wr.len_app]; omega
      · split <;> omega
    have := ih (s := Wr.step s t) (B := B + 1710) (fun z hz => h z (by simp [hz])) e
    rw [List.foldl_cons, List.length_cons]; omega
section
variable {P : Program} {w : World} {K : PySem.W.Frag} {mg : Str → Option Value} {base : Heap}
theorem ok_valL (T : Tx K mg) (G_w_lowest : FnOk P w K mg base CX0 1 T.f_w_lowest T.fd_w_lowest ["_law_top", "_law_bottom"] spLow0) : FnOk P w K mg base CX0 2 T.f_w_value T.fd_w_value ["_law_due", "_law_world_here"] spValL := by
  refine T.F_w_value.ok sc_w_value (fun vs H Q E h => ?_) (fun cdv A outer s H vs Q E hr h => ?_)
  · obtain ⟨p, d, ts, c, kvs, W, rfl, _⟩ := h; rfl
  · obtain ⟨p, d, ts, c, kvs, W, rfl, ⟨t, ep, as, et, pt⟩, hd, hlev, hl, hb, hc, q⟩ := h
    have hlt := pt.len
    refine ⟨_, (pss_cons (ps_set (i := 2) sc_w_value.nd rfl (Or.inl rfl) (pe_ix ix_tup (pv 0) pe_int (fun _ _ => rfl)))
    (pss_cons (ps_set (i := 3) sc_w_value.nd rfl (Or.inl rfl) pe_int)
    (pss_cons (ps_for PassesOwn.never rfl (pi_tup (pe_ix ix_tup (pv 0) pe_int (fun _ _ => rfl))) (pg_name (i := 4) sc_w_value.nd rfl (Or.inl rfl))
    (pss_cons (ps_set (i := 5) sc_w_value.nd rfl (Or.inl rfl) (pe_dget (hu_of hr) (pv 1) (pe_ix ix_tup (pv 4) pe_int (fun _ _ => rfl)) (fun _ _ => rfl)))
    (pss_cons (ps_set (i := 2) sc_w_value.nd rfl (Or.inl rfl) (pe_op op_add (pe_op op_mulG (pv 2) (pe_ix ix_tup (pv 5) pe_int (fun _ _ => rfl))) (pe_op op_mulG (pe_op op_mulG (pe_ix ix_tup (pv 4) pe_int (fun _ _ => rfl)) (pe_ix ix_tup (pv 5) pe_int (fun _ _ => rfl))) (pv 3))))
    (pss_one (ps_set (i := 3) sc_w_value.nd rfl (Or.inl rfl) (pe_op op_mulG (pv 3) (pe_ix ix_tup (pv 5) pe_int (fun _ _ => rfl))))))))
    (pss_one (ps_ret (pe_call G_w_lowest (hr.mono (by decide)) rfl T.g_w_lowest T.F_w_lowest.kp T.b_w_lowest .nil pass0 (pa_cons (pv 2) (pa_cons (pv 3) pa_nil)))))))), ?_⟩
    walk_at "start"
    walk_at "sts"
    refine forT_go (fun i σ' H' => ∃ (x1 x2 : Option V), σ' = [some (.ref p), some (.ref d), some (.int (Fm.accV W (ts.take i) (c, 1)).1), some (.int (Fm.accV W (ts.take i) (c, 1)).2), x1, x2] ∧ H' = H) (sqT_of et) ⟨_, _, rfl, rfl⟩ (fun i σ' H' _ h => by obtain ⟨_, _, _, rfl⟩ := h; exact sqT_of et) ?_ ?_
    · rintro i v σ' H3 hv ⟨x1, x2, rfl, rfl⟩
      obtain ⟨a, ha, rfl⟩ := getRef hv
      obtain ⟨z, hz, ez⟩ := pt.get ha
      have mz := List.mem_of_getElem? hz
      obtain ⟨⟨lv, lv1, lv2⟩, wpos⟩ := hlev z mz
      obtain ⟨b1, b2, b3⟩ := hb z mz
      have hi := (List.getElem?_eq_some_iff.mp hz).1
      have il : (ts.take i).length = i := by rw [List.length_take]; omega
      have sub : ∀ p ∈ ts.take i, p ∈ ts := fun p hp => List.mem_of_mem_take hp
      obtain ⟨ab1, ab2⟩ := Fm.acc_bound (W := W) (ts := ts.take i) (c := c) (fun p hp => hb p (sub p hp)) hc
      rw [il] at ab1 ab2
      have nxt : Fm.accV W (ts.take (i + 1)) (c, 1) = ((Fm.accV W (ts.take i) (c, 1)).1 * (W z.1).2 + z.2 * (W z.1).1 * (Fm.accV W (ts.take i) (c, 1)).2, (Fm.accV W (ts.take i) (c, 1)).2 * (W z.1).2) := by
        rw [take_snoc hz, Fm.accV_append]; rfl
      rw [nxt]
      generalize Fm.accV W (ts.take i) (c, 1) = S at *
      walk_at "sts"
      refine r_dgetS hd lv1 ?_
      walk_at "sts"
      refine r_I (.inr (cmulw 9000 401 (Fm.pow_le ab1 (by omega)) b3)) ?_
      walk_at "sts"
      refine r_I (.inr (cmulw 400 1000 b1 b2)) ?_
      walk_at "sts"
      refine r_I (.inr (cmulw 1400 3000 (Fm.natAbs_mul_lt b1 b2) (Fm.pow_le ab2 (by omega)))) ?_
      walk_at "sts"
      refine r_I (.inr (cmulw 3000 401 (Fm.pow_le ab2 (by omega)) b3)) ?_
      walk_at "sts"
      exact ⟨_, _, rfl, rfl⟩
    · rintro σ' H3 ⟨x1, x2, rfl, rfl⟩
      rw [List.length_map, hlt, List.take_length]
      have apos := Fm.acc_pos (W := W) (ts := ts) (s := (c, 1)) (fun p hp => (hlev p hp).2) Int.one_pos
      obtain ⟨ab1, ab2⟩ := Fm.acc_bound (W := W) (ts := ts) (c := c) hb hc
      walk_at "sts"
      exact r_low0 apos (Fm.pow_le ab2 (by omega)) fun r H' k nr er => q r H' k nr er
theorem ok_formIs (T : Tx K mg) (G_w_whole : FnOk P w K mg base CX0 1 T.f_w_whole T.fd_w_whole ["_law_found"] spWhole) : FnOk P w K mg base CX0 2 T.f_w_form_is T.fd_w_form_is ["_law_found", "_law_due"] (spFormIs T.C_Form) := by
  refine T.F_w_form_is.ok sc_w_form_is (fun vs H Q E h => ?_) (fun cdv A outer s H vs Q E hr h => ?_)
  · obtain ⟨x, p, ts, c, rfl, _⟩ := h; rfl
  · obtain ⟨x, p, ts, c, rfl, ⟨dx, t, ex, as, et, pt⟩, ⟨u, ep, bs, eu, pu⟩, hl, q⟩ := h
    have oc := T.oc_Form
    have na := T.na_Form_terms
    have nc := T.na_Form_constant
    have hlt := pt.len
    have hlu := pu.len
    refine ⟨_, (pss_cons (ps_if (PW.pt (pw_or (pt_not (pt_val (pe_callB call_isi (by rfl) T.m_isinstance (by decide +kernel) (pa_cons (pv 0) (pa_cons (pe_glob (v := .ref T.C_Form) rfl T.gC_Form rfl) pa_nil))))) (pw_or (pt_not (pt_val (pe_callB call_isi (by rfl) T.m_isinstance (by decide +kernel) (pa_cons (pe_fld (pv 0) rfl) (pa_cons (pe_bltn (v := .ty "tuple") (by rfl) T.m_tuple (by decide +kernel) rfl) pa_nil))))) (pw_or1 (pt_cmpR op_ne (pe_callB call_len_seq (by rfl) T.m_len PySem.boot_len (pa_cons (pe_fld (pv 0) rfl) pa_nil)) (pe_callB call_len_seq (by rfl) T.m_len PySem.boot_len (pa_cons (pe_ix ix_tup (pv 1) pe_int (fun _ _ => rfl)) pa_nil)) (nomark _))))))
    (pss_one (ps_ret pe_bl))
    pss_nil)
    (pss_cons (ps_for PassesOwn.never rfl (pi_range1 rfl T.m_range (pa_cons (pe_callB call_len_seq (by rfl) T.m_len PySem.boot_len (pa_cons (pe_ix ix_tup (pv 1) pe_int (fun _ _ => rfl)) pa_nil)) pa_nil)) (pg_name (i := 2) sc_w_form_is.nd rfl (Or.inl rfl))
    (pss_cons (ps_set (i := 3) sc_w_form_is.nd rfl (Or.inl rfl) (pe_ix ix_tup (pe_fld (pv 0) rfl) (pv 2) (fun _ _ => rfl)))
    (pss_cons (ps_if (PW.pt (pw_or (pt_not (pt_val (pe_callB call_isi (by rfl) T.m_isinstance (by decide +kernel) (pa_cons (pv 3) (pa_cons (pe_bltn (v := .ty "tuple") (by rfl) T.m_tuple (by decide +kernel) rfl) pa_nil))))) (pw_or1 (pt_cmpR op_ne (pe_callB call_len_seq (by rfl) T.m_len PySem.boot_len (pa_cons (pv 3) pa_nil)) pe_int (nomark _)))))
    (pss_one (ps_ret pe_bl))
    pss_nil)
    (pss_cons (ps_if (PW.pt (pw_or (pt_not (pt_val (pe_callB call_isi (by rfl) T.m_isinstance (by decide +kernel) (pa_cons (pe_ix ix_tup (pv 3) pe_int (fun _ _ => rfl)) (pa_cons (pe_bltn (v := .ty "str") (by rfl) T.m_str (by decide +kernel) rfl) pa_nil))))) (pw_or1 (pt_not (pt_val (pe_call G_w_whole (hr.mono (by decide)) rfl T.g_w_whole T.F_w_whole.kp T.b_w_whole .nil pass0 (pa_cons (pe_ix ix_tup (pv 3) pe_int (fun _ _ => rfl)) pa_nil)))))))
    (pss_one (ps_ret pe_bl))
    pss_nil)
    (pss_one (ps_if (PW.pt (pw_or (pt_cmpR op_ne (pe_ix ix_tup (pv 3) pe_int (fun _ _ => rfl)) (pe_ix ix_tup (pe_ix ix_tup (pe_ix ix_tup (pv 1) pe_int (fun _ _ => rfl)) (pv 2) (fun _ _ => rfl)) pe_int (fun _ _ => rfl)) (nomark _)) (pw_or1 (pt_cmpR op_ne (pe_ix ix_tup (pv 3) pe_int (fun _ _ => rfl)) (pe_ix ix_tup (pe_ix ix_tup (pe_ix ix_tup (pv 1) pe_int (fun _ _ => rfl)) (pv 2) (fun _ _ => rfl)) pe_int (fun _ _ => rfl)) (nomark _)))))
    (pss_one (ps_ret pe_bl))
    pss_nil))))))
    (pss_one (ps_ret (pe_and (pe_call G_w_whole (hr.mono (by decide)) rfl T.g_w_whole T.F_w_whole.kp T.b_w_whole .nil pass0 (pa_cons (pe_fld (pv 0) rfl) pa_nil)) (pe_one (pe_cmpR op_eq (pe_fld (pv 0) rfl) (pe_ix ix_tup (pv 1) pe_int (fun _ _ => rfl)) (nomark _)))))))), ?_⟩
    walk_at "start"
    walk_at "sts"
    refine Ow.r_isiOwn oc ex ?_
    walk_at "sts"
    simp only [List.length_map, hlt, hlu]
    walk_at "sts"
    refine forR1_go (fun i σ' H' => ∃ (x1 x2 : Option V), σ' = [some (.ref x), some (.ref p), x1, x2] ∧ H' = H) (by omega) ⟨_, _, rfl, rfl⟩ ?_ ?_
    · rintro i σ' H' hi ⟨x1, x2, rfl, rfl⟩
      obtain ⟨z, hz⟩ : ∃ z, ts[i]? = some z := ⟨_, List.getElem?_eq_getElem (by omega)⟩
      obtain ⟨a, ha⟩ : ∃ a, as[i]? = some a := ⟨_, List.getElem?_eq_getElem (by omega)⟩
      obtain ⟨b, hb⟩ : ∃ b, bs[i]? = some b := ⟨_, List.getElem?_eq_getElem (by omega)⟩
      obtain ⟨z1, hz1, ea⟩ := pt.get ha
      obtain ⟨z2, hz2, eb⟩ := pu.get hb
      obtain rfl : z1 = z := Option.some.inj (hz1.symm.trans hz)
      obtain rfl : z2 = z1 := Option.some.inj (hz2.symm.trans hz)
      walk_at "sts"
      refine r_ixT (sqT_of et) (atRef ha) ?_
      walk_at "sts"
      refine r_whole ?_
      walk_at "sts"
      refine r_ixT (sqT_of eu) (atRef hb) ?_
      walk_at "sts"
      try rw [decide_eq_true rfl]
      walk_at "sts"
      refine r_ixT (sqT_of eu) (atRef hb) ?_
      walk_at "sts"
      try rw [decide_eq_true rfl]
      walk_at "sts"
      exact ⟨_, _, rfl, rfl⟩
    · rintro σ' H' ⟨x1, x2, rfl, rfl⟩
      walk_at "sts"
      refine r_whole ?_
      walk_at "sts"
      try rw [decide_eq_true rfl]
      exact q
end
/-! ### the contents of a form -/
theorem wt_sum {ts : List Fm.Tm} {nm : Str} : ((ts.filter fun p => decide (p.1 = nm)).map (·.2)).sum = Fm.wt ts nm := rfl
theorem r_isiTup {K : PySem.W.Frag} {H : Hp} {p : Addr} {xs : List V} {Q : VK} (h : H p = some (.tup xs)) (k : Q (.bl true) H) : rIsi K [.ref p, .ty "tuple"] H Q := r_isi (.base (.tup h)) kit_tt k
theorem names_flat {xs : List Str} (h : ∀ x ∈ xs, IsQ x) : (xs.map V.str).all flatV = true := by
  rw [List.all_eq_true]
  intro v hv
  obtain ⟨x, hx, rfl⟩ := List.mem_map.mp hv
  exact (h x hx).ok
def spContents (C : Addr) : Sp := fun vs H Q _ => ∃ (x p q : Addr) (ts : List Fm.Tm) (c : Int) (xs : List Str), vs = [.ref x, .ref p, .ref q] ∧ FormAt C H x ts c ∧ DueAt H p ts c ∧ Fm.Canon ts ∧ ts.length ≤ 60 ∧ (∀ t ∈ ts, IsQ t.1) ∧ NamesAt H q xs ∧ ∀ H', Keep [] H H' → Q (.bl true) H'
section
variable {P : Program} {w : World} {K : PySem.W.Frag} {mg : Str → Option Value} {base : Heap}
theorem ok_contents (T : Tx K mg) (G_w_form_is : FnOk P w K mg base CX0 2 T.f_w_form_is T.fd_w_form_is ["_law_found", "_law_due"] (spFormIs T.C_Form)) (G_Form___len : FnOk P w K mg base CX0 1 T.f_Form___len T.fd_Form___len ["self"] (spLen T.C_Form))
    (G_Form_names : FnOk P w K mg base CX0 1 T.f_Form_names T.fd_Form_names ["self"] (spNames T.C_Form)) (G_Form___contains : FnOk P w K mg base CX0 2 T.f_Form___contains T.fd_Form___contains ["self", "name"] (spHas T.C_Form))
    (G_Form___getitem : FnOk P w K mg base CX0 2 T.f_Form___getitem T.fd_Form___getitem ["self", "name"] (spGet T.C_Form)) (G_w_whole : FnOk P w K mg base CX0 1 T.f_w_whole T.fd_w_whole ["_law_found"] spWhole) :
    FnOk P w K mg base CX0 4 T.f_w_contents_right T.fd_w_contents_right ["_law_found", "_law_due", "_law_pool_here"] (spContents T.C_Form) := by
  refine T.F_w_contents_right.ok sc_w_contents_right (fun vs H Q E h => ?_) (fun cdv A outer s H vs Q E hr h => ?_)
  · obtain ⟨x, p, q, ts, c, xs, rfl, _⟩ := h; rfl
  · obtain ⟨x, p, q, ts, c, xs, rfl, hx, hp, cn, hl, hq, hn, qq⟩ := h
    have oc := T.oc_Form
    obtain ⟨dx, t0, ex, _⟩ := id hx
    obtain ⟨t, ep, as, et, pt⟩ := id hp
    have hlt := pt.len
    refine ⟨_, (pss_cons (ps_if (PW.pt (pw_or (pt_not (pt_val (pe_call G_w_form_is (hr.mono (by decide)) rfl T.g_w_form_is T.F_w_form_is.kp T.b_w_form_is .nil pass0 (pa_cons (pv 0) (pa_cons (pv 1) pa_nil))))) (pw_or1 (pt_cmpR op_ne (pe_callB (Ow.call_lenOwn T.me_Form___len (G_Form___len.raw T.b_Form___len .nil) (hr.mono (by decide)) pass0) (by rfl) T.m_len PySem.boot_len (pa_cons (pv 0) pa_nil)) (pe_callB call_len_seq (by rfl) T.m_len PySem.boot_len (pa_cons (pe_ix ix_tup (pv 1) pe_int (fun _ _ => rfl)) pa_nil)) (nomark _)))))
    (pss_one (ps_ret pe_bl))
    pss_nil)
    (pss_cons (ps_set (i := 3) sc_w_contents_right.nd rfl (Or.inl rfl) (pe_meth0 (pv 0) T.oc_Form.cl T.me_Form_names G_Form_names (hr.mono (by decide)) T.b_Form_names .nil pass0))
    (pss_cons (ps_if (PW.pt (pw_or (pt_not (pt_val (pe_callB call_isi (by rfl) T.m_isinstance (by decide +kernel) (pa_cons (pv 3) (pa_cons (pe_bltn (v := .ty "tuple") (by rfl) T.m_tuple (by decide +kernel) rfl) pa_nil))))) (pw_or1 (pt_cmpR (op_neD hr.units) (pv 3) (pe_callTy call_tuple_of (by rfl) T.m_tuple (by decide +kernel) (pa_cons (pe_lc (own := [("_law_pair", 4)]) (g := gName 4) (tt := tYes) rfl sc_w_contents_right.nd (pi_tup (pe_ix ix_tup (pv 1) pe_int (fun _ _ => rfl))) (blkOk_by (own := [("_law_pair", 4)]) (N := ["_law_found", "_law_due", "_law_pool_here", "_law_told", "_law_pair", "_law_text", "_law_weight_here", "_law_got"]) (sc := defScope s_w_contents_right) (by decide +kernel)) (fun _ _ _ _ _ => pg_name (i := 4) sc_w_contents_right.nd rfl (Or.inl rfl)) (fun _ _ _ _ _ => pts_nil) (fun _ _ _ _ _ => (pe_ix (ix_tupK (K := K) rfl) (pv 4) pe_int (fun _ _ => rfl)))) pa_nil)) (nomark _)))))
    (pss_one (ps_ret pe_bl))
    pss_nil)
    (pss_cons (ps_for PassesOwn.never rfl (pi_list (pv 2)) (pg_name (i := 5) sc_w_contents_right.nd rfl (Or.inr rfl))
    (pss_cons (ps_set (i := 6) sc_w_contents_right.nd rfl (Or.inl rfl) (pe_callB (cr_sum rfl) (by rfl) T.m_sum (by decide +kernel) (pa_cons (pe_lc (own := [("_law_pair", 4)]) (g := gName 4)  rfl sc_w_contents_right.nd (pi_tup (pe_ix ix_tup (pv 1) pe_int (fun _ _ => rfl))) (blkOk_by (own := [("_law_pair", 4)]) (N := ["_law_found", "_law_due", "_law_pool_here", "_law_told", "_law_pair", "_law_text", "_law_weight_here", "_law_got"]) (sc := defScope s_w_contents_right) (by decide +kernel)) (fun _ _ _ _ _ => pg_name (i := 4) sc_w_contents_right.nd rfl (Or.inl rfl)) (fun _ _ _ _ _ => pts_one (pt_cmpR op_eq (pe_ix (ix_tupK (K := K) rfl) (pv 4) pe_int (fun _ _ => rfl)) (pv 5) (nomark _))) (fun _ _ _ _ _ => (pe_ix (ix_tupK (K := K) rfl) (pv 4) pe_int (fun _ _ => rfl)))) pa_nil)))
    (pss_cons (ps_if (pt_cmpR op_ne (pe_cmpR (Ow.op_ownIn T.me_Form___contains (G_Form___contains.raw T.b_Form___contains .nil) (hr.mono (by decide)) pass0) (pv 5) (pv 0) (by rfl)) (pe_cmpR op_ne (pv 6) pe_int (nomark _)) (nomark _))
    (pss_one (ps_ret pe_bl))
    pss_nil)
    (pss_cons (ps_set (i := 7) sc_w_contents_right.nd rfl (Or.inl rfl) (Ow.pe_ownIx (pv 0) (pv 5) T.me_Form___getitem T.fi_Form___getitem (G_Form___getitem.raw T.b_Form___getitem .nil) (hr.mono (by decide)) pass0 (fun _ _ => rfl)))
    (pss_one (ps_if (PW.pt (pw_or (pt_not (pt_val (pe_call G_w_whole (hr.mono (by decide)) rfl T.g_w_whole T.F_w_whole.kp T.b_w_whole .nil pass0 (pa_cons (pv 7) pa_nil)))) (pw_or1 (pt_cmpR op_ne (pv 7) (pv 6) (nomark _)))))
    (pss_one (ps_ret pe_bl))
    pss_nil))))))
    (pss_one (ps_ret pe_bl)))))), ?_⟩
    walk_at "start"
    walk_at "sts"
    refine ⟨x, p, ts, c, rfl, hx, hp, hl, ?_⟩
    walk_at "sts"
    refine Ow.r_ownLen ex ⟨x, ts, c, rfl, hx, ts.length, rfl, by omega, by omega, ?_⟩
    walk_at "sts"
    refine ⟨x, ts, c, rfl, hx, hl, fun p1 H1 k1 ep1 => ?_⟩
    walk_at "sts"
    have et1 := k1 _ _ (by simp) et
    have pt1 := pt.keep0 k1
    refine lcT_go (fun D j acc H' => acc = ((ts.take j).map (·.1)).map V.str ∧ Keep [] H1 H' ∧ H1 D = none) (sqT_of et1) (fun D hD => ⟨by simp, Keep.new hD, hD⟩) (fun D j acc H' _ h => by obtain ⟨_, k, _⟩ := h; exact sqT_of (k _ _ (by simp) et1)) ?_ ?_
    · rintro D j v2 acc H2 hv2 hD ⟨rfl, k2, nD⟩
      obtain ⟨a, ha, rfl⟩ := getRef hv2
      obtain ⟨z, hz, ez⟩ := pt1.get ha
      have ez1 := k2 _ _ (by simp) ez
      walk_at "sts"
      exact lc_put hD (by rw [List.length_map, List.length_map, List.length_take]; exact lt_size (by omega)) ⟨by rw [take_snoc hz, List.map_append, List.map_append]; rfl, k2.mut nD, nD⟩
    rintro D acc H2 nD hD ⟨rfl, k2, _⟩
    rw [List.take_of_length_le (by rw [List.length_map, hlt]; exact Nat.le_refl _)] at hD
    have ep2 := k2 _ _ (by simp) ep1
    refine ⟨D, _, rfl, .inl ⟨sqL_of hD, fun l hl2 => ?_⟩⟩
    have k3 : Keep [] H2 (upd H2 l (.tup ((ts.map (·.1)).map V.str))) := Keep.new hl2
    have el : upd H2 l (.tup ((ts.map (·.1)).map V.str)) l = some (.tup ((ts.map (·.1)).map V.str)) := upd_same
    have ep3 := k3 _ _ (by simp) ep2
    have k13 := k1.trans (k2.trans k3)
    have fl : ((ts.map (·.1)).map V.str).all flatV = true := names_flat (fun y hy => by obtain ⟨t, ht, rfl⟩ := List.mem_map.mp hy; exact hq t ht)
    generalize upd H2 l (.tup ((ts.map (·.1)).map V.str)) = H3 at k3 el ep3 k13 ⊢
    refine r_neT (sqT_of ep3) (sqT_of el) fl fl (eqv_flats fl) ?_
    walk_at "sts"
    have hn3 : H3 q = some (.lst (xs.map V.str)) := k13 _ _ (by simp) hn
    refine forL_go (fun j σ' H' => ∃ (y4 y5 y6 y7 : Option V), σ' = [some (.ref x), some (.ref p), some (.ref q), some (.ref p1), y4, y5, y6, y7] ∧ Keep [] H3 H') (sqL_of hn3) ⟨_, _, _, _, by first | exact rfl | trivial, Keep.refl _ _⟩ (fun j σ' H' _ h => by obtain ⟨_, _, _, _, _, k⟩ := h; exact sqL_of (k _ _ (by simp) hn3)) ?_ ?_
    · rintro j v σ' H4 hv ⟨y4, y5, y6, y7, rfl, k4⟩
      obtain ⟨nm, hnm, rfl⟩ : ∃ nm, xs[j]? = some nm ∧ v = .str nm := by
        rw [List.getElem?_map] at hv
        obtain ⟨a, ha, e⟩ := Option.map_eq_some_iff.mp hv
        exact ⟨a, ha, e.symm⟩
      have k14 := k13.trans k4
      have ep4 := k14 _ _ (by simp) ep
      have et4 := k14 _ _ (by simp) et
      have ex4 := k14 _ _ (by simp) ex
      have pt4 := pt.keep0 k14
      have hx4 := hx.keep0 k14
      walk_at "sts"
      refine lcT_go (fun D j acc H' => acc = (((ts.take j).filter fun p => decide (p.1 = nm)).map (·.2)).map V.int ∧ Keep [] H4 H' ∧ H4 D = none) (sqT_of et4) (fun D hD => ⟨by simp, Keep.new hD, hD⟩) (fun D j acc H' _ h => by obtain ⟨_, k, _⟩ := h; exact sqT_of (k _ _ (by simp) et4)) ?_ ?_
      · rintro D j v2 acc H5 hv2 hD ⟨rfl, k5, nD⟩
        obtain ⟨a, ha, rfl⟩ := getRef hv2
        obtain ⟨z, hz, ez⟩ := pt4.get ha
        have ez1 := k5 _ _ (by simp) ez
        have snoc : (((ts.take (j + 1)).filter fun p => decide (p.1 = nm)).map (·.2)).map V.int = if z.1 = nm then (((ts.take j).filter fun p => decide (p.1 = nm)).map (·.2)).map V.int ++ [V.int z.2] else (((ts.take j).filter fun p => decide (p.1 = nm)).map (·.2)).map V.int := by
          rw [take_snoc hz, List.filter_append]
          by_cases h : z.1 = nm <;> simp [h]
        have hfl := List.length_filter_le (fun p : Fm.Tm => decide (p.1 = nm)) (ts.take j)
        rw [List.length_take] at hfl
        walk_at "sts"
        refine r_ite (fun c2 => ?_) (fun c2 => ?_)
        · walk_at "sts"
          exact lc_put hD (by rw [List.length_map, List.length_map]; exact lt_size (by omega)) ⟨by rw [snoc, if_pos c2], k5.mut nD, nD⟩
        · walk_at "sts"
          exact ⟨_, hD, by rw [snoc, if_neg c2], k5, nD⟩
      rintro D acc H5 nD5 hD5 ⟨rfl, k5, _⟩
      rw [List.take_of_length_le (by rw [List.length_map, hlt]; exact Nat.le_refl _)] at hD5
      walk_at "sts"
      refine r_sum (sqL_of hD5) ?_
      rw [wt_sum]
      have k15 := k14.trans k5
      have ex5 := k15 _ _ (by simp) ex
      have hx5 := hx.keep0 k15
      walk_at "sts"
      refine Ow.r_ownIn ex5 ⟨x, ts, c, nm, rfl, hx5, cn, _, rfl, ?_⟩
      walk_at "sts"
      refine Ow.r_ownIx ex5 ⟨x, ts, c, nm, rfl, hx5, cn, ?_⟩
      walk_at "sts"
      refine ⟨_, rfl, ?_⟩
      walk_at "sts"
      exact ⟨_, _, _, _, by first | exact rfl | trivial, k4.trans k5⟩
    rintro σ' H4 ⟨y4, y5, y6, y7, rfl, k4⟩
    walk_at "sts"
    exact qq H4 (k13.trans k4)
end
/-! ### sums, differences, multiples -/
theorem scl_one {ts : List Fm.Tm} : Fm.scl 1 ts = ts := by
  unfold Fm.scl
  conv => rhs; rw [← List.map_id ts]
  apply List.map_congr_left
  intro t _
  rw [Int.one_mul]; rfl
theorem scl_nil {k : Int} : Fm.scl k [] = [] := rfl
theorem r_sub2 {C x y : Addr} {ts us : List Fm.Tm} {c d : Int} {H : Hp} {Q : VK} {E : XK} (hx : FormAt C H x ts c) (hy : FormAt C H y us d) (hl : ts.length + us.length ≤ 60) (q1 : ∀ t ∈ ts, IsQ t.1) (q2 : ∀ t ∈ us, IsQ t.1) (hw : ∀ t ∈ us, t.2.natAbs < 2 ^ 1500) (hd : d.natAbs < 2 ^ 1500) (k : ∀ z H', Keep [] H H' → H z = none → FormAt C H' z (Fm.can (ts ++ Fm.scl (-1) us)) (c - d) → Q (.ref z) H') : Ow.rOwn2 C (fun vs H Q E => spSub C (vs ++ []) H Q E) E (.ref x) (.ref y) H Q := by
  obtain ⟨dx, t, e, _⟩ := id hx
  obtain ⟨dy, u, e', _⟩ := id hy
  exact Ow.r_own2 e e' ⟨x, y, ts, us, c, d, rfl, hx, hy, hl, q1, q2, hw, hd, k⟩
theorem r_neg1 {C x : Addr} {ts : List Fm.Tm} {c : Int} {H : Hp} {Q : VK} {E : XK} (hx : FormAt C H x ts c) (hl : ts.length ≤ 60) (q1 : ∀ t ∈ ts, IsQ t.1) (hw : ∀ t ∈ ts, t.2.natAbs < 2 ^ 1500) (hc : c.natAbs < 2 ^ 1500) (k : ∀ z H', Keep [] H H' → H z = none → FormAt C H' z (Fm.can (Fm.scl (-1) ts)) (-c) → Q (.ref z) H') : Ow.rOwn1 C (fun vs H Q E => spNeg C (vs ++ []) H Q E) E (.ref x) H Q := by
  obtain ⟨dx, t, e, _⟩ := id hx
  exact ⟨x, dx, _, rfl, e, x, ts, c, rfl, hx, hl, q1, hw, hc, k⟩
theorem r_rmul1 {C x : Addr} {ts : List Fm.Tm} {c n : Int} {H : Hp} {Q : VK} {E : XK} (hx : FormAt C H x ts c) (hl : ts.length ≤ 60) (q1 : ∀ t ∈ ts, IsQ t.1) (hw : ∀ t ∈ ts, t.2.natAbs < 2 ^ 1500) (hc : c.natAbs < 2 ^ 1500) (hn : n.natAbs < 2 ^ 1500) (k : ∀ z H', Keep [] H H' → H z = none → FormAt C H' z (Fm.can (Fm.scl n ts)) (c * n) → Q (.ref z) H') : Ow.rIntOwn C (fun vs H Q E => spMul C (vs ++ []) H Q E) E (.int n) (.ref x) H Q := by
  obtain ⟨dx, t, e, _⟩ := id hx
  exact Ow.r_intOwn e ⟨x, ts, c, n, rfl, hx, hl, q1, hw, hc, hn, k⟩
theorem r_radd1 {C x : Addr} {ts : List Fm.Tm} {c n : Int} {H : Hp} {Q : VK} {E : XK} (hx : FormAt C H x ts c) (hl : ts.length ≤ 60) (q1 : ∀ t ∈ ts, IsQ t.1) (k : ∀ z H', Keep [] H H' → H z = none → FormAt C H' z (Fm.can ts) (c + n) → Q (.ref z) H') : Ow.rIntOwn C (fun vs H Q E => spAddI C (vs ++ []) H Q E) E (.int n) (.ref x) H Q := by
  obtain ⟨dx, t, e, _⟩ := id hx
  exact Ow.r_intOwn e ⟨x, ts, c, n, rfl, hx, hl, q1, k⟩
theorem r_subI1 {C x : Addr} {ts : List Fm.Tm} {c n : Int} {H : Hp} {Q : VK} {E : XK} (hx : FormAt C H x ts c) (hl : ts.length ≤ 60) (q1 : ∀ t ∈ ts, IsQ t.1) (hn : n.natAbs < 2 ^ 1500) (k : ∀ z H', Keep [] H H' → H z = none → FormAt C H' z (Fm.can ts) (c - n) → Q (.ref z) H') : Ow.rOwnI C (fun vs H Q E => spSubI C (vs ++ []) H Q E) E (.ref x) (.int n) H Q := by
  obtain ⟨dx, t, e, _⟩ := id hx
  exact Ow.r_ownI e ⟨x, ts, c, n, rfl, hx, hl, q1, hn, k⟩
theorem r_rsub1 {C x : Addr} {ts : List Fm.Tm} {c n : Int} {H : Hp} {Q : VK} {E : XK} (hx : FormAt C H x ts c) (hl : ts.length ≤ 60) (q1 : ∀ t ∈ ts, IsQ t.1) (hw : ∀ t ∈ ts, t.2.natAbs < 2 ^ 1500) (hc : c.natAbs < 2 ^ 1500) (k : ∀ z H', Keep [] H H' → H z = none → FormAt C H' z (Fm.can (Fm.scl (-1) ts)) (n - c) → Q (.ref z) H') : Ow.rIntOwn C (fun vs H Q E => spRsub C (vs ++ []) H Q E) E (.int n) (.ref x) H Q := by
  obtain ⟨dx, t, e, _⟩ := id hx
  exact Ow.r_intOwn e ⟨x, ts, c, n, rfl, hx, hl, q1, hw, hc, k⟩
/-- two rows as forms, and as they are due -/
structure Two (C : Addr) (H : Hp) (x y p q : Addr) (ts us : List Fm.Tm) (c d : Int) : Prop where
  fx : FormAt C H x ts c
  fy : FormAt C H y us d
  dp : DueAt H p ts c
  dq : DueAt H q us d
structure Small (ts us : List Fm.Tm) (c d : Int) : Prop where
  l1 : ts.length ≤ 20
  l2 : us.length ≤ 20
  q1 : ∀ t ∈ ts, IsQ t.1
  q2 : ∀ t ∈ us, IsQ t.1
  w1 : ∀ t ∈ ts, t.2.natAbs < 2 ^ 1500
  w2 : ∀ t ∈ us, t.2.natAbs < 2 ^ 1500
  c1 : c.natAbs < 2 ^ 1500
  c2 : d.natAbs < 2 ^ 1500
theorem Two.k {C : Addr} {H H' : Hp} {x y p q : Addr} {ts us : List Fm.Tm} {c d : Int} (h : Two C H x y p q ts us c d) (k : Keep [] H H') : Two C H' x y p q ts us c d := ⟨h.fx.keep0 k, h.fy.keep0 k, h.dp.keep0 k, h.dq.keep0 k⟩
theorem can_le {ts : List Fm.Tm} {n : Nat} (h : ts.length ≤ n) : (Fm.can ts).length ≤ n := Nat.le_trans (Fm.can_len ts) h
def spSums (C : Addr) : Sp := fun vs H Q _ => ∃ (x y p q : Addr) (ts us : List Fm.Tm) (c d n : Int), vs = [.ref x, .ref y, .ref p, .ref q, .int n] ∧ Two C H x y p q ts us c d ∧ Small ts us c d ∧ n.natAbs < 2 ^ 1500 ∧ ∀ H', Keep [] H H' → Q (.bl true) H'
section
variable {P : Program} {w : World} {K : PySem.W.Frag} {mg : Str → Option Value} {base : Heap}
theorem ok_sums (T : Tx K mg) (G_w_form_is : FnOk P w K mg base CX0 2 T.f_w_form_is T.fd_w_form_is ["_law_found", "_law_due"] (spFormIs T.C_Form)) (G_w_tidy : FnOk P w K mg base CX0 1 T.f_w_tidy T.fd_w_tidy ["_law_pairs_here", "_law_constant"] spTidy)
    (G_w_added : FnOk P w K mg base CX0 2 T.f_w_added T.fd_w_added ["_law_one", "_law_two", "_law_factor"] spDueAdd) (G_Form___add : GAdd P w K mg base T) (G_Form___mul : GMul P w K mg base T)
    (G_Form___sub : FnOk P w K mg base CX0 6 T.f_Form___sub T.fd_Form___sub ["self", "other"] (spSub T.C_Form)) (G_Form___neg : FnOk P w K mg base CX0 6 T.f_Form___neg T.fd_Form___neg ["self"] (spNeg T.C_Form))
    (G_Form___rmul : FnOk P w K mg base CX0 6 T.f_Form___rmul T.fd_Form___rmul ["self", "other"] (spMul T.C_Form)) (G_Form___addI : GAddI P w K mg base T) (G_Form___radd : FnOk P w K mg base CX0 6 T.f_Form___radd T.fd_Form___radd ["self", "other"] (spAddI T.C_Form))
    (G_Form___subI : FnOk P w K mg base CX0 6 T.f_Form___sub T.fd_Form___sub ["self", "other"] (spSubI T.C_Form)) (G_Form___rsub : FnOk P w K mg base CX0 6 T.f_Form___rsub T.fd_Form___rsub ["self", "other"] (spRsub T.C_Form)) :
    FnOk P w K mg base CX0 7 T.f_w_sums_right T.fd_w_sums_right ["_law_first", "_law_second", "_law_one", "_law_two", "_law_number"] (spSums T.C_Form) := by
  refine T.F_w_sums_right.ok sc_w_sums_right (fun vs H Q E h => ?_) (fun cdv A outer s H vs Q E hr h => ?_)
  · obtain ⟨x, y, p, q, ts, us, c, d, n, rfl, _⟩ := h; rfl
  · obtain ⟨x, y, p, q, ts, us, c, d, n, rfl, tw, sm, hn, qq⟩ := h
    obtain ⟨l1, l2, q1, q2, w1, w2, c1, c2⟩ := id sm
    refine ⟨_, (pss_cons (ps_set (i := 5) sc_w_sums_right.nd rfl (Or.inl rfl) (pe_call G_w_tidy (hr.mono (by decide)) rfl T.g_w_tidy T.F_w_tidy.kp T.b_w_tidy .nil pass0 (pa_cons (pe_lst pa_nil) (pa_cons (pv 4) pa_nil))))
    (pss_cons (ps_set (i := 6) sc_w_sums_right.nd rfl (Or.inl rfl) (pe_call G_w_tidy (hr.mono (by decide)) rfl T.g_w_tidy T.F_w_tidy.kp T.b_w_tidy .nil pass0 (pa_cons (pe_lst pa_nil) (pa_cons pe_int pa_nil))))
    (pss_cons (ps_if (pt_not (pt_val (pe_call G_w_form_is (hr.mono (by decide)) rfl T.g_w_form_is T.F_w_form_is.kp T.b_w_form_is .nil pass0 (pa_cons (pe_op (Ow.op_own2 T.oc_Form.sf T.me_Form___add (G_Form___add.raw T.b_Form___add .nil) (hr.mono (by decide)) pass0) (pv 0) (pv 1)) (pa_cons (pe_call G_w_added (hr.mono (by decide)) rfl T.g_w_added T.F_w_added.kp T.b_w_added .nil pass0 (pa_cons (pv 2) (pa_cons (pv 3) (pa_cons pe_int pa_nil)))) pa_nil)))))
    (pss_one (ps_ret pe_bl))
    pss_nil)
    (pss_cons (ps_if (pt_not (pt_val (pe_call G_w_form_is (hr.mono (by decide)) rfl T.g_w_form_is T.F_w_form_is.kp T.b_w_form_is .nil pass0 (pa_cons (pe_op (Ow.op_own2 T.oc_Form.sf T.me_Form___sub (G_Form___sub.raw T.b_Form___sub .nil) (hr.mono (by decide)) pass0) (pv 0) (pv 1)) (pa_cons (pe_call G_w_added (hr.mono (by decide)) rfl T.g_w_added T.F_w_added.kp T.b_w_added .nil pass0 (pa_cons (pv 2) (pa_cons (pv 3) (pa_cons (pe_un un_neg pe_int) pa_nil)))) pa_nil)))))
    (pss_one (ps_ret pe_bl))
    pss_nil)
    (pss_cons (ps_if (pt_not (pt_val (pe_call G_w_form_is (hr.mono (by decide)) rfl T.g_w_form_is T.F_w_form_is.kp T.b_w_form_is .nil pass0 (pa_cons (pe_un (Ow.un_ownNeg T.me_Form___neg (G_Form___neg.raw T.b_Form___neg .nil) (hr.mono (by decide)) pass0) (pv 0)) (pa_cons (pe_call G_w_added (hr.mono (by decide)) rfl T.g_w_added T.F_w_added.kp T.b_w_added .nil pass0 (pa_cons (pv 6) (pa_cons (pv 2) (pa_cons (pe_un un_neg pe_int) pa_nil)))) pa_nil)))))
    (pss_one (ps_ret pe_bl))
    pss_nil)
    (pss_cons (ps_if (pt_not (pt_val (pe_call G_w_form_is (hr.mono (by decide)) rfl T.g_w_form_is T.F_w_form_is.kp T.b_w_form_is .nil pass0 (pa_cons (pe_op (Ow.op_ownI T.oc_Form.sf T.me_Form___mul (G_Form___mul.raw T.b_Form___mul .nil) (hr.mono (by decide)) pass0 T.rr_Form_mul.choose_spec (Or.inr ⟨_, rfl⟩) T.if_mul T.ir_mul T.is_Form) (pv 0) (pv 4)) (pa_cons (pe_call G_w_added (hr.mono (by decide)) rfl T.g_w_added T.F_w_added.kp T.b_w_added .nil pass0 (pa_cons (pv 6) (pa_cons (pv 2) (pa_cons (pv 4) pa_nil)))) pa_nil)))))
    (pss_one (ps_ret pe_bl))
    pss_nil)
    (pss_cons (ps_if (pt_not (pt_val (pe_call G_w_form_is (hr.mono (by decide)) rfl T.g_w_form_is T.F_w_form_is.kp T.b_w_form_is .nil pass0 (pa_cons (pe_op (Ow.op_intMul T.oc_Form.sf T.me_Form___mul T.me_Form___rmul T.si_Form (G_Form___rmul.raw T.b_Form___rmul .nil) (hr.mono (by decide)) pass0) (pv 4) (pv 1)) (pa_cons (pe_call G_w_added (hr.mono (by decide)) rfl T.g_w_added T.F_w_added.kp T.b_w_added .nil pass0 (pa_cons (pv 6) (pa_cons (pv 3) (pa_cons (pv 4) pa_nil)))) pa_nil)))))
    (pss_one (ps_ret pe_bl))
    pss_nil)
    (pss_cons (ps_if (pt_not (pt_val (pe_call G_w_form_is (hr.mono (by decide)) rfl T.g_w_form_is T.F_w_form_is.kp T.b_w_form_is .nil pass0 (pa_cons (pe_op (Ow.op_ownI T.oc_Form.sf T.me_Form___add (G_Form___addI.raw T.b_Form___add .nil) (hr.mono (by decide)) pass0 T.rr_Form_add.choose_spec (Or.inr ⟨_, rfl⟩) T.if_add T.ir_add T.is_Form) (pv 0) (pv 4)) (pa_cons (pe_call G_w_added (hr.mono (by decide)) rfl T.g_w_added T.F_w_added.kp T.b_w_added .nil pass0 (pa_cons (pv 2) (pa_cons (pv 5) (pa_cons pe_int pa_nil)))) pa_nil)))))
    (pss_one (ps_ret pe_bl))
    pss_nil)
    (pss_cons (ps_if (pt_not (pt_val (pe_call G_w_form_is (hr.mono (by decide)) rfl T.g_w_form_is T.F_w_form_is.kp T.b_w_form_is .nil pass0 (pa_cons (pe_op (Ow.op_intAdd T.oc_Form.sf T.me_Form___add T.me_Form___radd T.si_Form (G_Form___radd.raw T.b_Form___radd .nil) (hr.mono (by decide)) pass0) (pv 4) (pv 1)) (pa_cons (pe_call G_w_added (hr.mono (by decide)) rfl T.g_w_added T.F_w_added.kp T.b_w_added .nil pass0 (pa_cons (pv 3) (pa_cons (pv 5) (pa_cons pe_int pa_nil)))) pa_nil)))))
    (pss_one (ps_ret pe_bl))
    pss_nil)
    (pss_cons (ps_if (pt_not (pt_val (pe_call G_w_form_is (hr.mono (by decide)) rfl T.g_w_form_is T.F_w_form_is.kp T.b_w_form_is .nil pass0 (pa_cons (pe_op (Ow.op_ownI T.oc_Form.sf T.me_Form___sub (G_Form___subI.raw T.b_Form___sub .nil) (hr.mono (by decide)) pass0 T.rr_Form_sub.choose_spec (Or.inr ⟨_, rfl⟩) T.if_sub T.ir_sub T.is_Form) (pv 0) (pv 4)) (pa_cons (pe_call G_w_added (hr.mono (by decide)) rfl T.g_w_added T.F_w_added.kp T.b_w_added .nil pass0 (pa_cons (pv 2) (pa_cons (pv 5) (pa_cons (pe_un un_neg pe_int) pa_nil)))) pa_nil)))))
    (pss_one (ps_ret pe_bl))
    pss_nil)
    (pss_one (ps_ret (pe_call G_w_form_is (hr.mono (by decide)) rfl T.g_w_form_is T.F_w_form_is.kp T.b_w_form_is .nil pass0 (pa_cons (pe_op (Ow.op_intSub T.oc_Form.sf T.me_Form___sub T.me_Form___rsub T.si_Form (G_Form___rsub.raw T.b_Form___rsub .nil) (hr.mono (by decide)) pass0) (pv 4) (pv 1)) (pa_cons (pe_call G_w_added (hr.mono (by decide)) rfl T.g_w_added T.F_w_added.kp T.b_w_added .nil pass0 (pa_cons (pv 5) (pa_cons (pv 3) (pa_cons (pe_un un_neg pe_int) pa_nil)))) pa_nil))))))))))))))), ?_⟩
    walk_at "start"
    walk_at "sts"
    intro l hl
    have k1 : Keep [] H (upd H l (.lst [])) := Keep.new hl
    have el : upd H l (.lst []) l = some (.lst []) := upd_same
    generalize upd H l (.lst []) = H1 at k1 el ⊢
    walk_at "sts"
    refine ⟨l, [], n, rfl, ⟨[], el, trivial⟩, by decide, fun r1 H2 k2 _ d1 => ?_⟩
    walk_at "sts"
    intro l2' hl2
    have k3 : Keep [] H2 (upd H2 l2' (.lst [])) := Keep.new hl2
    have el2 : upd H2 l2' (.lst []) l2' = some (.lst []) := upd_same
    have d1' := d1.keep0 k3
    have k13 := k1.trans (k2.trans k3)
    generalize upd H2 l2' (.lst []) = H3 at k3 el2 d1' k13 ⊢
    walk_at "sts"
    refine ⟨l2', [], 0, rfl, ⟨[], el2, trivial⟩, by decide, fun r0 H4 k4 _ d0 => ?_⟩
    have kz := k13.trans k4
    have tz := tw.k kz
    have dz : DueAt H4 r1 [] n := d1'.keep0 k4
    have nz : DueAt H4 r0 [] 0 := d0
    clear k1 el k2 d1 k3 el2 d1' k13 k4 d0 hl hl2 tw
    walk_at "sts"
    refine r_add tz.fx tz.fy (by omega) q1 q2 fun z A1 ka _ fz => ?_
    have t1 := tz.k ka
    have dn := dz.keep0 ka
    have n0 := nz.keep0 ka
    have kk := kz.trans ka
    walk_at "sts"
    refine ⟨p, q, ts, us, c, d, 1, rfl, t1.dp, t1.dq, by omega, w2, c2, by decide +kernel, fun r B1 kb _ du => ?_⟩
    rw [scl_one, Int.one_mul] at du
    have fz2 := fz.keep0 kb
    have kk2 := kk.trans kb
    have tz := t1.k kb
    have dz := dn.keep0 kb
    have nz := n0.keep0 kb
    walk_at "sts"
    refine ⟨z, r, _, _, rfl, fz2, du, can_le (by rw [List.length_append]; omega), ?_⟩
    have kz := kk2
    clear t1 dn n0 kk kk2 fz fz2 du ka kb
    walk_at "sts"
    refine r_sub2 tz.fx tz.fy (by omega) q1 q2 w2 c2 fun z A2 ka _ fz => ?_
    have t1 := tz.k ka
    have dn := dz.keep0 ka
    have n0 := nz.keep0 ka
    have kk := kz.trans ka
    walk_at "sts"
    refine ⟨p, q, ts, us, c, d, -1, rfl, t1.dp, t1.dq, by omega, w2, c2, by decide +kernel, fun r B2 kb _ du => ?_⟩
    rw [show c + -1 * d = c - d by omega] at du
    have fz2 := fz.keep0 kb
    have kk2 := kk.trans kb
    have tz := t1.k kb
    have dz := dn.keep0 kb
    have nz := n0.keep0 kb
    walk_at "sts"
    refine ⟨z, r, _, _, rfl, fz2, du, can_le (by rw [List.length_append, scl_len]; omega), ?_⟩
    have kz := kk2
    clear t1 dn n0 kk kk2 fz fz2 du ka kb
    walk_at "sts"
    refine r_neg1 tz.fx (by omega) q1 w1 c1 fun z A3 ka _ fz => ?_
    have t1 := tz.k ka
    have dn := dz.keep0 ka
    have n0 := nz.keep0 ka
    have kk := kz.trans ka
    walk_at "sts"
    refine ⟨r0, p, [], ts, 0, c, -1, rfl, n0, t1.dp, by show 0 + ts.length ≤ 60; omega, w1, c1, by decide +kernel, fun r B3 kb _ du => ?_⟩
    rw [List.nil_append, show (0 : Int) + -1 * c = -c by omega] at du
    have fz2 := fz.keep0 kb
    have kk2 := kk.trans kb
    have tz := t1.k kb
    have dz := dn.keep0 kb
    have nz := n0.keep0 kb
    walk_at "sts"
    refine ⟨z, r, _, _, rfl, fz2, du, can_le (by rw [scl_len]; omega), ?_⟩
    have kz := kk2
    clear t1 dn n0 kk kk2 fz fz2 du ka kb
    walk_at "sts"
    refine r_mul tz.fx (by omega) q1 w1 c1 hn fun z A4 ka _ fz => ?_
    have t1 := tz.k ka
    have dn := dz.keep0 ka
    have n0 := nz.keep0 ka
    have kk := kz.trans ka
    walk_at "sts"
    refine ⟨r0, p, [], ts, 0, c, n, rfl, n0, t1.dp, by show 0 + ts.length ≤ 60; omega, w1, c1, hn, fun r B4 kb _ du => ?_⟩
    rw [List.nil_append, Int.zero_add, Int.mul_comm n c] at du
    have fz2 := fz.keep0 kb
    have kk2 := kk.trans kb
    have tz := t1.k kb
    have dz := dn.keep0 kb
    have nz := n0.keep0 kb
    walk_at "sts"
    refine ⟨z, r, _, _, rfl, fz2, du, can_le (by rw [scl_len]; omega), ?_⟩
    have kz := kk2
    clear t1 dn n0 kk kk2 fz fz2 du ka kb
    walk_at "sts"
    refine r_rmul1 tz.fy (by omega) q2 w2 c2 hn fun z A5 ka _ fz => ?_
    have t1 := tz.k ka
    have dn := dz.keep0 ka
    have n0 := nz.keep0 ka
    have kk := kz.trans ka
    walk_at "sts"
    refine ⟨r0, q, [], us, 0, d, n, rfl, n0, t1.dq, by show 0 + us.length ≤ 60; omega, w2, c2, hn, fun r B5 kb _ du => ?_⟩
    rw [List.nil_append, Int.zero_add, Int.mul_comm n d] at du
    have fz2 := fz.keep0 kb
    have kk2 := kk.trans kb
    have tz := t1.k kb
    have dz := dn.keep0 kb
    have nz := n0.keep0 kb
    walk_at "sts"
    refine ⟨z, r, _, _, rfl, fz2, du, can_le (by rw [scl_len]; omega), ?_⟩
    have kz := kk2
    clear t1 dn n0 kk kk2 fz fz2 du ka kb
    walk_at "sts"
    refine r_addI tz.fx (by omega) q1 fun z A6 ka _ fz => ?_
    have t1 := tz.k ka
    have dn := dz.keep0 ka
    have n0 := nz.keep0 ka
    have kk := kz.trans ka
    walk_at "sts"
    refine ⟨p, r1, ts, [], c, n, 1, rfl, t1.dp, dn, by show ts.length + 0 ≤ 60; omega, by simp, hn, by decide +kernel, fun r B6 kb _ du => ?_⟩
    rw [scl_nil, List.append_nil, Int.one_mul] at du
    have fz2 := fz.keep0 kb
    have kk2 := kk.trans kb
    have tz := t1.k kb
    have dz := dn.keep0 kb
    have nz := n0.keep0 kb
    walk_at "sts"
    refine ⟨z, r, _, _, rfl, fz2, du, can_le (by omega), ?_⟩
    have kz := kk2
    clear t1 dn n0 kk kk2 fz fz2 du ka kb
    walk_at "sts"
    refine r_radd1 tz.fy (by omega) q2 fun z A7 ka _ fz => ?_
    have t1 := tz.k ka
    have dn := dz.keep0 ka
    have n0 := nz.keep0 ka
    have kk := kz.trans ka
    walk_at "sts"
    refine ⟨q, r1, us, [], d, n, 1, rfl, t1.dq, dn, by show us.length + 0 ≤ 60; omega, by simp, hn, by decide +kernel, fun r B7 kb _ du => ?_⟩
    rw [scl_nil, List.append_nil, Int.one_mul] at du
    have fz2 := fz.keep0 kb
    have kk2 := kk.trans kb
    have tz := t1.k kb
    have dz := dn.keep0 kb
    have nz := n0.keep0 kb
    walk_at "sts"
    refine ⟨z, r, _, _, rfl, fz2, du, can_le (by omega), ?_⟩
    have kz := kk2
    clear t1 dn n0 kk kk2 fz fz2 du ka kb
    walk_at "sts"
    refine r_subI1 tz.fx (by omega) q1 hn fun z A8 ka _ fz => ?_
    have t1 := tz.k ka
    have dn := dz.keep0 ka
    have n0 := nz.keep0 ka
    have kk := kz.trans ka
    walk_at "sts"
    refine ⟨p, r1, ts, [], c, n, -1, rfl, t1.dp, dn, by show ts.length + 0 ≤ 60; omega, by simp, hn, by decide +kernel, fun r B8 kb _ du => ?_⟩
    rw [scl_nil, List.append_nil, show c + -1 * n = c - n by omega] at du
    have fz2 := fz.keep0 kb
    have kk2 := kk.trans kb
    have tz := t1.k kb
    have dz := dn.keep0 kb
    have nz := n0.keep0 kb
    walk_at "sts"
    refine ⟨z, r, _, _, rfl, fz2, du, can_le (by omega), ?_⟩
    have kz := kk2
    clear t1 dn n0 kk kk2 fz fz2 du ka kb
    walk_at "sts"
    refine r_rsub1 tz.fy (by omega) q2 w2 c2 fun z A9 ka _ fz => ?_
    have t1 := tz.k ka
    have dn := dz.keep0 ka
    have n0 := nz.keep0 ka
    have kk := kz.trans ka
    walk_at "sts"
    refine ⟨r1, q, [], us, n, d, -1, rfl, dn, t1.dq, by show 0 + us.length ≤ 60; omega, w2, c2, by decide +kernel, fun r B9 kb _ du => ?_⟩
    rw [List.nil_append, show n + -1 * d = n - d by omega] at du
    have fz2 := fz.keep0 kb
    have kk2 := kk.trans kb
    have tz := t1.k kb
    have dz := dn.keep0 kb
    have nz := n0.keep0 kb
    walk_at "sts"
    refine ⟨z, r, _, _, rfl, fz2, du, can_le (by rw [scl_len]; omega), ?_⟩
    have kz := kk2
    clear t1 dn n0 kk kk2 fz fz2 du ka kb
    exact qq _ kz
end
/-! ### forms that are equal or not -/
def spEqual (C : Addr) : Sp := fun vs H Q _ => ∃ (x y p q l : Addr) (ts us : List Fm.Tm) (c d : Int) (nm : Str), vs = [.ref x, .ref y, .ref p, .ref q, .ref l, .str nm] ∧ Two C H x y p q (Fm.can ts) us c d ∧ Small (Fm.can ts) us c d ∧ RowAt H l ts ∧ ts.length ≤ 20 ∧ (∀ t ∈ ts, IsQ t.1) ∧ IsQ nm ∧ ∀ H', Keep [] H H' → Q (.bl true) H'
theorem wt_rev {ts : List Fm.Tm} {x : Str} : Fm.wt ts.reverse x = Fm.wt ts x := by
  unfold Fm.wt
  rw [List.filter_reverse, List.map_reverse, List.sum_reverse]
theorem can_rev {ts : List Fm.Tm} : Fm.can ts.reverse = Fm.can ts := Fm.can_can fun x => wt_rev
theorem can_more {ts : List Fm.Tm} {nm : Str} : Fm.can ts ≠ Fm.can (ts.reverse ++ [(nm, 1)]) := fun h => by
  have := congrArg (fun u => Fm.wt u nm) h
  simp only [Fm.can_wt, Fm.wt_append, wt_rev] at this
  rw [show Fm.wt [(nm, 1)] nm = 1 by simp [Fm.wt]] at this
  omega
theorem PairsAt.rev {H : Hp} : ∀ {as : List Addr} {ts : List Fm.Tm}, PairsAt H as ts → PairsAt H as.reverse ts.reverse
  | [], [], _ => trivial
  | a :: as, t :: ts, h => by rw [List.reverse_cons, List.reverse_cons]; exact (PairsAt.rev h.2).app ⟨h.1, trivial⟩
  | [], _ :: _, h => h.elim
  | _ :: _, [], h => h.elim
theorem r_eqF {K : PySem.W.Frag} {C x y : Addr} {ts us : List Fm.Tm} {c d : Int} {H : Hp} {Q : VK} {E : XK} (hx : FormAt C H x ts c) (hy : FormAt C H y us d) (q1 : ∀ t ∈ ts, IsQ t.1) (q2 : ∀ t ∈ us, IsQ t.1) (k : Q (.bl (decide (ts = us) && decide (c = d))) H) : Ow.rOwn2 C (fun vs H Q E => spEqA K C (vs ++ []) H Q E) E (.ref x) (.ref y) H Q := by
  obtain ⟨dx, t, e, _⟩ := id hx
  obtain ⟨dy, u, e', _⟩ := id hy
  exact Ow.r_own2 e e' (Or.inl ⟨x, y, ts, us, c, d, rfl, hx, hy, q1, q2, k⟩)
theorem r_eqO {K : PySem.W.Frag} {C x : Addr} {ts : List Fm.Tm} {c : Int} {y : V} {Ty : String} {H : Hp} {Q : VK} {E : XK} (hx : FormAt C H x ts c) (o : Ow.Oth H y Ty) (hs : PySem.W.subIn K (.type Ty) (.ref C) = some false) (k : Q (.bl false) H) : Ow.rOwnX K C (fun vs H Q E => spEqA K C (vs ++ []) H Q E) E (.ref x) y H Q := by
  obtain ⟨dx, t, e, _⟩ := id hx
  exact Ow.r_ownX e o hs (Or.inr ⟨x, ts, c, y, Ty, rfl, hx, o, hs, k⟩)
theorem shaped_due {ts : List Fm.Tm} {c : Int} (h : ∀ t ∈ ts, IsQ t.1) : SeqAt.shaped (.tuple [.tuple (ts.map fun p => PyData.tuple [.str p.1, .int p.2]), .int c]) = true := by
  have := lay_pairs h
  unfold SeqAt.shaped
  simp [PyData.canLay0, PyData.canLayAll0, PyData.depth, PyData.depthAll, this.1]
  omega
theorem r_eqDue {K : PySem.W.Frag} {H : Hp} {Q : VK} {p q : Addr} {ts us : List Fm.Tm} {c d : Int} (hp : DueAt H p ts c) (hq : DueAt H q us d) (q1 : ∀ t ∈ ts, IsQ t.1) (q2 : ∀ t ∈ us, IsQ t.1) (k : Q (.bl (decide (ts = us) && decide (c = d))) H) : rEqD K (.ref p) (.ref q) H Q := by
  obtain ⟨t, ep, as, et, pt⟩ := hp
  obtain ⟨u, eq, bs, eu, pu⟩ := hq
  refine ⟨_, _, .tup (sqT_of ep) (.cons (.tup (sqT_of et) (dp_pairs pt)) (.cons (.int _) .nil)), .tup (sqT_of eq) (.cons (.tup (sqT_of eu) (dp_pairs pu)) (.cons (.int _) .nil)), shaped_due q1, shaped_due q2, ?_⟩
  rw [eqvT]
  simp only [PyData.eqvAll, eqvT, eqv_prs]
  have e : (c == d) = decide (c = d) := by rw [Bool.eq_iff_iff]; simp
  simpa [PyData.eqv, e] using k
section
variable {P : Program} {w : World} {K : PySem.W.Frag} {mg : Str → Option Value} {base : Heap}
theorem ok_equal (T : Tx K mg) (G_Form___init : GInit P w K mg base T) (G_Form___eq : FnOk P w K mg base CX0 1 T.f_Form___eq T.fd_Form___eq ["self", "other"] (spEqA K T.C_Form)) (G_Form___str : FnOk P w K mg base CX0 3 T.f_Form___str T.fd_Form___str ["self"] (spStr T.C_Form)) :
    FnOk P w K mg base CX0 6 T.f_w_equal_right T.fd_w_equal_right ["_law_first", "_law_second", "_law_one", "_law_two", "_law_pairs_here", "_law_text"] (spEqual T.C_Form) := by
  refine T.F_w_equal_right.ok sc_w_equal_right (fun vs H Q E h => ?_) (fun cdv A outer s H vs Q E hr h => ?_)
  · obtain ⟨x, y, p, q, l, ts, us, c, d, nm, rfl, _⟩ := h; rfl
  · obtain ⟨x, y, p, q, l, ts, us, c, d, nm, rfl, tw, sm, ⟨as, el, pt⟩, ll, hq, hqn, qq⟩ := h
    obtain ⟨l1, l2, q1, q2, w1, w2, c1, c2⟩ := id sm
    have oc := T.oc_Form
    have na := T.na_Form_terms
    have nc := T.na_Form_constant
    have hlt := pt.len
    refine ⟨_, (pss_cons (ps_setLc (i := 6) (own := [("_law_k", 7)]) (g := gName 7) (tt := tYes) rfl sc_w_equal_right.nd rfl rfl (sw_true rfl rfl rfl (by decide +kernel)) (pi_range1 rfl T.m_range (pa_cons (pe_callB call_len_seq (by rfl) T.m_len PySem.boot_len (pa_cons (pv 4) pa_nil)) pa_nil)) (blkOk_by (own := [("_law_k", 7)]) (N := ["_law_first", "_law_second", "_law_one", "_law_two", "_law_pairs_here", "_law_text", "_law_turned", "_law_k", "_law_other"]) (sc := defScope s_w_equal_right) (by decide +kernel)) (fun _ _ _ _ _ => pg_name (i := 7) sc_w_equal_right.nd rfl (Or.inl rfl)) (fun _ _ _ _ _ => pts_nil) (fun _ _ _ _ _ => (pe_ix (ix_listK (K := K) rfl) (pv 4) (pe_op op_sub (pe_op op_sub (pe_callB (call_len_seqK (K := K) rfl) (by rfl) T.m_len PySem.boot_len (pa_cons (pv 4) pa_nil)) pe_int) (pv 7)) (fun _ _ => rfl))))
    (pss_cons (ps_set (i := 8) sc_w_equal_right.nd rfl (Or.inl rfl) pe_int)
    (Evl.pss_cut (ps_if (pt_cmpR op_ne (pe_ix ix_tup (pv 2) pe_int (fun _ _ => rfl)) pe_int (nomark _))
    (pss_one (ps_set (i := 8) sc_w_equal_right.nd rfl (Or.inl rfl) (pe_un un_neg (pe_ix ix_tup (pv 2) pe_int (fun _ _ => rfl)))))
    pss_nil)
    (pss_cons (ps_if (PW.pt (pw_or (pt_not (pt_cmpR (Ow.op_ownEq T.me_Form___eq (G_Form___eq.raw T.b_Form___eq .nil) (hr.mono (by decide)) pass0 hr.units0) (pv 0) (pe_make T.mk_Form G_Form___init (hr.mono (by decide)) rfl T.gC_Form T.b3_Form___init.choose_spec.2 T.b3_Form___init.choose_spec.1 pass0 (pa_cons (pv 6) (pa_cons (pe_ix ix_tup (pv 2) pe_int (fun _ _ => rfl)) pa_nil))) (nomark _))) (pw_or1 (pt_cmpR op_ne (pe_cmpR (Ow.op_ownEq T.me_Form___eq (G_Form___eq.raw T.b_Form___eq .nil) (hr.mono (by decide)) pass0 hr.units0) (pv 0) (pv 1) (nomark _)) (pe_cmpR (op_eqD hr.units) (pv 2) (pv 3) (nomark _)) (nomark _)))))
    (pss_one (ps_ret pe_bl))
    pss_nil)
    (pss_cons (ps_if (PW.pt (pw_or (pt_cmpR (Ow.op_ownEq T.me_Form___eq (G_Form___eq.raw T.b_Form___eq .nil) (hr.mono (by decide)) pass0 hr.units0) (pv 0) (pe_make T.mk_Form G_Form___init (hr.mono (by decide)) rfl T.gC_Form T.b3_Form___init.choose_spec.2 T.b3_Form___init.choose_spec.1 pass0 (pa_cons (pv 6) (pa_cons (pv 8) pa_nil))) (nomark _)) (pw_or1 (pt_cmpR (Ow.op_ownEq T.me_Form___eq (G_Form___eq.raw T.b_Form___eq .nil) (hr.mono (by decide)) pass0 hr.units0) (pv 0) (pe_make T.mk_Form G_Form___init (hr.mono (by decide)) rfl T.gC_Form T.b3_Form___init.choose_spec.2 T.b3_Form___init.choose_spec.1 pass0 (pa_cons (pe_op op_cat (pv 6) (pe_lst (pa_cons (pe_tup (pa_cons (pv 5) (pa_cons pe_int pa_nil))) pa_nil))) (pa_cons (pe_ix ix_tup (pv 2) pe_int (fun _ _ => rfl)) pa_nil))) (nomark _)))))
    (pss_one (ps_ret pe_bl))
    pss_nil)
    (pss_cons (ps_if (PW.pt (pw_or (pt_cmpR (Ow.op_ownEqX T.me_Form___eq (G_Form___eq.raw T.b_Form___eq .nil) (hr.mono (by decide)) pass0 hr.units0) (pv 0) (pe_fld (pv 0) rfl) (nomark _)) (pw_or (pt_cmpR (Ow.op_ownEqX T.me_Form___eq (G_Form___eq.raw T.b_Form___eq .nil) (hr.mono (by decide)) pass0 hr.units0) (pv 0) (pe_ix ix_tup (pv 2) pe_int (fun _ _ => rfl)) (nomark _)) (pw_or1 (pt_cmpR (Ow.op_ownEqX T.me_Form___eq (G_Form___eq.raw T.b_Form___eq .nil) (hr.mono (by decide)) pass0 hr.units0) (pv 0) (pe_callTy (Ow.call_strOwn T.me_Form___str (G_Form___str.raw T.b_Form___str .nil) (hr.mono (by decide)) pass0) (by rfl) T.m_str (by decide +kernel) (pa_cons (pv 0) pa_nil)) (nomark _))))))
    (pss_one (ps_ret pe_bl))
    pss_nil)
    (pss_one (ps_ret (pe_not (pe_cmpR (Ow.op_ownEqX T.me_Form___eq (G_Form___eq.raw T.b_Form___eq .nil) (hr.mono (by decide)) pass0 hr.units0) (pe_make T.mk_Form G_Form___init (hr.mono (by decide)) rfl T.gC_Form T.b3_Form___init.choose_spec.2 T.b3_Form___init.choose_spec.1 pass0 (pa_cons (pe_tup pa_nil) (pa_cons (pv 8) pa_nil))) (pv 8) (nomark _))))))))))), ?_⟩
    walk_at "start"
    walk_at "sts"
    refine lcR1_go (fun D j acc H' => acc = (as.reverse.take j).map V.ref ∧ Keep [] H H' ∧ H D = none) (by simp only [List.length_map]; omega) (fun D hD => ⟨by simp, Keep.new hD, hD⟩) ?_ ?_
    · rintro D j acc H1 hj hD ⟨rfl, k1, nD⟩
      simp only [List.length_map] at hj
      have el1 := k1 _ _ (by simp) el
      have hjl : j < as.length := by omega
      obtain ⟨a, ha⟩ : ∃ a, as[as.length - 1 - j]? = some a := ⟨_, List.getElem?_eq_getElem (by omega)⟩
      have hr2 : as.reverse[j]? = some a := by rw [List.getElem?_reverse hjl]; exact ha
      walk_at "sts"
      simp only [List.length_map]
      refine r_ixL (sqL_of el1) (i := (as.length : Int) - 1 - j) (v := .ref a) ?_ ?_
      · rw [show (as.length : Int) - 1 - j = ((as.length - 1 - j : Nat) : Int) by omega]
        exact atI_nat (by rw [List.getElem?_map, ha]; rfl)
      refine lc_put hD (by rw [List.length_map, List.length_take]; exact lt_size (by omega)) ⟨by rw [take_snoc hr2, List.map_append]; rfl, k1.mut nD, nD⟩
    rintro D acc H1 nD hD ⟨rfl, k1, _⟩
    simp only [List.length_map, Int.toNat_natCast] at hD
    rw [List.take_of_length_le (by rw [List.length_reverse]; exact Nat.le_refl _)] at hD
    have pt1 := pt.keep0 k1
    have rw1 : RowAt H1 D ts.reverse := ⟨as.reverse, hD, pt1.rev⟩
    have t1 := tw.k k1
    clear tw
    obtain ⟨tp, ep, tpt⟩ := id t1.dp
    walk_at "sts"
    refine r_cut (fun σ' H' => ∃ (o : Int) (y7 : Option V), σ' = [some (.ref x), some (.ref y), some (.ref p), some (.ref q), some (.ref l), some (.str nm), some (.ref D), y7, some (.int o)] ∧ o ≠ c ∧ H' = H1) ?_ ?_
    · walk_at "sts"
      by_cases hc0 : c = 0
      · rw [decide_eq_true hc0]
        walk_at "sts"
        exact ⟨1, _, by first | exact rfl | trivial, by omega, rfl⟩
      · rw [decide_eq_false hc0]
        walk_at "sts"
        exact ⟨-c, _, by first | exact rfl | trivial, by omega, rfl⟩
    rintro σ' H2 ⟨o, y7, rfl, hoc, rfl⟩
    walk_at "sts"
    have lr : ts.reverse.length ≤ 60 := by rw [List.length_reverse]; omega
    have qr : ∀ t ∈ ts.reverse, IsQ t.1 := fun t ht => hq t (List.mem_reverse.mp ht)
    refine r_newForm (.inl rw1) lr qr fun z1 H3 k3 _ f3 => ?_
    rw [can_rev] at f3
    have t3 := t1.k k3
    refine r_eqF t3.fx f3 q1 q1 ?_
    rw [decide_eq_true rfl, decide_eq_true rfl, Bool.and_self]
    walk_at "sts"
    refine r_eqF t3.fx t3.fy q1 q2 ?_
    walk_at "sts"
    refine r_eqDue t3.dp t3.dq q1 q2 ?_
    walk_at "sts"
    refine r_newForm (.inl (rw1.keep0 k3)) lr qr fun z2 H4 k4 _ f4 => ?_
    rw [can_rev] at f4
    have t4 := t3.k k4
    refine r_eqF t4.fx f4 q1 q1 ?_
    rw [decide_eq_true rfl, decide_eq_false (Ne.symm hoc), Bool.true_and]
    walk_at "sts"
    intro u hu
    have k5 : Keep [] H4 (upd H4 u (.tup [.str nm, .int 1])) := Keep.new hu
    have eu : upd H4 u (.tup [.str nm, .int 1]) u = some (.tup [.str nm, .int 1]) := upd_same
    have k25 := k3.trans (k4.trans k5)
    generalize upd H4 u (.tup [.str nm, .int 1]) = H5 at k5 eu k25 ⊢
    walk_at "sts"
    intro l3 hl3
    have k6 : Keep [] H5 (upd H5 l3 (.lst [.ref u])) := Keep.new hl3
    have el3 : upd H5 l3 (.lst [.ref u]) l3 = some (.lst ([u].map V.ref)) := upd_same
    have eu6 := k6 _ _ (by simp) eu
    have k26 := k25.trans k6
    generalize upd H5 l3 (.lst [.ref u]) = H6 at k6 el3 eu6 k26 ⊢
    have hD6 := k26 _ _ (by simp) hD
    have pt6 := pt1.rev.keep0 k26
    walk_at "sts"
    refine r_cat hD6 el3 (le_size (by simp only [List.length_map, List.length_reverse, List.length_singleton]; omega)) fun l4 hl4 => ?_
    have k7 : Keep [] H6 (upd H6 l4 (.lst ((as.reverse ++ [u]).map V.ref))) := Keep.new hl4
    have el4 : upd H6 l4 (.lst ((as.reverse ++ [u]).map V.ref)) l4 = some (.lst ((as.reverse ++ [u]).map V.ref)) := upd_same
    have rw7 : RowAt (upd H6 l4 (.lst ((as.reverse ++ [u]).map V.ref))) l4 (ts.reverse ++ [(nm, 1)]) := ⟨_, el4, (pt6.keep0 k7).app (bs := [u]) (us := [(nm, 1)]) ⟨k7 _ _ (by simp) eu6, trivial⟩⟩
    have k27 := k26.trans k7
    rw [← List.map_append]
    generalize upd H6 l4 (.lst ((as.reverse ++ [u]).map V.ref)) = H7 at k7 el4 rw7 k27 ⊢
    have t7 := t1.k k27
    obtain ⟨tp7, ep7, _⟩ := id t7.dp
    walk_at "sts"
    refine r_newForm (.inl rw7) (by rw [List.length_append, List.length_reverse, List.length_singleton]; omega) (fun t ht => (List.mem_append.mp ht).elim (qr t) fun h => by rw [List.mem_singleton.mp h]; exact hqn) fun z3 H8 k8 _ f8 => ?_
    have t8 := t7.k k8
    refine r_eqF t8.fx f8 q1 (can_names fun t ht => (List.mem_append.mp ht).elim (qr t) fun h => by rw [List.mem_singleton.mp h]; exact hqn) ?_
    rw [decide_eq_false can_more, Bool.false_and]
    obtain ⟨dx8, tt8, ex8, as8, et8, _⟩ := id t8.fx
    obtain ⟨tp8, ep8, _⟩ := id t8.dp
    have k28 := k27.trans k8
    walk_at "sts"
    refine r_eqO t8.fx (.tup et8) T.kt_Form ?_
    walk_at "sts"
    refine r_eqO t8.fx (.int _) T.is_Form ?_
    walk_at "sts"
    refine Ow.r_strOwn ex8 ⟨x, _, c, rfl, t8.fx, by omega, fun t ht => ⟨q1 t ht, w1 t ht⟩, c1, fun H9 k9 => ⟨_, rfl, ?_⟩⟩
    have t9 := t8.k k9
    refine r_eqO t9.fx (.str _) T.ks_Form ?_
    walk_at "sts"
    intro p9 hp9
    have k10 : Keep [] H9 (upd H9 p9 (.tup [])) := Keep.new hp9
    have e10 : upd H9 p9 (.tup []) p9 = some (.tup (([] : List Addr).map V.ref)) := upd_same
    have k210 := k28.trans (k9.trans k10)
    generalize upd H9 p9 (.tup []) = H10 at k10 e10 k210 ⊢
    walk_at "sts"
    refine r_newForm (ts := []) (.inr ⟨[], e10, trivial⟩) (by show 0 ≤ 60; omega) (by simp) fun z4 H11 k11 _ f11 => ?_
    walk_at "sts"
    refine r_eqO f11 (.int _) T.is_Form ?_
    walk_at "sts"
    exact qq H11 (k1.trans (k210.trans k11))
end
/-! ### is_quantity, is_word and what the law says of them -/
def headB (s : Str) : Bool := match s.cps.toList[0]? with
  | some c => decide (c ∈ lettersL)
  | none => false
def lastB (s : Str) : Bool := match s.cps.toList.getLast? with
  | some c => !decide (c = 46)
  | none => false
def goodB (s : Str) : Bool := (decide (1 ≤ s.length) && decide (s.length ≤ 12)) && (headB s && (lastB s && s.cps.toList.all fun c => decide (c ∈ signsL)))
def wordB (s : Str) : Bool := (decide (1 ≤ s.length) && decide (s.length ≤ 8)) && s.cps.toList.all fun c => decide (c ∈ lettersL)
def spIsQG : Sp := fun vs H Q _ => ∃ s : Str, vs = [.str s] ∧ s.length ≤ 1000 ∧ ∀ H', Keep [] H H' → Q (.bl (goodB s)) H'
def spIsWG : Sp := fun vs H Q _ => ∃ s : Str, vs = [.str s] ∧ s.length ≤ 1000 ∧ ∀ H', Keep [] H H' → Q (.bl (wordB s)) H'
theorem goodB_iff {s : Str} : goodB s = true ↔ IsQ s := by
  unfold goodB headB lastB
  constructor
  · intro h
    simp only [Bool.and_eq_true, decide_eq_true_eq, List.all_eq_true] at h
    obtain ⟨⟨h1, h2⟩, h3, h4, h5⟩ := h
    refine ⟨h2, ?_, ?_, h5⟩
    · cases e : s.cps.toList[0]? with
      | none => rw [e] at h3; cases h3
      | some c => rw [e] at h3; exact ⟨c, rfl, by simpa using h3⟩
    · cases e : s.cps.toList.getLast? with
      | none => rw [e] at h4; cases h4
      | some c => rw [e] at h4; exact ⟨c, rfl, by simpa using h4⟩
  · intro h
    obtain ⟨c, hc, hm⟩ := h.hd
    obtain ⟨d, hd, hn⟩ := h.la
    have hp := h.pos
    have hl := h.len
    have ha := h.al
    simp only [hc, hd, Bool.and_eq_true, decide_eq_true_eq, List.all_eq_true, Bool.not_eq_true', decide_eq_false_iff_not]
    exact ⟨⟨hp, hl⟩, hm, hn, ha⟩
theorem all_take {s : Str} {i c : Nat} {p : Nat → Bool} (h : s.cps[i]? = some c) : (s.cps.toList.take (i + 1)).all p = ((s.cps.toList.take i).all p && p c) := by
  have h' : s.cps.toList[i]? = some c := by rw [Array.getElem?_toList]; exact h
  rw [List.take_add_one, h', List.all_append]; simp
section
variable {P : Program} {w : World} {K : PySem.W.Frag} {mg : Str → Option Value} {base : Heap}
theorem ok_isWG (T : Tx K mg) : FnOk P w K mg base CX0 1 T.f_is_word T.fd_is_word ["text"] spIsWG := by
  refine T.F_is_word.ok sc_is_word (fun vs H Q E h => ?_) (fun cdv A outer s H vs Q E hr h => ?_)
  · obtain ⟨a, rfl, _⟩ := h; rfl
  · obtain ⟨t, rfl, hl, q⟩ := h
    have hz : t.length ≤ sizeLine := le_size (by omega)
    refine ⟨_, (pss_cons (ps_if (PW.pt (pw_or (pt_not (pt_val (pe_callB call_isi (by rfl) T.m_isinstance (by decide +kernel) (pa_cons (pv 0) (pa_cons (pe_bltn (v := .ty "str") (by rfl) T.m_str (by decide +kernel) rfl) pa_nil))))) (pw_or1 (pt_not (pt_chain op_le op_le pe_int (pe_callB call_len_str (by rfl) T.m_len PySem.boot_len (pa_cons (pv 0) pa_nil)) (pe_glob (v := .int (8)) rfl T.c_LONGEST_WORD.choose_spec ⟨_, rfl⟩))))))
    (pss_one (ps_ret pe_bl))
    pss_nil)
    (pss_one (ps_ret (pe_callB (cr_all rfl) (by rfl) T.m_all (by decide +kernel) (pa_cons (pe_lc (own := [("sign", 1)]) (g := gName 1) (tt := tYes) rfl sc_is_word.nd (pi_str (pv 0)) (blkOk_by (own := [("sign", 1)]) (N := ["text", "sign"]) (sc := defScope s_is_word) (by decide +kernel)) (fun _ _ _ _ _ => pg_name (i := 1) sc_is_word.nd rfl (Or.inl rfl)) (fun _ _ _ _ _ => pts_nil) (fun _ _ _ _ _ => (pe_cmpR op_inSg (pv 1) (pe_glob (v := .str "abcdefghijklmnopqrstuvwxyz") rfl T.c_LETTERS.choose_spec ⟨_, rfl⟩) (by rfl)))) pa_nil))))), ?_⟩
    by_cases h1 : 1 ≤ t.length
    case neg =>
      walk_at "start"
      walk_at "sts"
      refine ⟨hz, ?_⟩
      walk_at "sts"
      have e : wordB t = false := by unfold wordB; rw [decide_eq_false h1]; rfl
      rw [← e]; exact q H (Keep.refl _ _)
    by_cases h2 : t.length ≤ 8
    case neg =>
      walk_at "start"
      walk_at "sts"
      refine ⟨hz, ?_⟩
      walk_at "sts"
      have e : wordB t = false := by unfold wordB; rw [decide_eq_false h2, Bool.and_false]; rfl
      rw [← e]; exact q H (Keep.refl _ _)
    walk_at "start"
    walk_at "sts"
    refine ⟨hz, ?_⟩
    walk_at "sts"
    refine lcS_go (fun D i acc H' => (∃ bs : List Bool, acc = bs.map V.bl ∧ bs.length = i ∧ bs.all id = (t.cps.toList.take i).all fun c => decide (c ∈ lettersL)) ∧ Keep [] H H' ∧ H D = none) (fun D hD => ⟨⟨[], rfl, rfl, rfl⟩, Keep.new hD, hD⟩) ?_ ?_
    · rintro D i c acc H' hc hD ⟨⟨bs, rfl, lb, hb⟩, hk, hn⟩
      walk_at "sts"
      have h3 := (Array.getElem?_eq_some_iff.mp hc).1
      have h4 : t.cps.size = t.length := rfl
      refine lc_put hD (by rw [List.length_map]; exact lt_size (by omega)) ⟨⟨bs ++ [decide (c ∈ lettersL)], by rw [List.map_append]; rfl, by simp [lb], ?_⟩, hk.mut hn, hn⟩
      rw [all_take hc, List.all_append, hb]; simp
    · rintro D acc H' hD hD' ⟨⟨bs, rfl, lb, hb⟩, hk, hn⟩
      walk_at "sts"
      refine r_all (bs := bs) (sqL_of hD') ?_
      rw [hb, List.take_of_length_le (by simp)]
      have e : wordB t = t.cps.toList.all fun c => decide (c ∈ lettersL) := by unfold wordB; rw [decide_eq_true h1, decide_eq_true h2]; rfl
      rw [← e]
      exact q _ hk
theorem ok_isQG (T : Tx K mg) : FnOk P w K mg base CX0 1 T.f_is_quantity T.fd_is_quantity ["text"] spIsQG := by
  refine T.F_is_quantity.ok sc_is_quantity (fun vs H Q E h => ?_) (fun cdv A outer s H vs Q E hr h => ?_)
  · obtain ⟨a, rfl, _⟩ := h; rfl
  · obtain ⟨t, rfl, hl, q⟩ := h
    have hz : t.length ≤ sizeLine := le_size (by omega)
    refine ⟨_, (pss_cons (ps_if (PW.pt (pw_or (pt_not (pt_val (pe_callB call_isi (by rfl) T.m_isinstance (by decide +kernel) (pa_cons (pv 0) (pa_cons (pe_bltn (v := .ty "str") (by rfl) T.m_str (by decide +kernel) rfl) pa_nil))))) (pw_or1 (pt_not (pt_chain op_le op_le pe_int (pe_callB call_len_str (by rfl) T.m_len PySem.boot_len (pa_cons (pv 0) pa_nil)) (pe_glob (v := .int (12)) rfl T.c_LONGEST_QUANTITY.choose_spec ⟨_, rfl⟩))))))
    (pss_one (ps_ret pe_bl))
    pss_nil)
    (pss_cons (ps_if (PW.pt (pw_or (pt_cmpR op_ninSg (pe_ix ix_str (pv 0) pe_int (fun _ _ => rfl)) (pe_glob (v := .str "abcdefghijklmnopqrstuvwxyz") rfl T.c_LETTERS.choose_spec ⟨_, rfl⟩) (by rfl)) (pw_or1 (pt_cmpR op_eq (pe_ix ix_str (pv 0) (pe_un un_neg pe_int) (fun _ _ => rfl)) pe_str (nomark _)))))
    (pss_one (ps_ret pe_bl))
    pss_nil)
    (pss_one (ps_ret (pe_callB (cr_all rfl) (by rfl) T.m_all (by decide +kernel) (pa_cons (pe_lc (own := [("sign", 1)]) (g := gName 1) (tt := tYes) rfl sc_is_quantity.nd (pi_str (pv 0)) (blkOk_by (own := [("sign", 1)]) (N := ["text", "sign"]) (sc := defScope s_is_quantity) (by decide +kernel)) (fun _ _ _ _ _ => pg_name (i := 1) sc_is_quantity.nd rfl (Or.inl rfl)) (fun _ _ _ _ _ => pts_nil) (fun _ _ _ _ _ => (pe_cmpR op_inSg (pv 1) (pe_glob (v := .str "abcdefghijklmnopqrstuvwxyz.0123456789") rfl T.c_QUANTITY_SIGNS.choose_spec ⟨_, rfl⟩) (by rfl)))) pa_nil)))))), ?_⟩
    by_cases h1 : 1 ≤ t.length
    case neg =>
      walk_at "start"
      walk_at "sts"
      refine ⟨hz, ?_⟩
      walk_at "sts"
      have e : goodB t = false := by unfold goodB; rw [decide_eq_false h1]; rfl
      rw [← e]; exact q H (Keep.refl _ _)
    by_cases h2 : t.length ≤ 12
    case neg =>
      walk_at "start"
      walk_at "sts"
      refine ⟨hz, ?_⟩
      walk_at "sts"
      have e : goodB t = false := by unfold goodB; rw [decide_eq_false h2, Bool.and_false]; rfl
      rw [← e]; exact q H (Keep.refl _ _)
    have lt : t.cps.toList.length = t.length := rfl
    obtain ⟨c0, hc0⟩ : ∃ c, t.cps.toList[0]? = some c := ⟨_, List.getElem?_eq_getElem (by omega)⟩
    obtain ⟨c1, hc1⟩ : ∃ c, t.cps.toList.getLast? = some c := ⟨_, List.getLast?_eq_some_getLast (by rintro e; rw [e] at lt; simp at lt; omega)⟩
    have hh : headB t = decide (c0 ∈ lettersL) := by unfold headB; rw [hc0]
    have hb1 : lastB t = !decide (c1 = 46) := by unfold lastB; rw [hc1]
    have base0 : goodB t = (decide (c0 ∈ lettersL) && ((!decide (c1 = 46)) && t.cps.toList.all fun c => decide (c ∈ signsL))) := by
      unfold goodB; rw [decide_eq_true h1, decide_eq_true h2, hh, hb1]; rfl
    walk_at "start"
    walk_at "sts"
    refine ⟨hz, ?_⟩
    walk_at "sts"
    refine r_ixS hz (atI_nat (j := 0) hc0) ?_
    walk_at "sts"
    by_cases hm0 : c0 ∈ lettersL
    case neg =>
      rw [show decide (c0 ∈ (Str.ofString "abcdefghijklmnopqrstuvwxyz").cps.toList) = false from decide_eq_false hm0, if_pos (show (!false) = true from rfl), if_pos rfl]
      have e : goodB t = false := by rw [base0, decide_eq_false hm0]; rfl
      walk_at "sts"
      rw [← e]; exact q H (Keep.refl _ _)
    refine r_iteNF (by exact hm0) ?_
    walk_at "sts"
    refine r_ixS hz (atI_m1 hc1) ?_
    walk_at "sts"
    by_cases hm1 : c1 = 46
    case pos =>
      rw [show decide (({ cps := #[c1] } : Str) = Str.ofString ".") = true from decide_eq_true (by rw [hm1]; rfl), if_pos rfl]
      have e : goodB t = false := by rw [base0, decide_eq_true hm1, decide_eq_true hm0]; rfl
      walk_at "sts"
      rw [← e]; exact q H (Keep.refl _ _)
    refine r_iteF (one_ne hm1) ?_
    walk_at "sts"
    refine lcS_go (fun D i acc H' => (∃ bs : List Bool, acc = bs.map V.bl ∧ bs.length = i ∧ bs.all id = (t.cps.toList.take i).all fun c => decide (c ∈ signsL)) ∧ Keep [] H H' ∧ H D = none) (fun D hD => ⟨⟨[], rfl, rfl, rfl⟩, Keep.new hD, hD⟩) ?_ ?_
    · rintro D i c acc H' hc hD ⟨⟨bs, rfl, lb, hb⟩, hk, hn⟩
      walk_at "sts"
      have h3 := (Array.getElem?_eq_some_iff.mp hc).1
      have h4 : t.cps.size = t.length := rfl
      refine lc_put hD (by rw [List.length_map]; exact lt_size (by omega)) ⟨⟨bs ++ [decide (c ∈ signsL)], by rw [List.map_append]; rfl, by simp [lb], ?_⟩, hk.mut hn, hn⟩
      rw [all_take hc, List.all_append, hb]; simp
    · rintro D acc H' hD hD' ⟨⟨bs, rfl, lb, hb⟩, hk, hn⟩
      walk_at "sts"
      refine r_all (bs := bs) (sqL_of hD') ?_
      rw [hb, List.take_of_length_le (by simp)]
      have e : goodB t = t.cps.toList.all fun c => decide (c ∈ signsL) := by rw [base0, decide_eq_true hm0, decide_eq_false hm1]; rfl
      rw [← e]
      exact q _ hk
end
/-! ### letters, words and quantities, as the law reads them -/
def ForS (G : TG) (ts : TS) (D : L2.Ends) (σ : L2.St) (v : V) (H : Hp) : Prop := ∃ z, v = .str z ∧ ∃ W : Nat → Nat → L2.St → Hp → Prop, (∃ m, W 0 m σ H) ∧ ∀ i m σ H, W i m σ H →
  ((Its z).stop i H ∧ D.nx σ H) ∨ ((Its z).go i H ∧ ∃ N : L2.St → Hp → Prop, (∀ σ' H', N σ' H' → ∃ m', m' < m ∧ W (i + 1) m' σ' H') ∧ ∀ x H', (Its z).yld i H x H' → G x σ H' fun σ2 H2 => ts { D with nx := N, ct := N, bk := D.nx } σ2 H2)
section
variable {G : TG} {ts : TS} {D : L2.Ends} {σ : L2.St} {H : Hp} {tl : TE}
theorem r_forS (k : tl σ H fun x H1 => ForS G ts D σ x H1) : tFor (iStr tl) G ts D σ H := k
theorem forS_go {z : Str} (Pv : Nat → L2.St → Hp → Prop) (h0 : Pv 0 σ H) (hs : ∀ (i : Nat) c σ' H', z.cps[i]? = some c → Pv i σ' H' → G (.str ⟨#[c]⟩) σ' H' fun σ2 H2 => ts { D with nx := Pv (i + 1), ct := Pv (i + 1), bk := D.nx } σ2 H2)
    (hd : ∀ σ' H', Pv z.cps.size σ' H' → D.nx σ' H') : ForS G ts D σ (.str z) H :=
  ⟨z, rfl, for_it (walk_str (z := z)) Pv h0 (fun _ _ _ _ _ => True.intro) (fun i x σ' H1 H' hi p ⟨e, c, hc, hx⟩ => by
    subst e; subst hx
    exact hs i c σ' _ hc p) fun σ' H' p => hd σ' H' p⟩
end
def inB (sg s : Str) : Bool := s.cps.toList.all fun c => decide (c ∈ sg.cps.toList)
def spLetters : Sp := fun vs H Q _ => ∃ s sg : Str, vs = [.str s, .str sg] ∧ s.length ≤ 1000 ∧ Q (.bl (inB sg s)) H
def spLWord : Sp := fun vs H Q _ => ∃ s : Str, vs = [.str s] ∧ s.length ≤ 1000 ∧ Q (.bl (wordB s)) H
def spLGood : Sp := fun vs H Q _ => ∃ s : Str, vs = [.str s] ∧ s.length ≤ 1000 ∧ Q (.bl (goodB s)) H
theorem inB_stop {sg s : Str} {i c : Nat} (h : s.cps[i]? = some c) (n : ¬ c ∈ sg.cps.toList) : inB sg s = false := by
  unfold inB
  rw [List.all_eq_false]
  exact ⟨c, Array.mem_toList_iff.mpr (Array.mem_of_getElem? h), by simp [n]⟩
theorem inB_letters {s : Str} : inB (Str.ofString "abcdefghijklmnopqrstuvwxyz") s = s.cps.toList.all fun c => decide (c ∈ lettersL) := rfl
theorem signs_same : (∀ c ∈ (Str.ofString "abcdefghijklmnopqrstuvwxyz0123456789.").cps.toList, c ∈ signsL) ∧ ∀ c ∈ signsL, c ∈ (Str.ofString "abcdefghijklmnopqrstuvwxyz0123456789.").cps.toList := by decide +kernel
theorem inB_signs {s : Str} : inB (Str.ofString "abcdefghijklmnopqrstuvwxyz0123456789.") s = s.cps.toList.all fun c => decide (c ∈ signsL) := by
  unfold inB
  congr 1
  funext c
  rw [Bool.eq_iff_iff, decide_eq_true_eq, decide_eq_true_eq]
  exact ⟨signs_same.1 c, signs_same.2 c⟩
section
variable {P : Program} {w : World} {K : PySem.W.Frag} {mg : Str → Option Value} {base : Heap}
theorem ok_letters (T : Tx K mg) : FnOk P w K mg base CX0 1 T.f_w_letters T.fd_w_letters ["_law_text", "_law_signs"] spLetters := by
  refine T.F_w_letters.ok sc_w_letters (fun vs H Q E h => ?_) (fun cdv A outer s H vs Q E hr h => ?_)
  · obtain ⟨s, sg, rfl, _⟩ := h; rfl
  · obtain ⟨t, sg, rfl, hl, q⟩ := h
    refine ⟨_, (pss_cons (ps_for PassesOwn.never rfl (pi_str (pv 0)) (pg_name (i := 2) sc_w_letters.nd rfl (Or.inl rfl))
    (pss_one (ps_if (pt_cmpR op_ninSg (pv 2) (pv 1) (by rfl))
    (pss_one (ps_ret pe_bl))
    pss_nil)))
    (pss_one (ps_ret pe_bl))), ?_⟩
    walk_at "start"
    refine r_forS ?_
    walk_at "sts"
    refine forS_go (fun i σ' H' => ∃ y : Option V, σ' = [some (.str t), some (.str sg), y] ∧ H' = H ∧ (t.cps.toList.take i).all (fun c => decide (c ∈ sg.cps.toList)) = true) ⟨_, by first | exact rfl | trivial, rfl, rfl⟩ ?_ ?_
    · rintro i c σ' H' hc ⟨y, rfl, rfl, ha⟩
      walk_at "sts"
      by_cases hm : c ∈ sg.cps.toList
      · rw [decide_eq_true hm]
        walk_at "sts"
        exact ⟨_, by first | exact rfl | trivial, rfl, by rw [all_take hc, ha, decide_eq_true hm]; rfl⟩
      · rw [decide_eq_false hm]
        walk_at "sts"
        rw [← inB_stop hc hm]; exact q
    · rintro σ' H' ⟨y, rfl, rfl, ha⟩
      walk_at "sts"
      rw [List.take_of_length_le (by simp)] at ha
      rw [← (show inB sg t = true from ha)]; exact q
theorem ok_lword (T : Tx K mg) (G_w_letters : FnOk P w K mg base CX0 1 T.f_w_letters T.fd_w_letters ["_law_text", "_law_signs"] spLetters) : FnOk P w K mg base CX0 2 T.f_w_word T.fd_w_word ["_law_text"] spLWord := by
  refine T.F_w_word.ok sc_w_word (fun vs H Q E h => ?_) (fun cdv A outer s H vs Q E hr h => ?_)
  · obtain ⟨s, rfl, _⟩ := h; rfl
  · obtain ⟨t, rfl, hl, q⟩ := h
    have hz : t.length ≤ sizeLine := le_size (by omega)
    refine ⟨_, (pss_one (ps_ret (pe_and (pe_chain op_le op_le pe_int (pe_callB call_len_str (by rfl) T.m_len PySem.boot_len (pa_cons (pv 0) pa_nil)) pe_int) (pe_one (pe_call G_w_letters (hr.mono (by decide)) rfl T.g_w_letters T.F_w_letters.kp T.b_w_letters .nil pass0 (pa_cons (pv 0) (pa_cons pe_str pa_nil))))))), ?_⟩
    by_cases h1 : 1 ≤ t.length
    case neg =>
      walk_at "start"
      walk_at "sts"
      refine ⟨hz, ?_⟩
      walk_at "sts"
      have e : wordB t = false := by unfold wordB; rw [decide_eq_false h1]; rfl
      rw [e] at q
      exact q
    by_cases h2 : t.length ≤ 8
    case neg =>
      walk_at "start"
      walk_at "sts"
      refine ⟨hz, ?_⟩
      walk_at "sts"
      have e : wordB t = false := by unfold wordB; rw [decide_eq_false h2, Bool.and_false]; rfl
      rw [e] at q
      exact q
    walk_at "start"
    walk_at "sts"
    refine ⟨hz, ?_⟩
    walk_at "sts"
    have e : wordB t = inB (Str.ofString "abcdefghijklmnopqrstuvwxyz") t := by unfold wordB; rw [decide_eq_true h1, decide_eq_true h2]; rfl
    rw [e] at q
    exact ⟨t, _, rfl, hl, q⟩
theorem ok_lgood (T : Tx K mg) (G_w_letters : FnOk P w K mg base CX0 1 T.f_w_letters T.fd_w_letters ["_law_text", "_law_signs"] spLetters) : FnOk P w K mg base CX0 2 T.f_w_good T.fd_w_good ["_law_text"] spLGood := by
  refine T.F_w_good.ok sc_w_good (fun vs H Q E h => ?_) (fun cdv A outer s H vs Q E hr h => ?_)
  · obtain ⟨s, rfl, _⟩ := h; rfl
  · obtain ⟨t, rfl, hl, q⟩ := h
    have hz : t.length ≤ sizeLine := le_size (by omega)
    refine ⟨_, (pss_cons (ps_if (PW.pt (pw_or (pt_not (pt_chain op_le op_le pe_int (pe_callB call_len_str (by rfl) T.m_len PySem.boot_len (pa_cons (pv 0) pa_nil)) pe_int)) (pw_or1 (pt_not (pt_val (pe_call G_w_letters (hr.mono (by decide)) rfl T.g_w_letters T.F_w_letters.kp T.b_w_letters .nil pass0 (pa_cons (pe_ix ix_str (pv 0) pe_int (fun _ _ => rfl)) (pa_cons pe_str pa_nil))))))))
    (pss_one (ps_ret pe_bl))
    pss_nil)
    (pss_one (ps_ret (pe_and (pe_call G_w_letters (hr.mono (by decide)) rfl T.g_w_letters T.F_w_letters.kp T.b_w_letters .nil pass0 (pa_cons (pv 0) (pa_cons pe_str pa_nil))) (pe_one (pe_cmpR op_ne (pe_ix ix_str (pv 0) (pe_un un_neg pe_int) (fun _ _ => rfl)) pe_str (nomark _))))))), ?_⟩
    by_cases h1 : 1 ≤ t.length
    case neg =>
      walk_at "start"
      walk_at "sts"
      refine ⟨hz, ?_⟩
      walk_at "sts"
      have e : goodB t = false := by unfold goodB; rw [decide_eq_false h1]; rfl
      rw [e] at q
      exact q
    by_cases h2 : t.length ≤ 12
    case neg =>
      walk_at "start"
      walk_at "sts"
      refine ⟨hz, ?_⟩
      walk_at "sts"
      have e : goodB t = false := by unfold goodB; rw [decide_eq_false h2, Bool.and_false]; rfl
      rw [e] at q
      exact q
    have lt : t.cps.toList.length = t.length := rfl
    obtain ⟨c0, hc0⟩ : ∃ c, t.cps.toList[0]? = some c := ⟨_, List.getElem?_eq_getElem (by omega)⟩
    obtain ⟨c1, hc1⟩ : ∃ c, t.cps.toList.getLast? = some c := ⟨_, List.getLast?_eq_some_getLast (by rintro e; rw [e] at lt; simp at lt; omega)⟩
    have hh : headB t = decide (c0 ∈ lettersL) := by unfold headB; rw [hc0]
    have hb1 : lastB t = !decide (c1 = 46) := by unfold lastB; rw [hc1]
    have base0 : goodB t = (decide (c0 ∈ lettersL) && ((!decide (c1 = 46)) && t.cps.toList.all fun c => decide (c ∈ signsL))) := by
      unfold goodB; rw [decide_eq_true h1, decide_eq_true h2, hh, hb1]; rfl
    have hone : inB (Str.ofString "abcdefghijklmnopqrstuvwxyz") ⟨#[c0]⟩ = decide (c0 ∈ lettersL) := by
      rw [inB_letters]; simp
    walk_at "start"
    walk_at "sts"
    refine ⟨hz, ?_⟩
    walk_at "sts"
    refine r_ixS hz (atI_nat (j := 0) hc0) ?_
    walk_at "sts"
    refine ⟨_, _, rfl, by show 1 ≤ 1000; omega, ?_⟩
    rw [hone]
    by_cases hm0 : c0 ∈ lettersL
    case neg =>
      rw [decide_eq_false hm0] at base0 ⊢
      rw [Bool.false_and] at base0
      rw [base0] at q
      walk_at "sts"
      exact q
    rw [decide_eq_true hm0] at base0 ⊢
    rw [Bool.true_and] at base0
    walk_at "sts"
    refine ⟨t, _, rfl, hl, ?_⟩
    rw [inB_signs]
    cases hal : (t.cps.toList.all fun c => decide (c ∈ signsL)) with
    | false =>
      rw [hal, Bool.and_false] at base0
      rw [base0] at q
      walk_at "sts"
      exact q
    | true =>
      rw [hal, Bool.and_true] at base0
      rw [base0] at q
      walk_at "sts"
      refine r_ixS hz (atI_m1 hc1) ?_
      walk_at "sts"
      have e2 : decide (({ cps := #[c1] } : Str) = Str.ofString ".") = decide (c1 = 46) := by
        by_cases h : c1 = 46
        · rw [decide_eq_true h, decide_eq_true (by rw [h]; rfl)]
        · rw [decide_eq_false h, show decide (({ cps := #[c1] } : Str) = Str.ofString ".") = false from decide_eq_false (one_ne h)]
      rw [e2]
      exact q
end
/-! ### texts near a name -/
def CodesOk (t : Str) : Prop := ∀ c ∈ t.cps.toList, c < 0x110000
theorem CodesOk.app {x y : Str} (hx : CodesOk x) (hy : CodesOk y) : CodesOk (x ++ y) := fun c hc => by
  rw [tl_app] at hc
  exact (List.mem_append.mp hc).elim (hx c) (hy c)
theorem CodesOk.cut {x : Str} (h : CodesOk x) (a b : Option Int) : CodesOk (cutS x a b) := fun c hc => by
  unfold cutS at hc
  exact h c (List.mem_of_mem_drop (List.mem_of_mem_take (by simpa using hc)))
theorem cut_len {x : Str} {a b : Option Int} : (cutS x a b).length ≤ x.length := by
  rw [len_tl]
  unfold cutS
  show (((x.cps.toList.drop _).take _).toArray).toList.length ≤ _
  simp only [List.length_take, List.length_drop]
  have : x.length = x.cps.toList.length := rfl
  omega
theorem CodesOk.one {c : Nat} (h : c < 0x110000) : CodesOk ⟨#[c]⟩ := fun d hd => by
  have : d = c := by simpa using hd
  rw [this]; exact h
theorem signs_codes : ∀ c ∈ signsL, c < 0x110000 := by decide +kernel
theorem IsQ.codes {s : Str} (h : IsQ s) : CodesOk s := fun c hc => signs_codes c (h.al c hc)
theorem upper_codes : ∀ c ∈ signsL, ∀ d ∈ PySem.Unicode.upperOf c, d < 0x110000 := by decide +kernel
theorem CodesOk.upper {s : Str} (h : IsQ s) : CodesOk (Txt.upper s) := fun c hc => by
  have hc2 : c ∈ (s.cps.mapIdx fun _ c => (PySem.Unicode.upperOf c).toArray).flatten := Array.mem_toList_iff.mp hc
  obtain ⟨arr, ha, hca⟩ := Array.mem_flatten.mp hc2
  obtain ⟨i, hi, e⟩ := Array.mem_mapIdx.mp ha
  subst e
  exact upper_codes _ (h.al _ (Array.mem_toList_iff.mpr (Array.getElem_mem hi))) c (by simpa using hca)
theorem lit_codes : (∀ c ∈ (Str.ofString ".").cps.toList, c < 0x110000) ∧ (∀ c ∈ (Str.ofString "0123456789").cps.toList, c < 0x110000) ∧ (∀ c ∈ (Str.ofString " ABZ_-+:,;/~!\n").cps.toList, c < 0x110000) ∧ (∀ c ∈ (Str.ofString "abcdefghijklm").cps.toList, c < 0x110000) ∧ (∀ c ∈ (Str.ofString "abcdefghijkl").cps.toList, c < 0x110000) := by decide +kernel
theorem r_m0 {r : V → List V → Hp → VK → Prop} {to : TE} {σ : L2.St} {H : Hp} {Q : VK} (k : to σ H fun x H1 => (∃ a, x = .str a) ∧ r x [] H1 Q) : tM0 r to σ H Q := k
def spNear : Sp := fun vs H Q _ => ∃ (a : Addr) (s : Str), vs = [.ref a, .str s] ∧ PotAt a H ∧ IsQ s ∧ ∀ (t : Str) (H' : Hp), t.length ≤ 40 → CodesOk t → Keep [a] H H' → PotAt a H' → Q (.str t) H'
section
variable {P : Program} {w : World} {K : PySem.W.Frag} {mg : Str → Option Value} {base : Heap}
theorem ok_near (T : Tx K mg) (G_w_take : GTake P w K mg base T) : FnOk P w K mg base CX0 2 T.f_w_near T.fd_w_near ["_law_pot_here", "_law_text"] spNear := by
  refine T.F_w_near.ok sc_w_near (fun vs H Q E h => ?_) (fun cdv A outer s H vs Q E hr h => ?_)
  · obtain ⟨a, s, rfl, _⟩ := h; rfl
  · obtain ⟨a, t, rfl, hp, hq, q⟩ := h
    have hl := hq.len
    have hco := hq.codes
    have hz : t.length ≤ sizeLine := le_size (by omega)
    refine ⟨_, (pss_cons (ps_set (i := 2) sc_w_near.nd rfl (Or.inl rfl) (pe_call G_w_take (hr.mono (by decide)) rfl T.g_w_take T.F_w_take.kp T.b_w_take .nil pass0 (pa_cons (pv 0) (pa_cons pe_int pa_nil))))
    (pss_cons (ps_if (pt_cmpR op_eq (pv 2) pe_int (nomark _))
    (pss_one (ps_ret (pe_op op_addS (pv 1) pe_str)))
    pss_nil)
    (pss_cons (ps_if (pt_cmpR op_eq (pv 2) pe_int (nomark _))
    (pss_one (ps_ret (pe_op op_addS pe_str (pv 1))))
    pss_nil)
    (pss_cons (ps_if (pt_cmpR op_eq (pv 2) pe_int (nomark _))
    (pss_one (ps_ret (pe_op op_addS (pe_ix ix_str pe_str (pe_call G_w_take (hr.mono (by decide)) rfl T.g_w_take T.F_w_take.kp T.b_w_take .nil pass0 (pa_cons (pv 0) (pa_cons pe_int pa_nil))) (fun _ _ => rfl)) (pv 1))))
    pss_nil)
    (pss_cons (ps_if (pt_cmpR op_eq (pv 2) pe_int (nomark _))
    (pss_cons (ps_set (i := 3) sc_w_near.nd rfl (Or.inl rfl) pe_str)
    (pss_cons (ps_set (i := 4) sc_w_near.nd rfl (Or.inl rfl) (pe_call G_w_take (hr.mono (by decide)) rfl T.g_w_take T.F_w_take.kp T.b_w_take .nil pass0 (pa_cons (pv 0) (pa_cons (pe_op op_add (pe_callB call_len_str (by rfl) T.m_len PySem.boot_len (pa_cons (pv 1) pa_nil)) pe_int) pa_nil))))
    (pss_one (ps_ret (pe_op op_addS (pe_op op_addS (pe_slice sl_str (pv 1) po_none (po_some (pv 4))) (pe_ix ix_str (pv 3) (pe_call G_w_take (hr.mono (by decide)) rfl T.g_w_take T.F_w_take.kp T.b_w_take .nil pass0 (pa_cons (pv 0) (pa_cons (pe_callB call_len_str (by rfl) T.m_len PySem.boot_len (pa_cons (pv 3) pa_nil)) pa_nil))) (fun _ _ => rfl))) (pe_slice sl_str (pv 1) (po_some (pv 4)) po_none))))))
    pss_nil)
    (pss_cons (ps_if (pt_cmpR op_eq (pv 2) pe_int (nomark _))
    (pss_one (ps_ret (pe_slice sl_str (pe_op op_addS (pv 1) pe_str) po_none (po_some pe_int))))
    pss_nil)
    (pss_cons (ps_if (pt_cmpR op_eq (pv 2) pe_int (nomark _))
    (pss_one (ps_ret pe_str))
    pss_nil)
    (pss_cons (ps_if (pt_cmpR op_eq (pv 2) pe_int (nomark _))
    (pss_one (ps_ret (pe_upper (pv 1))))
    pss_nil)
    (pss_one (ps_ret (pe_slice sl_str (pe_op op_addS (pv 1) pe_str) po_none (po_some pe_int)))))))))))), ?_⟩
    walk_at "start"
    walk_at "sts"
    refine r_take hp (by omega) (by omega) fun n H1 a1 b1 k1 p1 => ?_
    walk_at "sts"
    obtain ⟨g1, g2, g3, g4, g5⟩ := lit_codes
    refine r_ite (fun c1 => ?_) (fun c1 => ?_)
    · walk_at "sts"
      refine r_addS (le_size (by show t.length + 1 ≤ 100000; omega)) ?_
      exact q _ H1 (by rw [len_app]; show t.length + 1 ≤ 40; omega) (hco.app g1) k1 p1
    walk_at "sts"
    refine r_ite (fun c2 => ?_) (fun c2 => ?_)
    · walk_at "sts"
      refine r_addS (le_size (by show 1 + t.length ≤ 100000; omega)) ?_
      exact q _ H1 (by rw [len_app]; show 1 + t.length ≤ 40; omega) (CodesOk.app g1 hco) k1 p1
    walk_at "sts"
    refine r_ite (fun c3 => ?_) (fun c3 => ?_)
    · walk_at "sts"
      refine r_take p1 (by omega) (by omega) fun m H2 a2 b2 k2 p2 => ?_
      obtain ⟨x, hx, hm⟩ := atI_nn (xs := (Str.ofString "0123456789").cps.toList) (i := m) a2 (by show m < 10; omega)
      refine r_ixS (by show 10 ≤ _; exact le_size (by omega)) hx ?_
      walk_at "sts"
      refine r_addS (le_size (by show 1 + t.length ≤ 100000; omega)) ?_
      exact q _ H2 (by rw [len_app]; show 1 + t.length ≤ 40; omega) ((CodesOk.one (g2 x hm)).app hco) (k1.trans k2) p2
    walk_at "sts"
    refine r_ite (fun c4 => ?_) (fun c4 => ?_)
    · walk_at "sts"
      refine ⟨hz, ?_⟩
      walk_at "sts"
      refine r_take p1 (by omega) (by omega) fun m H2 a2 b2 k2 p2 => ?_
      walk_at "sts"
      refine r_slS hz ?_
      walk_at "sts"
      refine ⟨le_size (by show 14 ≤ 100000; omega), ?_⟩
      walk_at "sts"
      rw [show (((Str.ofString " ABZ_-+:,;/~!\n").length : Nat) : Int) = 14 from rfl]
      refine r_take p2 (by omega) (by omega) fun u H3 a3 b3 k3 p3 => ?_
      obtain ⟨x, hx, hm⟩ := atI_nn (xs := (Str.ofString " ABZ_-+:,;/~!\n").cps.toList) (i := u) a3 (by show u < 14; omega)
      refine r_ixS (le_size (by show 14 ≤ 100000; omega)) hx ?_
      have cl1 := cut_len (x := t) (a := none) (b := some m)
      have cl2 := cut_len (x := t) (a := some m) (b := none)
      have l1 : (({ cps := #[x] } : Str)).length = 1 := rfl
      have e1 : (cutS t none (some m) ++ ({ cps := #[x] } : Str)).length = (cutS t none (some m)).length + 1 := by rw [len_app, l1]
      walk_at "sts"
      refine r_addS (le_size (by rw [l1]; omega)) ?_
      walk_at "sts"
      refine r_slS hz ?_
      refine r_addS (le_size (by rw [e1]; omega)) ?_
      exact q _ H3 (by rw [len_app, e1]; omega) (((hco.cut _ _).app (CodesOk.one (g3 x hm))).app (hco.cut _ _)) (k1.trans (k2.trans k3)) p3
    walk_at "sts"
    refine r_ite (fun c5 => ?_) (fun c5 => ?_)
    · walk_at "sts"
      refine r_addS (le_size (by show t.length + 13 ≤ 100000; omega)) ?_
      have e : (t ++ Str.ofString "abcdefghijklm").length = t.length + 13 := by rw [len_app]; rfl
      walk_at "sts"
      refine r_slS (le_size (by rw [e]; omega)) ?_
      exact q _ H1 (by have := cut_len (x := t ++ Str.ofString "abcdefghijklm") (a := none) (b := some 13); omega) ((hco.app g4).cut _ _) k1 p1
    walk_at "sts"
    refine r_ite (fun c6 => ?_) (fun c6 => ?_)
    · walk_at "sts"
      exact q _ H1 (by show 0 ≤ 40; omega) (fun c hc => by cases hc) k1 p1
    walk_at "sts"
    refine r_ite (fun c7 => ?_) (fun c7 => ?_)
    · walk_at "sts"
      refine r_m0 ?_
      walk_at "sts"
      exact ⟨⟨t, rfl⟩, t, rfl, rfl, by omega, q _ H1 (by have := PyProof.Rows.len_upper t; omega) (CodesOk.upper hq) k1 p1⟩
    walk_at "sts"
    refine r_addS (le_size (by show t.length + 12 ≤ 100000; omega)) ?_
    have e : (t ++ Str.ofString "abcdefghijkl").length = t.length + 12 := by rw [len_app]; rfl
    walk_at "sts"
    refine r_slS (le_size (by rw [e]; omega)) ?_
    exact q _ H1 (by have := cut_len (x := t ++ Str.ofString "abcdefghijkl") (a := none) (b := some 12); omega) ((hco.app g5).cut _ _) k1 p1
end
/-! ### worlds that may lack names -/
theorem PotAt.ml {a : Addr} {H : Hp} (h : PotAt a H) : ∀ m ∈ [a], ∃ ys, H m = some (.lst ys) := fun m hm => by
  obtain ⟨P, e, _⟩ := h
  rw [List.mem_singleton.mp hm]; exact ⟨_, e⟩
theorem PotAt.keep0 {a : Addr} {H H' : Hp} (h : PotAt a H) (k : Keep [] H H') : PotAt a H' := by
  obtain ⟨P, e, hP⟩ := h
  exact ⟨P, k _ _ (by simp) e, hP⟩
abbrev sLe : Str := Str.ofString "<="
abbrev sLt : Str := Str.ofString "<"
abbrev sEq : Str := Str.ofString "="
def WorldAt (H : Hp) (m : Addr) (ns : List Str) (W : Fm.Wd) : Prop := ∃ kvs : List (Key × V), H m = some (.dK kvs) ∧ kvs.map (·.1) = ns.map Sum.inr ∧ ns.Nodup ∧ ∀ z ∈ ns, LevAt H kvs W z ∧ 0 < (W z).2 ∧ (W z).1.natAbs < 2 ^ 100 ∧ (W z).2.natAbs < 2 ^ 100
theorem WorldAt.keep {H H' : Hp} {M : List Addr} {m : Addr} {ns : List Str} {W : Fm.Wd} (h : WorldAt H m ns W) (k : Keep M H H') (n : ∀ m ∈ M, ∃ xs, H m = some (.lst xs)) : WorldAt H' m ns W := by
  obtain ⟨kvs, e, h1, h2, h3⟩ := h
  refine ⟨kvs, k _ _ (fun hm => ?_) e, h1, h2, fun z hz => ⟨(h3 z hz).1.keep k n, (h3 z hz).2⟩⟩
  obtain ⟨ys, hy⟩ := n m hm
  rw [e] at hy; cases hy
theorem keys_put {kvs : List (Key × V)} {ns : List Str} {z : Str} {v : V} (h : kvs.map (·.1) = ns.map Sum.inr) (hz : z ∉ ns) : (putK kvs (Sum.inr z) v).map (·.1) = (ns ++ [z]).map Sum.inr := by
  have n : ¬ (kvs.any fun kv => decide (kv.1 = Sum.inr z)) = true := fun e => by
    obtain ⟨kv, hkv, e⟩ := List.any_eq_true.mp e
    have : Sum.inr z ∈ kvs.map (·.1) := List.mem_map.mpr ⟨kv, hkv, of_decide_eq_true e⟩
    rw [h] at this
    obtain ⟨y, hy, e⟩ := List.mem_map.mp this
    exact hz (Sum.inr.inj e ▸ hy)
  unfold putK
  rw [if_neg n, List.map_append, List.map_append, h]; rfl
theorem WorldAt.put {H : Hp} {m q : Addr} {ns : List Str} {W : Fm.Wd} {kvs : List (Key × V)} {z : Str} {t b : Int} (hm : H m = some (.dK kvs)) (h1 : kvs.map (·.1) = ns.map Sum.inr) (h2 : ns.Nodup) (h3 : ∀ z ∈ ns, LevAt H kvs W z ∧ 0 < (W z).2 ∧ (W z).1.natAbs < 2 ^ 100 ∧ (W z).2.natAbs < 2 ^ 100)
    (hz : z ∉ ns) (hq : H q = some (.tup [.int t, .int b])) (b0 : 0 < b) (tb : t.natAbs < 2 ^ 100) (bb : b.natAbs < 2 ^ 100) : WorldAt (upd H m (.dK (putK kvs (Sum.inr z) (.ref q)))) m (ns ++ [z]) (Fm.moved W z (t, b)) := by
  refine ⟨_, upd_same, keys_put h1 hz, List.nodup_append.mpr ⟨h2, by simp, fun a ha c hc e => hz (by rw [← List.mem_singleton.mp hc, ← e]; exact ha)⟩, fun y hy => ?_⟩
  have other : ∀ {x : Addr} {vs : List V}, H x = some (.tup vs) → upd H m (.dK (putK kvs (Sum.inr z) (.ref q))) x = some (.tup vs) := fun {x vs} e => (Keep.at (M := [m]) (by simp)) _ _ (by simp; rintro rfl; rw [hm] at e; cases e) e
  unfold LevAt Fm.moved
  rw [valV_put]
  by_cases e : y = z
  · rw [if_pos (by rw [e]), if_pos e]
    exact ⟨⟨q, rfl, other hq⟩, b0, tb, bb⟩
  · rw [if_neg (fun e' => e (Sum.inr.inj e')), if_neg e]
    obtain ⟨⟨a, ha, ea⟩, h4⟩ := h3 y ((List.mem_append.mp hy).resolve_right (by simpa using e))
    exact ⟨⟨a, ha, other ea⟩, h4⟩
theorem take_fresh {xs : List Str} {i : Nat} {z : Str} (nd : xs.Nodup) (h : xs[i]? = some z) : z ∉ xs.take i := fun hm => by
  have n2 := nd
  rw [← List.take_append_drop (i + 1) xs, take_snoc h] at n2
  exact (List.nodup_append.mp (List.nodup_append.mp n2).1).2.2 z hm z (by simp) rfl
def spWorld : Sp := fun vs H Q _ => ∃ (a p : Addr) (xs : List Str), vs = [.ref a, .ref p] ∧ PotAt a H ∧ NamesAt H p xs ∧ xs.length < 20 ∧ xs.Nodup ∧ ∀ (m : Addr) (zs : List Str) (W : Fm.Wd) (H' : Hp), Keep [a] H H' → PotAt a H' → H m = none → WorldAt H' m zs W → (∀ z ∈ zs, z ∈ xs) → zs.length ≤ xs.length → Q (.ref m) H'
section
variable {P : Program} {w : World} {K : PySem.W.Frag} {mg : Str → Option Value} {base : Heap}
theorem ok_world (T : Tx K mg) (G_w_take : GTake P w K mg base T) (G_w_level : FnOk P w K mg base CX0 3 T.f_w_level T.fd_w_level ["_law_pot_here"] spLevel) : FnOk P w K mg base CX0 4 T.f_w_world T.fd_w_world ["_law_pot_here", "_law_pool_here"] spWorld := by
  refine T.F_w_world.ok sc_w_world (fun vs H Q E h => ?_) (fun cdv A outer s H vs Q E hr h => ?_)
  · obtain ⟨a, p, xs, rfl, _⟩ := h; rfl
  · obtain ⟨a, pl, xs, rfl, hp, en, lx, nd, q⟩ := h
    refine ⟨_, (pss_cons (ps_set (i := 2) sc_w_world.nd rfl (Or.inl rfl) pe_dnewK)
    (pss_cons (ps_for PassesOwn.never rfl (pi_list (pv 1)) (pg_name (i := 3) sc_w_world.nd rfl (Or.inl rfl))
    (pss_cons (ps_set (i := 4) sc_w_world.nd rfl (Or.inl rfl) (pe_call G_w_level (hr.mono (by decide)) rfl T.g_w_level T.F_w_level.kp T.b_w_level .nil pass0 (pa_cons (pv 0) pa_nil)))
    (pss_one (ps_if (pt_cmpR op_ne (pe_call G_w_take (hr.mono (by decide)) rfl T.g_w_take T.F_w_take.kp T.b_w_take .nil pass0 (pa_cons (pv 0) (pa_cons pe_int pa_nil))) pe_int (nomark _))
    (pss_one (ps_dput (hu_of hr) (pv 2) (pv 3) (pv 4) rfl))
    pss_nil))))
    (pss_one (ps_ret (pv 2))))), ?_⟩
    have npl : pl ≠ a := hp.ne' en notpot_strs
    walk_at "start"
    walk_at "sts"
    intro m hm
    have nm : m ≠ a := hp.ne hm
    have em : upd H m (.dK []) m = some (.dK []) := upd_same
    have k1 : Keep [a] H (upd H m (.dK [])) := Keep.new hm
    have p1 := hp.new (o := .dK []) hm
    have nam : ∀ {H' : Hp}, Keep [a] H H' → NamesAt H' pl xs := fun k => k _ _ (by simpa using npl) en
    generalize upd H m (.dK []) = H1 at em k1 p1 ⊢
    walk_at "sts"
    refine forL_go (fun i σ' H' => ∃ (zs : List Str) (W : Fm.Wd) (x1 x2 : Option V), σ' = [some (.ref a), some (.ref pl), some (.ref m), x1, x2] ∧ WorldAt H' m zs W ∧ (∀ z ∈ zs, z ∈ xs.take i) ∧ zs.length ≤ i ∧ Keep [a] H H' ∧ PotAt a H') (sqL_of (nam k1)) ⟨[], fun _ => (0, 1), _, _, by first | exact rfl | trivial, ⟨[], em, by simp, by simp, by simp⟩, by simp, by simp, k1, p1⟩ (fun i σ' H' _ h => by obtain ⟨_, _, _, _, _, _, _, _, k, _⟩ := h; exact sqL_of (nam k)) ?_ ?_
    · rintro i x σ' H3 hx ⟨zs, W, x1, x2, rfl, w3, hz3, lz3, k3, p3⟩
      obtain ⟨z, hz, rfl⟩ := getStr hx
      have hi : i < xs.length := (List.getElem?_eq_some_iff.mp hz).1
      walk_at "sts"
      refine ⟨a, rfl, p3, fun lv t b H4 b0 tb bb k4 p4 nlv elv => ?_⟩
      walk_at "sts"
      refine r_take p4 (by omega) (by omega) fun r H5 a5 b5 k5 p5 => ?_
      have k45 := k4.trans k5
      have nlva : lv ≠ a := by rintro rfl; obtain ⟨_, e, _⟩ := p4; rw [elv] at e; cases e
      have elv5 := k5 _ _ (by simpa using nlva) elv
      have w5 := w3.keep k45 p3.ml
      have sub : ∀ y ∈ zs, y ∈ xs.take (i + 1) := fun y hy => by rw [take_snoc hz]; exact List.mem_append_left _ (hz3 y hy)
      walk_at "sts"
      by_cases c : r = 5
      · rw [decide_eq_true c]
        walk_at "sts"
        exact ⟨zs, W, _, _, by first | exact rfl | trivial, w5, sub, by omega, k3.trans k45, p5⟩
      rw [decide_eq_false c]
      obtain ⟨kvs, e6, h1, h2, h3⟩ := w5
      have hk := congrArg List.length h1
      rw [List.length_map, List.length_map] at hk
      walk_at "sts"
      refine r_dputS e6 (lt_size (by omega)) ?_
      have fresh : z ∉ zs := fun hm2 => take_fresh nd hz (hz3 z hm2)
      have w7 := WorldAt.put e6 h1 h2 h3 fresh elv5 b0 tb bb
      exact ⟨zs ++ [z], _, _, _, by first | exact rfl | trivial, w7, fun y hy => (List.mem_append.mp hy).elim (sub y) fun h => by rw [List.mem_singleton.mp h, take_snoc hz]; simp, by rw [List.length_append, List.length_singleton]; omega, (k3.trans k45).mut hm, p5.put nm⟩
    · rintro σ' H3 ⟨zs, W, x1, x2, rfl, w3, hz3, lz3, k3, p3⟩
      rw [List.length_map] at hz3 lz3
      walk_at "sts"
      exact q m zs W H3 k3 p3 hm w3 (fun z hz => List.mem_of_mem_take (hz3 z hz)) lz3
end
/-! ### levels needed, or NoQuantity -/
/-- what need_levels says of the names xs where the keys are ns -/
def spNeedX (CN : Addr) : Sp := fun vs H Q E => ∃ (p d : Addr) (ys ns : List Str) (kvs : List (Key × V)), vs = [.ref p, .ref d] ∧ H p = some (.tup (ys.map V.str)) ∧ H d = some (.dK kvs) ∧ kvs.map (·.1) = ns.map Sum.inr ∧ (∀ y ∈ ys, (reprText y).length ≤ 100000 ∧ y.length ≤ 100000) ∧
  ((∀ y ∈ ys, y ∈ ns) → Q .non H) ∧ (∀ (i : Nat) (y : Str), ys[i]? = some y → y ∉ ns → (∀ z ∈ ys.take i, z ∈ ns) → ∀ e, H e = none → E (.ref CN) (some e) (upd H e (.xd [("name", .str y)])))
theorem val_in {kvs : List (Key × V)} {ns : List Str} {z : Str} (h : kvs.map (·.1) = ns.map Sum.inr) : (valV kvs (Sum.inr z)).isSome = decide (z ∈ ns) := by
  induction kvs generalizing ns with
  | nil => cases ns with
    | nil => rfl
    | cons n ns => simp at h
  | cons kv kvs ih => cases ns with
    | nil => simp at h
    | cons n ns =>
      rw [List.map_cons, List.map_cons, List.cons.injEq] at h
      obtain ⟨k, v⟩ := kv
      by_cases e : z = n
      · subst e
        rw [valV_pos (show k = Sum.inr z from h.1)]; simp
      · rw [valV_neg (show k ≠ Sum.inr z from fun g => e (by have := h.1.symm.trans g; exact (Sum.inr.inj this).symm)), ih h.2]
        simp [e]
section
variable {w : World} {K : PySem.W.Frag} {mg : Str → Option Value} {base : Heap}
theorem ok_needX (T : Tx K mg) : FnOk PG w K mg base (L2.CX PG w) 2 T.f_need_levels T.fd_need_levels ["names", "world"] (spNeedX T.C_NoQuantity) := by
  refine T.F_need_levels.okX sc_need_levels (fun vs H Q E h => ?_) (fun cdv A outer s H vs Q E hr h => ?_)
  · obtain ⟨a, d, xs, ns, kvs, rfl, _⟩ := h; rfl
  · obtain ⟨p, d, ys, ns, kvs, rfl, hp, hd, hk, hrep, q, qe⟩ := h
    have tk0 : Takes (cxOf (L2.CX PG w) PG w K mg base ["names", "world", "name"] "need_levels" (defScope s_need_levels) T.f_need_levels cdv A outer s H E) (fun cls d _ H => E cls d H) := takes_of rfl rfl rfl rfl
    refine ⟨_, (pss_one (ps_for (passes_of rfl) rfl (pi_tup (pv 0)) (pg_name (i := 2) sc_need_levels.nd rfl (Or.inl rfl))
    (pss_one (ps_if (pt_cmp (pc_dnotin (hu_of hr) (pv 2) (pv 1)))
    (pss_one (Er.ps_raise1 rfl (T.Z_NoQuantity w) hr tk0 (pa_cons (pv 2) pa_nil)))
    pss_nil)))), ?_⟩
    walk_at "start"
    walk_at "sts"
    refine forT_go (fun i σ' H' => ∃ (x1 : Option V), σ' = [some (.ref p), some (.ref d), x1] ∧ H' = H ∧ ∀ z ∈ ys.take i, z ∈ ns) (sqT_of hp) ⟨_, by first | exact rfl | trivial, rfl, by simp⟩ (fun i σ' H' _ h => by obtain ⟨_, _, rfl, _⟩ := h; exact sqT_of hp) ?_ ?_
    · rintro i v σ' H' hv ⟨x1, rfl, rfl, hz⟩
      obtain ⟨nm, hnm, rfl⟩ := getStr hv
      walk_at "sts"
      refine r_dinS hd ?_
      rw [val_in hk]
      walk_at "sts"
      refine r_iteN (fun c => ?_) (fun c => ?_)
      · walk_at "sts"
        refine ⟨_, rfl, .inr ⟨nm, rfl, hrep nm (List.mem_of_getElem? hnm)⟩, fun e he => ?_⟩
        exact qe i nm hnm c hz e he
      · walk_at "sts"
        refine ⟨_, by first | exact rfl | trivial, rfl, fun z hm => ?_⟩
        rw [take_snoc hnm] at hm
        rcases List.mem_append.mp hm with hm | hm
        · exact hz z hm
        · rw [List.mem_singleton.mp hm]; exact c
    · rintro σ' H' ⟨x1, rfl, rfl, hz⟩
      rw [List.length_map, List.take_length] at hz
      walk_at "sts"
      exact q hz
end
/-! ### a form called where names may be missing -/
def spValX (C CN : Addr) : Sp := fun vs H Q E => ∃ (x d : Addr) (ts : List Fm.Tm) (c : Int) (ns : List Str) (W : Fm.Wd), vs = [.ref x, .ref d] ∧ FormAt C H x ts c ∧ WorldAt H d ns W ∧ ts.length ≤ 5 ∧ (∀ t ∈ ts, IsQ t.1 ∧ t.2.natAbs < 2 ^ 400) ∧ c.natAbs < 2 ^ 400 ∧
  ((∀ t ∈ ts, t.1 ∈ ns) → ∀ p H', Keep [] H H' → H' p = some (.tup [.int (lowT (Fm.accV W ts (c, 1)).1 (Fm.accV W ts (c, 1)).2), .int (lowB (Fm.accV W ts (c, 1)).1 (Fm.accV W ts (c, 1)).2)]) → Q (.ref p) H') ∧
  (∀ (i : Nat) (y : Str), (ts.map (·.1))[i]? = some y → y ∉ ns → (∀ z ∈ (ts.map (·.1)).take i, z ∈ ns) → ∀ e H', Keep [] H H' → H' e = none → E (.ref CN) (some e) (upd H' e (.xd [("name", .str y)])))
theorem isQ_rep {s : Str} (h : IsQ s) : (reprText s).length ≤ 100000 ∧ s.length ≤ 100000 := by
  have h1 := h.len
  refine ⟨?_, by omega⟩
  have := PySem.StrLaws.reprText_len s (fun c hc => Nat.lt_trans (h.codes c hc) (by decide))
  omega
section
variable {w : World} {K : PySem.W.Frag} {mg : Str → Option Value} {base : Heap}
theorem ok_valX (T : Tx K mg) (G_need_levels : FnOk PG w K mg base (L2.CX PG w) 2 T.f_need_levels T.fd_need_levels ["names", "world"] (spNeedX T.C_NoQuantity)) (G_Form_names : FnOk PG w K mg base CX0 1 T.f_Form_names T.fd_Form_names ["self"] (spNames T.C_Form)) (G_plus : FnOk PG w K mg base CX0 2 T.f_plus T.fd_plus ["first", "second"] (spTwo fPlus)) (G_times : FnOk PG w K mg base CX0 2 T.f_times T.fd_times ["first", "second"] (spTwo fTimes)) :
    FnOk PG w K mg base (L2.CX PG w) 4 T.f_Form___call T.fd_Form___call ["self", "world"] (spValX T.C_Form T.C_NoQuantity) := by
  refine T.F_Form___call.okX sc_Form___call (fun vs H Q E h => ?_) (fun cdv A outer sh H vs Q E hr h => ?_)
  · obtain ⟨x, d, ts, c, ns, W, rfl, _⟩ := h; rfl
  · obtain ⟨x, d, ts, c, ns, W, rfl, hx, hw, hl, hqb, hc, q, qe⟩ := h
    obtain ⟨kvs, hd, hk, hnd, hlv⟩ := id hw
    have oc := T.oc_Form
    have na := T.na_Form_terms
    have nc := T.na_Form_constant
    obtain ⟨dx, t, ex, as, et, pt⟩ := id hx
    have hlt := pt.len
    have tk0 : Takes (cxOf (L2.CX PG w) PG w K mg base ["self", "world", "total", "name", "weight"] "Form.__call__" (defScope s_Form___call) T.f_Form___call cdv A outer sh H E) (fun cls d _ H => E cls d H) := takes_of rfl rfl rfl rfl
    refine ⟨_, (pss_cons (ps_expr (pe_call G_need_levels (hr.mono (by decide)) rfl T.g_need_levels T.F_need_levels.kp T.b_need_levels .nil (passes_call tk0 (fun _ _ _ _ h => h)) (pa_cons (pe_meth0 (pv 0) T.oc_Form.cl T.me_Form_names G_Form_names (hr.mono (by decide)) T.b_Form_names .nil pass0) (pa_cons (pv 1) pa_nil))))
    (pss_cons (ps_set (i := 2) sc_Form___call.nd rfl (Or.inl rfl) (pe_tup (pa_cons (pe_fld (pv 0) rfl) (pa_cons pe_int pa_nil))))
    (pss_cons (ps_for (passes_of rfl) rfl (pi_tup (pe_fld (pv 0) rfl)) (pg_tup (n := 2) rfl (pgs_cons (pg_name (i := 3) sc_Form___call.nd rfl (Or.inl rfl)) (pgs_cons (pg_name (i := 4) sc_Form___call.nd rfl (Or.inl rfl)) pgs_nil)))
    (pss_one (ps_set (i := 2) sc_Form___call.nd rfl (Or.inl rfl) (pe_call G_plus (hr.mono (by decide)) rfl T.g_plus T.F_plus.kp T.b_plus .nil pass0 (pa_cons (pv 2) (pa_cons (pe_call G_times (hr.mono (by decide)) rfl T.g_times T.F_times.kp T.b_times .nil pass0 (pa_cons (pe_tup (pa_cons (pv 4) (pa_cons pe_int pa_nil))) (pa_cons (pe_dget (hu_of hr) (pv 1) (pv 3) (fun _ _ => rfl)) pa_nil))) pa_nil))))))
    (pss_one (ps_ret (pv 2)))))), ?_⟩
    walk_at "start"
    walk_at "sts"
    refine ⟨x, ts, c, rfl, hx, by omega, fun p H1 k1 ep => ?_⟩
    have hd1 := k1 _ _ (by simp) hd
    have ex1 := k1 _ _ (by simp) ex
    walk_at "sts"
    refine ⟨p, d, ts.map (·.1), ns, kvs, rfl, ep, hd1, hk, fun y hy => by obtain ⟨u, hu, rfl⟩ := List.mem_map.mp hy; exact isQ_rep (hqb u hu).1, fun hall => ?_, fun i y hy hn hz e he => qe i y hy hn hz e H1 k1 he⟩
    have hin : ∀ u ∈ ts, u.1 ∈ ns := fun u hu => hall _ (List.mem_map_of_mem hu)
    have hlev : ∀ u ∈ ts, LevAt H kvs W u.1 ∧ 0 < (W u.1).2 := fun u hu => ⟨(hlv _ (hin u hu)).1, (hlv _ (hin u hu)).2.1⟩
    have hb : ∀ u ∈ ts, u.2.natAbs < 2 ^ 400 ∧ (W u.1).1.natAbs < 2 ^ 1000 ∧ (W u.1).2.natAbs < 2 ^ 401 := fun u hu => ⟨(hqb u hu).2, Fm.pow_le (hlv _ (hin u hu)).2.2.1 (by decide), Fm.pow_le (hlv _ (hin u hu)).2.2.2 (by decide)⟩
    have q := q hin
    walk_at "sts"
    intro p2 hp2
    have k2 : Keep [] H1 (upd H1 p2 (.tup [.int c, .int 1])) := Keep.new hp2
    have e2 : upd H1 p2 (.tup [.int c, .int 1]) p2 = some (.tup [.int c, .int 1]) := upd_same
    generalize upd H1 p2 (.tup [.int c, .int 1]) = H2 at k2 e2 ⊢
    have k12 := k1.trans k2
    have ex2 := k12 _ _ (by simp) ex
    have et2 := k12 _ _ (by simp) et
    walk_at "sts"
    have st : ∀ i, Fm.accV W (ts.take i) (c, 1) = Fm.accV W (ts.take i) (c, 1) := fun _ => rfl
    refine forT_go (fun i σ' H' => ∃ (r : Addr) (x1 x2 : Option V), σ' = [some (.ref x), some (.ref d), some (.ref r), x1, x2] ∧ Keep [] H H' ∧ H' r = some (.tup [.int (lowT (Fm.accV W (ts.take i) (c, 1)).1 (Fm.accV W (ts.take i) (c, 1)).2), .int (lowB (Fm.accV W (ts.take i) (c, 1)).1 (Fm.accV W (ts.take i) (c, 1)).2)])) (sqT_of et2) ⟨p2, _, _, rfl, k12, by rw [e2]; simp [Fm.accV, lowT_one, lowB_one]⟩ (fun i σ' H' _ h => by obtain ⟨_, _, _, _, k, _⟩ := h; exact sqT_of (k _ _ (by simp) et)) ?_ ?_
    · rintro i v σ' H3 hv ⟨r, x1, x2, rfl, k3, e3⟩
      obtain ⟨a, ha, rfl⟩ := getRef hv
      obtain ⟨z, hz, ez⟩ := pt.get ha
      have mz := List.mem_of_getElem? hz
      have ez3 := k3 _ _ (by simp) ez
      obtain ⟨⟨lv, lv1, lv2⟩, wpos⟩ := hlev z mz
      obtain ⟨b1, b2, b3⟩ := hb z mz
      have hi := (List.getElem?_eq_some_iff.mp hz).1
      have il : (ts.take i).length = i := by rw [List.length_take]; omega
      have sub : ∀ p ∈ ts.take i, p ∈ ts := fun p hp => List.mem_of_mem_take hp
      have apos := Fm.acc_pos (W := W) (ts := ts.take i) (s := (c, 1)) (fun p hp => (hlev p (sub p hp)).2) Int.one_pos
      obtain ⟨ab1, ab2⟩ := Fm.acc_bound (W := W) (ts := ts.take i) (c := c) (fun p hp => hb p (sub p hp)) hc
      rw [il] at ab1 ab2
      have step := low_step (N := (Fm.accV W (ts.take i) (c, 1)).1) (D := (Fm.accV W (ts.take i) (c, 1)).2) (w := z.2) (p := (W z.1).1) (q := (W z.1).2) apos wpos
      have nxt : Fm.accV W (ts.take (i + 1)) (c, 1) = ((Fm.accV W (ts.take i) (c, 1)).1 * (W z.1).2 + z.2 * (W z.1).1 * (Fm.accV W (ts.take i) (c, 1)).2, (Fm.accV W (ts.take i) (c, 1)).2 * (W z.1).2) := by
        rw [take_snoc hz, Fm.accV_append]; rfl
      rw [nxt]
      generalize Fm.accV W (ts.take i) (c, 1) = S at *
      have hS : S.2 ≠ 0 := by omega
      walk_at "sts"
      intro u hu
      have k4 : Keep [] H3 (upd H3 u (.tup [.int z.2, .int 1])) := Keep.new hu
      have e4 : upd H3 u (.tup [.int z.2, .int 1]) u = some (.tup [.int z.2, .int 1]) := upd_same
      generalize upd H3 u (.tup [.int z.2, .int 1]) = H4 at k4 e4 ⊢
      have k34 := k3.trans k4
      walk_at "sts"
      refine r_dgetS (k34 _ _ (by simp) hd) lv1 ?_
      walk_at "sts"
      refine r_two (f := fTimes) e4 (k34 _ _ (by simp) lv2) (by decide) (by omega) (Fm.pow_le b1 (by decide)) (by decide +kernel) (Fm.pow_le b2 (by decide)) (Fm.pow_le b3 (by decide)) fun r2 H5 k5 n5 e5 => ?_
      have q1 : (0 : Int) < 1 * (W z.1).2 := by omega
      walk_at "sts"
      refine r_two (f := fPlus) (k5 _ _ (by simp) (k4 _ _ (by simp) e3)) e5 (by have := lowB_pos (t := S.1) apos; omega) (by have := lowB_pos (t := (fTimes z.2 1 (W z.1).1 (W z.1).2).1) q1; show lowB _ (1 * (W z.1).2) ≠ 0; omega) (Nat.lt_of_le_of_lt (lowT_le hS) (Fm.pow_le ab1 (by omega))) (Nat.lt_of_le_of_lt (lowB_le hS) (Fm.pow_le ab2 (by omega))) (Nat.lt_of_le_of_lt (lowT_le (by show 1 * (W z.1).2 ≠ 0; omega)) (Fm.pow_le (Fm.natAbs_mul_lt b1 b2) (by decide))) (Nat.lt_of_le_of_lt (lowB_le (by show 1 * (W z.1).2 ≠ 0; omega)) (by show (1 * (W z.1).2).natAbs < _; rw [Int.one_mul]; exact Fm.pow_le b3 (by decide))) fun r3 H6 k6 n6 e6 => ?_
      walk_at "sts"
      refine ⟨r3, _, _, rfl, k34.trans (k5.trans k6), ?_⟩
      rw [e6, step.1, step.2.1]
    · rintro σ' H3 ⟨r, x1, x2, rfl, k3, e3⟩
      rw [List.length_map, hlt, List.take_length] at e3
      walk_at "sts"
      exact q r H3 k3 e3
end
namespace Dt
open PySem PySem.Spec PyProof.Rows PyProof.V L2 StX
/-! ### an object called within a try -/
section
variable {X : Cx} {CX : CXT} {C g : Addr} {k : Nat} {sp : Sp} {fe e : Expr} {es : List Expr} {tf : TE} {t : TA} {pos : Pos} {pins : List (Addr × Obj)} {σ : L2.St} {H : Hp} {s : Shared}
theorem run_fnRD {E : XK} {f : Addr} {Q : VK} {us : List Value} {vs : List V} (F : FnR X.prog X.w X.K X.mg X.base CX k f sp) (hr : Room k X.A) (hx : PassesAt CX X σ E) (I : Inv X pins σ H s) (r : L2.Vals vs us) (h : sp vs H Q E) :
    codeAny (model X.prog X.w) X.A (.call (.ref f) ⟨us, []⟩) (fun r s' => match r with | .ok (.ret v) => EP X pins σ Q v s' | .ok _ => False | .error e => X.xe e s') s := by
  refine codeAny_mono (F X.A X.stack s H us vs Q E hr I.env0 r h) fun r s' hq => ?_
  cases r with
  | error e => exact hx pins H s e s' I hq
  | ok fl =>
    cases fl with
    | ret v => exact I.after hq
    | next => exact False.elim hq
    | brk => exact False.elim hq
    | cont => exact False.elim hq
def tCallOSD (C : Addr) (sp : Sp) (E : L2.St → XK) (tf : TE) (t : TA) : TE := fun σ H Q => tf σ H fun y H1 => ∃ a, y = V.ref a ∧ t σ H1 fun vs H2 => (∃ dx fs, H2 a = some (.ins C dx fs)) ∧ sp (V.ref a :: vs) H2 Q (E σ)
theorem pe_callOSD {E : L2.St → XK} (hf : PE X fe tf) (c : CallO X.K C g) (F : FnR X.prog X.w X.K X.mg X.base CX k g sp) (hr : Room k X.A) (hx : ∀ σ, PassesAt CX X σ (E σ)) (ha : PA X (e :: es) t)
    (ht : eval (.Call fe (e :: es) [] pos) X.env = (do callWith pos (← eval fe X.env) [] (backTo pos (starEach (e :: es) X.env)) (backToKw pos (keywordEach [] X.env))) := by rfl)
    (he : starEach (e :: es) X.env = (false, eval e X.env) :: starEach es X.env := by rfl) (hpl : (backTo pos (starEach es X.env)).any (·.1) = false := by rfl) : PE X (.Call fe (e :: es) [] pos) (tCallOSD C sp E tf t) := by
  refine ⟨fun pins s σ H Q I h => ?_⟩
  refine Call_ (thn (hf.run pins s σ H _ I h) fun u s1 ⟨y, H1, I1, ry, a, ey, q⟩ => ?_) ht
  subst ey
  obtain rfl : u = Value.ref a := ry
  refine callO_with (thn (ha.run pos pins s1 σ H1 _ I1 q) fun us s2 ⟨vs, H2, I2, r, hi, q2⟩ => ?_) he hpl
  obtain ⟨ox, od, J, hd⟩ := insC_at I2 (.inr hi)
  exact ⟨⟨C, ox, od, J, hd⟩, wpAny_call (PySem.W.kco_code I2.kIn J hd c.at_ c.fn c.fi (run_fnRD (us := .ref a :: us) (vs := .ref a :: vs) F hr (hx σ) I2 (.cons rfl r) q2))⟩
theorem r_callOSD {E : L2.St → XK} {Q : VK} (k : tf σ H fun y H1 => ∃ a, y = V.ref a ∧ t σ H1 fun vs H2 => (∃ dx fs, H2 a = some (.ins C dx fs)) ∧ sp (V.ref a :: vs) H2 Q (E σ)) : tCallOSD C sp E tf t σ H Q := k
end
end Dt
/-! ### the value of a form, or the name that has none -/
/-- the names that have no level -/
def missing (ys ns : List Str) : List Str := ys.filter fun y => decide (y ∉ ns)
theorem missing_nil {ys ns : List Str} (h : ∀ y ∈ ys, y ∈ ns) : missing ys ns = [] := by
  unfold missing; rw [List.filter_eq_nil_iff]; intro y hy; simpa using h y hy
theorem missing_at {ns : List Str} {y : Str} : ∀ {ys : List Str} {i : Nat}, ys[i]? = some y → y ∉ ns → (∀ z ∈ ys.take i, z ∈ ns) → ∃ us, missing ys ns = y :: us
  | [], i, h, _, _ => by simp at h
  | z :: ys, 0, h, n, _ => by
    have e : z = y := by simpa using h
    subst e
    exact ⟨missing ys ns, by unfold missing; rw [List.filter_cons_of_pos (by simpa using n)]⟩
  | z :: ys, i + 1, h, n, k => by
    obtain ⟨us, e⟩ := missing_at (ys := ys) (i := i) (by simpa using h) n fun x hx => k x (by simp [hx])
    refine ⟨us, ?_⟩
    unfold missing at e ⊢
    rw [List.filter_cons_of_neg (by simpa using k z (by simp)), e]
theorem missing_snoc {ys ns : List Str} {i : Nat} {y : Str} (h : ys[i]? = some y) : missing (ys.take (i + 1)) ns = missing (ys.take i) ns ++ if y ∈ ns then [] else [y] := by
  unfold missing
  rw [take_snoc h, List.filter_append]
  congr 1
  by_cases c : y ∈ ns
  · rw [if_pos c, List.filter_cons_of_neg (by simpa using c)]; rfl
  · rw [if_neg c, List.filter_cons_of_pos (by simpa using c)]; rfl
theorem keys_nodup {kvs : List (Key × V)} {ns : List Str} (h : kvs.map (·.1) = ns.map Sum.inr) (n : ns.Nodup) : (kvs.map (·.1)).Nodup := by
  rw [h]; exact List.Pairwise.map _ (fun (a b : Str) (e : a ≠ b) (g : (Sum.inr a : Key) = Sum.inr b) => e (Sum.inr.inj g)) n
theorem dict_same {H : Hp} {d k : Addr} {kvs : List (Key × V)} {ns : List Str} (hd : H d = some (.dK kvs)) (hk : H k = some (.dK kvs)) (h : kvs.map (·.1) = ns.map Sum.inr) (n : ns.Nodup) (lv : ∀ p ∈ kvs, ∃ a, p.2 = .ref a) : SameD (.ref d) (.ref k) H :=
  same_self hd hk (keys_nodup h n) fun p hp => .inr (lv p hp)
def spValR (C : Addr) : Sp := fun vs H Q _ => ∃ (x p d : Addr) (ts : List Fm.Tm) (c : Int) (ns : List Str) (W : Fm.Wd), vs = [.ref x, .ref p, .ref d] ∧ FormAt C H x ts c ∧ DueAt H p ts c ∧ WorldAt H d ns W ∧ ts.length ≤ 5 ∧ (∀ t ∈ ts, IsQ t.1 ∧ t.2.natAbs < 2 ^ 400) ∧ c.natAbs < 2 ^ 400 ∧ ∀ H', Keep [] H H' → Q (.bl true) H'
section
variable {w : World} {K : PySem.W.Frag} {mg : Str → Option Value} {base : Heap}
theorem ok_valR (T : Tx K mg) (G_Form___callX : FnOk PG w K mg base (L2.CX PG w) 4 T.f_Form___call T.fd_Form___call ["self", "world"] (spValX T.C_Form T.C_NoQuantity))
    (G_w_value : FnOk PG w K mg base CX0 2 T.f_w_value T.fd_w_value ["_law_due", "_law_world_here"] spValL) (G_w_pair_is : FnOk PG w K mg base CX0 2 T.f_w_pair_is T.fd_w_pair_is ["_law_found", "_law_pair"] spPairIs) :
    FnOk PG w K mg base CX0 5 T.f_w_value_right T.fd_w_value_right ["_law_found", "_law_due", "_law_world_here"] (spValR T.C_Form) := by
  refine T.F_w_value_right.ok sc_w_value_right (fun vs H Q E h => ?_) (fun cdv A outer s H vs Q E hr h => ?_)
  · obtain ⟨x, p, d, ts, c, ns, W, rfl, _⟩ := h; rfl
  · obtain ⟨x, p, d, ts, c, ns, W, rfl, hx, hp, hw, hl, hqb, hc, qq⟩ := h
    obtain ⟨kvs, ed, hk, hnd, hlev⟩ := id hw
    obtain ⟨t, ep, as, et, pt⟩ := id hp
    have hlt := pt.len
    have hpv : ∀ p ∈ kvs, ∃ a, p.2 = .ref a := fun p hp => by
      have hm : p.1 ∈ ns.map (Sum.inr (α := Int)) := by rw [← hk]; exact List.mem_map_of_mem hp
      obtain ⟨z, hz, e⟩ := List.mem_map.mp hm
      obtain ⟨⟨b, vb, _⟩, _⟩ := hlev z hz
      have := val_self (keys_nodup hk hnd) p hp
      rw [← e, vb] at this
      exact ⟨b, (Option.some.inj this).symm⟩
    refine ⟨_, (pss_cons (ps_setLc (i := 3) (own := [("_law_pair", 4)]) (g := gName 4)  rfl sc_w_value_right.nd rfl rfl (sw_true rfl rfl rfl (by decide +kernel)) (pi_tup (pe_ix ix_tup (pv 1) pe_int (fun _ _ => rfl))) (blkOk_by (own := [("_law_pair", 4)]) (N := ["_law_found", "_law_due", "_law_world_here", "_law_missing", "_law_pair", "_law_kept", "_law_value_here", "e"]) (sc := defScope s_w_value_right) (by decide +kernel)) (fun _ _ _ _ _ => pg_name (i := 4) sc_w_value_right.nd rfl (Or.inl rfl)) (fun _ _ _ _ _ => pts_one (pt_cmp (pc_dnotin (hu_of hr) (pe_ix (ix_tupK (K := K) rfl) (pv 4) pe_int (fun _ _ => rfl)) (pv 2)))) (fun _ _ _ _ _ => (pe_ix (ix_tupK (K := K) rfl) (pv 4) pe_int (fun _ _ => rfl))))
    (pss_cons (ps_set (i := 5) sc_w_value_right.nd rfl (Or.inl rfl) (pe_callTy call_dictD (by rfl) T.m_dict (by decide +kernel) (pa_cons (pv 2) pa_nil)))
    (pss_cons (ps_try_as (i := 7) (Wout := fun _ _ _ _ => False) rfl rfl sc_w_value_right.nd rfl rfl ⟨rfl, by decide, Or.inl T.gC_NoQuantity⟩ takes0 (fun W pn xe tk _ => (pss_one (ps_set (i := 6) sc_w_value_right.nd rfl (Or.inl rfl) (Dt.pe_callOSD (pv 0) T.co_Form (G_Form___callX.raw T.b_Form___call .nil) (hr.mono (by decide)) (fun σ => passAt tk σ) (pa_cons (pv 2) pa_nil))))) (fun a oe cls d pn hz hf => (pss_cons (ps_if (PW.pt (pw_or (pt_not (pt_val (pe_callB (Er.call_isD hz hf) (by rfl) T.m_isinstance (by decide +kernel) (pa_cons (pv 7) (pa_cons (pe_glob (v := .ref T.C_MeteError) rfl T.gC_MeteError rfl) pa_nil))))) (pw_or (pt_not (pt_val (pe_callB (Er.call_isD hz hf) (by rfl) T.m_isinstance (by decide +kernel) (pa_cons (pv 7) (pa_cons (pe_bltn (v := .ty "ValueError") (by rfl) T.m_ValueError boot_ValueError rfl) pa_nil))))) (pw_or1 (pt_val (pe_callB (Er.call_isD hz hf) (by rfl) T.m_isinstance (by decide +kernel) (pa_cons (pv 7) (pa_cons (pe_glob (v := .ref T.C_BadName) rfl T.gC_BadName rfl) pa_nil))))))))
    (pss_one (ps_ret pe_bl))
    pss_nil)
    (pss_one (ps_ret (pe_and (pe_cmpR (Er.op_neDK (K := K) rfl hr.units) (pv 3) (pe_lst pa_nil) (nomark _)) (pe_and (pe_cmpR op_eq (pe_xf T.xf_NoQuantity (T.Z_NoQuantity w).noN hz hf (pv 7)) (pe_ix (ix_listK (K := K) rfl) (pv 3) pe_int (fun _ _ => rfl)) (nomark _)) (pe_one (pe_cmpR (op_eqSame (Nat.lt_of_le_of_lt (Nat.le_add_right _ 64) hr.units)) (pv 2) (pv 5) (nomark _))))))))))
    (pss_one (ps_ret (pe_and (pe_cmpR (op_eqD hr.units) (pv 3) (pe_lst pa_nil) (nomark _)) (pe_and (pe_cmpR (op_eqSame (Nat.lt_of_le_of_lt (Nat.le_add_right _ 64) hr.units)) (pv 2) (pv 5) (nomark _)) (pe_one (pe_call G_w_pair_is (hr.mono (by decide)) rfl T.g_w_pair_is T.F_w_pair_is.kp T.b_w_pair_is .nil pass0 (pa_cons (pv 6) (pa_cons (pe_call G_w_value (hr.mono (by decide)) rfl T.g_w_value T.F_w_value.kp T.b_w_value .nil pass0 (pa_cons (pv 1) (pa_cons (pv 2) pa_nil))) pa_nil))))))))))), ?_⟩
    walk_at "start"
    walk_at "sts"
    refine lcT_go (fun D i acc H' => acc = (missing ((ts.take i).map (·.1)) ns).map V.str ∧ Keep [] H H' ∧ (missing ((ts.take i).map (·.1)) ns).length ≤ i ∧ H D = none) (sqT_of et) (fun D hD => ⟨rfl, Keep.new hD, by simp [missing], hD⟩) (fun D i acc H' _ h => sqT_of (h.2.1 _ _ (by simp) et)) ?_ ?_
    · rintro D i v acc H2 hv hD ⟨rfl, k2, lm, nD⟩
      obtain ⟨a, ha, rfl⟩ := getRef hv
      obtain ⟨z, hz, ez⟩ := pt.get ha
      have ez2 := k2 _ _ (by simp) ez
      have ed2 := k2 _ _ (by simp) ed
      have hi := (List.getElem?_eq_some_iff.mp hz).1
      have hz1 : (ts.map (·.1))[i]? = some z.1 := by rw [List.getElem?_map, hz]; rfl
      have ms := missing_snoc (ns := ns) hz1
      rw [← List.map_take, ← List.map_take] at ms
      walk_at "sts"
      refine r_dinS ed2 ?_
      rw [val_in hk]
      walk_at "sts"
      refine r_iteN (fun c => ?_) (fun c => ?_)
      · rw [if_neg c] at ms
        walk_at "sts"
        exact lc_put (acc := (missing ((ts.take i).map (·.1)) ns).map V.str) hD (by rw [List.length_map]; exact lt_size (by omega)) ⟨by rw [ms, List.map_append]; rfl, k2.mut nD, by rw [ms, List.length_append, List.length_singleton]; omega, nD⟩
      · rw [if_pos c, List.append_nil] at ms
        walk_at "sts"
        exact ⟨_, hD, by rw [ms], k2, by rw [ms]; omega, nD⟩
    · rintro D acc H2 nD hD ⟨rfl, k2, lm, _⟩
      rw [List.take_of_length_le (by rw [List.length_map, hlt]; exact Nat.le_refl _)] at hD
      have ed2 := k2 _ _ (by simp) ed
      walk_at "sts"
      refine ⟨d, kvs, rfl, .inl ed2, fun kp hkp => ?_⟩
      have k3 : Keep [] H2 (upd H2 kp (.dK kvs)) := Keep.new hkp
      have e3 : upd H2 kp (.dK kvs) kp = some (.dK kvs) := upd_same
      have hD3 := k3 _ _ (by simp) hD
      generalize upd H2 kp (.dK kvs) = H3 at k3 e3 hD3 ⊢
      have k13 := k2.trans k3
      obtain ⟨dx, t00, ex, _⟩ := id (hx.keep0 k13)
      walk_at "sts"
      refine Dt.r_callOSD ?_
      walk_at "sts"
      refine ⟨x, rfl, ?_⟩
      walk_at "sts"
      refine ⟨⟨_, _, ex⟩, x, d, ts, c, ns, W, rfl, hx.keep0 k13, hw.keep k13 (by simp), hl, hqb, hc, fun hin r4 H4 k4 e4 => ?_, fun i y hy hn hz e H4 k4 he => ?_⟩
      · have hm : missing (ts.map (·.1)) ns = [] := missing_nil (fun y hy => by obtain ⟨u, hu, rfl⟩ := List.mem_map.mp hy; exact hin u hu)
        rw [hm] at hD3
        have hD4 := k4 _ _ (by simp) hD3
        walk_at "sts"
        intro l0 hl0
        have k5 : Keep [] H4 (upd H4 l0 (.lst [])) := Keep.new hl0
        refine r_eqL (xs := []) (ys := []) (b := true) (sqL_of (k5 _ _ (by simp) hD4)) (sqL_of upd_same) rfl rfl rfl ?_
        generalize upd H4 l0 (.lst []) = H5 at k5 ⊢
        have k15 := k13.trans (k4.trans k5)
        have k35 := k4.trans k5
        have e5 := k5 _ _ (by simp) e4
        walk_at "sts"
        refine ⟨dict_same (k15 _ _ (by simp) ed) (k35 _ _ (by simp) e3) hk hnd hpv, ?_⟩
        walk_at "sts"
        have hw5 := hw.keep k15 (by simp)
        obtain ⟨kvs5, ed5, _, _, hlv5⟩ := id hw5
        have hlev5 : ∀ u ∈ ts, LevAt H5 kvs5 W u.1 ∧ 0 < (W u.1).2 := fun u hu => ⟨(hlv5 _ (hin u hu)).1, (hlv5 _ (hin u hu)).2.1⟩
        have hb5 : ∀ u ∈ ts, u.2.natAbs < 2 ^ 400 ∧ (W u.1).1.natAbs < 2 ^ 1000 ∧ (W u.1).2.natAbs < 2 ^ 401 := fun u hu => ⟨(hqb u hu).2, Fm.pow_le (hlv5 _ (hin u hu)).2.2.1 (by decide), Fm.pow_le (hlv5 _ (hin u hu)).2.2.2 (by decide)⟩
        refine ⟨p, d, ts, c, kvs5, W, rfl, hp.keep0 k15, ed5, hlev5, hl, hb5, hc, fun r6 H6 k6 _ e6 => ?_⟩
        have e56 := k6 _ _ (by simp) e5
        walk_at "sts"
        exact r_pairIs e56 e6 (qq H6 (k15.trans k6))
      · obtain ⟨us, hm⟩ := missing_at hy hn hz
        rw [hm] at hD3
        have hD4 := k4 _ _ (by simp) hD3
        have hfl : ((y :: us).map V.str).all flatV = true := by
          rw [List.all_map]
          refine List.all_eq_true.mpr fun z hz => ?_
          rw [← hm] at hz
          obtain ⟨u, hu, rfl⟩ := List.mem_map.mp (List.mem_filter.mp hz).1
          exact (hqb u hu).1.ok
        refine ⟨true, T.exm_NoQuantity_NoQuantity, fun _ a ha => ?_, fun z => nomatch z⟩
        have he' : upd H4 e (.xd [("name", .str y)]) e = some (.xd [("name", .str y)]) := upd_same
        have k5 : Keep [] H4 (upd H4 e (.xd [("name", .str y)])) := Keep.new he
        have hD5 := k5 _ _ (by simp) hD4
        generalize upd H4 e (.xd [("name", .str y)]) = H5 at he' k5 hD5 ha ⊢
        simp only [List.set_cons_succ, List.set_cons_zero]
        walk_at "sts"
        refine Er.r_isD T.X_NoQuantity he' (fun u r => r) T.kit_NoQuantity_MeteError ?_
        walk_at "sts"
        refine Er.r_isD T.X_NoQuantity he' (fun u r => r) T.kit_NoQuantity_ValueError ?_
        walk_at "sts"
        refine Er.r_isD T.X_NoQuantity he' (fun u r => r) T.kit_NoQuantity_BadName ?_
        walk_at "sts"
        intro l0 hl0
        have k6 : Keep [] H5 (upd H5 l0 (.lst [])) := Keep.new hl0
        have hD6 := k6 _ _ (by simp) hD5
        have he6 := k6 _ _ (by simp) he'
        refine r_neL (b := false) (sqL_of hD6) (sqL_of upd_same) hfl rfl (by rfl) ?_
        generalize upd H5 l0 (.lst []) = H6 at k6 hD6 he6 ⊢
        walk_at "sts"
        refine Er.r_xfE he6 rfl ?_
        have ats : atI ((y :: us).map V.str) 0 = some (V.str y) := atI_nat (j := 0) rfl
        walk_at "sts"
        have k16 := k13.trans (k4.trans (k5.trans k6))
        have k36 := k4.trans (k5.trans k6)
        refine ⟨dict_same (k16 _ _ (by simp) ed) (k36 _ _ (by simp) e3) hk hnd hpv, ?_⟩
        exact qq _ k16
end
/-! ### forms of one and of two names -/
def spSingle : Sp := fun vs H Q _ => ∃ (a p : Addr) (xs : List Str), vs = [.ref a, .ref p] ∧ PotAt a H ∧ NamesAt H p xs ∧ 0 < xs.length ∧ xs.length < 20 ∧ (∀ x ∈ xs, IsQ x) ∧ ∀ H', Keep [a] H H' → PotAt a H' → Q (.bl true) H'
section
variable {P : Program} {w : World} {K : PySem.W.Frag} {mg : Str → Option Value} {base : Heap}
theorem ok_single (T : Tx K mg) (G_w_take : GTake P w K mg base T) (G_Form_one : FnOk P w K mg base CX0 5 T.f_Form_one T.fd_Form_one ["name"] (spOne T.C_Form)) (G_Form_gap : FnOk P w K mg base CX0 5 T.f_Form_gap T.fd_Form_gap ["first", "second"] (spGap T.C_Form))
    (G_w_tidy : FnOk P w K mg base CX0 1 T.f_w_tidy T.fd_w_tidy ["_law_pairs_here", "_law_constant"] spTidy) (G_w_contents_right : FnOk P w K mg base CX0 4 T.f_w_contents_right T.fd_w_contents_right ["_law_found", "_law_due", "_law_pool_here"] (spContents T.C_Form)) :
    FnOk P w K mg base CX0 6 T.f_w_single_right T.fd_w_single_right ["_law_pot_here", "_law_pool_here"] spSingle := by
  refine T.F_w_single_right.ok sc_w_single_right (fun vs H Q E h => ?_) (fun cdv A outer s H vs Q E hr h => ?_)
  · obtain ⟨a, p, xs, rfl, _⟩ := h; rfl
  · obtain ⟨a, p, xs, rfl, hp, hx, l0, l20, hq, qq⟩ := h
    have npa := hp.ne' hx notpot_strs
    refine ⟨_, (pss_cons (ps_set (i := 2) sc_w_single_right.nd rfl (Or.inl rfl) (pe_ix ix_list (pv 1) (pe_call G_w_take (hr.mono (by decide)) rfl T.g_w_take T.F_w_take.kp T.b_w_take .nil pass0 (pa_cons (pv 0) (pa_cons (pe_callB call_len_seq (by rfl) T.m_len PySem.boot_len (pa_cons (pv 1) pa_nil)) pa_nil))) (fun _ _ => rfl)))
    (pss_cons (ps_set (i := 3) sc_w_single_right.nd rfl (Or.inl rfl) (pe_ix ix_list (pv 1) (pe_call G_w_take (hr.mono (by decide)) rfl T.g_w_take T.F_w_take.kp T.b_w_take .nil pass0 (pa_cons (pv 0) (pa_cons (pe_callB call_len_seq (by rfl) T.m_len PySem.boot_len (pa_cons (pv 1) pa_nil)) pa_nil))) (fun _ _ => rfl)))
    (pss_cons (ps_if (pt_not (pt_val (pe_call G_w_contents_right (hr.mono (by decide)) rfl T.g_w_contents_right T.F_w_contents_right.kp T.b_w_contents_right .nil pass0 (pa_cons (Ow.pe_smeth (pe_glob (v := .ref T.C_Form) rfl T.gC_Form rfl) T.cr_Form T.sm_Form_one G_Form_one (hr.mono (by decide)) T.b_Form_one .nil pass0 (pa_cons (pv 2) pa_nil)) (pa_cons (pe_call G_w_tidy (hr.mono (by decide)) rfl T.g_w_tidy T.F_w_tidy.kp T.b_w_tidy .nil pass0 (pa_cons (pe_lst (pa_cons (pe_tup (pa_cons (pv 2) (pa_cons pe_int pa_nil))) pa_nil)) (pa_cons pe_int pa_nil))) (pa_cons (pv 1) pa_nil))))))
    (pss_one (ps_ret pe_bl))
    pss_nil)
    (pss_one (ps_ret (pe_call G_w_contents_right (hr.mono (by decide)) rfl T.g_w_contents_right T.F_w_contents_right.kp T.b_w_contents_right .nil pass0 (pa_cons (Ow.pe_smeth (pe_glob (v := .ref T.C_Form) rfl T.gC_Form rfl) T.cr_Form T.sm_Form_gap G_Form_gap (hr.mono (by decide)) T.b_Form_gap .nil pass0 (pa_cons (pv 2) (pa_cons (pv 3) pa_nil))) (pa_cons (pe_call G_w_tidy (hr.mono (by decide)) rfl T.g_w_tidy T.F_w_tidy.kp T.b_w_tidy .nil pass0 (pa_cons (pe_lst (pa_cons (pe_tup (pa_cons (pv 2) (pa_cons pe_int pa_nil))) (pa_cons (pe_tup (pa_cons (pv 3) (pa_cons (pe_un un_neg pe_int) pa_nil))) pa_nil))) (pa_cons pe_int pa_nil))) (pa_cons (pv 1) pa_nil))))))))), ?_⟩
    walk_at "start"
    have hx' : H p = some (.lst (xs.map V.str)) := hx
    walk_at "sts"
    simp only [List.length_map]
    refine r_take hp (by omega) (by omega) fun n1 H1 a1 b1 k1 p1 => ?_
    have x1 : NamesAt H1 p xs := k1 _ _ (by simpa using npa) hx
    obtain ⟨nm, hnm, mnm⟩ := atI_strs (xs := xs) a1 (by omega)
    refine r_ixL (sqL_of x1) hnm ?_
    have x1' : H1 p = some (.lst (xs.map V.str)) := x1
    walk_at "sts"
    simp only [List.length_map]
    refine r_take p1 (by omega) (by omega) fun n2 H2 a2 b2 k2 p2 => ?_
    have x2 : NamesAt H2 p xs := k2 _ _ (by simpa using npa) x1
    obtain ⟨mm, hmm, mmm⟩ := atI_strs (xs := xs) a2 (by omega)
    refine r_ixL (sqL_of x2) hmm ?_
    have k12 := k1.trans k2
    walk_at "sts"
    refine Ow.r_smeth ?_
    walk_at "sts"
    refine ⟨rfl, ?_⟩
    walk_at "sts"
    refine ⟨nm, rfl, hq _ mnm, fun z H3 k3 nz f3 => ?_⟩
    walk_at "sts"
    have x3 : NamesAt H3 p xs := k3 _ _ (by simp) x2
    intro q1 hq1
    refine ⟨le_size (by show 1 ≤ 100000; decide), fun l hl => ?_⟩
    have c1 : Keep [] H3 (upd H3 q1 (.tup [.str nm, .int 1])) := Keep.new hq1
    have e1 : upd H3 q1 (.tup [.str nm, .int 1]) q1 = some (.tup [.str nm, .int 1]) := upd_same
    generalize upd H3 q1 (.tup [.str nm, .int 1]) = H4 at c1 e1 hl ⊢
    have c2 : Keep [] H4 (upd H4 l (.lst [.ref q1])) := Keep.new hl
    have el : upd H4 l (.lst [.ref q1]) l = some (.lst ([q1].map V.ref)) := upd_same
    have e12 := c2 _ _ (by simp) e1
    have c12 := c1.trans c2
    generalize upd H4 l (.lst [.ref q1]) = H5 at c2 el e12 c12 ⊢
    walk_at "sts"
    refine ⟨l, [(nm, 1)], 0, rfl, ⟨[q1], el, e12, trivial⟩, by show 1 ≤ 60; omega, fun d1 H6 k6 _ due1 => ?_⟩
    have c36 := c12.trans k6
    walk_at "sts"
    have cl1 : (Fm.can [(nm, 1)]).length ≤ 60 := can_le (by show 1 ≤ 60; omega)
    refine ⟨z, d1, p, _, 0, xs, rfl, f3.keep0 c36, due1, Fm.can_canon _, cl1, can_names (fun t ht => by rw [List.mem_singleton.mp ht]; exact hq _ mnm), c36 _ _ (by simp) x3, fun H7 k7 => ?_⟩
    have c37 := c36.trans k7
    have x7 : NamesAt H7 p xs := c37 _ _ (by simp) x3
    have kk7 : Keep [a] H H7 := k12.trans ((k3.trans c37).mono (by simp))
    have p7 : PotAt a H7 := p2.keep0 (k3.trans c37)
    clear c1 e1 c2 el e12 c12 k6 due1 c36 k7 c37 f3 x3 k3 x2 k12 k2 p2 x1 k1 p1
    walk_at "sts"
    refine Ow.r_smeth ?_
    walk_at "sts"
    refine ⟨rfl, ?_⟩
    walk_at "sts"
    refine ⟨nm, mm, rfl, hq _ mnm, hq _ mmm, fun z2 H8 k8 nz2 f8 => ?_⟩
    have x8 : NamesAt H8 p xs := k8 _ _ (by simp) x7
    walk_at "sts"
    intro q2 hq2
    have c1 : Keep [] H8 (upd H8 q2 (.tup [.str nm, .int 1])) := Keep.new hq2
    have e1 : upd H8 q2 (.tup [.str nm, .int 1]) q2 = some (.tup [.str nm, .int 1]) := upd_same
    generalize upd H8 q2 (.tup [.str nm, .int 1]) = H9 at c1 e1 ⊢
    walk_at "sts"
    intro q3 hq3
    have c2 : Keep [] H9 (upd H9 q3 (.tup [.str mm, .int (-1)])) := Keep.new hq3
    have e2 : upd H9 q3 (.tup [.str mm, .int (-1)]) q3 = some (.tup [.str mm, .int (-1)]) := upd_same
    have e12 := c2 _ _ (by simp) e1
    have c12 := c1.trans c2
    generalize upd H9 q3 (.tup [.str mm, .int (-1)]) = H10 at c2 e2 e12 c12 ⊢
    refine ⟨le_size (by show 2 ≤ 100000; decide), fun l2 hl2 => ?_⟩
    have c3 : Keep [] H10 (upd H10 l2 (.lst [.ref q2, .ref q3])) := Keep.new hl2
    have el : upd H10 l2 (.lst [.ref q2, .ref q3]) l2 = some (.lst ([q2, q3].map V.ref)) := upd_same
    have g1 := c3 _ _ (by simp) e12
    have g2 := c3 _ _ (by simp) e2
    have c13 := c12.trans c3
    generalize upd H10 l2 (.lst [.ref q2, .ref q3]) = H11 at c3 el g1 g2 c13 ⊢
    walk_at "sts"
    refine ⟨l2, [(nm, 1), (mm, -1)], 0, rfl, ⟨[q2, q3], el, g1, g2, trivial⟩, by show 2 ≤ 60; omega, fun d2 H12 k12 _ due2 => ?_⟩
    have c312 := c13.trans k12
    have cl2 : (Fm.can [(nm, 1), (mm, -1)]).length ≤ 60 := can_le (by show 2 ≤ 60; omega)
    walk_at "sts"
    refine ⟨z2, d2, p, _, 0, xs, rfl, f8.keep0 c312, due2, Fm.can_canon _, cl2, can_names (fun t ht => ?_), c312 _ _ (by simp) x8, fun H13 k13 => ?_⟩
    · rcases List.mem_cons.mp ht with rfl | ht
      · exact hq _ mnm
      · rw [List.mem_singleton.mp ht]; exact hq _ mmm
    have c813 := k8.trans (c312.trans k13)
    exact qq H13 (kk7.trans (c813.mono (by simp))) (p7.keep0 c813)
end
/-! ### the terms of a form, or the first bad name -/
def spAddedX (CB : Addr) : Sp := fun vs H Q E => ∃ (p : Addr) (ts : List Fm.Tm), vs = [.ref p] ∧ RowAt H p ts ∧ ts.length ≤ 60 ∧ (∀ t ∈ ts, t.1.length ≤ 1000 ∧ (reprText t.1).length ≤ 100000 ∧ t.1.length ≤ 100000) ∧ ((∀ t ∈ ts, IsQ t.1) → ∀ (q : Addr) (H' : Hp), Keep [] H H' → H q = none → TupAt H' q (Fm.can ts) → Q (.ref q) H') ∧
  (∀ (i : Nat) (t : Fm.Tm), ts[i]? = some t → goodB t.1 = false → (∀ u ∈ ts.take i, IsQ u.1) → ∀ e H', Keep [] H H' → H' e = none → E (.ref CB) (some e) (upd H' e (.xd [("name", .str t.1)])))
section
variable {w : World} {K : PySem.W.Frag} {mg : Str → Option Value} {base : Heap}
theorem ok_addedX (T : Tx K mg) (G_is_quantity : FnOk PG w K mg base CX0 1 T.f_is_quantity T.fd_is_quantity ["text"] spIsQG) : FnOk PG w K mg base (L2.CX PG w) 2 T.f_added_terms T.fd_added_terms ["terms"] (spAddedX T.C_BadName) := by
  refine T.F_added_terms.okX sc_added_terms (fun vs H Q E h => ?_) (fun cdv A outer s H vs Q E hr h => ?_)
  · obtain ⟨a, ts, rfl, _⟩ := h; rfl
  · obtain ⟨p, ts, rfl, ⟨as, ep, hp⟩, hl, hrep, q, qe⟩ := h
    have tk0 : Takes (cxOf (L2.CX PG w) PG w K mg base ["terms", "sums", "name", "weight"] "added_terms" (defScope s_added_terms) T.f_added_terms cdv A outer s H E) (fun cls d _ H => E cls d H) := takes_of rfl rfl rfl rfl
    have hval : ∀ {ks us : List Fm.Tm} (S : Fm.Sums ks us) (nm : Str), (valV (Fm.kOf ks) (Sum.inr nm)).getD (V.int 0) = V.int (Fm.wt us nm) := fun {ks us} S nm => by
      rw [Fm.val_kOf, S.find]
      split
      · rfl
      · next e => rw [Fm.wt_none (fun p hp z => e (by rw [← z]; exact List.mem_map_of_mem hp))]; rfl
    refine ⟨_, (pss_cons (ps_set (i := 1) sc_added_terms.nd rfl (Or.inr rfl) pe_dnewK)
    (pss_cons (ps_for (passes_of rfl) rfl (pi_list (pv 0)) (pg_tup (n := 2) rfl (pgs_cons (pg_name (i := 2) sc_added_terms.nd rfl (Or.inl rfl)) (pgs_cons (pg_name (i := 3) sc_added_terms.nd rfl (Or.inl rfl)) pgs_nil)))
    (pss_cons (ps_if (pt_not (pt_val (pe_call G_is_quantity (hr.mono (by decide)) rfl T.g_is_quantity T.F_is_quantity.kp T.b_is_quantity .nil pass0 (pa_cons (pv 2) pa_nil))))
    (pss_one (Er.ps_raise1 rfl (T.Z_BadName w) hr tk0 (pa_cons (pv 2) pa_nil)))
    pss_nil)
    (pss_one (ps_dput (hu_of hr) (pv 1) (pv 2) (pe_op op_add (pe_dget2 (hu_of hr) (pv 1) (pv 2) pe_int ⟨rfl, rfl, rfl, rfl⟩) (pv 3)) rfl))))
    (pss_one (ps_ret (pe_callTy call_tuple_of (by rfl) T.m_tuple (by decide +kernel) (pa_cons (pe_lc (own := [("name", 2)]) (g := gName 2)  rfl sc_added_terms.nd (pi_list (pe_callB cr_sortedS (by rfl) T.m_sorted (by decide +kernel) (pa_cons (pe_callTy (call_list_dK rfl) (by rfl) T.m_list (by decide +kernel) (pa_cons (pv 1) pa_nil)) pa_nil))) (blkOk_by (own := [("name", 2)]) (N := ["terms", "sums", "name", "weight"]) (sc := defScope s_added_terms) (by decide +kernel)) (fun _ _ _ _ _ => pg_name (i := 2) sc_added_terms.nd rfl (Or.inl rfl)) (fun _ _ _ _ _ => pts_one (pt_cmpR op_ne (pe_dget (hu_of hr) (pv 1) (pv 2) (fun _ _ => rfl)) pe_int (nomark _))) (fun _ _ _ _ _ => (pe_tup (pa_cons (pv 2) (pa_cons (pe_dget (hu_of hr) (pv 1) (pv 2) (fun _ _ => rfl)) pa_nil))))) pa_nil)))))), ?_⟩
    walk_at "start"
    walk_at "sts"
    intro d hd
    have k1 : Keep [] H (upd H d (.dK [])) := Keep.new hd
    have e1 : upd H d (.dK []) d = some (.dK (Fm.kOf [])) := upd_same
    generalize upd H d (.dK []) = H1 at k1 e1 ⊢
    walk_at "sts"
    refine forL_go (fun i σ' H' => ∃ (ks : List Fm.Tm) (x1 x2 : Option V), σ' = [some (.ref p), some (.ref d), x1, x2] ∧ H' d = some (.dK (Fm.kOf ks)) ∧ Fm.Sums ks (ts.take i) ∧ Keep [] H H' ∧ ∀ t ∈ ts.take i, IsQ t.1) (sqL_of (k1 _ _ (by simp) ep)) ⟨[], _, _, rfl, e1, by simpa using Fm.Sums.nil, k1, by simp⟩ (fun i σ' H' _ h => by obtain ⟨_, _, _, _, _, _, k, _⟩ := h; exact sqL_of (k _ _ (by simp) ep)) ?_ ?_
    · rintro i x σ' H2 hx ⟨ks, x1, x2, rfl, e2, S, k2, hqi⟩
      obtain ⟨a, ha, rfl⟩ := getRef hx
      obtain ⟨t, ht, et⟩ := hp.get ha
      have et2 := k2 _ _ (by simp) et
      walk_at "sts"
      refine ⟨t.1, rfl, (hrep t (List.mem_of_getElem? ht)).1, fun H3 k3 => ?_⟩
      have e3 := k3 _ _ (by simp) e2
      have k13 := k2.trans k3
      by_cases hg : goodB t.1 = true
      case neg =>
        have hg2 : goodB t.1 = false := by simpa using hg
        rw [hg2]
        walk_at "sts"
        refine ⟨_, rfl, .inr ⟨t.1, rfl, (hrep t (List.mem_of_getElem? ht)).2⟩, fun e he => ?_⟩
        exact qe i t ht hg2 hqi e H3 k13 he
      have hqt := goodB_iff.mp hg
      rw [hg]
      walk_at "sts"
      rw [hval S]
      walk_at "sts"
      refine r_dputS e3 (lt_size (by unfold Fm.kOf; rw [List.length_map]; have := S.len; rw [List.length_take] at this; omega)) ?_
      rw [Fm.put_kOf]
      exact ⟨_, _, _, rfl, upd_same, by rw [take_snoc ht]; exact S.put t, k13.mut hd, fun u hu => by rw [take_snoc ht] at hu; exact (List.mem_append.mp hu).elim (hqi u) fun h => by rw [List.mem_singleton.mp h]; exact hqt⟩
    · rintro σ' H2 ⟨ks, x1, x2, rfl, e2, S, k2, hq⟩
      rw [List.length_map, hp.len, List.take_length] at S hq
      have q := q hq
      walk_at "sts"
      refine r_listD e2 fun l hl2 => ?_
      rw [keys_kOf]
      have k3 : Keep [] H2 (upd H2 l (.lst ((ks.map (·.1)).map V.str))) := Keep.new hl2
      have e3 : upd H2 l (.lst ((ks.map (·.1)).map V.str)) l = some (.lst ((ks.map (·.1)).map V.str)) := upd_same
      generalize upd H2 l (.lst ((ks.map (·.1)).map V.str)) = H3 at k3 e3 ⊢
      walk_at "sts"
      refine r_sortS (sqL_of e3) (by rw [List.length_map]; have := S.len; omega) fun ys l2 pm st hl3 => ?_
      have k4 : Keep [] H3 (upd H3 l2 (.lst (ys.map V.str))) := Keep.new hl3
      have e4 : upd H3 l2 (.lst (ys.map V.str)) l2 = some (.lst (ys.map V.str)) := upd_same
      generalize upd H3 l2 (.lst (ys.map V.str)) = H4 at k4 e4 ⊢
      have k24 := k3.trans k4
      have kH4 := k2.trans k24
      have ed := k24 _ _ (by simp) e2
      have nd : ys.Nodup := pm.nodup_iff.mpr S.nd
      have asc := Fm.asc_of_sorted st nd
      have mem : ∀ x, x ∈ ys ↔ x ∈ ts.map (·.1) := fun x => (pm.mem_iff).trans (S.iff x)
      have ly : ys.length ≤ 60 := by have := pm.length_eq; rw [List.length_map] at this; have := S.len; omega
      refine lcL_go (fun D i acc H' => ∃ bs : List Addr, acc = bs.map V.ref ∧ PairsAt H' bs (Fm.rowOf (ys.take i) (Fm.wt ts)) ∧ Keep [] H4 H' ∧ H4 D = none) (sqL_of e4) (fun D hD => ⟨[], rfl, by simp [Fm.rowOf, PairsAt], Keep.new hD, hD⟩) (fun D i acc H' _ h => by obtain ⟨_, _, _, k, _⟩ := h; exact sqL_of (k _ _ (by simp) e4)) ?_ ?_
      · rintro D i x acc H5 hx hD ⟨bs, rfl, hb, k5, nD⟩
        obtain ⟨nm, hnm, rfl⟩ := getStr hx
        have ed5 := k5 _ _ (by simp) ed
        have hv : valV (Fm.kOf ks) (Sum.inr nm) = some (V.int (Fm.wt ts nm)) := by
          rw [Fm.val_kOf, S.find, if_pos ((mem nm).mp (List.mem_of_getElem? hnm))]
        have hlen := hb.len
        have hb60 : bs.length < 100000 := by
          have := List.length_filter_le (fun p : Fm.Tm => decide (p.2 ≠ 0)) ((ys.take i).map fun x => (x, Fm.wt ts x))
          unfold Fm.rowOf at hlen
          rw [List.length_map, List.length_take] at this
          omega
        walk_at "sts"
        refine r_dgetS ed5 hv ?_
        walk_at "sts"
        refine r_iteN (fun c => ?_) (fun c => ?_)
        · walk_at "sts"
          refine r_dgetS ed5 hv ?_
          walk_at "sts"
          intro t ht
          have k6 : Keep [] H5 (upd H5 t (.tup [.str nm, .int (Fm.wt ts nm)])) := Keep.new ht
          have e6 : upd H5 t (.tup [.str nm, .int (Fm.wt ts nm)]) t = some (.tup [.str nm, .int (Fm.wt ts nm)]) := upd_same
          generalize upd H5 t (.tup [.str nm, .int (Fm.wt ts nm)]) = H6 at k6 e6 ⊢
          have hD6 := k6 _ _ (by simp) hD
          refine lc_put hD6 (by rw [List.length_map]; exact lt_size hb60) ⟨bs ++ [t], by rw [List.map_append]; rfl, ?_, (k5.trans k6).mut nD, nD⟩
          rw [take_snoc hnm, Fm.rowOf_snoc, if_pos c]
          exact ((hb.keep0 k6).app (bs := [t]) (us := [(nm, Fm.wt ts nm)]) ⟨e6, trivial⟩).keep (Keep.at (M := [D]) (by simp)) (fun m hm => by rw [List.mem_singleton.mp hm]; exact ⟨_, hD6⟩)
        · walk_at "sts"
          exact ⟨_, hD, bs, rfl, by rw [take_snoc hnm, Fm.rowOf_snoc, if_neg (by simpa using c)]; exact hb, k5, nD⟩
      · rintro D acc H5 nD hD ⟨bs, rfl, hb, k5, _⟩
        rw [List.length_map, List.take_length, Fm.rowOf_can asc nd fun t ht => (mem _).mpr (List.mem_map_of_mem ht)] at hb
        walk_at "sts"
        refine r_tupL (sqL_of hD) fun u hu => ?_
        have kH5 := kH4.trans k5
        exact q u _ (kH5.trans (Keep.new hu)) (kH5.free (by simp) hu) ⟨bs, upd_same, hb.keep0 (Keep.new hu)⟩
end
/-! ### a form made, or the first bad name -/
def spInitFX (C CB : Addr) : Sp := fun vs H Q E => ∃ (x dx p : Addr) (ts : List Fm.Tm) (c : Int), vs = [.ref x, .ref p, .int c] ∧ H x = some (.ins C dx []) ∧ RowAt H p ts ∧ ts.length ≤ 60 ∧ (∀ t ∈ ts, t.1.length ≤ 1000 ∧ (reprText t.1).length ≤ 100000 ∧ t.1.length ≤ 100000) ∧ ((∀ t ∈ ts, IsQ t.1) → ∀ H', Keep [x] H H' → FormAt C H' x (Fm.can ts) c → Q .non H') ∧
  (∀ (i : Nat) (t : Fm.Tm), ts[i]? = some t → goodB t.1 = false → (∀ u ∈ ts.take i, IsQ u.1) → ∀ e H', Keep [] H H' → H' e = none → E (.ref CB) (some e) (upd H' e (.xd [("name", .str t.1)])))
section
variable {w : World} {K : PySem.W.Frag} {mg : Str → Option Value} {base : Heap}
theorem ok_initFX (T : Tx K mg) (G_added_terms : FnOk PG w K mg base (L2.CX PG w) 2 T.f_added_terms T.fd_added_terms ["terms"] (spAddedX T.C_BadName)) : FnOk PG w K mg base (L2.CX PG w) 3 T.f_Form___init T.fd_Form___init ["self", "terms", "constant"] (spInitFX T.C_Form T.C_BadName) := by
  refine T.F_Form___init.ok sc_Form___init (fun vs H Q E h => ?_) (fun cdv A outer s H vs Q E hr h => ?_)
  · obtain ⟨x, dx, p, ts, c, rfl, _⟩ := h; rfl
  · obtain ⟨x, dx, p, ts, c, rfl, hx, hp, hl, hrep, q, qe⟩ := h
    have oc := T.oc_Form
    have na := T.na_Form_terms
    have nc := T.na_Form_constant
    have tk0 : Takes (cxOf (L2.CX PG w) PG w K mg base ["self", "terms", "constant"] "Form.__init__" (defScope s_Form___init) T.f_Form___init cdv A outer s H E) (fun cls d _ H => E cls d H) := takes_of rfl rfl rfl rfl
    refine ⟨_, (pss_cons (ps_fld (pv 0) (pe_call G_added_terms (hr.mono (by decide)) rfl T.g_added_terms T.F_added_terms.kp T.b_added_terms .nil (passes_call tk0 (fun _ _ _ _ h => h)) (pa_cons (pv 1) pa_nil)) rfl)
    (pss_one (ps_fld (pv 0) (pv 2) rfl))), ?_⟩
    walk_at "start"
    walk_at "sts"
    refine ⟨p, ts, rfl, hp, hl, hrep, fun hq t H1 k1 nt ht => ?_, qe⟩
    have e1 := k1 _ _ (by simp) hx
    walk_at "sts"
    rw [show putF (Str.ofString "terms") (V.ref t) [] = [((Str.ofString "terms"), .ref t)] from rfl]
    walk_at "sts"
    rw [put2]
    have kx : Keep [x] H1 (upd H1 x (.ins T.C_Form dx [((Str.ofString "terms"), .ref t), ((Str.ofString "constant"), .int c)])) := Keep.at (by simp)
    rw [upd_upd]
    obtain ⟨as, et, pt⟩ := ht
    have nx : t ≠ x := by rintro rfl; rw [e1] at et; cases et
    exact q hq _ ((k1.mono (by simp)).trans kx) ⟨dx, t, upd_same, as, kx _ _ (by simpa using nx) et, pt.keepI kx e1⟩
end
namespace Kw
open PySem PySem.Spec PyProof.Rows PyProof.V L2 StX
/-! ### def f(*a, **k), called with keywords -/
theorem push_update {h : Heap} {o : Obj} {f : Obj → Obj} : (h.push o).update h.objs.size f = h.push (f o) := by
  cases h with
  | mk objs l =>
    show Heap.mk ((objs.push o).modify objs.size f) l = Heap.mk (objs.push (f o)) l
    congr 1
    apply Array.ext
    · simp
    · intro i h1 h2
      simp only [Array.getElem_modify, Array.getElem_push]
      by_cases e : i < objs.size
      · rw [dif_pos e, dif_pos e, if_neg (by omega)]
      · rw [dif_neg e, dif_neg e, if_pos (by simp at h2; omega)]
section
variable {prog : Program} {w : World} {A : Around} {E : Value → Shared → Prop}
theorem ns_step {h : Heap} {s : Shared} {es : List DictEntry} {n : Nat} {k : Str} {v : Value} {Q : Unit → Shared → Prop} (hh : s.heap = h.push (PySem.W.dictOf es n))
    (hs : ∀ e ∈ es, e.key.isStr k = false) (hr : ∀ e ∈ es, e.refKey = false)
    (q : Q () { s with heap := h.push (PySem.W.dictOf (es ++ [⟨PyData.keyHash w.params k, .str k s.toks, v⟩]) (n + 1)), toks := s.toks + 1 }) :
    wpAny (model prog w) A (nsSet h.objs.size k v) Q E s := by
  have e1 : es.any (·.key.isStr k) = false := by
    cases q : es.any (·.key.isStr k) with
    | false => rfl
    | true => obtain ⟨e, he, z⟩ := List.any_eq_true.mp q; rw [hs e he] at z; cases z
  have e2 : es.any (·.refKey) = false := by
    cases q : es.any (·.refKey) with
    | false => rfl
    | true => obtain ⟨e, he, z⟩ := List.any_eq_true.mp q; rw [hr e he] at z; cases z
  have e : Obj.putName k (PyData.keyHash w.params k) (.str k s.toks) v (PySem.W.dictOf es n) = PySem.W.dictOf (es ++ [⟨PyData.keyHash w.params k, .str k s.toks, v⟩]) (n + 1) := by
    rw [PySem.W.putName_dict, PySem.W.putL_new hs]
    show PySem.W.dictOf _ (if es.any (·.key.isStr k) then n else n + 1) = _
    rw [e1, if_neg Bool.false_ne_true]
  have D : s.heap.get? h.objs.size = some (PySem.W.dictOf es n) := by rw [hh]; exact Heap.get?_push_size _ rfl
  have c : aRefKeyMayBeTheName k es.toArray = false := by
    rw [PySem.aRefKeyMayBeTheName_at, ← Array.any_toList, ← Array.any_toList]
    show (!es.any (·.key.isStr k) && es.any (·.refKey)) = false
    rw [e2, Bool.and_false]
  unfold nsSet
  refine wpAny_bind (wpAny_bind (wpAny_askSetting (wpAny_pure (wpAny_bind (wpAny_mkText (wpAny_bind (wpAny_loadPart D ?_)))))))
  dsimp only
  rw [c]
  refine wpAny_updatePart D ?_
  show Q () { s with heap := s.heap.update h.objs.size _, toks := s.toks + 1 }
  rw [hh, push_update]
  show Q () { s with heap := h.push (Obj.putName k (PyData.keyHash w.params k) (.str k s.toks) v (PySem.W.dictOf es n)), toks := s.toks + 1 }
  rw [e]
  exact q
theorem fill {Q : PUnit → Shared → Prop} {h : Heap} : ∀ (ex : List (Str × Value)) (s : Shared) (es : List DictEntry) (n : Nat), s.heap = h.push (PySem.W.dictOf es n) →
    (∀ e ∈ es, ∀ x ∈ ex, e.key.isStr x.1 = false) → (∀ e ∈ es, e.refKey = false) → (ex.map (·.1)).Nodup →
    Q ⟨⟩ { s with heap := h.push (PySem.W.dictOf (es ++ PySem.W.kwEs w.params s.toks ex) (n + ex.length)), toks := s.toks + ex.length } →
    wpAny (model prog w) A (forIn ex PUnit.unit fun x _ => (nsSet h.objs.size x.1 x.2 >>= fun _ => pure (ForInStep.yield PUnit.unit))) Q E s
  | [], s, es, n, hh, _, _, _, q => by
    rw [List.forIn_nil]
    refine wpAny_pure ?_
    have e : s = { s with heap := h.push (PySem.W.dictOf (es ++ PySem.W.kwEs w.params s.toks []) (n + 0)), toks := s.toks + 0 } := by
      show s = { s with heap := h.push (PySem.W.dictOf (es ++ []) (n + 0)), toks := s.toks + 0 }
      rw [List.append_nil, Nat.add_zero, Nat.add_zero, ← hh]
    rw [e]; exact q
  | x :: r, s, es, n, hh, hs, hr, hn, q => by
    obtain ⟨hn1, hn2⟩ := List.nodup_cons.mp (show (x.1 :: r.map (·.1)).Nodup from hn)
    rw [List.forIn_cons]
    refine wpAny_bind (wpAny_bind (ns_step hh (fun e he => hs e he x (.head _)) hr (wpAny_pure ?_)))
    show wpAny (model prog w) A (forIn r PUnit.unit fun x _ => (nsSet h.objs.size x.1 x.2 >>= fun _ => pure (ForInStep.yield PUnit.unit))) Q E _
    refine fill r _ (es ++ [⟨PyData.keyHash w.params x.1, .str x.1 s.toks, x.2⟩]) (n + 1) rfl (fun e he y hy => ?_) (fun e he => ?_) hn2 ?_
    · rcases List.mem_append.mp he with he | he
      · exact hs e he y (.tail _ hy)
      · obtain rfl := List.mem_singleton.mp he
        show (x.1 == y.1) = false
        exact beq_eq_false_iff_ne.mpr fun q => hn1 (by rw [q]; exact List.mem_map_of_mem hy)
    · rcases List.mem_append.mp he with he | he
      · exact hr e he
      · obtain rfl := List.mem_singleton.mp he
        rfl
    · have t1 : s.toks + 1 + r.length = s.toks + (r.length + 1) := by omega
      have t2 : n + 1 + r.length = n + (r.length + 1) := by omega
      show Q ⟨⟩ { s with heap := h.push (PySem.W.dictOf ((es ++ [_]) ++ PySem.W.kwEs w.params (s.toks + 1) r) (n + 1 + r.length)), toks := s.toks + 1 + r.length }
      rw [t1, t2, List.append_assoc]
      exact q
end
/-- the keywords as the dict holds them -/
def kwD (ks : List Str) (zs : List V) : List (Key × V) := (ks.map (Sum.inr (α := Int))).zip zs
section
variable {P : Program} {w : World} {H : Hp}
theorem kw_kv : ∀ {ks : List Str} {zs : List V} {ws : List Value}, L2.Vals zs ws → KV (kwD ks zs) ((ks.map (Sum.inr (α := Int))).zip ws)
  | [], _, _, _ => .nil
  | _ :: _, [], [], _ => .nil
  | k :: ks, z :: zs, w :: ws, .cons a r => .cons ⟨rfl, a⟩ (kw_kv (ks := ks) r)
theorem kw_pairs : ∀ {ks : List Str} {ws : List Value} {t : Tok}, ks.length = ws.length → Pairs (mixKind P w) (PySem.W.kwEs w.params t (ks.zip ws)) ((ks.map (Sum.inr (α := Int))).zip ws)
  | [], [], _, _ => .nil
  | k :: ks, v :: ws, t, h => .cons (keyIs_str k t) rfl (kw_pairs (by simpa using h))
theorem kw_keys {ks : List Str} {ws : List Value} (h : ks.length = ws.length) : ((ks.map (Sum.inr (α := Int))).zip ws).map (·.1) = ks.map Sum.inr := by
  rw [List.map_fst_zip]; rw [List.length_map]; omega
theorem dk_filled {h : Heap} {ks : List Str} {zs : List V} {ws : List Value} {t : Tok} {n : Nat} (hb : sysModules < h.objs.size) (hl : ks.length = ws.length) (nd : ks.Nodup) (hz : ks.length ≤ sizeLine) (r : L2.Vals zs ws) :
    ObjOk P w H (h.push (PySem.W.dictOf (PySem.W.kwEs w.params t (ks.zip ws)) n)) h.objs.size (.dK (kwD ks zs)) := by
  refine ⟨?_, beq_eq_false_iff_ne.mpr (Ne.symm (Nat.ne_of_lt hb)), _, kw_kv r, Heap.dictOf_iff.mpr ⟨_, Heap.get?_push_size _ rfl, (PySem.W.kwEs w.params t (ks.zip ws)).toArray, n, ⟨rfl, rfl, rfl⟩, rfl, fun e he => ?_, kw_pairs hl, ?_⟩⟩
  · unfold kwD; rw [List.length_zip, List.length_map]; omega
  · obtain ⟨k, u, hk, hh⟩ := PySem.W.kwEs_key (ks.zip ws) t e (List.mem_toArray.mp he)
    exact ⟨Sum.inr k, by rw [hk]; exact keyIs_str k u, hh.trans rfl⟩
  · rw [kw_keys hl]
    exact List.Pairwise.map _ (fun (a b : Str) (e : a ≠ b) (g : (Sum.inr a : Key) = Sum.inr b) => e (Sum.inr.inj g)) nd
end
/-- a call with the keywords ks -/
def FnKw (P : Program) (w : World) (K : PySem.W.Frag) (mg : Str → Option Value) (base : Heap) (CX : CXT) (k : Nat) (f : Addr) (ks : List Str) (sp : List V → List V → Hp → VK → XK → Prop) : Prop :=
  ∀ (A : Around) (outer : List Env) (s : Shared) (H : Hp) (us ws : List Value) (vs zs : List V) (Q : VK) (E : XK), Room k A → Env0 P w K mg base A outer s H → L2.Vals vs us → L2.Vals zs ws → zs.length = ks.length → sp vs zs H Q E →
    codeAny (model P w) A (.call (.ref f) ⟨us, ks.zip ws⟩) (CR CX outer P w H s Q E) s
section
variable {P : Program} {w : World} {K : PySem.W.Frag} {mg : Str → Option Value} {base : Heap} {CX : CXT} {k : Nat} {f : Addr} {name qual : Str} {params : Arguments} {body : List Stmt} {scope : Scope} {dV kV doc pm cdv ct oc : Value} {an od : Option Addr} {osl : Array (Option Value)} {N : List Str} {sp : Sp}
theorem fn_kw {pv pd : Str} {ks : List Str} (lk : K.lookup f = some ⟨oc, od, .func (PySem.W.fnOf name qual params body scope dV kV doc pm an cdv ct), osl⟩) (hcd : PySem.W.codeIn K cdv qual = true) (S : FnScope N [pv, pd] scope) (hCX : CXUp CX) (nd : ks.Nodup) (hkz : ks.length ≤ sizeLine)
    (hb : ∀ us ws : List Value, ws.length = ks.length → bindArgs (PySem.W.fnOf name qual params body scope dV kV doc pm an cdv ct) ⟨us, ks.zip ws⟩ =
      (newTuple us >>= fun t => (alloc ({ cls := .type "dict", data := .dict #[] } : Obj) : Sem Addr) >>= fun d => (forIn (ks.zip ws) PUnit.unit fun x _ => (nsSet d x.1 x.2 >>= fun _ => pure (ForInStep.yield PUnit.unit))) >>= fun _ => pure [(pv, t), (pd, Value.ref d)]))
    (hbody : ∀ (A : Around) (outer : List Env) (s : Shared) (H : Hp) (vs : List V) (Q : VK) (E : XK), Room k (A.deeper (envOfC qual scope s.heap.objs.size f cdv)) → sp vs H Q E →
      ∃ t, PSs (cxOf CX P w K mg base N qual scope f cdv A outer s H E) body t ∧ t { nx := fun _ H' => Q .non H', rt := Q } (start N vs) H) :
    FnKw P w K mg base CX (k + 1) f ks (fun vs zs H Q E => vs.length ≤ sizeLine ∧ ∀ p d, H p = Option.none → H d = Option.none → d ≠ p → sp [V.ref p, V.ref d] (upd (upd H p (.tup vs)) d (.dK (kwD ks zs))) Q E) := by
  intro A outer s H us ws vs zs Q E hr e0 r rz hl ⟨hz, hq⟩
  have hn : H s.heap.objs.size = Option.none := e0.hok.fresh (Nat.le_refl _)
  have hl2 : us.length ≤ sizeLine := by rw [← r.length]; exact hz
  have hlw : ws.length = ks.length := by rw [← rz.length]; exact hl
  refine run_bnd lk hcd S hr e0 (G := fun xs H2 => ∃ p d, H p = Option.none ∧ H d = Option.none ∧ d ≠ p ∧ xs = [V.ref p, V.ref d] ∧ H2 = upd (upd H p (.tup vs)) d (.dK (kwD ks zs))) (fun A' Ex Q' h => ?_) fun s2 H2 xs ⟨p, d, hp, hd, hne, ex, eH⟩ hr' => ?_
  · rw [hb us ws hlw]
    refine wpAny_bind (wpAny_newTuple (wpAny_bind (wpAny_alloc ?_)) hl2)
    have new : ObjOk P w (upd H s.heap.objs.size (.tup vs)) (s.heap.push ({ cls := .type "tuple", data := .seq us.toArray } : Obj)) s.heap.objs.size (.tup vs) := ⟨hz, us, r, ⟨_, Heap.get?_push_size _ rfl, rfl, _, rfl⟩⟩
    have e1 := env0_laid e0 new
    have un1 := un_laid (fs := frs outer) (s := s) (o := ({ cls := .type "tuple", data := .seq us.toArray } : Obj)) (u := .tup vs) hn
    have hn2 := e1.hok.fresh (Nat.le_refl _)
    refine wpAny_bind (fill (h := s.heap.push ({ cls := .type "tuple", data := .seq us.toArray } : Obj)) (ks.zip ws) _ [] 0 rfl (fun _ he => nomatch he) (fun _ he => nomatch he) (by rw [List.map_fst_zip (by omega)]; exact nd) (wpAny_pure ?_))
    have e2 := env0_laid (u := .dK (kwD ks zs)) (o := PySem.W.dictOf ([] ++ PySem.W.kwEs w.params s.toks (ks.zip ws)) (0 + (ks.zip ws).length)) e1 (dk_filled (env0_big e1) hlw.symm nd hkz rz)
    have un2 := un1.trans (un_laid (fs := frs outer) (s := { s with heap := s.heap.push ({ cls := .type "tuple", data := .seq us.toArray } : Obj) }) (o := PySem.W.dictOf ([] ++ PySem.W.kwEs w.params s.toks (ks.zip ws)) (0 + (ks.zip ws).length)) (u := .dK (kwD ks zs)) hn2)
    have sz : (s.heap.push ({ cls := .type "tuple", data := .seq us.toArray } : Obj)).objs.size = s.heap.objs.size + 1 := Heap.size_push _ _
    have ne : (s.heap.push ({ cls := .type "tuple", data := .seq us.toArray } : Obj)).objs.size ≠ s.heap.objs.size := by
      rw [sz]
      exact Nat.succ_ne_self _
    have hd : H (s.heap.push ({ cls := .type "tuple", data := .seq us.toArray } : Obj)).objs.size = Option.none := e0.hok.fresh (by rw [sz]; exact Nat.le_succ _)
    exact h _ _ [V.ref s.heap.objs.size, V.ref (s.heap.push ({ cls := .type "tuple", data := .seq us.toArray } : Obj)).objs.size] [Value.ref s.heap.objs.size, Value.ref (s.heap.push ({ cls := .type "tuple", data := .seq us.toArray } : Obj)).objs.size] ⟨e2.frames, e2.mod, e2.bs, e2.bsz, e2.funs, e2.frf, e2.hok, e2.bare⟩ un2 rfl
      (fun e s' => hCX outer s H _ _ E e s' un2 (fun b o q => Heap.get?_push_of_some _ (Heap.get?_push_of_some _ q)) rfl) (.cons rfl (.cons rfl .nil)) rfl ⟨_, _, hn, hd, ne, rfl, rfl⟩
  · subst ex eH
    exact hbody A outer s2 _ _ Q E hr' (hq p d hp hd hne)
end
/-! ### the call, in plain code and within a try -/
def tCallKw (m : Nat) (sp : List V → List V → Hp → VK → XK → Prop) (E : L2.St → XK) (t tk : TA) : TE := fun σ H Q => t σ H fun vs H1 => tk σ H1 fun zs H2 => zs.length = m ∧ sp vs zs H2 Q (E σ)
section
variable {X : Cx} {CX : CXT} {k : Nat} {f : Addr} {ks : List Str} {sp : List V → List V → Hp → VK → XK → Prop} {x : Str} {p pos : Pos} {e : Expr} {es : List Expr} {kws : List Keyword} {t tk : TA}
theorem run_fnKw {E : XK} {pins : List (Addr × Obj)} {σ : L2.St} {H : Hp} {s : Shared} {Q : VK} {us ws : List Value} {vs zs : List V} (F : FnKw X.prog X.w X.K X.mg X.base CX k f ks sp) (hr : Room k X.A) (hx : PassesAt CX X σ E)
    (I : Inv X pins σ H s) (r : L2.Vals vs us) (rz : L2.Vals zs ws) (l2 : zs.length = ks.length) (h : sp vs zs H Q E) : wpAny (model X.prog X.w) X.A (call (.ref f) us (ks.zip ws)) (EP X pins σ Q) X.xe s := by
  refine wpAny_call (codeAny_mono (F X.A X.stack s H us ws vs zs Q E hr I.env0 r rz l2 h) fun r s' hq => ?_)
  cases r with
  | error e => exact hx pins H s e s' I hq
  | ok fl =>
    cases fl with
    | ret u => exact I.after hq
    | next => exact False.elim hq
    | brk => exact False.elim hq
    | cont => exact False.elim hq
theorem pe_callKw {E : L2.St → XK} (F : FnKw X.prog X.w X.K X.mg X.base CX k f ks sp) (hr : Room k X.A) (hg : Gl X x) (hm : X.mg x = some (.ref f)) (hk : PySem.W.keepIn X.K (.ref f) = true) (hx : ∀ σ, PassesAt CX X σ (E σ))
    (ha : PA X (e :: es) t) (hkw : PK X kws tk) (hall : (backToKw pos (keywordEach kws X.env)).all (·.1.isSome) = true := by rfl) (hks : (backToKw pos (keywordEach kws X.env)).filterMap (·.1) = ks := by rfl)
    (hdb : (x == ("__debug__" : Str)) = false := by decide) (he : starEach (e :: es) X.env = (false, eval e X.env) :: starEach es X.env := by rfl)
    (hpl : ((backTo pos (starEach (e :: es) X.env)).any (·.1) || (backToKw pos (keywordEach kws X.env)).any (·.1.isNone)) = false := by rfl) :
    PE X (.Call (.Name x p) (e :: es) kws pos) (tCallKw ks.length sp E t tk) := by
  refine ⟨fun pins s σ H Q I h => ?_⟩
  refine wpAny_Call_Name_kw (ld_glob I hg hm ?_ hdb)
  refine PySem.W.callWith_KW (h₀ := X.base) I.ok.mod.kin hk hall (thn (ha.run pos pins s σ H _ I h) fun us s1 ⟨vs, H1, I1, r, q⟩ => ?_) hpl he
  refine thn (hkw.run pos pins s1 σ H1 _ I1 q) fun ws s2 ⟨zs, H2, I2, rz, l2, q2⟩ => ⟨I2.kIn, ?_⟩
  rw [hks]
  exact run_fnKw F hr (hx σ) I2 r rz l2 q2
theorem pe_callKw0 {E : L2.St → XK} (F : FnKw X.prog X.w X.K X.mg X.base CX k f ks sp) (hr : Room k X.A) (hg : Gl X x) (hm : X.mg x = some (.ref f)) (hk : PySem.W.keepIn X.K (.ref f) = true) (hx : ∀ σ, PassesAt CX X σ (E σ))
    (hkw : PK X kws tk) (hall : (backToKw pos (keywordEach kws X.env)).all (·.1.isSome) = true := by rfl) (hks : (backToKw pos (keywordEach kws X.env)).filterMap (·.1) = ks := by rfl)
    (hdb : (x == ("__debug__" : Str)) = false := by decide)
    (hpl : ((backTo pos (starEach [] X.env)).any (·.1) || (backToKw pos (keywordEach kws X.env)).any (·.1.isNone)) = false := by rfl) :
    PE X (.Call (.Name x p) [] kws pos) (tCallKw ks.length sp E tNil tk) := by
  refine ⟨fun pins s σ H Q I h => ?_⟩
  refine wpAny_Call_Name_kw (ld_glob I hg hm ?_ hdb)
  refine PySem.W.callWith_KW0 (h₀ := X.base) I.ok.mod.kin hk hall (thn (hkw.run pos pins s σ H _ I h) fun ws s2 ⟨zs, H2, I2, rz, l2, q2⟩ => ⟨I2.kIn, ?_⟩) hpl
  rw [hks]
  exact run_fnKw (us := []) (vs := []) F hr (hx σ) I2 .nil rz l2 q2
theorem r_callKw {vs : List V} {E : L2.St → XK} {m : Nat} {σ : L2.St} {H : Hp} {Q : VK} (k : t σ H fun vs H1 => tk σ H1 fun zs H2 => zs.length = m ∧ sp vs zs H2 Q (E σ)) : tCallKw m sp E t tk σ H Q := k
/-- the context where nothing gets out, for every σ -/
theorem passAt0 {X : Cx} {E : L2.St → XK} (σ : L2.St) : PassesAt CX0 X σ (E σ) := fun _ _ _ _ _ _ h => False.elim h
end
end Kw
namespace Kw
open PySem PySem.Spec PyProof.Rows PyProof.V L2 StX
section
variable {P : Program} {w : World} {K : PySem.W.Frag} {mg : Str → Option Value} {base : Heap} {x qual : Str} {st : Stmt} {f : Addr} {fd : FuncData} {N : List Str} {k : Nat} {sp : Sp} {pv pd : Str} {ks : List Str}
/-- what binding does: a new tuple, a new dict, filled -/
def KwTo (pv pd : Str) (us : List Value) (kw : List (Str × Value)) : Sem (List (Str × Value)) :=
  newTuple us >>= fun t => (alloc ({ cls := .type "dict", data := .dict #[] } : Obj) : Sem Addr) >>= fun d => (forIn kw PUnit.unit fun x _ => (nsSet d x.1 x.2 >>= fun _ => pure (ForInStep.yield PUnit.unit))) >>= fun _ => pure [(pv, t), (pd, Value.ref d)]
def KwB (x qual : Str) (st : Stmt) (pv pd : Str) (ks : List Str) : Prop := ∀ (kV doc pm : Value) (an : Option Addr) (cdv ct : Value) (us ws : List Value), ws.length = ks.length →
  bindArgs (PySem.W.fnOf x qual (defArgs st) (defBody st) (defScope st) .none kV doc pm an cdv ct) ⟨us, ks.zip ws⟩ = KwTo pv pd us (ks.zip ws)
def kwSp (ks : List Str) (sp : Sp) : List V → List V → Hp → VK → XK → Prop := fun vs zs H Q E => vs.length ≤ sizeLine ∧ ∀ p d, H p = Option.none → H d = Option.none → d ≠ p → sp [V.ref p, V.ref d] (upd (upd H p (.tup vs)) d (.dK (kwD ks zs))) Q E
theorem Fun.okKw (F : Fun K x qual st f fd) (S : FnScope N [pv, pd] (defScope st)) (nd : ks.Nodup) (hkz : ks.length ≤ sizeLine) (hb : KwB x qual st pv pd ks)
    (hbody : ∀ (cdv : Value) (A : Around) (outer : List Env) (s : Shared) (H : Hp) (vs : List V) (Q : VK) (E : XK), Room k (A.deeper (envOfC qual (defScope st) s.heap.objs.size f cdv)) → sp vs H Q E →
      ∃ t, PSs (cxOf CX0 P w K mg base N qual (defScope st) f cdv A outer s H E).nox (defBody st) t ∧ t { nx := fun _ H' => Q .non H', rt := Q } (start N vs) H) : FnKw P w K mg base CX0 (k + 1) f ks (kwSp ks sp) := by
  obtain ⟨oc, od, kV, doc, pm, an, cdv, ct, osl, rfl, lk, hcd⟩ := F.ex
  refine fn_kw lk hcd S cxUp_none nd hkz (fun us ws h => hb kV doc pm an cdv ct us ws h) fun A outer s H vs Q E hr hsp => ?_
  obtain ⟨t, h, q⟩ := hbody cdv A outer s H vs Q E hr hsp
  exact ⟨t, h.nox, q⟩
theorem Fun.okKwX (F : Fun K x qual st f fd) (S : FnScope N [pv, pd] (defScope st)) (nd : ks.Nodup) (hkz : ks.length ≤ sizeLine) (hb : KwB x qual st pv pd ks)
    (hbody : ∀ (cdv : Value) (A : Around) (outer : List Env) (s : Shared) (H : Hp) (vs : List V) (Q : VK) (E : XK), Room k (A.deeper (envOfC qual (defScope st) s.heap.objs.size f cdv)) → sp vs H Q E →
      ∃ t, PSs (cxOf (L2.CX P w) P w K mg base N qual (defScope st) f cdv A outer s H E) (defBody st) t ∧ t { nx := fun _ H' => Q .non H', rt := Q } (start N vs) H) : FnKw P w K mg base (L2.CX P w) (k + 1) f ks (kwSp ks sp) := by
  obtain ⟨oc, od, kV, doc, pm, an, cdv, ct, osl, rfl, lk, hcd⟩ := F.ex
  exact fn_kw lk hcd S cxUp nd hkz (fun us ws h => hb kV doc pm an cdv ct us ws h) fun A outer s H vs Q E hr hsp => hbody cdv A outer s H vs Q E hr hsp
/-- without keywords -/
theorem Fun.okStarKw (F : Fun K x qual st f fd) (S : FnScope N [pv, pd] (defScope st))
    (hb : ∀ (kV doc pm : Value) (an : Option Addr) (cdv ct : Value) (us : List Value), bindArgs (PySem.W.fnOf x qual (defArgs st) (defBody st) (defScope st) .none kV doc pm an cdv ct) ⟨us, []⟩ =
      (newTuple us >>= fun t => (alloc ({ cls := .type "dict", data := .dict #[] } : Obj) : Sem Addr) >>= fun d => pure [(pv, t), (pd, Value.ref d)]))
    (hbody : ∀ (cdv : Value) (A : Around) (outer : List Env) (s : Shared) (H : Hp) (vs : List V) (Q : VK) (E : XK), Room k (A.deeper (envOfC qual (defScope st) s.heap.objs.size f cdv)) → sp vs H Q E →
      ∃ t, PSs (cxOf CX0 P w K mg base N qual (defScope st) f cdv A outer s H E).nox (defBody st) t ∧ t { nx := fun _ H' => Q .non H', rt := Q } (start N vs) H) :
    FnR P w K mg base CX0 (k + 1) f (fun vs H Q E => vs.length ≤ sizeLine ∧ ∀ p d, H p = Option.none → H d = Option.none → d ≠ p → sp [V.ref p, V.ref d] (upd (upd H p (.tup vs)) d (.dK [])) Q E) := by
  obtain ⟨oc, od, kV, doc, pm, an, cdv, ct, osl, rfl, lk, hcd⟩ := F.ex
  have z := fn_starkw (ps := []) (pv := pv) (pd := pd) (k := k) (sp := sp) (P := P) (w := w) (mg := mg) (base := base) (N := N) lk hcd S cxUp_none (fun us rest h => by
    have e : us = [] := List.length_eq_zero_iff.mp h
    subst e
    exact hb kV doc pm an cdv ct rest) fun A outer s H vs Q E hr hsp => by
      obtain ⟨t, h, q⟩ := hbody cdv A outer s H vs Q E hr hsp
      exact ⟨t, h.nox, q⟩
  intro A outer s H us vs Q E hr e0 r ⟨h1, h2⟩
  exact z A outer s H us vs Q E hr e0 r ⟨[], vs, rfl, rfl, h1, h2⟩
end
end Kw
namespace Kw
open PySem PySem.Spec PyProof.Rows PyProof.V L2 StX
/-! ### sum(t) of a tuple of ints -/
theorem sum_tupG {prog : Program} {w : World} {A : Around} {E : Value → Shared → Prop} {s : Shared} {l : Addr} {xs : Array (Int × Tok)} {Q : Value → Shared → Prop} (hh : A.handled = none) (hl : s.heap.IsTuple l (intItems xs))
    (h : ∀ h' tk t', (∀ b o, s.heap.get? b = some o → h'.get? b = some o) → Q (.int (preSum (numAt xs) xs.size) t') { s with heap := h', toks := tk }) :
    wpAny (model prog w) A (call (.builtin "sum") [.ref l]) Q E s := by
  have hlt : l < s.heap.objs.size := by obtain ⟨_, e, _⟩ := hl; exact Heap.lt_size e
  refine call_sum_walkG (PyProof.Rows.iter_tuple (items := intItems xs) hl ?_)
  refine ⟨_, _, _, _, _, _, numAt xs, rfl, Walks.tuple (A := A.in1) hh s.heap.objs.size l (Nat.ne_of_lt hlt) (intItems xs), ⟨⟨_, Heap.get?_push_size _ rfl, rfl, rfl⟩, hl.push _⟩, fun b hb => ?_, (fun _ _ => intItems_at), fun h' tk t' hk => ?_⟩
  · show b < (s.heap.push _).objs.size
    rw [Heap.size_push]
    rcases List.mem_cons.mp hb with rfl | hb
    · exact Nat.lt_succ_self _
    · rcases List.mem_cons.mp hb with rfl | hb
      · exact Nat.lt_succ_of_lt hlt
      · cases hb
  · have := h h' tk t' fun b o e => by
      refine hk b o (fun hm => ?_) (Heap.get?_push_of_some _ e)
      rcases List.mem_cons.mp hm with e1 | hm
      · exact absurd (e1 ▸ Heap.lt_size e) (Nat.lt_irrefl _)
      · cases hm
    simpa [intItems] using this
def rSumT (K : PySem.W.Frag) : List V → Hp → VK → Prop := fun vs H Q => ∃ (a : Addr) (ns : List Int), vs = [V.ref a] ∧ SqT K H a (ns.map V.int) ∧ Q (.int ns.sum) H
theorem cr_sumT {X : Cx} (hc : X.calm = true) : CallR X (.builtin "sum") (rSumT X.K) := by
  intro pins s σ H vs us Q I r h
  obtain ⟨a, ns, rfl, hs, q⟩ := h
  obtain ⟨its, rv, hl, _⟩ := I.tuple hs
  rw [Vals.ref1 r]
  have hi := rv.ints
  obtain ⟨xs, e⟩ := hi.allInts.items
  have hn : numsOf (intItems xs).toList = ns := by rw [← e]; exact hi.numsOf
  rw [nums_intItems] at hn
  rw [e] at hl
  refine sum_tupG (I.ok.hd hc) hl fun h' tk t' hk => ?_
  rw [preSum_eq, List.take_of_length_le (by simp), hn]
  exact ⟨.int _, H, I.kept hk, ⟨_, rfl⟩, q⟩
theorem r_sumT {K : PySem.W.Frag} {H : Hp} {Q : VK} {p : Addr} {ns : List Int} (h : SqT K H p (ns.map V.int)) (k : Q (.int ns.sum) H) : rSumT K [.ref p] H Q := ⟨p, ns, rfl, h, k⟩
/-! ### [e for k, v in d.items()] -/
theorem lcI_go {σ : L2.St} {H : Hp} {Q : VK} {G : TG} {tt : TT} {te td : TE} {vs : List Nat} {d : Addr} {kvs : List (Key × V)} (hd : H d = some (.dK kvs)) (up : ∀ od (Q' : VK), (∀ v H1, v = .ref d ∧ H1 = upd H d (.frz od (.dK kvs)) → Q' v H1) → td σ (upd H d (.frz od (.dK kvs))) Q')
    (Pv : Obj → Addr → Nat → List V → Hp → Prop) (h0 : ∀ od D, upd H d (.frz od (.dK kvs)) D = none → Pv od D 0 [] (upd (upd H d (.frz od (.dK kvs))) D (.lst []))) (hG : ∀ od D i acc H', Pv od D i acc H' → H' d = some (.frz od (.dK kvs)))
    (hs : ∀ od D (i : Nat) k v T acc H', kvs[i]? = some (k, v) → upd H d (.frz od (.dK kvs)) D = none → H' D = some (.lst acc) → Pv od D i acc H' → H' T = none → G (.ref T) (wipe σ vs) (upd H' T (.tup [kV k, v])) fun σ2 H2 => wipe σ2 vs = wipe σ vs ∧ tt σ2 H2 fun b H3 =>
      if b = true then te σ2 H3 fun y H4 => ∃ acc, H4 D = some (.lst acc) ∧ acc.length < sizeLine ∧ (∃ ac, (upd H4 D (.lst (acc ++ [y]))) D = some (.lst ac) ∧ Pv od D (i + 1) ac (upd H4 D (.lst (acc ++ [y])))) else ∃ ac, H3 D = some (.lst ac) ∧ Pv od D (i + 1) ac H3)
    (he : ∀ od D acc H', upd H d (.frz od (.dK kvs)) D = none → H' D = some (.lst acc) → Pv od D kvs.length acc H' → Q (.ref D) (upd H' d (.dK kvs))) : tLockE (tLc (iItems td) G tt te vs) σ H Q := by
  refine ⟨d, .dK kvs, hd, trivial, fun od => up od _ ?_⟩
  rintro v H1 ⟨rfl, rfl⟩
  refine ⟨d, od, kvs, rfl, upd_same, fun D hD => lc_it walk_items (fun i H' => ∃ acc, H' D = some (.lst acc) ∧ Pv od D i acc H') ⟨[], upd_same, h0 od D hD⟩ (fun i H' _ ⟨acc, _, p⟩ => hG od D i acc H' p) ?_ fun H' ⟨acc, ha, p⟩ => ⟨hG _ _ _ _ _ p, he od D acc H' hD ha p⟩⟩
  rintro i v H1 H' hi ⟨acc, ha, p⟩ ⟨T, x, y, ev, hT, eH, ex, ey⟩
  subst ev eH
  replace ex : kvs[i]?.map (fun kv => kV kv.1) = some x := ex
  replace ey : kvs[i]?.map Prod.snd = some y := ey
  cases hk : kvs[i]? with
  | none => rw [hk] at ex; cases ex
  | some kv =>
    rw [hk] at ex ey
    cases ex; cases ey
    exact hs od D i kv.1 kv.2 T acc H1 hk hD ha p hT
end Kw
/-! sorted() of triples of two ints and a text, the pairs of ints telling the text -/
namespace So
open PySem PySem.Spec PyProof.Rows SrtO Srt L2
def IsTri (h : Heap) (v : Value) (x y : Int) (z : Str) : Prop := ∃ a o t u r n, v = .ref a ∧ h.get? a = some o ∧ o.cls = .type "tuple" ∧ o.data = .seq #[.int x t, .int y u, .str z r] n
theorem IsTri.keeps {h h' : Heap} {v : Value} {x y : Int} {z : Str} (p : IsTri h v x y z) (k : ∀ b o, h.get? b = some o → o.cls = .type "tuple" → h'.get? b = some o) : IsTri h' v x y z := by
  obtain ⟨a, o, t, u, r, n, e, ho, hc, hd⟩ := p
  exact ⟨a, o, t, u, r, n, e, k _ _ ho hc, hc, hd⟩
theorem firsts_of {h : Heap} : ∀ {vs : List Value}, (∀ v ∈ vs, ∃ x y z, IsTri h v x y z) → ∃ fs : List Value, PySem.W.KatTups h vs fs ∧ fs.length = vs.length ∧ ∀ f ∈ fs, ∃ x t, f = Value.int x t
  | [], _ => ⟨[], PySem.W.KatTups.nil, rfl, fun _ hm => by simp at hm⟩
  | v :: vs, hp => by
    obtain ⟨fs, h1, h2, h3⟩ := firsts_of (vs := vs) fun v' hm => hp v' (List.mem_cons_of_mem _ hm)
    obtain ⟨x, y, z, a, o, t, u, r, n, e, ho, hc, hd⟩ := hp v (List.mem_cons_self ..)
    subst e
    refine ⟨.int x t :: fs, PySem.W.KatTups.cons ho hc hd rfl h1, by rw [List.length_cons, List.length_cons, h2], fun f hm => ?_⟩
    rcases List.mem_cons.mp hm with rfl | hm
    · exact ⟨x, t, rfl⟩
    · exact h3 f hm
section
variable {prog : Program} {w : World} {A : Around} {E : Value → Shared → Prop} {s : Shared}
theorem tri_cmp {vs : List Value} {k : Value → Int × Int} {g : Value → Str} (hp : ∀ v ∈ vs, IsTri s.heap v (k v).1 (k v).2 (g v)) (hg : ∀ v ∈ vs, ∀ u ∈ vs, k v = k u → g v = g u) : Cmp prog w A s (tuples' true) (fun p => p.1 ∈ vs) (lt2 fun v u => lexB (k v) (k u)) := by
  intro p q hm hm'
  have h1 := hp _ hm
  have h2 := hp _ hm'
  have h3 := hg _ hm _ hm'
  show wpAny (model prog w) A (keyLt' (tuples' true) p.1 q.1) (fun r s' => s' = s ∧ r = lexB (k p.1) (k q.1)) (fun _ _ => False) s
  have h4 : (k p.1).1 = (k q.1).1 → (k p.1).2 = (k q.1).2 → g p.1 = g q.1 := fun a b => h3 (Prod.ext a b)
  unfold lexB
  clear h3
  generalize (k p.1).1 = x at h1 h4 ⊢
  generalize (k p.1).2 = y at h1 h4 ⊢
  generalize (k q.1).1 = x' at h2 h4 ⊢
  generalize (k q.1).2 = y' at h2 h4 ⊢
  generalize g p.1 = z at h1 h4
  generalize g q.1 = z' at h2 h4
  obtain ⟨a, o, t, u, r, n, e, ho, hc, hd⟩ := h1
  obtain ⟨a', o', t', u', r', n', e', ho', hc', hd'⟩ := h2
  rw [e, e']
  refine PySem.W.kat_lt ho hd ho' hd' ?_
  show PySem.W.KatLex prog w A true (decide (3 < 3)) _ [(.int x t, .int x' t'), (.int y u, .int y' u'), (.str z r, .str z' r')] 0 s
  refine PySem.W.kat_cons (SeqAt.EqAt.int_int x t x' t' prog w _ _ ?_)
  refine PySem.W.kat_go (fun e1 => ?_) (fun e1 => ?_)
  · have ex : x = x' := by simpa using e1
    refine PySem.W.kat_yes (PySem.W.kat_cons (SeqAt.EqAt.int_int y u y' u' prog w _ _ ?_))
    refine PySem.W.kat_go (fun e2 => ?_) (fun e2 => ?_)
    · have ey : y = y' := by simpa using e2
      have e3 : (if x = x' then decide (y < y') else decide (x < x')) = false := by
        rw [if_pos ex, ey]
        exact decide_eq_false (Int.lt_irrefl _)
      refine PySem.W.kat_yes (PySem.W.kat_cons (SeqAt.EqAt.str_str z r z' r' prog w _ _ ?_))
      rw [h4 ex ey, beq_self_eq_true]
      exact PySem.W.kat_yes (PySem.W.kat_nil ⟨rfl, e3.symm⟩)
    · have e3 : (if x = x' then decide (y < y') else decide (x < x')) = decide (y < y') := if_pos ex
      refine PySem.W.kat_no (PySem.W.kat_one _ _ (PyProof.Rows.lt_int ?_))
      exact (show s = s ∧ decide (y < y') = (if x = x' then decide (y < y') else decide (x < x')) from ⟨rfl, e3.symm⟩)
  · have ex : ¬ x = x' := by simpa using e1
    have e3 : (if x = x' then decide (y < y') else decide (x < x')) = decide (x < x') := if_neg ex
    exact PySem.W.kat_no (oneLt_int ⟨rfl, e3.symm⟩)
theorem tri_sortable {a : Addr} {vs : List Value} {k : Value → Int × Int} {g : Value → Str} (h0 : 0 < vs.length) (hp : ∀ v ∈ vs, IsTri s.heap v (k v).1 (k v).2 (g v)) (hg : ∀ v ∈ vs, ∀ u ∈ vs, k v = k u → g v = g u) (ha : ∀ o, s.heap.get? a = some o → o.cls ≠ .type "tuple") : SortableO prog w A s a vs fun v u => lexB (k v) (k u) := by
  intro h' keep
  have hp' : ∀ v ∈ vs, IsTri h' v (k v).1 (k v).2 (g v) := fun v hm => (hp v hm).keeps fun b o e c => keep b o (fun z => by subst z; exact ha o e c) e
  obtain ⟨fs, h1, h2, h3⟩ := firsts_of fun v hm => ⟨_, _, _, hp' v hm⟩
  refine ⟨tuples' true, fun Q E hq => ?_, tri_cmp hp' hg⟩
  refine PySem.W.kat_kind (T := .type "int") h1 (by omega) (fun f hm => ?_) (by rfl) ?_
  · obtain ⟨x, t, rfl⟩ := h3 f hm
    exact PySem.W.Looks.now
  · have e : (Value.type "int" != Value.type "tuple") = true := by first | decide +kernel | rfl | decide
    rw [e]
    exact hq
theorem sorted_tri {l : Addr} {vs : List Value} {k : Value → Int × Int} {g : Value → Str} {Q : Value → Shared → Prop} (hl : s.heap.IsList l vs.toArray) (hz : vs.length ≤ sizeLine) (hp : ∀ v ∈ vs, IsTri s.heap v (k v).1 (k v).2 (g v)) (hg : ∀ v ∈ vs, ∀ u ∈ vs, k v = k u → g v = g u)
    (h : ∀ (h' : Heap) (d : Addr) (out : List Value), Srtd (fun v u => lexB (k v) (k u)) out → Stb (fun v u => lexB (k v) (k u)) out vs → (∀ b o, s.heap.get? b = some o → h'.get? b = some o) → s.heap.objs.size ≤ d → (∃ n, h'.get? d = some (seqObj "list" out.toArray n)) → Q (.ref d) { s with heap := h' }) :
    wpAny (model prog w) A (call (.builtin "sorted") [.ref l]) Q E s := by
  refine sorted_ord (swo_lex k) hl hz (fun h2 h₁ a ha kk => ?_) fun out hs hb => ?_
  · refine tri_sortable (s := { s with heap := h₁ }) (g := g) (by omega) (fun v hm => (hp v hm).keeps fun b o e _ => (kk b o e).2) hg fun o e => ?_
    have e' : some o = some (seqObj "list" vs.toArray 0) := e.symm.trans ha
    cases e'
    intro c
    exact absurd (Value.type.inj c) (by decide)
  · exact h _ _ out hs hb (fun b o e => sortedAll_old e) (Nat.le_succ _) (sortedAll_at s.heap vs out.toArray)
end
theorem vals3 {a b c : V} {us : List Value} (r : L2.Vals [a, b, c] us) : ∃ u1 u2 u3, us = [u1, u2, u3] ∧ RelV a u1 ∧ RelV b u2 ∧ RelV c u3 := by
  cases r with
  | cons r1 r => cases r with
    | cons r2 r => cases r with
      | cons r3 r => cases r; exact ⟨_, _, _, rfl, r1, r2, r3⟩
end So
/-- sorted(xs), xs a list of triples (int, int, text) where the two ints tell the text -/
def rSorted3 (K : PySem.W.Frag) : List V → Hp → VK → Prop := fun vs H Q => ∃ (a : Addr) (xs : List V) (k : V → Int × Int) (g : V → Str), vs = [V.ref a] ∧ SqL K H a xs ∧ (∀ x ∈ xs, ∃ t, x = V.ref t ∧ H t = some (.tup [.int (k x).1, .int (k x).2, .str (g x)])) ∧ (∀ x ∈ xs, ∀ y ∈ xs, k x = k y → g x = g y) ∧
  ∀ ys p, SrtO.Srtd (ltP k) ys → ys.Perm xs → H p = none → Q (.ref p) (upd H p (.lst ys))
theorem cr_sorted3 {X : Cx} {K : PySem.W.Frag} (hK : X.K = K) : CallR X (.builtin "sorted") (rSorted3 K) := by
  subst hK
  intro pins s σ H vs us Q I r h
  obtain ⟨a, xs, k, g, rfl, hs, hx, hg, q⟩ := h
  obtain ⟨its, rv, hl, hz⟩ := I.list hs
  obtain ⟨u, rfl, ru⟩ := vals1 r
  obtain rfl : u = Value.ref a := ru
  obtain ⟨e1, e2⟩ := refs_back rv fun x m => by
    obtain ⟨t, e, _⟩ := hx x m
    exact ⟨t, e⟩
  have back : ∀ v ∈ its, backV v ∈ xs := fun v hv => by rw [e1]; exact List.mem_map.mpr ⟨v, hv, rfl⟩
  refine So.sorted_tri (k := fun u => k (backV u)) (g := fun u => g (backV u)) hl.isList (by rw [← rv.length]; exact hz) (fun v hv => ?_) (fun v hv u hu e => hg _ (back v hv) _ (back u hu) e) fun h' d out h1 h2 kp hd hn => ?_
  · obtain ⟨t, rfl⟩ := e2 v hv
    have hm : V.ref t ∈ xs := by rw [e1]; exact List.mem_map.mpr ⟨_, hv, rfl⟩
    obtain ⟨t', e, ht⟩ := hx _ hm
    cases e
    obtain ⟨_, its2, r2, o, ho, hc, n, hd⟩ := I.hok _ _ ht
    obtain ⟨u1, u2, u3, rfl, ri, rj, rk⟩ := So.vals3 r2
    obtain ⟨t1, rfl⟩ := ri
    obtain ⟨t2, rfl⟩ := rj
    obtain ⟨t3, rfl⟩ := rk
    exact ⟨t, o, t1, t2, t3, n, rfl, ho, hc, hd⟩
  · have h3 : ∀ u ∈ out, ∃ a, u = Value.ref a := fun u hu => e2 u (h2.perm.mem_iff.mp hu)
    obtain ⟨n, hn⟩ := hn
    have hb : SrtO.Stb (ltP k) (out.map backV) xs := by
      rw [e1]
      exact SrtO.Stb.map (ltP_swo k) backV h2
    refine ⟨.ref d, upd H d (.lst (out.map backV)), I.laid (t' := s.toks) kp hd ⟨?_, out, n, vals_back h3, hn⟩, rfl, q _ d (SrtO.srtd_map h1) hb.perm (I.hok.fresh hd)⟩
    rw [hb.len]
    exact hz
namespace Dt
open PySem PySem.Spec PyProof.Rows PyProof.V L2 StX
/-! ### {k: v}, the key a tuple -/
def tDisp1T (tk tv : TE) : TE := fun σ H Q => ∀ p, H p = none → tk σ (upd H p (.dT [])) fun y H1 => tv σ H1 fun z H2 => ∃ (k : List Key) (q : Addr), y = .ref q ∧ H2 p = some (.dT []) ∧ H2 q = some (.tup (k.map kV)) ∧ Q (.ref p) (upd H2 p (.dT [(k, z)]))
theorem pe_disp1T {X : Cx} {pos : Pos} {ke ve : Expr} {tk tv : TE} (hu : X.A.units + 64 < cLine) (hk : PE X ke tk) (hv : PE X ve tv) : PE X (.Dict [some ke] [ve] pos) (tDisp1T tk tv) := by
  refine ⟨fun pins s σ H Q I q => ?_⟩
  have hn := I.hok.fresh (Nat.le_refl s.heap.objs.size)
  have I1 := I.laid (a := s.heap.objs.size) (o := .dT []) (h' := s.heap.push { cls := .type "dict", data := .dict #[] }) (t' := s.toks) (fun _ _ q => Heap.get?_push_of_some _ q) (Nat.le_refl _) (dt_empty s.heap I.big)
  have run := (pps_cons (pos := pos) hk hv pps_nil).run pins _ σ _ (fun ps H2 => ∃ y z, ps = [(y, z)] ∧ ∃ (k : List Key) (q : Addr), y = .ref q ∧ H2 s.heap.objs.size = some (.dT []) ∧ H2 q = some (.tup (k.map kV)) ∧ Q (.ref s.heap.objs.size) (upd H2 s.heap.objs.size (.dT [(k, z)]))) I1
    (by
      show tk σ _ _
      have q0 := q _ hn
      show tk σ (upd H s.heap.objs.size (.dT [])) fun x H1 => tv σ H1 fun y H2 => ∃ y' z, [(x, y)] = [(y', z)] ∧ _
      have e : (fun (x : V) (H1 : Hp) => tv σ H1 fun y H2 => ∃ (k : List Key) (q : Addr), x = .ref q ∧ H2 s.heap.objs.size = some (.dT []) ∧ H2 q = some (.tup (k.map kV)) ∧ Q (.ref s.heap.objs.size) (upd H2 s.heap.objs.size (.dT [(k, y)]))) = fun (x : V) (H1 : Hp) => tv σ H1 fun y H2 => ∃ y' z, [(x, y)] = [(y', z)] ∧ ∃ (k : List Key) (q : Addr), y' = .ref q ∧ H2 s.heap.objs.size = some (.dT []) ∧ H2 q = some (.tup (k.map kV)) ∧ Q (.ref s.heap.objs.size) (upd H2 s.heap.objs.size (.dT [(k, z)])) := by
        funext x H1
        congr 1
        funext y H2
        apply propext
        constructor
        · intro h; exact ⟨x, y, rfl, h⟩
        · rintro ⟨y', z, e, h⟩
          cases e; exact h
      rw [← e]; exact q0)
  rw [arm_eval_Dict, zip_pairTrees [some ke] [ve] X.env pos rfl rfl, dictDisplay_pairs (pairTrees [some ke] [ve] X.env pos) (by simp [pairTrees]) (by simp [pairTrees])]
  refine wpAny_bind (wpAny_standAt (wpAny_bind (wpAny_subDictH (knd := tupleKind (mixKind X.prog X.w)) (Q := fun d s' => wpAny (model X.prog X.w) X.A (pure (Value.ref d)) (EP X pins σ Q) X.xe s') (show X.A.units < cLine by omega) (by simp [pairTrees]) (thn run fun vs s1 got => ?_))))
  obtain ⟨ps, H2, I2, rel, y, z, eps, k, q2, ey, at2, tup, fin⟩ := got
  subst eps
  subst ey
  cases rel with
  | cons r rest =>
    cases rest
    rename_i b
    obtain ⟨b1, b2⟩ := b
    obtain ⟨r1, r2⟩ := r
    cases (show b1 = Value.ref q2 from r1)
    obtain ⟨small, apart, cells, pairs, held⟩ := dt_of I2.hok at2
    cases pairs
    refine ⟨[(k, q2, b2)], ⟨rfl, rfl, key_of I2.hok tup, trivial⟩, held, fun h' tk' held' but => wpAny_pure ⟨.ref s.heap.objs.size, _, ?_, rfl, fin⟩⟩
    obtain ⟨u, es, ep, stands, a1, a2, a3, _, a4⟩ := held'
    have nq : q2 ≠ s.heap.objs.size := by rintro rfl; rw [at2] at tup; cases tup
    exact d_write I2 (by rw [at2]; exact True.intro) but ⟨u, stands⟩ ⟨by show 1 ≤ sizeLine; decide, apart, [(k, q2, b2)], .cons ⟨rfl, by rw [upd_ne nq]; exact tup, r2⟩ .nil, u, es, ep, stands, a1, a2, a3, a4⟩
/-! ### d.pop(q), the key there -/
def tDPop1T (td ty : TE) : TE := fun σ H Q => td σ H fun x H1 => ∃ a, x = .ref a ∧ IsD H1 a ∧ ty σ H1 fun y H2 => ∃ (kvs : Tb) (k : List Key) (q : Addr) (v : V), H2 a = some (.dT kvs) ∧ y = .ref q ∧ H2 q = some (.tup (k.map kV)) ∧ valV kvs k = some v ∧ Q v (upd H2 a (.dT (dropK kvs k)))
theorem pe_dpop1T {X : Cx} {o e : Expr} {td ty : TE} {apos cpos : Pos} (hu : X.A.units + 1 < cLine) (ho : PE X o td) (he : PE X e ty) (m : M1 X o "pop" apos e cpos) : PE X (.Call (.Attribute o "pop" apos) [e] [] cpos) (tDPop1T td ty) := by
  refine ⟨fun pins s σ H Q I h => ?_⟩
  refine wpAny_Call_method m.base m.few m.line PySem.F.plainAttrs_dict PySem.F.slot_dict_pop PySem.F.type_dict_pop (thn (ho.run pins s σ H _ I h) fun u s1 ⟨x, H1, I1, rx, a, ex, d, q1⟩ => ?_)
  subst ex
  obtain rfl : u = Value.ref a := rx
  obtain ⟨t1, t2, _⟩ := isD_at I1 d
  refine ⟨t1, t2, ?_⟩
  rw [m.trees]
  refine Calls.callWith_builtin rfl (Calls.evalArgs_plain (Calls.spliced_cons (thn (he.run pins s1 σ H1 _ I1 q1) fun iv s2 ⟨y, H2, I2, ry, kvs, k, q, v, ea, ey, tup, l, q2⟩ => Calls.spliced_nil ?_)))
  subst ey
  cases (show iv = Value.ref q from ry)
  obtain ⟨z, hd, xs, rel, dd⟩ := dt_of I2.hok ea
  have hz : xs.length ≤ sizeLine := by rw [← Paired.length rel]; exact z
  have look := rel.val k
  rw [l] at look
  obtain ⟨p, hp, rv⟩ : ∃ p, atKey xs k = some p ∧ RelV v p.2 := by
    cases ev : atKey xs k with
    | none => rw [ev] at look; exact (show False from look).elim
    | some p => rw [ev] at look; exact ⟨p, rfl, look⟩
  refine PySem.call_pop_heap (hsz := hz) (knd := tupleKind (mixKind X.prog X.w)) (.inl rfl) (PySem.F.args_dict_pop_2 _ _) (tupleKind_room_in1 hu) (key_of I2.hok tup) hd dd hp fun h' dd' hs => ?_
  obtain ⟨o, es, ep, hq, h2, h3, h4, _, h5⟩ := dd'
  have I3 : Inv X pins σ (upd H2 a (.dT (dropK kvs k))) { s2 with heap := h', toks := s2.toks + (tupleKind (mixKind X.prog X.w)).draws k } := d_write I2 (by rw [ea]; exact True.intro) hs ⟨o, hq⟩ ⟨Nat.le_trans (dropK_le kvs k) z, hd, _, (L2.DX.KT_drop k rel).keeps (fun c ys ec => (by rw [upd_ne (ne_of ec ea (fun z => nomatch z))]; exact ec)), o, es, ep, hq, h2, h3, h4, h5⟩
  exact ⟨v, _, I3, rv, q2⟩
/-! ### == and != of two dicts with tuples as keys, the values flat -/
section
variable {prog : Program} {w : World} {Ky : Type} [DecidableEq Ky] {knd : HeapKind prog w Ky} {A : Around} {E : Value → Shared → Prop} {s : Shared}
theorem pairsM {nm : String} {a b : Addr} {xa xb : List (Ky × Addr × Value)} {P : Nat → Bool} {Q : Bool → Shared → Prop} (ha : (a == sysModules) = false) (hb : (b == sysModules) = false) (hu : knd.room A) (da : s.heap.DictOfH knd a xa) (db : s.heap.DictOfH knd b xb)
    (al : ∀ (i : Nat) x, xa[i]? = some x → ((∀ (j : Nat) p, ¬ xb[j]? = some (x.1, p)) ∧ P i = false) ∨ ∃ (j : Nat) (y : Addr × Value), xb[j]? = some (x.1, y) ∧ SeqAt.EqAt A s x.2.2 y.2 (P i)) (l : xa.length ≠ xb.length → Q false s) (q : xa.length = xb.length → (∀ i, i < xa.length → P i = true) → Q true s) (n : ∀ i, i < xa.length → P i = false → Q false s) : wpAny (model prog w) A (Builtin.Dict.samePairs nm a b) Q E s := by
  obtain ⟨oa, es, ep, hoa, _, hda, hes, hia, _⟩ := da
  obtain ⟨ob, fs, fp, hob, _, hdb, hfs, hib, hnb⟩ := db
  have sa := size_of_entries hes
  have sb := size_of_entries hfs
  unfold Builtin.Dict.samePairs Builtin.Dict.showsAll
  rw [if_neg (show ¬ (a == sysModules) = true by rw [ha]; exact Bool.false_ne_true), if_neg (show ¬ (b == sysModules) = true by rw [hb]; exact Bool.false_ne_true)]
  refine wpAny_bind (wpAny_pure (wpAny_bind (wpAny_pure (wpAny_bind (wpAny_dictEntries hoa hda ?_)))))
  dsimp only
  refine wpAny_bind (wpAny_dictEntries hob hdb ?_)
  by_cases hsz : es.size = fs.size
  case neg =>
    rw [if_pos (by simpa using hsz)]
    exact wpAny_bind (wpAny_rule (wpAny_pure (l (by omega))))
  rw [if_neg (by rw [hsz]; simp)]
  refine wpAny_bind (wpAny_dictEpoch hoa hda (wpAny_bind ?_))
  rw [Std.Legacy.Range.forIn_eq_forIn_range']
  simp only [Std.Legacy.Range.size, Nat.sub_zero, Nat.add_sub_cancel, Nat.div_one]
  refine wpAny_forIn_list _ (fun rest r s' => s' = s ∧ r = (none, ()) ∧ ∃ i, rest = List.range' i (es.size - i) ∧ i ≤ es.size ∧ ∀ j, j < i → P j = true) _ ?_ ?_ _ _ ⟨rfl, rfl, 0, by simp, Nat.zero_le _, by simp⟩
  · rintro x rest r s' ⟨rfl, rfl, i, hr, hi, ok⟩
    have lt : i < es.size := by
      rcases Nat.lt_or_ge i es.size with h | h
      · exact h
      · rw [Nat.sub_eq_zero_of_le h] at hr; simp at hr
    rw [show es.size - i = (es.size - (i + 1)) + 1 by omega, List.range'_succ] at hr
    injection hr with h1 h2
    subst h1
    obtain ⟨e, he⟩ : ∃ e, xa[x]? = some e := ⟨_, List.getElem?_eq_getElem (by omega)⟩
    have ge : es[x]? = some (entryOfKey knd e) := by rw [entry_at hes, he]; rfl
    refine wpAny_bind (wpAny_dictEntries hoa hda ?_)
    rw [ge]
    refine wpAny_bind (wpAny_holding (wpAny_bind (wpAny_dictFind_heap hu (hia _ (List.mem_of_getElem? he)) hob hdb hfs hib hnb (fun no => ?_) fun j p hj => ?_)))
    · have hp : P x = false := by
        rcases al x e he with ⟨_, h⟩ | ⟨j, y, hj, _⟩
        · exact h
        · exact (no j y hj).elim
      refine wpAny_pure ?_
      show wpAny _ _ (if (!false) = true then _ else _) _ _ _
      rw [if_pos (by decide)]
      exact wpAny_pure (wpAny_pure (n x (by omega) hp))
    · obtain ⟨ev⟩ : SeqAt.EqAt A s' e.2.2 p.2 (P x) ∧ True := by
        rcases al x e he with ⟨h, _⟩ | ⟨j2, y, hj2, h⟩
        · exact (h j p hj).elim
        · obtain rfl : j = j2 := idxH_unique hnb hj hj2
          rw [hj] at hj2
          have : p = y := by simpa using hj2
          rw [this]; exact ⟨h, trivial⟩
      have gf : fs[j]? = some (entryOfKey knd (e.1, p)) := by rw [entry_at hfs, hj]; rfl
      refine wpAny_bind (wpAny_dictEntries hob hdb ?_)
      rw [gf]
      refine wpAny_holding (ev _ _ _ _ ?_)
      cases hp : P x with
      | false =>
        show wpAny _ _ (if (!false) = true then _ else _) _ _ _
        rw [if_pos (by decide)]
        exact wpAny_pure (wpAny_pure (n x (by omega) hp))
      | true =>
        show wpAny _ _ (if (!true) = true then _ else _) _ _ _
        rw [if_neg (by decide)]
        refine wpAny_bind (wpAny_dictEpoch hoa hda ?_)
        rw [if_neg (by simp)]
        refine wpAny_pure ⟨rfl, rfl, x + 1, h2, lt, fun i hi => ?_⟩
        rcases Nat.lt_or_ge i x with h | h
        · exact ok i h
        · obtain rfl : i = x := by omega
          exact hp
  · rintro r s' ⟨rfl, rfl, i, hr, hi, ok⟩
    refine wpAny_pure (q (by omega) fun j hj => ok j ?_)
    rcases Nat.lt_or_ge i es.size with h | h
    · rw [show es.size - i = (es.size - (i + 1)) + 1 by omega, List.range'_succ] at hr; cases hr
    · omega
end
def eqB (lvs : Tb) (p : List Key × V) : Bool := match valV lvs p.1 with
  | some v => L2.eqV p.2 v
  | none => false
def mapEq (kvs lvs : Tb) : Bool := decide (kvs.length = lvs.length) && kvs.all (eqB lvs)
theorem kt_keys {H : Hp} : ∀ {kvs : Tb} {xa : List (List Key × Addr × Value)}, KT H kvs xa → kvs.map (·.1) = xa.map (·.1)
  | _, _, .nil => rfl
  | _, _, .cons h t => by rw [List.map_cons, List.map_cons, kt_keys t, h.1]
theorem valV_none {kvs : Tb} {k : List Key} (h : ∀ (j : Nat) v, ¬ kvs[j]? = some (k, v)) : valV kvs k = none := by
  induction kvs with
  | nil => rfl
  | cons p r ih =>
    by_cases e : p.1 = k
    · exact (h 0 p.2 (by rw [← e]; rfl)).elim
    · rw [valV_neg e]; exact ih fun j v hj => h (j + 1) v (by simpa using hj)
theorem valV_at {kvs : Tb} {j : Nat} {p : List Key × V} (nd : (kvs.map (·.1)).Nodup) (h : kvs[j]? = some p) : valV kvs p.1 = some p.2 := by
  induction kvs generalizing j with
  | nil => simp at h
  | cons q r ih =>
    rw [List.map_cons, List.nodup_cons] at nd
    cases j with
    | zero =>
      have e : q = p := by simpa using h
      subst e; exact valV_pos rfl
    | succ j =>
      have h' : r[j]? = some p := by simpa using h
      rw [valV_neg (fun e => nd.1 (by rw [e]; exact List.mem_map_of_mem (List.mem_of_getElem? h')))]
      exact ih nd.2 h'
def rCmpM (neg : Bool) : R2 := fun x y H Q => ∃ (a b : Addr) (kvs lvs : Tb), x = .ref a ∧ y = .ref b ∧ Rd H a (.dT kvs) ∧ Rd H b (.dT lvs) ∧ (∀ p ∈ kvs, L2.flatV p.2 = true) ∧ (∀ p ∈ lvs, L2.flatV p.2 = true) ∧ Q (.bl (if neg then !mapEq kvs lvs else mapEq kvs lvs)) H
theorem same_map {X : Cx} {nm : String} {pins : List (Addr × Obj)} {σ : L2.St} {H : Hp} {s : Shared} {a b : Addr} {kvs lvs : Tb} {E : Value → Shared → Prop} {Q : Bool → Shared → Prop} (small : X.A.units + 1 < cLine) (I : Inv X pins σ H s) (ea : Rd H a (.dT kvs)) (eb : Rd H b (.dT lvs)) (fa : ∀ p ∈ kvs, L2.flatV p.2 = true) (fb : ∀ p ∈ lvs, L2.flatV p.2 = true)
    (q : Q (mapEq kvs lvs) s) : wpAny (model X.prog X.w) X.A.in1 (Builtin.Dict.samePairs nm a b) Q E s := by
  obtain ⟨_, na, xa, ra, da⟩ := dt_rd I.hok ea
  obtain ⟨_, nb, xb, rb, db⟩ := dt_rd I.hok eb
  obtain ⟨la, ga⟩ := kt_at ra
  obtain ⟨lb, gb⟩ := kt_at rb
  have kb := kt_keys rb
  have ndb : (lvs.map (·.1)).Nodup := by rw [kb]; obtain ⟨_, _, _, _, _, _, _, _, nd⟩ := db; exact nd
  let P : Nat → Bool := fun i => match kvs[i]? with
    | some p => eqB lvs p
    | none => true
  have hP : ∀ i p, kvs[i]? = some p → P i = eqB lvs p := fun i p h => by show (match kvs[i]? with | some p => eqB lvs p | none => true) = _; rw [h]
  refine pairsM (P := P) na nb (show X.A.in1.units < cLine from small) da db (fun i x hx => ?_) (fun ne => ?_) (fun e all => ?_) fun i hi hp => ?_
  · obtain ⟨p, hp, ek, rp⟩ := ga i x hx
    rw [hP i p hp]
    by_cases c : ∃ (j : Nat) (y : Addr × Value), xb[j]? = some (x.1, y)
    · obtain ⟨j, y, hy⟩ := c
      obtain ⟨r, hr, er, rr⟩ := gb j (x.1, y) hy
      refine .inr ⟨j, y, hy, ?_⟩
      have v := valV_at ndb hr
      have ev : valV lvs p.1 = some r.2 := by rw [ek, ← show r.1 = x.1 from er]; exact v
      unfold eqB
      rw [ev]
      exact eqAt_V rp rr (fa p (List.mem_of_getElem? hp)) (fb r (List.mem_of_getElem? hr))
    · refine .inl ⟨fun j y h => c ⟨j, y, h⟩, ?_⟩
      have ev : valV lvs p.1 = none := valV_none fun j v hj => by
        have lt : j < xb.length := by have := (List.getElem?_eq_some_iff.mp hj).1; omega
        have h1 : (lvs.map (·.1))[j]? = some p.1 := by rw [List.getElem?_map, hj]; rfl
        rw [kb, List.getElem?_map, List.getElem?_eq_getElem lt] at h1
        refine c ⟨j, (xb[j]).2, ?_⟩
        have e1 : (xb[j]).1 = x.1 := by rw [← ek]; simpa using h1
        rw [List.getElem?_eq_getElem lt, ← e1]
      unfold eqB
      rw [ev]
  · have e : mapEq kvs lvs = false := by unfold mapEq; rw [decide_eq_false (by omega)]; rfl
    rwa [e] at q
  · have e2 : mapEq kvs lvs = true := by
      unfold mapEq
      rw [decide_eq_true (by omega), Bool.true_and, List.all_eq_true]
      intro p hp
      obtain ⟨i, hi⟩ := List.getElem?_of_mem hp
      rw [← hP i p hi]
      exact all i (by have := (List.getElem?_eq_some_iff.mp hi).1; omega)
    rwa [e2] at q
  · obtain ⟨p, hp0⟩ : ∃ p, kvs[i]? = some p := ⟨_, List.getElem?_eq_getElem (by omega)⟩
    have e2 : mapEq kvs lvs = false := by
      unfold mapEq
      rw [Bool.and_eq_false_iff]
      right
      rw [List.all_eq_false]
      exact ⟨p, List.mem_of_getElem? hp0, by rw [← hP i p hp0, hp]; decide⟩
    rwa [e2] at q
theorem op_eqM {X : Cx} (small : X.A.units + 1 < cLine) : OpR X (compareOp .Eq) (rCmpM false) := by
  rintro pins s σ H x y v u Q I rx ry ⟨a, b, kvs, lvs, rfl, rfl, ea, eb, fa, fb, q⟩
  cases (show v = Value.ref a from rx)
  cases (show u = Value.ref b from ry)
  obtain ⟨_, _, _, _, da⟩ := dt_rd I.hok ea
  obtain ⟨_, _, _, _, db⟩ := dt_rd I.hok eb
  refine wpAny_richCompare_same_room (op := .Eq) da.typeIs db.typeIs PySem.F.slot_dict_eq (wpAny_call_entry PySem.F.slot_dict_eq da.typeIs PySem.F.entry_dict_eq ?_ (PySem.F.args_dict_eq_2 _ _)) (by omega)
  show wpAny _ _ (Builtin.Dict.dictSlotArgs "__eq__" ⟨[.ref a, .ref b], []⟩ >>= _) _ _ s
  refine wpAny_bind ?_
  unfold Builtin.Dict.dictSlotArgs
  refine wpAny_bind (wpAny_notOrdered_dict da.typeIs ?_)
  show wpAny _ _ (pure (Value.ref a, Value.ref b)) _ _ s
  refine wpAny_pure (wpAny_bind (wpAny_isInstance (T := "dict") db.typeIs PySem.F.sub_dict_dict ?_))
  simp only [Bool.not_true, Bool.false_eq_true, if_false]
  refine wpAny_bind (wpAny_pure (wpAny_bind (wpAny_pure (wpAny_bind (same_map small I ea eb fa fb ?_)))))
  exact wpAny_pure ⟨_, rfl, (fun x => nomatch x), ⟨.bl (mapEq kvs lvs), H, I, (by show Value.bool _ = Value.bool _; cases mapEq kvs lvs <;> rfl), q⟩⟩
theorem op_neM {X : Cx} (small : X.A.units + 1 < cLine) : OpR X (compareOp .NotEq) (rCmpM true) := by
  rintro pins s σ H x y v u Q I rx ry ⟨a, b, kvs, lvs, rfl, rfl, ea, eb, fa, fb, q⟩
  cases (show v = Value.ref a from rx)
  cases (show u = Value.ref b from ry)
  obtain ⟨_, _, _, _, da⟩ := dt_rd I.hok ea
  obtain ⟨_, _, _, _, db⟩ := dt_rd I.hok eb
  refine wpAny_richCompare_same_room (op := .NotEq) da.typeIs db.typeIs PySem.F.slot_dict_ne (wpAny_call_entry PySem.F.slot_dict_ne da.typeIs PySem.F.entry_dict_ne ?_ (PySem.F.args_dict_ne_2 _ _)) (by omega)
  show wpAny _ _ (Builtin.Dict.dictSlotArgs "__ne__" ⟨[.ref a, .ref b], []⟩ >>= _) _ _ s
  refine wpAny_bind ?_
  unfold Builtin.Dict.dictSlotArgs
  refine wpAny_bind (wpAny_notOrdered_dict da.typeIs ?_)
  show wpAny _ _ (pure (Value.ref a, Value.ref b)) _ _ s
  refine wpAny_pure (wpAny_bind (wpAny_isInstance (T := "dict") db.typeIs PySem.F.sub_dict_dict ?_))
  simp only [Bool.not_true, Bool.false_eq_true, if_false]
  refine wpAny_bind (wpAny_pure (wpAny_bind (wpAny_pure (wpAny_bind (same_map small I ea eb fa fb ?_)))))
  exact wpAny_pure ⟨_, rfl, (fun x => nomatch x), ⟨.bl (!mapEq kvs lvs), H, I, (by show Value.bool _ = Value.bool _; cases mapEq kvs lvs <;> rfl), q⟩⟩
/-! ### C(..) in a try: what is raised is wished for at the caller's slots -/
section
variable {X : Cx} {CX : CXT} {C f : Addr} {fd : FuncData} {k : Nat} {sp : Sp} {ps : List Str} {ds : List Value} {dvs : List V} {E : L2.St → XK} {x : Str} {p pos : Pos} {e : Expr} {es : List Expr} {t : TA}
def tMakeSD (C : Addr) (sp : Sp) (dvs : List V) (E : L2.St → XK) (t : TA) : TE := fun σ H Q => t σ H fun vs H1 => ∀ x dx, H1 x = none → H1 dx = none → dx ≠ x → sp (.ref x :: (vs ++ dvs)) (upd (upd H1 dx (.own x)) x (.ins C dx [])) (fun v H2 => v = .non ∧ Q (.ref x) H2) (E σ)
theorem run_makeSD {pins : List (Addr × Obj)} {σ : L2.St} {H : Hp} {s : Shared} {Q : VK} {us : List Value} {vs : List V} (M : Mk X.K C f) (F : FnOk X.prog X.w X.K X.mg X.base CX k f fd ps sp) (hr : Room (k + 1) X.A) (hb : Binds X.K fd ps ds) (hd : L2.Vals dvs ds)
    (hx : PassesAt CX X σ (E σ)) (I : Inv X pins σ H s) (r : L2.Vals vs us)
    (h : ∀ x dx, H x = none → H dx = none → dx ≠ x → sp (.ref x :: (vs ++ dvs)) (upd (upd H dx (.own x)) x (.ins C dx [])) (fun v H2 => v = .non ∧ Q (.ref x) H2) (E σ)) :
    wpAny (model X.prog X.w) X.A (call (.ref C) us) (EP X pins σ Q) X.xe s := by
  have hq := h (s.heap.objs.size + 1) s.heap.objs.size (I.hok.fresh (Nat.le_succ _)) (I.hok.fresh (Nat.le_refl _)) (Nat.ne_of_lt (Nat.lt_succ_self _))
  have I2 := Inv.made (C := C) I
  have r2 : L2.Vals (V.ref (s.heap.objs.size + 1) :: (vs ++ dvs)) (Value.ref (s.heap.objs.size + 1) :: (us ++ ds)) := .cons rfl (r.append hd)
  have hl : (Value.ref (s.heap.objs.size + 1) :: us ++ ds).length = ps.length := by
    have e := r2.length
    rw [F.len _ _ _ _ hq] at e
    exact e.symm
  refine wpAny_call (make_map (f := f) I.kIn M.makes M.init (beq_iff_eq.mp M.fn) (codeAny_mono (F.run _ X.stack _ _ ⟨Value.ref (s.heap.objs.size + 1) :: us, []⟩ (Value.ref (s.heap.objs.size + 1) :: (us ++ ds)) _ _ (E σ) (hr.make C us [])
    (I2.env0.make C us []) (hb _ (Value.ref (s.heap.objs.size + 1) :: us) I2.kIn hl) r2 hq) fun r s' hq' => ?_))
  cases r with
  | error e => exact hx pins _ _ e s' I2 hq'
  | ok fl =>
    cases fl with
    | ret u =>
      obtain ⟨v, H', I3, rv, ev, q3⟩ := I2.after hq'
      subst ev
      exact ⟨rv, ⟨V.ref (s.heap.objs.size + 1), H', I3, rfl, q3⟩⟩
    | next => exact False.elim hq'
    | brk => exact False.elim hq'
    | cont => exact False.elim hq'
theorem pe_makeSD (M : Mk X.K C f) (F : FnOk X.prog X.w X.K X.mg X.base CX k f fd ps sp) (hr : Room (k + 1) X.A) (hg : Gl X x) (hm : X.mg x = some (.ref C)) (hb : Binds X.K fd ps ds) (hd : L2.Vals dvs ds) (hx : ∀ σ, PassesAt CX X σ (E σ))
    (ha : PA X (e :: es) t) (hdb : (x == ("__debug__" : Str)) = false := by decide) (he : starEach (e :: es) X.env = (false, eval e X.env) :: starEach es X.env := by rfl) (hpl : (backTo pos (starEach es X.env)).any (·.1) = false := by rfl) :
    PE X (.Call (.Name x p) (e :: es) [] pos) (tMakeSD C sp dvs E t) := by
  refine ⟨fun pins s σ H Q I h => ?_⟩
  refine wpAny_Call_Name_kw (ld_glob I hg hm ?_ hdb)
  refine PySem.W.callWith_K (h₀ := X.base) I.ok.mod.kin M.kp (thn (ha.run pos pins s σ H _ I h) fun us s1 ⟨vs, H1, I1, r, q⟩ => ⟨I1.kIn, ?_⟩) he hpl
  exact run_makeSD M F hr hb hd (hx σ) I1 r q
end
end Dt
/-! ### names that are mostly none -/
def TextOk (t : Str) : Prop := CodesOk t ∧ t.length ≤ 40
theorem IsQ.text {s : Str} (h : IsQ s) : TextOk s := ⟨h.codes, by have := h.len; omega⟩
theorem TextOk.ok {s : Str} (h : TextOk s) : PyData.strOk s = true := by
  unfold PyData.strOk
  rw [← Array.all_toList, List.all_eq_true]
  intro c hc
  simpa using h.1 c hc
theorem TextOk.rep {s : Str} (h : TextOk s) : s.length ≤ 1000 ∧ (reprText s).length ≤ 100000 ∧ s.length ≤ 100000 := by
  have l := h.2
  refine ⟨by omega, ?_, by omega⟩
  have := PySem.StrLaws.reprText_len s (fun c hc => Nat.lt_trans (h.1 c hc) (by decide))
  omega
theorem PairsAt.take {H : Hp} : ∀ {as : List Addr} {ts : List Fm.Tm} (n : Nat), PairsAt H as ts → PairsAt H (as.take n) (ts.take n)
  | [], [], n, _ => by simp [PairsAt]
  | a :: as, t :: ts, 0, _ => trivial
  | a :: as, t :: ts, n + 1, h => ⟨h.1, PairsAt.take n h.2⟩
  | [], _ :: _, _, h => h.elim
  | _ :: _, [], _, h => h.elim
theorem PairsAt.drop {H : Hp} : ∀ {as : List Addr} {ts : List Fm.Tm} (n : Nat), PairsAt H as ts → PairsAt H (as.drop n) (ts.drop n)
  | [], [], n, _ => by simp [PairsAt]
  | a :: as, t :: ts, 0, h => h
  | a :: as, t :: ts, n + 1, h => PairsAt.drop n h.2
  | [], _ :: _, _, h => h.elim
  | _ :: _, [], _, h => h.elim
theorem lay_pairsT : ∀ {ts : List Fm.Tm}, (∀ t ∈ ts, TextOk t.1) → PyData.canLayAll0 (ts.map fun p => PyData.tuple [.str p.1, .int p.2]) = true ∧ PyData.depthAll (ts.map fun p => PyData.tuple [.str p.1, .int p.2]) ≤ 1
  | [], _ => by simp [PyData.canLayAll0, PyData.depthAll]
  | t :: ts, h => by
    have ih := lay_pairsT (ts := ts) fun z hz => h z (by simp [hz])
    have e := (h t (by simp)).ok
    refine ⟨by simp [PyData.canLayAll0, PyData.canLay0, ih.1, e], ?_⟩
    have := ih.2
    simp [PyData.depthAll, PyData.depth]
    omega
theorem shaped_pairsT {ts : List Fm.Tm} (h : ∀ t ∈ ts, TextOk t.1) : SeqAt.shaped (.list (ts.map fun p => PyData.tuple [.str p.1, .int p.2])) = true := by
  have := lay_pairsT h
  unfold SeqAt.shaped
  simp [PyData.canLay0, PyData.depth, this.1]
  omega
theorem r_eqPairs {K : PySem.W.Frag} {H : Hp} {Q : VK} {p q : Addr} {as : List Addr} {ts : List Fm.Tm} (hp : H p = some (.lst (as.map V.ref))) (hq : H q = some (.lst (as.map V.ref))) (ht : PairsAt H as ts) (h : ∀ t ∈ ts, TextOk t.1) (k : Q (.bl true) H) : rEqD K (.ref p) (.ref q) H Q := by
  refine ⟨_, _, .lst (sqL_of hp) (dp_pairs ht), .lst (sqL_of hq) (dp_pairs ht), shaped_pairsT h, shaped_pairsT h, ?_⟩
  rw [SeqAt.eqv_refl _ (SeqAt.canLay_of_shaped (shaped_pairsT h))]
  exact k
theorem cut_to {xs : List V} {j : Nat} : cutV xs none (some (j : Int)) = xs.take j := by
  unfold cutV
  rw [HT.sIx_none, HT.sIx_nat, List.drop_zero, Nat.sub_zero]
  by_cases h : j ≤ xs.length
  · rw [Nat.min_eq_left h]
  · rw [Nat.min_eq_right (by omega), List.take_length, List.take_of_length_le (by omega)]
theorem cut_from {xs : List V} {j : Nat} : cutV xs (some (j : Int)) none = xs.drop j := by
  unfold cutV
  rw [HT.sIx_none, HT.sIx_nat, List.take_of_length_le (by rw [List.length_drop]; omega)]
  by_cases h : j ≤ xs.length
  · rw [Nat.min_eq_left h]
  · rw [Nat.min_eq_right (by omega), List.drop_length, List.drop_of_length_le (by omega)]
def badNames (ts : List Fm.Tm) : List Str := (ts.filter fun t => !goodB t.1).map (·.1)
theorem bad_nil {ts : List Fm.Tm} (h : ∀ t ∈ ts, IsQ t.1) : badNames ts = [] := by
  unfold badNames
  rw [List.map_eq_nil_iff, List.filter_eq_nil_iff]
  intro t ht
  simp [goodB_iff.mpr (h t ht)]
theorem bad_at : ∀ {ts : List Fm.Tm} {i : Nat} {t : Fm.Tm}, ts[i]? = some t → goodB t.1 = false → (∀ u ∈ ts.take i, IsQ u.1) → ∃ us, badNames ts = t.1 :: us
  | [], i, t, h, _, _ => by simp at h
  | z :: ts, 0, t, h, n, _ => by
    have e : z = t := by simpa using h
    subst e
    exact ⟨badNames ts, by unfold badNames; rw [List.filter_cons_of_pos (by simpa using n)]; rfl⟩
  | z :: ts, i + 1, t, h, n, k => by
    obtain ⟨us, e⟩ := bad_at (ts := ts) (i := i) (t := t) (by simpa using h) n fun x hx => k x (by simp [hx])
    refine ⟨us, ?_⟩
    have g := goodB_iff.mpr (k z (by simp))
    unfold badNames at e ⊢
    rw [List.filter_cons_of_neg (by simp [g]), e]
theorem bad_snoc {ts : List Fm.Tm} {i : Nat} {t : Fm.Tm} (h : ts[i]? = some t) : badNames (ts.take (i + 1)) = badNames (ts.take i) ++ if goodB t.1 = true then [] else [t.1] := by
  unfold badNames
  rw [take_snoc h, List.filter_append, List.map_append]
  congr 1
  by_cases c : goodB t.1 = true
  · rw [if_pos c, List.filter_cons_of_neg (by simpa using c)]; rfl
  · rw [if_neg c, List.filter_cons_of_pos (by simpa using c)]; rfl
theorem bad_len {ts : List Fm.Tm} : (badNames ts).length ≤ ts.length := by
  unfold badNames; rw [List.length_map]; exact List.length_filter_le _ _
theorem r_makeSD {C : Addr} {sp : Sp} {dvs : List V} {E : L2.St → XK} {t : TA} {σ : L2.St} {H : Hp} {Q : VK} (k : t σ H fun vs H1 => ∀ x dx, H1 x = none → H1 dx = none → dx ≠ x → sp (.ref x :: (vs ++ dvs)) (upd (upd H1 dx (.own x)) x (.ins C dx [])) (fun v H2 => v = .non ∧ Q (.ref x) H2) (E σ)) : Dt.tMakeSD C sp dvs E t σ H Q := k
theorem Keep.dropNew {H H1 H2 : Hp} {x : Addr} (k1 : Keep [] H H1) (k2 : Keep [x] H1 H2) (n : H x = none) : Keep [] H H2 := fun b o _ e => k2 b o (by simp; rintro rfl; rw [n] at e; cases e) (k1 b o (by simp) e)
def spNamesR : Sp := fun vs H Q _ => ∃ (a p q : Addr) (xs : List Str) (ts : List Fm.Tm), vs = [.ref a, .ref p, .ref q] ∧ PotAt a H ∧ NamesAt H p xs ∧ RowAt H q ts ∧ 0 < xs.length ∧ xs.length < 20 ∧ (∀ x ∈ xs, IsQ x) ∧ ts.length ≤ 8 ∧ (∀ t ∈ ts, IsQ t.1) ∧ ∀ H', Keep [a] H H' → PotAt a H' → Q (.bl true) H'
section
variable {w : World} {K : PySem.W.Frag} {mg : Str → Option Value} {base : Heap}
theorem ok_namesR (T : Tx K mg) (G_w_take : GTake PG w K mg base T) (G_w_near : FnOk PG w K mg base CX0 2 T.f_w_near T.fd_w_near ["_law_pot_here", "_law_text"] spNear)
    (G_is_quantity : FnOk PG w K mg base CX0 1 T.f_is_quantity T.fd_is_quantity ["text"] spIsQG) (G_is_word : FnOk PG w K mg base CX0 1 T.f_is_word T.fd_is_word ["text"] spIsWG)
    (G_w_good : FnOk PG w K mg base CX0 2 T.f_w_good T.fd_w_good ["_law_text"] spLGood) (G_w_word : FnOk PG w K mg base CX0 2 T.f_w_word T.fd_w_word ["_law_text"] spLWord)
    (G_Form___initX : FnOk PG w K mg base (L2.CX PG w) 3 T.f_Form___init T.fd_Form___init ["self", "terms", "constant"] (spInitFX T.C_Form T.C_BadName))
    (G_w_form_is : FnOk PG w K mg base CX0 2 T.f_w_form_is T.fd_w_form_is ["_law_found", "_law_due"] (spFormIs T.C_Form)) (G_w_tidy : FnOk PG w K mg base CX0 1 T.f_w_tidy T.fd_w_tidy ["_law_pairs_here", "_law_constant"] spTidy) :
    FnOk PG w K mg base CX0 6 T.f_w_names_right T.fd_w_names_right ["_law_pot_here", "_law_pool_here", "_law_pairs_here"] spNamesR := by
  refine T.F_w_names_right.ok sc_w_names_right (fun vs H Q E h => ?_) (fun cdv A outer s H vs Q E hr h => ?_)
  · obtain ⟨a, p, q, xs, ts, rfl, _⟩ := h; rfl
  · obtain ⟨a, p, q, xs, ts, rfl, hp, hx, ⟨as, eq, pt⟩, l0, l20, hq, lt, hqt, qq⟩ := h
    have npa := hp.ne' hx notpot_strs
    have oc := T.oc_Form
    have hlt := pt.len
    refine ⟨_, (pss_cons (ps_set (i := 3) sc_w_names_right.nd rfl (Or.inl rfl) (pe_callTy call_list_of (by rfl) T.m_list (by decide +kernel) (pa_cons (pv 2) pa_nil)))
    (pss_cons (ps_set (i := 4) sc_w_names_right.nd rfl (Or.inl rfl) (pe_callTy call_list_of (by rfl) T.m_list (by decide +kernel) (pa_cons (pv 1) pa_nil)))
    (pss_cons (ps_for PassesOwn.never rfl (pi_range1 rfl T.m_range (pa_cons pe_int pa_nil)) (pg_name (i := 5) sc_w_names_right.nd rfl (Or.inl rfl))
    (pss_cons (ps_set (i := 6) sc_w_names_right.nd rfl (Or.inl rfl) (pe_call G_w_near (hr.mono (by decide)) rfl T.g_w_near T.F_w_near.kp T.b_w_near .nil pass0 (pa_cons (pv 0) (pa_cons (pe_ix ix_list (pv 1) (pe_call G_w_take (hr.mono (by decide)) rfl T.g_w_take T.F_w_take.kp T.b_w_take .nil pass0 (pa_cons (pv 0) (pa_cons (pe_callB call_len_seq (by rfl) T.m_len PySem.boot_len (pa_cons (pv 1) pa_nil)) pa_nil))) (fun _ _ => rfl)) pa_nil))))
    (pss_cons (ps_set (i := 7) sc_w_names_right.nd rfl (Or.inl rfl) (pe_call G_w_take (hr.mono (by decide)) rfl T.g_w_take T.F_w_take.kp T.b_w_take .nil pass0 (pa_cons (pv 0) (pa_cons (pe_op op_add (pe_callB call_len_seq (by rfl) T.m_len PySem.boot_len (pa_cons (pv 3) pa_nil)) pe_int) pa_nil))))
    (pss_cons (ps_set (i := 3) sc_w_names_right.nd rfl (Or.inl rfl) (pe_op op_cat (pe_op op_cat (pe_slice sl_list (pv 3) po_none (po_some (pv 7))) (pe_lst (pa_cons (pe_tup (pa_cons (pv 6) (pa_cons (pe_op op_sub (pe_call G_w_take (hr.mono (by decide)) rfl T.g_w_take T.F_w_take.kp T.b_w_take .nil pass0 (pa_cons (pv 0) (pa_cons pe_int pa_nil))) pe_int) pa_nil))) pa_nil))) (pe_slice sl_list (pv 3) (po_some (pv 7)) po_none)))
    (pss_one (ps_expr (pe_bm PySem.F.plainAttrs_list PySem.F.slot_list_append PySem.F.type_list_append mt_append (pv 4) (pa_cons (pv 6) pa_nil))))))))
    (pss_cons (ps_for PassesOwn.never rfl (pi_list (pv 4)) (pg_name (i := 6) sc_w_names_right.nd rfl (Or.inl rfl))
    (pss_cons (ps_set (i := 8) sc_w_names_right.nd rfl (Or.inl rfl) (pe_call G_is_quantity (hr.mono (by decide)) rfl T.g_is_quantity T.F_is_quantity.kp T.b_is_quantity .nil pass0 (pa_cons (pv 6) pa_nil)))
    (pss_cons (ps_set (i := 9) sc_w_names_right.nd rfl (Or.inl rfl) (pe_call G_is_word (hr.mono (by decide)) rfl T.g_is_word T.F_is_word.kp T.b_is_word .nil pass0 (pa_cons (pv 6) pa_nil)))
    (pss_cons (ps_if (PW.pt (pw_or (pt_not (pt_val (pe_callB call_isi (by rfl) T.m_isinstance (by decide +kernel) (pa_cons (pv 8) (pa_cons (pe_bltn (v := .ty "bool") (by rfl) T.m_bool (by decide +kernel) rfl) pa_nil))))) (pw_or1 (pt_cmpR op_ne (pv 8) (pe_call G_w_good (hr.mono (by decide)) rfl T.g_w_good T.F_w_good.kp T.b_w_good .nil pass0 (pa_cons (pv 6) pa_nil)) (nomark _)))))
    (pss_one (ps_ret pe_bl))
    pss_nil)
    (pss_one (ps_if (PW.pt (pw_or (pt_not (pt_val (pe_callB call_isi (by rfl) T.m_isinstance (by decide +kernel) (pa_cons (pv 9) (pa_cons (pe_bltn (v := .ty "bool") (by rfl) T.m_bool (by decide +kernel) rfl) pa_nil))))) (pw_or1 (pt_cmpR op_ne (pv 9) (pe_call G_w_word (hr.mono (by decide)) rfl T.g_w_word T.F_w_word.kp T.b_w_word .nil pass0 (pa_cons (pv 6) pa_nil)) (nomark _)))))
    (pss_one (ps_ret pe_bl))
    pss_nil))))))
    (pss_cons (ps_setLc (i := 10) (own := [("_law_pair", 11)]) (g := gName 11)  rfl sc_w_names_right.nd rfl rfl (sw_true rfl rfl rfl (by decide +kernel)) (pi_list (pv 3)) (blkOk_by (own := [("_law_pair", 11)]) (N := ["_law_pot_here", "_law_pool_here", "_law_pairs_here", "_law_given", "_law_texts", "_law_turn", "_law_text", "_law_at", "_law_found", "_law_short", "_law_bad", "_law_pair", "_law_kept", "_law_made", "e"]) (sc := defScope s_w_names_right) (by decide +kernel)) (fun _ _ _ _ _ => pg_name (i := 11) sc_w_names_right.nd rfl (Or.inl rfl)) (fun _ _ _ _ _ => pts_one (pt_not (pt_val (pe_call G_w_good (hr.mono (by decide)) rfl T.g_w_good T.F_w_good.kp T.b_w_good .nil pass0 (pa_cons (pe_ix (ix_tupK (K := K) rfl) (pv 11) pe_int (fun _ _ => rfl)) pa_nil))))) (fun _ _ _ _ _ => (pe_ix (ix_tupK (K := K) rfl) (pv 11) pe_int (fun _ _ => rfl))))
    (pss_cons (ps_set (i := 12) sc_w_names_right.nd rfl (Or.inl rfl) (pe_callTy call_list_of (by rfl) T.m_list (by decide +kernel) (pa_cons (pv 3) pa_nil)))
    (pss_cons (ps_try_as (i := 14) (Wout := fun _ _ _ _ => False) rfl rfl sc_w_names_right.nd rfl rfl ⟨rfl, by decide, Or.inl T.gC_BadName⟩ takes0 (fun W pn xe tk _ => (pss_one (ps_set (i := 13) sc_w_names_right.nd rfl (Or.inl rfl) (Dt.pe_makeSD T.mk_Form G_Form___initX (hr.mono (by decide)) rfl T.gC_Form T.b3_Form___init.choose_spec.2 T.b3_Form___init.choose_spec.1 (fun σ => passAt tk σ) (pa_cons (pv 3) (pa_cons pe_int pa_nil)))))) (fun a oe cls d pn hz hf => (pss_cons (ps_if (PW.pt (pw_or (pt_not (pt_val (pe_callB (Er.call_isD hz hf) (by rfl) T.m_isinstance (by decide +kernel) (pa_cons (pv 14) (pa_cons (pe_glob (v := .ref T.C_MeteError) rfl T.gC_MeteError rfl) pa_nil))))) (pw_or (pt_not (pt_val (pe_callB (Er.call_isD hz hf) (by rfl) T.m_isinstance (by decide +kernel) (pa_cons (pv 14) (pa_cons (pe_bltn (v := .ty "ValueError") (by rfl) T.m_ValueError boot_ValueError rfl) pa_nil))))) (pw_or1 (pt_val (pe_callB (Er.call_isD hz hf) (by rfl) T.m_isinstance (by decide +kernel) (pa_cons (pv 14) (pa_cons (pe_glob (v := .ref T.C_NoQuantity) rfl T.gC_NoQuantity rfl) pa_nil))))))))
    (pss_one (ps_ret pe_bl))
    pss_nil)
    (pss_one (ps_ret (pe_and (pe_cmpR (Er.op_neDK (K := K) rfl hr.units) (pv 10) (pe_lst pa_nil) (nomark _)) (pe_and (pe_cmpR op_eq (pe_xf T.xf_BadName (T.Z_BadName w).noN hz hf (pv 14)) (pe_ix (ix_listK (K := K) rfl) (pv 10) pe_int (fun _ _ => rfl)) (nomark _)) (pe_one (pe_cmpR (Er.op_eqDK (K := K) rfl hr.units) (pv 3) (pv 12) (nomark _))))))))))
    (pss_one (ps_ret (pe_and (pe_cmpR (op_eqD hr.units) (pv 10) (pe_lst pa_nil) (nomark _)) (pe_and (pe_cmpR (op_eqD hr.units) (pv 3) (pv 12) (nomark _)) (pe_one (pe_call G_w_form_is (hr.mono (by decide)) rfl T.g_w_form_is T.F_w_form_is.kp T.b_w_form_is .nil pass0 (pa_cons (pv 13) (pa_cons (pe_call G_w_tidy (hr.mono (by decide)) rfl T.g_w_tidy T.F_w_tidy.kp T.b_w_tidy .nil pass0 (pa_cons (pv 3) (pa_cons pe_int pa_nil))) pa_nil))))))))))))))), ?_⟩
    walk_at "start"
    walk_at "sts"
    intro l1 hl1
    have c1 : Keep [] H (upd H l1 (.lst (as.map V.ref))) := Keep.new hl1
    have e1 : upd H l1 (.lst (as.map V.ref)) l1 = some (.lst (as.map V.ref)) := upd_same
    have nl1 : l1 ≠ a := hp.ne hl1
    have hx' : H p = some (.lst (xs.map V.str)) := hx
    generalize upd H l1 (.lst (as.map V.ref)) = H1 at c1 e1 ⊢
    have x1 : H1 p = some (.lst (xs.map V.str)) := c1 _ _ (by simp) hx
    have p1 : PotAt a H1 := hp.keep0 c1
    walk_at "sts"
    intro l2 hl2
    have c2 : Keep [] H1 (upd H1 l2 (.lst (xs.map V.str))) := Keep.new hl2
    have e2 : upd H1 l2 (.lst (xs.map V.str)) l2 = some (.lst (xs.map V.str)) := upd_same
    have nl2 : l2 ≠ a := p1.ne hl2
    have nl12 : l1 ≠ l2 := by rintro rfl; rw [e1] at hl2; cases hl2
    have npl2 : p ≠ l2 := by rintro rfl; rw [x1] at hl2; cases hl2
    have nH2 : H l2 = none := c1.free (by simp) hl2
    have p2 : PotAt a (upd H1 l2 (.lst (xs.map V.str))) := p1.keep0 c2
    generalize upd H1 l2 (.lst (xs.map V.str)) = H2 at c2 e2 p2 ⊢
    have k02 := c1.trans c2
    have x2 : H2 p = some (.lst (xs.map V.str)) := c2 _ _ (by simp) x1
    have e12 := c2 _ _ (by simp) e1
    walk_at "sts"
    refine forR1_go (fun i σ' H' => ∃ (l : Addr) (bs : List Addr) (us : List Fm.Tm) (ys : List Str) (x5 x6 x7 : Option V), σ' = [some (.ref a), some (.ref p), some (.ref q), some (.ref l), some (.ref l2), x5, x6, x7, none, none, none, none, none, none, none] ∧ H' l = some (.lst (bs.map V.ref)) ∧ PairsAt H' bs us ∧ H' l2 = some (.lst (ys.map V.str)) ∧ us.length ≤ 8 + i ∧ ys.length ≤ xs.length + i ∧ (∀ t ∈ us, TextOk t.1) ∧ (∀ y ∈ ys, TextOk y) ∧ Keep [a, l2] H2 H' ∧ PotAt a H' ∧ l ≠ a ∧ l ≠ l2) (by decide)
      ⟨l1, as, ts, xs, _, _, _, rfl, e12, pt.keep0 k02, e2, by omega, by omega, fun t ht => (hqt t ht).text, fun y hy => (hq y hy).text, Keep.refl _ _, p2, nl1, nl12⟩ ?_ ?_
    · rintro i σ' H3 hi ⟨l, bs, us, ys, x5, x6, x7, rfl, el, pu, e3, lu, ly, hu, hy, kk, p3, nla, nll⟩
      have x3 : H3 p = some (.lst (xs.map V.str)) := kk _ _ (by simp; exact ⟨npa, npl2⟩) x2
      have lbs := pu.len
      walk_at "sts"
      simp only [List.length_map]
      refine r_take p3 (by omega) (by omega) fun n1 H4 a1 b1 k4 p4 => ?_
      obtain ⟨nm, hnm, mnm⟩ := atI_strs (xs := xs) a1 (by omega)
      have x4 : H4 p = some (.lst (xs.map V.str)) := k4 _ _ (by simpa using npa) x3
      refine r_ixL (sqL_of x4) hnm ?_
      walk_at "sts"
      refine ⟨a, nm, rfl, p4, hq _ mnm, fun t H5 lt5 ct k5 p5 => ?_⟩
      have el5 := (k4.trans k5) _ _ (by simpa using nla) el
      walk_at "sts"
      simp only [List.length_map]
      refine r_take p5 (by omega) (by omega) fun n2 H6 a2 b2 k6 p6 => ?_
      obtain ⟨m, rfl⟩ : ∃ m : Nat, n2 = m := ⟨n2.toNat, by omega⟩
      have k36 := k4.trans (k5.trans k6)
      have el6 := k36 _ _ (by simpa using nla) el
      have e6 := k36 _ _ (by simpa using nl2) e3
      have pu6 := pu.keep k36 p3.lst
      clear k4 k5 k6 p3 p4 p5 x4 el5 x3 el e3 pu
      walk_at "sts"
      refine r_slL (sqL_of el6) fun s1 hs1 => ?_
      rw [cut_to]
      have c7 : Keep [] H6 (upd H6 s1 (.lst ((bs.map V.ref).take m))) := Keep.new hs1
      have e7 : upd H6 s1 (.lst ((bs.map V.ref).take m)) s1 = some (.lst ((bs.take m).map V.ref)) := by rw [upd_same, List.map_take]
      have p7 := p6.keep0 c7
      have ns1 : s1 ≠ a := p6.ne hs1
      generalize upd H6 s1 (.lst ((bs.map V.ref).take m)) = H7 at c7 e7 p7 ⊢
      walk_at "sts"
      refine r_take p7 (by omega) (by omega) fun n3 H8 a3 b3 k8 p8 => ?_
      have e8 := k8 _ _ (by simpa using ns1) e7
      have k68 : Keep [a] H6 H8 := (c7.mono (by simp)).trans k8
      have el8 := k68 _ _ (by simpa using nla) el6
      have e68 := k68 _ _ (by simpa using nl2) e6
      have pu8 := pu6.keep k68 p6.lst
      have k38 := k36.trans k68
      clear c7 e7 p7 k8 k68 el6 e6 pu6 p6 k36 hs1
      walk_at "sts"
      intro q1 hq1
      have c9 : Keep [] H8 (upd H8 q1 (.tup [.str t, .int (n3 - 1)])) := Keep.new hq1
      have e9 : upd H8 q1 (.tup [.str t, .int (n3 - 1)]) q1 = some (.tup [.str t, .int (n3 - 1)]) := upd_same
      generalize upd H8 q1 (.tup [.str t, .int (n3 - 1)]) = H9 at c9 e9 ⊢
      refine ⟨le_size (by show 1 ≤ 100000; decide), fun s2 hs2 => ?_⟩
      have c10 : Keep [] H9 (upd H9 s2 (.lst [.ref q1])) := Keep.new hs2
      have e10 : upd H9 s2 (.lst [.ref q1]) s2 = some (.lst ([q1].map V.ref)) := upd_same
      generalize upd H9 s2 (.lst [.ref q1]) = H10 at c10 e10 ⊢
      have c810 := c9.trans c10
      have e8' := c810 _ _ (by simp) e8
      have lt1 : (bs.take m).length ≤ bs.length := by rw [List.length_take]; omega
      refine r_cat e8' e10 (le_size (by rw [List.length_map, List.length_map]; show _ + 1 ≤ _; omega)) fun s3 hs3 => ?_
      rw [← List.map_append]
      have c11 : Keep [] H10 (upd H10 s3 (.lst ((bs.take m ++ [q1]).map V.ref))) := Keep.new hs3
      have e11 : upd H10 s3 (.lst ((bs.take m ++ [q1]).map V.ref)) s3 = some (.lst ((bs.take m ++ [q1]).map V.ref)) := upd_same
      generalize upd H10 s3 (.lst ((bs.take m ++ [q1]).map V.ref)) = H11 at c11 e11 ⊢
      have c811 := c810.trans c11
      have el11 := c811 _ _ (by simp) el8
      walk_at "sts"
      refine r_slL (sqL_of el11) fun s4 hs4 => ?_
      rw [cut_from]
      have c12 : Keep [] H11 (upd H11 s4 (.lst ((bs.map V.ref).drop m))) := Keep.new hs4
      have e12' : upd H11 s4 (.lst ((bs.map V.ref).drop m)) s4 = some (.lst ((bs.drop m).map V.ref)) := by rw [upd_same, List.map_drop]
      generalize upd H11 s4 (.lst ((bs.map V.ref).drop m)) = H12 at c12 e12' ⊢
      have e11' := c12 _ _ (by simp) e11
      have lt2 : (bs.drop m).length ≤ bs.length := by rw [List.length_drop]; omega
      refine r_cat e11' e12' (le_size (by rw [List.length_map, List.length_map, List.length_append]; show _ + 1 + _ ≤ _; omega)) fun s5 hs5 => ?_
      rw [← List.map_append]
      have c13 : Keep [] H12 (upd H12 s5 (.lst ((bs.take m ++ [q1] ++ bs.drop m).map V.ref))) := Keep.new hs5
      have e13 : upd H12 s5 (.lst ((bs.take m ++ [q1] ++ bs.drop m).map V.ref)) s5 = some (.lst ((bs.take m ++ [q1] ++ bs.drop m).map V.ref)) := upd_same
      have c12' := c12.trans c13
      have ns5 : s5 ≠ a := ((p8.keep0 c811).keep0 c12).ne hs5
      have n52 : s5 ≠ l2 := by rintro rfl; rw [c12 _ _ (by simp) (c811 _ _ (by simp) e68)] at hs5; cases hs5
      generalize upd H12 s5 (.lst ((bs.take m ++ [q1] ++ bs.drop m).map V.ref)) = H13 at c13 e13 c12' ⊢
      have c813 := c811.trans c12'
      have el2 := c813 _ _ (by simp) e68
      have p13 := p8.keep0 c813
      have e9' := ((c10.trans c11).trans c12') _ _ (by simp) e9
      have pu13 := pu8.keep0 c813
      have pn : PairsAt H13 (bs.take m ++ [q1] ++ bs.drop m) (us.take m ++ [(t, n3 - 1)] ++ us.drop m) := ((pu13.take m).app (show PairsAt H13 [q1] [(t, n3 - 1)] from ⟨e9', trivial⟩)).app (pu13.drop m)
      have k313 : Keep [a] H3 H13 := k38.trans (c813.mono (by simp))
      clear c9 e9 c10 e10 c11 e11 c12 e12' e11' c13 c12' c810 c811 e8 e8' el8 e68 pu8 el11 hs2 hs3 hs4 hs5 hq1 c813 e9' pu13 p8 k38 e12 e1 e2 x1 x2 c1 c2
      walk_at "sts"
      have ck : Keep [l2] H13 (upd H13 l2 (.lst (ys.map V.str ++ [.str t]))) := Keep.at (by simp)
      have tx : TextOk t := ⟨ct, lt5⟩
      refine ⟨s5, _, _, ys ++ [t], _, _, _, rfl, ck _ _ (by simpa using n52) e13, pn.keep ck (fun z hz => by rw [List.mem_singleton.mp hz]; exact ⟨_, el2⟩), by rw [upd_same, List.map_append]; rfl, ?_, by rw [List.length_append, List.length_singleton]; omega, ?_, ?_, ?_, ?_, ns5, n52⟩
      · simp only [List.length_append, List.length_take, List.length_drop, List.length_singleton]; omega
      · intro u hu'
        rcases List.mem_append.mp hu' with h1 | h1
        · rcases List.mem_append.mp h1 with h2 | h2
          · exact hu u (List.mem_of_mem_take h2)
          · rw [List.mem_singleton.mp h2]; exact tx
        · exact hu u (List.mem_of_mem_drop h1)
      · intro y hy'
        rcases List.mem_append.mp hy' with h1 | h1
        · exact hy y h1
        · rw [List.mem_singleton.mp h1]; exact tx
      · exact kk.trans ((k313.mono (by simp)).trans (ck.mono (by simp)))
      · exact p13.put nl2
    · rintro σ' H3 ⟨l, bs, us, ys, x5, x6, x7, rfl, el, pu, e3, lu, ly, hu, hy, kk, p3, nla, nll⟩
      have lbs := pu.len
      have kH : Keep [a] H H3 := fun b o hb e => kk b o (by simp at hb ⊢; exact ⟨hb, by rintro rfl; rw [nH2] at e; cases e⟩) (k02 b o (by simp) e)
      clear kk e12 e1 e2 x1 x2 c1 c2 k02 eq pt hx hx' hp
      simp only [show (2 : Int).toNat = 2 from rfl] at lu ly
      walk_at "sts"
      refine forL_go (fun i σ' H' => ∃ (x6 x8 x9 : Option V), σ' = [some (.ref a), some (.ref p), some (.ref q), some (.ref l), some (.ref l2), x5, x6, x7, x8, x9, none, none, none, none, none] ∧ Keep [] H3 H') (sqL_of e3) ⟨_, _, _, rfl, Keep.refl _ _⟩ (fun i σ' H' _ h => by obtain ⟨_, _, _, _, k⟩ := h; exact sqL_of (k _ _ (by simp) e3)) ?_ ?_
      · rintro i v σ' H4 hv ⟨x6', x8, x9, rfl, k4⟩
        obtain ⟨y, hyi, rfl⟩ := getStr hv
        have ty := hy y (List.mem_of_getElem? hyi)
        have ly1 : y.length ≤ 1000 := ty.rep.1
        walk_at "sts"
        refine ⟨y, rfl, ly1, fun H5 k5 => ?_⟩
        walk_at "sts"
        refine ⟨y, rfl, ly1, fun H6 k6 => ?_⟩
        walk_at "sts"
        refine ⟨y, rfl, ly1, ?_⟩
        walk_at "sts"
        refine ⟨y, rfl, ly1, ?_⟩
        walk_at "sts"
        exact ⟨_, _, _, rfl, k4.trans (k5.trans k6)⟩
      · rintro σ' H4 ⟨x6', x8, x9, rfl, k4⟩
        have el4 := k4 _ _ (by simp) el
        have pu4 := pu.keep0 k4
        have kH4 := kH.trans (k4.mono (by simp))
        have p4 := p3.keep0 k4
        clear el pu e3 p3 k4 kH
        walk_at "sts"
        refine lcL_go (fun D i acc H' => acc = (badNames (us.take i)).map V.str ∧ Keep [] H4 H' ∧ (badNames (us.take i)).length ≤ i ∧ H4 D = none) (sqL_of el4) (fun D hD => ⟨rfl, Keep.new hD, by simp [badNames], hD⟩) (fun D i acc H' _ h => sqL_of (h.2.1 _ _ (by simp) el4)) ?_ ?_
        · rintro D i v acc H5 hv hD ⟨rfl, k5, lm, nD⟩
          obtain ⟨z, hz, rfl⟩ := getRef hv
          obtain ⟨u, hu1, eu⟩ := pu4.get hz
          have eu5 := k5 _ _ (by simp) eu
          have hi := (List.getElem?_eq_some_iff.mp hu1).1
          have ms := bad_snoc hu1
          have tu := hu u (List.mem_of_getElem? hu1)
          walk_at "sts"
          refine ⟨u.1, rfl, tu.rep.1, ?_⟩
          walk_at "sts"
          by_cases cg : goodB u.1 = true
          · rw [if_pos cg, List.append_nil] at ms
            rw [cg]
            walk_at "sts"
            exact ⟨_, hD, by rw [ms], k5, by rw [ms]; omega, nD⟩
          · rw [if_neg cg] at ms
            rw [show goodB u.1 = false by simpa using cg]
            walk_at "sts"
            exact lc_put (acc := (badNames (us.take i)).map V.str) hD (by rw [List.length_map]; exact lt_size (by omega)) ⟨by rw [ms, List.map_append]; rfl, k5.mut nD, by rw [ms, List.length_append, List.length_singleton]; omega, nD⟩
        · rintro D acc H5 nD hD ⟨rfl, k5, lm, _⟩
          rw [List.take_of_length_le (by rw [List.length_map, lbs]; exact Nat.le_refl _)] at hD
          have el5 := k5 _ _ (by simp) el4
          have pu5 := pu4.keep0 k5
          have p5 := p4.keep0 k5
          have kH5 := kH4.trans (k5.mono (by simp))
          clear el4 pu4 p4 kH4 k5
          walk_at "sts"
          intro l6 hl6
          have c6 : Keep [] H5 (upd H5 l6 (.lst (bs.map V.ref))) := Keep.new hl6
          have e6 : upd H5 l6 (.lst (bs.map V.ref)) l6 = some (.lst (bs.map V.ref)) := upd_same
          generalize upd H5 l6 (.lst (bs.map V.ref)) = H6 at c6 e6 ⊢
          have hD6 := c6 _ _ (by simp) hD
          have el6 := c6 _ _ (by simp) el5
          have pu6 := pu5.keep0 c6
          have p6 := p5.keep0 c6
          have kH6 := kH5.trans (c6.mono (by simp))
          clear hD el5 pu5 p5 kH5 c6
          walk_at "sts"
          refine r_makeSD ?_
          walk_at "sts"
          intro x dx hx hdx ne
          have k7 : Keep [] H6 (upd (upd H6 dx (.own x)) x (.ins T.C_Form dx [])) := (Keep.new hdx).trans (Keep.new (by rw [upd_ne (Ne.symm ne)]; exact hx))
          refine ⟨x, dx, l, us, 3, rfl, upd_same, ⟨bs, k7 _ _ (by simp) el6, pu6.keep0 k7⟩, by omega, fun t ht => (hu t ht).rep, fun hall H8 k8 fo => ⟨rfl, ?_⟩, fun i u hiu hbad hgood e H8 k8 he => ?_⟩
          · have k68 : Keep [] H6 H8 := k7.dropNew k8 hx
            have hb0 : badNames us = [] := bad_nil hall
            rw [hb0] at hD6
            have hD8 := k68 _ _ (by simp) hD6
            have el8 := k68 _ _ (by simp) el6
            have e8 := k68 _ _ (by simp) e6
            have pu8 := pu6.keep0 k68
            have p8 := p6.keep0 k68
            have kH8 := kH6.trans (k68.mono (by simp))
            clear hD6 el6 e6 pu6 p6 kH6 k7 k8 k68
            walk_at "sts"
            intro l0 hl0
            have k9 : Keep [] H8 (upd H8 l0 (.lst [])) := Keep.new hl0
            refine r_eqL (xs := []) (ys := []) (b := true) (sqL_of (k9 _ _ (by simp) hD8)) (sqL_of upd_same) rfl rfl rfl ?_
            generalize upd H8 l0 (.lst []) = H9 at k9 ⊢
            walk_at "sts"
            refine r_eqPairs (k9 _ _ (by simp) el8) (k9 _ _ (by simp) e8) (pu8.keep0 k9) hu ?_
            walk_at "sts"
            refine ⟨l, us, 3, rfl, ⟨bs, k9 _ _ (by simp) el8, pu8.keep0 k9⟩, by omega, fun d H10 k10 nd due => ?_⟩
            have k810 := k9.trans k10
            walk_at "sts"
            refine ⟨x, d, _, 3, rfl, fo.keep0 k810, due, can_le (by omega), ?_⟩
            exact qq _ (kH8.trans (k810.mono (by simp))) (p8.keep0 k810)
          · obtain ⟨zs, hb0⟩ := bad_at hiu hbad hgood
            rw [hb0] at hD6
            have k68 : Keep [x] H6 H8 := (k7.mono (by simp)).trans (k8.mono (by simp))
            have k68' : Keep [] H6 H8 := k7.trans k8
            have hD8 := k68' _ _ (by simp) hD6
            have hfl : ((u.1 :: zs).map V.str).all flatV = true := by
              rw [List.all_map]
              refine List.all_eq_true.mpr fun z hz => ?_
              rw [← hb0] at hz
              obtain ⟨u2, hu2, rfl⟩ := List.mem_map.mp hz
              exact (hu u2 (List.mem_filter.mp hu2).1).ok
            refine ⟨true, T.exm_BadName_BadName, fun _ a' ha => ?_, fun z => nomatch z⟩
            have he' : upd H8 e (.xd [("name", .str u.1)]) e = some (.xd [("name", .str u.1)]) := upd_same
            have k9 : Keep [] H8 (upd H8 e (.xd [("name", .str u.1)])) := Keep.new he
            generalize upd H8 e (.xd [("name", .str u.1)]) = H9 at he' k9 ha ⊢
            have k69 := k68'.trans k9
            have hD9 := k69 _ _ (by simp) hD6
            have el9 := k69 _ _ (by simp) el6
            have e9 := k69 _ _ (by simp) e6
            have pu9 := pu6.keep0 k69
            have p9 := p6.keep0 k69
            have kH9 := kH6.trans (k69.mono (by simp))
            clear hD6 el6 e6 pu6 p6 kH6 k7 k8 k68 k68' k69 hD8 k9
            simp only [List.set_cons_succ, List.set_cons_zero]
            walk_at "sts"
            refine Er.r_isD T.X_BadName he' (fun u r => r) T.kit_BadName_MeteError ?_
            walk_at "sts"
            refine Er.r_isD T.X_BadName he' (fun u r => r) T.kit_BadName_ValueError ?_
            walk_at "sts"
            refine Er.r_isD T.X_BadName he' (fun u r => r) T.kit_BadName_NoQuantity ?_
            walk_at "sts"
            intro l0 hl0
            have k10 : Keep [] H9 (upd H9 l0 (.lst [])) := Keep.new hl0
            have hD10 := k10 _ _ (by simp) hD9
            have he10 := k10 _ _ (by simp) he'
            refine r_neL (b := false) (sqL_of hD10) (sqL_of upd_same) hfl rfl (by rfl) ?_
            generalize upd H9 l0 (.lst []) = H10 at k10 hD10 he10 ⊢
            walk_at "sts"
            refine Er.r_xfE he10 rfl ?_
            have ats : atI ((u.1 :: zs).map V.str) 0 = some (V.str u.1) := atI_nat (j := 0) rfl
            walk_at "sts"
            refine r_eqPairs (k10 _ _ (by simp) el9) (k10 _ _ (by simp) e9) (pu9.keep0 k10) hu ?_
            exact qq _ (kH9.trans (k10.mono (by simp))) (p9.keep0 k10)
end
/-! ### make_form -/
def spMake (C : Addr) : Sp := fun vs H Q _ => ∃ (p d : Addr) (cs : List Int) (ks : List Str) (ns : List Int), vs = [.ref p, .ref d] ∧ H p = some (.tup (cs.map V.int)) ∧ H d = some (.dK (Kw.kwD ks (ns.map V.int))) ∧ ks.length = ns.length ∧ ks.length ≤ 20 ∧ (∀ k ∈ ks, IsQ k) ∧
  ∀ z H', Keep [] H H' → H z = none → FormAt C H' z (Fm.can (ks.zip ns)) cs.sum → Q (.ref z) H'
/-- a keyword that is no name -/
def spMakeX (C CB : Addr) : Sp := fun vs H Q E => ∃ (p d : Addr) (cs : List Int) (ks : List Str) (ns : List Int) (i : Nat) (k : Str), vs = [.ref p, .ref d] ∧ H p = some (.tup (cs.map V.int)) ∧ H d = some (.dK (Kw.kwD ks (ns.map V.int))) ∧ ks.length = ns.length ∧ ks.length ≤ 20 ∧ (∀ k ∈ ks, TextOk k) ∧
  ks[i]? = some k ∧ goodB k = false ∧ (∀ u ∈ ks.take i, IsQ u) ∧ ∀ e H', Keep [] H H' → H' e = none → E (.ref CB) (some e) (upd H' e (.xd [("name", .str k)]))
theorem kwD_at {ks : List Str} {ns : List Int} {i : Nat} {k : Key} {v : V} (hl : ks.length = ns.length) (h : (Kw.kwD ks (ns.map V.int))[i]? = some (k, v)) : ∃ s n, (ks.zip ns)[i]? = some (s, n) ∧ k = Sum.inr s ∧ v = .int n := by
  unfold Kw.kwD at h
  rw [List.getElem?_zip_eq_some] at h
  obtain ⟨h1, h2⟩ := h
  rw [List.getElem?_map, Option.map_eq_some_iff] at h1 h2
  obtain ⟨s, hs, rfl⟩ := h1
  obtain ⟨n, hn, rfl⟩ := h2
  exact ⟨s, n, List.getElem?_zip_eq_some.mpr ⟨hs, hn⟩, rfl, rfl⟩
theorem kwD_len {ks : List Str} {ns : List Int} (hl : ks.length = ns.length) : (Kw.kwD ks (ns.map V.int)).length = ks.length := by
  unfold Kw.kwD; simp; omega
/-- the display of the pairs, walked -/
theorem r_kwPairs {K : PySem.W.Frag} {σ : L2.St} {H : Hp} {Q : VK} {d p : Addr} {ks : List Str} {ns : List Int} {x2 x3 : Option V} (hσ : σ = [some (.ref p), some (.ref d), x2, x3]) (hd : H d = some (.dK (Kw.kwD ks (ns.map V.int)))) (hl : ks.length = ns.length) (hz : ks.length ≤ 20)
    (k : ∀ l H', Keep [] H H' → RowAt H' l (ks.zip ns) → Q (.ref l) H') :
    tLockE (tLc (iItems (tVar 1)) (gTup K 2 (gCons (gName 2) (gCons (gName 3) gNil))) tYes (tTup (tCons (tVar 2) (tCons (tVar 3) tNil))) [2, 3]) σ H Q := by
  subst hσ
  refine Kw.lcI_go hd (fun od Q' h => r_var rfl (h _ _ ⟨rfl, rfl⟩)) (fun od D i acc H' => ∃ as : List Addr, acc = as.map V.ref ∧ PairsAt H' as ((ks.zip ns).take i) ∧ Keep [] (upd H d (.frz od (.dK (Kw.kwD ks (ns.map V.int))))) H' ∧ D ≠ d) (fun od D hD => ?_) (fun od D i acc H' h => ?_) ?_ ?_
  · refine ⟨[], rfl, by simp [PairsAt], Keep.new hD, ?_⟩
    rintro rfl; rw [upd_same] at hD; cases hD
  · obtain ⟨_, _, _, k2, _⟩ := h
    exact k2 _ _ (by simp) upd_same
  · rintro od D i kk v T acc H' hkv hD eD ⟨as, rfl, pt, k2, nd⟩ hT
    obtain ⟨s, n, hsn, rfl, rfl⟩ := kwD_at hl hkv
    have la := pt.len
    rw [List.length_take] at la
    have e1 : upd H' T (.tup [kV (Sum.inr s), V.int n]) T = some (.tup [.str s, .int n]) := upd_same
    have k3 : Keep [] H' (upd H' T (.tup [kV (Sum.inr s), V.int n])) := Keep.new hT
    have nDT : D ≠ T := by rintro rfl; rw [eD] at hT; cases hT
    generalize upd H' T (.tup [kV (Sum.inr s), V.int n]) = H3 at e1 k3 ⊢
    have eD3 := k3 _ _ (by simp) eD
    simp only [L2.wipe, List.map_cons, List.map_nil, List.set_cons_zero, List.set_cons_succ]
    walk_at "sts"
    refine ⟨trivial, ?_⟩
    walk_at "sts"
    intro q hq
    have k4 : Keep [] H3 (upd H3 q (.tup [.str s, .int n])) := Keep.new hq
    have e4 : upd H3 q (.tup [.str s, .int n]) q = some (.tup [.str s, .int n]) := upd_same
    generalize upd H3 q (.tup [.str s, .int n]) = H4 at k4 e4 ⊢
    have eD4 := k4 _ _ (by simp) eD3
    have hb : as.length < 100000 := by rw [la]; have := Nat.min_le_left i (ks.zip ns).length; have h2 : (ks.zip ns).length ≤ 20 := by rw [List.length_zip]; omega
                                       omega
    refine lc_put eD4 (by rw [List.length_map]; exact lt_size hb) ⟨as ++ [q], by rw [List.map_append]; rfl, ?_, ?_, nd⟩
    · rw [take_snoc hsn]
      exact ((pt.keep0 (k3.trans k4)).app (show PairsAt H4 [q] [(s, n)] from ⟨e4, trivial⟩)).keep (Keep.at (M := [D]) (by simp)) (fun m hm => by rw [List.mem_singleton.mp hm]; exact ⟨_, eD4⟩)
    · refine Keep.mut ((k2.trans k3).trans k4) hD
  · rintro od D acc H' hD eD ⟨as, rfl, pt, k2, nd⟩
    rw [kwD_len hl, List.take_of_length_le (by rw [List.length_zip]; omega)] at pt
    have k3 := Keep.unlock hd k2
    refine k D _ k3 ⟨as, by rw [upd_ne nd]; exact eD, pt.mono fun b t _ _ e => ?_⟩
    have nb : b ≠ d := by rintro rfl; rw [k2 _ _ (by simp) upd_same] at e; cases e
    rw [upd_ne nb]; exact e
section
variable {w : World} {K : PySem.W.Frag} {mg : Str → Option Value} {base : Heap}
/-- the body of make_form where all keywords are names -/
theorem made_body (T : Tx K mg) (G_Form___init : GInit PG w K mg base T) (cdv : Value) (A : Around) (outer : List Env) (s : Shared) (H : Hp) (vs : List V) (Q : VK) (E : XK) (hr : Room 4 (A.deeper (envOfC "make_form" (defScope s_make_form) s.heap.objs.size T.f_make_form cdv))) (h : spMake T.C_Form vs H Q E) :
    ∃ t, PSs (cxOf CX0 PG w K mg base ["constants", "weights", "name", "weight"] "make_form" (defScope s_make_form) T.f_make_form cdv A outer s H E).nox (defBody s_make_form) t ∧ t { nx := fun _ H' => Q .non H', rt := Q } (start ["constants", "weights", "name", "weight"] vs) H := by
  obtain ⟨p, d, cs, ks, ns, rfl, hp, hd, hl, hz, hq, q⟩ := h
  refine ⟨_, (pss_one (ps_ret (pe_make T.mk_Form G_Form___init (hr.mono (by decide)) rfl T.gC_Form T.b3_Form___init.choose_spec.2 T.b3_Form___init.choose_spec.1 pass0 (pa_cons (pe_lock (pe_lc (own := [("name", 2), ("weight", 3)]) (g := gTup K 2 (gCons (gName 2) (gCons (gName 3) gNil))) (tt := tYes) rfl sc_make_form.nd (pi_items (pv 1)) (blkOk_by (own := [("name", 2), ("weight", 3)]) (N := ["constants", "weights", "name", "weight"]) (sc := defScope s_make_form) (by decide +kernel)) (fun _ _ _ _ _ => pg_tup (n := 2) rfl (pgs_cons (pg_name (i := 2) sc_make_form.nd rfl (Or.inl rfl)) (pgs_cons (pg_name (i := 3) sc_make_form.nd rfl (Or.inl rfl)) pgs_nil))) (fun _ _ _ _ _ => pts_nil) (fun _ _ _ _ _ => (pe_tup (pa_cons (pv 2) (pa_cons (pv 3) pa_nil)))))) (pa_cons (pe_callB (Kw.cr_sumT rfl) (by rfl) T.m_sum (by decide +kernel) (pa_cons (pv 0) pa_nil)) pa_nil))))), ?_⟩
  walk_at "start"
  walk_at "sts"
  refine r_kwPairs rfl hd hl hz fun l H1 k1 row => ?_
  walk_at "sts"
  refine Kw.r_sumT (sqT_of (k1 _ _ (by simp) hp)) ?_
  walk_at "sts"
  refine r_newForm (.inl row) (by rw [List.length_zip]; omega) (fun t ht => hq _ (List.of_mem_zip ht).1) fun z H2 k2 nz fo => ?_
  exact q z H2 (k1.trans k2) (k1.free (by simp) nz) fo
end
/-! ### make_form, where a keyword is no name -/
section
variable {w : World} {K : PySem.W.Frag} {mg : Str → Option Value} {base : Heap}
/-- the body of make_form where some keyword is none -/
theorem made_bodyX (T : Tx K mg) (G_Form___init : FnOk PG w K mg base (L2.CX PG w) 3 T.f_Form___init T.fd_Form___init ["self", "terms", "constant"] (spInitFX T.C_Form T.C_BadName)) (cdv : Value) (A : Around) (outer : List Env) (s : Shared) (H : Hp) (vs : List V) (Q : VK) (E : XK) (hr : Room 4 (A.deeper (envOfC "make_form" (defScope s_make_form) s.heap.objs.size T.f_make_form cdv))) (h : spMakeX T.C_Form T.C_BadName vs H Q E) :
    ∃ t, PSs (cxOf (L2.CX PG w) PG w K mg base ["constants", "weights", "name", "weight"] "make_form" (defScope s_make_form) T.f_make_form cdv A outer s H E) (defBody s_make_form) t ∧ t { nx := fun _ H' => Q .non H', rt := Q } (start ["constants", "weights", "name", "weight"] vs) H := by
  obtain ⟨p, d, cs, ks, ns, i, k, rfl, hp, hd, hl, hz, ht, hi, hb, hg, q⟩ := h
  have tk0 : Takes (cxOf (L2.CX PG w) PG w K mg base ["constants", "weights", "name", "weight"] "make_form" (defScope s_make_form) T.f_make_form cdv A outer s H E) (fun cls d _ H => E cls d H) := takes_of rfl rfl rfl rfl
  refine ⟨_, (pss_one (ps_ret (pe_make T.mk_Form G_Form___init (hr.mono (by decide)) rfl T.gC_Form T.b3_Form___init.choose_spec.2 T.b3_Form___init.choose_spec.1 (passes_call tk0 (fun _ _ _ _ h => h)) (pa_cons (pe_lock (pe_lc (own := [("name", 2), ("weight", 3)]) (g := gTup K 2 (gCons (gName 2) (gCons (gName 3) gNil))) (tt := tYes) rfl sc_make_form.nd (pi_items (pv 1)) (blkOk_by (own := [("name", 2), ("weight", 3)]) (N := ["constants", "weights", "name", "weight"]) (sc := defScope s_make_form) (by decide +kernel)) (fun _ _ _ _ _ => pg_tup (n := 2) rfl (pgs_cons (pg_name (i := 2) sc_make_form.nd rfl (Or.inl rfl)) (pgs_cons (pg_name (i := 3) sc_make_form.nd rfl (Or.inl rfl)) pgs_nil))) (fun _ _ _ _ _ => pts_nil) (fun _ _ _ _ _ => (pe_tup (pa_cons (pv 2) (pa_cons (pv 3) pa_nil)))))) (pa_cons (pe_callB (Kw.cr_sumT rfl) (by rfl) T.m_sum (by decide +kernel) (pa_cons (pv 0) pa_nil)) pa_nil))))), ?_⟩
  walk_at "start"
  walk_at "sts"
  refine r_kwPairs rfl hd hl hz fun l H1 k1 row => ?_
  walk_at "sts"
  refine Kw.r_sumT (sqT_of (k1 _ _ (by simp) hp)) ?_
  walk_at "sts"
  intro x dx hx hdx ne
  have k2 : Keep [] H1 (upd (upd H1 dx (.own x)) x (.ins T.C_Form dx [])) := (Keep.new hdx).trans (Keep.new (by rw [upd_ne (Ne.symm ne)]; exact hx))
  have hlen : i < ks.length := (List.getElem?_eq_some_iff.mp hi).1
  obtain ⟨n, hn⟩ : ∃ n, ns[i]? = some n := ⟨_, List.getElem?_eq_getElem (by omega)⟩
  have hzi : (ks.zip ns)[i]? = some (k, n) := List.getElem?_zip_eq_some.mpr ⟨hi, hn⟩
  refine ⟨x, dx, l, ks.zip ns, cs.sum, rfl, upd_same, row.keep0 k2, by rw [List.length_zip]; omega, fun t h => (ht _ (List.of_mem_zip h).1).rep, fun hall H' _ _ => ?_, fun j u hj hbad hgood e H' k3 he => ?_⟩
  · have := goodB_iff.mpr (hall _ (List.mem_of_getElem? hzi))
    rw [hb] at this; cases this
  · obtain ⟨hj1, hj2⟩ := List.getElem?_zip_eq_some.mp hj
    have e1 : j = i := by
      rcases Nat.lt_trichotomy j i with c | c | c
      · exfalso
        have := goodB_iff.mpr (hg u.1 (List.mem_take_iff_getElem.mpr ⟨j, by have := (List.getElem?_eq_some_iff.mp hj1).1; omega, by have := (List.getElem?_eq_some_iff.mp hj1).2; simpa using this⟩))
        rw [hbad] at this; cases this
      · exact c
      · exfalso
        have hm : (k, n) ∈ (ks.zip ns).take j := List.mem_take_iff_getElem.mpr ⟨i, by have := (List.getElem?_eq_some_iff.mp hj).1; omega, by have := (List.getElem?_eq_some_iff.mp hzi).2; simpa using this⟩
        have := goodB_iff.mpr (hgood _ hm)
        rw [hb] at this; cases this
    subst e1
    rw [hi] at hj1
    cases hj1
    exact q e H' ((k1.trans k2).trans k3) he
end
/-! ### keywords that are refused -/
def spKwRef : Sp := fun vs H Q _ => ∃ (i j : Int), vs = [.int i, .int j] ∧ ∀ H', Keep [] H H' → Q (.bl true) H'
abbrev GKwX (w : World) (K : PySem.W.Frag) (mg : Str → Option Value) (base : Heap) (T : Tx K mg) (ks : List Str) := Kw.FnKw PG w K mg base (L2.CX PG w) 5 T.f_make_form ks (Kw.kwSp ks (spMakeX T.C_Form T.C_BadName))
theorem kwb_1 : Kw.KwB "make_form" "make_form" s_make_form "constants" "weights" ["kelp", "Kelp", "ant_"] := fun kV doc pm an cdv ct us ws h => match us, ws, h with | [], [_, _, _], _ => rfl | _ :: _, [_, _, _], _ => rfl
theorem kwb_2 : Kw.KwB "make_form" "make_form" s_make_form "constants" "weights" ["ant_", "kelp", "Kelp"] := fun kV doc pm an cdv ct us ws h => match us, ws, h with | [], [_, _, _], _ => rfl | _ :: _, [_, _, _], _ => rfl
theorem kwb_3 : Kw.KwB "make_form" "make_form" s_make_form "constants" "weights" ["abcdefghijkl", "abcdefghijklm"] := fun kV doc pm an cdv ct us ws h => match us, ws, h with | [], [_, _], _ => rfl | _ :: _, [_, _], _ => rfl
section
variable {w : World} {K : PySem.W.Frag} {mg : Str → Option Value} {base : Heap}
theorem ok_makeX (T : Tx K mg) (G_Form___init : FnOk PG w K mg base (L2.CX PG w) 3 T.f_Form___init T.fd_Form___init ["self", "terms", "constant"] (spInitFX T.C_Form T.C_BadName)) {ks : List Str} (nd : ks.Nodup) (hz : ks.length ≤ 20) (hb : Kw.KwB "make_form" "make_form" s_make_form "constants" "weights" ks) : GKwX w K mg base T ks :=
  Kw.Fun.okKwX T.F_make_form sc_make_form nd (le_size (by omega)) hb fun cdv A outer s H vs Q E hr h => made_bodyX T G_Form___init cdv A outer s H vs Q E hr h
theorem r_kwX {C CB : Addr} {H : Hp} {Q : VK} {E : XK} {cs ns : List Int} {ks : List Str} (i : Nat) (k : Str) (hl : ks.length = ns.length) (hz : ks.length ≤ 20) (hc : cs.length ≤ 20) (ht : ∀ k ∈ ks, TextOk k) (hi : ks[i]? = some k) (hb : goodB k = false) (hg : ∀ u ∈ ks.take i, IsQ u)
    (q : ∀ e H', Keep [] H H' → H' e = none → E (.ref CB) (some e) (upd H' e (.xd [("name", .str k)]))) : Kw.kwSp ks (spMakeX C CB) (cs.map V.int) (ns.map V.int) H Q E := by
  refine ⟨by rw [List.length_map]; exact le_size (by omega), fun p d hp hd ne => ⟨p, d, cs, ks, ns, i, k, rfl, by rw [upd_ne (Ne.symm ne)]; exact upd_same, upd_same, hl, hz, ht, hi, hb, hg, fun e H' k1 he => q e H' ?_ he⟩⟩
  exact ((Keep.new hp).mut hd).trans k1
theorem r_kwC {sp : List V → List V → Hp → VK → XK → Prop} {t tk : TA} {E : L2.St → XK} {m : Nat} {σ : L2.St} {H : Hp} {Q : VK} (k : t σ H fun vs H1 => tk σ H1 fun zs H2 => zs.length = m ∧ sp vs zs H2 Q (E σ)) : Kw.tCallKw m sp E t tk σ H Q := k
theorem text_lit : TextOk "kelp" ∧ TextOk "Kelp" ∧ TextOk "ant_" ∧ TextOk "abcdefghijkl" ∧ TextOk "abcdefghijklm" := by unfold TextOk CodesOk; decide +kernel
theorem good_lit : goodB "kelp" = true ∧ goodB "Kelp" = false ∧ goodB "ant_" = false ∧ goodB "abcdefghijkl" = true ∧ goodB "abcdefghijklm" = false := by decide +kernel
theorem ok_kwRef (T : Tx K mg) (G_make_form_kelp_Kelp_ant_X : GKwX w K mg base T ["kelp", "Kelp", "ant_"]) (G_make_form_ant__kelp_KelpX : GKwX w K mg base T ["ant_", "kelp", "Kelp"]) (G_make_form_abcdefghijkl_abcdefghijklmX : GKwX w K mg base T ["abcdefghijkl", "abcdefghijklm"]) :
    FnOk PG w K mg base CX0 6 T.f_w_keywords_refused T.fd_w_keywords_refused ["_law_one", "_law_two"] spKwRef := by
  refine T.F_w_keywords_refused.ok sc_w_keywords_refused (fun vs H Q E h => ?_) (fun cdv A outer s H vs Q E hr h => ?_)
  · obtain ⟨i, j, rfl, _⟩ := h; rfl
  · obtain ⟨i, j, rfl, qq⟩ := h
    obtain ⟨t1, t2, t3, t4, t5⟩ := text_lit
    obtain ⟨g1, g2, g3, g4, g5⟩ := good_lit
    refine ⟨_, (pss_cons (ps_set (i := 2) sc_w_keywords_refused.nd rfl (Or.inl rfl) pe_str)
    (pss_cons (ps_set (i := 3) sc_w_keywords_refused.nd rfl (Or.inl rfl) pe_str)
    (pss_cons (ps_set (i := 4) sc_w_keywords_refused.nd rfl (Or.inl rfl) pe_str)
    (pss_cons (ps_try_as (i := 5) (Wout := fun _ _ _ _ => False) rfl rfl sc_w_keywords_refused.nd rfl rfl ⟨rfl, by decide, Or.inl T.gC_BadName⟩ takes0 (fun W pn xe tk _ => (pss_one (ps_expr (Kw.pe_callKw G_make_form_kelp_Kelp_ant_X (hr.mono (by decide)) rfl T.g_make_form T.F_make_form.kp (fun σ => passAt tk σ) (pa_cons (pv 0) pa_nil) (pk_cons (pv 1) (pk_cons pe_int (pk_cons (pv 0) pk_nil))))))) (fun a oe cls d pn hz hf => (pss_one (ps_set (i := 2) sc_w_keywords_refused.nd rfl (Or.inl rfl) (pe_xf T.xf_BadName (T.Z_BadName w).noN hz hf (pv 5))))))
    (pss_cons (ps_try_as (i := 5) (Wout := fun _ _ _ _ => False) rfl rfl sc_w_keywords_refused.nd rfl rfl ⟨rfl, by decide, Or.inl T.gC_BadName⟩ takes0 (fun W pn xe tk _ => (pss_one (ps_expr (Kw.pe_callKw0 G_make_form_ant__kelp_KelpX (hr.mono (by decide)) rfl T.g_make_form T.F_make_form.kp (fun σ => passAt tk σ) (pk_cons (pv 1) (pk_cons (pv 0) (pk_cons (pv 1) pk_nil))))))) (fun a oe cls d pn hz hf => (pss_one (ps_set (i := 3) sc_w_keywords_refused.nd rfl (Or.inl rfl) (pe_xf T.xf_BadName (T.Z_BadName w).noN hz hf (pv 5))))))
    (pss_cons (ps_try_as (i := 5) (Wout := fun _ _ _ _ => False) rfl rfl sc_w_keywords_refused.nd rfl rfl ⟨rfl, by decide, Or.inl T.gC_BadName⟩ takes0 (fun W pn xe tk _ => (pss_one (ps_expr (Kw.pe_callKw G_make_form_abcdefghijkl_abcdefghijklmX (hr.mono (by decide)) rfl T.g_make_form T.F_make_form.kp (fun σ => passAt tk σ) (pa_cons (pv 0) (pa_cons (pv 1) pa_nil)) (pk_cons (pv 0) (pk_cons pe_int pk_nil)))))) (fun a oe cls d pn hz hf => (pss_one (ps_set (i := 4) sc_w_keywords_refused.nd rfl (Or.inl rfl) (pe_xf T.xf_BadName (T.Z_BadName w).noN hz hf (pv 5))))))
    (pss_one (ps_ret (pe_and (pe_cmpR op_eq (pv 2) pe_str (nomark _)) (pe_and (pe_cmpR op_eq (pv 3) pe_str (nomark _)) (pe_one (pe_cmpR op_eq (pv 4) pe_str (nomark _))))))))))))), ?_⟩
    walk_at "start"
    walk_at "sts"
    refine r_kwC ?_
    walk_at "sts"
    refine ⟨rfl, r_kwX (cs := [i]) (ns := [j, 0, i]) 1 "Kelp" rfl (by decide) (by simp) (by simp; exact ⟨t1, t2, t3⟩) rfl g2 (by simp; exact goodB_iff.mp g1) fun e1 H1 k1 he1 => ?_⟩
    refine ⟨true, T.exm_BadName_BadName, fun _ a1 ha1 => ?_, fun z => nomatch z⟩
    have hx1 : upd H1 e1 (.xd [("name", .str "Kelp")]) e1 = some (.xd [("name", .str "Kelp")]) := upd_same
    have kx1 : Keep [] H1 (upd H1 e1 (.xd [("name", .str "Kelp")])) := Keep.new he1
    generalize upd H1 e1 (.xd [("name", .str "Kelp")]) = J1 at hx1 kx1 ha1 ⊢
    simp only [List.set_cons_succ, List.set_cons_zero]
    walk_at "sts"
    refine Er.r_xfE hx1 rfl ?_
    walk_at "sts"
    refine r_kwC ?_
    walk_at "sts"
    refine ⟨rfl, r_kwX (cs := []) (ns := [j, i, j]) 0 "ant_" rfl (by decide) (by simp) (by simp; exact ⟨t3, t1, t2⟩) rfl g3 (by simp) fun e2 H2 k2 he2 => ?_⟩
    refine ⟨true, T.exm_BadName_BadName, fun _ a2 ha2 => ?_, fun z => nomatch z⟩
    have hx2 : upd H2 e2 (.xd [("name", .str "ant_")]) e2 = some (.xd [("name", .str "ant_")]) := upd_same
    have kx2 : Keep [] H2 (upd H2 e2 (.xd [("name", .str "ant_")])) := Keep.new he2
    generalize upd H2 e2 (.xd [("name", .str "ant_")]) = J2 at hx2 kx2 ha2 ⊢
    simp only [List.set_cons_succ, List.set_cons_zero]
    walk_at "sts"
    refine Er.r_xfE hx2 rfl ?_
    walk_at "sts"
    refine r_kwC ?_
    walk_at "sts"
    refine ⟨rfl, r_kwX (cs := [i, j]) (ns := [i, 0]) 1 "abcdefghijklm" rfl (by decide) (by simp) (by simp; exact ⟨t4, t5⟩) rfl g5 (by simp; exact goodB_iff.mp g4) fun e3 H3 k3 he3 => ?_⟩
    refine ⟨true, T.exm_BadName_BadName, fun _ a3 ha3 => ?_, fun z => nomatch z⟩
    have hx3 : upd H3 e3 (.xd [("name", .str "abcdefghijklm")]) e3 = some (.xd [("name", .str "abcdefghijklm")]) := upd_same
    have kx3 : Keep [] H3 (upd H3 e3 (.xd [("name", .str "abcdefghijklm")])) := Keep.new he3
    generalize upd H3 e3 (.xd [("name", .str "abcdefghijklm")]) = J3 at hx3 kx3 ha3 ⊢
    simp only [List.set_cons_succ, List.set_cons_zero]
    walk_at "sts"
    refine Er.r_xfE hx3 rfl ?_
    walk_at "sts"
    exact qq _ (k1.trans (kx1.trans (k2.trans (kx2.trans (k3.trans kx3)))))
end
/-! ### forms made of keywords -/
def spMade : Sp := fun vs H Q _ => ∃ a : Addr, vs = [.ref a] ∧ PotAt a H ∧ ∀ H', Keep [a] H H' → PotAt a H' → Q (.bl true) H'
abbrev GKw (w : World) (K : PySem.W.Frag) (mg : Str → Option Value) (base : Heap) (T : Tx K mg) (ks : List Str) := Kw.FnKw PG w K mg base CX0 5 T.f_make_form ks (Kw.kwSp ks (spMake T.C_Form))
def starSp (sp : Sp) : Sp := fun vs H Q E => vs.length ≤ sizeLine ∧ ∀ p d, H p = Option.none → H d = Option.none → d ≠ p → sp [V.ref p, V.ref d] (upd (upd H p (.tup vs)) d (.dK [])) Q E
abbrev GKw0 (w : World) (K : PySem.W.Frag) (mg : Str → Option Value) (base : Heap) (T : Tx K mg) := FnR PG w K mg base CX0 5 T.f_make_form (starSp (spMake T.C_Form))
theorem kwb_4 : Kw.KwB "make_form" "make_form" s_make_form "constants" "weights" ["kelp", "b2"] := fun kV doc pm an cdv ct us ws h => match us, ws, h with | [], [_, _], _ => rfl | _ :: _, [_, _], _ => rfl
theorem kwb_5 : Kw.KwB "make_form" "make_form" s_make_form "constants" "weights" ["zulu", "ant", "ant9", "abcdefghijkl"] := fun kV doc pm an cdv ct us ws h => match us, ws, h with | [], [_, _, _, _], _ => rfl | _ :: _, [_, _, _, _], _ => rfl
section
variable {w : World} {K : PySem.W.Frag} {mg : Str → Option Value} {base : Heap}
theorem ok_make (T : Tx K mg) (G_Form___init : GInit PG w K mg base T) {ks : List Str} (nd : ks.Nodup) (hz : ks.length ≤ 20) (hb : Kw.KwB "make_form" "make_form" s_make_form "constants" "weights" ks) : GKw w K mg base T ks :=
  Kw.Fun.okKw T.F_make_form sc_make_form nd (le_size (by omega)) hb fun cdv A outer s H vs Q E hr h => made_body T G_Form___init cdv A outer s H vs Q E hr h
theorem ok_make0 (T : Tx K mg) (G_Form___init : GInit PG w K mg base T) : GKw0 w K mg base T :=
  Kw.Fun.okStarKw T.F_make_form sc_make_form (fun kV doc pm an cdv ct us => match us with | [] => rfl | _ :: _ => rfl) fun cdv A outer s H vs Q E hr h => made_body T G_Form___init cdv A outer s H vs Q E hr h
theorem r_kwN {C : Addr} {H : Hp} {Q : VK} {E : XK} {cs ns : List Int} {ks : List Str} (hl : ks.length = ns.length) (hz : ks.length ≤ 20) (hc : cs.length ≤ 20) (ht : ∀ k ∈ ks, IsQ k)
    (q : ∀ z H', Keep [] H H' → H z = none → FormAt C H' z (Fm.can (ks.zip ns)) cs.sum → Q (.ref z) H') : Kw.kwSp ks (spMake C) (cs.map V.int) (ns.map V.int) H Q E := by
  refine ⟨by rw [List.length_map]; exact le_size (by omega), fun p d hp hd ne => ⟨p, d, cs, ks, ns, rfl, by rw [upd_ne (Ne.symm ne)]; exact upd_same, upd_same, hl, hz, ht, fun z H' k1 nz f => ?_⟩⟩
  have k0 : Keep [] H (upd (upd H p (.tup (cs.map V.int))) d (.dK (Kw.kwD ks (ns.map V.int)))) := (Keep.new hp).mut hd
  exact q z H' (k0.trans k1) (k0.free (by simp) nz) f
theorem r_kwN0 {C : Addr} {H : Hp} {Q : VK} {E : XK} {cs : List Int} (hc : cs.length ≤ 20) (q : ∀ z H', Keep [] H H' → H z = none → FormAt C H' z (Fm.can []) cs.sum → Q (.ref z) H') : starSp (spMake C) (cs.map V.int) H Q E := by
  refine ⟨by rw [List.length_map]; exact le_size (by omega), fun p d hp hd ne => ⟨p, d, cs, [], [], rfl, by rw [upd_ne (Ne.symm ne)]; exact upd_same, upd_same, rfl, by decide, by simp, fun z H' k1 nz f => ?_⟩⟩
  have k0 : Keep [] H (upd (upd H p (.tup (cs.map V.int))) d (.dK [])) := (Keep.new hp).mut hd
  exact q z H' (k0.trans k1) (k0.free (by simp) nz) f
theorem name_lit : goodB "kelp" = true ∧ goodB "b2" = true ∧ goodB "zulu" = true ∧ goodB "ant" = true ∧ goodB "ant9" = true ∧ goodB "abcdefghijkl" = true := by decide +kernel
theorem ok_made (T : Tx K mg) (G_w_weight : FnOk PG w K mg base CX0 2 T.f_w_weight T.fd_w_weight ["_law_pot_here"] (spPotInt (10 ^ 30))) (G_make_form : GKw0 w K mg base T) (G_make_form_kelp_b2 : GKw w K mg base T ["kelp", "b2"]) (G_make_form_zulu_ant_ant9_abcdefghijkl : GKw w K mg base T ["zulu", "ant", "ant9", "abcdefghijkl"])
    (G_w_form_is : FnOk PG w K mg base CX0 2 T.f_w_form_is T.fd_w_form_is ["_law_found", "_law_due"] (spFormIs T.C_Form)) (G_w_tidy : FnOk PG w K mg base CX0 1 T.f_w_tidy T.fd_w_tidy ["_law_pairs_here", "_law_constant"] spTidy) (G_w_keywords_refused : FnOk PG w K mg base CX0 6 T.f_w_keywords_refused T.fd_w_keywords_refused ["_law_one", "_law_two"] spKwRef) :
    FnOk PG w K mg base CX0 7 T.f_w_made_right T.fd_w_made_right ["_law_pot_here"] spMade := by
  refine T.F_w_made_right.ok sc_w_made_right (fun vs H Q E h => ?_) (fun cdv A outer s H vs Q E hr h => ?_)
  · obtain ⟨a, rfl, _⟩ := h; rfl
  · obtain ⟨a, rfl, hp, qq⟩ := h
    obtain ⟨g1, g2, g3, g4, g5, g6⟩ := name_lit
    refine ⟨_, (pss_cons (ps_set (i := 1) sc_w_made_right.nd rfl (Or.inl rfl) (pe_call G_w_weight (hr.mono (by decide)) rfl T.g_w_weight T.F_w_weight.kp T.b_w_weight .nil pass0 (pa_cons (pv 0) pa_nil)))
    (pss_cons (ps_set (i := 2) sc_w_made_right.nd rfl (Or.inl rfl) (pe_call G_w_weight (hr.mono (by decide)) rfl T.g_w_weight T.F_w_weight.kp T.b_w_weight .nil pass0 (pa_cons (pv 0) pa_nil)))
    (pss_cons (ps_set (i := 3) sc_w_made_right.nd rfl (Or.inl rfl) (pe_call G_w_weight (hr.mono (by decide)) rfl T.g_w_weight T.F_w_weight.kp T.b_w_weight .nil pass0 (pa_cons (pv 0) pa_nil)))
    (pss_cons (ps_if (pt_not (pt_val (pe_call G_w_form_is (hr.mono (by decide)) rfl T.g_w_form_is T.F_w_form_is.kp T.b_w_form_is .nil pass0 (pa_cons (pe_callR0 G_make_form (hr.mono (by decide)) rfl T.g_make_form T.F_make_form.kp pass0) (pa_cons (pe_call G_w_tidy (hr.mono (by decide)) rfl T.g_w_tidy T.F_w_tidy.kp T.b_w_tidy .nil pass0 (pa_cons (pe_lst pa_nil) (pa_cons pe_int pa_nil))) pa_nil)))))
    (pss_one (ps_ret pe_bl))
    pss_nil)
    (pss_cons (ps_if (pt_not (pt_val (pe_call G_w_form_is (hr.mono (by decide)) rfl T.g_w_form_is T.F_w_form_is.kp T.b_w_form_is .nil pass0 (pa_cons (pe_callR G_make_form (hr.mono (by decide)) rfl T.g_make_form T.F_make_form.kp pass0 (pa_cons (pv 1) (pa_cons (pv 2) (pa_cons (pv 3) pa_nil)))) (pa_cons (pe_call G_w_tidy (hr.mono (by decide)) rfl T.g_w_tidy T.F_w_tidy.kp T.b_w_tidy .nil pass0 (pa_cons (pe_lst pa_nil) (pa_cons (pe_op op_add (pe_op op_add (pv 1) (pv 2)) (pv 3)) pa_nil))) pa_nil)))))
    (pss_one (ps_ret pe_bl))
    pss_nil)
    (pss_cons (ps_if (pt_not (pt_val (pe_call G_w_form_is (hr.mono (by decide)) rfl T.g_w_form_is T.F_w_form_is.kp T.b_w_form_is .nil pass0 (pa_cons (Kw.pe_callKw0 G_make_form_kelp_b2 (hr.mono (by decide)) rfl T.g_make_form T.F_make_form.kp (fun σ => Kw.passAt0 (E := fun _ => E0) σ) (pk_cons (pv 1) (pk_cons (pv 2) pk_nil))) (pa_cons (pe_call G_w_tidy (hr.mono (by decide)) rfl T.g_w_tidy T.F_w_tidy.kp T.b_w_tidy .nil pass0 (pa_cons (pe_lst (pa_cons (pe_tup (pa_cons pe_str (pa_cons (pv 1) pa_nil))) (pa_cons (pe_tup (pa_cons pe_str (pa_cons (pv 2) pa_nil))) pa_nil))) (pa_cons pe_int pa_nil))) pa_nil)))))
    (pss_one (ps_ret pe_bl))
    pss_nil)
    (pss_cons (ps_set (i := 4) sc_w_made_right.nd rfl (Or.inl rfl) (pe_call G_w_tidy (hr.mono (by decide)) rfl T.g_w_tidy T.F_w_tidy.kp T.b_w_tidy .nil pass0 (pa_cons (pe_lst (pa_cons (pe_tup (pa_cons pe_str (pa_cons (pv 1) pa_nil))) (pa_cons (pe_tup (pa_cons pe_str (pa_cons (pv 2) pa_nil))) (pa_cons (pe_tup (pa_cons pe_str (pa_cons (pv 3) pa_nil))) (pa_cons (pe_tup (pa_cons pe_str (pa_cons pe_int pa_nil))) pa_nil))))) (pa_cons (pv 2) pa_nil))))
    (pss_cons (ps_if (pt_not (pt_val (pe_call G_w_form_is (hr.mono (by decide)) rfl T.g_w_form_is T.F_w_form_is.kp T.b_w_form_is .nil pass0 (pa_cons (Kw.pe_callKw G_make_form_zulu_ant_ant9_abcdefghijkl (hr.mono (by decide)) rfl T.g_make_form T.F_make_form.kp (fun σ => Kw.passAt0 (E := fun _ => E0) σ) (pa_cons (pv 2) pa_nil) (pk_cons (pv 1) (pk_cons (pv 2) (pk_cons (pv 3) (pk_cons pe_int pk_nil))))) (pa_cons (pv 4) pa_nil)))))
    (pss_one (ps_ret pe_bl))
    pss_nil)
    (pss_one (ps_ret (pe_call G_w_keywords_refused (hr.mono (by decide)) rfl T.g_w_keywords_refused T.F_w_keywords_refused.kp T.b_w_keywords_refused .nil pass0 (pa_cons (pv 1) (pa_cons (pv 2) pa_nil))))))))))))), ?_⟩
    walk_at "start"
    walk_at "sts"
    refine r_potIntW hp fun i H1 b1 k1 p1 => ?_
    walk_at "sts"
    refine r_potIntW p1 fun j H2 b2 k2 p2 => ?_
    walk_at "sts"
    refine r_potIntW p2 fun n H3 b3 k3 p3 => ?_
    have kk := k1.trans (k2.trans k3)
    clear k1 k2 k3 p1 p2 hp
    walk_at "sts"
    refine r_kwN0 (cs := []) (by simp) fun z1 H4 k4 n4 f4 => ?_
    walk_at "sts"
    intro l1 hl1
    have c4 : Keep [] H4 (upd H4 l1 (.lst [])) := Keep.new hl1
    refine ⟨l1, [], 0, rfl, ⟨[], upd_same, trivial⟩, by simp, fun d1 H5 k5 nd1 due1 => ?_⟩
    walk_at "sts"
    refine ⟨z1, d1, _, _, rfl, f4.keep0 (c4.trans k5), due1, can_le (by simp), ?_⟩
    have k35 := k4.trans (c4.trans k5)
    have p5 := p3.keep0 k35
    have kk5 := kk.trans (k35.mono (by simp))
    clear k4 c4 k5 f4 due1 k35 p3 kk hl1 nd1 n4
    walk_at "sts"
    refine r_kwN0 (cs := [i, j, n]) (by simp) fun z2 H6 k6 n6 f6 => ?_
    rw [show [i, j, n].sum = i + j + n by simp only [List.sum_cons, List.sum_nil]; omega] at f6
    walk_at "sts"
    intro l2 hl2
    have c6 : Keep [] H6 (upd H6 l2 (.lst [])) := Keep.new hl2
    walk_at "sts"
    refine ⟨l2, [], i + j + n, rfl, ⟨[], upd_same, trivial⟩, by simp, fun d2 H7 k7 nd2 due2 => ?_⟩
    walk_at "sts"
    refine ⟨z2, d2, _, _, rfl, f6.keep0 (c6.trans k7), due2, can_le (by simp), ?_⟩
    have k57 := k6.trans (c6.trans k7)
    have p7 := p5.keep0 k57
    have kk7 := kk5.trans (k57.mono (by simp))
    clear k6 c6 k7 f6 due2 k57 p5 kk5 hl2 nd2 n6
    walk_at "sts"
    refine r_kwC ?_
    walk_at "sts"
    refine ⟨rfl, r_kwN (cs := []) (ns := [i, j]) rfl (by simp) (by simp) (by simp; exact ⟨goodB_iff.mp g1, goodB_iff.mp g2⟩) fun z3 H8 k8 n8 f8 => ?_⟩
    walk_at "sts"
    intro q1 hq1
    have c1 : Keep [] H8 (upd H8 q1 (.tup [.str "kelp", .int i])) := Keep.new hq1
    have e1 : upd H8 q1 (.tup [.str "kelp", .int i]) q1 = some (.tup [.str "kelp", .int i]) := upd_same
    generalize upd H8 q1 (.tup [.str "kelp", .int i]) = J1 at c1 e1 ⊢
    walk_at "sts"
    intro q2 hq2
    have c2 : Keep [] J1 (upd J1 q2 (.tup [.str "b2", .int j])) := Keep.new hq2
    have e2 : upd J1 q2 (.tup [.str "b2", .int j]) q2 = some (.tup [.str "b2", .int j]) := upd_same
    generalize upd J1 q2 (.tup [.str "b2", .int j]) = J2 at c2 e2 ⊢
    refine ⟨le_size (by show 2 ≤ 100000; decide), fun l3 hl3 => ?_⟩
    have c3 : Keep [] J2 (upd J2 l3 (.lst [.ref q1, .ref q2])) := Keep.new hl3
    have e3 : upd J2 l3 (.lst [.ref q1, .ref q2]) l3 = some (.lst ([q1, q2].map V.ref)) := upd_same
    generalize upd J2 l3 (.lst [.ref q1, .ref q2]) = J3 at c3 e3 ⊢
    walk_at "sts"
    refine ⟨l3, [("kelp", i), ("b2", j)], 0, rfl, ⟨[q1, q2], e3, (c2.trans c3) _ _ (by simp) e1, c3 _ _ (by simp) e2, trivial⟩, by simp, fun d3 H9 k9 nd3 due3 => ?_⟩
    have c89 := (c1.trans (c2.trans c3)).trans k9
    walk_at "sts"
    refine ⟨z3, d3, _, 0, rfl, f8.keep0 c89, due3, can_le (by simp), ?_⟩
    have k79 := k8.trans c89
    have p9 := p7.keep0 k79
    have kk9 := kk7.trans (k79.mono (by simp))
    clear k8 c1 c2 c3 k9 c89 f8 due3 k79 p7 kk7 e1 e2 e3 hq1 hq2 hl3 nd3 n8
    walk_at "sts"
    intro q1 hq1
    have c1 : Keep [] H9 (upd H9 q1 (.tup [.str "zulu", .int i])) := Keep.new hq1
    have e1 : upd H9 q1 (.tup [.str "zulu", .int i]) q1 = some (.tup [.str "zulu", .int i]) := upd_same
    generalize upd H9 q1 (.tup [.str "zulu", .int i]) = L1 at c1 e1 ⊢
    walk_at "sts"
    intro q2 hq2
    have c2 : Keep [] L1 (upd L1 q2 (.tup [.str "ant", .int j])) := Keep.new hq2
    have e2 : upd L1 q2 (.tup [.str "ant", .int j]) q2 = some (.tup [.str "ant", .int j]) := upd_same
    generalize upd L1 q2 (.tup [.str "ant", .int j]) = L2' at c2 e2 ⊢
    walk_at "sts"
    intro q3 hq3
    have c3 : Keep [] L2' (upd L2' q3 (.tup [.str "ant9", .int n])) := Keep.new hq3
    have e3 : upd L2' q3 (.tup [.str "ant9", .int n]) q3 = some (.tup [.str "ant9", .int n]) := upd_same
    generalize upd L2' q3 (.tup [.str "ant9", .int n]) = L3 at c3 e3 ⊢
    walk_at "sts"
    intro q4 hq4
    have c4 : Keep [] L3 (upd L3 q4 (.tup [.str "abcdefghijkl", .int 1])) := Keep.new hq4
    have e4 : upd L3 q4 (.tup [.str "abcdefghijkl", .int 1]) q4 = some (.tup [.str "abcdefghijkl", .int 1]) := upd_same
    generalize upd L3 q4 (.tup [.str "abcdefghijkl", .int 1]) = L4 at c4 e4 ⊢
    refine ⟨le_size (by show 4 ≤ 100000; decide), fun l4 hl4 => ?_⟩
    have c5 : Keep [] L4 (upd L4 l4 (.lst [.ref q1, .ref q2, .ref q3, .ref q4])) := Keep.new hl4
    have e5 : upd L4 l4 (.lst [.ref q1, .ref q2, .ref q3, .ref q4]) l4 = some (.lst ([q1, q2, q3, q4].map V.ref)) := upd_same
    generalize upd L4 l4 (.lst [.ref q1, .ref q2, .ref q3, .ref q4]) = L5 at c5 e5 ⊢
    walk_at "sts"
    refine ⟨l4, [("zulu", i), ("ant", j), ("ant9", n), ("abcdefghijkl", 1)], j, rfl, ⟨[q1, q2, q3, q4], e5, (c2.trans (c3.trans (c4.trans c5))) _ _ (by simp) e1, (c3.trans (c4.trans c5)) _ _ (by simp) e2, (c4.trans c5) _ _ (by simp) e3, c5 _ _ (by simp) e4, trivial⟩, by simp, fun d4 H10 k10 nd4 due4 => ?_⟩
    have k910 := (c1.trans (c2.trans (c3.trans (c4.trans c5)))).trans k10
    have p10 := p9.keep0 k910
    have kk10 := kk9.trans (k910.mono (by simp))
    clear c1 c2 c3 c4 c5 k10 k910 p9 kk9 e1 e2 e3 e4 e5 hq1 hq2 hq3 hq4 hl4 nd4
    walk_at "sts"
    refine r_kwC ?_
    walk_at "sts"
    refine ⟨rfl, r_kwN (cs := [j]) (ns := [i, j, n, 1]) rfl (by simp) (by simp) (by simp; exact ⟨goodB_iff.mp g3, goodB_iff.mp g4, goodB_iff.mp g5, goodB_iff.mp g6⟩) fun z5 H11 k11 n11 f11 => ?_⟩
    rw [show [j].sum = j by simp] at f11
    walk_at "sts"
    refine ⟨z5, d4, _, j, rfl, f11, due4.keep0 k11, can_le (by simp), ?_⟩
    walk_at "sts"
    refine ⟨i, j, rfl, fun H12 k12 => ?_⟩
    have k13 := k11.trans k12
    exact qq _ (kk10.trans (k13.mono (by simp))) (p10.keep0 k13)
end
/-! ### a form of nothing -/
def spAdded0 (K : PySem.W.Frag) : Sp := fun vs H Q _ => ∃ p : Addr, vs = [.ref p] ∧ SqTK K p [] ∧ ∀ (q : Addr) (H' : Hp), Keep [] H H' → H q = none → TupAt H' q [] → Q (.ref q) H'
def spInit0 (K : PySem.W.Frag) (C : Addr) : Sp := fun vs H Q _ => ∃ (x dx p : Addr) (c : Int), vs = [.ref x, .ref p, .int c] ∧ H x = some (.ins C dx []) ∧ SqTK K p [] ∧ ∀ H', Keep [x] H H' → FormAt C H' x [] c → Q .non H'
theorem r_newForm0 {K : PySem.W.Frag} {C p : Addr} {c : Int} {H : Hp} {R : Addr → Hp → Prop} {E : XK} (hp : SqTK K p []) (k : ∀ x H', Keep [] H H' → H x = none → FormAt C H' x [] c → R x H') :
    ∀ x dx, H x = none → H dx = none → dx ≠ x → spInit0 K C [.ref x, .ref p, .int c] (upd (upd H dx (.own x)) x (.ins C dx [])) (fun v H2 => v = .non ∧ R x H2) E := fun x dx nx ndx ne => by
  have k0 : Keep [] H (upd (upd H dx (.own x)) x (.ins C dx [])) := (Keep.new ndx).mut nx
  refine ⟨x, dx, p, c, rfl, upd_same, hp, fun H' k1 f => ⟨rfl, k x H' (fun b o _ hb => ?_) nx f⟩⟩
  exact k1 b o (by simp; rintro rfl; rw [nx] at hb; cases hb) (k0 b o (by simp) hb)
section
variable {P : Program} {w : World} {K : PySem.W.Frag} {mg : Str → Option Value} {base : Heap}
theorem ok_added0 (T : Tx K mg) (G_is_quantity : FnOk P w K mg base CX0 1 T.f_is_quantity T.fd_is_quantity ["text"] spIsQ) : FnOk P w K mg base CX0 2 T.f_added_terms T.fd_added_terms ["terms"] (spAdded0 K) := by
  refine T.F_added_terms.ok sc_added_terms (fun vs H Q E h => ?_) (fun cdv A outer s H vs Q E hr h => ?_)
  · obtain ⟨a, rfl, _⟩ := h; rfl
  · obtain ⟨p, rfl, hp, q⟩ := h
    refine ⟨_, (pss_cons (ps_set (i := 1) sc_added_terms.nd rfl (Or.inr rfl) pe_dnewK)
    (pss_cons (ps_for PassesOwn.never rfl (pi_tup (pv 0)) (pg_tup (n := 2) rfl (pgs_cons (pg_name (i := 2) sc_added_terms.nd rfl (Or.inl rfl)) (pgs_cons (pg_name (i := 3) sc_added_terms.nd rfl (Or.inl rfl)) pgs_nil)))
    (pss_cons (ps_if (pt_not (pt_val (pe_call G_is_quantity (hr.mono (by decide)) rfl T.g_is_quantity T.F_is_quantity.kp T.b_is_quantity .nil pass0 (pa_cons (pv 2) pa_nil))))
    (pss_one ps_never)
    pss_nil)
    (pss_one (ps_dput (hu_of hr) (pv 1) (pv 2) (pe_op op_add (pe_dget2 (hu_of hr) (pv 1) (pv 2) pe_int ⟨rfl, rfl, rfl, rfl⟩) (pv 3)) rfl))))
    (pss_one (ps_ret (pe_callTy call_tuple_of (by rfl) T.m_tuple (by decide +kernel) (pa_cons (pe_lc (own := [("name", 2)]) (g := gName 2)  rfl sc_added_terms.nd (pi_list (pe_callB cr_sortedS (by rfl) T.m_sorted (by decide +kernel) (pa_cons (pe_callTy (call_list_dK rfl) (by rfl) T.m_list (by decide +kernel) (pa_cons (pv 1) pa_nil)) pa_nil))) (blkOk_by (own := [("name", 2)]) (N := ["terms", "sums", "name", "weight"]) (sc := defScope s_added_terms) (by decide +kernel)) (fun _ _ _ _ _ => pg_name (i := 2) sc_added_terms.nd rfl (Or.inl rfl)) (fun _ _ _ _ _ => pts_one (pt_cmpR op_ne (pe_dget (hu_of hr) (pv 1) (pv 2) (fun _ _ => rfl)) pe_int (nomark _))) (fun _ _ _ _ _ => (pe_tup (pa_cons (pv 2) (pa_cons (pe_dget (hu_of hr) (pv 1) (pv 2) (fun _ _ => rfl)) pa_nil))))) pa_nil)))))), ?_⟩
    walk_at "start"
    walk_at "sts"
    intro d hd
    have k1 : Keep [] H (upd H d (.dK [])) := Keep.new hd
    have e1 : upd H d (.dK []) d = some (.dK []) := upd_same
    generalize upd H d (.dK []) = H1 at k1 e1 ⊢
    walk_at "sts"
    refine forT_go (fun i σ' H' => i = 0 ∧ σ' = [some (.ref p), some (.ref d), none, none] ∧ H' = H1) hp.at ⟨rfl, rfl, rfl⟩ (fun i σ' H' _ h => hp.at) ?_ ?_
    · rintro i x σ' H2 hx ⟨rfl, rfl, rfl⟩
      simp at hx
    · rintro σ' H2 ⟨_, rfl, rfl⟩
      walk_at "sts"
      refine r_listD e1 fun l hl2 => ?_
      have k3 : Keep [] H2 (upd H2 l (.lst (([] : List Str).map V.str))) := Keep.new hl2
      have e3 : upd H2 l (.lst (([] : List Str).map V.str)) l = some (.lst (([] : List Str).map V.str)) := upd_same
      change (fun _ => _) _
      rw [show ([] : List (Key × V)).map (fun kv => kV kv.1) = ([] : List Str).map V.str from rfl]
      generalize upd H2 l (.lst (([] : List Str).map V.str)) = H3 at k3 e3 ⊢
      walk_at "sts"
      refine r_sortS (sqL_of e3) (by decide) fun ys l2 pm st hl3 => ?_
      have ey : ys = [] := pm.eq_nil
      subst ey
      have k4 : Keep [] H3 (upd H3 l2 (.lst (([] : List Str).map V.str))) := Keep.new hl3
      have e4 : upd H3 l2 (.lst (([] : List Str).map V.str)) l2 = some (.lst (([] : List Str).map V.str)) := upd_same
      generalize upd H3 l2 (.lst (([] : List Str).map V.str)) = H4 at k4 e4 ⊢
      have kH4 := k1.trans (k3.trans k4)
      refine lcL_go (fun D i acc H' => acc = [] ∧ i = 0 ∧ Keep [] H4 H' ∧ H4 D = none) (sqL_of e4) (fun D hD => ⟨rfl, rfl, Keep.new hD, hD⟩) (fun D i acc H' _ h => sqL_of (h.2.2.1 _ _ (by simp) e4)) ?_ ?_
      · rintro D i x acc H5 hx hD ⟨_, rfl, _⟩
        simp at hx
      · rintro D acc H5 nD hD ⟨rfl, _, k5, _⟩
        walk_at "sts"
        refine r_tupL (sqL_of hD) fun u hu => ?_
        have kH5 := kH4.trans k5
        exact q u _ (kH5.trans (Keep.new hu)) (kH5.free (by simp) hu) ⟨[], upd_same, trivial⟩
theorem ok_init0 (T : Tx K mg) (G_added_terms : FnOk P w K mg base CX0 2 T.f_added_terms T.fd_added_terms ["terms"] (spAdded0 K)) : FnOk P w K mg base CX0 3 T.f_Form___init T.fd_Form___init ["self", "terms", "constant"] (spInit0 K T.C_Form) := by
  refine T.F_Form___init.ok sc_Form___init (fun vs H Q E h => ?_) (fun cdv A outer s H vs Q E hr h => ?_)
  · obtain ⟨x, dx, p, c, rfl, _⟩ := h; rfl
  · obtain ⟨x, dx, p, c, rfl, hx, hp, q⟩ := h
    have oc := T.oc_Form
    have na := T.na_Form_terms
    have nc := T.na_Form_constant
    refine ⟨_, PSs.nox (pss_cons (ps_fld (pv 0) (pe_call G_added_terms (hr.mono (by decide)) rfl T.g_added_terms T.F_added_terms.kp T.b_added_terms .nil pass0 (pa_cons (pv 1) pa_nil)) rfl)
    (pss_one (ps_fld (pv 0) (pv 2) rfl))), ?_⟩
    walk_at "start"
    walk_at "sts"
    refine ⟨p, rfl, hp, fun t H1 k1 nt ht => ?_⟩
    have e1 := k1 _ _ (by simp) hx
    walk_at "sts"
    rw [show putF (Str.ofString "terms") (V.ref t) [] = [((Str.ofString "terms"), .ref t)] from rfl]
    walk_at "sts"
    rw [put2]
    have kx : Keep [x] H1 (upd H1 x (.ins T.C_Form dx [((Str.ofString "terms"), .ref t), ((Str.ofString "constant"), .int c)])) := Keep.at (by simp)
    rw [upd_upd]
    obtain ⟨as, et, pt⟩ := ht
    have nx : t ≠ x := by rintro rfl; rw [e1] at et; cases et
    exact q _ ((k1.mono (by simp)).trans kx) ⟨dx, t, upd_same, as, kx _ _ (by simpa using nx) et, pt.keepI kx e1⟩
end
/-! ### the law -/
def spLaw (K : PySem.W.Frag) : Sp := fun vs H Q _ => ∃ (a : Addr) (ns : List Int), vs = [.ref a] ∧ SqL K H a (ns.map V.int) ∧ ns.length ≤ 63 ∧ ∀ H', Q (.bl true) H'
theorem can_okx {xs : List Str} {k : Nat} {ts : List Fm.Tm} {c : Int} (hl : ts.length ≤ 60) (hx : xs.length ≤ 4) (h : ∀ t ∈ ts, t.1 ∈ xs ∧ t.2.natAbs < 2 ^ k) (hc : c.natAbs < 2 ^ (k + 6)) : Fm.FOk (fun z => z ∈ xs) 4 (k + 6) (Fm.can ts) c := by
  have := Fm.can_ok (N := fun z => z ∈ xs) (k := k) (ts := ts) (c := c) hl (fun p hp => (h p hp).1) (fun p hp => (h p hp).2) hc
  exact ⟨this.can, Nat.le_trans (this.can.short this.nm) hx, this.nm, this.wb, this.cb⟩
theorem r_nePairs {K : PySem.W.Frag} {H : Hp} {Q : VK} {p q : Addr} {as : List Addr} {ts : List Fm.Tm} (hp : H p = some (.lst (as.map V.ref))) (hq : H q = some (.lst (as.map V.ref))) (ht : PairsAt H as ts) (h : ∀ t ∈ ts, TextOk t.1) (k : Q (.bl false) H) : rNeD K (.ref p) (.ref q) H Q := by
  refine ⟨_, _, .lst (sqL_of hp) (dp_pairs ht), .lst (sqL_of hq) (dp_pairs ht), shaped_pairsT h, shaped_pairsT h, ?_⟩
  rw [SeqAt.eqv_refl _ (SeqAt.canLay_of_shaped (shaped_pairsT h))]
  exact k
theorem RowAt.keepM {H H' : Hp} {M : List Addr} {p : Addr} {ts : List Fm.Tm} (h : RowAt H p ts) (k : Keep M H H') (n : ∀ m ∈ M, ∃ xs, H m = some (.lst xs)) (hp : p ∉ M) : RowAt H' p ts := by
  obtain ⟨as, e, pt⟩ := h
  exact ⟨as, k _ _ hp e, pt.keep k n⟩
theorem Two.keepM {C : Addr} {H H' : Hp} {M : List Addr} {x y p q : Addr} {ts us : List Fm.Tm} {c d : Int} (h : Two C H x y p q ts us c d) (k : Keep M H H') (n : ∀ m ∈ M, ∃ xs, H m = some (.lst xs)) : Two C H' x y p q ts us c d := ⟨h.fx.keep k n, h.fy.keep k n, h.dp.keep k n, h.dq.keep k n⟩
/-- what stands while the forms are asked -/
structure CL (C a pl lq x y p q : Addr) (xs : List Str) (ts us : List Fm.Tm) (c d : Int) (n1 : pl ≠ a) (n2 : lq ≠ a) (H : Hp) : Prop where
  pot : PotAt a H
  nm : NamesAt H pl xs
  row : RowAt H lq ts
  tw : Two C H x y p q (Fm.can ts) (Fm.can us) c d
theorem CL.k {C a pl lq x y p q : Addr} {xs : List Str} {ts us : List Fm.Tm} {c d : Int} {n1 : pl ≠ a} {n2 : lq ≠ a} {H H' : Hp} (h : CL C a pl lq x y p q xs ts us c d n1 n2 H) (k : Keep [] H H') : CL C a pl lq x y p q xs ts us c d n1 n2 H' :=
  ⟨h.pot.keep0 k, k _ _ (by simp) h.nm, h.row.keep0 k, h.tw.k k⟩
theorem CL.a {C a pl lq x y p q : Addr} {xs : List Str} {ts us : List Fm.Tm} {c d : Int} {n1 : pl ≠ a} {n2 : lq ≠ a} {H H' : Hp} (h : CL C a pl lq x y p q xs ts us c d n1 n2 H) (k : Keep [a] H H') (hp : PotAt a H') : CL C a pl lq x y p q xs ts us c d n1 n2 H' :=
  ⟨hp, k _ _ (by simpa using n1) h.nm, h.row.keepM k h.pot.lst (by simpa using n2), h.tw.keepM k h.pot.lst⟩
theorem CL.h {C a pl lq x y p q lh : Addr} {xs : List Str} {ts us : List Fm.Tm} {c d : Int} {n1 : pl ≠ a} {n2 : lq ≠ a} {H H' : Hp} {zs : List V} (h : CL C a pl lq x y p q xs ts us c d n1 n2 H) (k : Keep [lh] H H') (e : H lh = some (.lst zs)) (na : lh ≠ a) (np : pl ≠ lh) (nq : lq ≠ lh) : CL C a pl lq x y p q xs ts us c d n1 n2 H' :=
  have n : ∀ m ∈ [lh], ∃ xs, H m = some (.lst xs) := fun m hm => by rw [List.mem_singleton.mp hm]; exact ⟨_, e⟩
  ⟨by obtain ⟨P, hP, hh⟩ := h.pot; exact ⟨P, k _ _ (by simpa using na.symm) hP, hh⟩, k _ _ (by simpa using np) h.nm, h.row.keepM k n (by simpa using nq), h.tw.keepM k n⟩
section
variable {w : World} {K : PySem.W.Frag} {mg : Str → Option Value} {base : Heap}
theorem ok_law (T : Tx K mg) (G_w_pot : FnOk PG w K mg base CX0 1 T.f_w_pot T.fd_w_pot ["_law_script"] (spPot K)) (G_w_pool : FnOk PG w K mg base CX0 3 T.f_w_pool T.fd_w_pool ["_law_pot_here", "_law_most"] spPool)
    (G_w_pairs : FnOk PG w K mg base CX0 3 T.f_w_pairs T.fd_w_pairs ["_law_pot_here", "_law_pool_here"] spPairs) (G_w_weight : FnOk PG w K mg base CX0 2 T.f_w_weight T.fd_w_weight ["_law_pot_here"] (spPotInt (10 ^ 30)))
    (G_w_tidy : FnOk PG w K mg base CX0 1 T.f_w_tidy T.fd_w_tidy ["_law_pairs_here", "_law_constant"] spTidy) (G_Form___init : GInit PG w K mg base T) (G_Form0 : FnOk PG w K mg base CX0 3 T.f_Form___init T.fd_Form___init ["self", "terms", "constant"] (spInit0 K T.C_Form))
    (G_w_form_is : FnOk PG w K mg base CX0 2 T.f_w_form_is T.fd_w_form_is ["_law_found", "_law_due"] (spFormIs T.C_Form)) (G_w_contents_right : FnOk PG w K mg base CX0 4 T.f_w_contents_right T.fd_w_contents_right ["_law_found", "_law_due", "_law_pool_here"] (spContents T.C_Form))
    (G_w_sums_right : FnOk PG w K mg base CX0 7 T.f_w_sums_right T.fd_w_sums_right ["_law_first", "_law_second", "_law_one", "_law_two", "_law_number"] (spSums T.C_Form)) (G_w_equal_right : FnOk PG w K mg base CX0 6 T.f_w_equal_right T.fd_w_equal_right ["_law_first", "_law_second", "_law_one", "_law_two", "_law_pairs_here", "_law_text"] (spEqual T.C_Form))
    (G_w_world : FnOk PG w K mg base CX0 4 T.f_w_world T.fd_w_world ["_law_pot_here", "_law_pool_here"] spWorld) (G_w_value_right : FnOk PG w K mg base CX0 5 T.f_w_value_right T.fd_w_value_right ["_law_found", "_law_due", "_law_world_here"] (spValR T.C_Form))
    (G_Form___sub : FnOk PG w K mg base CX0 6 T.f_Form___sub T.fd_Form___sub ["self", "other"] (spSub T.C_Form)) (G_w_added : FnOk PG w K mg base CX0 2 T.f_w_added T.fd_w_added ["_law_one", "_law_two", "_law_factor"] spDueAdd)
    (G_w_names_right : FnOk PG w K mg base CX0 6 T.f_w_names_right T.fd_w_names_right ["_law_pot_here", "_law_pool_here", "_law_pairs_here"] spNamesR) (G_w_made_right : FnOk PG w K mg base CX0 7 T.f_w_made_right T.fd_w_made_right ["_law_pot_here"] spMade) (G_w_single_right : FnOk PG w K mg base CX0 6 T.f_w_single_right T.fd_w_single_right ["_law_pot_here", "_law_pool_here"] spSingle) :
    FnOk PG w K mg base CX0 8 T.f_law T.fd_law ["_law_script"] (spLaw K) := by
  refine T.F_law.ok sc_law (fun vs H Q E h => ?_) (fun cdv A outer s H vs Q E hr h => ?_)
  · obtain ⟨a, ns, rfl, _⟩ := h; rfl
  · obtain ⟨sc, ns, rfl, hs, hn, qq⟩ := h
    refine ⟨_, (pss_cons (ps_set (i := 1) sc_law.nd rfl (Or.inl rfl) (pe_call G_w_pot (hr.mono (by decide)) rfl T.g_w_pot T.F_w_pot.kp T.b_w_pot .nil pass0 (pa_cons (pv 0) pa_nil)))
    (pss_cons (ps_set (i := 2) sc_law.nd rfl (Or.inl rfl) (pe_call G_w_pool (hr.mono (by decide)) rfl T.g_w_pool T.F_w_pool.kp T.b_w_pool .nil pass0 (pa_cons (pv 1) (pa_cons pe_int pa_nil))))
    (pss_cons (ps_set (i := 3) sc_law.nd rfl (Or.inl rfl) (pe_call G_w_pairs (hr.mono (by decide)) rfl T.g_w_pairs T.F_w_pairs.kp T.b_w_pairs .nil pass0 (pa_cons (pv 1) (pa_cons (pv 2) pa_nil))))
    (pss_cons (ps_set (i := 4) sc_law.nd rfl (Or.inl rfl) (pe_call G_w_tidy (hr.mono (by decide)) rfl T.g_w_tidy T.F_w_tidy.kp T.b_w_tidy .nil pass0 (pa_cons (pv 3) (pa_cons (pe_call G_w_weight (hr.mono (by decide)) rfl T.g_w_weight T.F_w_weight.kp T.b_w_weight .nil pass0 (pa_cons (pv 1) pa_nil)) pa_nil))))
    (pss_cons (ps_set (i := 5) sc_law.nd rfl (Or.inl rfl) (pe_call G_w_pairs (hr.mono (by decide)) rfl T.g_w_pairs T.F_w_pairs.kp T.b_w_pairs .nil pass0 (pa_cons (pv 1) (pa_cons (pv 2) pa_nil))))
    (pss_cons (ps_set (i := 6) sc_law.nd rfl (Or.inl rfl) (pe_call G_w_tidy (hr.mono (by decide)) rfl T.g_w_tidy T.F_w_tidy.kp T.b_w_tidy .nil pass0 (pa_cons (pv 5) (pa_cons (pe_call G_w_weight (hr.mono (by decide)) rfl T.g_w_weight T.F_w_weight.kp T.b_w_weight .nil pass0 (pa_cons (pv 1) pa_nil)) pa_nil))))
    (pss_cons (ps_set (i := 7) sc_law.nd rfl (Or.inl rfl) (pe_callTy call_list_of (by rfl) T.m_list (by decide +kernel) (pa_cons (pv 3) pa_nil)))
    (pss_cons (ps_set (i := 8) sc_law.nd rfl (Or.inl rfl) (pe_make T.mk_Form G_Form___init (hr.mono (by decide)) rfl T.gC_Form T.b3_Form___init.choose_spec.2 T.b3_Form___init.choose_spec.1 pass0 (pa_cons (pv 7) (pa_cons (pe_ix ix_tup (pv 4) pe_int (fun _ _ => rfl)) pa_nil))))
    (pss_cons (ps_set (i := 9) sc_law.nd rfl (Or.inl rfl) (pe_make T.mk_Form G_Form___init (hr.mono (by decide)) rfl T.gC_Form T.b3_Form___init.choose_spec.2 T.b3_Form___init.choose_spec.1 pass0 (pa_cons (pe_callTy call_tuple_of (by rfl) T.m_tuple (by decide +kernel) (pa_cons (pv 5) pa_nil)) (pa_cons (pe_ix ix_tup (pv 6) pe_int (fun _ _ => rfl)) pa_nil))))
    (pss_cons (ps_if (PW.pt (pw_or (pt_cmpR (op_neD hr.units) (pv 7) (pv 3) (nomark _)) (pw_or1 (pt_not (pt_val (pe_call G_w_form_is (hr.mono (by decide)) rfl T.g_w_form_is T.F_w_form_is.kp T.b_w_form_is .nil pass0 (pa_cons (pe_make T.mk_Form G_Form___init (hr.mono (by decide)) rfl T.gC_Form T.b2_Form___init.choose_spec.2 T.b2_Form___init.choose_spec.1 pass0 (pa_cons (pe_callTy call_list_of (by rfl) T.m_list (by decide +kernel) (pa_cons (pv 5) pa_nil)) pa_nil)) (pa_cons (pe_call G_w_tidy (hr.mono (by decide)) rfl T.g_w_tidy T.F_w_tidy.kp T.b_w_tidy .nil pass0 (pa_cons (pv 5) (pa_cons pe_int pa_nil))) pa_nil))))))))
    (pss_one (ps_ret pe_bl))
    pss_nil)
    (pss_cons (ps_if (pt_not (pt_val (pe_call G_w_form_is (hr.mono (by decide)) rfl T.g_w_form_is T.F_w_form_is.kp T.b_w_form_is .nil pass0 (pa_cons (pe_make0 T.mk_Form G_Form0 (hr.mono (by decide)) rfl T.gC_Form T.b1_Form___init.choose_spec.2 T.b1_Form___init.choose_spec.1 pass0) (pa_cons (pe_tup (pa_cons (pe_tup pa_nil) (pa_cons pe_int pa_nil))) pa_nil)))))
    (pss_one (ps_ret pe_bl))
    pss_nil)
    (pss_cons (ps_expr (pe_bm PySem.F.plainAttrs_list PySem.F.slot_list_append PySem.F.type_list_append mt_append (pv 7) (pa_cons (pe_tup (pa_cons (pe_ix ix_list (pv 2) pe_int (fun _ _ => rfl)) (pa_cons pe_int pa_nil))) pa_nil)))
    (pss_cons (ps_asg (pe_tup (pa_cons pe_str (pa_cons pe_int pa_nil))) (pg_sub (pv 7) pe_int set_list))
    (pss_cons (ps_set (i := 10) sc_law.nd rfl (Or.inl rfl) (pe_call G_w_weight (hr.mono (by decide)) rfl T.g_w_weight T.F_w_weight.kp T.b_w_weight .nil pass0 (pa_cons (pv 1) pa_nil)))
    (pss_cons (ps_if (PW.pt (pw_or (pt_not (pt_val (pe_call G_w_contents_right (hr.mono (by decide)) rfl T.g_w_contents_right T.F_w_contents_right.kp T.b_w_contents_right .nil pass0 (pa_cons (pv 8) (pa_cons (pv 4) (pa_cons (pv 2) pa_nil)))))) (pw_or1 (pt_not (pt_val (pe_call G_w_contents_right (hr.mono (by decide)) rfl T.g_w_contents_right T.F_w_contents_right.kp T.b_w_contents_right .nil pass0 (pa_cons (pv 9) (pa_cons (pv 6) (pa_cons (pv 2) pa_nil)))))))))
    (pss_one (ps_ret pe_bl))
    pss_nil)
    (pss_cons (ps_if (pt_not (pt_val (pe_call G_w_sums_right (hr.mono (by decide)) rfl T.g_w_sums_right T.F_w_sums_right.kp T.b_w_sums_right .nil pass0 (pa_cons (pv 8) (pa_cons (pv 9) (pa_cons (pv 4) (pa_cons (pv 6) (pa_cons (pv 10) pa_nil))))))))
    (pss_one (ps_ret pe_bl))
    pss_nil)
    (pss_cons (ps_if (pt_not (pt_val (pe_call G_w_equal_right (hr.mono (by decide)) rfl T.g_w_equal_right T.F_w_equal_right.kp T.b_w_equal_right .nil pass0 (pa_cons (pv 8) (pa_cons (pv 9) (pa_cons (pv 4) (pa_cons (pv 6) (pa_cons (pv 3) (pa_cons (pe_ix ix_list (pv 2) pe_int (fun _ _ => rfl)) pa_nil)))))))))
    (pss_one (ps_ret pe_bl))
    pss_nil)
    (pss_cons (ps_set (i := 11) sc_law.nd rfl (Or.inl rfl) (pe_call G_w_world (hr.mono (by decide)) rfl T.g_w_world T.F_w_world.kp T.b_w_world .nil pass0 (pa_cons (pv 1) (pa_cons (pv 2) pa_nil))))
    (pss_cons (ps_if (PW.pt (pw_or (pt_not (pt_val (pe_call G_w_value_right (hr.mono (by decide)) rfl T.g_w_value_right T.F_w_value_right.kp T.b_w_value_right .nil pass0 (pa_cons (pv 8) (pa_cons (pv 4) (pa_cons (pv 11) pa_nil)))))) (pw_or1 (pt_not (pt_val (pe_call G_w_value_right (hr.mono (by decide)) rfl T.g_w_value_right T.F_w_value_right.kp T.b_w_value_right .nil pass0 (pa_cons (pv 9) (pa_cons (pv 6) (pa_cons (pv 11) pa_nil)))))))))
    (pss_one (ps_ret pe_bl))
    pss_nil)
    (pss_cons (ps_if (pt_not (pt_val (pe_call G_w_value_right (hr.mono (by decide)) rfl T.g_w_value_right T.F_w_value_right.kp T.b_w_value_right .nil pass0 (pa_cons (pe_op (Ow.op_own2 T.oc_Form.sf T.me_Form___sub (G_Form___sub.raw T.b_Form___sub .nil) (hr.mono (by decide)) pass0) (pv 8) (pv 9)) (pa_cons (pe_call G_w_added (hr.mono (by decide)) rfl T.g_w_added T.F_w_added.kp T.b_w_added .nil pass0 (pa_cons (pv 4) (pa_cons (pv 6) (pa_cons (pe_un un_neg pe_int) pa_nil)))) (pa_cons (pv 11) pa_nil))))))
    (pss_one (ps_ret pe_bl))
    pss_nil)
    (pss_cons (ps_if (PW.pt (pw_or (pt_not (pt_val (pe_call G_w_names_right (hr.mono (by decide)) rfl T.g_w_names_right T.F_w_names_right.kp T.b_w_names_right .nil pass0 (pa_cons (pv 1) (pa_cons (pv 2) (pa_cons (pv 3) pa_nil)))))) (pw_or (pt_not (pt_val (pe_call G_w_made_right (hr.mono (by decide)) rfl T.g_w_made_right T.F_w_made_right.kp T.b_w_made_right .nil pass0 (pa_cons (pv 1) pa_nil)))) (pw_or1 (pt_not (pt_val (pe_call G_w_single_right (hr.mono (by decide)) rfl T.g_w_single_right T.F_w_single_right.kp T.b_w_single_right .nil pass0 (pa_cons (pv 1) (pa_cons (pv 2) pa_nil)))))))))
    (pss_one (ps_ret pe_bl))
    pss_nil)
    (pss_one (ps_ret (pe_and (pe_call G_w_contents_right (hr.mono (by decide)) rfl T.g_w_contents_right T.F_w_contents_right.kp T.b_w_contents_right .nil pass0 (pa_cons (pv 8) (pa_cons (pv 4) (pa_cons (pv 2) pa_nil)))) (pe_one (pe_call G_w_contents_right (hr.mono (by decide)) rfl T.g_w_contents_right T.F_w_contents_right.kp T.b_w_contents_right .nil pass0 (pa_cons (pv 9) (pa_cons (pv 6) (pa_cons (pv 2) pa_nil))))))))))))))))))))))))))))), ?_⟩
    walk_at "start"
    walk_at "sts"
    refine ⟨sc, ns, rfl, hs, hn, fun a H1 k1 na p1 => ?_⟩
    clear k1
    walk_at "sts"
    refine ⟨a, 4, rfl, p1, by omega, by omega, fun pl xs H2 x0 x4 hq hnd k2 p2 npl en => ?_⟩
    have n1 : pl ≠ a := p1.ne npl
    clear k2
    walk_at "sts"
    refine ⟨a, pl, xs, rfl, p2, en, x0, by omega, hq, fun lq ts H3 l8 hts k3 p3 nlq row => ?_⟩
    have n2 : lq ≠ a := p2.ne nlq
    have en3 : NamesAt H3 pl xs := k3 _ _ (by simpa using n1) en
    clear k3 p2 p1 en
    walk_at "sts"
    refine r_potIntW p3 fun c H4 bc k4 p4 => ?_
    have en4 : NamesAt H4 pl xs := k4 _ _ (by simpa using n1) en3
    have row4 := row.keepM k4 p3.lst (by simpa using n2)
    clear k4 p3 row en3
    walk_at "sts"
    refine ⟨lq, ts, c, rfl, row4, by omega, fun p H5 k5 np due1 => ?_⟩
    have en5 : NamesAt H5 pl xs := k5 _ _ (by simp) en4
    have row5 := row4.keep0 k5
    have p5 := p4.keep0 k5
    clear k5 p4 en4 row4
    walk_at "sts"
    refine ⟨a, pl, xs, rfl, p5, en5, x0, by omega, hq, fun lm us H6 l8' hus k6 p6 nlm row2 => ?_⟩
    have n3 : lm ≠ a := p5.ne nlm
    have en6 : NamesAt H6 pl xs := k6 _ _ (by simpa using n1) en5
    have row6 := row5.keepM k6 p5.lst (by simpa using n2)
    have due6 := due1.keep k6 p5.lst
    clear k6 p5 row5 en5 due1
    walk_at "sts"
    refine r_potIntW p6 fun d H7 bd k7 p7 => ?_
    have en7 : NamesAt H7 pl xs := k7 _ _ (by simpa using n1) en6
    have row7 := row6.keepM k7 p6.lst (by simpa using n2)
    have rom7 := row2.keepM k7 p6.lst (by simpa using n3)
    have due7 := due6.keep k7 p6.lst
    clear k7 p6 row6 en6 due6 row2
    walk_at "sts"
    refine ⟨lm, us, d, rfl, rom7, by omega, fun q H8 k8 nq dueq => ?_⟩
    have en8 : NamesAt H8 pl xs := k8 _ _ (by simp) en7
    have row8 := row7.keep0 k8
    have rom8 := rom7.keep0 k8
    have duep := due7.keep0 k8
    have p8 := p7.keep0 k8
    clear k8 p7 row7 en7 due7 rom7
    have ht1 : ∀ t ∈ ts, IsQ t.1 := fun t h => hq _ (hts t h).1
    have hu1 : ∀ t ∈ us, IsQ t.1 := fun t h => hq _ (hus t h).1
    have F1 : Fm.FOk (fun z => z ∈ xs) 4 106 (Fm.can ts) c := can_okx (by omega) (by omega) hts (Nat.lt_of_lt_of_le bc (by decide))
    have F2 : Fm.FOk (fun z => z ∈ xs) 4 106 (Fm.can us) d := can_okx (by omega) (by omega) hus (Nat.lt_of_lt_of_le bd (by decide))
    obtain ⟨as, eas, pas⟩ := id row8
    have las : as.length ≤ 8 := by have := pas.len; omega
    walk_at "sts"
    intro lh hlh
    have c9 : Keep [] H8 (upd H8 lh (.lst (as.map V.ref))) := Keep.new hlh
    have elh : upd H8 lh (.lst (as.map V.ref)) lh = some (.lst (as.map V.ref)) := upd_same
    have nla : lh ≠ a := p8.ne hlh
    have nlp : pl ≠ lh := by rintro rfl; rw [show H8 pl = some (.lst (xs.map V.str)) from en8] at hlh; cases hlh
    have nlq' : lq ≠ lh := by rintro rfl; rw [eas] at hlh; cases hlh
    generalize upd H8 lh (.lst (as.map V.ref)) = H9 at c9 elh ⊢
    have en9 : NamesAt H9 pl xs := c9 _ _ (by simp) en8
    have eas9 := c9 _ _ (by simp) eas
    have pas9 := pas.keep0 c9
    have rom9 := rom8.keep0 c9
    have duep9 := duep.keep0 c9
    have dueq9 := dueq.keep0 c9
    have p9 := p8.keep0 c9
    clear row8 en8 eas pas rom8 duep dueq p8 c9 hlh
    obtain ⟨tp, etp, _⟩ := id duep9
    walk_at "sts"
    refine r_newForm (.inl ⟨as, elh, pas9⟩) (by omega) ht1 fun x H10 k10 nx fx => ?_
    have en10 : NamesAt H10 pl xs := k10 _ _ (by simp) en9
    have eas10 := k10 _ _ (by simp) eas9
    have elh10 := k10 _ _ (by simp) elh
    have pas10 := pas9.keep0 k10
    have rom10 := rom9.keep0 k10
    have duep10 := duep9.keep0 k10
    have dueq10 := dueq9.keep0 k10
    have p10 := p9.keep0 k10
    clear en9 eas9 elh pas9 rom9 duep9 dueq9 p9 k10 etp
    obtain ⟨tq, etq, _⟩ := id dueq10
    obtain ⟨bs, ebs, pbs⟩ := id rom10
    walk_at "sts"
    refine r_tupL (sqL_of ebs) fun u hu => ?_
    have c11 : Keep [] H10 (upd H10 u (.tup (bs.map V.ref))) := Keep.new hu
    have eu : upd H10 u (.tup (bs.map V.ref)) u = some (.tup (bs.map V.ref)) := upd_same
    generalize upd H10 u (.tup (bs.map V.ref)) = H11 at c11 eu ⊢
    have etq' := c11 _ _ (by simp) etq
    walk_at "sts"
    refine r_newForm (.inr ⟨bs, eu, pbs.keep0 c11⟩) (by omega) hu1 fun y H12 k12 ny fy => ?_
    have k1012 := c11.trans k12
    have cl : CL T.C_Form a pl lq x y p q xs ts us c d n1 n2 H12 := ⟨p10.keep0 k1012, k1012 _ _ (by simp) en10, ⟨as, k1012 _ _ (by simp) eas10, pas10.keep0 k1012⟩, fx.keep0 k1012, fy, duep10.keep0 k1012, dueq10.keep0 k1012⟩
    have eas12 := k1012 _ _ (by simp) eas10
    have elh12 := k1012 _ _ (by simp) elh10
    have pas12 := pas10.keep0 k1012
    have ebs12 := k1012 _ _ (by simp) ebs
    have pbs12 := pbs.keep0 k1012
    clear en10 eas10 elh10 pas10 rom10 duep10 dueq10 p10 c11 k12 etq etq' ebs pbs fx fy eu hu k1012
    walk_at "sts"
    refine r_nePairs elh12 eas12 pas12 (fun t h => (ht1 t h).text) ?_
    walk_at "sts"
    intro l13 hl13
    have c13 : Keep [] H12 (upd H12 l13 (.lst (bs.map V.ref))) := Keep.new hl13
    have e13 : upd H12 l13 (.lst (bs.map V.ref)) l13 = some (.lst (bs.map V.ref)) := upd_same
    generalize upd H12 l13 (.lst (bs.map V.ref)) = H13 at c13 e13 ⊢
    walk_at "sts"
    refine r_newForm (.inl ⟨bs, e13, pbs12.keep0 c13⟩) (by omega) hu1 fun z H14 k14 nz fz => ?_
    have k1214 := c13.trans k14
    walk_at "sts"
    refine ⟨lm, us, 0, rfl, ⟨bs, k1214 _ _ (by simp) ebs12, pbs12.keep0 k1214⟩, by omega, fun r H15 k15 nr duer => ?_⟩
    walk_at "sts"
    refine ⟨z, r, _, 0, rfl, fz.keep0 k15, duer, can_le (by omega), ?_⟩
    have k1215 := k1214.trans k15
    have cl15 := cl.k k1215
    have elh15 := k1215 _ _ (by simp) elh12
    clear cl eas12 elh12 pas12 ebs12 pbs12 c13 e13 k14 fz k1214 duer k15 k1215 hl13 nz nr
    walk_at "sts"
    refine r_newForm0 T.te_Form___init fun z2 H16 k16 nz2 fz2 => ?_
    walk_at "sts"
    intro e0 he0
    have c17 : Keep [] H16 (upd H16 e0 (.tup [])) := Keep.new he0
    have ee0 : upd H16 e0 (.tup []) e0 = some (.tup (([] : List Addr).map V.ref)) := upd_same
    generalize upd H16 e0 (.tup []) = H17 at c17 ee0 ⊢
    walk_at "sts"
    intro e1 he1
    have c18 : Keep [] H17 (upd H17 e1 (.tup [.ref e0, .int 0])) := Keep.new he1
    have ee1 : upd H17 e1 (.tup [.ref e0, .int 0]) e1 = some (.tup [.ref e0, .int 0]) := upd_same
    generalize upd H17 e1 (.tup [.ref e0, .int 0]) = H18 at c18 ee1 ⊢
    have k1618 := c17.trans c18
    refine ⟨z2, e1, [], 0, rfl, fz2.keep0 k1618, ⟨e0, ee1, [], c18 _ _ (by simp) ee0, trivial⟩, by decide, ?_⟩
    have k1518 := k16.trans k1618
    have cl18 := cl15.k k1518
    have elh18 := k1518 _ _ (by simp) elh15
    clear cl15 elh15 k16 c17 ee0 c18 ee1 k1618 k1518 fz2 nz2 he0 he1
    obtain ⟨nm0, hnm0, mnm0⟩ := atI_strs (xs := xs) (i := 0) (by omega) (by omega)
    have en18 : H18 pl = some (.lst (xs.map V.str)) := cl18.nm
    walk_at "sts"
    intro q7 hq7
    have c19 : Keep [] H18 (upd H18 q7 (.tup [.str nm0, .int 7])) := Keep.new hq7
    generalize upd H18 q7 (.tup [.str nm0, .int 7]) = H19 at c19 ⊢
    have elh19 := c19 _ _ (by simp) elh18
    have cl19 := cl18.k c19
    clear cl18 c19 elh18 en18 hq7
    walk_at "sts"
    have cl20 : CL T.C_Form a pl lq x y p q xs ts us c d n1 n2 (upd H19 lh (.lst (as.map V.ref ++ [.ref q7]))) := cl19.h (Keep.at (by simp)) elh19 nla nlp nlq'
    have elh20 : upd H19 lh (.lst (as.map V.ref ++ [.ref q7])) lh = some (.lst (as.map V.ref ++ [.ref q7])) := upd_same
    generalize upd H19 lh (.lst (as.map V.ref ++ [.ref q7])) = H20 at cl20 elh20 ⊢
    intro q8 hq8
    have c21 : Keep [] H20 (upd H20 q8 (.tup [.str "zz", .int 1])) := Keep.new hq8
    generalize upd H20 q8 (.tup [.str "zz", .int 1]) = H21 at c21 ⊢
    have elh21 := c21 _ _ (by simp) elh20
    have cl21 := cl20.k c21
    clear cl19 elh19 cl20 elh20 c21 hq8
    walk_at "sts"
    refine r_setL (j := 0) elh21 (ixN_nn (j := 0) (by rw [List.length_append, List.length_singleton]; omega)) ?_
    have cl22 : CL T.C_Form a pl lq x y p q xs ts us c d n1 n2 (upd H21 lh (.lst ((as.map V.ref ++ [V.ref q7]).set 0 (V.ref q8)))) := cl21.h (Keep.at (by simp)) elh21 nla nlp nlq'
    generalize upd H21 lh (.lst ((as.map V.ref ++ [V.ref q7]).set 0 (V.ref q8))) = H22 at cl22 ⊢
    clear cl21 elh21
    walk_at "sts"
    refine r_potIntW cl22.pot fun n H23 bn k23 p23 => ?_
    have cl23 := cl22.a k23 p23
    clear cl22 k23 p23
    have w1 : ∀ t ∈ Fm.can ts, t.2.natAbs < 2 ^ 1500 := fun t h => Fm.pow_le (F1.wb t h) (by decide)
    have w2 : ∀ t ∈ Fm.can us, t.2.natAbs < 2 ^ 1500 := fun t h => Fm.pow_le (F2.wb t h) (by decide)
    have c15 : c.natAbs < 2 ^ 1500 := Fm.pow_le F1.cb (by decide)
    have d15 : d.natAbs < 2 ^ 1500 := Fm.pow_le F2.cb (by decide)
    have sm : Small (Fm.can ts) (Fm.can us) c d := ⟨can_le (by omega), can_le (by omega), can_names ht1, can_names hu1, w1, w2, c15, d15⟩
    walk_at "sts"
    refine ⟨x, p, pl, _, c, xs, rfl, cl23.tw.fx, cl23.tw.dp, Fm.can_canon _, can_le (by omega), can_names ht1, cl23.nm, fun H24 k24 => ?_⟩
    have cl24 := cl23.k k24
    clear cl23 k24
    walk_at "sts"
    refine ⟨y, q, pl, _, d, xs, rfl, cl24.tw.fy, cl24.tw.dq, Fm.can_canon _, can_le (by omega), can_names hu1, cl24.nm, fun H25 k25 => ?_⟩
    have cl25 := cl24.k k25
    clear cl24 k25
    walk_at "sts"
    refine ⟨x, y, p, q, _, _, c, d, n, rfl, cl25.tw, sm, Nat.lt_of_lt_of_le bn (by decide +kernel), fun H26 k26 => ?_⟩
    have cl26 := cl25.k k26
    clear cl25 k26
    walk_at "sts"
    refine r_ixL (sqL_of cl26.nm) hnm0 ?_
    walk_at "sts"
    refine ⟨x, y, p, q, lq, ts, _, c, d, nm0, rfl, cl26.tw, sm, cl26.row, by omega, ht1, hq _ mnm0, fun H27 k27 => ?_⟩
    have cl27 := cl26.k k27
    clear cl26 k27
    walk_at "sts"
    refine ⟨a, pl, xs, rfl, cl27.pot, cl27.nm, by omega, hnd, fun m zs W H28 k28 p28 nmm hw hz lz => ?_⟩
    have cl28 := cl27.a k28 p28
    clear cl27 k28 p28
    walk_at "sts"
    refine ⟨x, p, m, _, c, zs, W, rfl, cl28.tw.fx, cl28.tw.dp, hw, Nat.le_trans F1.len (by decide), fun t h => ⟨hq _ (F1.nm t h), Fm.pow_le (F1.wb t h) (by decide)⟩, Fm.pow_le F1.cb (by decide), fun H29 k29 => ?_⟩
    have cl29 := cl28.k k29
    have hw29 := hw.keep k29 (by simp)
    clear cl28 k29 hw
    walk_at "sts"
    refine ⟨y, q, m, _, d, zs, W, rfl, cl29.tw.fy, cl29.tw.dq, hw29, Nat.le_trans F2.len (by decide), fun t h => ⟨hq _ (F2.nm t h), Fm.pow_le (F2.wb t h) (by decide)⟩, Fm.pow_le F2.cb (by decide), fun H30 k30 => ?_⟩
    have cl30 := cl29.k k30
    have hw30 := hw29.keep k30 (by simp)
    clear cl29 k30 hw29
    walk_at "sts"
    have hts2 : ∀ t ∈ Fm.can ts ++ Fm.scl (-1) (Fm.can us), t.1 ∈ xs ∧ t.2.natAbs < 2 ^ 106 := fun t h => by
      rcases List.mem_append.mp h with h | h
      · exact ⟨F1.nm t h, F1.wb t h⟩
      · obtain ⟨u, hu, rfl⟩ := List.mem_map.mp h
        exact ⟨F2.nm u hu, by have := F2.wb u hu; show (-1 * u.2).natAbs < _; rw [Int.neg_one_mul, Int.natAbs_neg]; exact this⟩
    have lts2 : (Fm.can ts ++ Fm.scl (-1) (Fm.can us)).length ≤ 60 := by
      have e1 := F1.len
      have e2 := F2.len
      rw [List.length_append, show (Fm.scl (-1) (Fm.can us)).length = (Fm.can us).length from List.length_map _]; omega
    have F3 : Fm.FOk (fun z => z ∈ xs) 4 112 (Fm.can (Fm.can ts ++ Fm.scl (-1) (Fm.can us))) (c - d) := can_okx lts2 (by omega) hts2 (by
      have e1 : c.natAbs < 2 ^ 106 := F1.cb
      have e2 : d.natAbs < 2 ^ 106 := F2.cb
      have e3 : (2 : Nat) ^ 112 = 64 * 2 ^ 106 := by decide
      rw [show 106 + 6 = 112 from rfl, e3]
      omega)
    refine r_sub2 cl30.tw.fx cl30.tw.fy (by have := F1.len; have := F2.len; omega) (can_names ht1) (can_names hu1) w2 d15 fun z3 H31 k31 nz3 f3 => ?_
    have cl31 := cl30.k k31
    have hw31 := hw30.keep k31 (by simp)
    clear cl30 k31 hw30
    walk_at "sts"
    refine ⟨p, q, _, _, c, d, -1, rfl, cl31.tw.dp, cl31.tw.dq, by have := F1.len; have := F2.len; omega, w2, d15, by decide, fun r H32 k32 nr due => ?_⟩
    rw [show c + -1 * d = c - d by omega] at due
    have cl32 := cl31.k k32
    have hw32 := hw31.keep k32 (by simp)
    have f32 := f3.keep0 k32
    clear cl31 k32 hw31 f3
    walk_at "sts"
    refine ⟨z3, r, m, _, c - d, zs, W, rfl, f32, due, hw32, Nat.le_trans F3.len (by decide), fun t h => ⟨hq _ (F3.nm t h), Fm.pow_le (F3.wb t h) (by decide)⟩, Fm.pow_le F3.cb (by decide), fun H33 k33 => ?_⟩
    have cl33 := cl32.k k33
    clear cl32 k33 f32 due hw32
    walk_at "sts"
    refine ⟨a, pl, lq, xs, ts, rfl, cl33.pot, cl33.nm, cl33.row, x0, by omega, hq, l8, ht1, fun H34 k34 p34 => ?_⟩
    have cl34 := cl33.a k34 p34
    clear cl33 k34 p34
    walk_at "sts"
    refine ⟨a, rfl, cl34.pot, fun H35 k35 p35 => ?_⟩
    have cl35 := cl34.a k35 p35
    clear cl34 k35 p35
    walk_at "sts"
    refine ⟨a, pl, xs, rfl, cl35.pot, cl35.nm, x0, by omega, hq, fun H36 k36 p36 => ?_⟩
    have cl36 := cl35.a k36 p36
    clear cl35 k36 p36
    walk_at "sts"
    refine ⟨x, p, pl, _, c, xs, rfl, cl36.tw.fx, cl36.tw.dp, Fm.can_canon _, can_le (by omega), can_names ht1, cl36.nm, fun H37 k37 => ?_⟩
    have cl37 := cl36.k k37
    walk_at "sts"
    refine ⟨y, q, pl, _, d, xs, rfl, cl37.tw.fy, cl37.tw.dq, Fm.can_canon _, can_le (by omega), can_names hu1, cl37.nm, fun H38 k38 => ?_⟩
    walk_at "sts"
    exact qq _
end
/-! ### the end -/
theorem law_of {w : World} {K : PySem.W.Frag} {mg : Str → Option Value} {base : Heap} (T : Tx K mg) : FnOk PG w K mg base CX0 8 T.f_law T.fd_law ["_law_script"] (spLaw K) := by
  have gt := ok_take (w := w) (base := base) (P := PG) T
  have gn := ok_name T gt
  have gw := ok_weight T gt
  have glo := ok_lowest (w := w) (base := base) (P := PG) T
  have gl := ok_level T gt gw glo
  have gq := ok_isQ (w := w) (base := base) (P := PG) T
  have gi := ok_init T (ok_added T gq)
  have gi0 := ok_init0 T (ok_added0 T gq)
  have ga := ok_add T gi
  have gm := ok_mul T gi
  have gs := ok_sub T ga gm
  have gai := ok_addI T gi
  have gf := ok_str T (ok_wform T (ok_term (w := w) (base := base) (P := PG) T))
  have gr := ok_ratio (w := w) (base := base) (P := PG) T
  have gnm := ok_names (w := w) (base := base) (P := PG) T
  have gvx := ok_valX T (ok_needX (w := w) (base := base) T) gnm (ok_plus T gr) (ok_times T gr)
  have gti := ok_tidy (w := w) (base := base) (P := PG) T
  have gda := ok_dueAdd T gti
  have gwh := ok_whole (w := w) (base := base) (P := PG) T
  have gfi := ok_formIs T gwh
  have gwo := ok_weightOf (w := w) (base := base) (P := PG) T
  have gco := ok_contents T gfi (ok_len (w := w) (base := base) (P := PG) T) gnm (ok_has T gwo) (ok_get T gwo) gwh
  have gsu := ok_sums T gfi gti gda ga gm gs (ok_neg T gm) (ok_rmul T gm) gai (ok_radd T gai) (ok_subI T gai) (ok_rsub T gai gm)
  have geq := ok_equal T gi (ok_eqA (w := w) (base := base) (P := PG) T) gf
  have gle := ok_letters (w := w) (base := base) (P := PG) T
  have gqg := ok_isQG (w := w) (base := base) (P := PG) T
  have gix := ok_initFX T (ok_addedX T gqg)
  have gvr := ok_valR T gvx (ok_valL T glo) (ok_pairIs T gwh)
  have gna := ok_namesR T gt (ok_near T gt) gqg (ok_isWG (w := w) (base := base) (P := PG) T) (ok_lgood T gle) (ok_lword T gle) gix gfi gti
  have gkr := ok_kwRef T (ok_makeX T gix (by decide +kernel) (by decide) kwb_1) (ok_makeX T gix (by decide +kernel) (by decide) kwb_2) (ok_makeX T gix (by decide +kernel) (by decide) kwb_3)
  have gma := ok_made T gw (ok_make0 T gi) (ok_make T gi (by decide +kernel) (by decide) kwb_4) (ok_make T gi (by decide +kernel) (by decide) kwb_5) gfi gti gkr
  have gsi := ok_single T gt (ok_one T gi) (ok_gap T gi) gti gco
  exact ok_law T (ok_pot (w := w) (base := base) (P := PG) T) (ok_pool T gt gn) (ok_pairs T gt gw) gw gti gi gi0 gfi gco gsu geq (ok_world T gt gl) gvr gs gda gna gma gsi
theorem all_mk {w : World} {K : PySem.W.Frag} {h : Heap} {mg : Str → Option Value} {fa : Addr} (X : K.In h) (G : h.Ns mainGlobals mg) (hfa : mg "law" = some (.ref fa))
    {C_Form : Addr} {f0 : Addr} {od0 an0 : Option Addr} {sl0 : Array (Option Value)} {oc0 kV0 dc0 pm0 cd0 ct0 : Value} {T0 : Addr} {ocT0 : Value} {odT0 : Option Addr} {nT0 : Nat} {slT0 : Array (Option Value)} {tT0_0 : Tok} {f1 : Addr} {od1 an1 : Option Addr} {sl1 : Array (Option Value)} {oc1 kV1 dc1 pm1 cd1 ct1 : Value} {f2 : Addr} {od2 an2 : Option Addr} {sl2 : Array (Option Value)} {oc2 kV2 dc2 pm2 cd2 ct2 : Value} {f3 : Addr} {od3 an3 : Option Addr} {sl3 : Array (Option Value)} {oc3 kV3 dc3 pm3 cd3 ct3 : Value} {f4 : Addr} {od4 an4 : Option Addr} {sl4 : Array (Option Value)} {oc4 kV4 dc4 pm4 cd4 ct4 : Value} {f5 : Addr} {od5 an5 : Option Addr} {sl5 : Array (Option Value)} {oc5 kV5 dc5 pm5 cd5 ct5 : Value} {f6 : Addr} {od6 an6 : Option Addr} {sl6 : Array (Option Value)} {oc6 kV6 dc6 pm6 cd6 ct6 : Value} {f7 : Addr} {od7 an7 : Option Addr} {sl7 : Array (Option Value)} {oc7 kV7 dc7 pm7 cd7 ct7 : Value} {f8 : Addr} {od8 an8 : Option Addr} {sl8 : Array (Option Value)} {oc8 kV8 dc8 pm8 cd8 ct8 : Value} {eT9 : Addr} {oeT9 : Option Addr} {neT9 : Nat} {seT9 : Array (Option Value)} {f9 : Addr} {od9 an9 : Option Addr} {sl9 : Array (Option Value)} {oc9 kV9 dc9 pm9 cd9 ct9 : Value} {T9 : Addr} {ocT9 : Value} {odT9 : Option Addr} {nT9 : Nat} {slT9 : Array (Option Value)} {tT9_1 : Tok} {f10 : Addr} {od10 an10 : Option Addr} {sl10 : Array (Option Value)} {oc10 kV10 dc10 pm10 cd10 ct10 : Value} {f11 : Addr} {od11 an11 : Option Addr} {sl11 : Array (Option Value)} {oc11 kV11 dc11 pm11 cd11 ct11 : Value} {f12 : Addr} {od12 an12 : Option Addr} {sl12 : Array (Option Value)} {oc12 kV12 dc12 pm12 cd12 ct12 : Value} {f13 : Addr} {od13 an13 : Option Addr} {sl13 : Array (Option Value)} {oc13 kV13 dc13 pm13 cd13 ct13 : Value} {f14 : Addr} {od14 an14 : Option Addr} {sl14 : Array (Option Value)} {oc14 kV14 dc14 pm14 cd14 ct14 : Value} {f15 : Addr} {od15 an15 : Option Addr} {sl15 : Array (Option Value)} {oc15 kV15 dc15 pm15 cd15 ct15 : Value} {f16 : Addr} {od16 an16 : Option Addr} {sl16 : Array (Option Value)} {oc16 kV16 dc16 pm16 cd16 ct16 : Value} {f17 : Addr} {od17 an17 : Option Addr} {sl17 : Array (Option Value)} {oc17 kV17 dc17 pm17 cd17 ct17 : Value} {f18 : Addr} {od18 an18 : Option Addr} {sl18 : Array (Option Value)} {oc18 kV18 dc18 pm18 cd18 ct18 : Value} {f19 : Addr} {od19 an19 : Option Addr} {sl19 : Array (Option Value)} {oc19 kV19 dc19 pm19 cd19 ct19 : Value} {f20 : Addr} {od20 an20 : Option Addr} {sl20 : Array (Option Value)} {oc20 kV20 dc20 pm20 cd20 ct20 : Value} {f21 : Addr} {od21 an21 : Option Addr} {sl21 : Array (Option Value)} {oc21 kV21 dc21 pm21 cd21 ct21 : Value} {f22 : Addr} {od22 an22 : Option Addr} {sl22 : Array (Option Value)} {oc22 kV22 dc22 pm22 cd22 ct22 : Value} {f23 : Addr} {od23 an23 : Option Addr} {sl23 : Array (Option Value)} {oc23 kV23 dc23 pm23 cd23 ct23 : Value} {f24 : Addr} {od24 an24 : Option Addr} {sl24 : Array (Option Value)} {oc24 kV24 dc24 pm24 cd24 ct24 : Value} {f25 : Addr} {od25 an25 : Option Addr} {sl25 : Array (Option Value)} {oc25 kV25 dc25 pm25 cd25 ct25 : Value} {f26 : Addr} {od26 an26 : Option Addr} {sl26 : Array (Option Value)} {oc26 kV26 dc26 pm26 cd26 ct26 : Value} {f27 : Addr} {od27 an27 : Option Addr} {sl27 : Array (Option Value)} {oc27 kV27 dc27 pm27 cd27 ct27 : Value} {f28 : Addr} {od28 an28 : Option Addr} {sl28 : Array (Option Value)} {oc28 kV28 dc28 pm28 cd28 ct28 : Value} {f29 : Addr} {od29 an29 : Option Addr} {sl29 : Array (Option Value)} {oc29 kV29 dc29 pm29 cd29 ct29 : Value} {f30 : Addr} {od30 an30 : Option Addr} {sl30 : Array (Option Value)} {oc30 kV30 dc30 pm30 cd30 ct30 : Value} {f31 : Addr} {od31 an31 : Option Addr} {sl31 : Array (Option Value)} {oc31 kV31 dc31 pm31 cd31 ct31 : Value} {f32 : Addr} {od32 an32 : Option Addr} {sl32 : Array (Option Value)} {oc32 kV32 dc32 pm32 cd32 ct32 : Value} {f33 : Addr} {od33 an33 : Option Addr} {sl33 : Array (Option Value)} {oc33 kV33 dc33 pm33 cd33 ct33 : Value} {f34 : Addr} {od34 an34 : Option Addr} {sl34 : Array (Option Value)} {oc34 kV34 dc34 pm34 cd34 ct34 : Value} {ps34 : Addr} {rs34 : List Value} {f35 : Addr} {od35 an35 : Option Addr} {sl35 : Array (Option Value)} {oc35 kV35 dc35 pm35 cd35 ct35 : Value} {ps35 : Addr} {rs35 : List Value} {f36 : Addr} {od36 an36 : Option Addr} {sl36 : Array (Option Value)} {oc36 kV36 dc36 pm36 cd36 ct36 : Value} {f37 : Addr} {od37 an37 : Option Addr} {sl37 : Array (Option Value)} {oc37 kV37 dc37 pm37 cd37 ct37 : Value} {f38 : Addr} {od38 an38 : Option Addr} {sl38 : Array (Option Value)} {oc38 kV38 dc38 pm38 cd38 ct38 : Value} {f39 : Addr} {od39 an39 : Option Addr} {sl39 : Array (Option Value)} {oc39 kV39 dc39 pm39 cd39 ct39 : Value} {f40 : Addr} {od40 an40 : Option Addr} {sl40 : Array (Option Value)} {oc40 kV40 dc40 pm40 cd40 ct40 : Value} {f41 : Addr} {od41 an41 : Option Addr} {sl41 : Array (Option Value)} {oc41 kV41 dc41 pm41 cd41 ct41 : Value} {f42 : Addr} {od42 an42 : Option Addr} {sl42 : Array (Option Value)} {oc42 kV42 dc42 pm42 cd42 ct42 : Value} {f43 : Addr} {od43 an43 : Option Addr} {sl43 : Array (Option Value)} {oc43 kV43 dc43 pm43 cd43 ct43 : Value} {f44 : Addr} {od44 an44 : Option Addr} {sl44 : Array (Option Value)} {oc44 kV44 dc44 pm44 cd44 ct44 : Value} {f45 : Addr} {od45 an45 : Option Addr} {sl45 : Array (Option Value)} {oc45 kV45 dc45 pm45 cd45 ct45 : Value} {f46 : Addr} {od46 an46 : Option Addr} {sl46 : Array (Option Value)} {oc46 kV46 dc46 pm46 cd46 ct46 : Value} {f47 : Addr} {od47 an47 : Option Addr} {sl47 : Array (Option Value)} {oc47 kV47 dc47 pm47 cd47 ct47 : Value} {f48 : Addr} {od48 an48 : Option Addr} {sl48 : Array (Option Value)} {oc48 kV48 dc48 pm48 cd48 ct48 : Value} {f49 : Addr} {od49 an49 : Option Addr} {sl49 : Array (Option Value)} {oc49 kV49 dc49 pm49 cd49 ct49 : Value} {f50 : Addr} {od50 an50 : Option Addr} {sl50 : Array (Option Value)} {oc50 kV50 dc50 pm50 cd50 ct50 : Value} {f51 : Addr} {od51 an51 : Option Addr} {sl51 : Array (Option Value)} {oc51 kV51 dc51 pm51 cd51 ct51 : Value} {f52 : Addr} {od52 an52 : Option Addr} {sl52 : Array (Option Value)} {oc52 kV52 dc52 pm52 cd52 ct52 : Value} {f53 : Addr} {od53 an53 : Option Addr} {sl53 : Array (Option Value)} {oc53 kV53 dc53 pm53 cd53 ct53 : Value} {f54 : Addr} {od54 an54 : Option Addr} {sl54 : Array (Option Value)} {oc54 kV54 dc54 pm54 cd54 ct54 : Value} {f55 : Addr} {od55 an55 : Option Addr} {sl55 : Array (Option Value)} {oc55 kV55 dc55 pm55 cd55 ct55 : Value} {gr0_mul : Addr} {gr0_add : Addr} {gr0_sub : Addr} {tc18 : Tok} {tc19 : Tok} {tc20 : Tok} {tc21 : Tok} {C_BadName : Addr} {C_NoQuantity : Addr} {C_MeteError : Addr} {fE0 NE0 ccE0 cdaE0 : Addr} {nmE0 qE0 : Str} {bsE0 bmE0 : List Value} {snE0 : List Str} {subE0 : List Value} {abE0 : Bool} {colE0 : Option Bool} {ddE0 : Option Addr} {m0E0 m1E0 m2E0 m3E0 m5E0 : Option Value} {ocE0 docE0 pmE0 ctE0 clE0 cclE0 : Value} {odE0 anE0 cldE0 cddE0 : Option Addr} {oslE0 cslE0 ccsE0 : Array (Option Value)} {vsE0 : Array Value} {tfE0 : Tok} {fE1 NE1 ccE1 cdaE1 : Addr} {nmE1 qE1 : Str} {bsE1 bmE1 : List Value} {snE1 : List Str} {subE1 : List Value} {abE1 : Bool} {colE1 : Option Bool} {ddE1 : Option Addr} {m0E1 m1E1 m2E1 m3E1 m5E1 : Option Value} {ocE1 docE1 pmE1 ctE1 clE1 cclE1 : Value} {odE1 anE1 cldE1 cddE1 : Option Addr} {oslE1 cslE1 ccsE1 : Array (Option Value)} {vsE1 : Array Value} {tfE1 : Tok}
    (o0g : PySem.W.nsIn K mainGlobals "Form" = some (some (.ref C_Form)))
    (a0 : PySem.W.nsIn K mainGlobals "ratio" = some (some (.ref f0)))
    (l0 : K.lookup f0 = some ⟨oc0, od0, .func (PySem.W.fnOf "ratio" "ratio" (defArgs s_ratio) (defBody s_ratio) (defScope s_ratio) (.ref T0) kV0 dc0 pm0 an0 cd0 ct0), sl0⟩)
    (c0 : PySem.W.codeIn K cd0 "ratio" = true)
    (k0 : PySem.W.keepIn K (.ref f0) = true)
    (d0 : K.lookup T0 = some ⟨ocT0, odT0, .seq #[.int (1) tT0_0] nT0, slT0⟩)
    (a1 : PySem.W.nsIn K mainGlobals "plus" = some (some (.ref f1)))
    (l1 : K.lookup f1 = some ⟨oc1, od1, .func (PySem.W.fnOf "plus" "plus" (defArgs s_plus) (defBody s_plus) (defScope s_plus) .none kV1 dc1 pm1 an1 cd1 ct1), sl1⟩)
    (c1 : PySem.W.codeIn K cd1 "plus" = true)
    (k1 : PySem.W.keepIn K (.ref f1) = true)
    (a2 : PySem.W.nsIn K mainGlobals "times" = some (some (.ref f2)))
    (l2 : K.lookup f2 = some ⟨oc2, od2, .func (PySem.W.fnOf "times" "times" (defArgs s_times) (defBody s_times) (defScope s_times) .none kV2 dc2 pm2 an2 cd2 ct2), sl2⟩)
    (c2 : PySem.W.codeIn K cd2 "times" = true)
    (k2 : PySem.W.keepIn K (.ref f2) = true)
    (a3 : PySem.W.nsIn K mainGlobals "is_quantity" = some (some (.ref f3)))
    (l3 : K.lookup f3 = some ⟨oc3, od3, .func (PySem.W.fnOf "is_quantity" "is_quantity" (defArgs s_is_quantity) (defBody s_is_quantity) (defScope s_is_quantity) .none kV3 dc3 pm3 an3 cd3 ct3), sl3⟩)
    (c3 : PySem.W.codeIn K cd3 "is_quantity" = true)
    (k3 : PySem.W.keepIn K (.ref f3) = true)
    (a4 : PySem.W.nsIn K mainGlobals "need_levels" = some (some (.ref f4)))
    (l4 : K.lookup f4 = some ⟨oc4, od4, .func (PySem.W.fnOf "need_levels" "need_levels" (defArgs s_need_levels) (defBody s_need_levels) (defScope s_need_levels) .none kV4 dc4 pm4 an4 cd4 ct4), sl4⟩)
    (c4 : PySem.W.codeIn K cd4 "need_levels" = true)
    (k4 : PySem.W.keepIn K (.ref f4) = true)
    (a5 : PySem.W.nsIn K mainGlobals "added_terms" = some (some (.ref f5)))
    (l5 : K.lookup f5 = some ⟨oc5, od5, .func (PySem.W.fnOf "added_terms" "added_terms" (defArgs s_added_terms) (defBody s_added_terms) (defScope s_added_terms) .none kV5 dc5 pm5 an5 cd5 ct5), sl5⟩)
    (c5 : PySem.W.codeIn K cd5 "added_terms" = true)
    (k5 : PySem.W.keepIn K (.ref f5) = true)
    (a6 : PySem.W.nsIn K mainGlobals "weight_of" = some (some (.ref f6)))
    (l6 : K.lookup f6 = some ⟨oc6, od6, .func (PySem.W.fnOf "weight_of" "weight_of" (defArgs s_weight_of) (defBody s_weight_of) (defScope s_weight_of) .none kV6 dc6 pm6 an6 cd6 ct6), sl6⟩)
    (c6 : PySem.W.codeIn K cd6 "weight_of" = true)
    (k6 : PySem.W.keepIn K (.ref f6) = true)
    (a7 : PySem.W.nsIn K mainGlobals "write_term" = some (some (.ref f7)))
    (l7 : K.lookup f7 = some ⟨oc7, od7, .func (PySem.W.fnOf "write_term" "write_term" (defArgs s_write_term) (defBody s_write_term) (defScope s_write_term) .none kV7 dc7 pm7 an7 cd7 ct7), sl7⟩)
    (c7 : PySem.W.codeIn K cd7 "write_term" = true)
    (k7 : PySem.W.keepIn K (.ref f7) = true)
    (a8 : PySem.W.nsIn K mainGlobals "write_form" = some (some (.ref f8)))
    (l8 : K.lookup f8 = some ⟨oc8, od8, .func (PySem.W.fnOf "write_form" "write_form" (defArgs s_write_form) (defBody s_write_form) (defScope s_write_form) .none kV8 dc8 pm8 an8 cd8 ct8), sl8⟩)
    (c8 : PySem.W.codeIn K cd8 "write_form" = true)
    (k8 : PySem.W.keepIn K (.ref f8) = true)
    (a9 : PySem.W.findIn K (.ref C_Form) "__init__" = some (some (.ref f9)))
    (l9 : K.lookup f9 = some ⟨oc9, od9, .func (PySem.W.fnOf "__init__" "Form.__init__" (defArgs s_Form___init) (defBody s_Form___init) (defScope s_Form___init) (.ref T9) kV9 dc9 pm9 an9 cd9 ct9), sl9⟩)
    (c9 : PySem.W.codeIn K cd9 "Form.__init__" = true)
    (k9 : PySem.W.keepIn K (.ref f9) = true)
    (d9 : K.lookup T9 = some ⟨ocT9, odT9, .seq #[.ref eT9, .int (0) tT9_1] nT9, slT9⟩)
    (yE9 : K.lookup eT9 = some ⟨.type "tuple", oeT9, .seq #[] neT9, seT9⟩)
    (a10 : PySem.W.findIn K (.ref C_Form) "names" = some (some (.ref f10)))
    (l10 : K.lookup f10 = some ⟨oc10, od10, .func (PySem.W.fnOf "names" "Form.names" (defArgs s_Form_names) (defBody s_Form_names) (defScope s_Form_names) .none kV10 dc10 pm10 an10 cd10 ct10), sl10⟩)
    (c10 : PySem.W.codeIn K cd10 "Form.names" = true)
    (k10 : PySem.W.keepIn K (.ref f10) = true)
    (a11 : PySem.W.findIn K (.ref C_Form) "__call__" = some (some (.ref f11)))
    (l11 : K.lookup f11 = some ⟨oc11, od11, .func (PySem.W.fnOf "__call__" "Form.__call__" (defArgs s_Form___call) (defBody s_Form___call) (defScope s_Form___call) .none kV11 dc11 pm11 an11 cd11 ct11), sl11⟩)
    (c11 : PySem.W.codeIn K cd11 "Form.__call__" = true)
    (k11 : PySem.W.keepIn K (.ref f11) = true)
    (a12 : PySem.W.findIn K (.ref C_Form) "__add__" = some (some (.ref f12)))
    (l12 : K.lookup f12 = some ⟨oc12, od12, .func (PySem.W.fnOf "__add__" "Form.__add__" (defArgs s_Form___add) (defBody s_Form___add) (defScope s_Form___add) .none kV12 dc12 pm12 an12 cd12 ct12), sl12⟩)
    (c12 : PySem.W.codeIn K cd12 "Form.__add__" = true)
    (k12 : PySem.W.keepIn K (.ref f12) = true)
    (a13 : PySem.W.findIn K (.ref C_Form) "__sub__" = some (some (.ref f13)))
    (l13 : K.lookup f13 = some ⟨oc13, od13, .func (PySem.W.fnOf "__sub__" "Form.__sub__" (defArgs s_Form___sub) (defBody s_Form___sub) (defScope s_Form___sub) .none kV13 dc13 pm13 an13 cd13 ct13), sl13⟩)
    (c13 : PySem.W.codeIn K cd13 "Form.__sub__" = true)
    (k13 : PySem.W.keepIn K (.ref f13) = true)
    (a14 : PySem.W.findIn K (.ref C_Form) "__neg__" = some (some (.ref f14)))
    (l14 : K.lookup f14 = some ⟨oc14, od14, .func (PySem.W.fnOf "__neg__" "Form.__neg__" (defArgs s_Form___neg) (defBody s_Form___neg) (defScope s_Form___neg) .none kV14 dc14 pm14 an14 cd14 ct14), sl14⟩)
    (c14 : PySem.W.codeIn K cd14 "Form.__neg__" = true)
    (k14 : PySem.W.keepIn K (.ref f14) = true)
    (a15 : PySem.W.findIn K (.ref C_Form) "__mul__" = some (some (.ref f15)))
    (l15 : K.lookup f15 = some ⟨oc15, od15, .func (PySem.W.fnOf "__mul__" "Form.__mul__" (defArgs s_Form___mul) (defBody s_Form___mul) (defScope s_Form___mul) .none kV15 dc15 pm15 an15 cd15 ct15), sl15⟩)
    (c15 : PySem.W.codeIn K cd15 "Form.__mul__" = true)
    (k15 : PySem.W.keepIn K (.ref f15) = true)
    (a16 : PySem.W.findIn K (.ref C_Form) "__rmul__" = some (some (.ref f16)))
    (l16 : K.lookup f16 = some ⟨oc16, od16, .func (PySem.W.fnOf "__rmul__" "Form.__rmul__" (defArgs s_Form___rmul) (defBody s_Form___rmul) (defScope s_Form___rmul) .none kV16 dc16 pm16 an16 cd16 ct16), sl16⟩)
    (c16 : PySem.W.codeIn K cd16 "Form.__rmul__" = true)
    (k16 : PySem.W.keepIn K (.ref f16) = true)
    (a17 : PySem.W.findIn K (.ref C_Form) "__eq__" = some (some (.ref f17)))
    (l17 : K.lookup f17 = some ⟨oc17, od17, .func (PySem.W.fnOf "__eq__" "Form.__eq__" (defArgs s_Form___eq) (defBody s_Form___eq) (defScope s_Form___eq) .none kV17 dc17 pm17 an17 cd17 ct17), sl17⟩)
    (c17 : PySem.W.codeIn K cd17 "Form.__eq__" = true)
    (k17 : PySem.W.keepIn K (.ref f17) = true)
    (a18 : PySem.W.findIn K (.ref C_Form) "__str__" = some (some (.ref f18)))
    (l18 : K.lookup f18 = some ⟨oc18, od18, .func (PySem.W.fnOf "__str__" "Form.__str__" (defArgs s_Form___str) (defBody s_Form___str) (defScope s_Form___str) .none kV18 dc18 pm18 an18 cd18 ct18), sl18⟩)
    (c18 : PySem.W.codeIn K cd18 "Form.__str__" = true)
    (k18 : PySem.W.keepIn K (.ref f18) = true)
    (a19 : PySem.W.nsIn K mainGlobals "_law_pot" = some (some (.ref f19)))
    (l19 : K.lookup f19 = some ⟨oc19, od19, .func (PySem.W.fnOf "_law_pot" "_law_pot" (defArgs s_w_pot) (defBody s_w_pot) (defScope s_w_pot) .none kV19 dc19 pm19 an19 cd19 ct19), sl19⟩)
    (c19 : PySem.W.codeIn K cd19 "_law_pot" = true)
    (k19 : PySem.W.keepIn K (.ref f19) = true)
    (a20 : PySem.W.nsIn K mainGlobals "_law_take" = some (some (.ref f20)))
    (l20 : K.lookup f20 = some ⟨oc20, od20, .func (PySem.W.fnOf "_law_take" "_law_take" (defArgs s_w_take) (defBody s_w_take) (defScope s_w_take) .none kV20 dc20 pm20 an20 cd20 ct20), sl20⟩)
    (c20 : PySem.W.codeIn K cd20 "_law_take" = true)
    (k20 : PySem.W.keepIn K (.ref f20) = true)
    (a21 : PySem.W.nsIn K mainGlobals "_law_whole" = some (some (.ref f21)))
    (l21 : K.lookup f21 = some ⟨oc21, od21, .func (PySem.W.fnOf "_law_whole" "_law_whole" (defArgs s_w_whole) (defBody s_w_whole) (defScope s_w_whole) .none kV21 dc21 pm21 an21 cd21 ct21), sl21⟩)
    (c21 : PySem.W.codeIn K cd21 "_law_whole" = true)
    (k21 : PySem.W.keepIn K (.ref f21) = true)
    (a22 : PySem.W.nsIn K mainGlobals "_law_quantity" = some (some (.ref f22)))
    (l22 : K.lookup f22 = some ⟨oc22, od22, .func (PySem.W.fnOf "_law_quantity" "_law_quantity" (defArgs s_w_quantity) (defBody s_w_quantity) (defScope s_w_quantity) .none kV22 dc22 pm22 an22 cd22 ct22), sl22⟩)
    (c22 : PySem.W.codeIn K cd22 "_law_quantity" = true)
    (k22 : PySem.W.keepIn K (.ref f22) = true)
    (a23 : PySem.W.nsIn K mainGlobals "_law_pool" = some (some (.ref f23)))
    (l23 : K.lookup f23 = some ⟨oc23, od23, .func (PySem.W.fnOf "_law_pool" "_law_pool" (defArgs s_w_pool) (defBody s_w_pool) (defScope s_w_pool) .none kV23 dc23 pm23 an23 cd23 ct23), sl23⟩)
    (c23 : PySem.W.codeIn K cd23 "_law_pool" = true)
    (k23 : PySem.W.keepIn K (.ref f23) = true)
    (a24 : PySem.W.nsIn K mainGlobals "_law_weight" = some (some (.ref f24)))
    (l24 : K.lookup f24 = some ⟨oc24, od24, .func (PySem.W.fnOf "_law_weight" "_law_weight" (defArgs s_w_weight) (defBody s_w_weight) (defScope s_w_weight) .none kV24 dc24 pm24 an24 cd24 ct24), sl24⟩)
    (c24 : PySem.W.codeIn K cd24 "_law_weight" = true)
    (k24 : PySem.W.keepIn K (.ref f24) = true)
    (a25 : PySem.W.nsIn K mainGlobals "_law_pairs" = some (some (.ref f25)))
    (l25 : K.lookup f25 = some ⟨oc25, od25, .func (PySem.W.fnOf "_law_pairs" "_law_pairs" (defArgs s_w_pairs) (defBody s_w_pairs) (defScope s_w_pairs) .none kV25 dc25 pm25 an25 cd25 ct25), sl25⟩)
    (c25 : PySem.W.codeIn K cd25 "_law_pairs" = true)
    (k25 : PySem.W.keepIn K (.ref f25) = true)
    (a26 : PySem.W.nsIn K mainGlobals "_law_tidy" = some (some (.ref f26)))
    (l26 : K.lookup f26 = some ⟨oc26, od26, .func (PySem.W.fnOf "_law_tidy" "_law_tidy" (defArgs s_w_tidy) (defBody s_w_tidy) (defScope s_w_tidy) .none kV26 dc26 pm26 an26 cd26 ct26), sl26⟩)
    (c26 : PySem.W.codeIn K cd26 "_law_tidy" = true)
    (k26 : PySem.W.keepIn K (.ref f26) = true)
    (a27 : PySem.W.nsIn K mainGlobals "_law_added" = some (some (.ref f27)))
    (l27 : K.lookup f27 = some ⟨oc27, od27, .func (PySem.W.fnOf "_law_added" "_law_added" (defArgs s_w_added) (defBody s_w_added) (defScope s_w_added) .none kV27 dc27 pm27 an27 cd27 ct27), sl27⟩)
    (c27 : PySem.W.codeIn K cd27 "_law_added" = true)
    (k27 : PySem.W.keepIn K (.ref f27) = true)
    (a28 : PySem.W.nsIn K mainGlobals "_law_form_is" = some (some (.ref f28)))
    (l28 : K.lookup f28 = some ⟨oc28, od28, .func (PySem.W.fnOf "_law_form_is" "_law_form_is" (defArgs s_w_form_is) (defBody s_w_form_is) (defScope s_w_form_is) .none kV28 dc28 pm28 an28 cd28 ct28), sl28⟩)
    (c28 : PySem.W.codeIn K cd28 "_law_form_is" = true)
    (k28 : PySem.W.keepIn K (.ref f28) = true)
    (a29 : PySem.W.nsIn K mainGlobals "_law_lowest" = some (some (.ref f29)))
    (l29 : K.lookup f29 = some ⟨oc29, od29, .func (PySem.W.fnOf "_law_lowest" "_law_lowest" (defArgs s_w_lowest) (defBody s_w_lowest) (defScope s_w_lowest) .none kV29 dc29 pm29 an29 cd29 ct29), sl29⟩)
    (c29 : PySem.W.codeIn K cd29 "_law_lowest" = true)
    (k29 : PySem.W.keepIn K (.ref f29) = true)
    (a30 : PySem.W.nsIn K mainGlobals "_law_pair_is" = some (some (.ref f30)))
    (l30 : K.lookup f30 = some ⟨oc30, od30, .func (PySem.W.fnOf "_law_pair_is" "_law_pair_is" (defArgs s_w_pair_is) (defBody s_w_pair_is) (defScope s_w_pair_is) .none kV30 dc30 pm30 an30 cd30 ct30), sl30⟩)
    (c30 : PySem.W.codeIn K cd30 "_law_pair_is" = true)
    (k30 : PySem.W.keepIn K (.ref f30) = true)
    (a31 : PySem.W.nsIn K mainGlobals "_law_value" = some (some (.ref f31)))
    (l31 : K.lookup f31 = some ⟨oc31, od31, .func (PySem.W.fnOf "_law_value" "_law_value" (defArgs s_w_value) (defBody s_w_value) (defScope s_w_value) .none kV31 dc31 pm31 an31 cd31 ct31), sl31⟩)
    (c31 : PySem.W.codeIn K cd31 "_law_value" = true)
    (k31 : PySem.W.keepIn K (.ref f31) = true)
    (a32 : PySem.W.nsIn K mainGlobals "_law_level" = some (some (.ref f32)))
    (l32 : K.lookup f32 = some ⟨oc32, od32, .func (PySem.W.fnOf "_law_level" "_law_level" (defArgs s_w_level) (defBody s_w_level) (defScope s_w_level) .none kV32 dc32 pm32 an32 cd32 ct32), sl32⟩)
    (c32 : PySem.W.codeIn K cd32 "_law_level" = true)
    (k32 : PySem.W.keepIn K (.ref f32) = true)
    (a33 : PySem.W.nsIn K mainGlobals "is_word" = some (some (.ref f33)))
    (l33 : K.lookup f33 = some ⟨oc33, od33, .func (PySem.W.fnOf "is_word" "is_word" (defArgs s_is_word) (defBody s_is_word) (defScope s_is_word) .none kV33 dc33 pm33 an33 cd33 ct33), sl33⟩)
    (c33 : PySem.W.codeIn K cd33 "is_word" = true)
    (k33 : PySem.W.keepIn K (.ref f33) = true)
    (a34 : PySem.W.findCls K (.ref C_Form) (.type "type") "one" = some (.get (.builtin "staticmethod.__get__") (.ref ps34) .none (.ref C_Form)))
    (as34 : PySem.W.recIn K ps34 "staticmethod" = some (.ref f34 :: rs34))
    (l34 : K.lookup f34 = some ⟨oc34, od34, .func (PySem.W.fnOf "one" "Form.one" (defArgs s_Form_one) (defBody s_Form_one) (defScope s_Form_one) .none kV34 dc34 pm34 an34 cd34 ct34), sl34⟩)
    (c34 : PySem.W.codeIn K cd34 "Form.one" = true)
    (k34 : PySem.W.keepIn K (.ref f34) = true)
    (a35 : PySem.W.findCls K (.ref C_Form) (.type "type") "gap" = some (.get (.builtin "staticmethod.__get__") (.ref ps35) .none (.ref C_Form)))
    (as35 : PySem.W.recIn K ps35 "staticmethod" = some (.ref f35 :: rs35))
    (l35 : K.lookup f35 = some ⟨oc35, od35, .func (PySem.W.fnOf "gap" "Form.gap" (defArgs s_Form_gap) (defBody s_Form_gap) (defScope s_Form_gap) .none kV35 dc35 pm35 an35 cd35 ct35), sl35⟩)
    (c35 : PySem.W.codeIn K cd35 "Form.gap" = true)
    (k35 : PySem.W.keepIn K (.ref f35) = true)
    (a36 : PySem.W.findIn K (.ref C_Form) "__radd__" = some (some (.ref f36)))
    (l36 : K.lookup f36 = some ⟨oc36, od36, .func (PySem.W.fnOf "__radd__" "Form.__radd__" (defArgs s_Form___radd) (defBody s_Form___radd) (defScope s_Form___radd) .none kV36 dc36 pm36 an36 cd36 ct36), sl36⟩)
    (c36 : PySem.W.codeIn K cd36 "Form.__radd__" = true)
    (k36 : PySem.W.keepIn K (.ref f36) = true)
    (a37 : PySem.W.findIn K (.ref C_Form) "__rsub__" = some (some (.ref f37)))
    (l37 : K.lookup f37 = some ⟨oc37, od37, .func (PySem.W.fnOf "__rsub__" "Form.__rsub__" (defArgs s_Form___rsub) (defBody s_Form___rsub) (defScope s_Form___rsub) .none kV37 dc37 pm37 an37 cd37 ct37), sl37⟩)
    (c37 : PySem.W.codeIn K cd37 "Form.__rsub__" = true)
    (k37 : PySem.W.keepIn K (.ref f37) = true)
    (a38 : PySem.W.findIn K (.ref C_Form) "__contains__" = some (some (.ref f38)))
    (l38 : K.lookup f38 = some ⟨oc38, od38, .func (PySem.W.fnOf "__contains__" "Form.__contains__" (defArgs s_Form___contains) (defBody s_Form___contains) (defScope s_Form___contains) .none kV38 dc38 pm38 an38 cd38 ct38), sl38⟩)
    (c38 : PySem.W.codeIn K cd38 "Form.__contains__" = true)
    (k38 : PySem.W.keepIn K (.ref f38) = true)
    (a39 : PySem.W.findIn K (.ref C_Form) "__getitem__" = some (some (.ref f39)))
    (l39 : K.lookup f39 = some ⟨oc39, od39, .func (PySem.W.fnOf "__getitem__" "Form.__getitem__" (defArgs s_Form___getitem) (defBody s_Form___getitem) (defScope s_Form___getitem) .none kV39 dc39 pm39 an39 cd39 ct39), sl39⟩)
    (c39 : PySem.W.codeIn K cd39 "Form.__getitem__" = true)
    (k39 : PySem.W.keepIn K (.ref f39) = true)
    (a40 : PySem.W.findIn K (.ref C_Form) "__len__" = some (some (.ref f40)))
    (l40 : K.lookup f40 = some ⟨oc40, od40, .func (PySem.W.fnOf "__len__" "Form.__len__" (defArgs s_Form___len) (defBody s_Form___len) (defScope s_Form___len) .none kV40 dc40 pm40 an40 cd40 ct40), sl40⟩)
    (c40 : PySem.W.codeIn K cd40 "Form.__len__" = true)
    (k40 : PySem.W.keepIn K (.ref f40) = true)
    (a41 : PySem.W.nsIn K mainGlobals "_law_contents_right" = some (some (.ref f41)))
    (l41 : K.lookup f41 = some ⟨oc41, od41, .func (PySem.W.fnOf "_law_contents_right" "_law_contents_right" (defArgs s_w_contents_right) (defBody s_w_contents_right) (defScope s_w_contents_right) .none kV41 dc41 pm41 an41 cd41 ct41), sl41⟩)
    (c41 : PySem.W.codeIn K cd41 "_law_contents_right" = true)
    (k41 : PySem.W.keepIn K (.ref f41) = true)
    (a42 : PySem.W.nsIn K mainGlobals "_law_sums_right" = some (some (.ref f42)))
    (l42 : K.lookup f42 = some ⟨oc42, od42, .func (PySem.W.fnOf "_law_sums_right" "_law_sums_right" (defArgs s_w_sums_right) (defBody s_w_sums_right) (defScope s_w_sums_right) .none kV42 dc42 pm42 an42 cd42 ct42), sl42⟩)
    (c42 : PySem.W.codeIn K cd42 "_law_sums_right" = true)
    (k42 : PySem.W.keepIn K (.ref f42) = true)
    (a43 : PySem.W.nsIn K mainGlobals "_law_equal_right" = some (some (.ref f43)))
    (l43 : K.lookup f43 = some ⟨oc43, od43, .func (PySem.W.fnOf "_law_equal_right" "_law_equal_right" (defArgs s_w_equal_right) (defBody s_w_equal_right) (defScope s_w_equal_right) .none kV43 dc43 pm43 an43 cd43 ct43), sl43⟩)
    (c43 : PySem.W.codeIn K cd43 "_law_equal_right" = true)
    (k43 : PySem.W.keepIn K (.ref f43) = true)
    (a44 : PySem.W.nsIn K mainGlobals "_law_world" = some (some (.ref f44)))
    (l44 : K.lookup f44 = some ⟨oc44, od44, .func (PySem.W.fnOf "_law_world" "_law_world" (defArgs s_w_world) (defBody s_w_world) (defScope s_w_world) .none kV44 dc44 pm44 an44 cd44 ct44), sl44⟩)
    (c44 : PySem.W.codeIn K cd44 "_law_world" = true)
    (k44 : PySem.W.keepIn K (.ref f44) = true)
    (a45 : PySem.W.nsIn K mainGlobals "_law_value_right" = some (some (.ref f45)))
    (l45 : K.lookup f45 = some ⟨oc45, od45, .func (PySem.W.fnOf "_law_value_right" "_law_value_right" (defArgs s_w_value_right) (defBody s_w_value_right) (defScope s_w_value_right) .none kV45 dc45 pm45 an45 cd45 ct45), sl45⟩)
    (c45 : PySem.W.codeIn K cd45 "_law_value_right" = true)
    (k45 : PySem.W.keepIn K (.ref f45) = true)
    (a46 : PySem.W.nsIn K mainGlobals "_law_letters" = some (some (.ref f46)))
    (l46 : K.lookup f46 = some ⟨oc46, od46, .func (PySem.W.fnOf "_law_letters" "_law_letters" (defArgs s_w_letters) (defBody s_w_letters) (defScope s_w_letters) .none kV46 dc46 pm46 an46 cd46 ct46), sl46⟩)
    (c46 : PySem.W.codeIn K cd46 "_law_letters" = true)
    (k46 : PySem.W.keepIn K (.ref f46) = true)
    (a47 : PySem.W.nsIn K mainGlobals "_law_word" = some (some (.ref f47)))
    (l47 : K.lookup f47 = some ⟨oc47, od47, .func (PySem.W.fnOf "_law_word" "_law_word" (defArgs s_w_word) (defBody s_w_word) (defScope s_w_word) .none kV47 dc47 pm47 an47 cd47 ct47), sl47⟩)
    (c47 : PySem.W.codeIn K cd47 "_law_word" = true)
    (k47 : PySem.W.keepIn K (.ref f47) = true)
    (a48 : PySem.W.nsIn K mainGlobals "_law_good" = some (some (.ref f48)))
    (l48 : K.lookup f48 = some ⟨oc48, od48, .func (PySem.W.fnOf "_law_good" "_law_good" (defArgs s_w_good) (defBody s_w_good) (defScope s_w_good) .none kV48 dc48 pm48 an48 cd48 ct48), sl48⟩)
    (c48 : PySem.W.codeIn K cd48 "_law_good" = true)
    (k48 : PySem.W.keepIn K (.ref f48) = true)
    (a49 : PySem.W.nsIn K mainGlobals "make_form" = some (some (.ref f49)))
    (l49 : K.lookup f49 = some ⟨oc49, od49, .func (PySem.W.fnOf "make_form" "make_form" (defArgs s_make_form) (defBody s_make_form) (defScope s_make_form) .none kV49 dc49 pm49 an49 cd49 ct49), sl49⟩)
    (c49 : PySem.W.codeIn K cd49 "make_form" = true)
    (k49 : PySem.W.keepIn K (.ref f49) = true)
    (a50 : PySem.W.nsIn K mainGlobals "_law_near" = some (some (.ref f50)))
    (l50 : K.lookup f50 = some ⟨oc50, od50, .func (PySem.W.fnOf "_law_near" "_law_near" (defArgs s_w_near) (defBody s_w_near) (defScope s_w_near) .none kV50 dc50 pm50 an50 cd50 ct50), sl50⟩)
    (c50 : PySem.W.codeIn K cd50 "_law_near" = true)
    (k50 : PySem.W.keepIn K (.ref f50) = true)
    (a51 : PySem.W.nsIn K mainGlobals "_law_names_right" = some (some (.ref f51)))
    (l51 : K.lookup f51 = some ⟨oc51, od51, .func (PySem.W.fnOf "_law_names_right" "_law_names_right" (defArgs s_w_names_right) (defBody s_w_names_right) (defScope s_w_names_right) .none kV51 dc51 pm51 an51 cd51 ct51), sl51⟩)
    (c51 : PySem.W.codeIn K cd51 "_law_names_right" = true)
    (k51 : PySem.W.keepIn K (.ref f51) = true)
    (a52 : PySem.W.nsIn K mainGlobals "_law_keywords_refused" = some (some (.ref f52)))
    (l52 : K.lookup f52 = some ⟨oc52, od52, .func (PySem.W.fnOf "_law_keywords_refused" "_law_keywords_refused" (defArgs s_w_keywords_refused) (defBody s_w_keywords_refused) (defScope s_w_keywords_refused) .none kV52 dc52 pm52 an52 cd52 ct52), sl52⟩)
    (c52 : PySem.W.codeIn K cd52 "_law_keywords_refused" = true)
    (k52 : PySem.W.keepIn K (.ref f52) = true)
    (a53 : PySem.W.nsIn K mainGlobals "_law_made_right" = some (some (.ref f53)))
    (l53 : K.lookup f53 = some ⟨oc53, od53, .func (PySem.W.fnOf "_law_made_right" "_law_made_right" (defArgs s_w_made_right) (defBody s_w_made_right) (defScope s_w_made_right) .none kV53 dc53 pm53 an53 cd53 ct53), sl53⟩)
    (c53 : PySem.W.codeIn K cd53 "_law_made_right" = true)
    (k53 : PySem.W.keepIn K (.ref f53) = true)
    (a54 : PySem.W.nsIn K mainGlobals "_law_single_right" = some (some (.ref f54)))
    (l54 : K.lookup f54 = some ⟨oc54, od54, .func (PySem.W.fnOf "_law_single_right" "_law_single_right" (defArgs s_w_single_right) (defBody s_w_single_right) (defScope s_w_single_right) .none kV54 dc54 pm54 an54 cd54 ct54), sl54⟩)
    (c54 : PySem.W.codeIn K cd54 "_law_single_right" = true)
    (k54 : PySem.W.keepIn K (.ref f54) = true)
    (a55 : PySem.W.nsIn K mainGlobals "law" = some (some (.ref f55)))
    (l55 : K.lookup f55 = some ⟨oc55, od55, .func (PySem.W.fnOf "law" "law" (defArgs s_law) (defBody s_law) (defScope s_law) .none kV55 dc55 pm55 an55 cd55 ct55), sl55⟩)
    (c55 : PySem.W.codeIn K cd55 "law" = true)
    (k55 : PySem.W.keepIn K (.ref f55) = true)
    (z0 : PySem.W.nsIn K mainGlobals "len" = some none)
    (z1 : PySem.W.nsIn K mainGlobals "range" = some none)
    (z2 : PySem.W.nsIn K mainGlobals "isinstance" = some none)
    (z3 : PySem.W.nsIn K mainGlobals "int" = some none)
    (z4 : PySem.W.nsIn K mainGlobals "bool" = some none)
    (z5 : PySem.W.nsIn K mainGlobals "str" = some none)
    (z6 : PySem.W.nsIn K mainGlobals "list" = some none)
    (z7 : PySem.W.nsIn K mainGlobals "tuple" = some none)
    (z8 : PySem.W.nsIn K mainGlobals "dict" = some none)
    (z9 : PySem.W.nsIn K mainGlobals "abs" = some none)
    (z10 : PySem.W.nsIn K mainGlobals "max" = some none)
    (z11 : PySem.W.nsIn K mainGlobals "sum" = some none)
    (z12 : PySem.W.nsIn K mainGlobals "sorted" = some none)
    (z13 : PySem.W.nsIn K mainGlobals "all" = some none)
    (z14 : PySem.W.nsIn K mainGlobals "NotImplemented" = some none)
    (z15 : PySem.W.nsIn K mainGlobals "ZeroDivisionError" = some none)
    (z16 : PySem.W.nsIn K mainGlobals "ValueError" = some none)
    (z17 : PySem.W.nsIn K mainGlobals "gcd" = some (some (.builtin "math.gcd")))
    (o0a : PySem.W.plainGet K C_Form Str.empty = true)
    (o0b : PySem.W.hasDictIn K C_Form = true)
    (o0c : PySem.W.plainOver K C_Form = true)
    (o0d : PySem.W.findIn K (.ref C_Form) "__setattr__" = some (some (.builtin "object.__setattr__")))
    (o0e : PySem.W.selfFirst K C_Form = true)
    (o0f : PySem.W.findIn K (.ref C_Form) "__class__" = some (some (.builtin "object.__class__")))
    (o0h : PySem.W.specialIn K (.builtin "object.__class__") "__get__" = some (some (.builtin "getset_descriptor.__get__")))
    (o0i : PySem.W.takesIn K (.builtin "object.__class__") = some true)
    (o0j : PySem.W.mroIn K C_Form (.type "object") = some true)
    (o0z1 : PySem.W.typeIn K (.ref C_Form) = some (.type "type"))
    (o0z2 : PySem.W.subIn K (.type "tuple") (.ref C_Form) = some false)
    (o0z3 : PySem.W.subIn K (.type "str") (.ref C_Form) = some false)
    (o0n0 : PySem.W.findIn K (.ref C_Form) "terms" = some none)
    (o0n1 : PySem.W.findIn K (.ref C_Form) "constant" = some none)
    (o0k : PySem.W.makesIn K C_Form = true)
    (o0l : PySem.W.keepIn K (.ref C_Form) = true)
    (fn9 : PySem.W.isFn K (.ref f9) = true)
    (fn10 : PySem.W.isFn K (.ref f10) = true)
    (fn11 : PySem.W.isFn K (.ref f11) = true)
    (fi11 : PySem.W.fnIn K f11 = true)
    (fn12 : PySem.W.isFn K (.ref f12) = true)
    (fn13 : PySem.W.isFn K (.ref f13) = true)
    (fn14 : PySem.W.isFn K (.ref f14) = true)
    (fn15 : PySem.W.isFn K (.ref f15) = true)
    (fn16 : PySem.W.isFn K (.ref f16) = true)
    (fn17 : PySem.W.isFn K (.ref f17) = true)
    (fn18 : PySem.W.isFn K (.ref f18) = true)
    (fn36 : PySem.W.isFn K (.ref f36) = true)
    (fn37 : PySem.W.isFn K (.ref f37) = true)
    (fn38 : PySem.W.isFn K (.ref f38) = true)
    (fi39 : PySem.W.fnIn K f39 = true)
    (fn39 : PySem.W.isFn K (.ref f39) = true)
    (fn40 : PySem.W.isFn K (.ref f40) = true)
    (o0x : PySem.W.readsIn K C_Form (.type "type") = true)
    (o0y : PySem.W.specialIn K (.ref C_Form) "__getattribute__" = some (some (.builtin "type.__getattribute__")))
    (o0s : PySem.W.subIn K (.ref C_Form) (.type "int") = some false)
    (o0t : PySem.W.subIn K (.type "int") (.ref C_Form) = some false)
    (o0r_mul : PySem.W.findIn K (.ref C_Form) "__rmul__" = some (some (.ref gr0_mul)))
    (o0u_mul : PySem.W.findIn K (.type "int") "__mul__" = some (some (.builtin "int.__mul__")))
    (o0v_mul : PySem.W.findIn K (.type "int") "__rmul__" = some (some (.builtin "int.__rmul__")))
    (o0r_add : PySem.W.findIn K (.ref C_Form) "__radd__" = some (some (.ref gr0_add)))
    (o0u_add : PySem.W.findIn K (.type "int") "__add__" = some (some (.builtin "int.__add__")))
    (o0v_add : PySem.W.findIn K (.type "int") "__radd__" = some (some (.builtin "int.__radd__")))
    (o0r_sub : PySem.W.findIn K (.ref C_Form) "__rsub__" = some (some (.ref gr0_sub)))
    (o0u_sub : PySem.W.findIn K (.type "int") "__sub__" = some (some (.builtin "int.__sub__")))
    (o0v_sub : PySem.W.findIn K (.type "int") "__rsub__" = some (some (.builtin "int.__rsub__")))
    (z18 : PySem.W.nsIn K mainGlobals "LETTERS" = some (some (.str "abcdefghijklmnopqrstuvwxyz" tc18)))
    (z19 : PySem.W.nsIn K mainGlobals "QUANTITY_SIGNS" = some (some (.str "abcdefghijklmnopqrstuvwxyz.0123456789" tc19)))
    (z20 : PySem.W.nsIn K mainGlobals "LONGEST_WORD" = some (some (.int (8) tc20)))
    (z21 : PySem.W.nsIn K mainGlobals "LONGEST_QUANTITY" = some (some (.int (12) tc21)))
    (es0 : PySem.W.specialIn K (.builtin "object.__class__") "__get__" = some (some (.builtin "getset_descriptor.__get__")))
    (es1 : PySem.W.takesIn K (.builtin "object.__class__") = some true)
    (es2 : PySem.W.nsIn K cStatics "thirdparty.any" = some none)
    (es3 : PySem.W.nsIn K mainGlobals "super" = some none)
    (eC0 : PySem.W.nsIn K mainGlobals "BadName" = some (some (.ref C_BadName)))
    (eB0 : PySem.W.subIn K (.ref C_BadName) (.type "BaseException") = some true)
    (eH0 : PySem.W.hasDictIn K C_BadName = true)
    (eT0 : PySem.W.typeIn K (.ref C_BadName) = some (.type "type"))
    (eC1 : PySem.W.nsIn K mainGlobals "NoQuantity" = some (some (.ref C_NoQuantity)))
    (eB1 : PySem.W.subIn K (.ref C_NoQuantity) (.type "BaseException") = some true)
    (eH1 : PySem.W.hasDictIn K C_NoQuantity = true)
    (eT1 : PySem.W.typeIn K (.ref C_NoQuantity) = some (.type "type"))
    (eC2 : PySem.W.nsIn K mainGlobals "MeteError" = some (some (.ref C_MeteError)))
    (eB2 : PySem.W.subIn K (.ref C_MeteError) (.type "BaseException") = some true)
    (eH2 : PySem.W.hasDictIn K C_MeteError = true)
    (eT2 : PySem.W.typeIn K (.ref C_MeteError) = some (.type "type"))
    (eL0 : K.lookup C_BadName = some (PySem.excClassObj nmE0 qE0 C_BadName NE0 bsE0 bmE0 true snE0 subE0 abE0 colE0 ddE0 m0E0 m1E0 m2E0 m3E0 m5E0 "ValueError.__new__"))
    (eR0 : PySem.HandSPX.refsVE bmE0 = true)
    (eS0 : PySem.W.findIn K (.ref C_BadName) "__setattr__" = some (some (.builtin "object.__setattr__")))
    (eG0 : PySem.W.findIn K (.ref C_BadName) "__getattribute__" = some (some (.builtin "BaseException.__getattribute__")))
    (eg0 : PySem.W.findIn K (.ref C_BadName) "__getattr__" = some none)
    (en0 : PySem.W.findIn K (.ref C_BadName) "name" = some none)
    (eI0 : PySem.W.findIn K (.ref C_BadName) "__init__" = some (some (.ref fE0)))
    (et0 : PySem.W.typeIn K (.ref fE0) = some (.type "function"))
    (ef0 : K.lookup fE0 = some ⟨ocE0, odE0, .func (PySem.W.ksFn "__init__" "BadName.__init__" (defArgs s_BadName_init) (defBody s_BadName_init) (defScope s_BadName_init) .none .none docE0 pmE0 anE0 (.ref cdaE0) ctE0 ccE0), oslE0⟩)
    (ec0 : PySem.W.codeIn K (.ref cdaE0) "BadName.__init__" = true)
    (eo0 : K.lookup ccE0 = some ⟨clE0, cldE0, .cell (some (.ref C_BadName)), cslE0⟩)
    (ed0 : K.lookup cdaE0 = some ⟨cclE0, cddE0, .fields vsE0, ccsE0⟩)
    (eq0 : vsE0[2]? = some (.str PG.main.file tfE0))
    (ep0 : PySem.W.ks_superIn K C_BadName C_BadName "__init__" = some (some (.builtin "ValueError.__init__")))
    (ev0 : PySem.W.subIn K (.ref C_BadName) (.type "ValueError") = some true)
    (em0 : PySem.W.mroIn K C_BadName (.ref C_BadName) = some true)
    (ek0 : PySem.W.keepIn K (.ref C_BadName) = true)
    (ea0 : PySem.W.findIn K (.ref C_BadName) "__class__" = some (some (.builtin "object.__class__")))
    (eb0 : PySem.W.mroIn K C_BadName (.type "object") = some true)
    (eL1 : K.lookup C_NoQuantity = some (PySem.excClassObj nmE1 qE1 C_NoQuantity NE1 bsE1 bmE1 true snE1 subE1 abE1 colE1 ddE1 m0E1 m1E1 m2E1 m3E1 m5E1 "ValueError.__new__"))
    (eR1 : PySem.HandSPX.refsVE bmE1 = true)
    (eS1 : PySem.W.findIn K (.ref C_NoQuantity) "__setattr__" = some (some (.builtin "object.__setattr__")))
    (eG1 : PySem.W.findIn K (.ref C_NoQuantity) "__getattribute__" = some (some (.builtin "BaseException.__getattribute__")))
    (eg1 : PySem.W.findIn K (.ref C_NoQuantity) "__getattr__" = some none)
    (en1 : PySem.W.findIn K (.ref C_NoQuantity) "name" = some none)
    (eI1 : PySem.W.findIn K (.ref C_NoQuantity) "__init__" = some (some (.ref fE1)))
    (et1 : PySem.W.typeIn K (.ref fE1) = some (.type "function"))
    (ef1 : K.lookup fE1 = some ⟨ocE1, odE1, .func (PySem.W.ksFn "__init__" "NoQuantity.__init__" (defArgs s_NoQuantity_init) (defBody s_NoQuantity_init) (defScope s_NoQuantity_init) .none .none docE1 pmE1 anE1 (.ref cdaE1) ctE1 ccE1), oslE1⟩)
    (ec1 : PySem.W.codeIn K (.ref cdaE1) "NoQuantity.__init__" = true)
    (eo1 : K.lookup ccE1 = some ⟨clE1, cldE1, .cell (some (.ref C_NoQuantity)), cslE1⟩)
    (ed1 : K.lookup cdaE1 = some ⟨cclE1, cddE1, .fields vsE1, ccsE1⟩)
    (eq1 : vsE1[2]? = some (.str PG.main.file tfE1))
    (ep1 : PySem.W.ks_superIn K C_NoQuantity C_NoQuantity "__init__" = some (some (.builtin "ValueError.__init__")))
    (ev1 : PySem.W.subIn K (.ref C_NoQuantity) (.type "ValueError") = some true)
    (em1 : PySem.W.mroIn K C_NoQuantity (.ref C_NoQuantity) = some true)
    (ek1 : PySem.W.keepIn K (.ref C_NoQuantity) = true)
    (ea1 : PySem.W.findIn K (.ref C_NoQuantity) "__class__" = some (some (.builtin "object.__class__")))
    (eb1 : PySem.W.mroIn K C_NoQuantity (.type "object") = some true)
    (ez0_2 : PySem.W.subIn K (.ref C_BadName) (.ref C_MeteError) = some true)
    (ez0_2n : (Value.ref C_BadName == Value.ref C_MeteError) = false)
    (ey0_ValueError : PySem.W.subIn K (.ref C_BadName) (.type "ValueError") = some true)
    (ez0_1 : PySem.W.subIn K (.ref C_BadName) (.ref C_NoQuantity) = some false)
    (ez0_1n : (Value.ref C_BadName == Value.ref C_NoQuantity) = false)
    (ez1_2 : PySem.W.subIn K (.ref C_NoQuantity) (.ref C_MeteError) = some true)
    (ez1_2n : (Value.ref C_NoQuantity == Value.ref C_MeteError) = false)
    (ey1_ValueError : PySem.W.subIn K (.ref C_NoQuantity) (.type "ValueError") = some true)
    (ez1_0 : PySem.W.subIn K (.ref C_NoQuantity) (.ref C_BadName) = some false)
    (ez1_0n : (Value.ref C_NoQuantity == Value.ref C_BadName) = false)
    (ex0_0 : PySem.W.subIn K (.ref C_BadName) (.ref C_BadName) = some true)
    (ex1_1 : PySem.W.subIn K (.ref C_NoQuantity) (.ref C_NoQuantity) = some true) :
    ∃ fd : FuncData, (∀ (s : Shared) (v : Value), BindsTo s fd ⟨[v], []⟩ [("_law_script", v)]) ∧ ∀ base : Heap, K.In base → base.Ns mainGlobals mg → FnOk PG w K mg base CX0 8 fa fd ["_law_script"] (spLaw K) := by
  have FD0 : FunD K "ratio" "ratio" (defArgs s_ratio) (defBody s_ratio) (defScope s_ratio) [V.int (1)] [] f0 _ := ⟨⟨_, _, _, _, _, _, _, _, _, _, rfl, l0, c0, Or.inr ⟨by simp, T0, _, _, _, rfl, d0, rfl, (.cons ⟨_, rfl⟩ .nil)⟩, Or.inl rfl⟩, k0⟩
  have F1 := fun_mk (st := s_plus) l1 c1 k1
  have F2 := fun_mk (st := s_times) l2 c2 k2
  have F3 := fun_mk (st := s_is_quantity) l3 c3 k3
  have F4 := fun_mk (st := s_need_levels) l4 c4 k4
  have F5 := fun_mk (st := s_added_terms) l5 c5 k5
  have F6 := fun_mk (st := s_weight_of) l6 c6 k6
  have F7 := fun_mk (st := s_write_term) l7 c7 k7
  have F8 := fun_mk (st := s_write_form) l8 c8 k8
  have FD9 : FunD K "__init__" "Form.__init__" (defArgs s_Form___init) (defBody s_Form___init) (defScope s_Form___init) [V.ref eT9, V.int (0)] [] f9 _ := ⟨⟨_, _, _, _, _, _, _, _, _, _, rfl, l9, c9, Or.inr ⟨by simp, T9, _, _, _, rfl, d9, rfl, (.cons rfl (.cons ⟨_, rfl⟩ .nil))⟩, Or.inl rfl⟩, k9⟩
  have F10 := fun_mk (st := s_Form_names) l10 c10 k10
  have F11 := fun_mk (st := s_Form___call) l11 c11 k11
  have F12 := fun_mk (st := s_Form___add) l12 c12 k12
  have F13 := fun_mk (st := s_Form___sub) l13 c13 k13
  have F14 := fun_mk (st := s_Form___neg) l14 c14 k14
  have F15 := fun_mk (st := s_Form___mul) l15 c15 k15
  have F16 := fun_mk (st := s_Form___rmul) l16 c16 k16
  have F17 := fun_mk (st := s_Form___eq) l17 c17 k17
  have F18 := fun_mk (st := s_Form___str) l18 c18 k18
  have F19 := fun_mk (st := s_w_pot) l19 c19 k19
  have F20 := fun_mk (st := s_w_take) l20 c20 k20
  have F21 := fun_mk (st := s_w_whole) l21 c21 k21
  have F22 := fun_mk (st := s_w_quantity) l22 c22 k22
  have F23 := fun_mk (st := s_w_pool) l23 c23 k23
  have F24 := fun_mk (st := s_w_weight) l24 c24 k24
  have F25 := fun_mk (st := s_w_pairs) l25 c25 k25
  have F26 := fun_mk (st := s_w_tidy) l26 c26 k26
  have F27 := fun_mk (st := s_w_added) l27 c27 k27
  have F28 := fun_mk (st := s_w_form_is) l28 c28 k28
  have F29 := fun_mk (st := s_w_lowest) l29 c29 k29
  have F30 := fun_mk (st := s_w_pair_is) l30 c30 k30
  have F31 := fun_mk (st := s_w_value) l31 c31 k31
  have F32 := fun_mk (st := s_w_level) l32 c32 k32
  have F33 := fun_mk (st := s_is_word) l33 c33 k33
  have F34 := fun_mk (st := s_Form_one) l34 c34 k34
  have F35 := fun_mk (st := s_Form_gap) l35 c35 k35
  have F36 := fun_mk (st := s_Form___radd) l36 c36 k36
  have F37 := fun_mk (st := s_Form___rsub) l37 c37 k37
  have F38 := fun_mk (st := s_Form___contains) l38 c38 k38
  have F39 := fun_mk (st := s_Form___getitem) l39 c39 k39
  have F40 := fun_mk (st := s_Form___len) l40 c40 k40
  have F41 := fun_mk (st := s_w_contents_right) l41 c41 k41
  have F42 := fun_mk (st := s_w_sums_right) l42 c42 k42
  have F43 := fun_mk (st := s_w_equal_right) l43 c43 k43
  have F44 := fun_mk (st := s_w_world) l44 c44 k44
  have F45 := fun_mk (st := s_w_value_right) l45 c45 k45
  have F46 := fun_mk (st := s_w_letters) l46 c46 k46
  have F47 := fun_mk (st := s_w_word) l47 c47 k47
  have F48 := fun_mk (st := s_w_good) l48 c48 k48
  have F49 := fun_mk (st := s_make_form) l49 c49 k49
  have F50 := fun_mk (st := s_w_near) l50 c50 k50
  have F51 := fun_mk (st := s_w_names_right) l51 c51 k51
  have F52 := fun_mk (st := s_w_keywords_refused) l52 c52 k52
  have F53 := fun_mk (st := s_w_made_right) l53 c53 k53
  have F54 := fun_mk (st := s_w_single_right) l54 c54 k54
  have F55 := fun_mk (st := s_law) l55 c55 k55
  have e := hfa.symm.trans (PySem.W.mg_of X G a55)
  cases e
  let T : Tx K mg := {
    f_ratio := f0, fd_ratio := _, F_ratio := FD0,
    g_ratio := PySem.W.mg_of X G a0,
    b1_ratio := FD0.binds1 (ps := ["top", "bottom"]) 1 0 (by simp) rfl fun _ _ _ _ _ _ _ us its h1 h2 => match us, its, h1, h2 with | [_], [_], _, _ => ⟨_, rfl, rfl⟩,
    b2_ratio := FD0.binds1 (ps := ["top", "bottom"]) 2 1 (by simp) rfl fun _ _ _ _ _ _ _ us its h1 h2 => match us, its, h1, h2 with | [_, _], [_], _, _ => ⟨_, rfl, rfl⟩,
    f_plus := f1, fd_plus := _, F_plus := F1,
    g_plus := PySem.W.mg_of X G a1,
    b_plus := F1.binds (ps := ["first", "second"]) fun _ _ _ _ _ _ us hl => match us, hl with | [_, _], _ => rfl,
    f_times := f2, fd_times := _, F_times := F2,
    g_times := PySem.W.mg_of X G a2,
    b_times := F2.binds (ps := ["first", "second"]) fun _ _ _ _ _ _ us hl => match us, hl with | [_, _], _ => rfl,
    f_is_quantity := f3, fd_is_quantity := _, F_is_quantity := F3,
    g_is_quantity := PySem.W.mg_of X G a3,
    b_is_quantity := F3.binds (ps := ["text"]) fun _ _ _ _ _ _ us hl => match us, hl with | [_], _ => rfl,
    f_need_levels := f4, fd_need_levels := _, F_need_levels := F4,
    g_need_levels := PySem.W.mg_of X G a4,
    b_need_levels := F4.binds (ps := ["names", "world"]) fun _ _ _ _ _ _ us hl => match us, hl with | [_, _], _ => rfl,
    f_added_terms := f5, fd_added_terms := _, F_added_terms := F5,
    g_added_terms := PySem.W.mg_of X G a5,
    b_added_terms := F5.binds (ps := ["terms"]) fun _ _ _ _ _ _ us hl => match us, hl with | [_], _ => rfl,
    f_weight_of := f6, fd_weight_of := _, F_weight_of := F6,
    g_weight_of := PySem.W.mg_of X G a6,
    b_weight_of := F6.binds (ps := ["terms", "name"]) fun _ _ _ _ _ _ us hl => match us, hl with | [_, _], _ => rfl,
    f_write_term := f7, fd_write_term := _, F_write_term := F7,
    g_write_term := PySem.W.mg_of X G a7,
    b_write_term := F7.binds (ps := ["size", "name"]) fun _ _ _ _ _ _ us hl => match us, hl with | [_, _], _ => rfl,
    f_write_form := f8, fd_write_form := _, F_write_form := F8,
    g_write_form := PySem.W.mg_of X G a8,
    b_write_form := F8.binds (ps := ["terms", "constant"]) fun _ _ _ _ _ _ us hl => match us, hl with | [_, _], _ => rfl,
    e_Form___init := eT9,
    te_Form___init := ⟨_, _, _, yE9, rfl, rfl, (le_size (by simp)), .nil⟩,
    f_Form___init := f9, fd_Form___init := _, F_Form___init := FD9,
    b1_Form___init := FD9.binds1 (ps := ["self", "terms", "constant"]) 1 0 (by simp) rfl fun _ _ _ _ _ _ _ us its h1 h2 => match us, its, h1, h2 with | [_], [_, _], _, _ => ⟨_, rfl, rfl⟩,
    b2_Form___init := FD9.binds1 (ps := ["self", "terms", "constant"]) 2 1 (by simp) rfl fun _ _ _ _ _ _ _ us its h1 h2 => match us, its, h1, h2 with | [_, _], [_, _], _, _ => ⟨_, rfl, rfl⟩,
    b3_Form___init := FD9.binds1 (ps := ["self", "terms", "constant"]) 3 2 (by simp) rfl fun _ _ _ _ _ _ _ us its h1 h2 => match us, its, h1, h2 with | [_, _, _], [_, _], _, _ => ⟨_, rfl, rfl⟩,
    f_Form_names := f10, fd_Form_names := _, F_Form_names := F10,
    b_Form_names := F10.binds (ps := ["self"]) fun _ _ _ _ _ _ us hl => match us, hl with | [_], _ => rfl,
    f_Form___call := f11, fd_Form___call := _, F_Form___call := F11,
    b_Form___call := F11.binds (ps := ["self", "world"]) fun _ _ _ _ _ _ us hl => match us, hl with | [_, _], _ => rfl,
    f_Form___add := f12, fd_Form___add := _, F_Form___add := F12,
    b_Form___add := F12.binds (ps := ["self", "other"]) fun _ _ _ _ _ _ us hl => match us, hl with | [_, _], _ => rfl,
    f_Form___sub := f13, fd_Form___sub := _, F_Form___sub := F13,
    b_Form___sub := F13.binds (ps := ["self", "other"]) fun _ _ _ _ _ _ us hl => match us, hl with | [_, _], _ => rfl,
    f_Form___neg := f14, fd_Form___neg := _, F_Form___neg := F14,
    b_Form___neg := F14.binds (ps := ["self"]) fun _ _ _ _ _ _ us hl => match us, hl with | [_], _ => rfl,
    f_Form___mul := f15, fd_Form___mul := _, F_Form___mul := F15,
    b_Form___mul := F15.binds (ps := ["self", "other"]) fun _ _ _ _ _ _ us hl => match us, hl with | [_, _], _ => rfl,
    f_Form___rmul := f16, fd_Form___rmul := _, F_Form___rmul := F16,
    b_Form___rmul := F16.binds (ps := ["self", "other"]) fun _ _ _ _ _ _ us hl => match us, hl with | [_, _], _ => rfl,
    f_Form___eq := f17, fd_Form___eq := _, F_Form___eq := F17,
    b_Form___eq := F17.binds (ps := ["self", "other"]) fun _ _ _ _ _ _ us hl => match us, hl with | [_, _], _ => rfl,
    f_Form___str := f18, fd_Form___str := _, F_Form___str := F18,
    b_Form___str := F18.binds (ps := ["self"]) fun _ _ _ _ _ _ us hl => match us, hl with | [_], _ => rfl,
    f_w_pot := f19, fd_w_pot := _, F_w_pot := F19,
    g_w_pot := PySem.W.mg_of X G a19,
    b_w_pot := F19.binds (ps := ["_law_script"]) fun _ _ _ _ _ _ us hl => match us, hl with | [_], _ => rfl,
    f_w_take := f20, fd_w_take := _, F_w_take := F20,
    g_w_take := PySem.W.mg_of X G a20,
    b_w_take := F20.binds (ps := ["_law_pot_here", "_law_size"]) fun _ _ _ _ _ _ us hl => match us, hl with | [_, _], _ => rfl,
    f_w_whole := f21, fd_w_whole := _, F_w_whole := F21,
    g_w_whole := PySem.W.mg_of X G a21,
    b_w_whole := F21.binds (ps := ["_law_found"]) fun _ _ _ _ _ _ us hl => match us, hl with | [_], _ => rfl,
    f_w_quantity := f22, fd_w_quantity := _, F_w_quantity := F22,
    g_w_quantity := PySem.W.mg_of X G a22,
    b_w_quantity := F22.binds (ps := ["_law_pot_here", "_law_shift"]) fun _ _ _ _ _ _ us hl => match us, hl with | [_, _], _ => rfl,
    f_w_pool := f23, fd_w_pool := _, F_w_pool := F23,
    g_w_pool := PySem.W.mg_of X G a23,
    b_w_pool := F23.binds (ps := ["_law_pot_here", "_law_most"]) fun _ _ _ _ _ _ us hl => match us, hl with | [_, _], _ => rfl,
    f_w_weight := f24, fd_w_weight := _, F_w_weight := F24,
    g_w_weight := PySem.W.mg_of X G a24,
    b_w_weight := F24.binds (ps := ["_law_pot_here"]) fun _ _ _ _ _ _ us hl => match us, hl with | [_], _ => rfl,
    f_w_pairs := f25, fd_w_pairs := _, F_w_pairs := F25,
    g_w_pairs := PySem.W.mg_of X G a25,
    b_w_pairs := F25.binds (ps := ["_law_pot_here", "_law_pool_here"]) fun _ _ _ _ _ _ us hl => match us, hl with | [_, _], _ => rfl,
    f_w_tidy := f26, fd_w_tidy := _, F_w_tidy := F26,
    g_w_tidy := PySem.W.mg_of X G a26,
    b_w_tidy := F26.binds (ps := ["_law_pairs_here", "_law_constant"]) fun _ _ _ _ _ _ us hl => match us, hl with | [_, _], _ => rfl,
    f_w_added := f27, fd_w_added := _, F_w_added := F27,
    g_w_added := PySem.W.mg_of X G a27,
    b_w_added := F27.binds (ps := ["_law_one", "_law_two", "_law_factor"]) fun _ _ _ _ _ _ us hl => match us, hl with | [_, _, _], _ => rfl,
    f_w_form_is := f28, fd_w_form_is := _, F_w_form_is := F28,
    g_w_form_is := PySem.W.mg_of X G a28,
    b_w_form_is := F28.binds (ps := ["_law_found", "_law_due"]) fun _ _ _ _ _ _ us hl => match us, hl with | [_, _], _ => rfl,
    f_w_lowest := f29, fd_w_lowest := _, F_w_lowest := F29,
    g_w_lowest := PySem.W.mg_of X G a29,
    b_w_lowest := F29.binds (ps := ["_law_top", "_law_bottom"]) fun _ _ _ _ _ _ us hl => match us, hl with | [_, _], _ => rfl,
    f_w_pair_is := f30, fd_w_pair_is := _, F_w_pair_is := F30,
    g_w_pair_is := PySem.W.mg_of X G a30,
    b_w_pair_is := F30.binds (ps := ["_law_found", "_law_pair"]) fun _ _ _ _ _ _ us hl => match us, hl with | [_, _], _ => rfl,
    f_w_value := f31, fd_w_value := _, F_w_value := F31,
    g_w_value := PySem.W.mg_of X G a31,
    b_w_value := F31.binds (ps := ["_law_due", "_law_world_here"]) fun _ _ _ _ _ _ us hl => match us, hl with | [_, _], _ => rfl,
    f_w_level := f32, fd_w_level := _, F_w_level := F32,
    g_w_level := PySem.W.mg_of X G a32,
    b_w_level := F32.binds (ps := ["_law_pot_here"]) fun _ _ _ _ _ _ us hl => match us, hl with | [_], _ => rfl,
    f_is_word := f33, fd_is_word := _, F_is_word := F33,
    g_is_word := PySem.W.mg_of X G a33,
    b_is_word := F33.binds (ps := ["text"]) fun _ _ _ _ _ _ us hl => match us, hl with | [_], _ => rfl,
    f_Form_one := f34, fd_Form_one := _, F_Form_one := F34,
    b_Form_one := F34.binds (ps := ["name"]) fun _ _ _ _ _ _ us hl => match us, hl with | [_], _ => rfl,
    f_Form_gap := f35, fd_Form_gap := _, F_Form_gap := F35,
    b_Form_gap := F35.binds (ps := ["first", "second"]) fun _ _ _ _ _ _ us hl => match us, hl with | [_, _], _ => rfl,
    f_Form___radd := f36, fd_Form___radd := _, F_Form___radd := F36,
    b_Form___radd := F36.binds (ps := ["self", "other"]) fun _ _ _ _ _ _ us hl => match us, hl with | [_, _], _ => rfl,
    f_Form___rsub := f37, fd_Form___rsub := _, F_Form___rsub := F37,
    b_Form___rsub := F37.binds (ps := ["self", "other"]) fun _ _ _ _ _ _ us hl => match us, hl with | [_, _], _ => rfl,
    f_Form___contains := f38, fd_Form___contains := _, F_Form___contains := F38,
    b_Form___contains := F38.binds (ps := ["self", "name"]) fun _ _ _ _ _ _ us hl => match us, hl with | [_, _], _ => rfl,
    f_Form___getitem := f39, fd_Form___getitem := _, F_Form___getitem := F39,
    b_Form___getitem := F39.binds (ps := ["self", "name"]) fun _ _ _ _ _ _ us hl => match us, hl with | [_, _], _ => rfl,
    f_Form___len := f40, fd_Form___len := _, F_Form___len := F40,
    b_Form___len := F40.binds (ps := ["self"]) fun _ _ _ _ _ _ us hl => match us, hl with | [_], _ => rfl,
    f_w_contents_right := f41, fd_w_contents_right := _, F_w_contents_right := F41,
    g_w_contents_right := PySem.W.mg_of X G a41,
    b_w_contents_right := F41.binds (ps := ["_law_found", "_law_due", "_law_pool_here"]) fun _ _ _ _ _ _ us hl => match us, hl with | [_, _, _], _ => rfl,
    f_w_sums_right := f42, fd_w_sums_right := _, F_w_sums_right := F42,
    g_w_sums_right := PySem.W.mg_of X G a42,
    b_w_sums_right := F42.binds (ps := ["_law_first", "_law_second", "_law_one", "_law_two", "_law_number"]) fun _ _ _ _ _ _ us hl => match us, hl with | [_, _, _, _, _], _ => rfl,
    f_w_equal_right := f43, fd_w_equal_right := _, F_w_equal_right := F43,
    g_w_equal_right := PySem.W.mg_of X G a43,
    b_w_equal_right := F43.binds (ps := ["_law_first", "_law_second", "_law_one", "_law_two", "_law_pairs_here", "_law_text"]) fun _ _ _ _ _ _ us hl => match us, hl with | [_, _, _, _, _, _], _ => rfl,
    f_w_world := f44, fd_w_world := _, F_w_world := F44,
    g_w_world := PySem.W.mg_of X G a44,
    b_w_world := F44.binds (ps := ["_law_pot_here", "_law_pool_here"]) fun _ _ _ _ _ _ us hl => match us, hl with | [_, _], _ => rfl,
    f_w_value_right := f45, fd_w_value_right := _, F_w_value_right := F45,
    g_w_value_right := PySem.W.mg_of X G a45,
    b_w_value_right := F45.binds (ps := ["_law_found", "_law_due", "_law_world_here"]) fun _ _ _ _ _ _ us hl => match us, hl with | [_, _, _], _ => rfl,
    f_w_letters := f46, fd_w_letters := _, F_w_letters := F46,
    g_w_letters := PySem.W.mg_of X G a46,
    b_w_letters := F46.binds (ps := ["_law_text", "_law_signs"]) fun _ _ _ _ _ _ us hl => match us, hl with | [_, _], _ => rfl,
    f_w_word := f47, fd_w_word := _, F_w_word := F47,
    g_w_word := PySem.W.mg_of X G a47,
    b_w_word := F47.binds (ps := ["_law_text"]) fun _ _ _ _ _ _ us hl => match us, hl with | [_], _ => rfl,
    f_w_good := f48, fd_w_good := _, F_w_good := F48,
    g_w_good := PySem.W.mg_of X G a48,
    b_w_good := F48.binds (ps := ["_law_text"]) fun _ _ _ _ _ _ us hl => match us, hl with | [_], _ => rfl,
    f_make_form := f49, fd_make_form := _, F_make_form := F49,
    g_make_form := PySem.W.mg_of X G a49,
    f_w_near := f50, fd_w_near := _, F_w_near := F50,
    g_w_near := PySem.W.mg_of X G a50,
    b_w_near := F50.binds (ps := ["_law_pot_here", "_law_text"]) fun _ _ _ _ _ _ us hl => match us, hl with | [_, _], _ => rfl,
    f_w_names_right := f51, fd_w_names_right := _, F_w_names_right := F51,
    g_w_names_right := PySem.W.mg_of X G a51,
    b_w_names_right := F51.binds (ps := ["_law_pot_here", "_law_pool_here", "_law_pairs_here"]) fun _ _ _ _ _ _ us hl => match us, hl with | [_, _, _], _ => rfl,
    f_w_keywords_refused := f52, fd_w_keywords_refused := _, F_w_keywords_refused := F52,
    g_w_keywords_refused := PySem.W.mg_of X G a52,
    b_w_keywords_refused := F52.binds (ps := ["_law_one", "_law_two"]) fun _ _ _ _ _ _ us hl => match us, hl with | [_, _], _ => rfl,
    f_w_made_right := f53, fd_w_made_right := _, F_w_made_right := F53,
    g_w_made_right := PySem.W.mg_of X G a53,
    b_w_made_right := F53.binds (ps := ["_law_pot_here"]) fun _ _ _ _ _ _ us hl => match us, hl with | [_], _ => rfl,
    f_w_single_right := f54, fd_w_single_right := _, F_w_single_right := F54,
    g_w_single_right := PySem.W.mg_of X G a54,
    b_w_single_right := F54.binds (ps := ["_law_pot_here", "_law_pool_here"]) fun _ _ _ _ _ _ us hl => match us, hl with | [_, _], _ => rfl,
    f_law := fa, fd_law := _, F_law := F55,
    g_law := PySem.W.mg_of X G a55,
    b_law := F55.binds (ps := ["_law_script"]) fun _ _ _ _ _ _ us hl => match us, hl with | [_], _ => rfl,
    m_len := PySem.W.mg_none_of X G z0,
    m_range := PySem.W.mg_none_of X G z1,
    m_isinstance := PySem.W.mg_none_of X G z2,
    m_int := PySem.W.mg_none_of X G z3,
    m_bool := PySem.W.mg_none_of X G z4,
    m_str := PySem.W.mg_none_of X G z5,
    m_list := PySem.W.mg_none_of X G z6,
    m_tuple := PySem.W.mg_none_of X G z7,
    m_dict := PySem.W.mg_none_of X G z8,
    m_abs := PySem.W.mg_none_of X G z9,
    m_max := PySem.W.mg_none_of X G z10,
    m_sum := PySem.W.mg_none_of X G z11,
    m_sorted := PySem.W.mg_none_of X G z12,
    m_all := PySem.W.mg_none_of X G z13,
    m_NotImplemented := PySem.W.mg_none_of X G z14,
    m_ZeroDivisionError := PySem.W.mg_none_of X G z15,
    m_ValueError := PySem.W.mg_none_of X G z16,
    m_gcd := PySem.W.mg_of X G z17,
    C_Form := C_Form, gC_Form := PySem.W.mg_of X G o0g, oc_Form := ⟨⟨o0a, o0b, o0c, o0d⟩, o0e, o0f, o0h, o0i, o0j⟩,
    ty_Form := o0z1, kt_Form := o0z2, ks_Form := o0z3,
    na_Form_terms := o0n0,
    na_Form_constant := o0n1,
    mk_Form := ⟨o0k, a9, fn9, o0l⟩,
    me_Form_names := ⟨a10, fn10, k10⟩,
    co_Form := ⟨a11, fn11, fi11⟩,
    me_Form___add := ⟨a12, fn12, k12⟩,
    me_Form___sub := ⟨a13, fn13, k13⟩,
    me_Form___neg := ⟨a14, fn14, k14⟩,
    me_Form___mul := ⟨a15, fn15, k15⟩,
    me_Form___rmul := ⟨a16, fn16, k16⟩,
    me_Form___eq := ⟨a17, fn17, k17⟩,
    me_Form___str := ⟨a18, fn18, k18⟩,
    sp_Form_one := ps34, sm_Form_one := ⟨a34, ⟨_, as34⟩, k34⟩,
    sp_Form_gap := ps35, sm_Form_gap := ⟨a35, ⟨_, as35⟩, k35⟩,
    me_Form___radd := ⟨a36, fn36, k36⟩,
    me_Form___rsub := ⟨a37, fn37, k37⟩,
    me_Form___contains := ⟨a38, fn38, k38⟩,
    fi_Form___getitem := fi39,
    me_Form___getitem := ⟨a39, fn39, k39⟩,
    me_Form___len := ⟨a40, fn40, k40⟩,
    cr_Form := ⟨o0x, o0y⟩,
    si_Form := o0s, is_Form := o0t,
    rr_Form_mul := ⟨_, o0r_mul⟩, if_mul := o0u_mul, ir_mul := o0v_mul,
    rr_Form_add := ⟨_, o0r_add⟩, if_add := o0u_add, ir_add := o0v_add,
    rr_Form_sub := ⟨_, o0r_sub⟩, if_sub := o0u_sub, ir_sub := o0v_sub,
    c_LETTERS := ⟨_, PySem.W.mg_of X G z18⟩,
    c_QUANTITY_SIGNS := ⟨_, PySem.W.mg_of X G z19⟩,
    c_LONGEST_WORD := ⟨_, PySem.W.mg_of X G z20⟩,
    c_LONGEST_QUANTITY := ⟨_, PySem.W.mg_of X G z21⟩,
    C_BadName := C_BadName, gC_BadName := PySem.W.mg_of X G eC0,
    C_NoQuantity := C_NoQuantity, gC_NoQuantity := PySem.W.mg_of X G eC1,
    C_MeteError := C_MeteError, gC_MeteError := PySem.W.mg_of X G eC2,
    Z_BadName := fun w => ⟨⟨fE0, ccE0, cdaE0, _, _, _, _, _, _, _, _, _, sh_BadName, ⟨⟨_, _, _, _, _, _, _, _, _, _, _, _, _, _, _, eL0, eR0⟩, eS0, eI0, et0, ⟨_, _, _, eo0⟩, ⟨_, _, _, _, _, ed0, eq0⟩, ep0, ev0, em0, es2, PySem.W.mg_none_of X G es3, rfl⟩, ef0, ec0⟩, PySem.W.mg_of X G eC0, ek0, en0, eB0, eT0⟩,
    X_BadName := ⟨eG0, eg0, eB0, eH0, ea0, es0, es1, eb0⟩,
    xf_BadName := ⟨eG0, eg0, eB0, eH0⟩,
    Z_NoQuantity := fun w => ⟨⟨fE1, ccE1, cdaE1, _, _, _, _, _, _, _, _, _, sh_NoQuantity, ⟨⟨_, _, _, _, _, _, _, _, _, _, _, _, _, _, _, eL1, eR1⟩, eS1, eI1, et1, ⟨_, _, _, eo1⟩, ⟨_, _, _, _, _, ed1, eq1⟩, ep1, ev1, em1, es2, PySem.W.mg_none_of X G es3, rfl⟩, ef1, ec1⟩, PySem.W.mg_of X G eC1, ek1, en1, eB1, eT1⟩,
    X_NoQuantity := ⟨eG1, eg1, eB1, eH1, ea1, es0, es1, eb1⟩,
    xf_NoQuantity := ⟨eG1, eg1, eB1, eH1⟩,
    kit_BadName_MeteError := Er.kit_refs eH2 eT2 ez0_2 ez0_2n,
    kit_BadName_ValueError := Er.kit_typ (by decide +kernel) ey0_ValueError,
    kit_BadName_NoQuantity := Er.kit_refs eH1 eT1 ez0_1 ez0_1n,
    kit_NoQuantity_MeteError := Er.kit_refs eH2 eT2 ez1_2 ez1_2n,
    kit_NoQuantity_ValueError := Er.kit_typ (by decide +kernel) ey1_ValueError,
    kit_NoQuantity_BadName := Er.kit_refs eH0 eT0 ez1_0 ez1_0n,
    exm_BadName_BadName := PySem.W.exm_ref eB0 eH0 eT0 ex0_0,
    exm_NoQuantity_NoQuantity := PySem.W.exm_ref eB1 eH1 eT1 ex1_1 }
  refine ⟨T.fd_law, fun s v => .of_eq rfl, fun base _ _ => ?_⟩
  exact law_of T
end My
open PySem PySem.W PyProof.Rows
set_option maxHeartbeats 0 in
theorem PySem.Challenge.cw_metehouse_k01_forms_as_values_holds : PySem.Challenge.rw_metehouse_k01_forms_as_values.Holds := by
  w_on; o_law; k_head; (case hw => w_witness2)
  k_fill
  refine L2.walk_of (l := PySem.Challenge.rw_metehouse_k01_forms_as_values) (n := 63) (k := 8) (x := "_law_script") (CX := fun _ => L2.CX0) (sp := fun w => My.spLaw _) rfl (by decide) rfl ⟨rfl, by decide, by decide⟩ (fun w h Y => PySem.W.kIn_of Y) ?F (fun _ _ a ns hl _ hS => ⟨a, ns, rfl, hS, hl, fun _ => rfl⟩) (fun _ _ _ _ _ h => h)
  case F =>
    intro w mg fa h KX G hmg
    refine' My.all_mk KX G hmg ?o0g ?a0 ?l0 ?c0 ?k0 ?d0 ?a1 ?l1 ?c1 ?k1 ?a2 ?l2 ?c2 ?k2 ?a3 ?l3 ?c3 ?k3 ?a4 ?l4 ?c4 ?k4 ?a5 ?l5 ?c5 ?k5 ?a6 ?l6 ?c6 ?k6 ?a7 ?l7 ?c7 ?k7 ?a8 ?l8 ?c8 ?k8 ?a9 ?l9 ?c9 ?k9 ?d9 ?yE9 ?a10 ?l10 ?c10 ?k10 ?a11 ?l11 ?c11 ?k11 ?a12 ?l12 ?c12 ?k12 ?a13 ?l13 ?c13 ?k13 ?a14 ?l14 ?c14 ?k14 ?a15 ?l15 ?c15 ?k15 ?a16 ?l16 ?c16 ?k16 ?a17 ?l17 ?c17 ?k17 ?a18 ?l18 ?c18 ?k18 ?a19 ?l19 ?c19 ?k19 ?a20 ?l20 ?c20 ?k20 ?a21 ?l21 ?c21 ?k21 ?a22 ?l22 ?c22 ?k22 ?a23 ?l23 ?c23 ?k23 ?a24 ?l24 ?c24 ?k24 ?a25 ?l25 ?c25 ?k25 ?a26 ?l26 ?c26 ?k26 ?a27 ?l27 ?c27 ?k27 ?a28 ?l28 ?c28 ?k28 ?a29 ?l29 ?c29 ?k29 ?a30 ?l30 ?c30 ?k30 ?a31 ?l31 ?c31 ?k31 ?a32 ?l32 ?c32 ?k32 ?a33 ?l33 ?c33 ?k33 ?a34 ?as34 ?l34 ?c34 ?k34 ?a35 ?as35 ?l35 ?c35 ?k35 ?a36 ?l36 ?c36 ?k36 ?a37 ?l37 ?c37 ?k37 ?a38 ?l38 ?c38 ?k38 ?a39 ?l39 ?c39 ?k39 ?a40 ?l40 ?c40 ?k40 ?a41 ?l41 ?c41 ?k41 ?a42 ?l42 ?c42 ?k42 ?a43 ?l43 ?c43 ?k43 ?a44 ?l44 ?c44 ?k44 ?a45 ?l45 ?c45 ?k45 ?a46 ?l46 ?c46 ?k46 ?a47 ?l47 ?c47 ?k47 ?a48 ?l48 ?c48 ?k48 ?a49 ?l49 ?c49 ?k49 ?a50 ?l50 ?c50 ?k50 ?a51 ?l51 ?c51 ?k51 ?a52 ?l52 ?c52 ?k52 ?a53 ?l53 ?c53 ?k53 ?a54 ?l54 ?c54 ?k54 ?a55 ?l55 ?c55 ?k55 ?z0 ?z1 ?z2 ?z3 ?z4 ?z5 ?z6 ?z7 ?z8 ?z9 ?z10 ?z11 ?z12 ?z13 ?z14 ?z15 ?z16 ?z17 ?o0a ?o0b ?o0c ?o0d ?o0e ?o0f ?o0h ?o0i ?o0j ?o0z1 ?o0z2 ?o0z3 ?o0n0 ?o0n1 ?o0k ?o0l ?fn9 ?fn10 ?fn11 ?fi11 ?fn12 ?fn13 ?fn14 ?fn15 ?fn16 ?fn17 ?fn18 ?fn36 ?fn37 ?fn38 ?fi39 ?fn39 ?fn40 ?o0x ?o0y ?o0s ?o0t ?o0r_mul ?o0u_mul ?o0v_mul ?o0r_add ?o0u_add ?o0v_add ?o0r_sub ?o0u_sub ?o0v_sub ?z18 ?z19 ?z20 ?z21 ?es0 ?es1 ?es2 ?es3 ?eC0 ?eB0 ?eH0 ?eT0 ?eC1 ?eB1 ?eH1 ?eT1 ?eC2 ?eB2 ?eH2 ?eT2 ?eL0 ?eR0 ?eS0 ?eG0 ?eg0 ?en0 ?eI0 ?et0 ?ef0 ?ec0 ?eo0 ?ed0 ?eq0 ?ep0 ?ev0 ?em0 ?ek0 ?ea0 ?eb0 ?eL1 ?eR1 ?eS1 ?eG1 ?eg1 ?en1 ?eI1 ?et1 ?ef1 ?ec1 ?eo1 ?ed1 ?eq1 ?ep1 ?ev1 ?em1 ?ek1 ?ea1 ?eb1 ?ez0_2 ?ez0_2n ?ey0_ValueError ?ez0_1 ?ez0_1n ?ez1_2 ?ez1_2n ?ey1_ValueError ?ez1_0 ?ez1_0n ?ex0_0 ?ex1_1
    (case o0g => k_is)
    (case a0 => k_is)
    (case l0 => k_is)
    (case c0 => k_is)
    (case k0 => k_is)
    (case d0 => k_is)
    (case a1 => k_is)
    (case l1 => k_is)
    (case c1 => k_is)
    (case k1 => k_is)
    (case a2 => k_is)
    (case l2 => k_is)
    (case c2 => k_is)
    (case k2 => k_is)
    (case a3 => k_is)
    (case l3 => k_is)
    (case c3 => k_is)
    (case k3 => k_is)
    (case a4 => k_is)
    (case l4 => k_is)
    (case c4 => k_is)
    (case k4 => k_is)
    (case a5 => k_is)
    (case l5 => k_is)
    (case c5 => k_is)
    (case k5 => k_is)
    (case a6 => k_is)
    (case l6 => k_is)
    (case c6 => k_is)
    (case k6 => k_is)
    (case a7 => k_is)
    (case l7 => k_is)
    (case c7 => k_is)
    (case k7 => k_is)
    (case a8 => k_is)
    (case l8 => k_is)
    (case c8 => k_is)
    (case k8 => k_is)
    (case a9 => k_is)
    (case l9 => k_is)
    (case c9 => k_is)
    (case k9 => k_is)
    (case d9 => k_is)
    (case yE9 => k_is)
    (case a10 => k_is)
    (case l10 => k_is)
    (case c10 => k_is)
    (case k10 => k_is)
    (case a11 => k_is)
    (case l11 => k_is)
    (case c11 => k_is)
    (case k11 => k_is)
    (case a12 => k_is)
    (case l12 => k_is)
    (case c12 => k_is)
    (case k12 => k_is)
    (case a13 => k_is)
    (case l13 => k_is)
    (case c13 => k_is)
    (case k13 => k_is)
    (case a14 => k_is)
    (case l14 => k_is)
    (case c14 => k_is)
    (case k14 => k_is)
    (case a15 => k_is)
    (case l15 => k_is)
    (case c15 => k_is)
    (case k15 => k_is)
    (case a16 => k_is)
    (case l16 => k_is)
    (case c16 => k_is)
    (case k16 => k_is)
    (case a17 => k_is)
    (case l17 => k_is)
    (case c17 => k_is)
    (case k17 => k_is)
    (case a18 => k_is)
    (case l18 => k_is)
    (case c18 => k_is)
    (case k18 => k_is)
    (case a19 => k_is)
    (case l19 => k_is)
    (case c19 => k_is)
    (case k19 => k_is)
    (case a20 => k_is)
    (case l20 => k_is)
    (case c20 => k_is)
    (case k20 => k_is)
    (case a21 => k_is)
    (case l21 => k_is)
    (case c21 => k_is)
    (case k21 => k_is)
    (case a22 => k_is)
    (case l22 => k_is)
    (case c22 => k_is)
    (case k22 => k_is)
    (case a23 => k_is)
    (case l23 => k_is)
    (case c23 => k_is)
    (case k23 => k_is)
    (case a24 => k_is)
    (case l24 => k_is)
    (case c24 => k_is)
    (case k24 => k_is)
    (case a25 => k_is)
    (case l25 => k_is)
    (case c25 => k_is)
    (case k25 => k_is)
    (case a26 => k_is)
    (case l26 => k_is)
    (case c26 => k_is)
    (case k26 => k_is)
    (case a27 => k_is)
    (case l27 => k_is)
    (case c27 => k_is)
    (case k27 => k_is)
    (case a28 => k_is)
    (case l28 => k_is)
    (case c28 => k_is)
    (case k28 => k_is)
    (case a29 => k_is)
    (case l29 => k_is)
    (case c29 => k_is)
    (case k29 => k_is)
    (case a30 => k_is)
    (case l30 => k_is)
    (case c30 => k_is)
    (case k30 => k_is)
    (case a31 => k_is)
    (case l31 => k_is)
    (case c31 => k_is)
    (case k31 => k_is)
    (case a32 => k_is)
    (case l32 => k_is)
    (case c32 => k_is)
    (case k32 => k_is)
    (case a33 => k_is)
    (case l33 => k_is)
    (case c33 => k_is)
    (case k33 => k_is)
    (case a34 => k_is)
    (case as34 => k_is)
    (case l34 => k_is)
    (case c34 => k_is)
    (case k34 => k_is)
    (case a35 => k_is)
    (case as35 => k_is)
    (case l35 => k_is)
    (case c35 => k_is)
    (case k35 => k_is)
    (case a36 => k_is)
    (case l36 => k_is)
    (case c36 => k_is)
    (case k36 => k_is)
    (case a37 => k_is)
    (case l37 => k_is)
    (case c37 => k_is)
    (case k37 => k_is)
    (case a38 => k_is)
    (case l38 => k_is)
    (case c38 => k_is)
    (case k38 => k_is)
    (case a39 => k_is)
    (case l39 => k_is)
    (case c39 => k_is)
    (case k39 => k_is)
    (case a40 => k_is)
    (case l40 => k_is)
    (case c40 => k_is)
    (case k40 => k_is)
    (case a41 => k_is)
    (case l41 => k_is)
    (case c41 => k_is)
    (case k41 => k_is)
    (case a42 => k_is)
    (case l42 => k_is)
    (case c42 => k_is)
    (case k42 => k_is)
    (case a43 => k_is)
    (case l43 => k_is)
    (case c43 => k_is)
    (case k43 => k_is)
    (case a44 => k_is)
    (case l44 => k_is)
    (case c44 => k_is)
    (case k44 => k_is)
    (case a45 => k_is)
    (case l45 => k_is)
    (case c45 => k_is)
    (case k45 => k_is)
    (case a46 => k_is)
    (case l46 => k_is)
    (case c46 => k_is)
    (case k46 => k_is)
    (case a47 => k_is)
    (case l47 => k_is)
    (case c47 => k_is)
    (case k47 => k_is)
    (case a48 => k_is)
    (case l48 => k_is)
    (case c48 => k_is)
    (case k48 => k_is)
    (case a49 => k_is)
    (case l49 => k_is)
    (case c49 => k_is)
    (case k49 => k_is)
    (case a50 => k_is)
    (case l50 => k_is)
    (case c50 => k_is)
    (case k50 => k_is)
    (case a51 => k_is)
    (case l51 => k_is)
    (case c51 => k_is)
    (case k51 => k_is)
    (case a52 => k_is)
    (case l52 => k_is)
    (case c52 => k_is)
    (case k52 => k_is)
    (case a53 => k_is)
    (case l53 => k_is)
    (case c53 => k_is)
    (case k53 => k_is)
    (case a54 => k_is)
    (case l54 => k_is)
    (case c54 => k_is)
    (case k54 => k_is)
    (case a55 => k_is)
    (case l55 => k_is)
    (case c55 => k_is)
    (case k55 => k_is)
    (case z0 => k_is)
    (case z1 => k_is)
    (case z2 => k_is)
    (case z3 => k_is)
    (case z4 => k_is)
    (case z5 => k_is)
    (case z6 => k_is)
    (case z7 => k_is)
    (case z8 => k_is)
    (case z9 => k_is)
    (case z10 => k_is)
    (case z11 => k_is)
    (case z12 => k_is)
    (case z13 => k_is)
    (case z14 => k_is)
    (case z15 => k_is)
    (case z16 => k_is)
    (case z17 => k_is)
    (case o0a => k_is)
    (case o0b => k_is)
    (case o0c => k_is)
    (case o0d => k_is)
    (case o0e => k_is)
    (case o0f => k_is)
    (case o0h => k_is)
    (case o0i => k_is)
    (case o0j => k_is)
    (case o0z1 => k_is)
    (case o0z2 => k_is)
    (case o0z3 => k_is)
    (case o0n0 => k_is)
    (case o0n1 => k_is)
    (case o0k => k_is)
    (case o0l => k_is)
    (case fn9 => k_is)
    (case fn10 => k_is)
    (case fn11 => k_is)
    (case fi11 => k_is)
    (case fn12 => k_is)
    (case fn13 => k_is)
    (case fn14 => k_is)
    (case fn15 => k_is)
    (case fn16 => k_is)
    (case fn17 => k_is)
    (case fn18 => k_is)
    (case fn36 => k_is)
    (case fn37 => k_is)
    (case fn38 => k_is)
    (case fi39 => k_is)
    (case fn39 => k_is)
    (case fn40 => k_is)
    (case o0x => k_is)
    (case o0y => k_is)
    (case o0s => k_is)
    (case o0t => k_is)
    (case o0r_mul => k_is)
    (case o0u_mul => k_is)
    (case o0v_mul => k_is)
    (case o0r_add => k_is)
    (case o0u_add => k_is)
    (case o0v_add => k_is)
    (case o0r_sub => k_is)
    (case o0u_sub => k_is)
    (case o0v_sub => k_is)
    (case z18 => k_is)
    (case z19 => k_is)
    (case z20 => k_is)
    (case z21 => k_is)
    (case es0 => k_is)
    (case es1 => k_is)
    (case es2 => k_is)
    (case es3 => k_is)
    (case eC0 => k_is)
    (case eB0 => k_is)
    (case eH0 => k_is)
    (case eT0 => k_is)
    (case eC1 => k_is)
    (case eB1 => k_is)
    (case eH1 => k_is)
    (case eT1 => k_is)
    (case eC2 => k_is)
    (case eB2 => k_is)
    (case eH2 => k_is)
    (case eT2 => k_is)
    (case eL0 => k_is)
    (case eR0 => decide +kernel)
    (case eS0 => k_is)
    (case eG0 => k_is)
    (case eg0 => k_is)
    (case en0 => k_is)
    (case eI0 => k_is)
    (case et0 => k_is)
    (case ef0 => k_is)
    (case ec0 => k_is)
    (case eo0 => k_is)
    (case ed0 => k_is)
    (case eq0 => rfl)
    (case ep0 => ks_is)
    (case ev0 => k_is)
    (case em0 => k_is)
    (case ek0 => k_is)
    (case ea0 => k_is)
    (case eb0 => k_is)
    (case eL1 => k_is)
    (case eR1 => decide +kernel)
    (case eS1 => k_is)
    (case eG1 => k_is)
    (case eg1 => k_is)
    (case en1 => k_is)
    (case eI1 => k_is)
    (case et1 => k_is)
    (case ef1 => k_is)
    (case ec1 => k_is)
    (case eo1 => k_is)
    (case ed1 => k_is)
    (case eq1 => rfl)
    (case ep1 => ks_is)
    (case ev1 => k_is)
    (case em1 => k_is)
    (case ek1 => k_is)
    (case ea1 => k_is)
    (case eb1 => k_is)
    (case ez0_2 => k_is)
    (case ez0_2n => rfl)
    (case ey0_ValueError => k_is)
    (case ez0_1 => k_is)
    (case ez0_1n => rfl)
    (case ez1_2 => k_is)
    (case ez1_2n => rfl)
    (case ey1_ValueError => k_is)
    (case ez1_0 => k_is)
    (case ez1_0n => rfl)
    (case ex0_0 => k_is)
    (case ex1_1 => k_is)
