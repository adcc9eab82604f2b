import PyProof.Rows.All
import Wide.All
import OpenK.AllK
import Wide.FinOn
import HandS.ForMost
import HandS.Exc
import HandS.TryOnly
import HandS.ExcOwn
import HandS.ExcBuiltin
import HandS.WordsExc
import HandS.IsInst
import HandS.Defaults
import HandS.Star
import HandS.Flow
import HandS.Wide
import HandS.Gcd
import HandS.Evl
import HandS.CallSlots
import KE.KExcSuper
import HandS.ExcInit
import HandS.FStr
import HandS.ExcIs
import HandS.ExcField
import KE.KExcIs
import KE.KOpsOwn
import KE.KCallOwn
import HandS.OwnEq
import PyProof.ListMulRight
import HandS.Codes
import HandS.SlotsOwn
import PyProof.Rows.TmSorted
import PyProof.Rows.StrMeet
import HandS.Walk
import HandS.RaiseMore
import HandS.TupAny
import HandS.Conv
import PyProof.Rows.StrDigitsNeg
import HandS.Zip
import HandS.DictComp
import KE.KDictWalk
import HandS.TupLen
import HandS.Deep
import HandS.SortRule
import HandS.Sort
import HandS.DictEq
import KE.KDictCopyH
import HandS.DictTup
import KE.KDictDisplayH
import PyProof.DictMoreH
import HandS.ClsMeth
import KE.KParD
import HandS.TryMany
import PyProof.StrBlock2
import PyProof.TupleKey
import HandS.HotCalls
import PySem.Challenge.RW_metehouse_k42_whole_quickest_races
set_option Elab.async false
set_option linter.all false
set_option maxRecDepth 100000
set_option maxHeartbeats 4000000
namespace My
open PySem PySem.Spec PyProof.Rows L2 StX
/-! ### rules of my own -/
section
variable {X : Cx}
/-- floor division by any divisor that is not 0, below 2 ^ 9000 in size -/
theorem op_fdivWN : OpR X (binaryOp .FloorDiv) (rI (fun _ j => j ≠ 0 ∧ j.natAbs.log2 < 9000) fun i j => .int (i.fdiv j)) :=
  opI fun _ _ _ _ _ _ _ hc q => floordiv_int hc.1 q (.inl (PyProof.noPylong_of_log2 hc.2))
theorem op_mulG : OpR X (binaryOp .Mult) (rI (fun i j => CMul i j ∨ CMulW i j) fun i j => .int (i * j)) := opI fun _ _ _ _ _ _ _ hc q => mul_int q (hc.elim CMul.ok CMulW.ok)
variable {CX : CXT} {k : Nat} {f : Addr} {sp : Sp} {E : XK} {x : Str} {p pos : Pos} {e : Expr} {es : List Expr} {t : TA}
/-- a call of a def whose promise is told raw -/
theorem pe_callR (F : FnR X.prog X.w X.K X.mg X.base CX k f sp) (hr : Room k X.A) (hg : Gl X x) (hm : X.mg x = some (.ref f)) (hk : PySem.W.keepIn X.K (.ref f) = true) (hx : Passes CX X E)
    (ha : PA X (e :: es) t) (hdb : (x == ("__debug__" : Str)) = false := by decide) (he : starEach (e :: es) X.env = (false, eval e X.env) :: starEach es X.env := by rfl) (hpl : (backTo pos (starEach es X.env)).any (·.1) = false := by rfl) :
    PE X (.Call (.Name x p) (e :: es) [] pos) (fun σ H Q => t σ H fun vs H1 => sp vs H1 Q E) := by
  refine ⟨fun pins s σ H Q I h => ?_⟩
  refine wpAny_Call_Name_kw (ld_glob I hg hm ?_ hdb)
  refine PySem.W.callWith_K (h₀ := X.base) I.ok.mod.kin hk (thn (ha.run pos pins s σ H _ I h) fun us s1 ⟨vs, H1, I1, r, q⟩ => ⟨I1.kIn, ?_⟩) he hpl
  exact wpAny_call (run_fnR F hr hx I1 r q)
theorem pe_callR0 (F : FnR X.prog X.w X.K X.mg X.base CX k f sp) (hr : Room k X.A) (hg : Gl X x) (hm : X.mg x = some (.ref f)) (hk : PySem.W.keepIn X.K (.ref f) = true) (hx : Passes CX X E)
    (hdb : (x == ("__debug__" : Str)) = false := by decide) : PE X (.Call (.Name x p) [] [] pos) (fun σ H Q => sp [] H Q E) := by
  refine ⟨fun pins s σ H Q I h => ?_⟩
  refine wpAny_Call_Name_kw (ld_glob I hg hm ?_ hdb)
  exact PySem.W.callWith_K0 I.kIn hk (wpAny_call (run_fnR (us := []) F hr hx I .nil h))
end
section
variable {P : Program} {w : World} {K : PySem.W.Frag} {mg : Str → Option Value} {base : Heap}
/-- def f(a, .., *v) that lets nothing out -/
theorem Fun.okStar {x qual : Str} {st : Stmt} {f : Addr} {fd : FuncData} {N ps : List Str} {pv : Str} {k : Nat} {sp : Sp} (F : Fun K x qual st f fd) (S : FnScope N (ps ++ [pv]) (defScope st))
    (hb : ∀ (kV doc pm : Value) (an : Option Addr) (cdv ct : Value) (us rest : List Value), us.length = ps.length → bindArgs (PySem.W.fnOf x qual (defArgs st) (defBody st) (defScope st) .none kV doc pm an cdv ct) ⟨us ++ rest, []⟩ = (newTuple rest >>= fun t => pure (ps.zip us ++ [(pv, t)])))
    (hbody : ∀ (cdv : Value) (A : Around) (outer : List Env) (s : Shared) (H : Hp) (vs : List V) (Q : VK) (E : XK), Room k (A.deeper (envOfC qual (defScope st) s.heap.objs.size f cdv)) → sp vs H Q E →
      ∃ t, PSs (cxOf CX0 P w K mg base N qual (defScope st) f cdv A outer s H E).nox (defBody st) t ∧ t { nx := fun _ H' => Q .non H', rt := Q } (start N vs) H) :
    FnR P w K mg base CX0 (k + 1) f (fun vs H Q E => ∃ ws rest, vs = ws ++ rest ∧ ws.length = ps.length ∧ rest.length ≤ sizeLine ∧ ∀ p, H p = Option.none → sp (ws ++ [V.ref p]) (upd H p (.tup rest)) Q E) := by
  obtain ⟨oc, od, kV, doc, pm, an, cdv, ct, osl, rfl, lk, hcd⟩ := F.ex
  refine fn_star lk hcd S cxUp_none (hb kV doc pm an cdv ct) fun A outer s H vs Q E hr hsp => ?_
  obtain ⟨t, h, q⟩ := hbody cdv A outer s H vs Q E hr hsp
  exact ⟨t, h.nox, q⟩
end
/-! ### heaps: what is kept but at some addresses -/
def Keep (M : List Addr) (H H' : Hp) : Prop := ∀ b o, b ∉ M → H b = some o → H' b = some o
theorem Keep.refl (M : List Addr) (H : Hp) : Keep M H H := fun _ _ _ h => h
theorem Keep.trans {M : List Addr} {H H1 H2 : Hp} (a : Keep M H H1) (b : Keep M H1 H2) : Keep M H H2 := fun c o n h => b c o n (a c o n h)
theorem Keep.new {M : List Addr} {H : Hp} {p : Addr} {o : HO} (h : H p = none) : Keep M H (upd H p o) := fun b u _ e => by
  rw [upd_ne (ne_of_none e h)]; exact e
theorem Keep.at {M : List Addr} {H : Hp} {p : Addr} {o : HO} (h : p ∈ M) : Keep M H (upd H p o) := fun b u n e => by
  rw [upd_ne (fun z => n (by rw [z]; exact h))]; exact e
/-- an object that H does not know may change -/
theorem Keep.mut {M : List Addr} {H H' : Hp} {p : Addr} {o : HO} (e : Keep M H H') (h : H p = none) : Keep M H (upd H' p o) := fun b u n hb => by
  rw [upd_ne (ne_of_none hb h)]; exact e b u n hb
theorem Keep.mono {M N : List Addr} {H H' : Hp} (e : Keep M H H') (h : ∀ a ∈ M, a ∈ N) : Keep N H H' := fun b o n hb => e b o (fun z => n (h b z)) hb
theorem Keep.rd {M : List Addr} {H H' : Hp} {a : Addr} {u : HO} (e : Keep M H H') (n : a ∉ M) (h : Rd H a u) : Rd H' a u := by
  rcases h with h | ⟨o, h⟩
  · exact Or.inl (e a _ n h)
  · exact Or.inr ⟨o, e a _ n h⟩
theorem Keep.l {M : List Addr} {K : PySem.W.Frag} {H H' : Hp} {a : Addr} {xs : List V} (e : Keep M H H') (n : a ∉ M) (h : SqL K H a xs) : SqL K H' a xs := by
  rcases h with h | h
  · exact Or.inl (e.rd n h)
  · exact Or.inr h
theorem Keep.t {M : List Addr} {K : PySem.W.Frag} {H H' : Hp} {a : Addr} {xs : List V} (e : Keep M H H') (n : a ∉ M) (h : SqT K H a xs) : SqT K H' a xs := by
  rcases h with h | h
  · exact Or.inl (e.rd n h)
  · exact Or.inr h
theorem Keep.free {M : List Addr} {H H' : Hp} (e : Keep M H H') {l : Addr} (n : l ∉ M) (h : H' l = Option.none) : H l = Option.none := by
  cases q : H l with
  | none => rfl
  | some o => rw [e l o n q] at h; cases h
/-- an address that is untracked later, though tracked addresses stay (M's own, too) -/
theorem ne_free {H : Hp} {a p : Addr} {o : HO} (h : H a = some o) (n : H p = none) : p ≠ a := fun e => by rw [e, h] at n; cases n
theorem sqL_of {K : PySem.W.Frag} {H : Hp} {a : Addr} {xs : List V} (h : H a = some (.lst xs)) : SqL K H a xs := Or.inl (Or.inl h)
theorem sqT_of {K : PySem.W.Frag} {H : Hp} {a : Addr} {xs : List V} (h : H a = some (.tup xs)) : SqT K H a xs := Or.inl (Or.inl h)
theorem le_size {n : Nat} (h : n ≤ 100000) : n ≤ sizeLine := Nat.le_trans h (by decide)
theorem lt_size {n : Nat} (h : n < 100000) : n < sizeLine := Nat.lt_of_lt_of_le h (by decide)
theorem ixN_nn {n j : Nat} (h : j < n) : ixN n (j : Int) = some j := by
  unfold ixN; rw [if_pos (by omega), if_pos (by omega), Int.toNat_natCast]
theorem cxOf_K {CX : CXT} {P : Program} {w : World} {K : PySem.W.Frag} {mg : Str → Option Value} {base : Heap} {N : List Str} {qual : Str} {scope : Scope} {f : Addr} {cd : Value} {A : Around} {outer : List Env} {s : Shared} {H : Hp} {E : XK} :
    (cxOf CX P w K mg base N qual scope f cd A outer s H E).K = K := rfl
/-! ### readings, by the head of their terms -/
section
variable {K : PySem.W.Frag} {σ : L2.St} {H : Hp} {Q : VK} {QA : List V → Hp → Prop} {QB : Bool → Hp → Prop} {QO : Option Int → Hp → Prop} {D : Ends} {ta tb te tc : TE} {t u : TT} {ts tr : TS} {r : R2} {v x y : V} {G : TG} {tas : TA}
theorem r_nxE {a b d : L2.St → Hp → Prop} {c : VK} (k : a σ H) : Ends.nx ⟨a, c, b, d⟩ σ H := k
theorem r_bkE {a b d : L2.St → Hp → Prop} {c : VK} (k : b σ H) : Ends.bk ⟨a, c, b, d⟩ σ H := k
theorem r_ctE {a b d : L2.St → Hp → Prop} {c : VK} (k : d σ H) : Ends.ct ⟨a, c, b, d⟩ σ H := k
theorem r_rtE {a b d : L2.St → Hp → Prop} {c : VK} (k : c v H) : Ends.rt ⟨a, c, b, d⟩ v H := k
theorem r_var {i : Nat} (h : σ[i]? = some (some v)) (k : Q v H) : tVar i σ H Q := ⟨v, h, k⟩
theorem r_c (k : Q v H) : tC v σ H Q := k
theorem r_op (k : ta σ H fun x H1 => tb σ H1 fun y H2 => r x y H2 Q) : tOp r ta tb σ H Q := k
theorem r_un {r : V → Hp → VK → Prop} (k : ta σ H fun x H1 => r x H1 Q) : tUn r ta σ H Q := k
theorem r_I0 {g : Int → Int → V} {i j : Int} (k : Q (g i j) H) : rI0 g (.int i) (.int j) H Q := ⟨i, j, rfl, rfl, k⟩
theorem r_I {C : Int → Int → Prop} {g : Int → Int → V} {i j : Int} (c : C i j) (k : Q (g i j) H) : rI C g (.int i) (.int j) H Q := ⟨i, j, rfl, rfl, c, k⟩
theorem r_U {g : Int → V} {i : Int} (k : Q (g i) H) : rU g (.int i) H Q := ⟨i, rfl, k⟩
theorem dec_int {i j : Int} : decide (V.int i = V.int j) = decide (i = j) := by
  by_cases h : i = j
  · subst h; simp
  · rw [decide_eq_false h, decide_eq_false (fun e => h (V.int.inj e))]
theorem dec_str {i j : Str} : decide (V.str i = V.str j) = decide (i = j) := by
  by_cases h : i = j
  · subst h; simp
  · rw [decide_eq_false h, decide_eq_false (fun e => h (V.str.inj e))]
theorem dec_bl {i j : Bool} : decide (V.bl i = V.bl j) = decide (i = j) := by
  by_cases h : i = j
  · subst h; simp
  · rw [decide_eq_false h, decide_eq_false (fun e => h (V.bl.inj e))]
theorem r_eqI {i j : Int} (k : Q (.bl (decide (i = j))) H) : rEq (.int i) (.int j) H Q := ⟨rfl, by rw [dec_int]; exact k⟩
theorem r_neI {i j : Int} (k : Q (.bl (!decide (i = j))) H) : rNe (.int i) (.int j) H Q := ⟨rfl, by rw [dec_int]; exact k⟩
theorem r_eqS {i j : Str} (k : Q (.bl (decide (i = j))) H) : rEq (.str i) (.str j) H Q := ⟨rfl, by rw [dec_str]; exact k⟩
theorem r_neS {i j : Str} (k : Q (.bl (!decide (i = j))) H) : rNe (.str i) (.str j) H Q := ⟨rfl, by rw [dec_str]; exact k⟩
theorem r_eqB {i j : Bool} (k : Q (.bl (decide (i = j))) H) : rEq (.bl i) (.bl j) H Q := ⟨rfl, by rw [dec_bl]; exact k⟩
theorem r_neB {i j : Bool} (k : Q (.bl (!decide (i = j))) H) : rNe (.bl i) (.bl j) H Q := ⟨rfl, by rw [dec_bl]; exact k⟩
theorem r_test (k : te σ H fun x H' => ∃ k, x = .bl k ∧ QB k H') : tTest te σ H QB := k
theorem r_tB (k : te σ H fun x H' => ∃ k, x = .bl k ∧ QB k H') : tB te σ H QB := k
theorem r_bl {b : Bool} {P : Bool → Prop} (k : P b) : ∃ c, V.bl b = .bl c ∧ P c := ⟨b, rfl, k⟩
theorem r_and (k : t σ H fun c H1 => if c = true then u σ H1 QB else QB false H1) : tAnd t u σ H QB := k
theorem r_or (k : t σ H fun c H1 => if c = true then QB true H1 else u σ H1 QB) : tOr t u σ H QB := k
theorem r_not (k : t σ H fun c H1 => QB (!c) H1) : tNot t σ H QB := k
theorem r_andV (k : ta σ H fun x H1 => ∃ c, x = .bl c ∧ if c = true then tb σ H1 Q else Q (.bl false) H1) : tAndV ta tb σ H Q := k
theorem r_orV (k : ta σ H fun x H1 => ∃ c, x = .bl c ∧ if c = true then Q (.bl true) H1 else tb σ H1 Q) : tOrV ta tb σ H Q := k
theorem r_notV (k : ta σ H fun x H1 => ∃ c, x = .bl c ∧ Q (.bl (!c)) H1) : tNotV ta σ H Q := k
theorem r_if (k : t σ H fun c H1 => if c = true then ta σ H1 Q else tb σ H1 Q) : tIf t ta tb σ H Q := k
theorem r_chain {r' : R2} (k : ta σ H fun x H1 => tb σ H1 fun y H2 => r x y H2 fun z H3 => ∃ k, z = .bl k ∧ (if k = true then tc σ H3 fun w' H4 => r' y w' H4 Q else Q (.bl false) H3)) : tChain r r' ta tb tc σ H Q := k
theorem r_seq (k : ts { D with nx := tr D } σ H) : tSeq ts tr D σ H := k
theorem r_asg (k : te σ H fun x H1 => G x σ H1 D.nx) : tAsg te G D σ H := k
theorem r_gName {i : Nat} {Q : L2.St → Hp → Prop} (k : Q (σ.set i (some v)) H) : gName i v σ H Q := k
theorem r_gName0 {x0 : Option V} {Q : L2.St → Hp → Prop} (k : Q (some v :: σ) H) : gName 0 v (x0 :: σ) H Q := k
theorem r_gName1 {x0 x1 : Option V} {Q : L2.St → Hp → Prop} (k : Q (x0 :: some v :: σ) H) : gName 1 v (x0 :: x1 :: σ) H Q := k
theorem r_gName2 {x0 x1 x2 : Option V} {Q : L2.St → Hp → Prop} (k : Q (x0 :: x1 :: some v :: σ) H) : gName 2 v (x0 :: x1 :: x2 :: σ) H Q := k
theorem r_gName3 {x0 x1 x2 x3 : Option V} {Q : L2.St → Hp → Prop} (k : Q (x0 :: x1 :: x2 :: some v :: σ) H) : gName 3 v (x0 :: x1 :: x2 :: x3 :: σ) H Q := k
theorem r_gName4 {x0 x1 x2 x3 x4 : Option V} {Q : L2.St → Hp → Prop} (k : Q (x0 :: x1 :: x2 :: x3 :: some v :: σ) H) : gName 4 v (x0 :: x1 :: x2 :: x3 :: x4 :: σ) H Q := k
theorem r_gName5 {x0 x1 x2 x3 x4 x5 : Option V} {Q : L2.St → Hp → Prop} (k : Q (x0 :: x1 :: x2 :: x3 :: x4 :: some v :: σ) H) : gName 5 v (x0 :: x1 :: x2 :: x3 :: x4 :: x5 :: σ) H Q := k
theorem r_gName6 {x0 x1 x2 x3 x4 x5 x6 : Option V} {Q : L2.St → Hp → Prop} (k : Q (x0 :: x1 :: x2 :: x3 :: x4 :: x5 :: some v :: σ) H) : gName 6 v (x0 :: x1 :: x2 :: x3 :: x4 :: x5 :: x6 :: σ) H Q := k
theorem r_gName7 {x0 x1 x2 x3 x4 x5 x6 x7 : Option V} {Q : L2.St → Hp → Prop} (k : Q (x0 :: x1 :: x2 :: x3 :: x4 :: x5 :: x6 :: some v :: σ) H) : gName 7 v (x0 :: x1 :: x2 :: x3 :: x4 :: x5 :: x6 :: x7 :: σ) H Q := k
theorem r_gName8 {x0 x1 x2 x3 x4 x5 x6 x7 x8 : Option V} {Q : L2.St → Hp → Prop} (k : Q (x0 :: x1 :: x2 :: x3 :: x4 :: x5 :: x6 :: x7 :: some v :: σ) H) : gName 8 v (x0 :: x1 :: x2 :: x3 :: x4 :: x5 :: x6 :: x7 :: x8 :: σ) H Q := k
theorem r_gName9 {x0 x1 x2 x3 x4 x5 x6 x7 x8 x9 : Option V} {Q : L2.St → Hp → Prop} (k : Q (x0 :: x1 :: x2 :: x3 :: x4 :: x5 :: x6 :: x7 :: x8 :: some v :: σ) H) : gName 9 v (x0 :: x1 :: x2 :: x3 :: x4 :: x5 :: x6 :: x7 :: x8 :: x9 :: σ) H Q := k
theorem r_gName10 {x0 x1 x2 x3 x4 x5 x6 x7 x8 x9 x10 : Option V} {Q : L2.St → Hp → Prop} (k : Q (x0 :: x1 :: x2 :: x3 :: x4 :: x5 :: x6 :: x7 :: x8 :: x9 :: some v :: σ) H) : gName 10 v (x0 :: x1 :: x2 :: x3 :: x4 :: x5 :: x6 :: x7 :: x8 :: x9 :: x10 :: σ) H Q := k
theorem r_gName11 {x0 x1 x2 x3 x4 x5 x6 x7 x8 x9 x10 x11 : Option V} {Q : L2.St → Hp → Prop} (k : Q (x0 :: x1 :: x2 :: x3 :: x4 :: x5 :: x6 :: x7 :: x8 :: x9 :: x10 :: some v :: σ) H) : gName 11 v (x0 :: x1 :: x2 :: x3 :: x4 :: x5 :: x6 :: x7 :: x8 :: x9 :: x10 :: x11 :: σ) H Q := k
theorem r_gName12 {x0 x1 x2 x3 x4 x5 x6 x7 x8 x9 x10 x11 x12 : Option V} {Q : L2.St → Hp → Prop} (k : Q (x0 :: x1 :: x2 :: x3 :: x4 :: x5 :: x6 :: x7 :: x8 :: x9 :: x10 :: x11 :: some v :: σ) H) : gName 12 v (x0 :: x1 :: x2 :: x3 :: x4 :: x5 :: x6 :: x7 :: x8 :: x9 :: x10 :: x11 :: x12 :: σ) H Q := k
theorem r_gName13 {x0 x1 x2 x3 x4 x5 x6 x7 x8 x9 x10 x11 x12 x13 : Option V} {Q : L2.St → Hp → Prop} (k : Q (x0 :: x1 :: x2 :: x3 :: x4 :: x5 :: x6 :: x7 :: x8 :: x9 :: x10 :: x11 :: x12 :: some v :: σ) H) : gName 13 v (x0 :: x1 :: x2 :: x3 :: x4 :: x5 :: x6 :: x7 :: x8 :: x9 :: x10 :: x11 :: x12 :: x13 :: σ) H Q := k
theorem r_gName14 {x0 x1 x2 x3 x4 x5 x6 x7 x8 x9 x10 x11 x12 x13 x14 : Option V} {Q : L2.St → Hp → Prop} (k : Q (x0 :: x1 :: x2 :: x3 :: x4 :: x5 :: x6 :: x7 :: x8 :: x9 :: x10 :: x11 :: x12 :: x13 :: some v :: σ) H) : gName 14 v (x0 :: x1 :: x2 :: x3 :: x4 :: x5 :: x6 :: x7 :: x8 :: x9 :: x10 :: x11 :: x12 :: x13 :: x14 :: σ) H Q := k
theorem r_gName15 {x0 x1 x2 x3 x4 x5 x6 x7 x8 x9 x10 x11 x12 x13 x14 x15 : Option V} {Q : L2.St → Hp → Prop} (k : Q (x0 :: x1 :: x2 :: x3 :: x4 :: x5 :: x6 :: x7 :: x8 :: x9 :: x10 :: x11 :: x12 :: x13 :: x14 :: some v :: σ) H) : gName 15 v (x0 :: x1 :: x2 :: x3 :: x4 :: x5 :: x6 :: x7 :: x8 :: x9 :: x10 :: x11 :: x12 :: x13 :: x14 :: x15 :: σ) H Q := k
theorem r_gName16 {x0 x1 x2 x3 x4 x5 x6 x7 x8 x9 x10 x11 x12 x13 x14 x15 x16 : Option V} {Q : L2.St → Hp → Prop} (k : Q (x0 :: x1 :: x2 :: x3 :: x4 :: x5 :: x6 :: x7 :: x8 :: x9 :: x10 :: x11 :: x12 :: x13 :: x14 :: x15 :: some v :: σ) H) : gName 16 v (x0 :: x1 :: x2 :: x3 :: x4 :: x5 :: x6 :: x7 :: x8 :: x9 :: x10 :: x11 :: x12 :: x13 :: x14 :: x15 :: x16 :: σ) H Q := k
theorem r_gName17 {x0 x1 x2 x3 x4 x5 x6 x7 x8 x9 x10 x11 x12 x13 x14 x15 x16 x17 : Option V} {Q : L2.St → Hp → Prop} (k : Q (x0 :: x1 :: x2 :: x3 :: x4 :: x5 :: x6 :: x7 :: x8 :: x9 :: x10 :: x11 :: x12 :: x13 :: x14 :: x15 :: x16 :: some v :: σ) H) : gName 17 v (x0 :: x1 :: x2 :: x3 :: x4 :: x5 :: x6 :: x7 :: x8 :: x9 :: x10 :: x11 :: x12 :: x13 :: x14 :: x15 :: x16 :: x17 :: σ) H Q := k
theorem r_gName18 {x0 x1 x2 x3 x4 x5 x6 x7 x8 x9 x10 x11 x12 x13 x14 x15 x16 x17 x18 : Option V} {Q : L2.St → Hp → Prop} (k : Q (x0 :: x1 :: x2 :: x3 :: x4 :: x5 :: x6 :: x7 :: x8 :: x9 :: x10 :: x11 :: x12 :: x13 :: x14 :: x15 :: x16 :: x17 :: some v :: σ) H) : gName 18 v (x0 :: x1 :: x2 :: x3 :: x4 :: x5 :: x6 :: x7 :: x8 :: x9 :: x10 :: x11 :: x12 :: x13 :: x14 :: x15 :: x16 :: x17 :: x18 :: σ) H Q := k
theorem r_gName19 {x0 x1 x2 x3 x4 x5 x6 x7 x8 x9 x10 x11 x12 x13 x14 x15 x16 x17 x18 x19 : Option V} {Q : L2.St → Hp → Prop} (k : Q (x0 :: x1 :: x2 :: x3 :: x4 :: x5 :: x6 :: x7 :: x8 :: x9 :: x10 :: x11 :: x12 :: x13 :: x14 :: x15 :: x16 :: x17 :: x18 :: some v :: σ) H) : gName 19 v (x0 :: x1 :: x2 :: x3 :: x4 :: x5 :: x6 :: x7 :: x8 :: x9 :: x10 :: x11 :: x12 :: x13 :: x14 :: x15 :: x16 :: x17 :: x18 :: x19 :: σ) H Q := k
theorem r_ret (k : te σ H D.rt) : tRet te D σ H := k
theorem r_retN (k : D.rt .non H) : tRetN D σ H := k
theorem r_drop (k : te σ H fun _ H1 => D.nx σ H1) : tDrop te D σ H := k
theorem r_ifS (k : t σ H fun b H1 => if b = true then ts D σ H1 else tr D σ H1) : tIfS t ts tr D σ H := k
theorem r_next (k : D.nx σ H) : tNext D σ H := k
theorem r_cont (k : D.ct σ H) : tCont D σ H := k
theorem r_break (k : D.bk σ H) : tBreak D σ H := k
theorem r_cb {r : List V → Hp → VK → Prop} (k : tas σ H fun vs H1 => r vs H1 Q) : tCB r tas σ H Q := k
theorem r_cons (k : ta σ H fun x H1 => tas σ H1 fun xs H2 => QA (x :: xs) H2) : tCons ta tas σ H QA := k
theorem r_nil (k : QA [] H) : tNil σ H QA := k
theorem r_call {sp : Sp} {dvs : List V} {E : XK} (k : tas σ H fun vs H1 => sp (vs ++ dvs) H1 Q E) : tCall sp dvs E tas σ H Q := k
theorem r_lst (k : tas σ H fun xs H1 => xs.length ≤ sizeLine ∧ ∀ p, H1 p = none → Q (.ref p) (upd H1 p (.lst xs))) : tLst tas σ H Q := k
theorem r_tup (k : tas σ H fun xs H1 => xs.length ≤ sizeLine ∧ ∀ p, H1 p = none → Q (.ref p) (upd H1 p (.tup xs))) : tTup tas σ H Q := k
theorem r_ixL {p : Addr} {xs : List V} {i : Int} (h : SqL K H p xs) (h2 : atI xs i = some v) (k : Q v H) : rIxL K (.ref p) (.int i) H Q := ⟨p, xs, i, v, rfl, rfl, h, h2, k⟩
theorem r_ixT {p : Addr} {xs : List V} {i : Int} (h : SqT K H p xs) (h2 : atI xs i = some v) (k : Q v H) : rIxT K (.ref p) (.int i) H Q := ⟨p, xs, i, v, rfl, rfl, h, h2, k⟩
theorem r_gSub {to ti : TE} {s : TSet} {Q : L2.St → Hp → Prop} (k : to σ H fun o H1 => ti σ H1 fun i H2 => s o i v H2 fun H3 => Q σ H3) : gSub to ti s v σ H Q := k
theorem r_setL {p : Addr} {xs : List V} {i : Int} {j : Nat} {Q : Hp → Prop} (h : H p = some (.lst xs)) (h2 : ixN xs.length i = some j) (k : Q (upd H p (.lst (xs.set j v)))) : rSetL (.ref p) (.int i) v H Q := ⟨p, xs, i, j, rfl, rfl, h, h2, k⟩
theorem r_setP0 {p : Addr} {x0 : V} {xs : List V} {Q : Hp → Prop} (h : H p = some (.lst (x0 :: xs))) (k : Q (upd H p (.lst (v :: xs)))) : rSetL (.ref p) (.int 0) v H Q := ⟨p, _, 0, 0, rfl, rfl, h, ixN_nn (j := 0) (by simp), k⟩
theorem r_setP1 {p : Addr} {x0 x1 : V} {xs : List V} {Q : Hp → Prop} (h : H p = some (.lst (x0 :: x1 :: xs))) (k : Q (upd H p (.lst (x0 :: v :: xs)))) : rSetL (.ref p) (.int 1) v H Q := ⟨p, _, 1, 1, rfl, rfl, h, ixN_nn (j := 1) (by simp), k⟩
theorem r_setP2 {p : Addr} {x0 x1 x2 : V} {xs : List V} {Q : Hp → Prop} (h : H p = some (.lst (x0 :: x1 :: x2 :: xs))) (k : Q (upd H p (.lst (x0 :: x1 :: v :: xs)))) : rSetL (.ref p) (.int 2) v H Q := ⟨p, _, 2, 2, rfl, rfl, h, ixN_nn (j := 2) (by simp), k⟩
theorem r_setP3 {p : Addr} {x0 x1 x2 x3 : V} {xs : List V} {Q : Hp → Prop} (h : H p = some (.lst (x0 :: x1 :: x2 :: x3 :: xs))) (k : Q (upd H p (.lst (x0 :: x1 :: x2 :: v :: xs)))) : rSetL (.ref p) (.int 3) v H Q := ⟨p, _, 3, 3, rfl, rfl, h, ixN_nn (j := 3) (by simp), k⟩
theorem r_cut (M : L2.St → Hp → Prop) (h : ts { D with nx := M } σ H) (k : ∀ σ' H', M σ' H' → tr D σ' H') : Evl.tCut ts tr D σ H := ⟨M, h, k⟩
theorem r_sl {r : V → Option Int → Option Int → Hp → VK → Prop} {tl th : TO} (k : te σ H fun x H1 => tl σ H1 fun l H2 => th σ H2 fun u H3 => r x l u H3 Q) : tSl r te tl th σ H Q := k
theorem r_ite {p : Prop} {_i : Decidable p} {A B : Prop} (h1 : p → A) (h2 : ¬ p → B) : if decide p = true then A else B := by
  by_cases h : p
  · rw [if_pos (decide_eq_true h)]; exact h1 h
  · rw [if_neg (by rw [decide_eq_false h]; decide)]; exact h2 h
theorem r_iteN {p : Prop} {_i : Decidable p} {A B : Prop} (h1 : ¬ p → A) (h2 : p → B) : if (!decide p) = true then A else B := by
  by_cases h : p
  · rw [if_neg (by rw [decide_eq_true h]; decide)]; exact h2 h
  · rw [if_pos (by rw [decide_eq_false h]; rfl)]; exact h1 h
theorem r_iteT {p : Prop} [Decidable p] {A B : Prop} (h : p) (k : A) : if decide p = true then A else B := by
  rw [if_pos (decide_eq_true h)]; exact k
theorem r_iteF {p : Prop} [Decidable p] {A B : Prop} (h : ¬ p) (k : B) : if decide p = true then A else B := by
  rw [if_neg (by rw [decide_eq_false h]; decide)]; exact k
theorem r_iteNT {p : Prop} [Decidable p] {A B : Prop} (h : ¬ p) (k : A) : if (!decide p) = true then A else B := by
  rw [if_pos (by rw [decide_eq_false h]; rfl)]; exact k
theorem r_iteNF {p : Prop} [Decidable p] {A B : Prop} (h : p) (k : B) : if (!decide p) = true then A else B := by
  rw [if_neg (by rw [decide_eq_true h]; decide)]; exact k
theorem r_iteb {b : Bool} {A B : Prop} (h1 : b = true → A) (h2 : b = false → B) : if b = true then A else B := by
  cases b with
  | true => rw [if_pos rfl]; exact h1 rfl
  | false => rw [if_neg (by decide)]; exact h2 rfl
theorem r_itebN {b : Bool} {A B : Prop} (h1 : b = false → A) (h2 : b = true → B) : if (!b) = true then A else B := by
  cases b with
  | true => exact (if_neg (by decide : ¬ (!true) = true)).mpr (h2 rfl)
  | false => exact (if_pos (by decide : (!false) = true)).mpr (h1 rfl)
theorem r_int1 {i : Int} {F : Int → Prop} {G : Bool → Prop} (k : F i) : (∃ j, [V.int i] = [.int j] ∧ F j) ∨ ∃ b, [V.int i] = [.bl b] ∧ G b := .inl ⟨i, rfl, k⟩
theorem r_intB {b : Bool} {F : Int → Prop} {G : Bool → Prop} (k : G b) : (∃ j, [V.bl b] = [.int j] ∧ F j) ∨ ∃ c, [V.bl b] = [.bl c] ∧ G c := .inr ⟨b, rfl, k⟩
theorem r_lenL {p : Addr} {xs : List V} {F : List V → Prop} (h : SqL K H p xs) (k : F xs) : ∃ q ys, [V.ref p] = [.ref q] ∧ (SqL K H q ys ∨ SqT K H q ys) ∧ F ys := ⟨p, xs, rfl, .inl h, k⟩
theorem r_lenT {p : Addr} {xs : List V} {F : List V → Prop} (h : SqT K H p xs) (k : F xs) : ∃ q ys, [V.ref p] = [.ref q] ∧ (SqL K H q ys ∨ SqT K H q ys) ∧ F ys := ⟨p, xs, rfl, .inr h, k⟩
theorem abs_if {i : Int} : (if i < 0 then -i else i) = (i.natAbs : Int) := by split <;> omega
theorem max_if {i j : Int} : (if j > i then j else i) = max i j := by split <;> omega
theorem r_in1 {i : Int} {F : Int → Prop} (k : F i) : ∃ j, [V.int i] = [.int j] ∧ F j := ⟨i, rfl, k⟩
theorem r_in2 {i j : Int} {F : Int → Int → Prop} (k : F i j) : ∃ a b, [V.int i, V.int j] = [.int a, .int b] ∧ F a b := ⟨i, j, rfl, k⟩
theorem r_isi {x : V} {T : String} {b : Bool} {ty : String} (ty1 : TyX K H x (.type ty)) (h : kitB ty T = some b) (k : Q (.bl b) H) : rIsi K [x, .ty T] H Q :=
  ⟨x, .ty T, .type ty, .type T, b, rfl, .ty T, ty1, kit_ty h, k⟩
end
/-! ### loops -/
def ForR1 (G : TG) (ts : TS) (D : Ends) (σ : L2.St) (vs : List V) (H : Hp) : Prop := ∃ j : Int, vs = [.int j] ∧ -(2 ^ 62) ≤ j ∧ j < 2 ^ 62 ∧ ∃ W : Nat → Nat → L2.St → Hp → Prop, (∃ m, W 0 m σ H) ∧ ∀ i m σ H, W i m σ H →
  ((Itr 0 j.toNat).stop i H ∧ D.nx σ H) ∨ ((Itr 0 j.toNat).go i H ∧ ∃ N : L2.St → Hp → Prop, (∀ σ' H', N σ' H' → ∃ m', m' < m ∧ W (i + 1) m' σ' H') ∧ ∀ x H', (Itr 0 j.toNat).yld i H x H' → G x σ H' fun σ2 H2 => ts { D with nx := N, ct := N, bk := D.nx } σ2 H2)
def ForR2 (G : TG) (ts : TS) (D : Ends) (σ : L2.St) (vs : List V) (H : Hp) : Prop := ∃ i j : Int, vs = [.int i, .int j] ∧ (-(2 ^ 62) ≤ i ∧ i < 2 ^ 62 ∧ -(2 ^ 62) ≤ j ∧ j < 2 ^ 62) ∧ ∃ W : Nat → Nat → L2.St → Hp → Prop, (∃ m, W 0 m σ H) ∧ ∀ k m σ H, W k m σ H →
  ((Itr i (j - i).toNat).stop k H ∧ D.nx σ H) ∨ ((Itr i (j - i).toNat).go k H ∧ ∃ N : L2.St → Hp → Prop, (∀ σ' H', N σ' H' → ∃ m', m' < m ∧ W (k + 1) m' σ' H') ∧ ∀ x H', (Itr i (j - i).toNat).yld k H x H' → G x σ H' fun σ2 H2 => ts { D with nx := N, ct := N, bk := D.nx } σ2 H2)
def ForL (K : PySem.W.Frag) (G : TG) (ts : TS) (D : Ends) (σ : L2.St) (v : V) (H : Hp) : Prop := ∃ a, v = .ref a ∧ (∃ xs, SqL K H a xs) ∧ ∃ W : Nat → Nat → L2.St → Hp → Prop, (∃ m, W 0 m σ H) ∧ ∀ i m σ H, W i m σ H →
  ((Itl K a).stop i H ∧ D.nx σ H) ∨ ((Itl K a).go i H ∧ ∃ N : L2.St → Hp → Prop, (∀ σ' H', N σ' H' → ∃ m', m' < m ∧ W (i + 1) m' σ' H') ∧ ∀ x H', (Itl K a).yld i H x H' → G x σ H' fun σ2 H2 => ts { D with nx := N, ct := N, bk := D.nx } σ2 H2)
def ForT (K : PySem.W.Frag) (G : TG) (ts : TS) (D : Ends) (σ : L2.St) (v : V) (H : Hp) : Prop := ∃ a, v = .ref a ∧ (∃ xs, SqT K H a xs) ∧ ∃ W : Nat → Nat → L2.St → Hp → Prop, (∃ m, W 0 m σ H) ∧ ∀ i m σ H, W i m σ H →
  ((Itt K a).stop i H ∧ D.nx σ H) ∨ ((Itt K a).go i H ∧ ∃ N : L2.St → Hp → Prop, (∀ σ' H', N σ' H' → ∃ m', m' < m ∧ W (i + 1) m' σ' H') ∧ ∀ x H', (Itt K a).yld i H x H' → G x σ H' fun σ2 H2 => ts { D with nx := N, ct := N, bk := D.nx } σ2 H2)
section
variable {K : PySem.W.Frag} {σ : L2.St} {H : Hp} {Q : VK} {D : Ends} {te tl : TE} {tt c : TT} {ts : TS} {G : TG} {tas : TA} {v : V} {vs : List Nat}
theorem r_forR1 (k : tas σ H fun vs H1 => ForR1 G ts D σ vs H1) : tFor (iRng1 tas) G ts D σ H := k
theorem r_forR2 (k : tas σ H fun vs H1 => ForR2 G ts D σ vs H1) : tFor (iRng2 tas) G ts D σ H := k
theorem r_forL (k : tl σ H fun x H1 => ForL K G ts D σ x H1) : tFor (iList K tl) G ts D σ H := k
theorem r_forT (k : tl σ H fun x H1 => ForT K G ts D σ x H1) : tFor (iTup K tl) G ts D σ H := k
theorem forR1_go {j : Int} (Pv : Nat → L2.St → Hp → Prop) (hb : -(2 ^ 62) ≤ j ∧ j < 2 ^ 62) (h0 : Pv 0 σ H)
    (hs : ∀ (i : Nat) σ' H', (i : Int) < j → Pv i σ' H' → G (.int i) σ' H' fun σ2 H2 => ts { D with nx := Pv (i + 1), ct := Pv (i + 1), bk := D.nx } σ2 H2) (hd : ∀ σ' H', Pv j.toNat σ' H' → D.nx σ' H') : ForR1 G ts D σ [.int j] H :=
  ⟨j, rfl, hb.1, hb.2, for_range (lo := 0) Pv h0 (fun i σ' H' hi p => by rw [Int.zero_add]; exact hs i σ' H' (by omega) p) hd⟩
theorem forR2_go {i j : Int} (Pv : Nat → L2.St → Hp → Prop) (hb : -(2 ^ 62) ≤ i ∧ i < 2 ^ 62 ∧ -(2 ^ 62) ≤ j ∧ j < 2 ^ 62) (h0 : Pv 0 σ H)
    (hs : ∀ (k : Nat) σ' H', i + (k : Int) < j → Pv k σ' H' → G (.int (i + k)) σ' H' fun σ2 H2 => ts { D with nx := Pv (k + 1), ct := Pv (k + 1), bk := D.nx } σ2 H2) (hd : ∀ σ' H', Pv (j - i).toNat σ' H' → D.nx σ' H') : ForR2 G ts D σ [.int i, .int j] H :=
  ⟨i, j, rfl, hb, for_range (lo := i) Pv h0 (fun k σ' H' hi p => hs k σ' H' (by omega) p) hd⟩
theorem forL_go {a : Addr} {xs : List V} (Pv : Nat → L2.St → Hp → Prop) (hx : SqL K H a xs) (h0 : Pv 0 σ H) (hl : ∀ i σ' H', i ≤ xs.length → Pv i σ' H' → SqL K H' a xs)
    (hs : ∀ i x σ' H', xs[i]? = some x → Pv i σ' H' → G x σ' H' fun σ2 H2 => ts { D with nx := Pv (i + 1), ct := Pv (i + 1), bk := D.nx } σ2 H2) (hd : ∀ σ' H', Pv xs.length σ' H' → D.nx σ' H') : ForL K G ts D σ (.ref a) H :=
  ⟨a, rfl, ⟨xs, hx⟩, for_list Pv h0 hl hs hd⟩
theorem forT_go {a : Addr} {xs : List V} (Pv : Nat → L2.St → Hp → Prop) (hx : SqT K H a xs) (h0 : Pv 0 σ H) (hl : ∀ i σ' H', i ≤ xs.length → Pv i σ' H' → SqT K H' a xs)
    (hs : ∀ i x σ' H', xs[i]? = some x → Pv i σ' H' → G x σ' H' fun σ2 H2 => ts { D with nx := Pv (i + 1), ct := Pv (i + 1), bk := D.nx } σ2 H2) (hd : ∀ σ' H', Pv xs.length σ' H' → D.nx σ' H') : ForT K G ts D σ (.ref a) H :=
  ⟨a, rfl, ⟨xs, hx⟩, for_tup Pv h0 hl hs hd⟩
theorem r_while (W : Nat → L2.St → Hp → Prop) {m0 : Nat} (h0 : W m0 σ H)
    (hs : ∀ m σ' H', W m σ' H' → c σ' H' fun b H1 => if b = true then ∃ N : L2.St → Hp → Prop, (∀ σ2 H2, N σ2 H2 → ∃ m', m' < m ∧ W m' σ2 H2) ∧ ts { D with nx := N, ct := N, bk := D.nx } σ' H1 else D.nx σ' H1) : tWhile c ts D σ H := ⟨W, ⟨m0, h0⟩, hs⟩
theorem r_turn {B : L2.St → Hp → Prop} {R : VK} {Bk : L2.St → Hp → Prop} (k : ts { nx := B, rt := R, bk := Bk, ct := B } σ H) :
    ∃ N : L2.St → Hp → Prop, (∀ σ2 H2, N σ2 H2 → B σ2 H2) ∧ ts { nx := N, rt := R, bk := Bk, ct := N } σ H := ⟨_, fun _ _ h => h, k⟩
end
/-! ### comprehensions -/
section
variable {K : PySem.W.Frag} {σ : L2.St} {H : Hp} {Q : VK} {te tl : TE} {tt : TT} {G : TG} {tas : TA} {v : V} {vs : List Nat} {QB : Bool → Hp → Prop}
def CompW (J : It) (G : TG) (tt : TT) (te : TE) (vs : List Nat) (σ : L2.St) (Q : VK) (H1 : Hp) : Prop := ∀ D, H1 D = none → ∃ W : Nat → Nat → Hp → Prop, (∃ m, W 0 m (upd H1 D (.lst []))) ∧ ∀ i m H, W i m H → (J.stop i H ∧ Q (.ref D) H) ∨ (J.go i H ∧ ∃ Nx : Hp → Prop, (∀ H', Nx H' → ∃ m', m' < m ∧ W (i + 1) m' H') ∧
  ∀ x H', J.yld i H x H' → G x (wipe σ vs) H' fun σ2 H2 => wipe σ2 vs = wipe σ vs ∧ tt σ2 H2 fun b H3 => if b = true then te σ2 H3 fun y H4 => ∃ acc, H4 D = some (.lst acc) ∧ acc.length < sizeLine ∧ Nx (upd H4 D (.lst (acc ++ [y]))) else Nx H3)
def CompR1 (G : TG) (tt : TT) (te : TE) (vs : List Nat) (σ : L2.St) (Q : VK) (us : List V) (H1 : Hp) : Prop := ∃ j : Int, us = [.int j] ∧ -(2 ^ 62) ≤ j ∧ j < 2 ^ 62 ∧ CompW (Itr 0 j.toNat) G tt te vs σ Q H1
def CompL (K : PySem.W.Frag) (G : TG) (tt : TT) (te : TE) (vs : List Nat) (σ : L2.St) (Q : VK) (x : V) (H1 : Hp) : Prop := ∃ a, x = .ref a ∧ (∃ xs, SqL K H1 a xs) ∧ CompW (Itl K a) G tt te vs σ Q H1
def CompT (K : PySem.W.Frag) (G : TG) (tt : TT) (te : TE) (vs : List Nat) (σ : L2.St) (Q : VK) (x : V) (H1 : Hp) : Prop := ∃ a, x = .ref a ∧ (∃ xs, SqT K H1 a xs) ∧ CompW (Itt K a) G tt te vs σ Q H1
theorem r_lcR1 (k : tas σ H fun us H1 => CompR1 G tt te vs σ Q us H1) : tLc (iRng1 tas) G tt te vs σ H Q := k
theorem r_lcL (k : tl σ H fun x H1 => CompL K G tt te vs σ Q x H1) : tLc (iList K tl) G tt te vs σ H Q := k
theorem r_lcT (k : tl σ H fun x H1 => CompT K G tt te vs σ Q x H1) : tLc (iTup K tl) G tt te vs σ H Q := k
theorem r_wipe {σ2 : L2.St} {R : Prop} (h : wipe σ2 vs = wipe σ vs) (k : R) : wipe σ2 vs = wipe σ vs ∧ R := ⟨h, k⟩
theorem r_gNameW {i : Nat} {σ' : L2.St} {Q : L2.St → Hp → Prop} (h : wipe σ vs = σ') (k : gName i v σ' H Q) : gName i v (wipe σ vs) H Q := by rw [h]; exact k
theorem r_yes (k : QB true H) : tYes σ H QB := k
/-- the reading of one item, told with the list so far: P of the turn's number, the items made, the heap -/
def CompTurn (G : TG) (tt : TT) (te : TE) (vs : List Nat) (σ : L2.St) (D : Addr) (Nx : List V → Hp → Prop) (acc : List V) (x : V) (H : Hp) : Prop :=
  G x (wipe σ vs) H fun σ2 H2 => wipe σ2 vs = wipe σ vs ∧ tt σ2 H2 fun b H3 => if b = true then te σ2 H3 fun y H4 => H4 D = some (.lst acc) ∧ acc.length < sizeLine ∧ Nx (acc ++ [y]) (upd H4 D (.lst (acc ++ [y]))) else Nx acc H3
theorem lcR1_go {j : Int} (Pv : Addr → Nat → List V → Hp → Prop) (hb : -(2 ^ 62) ≤ j ∧ j < 2 ^ 62) (h0 : ∀ D, H D = none → Pv D 0 [] (upd H D (.lst [])))
    (hs : ∀ D (i : Nat) acc H', (i : Int) < j → H' D = some (.lst acc) → Pv D i acc H' → G (.int i) (wipe σ vs) H' fun σ2 H2 => wipe σ2 vs = wipe σ vs ∧ tt σ2 H2 fun b H3 =>
      if b = true then te σ2 H3 fun y H4 => ∃ acc, H4 D = some (.lst acc) ∧ acc.length < sizeLine ∧ (∃ ac, (upd H4 D (.lst (acc ++ [y]))) D = some (.lst ac) ∧ Pv D (i + 1) ac (upd H4 D (.lst (acc ++ [y])))) else ∃ ac, H3 D = some (.lst ac) ∧ Pv D (i + 1) ac H3)
    (hd : ∀ D acc H', H D = none → H' D = some (.lst acc) → Pv D j.toNat acc H' → Q (.ref D) H') : CompR1 G tt te vs σ Q [.int j] H :=
  ⟨j, rfl, hb.1, hb.2, fun D hD => lc_range (lo := 0) (fun i H' => ∃ acc, H' D = some (.lst acc) ∧ Pv D i acc H') ⟨[], upd_same, h0 D hD⟩ (fun i H' hi ⟨acc, ha, p⟩ => by rw [Int.zero_add]; exact hs D i acc H' (by omega) ha p) fun H' ⟨acc, ha, p⟩ => hd D acc H' hD ha p⟩
theorem lcL_go {a : Addr} {xs : List V} (Pv : Addr → Nat → List V → Hp → Prop) (hx : SqL K H a xs) (h0 : ∀ D, H D = none → Pv D 0 [] (upd H D (.lst []))) (hl : ∀ D i acc H', i ≤ xs.length → Pv D i acc H' → SqL K H' a xs)
    (hs : ∀ D (i : Nat) x acc H', xs[i]? = some x → H' D = some (.lst acc) → Pv D i acc H' → G x (wipe σ vs) H' fun σ2 H2 => wipe σ2 vs = wipe σ vs ∧ tt σ2 H2 fun b H3 =>
      if b = true then te σ2 H3 fun y H4 => ∃ acc, H4 D = some (.lst acc) ∧ acc.length < sizeLine ∧ (∃ ac, (upd H4 D (.lst (acc ++ [y]))) D = some (.lst ac) ∧ Pv D (i + 1) ac (upd H4 D (.lst (acc ++ [y])))) else ∃ ac, H3 D = some (.lst ac) ∧ Pv D (i + 1) ac H3)
    (hd : ∀ D acc H', H D = none → H' D = some (.lst acc) → Pv D xs.length acc H' → Q (.ref D) H') : CompL K G tt te vs σ Q (.ref a) H :=
  ⟨a, rfl, ⟨xs, hx⟩, fun D hD => lc_list (xs := xs) (fun i H' => ∃ acc, H' D = some (.lst acc) ∧ Pv D i acc H') ⟨[], upd_same, h0 D hD⟩ (fun i H' hi ⟨acc, ha, p⟩ => hl D i acc H' hi p) (fun i x H' hi ⟨acc, ha, p⟩ => hs D i x acc H' hi ha p) fun H' ⟨acc, ha, p⟩ => hd D acc H' hD ha p⟩
theorem lcT_go {a : Addr} {xs : List V} (Pv : Addr → Nat → List V → Hp → Prop) (hx : SqT K H a xs) (h0 : ∀ D, H D = none → Pv D 0 [] (upd H D (.lst []))) (hl : ∀ D i acc H', i ≤ xs.length → Pv D i acc H' → SqT K H' a xs)
    (hs : ∀ D (i : Nat) x acc H', xs[i]? = some x → H' D = some (.lst acc) → Pv D i acc H' → G x (wipe σ vs) H' fun σ2 H2 => wipe σ2 vs = wipe σ vs ∧ tt σ2 H2 fun b H3 =>
      if b = true then te σ2 H3 fun y H4 => ∃ acc, H4 D = some (.lst acc) ∧ acc.length < sizeLine ∧ (∃ ac, (upd H4 D (.lst (acc ++ [y]))) D = some (.lst ac) ∧ Pv D (i + 1) ac (upd H4 D (.lst (acc ++ [y])))) else ∃ ac, H3 D = some (.lst ac) ∧ Pv D (i + 1) ac H3)
    (hd : ∀ D acc H', H D = none → H' D = some (.lst acc) → Pv D xs.length acc H' → Q (.ref D) H') : CompT K G tt te vs σ Q (.ref a) H :=
  ⟨a, rfl, ⟨xs, hx⟩, fun D hD => lc_tup (xs := xs) (fun i H' => ∃ acc, H' D = some (.lst acc) ∧ Pv D i acc H') ⟨[], upd_same, h0 D hD⟩ (fun i H' hi ⟨acc, ha, p⟩ => hl D i acc H' hi p) (fun i x H' hi ⟨acc, ha, p⟩ => hs D i x acc H' hi ha p) fun H' ⟨acc, ha, p⟩ => hd D acc H' hD ha p⟩
/-- an item is kept: behind te, the list is known -/
theorem lc_put {D : Addr} {acc : List V} {y : V} {P : List V → List V → Prop} {H4 : Hp} (h : H4 D = some (.lst acc)) (hz : acc.length < sizeLine) (k : P acc (acc ++ [y])) :
    ∃ acc, H4 D = some (.lst acc) ∧ acc.length < sizeLine ∧ (∃ ac, (upd H4 D (.lst (acc ++ [y]))) D = some (.lst ac) ∧ P acc ac) := ⟨acc, h, hz, _, upd_same, k⟩
end
/-! ### lists, displays -/
section
variable {K : PySem.W.Frag} {H : Hp} {Q : VK}
theorem Keep.out {M : List Addr} {H H' : Hp} {a : Addr} {o : HO} (h : Keep M H H') (n : a ∉ M) (e : H a = some o) : H' a = some o := h a o n e
theorem getD_all {p : Int → Prop} {P : List Int} {i : Nat} (h : ∀ x ∈ P, p x) (hi : i < P.length) : p (P.getD i 0) := by
  rw [List.getD_eq_getElem?_getD, List.getElem?_eq_getElem hi]; exact h _ (List.getElem_mem hi)
theorem r_slL {a : Addr} {xs : List V} {lo hi : Option Int} (h : SqL K H a xs) (k : ∀ p, H p = none → Q (.ref p) (upd H p (.lst (cutV xs lo hi)))) : rSlL K (.ref a) lo hi H Q := ⟨a, xs, rfl, h, k⟩
theorem r_cat {l b : Addr} {xs zs : List V} (h : H l = some (.lst xs)) (h2 : H b = some (.lst zs)) (hz : xs.length + zs.length ≤ sizeLine) (k : ∀ p, H p = none → Q (.ref p) (upd H p (.lst (xs ++ zs)))) : rCat (.ref l) (.ref b) H Q :=
  ⟨l, b, xs, zs, rfl, rfl, h, h2, hz, k⟩
theorem r_listL {p : Addr} {xs : List V} {F : List V → Prop} (h : SqL K H p xs) (k : F xs) : ∃ q ys, [V.ref p] = [.ref q] ∧ (SqL K H q ys ∨ SqT K H q ys) ∧ F ys := ⟨p, xs, rfl, .inl h, k⟩
theorem r_tPart {te : TE} {σ : L2.St} {QO : Option Int → Hp → Prop} (k : te σ H fun v H1 => ∃ i, v = .int i ∧ QO (some i) H1) : tPart te σ H QO := k
theorem r_noPart {σ : L2.St} {QO : Option Int → Hp → Prop} (k : QO none H) : tNoPart σ H QO := k
theorem r_gcd {a b : Int} (k : Q (.int ((Nat.gcd a.natAbs b.natAbs : Nat) : Int)) H) : rGcd [.int a, .int b] H Q := ⟨a, b, rfl, k⟩
theorem r_iteNT1 {A B : Prop} (k : B) : if (!true) = true then A else B := by rw [if_neg (by decide)]; exact k
theorem r_iteNF1 {A B : Prop} (k : A) : if (!false) = true then A else B := by rw [if_pos (by decide)]; exact k
theorem kit_ii : kitB "int" "int" = some true := by decide +kernel
theorem kit_ib : kitB "int" "bool" = some false := by decide +kernel
theorem kit_bi : kitB "bool" "int" = some true := by decide +kernel
theorem kit_bb : kitB "bool" "bool" = some true := by decide +kernel
theorem kit_tt : kitB "tuple" "tuple" = some true := by decide +kernel
theorem kit_ss : kitB "str" "str" = some true := by decide +kernel
theorem kit_ll : kitB "list" "list" = some true := by decide +kernel
theorem kit_dd : kitB "dict" "dict" = some true := by decide +kernel
theorem kit_nt : kitB "NoneType" "tuple" = some false := by decide +kernel
theorem kit_ni : kitB "NoneType" "int" = some false := by decide +kernel
theorem kit_is : kitB "int" "str" = some false := by decide +kernel
theorem kit_si : kitB "str" "int" = some false := by decide +kernel
theorem kit_it : kitB "int" "tuple" = some false := by decide +kernel
theorem mulw {i j : Int} (a b : Nat) (ha : i.natAbs < 2 ^ a) (hb : j.natAbs < 2 ^ b) (h0 : 0 < a := by decide) (h1 : 0 < b := by decide) (h : a + b ≤ 1000000 := by decide) : CMul i j ∨ CMulW i j := .inr (wide_mul ha hb h0 h1 h)
theorem r_callSD {sp : Sp} {dvs : List V} {E : L2.St → XK} {tas : TA} {σ : L2.St} (k : tas σ H fun vs H1 => sp (vs ++ dvs) H1 Q (E σ)) : tCallSD sp dvs E tas σ H Q := k
theorem exm_ZD {K : PySem.W.Frag} : PySem.W.exmOne K (.type "ZeroDivisionError") (.type "ZeroDivisionError") = some true := by kernel_rfl
theorem r_par {i j : Nat} {ta : TA} {D : Ends} {σ : L2.St} (k : ta σ H fun vs H1 => ∃ v w, vs = [v, w] ∧ gName i v σ H1 fun σ1 H2 => gName j w σ1 H2 D.nx) : tPar i j ta D σ H := k
theorem r_exP {x y : V} {F : V → V → Prop} (k : F x y) : ∃ v w, [x, y] = [v, w] ∧ F v w := ⟨x, y, rfl, k⟩
theorem r_bm {T : String} {r : V → List V → Hp → VK → Prop} {to : TE} {ta : TA} {σ : L2.St} (k : to σ H fun x H1 => tyV K T x H1 ∧ ta σ H1 fun xs H2 => r x xs H2 Q) : tBM K T r to ta σ H Q := k
theorem r_tyL {p : Addr} {xs : List V} {R : Prop} (h : SqL K H p xs) (k : R) : tyV K "list" (.ref p) H ∧ R := ⟨.inl ⟨rfl, xs, h⟩, k⟩
theorem r_app {l : Addr} {xs : List V} {y : V} (h : H l = some (.lst xs)) (hz : xs.length < sizeLine) (k : Q .non (upd H l (.lst (xs ++ [y])))) : rAppend (.ref l) [y] H Q := ⟨l, xs, y, rfl, rfl, h, hz, k⟩
theorem r_exI {i : Int} {F : Int → Prop} (k : F i) : ∃ j, V.int i = .int j ∧ F j := ⟨i, rfl, k⟩
end
theorem start_cc {n : Str} {N : List Str} {v : V} {vs : List V} : L2.start (n :: N) (v :: vs) = some v :: L2.start N vs := by
  unfold L2.start
  rw [List.map_cons, List.length_cons, List.length_cons, Nat.add_sub_add_right, List.cons_append]
theorem start_cn {n : Str} {N : List Str} : L2.start (n :: N) [] = none :: L2.start N [] := rfl
theorem start_nn : L2.start [] [] = [] := rfl
theorem atI_map {P : List Int} {i : Int} (h0 : 0 ≤ i) (h1 : i < P.length) : atI (P.map V.int) i = some (.int (P.getD i.toNat 0)) := by
  obtain ⟨n, rfl⟩ : ∃ n : Nat, i = n := ⟨i.toNat, by omega⟩
  refine atI_nat ?_
  have h2 : n < P.length := by omega
  rw [List.getElem?_map, List.getElem?_eq_getElem h2, Int.toNat_natCast, List.getD_eq_getElem?_getD, List.getElem?_eq_getElem h2]; rfl
theorem ixN_of {n : Nat} {i : Int} (h0 : 0 ≤ i) (h1 : i < n) : ixN n i = some i.toNat := by
  unfold ixN; rw [if_pos h0, if_pos h1]
/-- sizes of ints -/
theorem log2_of {i : Int} {n : Nat} (h : i.natAbs < 2 ^ n) (h0 : 0 < n) : i.natAbs.log2 < n := PySem.Flt.log2_lt_of h0 h
theorem log_ok {j : Int} (n : Nat) (h : j.natAbs < 2 ^ n) (h0 : 0 < n := by decide) (h9 : n ≤ 9000 := by decide) : j.natAbs.log2 < 9000 := Nat.lt_of_lt_of_le (log2_of h h0) h9
theorem cmulw {i j : Int} (a b : Nat) (ha : i.natAbs < 2 ^ a) (hb : j.natAbs < 2 ^ b) (h0 : 0 < a := by decide) (h1 : 0 < b := by decide) (h : a + b ≤ 1000000 := by decide) : CMulW i j := wide_mul ha hb h0 h1 h
/-! ### == of flat rows -/
def fdV : V → PyData
  | .bl b => .bool b
  | .int i => .int i
  | .str x => .str x
  | _ => .none
def flatV : V → Bool
  | .non => true
  | .bl _ => true
  | .int _ => true
  | .str x => PyData.canLay0 (.str x)
  | _ => false
theorem dp_flat {K : PySem.W.Frag} {H : Hp} : ∀ {v : V}, flatV v = true → Dp K H v (fdV v)
  | .non, _ => .non
  | .bl b, _ => .bl b
  | .int i, _ => .int i
  | .str x, _ => .str x
theorem dp_flats {K : PySem.W.Frag} {H : Hp} : ∀ {xs : List V}, xs.all flatV = true → DpAll K H xs (xs.map fdV)
  | [], _ => .nil
  | v :: xs, h => by
    rw [List.all_cons, Bool.and_eq_true] at h
    exact .cons (dp_flat h.1) (dp_flats h.2)
theorem flat_lay : ∀ {v : V}, flatV v = true → (fdV v).canLay0 = true ∧ (fdV v).depth = 0
  | .non, _ => by simp [fdV, PyData.canLay0, PyData.depth]
  | .bl b, _ => by simp [fdV, PyData.canLay0, PyData.depth]
  | .int i, _ => by simp [fdV, PyData.canLay0, PyData.depth]
  | .str x, h => ⟨h, by simp [fdV, PyData.depth]⟩
theorem flats_lay : ∀ {xs : List V}, xs.all flatV = true → PyData.canLayAll0 (xs.map fdV) = true ∧ PyData.depthAll (xs.map fdV) = 0
  | [], _ => by simp [PyData.canLayAll0, PyData.depthAll]
  | v :: xs, h => by
    rw [List.all_cons, Bool.and_eq_true] at h
    have a := flat_lay h.1
    have b := flats_lay h.2
    simp [PyData.canLayAll0, PyData.depthAll, a.1, a.2, b.1, b.2]
theorem shaped_flat {xs : List V} (h : xs.all flatV = true) : SeqAt.shaped (.list (xs.map fdV)) = true ∧ SeqAt.shaped (.tuple (xs.map fdV)) = true := by
  have b := flats_lay h
  constructor <;> simp [SeqAt.shaped, PyData.canLay0, PyData.depth, b.1, b.2]
theorem eqv_flat : ∀ {v : V}, flatV v = true → PyData.eqv (fdV v) (fdV v) = true
  | .non, _ => by simp [fdV, PyData.eqv]
  | .bl b, _ => by simp [fdV, PyData.eqv]
  | .int i, _ => by simp [fdV, PyData.eqv]
  | .str x, _ => by simp [fdV, PyData.eqv]
theorem eqv_flats : ∀ {xs : List V}, xs.all flatV = true → PyData.eqvAll (xs.map fdV) (xs.map fdV) = true
  | [], _ => by simp [PyData.eqvAll]
  | v :: xs, h => by
    rw [List.all_cons, Bool.and_eq_true] at h
    simp [PyData.eqvAll, eqv_flat h.1, eqv_flats h.2]
section
variable {K : PySem.W.Frag} {H : Hp} {Q : VK} {p q : Addr} {xs ys : List V} {b : Bool}
theorem eqvL {xs ys : List PyData} : PyData.eqv (.list xs) (.list ys) = PyData.eqvAll xs ys := by simp [PyData.eqv]
theorem eqvT {xs ys : List PyData} : PyData.eqv (.tuple xs) (.tuple ys) = PyData.eqvAll xs ys := by simp [PyData.eqv]
theorem r_eqL (hp : SqL K H p xs) (hq : SqL K H q ys) (fx : xs.all flatV = true) (fy : ys.all flatV = true) (hb : PyData.eqvAll (xs.map fdV) (ys.map fdV) = b) (k : Q (.bl b) H) : rEqD K (.ref p) (.ref q) H Q :=
  ⟨_, _, .lst hp (dp_flats fx), .lst hq (dp_flats fy), (shaped_flat fx).1, (shaped_flat fy).1, by rw [eqvL, hb]; exact k⟩
theorem r_eqT (hp : SqT K H p xs) (hq : SqT K H q ys) (fx : xs.all flatV = true) (fy : ys.all flatV = true) (hb : PyData.eqvAll (xs.map fdV) (ys.map fdV) = b) (k : Q (.bl b) H) : rEqD K (.ref p) (.ref q) H Q :=
  ⟨_, _, .tup hp (dp_flats fx), .tup hq (dp_flats fy), (shaped_flat fx).2, (shaped_flat fy).2, by rw [eqvT, hb]; exact k⟩
theorem r_neL (hp : SqL K H p xs) (hq : SqL K H q ys) (fx : xs.all flatV = true) (fy : ys.all flatV = true) (hb : PyData.eqvAll (xs.map fdV) (ys.map fdV) = b) (k : Q (.bl (!b)) H) : rNeD K (.ref p) (.ref q) H Q :=
  ⟨_, _, .lst hp (dp_flats fx), .lst hq (dp_flats fy), (shaped_flat fx).1, (shaped_flat fy).1, by rw [eqvL, hb]; exact k⟩
theorem r_neT (hp : SqT K H p xs) (hq : SqT K H q ys) (fx : xs.all flatV = true) (fy : ys.all flatV = true) (hb : PyData.eqvAll (xs.map fdV) (ys.map fdV) = b) (k : Q (.bl (!b)) H) : rNeD K (.ref p) (.ref q) H Q :=
  ⟨_, _, .tup hp (dp_flats fx), .tup hq (dp_flats fy), (shaped_flat fx).2, (shaped_flat fy).2, by rw [eqvT, hb]; exact k⟩
end
/-! ### rules whose reading names K, told for a context that hides it (a comprehension, an except suite) -/
section
variable {X : Cx} {K : PySem.W.Frag}
theorem ix_listK (hK : X.K = K) : IxR X (rIxL K) := by subst hK; exact ix_list
theorem ix_tupK (hK : X.K = K) : IxR X (rIxT K) := by subst hK; exact ix_tup
theorem op_in_seqK (hK : X.K = K) : OpR X (compareOp .In) (rIn K false) := by subst hK; exact op_in_seq
theorem op_notIn_seqK (hK : X.K = K) : OpR X (compareOp .NotIn) (rIn K true) := by subst hK; exact op_notIn_seq
theorem call_len_seqK (hK : X.K = K) : CallR X (.builtin "len") (fun xs H Q => ∃ p ys, xs = [.ref p] ∧ (SqL K H p ys ∨ SqT K H p ys) ∧ Q (.int ys.length) H) := by subst hK; exact call_len_seq
theorem call_isiK (hK : X.K = K) : CallR X (.builtin "isinstance") (rIsi K) := by subst hK; exact call_isi
end
section
variable {H : Hp}
def rIsN : R2 := fun x y H Q => y = .non ∧ Q (.bl (decide (x = .non))) H
def rNoN : R2 := fun x y H Q => y = .non ∧ Q (.bl (!decide (x = .non))) H
theorem op_isNc {X : Cx} : OpR X (compareOp .Is) rIsN := op_isN
theorem op_notNc {X : Cx} : OpR X (compareOp .IsNot) rNoN := op_notN
theorem r_isN {Q : VK} (k : Q (.bl true) H) : rIsN (V.non) .non H Q := ⟨rfl, by rw [decide_eq_true rfl]; exact k⟩
theorem r_noN {Q : VK} (k : Q (.bl false) H) : rNoN (V.non) .non H Q := ⟨rfl, by rw [decide_eq_true rfl]; exact k⟩
theorem r_isI {i : Int} {Q : VK} (k : Q (.bl false) H) : rIsN (.int i) .non H Q := ⟨rfl, by rw [decide_eq_false (fun e => by cases e)]; exact k⟩
theorem r_noI {i : Int} {Q : VK} (k : Q (.bl true) H) : rNoN (.int i) .non H Q := ⟨rfl, by rw [decide_eq_false (fun e => by cases e)]; exact k⟩
theorem r_isR {p : Addr} {Q : VK} (k : Q (.bl false) H) : rIsN (.ref p) .non H Q := ⟨rfl, by rw [decide_eq_false (fun e => by cases e)]; exact k⟩
theorem r_noR {p : Addr} {Q : VK} (k : Q (.bl true) H) : rNoN (.ref p) .non H Q := ⟨rfl, by rw [decide_eq_false (fun e => by cases e)]; exact k⟩
theorem r_isS {x : Str} {Q : VK} (k : Q (.bl false) H) : rIsN (.str x) .non H Q := ⟨rfl, by rw [decide_eq_false (fun e => by cases e)]; exact k⟩
theorem r_noS {x : Str} {Q : VK} (k : Q (.bl true) H) : rNoN (.str x) .non H Q := ⟨rfl, by rw [decide_eq_false (fun e => by cases e)]; exact k⟩
theorem r_isB {b : Bool} {Q : VK} (k : Q (.bl false) H) : rIsN (.bl b) .non H Q := ⟨rfl, by rw [decide_eq_false (fun e => by cases e)]; exact k⟩
theorem r_noB {b : Bool} {Q : VK} (k : Q (.bl true) H) : rNoN (.bl b) .non H Q := ⟨rfl, by rw [decide_eq_false (fun e => by cases e)]; exact k⟩
theorem r_inL {K : PySem.W.Frag} {x : V} {p : Addr} {xs : List V} {Q : VK} (h : SqL K H p xs) (fx : L2.flatV x = true) (fs : xs.all L2.flatV = true) (k : Q (.bl (inV x xs)) H) : rIn K false x (.ref p) H Q := ⟨p, xs, rfl, .inl h, fx, fs, by simpa using k⟩
theorem r_ninL {K : PySem.W.Frag} {x : V} {p : Addr} {xs : List V} {Q : VK} (h : SqL K H p xs) (fx : L2.flatV x = true) (fs : xs.all L2.flatV = true) (k : Q (.bl (!inV x xs)) H) : rIn K true x (.ref p) H Q := ⟨p, xs, rfl, .inl h, fx, fs, by simpa using k⟩
theorem r_iteTT {A B : Prop} (k : A) : if true = true then A else B := by rw [if_pos rfl]; exact k
theorem r_iteFF {A B : Prop} (k : B) : if false = true then A else B := by rw [if_neg (by decide)]; exact k
end
/-! ### an own error over ValueError (through own classes) whose __init__ says super().__init__(a text), then stores its arguments -/
namespace Er
open PySem.W PySem.Calls PySem.HandSPX
section
variable {prog : Program} {w : World} {A : Around} {E : Value → Shared → Prop} {s : Shared} {K : Frag} {mg : Str → Option Value} {base : Heap} {m : Str → Option Value}
/-- what the written part says of the class at C: its __init__ at fI, the cell of __class__ at cc, the code at cda -/
structure Txt (P : Program) (K : Frag) (mg : Str → Option Value) (C fI cc cda : Addr) : Prop where
  cls : ∃ nm q N bs bm sn sub ab col dd k0 k1 k2 k3 k5, K.lookup C = some (excClassObj nm q C N bs bm true sn sub ab col dd k0 k1 k2 k3 k5 "ValueError.__new__") ∧ refsVE bm = true
  sa : findIn K (.ref C) "__setattr__" = some (some (.builtin "object.__setattr__"))
  iC : findIn K (.ref C) "__init__" = some (some (.ref fI))
  tI : typeIn K (.ref fI) = some (.type "function")
  cell : ∃ cl cld csl, K.lookup cc = some ⟨cl, cld, .cell (some (.ref C)), csl⟩
  code : ∃ ccl cdd vs ccs tf, K.lookup cda = some ⟨ccl, cdd, .fields vs, ccs⟩ ∧ vs[2]? = some (.str P.main.file tf)
  sup : ks_superIn K C C "__init__" = some (some (.builtin "ValueError.__init__"))
  supB : subIn K (.ref C) (.type "ValueError") = some true
  self : mroIn K C (.ref C) = some true
  opq : nsIn K cStatics "thirdparty.any" = some none
  mS : mg "super" = none
  top : (P.main.scope.names.lookup ("super" : Str)).isSome = false
theorem clsIn_of {C N : Addr} {nm q : Str} {bs bm : List Value} {hd : Bool} {sn : List Str} {sub : List Value} {ab : Bool} {col : Option Bool} {dd : Option Addr} {k0 k1 k2 k3 k5 : Option Value} {nw : String}
    (hC : K.lookup C = some (excClassObj nm q C N bs bm hd sn sub ab col dd k0 k1 k2 k3 k5 nw)) :
    clsIn K C = some { name := nm, bases := bs, mro := .ref C :: bm, ns := N, qualname := q, hasDict := hd, slotNames := sn, subclasses := sub, abstract := ab, collection := col, hasDel := false } := by
  unfold clsIn; rw [hC] <;> rfl
theorem call_mw {u e t0 C N : Addr} {nm q : Str} {bs bm : List Value} {hdct : Bool} {sn : List Str} {sub : List Value} {ab : Bool} {col : Option Bool} {dd : Option Addr} {k0 k1 k2 k3 k5 : Option Value} {h : Heap} {g : Array GenState} {d : Drawn} {t : Nat} {os : OsState} {rest : List Value} {Q : Value → Shared → Prop}
    (hC : h.get? C = some (excClassObj nm q C N bs bm hdct sn sub ab col dd k0 k1 k2 k3 k5 "ValueError.__new__")) (he : h.get? e = some (excObj C t0 none .none)) (hu : h.get? u = some (kxs_mw "ValueError.__init__" e)) (hrest : rest.length ≤ sizeLine)
    (hq : ∀ h' t1, (∀ b o, b ≠ e → h.get? b = some o → h'.get? b = some o) → h'.get? e = some (excObj C t1 none .none) → Q .none ⟨h', g, d, t, os⟩) :
    wpAny (model prog w) A (call (.ref u) rest) Q E ⟨h, g, d, t, os⟩ := by
  refine wpAny_call (codeAny_of_tree ?_)
  show wpAny _ A.in1 (callAny (.ref u) ⟨rest, []⟩) _ _ _
  simp only [callAny]
  refine wpAny_bind (wpAny_load hu ?_)
  simp only [kxs_mw, show (Value.type "method-wrapper" == Value.type "method" || Value.type "method-wrapper" == Value.type "builtin_function_or_method" || Value.type "method-wrapper" == Value.type "method-wrapper") = true by decide, if_true]
  refine KFB.if_so (by decide) ?_
  refine wpAny_bind (check_bound_init F.excBase_ValueError.toExcCallFacts hC he rfl ?_)
  refine wpAny_bind (wpAny_pure (wpAny_pure ?_))
  refine ⟨plainId_quiet F.excBase_ValueError.init.plain _, codeAny_builtin F.excBase_ValueError.initEntry ?_⟩
  exact exc_init_tree (cls := .ref C) (t0 := t0) (dv := none) (c2 := .none) (c3 := .none) (b4 := .bool false) he hrest fun h' k e' _ => hq h' _ k e'
theorem super_stmt {pl : Sem Bool} {C fI cc cda L x t0 : Addr} {fd : FuncData} {oc : Value} {od : Option Addr} {osl : Array (Option Value)} {ar : Arg} {q : Str} {scope : Scope} {body : List Stmt} {msg : Expr} {p0 p1 p2 p3 p4 : Pos} {Q : Flow → Shared → Prop}
    (T : Txt prog K mg C fI cc cda) (Mo : Mod K mg base) (kb : ∀ b o, base.get? b = some o → s.heap.get? b = some o)
    (hf : K.lookup fI = some ⟨oc, od, .func fd, osl⟩) (hp : (fd.params.posonlyargs ++ fd.params.args).head? = some ar) (har : ar.arg = "self")
    (hks : scope.names.lookup ("super" : Str) = some .globalImplicit) (hkc : scope.names.lookup ("__class__" : Str) = some .free) (hka : scope.names.lookup ("self" : Str) = some .local) (hk : scope.kind = .function)
    (hns : s.heap.Ns L m) (hv : m "self" = some (.ref x)) (hx : s.heap.get? x = some (excO C t0))
    (hmsg : ∀ (s' : Shared) (Q' : Value → Shared → Prop), s'.heap.Ns L m → (∀ (z : Str) tk n, Q' (.str z tk) { s' with toks := n }) → wpAny (model prog w) A (eval msg (ksEnv q scope L fI (.ref cda) cc)) Q' E s')
    (hq : ∀ h' tk t1, (∀ b o, b ≠ x → s.heap.get? b = some o → h'.get? b = some o) → h'.get? x = some (excO C t1) → Q .next { s with heap := h', toks := tk })
    (hin : interactive (ksEnv q scope L fI (.ref cda) cc) = false := by rfl)
    (he : starEach [msg] (ksEnv q scope L fI (.ref cda) cc) = (false, eval msg (ksEnv q scope L fI (.ref cda) cc)) :: starEach [] (ksEnv q scope L fI (.ref cda) cc) := by rfl)
    (hsw : swapsWith (.Call (.Attribute (.Call (.Name "super" p0) [] [] p1) "__init__" p2) [msg] [] p3) none p4.line (ksEnv q scope L fI (.ref cda) cc) = pure false := by rfl)
    (hmc : eval (.Call (.Attribute (.Call (.Name "super" p0) [] [] p1) "__init__" p2) [msg] [] p3) (ksEnv q scope L fI (.ref cda) cc) = (do
      let ov ← attributeBase (.Call (.Name "super" p0) [] [] p1) "__init__" (ksEnv q scope L fI (.ref cda) cc) (eval (.Call (.Name "super" p0) [] [] p1) (ksEnv q scope L fI (.ref cda) cc))
      standAt p2.atName
      let (f, first) ← holding [ov] (getMethod ov "__init__" pl)
      callWith p3 f first (backTo p3 (starEach [msg] (ksEnv q scope L fI (.ref cda) cc))) []) := by rfl) :
    PySem.wpAt (model prog w) A (.func body (ksEnv q scope L fI (.ref cda) cc)) (exec (.Expr (.Call (.Attribute (.Call (.Name "super" p0) [] [] p1) "__init__" p2) [msg] [] p3) p4) (ksEnv q scope L fI (.ref cda) cc)) Q E s := by
  obtain ⟨nm, q0, N, bs, bm, sn, sub, ab, col, dd, k0, k1, k2, k3, k5, hC, hbm⟩ := T.cls
  obtain ⟨cl, cld, csl, hcell⟩ := T.cell
  obtain ⟨ccl, cdd, vs, ccs, tf, hcode, hvs⟩ := T.code
  obtain ⟨mb, hb1, hb2⟩ := Mo.blt
  have X : K.In s.heap := Mo.kin.keeps kb
  have hcl := clsIn_of hC
  have hss : alongIn K "__init__" (((Value.ref C :: bm).dropWhile (· != .ref C)).drop 1) = some (some (.builtin "ValueError.__init__")) := by
    have z := T.sup
    unfold ks_superIn at z
    rw [hcl] at z
    exact z
  have Ix : InstAt s.heap x (excO C t0) C none := ⟨hx, rfl, rfl, trivial⟩
  have hxC : x ≠ C := ks_ne X Ix hcl
  obtain ⟨hh, g, d, t, os⟩ := s
  refine ks_wpAt_Expr_any (ks_wpAt_MethodCall (pl := pl) ?_ hmc) hin hsw
  refine ks_wpAt_super_base (env := ksEnv q scope L fI (.ref cda) cc) hks hkc rfl rfl (X _ _ hf) rfl hp rfl (X _ _ hcode) rfl hvs (beq_self_eq_true _) T.top ?_
  refine ks_loadName_global hk hks (loadGlobal_builtin (env := ksEnv q scope L fI (.ref cda) cc) (Mo.glob.keeps kb) T.mS (hb1.keeps kb) ((hb2 _ (by decide)).trans (by decide +kernel : bootBuiltins "super" = some (.type "super"))) ⟨rfl, ?_⟩)
  refine wpAny_loadName_free hk hkc rfl ⟨_, X _ _ hcell, rfl⟩ ?_
  rw [har]
  refine wpAny_loadName_local hk hka hns hv ?_
  refine ks_wpAny_isType_cls (X _ _ hC) rfl ⟨rfl, ?_⟩
  refine ks_wpAny_call_super (X _ _ hC) rfl hx rfl (fun c e => by cases e) (looks_mroIn X T.self) (fun h1 e1 kk1 => ?_)
  have X1 : K.In h1 := X.keeps kk1
  have hx1 := kk1 _ _ hx
  have I1 : InstAt h1 x (excO C t0) C none := ⟨hx1, rfl, rfl, trivial⟩
  refine kxs_getMethod kxs_ValueError e1 (looks_opaque X1 T.opq) (l₀ := .ref C :: bm) (fun A Q E s k q => wpAny_bind ((looks_clsIn X1 hcl) A _ E s k (wpAny_pure q))) rfl X1 hss (I1.type.andThen (looks_subIn X1 T.supB)) hxC rfl ?_
  have hns1 : (h1.push (kxs_mw "ValueError.__init__" x)).Ns L m := hns.keeps fun b o e => Heap.get?_push_of_some _ (kk1 b o e)
  rw [he]
  refine kxs_callWith (i := "ValueError.__init__") (x := x) rfl (evalArgs_plain (Calls.spliced_cons (hmsg _ _ hns1 fun z tk n => Calls.spliced_nil ⟨?_, ?_⟩)))
  · exact Heap.get?_push_size _ rfl
  · refine call_mw (Heap.get?_push_of_some _ (X1 _ _ hC)) (Heap.get?_push_of_some _ hx1) (Heap.get?_push_size _ rfl) (show 1 ≤ sizeLine by decide) fun h' t1 k e => ?_
    exact hq h' _ t1 (fun b o hb ho => k b o hb (Heap.get?_push_of_some _ (kk1 b o ho))) e
end
/-! ### the text -/
def TxE (prog : Program) (w : World) (env : Env) (m : Str → Option Value) (e : Expr) : Prop := ∀ (A : Around) (E : Value → Shared → Prop) (s : Shared) (Q : Value → Shared → Prop), s.heap.Ns env.locals m →
  (∀ (z : Str) tk n, z.length ≤ 100000 → Q (.str z tk) { s with toks := n }) → wpAny (model prog w) A (eval e env) Q E s
/-- what {x!r} is written of -/
def MsgV (v : Value) : Prop := (∃ i t, v = .int i t ∧ i.natAbs.log2 < 1920) ∨ ∃ y t, v = .str y t ∧ (reprText y).length ≤ 100000 ∧ y.length ≤ 100000
section
variable {prog : Program} {w : World} {env : Env} {m : Str → Option Value}
theorem small_size {n : Nat} (h : n ≤ 100000) : n ≤ sizeLine := Nat.le_trans h (by decide)
theorem tx_const {z : Str} {k : Nat} {pos : Pos} (h : z.length ≤ 100000) : TxE prog w env m (.Constant (.str z) k pos) := fun A E s Q _ q => by
  rw [eval_Constant]
  exact wpAny_mkText (q z _ _ h)
theorem ld_name {A : Around} {E : Value → Shared → Prop} {s : Shared} {Q : Value → Shared → Prop} {x : Str} {p : Pos} {v : Value} (hn : s.heap.Ns env.locals m) (hv : m x = some v) (hk : env.scope.kind = .function) (hl : env.kindOf x = some .local) (h : Q v s) (hd : (x == ("__debug__" : Str)) = false := by decide) :
    wpAny (model prog w) A (eval (.Name x p) env) Q E s := wpAny_Name (wpAny_loadName_local hk hl hn hv h) hd
theorem tx_repr {x : Str} {p pos : Pos} {v : Value} (hv : m x = some v) (ok : MsgV v) (hk : env.scope.kind = .function) (hl : env.kindOf x = some .local) (hd : (x == ("__debug__" : Str)) = false := by decide) : TxE prog w env m (.FormattedValue (.Name x p) 114 none pos) := fun A E s Q hn q => by
  refine wpAny_FormattedValue_repr (ld_name hn hv hk hl ?_ hd)
  rcases ok with ⟨i, t, rfl, hz⟩ | ⟨y, t, rfl, hz, _⟩
  · have hl : (Str.ofString (toString i)).length ≤ 100000 := by
      have e := int_text_length_le (k := 1920) (by decide) hz
      rw [PySem.ofString_length]; omega
    exact pyReprObj_int hz (wpAny_formatField_str (q _ _ _ hl) (q _ _ _ hl) (small_size hl))
  · exact pyReprObj_str (wpAny_formatField_str (q _ _ _ hz) (q _ _ _ hz) (small_size hz)) (small_size hz)
theorem tx_plain {x : Str} {p pos : Pos} {v : Value} (hv : m x = some v) (ok : MsgV v) (hk : env.scope.kind = .function) (hl : env.kindOf x = some .local) (hd : (x == ("__debug__" : Str)) = false := by decide) : TxE prog w env m (.FormattedValue (.Name x p) (-1) none pos) := fun A E s Q hn q => by
  refine wpAny_FormattedValue_plain (ld_name hn hv hk hl ?_ hd)
  rcases ok with ⟨i, t, rfl, hz⟩ | ⟨y, t, rfl, _, hz⟩
  · have hl : (Str.ofString (toString i)).length ≤ 100000 := by
      have e := int_text_length_le (k := 1920) (by decide) hz
      rw [PySem.ofString_length]; omega
    exact wpAny_formatField_int hz (q _ _ _ hl)
  · exact wpAny_formatField_str (q y _ s.toks hz) (q _ _ _ hz) (small_size hz)
inductive TxP (prog : Program) (w : World) (env : Env) (m : Str → Option Value) : List Expr → Prop where
  | nil : TxP prog w env m []
  | cons {e : Expr} {es : List Expr} (h : TxE prog w env m e) (r : TxP prog w env m es) : TxP prog w env m (e :: es)
theorem txp_run {es : List Expr} (h : TxP prog w env m es) : ∀ (A : Around) (E : Value → Shared → Prop) (acc : Str) (s : Shared) (R : Str → Shared → Prop), acc.length + 100000 * es.length ≤ sizeLine → s.heap.Ns env.locals m →
    (∀ out n, out.length ≤ sizeLine → R out { s with toks := n }) → Joins (model prog w) A E (evalEach es env) acc R s := by
  induction h with
  | nil =>
    intro A E acc s R hz hn k
    have e0 : evalEach [] env = [] := by first | rfl | simp [evalEach]
    rw [e0]
    exact k acc s.toks (by simpa using hz)
  | @cons e es he r ih =>
    intro A E acc s R hz hn k
    have e0 : evalEach (e :: es) env = eval e env :: evalEach es env := by first | rfl | simp [evalEach]
    rw [e0]
    rw [List.length_cons] at hz
    refine he A E s _ hn fun z tk n hl => ⟨z, tk, rfl, ?_, ?_⟩
    · rw [Str.length_append]; omega
    · refine ih A E (acc ++ z) { s with toks := n } R (by rw [Str.length_append]; omega) hn fun out n' ho => ?_
      exact k out n' ho
theorem tx_joined {v1 v2 : Expr} {rest : List Expr} {pos : Pos} {A : Around} {E : Value → Shared → Prop} {s : Shared} {Q : Value → Shared → Prop} (h : TxP prog w env m (v1 :: v2 :: rest)) (hz : 100000 * (v1 :: v2 :: rest).length ≤ sizeLine) (hn : s.heap.Ns env.locals m)
    (q : ∀ (z : Str) tk n, Q (.str z tk) { s with toks := n }) : wpAny (model prog w) A (eval (.JoinedStr (v1 :: v2 :: rest) pos) env) Q E s :=
  wpAny_JoinedStr (txp_run h A E Str.empty s _ (by rw [show Str.empty.length = 0 from rfl, Nat.zero_add]; exact hz) hn fun out n ho => ⟨ho, q out _ _⟩)
end
/-! ### __init__ of one argument -/
/-- the text of def __init__(self, f): super().__init__(msg); self.f = f -/
structure Sh1 (prog : Program) (w : World) (st : Stmt) (f : Str) : Prop where
  body : ∃ (msg : Expr) (p0 p1 p2 p3 p4 q1 q2 q3 q4 : Pos) (pl : Sem Bool), defBody st = [.Expr (.Call (.Attribute (.Call (.Name "super" p0) [] [] p1) "__init__" p2) [msg] [] p3) p4, .Assign [.Attribute (.Name "self" q1) f q2] (.Name f q3) q4] ∧
    (∀ (q : Str) (L fI cda cc : Addr) (m : Str → Option Value) (v : Value) (A : Around) (E : Value → Shared → Prop) (s : Shared) (Q : Value → Shared → Prop), m f = some v → MsgV v → s.heap.Ns L m → (∀ (z : Str) tk n, Q (.str z tk) { s with toks := n }) →
      wpAny (model prog w) A (eval msg (ksEnv q (defScope st) L fI (.ref cda) cc)) Q E s) ∧
    (∀ (q : Str) (L fI cda cc : Addr), interactive (ksEnv q (defScope st) L fI (.ref cda) cc) = false ∧ starEach [msg] (ksEnv q (defScope st) L fI (.ref cda) cc) = (false, eval msg (ksEnv q (defScope st) L fI (.ref cda) cc)) :: starEach [] (ksEnv q (defScope st) L fI (.ref cda) cc) ∧
      swapsWith (.Call (.Attribute (.Call (.Name "super" p0) [] [] p1) "__init__" p2) [msg] [] p3) none p4.line (ksEnv q (defScope st) L fI (.ref cda) cc) = pure false ∧
      eval (.Call (.Attribute (.Call (.Name "super" p0) [] [] p1) "__init__" p2) [msg] [] p3) (ksEnv q (defScope st) L fI (.ref cda) cc) = (do
        let ov ← attributeBase (.Call (.Name "super" p0) [] [] p1) "__init__" (ksEnv q (defScope st) L fI (.ref cda) cc) (eval (.Call (.Name "super" p0) [] [] p1) (ksEnv q (defScope st) L fI (.ref cda) cc))
        standAt p2.atName
        let (f, first) ← holding [ov] (getMethod ov "__init__" pl)
        callWith p3 f first (backTo p3 (starEach [msg] (ksEnv q (defScope st) L fI (.ref cda) cc))) []) ∧
      swapsWith (.Name f q3) (some (.Attribute (.Name "self" q1) f q2)) q4.line (ksEnv q (defScope st) L fI (.ref cda) cc) = pure false)
  head : ∃ ar, ((defArgs st).posonlyargs ++ (defArgs st).args).head? = some ar ∧ ar.arg = "self"
  ks : (defScope st).names.lookup ("super" : Str) = some .globalImplicit
  kc : (defScope st).names.lookup ("__class__" : Str) = some .free
  ka : (defScope st).names.lookup ("self" : Str) = some .local
  kf : (defScope st).names.lookup f = some .local
  fd : (f == ("__debug__" : Str)) = false
  fs : (("self" : Str) == f) = false
  k : (defScope st).kind = .function
  co : (defScope st).isCoroutine = false
  gen : (defScope st).isGenerator = false
  nocell : ∀ x ∈ (defScope st).names, x.2 ≠ .cell
  binds : ∀ (s : Shared) (x : Addr) (v : Value) (qual : Str) (doc pm : Value) (an : Option Addr) (cda cc : Addr) (ct : Value), BindsTo s (ksFn "__init__" qual (defArgs st) (defBody st) (defScope st) .none .none doc pm an (.ref cda) ct cc) ⟨[.ref x, v], []⟩ [("self", .ref x), (f, v)]
/-- what __init__ leaves of a fresh exception at x -/
structure IEnd (h h' : Heap) (x C dx t1 : Addr) (mA : Str → Option Value) : Prop where
  keep : ∀ b o, b ≠ x → h.get? b = some o → h'.get? b = some o
  obj : h'.get? x = some { cls := .ref C, dict := some dx, data := .fields #[.ref t1, .none, .none, .none, .bool false, .none] }
  dbig : h.objs.size ≤ dx
  dne : dx ≠ x
  ns : h'.Ns1 dx mA
section
variable {prog : Program} {w : World} {A : Around} {E : Value → Shared → Prop} {R : Result → Shared → Prop} {s : Shared} {K : Frag} {mg : Str → Option Value} {base : Heap}
theorem init1 {C fI cc cda x t0 : Addr} {st : Stmt} {f qual : Str} {oc doc pm ct : Value} {od an : Option Addr} {osl : Array (Option Value)} {v : Value} (S : Sh1 prog w st f) (T : Txt prog K mg C fI cc cda) (Mo : Mod K mg base) (kb : ∀ b o, base.get? b = some o → s.heap.get? b = some o)
    (hf : K.lookup fI = some ⟨oc, od, .func (ksFn "__init__" qual (defArgs st) (defBody st) (defScope st) .none .none doc pm an (.ref cda) ct cc), osl⟩) (hcd : codeIn K (.ref cda) qual = true) (noN : findIn K (.ref C) f = some none)
    (hx : s.heap.get? x = some (excO C t0)) (hnx : K.lookup x = none) (hroom : A.depth < recursionLimit) (ok : MsgV v)
    (hq : ∀ h' tk dx t1, IEnd s.heap h' x C dx t1 (fun y => if y = f then some v else none) → R (.ok (.ret .none)) { s with heap := h', toks := tk }) :
    codeAny (model prog w) A (.call (.ref fI) ⟨[.ref x, v], []⟩) R s := by
  obtain ⟨msg, p0, p1, p2, p3, p4, q1, q2, q3, q4, pl, hb, hmsg, hev⟩ := S.body
  obtain ⟨ar, har, hself⟩ := S.head
  obtain ⟨nm, q0, N, bs, bm, sn, sub, ab, col, dd, k0, k1, k2, k3, k5, hC, hbm⟩ := T.cls
  have hcl := clsIn_of hC
  have X : K.In s.heap := Mo.kin.keeps kb
  refine ks_codeAny_call_defAt (fd := ksFn "__init__" qual (defArgs st) (defBody st) (defScope st) .none .none doc pm an (.ref cda) ct cc) (body := defBody st) (binds := [("self", .ref x), (f, v)]) hroom (X _ _ hf) rfl (Mo.nolimit.keeps kb) (codeRec_of X hcd) rfl (S.binds s x v qual doc pm an cda cc ct) S.nocell (fun y hy => ?_) (fun h1 hns k1 => ?_) S.co S.gen S.k
  · rcases List.mem_cons.mp hy with rfl | hy
    · exact S.ka
    · rw [List.mem_singleton.mp hy]; exact S.kf
  · have hx1 := k1 _ _ hx
    have kb1 : ∀ b o, base.get? b = some o → h1.get? b = some o := fun b o e => k1 b o (kb b o e)
    obtain ⟨e0, e1, e2, e3, e4⟩ := hev qual s.heap.objs.size fI cda cc
    have hv1 : (fun y => List.lookup y [(("self" : Str), Value.ref x), (f, v)].reverse) "self" = some (.ref x) := by
      show List.lookup ("self" : Str) ([(f, v), (("self" : Str), Value.ref x)] : List (Str × Value)) = _
      simp [List.lookup, S.fs]
    have hv2 : (fun y => List.lookup y [(("self" : Str), Value.ref x), (f, v)].reverse) f = some v := by
      show List.lookup f ([(f, v), (("self" : Str), Value.ref x)] : List (Str × Value)) = _
      simp [List.lookup]
    show PySem.wpAt (model prog w) (A.deeper (ksEnv qual (defScope st) s.heap.objs.size fI (.ref cda) cc)) (.func (defBody st) (ksEnv qual (defScope st) s.heap.objs.size fI (.ref cda) cc)) (execs (defBody st) (ksEnv qual (defScope st) s.heap.objs.size fI (.ref cda) cc)) _ _ _
    generalize hbb : defBody st = bb at hb ⊢
    rw [hb]
    refine ks_wpAt_execs_cons (super_stmt (pl := pl) T Mo kb1 hf har hself S.ks S.kc S.ka S.k hns hv1 hx1 (fun s' Q' hn q => hmsg _ _ _ _ _ _ v _ _ _ _ hv2 ok hn q) (fun h2 tk2 t1 k2 hx2 => ?_) e0 e1 e2 e3)
    refine wpAt_of_wpAny ?_
    have hL : s.heap.objs.size ≠ x := Nat.ne_of_gt (Heap.lt_size hx)
    obtain ⟨oL, es, ep, hoL, hr⟩ := hns
    have hns2 : h2.Ns s.heap.objs.size (fun y => List.lookup y [(("self" : Str), Value.ref x), (f, v)].reverse) := ⟨oL, es, ep, k2 _ _ hL hoL, hr⟩
    have X2 : K.In h2 := fun b o e => k2 b o (fun z => by rw [z, hnx] at e; cases e) (k1 b o (X _ _ e))
    refine wpAny_execs_cons (plainObj_wpAny_Assign_Attribute ?_ e4)
    refine ld_name (v := v) hns2 hv2 S.k S.kf (ld_name (v := .ref x) hns2 hv1 S.k S.ka ?_) S.fd
    refine set_plain X2 (ox := excO C t1) (od := none) ⟨hx2, rfl, rfl, trivial⟩ T.sa ?_
    refine PySem.HandSPX.exc_osa X2 hx2 hcl (show refsVE (.ref C :: bm) = true from hbm) rfl noN (fun h3 tk3 dx k3 dn dne hx3 hn3 => ?_)
    have z : s.heap.objs.size ≤ h2.objs.size := Nat.le_of_lt (Heap.lt_size (k2 _ _ hL hoL))
    exact wpAny_execs_nil (hq h3 _ dx t1 ⟨fun b o hb e => k3 b o hb (k2 b o hb (k1 b o e)), hx3, Nat.le_trans z dn, dne, hn3⟩)
/-- a made error: its own dict d holds the field -/
structure Made (h h' : Heap) (e C d : Addr) (mA : Str → Option Value) : Prop where
  keep : ∀ b o, h.get? b = some o → h'.get? b = some o
  new : h.objs.size ≤ e
  obj : ∃ oe vs, h'.get? e = some oe ∧ oe.cls = .ref C ∧ oe.dict = some d ∧ oe.data = .fields vs ∧ vs[1]? = some .none
  dbig : h.objs.size ≤ d
  dne : d ≠ e
  ns : h'.Ns1 d mA
/-- all that is told of an own error class of one argument -/
structure Cls1 (prog : Program) (w : World) (K : Frag) (mg : Str → Option Value) (cn f : Str) (C : Addr) : Prop where
  ex : ∃ (fI cc cda : Addr) (st : Stmt) (qual : Str) (oc doc pm ct : Value) (od an : Option Addr) (osl : Array (Option Value)), Sh1 prog w st f ∧ Txt prog K mg C fI cc cda ∧
    K.lookup fI = some ⟨oc, od, .func (ksFn "__init__" qual (defArgs st) (defBody st) (defScope st) .none .none doc pm an (.ref cda) ct cc), osl⟩ ∧ codeIn K (.ref cda) qual = true
  gC : mg cn = some (.ref C)
  kC : keepIn K (.ref C) = true
  noN : findIn K (.ref C) f = some none
  exC : subIn K (.ref C) (.type "BaseException") = some true
  tyC : typeIn K (.ref C) = some (.type "type")
theorem one_size (v : Value) : [v].length ≤ sizeLine := by
  rw [sizeLine_eq]
  exact (by decide : 1 ≤ 16777216)
theorem made1 {cn f : Str} {C : Addr} {v : Value} (Z : Cls1 prog w K mg cn f C) (Mo : Mod K mg base) (kb : ∀ b o, base.get? b = some o → s.heap.get? b = some o) (hroom : A.depth + 1 < recursionLimit) (ok : MsgV v)
    (hq : ∀ h' tk e d, Made s.heap h' e C d (fun y => if y = f then some v else none) → R (.ok (.ret (.ref e))) { s with heap := h', toks := tk }) :
    codeAny (model prog w) A (.call (.ref C) ⟨[v], []⟩) R s := by
  obtain ⟨fI, cc, cda, st, qual, oc, doc, pm, ct, od, an, osl, S, T, hf, hcd⟩ := Z.ex
  obtain ⟨nm, q, N, bs, bm, sn, sub, ab, col, dd, k0, k1, k2, k3, k5, hC, hbm⟩ := T.cls
  have X : K.In s.heap := Mo.kin.keeps kb
  obtain ⟨hp, g, dr, tk, os⟩ := s
  have k : ∀ b o, hp.get? b = some o → ((hp.push (kdv_tup [v])).push (excO C hp.objs.size)).get? b = some o := fun b o e => Heap.get?_push_of_some _ (Heap.get?_push_of_some _ e)
  have hget : ((hp.push (kdv_tup [v])).push (excO C hp.objs.size)).get? (hp.objs.size + 1) = some (excO C hp.objs.size) := by heap_get
  have hnx : K.lookup (hp.objs.size + 1) = none := by
    cases e : K.lookup (hp.objs.size + 1) with
    | none => rfl
    | some o =>
      have z : hp.get? (hp.objs.size + 1) = some o := X _ _ e
      exact absurd (Nat.lt_of_succ_lt (Heap.lt_size z)) (Nat.lt_irrefl _)
  refine PySem.HandSPX.call_own F.excBase_ValueError (fun X => PySem.HandSPX.refsVE_contains X bm hbm) (X _ _ hC) (looks_findIn X T.iC) (fun self => bind_fn X self T.tI) (one_size v) ?_
  refine init1 (s := ⟨(hp.push (kdv_tup [v])).push (excO C hp.objs.size), g, dr, tk, os⟩) S T Mo (fun b o e => k b o (kb b o e)) hf hcd Z.noN hget hnx ?_ ok fun h' tk' dx t1 ⟨k', hx, dn, dne, hns⟩ => ?_
  · show A.depth + 1 < recursionLimit
    exact hroom
  · have old : ∀ b o, hp.get? b = some o → h'.get? b = some o := fun b o e => k' b o (Nat.ne_of_lt (Nat.lt_succ_of_lt (Heap.lt_size e))) (k b o e)
    have z : hp.objs.size + 1 + 1 ≤ dx := by
      first
        | (simpa only [Heap.size_push] using dn)
        | exact dn
        | (have q := dn; rw [Heap.size_push, Heap.size_push] at q; exact q)
    exact ⟨rfl, hq h' tk' (hp.objs.size + 1) dx ⟨old, Nat.le_succ _, ⟨_, _, hx, rfl, rfl, rfl, rfl⟩, Nat.le_trans (Nat.le_trans (Nat.le_succ _) (Nat.le_succ _)) z, dne, hns⟩⟩
end
theorem relO_one {f : Str} {v : V} {v' : Value} (r : RelV v v') (g : Str) : RelO (List.lookup g [(f, v)]) (if g = f then some v' else none) := by
  by_cases hw : g = f
  · subst hw
    rw [if_pos rfl]
    have q : List.lookup g [(g, v)] = some v := by simp [List.lookup]
    rw [q]
    exact r
  · rw [if_neg hw]
    have qw : (g == f) = false := by simpa using hw
    have q2 : List.lookup g [(f, v)] = none := by simp [List.lookup, qw]
    rw [q2]
    trivial
/-- what may be written in the message: ints below 2 ^ 1920, short texts -/
def MsgA (v : V) : Prop := (∃ i, v = .int i ∧ i.natAbs.log2 < 1920) ∨ ∃ y, v = .str y ∧ (reprText y).length ≤ 100000 ∧ y.length ≤ 100000
theorem MsgA.v {v : V} {u : Value} (h : MsgA v) (r : RelV v u) : MsgV u := by
  rcases h with ⟨i, rfl, h⟩ | ⟨y, rfl, h⟩
  · obtain ⟨t, rfl⟩ := r; exact .inl ⟨i, t, rfl, h⟩
  · obtain ⟨t, rfl⟩ := r; exact .inr ⟨y, t, rfl, h⟩
section
variable {X : Cx} {C : Addr}
/-- the error of one argument, made -/
def tMk1 (C : Addr) (f : Str) (ta : TA) : L2.St → Hp → XK → Prop := fun σ H Q => ta σ H fun vs H1 => ∃ v, vs = [v] ∧ MsgA v ∧ ∀ d, H1 d = none → Q (.ref C) (some d) (upd H1 d (.xd [(f, v)]))
theorem pmk1 {cn f : Str} {a : Expr} {ta : TA} {p pos : Pos} {k : Nat} (Z : Cls1 X.prog X.w X.K X.mg cn f C) (hr : Room k X.A) (ha : PA X [a] ta) (hg : Gl X cn := by rfl) (hdb : (cn == ("__debug__" : Str)) = false := by decide)
    (he : starEach (a :: []) X.env = (false, eval a X.env) :: starEach [] X.env := by rfl) (hpl : (backTo pos (starEach [] X.env)).any (·.1) = false := by rfl) :
    PMk X (.Call (.Name cn p) [a] [] pos) (tMk1 C f ta) := by
  intro pins s σ H Q I h
  refine wpAny_Call_Name_kw (ld_glob I hg Z.gC ?_ hdb)
  refine PySem.W.callWith_K (h₀ := X.base) I.ok.mod.kin Z.kC (thn (ha.run pos pins s σ H _ I h) fun us s1 hh => ?_) he hpl
  obtain ⟨vs, H1, I1, r1, v, ev, hok, q1⟩ := hh
  subst ev
  refine ⟨I1.kIn, ?_⟩
  cases r1 with
  | cons rv rn =>
    rename_i v' us'
    cases rn
    show wpAny _ _ (call (.ref C) [v']) _ _ _
    have hbk := I1.bk
    obtain ⟨hp, g, dr, tk, os⟩ := s1
    refine wpAny_call (made1 Z I1.mod hbk (by have := hr.dp; omega) (hok.v rv) fun h' tk' e d M => ?_)
    show MkP X pins σ Q (.ref e) ⟨h', g, dr, tk', os⟩
    obtain ⟨oe, fv, hoe, hc, hd, hdat, h1⟩ := M.obj
    have hns := M.ns
    obtain ⟨G', g1, g2⟩ := restrict h' fun b => decide (b ≠ e)
    have gk : ∀ b, b ≠ e → G'.get? b = h'.get? b := fun b hb => g1 b (decide_eq_true hb)
    have ge : G'.get? e = none := g2 e (by simp)
    have old : ∀ b o, hp.get? b = some o → G'.get? b = some o := fun b o q => (gk b (Nat.ne_of_lt (Nat.lt_of_lt_of_le (Heap.lt_size q) M.new))).trans (M.keep b o q)
    have ob : ObjOk X.prog X.w (upd H1 d (.xd [(f, v)])) G' d (.xd [(f, v)]) :=
      ⟨_, hns.at (fun o q => (gk d M.dne).trans q), fun g => relO_one rv g⟩
    have J : Inv X pins σ (upd H1 d (.xd [(f, v)])) ⟨G', g, dr, tk', os⟩ := I1.laid (t' := tk') old M.dbig ob
    refine ⟨e, oe, fv, ⟨G', g, dr, tk', os⟩, _, .ref C, some d, rfl, J, fun b o q => ?_, ge, hoe, ⟨hc, hd⟩, hdat, h1, ?_, rfl, I1.bare, raises_own Z.exC Z.tyC, q1 d (I1.hok.fresh M.dbig)⟩
    · by_cases hb : b = e
      · have q' : G'.get? b = some o := q
        rw [hb, ge] at q'; cases q'
      · exact (gk b hb).symm.trans q
    · rw [upd_ne (Ne.symm M.dne)]
      exact I1.hok.fresh M.new
/-- raise C(e) -/
def tRaise1 (C : Addr) (f : Str) (W : WX) (ta : TA) : TS := fun _ σ H => tMk1 C f ta σ H fun cls d H' => W cls d σ H'
theorem ps_raise1 {cn f : Str} {a : Expr} {ta : TA} {W : WX} {p pos pos2 : Pos} {k : Nat} (hc : X.calm = true) (Z : Cls1 X.prog X.w X.K X.mg cn f C) (hr : Room k X.A) (tk : Takes X W) (ha : PA X [a] ta) (hg : Gl X cn := by rfl) (hdb : (cn == ("__debug__" : Str)) = false := by decide)
    (he : starEach (a :: []) X.env = (false, eval a X.env) :: starEach [] X.env := by rfl) (hpl : (backTo pos (starEach [] X.env)).any (·.1) = false := by rfl) :
    PS X (.Raise (some (.Call (.Name cn p) [a] [] pos)) none pos2) (tRaise1 C f W ta) := ps_raise hc tk (pmk1 Z hr ha hg hdb he hpl)
end
theorem r_raise1 {C : Addr} {f : Str} {W : WX} {ta : TA} {D : Ends} {σ : L2.St} {H : Hp} (k : ta σ H fun vs H1 => ∃ v, vs = [v] ∧ MsgA v ∧ ∀ d, H1 d = none → W (.ref C) (some d) σ (upd H1 d (.xd [(f, v)]))) : tRaise1 C f W ta D σ H := k
theorem r_msgI {i : Int} {F : V → Prop} (h : i.natAbs < 2 ^ 1000) (k : F (.int i)) : ∃ v, [V.int i] = [v] ∧ MsgA v ∧ F v := ⟨_, rfl, .inl ⟨i, rfl, Nat.lt_trans (log2_of h (by decide)) (by decide)⟩, k⟩
theorem r_msgS {y : Str} {F : V → Prop} (h : (reprText y).length ≤ 100000) (h2 : y.length ≤ 100000) (k : F (.str y)) : ∃ v, [V.str y] = [v] ∧ MsgA v ∧ F v := ⟨_, rfl, .inr ⟨y, rfl, h, h2⟩, k⟩
theorem r_xf {a C : Addr} {cls : Value} {d : Option Addr} {f : Str} {te : TE} {σ : L2.St} {H : Hp} {Q : VK}
    (k : te σ H fun x H1 => x = .ref a ∧ cls = .ref C ∧ ∃ (dd : Addr) (fs : List (Str × V)) (v : V), d = some dd ∧ H1 dd = some (.xd fs) ∧ fs.lookup f = some v ∧ Q v H1) : tXf a cls d C f te σ H Q := k
theorem r_xfE {a C dd : Addr} {f : Str} {H : Hp} {fs : List (Str × V)} {v : V} {Q : V → Prop} (hd : H dd = some (.xd fs)) (hv : fs.lookup f = some v) (k : Q v) :
    V.ref a = .ref a ∧ Value.ref C = .ref C ∧ ∃ (dd' : Addr) (fs : List (Str × V)) (v : V), some dd = some dd' ∧ H dd' = some (.xd fs) ∧ fs.lookup f = some v ∧ Q v := ⟨rfl, rfl, dd, fs, v, rfl, hd, hv, k⟩
theorem kit_self {K : PySem.W.Frag} {C : Addr} : PySem.W.kitOne K (.ref C) (.ref C) = some true := by
  unfold PySem.W.kitOne
  rw [if_pos (beq_self_eq_true _)]
theorem kit_refs {K : PySem.W.Frag} {C D : Addr} {b : Bool} (hdct : PySem.W.hasDictIn K D = true) (ht : PySem.W.typeIn K (.ref D) = some (.type "type")) (h4 : PySem.W.subIn K (.ref C) (.ref D) = some b) (hq : (Value.ref C == Value.ref D) = false) : PySem.W.kitOne K (.ref C) (.ref D) = some b := by
  obtain ⟨cd, hc, _⟩ := PySem.W.any_some hdct
  have e2 : ((PySem.W.clsIn K D).isSome && PySem.W.typeIn K (.ref D) == some (.type "type")) = true := by rw [hc, ht] <;> rfl
  unfold PySem.W.kitOne
  rw [if_neg (by rw [hq]; decide)]
  show (if ((PySem.W.clsIn K D).isSome && PySem.W.typeIn K (.ref D) == some (.type "type")) = true then PySem.W.subIn K (.ref C) (.ref D) else none) = some b
  rw [if_pos e2]
  exact h4
theorem kit_typ {K : PySem.W.Frag} {C : Addr} {T : String} {b : Bool} (hm : PySem.W.kitMeta T = true) (h4 : PySem.W.subIn K (.ref C) (.type T) = some b) : PySem.W.kitOne K (.ref C) (.type T) = some b := by
  unfold PySem.W.kitOne
  rw [if_neg (by show ¬ (Value.ref C == Value.type T) = true; intro z; cases (beq_iff_eq.mp z))]
  show (if PySem.W.kitMeta T = true then PySem.W.subIn K (.ref C) (.type T) else none) = some b
  rw [if_pos hm]
  exact h4
/-- the comparison within an except suite -/
theorem op_eqDK {X : Cx} {K : PySem.W.Frag} (hK : X.K = K) (hu : X.A.units + 64 < cLine) : OpR X (compareOp .Eq) (rEqD K) := by subst hK; exact op_eqD hu
theorem op_neDK {X : Cx} {K : PySem.W.Frag} (hK : X.K = K) (hu : X.A.units + 64 < cLine) : OpR X (compareOp .NotEq) (rNeD K) := by subst hK; exact op_neD hu
/-! ### isinstance(e, c), e a caught error of an own class with its dict -/
def rIsD (K : PySem.W.Frag) (a : Addr) (cls : Value) (d : Option Addr) : List V → Hp → VK → Prop := fun xs H Q => ∃ (D dd : Addr) (fs : List (Str × V)) (c : V) (cv : Value) (b : Bool), cls = .ref D ∧ d = some dd ∧ ExcC K D ∧ xs = [.ref a, c] ∧ H dd = some (.xd fs) ∧ (∀ u, RelV c u → u = cv) ∧ PySem.W.kitOne K (.ref D) cv = some b ∧ Q (.bl b) H
theorem call_isD {X : Cx} {a : Addr} {cls : Value} {d : Option Addr} {oe : Obj} {pn : List (Addr × Obj)} (hz : Zc cls d oe) (hf : ∃ vs, oe.data = .fields vs) : CallR (X.suite a ((a, oe) :: pn)) (.builtin "isinstance") (rIsD X.K a cls d) := by
  intro pins s σ H xs us Q I r h
  obtain ⟨D, dd, fs, c, cv, b, rfl, rfl, C, rfl, hdd, hcv, e, q⟩ := h
  cases r with
  | cons rx rr =>
    cases rr with
    | cons rt rr =>
      cases rr
      cases rx
      have ec := hcv _ rt
      subst ec
      obtain ⟨hget, _⟩ := I.pin (a, oe) (List.mem_append.mpr (.inl List.mem_cons_self))
      obtain ⟨vs, hv⟩ := hf
      have hx : ObjOk X.prog X.w H s.heap dd (.xd fs) := I.hok dd _ hdd
      obtain ⟨mA, ⟨od, es, ep, ho, hr⟩, hl⟩ := hx
      have J : PySem.W.InstAt s.heap a oe D (some od) := by
        refine ⟨hget, hz.1, by unfold PySem.W.notCls; rw [hv] <;> rfl, ?_⟩
        rw [hz.2]; exact ho
      obtain ⟨cd, hcd, _⟩ := PySem.W.any_some C.hd
      exact PySem.W.kia_one (PySem.W.kitx_exc (by rw [hcd]; rfl) C.hg C.hk C.hs C.ha C.hn C.ht C.hm) I.kIn J e (fun z => nomatch z) fun tk => ⟨.bl b, H, I.kept (t' := tk) fun _ _ z => z, rfl, q⟩
theorem r_isD {K : PySem.W.Frag} {a D dd : Addr} {fs : List (Str × V)} {c : V} {cv : Value} {b : Bool} {H : Hp} {Q : VK} (C : ExcC K D) (hd : H dd = some (.xd fs)) (hc : ∀ u, RelV c u → u = cv) (hk : PySem.W.kitOne K (.ref D) cv = some b) (k : Q (.bl b) H) :
    rIsD K a (.ref D) (some dd) [.ref a, c] H Q := ⟨D, dd, fs, c, cv, b, rfl, rfl, C, rfl, hd, hc, hk, k⟩
end Er
/-! ### operators of own classes, over the layer -/
namespace Ow
open PySem.W PySem.Calls
theorem inst_of {X : Cx} {pins : List (Addr × Obj)} {σ : L2.St} {H : Hp} {s : Shared} {a C dx : Addr} {fs : List (Str × V)} (I : Inv X pins σ H s) (h : H a = some (.ins C dx fs)) : ∃ ox od, InstAt s.heap a ox C od ∧ ox.data = .plain := by
  obtain ⟨mA, O, _⟩ := ins_get I.hok h
  obtain ⟨od, J, _⟩ := O.look
  exact ⟨_, _, J, rfl⟩
theorem not_ni {v : V} {u : Value} (r : RelV v u) : u ≠ .notImplemented := by
  rintro rfl
  cases v <;> first | (cases r; done) | (obtain ⟨t, e⟩ := r; cases e)
theorem cmpBack {X : Cx} {pins : List (Addr × Obj)} {σ : L2.St} {Q : VK} {u : Value} {s : Shared} (h : EP X pins σ Q u s) : PySem.W.CmpBack (EP X pins σ Q) u s := by
  obtain ⟨v, H', I, r, q⟩ := id h
  have n := not_ni r
  cases u <;> first | exact h | exact absurd rfl n
section
variable {X : Cx} {CX : CXT} {k : Nat} {C f : Addr} {sp : Sp} {E : XK}
/-- the callee, with values -/
theorem run_own {pins : List (Addr × Obj)} {σ : L2.St} {H : Hp} {s : Shared} {Q : VK} {us : List Value} {vs : List V} (F : FnR X.prog X.w X.K X.mg X.base CX k f sp) (hr : Room k X.A) (hx : Passes CX X E) (I : Inv X pins σ H s) (r : Vals vs us) (h : sp vs H Q E) :
    wpAny (model X.prog X.w) X.A (call (.ref f) us) (EP X pins σ Q) X.xe s := wpAny_call (run_fnR F hr hx I r h)
/-- x op y, both of the class C -/
def rOwn2 (C : Addr) (sp : Sp) (E : XK) : R2 := fun x y H Q => ∃ a dx fs b dy gs, x = .ref a ∧ y = .ref b ∧ H a = some (.ins C dx fs) ∧ H b = some (.ins C dy gs) ∧ sp [x, y] H Q E
theorem op_own2 {op : Operator} {m : Str} (sf : selfFirst X.K C = true) (M : Meth X.K C m f) (F : FnR X.prog X.w X.K X.mg X.base CX k f sp) (hr : Room k X.A) (hx : Passes CX X E) (hm : PySem.dunder op.info.2 = m := by rfl) : OpR X (binaryOp op) (rOwn2 C sp E) := by
  intro pins s σ H x y v u Q I rx ry h
  obtain ⟨a, dx, fs, b, dy, gs, rfl, rfl, ha, hb, q⟩ := h
  obtain rfl : v = Value.ref a := rx
  obtain rfl : u = Value.ref b := ry
  obtain ⟨ox, od, J, _⟩ := inst_of I ha
  obtain ⟨oy, od', J', _⟩ := inst_of I hb
  obtain ⟨mm, Fm⟩ := I.fr
  refine binop_K Fm I.ok.mod.kin J J'.type sf (by rw [hm]; exact M.at_) M.fn ?_
  exact wpAny_mono (run_own (vs := [.ref a, .ref b]) F hr hx I (.cons rfl (.cons rfl .nil)) q) (fun _ _ z => cmpBack z) fun _ _ e => e
/-- x op n, x of the class C, n an int -/
def rOwnI (C : Addr) (sp : Sp) (E : XK) : R2 := fun x y H Q => ∃ a dx fs n, x = .ref a ∧ y = .int n ∧ H a = some (.ins C dx fs) ∧ sp [x, y] H Q E
theorem op_ownI {op : Operator} {m mr : Str} {fo ro rc : Option Value} (sf : selfFirst X.K C = true) (M : Meth X.K C m f) (F : FnR X.prog X.w X.K X.mg X.base CX k f sp) (hr : Room k X.A) (hx : Passes CX X E)
    (hrc : findIn X.K (.ref C) mr = some rc) (hp : rc = none ∨ ∃ g : Addr, rc = some (.ref g)) (h1 : findIn X.K (.type "int") m = some fo) (h2 : findIn X.K (.type "int") mr = some ro) (hs : subIn X.K (.type "int") (.ref C) = some false)
    (hm : PySem.dunder op.info.2 = m := by rfl) (hmr : dunderR op.info.2 = mr := by rfl) : OpR X (binaryOp op) (rOwnI C sp E) := by
  intro pins s σ H x y v u Q I rx ry h
  obtain ⟨a, dx, fs, n, rfl, rfl, ha, q⟩ := h
  obtain rfl : v = Value.ref a := rx
  obtain ⟨t, rfl⟩ := ry
  obtain ⟨ox, od, J, _⟩ := inst_of I ha
  obtain ⟨mm, Fm⟩ := I.fr
  subst hm hmr
  refine ksp_binT Fm I.ok.mod.kin J (T := "int") rfl sf M.at_ M.fn hrc hp h1 h2 hs ?_
  exact wpAny_mono (run_own (vs := [.ref a, .int n]) F hr hx I (.cons rfl (.cons ⟨t, rfl⟩ .nil)) q) (fun _ _ z => cmpBack z) fun _ _ e => e
/-- -x -/
def rOwn1 (C : Addr) (sp : Sp) (E : XK) : V → Hp → VK → Prop := fun x H Q => ∃ a dx fs, x = .ref a ∧ H a = some (.ins C dx fs) ∧ sp [x] H Q E
theorem un_ownNeg (M : Meth X.K C "__neg__" f) (F : FnR X.prog X.w X.K X.mg X.base CX k f sp) (hr : Room k X.A) (hx : Passes CX X E) : UnR X (unaryOp .USub) (rOwn1 C sp E) := by
  intro pins s σ H x v Q I rx h
  obtain ⟨a, dx, fs, rfl, ha, q⟩ := h
  obtain rfl : v = Value.ref a := rx
  obtain ⟨ox, od, J, _⟩ := inst_of I ha
  obtain ⟨mm, Fm⟩ := I.fr
  exact ksp_neg Fm I.ok.mod.kin J M.at_ M.fn (run_own (vs := [.ref a]) F hr hx I (.cons rfl .nil) q)
/-- x == y, both of the class C -/
theorem op_ownEq {op : CmpOp} {m : Str} (M : Meth X.K C m f) (F : FnR X.prog X.w X.K X.mg X.base CX k f sp) (hr : Room k X.A) (hx : Passes CX X E) (hu : X.A.units < cLine) (hm : (cmpInfo op).2.1 = m := by rfl)
    (ho : ∀ a b, compareOp op a b = richCompare op a b := by intro _ _; rfl) : OpR X (compareOp op) (rOwn2 C sp E) := by
  intro pins s σ H x y v u Q I rx ry h
  obtain ⟨a, dx, fs, b, dy, gs, rfl, rfl, ha, hb, q⟩ := h
  obtain rfl : v = Value.ref a := rx
  obtain rfl : u = Value.ref b := ry
  obtain ⟨ox, od, J, _⟩ := inst_of I ha
  obtain ⟨oy, od', J', _⟩ := inst_of I hb
  obtain ⟨mm, Fm⟩ := I.fr
  rw [ho]
  refine cmp_K hu Fm I.ok.mod.kin J J'.type (by unfold notFirst; rw [beq_self_eq_true]; rfl) (by rw [hm]; exact M.at_) M.fn ?_
  exact wpAny_mono (run_own (vs := [.ref a, .ref b]) F hr hx I (.cons rfl (.cons rfl .nil)) q) (fun _ _ z => cmpBack z) fun _ _ e => e
end
section
open PySem.Builtin
theorem int_mul_own (a : Int) (t : Tok) (x C dx : Addr) :
    Meets (Builtin.«int.__mul__» ⟨[.int a t, .ref x], []⟩) (fun _ R s => s.heap.get? x = some (PySem.W.instObj C dx) ∧ R (.ok (.ret Value.notImplemented)) s) :=
  .of_wp fun prog w A R s ⟨hl, h⟩ => by
    obtain ⟨hp, g, d, tk, os⟩ := s
    wp_walk
    exact ⟨_, rfl, h⟩
theorem decl_gen {prog : Program} {w : World} {A : Around} {E : Value → Shared → Prop} {s : Shared} {self other : Value} {T id : String} {name : Str} {B : Builtin} {Q : Option Value → Shared → Prop} (hT : s.TypeIs self T) (h : Slot T name id) (entry : entryFor table id = some B)
    (args : argsOk id ⟨[self, other], []⟩) (hm : wpAny (model prog w) A.in1 (B ⟨[self, other], []⟩) (GQ.FinOf prog w A (wants (fun v s' => v = Value.notImplemented ∧ Q none s') E)) (fun e s' => wants (fun v s' => v = Value.notImplemented ∧ Q none s') E (.error e) s') s) :
    wpAny (model prog w) A (tryMethod self name other) Q E s := by
  refine wpAny_tryMethod_declines hT h ?_
  exact GQ.call_here h hT entry args hm
theorem int_declines {prog : Program} {w : World} {A : Around} {E : Value → Shared → Prop} {s : Shared} {x C dx : Addr} {i : Int} {t : Tok} {Q : Option Value → Shared → Prop} (hx : s.heap.get? x = some (instObj C dx)) (q : Q none s) :
    wpAny (model prog w) A (tryMethod (.int i t) (PySem.dunder "mul") (.ref x)) Q E s := by
  have h1 := @decl_gen prog w A E s (.int i t) (.ref x) "int" "int.__mul__" (PySem.dunder "mul") Builtin.«int.__mul__» Q
  have h2 := h1 (typeIs_int _ _ _) 
  have h3 := h2 PySem.F.slot_int_mul
  have h4 := h3 PySem.F.entry_int_mul 
  have h5 := h4 (PySem.F.args_int_mul_2 _ _)
  refine h5 ?_
  exact (int_mul_own i t x C dx prog w A (wants (fun v s' => v = Value.notImplemented ∧ Q none s') E) s ⟨hx, rfl, q⟩)
section
variable {prog : Program} {w : World} {A : Around} {E : Value → Shared → Prop} {s : Shared} {K : Frag} {x C dx f : Addr} {od : Obj}
theorem int_own {i : Int} {t : Tok} {g : Addr} {Q : Value → Shared → Prop} (X : K.In s.heap) (I : InstAt s.heap x (instObj C dx) C (some od)) (hc : selfFirst K C = true) (hm : findIn K (.ref C) "__mul__" = some (some (.ref g)))
    (hs : findIn K (.ref C) "__rmul__" = some (some (.ref f))) (hf : isFn K (.ref f) = true) (hsub : subIn K (.ref C) (.type "int") = some false) (h : wpAny (model prog w) A (call (.ref f) [.ref x, .int i t]) (PySem.W.CmpBack Q) E s) :
    wpAny (model prog w) A (binaryOp .Mult (.int i t) (.ref x)) Q E s := by
  obtain ⟨cd, rest, hcd, hmro⟩ := ksp_first hc
  have one := ksp_try (name := "__rmul__") X I hs hf h
  have L1 : Looks (model prog w) s.heap (typeOf (.int i t)) (.type "int") := Looks.of_pure rfl
  have L2 : Looks (model prog w) s.heap (typeOf (.ref x)) (.ref C) := I.type
  obtain ⟨hh, g', d, tt, os⟩ := s
  have L3 : Looks (model prog w) hh (fillsNumberSlot (.type "int") "mul") true := Looks.of_pure PySem.F.fills_int_mul
  have L4 : Looks (model prog w) hh (fillsNumberSlot (.ref C) "mul") true := fills_K X hcd hmro hm
  have L5 : Looks (model prog w) hh (isSubtype (.ref C) (.type "int")) false := looks_subIn X hsub
  have L7 : Looks (model prog w) hh (numberSlotInPython (.type "int") "mul") false := Looks.of_pure rfl
  have hne : (Value.type "int" == Value.ref C) = false := Bool.eq_false_iff.mpr fun q => by cases beq_iff_eq.mp q
  unfold binaryOp binaryOp1
  refine wpAny_holding (wpAny_bind ?_)
  refine wpAny_bind (L1.at (wpAny_bind (L2.at (wpAny_bind (L3.at ?_)))))
  simp only [hne, Bool.false_eq_true, if_false]
  ksp_lk
  refine int_declines I.at_ ?_
  ksp_lk
  refine wpAny_mono one (fun r s' hr' => ?_) fun _ _ e => e
  obtain ⟨v, rfl, hq⟩ := hr'
  ksp_lk
  exact hq
end
end
section
variable {X : Cx} {CX : CXT} {k : Nat} {C f : Addr} {sp : Sp} {E : XK}
/-- n * x, n an int, x of the class C: the reflected method -/
def rIntOwn (C : Addr) (sp : Sp) (E : XK) : R2 := fun x y H Q => ∃ b dx fs n, x = .int n ∧ y = .ref b ∧ H b = some (.ins C dx fs) ∧ sp [y, x] H Q E
theorem op_intMul {g : Addr} (sf : selfFirst X.K C = true) (M0 : Meth X.K C "__mul__" g) (M : Meth X.K C "__rmul__" f) (hs : subIn X.K (.ref C) (.type "int") = some false) (F : FnR X.prog X.w X.K X.mg X.base CX k f sp) (hr : Room k X.A) (hx : Passes CX X E) : OpR X (binaryOp .Mult) (rIntOwn C sp E) := by
  intro pins s σ H x y v u Q I rx ry h
  obtain ⟨b, dx, fs, n, rfl, rfl, hb, q⟩ := h
  obtain ⟨t, rfl⟩ := rx
  obtain rfl : u = Value.ref b := ry
  obtain ⟨mA, O, _⟩ := ins_get I.hok hb
  obtain ⟨od, J, _⟩ := O.look
  exact int_own I.kIn J sf M0.at_ M.at_ M.fn hs (wpAny_mono (run_own (vs := [.ref b, .int n]) F hr hx I (.cons rfl (.cons ⟨t, rfl⟩ .nil)) q) (fun _ _ z => cmpBack z) fun _ _ e => e)
/-- str(x), x of the class C -/
def rStrOwn (C : Addr) (sp : Sp) (E : XK) : List V → Hp → VK → Prop := fun xs H Q => ∃ a dx fs, xs = [.ref a] ∧ H a = some (.ins C dx fs) ∧ sp [.ref a] H (fun v H' => ∃ z, v = .str z ∧ Q v H') E
theorem call_strOwn (M : Meth X.K C "__str__" f) (F : FnR X.prog X.w X.K X.mg X.base CX k f sp) (hr : Room (k + 2) X.A) (hx : Passes CX X E) : CallR X (.type "str") (rStrOwn C sp E) := by
  intro pins s σ H xs us Q I r h
  obtain ⟨a, dx, fs, rfl, ha, q⟩ := h
  obtain ⟨u, rfl, ru⟩ := r.one
  obtain rfl : u = Value.ref a := ru
  obtain ⟨ox, od, J, _⟩ := inst_of I ha
  have hr2 : Room k X.A.in1.in1 := (show Room (k + 1) X.A.in1 from Room.in1 hr).in1
  refine kso_call hr2.units0 I.kIn J M.at_ M.fn (wpAny_mono (wpAny_call (SlX.run_at (us := [.ref a]) (ws := [.ref a]) F hr2 I.env0.in1.in1 hx I (.cons rfl .nil) q)) (fun u' s' z => ?_) fun _ _ x => x)
  obtain ⟨z', H', I', rz, y, ey, qz⟩ := z
  subst ey
  obtain ⟨t, e⟩ := (show ∃ t, u' = Value.str y t from rz)
  subst e
  exact ⟨.str y, H', I', ⟨t, rfl⟩, qz⟩
/-- x.f, read -/
def rFld (K : Frag) (f : Str) : V → Hp → VK → Prop := fun x H Q => ∃ a C dx fs v, x = .ref a ∧ H a = some (.ins C dx fs) ∧ Cls K C ∧ NoAttr K C f ∧ fs.lookup f = some v ∧ Q v H
theorem r_fld {K : Frag} {ta : TE} {f : Str} {σ : L2.St} {H : Hp} {Q : VK} (k : ta σ H fun x H1 => rFld K f x H1 Q) : tFld K ta f σ H Q := k
theorem r_fldAt {K : Frag} {f : Str} {H : Hp} {Q : VK} {a C dx : Addr} {fs : List (Str × V)} {v : V} (h : H a = some (.ins C dx fs)) (c : Cls K C) (n : NoAttr K C f) (l : fs.lookup f = some v) (k : Q v H) : rFld K f (.ref a) H Q := ⟨a, C, dx, fs, v, rfl, h, c, n, l, k⟩
/-- x.f = v -/
def rSFld (K : Frag) (f : Str) : V → V → Hp → (Hp → Prop) → Prop := fun x y H Q => ∃ a C dx fs, x = .ref a ∧ H a = some (.ins C dx fs) ∧ Cls K C ∧ NoAttr K C f ∧ fs.length < 1000 ∧ Q (upd H a (.ins C dx (putF f y fs)))
theorem r_sfld {K : Frag} {ta tv : TE} {f : Str} {D : Ends} {σ : L2.St} {H : Hp} (k : tv σ H fun y H1 => ta σ H1 fun x H2 => rSFld K f x y H2 fun H3 => D.nx σ H3) : sFld K ta tv f D σ H := k
theorem r_sfldAt {K : Frag} {f : Str} {H : Hp} {y : V} {Q : Hp → Prop} {a C dx : Addr} {fs : List (Str × V)} (h : H a = some (.ins C dx fs)) (c : Cls K C) (n : NoAttr K C f) (l : fs.length < 1000) (k : Q (upd H a (.ins C dx (putF f y fs)))) : rSFld K f (.ref a) y H Q := ⟨a, C, dx, fs, rfl, h, c, n, l, k⟩
/-- C(..) -/
theorem r_make {C : Addr} {sp : Sp} {dvs : List V} {E : XK} {t : TA} {σ : L2.St} {H : Hp} {Q : VK} (k : t σ H fun vs H1 => ∀ x dx, H1 x = none → H1 dx = none → dx ≠ x → sp (.ref x :: (vs ++ dvs)) (upd (upd H1 dx (.own x)) x (.ins C dx [])) (fun v H2 => v = .non ∧ Q (.ref x) H2) E) : tMake C sp dvs E t σ H Q := k
/-- x.m(..) -/
def rMeth (C : Addr) (m : Str) (R : V → Hp → Prop) : V → Hp → Prop := fun x H => ∃ a dx fs, x = .ref a ∧ H a = some (.ins C dx fs) ∧ fs.lookup m = none ∧ R x H
theorem r_meth {C : Addr} {m : Str} {sp : Sp} {dvs : List V} {E : XK} {ta : TE} {t : TA} {σ : L2.St} {H : Hp} {Q : VK} (k : ta σ H fun x H1 => rMeth C m (fun x H1 => t σ H1 fun vs H2 => sp (x :: (vs ++ dvs)) H2 Q E) x H1) : tMeth C m sp dvs E ta t σ H Q := k
theorem r_methAt {C a dx : Addr} {m : Str} {fs : List (Str × V)} {R : V → Hp → Prop} {H : Hp} (h : H a = some (.ins C dx fs)) (l : fs.lookup m = none) (k : R (.ref a) H) : rMeth C m R (.ref a) H := ⟨a, dx, fs, rfl, h, l, k⟩
/-- the operators -/
theorem r_own2 {C a b dx dy : Addr} {fs gs : List (Str × V)} {sp : Sp} {E : XK} {H : Hp} {Q : VK} (ha : H a = some (.ins C dx fs)) (hb : H b = some (.ins C dy gs)) (k : sp [.ref a, .ref b] H Q E) : rOwn2 C sp E (.ref a) (.ref b) H Q := ⟨a, dx, fs, b, dy, gs, rfl, rfl, ha, hb, k⟩
theorem r_ownI {C a dx : Addr} {n : Int} {fs : List (Str × V)} {sp : Sp} {E : XK} {H : Hp} {Q : VK} (ha : H a = some (.ins C dx fs)) (k : sp [.ref a, .int n] H Q E) : rOwnI C sp E (.ref a) (.int n) H Q := ⟨a, dx, fs, n, rfl, rfl, ha, k⟩
theorem r_own1 {C a dx : Addr} {fs : List (Str × V)} {sp : Sp} {E : XK} {H : Hp} {Q : VK} (ha : H a = some (.ins C dx fs)) (k : sp [.ref a] H Q E) : rOwn1 C sp E (.ref a) H Q := ⟨a, dx, fs, rfl, ha, k⟩
theorem r_len_str {x : Str} {F : Str → Prop} (k : x.length ≤ sizeLine ∧ F x) : ∃ y, [V.str x] = [.str y] ∧ y.length ≤ sizeLine ∧ F y := ⟨x, rfl, k.1, k.2⟩
/-- what is told of an own class -/
structure OC (K : Frag) (C : Addr) : Prop where
  cl : Cls K C
  sf : selfFirst K C = true
  ca : findIn K (.ref C) "__class__" = some (some (.builtin "object.__class__"))
  cn : specialIn K (.builtin "object.__class__") "__get__" = some (some (.builtin "getset_descriptor.__get__"))
  ct : takesIn K (.builtin "object.__class__") = some true
  cm : mroIn K C (.type "object") = some true
theorem OC.ty {K : Frag} {C a dx : Addr} {H : Hp} {fs : List (Str × V)} (o : OC K C) (h : H a = some (.ins C dx fs)) : TyX K H (.ref a) (.ref C) := .base (.ins h o.cl o.ca o.cn o.ct o.cm)
theorem r_isiOwn {K : Frag} {C a dx : Addr} {H : Hp} {fs : List (Str × V)} {Q : VK} (o : OC K C) (h : H a = some (.ins C dx fs)) (k : Q (.bl true) H) : rIsi K [.ref a, .ref C] H Q := ⟨_, _, _, _, true, rfl, .own C, o.ty h, Er.kit_self, k⟩
theorem r_isiNot {K : Frag} {C a dx : Addr} {T : String} {H : Hp} {fs : List (Str × V)} {Q : VK} (o : OC K C) (h : H a = some (.ins C dx fs)) (hm : kitMeta T = true) (hs : subIn K (.ref C) (.type T) = some false) (k : Q (.bl false) H) : rIsi K [.ref a, .ty T] H Q :=
  ⟨_, _, _, _, false, rfl, .ty T, o.ty h, Er.kit_typ hm hs, k⟩
end
theorem r_intOwn {C b dx : Addr} {n : Int} {fs : List (Str × V)} {sp : Sp} {E : XK} {H : Hp} {Q : VK} (hb : H b = some (.ins C dx fs)) (k : sp [.ref b, .int n] H Q E) : rIntOwn C sp E (.int n) (.ref b) H Q := ⟨b, dx, fs, n, rfl, rfl, hb, k⟩
theorem r_strOwn {C a dx : Addr} {fs : List (Str × V)} {sp : Sp} {E : XK} {H : Hp} {Q : VK} (ha : H a = some (.ins C dx fs)) (k : sp [.ref a] H (fun v H' => ∃ z, v = .str z ∧ Q v H') E) : rStrOwn C sp E [.ref a] H Q := ⟨a, dx, fs, rfl, ha, k⟩
end Ow
namespace Fm
open PySem PySem.Spec PyProof.Rows L2
/-! ### the order of texts -/
theorem lt_irr : ∀ a : List Nat, ltCps a a = false
  | [] => rfl
  | a :: r => by simp [ltCps, lt_irr r]
theorem lt_tr : ∀ {a b c : List Nat}, ltCps a b = true → ltCps b c = true → ltCps a c = true
  | [], [], _, h, _ => by simp [ltCps] at h
  | [], _ :: _, [], _, h => by simp [ltCps] at h
  | [], _ :: _, _ :: _, _, _ => by simp [ltCps]
  | _ :: _, [], _, h, _ => by simp [ltCps] at h
  | _ :: _, _ :: _, [], _, h => by simp [ltCps] at h
  | x :: a, y :: b, z :: c, h, k => by
    simp only [ltCps, Bool.or_eq_true, decide_eq_true_eq, Bool.and_eq_true, beq_iff_eq] at h k ⊢
    rcases h with h | ⟨rfl, h⟩ <;> rcases k with k | ⟨rfl, k⟩
    · exact .inl (Nat.lt_trans h k)
    · exact .inl h
    · exact .inl k
    · exact .inr ⟨rfl, lt_tr h k⟩
theorem lt_tri : ∀ a b : List Nat, a = b ∨ ltCps a b = true ∨ ltCps b a = true
  | [], [] => .inl rfl
  | [], _ :: _ => .inr (.inl rfl)
  | _ :: _, [] => .inr (.inr rfl)
  | x :: a, y :: b => by
    simp only [ltCps, Bool.or_eq_true, decide_eq_true_eq, Bool.and_eq_true, beq_iff_eq]
    rcases Nat.lt_trichotomy x y with h | rfl | h
    · exact .inr (.inl (.inl h))
    · rcases lt_tri a b with rfl | h | h
      · exact .inl rfl
      · exact .inr (.inl (.inr ⟨rfl, h⟩))
      · exact .inr (.inr (.inr ⟨rfl, h⟩))
    · exact .inr (.inr (.inl h))
def Lt (x y : Str) : Prop := ltCps x.cps.toList y.cps.toList = true
theorem Lt.irr {x : Str} (h : Lt x x) : False := by unfold Lt at h; rw [lt_irr] at h; cases h
theorem Lt.tr {x y z : Str} (h : Lt x y) (k : Lt y z) : Lt x z := lt_tr h k
theorem str_ext {x y : Str} (h : x.cps.toList = y.cps.toList) : x = y := by
  cases x; cases y; simp only [Str.mk.injEq]; exact Array.ext' h
theorem Lt.tri (x y : Str) : x = y ∨ Lt x y ∨ Lt y x := (lt_tri x.cps.toList y.cps.toList).imp str_ext id
/-- a sorted row without repetition ascends -/
theorem asc_of_rising : ∀ {l : List Str} {p : Str}, risingS p l = true → (p :: l).Nodup → (p :: l).Pairwise Lt
  | [], _, _, _ => by simp
  | x :: r, p, h, n => by
    have h' : ltCps x.cps.toList p.cps.toList = false ∧ risingS x r = true := by simpa [risingS] using h
    have n' : p ≠ x ∧ (x :: r).Nodup := ⟨fun e => by rw [e] at n; simp at n, (List.nodup_cons.mp n).2⟩
    have ih := asc_of_rising h'.2 n'.2
    have hp : Lt p x := by
      rcases Lt.tri p x with e | e | e
      · exact absurd e n'.1
      · exact e
      · unfold Lt at e; rw [h'.1] at e; cases e
    refine List.pairwise_cons.mpr ⟨fun y hy => ?_, ih⟩
    rcases List.mem_cons.mp hy with rfl | hy
    · exact hp
    · exact hp.tr (List.rel_of_pairwise_cons ih hy)
theorem asc_of_sorted : ∀ {l : List Str}, sortedS l = true → l.Nodup → l.Pairwise Lt
  | [], _, _ => .nil
  | _ :: _, h, n => asc_of_rising h n
/-! ### weights of names -/
abbrev Tm := Str × Int
/-- the weight of a name -/
def wt (ts : List Tm) (x : Str) : Int := ((ts.filter fun p => decide (p.1 = x)).map (·.2)).sum
theorem wt_nil {x : Str} : wt [] x = 0 := rfl
theorem wt_cons {p : Tm} {ts : List Tm} {x : Str} : wt (p :: ts) x = (if p.1 = x then p.2 else 0) + wt ts x := by
  unfold wt
  by_cases h : p.1 = x
  · rw [List.filter_cons_of_pos (by simpa using h), if_pos h]; simp
  · rw [List.filter_cons_of_neg (by simpa using h), if_neg h]; simp
theorem wt_append {x : Str} : ∀ {ts us : List Tm}, wt (ts ++ us) x = wt ts x + wt us x
  | [], us => by rw [List.nil_append, wt_nil, Int.zero_add]
  | p :: ts, us => by rw [List.cons_append, wt_cons, wt_cons, wt_append, Int.add_assoc]
theorem wt_none {x : Str} : ∀ {ts : List Tm}, (∀ p ∈ ts, p.1 ≠ x) → wt ts x = 0
  | [], _ => rfl
  | p :: ts, h => by rw [wt_cons, if_neg (h p (by simp)), wt_none fun q hq => h q (by simp [hq])]; rfl
/-- all weights times k -/
def scl (k : Int) (ts : List Tm) : List Tm := ts.map fun p => (p.1, k * p.2)
theorem wt_scl {k : Int} {x : Str} : ∀ {ts : List Tm}, wt (scl k ts) x = k * wt ts x
  | [] => by simp [scl, wt]
  | p :: ts => by
    show wt ((p.1, k * p.2) :: scl k ts) x = _
    rw [wt_cons, wt_cons, wt_scl, Int.mul_add]
    by_cases h : p.1 = x
    · rw [if_pos h, if_pos h]
    · rw [if_neg h, if_neg h, Int.mul_zero]
def dropN (x : Str) (ts : List Tm) : List Tm := ts.filter fun p => decide (p.1 ≠ x)
theorem wt_drop {x z : Str} : ∀ {ts : List Tm}, wt (dropN x ts) z = if z = x then 0 else wt ts z
  | [] => by simp [dropN, wt]
  | p :: ts => by
    unfold dropN
    by_cases h : p.1 = x
    · rw [List.filter_cons_of_neg (by simpa using h)]
      show wt (dropN x ts) z = _
      rw [wt_drop, wt_cons]
      by_cases hz : z = x
      · rw [if_pos hz, if_pos hz]
      · rw [if_neg hz, if_neg hz, if_neg (fun e => hz (e.symm.trans h)), Int.zero_add]
    · rw [List.filter_cons_of_pos (by simpa using h), wt_cons]
      show _ + wt (dropN x ts) z = _
      rw [wt_drop, wt_cons]
      by_cases hz : z = x
      · rw [if_pos hz, if_pos hz, if_neg (fun e => h (e.trans hz))]; rfl
      · rw [if_neg hz, if_neg hz]
/-- terms as a form has them -/
structure Canon (ts : List Tm) : Prop where
  asc : (ts.map (·.1)).Pairwise Lt
  nz : ∀ p ∈ ts, p.2 ≠ 0
theorem Canon.nil : Canon [] := ⟨by simp, by simp⟩
theorem Canon.tail {p : Tm} {ts : List Tm} (c : Canon (p :: ts)) : Canon ts := ⟨(List.pairwise_cons.mp c.asc).2, fun q hq => c.nz q (by simp [hq])⟩
theorem Canon.lt {p : Tm} {ts : List Tm} (c : Canon (p :: ts)) {q : Tm} (h : q ∈ ts) : Lt p.1 q.1 := (List.pairwise_cons.mp c.asc).1 q.1 (List.mem_map_of_mem h)
theorem Canon.head {p : Tm} {ts : List Tm} (c : Canon (p :: ts)) : wt (p :: ts) p.1 = p.2 := by
  rw [wt_cons, if_pos rfl, wt_none fun q hq e => ?_, Int.add_zero]
  exact (e ▸ c.lt hq).irr
theorem canon_eq : ∀ {ts us : List Tm}, Canon ts → Canon us → (∀ x, wt ts x = wt us x) → ts = us
  | [], [], _, _, _ => rfl
  | [], q :: us, _, d, h => by
    have := h q.1; rw [d.head, wt_nil] at this
    exact absurd this.symm (d.nz q (by simp))
  | p :: ts, [], c, _, h => by
    have := h p.1; rw [c.head, wt_nil] at this
    exact absurd this (c.nz p (by simp))
  | p :: ts, q :: us, c, d, h => by
    have e : p.1 = q.1 := by
      rcases Lt.tri p.1 q.1 with e | e | e
      · exact e
      · have := h p.1
        rw [c.head, wt_none (ts := q :: us) fun r hr z => ?_] at this
        · exact absurd this (c.nz p (by simp))
        · rcases List.mem_cons.mp hr with rfl | hr
          · exact (z ▸ e).irr
          · exact (z ▸ e.tr (d.lt hr)).irr
      · have := h q.1
        rw [d.head, wt_none (ts := p :: ts) fun r hr z => ?_] at this
        · exact absurd this.symm (d.nz q (by simp))
        · rcases List.mem_cons.mp hr with rfl | hr
          · exact (z ▸ e).irr
          · exact (z ▸ e.tr (c.lt hr)).irr
    have e2 : p.2 = q.2 := by rw [← c.head, ← d.head, h, e]
    have ep : p = q := Prod.ext e e2
    subst ep
    rw [canon_eq c.tail d.tail fun x => ?_]
    have := h x
    rw [wt_cons, wt_cons] at this
    omega
/-! ### what is linear in the weights -/
def lin (ts : List Tm) (L : Str → Int) : Int := (ts.map fun p => p.2 * L p.1).sum
theorem lin_nil {L : Str → Int} : lin [] L = 0 := rfl
theorem lin_cons {p : Tm} {ts : List Tm} {L : Str → Int} : lin (p :: ts) L = p.2 * L p.1 + lin ts L := by simp [lin]
theorem lin_append {L : Str → Int} : ∀ {ts us : List Tm}, lin (ts ++ us) L = lin ts L + lin us L
  | [], us => by simp [lin]
  | p :: ts, us => by rw [List.cons_append, lin_cons, lin_cons, lin_append, Int.add_assoc]
theorem lin_scl {k : Int} {L : Str → Int} : ∀ {ts : List Tm}, lin (scl k ts) L = k * lin ts L
  | [] => by simp [scl, lin]
  | p :: ts => by
    show lin ((p.1, k * p.2) :: scl k ts) L = _
    rw [lin_cons, lin_cons, lin_scl, Int.mul_add, Int.mul_assoc]
theorem lin_drop {x : Str} {L : Str → Int} : ∀ {ts : List Tm}, lin ts L = wt ts x * L x + lin (dropN x ts) L
  | [] => by simp [dropN, lin, wt]
  | p :: ts => by
    unfold dropN
    rw [lin_cons, wt_cons, lin_drop (x := x) (ts := ts)]
    by_cases h : p.1 = x
    · rw [List.filter_cons_of_neg (by simpa using h), if_pos h, Int.add_mul, h, Int.add_assoc]; rfl
    · rw [List.filter_cons_of_pos (by simpa using h), if_neg h, lin_cons, Int.zero_add]
      show _ = _ + (_ + lin (dropN x ts) L)
      omega
theorem lin_zero {L : Str → Int} : ∀ (n : Nat) {ts : List Tm}, ts.length ≤ n → (∀ x, wt ts x = 0) → lin ts L = 0
  | _, [], _, _ => rfl
  | 0, _ :: _, h, _ => by simp at h
  | n + 1, p :: ts, h, hz => by
    have l : (dropN p.1 (p :: ts)).length ≤ n := by
      unfold dropN
      rw [List.filter_cons_of_neg (by simp)]
      have := List.length_filter_le (fun q : Tm => decide (q.1 ≠ p.1)) ts
      simp at h; omega
    rw [lin_drop (x := p.1), hz, Int.zero_mul, Int.zero_add]
    refine lin_zero n l fun x => ?_
    rw [wt_drop, hz]; split <;> rfl
theorem lin_of_wt {ts us : List Tm} {L : Str → Int} (h : ∀ x, wt ts x = wt us x) : lin ts L = lin us L := by
  have := lin_zero (L := L) _ (ts := ts ++ scl (-1) us) (Nat.le_refl _) fun x => by rw [wt_append, wt_scl, h]; omega
  rw [lin_append, lin_scl] at this
  omega
/-! ### values in a world: a top and a bottom -/
abbrev Wd := Str → Int × Int
def accV (W : Wd) : List Tm → Int × Int → Int × Int
  | [], s => s
  | p :: ts, s => accV W ts (s.1 * (W p.1).2 + p.2 * (W p.1).1 * s.2, s.2 * (W p.1).2)
theorem acc_lin {W : Wd} {L : Str → Int} {M : Int} : ∀ {ts : List Tm} {s : Int × Int} {S : Int}, (∀ p ∈ ts, (W p.1).1 * M = L p.1 * (W p.1).2) → s.1 * M = s.2 * S → (accV W ts s).1 * M = (accV W ts s).2 * (S + lin ts L)
  | [], s, S, _, h => by rw [lin_nil, Int.add_zero]; exact h
  | p :: ts, s, S, hL, h => by
    have := acc_lin (ts := ts) (s := (s.1 * (W p.1).2 + p.2 * (W p.1).1 * s.2, s.2 * (W p.1).2)) (S := S + p.2 * L p.1) (fun q hq => hL q (by simp [hq])) (by
      have e := hL p (by simp)
      show (s.1 * (W p.1).2 + p.2 * (W p.1).1 * s.2) * M = s.2 * (W p.1).2 * (S + p.2 * L p.1)
      have e1 : s.1 * (W p.1).2 * M = s.2 * (W p.1).2 * S := by
        rw [Int.mul_right_comm, h, Int.mul_right_comm]
      have e2 : p.2 * (W p.1).1 * s.2 * M = s.2 * (W p.1).2 * (p.2 * L p.1) := by
        calc p.2 * (W p.1).1 * s.2 * M = p.2 * s.2 * ((W p.1).1 * M) := by ac_rfl
          _ = p.2 * s.2 * (L p.1 * (W p.1).2) := by rw [e]
          _ = s.2 * (W p.1).2 * (p.2 * L p.1) := by ac_rfl
      rw [Int.add_mul, Int.mul_add, e1, e2])
    rw [lin_cons, ← Int.add_assoc]
    exact this
theorem acc_pos {W : Wd} : ∀ {ts : List Tm} {s : Int × Int}, (∀ p ∈ ts, 0 < (W p.1).2) → 0 < s.2 → 0 < (accV W ts s).2
  | [], _, _, h => h
  | p :: ts, s, hw, h => acc_pos (s := (s.1 * (W p.1).2 + p.2 * (W p.1).1 * s.2, s.2 * (W p.1).2)) (fun q hq => hw q (by simp [hq])) (Int.mul_pos h (hw p (by simp)))
/-- a common bottom -/
theorem common (W : Wd) : ∀ xs : List Str, (∀ x ∈ xs, 0 < (W x).2) → ∃ (M : Int) (L : Str → Int), 0 < M ∧ ∀ x ∈ xs, (W x).1 * M = L x * (W x).2
  | [], _ => ⟨1, fun _ => 0, by decide, by simp⟩
  | x :: xs, h => by
    obtain ⟨M, L, hM, hL⟩ := common W xs fun y hy => h y (by simp [hy])
    refine ⟨M * (W x).2, fun y => if y = x then (W x).1 * M else L y * (W x).2, Int.mul_pos hM (h x (by simp)), fun y hy => ?_⟩
    by_cases e : y = x
    · subst e; simp only [if_true]; ac_rfl
    · have hy' : y ∈ xs := (List.mem_cons.mp hy).resolve_left e
      simp only [if_neg e]
      rw [← Int.mul_assoc, hL y hy']; ac_rfl
/-- the world in which x has another level -/
def moved (W : Wd) (x : Str) (v : Int × Int) : Wd := fun y => if y = x then v else W y
/-- a form put in the place of a quantity has the value that the form has where the quantity has its value -/
theorem put_value {W : Wd} {x : Str} {ts gs us : List Tm} {c cg : Int} {v : Int × Int}
    (hts : ∀ p ∈ ts, p.1 ≠ x → 0 < (W p.1).2) (hgs : ∀ p ∈ gs, 0 < (W p.1).2) (hus : ∀ p ∈ us, 0 < (W p.1).2)
    (hw : ∀ y, wt us y = wt (dropN x ts ++ scl (wt ts x) gs) y) (hv : v.1 * (accV W gs (cg, 1)).2 = (accV W gs (cg, 1)).1 * v.2) (hv0 : 0 < v.2) :
    (accV W us (c + wt ts x * cg, 1)).1 * (accV (moved W x v) ts (c, 1)).2 = (accV (moved W x v) ts (c, 1)).1 * (accV W us (c + wt ts x * cg, 1)).2 := by
  obtain ⟨M, L, hM, hL⟩ := common W ((ts.filter fun p => decide (p.1 ≠ x)).map (·.1) ++ gs.map (·.1) ++ us.map (·.1)) (by
    intro y hy
    simp only [List.mem_append, List.mem_map, List.mem_filter, decide_eq_true_eq] at hy
    rcases hy with (⟨p, ⟨h1, h2⟩, rfl⟩ | ⟨p, h1, rfl⟩) | ⟨p, h1, rfl⟩
    · exact hts p h1 h2
    · exact hgs p h1
    · exact hus p h1)
  have hLg : ∀ p ∈ gs, (W p.1).1 * M = L p.1 * (W p.1).2 := fun p hp => hL _ (by simp only [List.mem_append]; exact .inl (.inr (List.mem_map_of_mem hp)))
  have hLu : ∀ p ∈ us, (W p.1).1 * M = L p.1 * (W p.1).2 := fun p hp => hL _ (by simp only [List.mem_append]; exact .inr (List.mem_map_of_mem hp))
  have hg := acc_lin (s := (cg, 1)) (S := cg * M) hLg (by simp)
  have hu := acc_lin (s := (c + wt ts x * cg, 1)) (S := (c + wt ts x * cg) * M) hLu (by simp)
  have hgp := acc_pos (s := (cg, 1)) hgs Int.one_pos
  have hup := acc_pos (s := (c + wt ts x * cg, 1)) hus Int.one_pos
  -- the value of g over M
  have hvM : v.1 * M = v.2 * (cg * M + lin gs L) := by
    have e : v.1 * M * (accV W gs (cg, 1)).2 = v.2 * (cg * M + lin gs L) * (accV W gs (cg, 1)).2 := by
      rw [Int.mul_right_comm, hv, Int.mul_right_comm, hg]; ac_rfl
    exact Int.eq_of_mul_eq_mul_right (by omega) e
  -- the moved world over M * v.2
  have hm := acc_lin (W := moved W x v) (L := fun y => if y = x then v.1 * M else L y * v.2) (M := M * v.2) (ts := ts) (s := (c, 1)) (S := c * (M * v.2)) (by
    intro p hp
    unfold moved
    by_cases e : p.1 = x
    · simp only [if_pos e]; ac_rfl
    · simp only [if_neg e]
      have := hL p.1 (by simp only [List.mem_append]; exact .inl (.inl (List.mem_map_of_mem (List.mem_filter.mpr ⟨hp, by simpa using e⟩))))
      rw [← Int.mul_assoc, this]; ac_rfl) (by simp)
  have hmp : 0 < (accV (moved W x v) ts (c, 1)).2 := acc_pos (fun p hp => by
    unfold moved
    by_cases e : p.1 = x
    · rw [if_pos e]; exact hv0
    · rw [if_neg e]; exact hts p hp e) Int.one_pos
  have key : c * (M * v.2) + lin ts (fun y => if y = x then v.1 * M else L y * v.2) = v.2 * ((c + wt ts x * cg) * M + lin us L) := by
    rw [lin_drop (x := x), lin_of_wt hw, lin_append, lin_scl]
    have e1 : lin (dropN x ts) (fun y => if y = x then v.1 * M else L y * v.2) = v.2 * lin (dropN x ts) L := by
      have : ∀ l : List Tm, (∀ p ∈ l, p.1 ≠ x) → lin l (fun y => if y = x then v.1 * M else L y * v.2) = v.2 * lin l L := by
        intro l
        induction l with
        | nil => intro _; simp [lin]
        | cons p l ih =>
          intro h
          rw [lin_cons, lin_cons, ih fun q hq => h q (by simp [hq])]
          simp only [if_neg (h p (by simp))]
          rw [Int.mul_add]
          congr 1
          ac_rfl
      exact this _ fun p hp => by simpa [dropN] using (List.mem_filter.mp hp).2
    rw [e1]
    simp only [if_true]
    rw [hvM]
    simp only [Int.mul_add, Int.add_mul]
    have a1 : c * (M * v.2) = v.2 * (c * M) := by ac_rfl
    have a2 : wt ts x * (v.2 * (cg * M)) = v.2 * (wt ts x * cg * M) := by ac_rfl
    have a3 : wt ts x * (v.2 * lin gs L) = v.2 * (wt ts x * lin gs L) := by ac_rfl
    omega
  rw [key] at hm
  generalize accV W us (c + wt ts x * cg, 1) = U at *
  generalize accV (moved W x v) ts (c, 1) = T at *
  generalize (c + wt ts x * cg) * M + lin us L = S at *
  have : U.1 * T.2 * (M * v.2) = T.1 * U.2 * (M * v.2) := by
    calc U.1 * T.2 * (M * v.2) = (U.1 * M) * (T.2 * v.2) := by ac_rfl
      _ = (U.2 * S) * (T.2 * v.2) := by rw [hu]
      _ = (T.2 * (v.2 * S)) * U.2 := by ac_rfl
      _ = (T.1 * (M * v.2)) * U.2 := by rw [hm]
      _ = T.1 * U.2 * (M * v.2) := by ac_rfl
  exact Int.eq_of_mul_eq_mul_right (by have := Int.mul_pos hM hv0; omega) this
/-! ### the terms of a form, by its pairs -/
instance : DecidableRel Lt := fun x y => inferInstanceAs (Decidable (ltCps x.cps.toList y.cps.toList = true))
def ins (x : Str) (w : Int) : List Tm → List Tm
  | [] => if w = 0 then [] else [(x, w)]
  | p :: us => if x = p.1 then (if w + p.2 = 0 then us else (x, w + p.2) :: us) else if Lt x p.1 then (if w = 0 then p :: us else (x, w) :: p :: us) else p :: ins x w us
theorem ins_mem {x : Str} {w : Int} : ∀ {us : List Tm} {q : Tm}, q ∈ ins x w us → q.1 = x ∨ q ∈ us
  | [], q, h => by
    unfold ins at h; split at h
    · cases h
    · rw [List.mem_singleton.mp h]; exact .inl rfl
  | p :: us, q, h => by
    unfold ins at h
    split at h
    · split at h
      · exact .inr (by simp [h])
      · rcases List.mem_cons.mp h with rfl | h
        · exact .inl rfl
        · exact .inr (by simp [h])
    · split at h
      · split at h
        · exact .inr h
        · rcases List.mem_cons.mp h with rfl | h
          · exact .inl rfl
          · exact .inr h
      · rcases List.mem_cons.mp h with rfl | h
        · exact .inr (by simp)
        · exact (ins_mem h).imp id fun z => by simp [z]
theorem Canon.cons {p : Tm} {us : List Tm} (h : ∀ q ∈ us, Lt p.1 q.1) (n : p.2 ≠ 0) (c : Canon us) : Canon (p :: us) :=
  ⟨List.pairwise_cons.mpr ⟨fun y hy => by obtain ⟨q, hq, rfl⟩ := List.mem_map.mp hy; exact h q hq, c.asc⟩, fun q hq => by
    rcases List.mem_cons.mp hq with rfl | hq
    · exact n
    · exact c.nz q hq⟩
theorem ins_canon {x : Str} {w : Int} : ∀ {us : List Tm}, Canon us → Canon (ins x w us)
  | [], _ => by
    unfold ins; split
    · exact .nil
    · next h => exact .cons (by simp) h .nil
  | p :: us, c => by
    unfold ins
    split
    · next e =>
      split
      · exact c.tail
      · next h => exact .cons (fun q hq => e ▸ c.lt hq) h c.tail
    · next e =>
      split
      · next l =>
        split
        · exact c
        · next h => exact .cons (fun q hq => by
            rcases List.mem_cons.mp hq with rfl | hq
            · exact l
            · exact l.tr (c.lt hq)) h c
      · next l =>
        have l' : Lt p.1 x := by
          rcases Lt.tri x p.1 with z | z | z
          · exact absurd z e
          · exact absurd z l
          · exact z
        refine .cons (fun q hq => ?_) (c.nz p (by simp)) (ins_canon c.tail)
        rcases ins_mem hq with z | z
        · rw [z]; exact l'
        · exact c.lt z
theorem ins_wt {x y : Str} {w : Int} : ∀ {us : List Tm}, wt (ins x w us) y = (if x = y then w else 0) + wt us y
  | [] => by
    unfold ins; split
    · next h => subst h; simp [wt]
    · rw [wt_cons]
  | p :: us => by
    unfold ins
    split
    · next e =>
      split
      · next h =>
        rw [wt_cons, ← e]
        split <;> omega
      · rw [wt_cons, wt_cons, ← e]
        dsimp only
        split <;> omega
    · split
      · split
        · next h => subst h; simp
        · rw [wt_cons]
      · rw [wt_cons, ins_wt, wt_cons]; omega
def can : List Tm → List Tm
  | [] => []
  | p :: ts => ins p.1 p.2 (can ts)
theorem can_canon : ∀ ts : List Tm, Canon (can ts)
  | [] => .nil
  | _ :: ts => ins_canon (can_canon ts)
theorem can_wt : ∀ (ts : List Tm) (x : Str), wt (can ts) x = wt ts x
  | [], _ => rfl
  | p :: ts, x => by
    show wt (ins p.1 p.2 (can ts)) x = _
    rw [ins_wt, can_wt, wt_cons]
theorem can_eq {us ts : List Tm} (c : Canon us) (h : ∀ x, wt us x = wt ts x) : us = can ts := canon_eq c (can_canon ts) fun x => by rw [h, can_wt]
theorem can_can {ts us : List Tm} (h : ∀ x, wt ts x = wt us x) : can ts = can us := can_eq (can_canon ts) fun x => by rw [can_wt, h]
theorem can_self {ts : List Tm} (c : Canon ts) : can ts = ts := (can_eq c fun _ => rfl).symm
theorem Canon.wt_mem {ts : List Tm} (c : Canon ts) {p : Tm} (h : p ∈ ts) : wt ts p.1 = p.2 := by
  induction ts with
  | nil => cases h
  | cons q ts ih =>
    rcases List.mem_cons.mp h with rfl | h
    · exact c.head
    · rw [wt_cons, if_neg (fun e => (e ▸ c.lt h).irr), Int.zero_add]; exact ih c.tail h
theorem mem_of_wt {ts : List Tm} {x : Str} (h : wt ts x ≠ 0) : ∃ p ∈ ts, p.1 = x := Decidable.byContradiction fun n => h (wt_none fun p hp e => n ⟨p, hp, e⟩)
theorem can_mem {ts : List Tm} {u : Tm} (h : u ∈ can ts) : (∃ p ∈ ts, p.1 = u.1) ∧ u.2 = wt ts u.1 := by
  have c := can_canon ts
  have e := c.wt_mem h
  rw [can_wt] at e
  exact ⟨mem_of_wt (by rw [e]; exact c.nz u h), e.symm⟩
theorem ins_len {x : Str} {w : Int} : ∀ {us : List Tm}, (ins x w us).length ≤ us.length + 1
  | [] => by unfold ins; split <;> simp
  | p :: us => by
    unfold ins
    have := ins_len (x := x) (w := w) (us := us)
    repeat' split
    all_goals simp
    all_goals omega
theorem can_len : ∀ ts : List Tm, (can ts).length ≤ ts.length
  | [] => Nat.le_refl _
  | p :: ts => by
    have := can_len ts
    have := ins_len (x := p.1) (w := p.2) (us := can ts)
    show (ins p.1 p.2 (can ts)).length ≤ ts.length + 1
    omega
theorem wt_bound {B : Nat} {x : Str} : ∀ {ts : List Tm}, (∀ p ∈ ts, p.2.natAbs ≤ B) → (wt ts x).natAbs ≤ ts.length * B
  | [], _ => by simp [wt]
  | p :: ts, h => by
    have a := h p (by simp)
    have b := wt_bound (x := x) (ts := ts) fun q hq => h q (by simp [hq])
    rw [wt_cons, List.length_cons, Nat.succ_mul]
    split <;> omega
/-- a form within bounds: weights and constant below 2 ^ k, at most n terms, names that keep N -/
structure FOk (N : Str → Prop) (n k : Nat) (ts : List Tm) (c : Int) : Prop where
  can : Canon ts
  len : ts.length ≤ n
  nm : ∀ p ∈ ts, N p.1
  wb : ∀ p ∈ ts, p.2.natAbs < 2 ^ k
  cb : c.natAbs < 2 ^ k
theorem pow6 {m n k : Nat} (h : n ≤ 64) (hm : m ≤ n * 2 ^ k) : m ≤ 2 ^ (k + 6) := by
  refine Nat.le_trans hm ?_
  rw [Nat.pow_add, Nat.mul_comm]
  exact Nat.mul_le_mul_left _ h
/-- what is made of pairs is a form -/
theorem can_ok {N : Str → Prop} {k : Nat} {ts : List Tm} {c : Int} (hl : ts.length ≤ 60) (hn : ∀ p ∈ ts, N p.1) (hb : ∀ p ∈ ts, p.2.natAbs < 2 ^ k) (hc : c.natAbs < 2 ^ (k + 6)) : FOk N ts.length (k + 6) (can ts) c := by
  refine ⟨can_canon ts, can_len ts, fun u hu => ?_, fun u hu => ?_, hc⟩
  · obtain ⟨⟨p, hp, e⟩, _⟩ := can_mem hu
    rw [← e]; exact hn p hp
  · obtain ⟨_, e⟩ := can_mem hu
    rw [e]
    have h1 := wt_bound (x := u.1) (B := 2 ^ k) (ts := ts) fun p hp => Nat.le_of_lt (hb p hp)
    have h2 : ts.length * 2 ^ k < 64 * 2 ^ k := Nat.mul_lt_mul_of_pos_right (by omega) (Nat.pow_pos (by decide))
    have h3 : 64 * 2 ^ k = 2 ^ (k + 6) := by rw [Nat.pow_add, Nat.mul_comm]
    omega
/-! ### a row made by names -/
def rowOf (ys : List Str) (f : Str → Int) : List Tm := (ys.map fun x => (x, f x)).filter fun p => decide (p.2 ≠ 0)
theorem wt_rowOf {f : Str → Int} {x : Str} : ∀ {ys : List Str}, ys.Nodup → wt (rowOf ys f) x = if x ∈ ys then f x else 0
  | [], _ => by simp [rowOf, wt]
  | y :: ys, n => by
    have ih := wt_rowOf (f := f) (x := x) (List.nodup_cons.mp n).2
    unfold rowOf at ih ⊢
    rw [List.map_cons]
    by_cases h : f y = 0
    · rw [List.filter_cons_of_neg (by simpa using h), ih]
      by_cases e : x = y
      · subst e; rw [if_neg (List.nodup_cons.mp n).1, if_pos (by simp), h]
      · simp [e]
    · rw [List.filter_cons_of_pos (by simpa using h), wt_cons, ih]
      by_cases e : y = x
      · subst e; rw [if_pos rfl, if_neg (List.nodup_cons.mp n).1, if_pos (by simp), Int.add_zero]
      · have e' : ¬ x = y := fun z => e z.symm
        simp [e, e']
theorem canon_rowOf {f : Str → Int} {ys : List Str} (h : ys.Pairwise Lt) : Canon (rowOf ys f) := by
  refine ⟨?_, fun p hp => by simpa using (List.mem_filter.mp hp).2⟩
  unfold rowOf
  have : ((ys.map fun x => (x, f x)).map (·.1)).Pairwise Lt := by simpa [List.map_map, Function.comp_def] using h
  exact this.sublist ((List.filter_sublist).map _)
theorem rowOf_can {ts : List Tm} {ys : List Str} (h : ys.Pairwise Lt) (n : ys.Nodup) (hm : ∀ p ∈ ts, p.1 ∈ ys) : rowOf ys (wt ts) = can ts := can_eq (canon_rowOf h) fun x => by
  rw [wt_rowOf n]
  split
  · rfl
  · next e => exact (wt_none fun p hp z => e (by have := hm p hp; rw [z] at this; exact this)).symm
theorem rowOf_snoc {f : Str → Int} {ys : List Str} {y : Str} : rowOf (ys ++ [y]) f = if f y ≠ 0 then rowOf ys f ++ [(y, f y)] else rowOf ys f := by
  unfold rowOf
  rw [List.map_append, List.filter_append]
  by_cases h : f y = 0 <;> simp [h]
/-! ### sums by names in a dict -/
def putT (ks : List Tm) (x : Str) (v : Int) : List Tm := if (ks.any fun p => decide (p.1 = x)) = true then ks.map (fun p => if p.1 = x then (p.1, v) else p) else ks ++ [(x, v)]
def kOf (ks : List Tm) : List (Key × V) := ks.map fun p => (Sum.inr p.1, V.int p.2)
theorem val_kOf {x : Str} : ∀ {ks : List Tm}, valV (kOf ks) (Sum.inr x) = (ks.find? fun p => decide (p.1 = x)).map fun p => V.int p.2
  | [] => rfl
  | p :: ks => by
    by_cases h : p.1 = x
    · have : valV (kOf (p :: ks)) (Sum.inr x) = some (V.int p.2) := valV_pos (by show Sum.inr p.1 = Sum.inr x; rw [h])
      rw [this, List.find?_cons_of_pos (by simpa using h)]; rfl
    · have : valV (kOf (p :: ks)) (Sum.inr x) = valV (kOf ks) (Sum.inr x) := valV_neg (fun e => h (Sum.inr.inj e))
      rw [this, List.find?_cons_of_neg (by simpa using h)]; exact val_kOf
theorem put_kOf {ks : List Tm} {x : Str} {v : Int} : putK (kOf ks) (Sum.inr x) (V.int v) = kOf (putT ks x v) := by
  unfold putK putT
  have e : ((kOf ks).any fun kv => decide (kv.1 = Sum.inr x)) = ks.any fun p => decide (p.1 = x) := by
    unfold kOf; rw [List.any_map]; congr 1; funext p; simp
  rw [e]
  split
  · unfold kOf; rw [List.map_map, List.map_map]; congr 1; funext p
    simp only [Function.comp, Sum.inr.injEq]
    split <;> rfl
  · unfold kOf; rw [List.map_append]; rfl
/-- the sums so far -/
structure Sums (ks ts : List Tm) : Prop where
  nd : (ks.map (·.1)).Nodup
  iff : ∀ x, (x ∈ ks.map (·.1)) ↔ x ∈ ts.map (·.1)
  val : ∀ p ∈ ks, p.2 = wt ts p.1
  len : ks.length ≤ ts.length
theorem Sums.nil : Sums [] [] := ⟨by simp, by simp, by simp, Nat.le_refl _⟩
theorem Sums.find {ks ts : List Tm} (h : Sums ks ts) (x : Str) : ((ks.find? fun p => decide (p.1 = x)).map fun p => V.int p.2) = if x ∈ ts.map (·.1) then some (V.int (wt ts x)) else none := by
  cases e : ks.find? fun p => decide (p.1 = x) with
  | none =>
    have n : x ∉ ks.map (·.1) := fun z => by
      obtain ⟨p, hp, rfl⟩ := List.mem_map.mp z
      have := List.find?_eq_none.mp e p hp
      simp at this
    rw [if_neg (fun z => n ((h.iff x).mpr z))]; rfl
  | some p =>
    have hp := List.mem_of_find?_eq_some e
    have hx : p.1 = x := by simpa using List.find?_some e
    have : x ∈ ts.map (·.1) := (h.iff x).mp (hx ▸ List.mem_map_of_mem hp)
    rw [if_pos this]
    show some (V.int p.2) = _
    rw [h.val p hp, hx]
theorem Sums.put {ks ts : List Tm} (h : Sums ks ts) (p : Tm) : Sums (putT ks p.1 (wt ts p.1 + p.2)) (ts ++ [p]) := by
  have hw : ∀ x, wt (ts ++ [p]) x = wt ts x + if p.1 = x then p.2 else 0 := fun x => by rw [wt_append, wt_cons, wt_nil, Int.add_zero]
  unfold putT
  by_cases c : (ks.any fun q => decide (q.1 = p.1)) = true
  · rw [if_pos c]
    obtain ⟨q, hq, eq⟩ := List.any_eq_true.mp c
    have eq' : q.1 = p.1 := by simpa using eq
    have e : ((ks.map fun q => if q.1 = p.1 then (q.1, wt ts p.1 + p.2) else q).map (·.1)) = ks.map (·.1) := by
      rw [List.map_map]; congr 1; funext r; simp only [Function.comp]; split <;> rfl
    refine ⟨by rw [e]; exact h.nd, fun x => ?_, fun r hr => ?_, by rw [List.length_map, List.length_append]; have := h.len; simp; omega⟩
    · rw [e, h.iff, List.map_append]
      constructor
      · intro z; simp only [List.mem_append]; exact .inl z
      · intro z
        rcases List.mem_append.mp z with z | z
        · exact z
        · have : x = p.1 := by simpa using z
          rw [this, ← eq']; exact (h.iff _).mp (List.mem_map_of_mem hq)
    · obtain ⟨s, hs, rfl⟩ := List.mem_map.mp hr
      rw [hw]
      by_cases z : s.1 = p.1
      · simp only [if_pos z]; rw [if_pos z.symm, z]
      · simp only [if_neg z]; rw [if_neg (fun e => z e.symm), Int.add_zero]; exact h.val s hs
  · rw [if_neg c]
    have n : p.1 ∉ ks.map (·.1) := fun z => by
      obtain ⟨q, hq, e⟩ := List.mem_map.mp z
      exact c (List.any_eq_true.mpr ⟨q, hq, by simpa using e⟩)
    have n' : p.1 ∉ ts.map (·.1) := fun z => n ((h.iff _).mpr z)
    have w0 : wt ts p.1 = 0 := wt_none fun q hq e => n' (e ▸ List.mem_map_of_mem hq)
    refine ⟨?_, fun x => ?_, fun r hr => ?_, by have := h.len; simp; omega⟩
    · rw [List.map_append]
      refine List.nodup_append.mpr ⟨h.nd, by simp, fun x hx y hy e => n ?_⟩
      have hy' : y = p.1 := by simpa using hy
      rw [← hy', ← e]
      exact hx
    · simp only [List.map_append, List.mem_append, h.iff]; simp
    · rw [hw]
      rcases List.mem_append.mp hr with hr | hr
      · have : ¬ p.1 = r.1 := fun e => n (e ▸ List.mem_map_of_mem hr)
        rw [if_neg this, Int.add_zero]; exact h.val r hr
      · rw [List.mem_singleton.mp hr]; simp
/-! ### sizes -/
theorem natAbs_mul_lt {x y : Int} {a b : Nat} (hx : x.natAbs < 2 ^ a) (hy : y.natAbs < 2 ^ b) : (x * y).natAbs < 2 ^ (a + b) := wide_lt hx hy
theorem natAbs_add_lt {x y : Int} {a : Nat} (hx : x.natAbs < 2 ^ a) (hy : y.natAbs < 2 ^ a) : (x + y).natAbs < 2 ^ (a + 1) := by
  have := Int.natAbs_add_le x y
  rw [Nat.pow_succ]; omega
theorem pow_le {x : Int} {a b : Nat} (h : x.natAbs < 2 ^ a) (hab : a ≤ b) : x.natAbs < 2 ^ b := Nat.lt_of_lt_of_le h (Nat.pow_le_pow_right (by decide) hab)
/-- the sizes of a value under way: weights and constant below 2 ^ a, tops below 2 ^ b, bottoms below 2 ^ g -/
theorem acc_boundG {W : Wd} (a b g : Nat) : ∀ {ts : List Tm} {s : Int × Int} {i : Nat}, (∀ p ∈ ts, p.2.natAbs < 2 ^ a ∧ (W p.1).1.natAbs < 2 ^ b ∧ (W p.1).2.natAbs < 2 ^ g) → s.1.natAbs < 2 ^ (a + 1 + (b + g + 1) * i) → s.2.natAbs < 2 ^ (1 + g * i) →
    (accV W ts s).1.natAbs < 2 ^ (a + 1 + (b + g + 1) * (i + ts.length)) ∧ (accV W ts s).2.natAbs < 2 ^ (1 + g * (i + ts.length))
  | [], _, _, _, h1, h2 => ⟨h1, h2⟩
  | p :: ts, s, i, h, h1, h2 => by
    obtain ⟨ha, hb, hc⟩ := h p (by simp)
    have m1 : (b + g + 1) * (i + 1) = (b + g + 1) * i + (b + g + 1) := Nat.mul_succ _ _
    have m2 : g * (i + 1) = g * i + g := Nat.mul_succ _ _
    have m3 : g * i ≤ (b + g + 1) * i := Nat.mul_le_mul_right i (by omega)
    have e1 : (s.1 * (W p.1).2).natAbs < 2 ^ (a + 1 + (b + g + 1) * i + (b + g)) := pow_le (natAbs_mul_lt h1 hc) (by omega)
    have e2 : (p.2 * (W p.1).1 * s.2).natAbs < 2 ^ (a + 1 + (b + g + 1) * i + (b + g)) := pow_le (natAbs_mul_lt (natAbs_mul_lt ha hb) h2) (by omega)
    have e3 := natAbs_add_lt e1 e2
    have := acc_boundG (W := W) a b g (ts := ts) (s := (s.1 * (W p.1).2 + p.2 * (W p.1).1 * s.2, s.2 * (W p.1).2)) (i := i + 1) (fun q hq => h q (by simp [hq])) (pow_le e3 (by omega)) (pow_le (natAbs_mul_lt h2 hc) (by omega))
    rw [List.length_cons, show i + (ts.length + 1) = i + 1 + ts.length by omega]
    exact this
theorem acc_bound {W : Wd} {ts : List Tm} {c : Int} (h : ∀ p ∈ ts, p.2.natAbs < 2 ^ 400 ∧ (W p.1).1.natAbs < 2 ^ 1000 ∧ (W p.1).2.natAbs < 2 ^ 401) (hc : c.natAbs < 2 ^ 400) :
    (accV W ts (c, 1)).1.natAbs < 2 ^ (401 + 1402 * ts.length) ∧ (accV W ts (c, 1)).2.natAbs < 2 ^ (1 + 401 * ts.length) := by
  have := acc_boundG (W := W) 400 1000 401 (ts := ts) (s := (c, 1)) (i := 0) h (pow_le hc (by omega)) (show (1 : Int).natAbs < 2 ^ (1 + 401 * 0) by decide)
  rw [Nat.zero_add] at this
  exact this
theorem accV_append {W : Wd} : ∀ {ts us : List Tm} {s : Int × Int}, accV W (ts ++ us) s = accV W us (accV W ts s)
  | [], _, _ => rfl
  | p :: ts, us, s => accV_append (ts := ts)
theorem nodup_len : ∀ {l xs : List Str}, l.Nodup → (∀ x ∈ l, x ∈ xs) → l.length ≤ xs.length
  | [], _, _, _ => Nat.zero_le _
  | x :: l, xs, n, h => by
    have hx := h x (by simp)
    have := nodup_len (l := l) (xs := xs.erase x) (List.nodup_cons.mp n).2 fun y hy => (List.mem_erase_of_ne (fun e => (List.nodup_cons.mp n).1 (by rw [← e]; exact hy))).mpr (h y (by simp [hy]))
    rw [List.length_erase_of_mem hx] at this
    have := List.length_pos_of_mem hx
    rw [List.length_cons]; omega
theorem Canon.nodup {ts : List Tm} (c : Canon ts) : (ts.map (·.1)).Nodup := c.asc.imp fun {a b} h (e : a = b) => by subst e; exact h.irr
theorem Canon.short {ts : List Tm} {xs : List Str} (c : Canon ts) (h : ∀ p ∈ ts, p.1 ∈ xs) : ts.length ≤ xs.length := by
  have := nodup_len c.nodup fun x hx => by
    obtain ⟨p, hp, rfl⟩ := List.mem_map.mp hx
    exact h p hp
  rwa [List.length_map] at this
end Fm
/-! ### the pot of a law, pairs in lowest terms -/
def Pot (P : List V) : Prop := ∃ (pos car cnt mix : Int) (sc : List Int), P = V.int pos :: V.int car :: V.int cnt :: V.int mix :: sc.map V.int ∧ 4 ≤ pos ∧ 0 ≤ car ∧ 0 ≤ mix ∧ mix < 2147483647 ∧ sc.length ≤ 63
def PotAt (a : Addr) (H : Hp) : Prop := ∃ P, H a = some (.lst P) ∧ Pot P
theorem pot_at {x0 x1 x2 x3 : V} {sc : List Int} {i : Int} (h : 4 ≤ i) (h2 : i < sc.length + 4) : atI (x0 :: x1 :: x2 :: x3 :: sc.map V.int) i = some (.int (sc.getD (i.toNat - 4) 0)) := by
  obtain ⟨n, rfl⟩ : ∃ n : Nat, i = ((n + 4 : Nat) : Int) := ⟨i.toNat - 4, by omega⟩
  refine atI_nat ?_
  have h3 : n < sc.length := by omega
  have e : ((n + 4 : Nat) : Int).toNat - 4 = n := by omega
  rw [e, List.getElem?_cons_succ, List.getElem?_cons_succ, List.getElem?_cons_succ, List.getElem?_cons_succ, List.getElem?_map, List.getElem?_eq_getElem h3, List.getD_eq_getElem?_getD, List.getElem?_eq_getElem h3]
  rfl
def spTake : Sp := fun vs H Q _ => ∃ (a : Addr) (n : Int), vs = [.ref a, .int n] ∧ PotAt a H ∧ 0 < n ∧ n < 2 ^ 200 ∧ ∀ (r : Int) (H' : Hp), 0 ≤ r → r < n → Keep [a] H H' → PotAt a H' → Q (.int r) H'
theorem PotAt.new {a p : Addr} {o : HO} {H : Hp} (h : PotAt a H) (n : H p = none) : PotAt a (upd H p o) := by
  obtain ⟨P, hP, hp⟩ := h
  exact ⟨P, by rw [upd_ne (ne_of_none hP n)]; exact hP, hp⟩
theorem PotAt.put {a p : Addr} {o : HO} {H : Hp} (h : PotAt a H) (n : p ≠ a) : PotAt a (upd H p o) := by
  obtain ⟨P, hP, hp⟩ := h
  exact ⟨P, by rw [upd_ne n.symm]; exact hP, hp⟩
theorem PotAt.ne' {a p : Addr} {xs : List V} {H : Hp} (h : PotAt a H) (h2 : H p = some (.lst xs)) (n : ¬ Pot xs) : p ≠ a := by
  obtain ⟨P, hP, hp⟩ := h
  rintro rfl
  rw [hP] at h2; cases h2; exact n hp
theorem PotAt.ne {a p : Addr} {H : Hp} (h : PotAt a H) (n : H p = none) : p ≠ a := by
  obtain ⟨P, hP, _⟩ := h
  exact ne_free hP n
section
variable {Q : VK} {E : XK} {H : Hp}
theorem r_take {a : Addr} {n : Int} (hp : PotAt a H) (h0 : 0 < n) (h1 : n < 2 ^ 200) (k : ∀ (r : Int) (H' : Hp), 0 ≤ r → r < n → Keep [a] H H' → PotAt a H' → Q (.int r) H') : spTake [.ref a, .int n] H Q E := ⟨a, n, rfl, hp, h0, h1, k⟩
/-- a def of the pot that gives an int below m in size -/
def spPotInt (m : Nat) : Sp := fun vs H Q _ => ∃ a : Addr, vs = [.ref a] ∧ PotAt a H ∧ ∀ (r : Int) (H' : Hp), r.natAbs < m → Keep [a] H H' → PotAt a H' → Q (.int r) H'
theorem r_potInt {m : Nat} {a : Addr} (hp : PotAt a H) (k : ∀ (r : Int) (H' : Hp), r.natAbs < m → Keep [a] H H' → PotAt a H' → Q (.int r) H') : spPotInt m [.ref a] H Q E := ⟨a, rfl, hp, k⟩
def spPot (K : PySem.W.Frag) : Sp := fun vs H Q _ => ∃ (a : Addr) (ns : List Int), vs = [.ref a] ∧ SqL K H a (ns.map V.int) ∧ ns.length ≤ 63 ∧ ∀ (p : Addr) (H' : Hp), Keep [] H H' → H p = none → PotAt p H' → Q (.ref p) H'
/-- the divisor with the bottom's sign, and the pair in lowest terms -/
def dv (t b : Int) : Int := if b < 0 then -((Nat.gcd t.natAbs b.natAbs : Nat) : Int) else ((Nat.gcd t.natAbs b.natAbs : Nat) : Int)
def lowT (t b : Int) : Int := t.fdiv (dv t b)
def lowB (t b : Int) : Int := b.fdiv (dv t b)
def spLow : Sp := fun vs H Q _ => ∃ t b : Int, vs = [.int t, .int b] ∧ b ≠ 0 ∧ b.natAbs < 2 ^ 8000 ∧ ∀ (p : Addr) (H' : Hp), Keep [] H H' → H p = none → H' p = some (.tup [.int (lowT t b), .int (lowB t b)]) → Q (.ref p) H'
theorem r_low {t b : Int} (hb : b ≠ 0) (hz : b.natAbs < 2 ^ 8000) (k : ∀ (p : Addr) (H' : Hp), Keep [] H H' → H p = none → H' p = some (.tup [.int (lowT t b), .int (lowB t b)]) → Q (.ref p) H') : spLow [.int t, .int b] H Q E := ⟨t, b, rfl, hb, hz, k⟩
end
theorem gcd_pos {t b : Int} (h : b ≠ 0) : 0 < Nat.gcd t.natAbs b.natAbs := Nat.gcd_pos_of_pos_right _ (by omega)
theorem gcd_le {t b : Int} (h : b ≠ 0) : Nat.gcd t.natAbs b.natAbs ≤ b.natAbs := Nat.gcd_le_right _ (by omega)
theorem dv_ne {t b : Int} (h : b ≠ 0) : dv t b ≠ 0 := by
  have := gcd_pos (t := t) h
  unfold dv; split <;> omega
theorem dv_abs {t b : Int} : (dv t b).natAbs = Nat.gcd t.natAbs b.natAbs := by
  unfold dv; split <;> omega
theorem pow_mono {n : Nat} (a b : Nat) (h : n < 2 ^ a) (hab : a ≤ b := by decide) : n < 2 ^ b := Nat.lt_of_lt_of_le h (Nat.pow_le_pow_right (by decide) hab)
theorem lowT_one {x : Int} : lowT x 1 = x := by
  unfold lowT dv
  rw [if_neg (by decide), show (1 : Int).natAbs = 1 from rfl, Nat.gcd_one_right]
  exact Int.fdiv_one x
theorem lowB_one {x : Int} : lowB x 1 = 1 := by
  unfold lowB dv
  rw [if_neg (by decide), show (1 : Int).natAbs = 1 from rfl, Nat.gcd_one_right]
  rfl
theorem natAbs_fdiv_le {x g : Int} (hg : g ≠ 0) (hd : g ∣ x) : (x.fdiv g).natAbs ≤ x.natAbs := by
  obtain ⟨k, rfl⟩ := hd
  rw [Int.mul_fdiv_cancel_left _ hg, Int.natAbs_mul]
  exact Nat.le_mul_of_pos_left _ (by omega)
theorem dv_dvd_t {t b : Int} : dv t b ∣ t := by
  have h : ((Nat.gcd t.natAbs b.natAbs : Nat) : Int) ∣ t := Int.ofNat_dvd_left.mpr (Nat.gcd_dvd_left _ _)
  unfold dv; split
  · exact (Int.neg_dvd).mpr h
  · exact h
theorem dv_dvd_b {t b : Int} : dv t b ∣ b := by
  have h : ((Nat.gcd t.natAbs b.natAbs : Nat) : Int) ∣ b := Int.ofNat_dvd_left.mpr (Nat.gcd_dvd_right _ _)
  unfold dv; split
  · exact (Int.neg_dvd).mpr h
  · exact h
theorem lowT_le {t b : Int} (h : b ≠ 0) : (lowT t b).natAbs ≤ t.natAbs := natAbs_fdiv_le (dv_ne h) dv_dvd_t
theorem lowB_le {t b : Int} (h : b ≠ 0) : (lowB t b).natAbs ≤ b.natAbs := natAbs_fdiv_le (dv_ne h) dv_dvd_b
theorem lowB_ne {t b : Int} (h : b ≠ 0) : lowB t b ≠ 0 := by
  intro e
  have hd := dv_ne (t := t) h
  have h2 : b = dv t b * lowB t b := by
    unfold lowB
    rw [Int.mul_comm]; exact (Int.fdiv_mul_cancel dv_dvd_b).symm
  rw [e, Int.mul_zero] at h2
  exact h h2
theorem sgn_abs {s x : Int} (h0 : 0 ≤ s) (h1 : s < 2) : ((1 - 2 * s) * x).natAbs = x.natAbs := by
  have h : s = 0 ∨ s = 1 := by omega
  rcases h with rfl | rfl <;> omega
section
variable {Q : VK} {E : XK} {H : Hp}
/-- two pairs, made one in lowest terms -/
def spTwo (f : Int → Int → Int → Int → Int × Int) : Sp := fun vs H Q _ => ∃ (p q : Addr) (a b c d : Int), vs = [.ref p, .ref q] ∧ H p = some (.tup [.int a, .int b]) ∧ H q = some (.tup [.int c, .int d]) ∧ b ≠ 0 ∧ d ≠ 0 ∧ a.natAbs < 2 ^ 9000 ∧ b.natAbs < 2 ^ 3000 ∧ c.natAbs < 2 ^ 9000 ∧ d.natAbs < 2 ^ 3000 ∧
  ∀ (r : Addr) (H' : Hp), Keep [] H H' → H r = none → H' r = some (.tup [.int (lowT (f a b c d).1 (f a b c d).2), .int (lowB (f a b c d).1 (f a b c d).2)]) → Q (.ref r) H'
def fPlus (a b c d : Int) : Int × Int := (a * d + c * b, b * d)
def fTimes (a b c d : Int) : Int × Int := (a * c, b * d)
theorem r_two {f : Int → Int → Int → Int → Int × Int} {p q : Addr} {a b c d : Int} (hp : H p = some (.tup [.int a, .int b])) (hq : H q = some (.tup [.int c, .int d])) (hb : b ≠ 0) (hd : d ≠ 0) (za : a.natAbs < 2 ^ 9000) (zb : b.natAbs < 2 ^ 3000) (zc : c.natAbs < 2 ^ 9000) (zd : d.natAbs < 2 ^ 3000)
  (k : ∀ (r : Addr) (H' : Hp), Keep [] H H' → H r = none → H' r = some (.tup [.int (lowT (f a b c d).1 (f a b c d).2), .int (lowB (f a b c d).1 (f a b c d).2)]) → Q (.ref r) H') : spTwo f [.ref p, .ref q] H Q E := ⟨p, q, a, b, c, d, rfl, hp, hq, hb, hd, za, zb, zc, zd, k⟩
def spWhole : Sp := fun vs H Q _ => ∃ i : Int, vs = [.int i] ∧ Q (.bl true) H
theorem r_whole {i : Int} (k : Q (.bl true) H) : spWhole [.int i] H Q E := ⟨i, rfl, k⟩
def spPairIs : Sp := fun vs H Q _ => ∃ (p q : Addr) (a b : Int), vs = [.ref p, .ref q] ∧ H p = some (.tup [.int a, .int b]) ∧ H q = some (.tup [.int a, .int b]) ∧ Q (.bl true) H
theorem r_pairIs {p q : Addr} {a b : Int} (hp : H p = some (.tup [.int a, .int b])) (hq : H q = some (.tup [.int a, .int b])) (k : Q (.bl true) H) : spPairIs [.ref p, .ref q] H Q E := ⟨p, q, a, b, rfl, hp, hq, k⟩
/-- the law's pair in lowest terms: a bottom above 0 -/
def spLow0 : Sp := fun vs H Q _ => ∃ t b : Int, vs = [.int t, .int b] ∧ 0 < b ∧ b.natAbs < 2 ^ 8000 ∧ ∀ (p : Addr) (H' : Hp), Keep [] H H' → H p = none → H' p = some (.tup [.int (lowT t b), .int (lowB t b)]) → Q (.ref p) H'
theorem r_low0 {t b : Int} (hb : 0 < b) (hz : b.natAbs < 2 ^ 8000) (k : ∀ (p : Addr) (H' : Hp), Keep [] H H' → H p = none → H' p = some (.tup [.int (lowT t b), .int (lowB t b)]) → Q (.ref p) H') : spLow0 [.int t, .int b] H Q E := ⟨t, b, rfl, hb, hz, k⟩
end
theorem low_mul {t b : Int} : lowT t b * dv t b = t ∧ lowB t b * dv t b = b := ⟨Int.fdiv_mul_cancel dv_dvd_t, Int.fdiv_mul_cancel dv_dvd_b⟩
theorem lowB_pos {t b : Int} (h : 0 < b) : 0 < lowB t b := by
  have e := (low_mul (t := t) (b := b)).2
  have g : 0 < dv t b := by
    have := gcd_pos (t := t) (show b ≠ 0 by omega)
    unfold dv; rw [if_neg (by omega)]; omega
  have : 0 < lowB t b * dv t b := by rw [e]; exact h
  exact Int.pos_of_mul_pos_left this g
theorem low_cross {t b : Int} : lowT t b * b = t * lowB t b := by
  have e := low_mul (t := t) (b := b)
  calc lowT t b * b = lowT t b * (lowB t b * dv t b) := by rw [e.2]
    _ = (lowT t b * dv t b) * lowB t b := by ac_rfl
    _ = t * lowB t b := by rw [e.1]
/-- equal ratios have one pair in lowest terms -/
theorem low_eq {t b t' b' : Int} (hb : 0 < b) (hb' : 0 < b') (h : t * b' = t' * b) : lowT t b = lowT t' b' ∧ lowB t b = lowB t' b' := by
  have cop : ∀ {t b : Int}, 0 < b → Nat.gcd (lowT t b).natAbs (lowB t b).natAbs = 1 := by
    intro t b hb
    have g := gcd_pos (t := t) (show b ≠ 0 by omega)
    have e := low_mul (t := t) (b := b)
    have z : Nat.gcd t.natAbs b.natAbs = Nat.gcd (lowT t b).natAbs (lowB t b).natAbs * Nat.gcd t.natAbs b.natAbs := by
      have a := dv_abs (t := t) (b := b)
      have et : t.natAbs = (lowT t b).natAbs * Nat.gcd t.natAbs b.natAbs := by rw [← a, ← Int.natAbs_mul, e.1]
      have eb : b.natAbs = (lowB t b).natAbs * Nat.gcd t.natAbs b.natAbs := by rw [← a, ← Int.natAbs_mul, e.2]
      calc Nat.gcd t.natAbs b.natAbs = Nat.gcd ((lowT t b).natAbs * Nat.gcd t.natAbs b.natAbs) ((lowB t b).natAbs * Nat.gcd t.natAbs b.natAbs) := by rw [← et, ← eb]
        _ = _ := Nat.gcd_mul_right _ _ _
    have : 1 * Nat.gcd t.natAbs b.natAbs = Nat.gcd (lowT t b).natAbs (lowB t b).natAbs * Nat.gcd t.natAbs b.natAbs := by rw [Nat.one_mul]; exact z
    exact (Nat.eq_of_mul_eq_mul_right g this).symm
  have p := lowB_pos (t := t) hb
  have p' := lowB_pos (t := t') hb'
  have x : lowT t b * lowB t' b' = lowT t' b' * lowB t b := by
    have c := low_cross (t := t) (b := b)
    have c' := low_cross (t := t') (b := b')
    have : lowT t b * lowB t' b' * (b * b') = lowT t' b' * lowB t b * (b * b') := by
      calc lowT t b * lowB t' b' * (b * b') = (lowT t b * b) * (lowB t' b' * b') := by ac_rfl
        _ = (t * lowB t b) * (lowB t' b' * b') := by rw [c]
        _ = (t * b') * (lowB t b * lowB t' b') := by ac_rfl
        _ = (t' * b) * (lowB t b * lowB t' b') := by rw [h]
        _ = (t' * lowB t' b') * (lowB t b * b) := by ac_rfl
        _ = (lowT t' b' * b') * (lowB t b * b) := by rw [c']
        _ = lowT t' b' * lowB t b * (b * b') := by ac_rfl
    exact Int.eq_of_mul_eq_mul_right (by have := Int.mul_pos hb hb'; omega) this
  have d1 : (lowB t b).natAbs ∣ (lowB t' b').natAbs := by
    refine Nat.Coprime.dvd_of_dvd_mul_left (k := (lowB t b).natAbs) (m := (lowT t b).natAbs) (Nat.Coprime.symm (cop hb)) ?_
    rw [← Int.natAbs_mul, x, Int.natAbs_mul]; exact Nat.dvd_mul_left _ _
  have d2 : (lowB t' b').natAbs ∣ (lowB t b).natAbs := by
    refine Nat.Coprime.dvd_of_dvd_mul_left (k := (lowB t' b').natAbs) (m := (lowT t' b').natAbs) (Nat.Coprime.symm (cop hb')) ?_
    rw [← Int.natAbs_mul, ← x, Int.natAbs_mul]; exact Nat.dvd_mul_left _ _
  have e := Nat.dvd_antisymm d1 d2
  have e' : lowB t b = lowB t' b' := by omega
  refine ⟨?_, e'⟩
  rw [e'] at x
  exact Int.eq_of_mul_eq_mul_right (by omega) x
theorem low_step {N D w p q : Int} (hD : 0 < D) (hq : 0 < q) :
    let f := fPlus (lowT N D) (lowB N D) (lowT (fTimes w 1 p q).1 (fTimes w 1 p q).2) (lowB (fTimes w 1 p q).1 (fTimes w 1 p q).2)
    lowT f.1 f.2 = lowT (N * q + w * p * D) (D * q) ∧ lowB f.1 f.2 = lowB (N * q + w * p * D) (D * q) ∧ 0 < f.2 := by
  intro f
  have hq' : 0 < (fTimes w 1 p q).2 := by show 0 < 1 * q; omega
  have p1 := lowB_pos (t := N) hD
  have p2 := lowB_pos (t := (fTimes w 1 p q).1) hq'
  have c1 := low_cross (t := N) (b := D)
  have c2 := low_cross (t := (fTimes w 1 p q).1) (b := (fTimes w 1 p q).2)
  have hf : 0 < f.2 := Int.mul_pos p1 p2
  have e : f.1 * (D * q) = (N * q + w * p * D) * f.2 := by
    show (lowT N D * lowB (w * p) (1 * q) + lowT (w * p) (1 * q) * lowB N D) * (D * q) = (N * q + w * p * D) * (lowB N D * lowB (w * p) (1 * q))
    have c2' : lowT (w * p) (1 * q) * q = w * p * lowB (w * p) (1 * q) := by
      have := c2
      show lowT (w * p) (1 * q) * q = _
      have h : (fTimes w 1 p q).2 = q := by show 1 * q = q; omega
      rw [h] at this
      have h2 : (1 : Int) * q = q := by omega
      rw [h2]; exact this
    generalize lowB (w * p) (1 * q) = b2 at *
    generalize lowT (w * p) (1 * q) = t2 at *
    calc (lowT N D * b2 + t2 * lowB N D) * (D * q) = (lowT N D * D) * (b2 * q) + (t2 * q) * (lowB N D * D) := by rw [Int.add_mul]; congr 1 <;> ac_rfl
      _ = (N * lowB N D) * (b2 * q) + (w * p * b2) * (lowB N D * D) := by rw [c1, c2']
      _ = (N * q + w * p * D) * (lowB N D * b2) := by rw [Int.add_mul]; congr 1 <;> ac_rfl
  obtain ⟨a, b⟩ := low_eq hf (Int.mul_pos hD hq) e
  exact ⟨a, b, hf⟩
/-! ### readings of texts, dicts, tuples as targets -/
def rInSg : R2 := fun x y H Q => ∃ (c : Nat) (z : Str), x = .str ⟨#[c]⟩ ∧ y = .str z ∧ Q (.bl (decide (c ∈ z.cps.toList))) H
def rNinSg : R2 := fun x y H Q => ∃ (c : Nat) (z : Str), x = .str ⟨#[c]⟩ ∧ y = .str z ∧ Q (.bl (!decide (c ∈ z.cps.toList))) H
def rAddS : R2 := fun x y H Q => ∃ i j, x = .str i ∧ y = .str j ∧ i.length + j.length ≤ sizeLine ∧ Q (.str (i ++ j)) H
theorem op_inSg {X : Cx} : OpR X (compareOp .In) rInSg := op_in_sign
theorem op_ninSg {X : Cx} : OpR X (compareOp .NotIn) rNinSg := op_notIn_sign
theorem op_addS {X : Cx} : OpR X (binaryOp .Add) rAddS := op_add_str
section
variable {K : PySem.W.Frag} {σ : L2.St} {H : Hp} {Q : VK} {QB : Bool → Hp → Prop} {D : Ends} {ta tb td ty tv te : TE} {v x y : V} {i j z : Str} {n : Int} {c : Nat} {p : Addr}
theorem r_inSg (k : Q (.bl (decide (c ∈ z.cps.toList))) H) : rInSg (.str ⟨#[c]⟩) (.str z) H Q := ⟨c, z, rfl, rfl, k⟩
theorem r_ninSg (k : Q (.bl (!decide (c ∈ z.cps.toList))) H) : rNinSg (.str ⟨#[c]⟩) (.str z) H Q := ⟨c, z, rfl, rfl, k⟩
theorem r_addS (h : i.length + j.length ≤ sizeLine) (k : Q (.str (i ++ j)) H) : rAddS (.str i) (.str j) H Q := ⟨i, j, rfl, rfl, h, k⟩
theorem r_ixS (h : z.length ≤ sizeLine) (h2 : atI z.cps.toList n = some c) (k : Q (.str ⟨#[c]⟩) H) : rIxS (.str z) (.int n) H Q := ⟨z, n, c, rfl, rfl, h, h2, k⟩
theorem r_slS {lo hi : Option Int} (h : z.length ≤ sizeLine) (k : Q (.str (cutS z lo hi)) H) : rSlS (.str z) lo hi H Q := ⟨z, rfl, h, k⟩
theorem r_sum {ns : List Int} (h : SqL K H p (ns.map V.int)) (k : Q (.int ns.sum) H) : rSum K [.ref p] H Q := ⟨p, ns, rfl, h, k⟩
theorem r_all {bs : List Bool} (h : SqL K H p (bs.map V.bl)) (k : Q (.bl (bs.all id)) H) : rAll K [.ref p] H Q := ⟨p, bs, rfl, h, k⟩
theorem r_sortS {xs : List Str} (h : SqL K H p (xs.map V.str)) (h2 : xs.length < 64) (k : ∀ (ys : List Str) (q : Addr), ys.Perm xs → sortedS ys = true → H q = none → Q (.ref q) (upd H q (.lst (ys.map V.str)))) : rSortedS K [.ref p] H Q := ⟨p, xs, rfl, h, h2, k⟩
theorem r_listD {kvs : List (Key × V)} (h : H p = some (.dK kvs)) (k : ∀ q, H q = none → Q (.ref q) (upd H q (.lst (kvs.map fun kv => kV kv.1)))) : rListD [.ref p] H Q := ⟨p, kvs, rfl, h, k⟩
/-- dicts with texts as keys -/
def rDGet : V → V → Hp → VK → Prop := fun x y H Q => ∃ a v, x = .ref a ∧ DGet H a y (some v) ∧ Q v H
def rDGet2 : V → V → V → Hp → VK → Prop := fun x y z H Q => ∃ a o, x = .ref a ∧ DGet H a y o ∧ Q (o.getD z) H
def rDPut : V → V → V → Hp → (Hp → Prop) → Prop := fun x y v H Q => ∃ a H4, x = .ref a ∧ DPut H a y v H4 ∧ Q H4
def rDInB (f : Bool → Bool) : V → V → Hp → VK → Prop := fun y x H Q => ∃ a o, x = .ref a ∧ DGet H a y o ∧ Q (.bl (f o.isSome)) H
theorem r_dget (k : td σ H fun x H1 => ty σ H1 fun y H2 => rDGet x y H2 Q) : tDGet td ty σ H Q := k
theorem r_dgetS {kvs : List (Key × V)} (h : H p = some (.dK kvs)) (h2 : valV kvs (Sum.inr z) = some v) (k : Q v H) : rDGet (.ref p) (.str z) H Q := ⟨p, v, rfl, .inl ⟨kvs, Sum.inr z, .inl h, rfl, h2.symm⟩, k⟩
theorem r_dput (k : tv σ H fun v H1 => td σ H1 fun x H2 => ty σ H2 fun y H3 => rDPut x y v H3 fun H4 => D.nx σ H4) : sDPut td ty tv D σ H := k
theorem r_dputS {kvs : List (Key × V)} {Q : Hp → Prop} (h : H p = some (.dK kvs)) (hl : kvs.length < sizeLine) (k : Q (upd H p (.dK (putK kvs (Sum.inr z) v)))) : rDPut (.ref p) (.str z) v H Q := ⟨p, _, rfl, DPut.k (k := Sum.inr z) h hl, k⟩
theorem r_dget2 {tx : TE} (h : td σ H fun x H1 => ∃ a, x = .ref a ∧ IsD H1 a ∧ ty σ H1 fun y H2 => tx σ H2 fun z H3 => ∃ o, DGet H3 a y o ∧ Q (o.getD z) H3) : tDGet2 td ty tx σ H Q := h
theorem r_dgetO {kvs : List (Key × V)} {R : Option V → Prop} (h : H p = some (.dK kvs)) (k : R (valV kvs (Sum.inr z))) : ∃ o, DGet H p (.str z) o ∧ R o := ⟨_, DGet.k (k := Sum.inr z) h, k⟩
theorem r_isD {kvs : List (Key × V)} {R : Addr → Prop} (h : H p = some (.dK kvs)) (k : R p) : ∃ a, V.ref p = .ref a ∧ IsD H a ∧ R a := ⟨p, rfl, .inl ⟨kvs, .inl h⟩, k⟩
theorem r_din (k : ty σ H fun y H1 => td σ H1 fun x H2 => rDInB id y x H2 Q) : tDIn ty td σ H Q := k
theorem r_dnin (k : ty σ H fun y H1 => td σ H1 fun x H2 => rDInB (fun b => !b) y x H2 Q) : tDNotIn ty td σ H Q := k
theorem r_dinS {kvs : List (Key × V)} {f : Bool → Bool} (h : H p = some (.dK kvs)) (k : Q (.bl (f (valV kvs (Sum.inr z)).isSome)) H) : rDInB f (.str z) (.ref p) H Q := ⟨p, _, rfl, DGet.k (k := Sum.inr z) h, k⟩
theorem r_dnew (k : ∀ p, H p = none → Q (.ref p) (upd H p (.dK []))) : tDNewK σ H Q := k
theorem r_gTup2 {i j : Nat} {Q : L2.St → Hp → Prop} (h : SqT K H p [x, y]) (k : Q ((σ.set i (some x)).set j (some y)) H) : gTup K 2 (gCons (gName i) (gCons (gName j) gNil)) (.ref p) σ H Q := ⟨p, [x, y], rfl, h, rfl, x, [y], rfl, y, [], rfl, rfl, k⟩
theorem r_strI {i : Int} {F : Int → Prop} (h : i.natAbs.log2 < 1920) (k : F i) : ∃ j, [V.int i] = [.int j] ∧ j.natAbs.log2 < 1920 ∧ F j := ⟨i, rfl, h, k⟩
theorem r_strS {i : Str} {F : Str → Prop} (k : F i) : ∃ j, [V.str i] = [.str j] ∧ F j := ⟨i, rfl, k⟩
theorem r_tupL {xs : List V} {F : Addr → Prop} {G : List V → Addr → Prop} (h : SqL K H p xs) (k : ∀ l, H l = none → G xs l) : ∃ q ys, [V.ref p] = [.ref q] ∧ ((SqL K H q ys ∧ ∀ l, H l = none → G ys l) ∨ (SqT K H q ys ∧ F q)) := ⟨p, xs, rfl, .inl ⟨h, k⟩⟩
theorem r_js {t : TE} {ts : List TE} {acc : Str} {Q : Str → Hp → Prop} (k : t σ H fun x H1 => ∃ y : Str, x = .str y ∧ (acc ++ y).length ≤ sizeLine ∧ tJs ts (acc ++ y) σ H1 Q) : tJs (t :: ts) acc σ H Q := k
theorem r_js0 {acc : Str} {Q : Str → Hp → Prop} (k : Q acc H) : tJs [] acc σ H Q := k
theorem r_jsS {y : Str} {A B : Str → Prop} (h : A y) (k : B y) : ∃ z, V.str y = .str z ∧ A z ∧ B z := ⟨y, rfl, h, k⟩
theorem r_fmt (k : te σ H fun x H1 => (∃ y : Str, x = .str y ∧ y.length ≤ sizeLine ∧ Q (.str y) H1) ∨ ∃ i : Int, x = .int i ∧ i.natAbs.log2 < 1920 ∧ Q (.str (toString i)) H1) : tFmt te σ H Q := k
end
/-! ### comprehensions over a text -/
section
variable {K : PySem.W.Frag} {σ : L2.St} {H : Hp} {Q : VK} {te tl : TE} {tt : TT} {G : TG} {vs : List Nat}
def CompS (G : TG) (tt : TT) (te : TE) (vs : List Nat) (σ : L2.St) (Q : VK) (x : V) (H1 : Hp) : Prop := ∃ z, x = .str z ∧ CompW (Its z) G tt te vs σ Q H1
theorem r_lcS (k : tl σ H fun x H1 => CompS G tt te vs σ Q x H1) : tLc (iStr tl) G tt te vs σ H Q := k
theorem lcS_go {z : Str} (Pv : Addr → Nat → List V → Hp → Prop) (h0 : ∀ D, H D = none → Pv D 0 [] (upd H D (.lst [])))
    (hs : ∀ D (i : Nat) c acc H', z.cps[i]? = some c → H' D = some (.lst acc) → Pv D i acc H' → G (.str ⟨#[c]⟩) (wipe σ vs) H' fun σ2 H2 => wipe σ2 vs = wipe σ vs ∧ tt σ2 H2 fun b H3 =>
      if b = true then te σ2 H3 fun y H4 => ∃ acc, H4 D = some (.lst acc) ∧ acc.length < sizeLine ∧ (∃ ac, (upd H4 D (.lst (acc ++ [y]))) D = some (.lst ac) ∧ Pv D (i + 1) ac (upd H4 D (.lst (acc ++ [y])))) else ∃ ac, H3 D = some (.lst ac) ∧ Pv D (i + 1) ac H3)
    (hd : ∀ D acc H', H D = none → H' D = some (.lst acc) → Pv D z.cps.size acc H' → Q (.ref D) H') : CompS G tt te vs σ Q (.str z) H :=
  ⟨z, rfl, fun D hD => lc_it (walk_str (z := z)) (fun i H' => ∃ acc, H' D = some (.lst acc) ∧ Pv D i acc H') ⟨[], upd_same, h0 D hD⟩ (fun _ _ _ _ => True.intro) (fun i x H' H2 hi ⟨acc, ha, p⟩ ⟨e, c, hc, hx⟩ => by subst e; subst hx; exact hs D i c acc _ hc ha p) fun H' ⟨acc, ha, p⟩ => hd D acc H' hD ha p⟩
end
namespace Wr
open PySem PySem.Spec PyProof.Rows L2
/-! ### forms written -/
theorem app_assoc (x y z : Str) : x ++ y ++ z = x ++ (y ++ z) := by
  show (⟨x.cps ++ y.cps ++ z.cps⟩ : Str) = ⟨x.cps ++ (y.cps ++ z.cps)⟩
  rw [Array.append_assoc]
theorem emp_app (x : Str) : Str.empty ++ x = x := by
  show (⟨#[] ++ x.cps⟩ : Str) = x
  rw [Array.empty_append]
theorem len_app (x y : Str) : (x ++ y).length = x.length + y.length := Array.size_append
theorem ne_emp {x : Str} (h : 0 < x.length) : x ≠ Str.empty := by rintro rfl; cases h
def num (i : Int) : Str := Str.ofString (toString i)
theorem of_app (s t : String) : Str.ofString (s ++ t) = Str.ofString s ++ Str.ofString t := by
  rw [Str.ofString_eq_toList, Str.ofString_eq_toList, Str.ofString_eq_toList]
  show _ = (⟨(s.toList.map Char.toNat).toArray ++ (t.toList.map Char.toNat).toArray⟩ : Str)
  rw [String.toList_append, List.map_append, List.append_toArray]
theorem num_neg {i : Int} (h : i < 0) : num i = Str.ofString "-" ++ num (i.natAbs : Int) := by
  unfold num
  rw [PyProof.Rows.toString_neg h, of_app, show (0 - i) = ((i.natAbs : Nat) : Int) by omega]
theorem num_len {i : Int} {k : Nat} (hk : 0 < k) (h : i.natAbs.log2 < k) : (num i).length ≤ k + 5 := by
  have e := int_text_length_le (k := k) hk h
  unfold num
  rw [PySem.ofString_length]; omega
def sp : Str := Str.ofString " "
def sg (w : Int) : Str := if w < 0 then Str.ofString "-" else Str.ofString "+"
/-- one term -/
def part (w : Int) (x : Str) : Str := if (w.natAbs : Int) = 1 then x else num (w.natAbs : Int) ++ sp ++ x
abbrev Pt := Int × Str
/-- the parts of a form -/
def pts (ts : List Fm.Tm) (c : Int) : List Pt := (ts.map fun p => (p.2, part p.2 p.1)) ++ (if c ≠ 0 ∨ ts = [] then [(c, num (c.natAbs : Int))] else [])
def tailW (ps : List Pt) : List Str := ps.flatMap fun p => [sg p.1, p.2]
def first (p : Pt) : Str := if p.1 < 0 then Str.ofString "-" ++ p.2 else p.2
def words : List Pt → List Str
  | [] => []
  | p :: r => first p :: tailW r
/-- as the program writes it -/
def prog (ts : List Fm.Tm) (c : Int) : Str := Str.join sp (words (pts ts c))
/-- as the law writes it -/
def step (line : Str) (p : Fm.Tm) : Str := (if line ≠ Str.empty then line ++ sp ++ sg p.2 ++ sp else if p.2 < 0 then Str.ofString "-" else line) ++ part p.2 p.1
def due (ts : List Fm.Tm) (c : Int) : Str := if ts = [] then num c else
  if 0 < c then ts.foldl step Str.empty ++ Str.ofString " + " ++ num c else if c < 0 then ts.foldl step Str.empty ++ Str.ofString " - " ++ num (-c) else ts.foldl step Str.empty
theorem join_snoc (s : Str) (t : Str) : ∀ (y : Str) (ws : List Str), Str.join s (y :: (ws ++ [t])) = Str.join s (y :: ws) ++ s ++ t
  | y, [] => rfl
  | y, z :: ws => by
    show y ++ s ++ Str.join s (z :: (ws ++ [t])) = (y ++ s ++ Str.join s (z :: ws)) ++ s ++ t
    rw [join_snoc s t z ws, ← app_assoc, ← app_assoc]
theorem part_pos {w : Int} {x : Str} (h : 0 < x.length) : 0 < (part w x).length := by
  unfold part; split
  · exact h
  · rw [len_app]; omega
theorem fold_step : ∀ (r : List Fm.Tm) (y : Str) (ws : List Str), 0 < (Str.join sp (y :: ws)).length → (∀ p ∈ r, 0 < p.1.length) →
    r.foldl step (Str.join sp (y :: ws)) = Str.join sp (y :: (ws ++ tailW (r.map fun p => (p.2, part p.2 p.1)))) ∧ 0 < (r.foldl step (Str.join sp (y :: ws))).length
  | [], y, ws, h, _ => ⟨by simp [tailW], h⟩
  | p :: r, y, ws, h, hn => by
    have e : step (Str.join sp (y :: ws)) p = Str.join sp (y :: (ws ++ [sg p.2, part p.2 p.1])) := by
      unfold step
      rw [if_pos (ne_emp h), show ws ++ [sg p.2, part p.2 p.1] = (ws ++ [sg p.2]) ++ [part p.2 p.1] by simp, join_snoc, join_snoc]
    have h2 : 0 < (Str.join sp (y :: (ws ++ [sg p.2, part p.2 p.1]))).length := by
      rw [← e]; unfold step; rw [len_app]; have := part_pos (w := p.2) (hn p (by simp)); omega
    have ih := fold_step r y (ws ++ [sg p.2, part p.2 p.1]) h2 fun q hq => hn q (by simp [hq])
    rw [List.foldl_cons, e]
    refine ⟨?_, ih.2⟩
    rw [ih.1]
    congr 2
    simp [tailW]
/-- both write the same -/
theorem same {ts : List Fm.Tm} {c : Int} (hn : ∀ p ∈ ts, 0 < p.1.length) : prog ts c = due ts c := by
  unfold prog due pts
  cases ts with
  | nil =>
    rw [if_pos rfl]
    simp only [List.map_nil, List.nil_append, or_true, if_true, words, tailW, List.flatMap_nil]
    show first (c, num (c.natAbs : Int)) = _
    unfold first
    split
    · next h => exact (num_neg h).symm
    · next h => show num (c.natAbs : Int) = _; rw [show ((c.natAbs : Nat) : Int) = c by have h' : ¬ c < 0 := h; omega]
  | cons p r =>
    rw [if_neg (show ¬ (p :: r = []) by simp)]
    have s0 : step Str.empty p = first (p.2, part p.2 p.1) := by
      unfold step first
      rw [if_neg (by simp)]
      split
      · rfl
      · exact emp_app _
    have h1 : 0 < (Str.join sp [first (p.2, part p.2 p.1)]).length := by
      show 0 < (first (p.2, part p.2 p.1)).length
      have := part_pos (w := p.2) (hn p (by simp))
      unfold first; split
      · rw [len_app]; dsimp only; omega
      · exact this
    have f := fold_step r (first (p.2, part p.2 p.1)) [] h1 fun q hq => hn q (by simp [hq])
    have f1 : (p :: r).foldl step Str.empty = Str.join sp (first (p.2, part p.2 p.1) :: tailW (r.map fun p => (p.2, part p.2 p.1))) := by
      rw [List.foldl_cons, s0]; exact f.1
    rw [f1]
    have wc : ∀ t : Pt, words (((p :: r).map fun p => (p.2, part p.2 p.1)) ++ [t]) = first (p.2, part p.2 p.1) :: (tailW (r.map fun p => (p.2, part p.2 p.1)) ++ [sg t.1] ++ [t.2]) := fun t => by
      simp [words, tailW]
    by_cases h : c = 0
    · subst h
      rw [if_neg (by simp), if_neg (by decide), if_neg (by decide), List.append_nil]; rfl
    · rw [if_pos (.inl h), wc, join_snoc, join_snoc]
      dsimp only
      by_cases h0 : 0 < c
      · rw [if_pos h0]
        unfold sg
        rw [if_neg (by omega), show ((c.natAbs : Nat) : Int) = c by omega, show Str.ofString " + " = sp ++ (Str.ofString "+" ++ sp) by decide +kernel]
        simp only [app_assoc]
      · rw [if_neg h0, if_pos (by omega)]
        unfold sg
        rw [if_pos (by omega), show ((c.natAbs : Nat) : Int) = -c by omega, show Str.ofString " - " = sp ++ (Str.ofString "-" ++ sp) by decide +kernel]
        simp only [app_assoc]
theorem tailW_len : ∀ ps : List Pt, (tailW ps).length = 2 * ps.length
  | [] => rfl
  | p :: ps => by
    have := tailW_len ps
    show (sg p.1 :: p.2 :: tailW ps).length = _
    simp only [List.length_cons, this]; omega
theorem tailW_snoc (ps : List Pt) (p : Pt) : tailW (ps ++ [p]) = tailW ps ++ [sg p.1, p.2] := by simp [tailW]
theorem tailW_mem {ps : List Pt} {y : Str} (h : y ∈ tailW ps) : (∃ w, y = sg w) ∨ ∃ p ∈ ps, y = p.2 := by
  obtain ⟨p, hp, hy⟩ := List.mem_flatMap.mp h
  rcases List.mem_cons.mp hy with e | e
  · exact .inl ⟨p.1, e⟩
  · exact .inr ⟨p, hp, List.mem_singleton.mp e⟩
theorem sum_len {B : Nat} : ∀ {ys : List Str}, (∀ y ∈ ys, y.length ≤ B) → (ys.map (·.length)).sum ≤ ys.length * B
  | [], _ => by simp
  | y :: ys, h => by
    have a := h y (by simp)
    have b := sum_len (B := B) (ys := ys) fun z hz => h z (by simp [hz])
    rw [List.map_cons, List.sum_cons, List.length_cons, Nat.succ_mul]; omega
end Wr
/-! ### a row of objects, each told by its item -/
section
variable {α : Type} {f : α → HO} {H H' : Hp}
def AllAt (f : α → HO) (H : Hp) : List Addr → List α → Prop
  | [], [] => True
  | a :: as, x :: xs => H a = some (f x) ∧ AllAt f H as xs
  | _, _ => False
theorem AllAt.len : ∀ {as : List Addr} {xs : List α}, AllAt f H as xs → as.length = xs.length
  | [], [], _ => rfl
  | _ :: _, _ :: _, h => congrArg Nat.succ (AllAt.len h.2)
  | [], _ :: _, h => h.elim
  | _ :: _, [], h => h.elim
theorem AllAt.get : ∀ {as : List Addr} {xs : List α} {i : Nat} {a : Addr}, AllAt f H as xs → as[i]? = some a → ∃ x, xs[i]? = some x ∧ H a = some (f x)
  | [], _, _, _, _, e => by simp at e
  | _ :: _, [], _, _, h, _ => h.elim
  | b :: as, p :: ts, 0, a, h, e => by
    have : b = a := by simpa using e
    subst this; exact ⟨p, rfl, h.1⟩
  | b :: as, p :: ts, i + 1, a, h, e => by
    obtain ⟨q, h1, h2⟩ := AllAt.get (i := i) h.2 (by simpa using e)
    exact ⟨q, by simpa using h1, h2⟩
theorem AllAt.mono : ∀ {as : List Addr} {xs : List α}, AllAt f H as xs → (∀ a x, a ∈ as → x ∈ xs → H a = some (f x) → H' a = some (f x)) → AllAt f H' as xs
  | [], [], _, _ => trivial
  | a :: as, p :: ts, h, k => ⟨k a p (by simp) (by simp) h.1, h.2.mono fun b q hb hq => k b q (by simp [hb]) (by simp [hq])⟩
  | [], _ :: _, h, _ => h.elim
  | _ :: _, [], h, _ => h.elim
theorem AllAt.app : ∀ {as bs : List Addr} {xs ys : List α}, AllAt f H as xs → AllAt f H bs ys → AllAt f H (as ++ bs) (xs ++ ys)
  | [], _, [], _, _, k => k
  | _ :: _, _, _ :: _, _, h, k => ⟨h.1, h.2.app k⟩
  | [], _, _ :: _, _, h, _ => h.elim
  | _ :: _, _, [], _, h, _ => h.elim
theorem AllAt.keep0 {as : List Addr} {xs : List α} (h : AllAt f H as xs) (k : Keep [] H H') : AllAt f H' as xs := h.mono fun a p _ _ e => k a _ (by simp) e
/-- kept where the changed addresses hold other things -/
theorem AllAt.keep {M : List Addr} {as : List Addr} {xs : List α} (h : AllAt f H as xs) (k : Keep M H H') (n : ∀ m ∈ M, ∀ x, H m ≠ some (f x)) : AllAt f H' as xs := h.mono fun a p _ _ e => k a _ (fun hm => n a hm p e) e
end
/-! ### loops and comprehensions over zip of two lists, dict comprehensions over the items of a dict -/
section
variable {K : PySem.W.Frag} {σ : L2.St} {H : Hp} {Q : VK} {te tk tv : TE} {tt : TT} {G : TG} {tas : TA} {vs : List Nat} {ts : TS} {D : Ends}
def ForW (J : It) (G : TG) (ts : TS) (D : Ends) (σ : L2.St) (H : Hp) : Prop := ∃ W : Nat → Nat → L2.St → Hp → Prop, (∃ m, W 0 m σ H) ∧ ∀ i m σ H, W i m σ H →
  (J.stop i H ∧ D.nx σ H) ∨ (J.go i H ∧ ∃ N : L2.St → Hp → Prop, (∀ σ' H', N σ' H' → ∃ m', m' < m ∧ W (i + 1) m' σ' H') ∧ ∀ x H', J.yld i H x H' → G x σ H' fun σ2 H2 => ts { D with nx := N, ct := N, bk := D.nx } σ2 H2)
def ForZ (K : PySem.W.Frag) (G : TG) (ts : TS) (D : Ends) (σ : L2.St) (us : List V) (H : Hp) : Prop := ∃ a b xs ys, us = [.ref a, .ref b] ∧ SqL K H a xs ∧ SqL K H b ys ∧ ForW (Itz K a b) G ts D σ H
theorem r_forZ (k : tas σ H fun us H1 => ForZ K G ts D σ us H1) : tFor (iZip K tas) G ts D σ H := k
theorem forZ_go {a b : Addr} {xs ys : List V} (hl : xs.length = ys.length) (Pv : Nat → L2.St → Hp → Prop) (hx : SqL K H a xs) (hy : SqL K H b ys) (h0 : Pv 0 σ H) (hq : ∀ i σ' H', Pv i σ' H' → SqL K H' a xs ∧ SqL K H' b ys)
    (hs : ∀ (i : Nat) (x y : V) (T : Addr) σ' H', xs[i]? = some x → ys[i]? = some y → Pv i σ' H' → H' T = none → G (.ref T) σ' (upd H' T (.tup [x, y])) fun σ2 H2 => ts { D with nx := Pv (i + 1), ct := Pv (i + 1), bk := D.nx } σ2 H2)
    (hd : ∀ σ' H', Pv xs.length σ' H' → D.nx σ' H') : ForZ K G ts D σ [.ref a, .ref b] H := ⟨a, b, xs, ys, rfl, hx, hy, RZ.for_zipL hl Pv h0 hq hs hd⟩
def CompZ (K : PySem.W.Frag) (G : TG) (tt : TT) (te : TE) (vs : List Nat) (σ : L2.St) (Q : VK) (us : List V) (H1 : Hp) : Prop := ∃ a b xs ys, us = [.ref a, .ref b] ∧ SqL K H1 a xs ∧ SqL K H1 b ys ∧ CompW (Itz K a b) G tt te vs σ Q H1
theorem r_lcZ (k : tas σ H fun us H1 => CompZ K G tt te vs σ Q us H1) : tLc (iZip K tas) G tt te vs σ H Q := k
theorem lcZ_go {a b : Addr} {xs ys : List V} (hl : xs.length = ys.length) (Pv : Addr → Nat → List V → Hp → Prop) (hx : SqL K H a xs) (hy : SqL K H b ys) (h0 : ∀ D, H D = none → Pv D 0 [] (upd H D (.lst []))) (hq : ∀ D i acc H', H D = none → Pv D i acc H' → SqL K H' a xs ∧ SqL K H' b ys)
    (hs : ∀ D (i : Nat) x y T acc H', xs[i]? = some x → ys[i]? = some y → H D = none → H' D = some (.lst acc) → Pv D i acc H' → H' T = none → G (.ref T) (wipe σ vs) (upd H' T (.tup [x, y])) fun σ2 H2 => wipe σ2 vs = wipe σ vs ∧ tt σ2 H2 fun b H3 =>
      if b = true then te σ2 H3 fun y H4 => ∃ acc, H4 D = some (.lst acc) ∧ acc.length < sizeLine ∧ (∃ ac, (upd H4 D (.lst (acc ++ [y]))) D = some (.lst ac) ∧ Pv D (i + 1) ac (upd H4 D (.lst (acc ++ [y])))) else ∃ ac, H3 D = some (.lst ac) ∧ Pv D (i + 1) ac H3)
    (hd : ∀ D acc H', H D = none → H' D = some (.lst acc) → Pv D xs.length acc H' → Q (.ref D) H') : CompZ K G tt te vs σ Q [.ref a, .ref b] H :=
  ⟨a, b, xs, ys, rfl, hx, hy, fun D hD => lc_it (walk_zip (n := xs.length) (by omega)) (fun i H' => ∃ acc, H' D = some (.lst acc) ∧ Pv D i acc H') ⟨[], upd_same, h0 D hD⟩ (fun i H' _ ⟨acc, _, p⟩ => hq D i acc H' hD p)
    (fun i v H1 H' hi ⟨acc, ha, p⟩ ⟨T, x, y, ev, hT, eH, ex, ey⟩ => by subst ev eH; exact hs D i x y T acc H1 ex ey hD ha p hT) fun H' ⟨acc, ha, p⟩ => hd D acc H' hD ha p⟩
/-- a target (x, y), z -/
theorem r_gTup21 {p T : Addr} {x y z : V} {i j k : Nat} {Q : L2.St → Hp → Prop} (h : SqT K H T [.ref p, z]) (h2 : SqT K H p [x, y]) (q : Q (((σ.set i (some x)).set j (some y)).set k (some z)) H) :
    gTup K 2 (gCons (gTup K 2 (gCons (gName i) (gCons (gName j) gNil))) (gCons (gName k) gNil)) (.ref T) σ H Q :=
  ⟨T, [.ref p, z], rfl, h, rfl, .ref p, [z], rfl, ⟨p, [x, y], rfl, h2, rfl, x, [y], rfl, y, [], rfl, rfl, z, [], rfl, rfl, q⟩⟩
/-- a dict comprehension over a walk -/
theorem dc_it {J : It} {n : Nat} {Go : Hp → Prop} {Y : Nat → Hp → V → Hp → Prop} (w : Walk J n Go Y) {H1 : Hp} {D : Addr} {Qd : Hp → Prop} (Pv : Nat → Hp → Prop) (h0 : Pv 0 (upd H1 D (.dK []))) (hG : ∀ i H, i ≤ n → Pv i H → Go H)
    (hs : ∀ i x H H', i < n → Pv i H → Y i H x H' → G x (wipe σ vs) H' fun σ2 H2 => wipe σ2 vs = wipe σ vs ∧ tt σ2 H2 fun b H3 =>
      if b = true then tk σ2 H3 fun y H4 => tv σ2 H4 fun z H5 => ∃ kvs k, y = kV k ∧ H5 D = some (.dK kvs) ∧ kvs.length < sizeLine ∧ Pv (i + 1) (upd H5 D (.dK (putK kvs k z))) else Pv (i + 1) H3) (hd : ∀ H, Pv n H → Qd H) :
    ∃ W : Nat → Nat → Hp → Prop, (∃ m, W 0 m (upd H1 D (.dK []))) ∧ ∀ i m H, W i m H →
      (J.stop i H ∧ Qd H) ∨ (J.go i H ∧ ∃ Nx : Hp → Prop, (∀ H', Nx H' → ∃ m', m' < m ∧ W (i + 1) m' H') ∧ ∀ x H', J.yld i H x H' → G x (wipe σ vs) H' fun σ2 H2 => wipe σ2 vs = wipe σ vs ∧ tt σ2 H2 fun b H3 =>
        if b = true then tk σ2 H3 fun y H4 => tv σ2 H4 fun z H5 => ∃ kvs k, y = kV k ∧ H5 D = some (.dK kvs) ∧ kvs.length < sizeLine ∧ Nx (upd H5 D (.dK (putK kvs k z))) else Nx H3) := by
  let Turn : Nat → Nat → Hp → Prop := fun i left H => left + i = n ∧ Pv i H
  refine ⟨Turn, ⟨n, rfl, h0⟩, fun i left H ⟨sum, p⟩ => ?_⟩
  have stands := hG i H (by omega) p
  rcases Nat.eq_or_lt_of_le (show i ≤ n by omega) with full | more
  · cases full
    exact .inl ⟨w.stops H stands, hd H p⟩
  · exact .inr ⟨w.goes i H more stands, Pv (i + 1), fun H' p' => ⟨left - 1, by omega, by omega, p'⟩, fun v H' y => hs i v H H' more p (w.yields i H v H' more stands y)⟩
/-- {k: v for k, v in d.items() if ..} where d is looked up by a reading, locked for the time -/
theorem dcI_go {td : TE} {d : Addr} {kvs : List (Key × V)} (hd : H d = some (.dK kvs)) (up : ∀ od (Q' : VK), (∀ v H1, v = .ref d ∧ H1 = upd H d (.frz od (.dK kvs)) → Q' v H1) → td σ (upd H d (.frz od (.dK kvs))) Q')
    (Pv : Obj → Addr → Nat → List (Key × V) → Hp → Prop) (h0 : ∀ od D, upd H d (.frz od (.dK kvs)) D = none → Pv od D 0 [] (upd (upd H d (.frz od (.dK kvs))) D (.dK []))) (hG : ∀ od D i acc H', Pv od D i acc H' → H' d = some (.frz od (.dK kvs)))
    (hs : ∀ od D (i : Nat) k v T acc H', kvs[i]? = some (k, v) → upd H d (.frz od (.dK kvs)) D = none → H' D = some (.dK acc) → Pv od D i acc H' → H' T = none → G (.ref T) (wipe σ vs) (upd H' T (.tup [kV k, v])) fun σ2 H2 => wipe σ2 vs = wipe σ vs ∧ tt σ2 H2 fun b H3 =>
      if b = true then tk σ2 H3 fun y H4 => tv σ2 H4 fun z H5 => ∃ acc k, y = kV k ∧ H5 D = some (.dK acc) ∧ acc.length < sizeLine ∧ (∃ ac, (upd H5 D (.dK (putK acc k z))) D = some (.dK ac) ∧ Pv od D (i + 1) ac (upd H5 D (.dK (putK acc k z)))) else ∃ ac, H3 D = some (.dK ac) ∧ Pv od D (i + 1) ac H3)
    (he : ∀ od D acc H', upd H d (.frz od (.dK kvs)) D = none → H' D = some (.dK acc) → Pv od D kvs.length acc H' → Q (.ref D) (upd H' d (.dK kvs))) : tLockE (tDc (iItems td) G tt tk tv vs) σ H Q := by
  refine ⟨d, .dK kvs, hd, trivial, fun od => up od _ ?_⟩
  rintro v H1 ⟨rfl, rfl⟩
  refine ⟨d, od, kvs, rfl, upd_same, fun D hD => dc_it walk_items (fun i H' => ∃ acc, H' D = some (.dK acc) ∧ Pv od D i acc H') ⟨[], upd_same, h0 od D hD⟩ (fun i H' _ ⟨acc, _, p⟩ => hG od D i acc H' p) ?_ fun H' ⟨acc, ha, p⟩ => ⟨hG _ _ _ _ _ p, he od D acc H' hD ha p⟩⟩
  rintro i v H1 H' hi ⟨acc, ha, p⟩ ⟨T, x, y, ev, hT, eH, ex, ey⟩
  subst ev eH
  replace ex : kvs[i]?.map (fun kv => kV kv.1) = some x := ex
  replace ey : kvs[i]?.map Prod.snd = some y := ey
  cases hk : kvs[i]? with
  | none => rw [hk] at ex; cases ex
  | some kv =>
    rw [hk] at ex ey
    cases ex; cases ey
    exact hs od D i kv.1 kv.2 T acc H1 hk hD ha p hT
theorem Keep.unlock {M : List Addr} {H' : Hp} {d : Addr} {o f : HO} (h : H d = some o) (k : Keep M (upd H d f) H') : Keep M H (upd H' d o) := fun b u n e => by
  by_cases c : b = d
  · subst c; rw [h] at e; cases e; exact upd_same
  · rw [upd_ne c]; exact k b u n (by rw [upd_ne c]; exact e)
theorem r_any {a : Addr} {bs : List Bool} (h : SqL K H a (bs.map V.bl)) (k : Q (.bl (bs.any id)) H) : rAny K [V.ref a] H Q := ⟨a, bs, rfl, h, k⟩
theorem r_truD {p : Addr} {kvs : List (Key × V)} {QB : Bool → Hp → Prop} (h : H p = some (.dK kvs)) (k : QB (!kvs.isEmpty) H) : ∃ b, TruV K (.ref p) H b ∧ QB b H := ⟨_, .inr (.inr ⟨kvs, h, rfl⟩), k⟩
end
/-! ### == and != of two dicts whose values are the same things -/
def SameV (v : V) : Prop := flatB v = true ∨ ∃ a, v = .ref a
theorem eqAt_sameV {A : Around} {s : Shared} {v : V} {u u' : Value} (r : RelV v u) (r' : RelV v u') (f : SameV v) : SeqAt.EqAt A s u u' true := by
  rcases f with f | ⟨a, rfl⟩
  · exact eqAt_same r r' f
  · cases (show u = Value.ref a from r)
    cases (show u' = Value.ref a from r')
    exact SeqAt.EqAt.same _
theorem hits_same {A : Around} {s : Shared} {ls : List (Key × V)} {lv : List (Key × Value)} (rl : KV ls lv) {us : List (Key × V)} {uv : List (Key × Value)} (ru : KV us uv) :
    (∀ e ∈ us, valV ls e.1 = some e.2 ∧ SameV e.2) → PySem.W.KeqHits A s lv uv true := by
  unfold KV at ru
  induction ru with
  | nil => exact fun _ => .nil
  | @cons e f es fs both more ih =>
    intro all
    have first := all e List.mem_cons_self
    have look : RelO (some e.2) (valueAt lv e.1) := first.1 ▸ rl.val e.1
    obtain ⟨there, found, rel⟩ := look.some_of
    obtain ⟨key, worth⟩ := f
    rw [show e.1 = key from both.1] at found
    show PySem.W.KeqHits A s lv ((key, worth) :: fs) (true && true)
    exact .hit found (eqAt_sameV both.2 rel first.2) (ih fun g hg => all g (List.mem_cons_of_mem _ hg))
def SameD (x y : V) (H : Hp) : Prop := ∃ a b ks ls, x = .ref a ∧ y = .ref b ∧ H a = some (.dK ks) ∧ H b = some (.dK ls) ∧ ks.length = ls.length ∧ (∀ p ∈ ks, valV ls p.1 = some p.2 ∧ SameV p.2)
def rEqSame : R2 := fun x y H Q => SameD x y H ∧ Q (.bl true) H
def rNeSame : R2 := fun x y H Q => SameD x y H ∧ Q (.bl false) H
theorem same_run {X : Cx} {pins : List (Addr × Obj)} {σ : L2.St} {H : Hp} {s : Shared} {x y : V} {v u : Value} (I : Inv X pins σ H s) (rx : RelV x v) (ry : RelV y u) (d : SameD x y H) : ∃ (a b : Addr) (fa fb : List (Key × Value)), v = .ref a ∧ u = .ref b ∧
    (a == sysModules) = false ∧ (b == sysModules) = false ∧ s.heap.DictOf (mixKind X.prog X.w) a fa ∧ s.heap.DictOf (mixKind X.prog X.w) b fb ∧ fa.length = fb.length ∧ PySem.W.KeqHits X.A.in1 s fb fa true := by
  obtain ⟨a, b, ks, ls, rfl, rfl, ha, hb, len, same⟩ := d
  have oa : ObjOk X.prog X.w H s.heap a (.dK ks) := I.hok a _ ha
  have ob : ObjOk X.prog X.w H s.heap b (.dK ls) := I.hok b _ hb
  obtain ⟨_, na, fa, ra, da⟩ := oa
  obtain ⟨_, nb, fb, rb, db⟩ := ob
  exact ⟨a, b, fa, fb, rx, ry, na, nb, da, db, by have h1 := ra.length; have h2 := rb.length; omega, hits_same rb ra same⟩
theorem op_eqSame {X : Cx} (small : X.A.units < cLine) : OpR X (compareOp .Eq) rEqSame := by
  rintro pins s σ H x y v u Q I rx ry ⟨d, q⟩
  obtain ⟨a, b, fa, fb, rfl, rfl, na, nb, da, db, len, hits⟩ := same_run I rx ry d
  exact PySem.W.keq_eq (r := true) na nb da db small (fun _ => hits) ⟨.bl true, H, I, by simp [len]; rfl, q⟩
theorem op_neSame {X : Cx} (small : X.A.units < cLine) : OpR X (compareOp .NotEq) rNeSame := by
  rintro pins s σ H x y v u Q I rx ry ⟨d, q⟩
  obtain ⟨a, b, fa, fb, rfl, rfl, na, nb, da, db, len, hits⟩ := same_run I rx ry d
  exact PySem.W.keq_ne (r := true) na nb da db small (fun _ => hits) ⟨.bl false, H, I, by simp [len]; rfl, q⟩
theorem val_self : ∀ {ks : List (Key × V)}, (ks.map (·.1)).Nodup → ∀ p ∈ ks, valV ks p.1 = some p.2
  | [], _, p, h => by simp at h
  | kv :: ks, n, p, h => by
    rw [List.map_cons, List.nodup_cons] at n
    rcases List.mem_cons.mp h with e | h
    · subst e; unfold valV; simp
    · have ne : kv.1 ≠ p.1 := fun e => n.1 (by rw [e]; exact List.mem_map_of_mem h)
      have ih := val_self n.2 p h
      unfold valV at ih ⊢
      rw [List.find?_cons_of_neg (by simpa using ne)]
      exact ih
theorem same_self {H : Hp} {a b : Addr} {ks : List (Key × V)} (ha : H a = some (.dK ks)) (hb : H b = some (.dK ks)) (n : (ks.map (·.1)).Nodup) (h : ∀ p ∈ ks, SameV p.2) : SameD (.ref a) (.ref b) H :=
  ⟨a, b, ks, ks, rfl, rfl, ha, hb, rfl, fun p hp => ⟨val_self n p hp, h p hp⟩⟩
namespace Dt
/-! ### dicts with tuples as keys: walked by values and by items -/
abbrev Tb := List (List Key × V)
/-- a locked dict, its entries as they are stored -/
theorem raw {X : Cx} {pins : List (Addr × Obj)} {σ : L2.St} {H : Hp} {s : Shared} {d : Addr} {o : Obj} {kvs : Tb} (I : Inv X pins σ H s) (h : H d = some (.frz o (.dT kvs))) :
    (d == sysModules) = false ∧ ∃ (es : Array DictEntry) (ep : Nat), o.data = .dict es ep ∧ es.size = kvs.length ∧ s.heap.DictRaw d es ep ∧
      ∀ (i : Nat) (hi : i < es.size), ∃ (k : List Key) (v : V) (q : Addr), kvs[i]? = some (k, v) ∧ es[i].key = .ref q ∧ H q = some (.tup (k.map kV)) ∧ RelV v es[i].val := by
  obtain ⟨stands, _, apart, cells, pairs, o2, es, ep, stands2, exact, data, list, _⟩ := I.hok d _ h
  obtain rfl : o2 = o := Option.some.inj (stands2.symm.trans stands)
  have len : es.size = cells.length := size_of_entries list
  have len2 : kvs.length = cells.length := Paired.length pairs
  refine ⟨apart, es, ep, data, by omega, ⟨_, stands, exact, data⟩, fun i hi => ?_⟩
  have more : i < kvs.length := by omega
  obtain ⟨c, at1, e1, e2, e3⟩ := L2.paired_get pairs (List.getElem?_eq_getElem more)
  have entry := entry_at list i
  rw [at1, Array.getElem?_eq_getElem hi] at entry
  have entry' : es[i] = entryOfKey (tupleKind (mixKind X.prog X.w)) c := Option.some.inj entry
  refine ⟨kvs[i].1, kvs[i].2, c.2.1, List.getElem?_eq_getElem more, by rw [entry']; rfl, e2, by rw [entry']; exact e3⟩
/-- the values, one by one -/
def Vals (d : Addr) (o : Obj) (kvs : Tb) : It :=
  ⟨fun i H => H d = some (.frz o (.dT kvs)) ∧ i < kvs.length, fun i H x H' => H' = H ∧ ∃ k, kvs[i]? = some (k, x), fun i H => H d = some (.frz o (.dT kvs)) ∧ kvs.length ≤ i⟩
/-- the pairs: the key's own tuple and the value, in a new tuple -/
def Items (d : Addr) (o : Obj) (kvs : Tb) : It :=
  ⟨fun i H => H d = some (.frz o (.dT kvs)) ∧ i < kvs.length, fun i H x H' => ∃ (T q : Addr) (k : List Key) (v : V), kvs[i]? = some (k, v) ∧ H q = some (.tup (k.map kV)) ∧ x = .ref T ∧ H T = none ∧ H' = upd H T (.tup [.ref q, v]), fun i H => H d = some (.frz o (.dT kvs)) ∧ kvs.length ≤ i⟩
section
variable {P : Program} {w : World} {K : PySem.W.Frag} {d : Addr} {o : Obj} {es : Array DictEntry} {ep : Nat} {kvs : Tb}
theorem turn_vals {tg : Expr} (it : Addr) (data : o.data = .dict es ep) : Turn P w K tg (Vals d o kvs) [it] it (fun i h => h.IsValIter it d i es.size ep) := by
  refine ⟨List.mem_singleton.mpr rfl, fun i h st b hb => ?_, fun i h h' st k => st.at fun u e => k it (List.mem_singleton.mpr rfl) u e, ?_, ?_, fun A i s Q E st h => wpAny_pyIter_valiter st h⟩
  · obtain ⟨u, e, _, fields⟩ := st
    rw [List.mem_singleton.mp hb]
    exact ⟨u, e, fun v z => by rw [fields] at z; cases z⟩
  · intro X hP hw hK calm i pins s σ H E I own st go
    subst hP hw hK
    obtain ⟨locked, more⟩ := go
    obtain ⟨g0, g1, g2, g3, g4, g5⟩ := own it (List.mem_singleton.mpr rfl)
    obtain ⟨_, es2, ep2, data2, len, stands, entries⟩ := raw I locked
    obtain ⟨rfl, rfl⟩ := dict_ep data data2
    obtain ⟨k, v, q, at1, _, _, rel⟩ := entries i (by omega)
    refine PySem.wpAny_pyNext_values_item_raw st stands (by omega) fun h' st' but => ?_
    have I' := I.turned (h' := h') (t' := s.toks) (fun b u hb e => (but.2 b hb).trans e) g0 g1 g3 g4 g5
    obtain ⟨oi, e, c, dd⟩ := id st'
    exact ⟨_, rfl, go_of (s := { s with heap := h' }) e c dd (by decide) ⟨v, H, I', rel, ⟨rfl, k, at1⟩, st', fun b hb => (own b hb).1⟩⟩
  · intro X hP hw hK calm i pins s σ H E I own st stop
    subst hP hw hK
    obtain ⟨locked, full⟩ := stop
    obtain ⟨g0, g1, g2, g3, g4, g5⟩ := own it (List.mem_singleton.mpr rfl)
    obtain ⟨_, es2, ep2, data2, len, stands, _⟩ := raw I locked
    obtain ⟨rfl, rfl⟩ := dict_ep data data2
    exact PySem.wpAny_pyNext_values_end_raw (I.ok.hd calm) st stands (by omega) fun h' but => ⟨rfl, I.turned (t' := s.toks) (fun b u hb e => but b u hb e) g0 g1 g3 g4 g5⟩
theorem turn_items {elts : List Expr} {kk : Nat} {tpos : Pos} (it : Addr) (data : o.data = .dict es ep) : Turn P w K (.Tuple elts kk tpos) (Items d o kvs) [it] it (fun i h => ∃ x y, IsItemIter h it d i es.size ep x y) := by
  refine ⟨List.mem_singleton.mpr rfl, fun i h st b hb => ?_, fun i h h' st k => ?_, ?_, ?_, fun A i s Q E st h => ?_⟩
  · obtain ⟨x, y, e⟩ := st
    rw [List.mem_singleton.mp hb]
    exact ⟨_, e, fun v z => nomatch z⟩
  · obtain ⟨x, y, e⟩ := st
    exact ⟨x, y, k it (List.mem_singleton.mpr rfl) _ e⟩
  · intro X hP hw hK calm i pins s σ H E I own st go
    subst hP hw hK
    obtain ⟨locked, more⟩ := go
    obtain ⟨_, es2, ep2, data2, len, stands, entries⟩ := raw I locked
    obtain ⟨rfl, rfl⟩ := dict_ep data data2
    obtain ⟨k, v, q, at1, key, tup, rel⟩ := entries i (by omega)
    obtain ⟨x, y, here⟩ := st
    have young : it < s.heap.objs.size := Heap.lt_size here
    refine PySem.wpAny_pyNext_items_item_raw here stands (by omega) fun h' out pair _ kept => ⟨_, rfl, ?_⟩
    refine wpAny_letOwnedTupleGo_items (s := { s with heap := h' }) out fun h2 back but => ?_
    have pair2 := (but.2 _ (Nat.ne_of_gt young)).trans pair
    have laid : ObjOk X.prog X.w (upd H s.heap.objs.size (.tup [.ref q, v])) h2 s.heap.objs.size (.tup [.ref q, v]) := by
      refine ⟨show 2 ≤ sizeLine by decide, [(es2[i]'(by omega)).key, (es2[i]'(by omega)).val], .cons ?_ (.cons rel .nil), _, pair2, rfl, _, rfl⟩
      rw [key]; rfl
    have I' := I.turnedNew (t' := s.toks) (ch := [it]) (fun b u hb e => (but.2 b (by simpa using hb)).trans (kept b u (by simpa using hb) e)) own (Nat.le_refl _) laid
    refine ⟨.ref s.heap.objs.size, _, I', rfl, ⟨_, q, k, v, at1, tup, rfl, I.hok.fresh (Nat.le_refl _), rfl⟩, ⟨_, _, back⟩, fun b hb => ?_⟩
    rw [List.mem_singleton.mp hb, upd_ne (Nat.ne_of_lt young)]
    exact (own it (List.mem_singleton.mpr rfl)).1
  · intro X hP hw hK calm i pins s σ H E I own st stop
    subst hP hw hK
    obtain ⟨locked, full⟩ := stop
    obtain ⟨g0, g1, g2, g3, g4, g5⟩ := own it (List.mem_singleton.mpr rfl)
    obtain ⟨_, es2, ep2, data2, len, stands, _⟩ := raw I locked
    obtain ⟨rfl, rfl⟩ := dict_ep data data2
    obtain ⟨x, y, here⟩ := st
    exact PySem.wpAny_pyNext_items_end_raw (I.ok.hd calm) here stands (by omega) fun h' but => ⟨rfl, I.turned (t' := s.toks) (fun b u hb e => but b u hb e) g0 g1 g3 g4 g5⟩
  · obtain ⟨x, y, e⟩ := st
    exact PySem.W.kcp_self e h
end
/-! ### d.values() and d.items() of a locked dict, in a loop's head -/
def iValsT (td : TE) : TI := fun σ H R => td σ H fun x H1 => ∃ d o kvs, x = .ref d ∧ H1 d = some (.frz o (.dT kvs)) ∧ R (Vals d o kvs) H1
def iItemsT (td : TE) : TI := fun σ H R => td σ H fun x H1 => ∃ d o kvs, x = .ref d ∧ H1 d = some (.frz o (.dT kvs)) ∧ R (Items d o kvs) H1
section
variable {X : Cx} {tg e : Expr} {td : TE} {apos cpos : Pos}
theorem noDict {s : Shared} {d : Addr} {es : Array DictEntry} {ep : Nat} (h : s.heap.DictRaw d es ep) : ∀ b, Value.ref d = .ref b → ∃ ob, s.heap.get? b = some ob ∧ ob.dict = none := fun b e => by
  obtain ⟨u, hu, exact, _⟩ := h
  cases e
  exact ⟨u, hu, exact.2.1⟩
theorem pi_valuesT (he : PE X e td) (hbase : attributeBase e "values" X.env (eval e X.env) = eval e X.env := by rfl) (hline : (apos.endLine == cpos.line) = true := by rfl) : PI X tg (.Call (.Attribute e "values" apos) [] [] cpos) (iValsT td) := by
  refine ⟨fun pins s σ H R I h => wpAny_Call_method (T := "dict") (id := "dict.values") hbase rfl hline F.plainAttrs_dict F.slot_dict_values F.type_dict_values (thn (he.run pins s σ H _ I h) fun u s1 h1 => ?_)⟩
  obtain ⟨_, H1, I1, rx, d, o, kvs, rfl, locked, q⟩ := h1
  obtain rfl : u = Value.ref d := rx
  obtain ⟨apart, es, ep, data, len, stands, _⟩ := raw I1 locked
  refine ⟨stands.typeIs, noDict stands, ?_⟩
  have over : ∀ b ob, s1.heap.get? b = some ob → (s1.heap.push { cls := .type "dict_values", data := .fields #[.ref d] }).get? b = some ob := fun b ob e => Heap.get?_push_of_some _ e
  have I2 := I1.kept (t' := s1.toks) over
  have fin : wpAny (model X.prog X.w) X.A (pyIter (.ref s1.heap.objs.size)) (PIE X pins σ tg R) X.xe { s1 with heap := s1.heap.push { cls := .type "dict_values", data := .fields #[.ref d] } } :=
    PySem.wpAny_pyIter_values_raw (d := d) ⟨_, Heap.get?_push_size _ rfl, rfl, rfl⟩ (stands.at fun ob e => over d ob e) (pi_one (tk := s1.toks) I2 _ (turn_vals _ data) ⟨_, Heap.get?_push_size _ rfl, rfl, rfl⟩ q)
  show wpAny _ _ (callWith cpos (.builtin "dict.values") [.ref d] [] []) _ X.xe s1
  exact method_meetsIn F.slot_dict_values F.entry_dict_values rfl (PySem.evalArgs_none ⟨rfl, stands.typeIs, F.args_dict_values_1 _, _, PySem.meets_dict_values_raw d apart, ⟨_, _, stands⟩, fin⟩)
theorem pi_itemsT {elts : List Expr} {kk : Nat} {tpos : Pos} (he : PE X e td) (hbase : attributeBase e "items" X.env (eval e X.env) = eval e X.env := by rfl) (hline : (apos.endLine == cpos.line) = true := by rfl) : PI X (.Tuple elts kk tpos) (.Call (.Attribute e "items" apos) [] [] cpos) (iItemsT td) := by
  refine ⟨fun pins s σ H R I h => wpAny_Call_method (T := "dict") (id := "dict.items") hbase rfl hline F.plainAttrs_dict F.slot_dict_items F.type_dict_items (thn (he.run pins s σ H _ I h) fun u s1 h1 => ?_)⟩
  obtain ⟨_, H1, I1, rx, d, o, kvs, rfl, locked, q⟩ := h1
  obtain rfl : u = Value.ref d := rx
  obtain ⟨apart, es, ep, data, len, stands, _⟩ := raw I1 locked
  refine ⟨stands.typeIs, noDict stands, ?_⟩
  have over : ∀ b ob, s1.heap.get? b = some ob → (s1.heap.push { cls := .type "dict_items", data := .fields #[.ref d] }).get? b = some ob := fun b ob e => Heap.get?_push_of_some _ e
  have I2 := I1.kept (t' := s1.toks) over
  have fin : wpAny (model X.prog X.w) X.A (pyIter (.ref s1.heap.objs.size)) (PIE X pins σ (.Tuple elts kk tpos) R) X.xe { s1 with heap := s1.heap.push { cls := .type "dict_items", data := .fields #[.ref d] } } :=
    PySem.wpAny_pyIter_items_raw (d := d) ⟨_, Heap.get?_push_size _ rfl, rfl, rfl⟩ (stands.at fun ob e => over d ob e) (pi_one (tk := s1.toks) I2 _ (turn_items _ data) ⟨.none, .none, Heap.get?_push_size _ rfl⟩ q)
  show wpAny _ _ (callWith cpos (.builtin "dict.items") [.ref d] [] []) _ X.xe s1
  exact method_meetsIn F.slot_dict_items F.entry_dict_items rfl (PySem.evalArgs_none ⟨rfl, stands.typeIs, F.args_dict_items_1 _, _, PySem.meets_dict_items_raw d apart, ⟨_, _, stands⟩, fin⟩)
end
/-! ### a dict comprehension whose keys are tuples -/
/-- D[q] = v by a comprehension, q a tuple -/
theorem dictSetT {X : Cx} {pins : List (Addr × Obj)} {σ : L2.St} {H : Hp} {s : Shared} {E : Value → Shared → Prop} {D q : Addr} {kvs : Tb} {k : List Key} {v : V} {r : Value} {Q : Unit → Shared → Prop} (hu : X.A.units < cLine) (I : Inv X pins σ H s) (at1 : H D = some (.dT kvs)) (few : kvs.length < sizeLine)
    (tup : H q = some (.tup (k.map kV))) (rv : RelV v r) (then1 : ∀ s', Inv X pins σ (upd H D (.dT (putK kvs k v))) s' → Q () s') : wpAny (model X.prog X.w) X.A (dictSet D (.ref q) r) Q E s := by
  obtain ⟨small, apart, cells, pairs, held⟩ := dt_of I.hok at1
  have small2 : cells.length ≤ sizeLine := by rw [← Paired.length pairs]; exact small
  have small3 : (putK kvs k v).length ≤ sizeLine := by have := length_putK kvs k v; omega
  refine wpAny_dictSet_heap (hsz := small2) (show X.A.units < cLine from hu) (key_of I.hok tup) held fun h' held' but => then1 _ ?_
  obtain ⟨u, es, ep, stands, a1, a2, a3, _, a4⟩ := held'
  have pairs' : Paired (fun (p : List Key × V) (c : List Key × Addr × Value) => p.1 = c.1 ∧ (upd H D (.dT (putK kvs k v))) c.2.1 = some (.tup (p.1.map kV)) ∧ RelV p.2 c.2.2) (putK kvs k v) (storedH cells k q r) :=
    KT.keeps (KT.put pairs k tup rv) fun c ys ec => by rw [upd_ne (ne_of ec at1 (fun z => nomatch z))]; exact ec
  exact d_write I (by rw [at1]; exact True.intro) but ⟨u, stands⟩ ⟨small3, apart, _, pairs', u, es, ep, stands, a1, a2, a3, a4⟩
section
variable {X : Cx}
/-- {k: v for target in iter if ..}, the keys tuples: D the new dict -/
def tDcT (wi : TI) (g : TG) (tt : TT) (tk tv : TE) (vs : List Nat) : TE := fun σ H Q => wi σ H fun J H1 => ∀ D, H1 D = none → ∃ W : Nat → Nat → Hp → Prop, (∃ m, W 0 m (upd H1 D (.dT []))) ∧ ∀ i m H, W i m H →
  (J.stop i H ∧ Q (.ref D) H) ∨ (J.go i H ∧ ∃ Nx : Hp → Prop, (∀ H', Nx H' → ∃ m', m' < m ∧ W (i + 1) m' H') ∧ ∀ x H', J.yld i H x H' → g x (wipe σ vs) H' fun σ2 H2 => wipe σ2 vs = wipe σ vs ∧ tt σ2 H2 fun b H3 =>
    if b = true then tk σ2 H3 fun y H4 => tv σ2 H4 fun z H5 => ∃ (kvs : Tb) (k : List Key) (q : Addr), y = .ref q ∧ H5 q = some (.tup (k.map kV)) ∧ H5 D = some (.dT kvs) ∧ kvs.length < sizeLine ∧ Nx (upd H5 D (.dT (putK kvs k z))) else Nx H3)
theorem pe_dcT {kx vx tg iter : Expr} {ifs : List Expr} {scope : Scope} {own : List (Str × Nat)} {pos : Pos} {wi : TI} {g : TG} {tt : TT} {tk tv : TE} (small : X.A.units < cLine) (calm : X.calm = true) (nodup : X.N.Nodup) (hi : PI X tg iter wi) (ok : BlkOk X.N X.env.scope scope own)
    (hg : ∀ (s : Shared) (H : Hp) (C : Addr) (cl : List (Str × Addr)) (fp : List Addr), PG (X.blk s H scope (compEnvC scope cl C X.env) fp) tg g) (ht : ∀ (s : Shared) (H : Hp) (C : Addr) (cl : List (Str × Addr)) (fp : List Addr), PTs (X.blk s H scope (compEnvC scope cl C X.env) fp) ifs tt)
    (hk : ∀ (s : Shared) (H : Hp) (C : Addr) (cl : List (Str × Addr)) (fp : List Addr), PE (X.blk s H scope (compEnvC scope cl C X.env) fp) kx tk) (he : ∀ (s : Shared) (H : Hp) (C : Addr) (cl : List (Str × Addr)) (fp : List Addr), PE (X.blk s H scope (compEnvC scope cl C X.env) fp) vx tv)
    (unfolded : ∀ x, foldedSetIterable iter X.env x = pure x := by intro _; rfl) : PE X (.DictComp kx vx [⟨tg, iter, ifs, 0⟩] scope pos) (tDcT wi g tt tk tv (own.map (·.2))) := by
  refine ⟨fun pins s0 σ H0 Q I0 wish => ?_⟩
  rw [arm_eval_DictComp]
  have bound : ∀ y ∈ scope.names, y.2 = .free → ∃ c, X.env.cells.lookup y.1 = some c := fun y hy e => (ok.free y hy e).elim (fun k => I0.ok.has _ (.inl k)) fun k => I0.ok.has _ (.inr k)
  refine wpAny_comprehension_free (use := none) rfl unfolded (closure_ok bound) ok.kind (fun y hy e => by rw [ok.uniq y hy, e]) (thn (hi.run pins s0 σ H0 _ I0 wish) fun xv sA walked => thn walked fun itv sB arrived => ?_)
  obtain ⟨it, fp, tn, J, HB, rfl, IB, T, stB, fpB, made⟩ := arrived
  refine wpAny_newObj_type (newEnv_comp ?_)
  -- the new dict
  obtain ⟨D, hD⟩ : ∃ D, sB.heap.objs.size = D := ⟨_, rfl⟩
  have free : HB D = none := IB.hok.fresh (Nat.le_of_eq hD)
  obtain ⟨W, ⟨m0, w0⟩, turn⟩ := made D free
  let sC : Shared := { sB with heap := sB.heap.push { cls := .type "dict", data := .dict #[] } }
  have over : ∀ b u, sB.heap.get? b = some u → sC.heap.get? b = some u := fun b u e => Heap.get?_push_of_some _ e
  have IC : Inv X pins σ (upd HB D (.dT [])) sC := IB.laid (t' := sB.toks) over (Nat.le_of_eq hD) (by rw [← hD]; exact dt_empty sB.heap IB.big)
  have fpC : ∀ b ∈ fp, FpOk X pins (upd HB D (.dT [])) b ∧ b < sC.heap.objs.size := fun b hb => by
    obtain ⟨u, e, _⟩ := T.obj _ _ stB b hb
    have lt := Heap.lt_size e
    refine ⟨⟨?_, (fpB b hb).2⟩, by show b < (sB.heap.push _).objs.size; rw [Heap.size_push]; exact Nat.lt_succ_of_lt lt⟩
    rw [upd_ne (by rw [← hD]; exact Nat.ne_of_lt lt)]
    exact (fpB b hb).1
  -- the block of names
  have ID := block_start IC ok nodup fpC
  let cells := cellsFrom (sC.heap.objs.size + 1) scope.names (cloFrom X.env.cells scope.names [])
  have pg := hg sC (upd HB D (.dT [])) sC.heap.objs.size cells fp
  have pt := ht sC (upd HB D (.dT [])) sC.heap.objs.size cells fp
  have pk := hk sC (upd HB D (.dT [])) sC.heap.objs.size cells fp
  have pv := he sC (upd HB D (.dT [])) sC.heap.objs.size cells fp
  let env2 := compEnvC scope cells sC.heap.objs.size X.env
  let X2 := X.blk sC (upd HB D (.dT [])) scope env2 fp
  let sD : Shared := { sC with heap := pushCells (sC.heap.push { cls := .type "dict", data := .dict #[] }) scope.names }
  have stD : tn 0 sD.heap := T.keep _ _ _ (T.keep _ _ _ stB fun b _ u e => over b u e) fun b _ u e => pushCells_keeps _ _ _ _ (Heap.get?_push_of_some _ e)
  have stays : ∀ {σ' : L2.St} {H' : Hp} {s' : Shared}, Inv X2 [] σ' H' s' → (∀ b ∈ fp, H' b = none) → ∀ b ∈ fp, FpOk X2 [] H' b := fun {σ' H' s'} I' none' b hb =>
    ⟨none' b hb, (I'.ok.exf b hb).1, I'.ok.exfs b hb, .inl hb, fun x c e => (I'.ok.exf b hb).2 x c e, fun p hp => absurd (show p ∈ ([] : List (Addr × Obj)) ++ [] from hp) (by simp)⟩
  let Q0 : Value → Shared → Prop := fun v s' => ∃ x H', Inv X pins σ H' s' ∧ RelV x v ∧ Q x H'
  have loop : codeAny (model X.prog X.w) X.A (.compLoop (.DictComp kx vx [⟨tg, iter, ifs, 0⟩] scope pos) 0 (.ref it) (.ref D) env2) (compPost (model X.prog X.w) X.A X.xe none Q0 (.ref D) sC.heap.objs.size) sD := by
    refine compLoop_anyD (fun m s' => ∃ i H', Inv X2 [] (wipe σ (own.map (·.2))) H' s' ∧ tn i s'.heap ∧ (∀ b ∈ fp, H' b = none) ∧ W i m H') ?_ m0 ⟨0, _, ID, stD, fun b hb => (fpC b hb).1.1, w0⟩
    rintro m s1 ⟨i, H1, I1, st1, none1, w1⟩
    rcases turn i m H1 w1 with ⟨stop, last⟩ | ⟨go, Nx, less, step⟩
    · refine thnF (T.done X2 rfl rfl rfl calm i [] s1 _ H1 (fun _ _ => False) I1 (stays I1 none1) st1 stop) fun r s2 ⟨hr, I2⟩ => ?_
      subst hr
      have back : Inv X pins σ H1 s2 := IC.call' (ch := fp) I2.os I2.base I2.hok I2.bare fun b hb => ⟨(fpC b hb).1.2.2.2.1, (fpC b hb).1.2.1, (fpC b hb).1.2.2.2.2.1, (fpC b hb).1.2.2.2.2.2⟩
      have freeC : H1 sC.heap.objs.size = none := I2.free
      obtain ⟨names, held, _⟩ := I2.loc
      refine ⟨names, held, fun h2 but => ?_⟩
      obtain ⟨f0, f1, f2, f3, f4, f5⟩ := IC.fpOk (Nat.le_refl _) freeC
      exact ⟨.ref D, H1, back.turned (t' := s2.toks) (fun b u hb e => (but.2 b hb).trans e) f0 f1 f3 f4 f5, rfl, last⟩
    · refine thnF (T.item X2 rfl rfl rfl calm i [] s1 _ H1 (fun _ _ => False) I1 (stays I1 none1) st1 go) fun r s2 ⟨u, hr, taken⟩ => ?_
      subst hr
      refine thnF taken fun _ s3 ⟨x, H3, I3, r3, y3, st3, none3⟩ => ?_
      refine thnF (pg.run _ s3 _ H3 x u _ (I3.pinned (stays I3 none3) (T.obj _ _ st3)) r3 (step x H3 y3)) fun _ s4 ⟨σ4, H4, I4, wiped, q4⟩ => ?_
      refine thnF (pt.run _ s4 σ4 H4 _ I4 q4) fun b s5 ⟨H5, I5, q5⟩ => ?_
      have turned : ∀ {s' : Shared} {H' : Hp}, Inv X2 ([] ++ pinsAt fp s3.heap) σ4 H' s' → Nx H' → ∃ m', m' < m ∧ ∃ i H', Inv X2 [] (wipe σ (own.map (·.2))) H' s' ∧ tn i s'.heap ∧ (∀ b ∈ fp, H' b = none) ∧ W i m' H' := fun {s' H'} I' nx => by
        obtain ⟨m', lt, w'⟩ := less H' nx
        have pin : ∀ b ∈ fp, ∀ u, s3.heap.get? b = some u → s'.heap.get? b = some u ∧ H' b = none := fun b hb u e =>
          have z := I'.pin (b, u) (List.mem_append_right _ (List.mem_append_right _ (mem_pinsAt hb e)))
          ⟨z.1, z.2.1⟩
        have same : (wipe σ (own.map (·.2))).length = σ4.length := by rw [← wiped, wipe_length]
        refine ⟨m', lt, i + 1, H', (I'.unpinned (pins := [])).weak same (fun j v e => ?_), T.keep _ _ _ st3 fun b hb u e => (pin b hb u e).1, fun b hb => ?_, w'⟩
        · rw [← wiped] at e; exact (wipe_some e).1
        · obtain ⟨u, e, _⟩ := T.obj _ _ st3 b hb
          exact (pin b hb u e).2
      cases b with
      | false => exact turned I5 q5
      | true =>
        refine thnF (pk.run _ s5 σ4 H5 _ I5 q5) fun kv s6 ⟨yk, H6, I6, r6, q6⟩ => ?_
        refine thnF (pv.run _ s6 σ4 H6 _ I6 q6) fun vv s7 ⟨yv, H7, I7, r7, kvs, k, q, ek, tup, at7, few, nx⟩ => ?_
        subst ek
        cases (show kv = Value.ref q from r6)
        exact dictSetT (X := X2) small I7 at7 few tup r7 fun s8 I8 => turned I8 nx
  subst hD
  show codeAny (model X.prog X.w) X.A (.compStart (.DictComp kx vx [⟨tg, iter, ifs, 0⟩] scope pos) 0 (.ref it) (.ref sB.heap.objs.size) env2) (compPost (model X.prog X.w) X.A X.xe none Q0 (.ref sB.heap.objs.size) sC.heap.objs.size) sD
  exact codeAny_compStart_dict loop (T.self X.A 0 _ _ _ stD loop)
end
/-! ### d.setdefault(q, v), the keys tuples -/
def tSetdT (td ty tx : TE) : TE := fun σ H Q => td σ H fun x H1 => ∃ a, x = .ref a ∧ IsD H1 a ∧ ty σ H1 fun y H2 => tx σ H2 fun z H3 => ∃ (kvs : Tb) (k : List Key) (q : Addr), H3 a = some (.dT kvs) ∧ y = .ref q ∧ H3 q = some (.tup (k.map kV)) ∧ kvs.length < sizeLine ∧
  (∀ v, valV kvs k = some v → Q v H3) ∧ (valV kvs k = none → Q z (upd H3 a (.dT (putK kvs k z))))
theorem setdefaultT {X : Cx} {pins : List (Addr × Obj)} {σ : L2.St} {H : Hp} {s : Shared} {a q : Addr} {r : Value} {v : V} {k : List Key} {kvs : Tb} {E Q : Value → Shared → Prop} (small : X.A.units + 1 < cLine) (I : Inv X pins σ H s) (at1 : H a = some (.dT kvs)) (tup : H q = some (.tup (k.map kV))) (rv : RelV v r) (few : kvs.length < sizeLine)
    (there : ∀ w, valV kvs k = some w → ∀ (u : Value) (s' : Shared), Inv X pins σ H s' → RelV w u → Q u s') (new : valV kvs k = none → ∀ (u : Value) (s' : Shared), Inv X pins σ (upd H a (.dT (putK kvs k v))) s' → RelV v u → Q u s') :
    wpAny (model X.prog X.w) X.A (call (.builtin "dict.setdefault") [.ref a, .ref q, r]) Q E s := by
  obtain ⟨fits, apart, cells, pairs, held⟩ := dt_of I.hok at1
  have look := pairs.val k
  refine PySem.call_setdefault_heap (hsz := by rw [← Paired.length pairs]; exact fits) (show X.A.in1.units < cLine from small) (key_of I.hok tup) apart held (fun p hp => ?_) fun hn h' held' but => ?_
  · rw [hp] at look
    cases e : valV kvs k with
    | none => rw [e] at look; exact (show False from look).elim
    | some w => rw [e] at look; exact there w e _ _ (I.tok _) look
  · rw [hn] at look
    cases e : valV kvs k with
    | some w => rw [e] at look; exact (show False from look).elim
    | none =>
      obtain ⟨u, es, ep, stands, a1, a2, a3, _, a4⟩ := held'
      have fits2 : (putK kvs k v).length ≤ sizeLine := by have := length_putK kvs k v; omega
      have pairs' : Paired (fun (p : List Key × V) (c : List Key × Addr × Value) => p.1 = c.1 ∧ (upd H a (.dT (putK kvs k v))) c.2.1 = some (.tup (p.1.map kV)) ∧ RelV p.2 c.2.2) (putK kvs k v) (storedH cells k q r) :=
        KT.keeps (KT.put pairs k tup rv) fun c ys ec => by rw [upd_ne (ne_of ec at1 (fun z => nomatch z))]; exact ec
      exact new e _ _ (d_write I (by rw [at1]; exact True.intro) but ⟨u, stands⟩ ⟨fits2, apart, _, pairs', u, es, ep, stands, a1, a2, a3, a4⟩) rv
theorem pe_setdT {X : Cx} {o e f : Expr} {td ty tx : TE} {apos cpos : Pos} (small : X.A.units + 1 < cLine) (ho : PE X o td) (he : PE X e ty) (hf : PE X f tx) (m : M2 X o "setdefault" apos e f cpos) : PE X (.Call (.Attribute o "setdefault" apos) [e, f] [] cpos) (tSetdT td ty tx) := by
  refine ⟨fun pins s σ H Q I h => wpAny_Call_method m.base m.few m.line PySem.F.plainAttrs_dict PySem.F.slot_dict_setdefault PySem.F.type_dict_setdefault (thn (ho.run pins s σ H _ I h) fun u s1 got => ?_)⟩
  obtain ⟨_, H1, I1, rx, a, rfl, isd, q1⟩ := got
  obtain rfl : u = Value.ref a := rx
  refine ⟨(isD_at I1 isd).1, (isD_at I1 isd).2.1, ?_⟩
  rw [m.trees]
  refine Calls.callWith_builtin rfl (Calls.evalArgs_plain (Calls.spliced_cons (thn (he.run pins s1 σ H1 _ I1 q1) fun key s2 ⟨y, H2, I2, ry, q2⟩ => Calls.spliced_cons (thn (hf.run pins s2 σ H2 _ I2 q2) fun dflt s3 last => Calls.spliced_nil ?_))))
  obtain ⟨z, H3, I3, rz, kvs, k, q, at3, rfl, tup, few, old, new⟩ := last
  cases (show key = Value.ref q from ry)
  exact setdefaultT small I3 at3 tup rz few (fun w hw u s4 I4 ru => ⟨w, _, I4, ru, old w hw⟩) fun hn u s4 I4 ru => ⟨z, _, I4, ru, new hn⟩
/-! ### small rules -/
theorem inD_of {k : Nat} {A : Around} (r : Room k A) : A.units + 65 < cLine := by have := r.un; omega
theorem pa_starK {X : Cx} {K : PySem.W.Frag} {e : Expr} {es : List Expr} {te : TE} {t : TA} {p : Pos} (hK : X.K = K) (he : PE X e te) (hr : PA X es t) (hs : starEach (.Starred e p :: es) X.env = (true, eval e X.env) :: starEach es X.env := by rfl) : PA X (.Starred e p :: es) (tStar K te t) := by
  subst hK; exact pa_star he hr hs
/-- o.m(e, ..) in a try: what is raised is wished for at the caller's slots -/
def tMethSD (C : Addr) (m : Str) (sp : Sp) (dvs : List V) (E : L2.St → XK) (ta : TE) (t : TA) : TE := fun σ H Q => ta σ H fun x H1 => ∃ a dx fs, x = .ref a ∧ H1 a = some (.ins C dx fs) ∧ fs.lookup m = none ∧ t σ H1 fun vs H2 => sp (x :: vs ++ dvs) H2 Q (E σ)
theorem pe_methSD {X : Cx} {CX : CXT} {C f : Addr} {fd : FuncData} {k : Nat} {sp : Sp} {ps : List Str} {ds : List Value} {dvs : List V} {E : L2.St → XK} {m : Str} {o e : Expr} {es : List Expr} {ta : TE} {t : TA} {pos apos : Pos} {pl : Sem Bool} (he : PE X o ta) (c : Cls X.K C) (hm : Meth X.K C m f) (F : FnOk X.prog X.w X.K X.mg X.base CX k f fd ps sp) (hr : Room k X.A)
    (hb : Binds X.K fd ps ds) (hd : L2.Vals dvs ds) (hx : ∀ σ, PassesAt CX X σ (E σ)) (ha : PA X (e :: es) t) (hst : starEach (e :: es) X.env = (false, eval e X.env) :: starEach es X.env := by rfl) (hpl : (backTo pos (starEach es X.env)).any (·.1) = false := by rfl)
    (ht : eval (.Call (.Attribute o m apos) (e :: es) [] pos) X.env = (do
      let ov ← eval o X.env
      standAt apos.atName
      let (g, first) ← holding [ov] (getMethod ov m pl)
      callWith pos g first (backTo pos (starEach (e :: es) X.env)) (backToKw pos (keywordEach [] X.env))) := by rfl) :
    PE X (.Call (.Attribute o m apos) (e :: es) [] pos) (tMethSD C m sp dvs E ta t) := by
  refine ⟨fun pins s σ H Q I h => PySem.W.methodCall_KW (pl := pl) (thn (he.run pins s σ H _ I h) fun u s1 got => ?_) ht⟩
  obtain ⟨_, H1, I1, rx, a, dx, fs, rfl, ea, l, q⟩ := got
  obtain rfl : u = Value.ref a := rx
  refine getmeth_ok I1 ea c hm l (PySem.W.callWith_K (first := [.ref a]) (h₀ := X.base) I.ok.mod.kin hm.kp (thn (ha.run pos pins s1 σ H1 _ I1 q) fun us s2 got2 => ?_) hst hpl)
  obtain ⟨vs, H2, I2, r, q2⟩ := got2
  exact ⟨I2.kIn, run_fnSD (us := .ref a :: us) (vs := .ref a :: vs) F hr hb hd (hx σ) I2 (.cons rfl r) q2⟩
end Dt
/-- a tuple of the written part -/
def SqTK (K : PySem.W.Frag) (a : Addr) (xs : List V) : Prop := ∃ (o : Obj) (its : Array Value) (n : Nat), K.lookup a = some o ∧ o.cls = .type "tuple" ∧ o.data = .seq its n ∧ its.size ≤ sizeLine ∧ L2.Vals xs its.toList
theorem SqTK.at {K : PySem.W.Frag} {a : Addr} {xs : List V} {H : Hp} (h : SqTK K a xs) : SqT K H a xs := .inr h
/-! ### loops over dicts with tuples as keys, and their copies -/
theorem Dt.pe_fldK {X : Cx} {K : PySem.W.Frag} {e : Expr} {f : Str} {ta : TE} {pos : Pos} (hK : X.K = K) (he : PE X e ta) (hb : attributeBase e f X.env (eval e X.env) = eval e X.env) : PE X (.Attribute e f pos) (tFld K ta f) := by subst hK; exact pe_fld he hb
section
variable {d : Addr} {o : Obj} {kvs : Dt.Tb}
theorem walk_valsT : Walk (Dt.Vals d o kvs) kvs.length (fun H => H d = some (.frz o (.dT kvs))) (fun i H x H' => H' = H ∧ ∃ k, kvs[i]? = some (k, x)) :=
  ⟨fun _ _ more q => ⟨q, more⟩, fun _ q => ⟨q, Nat.le_refl _⟩, fun _ _ _ _ _ _ y => y⟩
theorem walk_itemsT : Walk (Dt.Items d o kvs) kvs.length (fun H => H d = some (.frz o (.dT kvs)))
    (fun i H x H' => ∃ (T q : Addr) (k : List Key) (v : V), kvs[i]? = some (k, v) ∧ H q = some (.tup (k.map kV)) ∧ x = .ref T ∧ H T = none ∧ H' = upd H T (.tup [.ref q, v])) :=
  ⟨fun _ _ more q => ⟨q, more⟩, fun _ q => ⟨q, Nat.le_refl _⟩, fun _ _ _ _ _ _ y => y⟩
end
theorem upd_back {H : Hp} {d : Addr} {o f : HO} (h : H d = some o) : upd (upd H d f) d o = H := by
  funext b
  by_cases c : b = d
  · subst c; rw [upd_same, h]
  · rw [upd_ne c, upd_ne c]
section
variable {K : PySem.W.Frag} {σ : L2.St} {H : Hp} {Q : VK} {te tk tv td : TE} {tt : TT} {G : TG} {vs : List Nat} {ts : TS} {D : L2.Ends} {d : Addr} {kvs : Dt.Tb}
/-- for k in d -/
theorem forKT_go (hd : H d = some (.dT kvs)) (up : ∀ od (Q' : VK), Q' (.ref d) (upd H d (.frz od (.dT kvs))) → td σ (upd H d (.frz od (.dT kvs))) Q') (Pv : Obj → Nat → L2.St → Hp → Prop) (h0 : ∀ od, Pv od 0 σ (upd H d (.frz od (.dT kvs)))) (hG : ∀ od i σ' H', Pv od i σ' H' → H' d = some (.frz od (.dT kvs)))
    (hs : ∀ od (i : Nat) k v q σ' H', kvs[i]? = some (k, v) → H' q = some (.tup (k.map kV)) → Pv od i σ' H' → G (.ref q) σ' H' fun σ2 H2 => ts ⟨Pv od (i + 1), fun v H' => H' d = some (.frz od (.dT kvs)) ∧ D.rt v (upd H' d (.dT kvs)), fun σ' H' => H' d = some (.frz od (.dT kvs)) ∧ D.nx σ' (upd H' d (.dT kvs)), Pv od (i + 1)⟩ σ2 H2)
    (he : ∀ od σ' H', Pv od kvs.length σ' H' → D.nx σ' (upd H' d (.dT kvs))) : tLock (tFor (iKeys td) G ts) D σ H := by
  refine ⟨d, .dT kvs, hd, trivial, fun od => up od _ ⟨d, od, rfl, .inr ⟨kvs, upd_same, ?_⟩⟩⟩
  refine for_it walk_keysT (fun i σ' H' => Pv od i σ' H') (h0 od) (fun i σ' H' _ p => hG od i σ' H' p) ?_ fun σ' H' p => ⟨hG _ _ _ _ p, he od σ' H' p⟩
  rintro i x σ' H1 H' hi p ⟨rfl, k, v, q, at1, rfl, tup⟩
  exact hs od i k v q σ' H' at1 tup p
/-- for v in d.values() -/
theorem forVT_go (hd : H d = some (.dT kvs)) (up : ∀ od (Q' : VK), Q' (.ref d) (upd H d (.frz od (.dT kvs))) → td σ (upd H d (.frz od (.dT kvs))) Q') (Pv : Obj → Nat → L2.St → Hp → Prop) (h0 : ∀ od, Pv od 0 σ (upd H d (.frz od (.dT kvs)))) (hG : ∀ od i σ' H', Pv od i σ' H' → H' d = some (.frz od (.dT kvs)))
    (hs : ∀ od (i : Nat) k v σ' H', kvs[i]? = some (k, v) → Pv od i σ' H' → G v σ' H' fun σ2 H2 => ts ⟨Pv od (i + 1), fun v H' => H' d = some (.frz od (.dT kvs)) ∧ D.rt v (upd H' d (.dT kvs)), fun σ' H' => H' d = some (.frz od (.dT kvs)) ∧ D.nx σ' (upd H' d (.dT kvs)), Pv od (i + 1)⟩ σ2 H2)
    (he : ∀ od σ' H', Pv od kvs.length σ' H' → D.nx σ' (upd H' d (.dT kvs))) : tLock (tFor (Dt.iValsT td) G ts) D σ H := by
  refine ⟨d, .dT kvs, hd, trivial, fun od => up od _ ⟨d, od, kvs, rfl, upd_same, ?_⟩⟩
  refine for_it walk_valsT (fun i σ' H' => Pv od i σ' H') (h0 od) (fun i σ' H' _ p => hG od i σ' H' p) ?_ fun σ' H' p => ⟨hG _ _ _ _ p, he od σ' H' p⟩
  rintro i x σ' H1 H' hi p ⟨rfl, k, at1⟩
  exact hs od i k x σ' H' at1 p
/-- [.. for k in d if ..], d locked -/
theorem lcKT_go {od : Obj} (hd : H d = some (.frz od (.dT kvs))) (up : ∀ (Q' : VK), Q' (.ref d) H → td σ H Q') (Pv : Addr → Nat → List V → Hp → Prop) (h0 : ∀ D, H D = none → Pv D 0 [] (upd H D (.lst []))) (hG : ∀ D i acc H', H D = none → Pv D i acc H' → H' d = some (.frz od (.dT kvs)))
    (hs : ∀ D (i : Nat) k v q acc H', kvs[i]? = some (k, v) → H' q = some (.tup (k.map kV)) → H D = none → H' D = some (.lst acc) → Pv D i acc H' → G (.ref q) (wipe σ vs) H' fun σ2 H2 => wipe σ2 vs = wipe σ vs ∧ tt σ2 H2 fun b H3 =>
      if b = true then te σ2 H3 fun y H4 => ∃ acc, H4 D = some (.lst acc) ∧ acc.length < sizeLine ∧ (∃ ac, (upd H4 D (.lst (acc ++ [y]))) D = some (.lst ac) ∧ Pv D (i + 1) ac (upd H4 D (.lst (acc ++ [y])))) else ∃ ac, H3 D = some (.lst ac) ∧ Pv D (i + 1) ac H3)
    (he : ∀ D acc H', H D = none → H' D = some (.lst acc) → Pv D kvs.length acc H' → Q (.ref D) H') : tLc (iKeys td) G tt te vs σ H Q := by
  refine up _ ⟨d, od, rfl, .inr ⟨kvs, hd, fun D hD => ?_⟩⟩
  refine lc_it walk_keysT (fun i H' => ∃ acc, H' D = some (.lst acc) ∧ Pv D i acc H') ⟨[], upd_same, h0 D hD⟩ (fun i H' _ ⟨acc, _, p⟩ => hG D i acc H' hD p) ?_ fun H' ⟨acc, ha, p⟩ => he D acc H' hD ha p
  rintro i x H1 H' hi ⟨acc, ha, p⟩ ⟨rfl, k, v, q, at1, rfl, tup⟩
  exact hs D i k v q acc H' at1 tup hD ha p
theorem dcT_it {J : It} {n : Nat} {Go : Hp → Prop} {Y : Nat → Hp → V → Hp → Prop} (w : Walk J n Go Y) {H1 : Hp} {D : Addr} {Qd : Hp → Prop} (Pv : Nat → Hp → Prop) (h0 : Pv 0 (upd H1 D (.dT []))) (hG : ∀ i H, i ≤ n → Pv i H → Go H)
    (hs : ∀ i x H H', i < n → Pv i H → Y i H x H' → G x (wipe σ vs) H' fun σ2 H2 => wipe σ2 vs = wipe σ vs ∧ tt σ2 H2 fun b H3 =>
      if b = true then tk σ2 H3 fun y H4 => tv σ2 H4 fun z H5 => ∃ (kvs : Dt.Tb) (k : List Key) (q : Addr), y = .ref q ∧ H5 q = some (.tup (k.map kV)) ∧ H5 D = some (.dT kvs) ∧ kvs.length < sizeLine ∧ Pv (i + 1) (upd H5 D (.dT (putK kvs k z))) else Pv (i + 1) H3) (hd : ∀ H, Pv n H → Qd H) :
    ∃ W : Nat → Nat → Hp → Prop, (∃ m, W 0 m (upd H1 D (.dT []))) ∧ ∀ i m H, W i m H →
      (J.stop i H ∧ Qd H) ∨ (J.go i H ∧ ∃ Nx : Hp → Prop, (∀ H', Nx H' → ∃ m', m' < m ∧ W (i + 1) m' H') ∧ ∀ x H', J.yld i H x H' → G x (wipe σ vs) H' fun σ2 H2 => wipe σ2 vs = wipe σ vs ∧ tt σ2 H2 fun b H3 =>
        if b = true then tk σ2 H3 fun y H4 => tv σ2 H4 fun z H5 => ∃ (kvs : Dt.Tb) (k : List Key) (q : Addr), y = .ref q ∧ H5 q = some (.tup (k.map kV)) ∧ H5 D = some (.dT kvs) ∧ kvs.length < sizeLine ∧ Nx (upd H5 D (.dT (putK kvs k z))) else Nx H3) := by
  let Turn : Nat → Nat → Hp → Prop := fun i left H => left + i = n ∧ Pv i H
  refine ⟨Turn, ⟨n, rfl, h0⟩, fun i left H ⟨sum, p⟩ => ?_⟩
  have stands := hG i H (by omega) p
  rcases Nat.eq_or_lt_of_le (show i ≤ n by omega) with full | more
  · cases full
    exact .inl ⟨w.stops H stands, hd H p⟩
  · exact .inr ⟨w.goes i H more stands, Pv (i + 1), fun H' p' => ⟨left - 1, by omega, by omega, p'⟩, fun v H' y => hs i v H H' more p (w.yields i H v H' more stands y)⟩
theorem put_new {k : List Key} {v : V} (h : k ∉ kvs.map (·.1)) : putK kvs k v = kvs ++ [(k, v)] := by
  unfold putK
  rw [if_neg]
  intro e
  obtain ⟨p, hp, g⟩ := List.any_eq_true.mp e
  exact h (List.mem_map.mpr ⟨p, hp, of_decide_eq_true g⟩)
/-- {k: v for k, v in d.items()}: a copy -/
theorem r_copyT {i j : Nat} (hd : H d = some (.dT kvs)) (nd : (kvs.map (·.1)).Nodup) (few : kvs.length ≤ 100000) (up : ∀ od (Q' : VK), Q' (.ref d) (upd H d (.frz od (.dT kvs))) → td σ (upd H d (.frz od (.dT kvs))) Q')
    (hw : ∀ x y, wipe (((wipe σ vs).set i (some x)).set j (some y)) vs = wipe σ vs) (hi : ∀ x y : V, (((wipe σ vs).set i (some x)).set j (some y))[i]? = some (some x)) (hj : ∀ x y : V, (((wipe σ vs).set i (some x)).set j (some y))[j]? = some (some y))
    (q : ∀ D H', Keep [] H H' → H D = none → H' D = some (.dT kvs) → Q (.ref D) H') : tLockE (Dt.tDcT (Dt.iItemsT td) (gTup K 2 (gCons (gName i) (gCons (gName j) gNil))) tYes (tVar i) (tVar j) vs) σ H Q := by
  refine ⟨d, .dT kvs, hd, trivial, fun od => up od _ ⟨d, od, kvs, rfl, upd_same, fun D hD => ?_⟩⟩
  have dne : D ≠ d := by rintro rfl; rw [upd_same] at hD; cases hD
  have hD0 : H D = none := by rw [upd_ne dne] at hD; exact hD
  refine dcT_it walk_itemsT (fun n H' => H' D = some (.dT (kvs.take n)) ∧ H' d = some (.frz od (.dT kvs)) ∧ Keep [] (upd H d (.frz od (.dT kvs))) H') ⟨by rw [upd_same]; simp, by rw [upd_ne (Ne.symm dne)]; exact upd_same, Keep.new hD⟩ (fun n H' _ p => p.2.1) ?_ ?_
  · rintro n x H1 H' more ⟨atD, atd, kp⟩ ⟨T, a, k, v, at1, tup, rfl, hT, rfl⟩
    have kT : Keep [] H1 (upd H1 T (.tup [.ref a, v])) := Keep.new hT
    refine r_gTup2 (sqT_of upd_same) ⟨hw _ _, ?_⟩
    refine r_yes (iteT ?_)
    refine r_var (hi _ _) (r_var (hj _ _) ?_)
    have atD' := kT _ _ (by simp) atD
    have atd' := kT _ _ (by simp) atd
    refine ⟨kvs.take n, k, a, rfl, kT _ _ (by simp) tup, atD', lt_size (by rw [List.length_take]; omega), ?_, by rw [upd_ne (Ne.symm dne)]; exact atd', (kp.trans kT).mut hD⟩
    have fresh : k ∉ (kvs.take n).map (·.1) := fun h => by
      obtain ⟨p, hp, e⟩ := List.mem_map.mp h
      obtain ⟨z, hz⟩ := List.getElem?_of_mem hp
      rw [List.getElem?_take] at hz
      split at hz
      · rename_i lt
        have h1 : (kvs.map (·.1))[z]? = some k := by rw [List.getElem?_map, hz]; exact congrArg some e
        have h2 : (kvs.map (·.1))[n]? = some k := by rw [List.getElem?_map, at1]; rfl
        have := (List.getElem?_inj (List.getElem?_eq_some_iff.mp h1).1 nd).mp (h1.trans h2.symm)
        omega
      · cases hz
    rw [upd_same, put_new fresh, List.take_add_one, at1]; rfl
  · rintro H' ⟨atD, atd, kp⟩
    rw [List.take_length] at atD
    exact ⟨atd, q D _ (Keep.unlock hd kp) hD0 (by rw [upd_ne dne]; exact atD)⟩
end
namespace Dt
open PySem PySem.Spec PyProof.Rows PyProof.V L2 StX
/-! ### == of two dicts with the same keys, tuples, in the same order, and the same values -/
section
variable {prog : Program} {w : World} {Ky : Type} [DecidableEq Ky] {knd : HeapKind prog w Ky} {A : Around} {E : Value → Shared → Prop} {s : Shared}
theorem same_pairsT {nm : String} {a b : Addr} {xa xb : List (Ky × Addr × Value)} {Q : Bool → Shared → Prop} (ha : (a == sysModules) = false) (hb : (b == sysModules) = false) (hu : knd.room A) (da : s.heap.DictOfH knd a xa) (db : s.heap.DictOfH knd b xb)
    (len : xa.length = xb.length) (al : ∀ (i : Nat) x, xa[i]? = some x → ∃ y, xb[i]? = some y ∧ y.1 = x.1 ∧ SeqAt.EqAt A s x.2.2 y.2.2 true) (q : Q true s) : wpAny (model prog w) A (Builtin.Dict.samePairs nm a b) Q E s := by
  obtain ⟨oa, es, ep, hoa, _, hda, hes, hia, _⟩ := da
  obtain ⟨ob, fs, fp, hob, _, hdb, hfs, hib, hnb⟩ := db
  have sa := size_of_entries hes
  have sb := size_of_entries hfs
  unfold Builtin.Dict.samePairs Builtin.Dict.showsAll
  rw [if_neg (show ¬ (a == sysModules) = true by rw [ha]; exact Bool.false_ne_true), if_neg (show ¬ (b == sysModules) = true by rw [hb]; exact Bool.false_ne_true)]
  refine wpAny_bind (wpAny_pure (wpAny_bind (wpAny_pure (wpAny_bind (wpAny_dictEntries hoa hda ?_)))))
  dsimp only
  refine wpAny_bind (wpAny_dictEntries hob hdb ?_)
  have hsz : es.size = fs.size := by omega
  rw [if_neg (by rw [hsz]; simp)]
  refine wpAny_bind (wpAny_dictEpoch hoa hda (wpAny_bind ?_))
  rw [Std.Legacy.Range.forIn_eq_forIn_range']
  simp only [Std.Legacy.Range.size, Nat.sub_zero, Nat.add_sub_cancel, Nat.div_one]
  refine wpAny_forIn_list _ (fun rest r s' => s' = s ∧ r = (none, ()) ∧ ∃ i, rest = List.range' i (es.size - i) ∧ i ≤ es.size) _ ?_ ?_ _ _ ⟨rfl, rfl, 0, by simp, Nat.zero_le _⟩
  · rintro x rest r s' ⟨rfl, rfl, i, hr, hi⟩
    have lt : i < es.size := by
      rcases Nat.lt_or_ge i es.size with h | h
      · exact h
      · rw [Nat.sub_eq_zero_of_le h] at hr; simp at hr
    rw [show es.size - i = (es.size - (i + 1)) + 1 by omega, List.range'_succ] at hr
    injection hr with h1 h2
    subst h1
    obtain ⟨e, he⟩ : ∃ e, xa[x]? = some e := ⟨_, List.getElem?_eq_getElem (by omega)⟩
    obtain ⟨f, hf, ek, ev⟩ := al x e he
    have ge : es[x]? = some (entryOfKey knd e) := by rw [entry_at hes, he]; rfl
    have gf : fs[x]? = some (entryOfKey knd f) := by rw [entry_at hfs, hf]; rfl
    refine wpAny_bind (wpAny_dictEntries hoa hda ?_)
    rw [ge]
    refine wpAny_bind (wpAny_holding (wpAny_bind (wpAny_dictFind_heap hu (hia _ (List.mem_of_getElem? he)) hob hdb hfs hib hnb (fun no => ?_) fun j p hj => ?_)))
    · exact absurd (show xb[x]? = some (e.1, f.2) by rw [hf, ← ek]) (no x _)
    · obtain rfl : j = x := idxH_unique hnb hj (show xb[x]? = some (e.1, f.2) by rw [hf, ← ek])
      refine wpAny_bind (wpAny_dictEntries hob hdb ?_)
      rw [gf]
      refine wpAny_holding (ev _ _ _ _ ?_)
      show wpAny _ _ (if (!true) = true then _ else _) _ _ _
      rw [if_neg (by decide)]
      refine wpAny_bind (wpAny_dictEpoch hoa hda ?_)
      rw [if_neg (by simp)]
      exact wpAny_pure ⟨rfl, rfl, j + 1, h2, lt⟩
  · rintro r s' ⟨rfl, rfl, _⟩
    exact wpAny_pure q
end
theorem kt_both {H : Hp} {kvs : List (List Key × V)} {xa xb : List (List Key × Addr × Value)} (ra : KT H kvs xa) (rb : KT H kvs xb) : xa.length = xb.length ∧
    ∀ (i : Nat) x, xa[i]? = some x → ∃ y p, xb[i]? = some y ∧ y.1 = x.1 ∧ p ∈ kvs ∧ RelV p.2 x.2.2 ∧ RelV p.2 y.2.2 := by
  induction ra generalizing xb with
  | nil =>
    cases rb
    exact ⟨rfl, fun i x h => by simp at h⟩
  | @cons p q ps qs h t ih =>
    cases rb with
    | @cons _ q2 _ qs2 h2 t2 =>
      obtain ⟨l, g⟩ := ih t2
      refine ⟨by rw [List.length_cons, List.length_cons, l], fun i x hx => ?_⟩
      cases i with
      | zero =>
        have e : q = x := by simpa using hx
        subst e
        exact ⟨q2, p, by simp, h2.1.symm.trans h.1, List.mem_cons_self, h.2.2, h2.2.2⟩
      | succ i =>
        obtain ⟨y, p2, a, b, c, d, e⟩ := g i x (by simpa using hx)
        exact ⟨y, p2, by simpa using a, b, List.mem_cons_of_mem _ c, d, e⟩
def rEqSameT : R2 := fun x y H Q => ∃ a b kvs, x = .ref a ∧ y = .ref b ∧ H a = some (.dT kvs) ∧ H b = some (.dT kvs) ∧ (∀ p ∈ kvs, SameV p.2) ∧ Q (.bl true) H
theorem op_eqSameT {X : Cx} (small : X.A.units + 1 < cLine) : OpR X (compareOp .Eq) rEqSameT := by
  rintro pins s σ H x y v u Q I rx ry ⟨a, b, kvs, rfl, rfl, ea, eb, same, q⟩
  cases (show v = Value.ref a from rx)
  cases (show u = Value.ref b from ry)
  obtain ⟨_, na, xa, ra, da⟩ := dt_of I.hok ea
  obtain ⟨_, nb, xb, rb, db⟩ := dt_of I.hok eb
  obtain ⟨len, al⟩ := kt_both ra rb
  refine wpAny_richCompare_same_room (op := .Eq) da.typeIs db.typeIs PySem.F.slot_dict_eq (wpAny_call_entry PySem.F.slot_dict_eq da.typeIs PySem.F.entry_dict_eq ?_ (PySem.F.args_dict_eq_2 _ _)) (by omega)
  show wpAny _ _ (Builtin.Dict.dictSlotArgs "__eq__" ⟨[.ref a, .ref b], []⟩ >>= _) _ _ s
  refine wpAny_bind ?_
  unfold Builtin.Dict.dictSlotArgs
  refine wpAny_bind (wpAny_notOrdered_dict da.typeIs ?_)
  show wpAny _ _ (pure (Value.ref a, Value.ref b)) _ _ s
  refine wpAny_pure (wpAny_bind (wpAny_isInstance (T := "dict") db.typeIs PySem.F.sub_dict_dict ?_))
  simp only [Bool.not_true, Bool.false_eq_true, if_false]
  refine wpAny_bind (wpAny_pure (wpAny_bind (wpAny_pure (wpAny_bind (same_pairsT na nb (show X.A.in1.units < cLine from small) da db len (fun i x hx => ?_) ?_)))))
  · obtain ⟨y, p, hy, ek, hp, r1, r2⟩ := al i x hx
    exact ⟨y, hy, ek, eqAt_sameV r1 r2 (same p hp)⟩
  · refine wpAny_pure ⟨_, rfl, ?_, ?_⟩
    · exact fun x => nomatch x
    · exact ⟨.bl true, H, I, rfl, q⟩
end Dt
namespace Ow
open PySem PySem.Spec PyProof.Rows PyProof.V L2 StX
open PySem.W PySem.Calls
/-! ### x != y where the class has its own __eq__ and object's __ne__ -/
section
variable {prog : Program} {w : World} {M : Model} {A : Around} {E : Value → Shared → Prop} {s : Shared} {K : Frag} {x y C f : Addr} {ox oy : Obj} {od od' : Option Obj}
theorem ifBound_objNe {args : List Value} {Q : Option Value → Shared → Prop} (X : K.In s.heap) (I : InstAt s.heap x ox C od) (hs : findIn K (.ref C) "__ne__" = some (some (.builtin "object.__ne__")))
    (h : wpAny M A (call (.builtin "object.__ne__") (.ref x :: args)) (fun v => Q (some v)) E s) : wpAny M A (callSpecialIfBound? (.ref x) "__ne__" args) Q E s := by
  simp only [callSpecialIfBound?, bindSpecialIfBound?]
  refine wpAny_holding (wpAny_bind (wpAny_bind (wpAny_bind (I.type.here ((looks_findIn X hs).here ?_)))))
  refine wpAny_bind (wpAny_askSetting (wpAny_ite ?_))
  have fin : wpAny M A (call (.builtin "object.__ne__") ([.ref x] ++ args) >>= fun v => pure (some v)) Q E s := wpAny_bind (wpAny_mono h (fun v s' h' => wpAny_pure h') fun _ _ h' => h')
  split
  · exact wpAny_bind (wpAny_of_eq (F.cmp_object.ne.bind _) (wpAny_pure (by exact fin)))
  · exact wpAny_tryCatch (wpAny_bind (wpAny_of_eq (F.cmp_object.ne.bind _) (wpAny_pure (by exact fin))))
theorem entry_ne {Q : Fin → Shared → Prop} (hu : A.units < cLine) (X : K.In s.heap) (I : InstAt s.heap x ox C od) (hs : findIn K (.ref C) "__eq__" = some (some (.ref f))) (hf : isFn K (.ref f) = true)
    (h : wpAny (model prog w) A (call (.ref f) [.ref x, .ref y]) (fun v s' => ∃ b, v = .bool b ∧ Q (.done (.ret (.bool (!b)))) s') E s) : wpAny (model prog w) A (Builtin.«object.__ne__» ⟨[.ref x, .ref y], []⟩) Q E s := by
  have one := ifBound_K (M := model prog w) (args := [.ref y]) (Q := fun r s' => ∃ b, r = some (.bool b) ∧ Q (.done (.ret (.bool (!b)))) s') X I hs hf (wpAny_mono h (fun v s' hv => by obtain ⟨b, rfl, q⟩ := hv; exact ⟨b, rfl, q⟩) fun _ _ e => e)
  obtain ⟨hh, g, d, t, os⟩ := s
  unfold Builtin.«object.__ne__»
  repeat (first
    | with_reducible refine wpAny_cRoomFor hu ?_
    | (refine wpAny_bind (m := callSpecialIfBound? (.ref x) (Str.ofString "__eq__") [.ref y]) (wpAny_mono one (fun r s' hr => ?_) fun _ _ e => e))
    | wp_step)
  · obtain ⟨b, rfl, q⟩ := hr
    repeat (first | exact q | exact wpAny_pure q | exact wpAny_truthy_bool q | (refine wpAny_bind (m := truthy (.bool _)) (wpAny_truthy_bool ?_)) | wp_step)
theorem call_objNe {Q : Value → Shared → Prop} (hu : A.in1.units < cLine) (X : K.In s.heap) (I : InstAt s.heap x ox C od) (hm : mroIn K C (.type "object") = some true) (hs : findIn K (.ref C) "__eq__" = some (some (.ref f))) (hf : isFn K (.ref f) = true)
    (h : wpAny (model prog w) A.in1 (call (.ref f) [.ref x, .ref y]) (fun v s' => ∃ b, v = .bool b ∧ Q (.bool (!b)) s') E s) : wpAny (model prog w) A (call (.builtin "object.__ne__") [.ref x, .ref y]) Q E s :=
  wpAny_call (codeAny_call_builtin F.cmp_object.ne.plain F.cmpEntry_ne (check_slot F.cmpKind_ne F.cmpSplit_ne (I.type.andThen (looks_mroIn X hm)) (F.cmpArgs_ne _ _) (entry_ne hu X I hs hf (wpAny_mono h (fun v s' hv => by obtain ⟨b, e, q⟩ := hv; exact ⟨b, e, q⟩) fun _ _ e => e))))
theorem rc_ownNe {Q : Value → Shared → Prop} (hu0 : A.units < cLine) (hu : A.in1.units < cLine) (X : K.In s.heap) (I : InstAt s.heap x ox C od) (J : InstAt s.heap y oy C od') (hm : mroIn K C (.type "object") = some true) (hn : findIn K (.ref C) "__ne__" = some (some (.builtin "object.__ne__"))) (hs : findIn K (.ref C) "__eq__" = some (some (.ref f))) (hf : isFn K (.ref f) = true)
    (h : wpAny (model prog w) A.in1 (call (.ref f) [.ref x, .ref y]) (fun v s' => ∃ b, v = .bool b ∧ Q (.bool (!b)) s') E s) : wpAny (model prog w) A (richCompare .NotEq (.ref x) (.ref y)) Q E s := by
  have one : wpAny (model prog w) A (tryCompare (.ref x) "__ne__" (.ref y)) (fun r s' => ∃ b : Bool, r = some (.bool b) ∧ Q (.bool b) s') E s := by
    unfold tryCompare
    refine wpAny_bind (ifBound_objNe X I hn (call_objNe hu X I hm hs hf (wpAny_mono h (fun v s' hv => ?_) fun _ _ e => e)))
    obtain ⟨b, rfl, q⟩ := hv
    exact ⟨b, rfl, wpAny_pure ⟨_, rfl, q⟩⟩
  unfold richCompare
  simp only [oneThing_ref]
  refine wpAny_holding (wpAny_bind (wpAny_cRoomFor hu0 ?_))
  refine wpAny_bind (I.type.here (wpAny_bind (J.type.here ?_)))
  rw [show (Value.ref C != Value.ref C) = false from by simp]
  simp only [Bool.false_eq_true, if_false]
  refine wpAny_bind (wpAny_pure ?_)
  simp only [Bool.false_eq_true, if_false]
  refine wpAny_bind (wpAny_mono one (fun r s' z => ?_) fun _ _ e => e)
  obtain ⟨v, rfl, hq⟩ := z
  exact wpAny_pure hq
end
section
variable {X : Cx} {CX : CXT} {k : Nat} {C f : Addr} {sp : Sp} {E : XK}
def rOwnNe (C : Addr) (sp : Sp) (E : XK) : R2 := fun x y H Q => ∃ a dx fs b dy gs, x = .ref a ∧ y = .ref b ∧ H a = some (.ins C dx fs) ∧ H b = some (.ins C dy gs) ∧ sp [x, y] H (fun v H' => ∃ c, v = .bl c ∧ Q (.bl (!c)) H') E
theorem op_ownNe (M : Meth X.K C "__eq__" f) (hn : findIn X.K (.ref C) "__ne__" = some (some (.builtin "object.__ne__"))) (hm : mroIn X.K C (.type "object") = some true) (F : FnR X.prog X.w X.K X.mg X.base CX k f sp) (hr : Room (k + 1) X.A) (hx : Passes CX X E) (hu : X.A.units < cLine) : OpR X (compareOp .NotEq) (rOwnNe C sp E) := by
  intro pins s σ H x y v u Q I rx ry h
  obtain ⟨a, dx, fs, b, dy, gs, rfl, rfl, ha, hb, q⟩ := h
  obtain rfl : v = Value.ref a := rx
  obtain rfl : u = Value.ref b := ry
  obtain ⟨ox, od, J, _⟩ := inst_of I ha
  obtain ⟨oy, od', J', _⟩ := inst_of I hb
  have hr1 : Room k X.A.in1 := Room.in1 hr
  show wpAny _ _ (richCompare .NotEq (.ref a) (.ref b)) _ _ _
  refine rc_ownNe hu hr1.units0 I.kIn J J' hm hn M.at_ M.fn (wpAny_mono (wpAny_call (SlX.run_at (us := [.ref a, .ref b]) (ws := [.ref a, .ref b]) F hr1 I.env0.in1 hx I (.cons rfl (.cons rfl .nil)) q)) (fun u' s' z => ?_) fun _ _ x => x)
  obtain ⟨z', H', I', rz, c, ec, qz⟩ := z
  subst ec
  cases (show u' = Value.bool c from rz)
  exact ⟨c, rfl, .bl (!c), H', I', rfl, qz⟩
theorem r_ownNe {C a b dx dy : Addr} {fs gs : List (Str × V)} {sp : Sp} {E : XK} {H : Hp} {Q : VK} (ha : H a = some (.ins C dx fs)) (hb : H b = some (.ins C dy gs)) (k : sp [.ref a, .ref b] H (fun v H' => ∃ c, v = .bl c ∧ Q (.bl (!c)) H') E) : rOwnNe C sp E (.ref a) (.ref b) H Q := ⟨a, dx, fs, b, dy, gs, rfl, rfl, ha, hb, k⟩
end
end Ow
namespace Dt
open PySem PySem.Spec PyProof.Rows PyProof.V L2 StX
/-! ### d.clear(), the keys tuples -/
def rClearT : V → List V → Hp → VK → Prop := fun x vs H Q => ∃ (a : Addr) (kvs : Tb), x = .ref a ∧ vs = [] ∧ H a = some (.dT kvs) ∧ Q .non (upd H a (.dT []))
theorem mtd_clearT {X : Cx} : MtR X "dict.clear" rClearT := by
  intro pins s σ H x vs v us Q I rx rv h
  obtain ⟨a, kvs, ex, ev, e, q⟩ := h
  subst ex
  subst ev
  obtain rfl : v = Value.ref a := rx
  have hus := rv.zero
  subst hus
  obtain ⟨small, apart, cells, pairs, u, es, ep, stands, cls, data, list, _⟩ := dt_of I.hok e
  have len : es.size = cells.length := size_of_entries list
  have len2 : kvs.length = cells.length := Paired.length pairs
  have raw : s.heap.DictRaw a es ep := ⟨u, stands, cls, data⟩
  refine call_meetsIn PySem.F.slot_dict_clear raw.typeIs PySem.F.entry_dict_clear (PySem.F.args_dict_clear_1 _) (PySem.meets_dict_clear_raw a) ⟨es, ep, raw, by omega, fun h' dd' hs => ?_⟩
  obtain ⟨o', ho', hc', hd'⟩ := dd'
  refine ⟨.non, _, d_write (t' := s.toks) I (by rw [e]; exact True.intro) hs ⟨o', ho'⟩ ?_, rfl, q⟩
  exact ⟨Nat.zero_le _, apart, [], .nil, o', #[], ep + 1, ho', hc', hd', rfl, List.Pairwise.nil⟩
section
variable {X : Cx} {o : Expr} {to : TE} {apos cpos : Pos}
theorem pe_dclearT (ho : PE X o to) (hbase : attributeBase o "clear" X.env (eval o X.env) = eval o X.env := by rfl) (hline : (apos.endLine == cpos.line) = true := by rfl) : PE X (.Call (.Attribute o "clear" apos) [] [] cpos) (tBM0 X.K "dict" rClearT to) :=
  pe_bm0 PySem.F.plainAttrs_dict PySem.F.slot_dict_clear PySem.F.type_dict_clear mtd_clearT ho hbase hline
end
/-! ### == of two dicts with the same keys in the same order, the values flat -/
section
variable {prog : Program} {w : World} {Ky : Type} [DecidableEq Ky] {knd : HeapKind prog w Ky} {A : Around} {E : Value → Shared → Prop} {s : Shared}
theorem pairsT {nm : String} {a b : Addr} {xa xb : List (Ky × Addr × Value)} {P : Nat → Bool} {Q : Bool → Shared → Prop} (ha : (a == sysModules) = false) (hb : (b == sysModules) = false) (hu : knd.room A) (da : s.heap.DictOfH knd a xa) (db : s.heap.DictOfH knd b xb)
    (len : xa.length = xb.length) (al : ∀ (i : Nat) x, xa[i]? = some x → ∃ y, xb[i]? = some y ∧ y.1 = x.1 ∧ SeqAt.EqAt A s x.2.2 y.2.2 (P i)) (q : (∀ i, i < xa.length → P i = true) → Q true s) (n : ∀ i, i < xa.length → P i = false → Q false s) : wpAny (model prog w) A (Builtin.Dict.samePairs nm a b) Q E s := by
  obtain ⟨oa, es, ep, hoa, _, hda, hes, hia, _⟩ := da
  obtain ⟨ob, fs, fp, hob, _, hdb, hfs, hib, hnb⟩ := db
  have sa := size_of_entries hes
  have sb := size_of_entries hfs
  unfold Builtin.Dict.samePairs Builtin.Dict.showsAll
  rw [if_neg (show ¬ (a == sysModules) = true by rw [ha]; exact Bool.false_ne_true), if_neg (show ¬ (b == sysModules) = true by rw [hb]; exact Bool.false_ne_true)]
  refine wpAny_bind (wpAny_pure (wpAny_bind (wpAny_pure (wpAny_bind (wpAny_dictEntries hoa hda ?_)))))
  dsimp only
  refine wpAny_bind (wpAny_dictEntries hob hdb ?_)
  have hsz : es.size = fs.size := by omega
  rw [if_neg (by rw [hsz]; simp)]
  refine wpAny_bind (wpAny_dictEpoch hoa hda (wpAny_bind ?_))
  rw [Std.Legacy.Range.forIn_eq_forIn_range']
  simp only [Std.Legacy.Range.size, Nat.sub_zero, Nat.add_sub_cancel, Nat.div_one]
  refine wpAny_forIn_list _ (fun rest r s' => s' = s ∧ r = (none, ()) ∧ ∃ i, rest = List.range' i (es.size - i) ∧ i ≤ es.size ∧ ∀ j, j < i → P j = true) _ ?_ ?_ _ _ ⟨rfl, rfl, 0, by simp, Nat.zero_le _, by simp⟩
  · rintro x rest r s' ⟨rfl, rfl, i, hr, hi, ok⟩
    have lt : i < es.size := by
      rcases Nat.lt_or_ge i es.size with h | h
      · exact h
      · rw [Nat.sub_eq_zero_of_le h] at hr; simp at hr
    rw [show es.size - i = (es.size - (i + 1)) + 1 by omega, List.range'_succ] at hr
    injection hr with h1 h2
    subst h1
    obtain ⟨e, he⟩ : ∃ e, xa[x]? = some e := ⟨_, List.getElem?_eq_getElem (by omega)⟩
    obtain ⟨f, hf, ek, ev⟩ := al x e he
    have ge : es[x]? = some (entryOfKey knd e) := by rw [entry_at hes, he]; rfl
    have gf : fs[x]? = some (entryOfKey knd f) := by rw [entry_at hfs, hf]; rfl
    refine wpAny_bind (wpAny_dictEntries hoa hda ?_)
    rw [ge]
    refine wpAny_bind (wpAny_holding (wpAny_bind (wpAny_dictFind_heap hu (hia _ (List.mem_of_getElem? he)) hob hdb hfs hib hnb (fun no => ?_) fun j p hj => ?_)))
    · exact absurd (show xb[x]? = some (e.1, f.2) by rw [hf, ← ek]) (no x _)
    · obtain rfl : j = x := idxH_unique hnb hj (show xb[x]? = some (e.1, f.2) by rw [hf, ← ek])
      refine wpAny_bind (wpAny_dictEntries hob hdb ?_)
      rw [gf]
      refine wpAny_holding (ev _ _ _ _ ?_)
      cases hp : P j with
      | false =>
        show wpAny _ _ (if (!false) = true then _ else _) _ _ _
        rw [if_pos (by decide)]
        exact wpAny_pure (wpAny_pure (n j (by omega) hp))
      | true =>
        show wpAny _ _ (if (!true) = true then _ else _) _ _ _
        rw [if_neg (by decide)]
        refine wpAny_bind (wpAny_dictEpoch hoa hda ?_)
        rw [if_neg (by simp)]
        refine wpAny_pure ⟨rfl, rfl, j + 1, h2, lt, fun i hi => ?_⟩
        rcases Nat.lt_or_ge i j with h | h
        · exact ok i h
        · obtain rfl : i = j := by omega
          exact hp
  · rintro r s' ⟨rfl, rfl, i, hr, hi, ok⟩
    refine wpAny_pure (q fun j hj => ok j ?_)
    rcases Nat.lt_or_ge i es.size with h | h
    · rw [show es.size - i = (es.size - (i + 1)) + 1 by omega, List.range'_succ] at hr; cases hr
    · omega
end
/-- keys alike, values flat -/
def rEqFlatT : R2 := fun x y H Q => ∃ (a b : Addr) (kvs lvs : Tb), x = .ref a ∧ y = .ref b ∧ H a = some (.dT kvs) ∧ H b = some (.dT lvs) ∧ kvs.map (·.1) = lvs.map (·.1) ∧ (∀ p ∈ kvs, L2.flatV p.2 = true) ∧ (∀ p ∈ lvs, L2.flatV p.2 = true) ∧
  ((∀ i : Nat, ∀ p q, kvs[i]? = some p → lvs[i]? = some q → L2.eqV p.2 q.2 = true) → Q (.bl true) H) ∧ (∀ i : Nat, ∀ p q, kvs[i]? = some p → lvs[i]? = some q → L2.eqV p.2 q.2 = false → Q (.bl false) H)
theorem kt_at {H : Hp} : ∀ {kvs : Tb} {xa : List (List Key × Addr × Value)}, KT H kvs xa → kvs.length = xa.length ∧ ∀ (i : Nat) x, xa[i]? = some x → ∃ p, kvs[i]? = some p ∧ p.1 = x.1 ∧ RelV p.2 x.2.2
  | _, _, .nil => ⟨rfl, fun i x h => by simp at h⟩
  | _, _, .cons (a := p) (b := q) h t => by
    obtain ⟨l, g⟩ := kt_at t
    refine ⟨by rw [List.length_cons, List.length_cons, l], fun i x hx => ?_⟩
    cases i with
    | zero =>
      have e : q = x := by simpa using hx
      subst e
      exact ⟨p, by simp, h.1, h.2.2⟩
    | succ i => simpa using g i x (by simpa using hx)
theorem op_eqFlatT {X : Cx} (small : X.A.units + 1 < cLine) : OpR X (compareOp .Eq) rEqFlatT := by
  rintro pins s σ H x y v u Q I rx ry ⟨a, b, kvs, lvs, rfl, rfl, ea, eb, keys, fa, fb, q, n⟩
  cases (show v = Value.ref a from rx)
  cases (show u = Value.ref b from ry)
  obtain ⟨_, na, xa, ra, da⟩ := dt_of I.hok ea
  obtain ⟨_, nb, xb, rb, db⟩ := dt_of I.hok eb
  obtain ⟨la, ga⟩ := kt_at ra
  obtain ⟨lb, gb⟩ := kt_at rb
  have lk : kvs.length = lvs.length := by have := congrArg List.length keys; rwa [List.length_map, List.length_map] at this
  let P : Nat → Bool := fun i => match kvs[i]?, lvs[i]? with
    | some p, some q => L2.eqV p.2 q.2
    | _, _ => true
  refine wpAny_richCompare_same_room (op := .Eq) da.typeIs db.typeIs PySem.F.slot_dict_eq (wpAny_call_entry PySem.F.slot_dict_eq da.typeIs PySem.F.entry_dict_eq ?_ (PySem.F.args_dict_eq_2 _ _)) (by omega)
  show wpAny _ _ (Builtin.Dict.dictSlotArgs "__eq__" ⟨[.ref a, .ref b], []⟩ >>= _) _ _ s
  refine wpAny_bind ?_
  unfold Builtin.Dict.dictSlotArgs
  refine wpAny_bind (wpAny_notOrdered_dict da.typeIs ?_)
  show wpAny _ _ (pure (Value.ref a, Value.ref b)) _ _ s
  refine wpAny_pure (wpAny_bind (wpAny_isInstance (T := "dict") db.typeIs PySem.F.sub_dict_dict ?_))
  simp only [Bool.not_true, Bool.false_eq_true, if_false]
  refine wpAny_bind (wpAny_pure (wpAny_bind (wpAny_pure (wpAny_bind (pairsT (P := P) na nb (show X.A.in1.units < cLine from small) da db (by omega) (fun i x hx => ?_) (fun all => ?_) fun i hi hp => ?_)))))
  · obtain ⟨p, hp, ek, rp⟩ := ga i x hx
    have lt : i < xb.length := by have := (List.getElem?_eq_some_iff.mp hx).1; omega
    obtain ⟨y, hy⟩ : ∃ y, xb[i]? = some y := ⟨_, List.getElem?_eq_getElem lt⟩
    obtain ⟨r, hr, er, rr⟩ := gb i y hy
    have kk : p.1 = r.1 := by
      have h1 : (kvs.map (·.1))[i]? = some p.1 := by rw [List.getElem?_map, hp]; rfl
      have h2 : (lvs.map (·.1))[i]? = some r.1 := by rw [List.getElem?_map, hr]; rfl
      rw [keys, h2] at h1
      exact (Option.some.inj h1).symm
    refine ⟨y, hy, er.symm.trans (kk.symm.trans ek), ?_⟩
    have : P i = L2.eqV p.2 r.2 := by show (match kvs[i]?, lvs[i]? with | some p, some q => L2.eqV p.2 q.2 | _, _ => true) = _; rw [hp, hr]
    rw [this]
    exact eqAt_V rp rr (fa p (List.mem_of_getElem? hp)) (fb r (List.mem_of_getElem? hr))
  · refine wpAny_pure ⟨_, rfl, (fun x => nomatch x), ⟨.bl true, H, I, rfl, q fun i p r hp hr => ?_⟩⟩
    have := all i (by have := (List.getElem?_eq_some_iff.mp hp).1; omega)
    have e : P i = L2.eqV p.2 r.2 := by show (match kvs[i]?, lvs[i]? with | some p, some q => L2.eqV p.2 q.2 | _, _ => true) = _; rw [hp, hr]
    rw [← e]; exact this
  · obtain ⟨p, hp0⟩ : ∃ p, kvs[i]? = some p := ⟨_, List.getElem?_eq_getElem (by omega)⟩
    obtain ⟨r, hr0⟩ : ∃ r, lvs[i]? = some r := ⟨_, List.getElem?_eq_getElem (by omega)⟩
    have e : P i = L2.eqV p.2 r.2 := by show (match kvs[i]?, lvs[i]? with | some p, some q => L2.eqV p.2 q.2 | _, _ => true) = _; rw [hp0, hr0]
    exact wpAny_pure ⟨_, rfl, (fun x => nomatch x), ⟨.bl false, H, I, rfl, n i p r hp0 hr0 (by rw [← e]; exact hp)⟩⟩
end Dt
/-! sorted() of triples of two ints and a text, the pairs of ints telling the text -/
namespace So
open PySem PySem.Spec PyProof.Rows SrtO Srt L2
def IsTri (h : Heap) (v : Value) (x y : Int) (z : Str) : Prop := ∃ a o t u r n, v = .ref a ∧ h.get? a = some o ∧ o.cls = .type "tuple" ∧ o.data = .seq #[.int x t, .int y u, .str z r] n
theorem IsTri.keeps {h h' : Heap} {v : Value} {x y : Int} {z : Str} (p : IsTri h v x y z) (k : ∀ b o, h.get? b = some o → o.cls = .type "tuple" → h'.get? b = some o) : IsTri h' v x y z := by
  obtain ⟨a, o, t, u, r, n, e, ho, hc, hd⟩ := p
  exact ⟨a, o, t, u, r, n, e, k _ _ ho hc, hc, hd⟩
theorem firsts_of {h : Heap} : ∀ {vs : List Value}, (∀ v ∈ vs, ∃ x y z, IsTri h v x y z) → ∃ fs : List Value, PySem.W.KatTups h vs fs ∧ fs.length = vs.length ∧ ∀ f ∈ fs, ∃ x t, f = Value.int x t
  | [], _ => ⟨[], PySem.W.KatTups.nil, rfl, fun _ hm => by simp at hm⟩
  | v :: vs, hp => by
    obtain ⟨fs, h1, h2, h3⟩ := firsts_of (vs := vs) fun v' hm => hp v' (List.mem_cons_of_mem _ hm)
    obtain ⟨x, y, z, a, o, t, u, r, n, e, ho, hc, hd⟩ := hp v (List.mem_cons_self ..)
    subst e
    refine ⟨.int x t :: fs, PySem.W.KatTups.cons ho hc hd rfl h1, by rw [List.length_cons, List.length_cons, h2], fun f hm => ?_⟩
    rcases List.mem_cons.mp hm with rfl | hm
    · exact ⟨x, t, rfl⟩
    · exact h3 f hm
section
variable {prog : Program} {w : World} {A : Around} {E : Value → Shared → Prop} {s : Shared}
theorem tri_cmp {vs : List Value} {k : Value → Int × Int} {g : Value → Str} (hp : ∀ v ∈ vs, IsTri s.heap v (k v).1 (k v).2 (g v)) (hg : ∀ v ∈ vs, ∀ u ∈ vs, k v = k u → g v = g u) : Cmp prog w A s (tuples' true) (fun p => p.1 ∈ vs) (lt2 fun v u => lexB (k v) (k u)) := by
  intro p q hm hm'
  have h1 := hp _ hm
  have h2 := hp _ hm'
  have h3 := hg _ hm _ hm'
  show wpAny (model prog w) A (keyLt' (tuples' true) p.1 q.1) (fun r s' => s' = s ∧ r = lexB (k p.1) (k q.1)) (fun _ _ => False) s
  have h4 : (k p.1).1 = (k q.1).1 → (k p.1).2 = (k q.1).2 → g p.1 = g q.1 := fun a b => h3 (Prod.ext a b)
  unfold lexB
  clear h3
  generalize (k p.1).1 = x at h1 h4 ⊢
  generalize (k p.1).2 = y at h1 h4 ⊢
  generalize (k q.1).1 = x' at h2 h4 ⊢
  generalize (k q.1).2 = y' at h2 h4 ⊢
  generalize g p.1 = z at h1 h4
  generalize g q.1 = z' at h2 h4
  obtain ⟨a, o, t, u, r, n, e, ho, hc, hd⟩ := h1
  obtain ⟨a', o', t', u', r', n', e', ho', hc', hd'⟩ := h2
  rw [e, e']
  refine PySem.W.kat_lt ho hd ho' hd' ?_
  show PySem.W.KatLex prog w A true (decide (3 < 3)) _ [(.int x t, .int x' t'), (.int y u, .int y' u'), (.str z r, .str z' r')] 0 s
  refine PySem.W.kat_cons (SeqAt.EqAt.int_int x t x' t' prog w _ _ ?_)
  refine PySem.W.kat_go (fun e1 => ?_) (fun e1 => ?_)
  · have ex : x = x' := by simpa using e1
    refine PySem.W.kat_yes (PySem.W.kat_cons (SeqAt.EqAt.int_int y u y' u' prog w _ _ ?_))
    refine PySem.W.kat_go (fun e2 => ?_) (fun e2 => ?_)
    · have ey : y = y' := by simpa using e2
      have e3 : (if x = x' then decide (y < y') else decide (x < x')) = false := by
        rw [if_pos ex, ey]
        exact decide_eq_false (Int.lt_irrefl _)
      refine PySem.W.kat_yes (PySem.W.kat_cons (SeqAt.EqAt.str_str z r z' r' prog w _ _ ?_))
      rw [h4 ex ey, beq_self_eq_true]
      exact PySem.W.kat_yes (PySem.W.kat_nil ⟨rfl, e3.symm⟩)
    · have e3 : (if x = x' then decide (y < y') else decide (x < x')) = decide (y < y') := if_pos ex
      refine PySem.W.kat_no (PySem.W.kat_one _ _ (PyProof.Rows.lt_int ?_))
      exact (show s = s ∧ decide (y < y') = (if x = x' then decide (y < y') else decide (x < x')) from ⟨rfl, e3.symm⟩)
  · have ex : ¬ x = x' := by simpa using e1
    have e3 : (if x = x' then decide (y < y') else decide (x < x')) = decide (x < x') := if_neg ex
    exact PySem.W.kat_no (oneLt_int ⟨rfl, e3.symm⟩)
theorem tri_sortable {a : Addr} {vs : List Value} {k : Value → Int × Int} {g : Value → Str} (h0 : 0 < vs.length) (hp : ∀ v ∈ vs, IsTri s.heap v (k v).1 (k v).2 (g v)) (hg : ∀ v ∈ vs, ∀ u ∈ vs, k v = k u → g v = g u) (ha : ∀ o, s.heap.get? a = some o → o.cls ≠ .type "tuple") : SortableO prog w A s a vs fun v u => lexB (k v) (k u) := by
  intro h' keep
  have hp' : ∀ v ∈ vs, IsTri h' v (k v).1 (k v).2 (g v) := fun v hm => (hp v hm).keeps fun b o e c => keep b o (fun z => by subst z; exact ha o e c) e
  obtain ⟨fs, h1, h2, h3⟩ := firsts_of fun v hm => ⟨_, _, _, hp' v hm⟩
  refine ⟨tuples' true, fun Q E hq => ?_, tri_cmp hp' hg⟩
  refine PySem.W.kat_kind (T := .type "int") h1 (by omega) (fun f hm => ?_) (by rfl) ?_
  · obtain ⟨x, t, rfl⟩ := h3 f hm
    exact PySem.W.Looks.now
  · have e : (Value.type "int" != Value.type "tuple") = true := by first | decide +kernel | rfl | decide
    rw [e]
    exact hq
theorem sorted_tri {l : Addr} {vs : List Value} {k : Value → Int × Int} {g : Value → Str} {Q : Value → Shared → Prop} (hl : s.heap.IsList l vs.toArray) (hz : vs.length ≤ sizeLine) (hp : ∀ v ∈ vs, IsTri s.heap v (k v).1 (k v).2 (g v)) (hg : ∀ v ∈ vs, ∀ u ∈ vs, k v = k u → g v = g u)
    (h : ∀ (h' : Heap) (d : Addr) (out : List Value), Srtd (fun v u => lexB (k v) (k u)) out → Stb (fun v u => lexB (k v) (k u)) out vs → (∀ b o, s.heap.get? b = some o → h'.get? b = some o) → s.heap.objs.size ≤ d → (∃ n, h'.get? d = some (seqObj "list" out.toArray n)) → Q (.ref d) { s with heap := h' }) :
    wpAny (model prog w) A (call (.builtin "sorted") [.ref l]) Q E s := by
  refine sorted_ord (swo_lex k) hl hz (fun h2 h₁ a ha kk => ?_) fun out hs hb => ?_
  · refine tri_sortable (s := { s with heap := h₁ }) (g := g) (by omega) (fun v hm => (hp v hm).keeps fun b o e _ => (kk b o e).2) hg fun o e => ?_
    have e' : some o = some (seqObj "list" vs.toArray 0) := e.symm.trans ha
    cases e'
    intro c
    exact absurd (Value.type.inj c) (by decide)
  · exact h _ _ out hs hb (fun b o e => sortedAll_old e) (Nat.le_succ _) (sortedAll_at s.heap vs out.toArray)
end
theorem vals3 {a b c : V} {us : List Value} (r : L2.Vals [a, b, c] us) : ∃ u1 u2 u3, us = [u1, u2, u3] ∧ RelV a u1 ∧ RelV b u2 ∧ RelV c u3 := by
  cases r with
  | cons r1 r => cases r with
    | cons r2 r => cases r with
      | cons r3 r => cases r; exact ⟨_, _, _, rfl, r1, r2, r3⟩
end So
/-- sorted(xs), xs a list of triples (int, int, text) where the two ints tell the text -/
def rSorted3 (K : PySem.W.Frag) : List V → Hp → VK → Prop := fun vs H Q => ∃ (a : Addr) (xs : List V) (k : V → Int × Int) (g : V → Str), vs = [V.ref a] ∧ SqL K H a xs ∧ (∀ x ∈ xs, ∃ t, x = V.ref t ∧ H t = some (.tup [.int (k x).1, .int (k x).2, .str (g x)])) ∧ (∀ x ∈ xs, ∀ y ∈ xs, k x = k y → g x = g y) ∧
  ∀ ys p, SrtO.Srtd (ltP k) ys → ys.Perm xs → H p = none → Q (.ref p) (upd H p (.lst ys))
theorem cr_sorted3 {X : Cx} {K : PySem.W.Frag} (hK : X.K = K) : CallR X (.builtin "sorted") (rSorted3 K) := by
  subst hK
  intro pins s σ H vs us Q I r h
  obtain ⟨a, xs, k, g, rfl, hs, hx, hg, q⟩ := h
  obtain ⟨its, rv, hl, hz⟩ := I.list hs
  obtain ⟨u, rfl, ru⟩ := vals1 r
  obtain rfl : u = Value.ref a := ru
  obtain ⟨e1, e2⟩ := refs_back rv fun x m => by
    obtain ⟨t, e, _⟩ := hx x m
    exact ⟨t, e⟩
  have back : ∀ v ∈ its, backV v ∈ xs := fun v hv => by rw [e1]; exact List.mem_map.mpr ⟨v, hv, rfl⟩
  refine So.sorted_tri (k := fun u => k (backV u)) (g := fun u => g (backV u)) hl.isList (by rw [← rv.length]; exact hz) (fun v hv => ?_) (fun v hv u hu e => hg _ (back v hv) _ (back u hu) e) fun h' d out h1 h2 kp hd hn => ?_
  · obtain ⟨t, rfl⟩ := e2 v hv
    have hm : V.ref t ∈ xs := by rw [e1]; exact List.mem_map.mpr ⟨_, hv, rfl⟩
    obtain ⟨t', e, ht⟩ := hx _ hm
    cases e
    obtain ⟨_, its2, r2, o, ho, hc, n, hd⟩ := I.hok _ _ ht
    obtain ⟨u1, u2, u3, rfl, ri, rj, rk⟩ := So.vals3 r2
    obtain ⟨t1, rfl⟩ := ri
    obtain ⟨t2, rfl⟩ := rj
    obtain ⟨t3, rfl⟩ := rk
    exact ⟨t, o, t1, t2, t3, n, rfl, ho, hc, hd⟩
  · have h3 : ∀ u ∈ out, ∃ a, u = Value.ref a := fun u hu => e2 u (h2.perm.mem_iff.mp hu)
    obtain ⟨n, hn⟩ := hn
    have hb : SrtO.Stb (ltP k) (out.map backV) xs := by
      rw [e1]
      exact SrtO.Stb.map (ltP_swo k) backV h2
    refine ⟨.ref d, upd H d (.lst (out.map backV)), I.laid (t' := s.toks) kp hd ⟨?_, out, n, vals_back h3, hn⟩, rfl, q _ d (SrtO.srtd_map h1) hb.perm (I.hok.fresh hd)⟩
    rw [hb.len]
    exact hz
namespace Dt
open PySem PySem.Spec PyProof.Rows PyProof.V L2 StX
/-! ### {k: v}, the key a tuple -/
def tDisp1T (tk tv : TE) : TE := fun σ H Q => ∀ p, H p = none → tk σ (upd H p (.dT [])) fun y H1 => tv σ H1 fun z H2 => ∃ (k : List Key) (q : Addr), y = .ref q ∧ H2 p = some (.dT []) ∧ H2 q = some (.tup (k.map kV)) ∧ Q (.ref p) (upd H2 p (.dT [(k, z)]))
theorem pe_disp1T {X : Cx} {pos : Pos} {ke ve : Expr} {tk tv : TE} (hu : X.A.units + 64 < cLine) (hk : PE X ke tk) (hv : PE X ve tv) : PE X (.Dict [some ke] [ve] pos) (tDisp1T tk tv) := by
  refine ⟨fun pins s σ H Q I q => ?_⟩
  have hn := I.hok.fresh (Nat.le_refl s.heap.objs.size)
  have I1 := I.laid (a := s.heap.objs.size) (o := .dT []) (h' := s.heap.push { cls := .type "dict", data := .dict #[] }) (t' := s.toks) (fun _ _ q => Heap.get?_push_of_some _ q) (Nat.le_refl _) (dt_empty s.heap I.big)
  have run := (pps_cons (pos := pos) hk hv pps_nil).run pins _ σ _ (fun ps H2 => ∃ y z, ps = [(y, z)] ∧ ∃ (k : List Key) (q : Addr), y = .ref q ∧ H2 s.heap.objs.size = some (.dT []) ∧ H2 q = some (.tup (k.map kV)) ∧ Q (.ref s.heap.objs.size) (upd H2 s.heap.objs.size (.dT [(k, z)]))) I1
    (by
      show tk σ _ _
      have q0 := q _ hn
      show tk σ (upd H s.heap.objs.size (.dT [])) fun x H1 => tv σ H1 fun y H2 => ∃ y' z, [(x, y)] = [(y', z)] ∧ _
      have e : (fun (x : V) (H1 : Hp) => tv σ H1 fun y H2 => ∃ (k : List Key) (q : Addr), x = .ref q ∧ H2 s.heap.objs.size = some (.dT []) ∧ H2 q = some (.tup (k.map kV)) ∧ Q (.ref s.heap.objs.size) (upd H2 s.heap.objs.size (.dT [(k, y)]))) = fun (x : V) (H1 : Hp) => tv σ H1 fun y H2 => ∃ y' z, [(x, y)] = [(y', z)] ∧ ∃ (k : List Key) (q : Addr), y' = .ref q ∧ H2 s.heap.objs.size = some (.dT []) ∧ H2 q = some (.tup (k.map kV)) ∧ Q (.ref s.heap.objs.size) (upd H2 s.heap.objs.size (.dT [(k, z)])) := by
        funext x H1
        congr 1
        funext y H2
        apply propext
        constructor
        · intro h; exact ⟨x, y, rfl, h⟩
        · rintro ⟨y', z, e, h⟩
          cases e; exact h
      rw [← e]; exact q0)
  rw [arm_eval_Dict, zip_pairTrees [some ke] [ve] X.env pos rfl rfl, dictDisplay_pairs (pairTrees [some ke] [ve] X.env pos) (by simp [pairTrees]) (by simp [pairTrees])]
  refine wpAny_bind (wpAny_standAt (wpAny_bind (wpAny_subDictH (knd := tupleKind (mixKind X.prog X.w)) (Q := fun d s' => wpAny (model X.prog X.w) X.A (pure (Value.ref d)) (EP X pins σ Q) X.xe s') (show X.A.units < cLine by omega) (by simp [pairTrees]) (thn run fun vs s1 got => ?_))))
  obtain ⟨ps, H2, I2, rel, y, z, eps, k, q2, ey, at2, tup, fin⟩ := got
  subst eps
  subst ey
  cases rel with
  | cons r rest =>
    cases rest
    rename_i b
    obtain ⟨b1, b2⟩ := b
    obtain ⟨r1, r2⟩ := r
    cases (show b1 = Value.ref q2 from r1)
    obtain ⟨small, apart, cells, pairs, held⟩ := dt_of I2.hok at2
    cases pairs
    refine ⟨[(k, q2, b2)], ⟨rfl, rfl, key_of I2.hok tup, trivial⟩, held, fun h' tk' held' but => wpAny_pure ⟨.ref s.heap.objs.size, _, ?_, rfl, fin⟩⟩
    obtain ⟨u, es, ep, stands, a1, a2, a3, _, a4⟩ := held'
    have nq : q2 ≠ s.heap.objs.size := by rintro rfl; rw [at2] at tup; cases tup
    exact d_write I2 (by rw [at2]; exact True.intro) but ⟨u, stands⟩ ⟨by show 1 ≤ sizeLine; decide, apart, [(k, q2, b2)], .cons ⟨rfl, by rw [upd_ne nq]; exact tup, r2⟩ .nil, u, es, ep, stands, a1, a2, a3, a4⟩
/-! ### d.pop(q), the key there -/
def tDPop1T (td ty : TE) : TE := fun σ H Q => td σ H fun x H1 => ∃ a, x = .ref a ∧ IsD H1 a ∧ ty σ H1 fun y H2 => ∃ (kvs : Tb) (k : List Key) (q : Addr) (v : V), H2 a = some (.dT kvs) ∧ y = .ref q ∧ H2 q = some (.tup (k.map kV)) ∧ valV kvs k = some v ∧ Q v (upd H2 a (.dT (dropK kvs k)))
theorem pe_dpop1T {X : Cx} {o e : Expr} {td ty : TE} {apos cpos : Pos} (hu : X.A.units + 1 < cLine) (ho : PE X o td) (he : PE X e ty) (m : M1 X o "pop" apos e cpos) : PE X (.Call (.Attribute o "pop" apos) [e] [] cpos) (tDPop1T td ty) := by
  refine ⟨fun pins s σ H Q I h => ?_⟩
  refine wpAny_Call_method m.base m.few m.line PySem.F.plainAttrs_dict PySem.F.slot_dict_pop PySem.F.type_dict_pop (thn (ho.run pins s σ H _ I h) fun u s1 ⟨x, H1, I1, rx, a, ex, d, q1⟩ => ?_)
  subst ex
  obtain rfl : u = Value.ref a := rx
  obtain ⟨t1, t2, _⟩ := isD_at I1 d
  refine ⟨t1, t2, ?_⟩
  rw [m.trees]
  refine Calls.callWith_builtin rfl (Calls.evalArgs_plain (Calls.spliced_cons (thn (he.run pins s1 σ H1 _ I1 q1) fun iv s2 ⟨y, H2, I2, ry, kvs, k, q, v, ea, ey, tup, l, q2⟩ => Calls.spliced_nil ?_)))
  subst ey
  cases (show iv = Value.ref q from ry)
  obtain ⟨z, hd, xs, rel, dd⟩ := dt_of I2.hok ea
  have hz : xs.length ≤ sizeLine := by rw [← Paired.length rel]; exact z
  have look := rel.val k
  rw [l] at look
  obtain ⟨p, hp, rv⟩ : ∃ p, atKey xs k = some p ∧ RelV v p.2 := by
    cases ev : atKey xs k with
    | none => rw [ev] at look; exact (show False from look).elim
    | some p => rw [ev] at look; exact ⟨p, rfl, look⟩
  refine PySem.call_pop_heap (hsz := hz) (knd := tupleKind (mixKind X.prog X.w)) (.inl rfl) (PySem.F.args_dict_pop_2 _ _) (tupleKind_room_in1 hu) (key_of I2.hok tup) hd dd hp fun h' dd' hs => ?_
  obtain ⟨o, es, ep, hq, h2, h3, h4, _, h5⟩ := dd'
  have I3 : Inv X pins σ (upd H2 a (.dT (dropK kvs k))) { s2 with heap := h', toks := s2.toks + (tupleKind (mixKind X.prog X.w)).draws k } := d_write I2 (by rw [ea]; exact True.intro) hs ⟨o, hq⟩ ⟨Nat.le_trans (dropK_le kvs k) z, hd, _, (L2.DX.KT_drop k rel).keeps (fun c ys ec => (by rw [upd_ne (ne_of ec ea (fun z => nomatch z))]; exact ec)), o, es, ep, hq, h2, h3, h4, h5⟩
  exact ⟨v, _, I3, rv, q2⟩
/-! ### == and != of two dicts with tuples as keys, the values flat -/
section
variable {prog : Program} {w : World} {Ky : Type} [DecidableEq Ky] {knd : HeapKind prog w Ky} {A : Around} {E : Value → Shared → Prop} {s : Shared}
theorem pairsM {nm : String} {a b : Addr} {xa xb : List (Ky × Addr × Value)} {P : Nat → Bool} {Q : Bool → Shared → Prop} (ha : (a == sysModules) = false) (hb : (b == sysModules) = false) (hu : knd.room A) (da : s.heap.DictOfH knd a xa) (db : s.heap.DictOfH knd b xb)
    (al : ∀ (i : Nat) x, xa[i]? = some x → ((∀ (j : Nat) p, ¬ xb[j]? = some (x.1, p)) ∧ P i = false) ∨ ∃ (j : Nat) (y : Addr × Value), xb[j]? = some (x.1, y) ∧ SeqAt.EqAt A s x.2.2 y.2 (P i)) (l : xa.length ≠ xb.length → Q false s) (q : xa.length = xb.length → (∀ i, i < xa.length → P i = true) → Q true s) (n : ∀ i, i < xa.length → P i = false → Q false s) : wpAny (model prog w) A (Builtin.Dict.samePairs nm a b) Q E s := by
  obtain ⟨oa, es, ep, hoa, _, hda, hes, hia, _⟩ := da
  obtain ⟨ob, fs, fp, hob, _, hdb, hfs, hib, hnb⟩ := db
  have sa := size_of_entries hes
  have sb := size_of_entries hfs
  unfold Builtin.Dict.samePairs Builtin.Dict.showsAll
  rw [if_neg (show ¬ (a == sysModules) = true by rw [ha]; exact Bool.false_ne_true), if_neg (show ¬ (b == sysModules) = true by rw [hb]; exact Bool.false_ne_true)]
  refine wpAny_bind (wpAny_pure (wpAny_bind (wpAny_pure (wpAny_bind (wpAny_dictEntries hoa hda ?_)))))
  dsimp only
  refine wpAny_bind (wpAny_dictEntries hob hdb ?_)
  by_cases hsz : es.size = fs.size
  case neg =>
    rw [if_pos (by simpa using hsz)]
    exact wpAny_bind (wpAny_rule (wpAny_pure (l (by omega))))
  rw [if_neg (by rw [hsz]; simp)]
  refine wpAny_bind (wpAny_dictEpoch hoa hda (wpAny_bind ?_))
  rw [Std.Legacy.Range.forIn_eq_forIn_range']
  simp only [Std.Legacy.Range.size, Nat.sub_zero, Nat.add_sub_cancel, Nat.div_one]
  refine wpAny_forIn_list _ (fun rest r s' => s' = s ∧ r = (none, ()) ∧ ∃ i, rest = List.range' i (es.size - i) ∧ i ≤ es.size ∧ ∀ j, j < i → P j = true) _ ?_ ?_ _ _ ⟨rfl, rfl, 0, by simp, Nat.zero_le _, by simp⟩
  · rintro x rest r s' ⟨rfl, rfl, i, hr, hi, ok⟩
    have lt : i < es.size := by
      rcases Nat.lt_or_ge i es.size with h | h
      · exact h
      · rw [Nat.sub_eq_zero_of_le h] at hr; simp at hr
    rw [show es.size - i = (es.size - (i + 1)) + 1 by omega, List.range'_succ] at hr
    injection hr with h1 h2
    subst h1
    obtain ⟨e, he⟩ : ∃ e, xa[x]? = some e := ⟨_, List.getElem?_eq_getElem (by omega)⟩
    have ge : es[x]? = some (entryOfKey knd e) := by rw [entry_at hes, he]; rfl
    refine wpAny_bind (wpAny_dictEntries hoa hda ?_)
    rw [ge]
    refine wpAny_bind (wpAny_holding (wpAny_bind (wpAny_dictFind_heap hu (hia _ (List.mem_of_getElem? he)) hob hdb hfs hib hnb (fun no => ?_) fun j p hj => ?_)))
    · have hp : P x = false := by
        rcases al x e he with ⟨_, h⟩ | ⟨j, y, hj, _⟩
        · exact h
        · exact (no j y hj).elim
      refine wpAny_pure ?_
      show wpAny _ _ (if (!false) = true then _ else _) _ _ _
      rw [if_pos (by decide)]
      exact wpAny_pure (wpAny_pure (n x (by omega) hp))
    · obtain ⟨ev⟩ : SeqAt.EqAt A s' e.2.2 p.2 (P x) ∧ True := by
        rcases al x e he with ⟨h, _⟩ | ⟨j2, y, hj2, h⟩
        · exact (h j p hj).elim
        · obtain rfl : j = j2 := idxH_unique hnb hj hj2
          rw [hj] at hj2
          have : p = y := by simpa using hj2
          rw [this]; exact ⟨h, trivial⟩
      have gf : fs[j]? = some (entryOfKey knd (e.1, p)) := by rw [entry_at hfs, hj]; rfl
      refine wpAny_bind (wpAny_dictEntries hob hdb ?_)
      rw [gf]
      refine wpAny_holding (ev _ _ _ _ ?_)
      cases hp : P x with
      | false =>
        show wpAny _ _ (if (!false) = true then _ else _) _ _ _
        rw [if_pos (by decide)]
        exact wpAny_pure (wpAny_pure (n x (by omega) hp))
      | true =>
        show wpAny _ _ (if (!true) = true then _ else _) _ _ _
        rw [if_neg (by decide)]
        refine wpAny_bind (wpAny_dictEpoch hoa hda ?_)
        rw [if_neg (by simp)]
        refine wpAny_pure ⟨rfl, rfl, x + 1, h2, lt, fun i hi => ?_⟩
        rcases Nat.lt_or_ge i x with h | h
        · exact ok i h
        · obtain rfl : i = x := by omega
          exact hp
  · rintro r s' ⟨rfl, rfl, i, hr, hi, ok⟩
    refine wpAny_pure (q (by omega) fun j hj => ok j ?_)
    rcases Nat.lt_or_ge i es.size with h | h
    · rw [show es.size - i = (es.size - (i + 1)) + 1 by omega, List.range'_succ] at hr; cases hr
    · omega
end
def eqB (lvs : Tb) (p : List Key × V) : Bool := match valV lvs p.1 with
  | some v => L2.eqV p.2 v
  | none => false
def mapEq (kvs lvs : Tb) : Bool := decide (kvs.length = lvs.length) && kvs.all (eqB lvs)
theorem kt_keys {H : Hp} : ∀ {kvs : Tb} {xa : List (List Key × Addr × Value)}, KT H kvs xa → kvs.map (·.1) = xa.map (·.1)
  | _, _, .nil => rfl
  | _, _, .cons h t => by rw [List.map_cons, List.map_cons, kt_keys t, h.1]
theorem valV_none {kvs : Tb} {k : List Key} (h : ∀ (j : Nat) v, ¬ kvs[j]? = some (k, v)) : valV kvs k = none := by
  induction kvs with
  | nil => rfl
  | cons p r ih =>
    by_cases e : p.1 = k
    · exact (h 0 p.2 (by rw [← e]; rfl)).elim
    · rw [valV_neg e]; exact ih fun j v hj => h (j + 1) v (by simpa using hj)
theorem valV_at {kvs : Tb} {j : Nat} {p : List Key × V} (nd : (kvs.map (·.1)).Nodup) (h : kvs[j]? = some p) : valV kvs p.1 = some p.2 := by
  induction kvs generalizing j with
  | nil => simp at h
  | cons q r ih =>
    rw [List.map_cons, List.nodup_cons] at nd
    cases j with
    | zero =>
      have e : q = p := by simpa using h
      subst e; exact valV_pos rfl
    | succ j =>
      have h' : r[j]? = some p := by simpa using h
      rw [valV_neg (fun e => nd.1 (by rw [e]; exact List.mem_map_of_mem (List.mem_of_getElem? h')))]
      exact ih nd.2 h'
def rCmpM (neg : Bool) : R2 := fun x y H Q => ∃ (a b : Addr) (kvs lvs : Tb), x = .ref a ∧ y = .ref b ∧ Rd H a (.dT kvs) ∧ Rd H b (.dT lvs) ∧ (∀ p ∈ kvs, L2.flatV p.2 = true) ∧ (∀ p ∈ lvs, L2.flatV p.2 = true) ∧ Q (.bl (if neg then !mapEq kvs lvs else mapEq kvs lvs)) H
theorem same_map {X : Cx} {nm : String} {pins : List (Addr × Obj)} {σ : L2.St} {H : Hp} {s : Shared} {a b : Addr} {kvs lvs : Tb} {E : Value → Shared → Prop} {Q : Bool → Shared → Prop} (small : X.A.units + 1 < cLine) (I : Inv X pins σ H s) (ea : Rd H a (.dT kvs)) (eb : Rd H b (.dT lvs)) (fa : ∀ p ∈ kvs, L2.flatV p.2 = true) (fb : ∀ p ∈ lvs, L2.flatV p.2 = true)
    (q : Q (mapEq kvs lvs) s) : wpAny (model X.prog X.w) X.A.in1 (Builtin.Dict.samePairs nm a b) Q E s := by
  obtain ⟨_, na, xa, ra, da⟩ := dt_rd I.hok ea
  obtain ⟨_, nb, xb, rb, db⟩ := dt_rd I.hok eb
  obtain ⟨la, ga⟩ := kt_at ra
  obtain ⟨lb, gb⟩ := kt_at rb
  have kb := kt_keys rb
  have ndb : (lvs.map (·.1)).Nodup := by rw [kb]; obtain ⟨_, _, _, _, _, _, _, _, nd⟩ := db; exact nd
  let P : Nat → Bool := fun i => match kvs[i]? with
    | some p => eqB lvs p
    | none => true
  have hP : ∀ i p, kvs[i]? = some p → P i = eqB lvs p := fun i p h => by show (match kvs[i]? with | some p => eqB lvs p | none => true) = _; rw [h]
  refine pairsM (P := P) na nb (show X.A.in1.units < cLine from small) da db (fun i x hx => ?_) (fun ne => ?_) (fun e all => ?_) fun i hi hp => ?_
  · obtain ⟨p, hp, ek, rp⟩ := ga i x hx
    rw [hP i p hp]
    by_cases c : ∃ (j : Nat) (y : Addr × Value), xb[j]? = some (x.1, y)
    · obtain ⟨j, y, hy⟩ := c
      obtain ⟨r, hr, er, rr⟩ := gb j (x.1, y) hy
      refine .inr ⟨j, y, hy, ?_⟩
      have v := valV_at ndb hr
      have ev : valV lvs p.1 = some r.2 := by rw [ek, ← show r.1 = x.1 from er]; exact v
      unfold eqB
      rw [ev]
      exact eqAt_V rp rr (fa p (List.mem_of_getElem? hp)) (fb r (List.mem_of_getElem? hr))
    · refine .inl ⟨fun j y h => c ⟨j, y, h⟩, ?_⟩
      have ev : valV lvs p.1 = none := valV_none fun j v hj => by
        have lt : j < xb.length := by have := (List.getElem?_eq_some_iff.mp hj).1; omega
        have h1 : (lvs.map (·.1))[j]? = some p.1 := by rw [List.getElem?_map, hj]; rfl
        rw [kb, List.getElem?_map, List.getElem?_eq_getElem lt] at h1
        refine c ⟨j, (xb[j]).2, ?_⟩
        have e1 : (xb[j]).1 = x.1 := by rw [← ek]; simpa using h1
        rw [List.getElem?_eq_getElem lt, ← e1]
      unfold eqB
      rw [ev]
  · have e : mapEq kvs lvs = false := by unfold mapEq; rw [decide_eq_false (by omega)]; rfl
    rwa [e] at q
  · have e2 : mapEq kvs lvs = true := by
      unfold mapEq
      rw [decide_eq_true (by omega), Bool.true_and, List.all_eq_true]
      intro p hp
      obtain ⟨i, hi⟩ := List.getElem?_of_mem hp
      rw [← hP i p hi]
      exact all i (by have := (List.getElem?_eq_some_iff.mp hi).1; omega)
    rwa [e2] at q
  · obtain ⟨p, hp0⟩ : ∃ p, kvs[i]? = some p := ⟨_, List.getElem?_eq_getElem (by omega)⟩
    have e2 : mapEq kvs lvs = false := by
      unfold mapEq
      rw [Bool.and_eq_false_iff]
      right
      rw [List.all_eq_false]
      exact ⟨p, List.mem_of_getElem? hp0, by rw [← hP i p hp0, hp]; decide⟩
    rwa [e2] at q
theorem op_eqM {X : Cx} (small : X.A.units + 1 < cLine) : OpR X (compareOp .Eq) (rCmpM false) := by
  rintro pins s σ H x y v u Q I rx ry ⟨a, b, kvs, lvs, rfl, rfl, ea, eb, fa, fb, q⟩
  cases (show v = Value.ref a from rx)
  cases (show u = Value.ref b from ry)
  obtain ⟨_, _, _, _, da⟩ := dt_rd I.hok ea
  obtain ⟨_, _, _, _, db⟩ := dt_rd I.hok eb
  refine wpAny_richCompare_same_room (op := .Eq) da.typeIs db.typeIs PySem.F.slot_dict_eq (wpAny_call_entry PySem.F.slot_dict_eq da.typeIs PySem.F.entry_dict_eq ?_ (PySem.F.args_dict_eq_2 _ _)) (by omega)
  show wpAny _ _ (Builtin.Dict.dictSlotArgs "__eq__" ⟨[.ref a, .ref b], []⟩ >>= _) _ _ s
  refine wpAny_bind ?_
  unfold Builtin.Dict.dictSlotArgs
  refine wpAny_bind (wpAny_notOrdered_dict da.typeIs ?_)
  show wpAny _ _ (pure (Value.ref a, Value.ref b)) _ _ s
  refine wpAny_pure (wpAny_bind (wpAny_isInstance (T := "dict") db.typeIs PySem.F.sub_dict_dict ?_))
  simp only [Bool.not_true, Bool.false_eq_true, if_false]
  refine wpAny_bind (wpAny_pure (wpAny_bind (wpAny_pure (wpAny_bind (same_map small I ea eb fa fb ?_)))))
  exact wpAny_pure ⟨_, rfl, (fun x => nomatch x), ⟨.bl (mapEq kvs lvs), H, I, (by show Value.bool _ = Value.bool _; cases mapEq kvs lvs <;> rfl), q⟩⟩
theorem op_neM {X : Cx} (small : X.A.units + 1 < cLine) : OpR X (compareOp .NotEq) (rCmpM true) := by
  rintro pins s σ H x y v u Q I rx ry ⟨a, b, kvs, lvs, rfl, rfl, ea, eb, fa, fb, q⟩
  cases (show v = Value.ref a from rx)
  cases (show u = Value.ref b from ry)
  obtain ⟨_, _, _, _, da⟩ := dt_rd I.hok ea
  obtain ⟨_, _, _, _, db⟩ := dt_rd I.hok eb
  refine wpAny_richCompare_same_room (op := .NotEq) da.typeIs db.typeIs PySem.F.slot_dict_ne (wpAny_call_entry PySem.F.slot_dict_ne da.typeIs PySem.F.entry_dict_ne ?_ (PySem.F.args_dict_ne_2 _ _)) (by omega)
  show wpAny _ _ (Builtin.Dict.dictSlotArgs "__ne__" ⟨[.ref a, .ref b], []⟩ >>= _) _ _ s
  refine wpAny_bind ?_
  unfold Builtin.Dict.dictSlotArgs
  refine wpAny_bind (wpAny_notOrdered_dict da.typeIs ?_)
  show wpAny _ _ (pure (Value.ref a, Value.ref b)) _ _ s
  refine wpAny_pure (wpAny_bind (wpAny_isInstance (T := "dict") db.typeIs PySem.F.sub_dict_dict ?_))
  simp only [Bool.not_true, Bool.false_eq_true, if_false]
  refine wpAny_bind (wpAny_pure (wpAny_bind (wpAny_pure (wpAny_bind (same_map small I ea eb fa fb ?_)))))
  exact wpAny_pure ⟨_, rfl, (fun x => nomatch x), ⟨.bl (!mapEq kvs lvs), H, I, (by show Value.bool _ = Value.bool _; cases mapEq kvs lvs <;> rfl), q⟩⟩
/-! ### C(..) in a try: what is raised is wished for at the caller's slots -/
section
variable {X : Cx} {CX : CXT} {C f : Addr} {fd : FuncData} {k : Nat} {sp : Sp} {ps : List Str} {ds : List Value} {dvs : List V} {E : L2.St → XK} {x : Str} {p pos : Pos} {e : Expr} {es : List Expr} {t : TA}
def tMakeSD (C : Addr) (sp : Sp) (dvs : List V) (E : L2.St → XK) (t : TA) : TE := fun σ H Q => t σ H fun vs H1 => ∀ x dx, H1 x = none → H1 dx = none → dx ≠ x → sp (.ref x :: (vs ++ dvs)) (upd (upd H1 dx (.own x)) x (.ins C dx [])) (fun v H2 => v = .non ∧ Q (.ref x) H2) (E σ)
theorem run_makeSD {pins : List (Addr × Obj)} {σ : L2.St} {H : Hp} {s : Shared} {Q : VK} {us : List Value} {vs : List V} (M : Mk X.K C f) (F : FnOk X.prog X.w X.K X.mg X.base CX k f fd ps sp) (hr : Room (k + 1) X.A) (hb : Binds X.K fd ps ds) (hd : L2.Vals dvs ds)
    (hx : PassesAt CX X σ (E σ)) (I : Inv X pins σ H s) (r : L2.Vals vs us)
    (h : ∀ x dx, H x = none → H dx = none → dx ≠ x → sp (.ref x :: (vs ++ dvs)) (upd (upd H dx (.own x)) x (.ins C dx [])) (fun v H2 => v = .non ∧ Q (.ref x) H2) (E σ)) :
    wpAny (model X.prog X.w) X.A (call (.ref C) us) (EP X pins σ Q) X.xe s := by
  have hq := h (s.heap.objs.size + 1) s.heap.objs.size (I.hok.fresh (Nat.le_succ _)) (I.hok.fresh (Nat.le_refl _)) (Nat.ne_of_lt (Nat.lt_succ_self _))
  have I2 := Inv.made (C := C) I
  have r2 : L2.Vals (V.ref (s.heap.objs.size + 1) :: (vs ++ dvs)) (Value.ref (s.heap.objs.size + 1) :: (us ++ ds)) := .cons rfl (r.append hd)
  have hl : (Value.ref (s.heap.objs.size + 1) :: us ++ ds).length = ps.length := by
    have e := r2.length
    rw [F.len _ _ _ _ hq] at e
    exact e.symm
  refine wpAny_call (make_map (f := f) I.kIn M.makes M.init (beq_iff_eq.mp M.fn) (codeAny_mono (F.run _ X.stack _ _ ⟨Value.ref (s.heap.objs.size + 1) :: us, []⟩ (Value.ref (s.heap.objs.size + 1) :: (us ++ ds)) _ _ (E σ) (hr.make C us [])
    (I2.env0.make C us []) (hb _ (Value.ref (s.heap.objs.size + 1) :: us) I2.kIn hl) r2 hq) fun r s' hq' => ?_))
  cases r with
  | error e => exact hx pins _ _ e s' I2 hq'
  | ok fl =>
    cases fl with
    | ret u =>
      obtain ⟨v, H', I3, rv, ev, q3⟩ := I2.after hq'
      subst ev
      exact ⟨rv, ⟨V.ref (s.heap.objs.size + 1), H', I3, rfl, q3⟩⟩
    | next => exact False.elim hq'
    | brk => exact False.elim hq'
    | cont => exact False.elim hq'
theorem pe_makeSD (M : Mk X.K C f) (F : FnOk X.prog X.w X.K X.mg X.base CX k f fd ps sp) (hr : Room (k + 1) X.A) (hg : Gl X x) (hm : X.mg x = some (.ref C)) (hb : Binds X.K fd ps ds) (hd : L2.Vals dvs ds) (hx : ∀ σ, PassesAt CX X σ (E σ))
    (ha : PA X (e :: es) t) (hdb : (x == ("__debug__" : Str)) = false := by decide) (he : starEach (e :: es) X.env = (false, eval e X.env) :: starEach es X.env := by rfl) (hpl : (backTo pos (starEach es X.env)).any (·.1) = false := by rfl) :
    PE X (.Call (.Name x p) (e :: es) [] pos) (tMakeSD C sp dvs E t) := by
  refine ⟨fun pins s σ H Q I h => ?_⟩
  refine wpAny_Call_Name_kw (ld_glob I hg hm ?_ hdb)
  refine PySem.W.callWith_K (h₀ := X.base) I.ok.mod.kin M.kp (thn (ha.run pos pins s σ H _ I h) fun us s1 ⟨vs, H1, I1, r, q⟩ => ⟨I1.kIn, ?_⟩) he hpl
  exact run_makeSD M F hr hb hd (hx σ) I1 r q
end
end Dt
namespace Ow
open PySem PySem.Spec PyProof.Rows PyProof.V L2 StX
open PySem.W PySem.Calls
/-! ### x in o, o[x], len(o): the class of o has its own __contains__, __getitem__, __len__ -/
section
variable {X : Cx} {CX : CXT} {k : Nat} {C f : Addr} {sp : Sp} {E : XK}
def rOwnIn (C : Addr) (sp : Sp) (E : XK) (g : Bool → Bool) : R2 := fun x y H Q => ∃ a dx fs, y = .ref a ∧ H a = some (.ins C dx fs) ∧ sp [y, x] H (fun v H' => ∃ c, v = .bl c ∧ Q (.bl (g c)) H') E
theorem op_ownIn (M : Meth X.K C "__contains__" f) (F : FnR X.prog X.w X.K X.mg X.base CX k f sp) (hr : Room k X.A) (hx : Passes CX X E) : OpR X (compareOp .In) (rOwnIn C sp E id) := by
  intro pins s σ H x y v u Q I rx ry h
  obtain ⟨a, dx, fs, rfl, ha, q⟩ := h
  obtain rfl : u = Value.ref a := ry
  obtain ⟨ox, od, J, _⟩ := inst_of I ha
  obtain ⟨mm, Fm⟩ := I.fr
  refine in_K Fm I.ok.mod.kin J M.at_ M.fn ?_
  refine wpAny_mono (run_own (vs := [.ref a, x]) F hr hx I (.cons rfl (.cons rx .nil)) q) (fun r s' z => ?_) fun _ _ e => e
  obtain ⟨z', H', I', rz, c, ec, qz⟩ := z
  subst ec
  cases (show r = Value.bool c from rz)
  exact wpAny_truthy_bool ⟨.bl c, H', I', rfl, qz⟩
theorem op_ownNotIn (M : Meth X.K C "__contains__" f) (F : FnR X.prog X.w X.K X.mg X.base CX k f sp) (hr : Room k X.A) (hx : Passes CX X E) : OpR X (compareOp .NotIn) (rOwnIn C sp E fun b => !b) := by
  intro pins s σ H x y v u Q I rx ry h
  obtain ⟨a, dx, fs, rfl, ha, q⟩ := h
  obtain rfl : u = Value.ref a := ry
  obtain ⟨ox, od, J, _⟩ := inst_of I ha
  obtain ⟨mm, Fm⟩ := I.fr
  refine notIn_K Fm I.ok.mod.kin J M.at_ M.fn ?_
  refine wpAny_mono (run_own (vs := [.ref a, x]) F hr hx I (.cons rfl (.cons rx .nil)) q) (fun r s' z => ?_) fun _ _ e => e
  obtain ⟨z', H', I', rz, c, ec, qz⟩ := z
  subst ec
  cases (show r = Value.bool c from rz)
  exact wpAny_truthy_bool ⟨.bl (!c), H', I', rfl, qz⟩
theorem r_ownIn {C a dx : Addr} {fs : List (Str × V)} {sp : Sp} {E : XK} {g : Bool → Bool} {H : Hp} {Q : VK} {x : V} (ha : H a = some (.ins C dx fs)) (k : sp [.ref a, x] H (fun v H' => ∃ c, v = .bl c ∧ Q (.bl (g c)) H') E) : rOwnIn C sp E g x (.ref a) H Q := ⟨a, dx, fs, rfl, ha, k⟩
/-- o[x] -/
def rOwnIx (C : Addr) (sp : Sp) (E : XK) : R2 := fun x y H Q => ∃ a dx fs, x = .ref a ∧ H a = some (.ins C dx fs) ∧ sp [x, y] H Q E
theorem pe_ownIx {o i : Expr} {to ti : TE} {pos : Pos} (ho : PE X o to) (hi : PE X i ti) (M : Meth X.K C "__getitem__" f) (hfn : fnIn X.K f = true) (F : FnR X.prog X.w X.K X.mg X.base CX k f sp) (hr : Room (k + 1) X.A) (hx : Passes CX X E)
    (hs : ∀ v u, subscripted i true v u = runValue (.builtin "lifetime.subscript" ⟨[v, u], []⟩)) : PE X (.Subscript o i pos) (tOp (rOwnIx C sp E) to ti) := by
  refine ⟨fun pins s σ H Q I h => ?_⟩
  refine Subscript_ (binT ho hi I h fun v u s2 x y H2 I2 rx ry q => ?_)
  obtain ⟨a, dx, fs, rfl, ha, q⟩ := q
  obtain rfl : v = Value.ref a := rx
  obtain ⟨ox, od, J, _⟩ := inst_of I2 ha
  obtain ⟨mm, Fm⟩ := I2.fr
  have hr1 : Room k X.A.in1 := Room.in1 hr
  exact sub_K Fm I2.ok.mod.kin J M.at_ hfn M.fn (wpAny_call (SlX.run_at (us := [.ref a, u]) (ws := [.ref a, y]) F hr1 I2.env0.in1 hx I2 (.cons rfl (.cons ry .nil)) q)) (hs _ _)
theorem r_ownIx {C a dx : Addr} {fs : List (Str × V)} {sp : Sp} {E : XK} {H : Hp} {Q : VK} {y : V} (ha : H a = some (.ins C dx fs)) (k : sp [.ref a, y] H Q E) : rOwnIx C sp E (.ref a) y H Q := ⟨a, dx, fs, rfl, ha, k⟩
/-- len(o) -/
def rOwnLen (C : Addr) (sp : Sp) (E : XK) : List V → Hp → VK → Prop := fun xs H Q => ∃ a dx fs, xs = [.ref a] ∧ H a = some (.ins C dx fs) ∧ sp [.ref a] H (fun v H' => ∃ n : Int, v = .int n ∧ 0 ≤ n ∧ n < 2 ^ 63 ∧ Q (.int n) H') E
theorem call_lenOwn (M : Meth X.K C "__len__" f) (F : FnR X.prog X.w X.K X.mg X.base CX k f sp) (hr : Room (k + 1) X.A) (hx : Passes CX X E) : CallR X (.builtin "len") (rOwnLen C sp E) := by
  intro pins s σ H xs us Q I r h
  obtain ⟨a, dx, fs, rfl, ha, q⟩ := h
  obtain ⟨u, rfl, ru⟩ := r.one
  obtain rfl : u = Value.ref a := ru
  obtain ⟨ox, od, J, _⟩ := inst_of I ha
  obtain ⟨mm, Fm⟩ := I.fr
  have hr1 : Room k X.A.in1 := Room.in1 hr
  refine len_K Fm I.ok.mod.kin J M.at_ M.fn (wpAny_mono (wpAny_call (SlX.run_at (us := [.ref a]) (ws := [.ref a]) F hr1 I.env0.in1 hx I (.cons rfl .nil) q)) (fun u' s' z => ?_) fun _ _ x => x)
  obtain ⟨z', H', I', rz, n, en, n0, n1, qz⟩ := z
  subst en
  obtain ⟨t, e⟩ := (show ∃ t, u' = Value.int n t from rz)
  subst e
  exact ⟨⟨n0, n1⟩, .int n, H', I'.tok _, ⟨_, rfl⟩, qz⟩
theorem r_ownLen {C a dx : Addr} {fs : List (Str × V)} {sp : Sp} {E : XK} {H : Hp} {Q : VK} (ha : H a = some (.ins C dx fs)) (k : sp [.ref a] H (fun v H' => ∃ n : Int, v = .int n ∧ 0 ≤ n ∧ n < 2 ^ 63 ∧ Q (.int n) H') E) : rOwnLen C sp E [.ref a] H Q := ⟨a, dx, fs, rfl, ha, k⟩
end
/-! ### o == y, y no object of an own class -/
inductive Oth (H : Hp) : V → String → Prop where
  | int (i : Int) : Oth H (.int i) "int"
  | str (z : Str) : Oth H (.str z) "str"
  | tup {a : Addr} {xs : List V} (e : H a = some (.tup xs)) : Oth H (.ref a) "tuple"
section
variable {X : Cx} {CX : CXT} {k : Nat} {C f : Addr} {sp : Sp} {E : XK}
theorem oth_looks {M : Model} {pins : List (Addr × Obj)} {σ : L2.St} {H : Hp} {s : Shared} {y : V} {u : Value} {T : String} (I : Inv X pins σ H s) (ry : RelV y u) (o : Oth H y T) : Looks M s.heap (typeOf u) (.type T) := by
  cases o with
  | int i => obtain ⟨t, e⟩ := (show ∃ t, u = Value.int i t from ry); subst e; exact Looks.of_pure rfl
  | str z => obtain ⟨t, e⟩ := (show ∃ t, u = Value.str z t from ry); subst e; exact Looks.of_pure rfl
  | @tup a xs e =>
    cases (show u = Value.ref a from ry)
    obtain ⟨_, _, _, o, h1, h2, _⟩ := (show ObjOk X.prog X.w H s.heap a (.tup xs) from I.hok a _ e)
    have z := (Looks.ld (M := M) (part := none) h1)
    exact fun A Q E s' k q => wpAny_typeOf_ref (k _ _ h1) (by rw [h2]; exact q)
def rOwnX (K : Frag) (C : Addr) (sp : Sp) (E : XK) : R2 := fun x y H Q => ∃ a dx fs T, x = .ref a ∧ H a = some (.ins C dx fs) ∧ Oth H y T ∧ subIn K (.type T) (.ref C) = some false ∧ sp [x, y] H Q E
theorem op_ownEqX {op : CmpOp} {m : Str} (M : Meth X.K C m f) (F : FnR X.prog X.w X.K X.mg X.base CX k f sp) (hr : Room k X.A) (hx : Passes CX X E) (hu : X.A.units < cLine) (hm : (cmpInfo op).2.1 = m := by rfl)
    (ho : ∀ a b, compareOp op a b = richCompare op a b := by intro _ _; rfl) : OpR X (compareOp op) (rOwnX X.K C sp E) := by
  intro pins s σ H x y v u Q I rx ry h
  obtain ⟨a, dx, fs, T, rfl, ha, oy, hs, q⟩ := h
  obtain rfl : v = Value.ref a := rx
  obtain ⟨ox, od, J, _⟩ := inst_of I ha
  obtain ⟨mm, Fm⟩ := I.fr
  rw [ho]
  refine cmp_K hu Fm I.ok.mod.kin J (oth_looks I ry oy) (by unfold notFirst; rw [hs]; simp) (by rw [hm]; exact M.at_) M.fn ?_
  exact wpAny_mono (run_own (vs := [.ref a, y]) F hr hx I (.cons rfl (.cons ry .nil)) q) (fun _ _ z => cmpBack z) fun _ _ e => e
theorem r_ownX {K : Frag} {C a dx : Addr} {fs : List (Str × V)} {sp : Sp} {E : XK} {H : Hp} {Q : VK} {y : V} {T : String} (ha : H a = some (.ins C dx fs)) (o : Oth H y T) (hs : subIn K (.type T) (.ref C) = some false) (k : sp [.ref a, y] H Q E) : rOwnX K C sp E (.ref a) y H Q := ⟨a, dx, fs, T, rfl, ha, o, hs, k⟩
end
end Ow
namespace Ow
open PySem PySem.Spec PyProof.Rows PyProof.V L2 StX
open PySem.W PySem.Calls
/-! ### C.m(..), m a static method of the class C -/
/-- C.m is a static method: its record at p, its def at g -/
structure SMet (K : PySem.W.Frag) (C : Addr) (mc : Value) (m : Str) (p g : Addr) : Prop where
  at_ : PySem.W.findCls K (.ref C) mc m = some (.get (.builtin "staticmethod.__get__") (.ref p) .none (.ref C))
  rc : ∃ rest, PySem.W.recIn K p "staticmethod" = some (.ref g :: rest)
  kp : PySem.W.keepIn K (.ref g) = true
section
variable {X : Cx} {CX : CXT} {k : Nat} {C p g : Addr} {mc : Value} {sp : Sp} {E : XK} {o e : Expr} {es : List Expr} {m : Str} {pos apos : Pos} {ta : TE} {t : TA} {pl : Sem Bool} {fd : FuncData} {ps : List Str} {dvs : List V} {ds : List Value}
variable {pins : List (Addr × Obj)} {σ : L2.St} {H : Hp} {s : Shared} {A : Around} {Ex : Value → Shared → Prop}
theorem getsmet_ok {b : Bool} {Q : Value → Shared → Prop} (I : Inv X pins σ H s) (r : ClX.CRead X.K C mc) (k : SMet X.K C mc m p g) (h : ∀ s', Inv X pins σ H s' → Q (.ref g) s') : wpAny (model X.prog X.w) A (getAttr (.ref C) m b) Q Ex s := by
  obtain ⟨rest, hp⟩ := k.rc
  refine PySem.W.cls_bind I.kIn r.rd k.at_ ?_
  exact wpAny_call (PySem.W.sm_get (s := { s with toks := s.toks + 1 }) I.kIn hp (PySem.W.handed_on rfl (h _ (I.tok _))))
def tSMeth (C : Addr) (sp : Sp) (dvs : List V) (E : XK) (ta : TE) (t : TA) : TE := fun σ H Q => ta σ H fun x H1 => x = .ref C ∧ t σ H1 fun vs H2 => sp (vs ++ dvs) H2 Q E
theorem pe_smeth (he : PE X o ta) (r : ClX.CRead X.K C mc) (c : SMet X.K C mc m p g) (F : FnOk X.prog X.w X.K X.mg X.base CX k g fd ps sp) (hr : Room k X.A) (hb : Binds X.K fd ps ds) (hd : Vals dvs ds) (hx : Passes CX X E) (ha : PA X (e :: es) t)
    (hst : starEach (e :: es) X.env = (false, eval e X.env) :: starEach es X.env := by rfl) (hpl : (backTo pos (starEach es X.env)).any (·.1) = false := by rfl)
    (ht : eval (.Call (.Attribute o m apos) (e :: es) [] pos) X.env = (do
      let ov ← eval o X.env
      standAt apos.atName
      let (f, first) ← holding [ov] (getMethod ov m pl)
      callWith pos f first (backTo pos (starEach (e :: es) X.env)) (backToKw pos (keywordEach [] X.env))) := by rfl) :
    PE X (.Call (.Attribute o m apos) (e :: es) [] pos) (tSMeth C sp dvs E ta t) := by
  refine ⟨fun pins s σ H Q I h => ?_⟩
  refine PySem.W.methodCall_KW (pl := pl) (thn (he.run pins s σ H _ I h) fun u s1 ⟨x, H1, I1, rx, ex, q⟩ => ?_) ht
  subst ex
  obtain rfl : u = Value.ref C := rx
  refine PySem.W.method_cls I1.kIn r.ga (getsmet_ok I1 r c fun s2 I2 => ?_)
  exact PySem.W.callWith_K (h₀ := X.base) I2.ok.mod.kin c.kp (thn (ha.run pos _ s2 σ H1 _ I2 q) fun us s3 ⟨vs, H2, I3, rv, q2⟩ => ⟨I3.kIn, run_fn F hr hb hd hx I3 rv q2⟩) hst hpl
theorem r_smeth {C : Addr} {sp : Sp} {dvs : List V} {E : XK} {ta : TE} {t : TA} {σ : L2.St} {H : Hp} {Q : VK} (k : ta σ H fun x H1 => x = .ref C ∧ t σ H1 fun vs H2 => sp (vs ++ dvs) H2 Q E) : tSMeth C sp dvs E ta t σ H Q := k
end
end Ow
namespace Ow
open PySem PySem.Spec PyProof.Rows PyProof.V L2 StX
open PySem.W PySem.Calls
/-! ### n + x -/
section
open PySem.Builtin
theorem int_add_own (a : Int) (t : Tok) (x C dx : Addr) :
    Meets (Builtin.«int.__add__» ⟨[.int a t, .ref x], []⟩) (fun _ R s => s.heap.get? x = some (PySem.W.instObj C dx) ∧ R (.ok (.ret Value.notImplemented)) s) :=
  .of_wp fun prog w A R s ⟨hl, h⟩ => by
    obtain ⟨hp, g, d, tk, os⟩ := s
    wp_walk
    exact ⟨_, rfl, h⟩
theorem int_declines_add {prog : Program} {w : World} {A : Around} {E : Value → Shared → Prop} {s : Shared} {x C dx : Addr} {i : Int} {t : Tok} {Q : Option Value → Shared → Prop} (hx : s.heap.get? x = some (instObj C dx)) (q : Q none s) :
    wpAny (model prog w) A (tryMethod (.int i t) (PySem.dunder "add") (.ref x)) Q E s := by
  have h1 := @decl_gen prog w A E s (.int i t) (.ref x) "int" "int.__add__" (PySem.dunder "add") Builtin.«int.__add__» Q
  have h2 := h1 (typeIs_int _ _ _) 
  have h3 := h2 PySem.F.slot_int_add
  have h4 := h3 PySem.F.entry_int_add 
  have h5 := h4 (PySem.F.args_int_add_2 _ _)
  refine h5 ?_
  exact (int_add_own i t x C dx prog w A (wants (fun v s' => v = Value.notImplemented ∧ Q none s') E) s ⟨hx, rfl, q⟩)
section
variable {prog : Program} {w : World} {A : Around} {E : Value → Shared → Prop} {s : Shared} {K : Frag} {x C dx f : Addr} {od : Obj}
theorem int_own_add {i : Int} {t : Tok} {g : Addr} {Q : Value → Shared → Prop} (X : K.In s.heap) (I : InstAt s.heap x (instObj C dx) C (some od)) (hc : selfFirst K C = true) (hm : findIn K (.ref C) "__add__" = some (some (.ref g)))
    (hs : findIn K (.ref C) "__radd__" = some (some (.ref f))) (hf : isFn K (.ref f) = true) (hsub : subIn K (.ref C) (.type "int") = some false) (h : wpAny (model prog w) A (call (.ref f) [.ref x, .int i t]) (PySem.W.CmpBack Q) E s) :
    wpAny (model prog w) A (binaryOp .Add (.int i t) (.ref x)) Q E s := by
  obtain ⟨cd, rest, hcd, hmro⟩ := ksp_first hc
  have one := ksp_try (name := "__radd__") X I hs hf h
  have L1 : Looks (model prog w) s.heap (typeOf (.int i t)) (.type "int") := Looks.of_pure rfl
  have L2 : Looks (model prog w) s.heap (typeOf (.ref x)) (.ref C) := I.type
  obtain ⟨hh, g', d, tt, os⟩ := s
  have L3 : Looks (model prog w) hh (fillsNumberSlot (.type "int") "add") true := Looks.of_pure PySem.F.fills_int_add
  have L4 : Looks (model prog w) hh (fillsNumberSlot (.ref C) "add") true := fills_K X hcd hmro hm
  have L5 : Looks (model prog w) hh (isSubtype (.ref C) (.type "int")) false := looks_subIn X hsub
  have L7 : Looks (model prog w) hh (numberSlotInPython (.type "int") "add") false := Looks.of_pure rfl
  have hne : (Value.type "int" == Value.ref C) = false := Bool.eq_false_iff.mpr fun q => by cases beq_iff_eq.mp q
  unfold binaryOp binaryOp1
  refine wpAny_holding (wpAny_bind ?_)
  refine wpAny_bind (L1.at (wpAny_bind (L2.at (wpAny_bind (L3.at ?_)))))
  simp only [hne, Bool.false_eq_true, if_false]
  ksp_lk
  refine int_declines_add I.at_ ?_
  ksp_lk
  refine wpAny_mono one (fun r s' hr' => ?_) fun _ _ e => e
  obtain ⟨v, rfl, hq⟩ := hr'
  ksp_lk
  exact hq
end
end
section
variable {X : Cx} {CX : CXT} {k : Nat} {C f : Addr} {sp : Sp} {E : XK}
theorem op_intAdd {g : Addr} (sf : selfFirst X.K C = true) (M0 : Meth X.K C "__add__" g) (M : Meth X.K C "__radd__" f) (hs : subIn X.K (.ref C) (.type "int") = some false) (F : FnR X.prog X.w X.K X.mg X.base CX k f sp) (hr : Room k X.A) (hx : Passes CX X E) : OpR X (binaryOp .Add) (rIntOwn C sp E) := by
  intro pins s σ H x y v u Q I rx ry h
  obtain ⟨b, dx, fs, n, rfl, rfl, hb, q⟩ := h
  obtain ⟨t, rfl⟩ := rx
  obtain rfl : u = Value.ref b := ry
  obtain ⟨mA, O, _⟩ := ins_get I.hok hb
  obtain ⟨od, J, _⟩ := O.look
  exact int_own_add I.kIn J sf M0.at_ M.at_ M.fn hs (wpAny_mono (run_own (vs := [.ref b, .int n]) F hr hx I (.cons rfl (.cons ⟨t, rfl⟩ .nil)) q) (fun _ _ z => cmpBack z) fun _ _ e => e)
end
/-! ### n - x -/
section
open PySem.Builtin
theorem int_sub_own (a : Int) (t : Tok) (x C dx : Addr) :
    Meets (Builtin.«int.__sub__» ⟨[.int a t, .ref x], []⟩) (fun _ R s => s.heap.get? x = some (PySem.W.instObj C dx) ∧ R (.ok (.ret Value.notImplemented)) s) :=
  .of_wp fun prog w A R s ⟨hl, h⟩ => by
    obtain ⟨hp, g, d, tk, os⟩ := s
    wp_walk
    exact ⟨_, rfl, h⟩
theorem int_declines_sub {prog : Program} {w : World} {A : Around} {E : Value → Shared → Prop} {s : Shared} {x C dx : Addr} {i : Int} {t : Tok} {Q : Option Value → Shared → Prop} (hx : s.heap.get? x = some (instObj C dx)) (q : Q none s) :
    wpAny (model prog w) A (tryMethod (.int i t) (PySem.dunder "sub") (.ref x)) Q E s := by
  have h1 := @decl_gen prog w A E s (.int i t) (.ref x) "int" "int.__sub__" (PySem.dunder "sub") Builtin.«int.__sub__» Q
  have h2 := h1 (typeIs_int _ _ _) 
  have h3 := h2 PySem.F.slot_int_sub
  have h4 := h3 PySem.F.entry_int_sub 
  have h5 := h4 (PySem.F.args_int_sub_2 _ _)
  refine h5 ?_
  exact (int_sub_own i t x C dx prog w A (wants (fun v s' => v = Value.notImplemented ∧ Q none s') E) s ⟨hx, rfl, q⟩)
section
variable {prog : Program} {w : World} {A : Around} {E : Value → Shared → Prop} {s : Shared} {K : Frag} {x C dx f : Addr} {od : Obj}
theorem int_own_sub {i : Int} {t : Tok} {g : Addr} {Q : Value → Shared → Prop} (X : K.In s.heap) (I : InstAt s.heap x (instObj C dx) C (some od)) (hc : selfFirst K C = true) (hm : findIn K (.ref C) "__sub__" = some (some (.ref g)))
    (hs : findIn K (.ref C) "__rsub__" = some (some (.ref f))) (hf : isFn K (.ref f) = true) (hsub : subIn K (.ref C) (.type "int") = some false) (h : wpAny (model prog w) A (call (.ref f) [.ref x, .int i t]) (PySem.W.CmpBack Q) E s) :
    wpAny (model prog w) A (binaryOp .Sub (.int i t) (.ref x)) Q E s := by
  obtain ⟨cd, rest, hcd, hmro⟩ := ksp_first hc
  have one := ksp_try (name := "__rsub__") X I hs hf h
  have L1 : Looks (model prog w) s.heap (typeOf (.int i t)) (.type "int") := Looks.of_pure rfl
  have L2 : Looks (model prog w) s.heap (typeOf (.ref x)) (.ref C) := I.type
  obtain ⟨hh, g', d, tt, os⟩ := s
  have L3 : Looks (model prog w) hh (fillsNumberSlot (.type "int") "sub") true := Looks.of_pure PySem.F.fills_int_sub
  have L4 : Looks (model prog w) hh (fillsNumberSlot (.ref C) "sub") true := fills_K X hcd hmro hm
  have L5 : Looks (model prog w) hh (isSubtype (.ref C) (.type "int")) false := looks_subIn X hsub
  have L7 : Looks (model prog w) hh (numberSlotInPython (.type "int") "sub") false := Looks.of_pure rfl
  have hne : (Value.type "int" == Value.ref C) = false := Bool.eq_false_iff.mpr fun q => by cases beq_iff_eq.mp q
  unfold binaryOp binaryOp1
  refine wpAny_holding (wpAny_bind ?_)
  refine wpAny_bind (L1.at (wpAny_bind (L2.at (wpAny_bind (L3.at ?_)))))
  simp only [hne, Bool.false_eq_true, if_false]
  ksp_lk
  refine int_declines_sub I.at_ ?_
  ksp_lk
  refine wpAny_mono one (fun r s' hr' => ?_) fun _ _ e => e
  obtain ⟨v, rfl, hq⟩ := hr'
  ksp_lk
  exact hq
end
end
section
variable {X : Cx} {CX : CXT} {k : Nat} {C f : Addr} {sp : Sp} {E : XK}
theorem op_intSub {g : Addr} (sf : selfFirst X.K C = true) (M0 : Meth X.K C "__sub__" g) (M : Meth X.K C "__rsub__" f) (hs : subIn X.K (.ref C) (.type "int") = some false) (F : FnR X.prog X.w X.K X.mg X.base CX k f sp) (hr : Room k X.A) (hx : Passes CX X E) : OpR X (binaryOp .Sub) (rIntOwn C sp E) := by
  intro pins s σ H x y v u Q I rx ry h
  obtain ⟨b, dx, fs, n, rfl, rfl, hb, q⟩ := h
  obtain ⟨t, rfl⟩ := rx
  obtain rfl : u = Value.ref b := ry
  obtain ⟨mA, O, _⟩ := ins_get I.hok hb
  obtain ⟨od, J, _⟩ := O.look
  exact int_own_sub I.kIn J sf M0.at_ M.at_ M.fn hs (wpAny_mono (run_own (vs := [.ref b, .int n]) F hr hx I (.cons rfl (.cons ⟨t, rfl⟩ .nil)) q) (fun _ _ z => cmpBack z) fun _ _ e => e)
end
end Ow
namespace Dt
open PySem PySem.Spec PyProof.Rows PyProof.V L2 StX
/-! ### an object called within a try -/
section
variable {X : Cx} {CX : CXT} {C g : Addr} {k : Nat} {sp : Sp} {fe e : Expr} {es : List Expr} {tf : TE} {t : TA} {pos : Pos} {pins : List (Addr × Obj)} {σ : L2.St} {H : Hp} {s : Shared}
theorem run_fnRD {E : XK} {f : Addr} {Q : VK} {us : List Value} {vs : List V} (F : FnR X.prog X.w X.K X.mg X.base CX k f sp) (hr : Room k X.A) (hx : PassesAt CX X σ E) (I : Inv X pins σ H s) (r : L2.Vals vs us) (h : sp vs H Q E) :
    codeAny (model X.prog X.w) X.A (.call (.ref f) ⟨us, []⟩) (fun r s' => match r with | .ok (.ret v) => EP X pins σ Q v s' | .ok _ => False | .error e => X.xe e s') s := by
  refine codeAny_mono (F X.A X.stack s H us vs Q E hr I.env0 r h) fun r s' hq => ?_
  cases r with
  | error e => exact hx pins H s e s' I hq
  | ok fl =>
    cases fl with
    | ret v => exact I.after hq
    | next => exact False.elim hq
    | brk => exact False.elim hq
    | cont => exact False.elim hq
def tCallOSD (C : Addr) (sp : Sp) (E : L2.St → XK) (tf : TE) (t : TA) : TE := fun σ H Q => tf σ H fun y H1 => ∃ a, y = V.ref a ∧ t σ H1 fun vs H2 => (∃ dx fs, H2 a = some (.ins C dx fs)) ∧ sp (V.ref a :: vs) H2 Q (E σ)
theorem pe_callOSD {E : L2.St → XK} (hf : PE X fe tf) (c : CallO X.K C g) (F : FnR X.prog X.w X.K X.mg X.base CX k g sp) (hr : Room k X.A) (hx : ∀ σ, PassesAt CX X σ (E σ)) (ha : PA X (e :: es) t)
    (ht : eval (.Call fe (e :: es) [] pos) X.env = (do callWith pos (← eval fe X.env) [] (backTo pos (starEach (e :: es) X.env)) (backToKw pos (keywordEach [] X.env))) := by rfl)
    (he : starEach (e :: es) X.env = (false, eval e X.env) :: starEach es X.env := by rfl) (hpl : (backTo pos (starEach es X.env)).any (·.1) = false := by rfl) : PE X (.Call fe (e :: es) [] pos) (tCallOSD C sp E tf t) := by
  refine ⟨fun pins s σ H Q I h => ?_⟩
  refine Call_ (thn (hf.run pins s σ H _ I h) fun u s1 ⟨y, H1, I1, ry, a, ey, q⟩ => ?_) ht
  subst ey
  obtain rfl : u = Value.ref a := ry
  refine callO_with (thn (ha.run pos pins s1 σ H1 _ I1 q) fun us s2 ⟨vs, H2, I2, r, hi, q2⟩ => ?_) he hpl
  obtain ⟨ox, od, J, hd⟩ := insC_at I2 (.inr hi)
  exact ⟨⟨C, ox, od, J, hd⟩, wpAny_call (PySem.W.kco_code I2.kIn J hd c.at_ c.fn c.fi (run_fnRD (us := .ref a :: us) (vs := .ref a :: vs) F hr (hx σ) I2 (.cons rfl r) q2))⟩
theorem r_callOSD {E : L2.St → XK} {Q : VK} (k : tf σ H fun y H1 => ∃ a, y = V.ref a ∧ t σ H1 fun vs H2 => (∃ dx fs, H2 a = some (.ins C dx fs)) ∧ sp (V.ref a :: vs) H2 Q (E σ)) : tCallOSD C sp E tf t σ H Q := k
end
end Dt
namespace Kw
open PySem PySem.Spec PyProof.Rows PyProof.V L2 StX
/-! ### def f(*a, **k), called with keywords -/
theorem push_update {h : Heap} {o : Obj} {f : Obj → Obj} : (h.push o).update h.objs.size f = h.push (f o) := by
  cases h with
  | mk objs l =>
    show Heap.mk ((objs.push o).modify objs.size f) l = Heap.mk (objs.push (f o)) l
    congr 1
    apply Array.ext
    · simp
    · intro i h1 h2
      simp only [Array.getElem_modify, Array.getElem_push]
      by_cases e : i < objs.size
      · rw [dif_pos e, dif_pos e, if_neg (by omega)]
      · rw [dif_neg e, dif_neg e, if_pos (by simp at h2; omega)]
section
variable {prog : Program} {w : World} {A : Around} {E : Value → Shared → Prop}
theorem ns_step {h : Heap} {s : Shared} {es : List DictEntry} {n : Nat} {k : Str} {v : Value} {Q : Unit → Shared → Prop} (hh : s.heap = h.push (PySem.W.dictOf es n))
    (hs : ∀ e ∈ es, e.key.isStr k = false) (hr : ∀ e ∈ es, e.refKey = false)
    (q : Q () { s with heap := h.push (PySem.W.dictOf (es ++ [⟨PyData.keyHash w.params k, .str k s.toks, v⟩]) (n + 1)), toks := s.toks + 1 }) :
    wpAny (model prog w) A (nsSet h.objs.size k v) Q E s := by
  have e1 : es.any (·.key.isStr k) = false := by
    cases q : es.any (·.key.isStr k) with
    | false => rfl
    | true => obtain ⟨e, he, z⟩ := List.any_eq_true.mp q; rw [hs e he] at z; cases z
  have e2 : es.any (·.refKey) = false := by
    cases q : es.any (·.refKey) with
    | false => rfl
    | true => obtain ⟨e, he, z⟩ := List.any_eq_true.mp q; rw [hr e he] at z; cases z
  have e : Obj.putName k (PyData.keyHash w.params k) (.str k s.toks) v (PySem.W.dictOf es n) = PySem.W.dictOf (es ++ [⟨PyData.keyHash w.params k, .str k s.toks, v⟩]) (n + 1) := by
    rw [PySem.W.putName_dict, PySem.W.putL_new hs]
    show PySem.W.dictOf _ (if es.any (·.key.isStr k) then n else n + 1) = _
    rw [e1, if_neg Bool.false_ne_true]
  have D : s.heap.get? h.objs.size = some (PySem.W.dictOf es n) := by rw [hh]; exact Heap.get?_push_size _ rfl
  have c : aRefKeyMayBeTheName k es.toArray = false := by
    rw [PySem.aRefKeyMayBeTheName_at, ← Array.any_toList, ← Array.any_toList]
    show (!es.any (·.key.isStr k) && es.any (·.refKey)) = false
    rw [e2, Bool.and_false]
  unfold nsSet
  refine wpAny_bind (wpAny_bind (wpAny_askSetting (wpAny_pure (wpAny_bind (wpAny_mkText (wpAny_bind (wpAny_loadPart D ?_)))))))
  dsimp only
  rw [c]
  refine wpAny_updatePart D ?_
  show Q () { s with heap := s.heap.update h.objs.size _, toks := s.toks + 1 }
  rw [hh, push_update]
  show Q () { s with heap := h.push (Obj.putName k (PyData.keyHash w.params k) (.str k s.toks) v (PySem.W.dictOf es n)), toks := s.toks + 1 }
  rw [e]
  exact q
theorem fill {Q : PUnit → Shared → Prop} {h : Heap} : ∀ (ex : List (Str × Value)) (s : Shared) (es : List DictEntry) (n : Nat), s.heap = h.push (PySem.W.dictOf es n) →
    (∀ e ∈ es, ∀ x ∈ ex, e.key.isStr x.1 = false) → (∀ e ∈ es, e.refKey = false) → (ex.map (·.1)).Nodup →
    Q ⟨⟩ { s with heap := h.push (PySem.W.dictOf (es ++ PySem.W.kwEs w.params s.toks ex) (n + ex.length)), toks := s.toks + ex.length } →
    wpAny (model prog w) A (forIn ex PUnit.unit fun x _ => (nsSet h.objs.size x.1 x.2 >>= fun _ => pure (ForInStep.yield PUnit.unit))) Q E s
  | [], s, es, n, hh, _, _, _, q => by
    rw [List.forIn_nil]
    refine wpAny_pure ?_
    have e : s = { s with heap := h.push (PySem.W.dictOf (es ++ PySem.W.kwEs w.params s.toks []) (n + 0)), toks := s.toks + 0 } := by
      show s = { s with heap := h.push (PySem.W.dictOf (es ++ []) (n + 0)), toks := s.toks + 0 }
      rw [List.append_nil, Nat.add_zero, Nat.add_zero, ← hh]
    rw [e]; exact q
  | x :: r, s, es, n, hh, hs, hr, hn, q => by
    obtain ⟨hn1, hn2⟩ := List.nodup_cons.mp (show (x.1 :: r.map (·.1)).Nodup from hn)
    rw [List.forIn_cons]
    refine wpAny_bind (wpAny_bind (ns_step hh (fun e he => hs e he x (.head _)) hr (wpAny_pure ?_)))
    show wpAny (model prog w) A (forIn r PUnit.unit fun x _ => (nsSet h.objs.size x.1 x.2 >>= fun _ => pure (ForInStep.yield PUnit.unit))) Q E _
    refine fill r _ (es ++ [⟨PyData.keyHash w.params x.1, .str x.1 s.toks, x.2⟩]) (n + 1) rfl (fun e he y hy => ?_) (fun e he => ?_) hn2 ?_
    · rcases List.mem_append.mp he with he | he
      · exact hs e he y (.tail _ hy)
      · obtain rfl := List.mem_singleton.mp he
        show (x.1 == y.1) = false
        exact beq_eq_false_iff_ne.mpr fun q => hn1 (by rw [q]; exact List.mem_map_of_mem hy)
    · rcases List.mem_append.mp he with he | he
      · exact hr e he
      · obtain rfl := List.mem_singleton.mp he
        rfl
    · have t1 : s.toks + 1 + r.length = s.toks + (r.length + 1) := by omega
      have t2 : n + 1 + r.length = n + (r.length + 1) := by omega
      show Q ⟨⟩ { s with heap := h.push (PySem.W.dictOf ((es ++ [_]) ++ PySem.W.kwEs w.params (s.toks + 1) r) (n + 1 + r.length)), toks := s.toks + 1 + r.length }
      rw [t1, t2, List.append_assoc]
      exact q
end
/-- the keywords as the dict holds them -/
def kwD (ks : List Str) (zs : List V) : List (Key × V) := (ks.map (Sum.inr (α := Int))).zip zs
section
variable {P : Program} {w : World} {H : Hp}
theorem kw_kv : ∀ {ks : List Str} {zs : List V} {ws : List Value}, L2.Vals zs ws → KV (kwD ks zs) ((ks.map (Sum.inr (α := Int))).zip ws)
  | [], _, _, _ => .nil
  | _ :: _, [], [], _ => .nil
  | k :: ks, z :: zs, w :: ws, .cons a r => .cons ⟨rfl, a⟩ (kw_kv (ks := ks) r)
theorem kw_pairs : ∀ {ks : List Str} {ws : List Value} {t : Tok}, ks.length = ws.length → Pairs (mixKind P w) (PySem.W.kwEs w.params t (ks.zip ws)) ((ks.map (Sum.inr (α := Int))).zip ws)
  | [], [], _, _ => .nil
  | k :: ks, v :: ws, t, h => .cons (keyIs_str k t) rfl (kw_pairs (by simpa using h))
theorem kw_keys {ks : List Str} {ws : List Value} (h : ks.length = ws.length) : ((ks.map (Sum.inr (α := Int))).zip ws).map (·.1) = ks.map Sum.inr := by
  rw [List.map_fst_zip]; rw [List.length_map]; omega
theorem dk_filled {h : Heap} {ks : List Str} {zs : List V} {ws : List Value} {t : Tok} {n : Nat} (hb : sysModules < h.objs.size) (hl : ks.length = ws.length) (nd : ks.Nodup) (hz : ks.length ≤ sizeLine) (r : L2.Vals zs ws) :
    ObjOk P w H (h.push (PySem.W.dictOf (PySem.W.kwEs w.params t (ks.zip ws)) n)) h.objs.size (.dK (kwD ks zs)) := by
  refine ⟨?_, beq_eq_false_iff_ne.mpr (Ne.symm (Nat.ne_of_lt hb)), _, kw_kv r, Heap.dictOf_iff.mpr ⟨_, Heap.get?_push_size _ rfl, (PySem.W.kwEs w.params t (ks.zip ws)).toArray, n, ⟨rfl, rfl, rfl⟩, rfl, fun e he => ?_, kw_pairs hl, ?_⟩⟩
  · unfold kwD; rw [List.length_zip, List.length_map]; omega
  · obtain ⟨k, u, hk, hh⟩ := PySem.W.kwEs_key (ks.zip ws) t e (List.mem_toArray.mp he)
    exact ⟨Sum.inr k, by rw [hk]; exact keyIs_str k u, hh.trans rfl⟩
  · rw [kw_keys hl]
    exact List.Pairwise.map _ (fun (a b : Str) (e : a ≠ b) (g : (Sum.inr a : Key) = Sum.inr b) => e (Sum.inr.inj g)) nd
end
/-- a call with the keywords ks -/
def FnKw (P : Program) (w : World) (K : PySem.W.Frag) (mg : Str → Option Value) (base : Heap) (CX : CXT) (k : Nat) (f : Addr) (ks : List Str) (sp : List V → List V → Hp → VK → XK → Prop) : Prop :=
  ∀ (A : Around) (outer : List Env) (s : Shared) (H : Hp) (us ws : List Value) (vs zs : List V) (Q : VK) (E : XK), Room k A → Env0 P w K mg base A outer s H → L2.Vals vs us → L2.Vals zs ws → zs.length = ks.length → sp vs zs H Q E →
    codeAny (model P w) A (.call (.ref f) ⟨us, ks.zip ws⟩) (CR CX outer P w H s Q E) s
section
variable {P : Program} {w : World} {K : PySem.W.Frag} {mg : Str → Option Value} {base : Heap} {CX : CXT} {k : Nat} {f : Addr} {name qual : Str} {params : Arguments} {body : List Stmt} {scope : Scope} {dV kV doc pm cdv ct oc : Value} {an od : Option Addr} {osl : Array (Option Value)} {N : List Str} {sp : Sp}
theorem fn_kw {pv pd : Str} {ks : List Str} (lk : K.lookup f = some ⟨oc, od, .func (PySem.W.fnOf name qual params body scope dV kV doc pm an cdv ct), osl⟩) (hcd : PySem.W.codeIn K cdv qual = true) (S : FnScope N [pv, pd] scope) (hCX : CXUp CX) (nd : ks.Nodup) (hkz : ks.length ≤ sizeLine)
    (hb : ∀ us ws : List Value, ws.length = ks.length → bindArgs (PySem.W.fnOf name qual params body scope dV kV doc pm an cdv ct) ⟨us, ks.zip ws⟩ =
      (newTuple us >>= fun t => (alloc ({ cls := .type "dict", data := .dict #[] } : Obj) : Sem Addr) >>= fun d => (forIn (ks.zip ws) PUnit.unit fun x _ => (nsSet d x.1 x.2 >>= fun _ => pure (ForInStep.yield PUnit.unit))) >>= fun _ => pure [(pv, t), (pd, Value.ref d)]))
    (hbody : ∀ (A : Around) (outer : List Env) (s : Shared) (H : Hp) (vs : List V) (Q : VK) (E : XK), Room k (A.deeper (envOfC qual scope s.heap.objs.size f cdv)) → sp vs H Q E →
      ∃ t, PSs (cxOf CX P w K mg base N qual scope f cdv A outer s H E) body t ∧ t { nx := fun _ H' => Q .non H', rt := Q } (start N vs) H) :
    FnKw P w K mg base CX (k + 1) f ks (fun vs zs H Q E => vs.length ≤ sizeLine ∧ ∀ p d, H p = Option.none → H d = Option.none → d ≠ p → sp [V.ref p, V.ref d] (upd (upd H p (.tup vs)) d (.dK (kwD ks zs))) Q E) := by
  intro A outer s H us ws vs zs Q E hr e0 r rz hl ⟨hz, hq⟩
  have hn : H s.heap.objs.size = Option.none := e0.hok.fresh (Nat.le_refl _)
  have hl2 : us.length ≤ sizeLine := by rw [← r.length]; exact hz
  have hlw : ws.length = ks.length := by rw [← rz.length]; exact hl
  refine run_bnd lk hcd S hr e0 (G := fun xs H2 => ∃ p d, H p = Option.none ∧ H d = Option.none ∧ d ≠ p ∧ xs = [V.ref p, V.ref d] ∧ H2 = upd (upd H p (.tup vs)) d (.dK (kwD ks zs))) (fun A' Ex Q' h => ?_) fun s2 H2 xs ⟨p, d, hp, hd, hne, ex, eH⟩ hr' => ?_
  · rw [hb us ws hlw]
    refine wpAny_bind (wpAny_newTuple (wpAny_bind (wpAny_alloc ?_)) hl2)
    have new : ObjOk P w (upd H s.heap.objs.size (.tup vs)) (s.heap.push ({ cls := .type "tuple", data := .seq us.toArray } : Obj)) s.heap.objs.size (.tup vs) := ⟨hz, us, r, ⟨_, Heap.get?_push_size _ rfl, rfl, _, rfl⟩⟩
    have e1 := env0_laid e0 new
    have un1 := un_laid (fs := frs outer) (s := s) (o := ({ cls := .type "tuple", data := .seq us.toArray } : Obj)) (u := .tup vs) hn
    have hn2 := e1.hok.fresh (Nat.le_refl _)
    refine wpAny_bind (fill (h := s.heap.push ({ cls := .type "tuple", data := .seq us.toArray } : Obj)) (ks.zip ws) _ [] 0 rfl (fun _ he => nomatch he) (fun _ he => nomatch he) (by rw [List.map_fst_zip (by omega)]; exact nd) (wpAny_pure ?_))
    have e2 := env0_laid (u := .dK (kwD ks zs)) (o := PySem.W.dictOf ([] ++ PySem.W.kwEs w.params s.toks (ks.zip ws)) (0 + (ks.zip ws).length)) e1 (dk_filled (env0_big e1) hlw.symm nd hkz rz)
    have un2 := un1.trans (un_laid (fs := frs outer) (s := { s with heap := s.heap.push ({ cls := .type "tuple", data := .seq us.toArray } : Obj) }) (o := PySem.W.dictOf ([] ++ PySem.W.kwEs w.params s.toks (ks.zip ws)) (0 + (ks.zip ws).length)) (u := .dK (kwD ks zs)) hn2)
    have sz : (s.heap.push ({ cls := .type "tuple", data := .seq us.toArray } : Obj)).objs.size = s.heap.objs.size + 1 := Heap.size_push _ _
    have ne : (s.heap.push ({ cls := .type "tuple", data := .seq us.toArray } : Obj)).objs.size ≠ s.heap.objs.size := by
      rw [sz]
      exact Nat.succ_ne_self _
    have hd : H (s.heap.push ({ cls := .type "tuple", data := .seq us.toArray } : Obj)).objs.size = Option.none := e0.hok.fresh (by rw [sz]; exact Nat.le_succ _)
    exact h _ _ [V.ref s.heap.objs.size, V.ref (s.heap.push ({ cls := .type "tuple", data := .seq us.toArray } : Obj)).objs.size] [Value.ref s.heap.objs.size, Value.ref (s.heap.push ({ cls := .type "tuple", data := .seq us.toArray } : Obj)).objs.size] ⟨e2.frames, e2.mod, e2.bs, e2.bsz, e2.funs, e2.frf, e2.hok, e2.bare⟩ un2 rfl
      (fun e s' => hCX outer s H _ _ E e s' un2 (fun b o q => Heap.get?_push_of_some _ (Heap.get?_push_of_some _ q)) rfl) (.cons rfl (.cons rfl .nil)) rfl ⟨_, _, hn, hd, ne, rfl, rfl⟩
  · subst ex eH
    exact hbody A outer s2 _ _ Q E hr' (hq p d hp hd hne)
end
/-! ### the call, in plain code and within a try -/
def tCallKw (m : Nat) (sp : List V → List V → Hp → VK → XK → Prop) (E : L2.St → XK) (t tk : TA) : TE := fun σ H Q => t σ H fun vs H1 => tk σ H1 fun zs H2 => zs.length = m ∧ sp vs zs H2 Q (E σ)
section
variable {X : Cx} {CX : CXT} {k : Nat} {f : Addr} {ks : List Str} {sp : List V → List V → Hp → VK → XK → Prop} {x : Str} {p pos : Pos} {e : Expr} {es : List Expr} {kws : List Keyword} {t tk : TA}
theorem run_fnKw {E : XK} {pins : List (Addr × Obj)} {σ : L2.St} {H : Hp} {s : Shared} {Q : VK} {us ws : List Value} {vs zs : List V} (F : FnKw X.prog X.w X.K X.mg X.base CX k f ks sp) (hr : Room k X.A) (hx : PassesAt CX X σ E)
    (I : Inv X pins σ H s) (r : L2.Vals vs us) (rz : L2.Vals zs ws) (l2 : zs.length = ks.length) (h : sp vs zs H Q E) : wpAny (model X.prog X.w) X.A (call (.ref f) us (ks.zip ws)) (EP X pins σ Q) X.xe s := by
  refine wpAny_call (codeAny_mono (F X.A X.stack s H us ws vs zs Q E hr I.env0 r rz l2 h) fun r s' hq => ?_)
  cases r with
  | error e => exact hx pins H s e s' I hq
  | ok fl =>
    cases fl with
    | ret u => exact I.after hq
    | next => exact False.elim hq
    | brk => exact False.elim hq
    | cont => exact False.elim hq
theorem pe_callKw {E : L2.St → XK} (F : FnKw X.prog X.w X.K X.mg X.base CX k f ks sp) (hr : Room k X.A) (hg : Gl X x) (hm : X.mg x = some (.ref f)) (hk : PySem.W.keepIn X.K (.ref f) = true) (hx : ∀ σ, PassesAt CX X σ (E σ))
    (ha : PA X (e :: es) t) (hkw : PK X kws tk) (hall : (backToKw pos (keywordEach kws X.env)).all (·.1.isSome) = true := by rfl) (hks : (backToKw pos (keywordEach kws X.env)).filterMap (·.1) = ks := by rfl)
    (hdb : (x == ("__debug__" : Str)) = false := by decide) (he : starEach (e :: es) X.env = (false, eval e X.env) :: starEach es X.env := by rfl)
    (hpl : ((backTo pos (starEach (e :: es) X.env)).any (·.1) || (backToKw pos (keywordEach kws X.env)).any (·.1.isNone)) = false := by rfl) :
    PE X (.Call (.Name x p) (e :: es) kws pos) (tCallKw ks.length sp E t tk) := by
  refine ⟨fun pins s σ H Q I h => ?_⟩
  refine wpAny_Call_Name_kw (ld_glob I hg hm ?_ hdb)
  refine PySem.W.callWith_KW (h₀ := X.base) I.ok.mod.kin hk hall (thn (ha.run pos pins s σ H _ I h) fun us s1 ⟨vs, H1, I1, r, q⟩ => ?_) hpl he
  refine thn (hkw.run pos pins s1 σ H1 _ I1 q) fun ws s2 ⟨zs, H2, I2, rz, l2, q2⟩ => ⟨I2.kIn, ?_⟩
  rw [hks]
  exact run_fnKw F hr (hx σ) I2 r rz l2 q2
theorem pe_callKw0 {E : L2.St → XK} (F : FnKw X.prog X.w X.K X.mg X.base CX k f ks sp) (hr : Room k X.A) (hg : Gl X x) (hm : X.mg x = some (.ref f)) (hk : PySem.W.keepIn X.K (.ref f) = true) (hx : ∀ σ, PassesAt CX X σ (E σ))
    (hkw : PK X kws tk) (hall : (backToKw pos (keywordEach kws X.env)).all (·.1.isSome) = true := by rfl) (hks : (backToKw pos (keywordEach kws X.env)).filterMap (·.1) = ks := by rfl)
    (hdb : (x == ("__debug__" : Str)) = false := by decide)
    (hpl : ((backTo pos (starEach [] X.env)).any (·.1) || (backToKw pos (keywordEach kws X.env)).any (·.1.isNone)) = false := by rfl) :
    PE X (.Call (.Name x p) [] kws pos) (tCallKw ks.length sp E tNil tk) := by
  refine ⟨fun pins s σ H Q I h => ?_⟩
  refine wpAny_Call_Name_kw (ld_glob I hg hm ?_ hdb)
  refine PySem.W.callWith_KW0 (h₀ := X.base) I.ok.mod.kin hk hall (thn (hkw.run pos pins s σ H _ I h) fun ws s2 ⟨zs, H2, I2, rz, l2, q2⟩ => ⟨I2.kIn, ?_⟩) hpl
  rw [hks]
  exact run_fnKw (us := []) (vs := []) F hr (hx σ) I2 .nil rz l2 q2
theorem r_callKw {vs : List V} {E : L2.St → XK} {m : Nat} {σ : L2.St} {H : Hp} {Q : VK} (k : t σ H fun vs H1 => tk σ H1 fun zs H2 => zs.length = m ∧ sp vs zs H2 Q (E σ)) : tCallKw m sp E t tk σ H Q := k
/-- the context where nothing gets out, for every σ -/
theorem passAt0 {X : Cx} {E : L2.St → XK} (σ : L2.St) : PassesAt CX0 X σ (E σ) := fun _ _ _ _ _ _ h => False.elim h
end
end Kw
namespace Kw
open PySem PySem.Spec PyProof.Rows PyProof.V L2 StX
section
variable {P : Program} {w : World} {K : PySem.W.Frag} {mg : Str → Option Value} {base : Heap} {x qual : Str} {st : Stmt} {f : Addr} {fd : FuncData} {N : List Str} {k : Nat} {sp : Sp} {pv pd : Str} {ks : List Str}
/-- what binding does: a new tuple, a new dict, filled -/
def KwTo (pv pd : Str) (us : List Value) (kw : List (Str × Value)) : Sem (List (Str × Value)) :=
  newTuple us >>= fun t => (alloc ({ cls := .type "dict", data := .dict #[] } : Obj) : Sem Addr) >>= fun d => (forIn kw PUnit.unit fun x _ => (nsSet d x.1 x.2 >>= fun _ => pure (ForInStep.yield PUnit.unit))) >>= fun _ => pure [(pv, t), (pd, Value.ref d)]
def KwB (x qual : Str) (st : Stmt) (pv pd : Str) (ks : List Str) : Prop := ∀ (kV doc pm : Value) (an : Option Addr) (cdv ct : Value) (us ws : List Value), ws.length = ks.length →
  bindArgs (PySem.W.fnOf x qual (defArgs st) (defBody st) (defScope st) .none kV doc pm an cdv ct) ⟨us, ks.zip ws⟩ = KwTo pv pd us (ks.zip ws)
def kwSp (ks : List Str) (sp : Sp) : List V → List V → Hp → VK → XK → Prop := fun vs zs H Q E => vs.length ≤ sizeLine ∧ ∀ p d, H p = Option.none → H d = Option.none → d ≠ p → sp [V.ref p, V.ref d] (upd (upd H p (.tup vs)) d (.dK (kwD ks zs))) Q E
theorem Fun.okKw (F : Fun K x qual st f fd) (S : FnScope N [pv, pd] (defScope st)) (nd : ks.Nodup) (hkz : ks.length ≤ sizeLine) (hb : KwB x qual st pv pd ks)
    (hbody : ∀ (cdv : Value) (A : Around) (outer : List Env) (s : Shared) (H : Hp) (vs : List V) (Q : VK) (E : XK), Room k (A.deeper (envOfC qual (defScope st) s.heap.objs.size f cdv)) → sp vs H Q E →
      ∃ t, PSs (cxOf CX0 P w K mg base N qual (defScope st) f cdv A outer s H E).nox (defBody st) t ∧ t { nx := fun _ H' => Q .non H', rt := Q } (start N vs) H) : FnKw P w K mg base CX0 (k + 1) f ks (kwSp ks sp) := by
  obtain ⟨oc, od, kV, doc, pm, an, cdv, ct, osl, rfl, lk, hcd⟩ := F.ex
  refine fn_kw lk hcd S cxUp_none nd hkz (fun us ws h => hb kV doc pm an cdv ct us ws h) fun A outer s H vs Q E hr hsp => ?_
  obtain ⟨t, h, q⟩ := hbody cdv A outer s H vs Q E hr hsp
  exact ⟨t, h.nox, q⟩
theorem Fun.okKwX (F : Fun K x qual st f fd) (S : FnScope N [pv, pd] (defScope st)) (nd : ks.Nodup) (hkz : ks.length ≤ sizeLine) (hb : KwB x qual st pv pd ks)
    (hbody : ∀ (cdv : Value) (A : Around) (outer : List Env) (s : Shared) (H : Hp) (vs : List V) (Q : VK) (E : XK), Room k (A.deeper (envOfC qual (defScope st) s.heap.objs.size f cdv)) → sp vs H Q E →
      ∃ t, PSs (cxOf (L2.CX P w) P w K mg base N qual (defScope st) f cdv A outer s H E) (defBody st) t ∧ t { nx := fun _ H' => Q .non H', rt := Q } (start N vs) H) : FnKw P w K mg base (L2.CX P w) (k + 1) f ks (kwSp ks sp) := by
  obtain ⟨oc, od, kV, doc, pm, an, cdv, ct, osl, rfl, lk, hcd⟩ := F.ex
  exact fn_kw lk hcd S cxUp nd hkz (fun us ws h => hb kV doc pm an cdv ct us ws h) fun A outer s H vs Q E hr hsp => hbody cdv A outer s H vs Q E hr hsp
/-- without keywords -/
theorem Fun.okStarKw (F : Fun K x qual st f fd) (S : FnScope N [pv, pd] (defScope st))
    (hb : ∀ (kV doc pm : Value) (an : Option Addr) (cdv ct : Value) (us : List Value), bindArgs (PySem.W.fnOf x qual (defArgs st) (defBody st) (defScope st) .none kV doc pm an cdv ct) ⟨us, []⟩ =
      (newTuple us >>= fun t => (alloc ({ cls := .type "dict", data := .dict #[] } : Obj) : Sem Addr) >>= fun d => pure [(pv, t), (pd, Value.ref d)]))
    (hbody : ∀ (cdv : Value) (A : Around) (outer : List Env) (s : Shared) (H : Hp) (vs : List V) (Q : VK) (E : XK), Room k (A.deeper (envOfC qual (defScope st) s.heap.objs.size f cdv)) → sp vs H Q E →
      ∃ t, PSs (cxOf CX0 P w K mg base N qual (defScope st) f cdv A outer s H E).nox (defBody st) t ∧ t { nx := fun _ H' => Q .non H', rt := Q } (start N vs) H) :
    FnR P w K mg base CX0 (k + 1) f (fun vs H Q E => vs.length ≤ sizeLine ∧ ∀ p d, H p = Option.none → H d = Option.none → d ≠ p → sp [V.ref p, V.ref d] (upd (upd H p (.tup vs)) d (.dK [])) Q E) := by
  obtain ⟨oc, od, kV, doc, pm, an, cdv, ct, osl, rfl, lk, hcd⟩ := F.ex
  have z := fn_starkw (ps := []) (pv := pv) (pd := pd) (k := k) (sp := sp) (P := P) (w := w) (mg := mg) (base := base) (N := N) lk hcd S cxUp_none (fun us rest h => by
    have e : us = [] := List.length_eq_zero_iff.mp h
    subst e
    exact hb kV doc pm an cdv ct rest) fun A outer s H vs Q E hr hsp => by
      obtain ⟨t, h, q⟩ := hbody cdv A outer s H vs Q E hr hsp
      exact ⟨t, h.nox, q⟩
  intro A outer s H us vs Q E hr e0 r ⟨h1, h2⟩
  exact z A outer s H us vs Q E hr e0 r ⟨[], vs, rfl, rfl, h1, h2⟩
end
end Kw
namespace Kw
open PySem PySem.Spec PyProof.Rows PyProof.V L2 StX
/-! ### sum(t) of a tuple of ints -/
theorem sum_tupG {prog : Program} {w : World} {A : Around} {E : Value → Shared → Prop} {s : Shared} {l : Addr} {xs : Array (Int × Tok)} {Q : Value → Shared → Prop} (hh : A.handled = none) (hl : s.heap.IsTuple l (intItems xs))
    (h : ∀ h' tk t', (∀ b o, s.heap.get? b = some o → h'.get? b = some o) → Q (.int (preSum (numAt xs) xs.size) t') { s with heap := h', toks := tk }) :
    wpAny (model prog w) A (call (.builtin "sum") [.ref l]) Q E s := by
  have hlt : l < s.heap.objs.size := by obtain ⟨_, e, _⟩ := hl; exact Heap.lt_size e
  refine call_sum_walkG (PyProof.Rows.iter_tuple (items := intItems xs) hl ?_)
  refine ⟨_, _, _, _, _, _, numAt xs, rfl, Walks.tuple (A := A.in1) hh s.heap.objs.size l (Nat.ne_of_lt hlt) (intItems xs), ⟨⟨_, Heap.get?_push_size _ rfl, rfl, rfl⟩, hl.push _⟩, fun b hb => ?_, (fun _ _ => intItems_at), fun h' tk t' hk => ?_⟩
  · show b < (s.heap.push _).objs.size
    rw [Heap.size_push]
    rcases List.mem_cons.mp hb with rfl | hb
    · exact Nat.lt_succ_self _
    · rcases List.mem_cons.mp hb with rfl | hb
      · exact Nat.lt_succ_of_lt hlt
      · cases hb
  · have := h h' tk t' fun b o e => by
      refine hk b o (fun hm => ?_) (Heap.get?_push_of_some _ e)
      rcases List.mem_cons.mp hm with e1 | hm
      · exact absurd (e1 ▸ Heap.lt_size e) (Nat.lt_irrefl _)
      · cases hm
    simpa [intItems] using this
def rSumT (K : PySem.W.Frag) : List V → Hp → VK → Prop := fun vs H Q => ∃ (a : Addr) (ns : List Int), vs = [V.ref a] ∧ SqT K H a (ns.map V.int) ∧ Q (.int ns.sum) H
theorem cr_sumT {X : Cx} (hc : X.calm = true) : CallR X (.builtin "sum") (rSumT X.K) := by
  intro pins s σ H vs us Q I r h
  obtain ⟨a, ns, rfl, hs, q⟩ := h
  obtain ⟨its, rv, hl, _⟩ := I.tuple hs
  rw [Vals.ref1 r]
  have hi := rv.ints
  obtain ⟨xs, e⟩ := hi.allInts.items
  have hn : numsOf (intItems xs).toList = ns := by rw [← e]; exact hi.numsOf
  rw [nums_intItems] at hn
  rw [e] at hl
  refine sum_tupG (I.ok.hd hc) hl fun h' tk t' hk => ?_
  rw [preSum_eq, List.take_of_length_le (by simp), hn]
  exact ⟨.int _, H, I.kept hk, ⟨_, rfl⟩, q⟩
theorem r_sumT {K : PySem.W.Frag} {H : Hp} {Q : VK} {p : Addr} {ns : List Int} (h : SqT K H p (ns.map V.int)) (k : Q (.int ns.sum) H) : rSumT K [.ref p] H Q := ⟨p, ns, rfl, h, k⟩
/-! ### [e for k, v in d.items()] -/
theorem lcI_go {σ : L2.St} {H : Hp} {Q : VK} {G : TG} {tt : TT} {te td : TE} {vs : List Nat} {d : Addr} {kvs : List (Key × V)} (hd : H d = some (.dK kvs)) (up : ∀ od (Q' : VK), (∀ v H1, v = .ref d ∧ H1 = upd H d (.frz od (.dK kvs)) → Q' v H1) → td σ (upd H d (.frz od (.dK kvs))) Q')
    (Pv : Obj → Addr → Nat → List V → Hp → Prop) (h0 : ∀ od D, upd H d (.frz od (.dK kvs)) D = none → Pv od D 0 [] (upd (upd H d (.frz od (.dK kvs))) D (.lst []))) (hG : ∀ od D i acc H', Pv od D i acc H' → H' d = some (.frz od (.dK kvs)))
    (hs : ∀ od D (i : Nat) k v T acc H', kvs[i]? = some (k, v) → upd H d (.frz od (.dK kvs)) D = none → H' D = some (.lst acc) → Pv od D i acc H' → H' T = none → G (.ref T) (wipe σ vs) (upd H' T (.tup [kV k, v])) fun σ2 H2 => wipe σ2 vs = wipe σ vs ∧ tt σ2 H2 fun b H3 =>
      if b = true then te σ2 H3 fun y H4 => ∃ acc, H4 D = some (.lst acc) ∧ acc.length < sizeLine ∧ (∃ ac, (upd H4 D (.lst (acc ++ [y]))) D = some (.lst ac) ∧ Pv od D (i + 1) ac (upd H4 D (.lst (acc ++ [y])))) else ∃ ac, H3 D = some (.lst ac) ∧ Pv od D (i + 1) ac H3)
    (he : ∀ od D acc H', upd H d (.frz od (.dK kvs)) D = none → H' D = some (.lst acc) → Pv od D kvs.length acc H' → Q (.ref D) (upd H' d (.dK kvs))) : tLockE (tLc (iItems td) G tt te vs) σ H Q := by
  refine ⟨d, .dK kvs, hd, trivial, fun od => up od _ ?_⟩
  rintro v H1 ⟨rfl, rfl⟩
  refine ⟨d, od, kvs, rfl, upd_same, fun D hD => lc_it walk_items (fun i H' => ∃ acc, H' D = some (.lst acc) ∧ Pv od D i acc H') ⟨[], upd_same, h0 od D hD⟩ (fun i H' _ ⟨acc, _, p⟩ => hG od D i acc H' p) ?_ fun H' ⟨acc, ha, p⟩ => ⟨hG _ _ _ _ _ p, he od D acc H' hD ha p⟩⟩
  rintro i v H1 H' hi ⟨acc, ha, p⟩ ⟨T, x, y, ev, hT, eH, ex, ey⟩
  subst ev eH
  replace ex : kvs[i]?.map (fun kv => kV kv.1) = some x := ex
  replace ey : kvs[i]?.map Prod.snd = some y := ey
  cases hk : kvs[i]? with
  | none => rw [hk] at ex; cases ex
  | some kv =>
    rw [hk] at ex ey
    cases ex; cases ey
    exact hs od D i kv.1 kv.2 T acc H1 hk hD ha p hT
end Kw
namespace Cm
open PySem PySem.Spec PyProof.Rows PyProof.V L2 StX
/-! ### a sign many times -/
def rMulS : R2 := fun x y H Q => ∃ (c : Nat) (n : Int), x = .str ⟨#[c]⟩ ∧ y = .int n ∧ 0 ≤ n ∧ n ≤ 1000 ∧ Q (.str ⟨(List.replicate n.toNat c).toArray⟩) H
theorem fold_rep {c : Nat} : ∀ (k : Nat) (a : Array Nat), (List.replicate k #[c]).foldl (· ++ ·) a = a ++ (List.replicate k c).toArray
  | 0, a => by simp
  | k + 1, a => by
    rw [List.replicate_succ, List.foldl_cons, fold_rep k, List.replicate_succ]
    apply Array.ext'
    simp
theorem mul_one {c : Nat} {n : Int} (h : 0 ≤ n) : Txt.mul ⟨#[c]⟩ n = ⟨(List.replicate n.toNat c).toArray⟩ := by
  unfold Txt.mul
  by_cases h1 : n < 1
  · rw [if_pos h1, show n.toNat = 0 by omega]; rfl
  · rw [if_neg h1]
    by_cases h2 : n = 1
    · subst h2
      rw [if_pos (by simp)]; rfl
    · rw [if_neg (by simp [h2, Str.length]), fold_rep]; simp
section
variable {X : Cx}
theorem op_mulS : OpR X (binaryOp .Mult) rMulS := by
  intro pins s σ H x y v u Q I rx ry h
  obtain ⟨c, n, rfl, rfl, h0, h1, q⟩ := h
  obtain ⟨t, rfl⟩ := rx
  obtain ⟨t', rfl⟩ := ry
  refine SB.mul ⟨by rw [decide_eq_false (by omega), decide_eq_false (by omega)]; rfl, fun h2 _ => ?_, fun h2 _ => ?_⟩ fun t2 k => ?_
  · show ¬ ((1 : Int) > (2 ^ 63 - 1) / n)
    have : 1 ≤ (2 ^ 63 - 1) / n := (Int.le_ediv_iff_mul_le (by omega)).mpr (by omega)
    omega
  · show decide (1 * n.toNat > sizeLine) = false
    have h3 : n.toNat ≤ 1000 := by omega
    have h4 := le_size (n := 1000) (by decide)
    exact decide_eq_false (by omega)
  · rw [mul_one h0]
    exact ⟨.str _, H, I.kept (t' := k) (fun _ _ e => e), ⟨_, rfl⟩, q⟩
theorem r_mulS {c : Nat} {n : Int} {H : Hp} {Q : VK} (h0 : 0 ≤ n) (h1 : n ≤ 1000) (k : Q (.str ⟨(List.replicate n.toNat c).toArray⟩) H) : rMulS (.str ⟨#[c]⟩) (.int n) H Q := ⟨c, n, rfl, rfl, h0, h1, k⟩
end
/-! ### cls(..), C.m(..) of a classmethod within a try -/
def tMakeV (i : Nat) (C : Addr) (sp : Sp) (dvs : List V) (E : XK) (t : TA) : TE := fun σ H Q => σ[i]? = some (some (.ref C)) ∧ tMake C sp dvs E t σ H Q
section
variable {X : Cx} {CX : CXT} {k i : Nat} {f C p g : Addr} {fd : FuncData} {ps : List Str} {sp : Sp} {dvs : List V} {ds : List Value} {E : XK} {x m : Str} {mc : Value} {pz pos apos : Pos} {e o : Expr} {es : List Expr} {t : TA} {ta : TE}
theorem pe_makeV (M : Mk X.K C f) (F : FnOk X.prog X.w X.K X.mg X.base CX k f fd ps sp) (hr : Room (k + 1) X.A) (hN : X.N[i]? = some x) (hv : Vis X.env.scope x) (hb : Binds X.K fd ps ds) (hd : L2.Vals dvs ds) (hx : Passes CX X E) (ha : PA X (e :: es) t)
    (hdb : (x == ("__debug__" : Str)) = false := by decide) (hcd : (x == ("__classdict__" : Str)) = false := by decide)
    (he : starEach (e :: es) X.env = (false, eval e X.env) :: starEach es X.env := by rfl) (hpl : (backTo pos (starEach es X.env)).any (·.1) = false := by rfl) : PE X (.Call (.Name x pz) (e :: es) [] pos) (tMakeV i C sp dvs E t) := by
  refine ⟨fun pins s σ H Q I h => ?_⟩
  obtain ⟨hs, ht⟩ := h
  refine wpAny_Call_Name_kw (thn ((pe_var (pos := pz) hN hv hdb hcd).run pins s σ H (fun v H1 => v = .ref C ∧ H1 = H) I ⟨.ref C, hs, rfl, rfl⟩) fun u s1 ⟨v, H1, I1, r1, q1⟩ => ?_)
  obtain ⟨rfl, rfl⟩ := q1
  cases r1
  refine PySem.W.callWith_K (h₀ := X.base) I.ok.mod.kin M.kp (thn (ha.run pos pins s1 σ _ _ I1 ht) fun us s2 ⟨vs, H2, I2, r, q⟩ => ⟨I2.kIn, ?_⟩) he hpl
  exact run_make M F hr hb hd hx I2 r q
def tCMethSD (C : Addr) (sp : Sp) (E : L2.St → XK) (ta : TE) (t : TA) : TE := fun σ H Q => ta σ H fun x H1 => x = .ref C ∧ t σ H1 fun vs H2 => sp (.ref C :: vs) H2 Q (E σ)
theorem run_cmSD {pins : List (Addr × Obj)} {σ : L2.St} {H : Hp} {s : Shared} {q : Addr} {Q : VK} {us : List Value} {vs : List V} (F : FnR X.prog X.w X.K X.mg X.base CX k g sp) (hr : Room k X.A) (hx : PassesAt CX X σ E) (I : Inv X ((q, PySem.W.methodObj (.ref g) (.ref C)) :: pins) σ H s)
    (r : L2.Vals vs us) (h : sp (.ref C :: vs) H Q E) : wpAny (model X.prog X.w) X.A (call (.ref q) us) (EP X pins σ Q) X.xe s := by
  have z : wpAny (model X.prog X.w) X.A (call (.ref q) us) (EP X ((q, PySem.W.methodObj (.ref g) (.ref C)) :: pins) σ Q) X.xe s :=
    wpAny_call (PySem.W.method_call (ClX.pin_at I) (Dt.run_fnRD (us := .ref C :: us) (vs := .ref C :: vs) F hr hx I (.cons rfl r) h))
  exact thn z fun _ _ y => ClX.unpinE y
theorem pe_cmethSD {E : L2.St → XK} {pl : Sem Bool} (he : PE X o ta) (r : ClX.CRead X.K C mc) (c : ClX.CMet X.K C mc m p g) (F : FnR X.prog X.w X.K X.mg X.base CX k g sp) (hr : Room k X.A) (hx : ∀ σ, PassesAt CX X σ (E σ)) (ha : PA X (e :: es) t)
    (hst : starEach (e :: es) X.env = (false, eval e X.env) :: starEach es X.env := by rfl) (hpl : (backTo pos (starEach es X.env)).any (·.1) = false := by rfl)
    (ht : eval (.Call (.Attribute o m apos) (e :: es) [] pos) X.env = (do
      let ov ← eval o X.env
      standAt apos.atName
      let (f, first) ← holding [ov] (getMethod ov m pl)
      callWith pos f first (backTo pos (starEach (e :: es) X.env)) (backToKw pos (keywordEach [] X.env))) := by rfl) :
    PE X (.Call (.Attribute o m apos) (e :: es) [] pos) (tCMethSD C sp E ta t) := by
  refine ⟨fun pins s σ H Q I h => ?_⟩
  refine PySem.W.methodCall_KW (pl := pl) (thn (he.run pins s σ H _ I h) fun u s1 ⟨x, H1, I1, rx, ex, q⟩ => ?_) ht
  subst ex
  obtain rfl : u = Value.ref C := rx
  refine ClX.getmethcm_ok I1 r c fun s2 I2 => ?_
  refine ClX.callwith_cm I2 (ClX.base_none I1 (Nat.le_refl _)) c.fi (thn (ha.run pos _ s2 σ H1 _ I2 q) fun us s3 ⟨vs, H2, I3, rv, q2⟩ => ⟨⟨ClX.pin_at I3, I3.kIn⟩, ?_⟩) hst hpl
  exact run_cmSD F hr (hx σ) I3 rv q2
end
/-! ### several except clauses, each with a name -/
abbrev Cl := Value × Nat × (Addr → Value → Option Addr → TS)
def wManyA (K : PySem.W.Frag) (Wout : WX) (D : Ends) : List Cl → WX
  | [] => Wout
  | (c, i, ts) :: r => wAs K c i ts (wManyA K Wout D r) D
inductive HdsA (X : Cx) : List ExceptHandler → List Cl → Prop
  | nil : HdsA X [] []
  | cons {x n : Str} {c : Value} {i : Nat} {ts : Addr → Value → Option Addr → TS} {b₀ : Stmt} {suite : List Stmt} {np pos' : Pos} {hds : List ExceptHandler} {l : List Cl} (hi : X.N[i]? = some n) (hln : X.env.kindOf n = some .local) (hc : Names X x c)
      (hsu : ∀ (a : Addr) (oe : Obj) (cls : Value) (d : Option Addr) (pn : List (Addr × Obj)), Zc cls d oe → (∃ vs, oe.data = .fields vs) → PSs (X.suite a ((a, oe) :: pn)) (b₀ :: suite) (ts a cls d)) (r : HdsA X hds l) :
      HdsA X (.ExceptHandler (some (.Name x np)) (some n) (b₀ :: suite) pos' :: hds) ((c, i, ts) :: l)
section
variable {X : Cx} {body : List Stmt} {h₀ : ExceptHandler} {hds : List ExceptHandler} {l : List Cl} {pos : Pos} {tb : WX → TS} {Wout : WX}
theorem ps_try_manyA (hs : X.stack = X.env :: X.outer) (hf : X.env.frame = some X.env.locals) (hN : X.N.Nodup) (tk : Takes X Wout)
    (hb : ∀ (W : WX) (pn : List (Addr × Obj)) (xe : Value → Shared → Prop), Takes (X.tr pn xe) W → PassesOwn (model X.prog X.w) X.A X.env xe → PSs (X.tr pn xe) body (tb W))
    (hh : HdsA X (h₀ :: hds) l) : PS X (.Try body (h₀ :: hds) [] [] pos) (fun D σ H => tb (wManyA X.K Wout D l) D σ H) := by
  refine ⟨fun pins s σ H D I h => ?_⟩
  have ok := I.ok
  have hfr : X.A.frames = some (X.env :: X.outer) := by rw [ok.frames, hs]
  refine wpAny_Try_except ?_
  refine wpAny_mono ((hb (wManyA X.K Wout D l) (X.pn ++ pins) (fun e s₁ => wpAny (model X.prog X.w) X.A (noteFrame e X.env) (fun _ s₂ => wpAny (model X.prog X.w) X.A (setFlight e none) (fun _ s₃ =>
    wpAny (model X.prog X.w) X.A (handleBy e X.env (h₀ :: hds)) (SP X pins D) X.xe s₃) X.xe s₂) X.xe s₁) (fun u s' xx => ?_) PassesOwn.looking).run [] s σ H D (I.toTry _) h) (fun f s1 hsp => ?_) (fun e s1 he => he)
  · -- the catch
    obtain ⟨a, B, sI, pins', σ', H', cls, d, rfl, J', nb, up, sky, na, os, ag, w⟩ := xx
    have J : Inv X pins σ' H' sI := J'.ofTry ok
    have sky' : Sky B (X.env :: X.outer) a (Zc cls d) X.env.locals s'.heap := by rw [← hs]; exact sky
    show wpAny (model X.prog X.w) X.A (noteFrame (.ref a) X.env) _ _ _
    refine Sky.land Zc.steady hfr hf sky' fun h3 fl3 up3 => ?_
    have J3 : Inv X pins σ' H' { s' with heap := h3 } := J.landed nb fl3.1 (up.trans up3) os ag
    obtain ⟨oe3, vs3, he3, hz3, hd3⟩ := fl3.there
    have notFr : ∀ {h : Heap} {o : Obj} {vs : Array Value}, h.FunFrames B (X.env :: X.outer) → h.get? a = some o → o.data = .fields vs → a ∉ frs (X.env :: X.outer) := fun {h o vs} ff e dd hm => by
      obtain ⟨_, o', e', hnf⟩ := ff.mem hm
      rw [e] at e'; cases e'
      exact hnf _ dd
    have nfr := notFr fl3.2.2.1 he3 hd3
    have nL : a ≠ X.env.locals := fun z => nfr (List.mem_filterMap.mpr ⟨X.env, List.mem_cons_self, by rw [hf, z]⟩)
    have nF : a ∉ X.fs := fun hm => by
      obtain ⟨e, he, q⟩ := List.mem_filterMap.mp hm
      exact nfr (List.mem_filterMap.mpr ⟨e, List.mem_cons_of_mem _ he, q⟩)
    have S3 := J3.suite he3 hd3 na nL nF
    have go : ∀ {hds' : List ExceptHandler} {l' : List Cl}, HdsA X hds' l' → wManyA X.K Wout D l' cls d σ' H' →
        wpAny (model X.prog X.w) X.A (handleBy (.ref a) X.env hds') (SP X pins D) X.xe { s' with heap := h3 } := by
      intro hds' l' hk
      induction hk with
      | nil =>
        intro w
        refine wpAny_handleBy_nil ?_
        obtain ⟨k1, k2, k3, oe, vs, T, oT, ts', he, hz, hd, h1, hr⟩ := id fl3
        unfold PySem.passOn
        refine wpAny_bind (wpAny_field he hd h1 ?_)
        rw [if_neg (show ¬ ((Value.ref T == Value.none) = true) from by simp)]
        have fin : wpAny (model X.prog X.w) X.A (setFlight (.ref a) X.env.frame) (fun _ s4 => wpAny (model X.prog X.w) X.A (throw (.ref a) : Sem Flow) (SP X pins D) X.xe s4) X.xe { s' with heap := h3 } := by
          rw [hf]
          refine HandSPX.setFlight_upZ fl3 fun h4 hh4 up4 => wpAny_throw (tk _ _ ?_)
          exact ⟨a, B, sI, pins, σ', H', cls, d, rfl, J, nb, (up.trans up3).trans up4, .inr (.inr (by rw [hs]; exact hh4)), na, os, ag, w⟩
        first
          | exact wpAny_bind (wpAny_pure (wpAny_bind fin))
          | exact wpAny_bind fin
      | @cons x n c i ts b₀ suite np pos' hds2 l2 hi hln hc hsu r ih =>
        intro w
        obtain ⟨b, hb1, hyes, hno⟩ := w
        have hloc : Loc X.env.scope n := .inl hln
        refine wpAny_handleBy_cons (codeAny_handlers_test ?_) (by intro q; cases q)
        have LT : PySem.W.Looks (model X.prog X.w) h3 (typeOf (.ref a)) cls := fun A Q E s k q => wpAny_typeOf_ref (k _ _ he3) (by rw [hz3.1]; exact q)
        have LM := PySem.W.exm_one (M := model X.prog X.w) (J3.kIn) LT hb1
        have test : ∀ {Q : Value → Shared → Prop} {E : Value → Shared → Prop}, Q c { s' with heap := h3 } → wpAny (model X.prog X.w) (X.A.mark (some (.ref a))) (eval (.Name x np) X.env) Q E { s' with heap := h3 } := fun {Q E} q => by
          obtain ⟨hg, hdbg, hm | ⟨hm, hv, hnn⟩⟩ := hc
          · exact ld_glob (X := X.suite a ((a, oe3) :: (X.pn ++ pins))) S3 hg hm q hdbg
          · exact ld_blt (X := X.suite a ((a, oe3) :: (X.pn ++ pins))) S3 hg hm hv q hnn hdbg
        refine test (LM.here ?_)
        cases b with
        | true =>
          refine codeAny_handlers_suite_as ?_
          refine HandSPX.lands_againZ fl3 fun h4 fl4 up4 => ?_
          have J4 : Inv X pins σ' H' { s' with heap := h4 } := J.landed nb fl4.1 ((up.trans up3).trans up4) os ag
          obtain ⟨oe4, vs4, he4, hz4, hd4⟩ := fl4.there
          have S4 := J4.suite he4 hd4 na nL nF
          refine store_ok (X := X.suite a ((a, oe4) :: (X.pn ++ pins))) (v := .ref a) S4 hN hi hloc rfl (fun s5 S5 => ?_) (.inr hln)
          refine wpAny_mono ((hsu a oe4 cls d (X.pn ++ pins) hz4 ⟨_, hd4⟩).run [] s5 _ H' _ S5 (hyes rfl a na)) (fun f s6 hsp => ?_) (fun _ _ z => False.elim z)
          have end_ : ∀ {σ6 : L2.St} {H6 : Hp} {Q : Shared → Prop}, Inv (X.suite a ((a, oe4) :: (X.pn ++ pins))) [] σ6 H6 s6 → (∀ s7, Inv X pins (σ6.set i none) H6 s7 → Q s7) →
              wpAny (model X.prog X.w) X.A (do bindName X.env n .none; unbindBehindTheSuite X.env n pos') (fun _ s7 => Q s7) X.xe s6 := fun {σ6 H6 Q} S6 hq => gone_ok (S6.unsuite ok) hN hi hln hq
          cases f with
          | next =>
            obtain ⟨σ6, H6, S6, q6⟩ := hsp
            exact end_ S6 fun s7 J7 => ⟨_, _, J7, q6⟩
          | brk =>
            obtain ⟨σ6, H6, S6, q6⟩ := hsp
            exact end_ S6 fun s7 J7 => ⟨_, _, J7, q6⟩
          | cont =>
            obtain ⟨σ6, H6, S6, q6⟩ := hsp
            exact end_ S6 fun s7 J7 => ⟨_, _, J7, q6⟩
          | ret u =>
            obtain ⟨v6, σ6, H6, S6, r6, q6⟩ := hsp
            exact end_ S6 fun s7 J7 => ⟨_, _, _, J7, r6, q6⟩
        | false =>
          show wpAny _ X.A (handleBy (.ref a) X.env hds2) _ _ _
          exact ih (hno rfl)
    exact go hh w
  · cases f with
    | next =>
      obtain ⟨σ', H', J', q⟩ := hsp
      exact wpAny_execs_nil ⟨σ', H', J'.ofTry ok, q⟩
    | brk =>
      obtain ⟨σ', H', J', q⟩ := hsp
      exact ⟨σ', H', J'.ofTry ok, q⟩
    | cont =>
      obtain ⟨σ', H', J', q⟩ := hsp
      exact ⟨σ', H', J'.ofTry ok, q⟩
    | ret u =>
      obtain ⟨v, σ', H', J', r, q⟩ := hsp
      exact ⟨v, σ', H', J'.ofTry ok, r, q⟩
end
end Cm
namespace Nk
open PySem PySem.Spec PyProof.Rows PyProof.V L2 StX
/-! ### keys ((.., ..), text) -/
abbrev NK := List Key × Str
section
variable {prog : Program} {w : World}
def IsNest (prog : Program) (w : World) (h : Heap) (k : NK) (a : Addr) : Prop := ∃ (o : Obj) (n : Nat) (t : Addr) (tk : Tok), h.get? a = some o ∧ o.cls = .type "tuple" ∧ o.data = .seq #[.ref t, .str k.2 tk] n ∧ (tupleKind (mixKind prog w)).is h k.1 t
def nkHash (prog : Program) (w : World) (k : NK) : Int := reduceHash (Builtin.Tuple.tupleHashOf [(tupleKind (mixKind prog w)).hash k.1, (mixKind prog w).hash (Sum.inr k.2)])
theorem IsNest.typeIs {s : Shared} {k : NK} {a : Addr} (x : IsNest prog w s.heap k a) : s.TypeIs (.ref a) "tuple" := let ⟨o, _, _, _, ho, hc, _⟩ := x; ⟨o, ho, hc⟩
theorem IsNest.inj {h : Heap} {a : Addr} {x y : NK} (hx : IsNest prog w h x a) (hy : IsNest prog w h y a) : x = y := by
  obtain ⟨o, n, t, tk, ho, _, hd, hi⟩ := hx
  obtain ⟨o', n', t', tk', ho', _, hd', hi'⟩ := hy
  obtain rfl : o = o' := Option.some.inj (ho.symm.trans ho')
  rw [hd] at hd'
  injection hd' with h1 _
  have h2 := congrArg Array.toList h1
  simp only [List.cons.injEq] at h2
  obtain ⟨h3, h4, _⟩ := h2
  injection h3 with h3
  injection h4 with h4 _
  subst h3
  exact Prod.ext ((tupleKind (mixKind prog w)).inj hi hi') h4
theorem IsNest.keeps {h h' : Heap} {k : NK} {a d : Addr} {o : Obj} {es ep} (x : IsNest prog w h k a) (ho : h.get? d = some o) (hd : o.data = .dict es ep) (hs : Heap.SameBut d h h') : IsNest prog w h' k a := by
  obtain ⟨o', n, t, tk, ho', hc, hd', hi⟩ := x
  have hne : a ≠ d := by
    rintro rfl
    obtain rfl : o' = o := Option.some.inj (ho'.symm.trans ho)
    rw [hd] at hd'; exact nomatch hd'
  exact ⟨o', n, t, tk, (hs.2 a hne).trans ho', hc, hd', (tupleKind (mixKind prog w)).keeps hi ho hd hs⟩
variable {A : Around} {E : Value → Shared → Prop} {s : Shared}
theorem nk_pyHash {k : NK} {a : Addr} {Q : Int → Shared → Prop} (hu : A.units + 8 < cLine) (hk : IsNest prog w s.heap k a) (h : Q (nkHash prog w k) { s with toks := s.toks + (k.1.length + 3) }) :
    wpAny (model prog w) A (pyHash (.ref a)) Q E s := by
  have hT := hk.typeIs
  obtain ⟨o, n, t, tk, ho, _, hd, hi⟩ := hk
  unfold pyHash
  first | unfold pyHashByItsType | skip
  first | refine wpAny_bind (wpAny_cRoomFor_or (.inr (by omega)) ?_) | skip
  refine wpAny_bind (wpAny_specialOf hT F.slot_tuple_hash.lookup ?_)
  show wpAny _ _ (if (some (Value.builtin "tuple.__hash__") == some Value.none) = true then _ else _) Q E s
  rw [if_neg (by rw [beq_builtin_none]; exact Bool.false_ne_true)]
  refine wpAny_bind (wpAny_specialOf hT F.slot_tuple_hash.lookup ?_)
  show wpAny _ _ (callSpecialIfBoundUnlessNone? (.ref a) "__hash__" _ >>= _) Q E s
  refine wpAny_bind (wpAny_callSpecialIfBoundUnlessNone?_slot hT F.slot_tuple_hash (wpAny_call_entry F.slot_tuple_hash hT F.entry_tuple_hash ?_ (F.args_tuple_hash_1 _)))
  show wpAny _ _ (Builtin.Tuple.tupleItemsOf (.ref a) >>= _) _ _ s
  refine wpAny_bind (wpAny_tupleItemsOf ho hd ?_)
  refine wpAny_bind ?_
  rw [← Array.forIn_toList]
  refine wpAny_forIn_list _
    (fun rest (b : Array Int) s' => (rest = [.ref t, .str k.2 tk] ∧ b.toList = [] ∧ s' = s) ∨ (rest = [.str k.2 tk] ∧ b.toList = [(tupleKind (mixKind prog w)).hash k.1] ∧ s' = { s with toks := s.toks + (k.1.length + 1) }) ∨
      (rest = [] ∧ b.toList = [(tupleKind (mixKind prog w)).hash k.1, (mixKind prog w).hash (Sum.inr k.2)] ∧ s' = { s with toks := s.toks + (k.1.length + 2) }))
    _ ?_ ?_ _ _ (.inl ⟨rfl, rfl, rfl⟩)
  · rintro x rest b s' (⟨hr, hb, rfl⟩ | ⟨hr, hb, rfl⟩ | ⟨hr, _⟩)
    · cases hr
      refine wpAny_bind ((tupleKind (mixKind prog w)).pyHash ?_ hi ?_)
      · exact tupleKind_room_in1 (by omega)
      · first
          | exact wpAny_pure (.inr (.inl ⟨rfl, by simp [hb], rfl⟩))
          | exact wpAny_bind (wpAny_pure (wpAny_pure (.inr (.inl ⟨rfl, by simp [hb], rfl⟩))))
    · cases hr
      refine wpAny_bind ((mixKind prog w).pyHash (k := Sum.inr k.2) (keyIs_str k.2 tk) ?_)
      first
        | exact wpAny_pure (.inr (.inr ⟨rfl, by simp [hb], by simp [Nat.add_assoc]⟩))
        | exact wpAny_bind (wpAny_pure (wpAny_pure (.inr (.inr ⟨rfl, by simp [hb], by simp [Nat.add_assoc]⟩))))
    · cases hr
  · rintro b s' (⟨hr, _⟩ | ⟨hr, _⟩ | ⟨_, hb, rfl⟩)
    · cases hr
    · cases hr
    show wpAny _ _ (retInt (Builtin.Tuple.tupleHashOf b.toList)) _ _ _
    rw [hb]
    refine wpAny_ret_mkInt ?_
    show wpAny _ _ (if (decide (-(2 : Int) ^ 63 ≤ Builtin.Tuple.tupleHashOf [(tupleKind (mixKind prog w)).hash k.1, (mixKind prog w).hash (Sum.inr k.2)]) && decide (Builtin.Tuple.tupleHashOf [(tupleKind (mixKind prog w)).hash k.1, (mixKind prog w).hash (Sum.inr k.2)] < 2 ^ 63)) = true then _ else _) Q E _
    unfold nkHash reduceHash at h
    by_cases hr : (decide (-(2 : Int) ^ 63 ≤ Builtin.Tuple.tupleHashOf [(tupleKind (mixKind prog w)).hash k.1, (mixKind prog w).hash (Sum.inr k.2)]) && decide (Builtin.Tuple.tupleHashOf [(tupleKind (mixKind prog w)).hash k.1, (mixKind prog w).hash (Sum.inr k.2)] < 2 ^ 63)) = true
    · rw [if_pos hr]
      rw [if_pos hr] at h
      exact wpAny_pure (by simpa [Nat.add_assoc] using h)
    · rw [if_neg hr]
      rw [if_neg hr] at h
      exact wpAny_bind (wpAny_rule (wpAny_pure (by simpa [Nat.add_assoc] using h)))
theorem nk_eq_tree {x y : NK} {a b : Addr} {P : Fin → Shared → Prop} (hu : A.units < cLine) (hx : IsNest prog w s.heap x a) (hy : IsNest prog w s.heap y b) (h : P (.done (.ret (.bool (decide (x = y))))) s) :
    wpAny (model prog w) A (Builtin.«tuple.__eq__» ⟨[.ref a, .ref b], []⟩) P E s := by
  have hTb := hy.typeIs
  obtain ⟨oa, na, ta, ka, hoa, _, hda, hia⟩ := hx
  obtain ⟨ob, nb, tb, kb, hob, _, hdb, hib⟩ := hy
  show wpAny _ _ (isInstance (.ref b) (.type "tuple") >>= _) _ _ s
  refine wpAny_bind (wpAny_isInstance hTb isSubtype_tuple_tuple ?_)
  simp only [Bool.not_true, Bool.false_eq_true, if_false]
  refine wpAny_bind (wpAny_tupleItemsOf hoa hda ?_)
  refine wpAny_bind (wpAny_tupleItemsOf hob hdb ?_)
  refine wpAny_bind ?_
  refine wpAny_forIn_list _
    (fun rest r s' => r.1 = none ∧ s' = s ∧ ((rest = [(.ref ta, .ref tb), (.str x.2 ka, .str y.2 kb)]) ∨ (rest = [(.str x.2 ka, .str y.2 kb)] ∧ x.1 = y.1) ∨ (rest = [] ∧ x = y)))
    _ ?_ ?_ _ _ ⟨rfl, rfl, .inl rfl⟩
  · rintro ⟨u, v⟩ rest r s' ⟨hr, rfl, hz | ⟨hz, e1⟩ | ⟨hz, _⟩⟩
    · simp only [List.cons.injEq, Prod.mk.injEq] at hz
      obtain ⟨⟨rfl, rfl⟩, rfl⟩ := hz
      refine wpAny_bind ((tupleKind (mixKind prog w)).eqBool (x := x.1) (y := y.1) hu hia hib ?_)
      by_cases hk : x.1 = y.1
      · rw [decide_eq_true hk]
        simp only [Bool.not_true, Bool.false_eq_true, if_false]
        exact wpAny_pure ⟨rfl, rfl, .inr (.inl ⟨trivial, hk⟩)⟩
      · rw [decide_eq_false hk]
        simp only [Bool.not_false, if_true]
        have hf : decide (x = y) = false := decide_eq_false fun e => hk (by rw [e])
        rw [hf] at h
        exact wpAny_bind (wpAny_pure (wpAny_pure (wpAny_pure h)))
    · simp only [List.cons.injEq, Prod.mk.injEq] at hz
      obtain ⟨⟨rfl, rfl⟩, rfl⟩ := hz
      refine wpAny_bind ((mixKind prog w).eqBool (a := Sum.inr x.2) (b := Sum.inr y.2) (keyIs_str x.2 ka) (keyIs_str y.2 kb) ?_)
      by_cases hk : x.2 = y.2
      · rw [decide_eq_true (by rw [hk])]
        simp only [Bool.not_true, Bool.false_eq_true, if_false]
        exact wpAny_pure ⟨rfl, rfl, .inr (.inr ⟨trivial, Prod.ext e1 hk⟩)⟩
      · rw [decide_eq_false (fun e => hk (Sum.inr.inj e))]
        simp only [Bool.not_false, if_true]
        have hf : decide (x = y) = false := decide_eq_false fun e => hk (by rw [e])
        rw [hf] at h
        exact wpAny_bind (wpAny_pure (wpAny_pure (wpAny_pure h)))
    · cases hz
  · rintro ⟨r1, r2⟩ s' ⟨hr, rfl, hz | ⟨hz, _⟩ | ⟨_, e⟩⟩
    · cases hz
    · cases hz
    simp only at hr
    subst hr
    refine wpAny_pure ?_
    show P (.done (.ret (.bool true))) s'
    rw [decide_eq_true e] at h
    exact h
theorem nk_eqBool {x y : NK} {a b : Addr} {Q : Bool → Shared → Prop} (hu : A.units + 8 < cLine) (hx : IsNest prog w s.heap x a) (hy : IsNest prog w s.heap y b) (h : Q (decide (x = y)) s) :
    wpAny (model prog w) A (eqBool (.ref a) (.ref b)) Q E s := by
  unfold eqBool
  try with_reducible refine wpAny_holding ?_
  show wpAny _ _ (if (Value.ref a == Value.ref b) = true then _ else _) Q E s
  by_cases hab : (Value.ref a == Value.ref b) = true
  · rw [if_pos hab]
    have e : a = b := by have := eq_of_beq hab; injection this
    subst e
    obtain rfl := hx.inj hy
    exact wpAny_bind (wpAny_rule (wpAny_pure (by simpa using h)))
  · rw [if_neg hab]
    refine wpAny_bind (wpAny_richCompare_same_room (op := .Eq) hx.typeIs hy.typeIs F.slot_tuple_eq
      (wpAny_call_entry F.slot_tuple_eq hx.typeIs F.entry_tuple_eq (nk_eq_tree ?_ hx hy ⟨_, rfl, (fun e => nomatch e), wpAny_truthy_bool h⟩) (F.args_tuple_eq_2 _ _)) (by omega))
    exact (tupleKind_room_in1 (by omega) : (tupleKind (mixKind prog w)).room A.in1)
theorem quiet_tuple {n : Nat} {ks : List Key} {a : Addr} {Q : Bool → Shared → Prop} (hk : (tupleKind (mixKind prog w)).is s.heap ks a) (h : Q true s) : wpAny (model prog w) A (eqIsQuiet (n + 1) (.ref a)) Q E s := by
  have hk : IsTupleKey (mixKind prog w) s.heap ks a := hk
  have hT := hk.typeIs
  obtain ⟨o, items, m, ho, _, hd, hi⟩ := hk
  unfold eqIsQuiet
  refine wpAny_bind (wpAny_specialOf hT F.slot_tuple_eq.lookup ?_)
  show wpAny _ _ (isInstance (.ref a) (.type "tuple") >>= _) _ _ s
  refine wpAny_bind (wpAny_isInstance hT isSubtype_tuple_tuple ?_)
  simp only [Bool.not_true, Bool.false_eq_true, if_false]
  refine wpAny_bind (wpAny_seqItems ho hd ?_)
  refine wpAny_bind ?_
  show wpAny _ _ (forIn items _ _) _ _ s
  rw [← Array.forIn_toList]
  refine wpAny_forIn_list _ (fun rest r s' => r.1 = none ∧ s' = s ∧ ∀ v ∈ rest, carriedByValue v = true) _ ?_ ?_ _ _ ⟨rfl, rfl, hi.byValue⟩
  · rintro v rest r s' ⟨hr, rfl, hall⟩
    rw [eqIsQuiet_byValue _ (hall v List.mem_cons_self)]
    refine wpAny_bind (wpAny_pure ?_)
    simp only [Bool.not_true, Bool.false_eq_true, if_false]
    exact wpAny_pure ⟨rfl, rfl, fun u hu' => hall u (List.mem_cons_of_mem _ hu')⟩
  · rintro ⟨r1, r2⟩ s' ⟨hr, rfl, _⟩
    simp only at hr
    subst hr
    exact wpAny_pure h
theorem nk_quiet {k : NK} {a : Addr} {Q : Bool → Shared → Prop} (hk : IsNest prog w s.heap k a) (h : Q true s) : wpAny (model prog w) A (eqIsQuiet 8 (.ref a)) Q E s := by
  have hT := hk.typeIs
  obtain ⟨o, m, t, tk, ho, _, hd, hi⟩ := hk
  unfold eqIsQuiet
  refine wpAny_bind (wpAny_specialOf hT F.slot_tuple_eq.lookup ?_)
  show wpAny _ _ (isInstance (.ref a) (.type "tuple") >>= _) _ _ s
  refine wpAny_bind (wpAny_isInstance hT isSubtype_tuple_tuple ?_)
  simp only [Bool.not_true, Bool.false_eq_true, if_false]
  refine wpAny_bind (wpAny_seqItems ho hd ?_)
  refine wpAny_bind ?_
  show wpAny _ _ (forIn #[Value.ref t, Value.str k.2 tk] _ _) _ _ s
  rw [← Array.forIn_toList]
  refine wpAny_forIn_list _ (fun rest r s' => r.1 = none ∧ s' = s ∧ (rest = [.ref t, .str k.2 tk] ∨ rest = [.str k.2 tk] ∨ rest = [])) _ ?_ ?_ _ _ ⟨rfl, rfl, .inl rfl⟩
  · rintro v rest r s' ⟨hr, rfl, hz | hz | hz⟩
    · cases hz
      refine wpAny_bind (quiet_tuple (n := 6) hi ?_)
      simp only [Bool.not_true, Bool.false_eq_true, if_false]
      exact wpAny_pure ⟨rfl, rfl, .inr (.inl trivial)⟩
    · cases hz
      rw [eqIsQuiet_byValue _ rfl]
      refine wpAny_bind (wpAny_pure ?_)
      simp only [Bool.not_true, Bool.false_eq_true, if_false]
      exact wpAny_pure ⟨rfl, rfl, .inr (.inr trivial)⟩
    · cases hz
  · rintro ⟨r1, r2⟩ s' ⟨hr, rfl, _⟩
    simp only at hr
    subst hr
    exact wpAny_pure h
end
def nestKind (prog : Program) (w : World) : HeapKind prog w NK where
  is := IsNest prog w
  hash := nkHash prog w
  draws := fun k => k.1.length + 3
  room := fun A => A.units + 8 < cLine
  inj := fun hx hy => hx.inj hy
  keeps := fun x ho hd hs => x.keeps ho hd hs
  pyHash := fun hu hk h => nk_pyHash hu hk h
  eqBool := fun hu hx hy h => nk_eqBool hu hx hy h
  quiet := fun hk h => nk_quiet hk h
/-! ### a dict of such keys, whatever it holds -/
section
variable {P : Program} {w : World}
def SeenR (P : Program) (w : World) (d : Addr) (xs : List (NK × Addr × Value)) (h : Heap) : Prop := ∃ o es ep, h.get? d = some o ∧ o.ExactDict ∧ o.data = .dict es ep ∧ es.toList = xs.map (entryOfKey (nestKind P w)) ∧ (xs.map (·.1)).Nodup
theorem SeenR.ok {H : Hp} {h : Heap} {d : Addr} {xs : List (NK × Addr × Value)} (x : SeenR P w d xs h) : ObjOk P w H h d (.ext (SeenR P w d xs)) :=
  ⟨x, let ⟨o, _, _, ho, _⟩ := x; ⟨o, ho⟩, fun h1 h2 ⟨o, es, ep, ho, r⟩ k => ⟨o, es, ep, k o ho, r⟩⟩
def KeyN (H : Hp) (q : Addr) (k : NK) : Prop := ∃ t, H q = some (.tup [.ref t, .str k.2]) ∧ H t = some (.tup (k.1.map kV))
theorem KeyN.keep {H H' : Hp} {q : Addr} {k : NK} (h : KeyN H q k) (kp : ∀ b ys, H b = some (.tup ys) → H' b = some (.tup ys)) : KeyN H' q k := let ⟨t, a, b⟩ := h; ⟨t, kp _ _ a, kp _ _ b⟩
/-- a dict of at most n such keys at d -/
def SeenAt (P : Program) (w : World) (H : Hp) (d : Addr) (n : Nat) : Prop := ∃ xs : List (NK × Addr × Value), H d = some (.ext (SeenR P w d xs)) ∧ (d == sysModules) = false ∧ xs.length ≤ n ∧ ∀ x ∈ xs, KeyN H x.2.1 x.1
theorem SeenAt.keep {H H' : Hp} {d : Addr} {n : Nat} (h : SeenAt P w H d n) (hd : H' d = H d) (kp : ∀ b ys, H b = some (.tup ys) → H' b = some (.tup ys)) : SeenAt P w H' d n :=
  let ⟨xs, a, b, c, e⟩ := h; ⟨xs, hd.trans a, b, c, fun x hx => (e x hx).keep kp⟩
theorem SeenAt.keepK {H H' : Hp} {M : List Addr} {d : Addr} {n : Nat} (h : SeenAt P w H d n) (k : Keep M H H') (hd : d ∉ M) (hm : ∀ m ∈ M, ∀ ys, H m ≠ some (.tup ys)) : SeenAt P w H' d n :=
  let ⟨xs, a, b, c, e⟩ := h; ⟨xs, k _ _ hd a, b, c, fun x hx => (e x hx).keep fun b ys hb => k _ _ (fun z => hm b z ys hb) hb⟩
theorem key_nest {H : Hp} {h : Heap} {q : Addr} {k : NK} (ok : HOk P w H h) (e : KeyN H q k) : (nestKind P w).is h k q := by
  obtain ⟨t, e1, e2⟩ := e
  obtain ⟨_, its, r, o, h1, h2, n, h3⟩ := (show ObjOk P w H h q (.tup [.ref t, .str k.2]) from ok q _ e1)
  cases r with
  | cons r1 r2 =>
    cases r2 with
    | cons r3 r4 =>
      cases r4
      cases r1
      obtain ⟨tk, rfl⟩ := r3
      exact ⟨o, n, t, tk, h1, h2, h3, key_of ok e2⟩
theorem seen_dict {H : Hp} {h : Heap} {d : Addr} {xs : List (NK × Addr × Value)} (ok : HOk P w H h) (e : H d = some (.ext (SeenR P w d xs))) (hk : ∀ x ∈ xs, KeyN H x.2.1 x.1) : h.DictOfH (nestKind P w) d xs := by
  obtain ⟨⟨o, es, ep, h1, h2, h3, h4, h5⟩, _⟩ := (show ObjOk P w H h d (.ext (SeenR P w d xs)) from ok d _ e)
  exact ⟨o, es, ep, h1, h2, h3, h4, fun x hx => key_nest ok (hk x hx), h5⟩
end
def rInN (P : Program) (w : World) (f : Bool → Bool) : R2 := fun x y H Q => ∃ d q k n, x = .ref q ∧ y = .ref d ∧ KeyN H q k ∧ SeenAt P w H d n ∧ ∀ b, Q (.bl (f b)) H
def tDNewN (P : Program) (w : World) : TE := fun _ H Q => ∀ p, H p = none → SeenAt P w (upd H p (.ext (SeenR P w p []))) p 0 → Q (.ref p) (upd H p (.ext (SeenR P w p [])))
def sDPutN (P : Program) (w : World) (td ty tv : TE) : TS := fun D σ H => tv σ H fun v H1 => td σ H1 fun x H2 => ty σ H2 fun y H3 => ∃ d q k n, x = .ref d ∧ y = .ref q ∧ KeyN H3 q k ∧ SeenAt P w H3 d n ∧ n < sizeLine ∧ ∀ ob, SeenAt P w (upd H3 d ob) d (n + 1) → D.nx σ (upd H3 d ob)
section
variable {X : Cx} {pins : List (Addr × Obj)} {σ : L2.St} {H : Hp} {s : Shared} {td ty tv : TE} {o i value : Expr} {pos pos' : Pos}
theorem op_inN (hu : X.A.units + 64 < cLine) : OpR X (compareOp .In) (rInN X.prog X.w id) := by
  intro pins s σ H x y v u Q I rx ry h
  obtain ⟨d, q, k, n, rfl, rfl, hk, ⟨xs, e, hd, _, hx⟩, q2⟩ := h
  cases (show v = Value.ref q from rx)
  cases (show u = Value.ref d from ry)
  exact wpAny_in_heap (show X.A.in1.units + 8 < cLine from by show X.A.units + 1 + 8 < cLine; omega) (key_nest I.hok hk) hd (seen_dict I.hok e hx) ⟨.bl _, H, I.kept (fun _ _ z => z), rfl, q2 _⟩
theorem op_notInN (hu : X.A.units + 64 < cLine) : OpR X (compareOp .NotIn) (rInN X.prog X.w not) := by
  intro pins s σ H x y v u Q I rx ry h
  obtain ⟨d, q, k, n, rfl, rfl, hk, ⟨xs, e, hd, _, hx⟩, q2⟩ := h
  cases (show v = Value.ref q from rx)
  cases (show u = Value.ref d from ry)
  exact wpAny_notIn_heap (show X.A.in1.units + 8 < cLine from by show X.A.units + 1 + 8 < cLine; omega) (key_nest I.hok hk) hd (seen_dict I.hok e hx) ⟨.bl _, H, I.kept (fun _ _ z => z), rfl, q2 _⟩
theorem pe_dnewN : PE X (.Dict [] [] pos) (tDNewN X.prog X.w) := ⟨fun pins s σ H Q I h => by
  have ok : ∀ H', ObjOk X.prog X.w H' (s.heap.push { cls := .type "dict", data := .dict #[] }) s.heap.objs.size (.ext (SeenR X.prog X.w s.heap.objs.size [])) := fun H' => SeenR.ok ⟨_, #[], 0, Heap.get?_push_size _ rfl, ⟨rfl, rfl, rfl⟩, rfl, rfl, List.nodup_nil⟩
  refine wpAny_Dict_empty ⟨.ref s.heap.objs.size, _, I.laid (a := s.heap.objs.size) (o := .ext (SeenR X.prog X.w s.heap.objs.size [])) (t' := s.toks) (fun _ _ q => Heap.get?_push_of_some _ q) (Nat.le_refl _) (ok _), rfl, h _ (I.hok.fresh (Nat.le_refl _)) ?_⟩
  exact ⟨[], upd_same, beq_eq_false_iff_ne.mpr (Ne.symm (Nat.ne_of_lt I.big)), Nat.le_refl _, by simp⟩⟩
theorem ps_dputN (hu : X.A.units + 64 < cLine) (ho : PE X o td) (hi : PE X i ty) (hv : PE X value tv) (hs : swapsWith value (some (.Subscript o i pos')) pos.line X.env = pure false) :
    PS X (.Assign [.Subscript o i pos'] value pos) (sDPutN X.prog X.w td ty tv) := by
  refine ⟨fun pins s σ H D I h => ?_⟩
  refine wpAny_Assign_Subscript (thn (hv.run pins s σ H _ I h) fun r s1 ⟨v, H1, I1, rv, q1⟩ => thn (ho.run pins s1 σ H1 _ I1 q1) fun u s2 ⟨x, H2, I2, rx, q2⟩ => thn (hi.run pins s2 σ H2 _ I2 q2) fun iv s3 ⟨y, H3, I3, ry, d, q, k, n, ex, ey, hk, ⟨xs, e, hd, hn, hx⟩, hz, q3⟩ => ?_) hs
  subst ex ey
  obtain rfl : u = Value.ref d := rx
  obtain rfl : iv = Value.ref q := ry
  refine wpAny_setItem_heap (hsz := by omega) (show X.A.in1.units + 8 < cLine from by show X.A.units + 1 + 8 < cLine; omega) (key_nest I3.hok hk) (seen_dict I3.hok e hx) fun h' dd' hs' => ?_
  obtain ⟨ob, es, ep, h1, h2, h3, h4, _, h5⟩ := dd'
  have I4 := d_write (t' := s3.toks + (nestKind X.prog X.w).draws k) I3 (by rw [e]; exact True.intro) hs' ⟨ob, h1⟩ (SeenR.ok (P := X.prog) (w := X.w) (xs := storedH xs k q r) (H := upd H3 d (.ext (SeenR X.prog X.w d (storedH xs k q r)))) ⟨ob, es, ep, h1, h2, h3, h4, h5⟩)
  have nt : ∀ b ys, H3 b = some (.tup ys) → b ≠ d := fun b ys hb z => by rw [z, e] at hb; cases hb
  refine ⟨σ, _, I4, q3 _ ⟨storedH xs k q r, upd_same, hd, ?_, fun x hx' => ?_⟩⟩
  · unfold storedH
    split
    · rw [List.length_map]; omega
    · rw [List.length_append, List.length_singleton]; omega
  · have kp : ∀ b ys, H3 b = some (.tup ys) → upd H3 d (.ext (SeenR X.prog X.w d (storedH xs k q r))) b = some (.tup ys) := fun b ys hb => by rw [upd_ne (nt b ys hb)]; exact hb
    unfold storedH at hx'
    split at hx'
    · obtain ⟨z, hz1, rfl⟩ := List.mem_map.mp hx'
      have := (hx z hz1).keep kp
      unfold putAt
      split <;> exact this
    · rcases List.mem_append.mp hx' with hx' | hx'
      · exact (hx x hx').keep kp
      · rw [List.mem_singleton.mp hx']
        exact hk.keep kp
end
end Nk
namespace Ht
open PySem PySem.Spec PyProof.Rows L2 HotX L2H
/-! ### a def that raises nothing, called within an except suite, whatever is known of the handled exception -/
structure FnA (P : Program) (w : World) (K : PySem.W.Frag) (mg : Str → Option Value) (base : PySem.Heap) (k : Nat) (f : Addr) (fd : FuncData) (ps : List Str) (sp : Sp) : Prop where
  len : ∀ vs H Q E, sp vs H Q E → vs.length = ps.length
  run : ∀ (A : Around) (outer : List Env) (s : Shared) (H : Hp) (args : Args) (us : List Value) (vs : List V) (Q : VK) (E : XK) (p : Addr × Obj), RoomH k A → PinOk outer H s p → Env0 P w K mg base A outer s H → BindsTo s fd args (ps.zip us) → Vals vs us → sp vs H Q E →
    codeAny (model P w) A (.call (.ref f) args) (CR CX0 outer P w H s Q E) s
section
variable {P : Program} {w : World} {K : PySem.W.Frag} {mg : Str → Option Value} {base : PySem.Heap}
theorem Fun.okA {x qual : Str} {st : Stmt} {f : Addr} {fd : FuncData} {N ps : List Str} {k : Nat} {sp : Sp} (F : Fun K x qual st f fd) (S : FnScope N ps (defScope st)) (len : ∀ vs H Q E, sp vs H Q E → vs.length = ps.length)
    (hbody : ∀ (cdv : Value) (A : Around) (outer : List Env) (s : Shared) (H : Hp) (vs : List V) (Q : VK) (E : XK) (p : Addr × Obj), RoomH k (A.deeper (envOfC qual (defScope st) s.heap.objs.size f cdv)) → sp vs H Q E →
      ∃ t, PSs (cxH CX0 P w K mg base N qual (defScope st) f cdv A outer s H E p) (defBody st) t ∧ t { nx := fun _ H' => Q .non H', rt := Q } (L2.start N vs) H) : FnA P w K mg base (k + 1) f fd ps sp := by
  obtain ⟨oc, od, kV, doc, pm, an, cdv, ct, osl, rfl, lk, hcd⟩ := F.ex
  refine ⟨len, fun A outer s H args us vs Q E p room pin e0 binds rv wish => ?_⟩
  have here : K.In s.heap := e0.mod.kin.keeps fun b o e => (e0.bs b o e).1
  have free : s.heap.NoLimit := e0.mod.nolimit.keeps fun b o e => (e0.bs b o e).1
  have kinds : ∀ y ∈ ps.zip us, (defScope st).names.lookup y.1 = some .local ∨ ((defScope st).names.lookup y.1 = some .cell ∧ ((cellsFrom (s.heap.objs.size + 1) (defScope st).names []).lookup y.1).isSome = true) := fun ⟨n, v⟩ hy =>
    (S.par n (List.of_mem_zip hy).1).imp id fun q => ⟨q, PySem.W.cellsFrom_some _ _ _ (.inl q)⟩
  refine codeAny_call_function room.depth (here _ _ lk) rfl S.co S.gen rfl (PySem.W.codeRec_of here hcd) (binds _ _ _ _ (wpAny_newFunctionEnv_cells S.kind kinds fun env he s1 x => ?_))
  subst he
  obtain ⟨t, ht, hq⟩ := hbody cdv A outer s H vs Q E p (room.deeper _) wish
  refine ⟨free.keeps x.toInCall.keep, codeAny_func (wpAny_mono (ht.run [] s1 (L2.start N vs) H _ (inv_startH S pin e0 (len _ _ _ _ wish) rv x) hq) (fun fl s' hs => ?_) fun e s' hs => hs)⟩
  cases fl with
  | ret u =>
    obtain ⟨v, σ', H', J, r, q⟩ := hs
    exact ⟨v, H', J.os, J.bare, J.base, J.hok, r, q⟩
  | next =>
    obtain ⟨σ', H', J, q⟩ := hs
    exact ⟨V.non, H', J.os, J.bare, J.base, J.hok, rfl, q⟩
  | brk =>
    obtain ⟨_, _, _, q⟩ := hs
    exact False.elim q
  | cont =>
    obtain ⟨_, _, _, q⟩ := hs
    exact False.elim q
end
section
variable {X : Cx} {k : Nat} {f : Addr} {fd : FuncData} {ps : List Str} {sp : Sp} {x : Str} {q pos : Pos} {e : Expr} {es : List Expr} {t : TA} {p : Addr × Obj}
theorem pe_callA (F : FnA X.prog X.w X.K X.mg X.base k f fd ps sp) (room : RoomH k X.A) (hp : p ∈ X.pn) (hg : Gl X x) (hm : X.mg x = some (.ref f)) (hk : PySem.W.keepIn X.K (.ref f) = true) (hb : Binds X.K fd ps [])
    (ha : PA X (e :: es) t) (hdb : (x == ("__debug__" : Str)) = false := by decide) (he : starEach (e :: es) X.env = (false, eval e X.env) :: starEach es X.env := by rfl) (hpl : (backTo pos (starEach es X.env)).any (·.1) = false := by rfl) :
    PE X (.Call (.Name x q) (e :: es) [] pos) (tCall sp [] E0 t) := by
  refine ⟨fun pins s σ H Q I h => ?_⟩
  refine wpAny_Call_Name_kw (ld_glob I hg hm ?_ hdb)
  refine PySem.W.callWith_K (h₀ := X.base) I.ok.mod.kin hk (thn (ha.run pos pins s σ H _ I h) fun us s1 ⟨vs, H1, I1, r, wish⟩ => ⟨I1.kIn, ?_⟩) he hpl
  replace wish : sp vs H1 Q E0 := by
    have wish2 : sp (vs ++ []) H1 Q E0 := wish
    rwa [List.append_nil] at wish2
  have b := hb s1 us I1.kIn (by rw [List.append_nil, ← r.length]; exact F.len _ _ _ _ wish)
  rw [List.append_nil] at b
  have pin := I1.pin p (List.mem_append_left _ hp)
  refine wpAny_call (codeAny_mono (F.run X.A X.stack s1 H1 ⟨us, []⟩ us vs Q E0 p room ⟨pin.1, pin.2.1, fun hm => (List.mem_cons.mp (I1.stkSub p.1 hm)).elim pin.2.2.1 pin.2.2.2.1, pin.2.2.2.2⟩ I1.env0 b r wish) fun r s' out => ?_)
  cases r with
  | error e => exact False.elim out
  | ok fl =>
    cases fl with
    | ret u => exact I1.after out
    | next => exact False.elim out
    | brk => exact False.elim out
    | cont => exact False.elim out
theorem roomMark {k : Nat} {A : Around} {v : Option Value} (r : Room k A) : RoomH k (A.mark v) := ⟨r.dp, r.un⟩
end
end Ht
namespace Tab
open PySem PySem.Spec PyProof.Rows L2
/-! ### counts of tries, and the strings that lead to them (k40, k41, k39) -/
abbrev Ct := Int × Int
variable {M : Ct → Bool}
/-- met after k tries -/
def Mt (M : Ct → Bool) : Nat → Ct → Prop
  | 0, c => c = (0, 0)
  | k + 1, c => ∃ d, Mt M k d ∧ M d = false ∧ (c = (d.1 + 1, d.2) ∨ c = (d.1, d.2 + 1))
theorem Mt.sum : ∀ {k : Nat} {c : Ct}, Mt M k c → c.1 + c.2 = (k : Int) ∧ 0 ≤ c.1 ∧ 0 ≤ c.2
  | 0, c, h => by subst h; simp
  | k + 1, c, ⟨d, h, _, e⟩ => by
    have := Mt.sum h
    rcases e with e | e <;> subst e <;> simp <;> omega
theorem Mt.lev {k j : Nat} {c : Ct} (h : Mt M k c) (g : Mt M j c) : k = j := by
  have a := h.sum.1; have b := g.sum.1; omega
theorem Mt.pred {k : Nat} {c : Ct} (h : Mt M (k + 1) c) : (Mt M k (c.1 - 1, c.2) ∧ M (c.1 - 1, c.2) = false) ∨ (Mt M k (c.1, c.2 - 1) ∧ M (c.1, c.2 - 1) = false) := by
  obtain ⟨d, hd, m, e | e⟩ := h
  · subst e; left; simpa using ⟨hd, m⟩
  · subst e; right; simpa using ⟨hd, m⟩
/-- the letters: 114 for reached, 109 for missed -/
def one (c : Ct) (x : Nat) : Ct := if x = 114 then (c.1 + 1, c.2) else (c.1, c.2 + 1)
def cnt (s : List Nat) : Ct := s.foldl one (0, 0)
theorem cnt_snoc {s : List Nat} {x : Nat} : cnt (s ++ [x]) = one (cnt s) x := by simp [cnt]
/-- strings of k tries that no mark stops before their end -/
def Rn (M : Ct → Bool) : Nat → List Nat → Prop
  | 0, s => s = []
  | k + 1, s => ∃ t x, Rn M k t ∧ M (cnt t) = false ∧ (x = 114 ∨ x = 109) ∧ s = t ++ [x]
theorem Rn.met : ∀ {k : Nat} {s : List Nat}, Rn M k s → Mt M k (cnt s)
  | 0, s, h => by subst h; rfl
  | k + 1, s, ⟨t, x, h, m, hx, e⟩ => by
    subst e
    refine ⟨cnt t, h.met, m, ?_⟩
    rw [cnt_snoc]
    rcases hx with rfl | rfl <;> simp [one]
theorem Mt.run : ∀ {k : Nat} {c : Ct}, Mt M k c → ∃ s, Rn M k s ∧ cnt s = c
  | 0, c, h => ⟨[], rfl, by subst h; rfl⟩
  | k + 1, c, ⟨d, h, m, e⟩ => by
    obtain ⟨t, ht, hc⟩ := h.run
    rcases e with e | e
    · exact ⟨t ++ [114], ⟨t, 114, ht, by rw [hc]; exact m, .inl rfl, rfl⟩, by rw [cnt_snoc, hc, e]; rfl⟩
    · exact ⟨t ++ [109], ⟨t, 109, ht, by rw [hc]; exact m, .inr rfl, rfl⟩, by rw [cnt_snoc, hc, e]; rfl⟩
theorem Rn.len : ∀ {k : Nat} {s : List Nat}, Rn M k s → s.length = k
  | 0, s, h => by subst h; rfl
  | k + 1, s, ⟨t, x, h, _, _, e⟩ => by subst e; simp [h.len]
/-- one level of counts after another, as a dict of counts keeps them -/
def addC (cs : List Ct) (c : Ct) : List Ct := if c ∈ cs then cs else cs ++ [c]
def stepC (M : Ct → Bool) (cs : List Ct) (d : Ct) : List Ct := if M d then cs else addC (addC cs (d.1 + 1, d.2)) (d.1, d.2 + 1)
def nextC (M : Ct → Bool) (now : List Ct) : List Ct := now.foldl (stepC M) []
def levC (M : Ct → Bool) : Nat → List Ct
  | 0 => [(0, 0)]
  | k + 1 => nextC M (levC M k)
theorem mem_addC {cs : List Ct} {c x : Ct} : x ∈ addC cs c ↔ x ∈ cs ∨ x = c := by
  unfold addC; split
  · constructor
    · exact .inl
    · rintro (h | rfl) <;> assumption
  · simp
theorem nodup_addC {cs : List Ct} {c : Ct} (h : cs.Nodup) : (addC cs c).Nodup := by
  unfold addC; split
  · exact h
  · rename_i n
    exact List.nodup_append.mpr ⟨h, by simp, fun a ha b hb e => n (by rw [← List.mem_singleton.mp hb, ← e]; exact ha)⟩
theorem mem_stepC {cs : List Ct} {d x : Ct} : x ∈ stepC M cs d ↔ x ∈ cs ∨ (M d = false ∧ (x = (d.1 + 1, d.2) ∨ x = (d.1, d.2 + 1))) := by
  unfold stepC; split
  · rename_i h; simp [h]
  · rename_i h
    rw [mem_addC, mem_addC]
    simp only [Bool.not_eq_true] at h
    simp [h, or_assoc]
theorem mem_foldC {x : Ct} : ∀ {now cs : List Ct}, x ∈ now.foldl (stepC M) cs ↔ x ∈ cs ∨ ∃ d ∈ now, M d = false ∧ (x = (d.1 + 1, d.2) ∨ x = (d.1, d.2 + 1))
  | [], cs => by simp
  | d :: now, cs => by
    rw [List.foldl_cons, mem_foldC, mem_stepC, or_assoc]
    simp [List.exists_mem_cons]
theorem nodup_foldC : ∀ {now cs : List Ct}, cs.Nodup → (now.foldl (stepC M) cs).Nodup
  | [], cs, h => h
  | d :: now, cs, h => by
    rw [List.foldl_cons]
    refine nodup_foldC ?_
    unfold stepC; split
    · exact h
    · exact nodup_addC (nodup_addC h)
theorem mem_levC : ∀ {k : Nat} {x : Ct}, x ∈ levC M k ↔ Mt M k x
  | 0, x => by simp [levC, Mt]
  | k + 1, x => by
    unfold levC nextC
    rw [mem_foldC]
    simp only [List.not_mem_nil, false_or, Mt]
    exact exists_congr fun d => by rw [mem_levC]
theorem nodup_levC : ∀ {k : Nat}, (levC M k).Nodup
  | 0 => by simp [levC]
  | k + 1 => nodup_foldC .nil
/-- all that is met in at most k tries -/
def metC (M : Ct → Bool) : Nat → List Ct
  | 0 => [(0, 0)]
  | k + 1 => metC M k ++ levC M (k + 1)
theorem mem_metC : ∀ {k : Nat} {x : Ct}, x ∈ metC M k ↔ ∃ j, j ≤ k ∧ Mt M j x
  | 0, x => by simp [metC, Mt]
  | k + 1, x => by
    unfold metC
    rw [List.mem_append, mem_metC, mem_levC]
    constructor
    · rintro (⟨j, h, m⟩ | m)
      · exact ⟨j, by omega, m⟩
      · exact ⟨k + 1, by omega, m⟩
    · rintro ⟨j, h, m⟩
      by_cases e : j = k + 1
      · subst e; exact .inr m
      · exact .inl ⟨j, by omega, m⟩
/-- back from a count to a string that leads to it -/
def back (M : Ct → Bool) (met : List Ct) : Nat → Ct → List Nat → List Nat
  | 0, _, s => s
  | k + 1, c, s => if (c.1 - 1, c.2) ∈ met ∧ M (c.1 - 1, c.2) = false then back M met k (c.1 - 1, c.2) (114 :: s) else back M met k (c.1, c.2 - 1) (109 :: s)
theorem cnt_app {s : List Nat} : ∀ {t : List Nat} {c d : Ct}, t.foldl one c = d → ∀ e : Ct, t.foldl one (c.1 + e.1, c.2 + e.2) = (d.1 + e.1, d.2 + e.2)
  | [], c, d, h, e => by subst h; rfl
  | x :: t, c, d, h, e => by
    rw [List.foldl_cons] at h ⊢
    have := cnt_app (s := s) h e
    rw [← this]
    unfold one
    split <;> simp <;> congr 2 <;> omega
theorem back_ok {met : List Ct} {n : Nat} (hm : ∀ x, x ∈ met ↔ ∃ j, j ≤ n ∧ Mt M j x) : ∀ {k : Nat} {c : Ct} {s : List Nat}, k ≤ n → Mt M k c → ∃ t, back M met k c s = t ++ s ∧ Rn M k t ∧ cnt t = c
  | 0, c, s, _, h => ⟨[], rfl, rfl, by subst h; rfl⟩
  | k + 1, c, s, hk, h => by
    unfold back
    split
    · rename_i g
      obtain ⟨j, hj, mj⟩ := (hm _).mp g.1
      have e : j = k := by
        have a := mj.sum.1; have b := h.sum.1
        simp only at a; omega
      subst e
      obtain ⟨t, e1, r, e2⟩ := back_ok hm (s := 114 :: s) (by omega) mj
      refine ⟨t ++ [114], by rw [e1, List.append_assoc]; rfl, ⟨t, 114, r, by rw [e2]; exact g.2, .inl rfl, rfl⟩, ?_⟩
      rw [cnt_snoc, e2]; simp [one]
    · rename_i g
      have p : Mt M k (c.1, c.2 - 1) ∧ M (c.1, c.2 - 1) = false := by
        rcases h.pred with p | p
        · exact (g ⟨(hm _).mpr ⟨k, by omega, p.1⟩, p.2⟩).elim
        · exact p
      obtain ⟨t, e1, r, e2⟩ := back_ok hm (s := 109 :: s) (by omega) p.1
      refine ⟨t ++ [109], by rw [e1, List.append_assoc]; rfl, ⟨t, 109, r, by rw [e2]; exact p.2, .inr rfl, rfl⟩, ?_⟩
      rw [cnt_snoc, e2]; simp [one]
/-- the law's own way: strings level by level -/
def runsC (M : Ct → Bool) (now : List (List Nat)) : List (List Nat) := now.flatMap fun s => ([114, 109].filter fun x => !M (cnt (s ++ [x]))).map fun x => s ++ [x]
def openC (M : Ct → Bool) : Nat → List (List Nat)
  | 0 => [[]]
  | k + 1 => runsC M (openC M k)
theorem mem_openC (h0 : M (0, 0) = false) : ∀ {k : Nat} {s : List Nat}, s ∈ openC M k ↔ Rn M k s ∧ M (cnt s) = false
  | 0, s => by
    constructor
    · intro h
      have e : s = [] := by simpa [openC] using h
      subst e; exact ⟨rfl, h0⟩
    · rintro ⟨h, _⟩
      have e : s = [] := h
      subst e; simp [openC]
  | k + 1, s => by
    unfold openC runsC
    rw [List.mem_flatMap]
    constructor
    · rintro ⟨t, ht, h⟩
      obtain ⟨x, hx, rfl⟩ := List.mem_map.mp h
      obtain ⟨hx1, hx2⟩ := List.mem_filter.mp hx
      have r := (mem_openC h0).mp ht
      exact ⟨⟨t, x, r.1, r.2, by simpa using hx1, rfl⟩, by simpa using hx2⟩
    · rintro ⟨⟨t, x, r, m, hx, rfl⟩, m2⟩
      exact ⟨t, (mem_openC h0).mpr ⟨r, m⟩, List.mem_map.mpr ⟨x, List.mem_filter.mpr ⟨by simpa using hx, by simpa using m2⟩, rfl⟩⟩
end Tab
namespace Dt
open PySem PySem.Spec PyProof.Rows PyProof.V L2 StX
/-! ### name = {k: v for ..} on one line, the keys tuples, the name a local -/
section
variable {X : Cx}
theorem dcT_core {use : Option (Value → Sem Unit)} {Qf : Value → Shared → Prop} {Q : VK} {pins : List (Addr × Obj)} {s0 : Shared} {σ : L2.St} {H0 : Hp} {pos2 : Pos} {kx vx tg iter : Expr} {ifs : List Expr} {scope : Scope} {own : List (Str × Nat)} {pos : Pos} {wi : TI} {g : TG} {tt : TT} {tk tv : TE} (small : X.A.units < cLine) (calm : X.calm = true) (nodup : X.N.Nodup) (hi : PI X tg iter wi) (ok : BlkOk X.N X.env.scope scope own)
    (hg : ∀ (s : Shared) (H : Hp) (C : Addr) (cl : List (Str × Addr)) (fp : List Addr), PG (X.blk s H scope (compEnvC scope cl C X.env) fp) tg g) (ht : ∀ (s : Shared) (H : Hp) (C : Addr) (cl : List (Str × Addr)) (fp : List Addr), PTs (X.blk s H scope (compEnvC scope cl C X.env) fp) ifs tt)
    (hk : ∀ (s : Shared) (H : Hp) (C : Addr) (cl : List (Str × Addr)) (fp : List Addr), PE (X.blk s H scope (compEnvC scope cl C X.env) fp) kx tk) (he : ∀ (s : Shared) (H : Hp) (C : Addr) (cl : List (Str × Addr)) (fp : List Addr), PE (X.blk s H scope (compEnvC scope cl C X.env) fp) vx tv)
    (unfolded : ∀ x, foldedSetIterable iter X.env x = pure x ) (I0 : Inv X pins σ H0 s0) (wish : tDcT wi g tt tk tv (own.map (·.2)) σ H0 Q)
    (fin : ∀ D C s' m H', Inv X pins σ H' s' → Q (.ref D) H' → s'.heap.Ns C m → FpOk X pins H' C → compPost (model X.prog X.w) X.A X.xe use Qf (.ref D) C (.ok .next) s') :
    wpAny (model X.prog X.w) X.A (comprehension (.DictComp kx vx [⟨tg, iter, ifs, 0⟩] scope pos) scope X.env pos2 newDict false (eval iter X.env) use) Qf X.xe s0 := by
  have bound : ∀ y ∈ scope.names, y.2 = .free → ∃ c, X.env.cells.lookup y.1 = some c := fun y hy e => (ok.free y hy e).elim (fun k => I0.ok.has _ (.inl k)) fun k => I0.ok.has _ (.inr k)
  refine wpAny_comprehension_free (use := use) rfl unfolded (closure_ok bound) ok.kind (fun y hy e => by rw [ok.uniq y hy, e]) (thn (hi.run pins s0 σ H0 _ I0 wish) fun xv sA walked => thn walked fun itv sB arrived => ?_)
  obtain ⟨it, fp, tn, J, HB, rfl, IB, T, stB, fpB, made⟩ := arrived
  refine wpAny_newObj_type (newEnv_comp ?_)
  -- the new dict
  obtain ⟨D, hD⟩ : ∃ D, sB.heap.objs.size = D := ⟨_, rfl⟩
  have free : HB D = none := IB.hok.fresh (Nat.le_of_eq hD)
  obtain ⟨W, ⟨m0, w0⟩, turn⟩ := made D free
  let sC : Shared := { sB with heap := sB.heap.push { cls := .type "dict", data := .dict #[] } }
  have over : ∀ b u, sB.heap.get? b = some u → sC.heap.get? b = some u := fun b u e => Heap.get?_push_of_some _ e
  have IC : Inv X pins σ (upd HB D (.dT [])) sC := IB.laid (t' := sB.toks) over (Nat.le_of_eq hD) (by rw [← hD]; exact dt_empty sB.heap IB.big)
  have fpC : ∀ b ∈ fp, FpOk X pins (upd HB D (.dT [])) b ∧ b < sC.heap.objs.size := fun b hb => by
    obtain ⟨u, e, _⟩ := T.obj _ _ stB b hb
    have lt := Heap.lt_size e
    refine ⟨⟨?_, (fpB b hb).2⟩, by show b < (sB.heap.push _).objs.size; rw [Heap.size_push]; exact Nat.lt_succ_of_lt lt⟩
    rw [upd_ne (by rw [← hD]; exact Nat.ne_of_lt lt)]
    exact (fpB b hb).1
  -- the block of names
  have ID := block_start IC ok nodup fpC
  let cells := cellsFrom (sC.heap.objs.size + 1) scope.names (cloFrom X.env.cells scope.names [])
  have pg := hg sC (upd HB D (.dT [])) sC.heap.objs.size cells fp
  have pt := ht sC (upd HB D (.dT [])) sC.heap.objs.size cells fp
  have pk := hk sC (upd HB D (.dT [])) sC.heap.objs.size cells fp
  have pv := he sC (upd HB D (.dT [])) sC.heap.objs.size cells fp
  let env2 := compEnvC scope cells sC.heap.objs.size X.env
  let X2 := X.blk sC (upd HB D (.dT [])) scope env2 fp
  let sD : Shared := { sC with heap := pushCells (sC.heap.push { cls := .type "dict", data := .dict #[] }) scope.names }
  have stD : tn 0 sD.heap := T.keep _ _ _ (T.keep _ _ _ stB fun b _ u e => over b u e) fun b _ u e => pushCells_keeps _ _ _ _ (Heap.get?_push_of_some _ e)
  have stays : ∀ {σ' : L2.St} {H' : Hp} {s' : Shared}, Inv X2 [] σ' H' s' → (∀ b ∈ fp, H' b = none) → ∀ b ∈ fp, FpOk X2 [] H' b := fun {σ' H' s'} I' none' b hb =>
    ⟨none' b hb, (I'.ok.exf b hb).1, I'.ok.exfs b hb, .inl hb, fun x c e => (I'.ok.exf b hb).2 x c e, fun p hp => absurd (show p ∈ ([] : List (Addr × Obj)) ++ [] from hp) (by simp)⟩
  have loop : codeAny (model X.prog X.w) X.A (.compLoop (.DictComp kx vx [⟨tg, iter, ifs, 0⟩] scope pos) 0 (.ref it) (.ref D) env2) (compPost (model X.prog X.w) X.A X.xe use Qf (.ref D) sC.heap.objs.size) sD := by
    refine compLoop_anyD (fun m s' => ∃ i H', Inv X2 [] (wipe σ (own.map (·.2))) H' s' ∧ tn i s'.heap ∧ (∀ b ∈ fp, H' b = none) ∧ W i m H') ?_ m0 ⟨0, _, ID, stD, fun b hb => (fpC b hb).1.1, w0⟩
    rintro m s1 ⟨i, H1, I1, st1, none1, w1⟩
    rcases turn i m H1 w1 with ⟨stop, last⟩ | ⟨go, Nx, less, step⟩
    · refine thnF (T.done X2 rfl rfl rfl calm i [] s1 _ H1 (fun _ _ => False) I1 (stays I1 none1) st1 stop) fun r s2 ⟨hr, I2⟩ => ?_
      subst hr
      have back : Inv X pins σ H1 s2 := IC.call' (ch := fp) I2.os I2.base I2.hok I2.bare fun b hb => ⟨(fpC b hb).1.2.2.2.1, (fpC b hb).1.2.1, (fpC b hb).1.2.2.2.2.1, (fpC b hb).1.2.2.2.2.2⟩
      have freeC : H1 sC.heap.objs.size = none := I2.free
      obtain ⟨names, held, _⟩ := I2.loc
      exact fin D sC.heap.objs.size s2 names H1 back last held (IC.fpOk (Nat.le_refl _) freeC)
    · refine thnF (T.item X2 rfl rfl rfl calm i [] s1 _ H1 (fun _ _ => False) I1 (stays I1 none1) st1 go) fun r s2 ⟨u, hr, taken⟩ => ?_
      subst hr
      refine thnF taken fun _ s3 ⟨x, H3, I3, r3, y3, st3, none3⟩ => ?_
      refine thnF (pg.run _ s3 _ H3 x u _ (I3.pinned (stays I3 none3) (T.obj _ _ st3)) r3 (step x H3 y3)) fun _ s4 ⟨σ4, H4, I4, wiped, q4⟩ => ?_
      refine thnF (pt.run _ s4 σ4 H4 _ I4 q4) fun b s5 ⟨H5, I5, q5⟩ => ?_
      have turned : ∀ {s' : Shared} {H' : Hp}, Inv X2 ([] ++ pinsAt fp s3.heap) σ4 H' s' → Nx H' → ∃ m', m' < m ∧ ∃ i H', Inv X2 [] (wipe σ (own.map (·.2))) H' s' ∧ tn i s'.heap ∧ (∀ b ∈ fp, H' b = none) ∧ W i m' H' := fun {s' H'} I' nx => by
        obtain ⟨m', lt, w'⟩ := less H' nx
        have pin : ∀ b ∈ fp, ∀ u, s3.heap.get? b = some u → s'.heap.get? b = some u ∧ H' b = none := fun b hb u e =>
          have z := I'.pin (b, u) (List.mem_append_right _ (List.mem_append_right _ (mem_pinsAt hb e)))
          ⟨z.1, z.2.1⟩
        have same : (wipe σ (own.map (·.2))).length = σ4.length := by rw [← wiped, wipe_length]
        refine ⟨m', lt, i + 1, H', (I'.unpinned (pins := [])).weak same (fun j v e => ?_), T.keep _ _ _ st3 fun b hb u e => (pin b hb u e).1, fun b hb => ?_, w'⟩
        · rw [← wiped] at e; exact (wipe_some e).1
        · obtain ⟨u, e, _⟩ := T.obj _ _ st3 b hb
          exact (pin b hb u e).2
      cases b with
      | false => exact turned I5 q5
      | true =>
        refine thnF (pk.run _ s5 σ4 H5 _ I5 q5) fun kv s6 ⟨yk, H6, I6, r6, q6⟩ => ?_
        refine thnF (pv.run _ s6 σ4 H6 _ I6 q6) fun vv s7 ⟨yv, H7, I7, r7, kvs, k, q, ek, tup, at7, few, nx⟩ => ?_
        subst ek
        cases (show kv = Value.ref q from r6)
        exact dictSetT (X := X2) small I7 at7 few tup r7 fun s8 I8 => turned I8 nx
  subst hD
  show codeAny (model X.prog X.w) X.A (.compStart (.DictComp kx vx [⟨tg, iter, ifs, 0⟩] scope pos) 0 (.ref it) (.ref sB.heap.objs.size) env2) (compPost (model X.prog X.w) X.A X.xe use Qf (.ref sB.heap.objs.size) sC.heap.objs.size) sD
  exact codeAny_compStart_dict loop (T.self X.A 0 _ _ _ stD loop)
theorem ps_setDcT {i : Nat} {y : Str} {py : Pos} {kx vx tg iter : Expr} {ifs : List Expr} {scope : Scope} {own : List (Str × Nat)} {pos spos : Pos} {wi : TI} {g : TG} {tt : TT} {tk tv : TE} (small : X.A.units < cLine) (calm : X.calm = true) (nodup : X.N.Nodup) (at1 : X.N[i]? = some y) (yloc : X.env.scope.names.lookup y = some .local)
    (sw : swapsWith (.DictComp kx vx [⟨tg, iter, ifs, 0⟩] scope pos) (some (.Name y py)) spos.line X.env = pure true) (hi : PI X tg iter wi) (ok : BlkOk X.N X.env.scope scope own)
    (hg : ∀ (s : Shared) (H : Hp) (C : Addr) (cl : List (Str × Addr)) (fp : List Addr), PG (X.blk s H scope (compEnvC scope cl C X.env) fp) tg g) (ht : ∀ (s : Shared) (H : Hp) (C : Addr) (cl : List (Str × Addr)) (fp : List Addr), PTs (X.blk s H scope (compEnvC scope cl C X.env) fp) ifs tt)
    (hk : ∀ (s : Shared) (H : Hp) (C : Addr) (cl : List (Str × Addr)) (fp : List Addr), PE (X.blk s H scope (compEnvC scope cl C X.env) fp) kx tk) (he : ∀ (s : Shared) (H : Hp) (C : Addr) (cl : List (Str × Addr)) (fp : List Addr), PE (X.blk s H scope (compEnvC scope cl C X.env) fp) vx tv)
    (unfolded : ∀ x, foldedSetIterable iter X.env x = pure x := by intro _; rfl) : PS X (.Assign [.Name y py] (.DictComp kx vx [⟨tg, iter, ifs, 0⟩] scope pos) spos) (tAsg (tDcT wi g tt tk tv (own.map (·.2))) (gName i)) := by
  refine ⟨fun pins s0 σ H0 D I0 wish => ?_⟩
  rw [exec_Assign_Name_used _ _ _ _ sw]
  refine wpAny_bind (wpAny_standAt (wpAny_bind ?_))
  show wpAny _ X.A (do let _ ← comprehension (.DictComp kx vx [⟨tg, iter, ifs, 0⟩] scope pos) scope X.env (firstIterPos [⟨tg, iter, ifs, 0⟩] pos) newDict false (eval iter X.env) (some (assign (.Name y py) X.env))) _ _ s0
  have wish : tDcT wi g tt tk tv (own.map (·.2)) σ H0 (fun x H1 => gName i x σ H1 D.nx) := wish
  refine wpAny_bind (thn (dcT_core (Qf := fun _ s' => SP X pins D .next s') small calm nodup hi ok hg ht hk he unfolded I0 wish fun L C s' names H' I' last held free => ?_) fun _ s' done => wpAny_pure (wpAny_pure done))
  show wpAny _ _ (assign (.Name y py) X.env (.ref L)) _ _ _
  obtain ⟨f0, f1, _, f3, f4, f5⟩ := free
  refine wpAny_assign_Name (store_ok2 (v := V.ref L) I' nodup at1 (.inl yloc) rfl (fun s2 I2 moved => ?_) (.inr yloc))
  obtain ⟨a, but, where_⟩ := moved
  have apart : C ≠ a := where_.elim (fun z => by rw [z]; exact f1) fun z e => f4 y a z e.symm
  exact ⟨names, held.sameBut but apart, fun h3 but3 => ⟨_, H', I2.turned (t' := s2.toks) (fun b u hb e => (but3.2 b hb).trans e) f0 f1 f3 f4 f5, last⟩⟩
theorem sw_dict {kx vx : Expr} {gs : List Comprehension} {scope : Scope} {pos py : Pos} {y : Str} {l : Nat} {env : Env} (kind : env.scope.kind = .function) (yloc : env.scope.names.lookup y = some .local) (line : (py.line == pos.line) = true)
    (apart : (scope.names.any fun (n, k) => n == y && (k == .local || k == .cell)) = false) : swapsWith (.DictComp kx vx gs scope pos) (some (.Name y py)) l env = pure true := by
  have k1 : env.kindOf y = some .local := yloc
  have k2 : env.blockKind = .function := by unfold Env.blockKind; rw [kind]; rfl
  unfold swapsWith
  simp only [k1, k2, apart, Expr.pos, line]
  rfl
end
/-! ### the reading over a range, D told with what it holds -/
section
variable {tas : TA} {G : TG} {tt : TT} {tk tv : TE} {vs : List Nat} {σ : L2.St} {H : Hp} {Q : VK}
def DcR1 (G : TG) (tt : TT) (tk tv : TE) (vs : List Nat) (σ : L2.St) (Q : VK) (us : List V) (H1 : Hp) : Prop := ∃ j : Int, us = [.int j] ∧ -(2 ^ 62) ≤ j ∧ j < 2 ^ 62 ∧ ∀ D, H1 D = none → ∃ W : Nat → Nat → Hp → Prop, (∃ m, W 0 m (upd H1 D (.dT []))) ∧ ∀ i m H, W i m H →
  ((Itr 0 j.toNat).stop i H ∧ Q (.ref D) H) ∨ ((Itr 0 j.toNat).go i H ∧ ∃ Nx : Hp → Prop, (∀ H', Nx H' → ∃ m', m' < m ∧ W (i + 1) m' H') ∧ ∀ x H', (Itr 0 j.toNat).yld i H x H' → G x (wipe σ vs) H' fun σ2 H2 => wipe σ2 vs = wipe σ vs ∧ tt σ2 H2 fun b H3 =>
    if b = true then tk σ2 H3 fun y H4 => tv σ2 H4 fun z H5 => ∃ (kvs : Tb) (k : List Key) (q : Addr), y = .ref q ∧ H5 q = some (.tup (k.map kV)) ∧ H5 D = some (.dT kvs) ∧ kvs.length < sizeLine ∧ Nx (upd H5 D (.dT (putK kvs k z))) else Nx H3)
theorem r_dcR1 (k : tas σ H fun us H1 => DcR1 G tt tk tv vs σ Q us H1) : tDcT (iRng1 tas) G tt tk tv vs σ H Q := k
theorem dcR1_go {j : Int} (Pv : Addr → Nat → Hp → Prop) (hb : -(2 ^ 62) ≤ j ∧ j < 2 ^ 62) (h0 : ∀ D, H D = none → Pv D 0 (upd H D (.dT [])))
    (hs : ∀ D (i : Nat) H', H D = none → (i : Int) < j → Pv D i H' → G (.int i) (wipe σ vs) H' fun σ2 H2 => wipe σ2 vs = wipe σ vs ∧ tt σ2 H2 fun b H3 =>
      if b = true then tk σ2 H3 fun y H4 => tv σ2 H4 fun z H5 => ∃ (kvs : Tb) (k : List Key) (q : Addr), y = .ref q ∧ H5 q = some (.tup (k.map kV)) ∧ H5 D = some (.dT kvs) ∧ kvs.length < sizeLine ∧ Pv D (i + 1) (upd H5 D (.dT (putK kvs k z))) else Pv D (i + 1) H3)
    (hd : ∀ D H', H D = none → Pv D j.toNat H' → Q (.ref D) H') : DcR1 G tt tk tv vs σ Q [.int j] H := by
  refine ⟨j, rfl, hb.1, hb.2, fun D hD => ⟨fun i m H' => m = j.toNat - i ∧ i ≤ j.toNat ∧ Pv D i H', ⟨_, rfl, Nat.zero_le _, h0 D hD⟩, ?_⟩⟩
  rintro i m H' ⟨rfl, le, pv⟩
  rcases Nat.lt_or_ge i j.toNat with lt | ge
  · refine .inr ⟨lt, Pv D (i + 1), fun H2 p2 => ⟨_, Nat.sub_lt_sub_left lt (Nat.lt_succ_self i), rfl, lt, p2⟩, ?_⟩
    rintro x H2 ⟨rfl, rfl⟩
    rw [Int.zero_add]
    exact hs D i _ hD (by omega) pv
  · obtain rfl : i = j.toNat := by omega
    exact .inl ⟨Nat.le_refl _, hd D H' hD pv⟩
end
end Dt
abbrev PG : Program := PySem.Challenge.pw_metehouse_k42_whole_quickest_races
def topS (i : Nat) : Stmt := PySem.Challenge.pw_metehouse_k42_whole_quickest_races.main.body.getD i (.Pass ⟨0, 0, 0, 0⟩)
abbrev s_counts_met : Stmt := topS 9
theorem sc_counts_met : FnScope ["limit", "marks", "found", "now", "_", "ahead", "reached", "missed"] ["limit", "marks"] (defScope s_counts_met) := ⟨rfl, rfl, rfl, by decide +kernel, rfl, by decide +kernel, by decide +kernel⟩
abbrev s_tries_to : Stmt := topS 10
theorem sc_tries_to : FnScope ["met", "marks", "count", "tries", "reached", "missed", "before"] ["met", "marks", "count"] (defScope s_tries_to) := ⟨rfl, rfl, rfl, by decide +kernel, rfl, by decide +kernel, by decide +kernel⟩
abbrev s_refuted : Stmt := topS 11
theorem sc_refuted : FnScope ["reached", "missed", "word", "wrong"] ["reached", "missed", "word", "wrong"] (defScope s_refuted) := ⟨rfl, rfl, rfl, by decide +kernel, rfl, by decide +kernel, by decide +kernel⟩
abbrev s_Table___init : Stmt := inClass (topS 13) 0
theorem sc_Table___init : FnScope ["self", "limit", "ends", "reached", "missed", "word", "count"] ["self", "limit", "ends"] (defScope s_Table___init) := ⟨rfl, rfl, rfl, by decide +kernel, rfl, by decide +kernel, by decide +kernel⟩
abbrev s_Table_race : Stmt := inClass (topS 13) 1
theorem sc_Table_race : FnScope ["cls", "wrong", "ends", "missed", "reached"] ["cls", "wrong"] (defScope s_Table_race) := ⟨rfl, rfl, rfl, by decide +kernel, rfl, by decide +kernel, by decide +kernel⟩
abbrev s_Table_ends : Stmt := inClass (topS 13) 2
theorem sc_Table_ends : FnScope ["self", "count", "word"] ["self"] (defScope s_Table_ends) := ⟨rfl, rfl, rfl, by decide +kernel, rfl, by decide +kernel, by decide +kernel⟩
abbrev s_Table_word_after : Stmt := inClass (topS 13) 3
theorem sc_Table_word_after : FnScope ["self", "tries", "reached", "missed", "one"] ["self", "tries"] (defScope s_Table_word_after) := ⟨rfl, rfl, rfl, by decide +kernel, rfl, by decide +kernel, by decide +kernel⟩
abbrev s_Table_stops : Stmt := inClass (topS 13) 4
theorem sc_Table_stops : FnScope ["self", "met", "count"] ["self"] (defScope s_Table_stops) := ⟨rfl, rfl, rfl, by decide +kernel, rfl, by decide +kernel, by decide +kernel⟩
abbrev s_Table_sound : Stmt := inClass (topS 13) 5
theorem sc_Table_sound : FnScope ["self", "wrong", "met", "reached", "missed", "word", "truth"] ["self", "wrong"] (defScope s_Table_sound) := ⟨rfl, rfl, rfl, by decide +kernel, rfl, by decide +kernel, by decide +kernel⟩
abbrev s_Table_longest : Stmt := inClass (topS 13) 6
theorem sc_Table_longest : FnScope ["self", "wrong", "reached", "missed", "_"] ["self", "wrong"] (defScope s_Table_longest) := ⟨rfl, rfl, rfl, by decide +kernel, rfl, by decide +kernel, by decide +kernel⟩
abbrev s_Table_softened : Stmt := inClass (topS 13) 7
theorem sc_Table_softened : FnScope ["self", "wrong", "ends", "reached", "missed", "word"] ["self", "wrong"] (defScope s_Table_softened) := ⟨rfl, rfl, rfl, by decide +kernel, rfl, by decide +kernel, by decide +kernel⟩
abbrev s_Table___eq : Stmt := inClass (topS 13) 8
theorem sc_Table___eq : FnScope ["self", "other"] ["self", "other"] (defScope s_Table___eq) := ⟨rfl, rfl, rfl, by decide +kernel, rfl, by decide +kernel, by decide +kernel⟩
abbrev s_quickest : Stmt := topS 15
theorem sc_quickest : FnScope ["wrong", "limit", "few", "ends", "other", "reached"] ["wrong", "limit"] (defScope s_quickest) := ⟨rfl, rfl, rfl, by decide +kernel, rfl, by decide +kernel, by decide +kernel⟩
abbrev s_w_box : Stmt := topS 17
theorem sc_w_box : FnScope ["_law_script", "_law_place"] ["_law_script", "_law_place"] (defScope s_w_box) := ⟨rfl, rfl, rfl, by decide +kernel, rfl, by decide +kernel, by decide +kernel⟩
abbrev s_w_take : Stmt := topS 18
theorem sc_w_take : FnScope ["_law_box_here", "_law_size", "_law_digit", "_law_one", "_law_two"] ["_law_box_here", "_law_size"] (defScope s_w_take) := ⟨rfl, rfl, rfl, by decide +kernel, rfl, by decide +kernel, by decide +kernel⟩
abbrev s_w_is_integer : Stmt := topS 19
theorem sc_w_is_integer : FnScope ["_law_value"] ["_law_value"] (defScope s_w_is_integer) := ⟨rfl, rfl, rfl, by decide +kernel, rfl, by decide +kernel, by decide +kernel⟩
abbrev s_w_copy : Stmt := topS 20
theorem sc_w_copy : FnScope ["_law_ends", "_law_made", "_law_count"] ["_law_ends"] (defScope s_w_copy) := ⟨rfl, rfl, rfl, by decide +kernel, rfl, by decide +kernel, by decide +kernel⟩
abbrev s_w_limit : Stmt := topS 21
theorem sc_w_limit : FnScope ["_law_box_here"] ["_law_box_here"] (defScope s_w_limit) := ⟨rfl, rfl, rfl, by decide +kernel, rfl, by decide +kernel, by decide +kernel⟩
abbrev s_w_word : Stmt := topS 22
theorem sc_w_word : FnScope ["_law_box_here"] ["_law_box_here"] (defScope s_w_word) := ⟨rfl, rfl, rfl, by decide +kernel, rfl, by decide +kernel, by decide +kernel⟩
abbrev s_w_entries : Stmt := topS 23
theorem sc_w_entries : FnScope ["_law_box_here", "_law_limit_here", "_law_most", "_law_size", "_law_ends", "_law_k", "_law_word_here", "_law_total", "_law_reached"] ["_law_box_here", "_law_limit_here"] (defScope s_w_entries) := ⟨rfl, rfl, rfl, by decide +kernel, rfl, by decide +kernel, by decide +kernel⟩
abbrev s_w_last : Stmt := topS 24
theorem sc_w_last : FnScope ["_law_limit_here", "_law_ends", "_law_level", "_law_size", "_law_after", "_law_count", "_law_longer_here"] ["_law_limit_here", "_law_ends"] (defScope s_w_last) := ⟨rfl, rfl, rfl, by decide +kernel, rfl, by decide +kernel, by decide +kernel⟩
abbrev s_w_filled : Stmt := topS 25
theorem sc_w_filled : FnScope ["_law_box_here", "_law_limit_here", "_law_ends", "_law_full", "_law_count"] ["_law_box_here", "_law_limit_here", "_law_ends"] (defScope s_w_filled) := ⟨rfl, rfl, rfl, by decide +kernel, rfl, by decide +kernel, by decide +kernel⟩
abbrev s_w_right : Stmt := topS 26
theorem sc_w_right : FnScope ["_law_ends", "_law_wrong_here", "_law_right_here", "_law_count", "_law_word_here"] ["_law_ends", "_law_wrong_here"] (defScope s_w_right) := ⟨rfl, rfl, rfl, by decide +kernel, rfl, by decide +kernel, by decide +kernel⟩
abbrev s_w_stops : Stmt := topS 27
theorem sc_w_stops : FnScope ["_law_limit_here", "_law_ends", "_law_stops_here", "_law_level", "_law_size", "_law_after", "_law_count", "_law_longer_here"] ["_law_limit_here", "_law_ends"] (defScope s_w_stops) := ⟨rfl, rfl, rfl, by decide +kernel, rfl, by decide +kernel, by decide +kernel⟩
abbrev s_w_false : Stmt := topS 28
theorem sc_w_false : FnScope ["_law_word_here", "_law_count", "_law_wrong_here"] ["_law_word_here", "_law_count", "_law_wrong_here"] (defScope s_w_false) := ⟨rfl, rfl, rfl, by decide +kernel, rfl, by decide +kernel, by decide +kernel⟩
abbrev s_w_soft : Stmt := topS 29
theorem sc_w_soft : FnScope ["_law_ends", "_law_stops_here", "_law_wrong_here", "_law_soft_here", "_law_count"] ["_law_ends", "_law_stops_here", "_law_wrong_here"] (defScope s_w_soft) := ⟨rfl, rfl, rfl, by decide +kernel, rfl, by decide +kernel, by decide +kernel⟩
abbrev s_w_dict_right : Stmt := topS 30
theorem sc_w_dict_right : FnScope ["_law_told", "_law_ends", "_law_count"] ["_law_told", "_law_ends"] (defScope s_w_dict_right) := ⟨rfl, rfl, rfl, by decide +kernel, rfl, by decide +kernel, by decide +kernel⟩
abbrev s_w_is : Stmt := topS 31
theorem sc_w_is : FnScope ["_law_table", "_law_limit_here", "_law_ends", "_law_told"] ["_law_table", "_law_limit_here", "_law_ends"] (defScope s_w_is) := ⟨rfl, rfl, rfl, by decide +kernel, rfl, by decide +kernel, by decide +kernel⟩
abbrev s_w_wrong : Stmt := topS 32
theorem sc_w_wrong : FnScope ["_law_box_here"] ["_law_box_here"] (defScope s_w_wrong) := ⟨rfl, rfl, rfl, by decide +kernel, rfl, by decide +kernel, by decide +kernel⟩
abbrev s_w_race_word : Stmt := topS 33
theorem sc_w_race_word : FnScope ["_law_count", "_law_wrong_here", "_law_limit_here"] ["_law_count", "_law_wrong_here", "_law_limit_here"] (defScope s_w_race_word) := ⟨rfl, rfl, rfl, by decide +kernel, rfl, by decide +kernel, by decide +kernel⟩
abbrev s_w_race : Stmt := topS 34
theorem sc_w_race : FnScope ["_law_wrong_here", "_law_limit_here", "_law_ends", "_law_level", "_law_size", "_law_after", "_law_count", "_law_longer_here", "_law_word_here"] ["_law_wrong_here", "_law_limit_here"] (defScope s_w_race) := ⟨rfl, rfl, rfl, by decide +kernel, rfl, by decide +kernel, by decide +kernel⟩
abbrev s_w_speaks : Stmt := topS 35
theorem sc_w_speaks : FnScope ["_law_table", "_law_ends", "_law_count", "_law_tries"] ["_law_table", "_law_ends"] (defScope s_w_speaks) := ⟨rfl, rfl, rfl, by decide +kernel, rfl, by decide +kernel, by decide +kernel⟩
abbrev s_w_quick_right : Stmt := topS 36
theorem sc_w_quick_right : FnScope ["_law_wrong_here", "_law_limit_here", "_law_quick", "_law_due", "_law_count"] ["_law_wrong_here", "_law_limit_here", "_law_quick"] (defScope s_w_quick_right) := ⟨rfl, rfl, rfl, by decide +kernel, rfl, by decide +kernel, by decide +kernel⟩
abbrev s_w_race_right : Stmt := topS 37
theorem sc_w_race_right : FnScope ["_law_wrong_here", "_law_race_here", "_law_limit_here"] ["_law_wrong_here"] (defScope s_w_race_right) := ⟨rfl, rfl, rfl, by decide +kernel, rfl, by decide +kernel, by decide +kernel⟩
abbrev s_w_longer : Stmt := topS 38
theorem sc_w_longer : FnScope ["_law_table", "_law_quick", "_law_run", "_law_wrong_here", "_law_word_here", "_law_said", "_law_told"] ["_law_table", "_law_quick", "_law_run", "_law_wrong_here"] (defScope s_w_longer) := ⟨rfl, rfl, rfl, by decide +kernel, rfl, by decide +kernel, by decide +kernel⟩
abbrev s_w_none_quicker : Stmt := topS 39
theorem sc_w_none_quicker : FnScope ["_law_table", "_law_quick", "_law_limit_here", "_law_wrong_here", "_law_level", "_law_size", "_law_after", "_law_seen", "_law_run", "_law_letter", "_law_count", "_law_answer"] ["_law_table", "_law_quick", "_law_limit_here", "_law_wrong_here"] (defScope s_w_none_quicker) := ⟨rfl, rfl, rfl, by decide +kernel, rfl, by decide +kernel, by decide +kernel⟩
abbrev s_w_compared : Stmt := topS 40
theorem sc_w_compared : FnScope ["_law_limit_here", "_law_ends", "_law_wrong_here", "_law_quick", "_law_stops_here", "_law_table", "_law_sure", "_law_count", "_law_soft_here"] ["_law_limit_here", "_law_ends", "_law_wrong_here", "_law_quick"] (defScope s_w_compared) := ⟨rfl, rfl, rfl, by decide +kernel, rfl, by decide +kernel, by decide +kernel⟩
abbrev s_w_refusal : Stmt := topS 41
theorem sc_w_refusal : FnScope ["_law_way", "_law_wrong_here", "_law_limit_here", "e"] ["_law_way", "_law_wrong_here", "_law_limit_here"] (defScope s_w_refusal) := ⟨rfl, rfl, rfl, by decide +kernel, rfl, by decide +kernel, by decide +kernel⟩
abbrev s_w_refused : Stmt := topS 42
theorem sc_w_refused : FnScope ["_law_box_here", "_law_wrong_here", "_law_limit_here", "_law_low", "_law_high", "_law_bad", "_law_number", "_law_fault"] ["_law_box_here", "_law_wrong_here", "_law_limit_here"] (defScope s_w_refused) := ⟨rfl, rfl, rfl, by decide +kernel, rfl, by decide +kernel, by decide +kernel⟩
abbrev s_law : Stmt := topS 43
theorem sc_law : FnScope ["_law_script", "_law_box_here", "_law_wrong_here", "_law_limit_here", "_law_quick", "_law_ends", "_law_far"] ["_law_script"] (defScope s_law) := ⟨rfl, rfl, rfl, by decide +kernel, rfl, by decide +kernel, by decide +kernel⟩
abbrev s_BadNumber_init : Stmt := inClass (topS 2) 0
theorem sh_BadNumber {w : World} : Er.Sh1 PG w s_BadNumber_init "number" := by
  refine ⟨⟨_, _, _, _, _, _, _, _, _, _, _, rfl, fun q L fI cda cc m v A E s Q hm hv hn k => ?_, fun q L fI cda cc => ⟨rfl, rfl, rfl, rfl, rfl⟩⟩, ⟨_, rfl, rfl⟩, rfl, rfl, rfl, rfl, by decide, by decide, rfl, rfl, rfl, by decide +kernel, fun s x v qual doc pm an cda cc ct => .of_eq rfl⟩
  exact Er.tx_joined (.cons (Er.tx_repr hm hv rfl rfl) (.cons (Er.tx_const (by decide)) .nil)) (by decide) hn k
abbrev s_BadTable_init : Stmt := inClass (topS 3) 0
theorem sh_BadTable {w : World} : Er.Sh1 PG w s_BadTable_init "fault" := by
  refine ⟨⟨_, _, _, _, _, _, _, _, _, _, _, rfl, fun q L fI cda cc m v A E s Q hm hv hn k => ?_, fun q L fI cda cc => ⟨rfl, rfl, rfl, rfl, rfl⟩⟩, ⟨_, rfl, rfl⟩, rfl, rfl, rfl, rfl, by decide, by decide, rfl, rfl, rfl, by decide +kernel, fun s x v qual doc pm an cda cc ct => .of_eq rfl⟩
  exact Er.tx_joined (.cons (Er.tx_const (by decide)) (.cons (Er.tx_plain hm hv rfl rfl) .nil)) (by decide) hn k
/-- what the top has written -/
structure Tx (K : PySem.W.Frag) (mg : Str → Option Value) : Type where
  f_counts_met : Addr
  fd_counts_met : FuncData
  F_counts_met : Fun K "counts_met" "counts_met" s_counts_met f_counts_met fd_counts_met
  g_counts_met : mg "counts_met" = some (.ref f_counts_met)
  b_counts_met : Binds K fd_counts_met ["limit", "marks"] []
  f_tries_to : Addr
  fd_tries_to : FuncData
  F_tries_to : Fun K "tries_to" "tries_to" s_tries_to f_tries_to fd_tries_to
  g_tries_to : mg "tries_to" = some (.ref f_tries_to)
  b_tries_to : Binds K fd_tries_to ["met", "marks", "count"] []
  f_refuted : Addr
  fd_refuted : FuncData
  F_refuted : Fun K "refuted" "refuted" s_refuted f_refuted fd_refuted
  g_refuted : mg "refuted" = some (.ref f_refuted)
  b_refuted : Binds K fd_refuted ["reached", "missed", "word", "wrong"] []
  f_Table___init : Addr
  fd_Table___init : FuncData
  F_Table___init : Fun K "__init__" "Table.__init__" s_Table___init f_Table___init fd_Table___init
  b_Table___init : Binds K fd_Table___init ["self", "limit", "ends"] []
  f_Table_race : Addr
  fd_Table_race : FuncData
  F_Table_race : Fun K "race" "Table.race" s_Table_race f_Table_race fd_Table_race
  b_Table_race : Binds K fd_Table_race ["cls", "wrong"] []
  f_Table_ends : Addr
  fd_Table_ends : FuncData
  F_Table_ends : Fun K "ends" "Table.ends" s_Table_ends f_Table_ends fd_Table_ends
  b_Table_ends : Binds K fd_Table_ends ["self"] []
  f_Table_word_after : Addr
  fd_Table_word_after : FuncData
  F_Table_word_after : Fun K "word_after" "Table.word_after" s_Table_word_after f_Table_word_after fd_Table_word_after
  b_Table_word_after : Binds K fd_Table_word_after ["self", "tries"] []
  f_Table_stops : Addr
  fd_Table_stops : FuncData
  F_Table_stops : Fun K "stops" "Table.stops" s_Table_stops f_Table_stops fd_Table_stops
  b_Table_stops : Binds K fd_Table_stops ["self"] []
  f_Table_sound : Addr
  fd_Table_sound : FuncData
  F_Table_sound : Fun K "sound" "Table.sound" s_Table_sound f_Table_sound fd_Table_sound
  b_Table_sound : Binds K fd_Table_sound ["self", "wrong"] []
  f_Table_longest : Addr
  fd_Table_longest : FuncData
  F_Table_longest : Fun K "longest" "Table.longest" s_Table_longest f_Table_longest fd_Table_longest
  b_Table_longest : Binds K fd_Table_longest ["self", "wrong"] []
  f_Table_softened : Addr
  fd_Table_softened : FuncData
  F_Table_softened : Fun K "softened" "Table.softened" s_Table_softened f_Table_softened fd_Table_softened
  b_Table_softened : Binds K fd_Table_softened ["self", "wrong"] []
  f_Table___eq : Addr
  fd_Table___eq : FuncData
  F_Table___eq : Fun K "__eq__" "Table.__eq__" s_Table___eq f_Table___eq fd_Table___eq
  b_Table___eq : Binds K fd_Table___eq ["self", "other"] []
  f_quickest : Addr
  fd_quickest : FuncData
  F_quickest : Fun K "quickest" "quickest" s_quickest f_quickest fd_quickest
  g_quickest : mg "quickest" = some (.ref f_quickest)
  b_quickest : Binds K fd_quickest ["wrong", "limit"] []
  f_w_box : Addr
  fd_w_box : FuncData
  F_w_box : Fun K "_law_box" "_law_box" s_w_box f_w_box fd_w_box
  g_w_box : mg "_law_box" = some (.ref f_w_box)
  b_w_box : Binds K fd_w_box ["_law_script", "_law_place"] []
  f_w_take : Addr
  fd_w_take : FuncData
  F_w_take : Fun K "_law_take" "_law_take" s_w_take f_w_take fd_w_take
  g_w_take : mg "_law_take" = some (.ref f_w_take)
  b_w_take : Binds K fd_w_take ["_law_box_here", "_law_size"] []
  f_w_is_integer : Addr
  fd_w_is_integer : FuncData
  F_w_is_integer : Fun K "_law_is_integer" "_law_is_integer" s_w_is_integer f_w_is_integer fd_w_is_integer
  g_w_is_integer : mg "_law_is_integer" = some (.ref f_w_is_integer)
  b_w_is_integer : Binds K fd_w_is_integer ["_law_value"] []
  f_w_copy : Addr
  fd_w_copy : FuncData
  F_w_copy : Fun K "_law_copy" "_law_copy" s_w_copy f_w_copy fd_w_copy
  g_w_copy : mg "_law_copy" = some (.ref f_w_copy)
  b_w_copy : Binds K fd_w_copy ["_law_ends"] []
  f_w_limit : Addr
  fd_w_limit : FuncData
  F_w_limit : Fun K "_law_limit" "_law_limit" s_w_limit f_w_limit fd_w_limit
  g_w_limit : mg "_law_limit" = some (.ref f_w_limit)
  b_w_limit : Binds K fd_w_limit ["_law_box_here"] []
  f_w_word : Addr
  fd_w_word : FuncData
  F_w_word : Fun K "_law_word" "_law_word" s_w_word f_w_word fd_w_word
  g_w_word : mg "_law_word" = some (.ref f_w_word)
  b_w_word : Binds K fd_w_word ["_law_box_here"] []
  f_w_entries : Addr
  fd_w_entries : FuncData
  F_w_entries : Fun K "_law_entries" "_law_entries" s_w_entries f_w_entries fd_w_entries
  g_w_entries : mg "_law_entries" = some (.ref f_w_entries)
  b_w_entries : Binds K fd_w_entries ["_law_box_here", "_law_limit_here"] []
  f_w_last : Addr
  fd_w_last : FuncData
  F_w_last : Fun K "_law_last" "_law_last" s_w_last f_w_last fd_w_last
  g_w_last : mg "_law_last" = some (.ref f_w_last)
  b_w_last : Binds K fd_w_last ["_law_limit_here", "_law_ends"] []
  f_w_filled : Addr
  fd_w_filled : FuncData
  F_w_filled : Fun K "_law_filled" "_law_filled" s_w_filled f_w_filled fd_w_filled
  g_w_filled : mg "_law_filled" = some (.ref f_w_filled)
  b_w_filled : Binds K fd_w_filled ["_law_box_here", "_law_limit_here", "_law_ends"] []
  f_w_right : Addr
  fd_w_right : FuncData
  F_w_right : Fun K "_law_right" "_law_right" s_w_right f_w_right fd_w_right
  g_w_right : mg "_law_right" = some (.ref f_w_right)
  b_w_right : Binds K fd_w_right ["_law_ends", "_law_wrong_here"] []
  f_w_stops : Addr
  fd_w_stops : FuncData
  F_w_stops : Fun K "_law_stops" "_law_stops" s_w_stops f_w_stops fd_w_stops
  g_w_stops : mg "_law_stops" = some (.ref f_w_stops)
  b_w_stops : Binds K fd_w_stops ["_law_limit_here", "_law_ends"] []
  f_w_false : Addr
  fd_w_false : FuncData
  F_w_false : Fun K "_law_false" "_law_false" s_w_false f_w_false fd_w_false
  g_w_false : mg "_law_false" = some (.ref f_w_false)
  b_w_false : Binds K fd_w_false ["_law_word_here", "_law_count", "_law_wrong_here"] []
  f_w_soft : Addr
  fd_w_soft : FuncData
  F_w_soft : Fun K "_law_soft" "_law_soft" s_w_soft f_w_soft fd_w_soft
  g_w_soft : mg "_law_soft" = some (.ref f_w_soft)
  b_w_soft : Binds K fd_w_soft ["_law_ends", "_law_stops_here", "_law_wrong_here"] []
  f_w_dict_right : Addr
  fd_w_dict_right : FuncData
  F_w_dict_right : Fun K "_law_dict_right" "_law_dict_right" s_w_dict_right f_w_dict_right fd_w_dict_right
  g_w_dict_right : mg "_law_dict_right" = some (.ref f_w_dict_right)
  b_w_dict_right : Binds K fd_w_dict_right ["_law_told", "_law_ends"] []
  f_w_is : Addr
  fd_w_is : FuncData
  F_w_is : Fun K "_law_is" "_law_is" s_w_is f_w_is fd_w_is
  g_w_is : mg "_law_is" = some (.ref f_w_is)
  b_w_is : Binds K fd_w_is ["_law_table", "_law_limit_here", "_law_ends"] []
  f_w_wrong : Addr
  fd_w_wrong : FuncData
  F_w_wrong : Fun K "_law_wrong" "_law_wrong" s_w_wrong f_w_wrong fd_w_wrong
  g_w_wrong : mg "_law_wrong" = some (.ref f_w_wrong)
  b_w_wrong : Binds K fd_w_wrong ["_law_box_here"] []
  f_w_race_word : Addr
  fd_w_race_word : FuncData
  F_w_race_word : Fun K "_law_race_word" "_law_race_word" s_w_race_word f_w_race_word fd_w_race_word
  g_w_race_word : mg "_law_race_word" = some (.ref f_w_race_word)
  b_w_race_word : Binds K fd_w_race_word ["_law_count", "_law_wrong_here", "_law_limit_here"] []
  f_w_race : Addr
  fd_w_race : FuncData
  F_w_race : Fun K "_law_race" "_law_race" s_w_race f_w_race fd_w_race
  g_w_race : mg "_law_race" = some (.ref f_w_race)
  b_w_race : Binds K fd_w_race ["_law_wrong_here", "_law_limit_here"] []
  f_w_speaks : Addr
  fd_w_speaks : FuncData
  F_w_speaks : Fun K "_law_speaks" "_law_speaks" s_w_speaks f_w_speaks fd_w_speaks
  g_w_speaks : mg "_law_speaks" = some (.ref f_w_speaks)
  b_w_speaks : Binds K fd_w_speaks ["_law_table", "_law_ends"] []
  f_w_quick_right : Addr
  fd_w_quick_right : FuncData
  F_w_quick_right : Fun K "_law_quick_right" "_law_quick_right" s_w_quick_right f_w_quick_right fd_w_quick_right
  g_w_quick_right : mg "_law_quick_right" = some (.ref f_w_quick_right)
  b_w_quick_right : Binds K fd_w_quick_right ["_law_wrong_here", "_law_limit_here", "_law_quick"] []
  f_w_race_right : Addr
  fd_w_race_right : FuncData
  F_w_race_right : Fun K "_law_race_right" "_law_race_right" s_w_race_right f_w_race_right fd_w_race_right
  g_w_race_right : mg "_law_race_right" = some (.ref f_w_race_right)
  b_w_race_right : Binds K fd_w_race_right ["_law_wrong_here"] []
  f_w_longer : Addr
  fd_w_longer : FuncData
  F_w_longer : Fun K "_law_longer" "_law_longer" s_w_longer f_w_longer fd_w_longer
  g_w_longer : mg "_law_longer" = some (.ref f_w_longer)
  b_w_longer : Binds K fd_w_longer ["_law_table", "_law_quick", "_law_run", "_law_wrong_here"] []
  f_w_none_quicker : Addr
  fd_w_none_quicker : FuncData
  F_w_none_quicker : Fun K "_law_none_quicker" "_law_none_quicker" s_w_none_quicker f_w_none_quicker fd_w_none_quicker
  g_w_none_quicker : mg "_law_none_quicker" = some (.ref f_w_none_quicker)
  b_w_none_quicker : Binds K fd_w_none_quicker ["_law_table", "_law_quick", "_law_limit_here", "_law_wrong_here"] []
  f_w_compared : Addr
  fd_w_compared : FuncData
  F_w_compared : Fun K "_law_compared" "_law_compared" s_w_compared f_w_compared fd_w_compared
  g_w_compared : mg "_law_compared" = some (.ref f_w_compared)
  b_w_compared : Binds K fd_w_compared ["_law_limit_here", "_law_ends", "_law_wrong_here", "_law_quick"] []
  f_w_refusal : Addr
  fd_w_refusal : FuncData
  F_w_refusal : Fun K "_law_refusal" "_law_refusal" s_w_refusal f_w_refusal fd_w_refusal
  g_w_refusal : mg "_law_refusal" = some (.ref f_w_refusal)
  b_w_refusal : Binds K fd_w_refusal ["_law_way", "_law_wrong_here", "_law_limit_here"] []
  f_w_refused : Addr
  fd_w_refused : FuncData
  F_w_refused : Fun K "_law_refused" "_law_refused" s_w_refused f_w_refused fd_w_refused
  g_w_refused : mg "_law_refused" = some (.ref f_w_refused)
  b_w_refused : Binds K fd_w_refused ["_law_box_here", "_law_wrong_here", "_law_limit_here"] []
  f_law : Addr
  fd_law : FuncData
  F_law : Fun K "law" "law" s_law f_law fd_law
  g_law : mg "law" = some (.ref f_law)
  b_law : Binds K fd_law ["_law_script"] []
  C_Table : Addr
  gC_Table : mg "Table" = some (.ref C_Table)
  oc_Table : Ow.OC K C_Table
  ne_Table : PySem.W.findIn K (.ref C_Table) "__ne__" = some (some (.builtin "object.__ne__"))
  na_Table_limit : NoAttr K C_Table "limit"
  na_Table_marks : NoAttr K C_Table "marks"
  mk_Table : Mk K C_Table f_Table___init
  cp_Table_race : Addr
  cm_Table_race : ClX.CMet K C_Table (.type "type") "race" cp_Table_race f_Table_race
  me_Table_ends : Meth K C_Table "ends" f_Table_ends
  me_Table_word_after : Meth K C_Table "word_after" f_Table_word_after
  me_Table_stops : Meth K C_Table "stops" f_Table_stops
  me_Table_sound : Meth K C_Table "sound" f_Table_sound
  me_Table_longest : Meth K C_Table "longest" f_Table_longest
  me_Table_softened : Meth K C_Table "softened" f_Table_softened
  me_Table___eq : Meth K C_Table "__eq__" f_Table___eq
  cr_Table : ClX.CRead K C_Table (.type "type")
  si_Table : PySem.W.subIn K (.ref C_Table) (.type "int") = some false
  is_Table : PySem.W.subIn K (.type "int") (.ref C_Table) = some false
  C_BadNumber : Addr
  gC_BadNumber : mg "BadNumber" = some (.ref C_BadNumber)
  C_BadTable : Addr
  gC_BadTable : mg "BadTable" = some (.ref C_BadTable)
  C_MeteError : Addr
  gC_MeteError : mg "MeteError" = some (.ref C_MeteError)
  Z_BadNumber : ∀ w, Er.Cls1 PG w K mg "BadNumber" "number" C_BadNumber
  X_BadNumber : ExcC K C_BadNumber
  xf_BadNumber : XfC K C_BadNumber
  Z_BadTable : ∀ w, Er.Cls1 PG w K mg "BadTable" "fault" C_BadTable
  X_BadTable : ExcC K C_BadTable
  xf_BadTable : XfC K C_BadTable
  kit_BadNumber_BadTable : PySem.W.kitOne K (.ref C_BadNumber) (.ref C_BadTable) = some false
  kit_BadNumber_MeteError : PySem.W.kitOne K (.ref C_BadNumber) (.ref C_MeteError) = some true
  kit_BadNumber_ValueError : PySem.W.kitOne K (.ref C_BadNumber) (.type "ValueError") = some true
  kit_BadTable_MeteError : PySem.W.kitOne K (.ref C_BadTable) (.ref C_MeteError) = some true
  kit_BadTable_ValueError : PySem.W.kitOne K (.ref C_BadTable) (.type "ValueError") = some true
  exm_BadNumber_BadNumber : PySem.W.exmOne K (.ref C_BadNumber) (.ref C_BadNumber) = some true
  exm_BadTable_BadNumber : PySem.W.exmOne K (.ref C_BadTable) (.ref C_BadNumber) = some false
  exm_BadTable_BadTable : PySem.W.exmOne K (.ref C_BadTable) (.ref C_BadTable) = some true
  m_len : mg "len" = none
  m_range : mg "range" = none
  m_isinstance : mg "isinstance" = none
  m_int : mg "int" = none
  m_bool : mg "bool" = none
  m_list : mg "list" = none
  m_tuple : mg "tuple" = none
  m_dict : mg "dict" = none
  m_max : mg "max" = none
  m_min : mg "min" = none
  m_sum : mg "sum" = none
  m_sorted : mg "sorted" = none
  m_ValueError : mg "ValueError" = none
  c_MOST_TRIES : ∃ t, mg "MOST_TRIES" = some (.int (12) t)
  c_MOST_RACE : ∃ t, mg "MOST_RACE" = some (.int (5) t)
  a_WORDS : Addr
  c_WORDS : mg "WORDS" = some (.ref a_WORDS)
  t_WORDS : SqTK K a_WORDS [V.str "reached", V.str "missed", V.str "unsure"]
local macro_rules | `(tactic| walk_at "st") => `(tactic| first
  | (with_reducible refine r_seq ?_)
  | (with_reducible refine r_asg ?_)
  | (with_reducible refine r_ifS ?_)
  | (with_reducible refine r_ret ?_)
  | (with_reducible refine r_next ?_)
  | (with_reducible refine r_drop ?_)
  | (with_reducible refine r_retN ?_)
  | (with_reducible refine r_cont ?_)
  | (with_reducible refine r_break ?_)
  | (with_reducible refine r_op ?_)
  | (with_reducible refine r_un ?_)
  | ((with_reducible refine' r_var ?h1 ?_); (case h1 => exact rfl))
  | (with_reducible refine r_c ?_)
  | (with_reducible refine r_I0 ?_)
  | (with_reducible refine r_eqI ?_)
  | (with_reducible refine r_neI ?_)
  | (with_reducible refine r_eqS ?_)
  | (with_reducible refine r_neS ?_)
  | (with_reducible refine r_eqB ?_)
  | (with_reducible refine r_neB ?_)
  | (with_reducible refine r_U ?_)
  | (with_reducible refine r_test ?_)
  | (with_reducible refine r_tB ?_)
  | (with_reducible refine r_bl ?_)
  | (with_reducible refine r_and ?_)
  | (with_reducible refine r_or ?_)
  | (with_reducible refine r_not ?_)
  | (with_reducible refine r_andV ?_)
  | (with_reducible refine r_orV ?_)
  | (with_reducible refine r_notV ?_)
  | (with_reducible refine r_if ?_)
  | (with_reducible refine r_chain ?_)
  | (with_reducible refine r_gName0 ?_)
  | (with_reducible refine r_gName1 ?_)
  | (with_reducible refine r_gName2 ?_)
  | (with_reducible refine r_gName3 ?_)
  | (with_reducible refine r_gName4 ?_)
  | (with_reducible refine r_gName5 ?_)
  | (with_reducible refine r_gName6 ?_)
  | (with_reducible refine r_gName7 ?_)
  | (with_reducible refine r_gName8 ?_)
  | (with_reducible refine r_gName9 ?_)
  | (with_reducible refine r_gName10 ?_)
  | (with_reducible refine r_gName11 ?_)
  | (with_reducible refine r_gName12 ?_)
  | (with_reducible refine r_gName13 ?_)
  | (with_reducible refine r_gName14 ?_)
  | (with_reducible refine r_gName15 ?_)
  | (with_reducible refine r_gName16 ?_)
  | (with_reducible refine r_gName17 ?_)
  | (with_reducible refine r_gName18 ?_)
  | (with_reducible refine r_gName19 ?_)
  | (with_reducible refine r_cb ?_)
  | (with_reducible refine r_cons ?_)
  | (with_reducible refine r_nil ?_)
  | ((with_reducible refine r_call ?_); try simp only [List.cons_append, List.nil_append])
  | ((with_reducible refine r_callSD ?_); try simp only [List.cons_append, List.nil_append])
  | (with_reducible refine r_gSub ?_)
  | (with_reducible refine r_sl ?_)
  | (with_reducible refine r_lst ?_)
  | (with_reducible refine r_tup ?_)
  | (with_reducible refine r_int1 ?_)
  | (with_reducible refine r_intB ?_)
  | ((with_reducible refine r_in1 ?_); try simp only [abs_if])
  | ((with_reducible refine r_in2 ?_); try simp only [max_if])
  | (with_reducible refine r_forR1 ?_)
  | (with_reducible refine r_forR2 ?_)
  | (with_reducible refine r_forL ?_)
  | (with_reducible refine r_forT ?_)
  | (with_reducible refine r_lcR1 ?_)
  | (with_reducible refine r_lcL ?_)
  | (with_reducible refine r_lcT ?_)
  | (with_reducible refine r_yes ?_)
  | (with_reducible refine r_tPart ?_)
  | (with_reducible refine r_noPart ?_)
  | (with_reducible refine r_exI ?_)
  | (with_reducible refine r_par ?_)
  | (with_reducible refine Er.r_raise1 ?_)
  | (with_reducible refine r_isN ?_)
  | (with_reducible refine r_isI ?_)
  | (with_reducible refine r_isR ?_)
  | (with_reducible refine r_isS ?_)
  | (with_reducible refine r_noN ?_)
  | (with_reducible refine r_noI ?_)
  | (with_reducible refine r_noR ?_)
  | (with_reducible refine r_noS ?_)
  | (with_reducible refine r_isB ?_)
  | (with_reducible refine r_noB ?_)
  | (with_reducible refine r_iteTT ?_)
  | (with_reducible refine r_iteFF ?_)
  | (with_reducible refine Er.r_xf ?_)
  | (with_reducible refine r_bm ?_)
  | ((with_reducible refine' r_tyL ?h1 ?_); (case h1 => walk_at "sq"))
  | ((with_reducible refine' r_app ?h1 ?h2 ?_); (case h1 => walk_at "hp"); (case h2 => exact lt_size (by simp only [List.length_map, List.length_append, List.length_cons, List.length_nil]; omega)))
  | (with_reducible refine r_exP ?_)
  | (with_reducible refine r_iteT rfl ?_)
  | (with_reducible refine r_iteNF rfl ?_)
  | ((with_reducible refine' r_ixL ?h1 ?h2 ?_); (case h1 => walk_at "sq"); (case h2 => walk_at "at"))
  | ((with_reducible refine' r_ixT ?h1 ?h2 ?_); (case h1 => walk_at "sq"); (case h2 => walk_at "at"))
  | (with_reducible refine r_lenL (sqL_of (by assumption)) ?_)
  | (with_reducible refine r_lenT (sqT_of (by assumption)) ?_)
  | ((with_reducible refine' r_lenL ?h1 ?_); (case h1 => walk_at "sq"))
  | ((with_reducible refine' r_lenT ?h1 ?_); (case h1 => walk_at "sq"))
  | ((with_reducible refine' r_setP0 ?h1 ?_); (case h1 => walk_at "hp"); try simp only [upd_upd])
  | ((with_reducible refine' r_setP1 ?h1 ?_); (case h1 => walk_at "hp"); try simp only [upd_upd])
  | ((with_reducible refine' r_setP2 ?h1 ?_); (case h1 => walk_at "hp"); try simp only [upd_upd])
  | ((with_reducible refine' r_setP3 ?h1 ?_); (case h1 => walk_at "hp"); try simp only [upd_upd])
  | ((with_reducible refine' r_setL ?h1 ?h2 ?_); (case h1 => walk_at "hp"); (case h2 => walk_at "ix"))
  | ((with_reducible refine r_I ?h1 ?_); (case h1 => walk_at "side"); try simp only [Int.reduceToNat, Int.reducePow])
  | ((with_reducible refine r_iteT ?h1 ?_); (case h1 => walk_at "dec"))
  | ((with_reducible refine r_iteF ?h1 ?_); (case h1 => walk_at "dec"))
  | ((with_reducible refine r_iteNT ?h1 ?_); (case h1 => walk_at "dec"))
  | ((with_reducible refine r_iteNF ?h1 ?_); (case h1 => walk_at "dec"))
  | ((with_reducible refine' r_gNameW ?h1 ?_); (case h1 => (simp only [L2.wipe, List.map_cons, List.map_nil, List.set_cons_zero, List.set_cons_succ]; try exact rfl)))
  | ((with_reducible refine r_wipe ?h1 ?_); (case h1 => rfl))
  | (with_reducible refine iteT ?_)
  | (with_reducible refine r_iteNT1 ?_)
  | (with_reducible refine r_iteNF1 ?_)
  | (with_reducible refine r_gcd ?_)
  | ((with_reducible refine' r_isi ?h1 ?h2 ?_); (case h1 => first | exact .base (.int _) | exact .base (.bl _) | exact .base (.str _) | exact .base .non | exact .base (.tup (by walk_at "hp")) | exact .base (.lst (by walk_at "hp")) | exact .base (.dK (by walk_at "hp"))); (case h2 => first | (with_reducible exact kit_ii) | (with_reducible exact kit_ib) | (with_reducible exact kit_tt) | (with_reducible exact kit_ss) | (with_reducible exact kit_ll) | (with_reducible exact kit_bb) | (with_reducible exact kit_bi) | (with_reducible exact kit_dd) | (with_reducible exact kit_nt) | (with_reducible exact kit_ni) | (with_reducible exact kit_is) | (with_reducible exact kit_si) | (with_reducible exact kit_it)))
  | (with_reducible refine iteF ?_)
  | ((with_reducible refine And.intro ?h1 ?_); (case h1 => exact le_size (by simp only [List.length_cons, List.length_nil]; omega)))
  | (with_reducible refine r_nxE ?_)
  | (with_reducible refine r_bkE ?_)
  | (with_reducible refine r_ctE ?_)
  | (with_reducible refine r_rtE ?_))
local macro_rules | `(tactic| walk_at "sts") => `(tactic| repeat walk_at "st")
local macro_rules | `(tactic| walk_at "hp") => `(tactic| first | assumption | exact upd_same | (rw [upd_ne (by walk_at "ne")]; walk_at "hp") | exact Keep.out (by assumption) (by walk_at "nin") (by walk_at "hp"))
local macro_rules | `(tactic| walk_at "nin") => `(tactic| (simp only [List.mem_cons, List.not_mem_nil, or_false, not_false_eq_true]; first | done | walk_at "ne"))
local macro_rules | `(tactic| walk_at "ne") => `(tactic| first | assumption | (apply Ne.symm; assumption) | exact ne_free (by assumption) (by assumption) | exact (ne_free (by assumption) (by assumption)).symm)
local macro_rules | `(tactic| walk_at "sq") => `(tactic| first | assumption | exact sqL_of (by walk_at "hp") | exact sqT_of (by walk_at "hp") | exact Keep.l (by assumption) (by walk_at "nin") (by walk_at "sq") | exact Keep.t (by assumption) (by walk_at "nin") (by walk_at "sq"))
local macro_rules | `(tactic| walk_at "at") => `(tactic| first
  | exact atI_nat (j := 0) rfl | exact atI_nat (j := 1) rfl | exact atI_nat (j := 2) rfl | exact atI_nat (j := 3) rfl | exact atI_nat (j := 4) rfl | exact atI_nat (j := 5) rfl
  | (refine atI_map ?_ ?_ <;> omega) | assumption)
local macro_rules | `(tactic| walk_at "ix") => `(tactic| first | exact ixN_of (by decide) (by simp; omega) | exact ixN_of (by omega) (by simp; omega))
local macro_rules | `(tactic| walk_at "side") => `(tactic| first | omega | decide | exact .inl (by omega) | exact .inr (by omega) | exact ⟨by omega, by omega⟩ | exact .inl (.inl (by omega)) | exact .inl (.inr (by omega)) | (exact ⟨by decide, by decide, by decide⟩) | (exact ⟨by omega, by decide⟩))
local macro_rules | `(tactic| walk_at "start") => `(tactic| simp only [start_cc, start_cn, start_nn, cxOf_K])
local macro_rules | `(tactic| walk_at "dec") => `(tactic| first | omega | (simp only [List.length_cons, List.length_nil, List.length_map, List.length_append]; omega))
local macro_rules | `(tactic| walk_at "st") => `(tactic| first
  | (with_reducible refine Ow.r_fld ?_)
  | ((with_reducible refine' Ow.r_fldAt ?h1 ?h2 ?h3 ?h4 ?_); (case h1 => walk_at "hp"); (case h2 => exact Ow.OC.cl (by assumption)); (case h3 => assumption); (case h4 => rfl))
  | (with_reducible refine Ow.r_len_str ?_))
local macro_rules | `(tactic| walk_at "st") => `(tactic| first
  | (with_reducible refine r_inSg ?_)
  | (with_reducible refine r_ninSg ?_)
  | (with_reducible refine r_dnew ?_)
  | (with_reducible refine r_dget ?_)
  | (with_reducible refine r_dget2 ?_)
  | (with_reducible refine r_dput ?_)
  | (with_reducible refine r_din ?_)
  | (with_reducible refine r_dnin ?_)
  | (with_reducible refine r_strS ?_)
  | (with_reducible refine r_lcS ?_)
  | ((with_reducible refine' r_isD ?h1 ?_); (case h1 => walk_at "hp"))
  | ((with_reducible refine' r_dgetO ?h1 ?_); (case h1 => walk_at "hp"))
  | ((with_reducible refine' r_gTup2 ?h1 ?_); (case h1 => walk_at "sq"); try simp only [List.set_cons_zero, List.set_cons_succ]))
local macro_rules | `(tactic| walk_at "st") => `(tactic| first
  | (with_reducible refine r_js ?_)
  | (with_reducible refine r_js0 ?_)
  | (with_reducible refine r_fmt ?_))
local macro_rules | `(tactic| walk_at "st") => `(tactic| first
  | (with_reducible refine Ow.r_sfld ?_)
  | ((with_reducible refine' Ow.r_sfldAt ?h1 ?h2 ?h3 ?h4 ?_); (case h1 => walk_at "hp"); (case h2 => exact Ow.OC.cl (by assumption)); (case h3 => assumption); (case h4 => (simp only [List.length_cons, List.length_nil]; omega)))
  | ((with_reducible refine Ow.r_make ?_); try simp only [List.cons_append, List.nil_append])
  | ((with_reducible refine Ow.r_meth ?_); skip)
  | ((with_reducible refine' Ow.r_methAt ?h1 ?h2 ?_); (case h1 => walk_at "hp"); (case h2 => rfl); try simp only [List.cons_append, List.nil_append]))
/-! ### dicts of counts -/
abbrev Ct := Int × Int
def ck (c : Ct) : List Key := [.inl c.1, .inl c.2]
theorem ck_inj {a b : Ct} : ck a = ck b ↔ a = b := by
  constructor
  · intro h
    simp only [ck, List.cons.injEq, Sum.inl.injEq, and_true] at h
    exact Prod.ext h.1 h.2
  · rintro rfl; rfl
section
variable {α : Type} {f : α → V} {m : List (Ct × α)} {c d : Ct} {x : α}
def kvG (f : α → V) (m : List (Ct × α)) : Dt.Tb := m.map fun p => (ck p.1, f p.2)
def getA (m : List (Ct × α)) (c : Ct) : Option α := (m.find? fun p => decide (p.1 = c)).map (·.2)
def putA (m : List (Ct × α)) (c : Ct) (x : α) : List (Ct × α) := if (m.any fun p => decide (p.1 = c)) = true then m.map (fun p => if p.1 = c then (p.1, x) else p) else m ++ [(c, x)]
def hasA (m : List (Ct × α)) (c : Ct) : Bool := (getA m c).isSome
theorem getA_nil : getA ([] : List (Ct × α)) c = none := rfl
theorem getA_cons {p : Ct × α} : getA (p :: m) c = if p.1 = c then some p.2 else getA m c := by
  unfold getA
  by_cases h : p.1 = c
  · rw [List.find?_cons_of_pos (by simpa using h), if_pos h]; rfl
  · rw [List.find?_cons_of_neg (by simpa using h), if_neg h]
theorem val_kvG : valV (kvG f m) (ck c) = (getA m c).map f := by
  induction m with
  | nil => rfl
  | cons p m ih =>
    rw [getA_cons]
    show valV ((ck p.1, f p.2) :: kvG f m) (ck c) = _
    by_cases h : p.1 = c
    · rw [valV_pos (by rw [h]), if_pos h]; rfl
    · rw [valV_neg (fun e => h (ck_inj.mp e)), if_neg h, ih]
theorem any_iff : (m.any fun p => decide (p.1 = c)) = true ↔ c ∈ m.map (·.1) := by
  rw [List.any_eq_true]
  constructor
  · rintro ⟨p, hp, e⟩; exact List.mem_map.mpr ⟨p, hp, of_decide_eq_true e⟩
  · intro h; obtain ⟨p, hp, e⟩ := List.mem_map.mp h; exact ⟨p, hp, decide_eq_true e⟩
theorem put_kvG : putK (kvG f m) (ck c) (f x) = kvG f (putA m c x) := by
  have e : ((kvG f m).any fun kv => decide (kv.1 = ck c)) = m.any fun p => decide (p.1 = c) := by
    unfold kvG
    rw [List.any_map]
    congr 1; funext p; simp [ck_inj]
  unfold putK putA
  rw [e]
  split
  · unfold kvG
    rw [List.map_map, List.map_map]
    apply List.map_congr_left
    intro p hp
    simp only [Function.comp, ck_inj]
    split
    · rfl
    · rfl
  · unfold kvG; rw [List.map_append]; rfl
theorem len_kvG : (kvG f m).length = m.length := by unfold kvG; rw [List.length_map]
theorem hasA_iff : hasA m c = true ↔ c ∈ m.map (·.1) := by
  unfold hasA
  induction m with
  | nil => simp [getA_nil]
  | cons p m ih =>
    rw [getA_cons]
    by_cases h : p.1 = c
    · rw [if_pos h]; simp [h]
    · rw [if_neg h, ih, List.map_cons, List.mem_cons]
      exact ⟨.inr, fun g => g.elim (fun e => (h e.symm).elim) id⟩
theorem putA_keys : (putA m c x).map (·.1) = if c ∈ m.map (·.1) then m.map (·.1) else m.map (·.1) ++ [c] := by
  unfold putA
  by_cases h : c ∈ m.map (·.1)
  · rw [if_pos (any_iff.mpr h), if_pos h, List.map_map]
    apply List.map_congr_left
    intro p _
    simp only [Function.comp]
    split <;> rfl
  · rw [if_neg (fun e => h (any_iff.mp e)), if_neg h, List.map_append]; rfl
theorem getA_app {m' : List (Ct × α)} : getA (m ++ m') c = (getA m c).or (getA m' c) := by
  induction m with
  | nil => simp [getA_nil]
  | cons p m ih =>
    rw [List.cons_append, getA_cons, getA_cons, ih]
    split <;> rfl
theorem getA_map (m : List (Ct × α)) (c d : Ct) (x : α) : getA (m.map fun p => if p.1 = c then (p.1, x) else p) d = if d = c then (getA m c).map (fun _ => x) else getA m d := by
  induction m with
  | nil => split <;> rfl
  | cons p m ih =>
    rw [List.map_cons, getA_cons, getA_cons (p := p) (c := c), getA_cons (p := p) (c := d), ih]
    by_cases e : p.1 = c
    · simp only [e, if_true]
      by_cases g : c = d
      · subst g; simp
      · rw [if_neg g, if_neg (fun z => g z.symm), if_neg (fun z => g z.symm)]
        rw [if_neg g]
    · simp only [if_neg e]
      by_cases g : p.1 = d
      · rw [if_pos g, if_pos g, if_neg (fun z => e (g.trans z))]
      · rw [if_neg g, if_neg g]
theorem getA_putA : getA (putA m c x) d = if d = c then some x else getA m d := by
  unfold putA
  by_cases h : c ∈ m.map (·.1)
  · rw [if_pos (any_iff.mpr h), getA_map]
    have : (getA m c).isSome = true := hasA_iff.mpr h
    cases e : getA m c with
    | none => rw [e] at this; cases this
    | some y => rfl
  · rw [if_neg (fun e => h (any_iff.mp e)), getA_app, getA_cons, getA_nil]
    by_cases g : d = c
    · subst g
      have none' : getA m d = none := by
        cases e : getA m d with
        | none => rfl
        | some y => exact (h (hasA_iff.mp (by unfold hasA; rw [e]; rfl))).elim
      rw [none']; simp
    · rw [if_neg g, if_neg (fun z => g z.symm)]
      cases getA m d <;> rfl
theorem putA_nodup (h : (m.map (·.1)).Nodup) : ((putA m c x).map (·.1)).Nodup := by
  rw [putA_keys]; split
  · exact h
  · rename_i n
    exact List.nodup_append.mpr ⟨h, by simp, fun a ha b hb e => n (by rw [← List.mem_singleton.mp hb, ← e]; exact ha)⟩
theorem putA_len : (putA m c x).length ≤ m.length + 1 := by
  unfold putA; split
  · simp
  · simp
theorem getA_mem (h : (m.map (·.1)).Nodup) {p : Ct × α} (hp : p ∈ m) : getA m p.1 = some p.2 := by
  induction m with
  | nil => simp at hp
  | cons q m ih =>
    rw [List.map_cons, List.nodup_cons] at h
    rw [getA_cons]
    rcases List.mem_cons.mp hp with e | hp
    · subst e; rw [if_pos rfl]
    · rw [if_neg (fun z => h.1 (by rw [z]; exact List.mem_map_of_mem hp)), ih h.2 hp]
theorem mem_getA {y : α} (h : getA m c = some y) : (c, y) ∈ m := by
  induction m with
  | nil => rw [getA_nil] at h; cases h
  | cons q m ih =>
    rw [getA_cons] at h
    by_cases e : q.1 = c
    · rw [if_pos e] at h; cases h; subst e; simp
    · rw [if_neg e] at h; exact List.mem_cons_of_mem _ (ih h)
end
abbrev Ends := List (Ct × Str)
def EndsAt (H : Hp) (d : Addr) (m : Ends) : Prop := H d = some (.dT (kvG V.str m))
def cHO (c : Ct) : HO := .tup [.int c.1, .int c.2]
/-- a list of counts -/
def CtsAt (H : Hp) (q : Addr) (cs : List Ct) : Prop := ∃ as : List Addr, H q = some (.lst (as.map V.ref)) ∧ AllAt cHO H as cs
def kvB (cs : List Ct) : Dt.Tb := cs.map fun c => (ck c, V.bl true)
theorem put_kvB {cs : List Ct} {c : Ct} : putK (kvB cs) (ck c) (V.bl true) = kvB (Tab.addC cs c) := by
  have e : ((kvB cs).any fun kv => decide (kv.1 = ck c)) = true ↔ c ∈ cs := by
    unfold kvB
    rw [List.any_map, List.any_eq_true]
    constructor
    · rintro ⟨x, hx, h⟩
      have : ck x = ck c := of_decide_eq_true h
      rw [ck_inj] at this; subst this; exact hx
    · intro h; exact ⟨c, h, decide_eq_true rfl⟩
  unfold putK Tab.addC
  by_cases h : c ∈ cs
  · rw [if_pos (e.mpr h), if_pos h]
    unfold kvB
    rw [List.map_map]
    apply List.map_congr_left
    intro x _
    simp only [Function.comp]
    split <;> rfl
  · rw [if_neg (fun g => h (e.mp g)), if_neg h]
    unfold kvB; rw [List.map_append]; rfl
theorem keys_kvB {H : Hp} : ∀ {cs : List Ct} {bs : List Addr}, IsKeys H (kvB cs) bs → AllAt cHO H bs cs
  | [], bs, h => by cases h; trivial
  | c :: cs, bs, h => by
    cases h with
    | cons a b => exact ⟨a, keys_kvB b⟩
theorem stepC_len {M : Ct → Bool} {cs : List Ct} {c : Ct} : (Tab.stepC M cs c).length ≤ cs.length + 2 := by
  unfold Tab.stepC Tab.addC
  split
  · omega
  · split <;> split <;> simp
theorem foldC_len {M : Ct → Bool} : ∀ {now cs : List Ct}, (now.foldl (Tab.stepC M) cs).length ≤ cs.length + 2 * now.length
  | [], cs => by simp
  | c :: now, cs => by
    rw [List.foldl_cons]
    have := foldC_len (M := M) (now := now) (cs := Tab.stepC M cs c)
    have := stepC_len (M := M) (cs := cs) (c := c)
    simp only [List.length_cons]; omega
theorem levC_len {M : Ct → Bool} : ∀ {k : Nat}, (Tab.levC M k).length ≤ 2 ^ k
  | 0 => by simp [Tab.levC]
  | k + 1 => by
    unfold Tab.levC Tab.nextC
    have := foldC_len (M := M) (now := Tab.levC M k) (cs := [])
    have := levC_len (M := M) (k := k)
    simp only [List.length_nil] at *
    rw [Nat.pow_succ]; omega
theorem metC_len {M : Ct → Bool} : ∀ {k : Nat}, (Tab.metC M k).length < 2 ^ (k + 1)
  | 0 => by simp [Tab.metC]
  | k + 1 => by
    unfold Tab.metC
    rw [List.length_append]
    have := metC_len (M := M) (k := k)
    have := levC_len (M := M) (k := k + 1)
    rw [Nat.pow_succ 2 (k + 1)]; omega
theorem AllAt.perm {α : Type} {f : α → HO} {H : Hp} : ∀ {as bs : List Addr}, as.Perm bs → ∀ {xs : List α}, AllAt f H as xs → ∃ ys : List α, ys.Perm xs ∧ AllAt f H bs ys := by
  intro as bs p
  induction p with
  | nil => intro xs h; exact ⟨xs, .refl _, h⟩
  | cons a p ih =>
    intro xs h
    match xs, h with
    | x :: xs, h =>
      obtain ⟨ys, hy, g⟩ := ih h.2
      exact ⟨x :: ys, hy.cons x, h.1, g⟩
  | swap a b l =>
    intro xs h
    match xs, h with
    | x :: y :: xs, h => exact ⟨y :: x :: xs, .swap x y xs, h.2.1, h.1, h.2.2⟩
  | trans p q ih1 ih2 =>
    intro xs h
    obtain ⟨ys, hy, g⟩ := ih1 h
    obtain ⟨zs, hz, g2⟩ := ih2 g
    exact ⟨zs, hz.trans hy, g2⟩
/-- before, by the first number, then by the second -/
def Lx (a b : Ct) : Prop := a.1 < b.1 ∨ (a.1 = b.1 ∧ a.2 < b.2)
theorem metC_nodup {M : Ct → Bool} : ∀ {k : Nat}, (Tab.metC M k).Nodup
  | 0 => by simp [Tab.metC]
  | k + 1 => by
    unfold Tab.metC
    refine List.nodup_append.mpr ⟨metC_nodup, Tab.nodup_levC, fun a ha b hb e => ?_⟩
    obtain ⟨j, hj, mt⟩ := Tab.mem_metC.mp ha
    have m2 := Tab.mem_levC.mp hb
    have h1 := mt.sum.1
    have h2 := m2.sum.1
    rw [e] at h1; omega
/-- the numbers of a pair that stands in the heap -/
def kOf (H : Hp) : V → Int × Int
  | .ref b => match H b with
    | some (.tup (.int i :: .int j :: _)) => (i, j)
    | _ => (0, 0)
  | _ => (0, 0)
theorem kOf_c {H : Hp} {b : Addr} {c : Ct} (h : H b = some (cHO c)) : kOf H (.ref b) = c := by
  unfold kOf; simp only [h]; rfl
theorem lx_of {H : Hp} : ∀ {bs : List Addr} {cs : List Ct}, AllAt cHO H bs cs → cs.Nodup → SrtO.Srtd (ltP (kOf H)) (bs.map V.ref) → cs.Pairwise Lx
  | [], [], _, _, _ => .nil
  | b :: bs, c :: cs, h, n, s => by
    have n2 := List.nodup_cons.mp n
    have s2 := List.pairwise_cons.mp s
    refine List.pairwise_cons.mpr ⟨fun d hd => ?_, lx_of h.2 n2.2 s2.2⟩
    obtain ⟨i, hi⟩ := List.getElem?_of_mem hd
    have le := h.2.len
    obtain ⟨e, he⟩ : ∃ e, bs[i]? = some e := ⟨_, List.getElem?_eq_getElem (by have := (List.getElem?_eq_some_iff.mp hi).1; omega)⟩
    obtain ⟨d', hd', ed⟩ := h.2.get he
    have ed2 : d' = d := by rw [hi] at hd'; exact (Option.some.inj hd').symm
    subst ed2
    have q := s2.1 (.ref e) (List.mem_map_of_mem (List.mem_of_getElem? he))
    have q2 : SrtO.lexB (kOf H (.ref e)) (kOf H (.ref b)) = false := q
    rw [kOf_c ed, kOf_c h.1] at q2
    have q3 := SrtO.lexB_no.mp q2
    have ne : ¬ (c.1 = d'.1 ∧ c.2 = d'.2) := fun z => n2.1 (by rw [show c = d' from Prod.ext z.1 z.2]; exact hd)
    unfold Lx
    omega
  | [], _ :: _, h, _, _ => h.elim
  | _ :: _, [], h, _, _ => h.elim
theorem Lx.irrefl {a : Ct} (h : Lx a a) : False := by unfold Lx at h; omega
theorem lx_ext {α : Type} {f : α → Ct} : ∀ {xs ys : List α}, xs.Pairwise (fun a b => Lx (f a) (f b)) → ys.Pairwise (fun a b => Lx (f a) (f b)) → (∀ x, x ∈ xs ↔ x ∈ ys) → xs = ys
  | [], [], _, _, _ => rfl
  | [], y :: _, _, _, h => by have := (h y).mpr (by simp); simp at this
  | x :: _, [], _, _, h => by have := (h x).mp (by simp); simp at this
  | x :: xs, y :: ys, px, py, h => by
    obtain ⟨hx, px'⟩ := List.pairwise_cons.mp px
    obtain ⟨hy, py'⟩ := List.pairwise_cons.mp py
    have e : x = y := by
      rcases List.mem_cons.mp ((h x).mp (by simp)) with e | e
      · exact e
      · rcases List.mem_cons.mp ((h y).mpr (by simp)) with e2 | e2
        · exact e2.symm
        · have a := hx y e2
          have b := hy x e
          exfalso; unfold Lx at a b; omega
    subst e
    congr 1
    refine lx_ext px' py' fun z => ?_
    constructor
    · intro hz
      rcases List.mem_cons.mp ((h z).mp (List.mem_cons_of_mem _ hz)) with e | e
      · subst e; exact (Lx.irrefl (hx _ hz)).elim
      · exact e
    · intro hz
      rcases List.mem_cons.mp ((h z).mpr (List.mem_cons_of_mem _ hz)) with e | e
      · subst e; exact (Lx.irrefl (hy _ hz)).elim
      · exact e
def spCounts : Sp := fun vs H Q _ => ∃ (d : Addr) (n : Nat) (m : Ends), vs = [.int n, .ref d] ∧ n ≤ 12 ∧ EndsAt H d m ∧ ∀ (q : Addr) (cs : List Ct) (H' : Hp), Keep [] H H' → H q = none → CtsAt H' q cs → cs.Perm (Tab.metC (hasA m) n) → cs.Pairwise Lx → Q (.ref q) H'
/-! ### counts_met -/
theorem getRef {as : List Addr} {i : Nat} {x : V} (h : (as.map V.ref)[i]? = some x) : ∃ a, as[i]? = some a ∧ x = .ref a := by
  rw [List.getElem?_map] at h
  obtain ⟨a, ha, rfl⟩ := Option.map_eq_some_iff.mp h
  exact ⟨a, ha, rfl⟩
theorem take_snoc {α : Type} {xs : List α} {i : Nat} {x : α} (h : xs[i]? = some x) : xs.take (i + 1) = xs.take i ++ [x] := by rw [List.take_add_one, h]; rfl
/-- `in` a dict of counts -/
theorem r_dinT {α : Type} {f : α → V} {m : List (Ct × α)} {g : Bool → Bool} {p q : Addr} {c : Ct} {H : Hp} {Q : VK} (h : H p = some (.dT (kvG f m))) (hq : H q = some (cHO c)) (k : Q (.bl (g (hasA m c))) H) : rDInB g (.ref q) (.ref p) H Q :=
  ⟨p, _, rfl, DGet.t (k := ck c) h hq, by rw [val_kvG, Option.isSome_map]; exact k⟩
theorem r_dputT {kvs : Dt.Tb} {p q : Addr} {c : Ct} {v : V} {H : Hp} {Q : Hp → Prop} (h : H p = some (.dT kvs)) (hq : H q = some (cHO c)) (hl : kvs.length < sizeLine) (k : Q (upd H p (.dT (putK kvs (ck c) v)))) : rDPut (.ref p) (.ref q) v H Q := ⟨p, _, rfl, DPut.t (k := ck c) h hq hl, k⟩
theorem r_dnewT {σ : L2.St} {H : Hp} {Q : VK} (k : ∀ p, H p = none → Q (.ref p) (upd H p (.dT []))) : tDNewT σ H Q := k
theorem cts_upd {H : Hp} {p : Addr} {o : HO} {as : List Addr} {cs : List Ct} (h : AllAt cHO H as cs) (n : ∀ xs, H p ≠ some (.tup xs)) : AllAt cHO (upd H p o) as cs := h.mono fun a c _ _ e => by
  rw [upd_ne (by rintro rfl; exact n _ e)]; exact e
def unV : V → Addr
  | .ref a => a
  | _ => 0
theorem refs_perm {ys : List V} {fa : List Addr} (h : ys.Perm (fa.map V.ref)) : ∃ bs : List Addr, bs.Perm fa ∧ ys = bs.map V.ref := by
  refine ⟨ys.map unV, ?_, ?_⟩
  · have := h.map unV
    rw [List.map_map] at this
    have e : fa.map (unV ∘ V.ref) = fa := by conv => rhs; rw [← List.map_id fa]
                                             rfl
    rwa [e] at this
  · rw [List.map_map]
    conv => lhs; rw [← List.map_id ys]
    apply List.map_congr_left
    intro y hy
    obtain ⟨a, _, rfl⟩ := List.mem_map.mp (h.mem_iff.mp hy)
    rfl
section
variable {P : Program} {w : World} {K : PySem.W.Frag} {mg : Str → Option Value} {base : Heap}
theorem ok_counts (T : Tx K mg) : FnOk P w K mg base CX0 1 T.f_counts_met T.fd_counts_met ["limit", "marks"] spCounts := by
  refine T.F_counts_met.ok sc_counts_met (fun vs H Q E h => ?_) (fun cdv A outer s H vs Q E hr h => ?_)
  · obtain ⟨d, n, m, rfl, _⟩ := h; rfl
  · obtain ⟨d, n, m, rfl, hn, ed, qq⟩ := h
    refine ⟨_, (pss_cons (ps_set (i := 2) sc_counts_met.nd rfl (Or.inl rfl) (pe_lst (pa_cons (pe_tup (pa_cons pe_int (pa_cons pe_int pa_nil))) pa_nil)))
    (pss_cons (ps_set (i := 3) sc_counts_met.nd rfl (Or.inl rfl) (pe_lst (pa_cons (pe_tup (pa_cons pe_int (pa_cons pe_int pa_nil))) pa_nil)))
    (pss_cons (ps_for PassesOwn.never rfl (pi_range1 rfl T.m_range (pa_cons (pv 0) pa_nil)) (pg_name (i := 4) sc_counts_met.nd rfl (Or.inl rfl))
    (pss_cons (ps_set (i := 5) sc_counts_met.nd rfl (Or.inl rfl) pe_dnewT)
    (pss_cons (ps_for PassesOwn.never rfl (pi_list (pv 3)) (pg_tup (n := 2) rfl (pgs_cons (pg_name (i := 6) sc_counts_met.nd rfl (Or.inl rfl)) (pgs_cons (pg_name (i := 7) sc_counts_met.nd rfl (Or.inl rfl)) pgs_nil)))
    (pss_one (ps_if (pt_cmp (pc_dnotin (hu_of hr) (pe_tup (pa_cons (pv 6) (pa_cons (pv 7) pa_nil))) (pv 1)))
    (pss_cons (ps_dput (hu_of hr) (pv 5) (pe_tup (pa_cons (pe_op op_add (pv 6) pe_int) (pa_cons (pv 7) pa_nil))) pe_bl rfl)
    (pss_one (ps_dput (hu_of hr) (pv 5) (pe_tup (pa_cons (pv 6) (pa_cons (pe_op op_add (pv 7) pe_int) pa_nil))) pe_bl rfl)))
    pss_nil)))
    (pss_cons (ps_set (i := 3) sc_counts_met.nd rfl (Or.inl rfl) (pe_callTy (call_list_dT rfl) (by rfl) T.m_list (by decide +kernel) (pa_cons (pv 5) pa_nil)))
    (pss_one (ps_expr (pe_bm PySem.F.plainAttrs_list PySem.F.slot_list_extend PySem.F.type_list_extend mt_extend (pv 2) (pa_cons (pv 3) pa_nil))))))))
    (pss_one (ps_ret (pe_callB cr_sortedPO (by rfl) T.m_sorted (by decide +kernel) (pa_cons (pv 2) pa_nil))))))), ?_⟩
    walk_at "start"
    walk_at "sts"
    intro t0 ht0
    have k1 : Keep [] H (upd H t0 (.tup [.int 0, .int 0])) := Keep.new ht0
    have et0 : upd H t0 (.tup [.int 0, .int 0]) t0 = some (cHO (0, 0)) := upd_same
    generalize upd H t0 (.tup [.int 0, .int 0]) = H1 at k1 et0 ⊢
    walk_at "sts"
    intro l hl
    have k2 : Keep [] H1 (upd H1 l (.lst [.ref t0])) := Keep.new hl
    have nlH : H l = none := k1.free (by simp) hl
    have el : upd H1 l (.lst [.ref t0]) l = some (.lst ([t0].map V.ref)) := upd_same
    have et1 := k2 _ _ (by simp) et0
    generalize upd H1 l (.lst [.ref t0]) = H2 at k2 el et1 ⊢
    walk_at "sts"
    intro t1 ht1
    have k3 : Keep [] H2 (upd H2 t1 (.tup [.int 0, .int 0])) := Keep.new ht1
    have et2 : upd H2 t1 (.tup [.int 0, .int 0]) t1 = some (cHO (0, 0)) := upd_same
    have el2 := k3 _ _ (by simp) el
    have et3 := k3 _ _ (by simp) et1
    generalize upd H2 t1 (.tup [.int 0, .int 0]) = H3 at k3 et2 el2 et3 ⊢
    walk_at "sts"
    intro n0 hn0
    have k4 : Keep [] H3 (upd H3 n0 (.lst [.ref t1])) := Keep.new hn0
    have en : upd H3 n0 (.lst [.ref t1]) n0 = some (.lst ([t1].map V.ref)) := upd_same
    have el3 := k4 _ _ (by simp) el2
    have et4 := k4 _ _ (by simp) et3
    have et5 := k4 _ _ (by simp) et2
    have k14 : Keep [] H (upd H3 n0 (.lst [.ref t1])) := k1.trans (k2.trans (k3.trans k4))
    generalize upd H3 n0 (.lst [.ref t1]) = H4 at k4 en el3 et4 et5 k14 ⊢
    walk_at "sts"
    refine forR1_go (fun i σ' H' => ∃ (nq : Addr) (fa na : List Addr) (x1 x2 x3 x4 : Option V), σ' = [some (.int n), some (.ref d), some (.ref l), some (.ref nq), x1, x2, x3, x4] ∧ H' l = some (.lst (fa.map V.ref)) ∧ AllAt cHO H' fa (Tab.metC (hasA m) i) ∧ nq ≠ l ∧ H' nq = some (.lst (na.map V.ref)) ∧ AllAt cHO H' na (Tab.levC (hasA m) i) ∧ Keep [] H H') (by omega) ⟨n0, [t0], [t1], _, _, _, _, by first | exact rfl | trivial, el3, ⟨et4, trivial⟩, (by rintro rfl; rw [el2] at hn0; cases hn0), en, ⟨et5, trivial⟩, k14⟩ ?_ ?_
    · rintro i σ' H5 hi ⟨nq, fa, na, x1, x2, x3, x4, rfl, el5, ha5, nne, en5, hn5, k5⟩
      walk_at "sts"
      refine r_dnewT fun a ha => ?_
      have k6 : Keep [] H5 (upd H5 a (.dT [])) := Keep.new ha
      have ea : upd H5 a (.dT []) a = some (.dT (kvB [])) := upd_same
      have naH : H a = none := k5.free (by simp) ha
      have nal : a ≠ l := by rintro rfl; rw [el5] at ha; cases ha
      generalize upd H5 a (.dT []) = H6 at k6 ea ⊢
      have en6 := k6 _ _ (by simp) en5
      have hla := hn5.len
      have lv := levC_len (M := hasA m) (k := i)
      have lv2 : 2 ^ i ≤ 2 ^ 12 := Nat.pow_le_pow_right (by decide) (by omega)
      walk_at "sts"
      refine forL_go (fun j σ' H' => ∃ (y1 y2 : Option V) (cs : List Ct), σ' = [some (.int n), some (.ref d), some (.ref l), some (.ref nq), some (.int i), some (.ref a), y1, y2] ∧ H' a = some (.dT (kvB cs)) ∧ cs = ((Tab.levC (hasA m) i).take j).foldl (Tab.stepC (hasA m)) [] ∧ Keep [] H5 H') (sqL_of en6) ⟨_, _, [], by first | exact rfl | trivial, ea, by simp, k6⟩ (fun j σ' H' _ h => by obtain ⟨_, _, _, _, _, _, k⟩ := h; exact sqL_of (k _ _ (by simp) en5)) ?_ ?_
      · rintro j v σ' H7 hv ⟨y1, y2, cs, rfl, e7, hcs, k7⟩
        obtain ⟨b, hb, rfl⟩ := getRef hv
        obtain ⟨c, hc, eb⟩ := hn5.get hb
        have eb7 : H7 b = some (.tup [.int c.1, .int c.2]) := k7 _ _ (by simp) eb
        have hcs2 : ((Tab.levC (hasA m) i).take (j + 1)).foldl (Tab.stepC (hasA m)) [] = Tab.stepC (hasA m) cs c := by rw [take_snoc hc, List.foldl_append, ← hcs]; rfl
        have lcs : cs.length ≤ 2 * 2 ^ 12 := by
          have := foldC_len (M := hasA m) (now := (Tab.levC (hasA m) i).take j) (cs := [])
          rw [← hcs, List.length_take] at this
          simp only [List.length_nil] at this
          omega
        refine r_gTup2 (sqT_of eb7) ?_
        simp only [List.set_cons_zero, List.set_cons_succ]
        walk_at "sts"
        intro u1 hu1
        have k8 : Keep [] H7 (upd H7 u1 (.tup [.int c.1, .int c.2])) := Keep.new hu1
        have eu1 : upd H7 u1 (.tup [.int c.1, .int c.2]) u1 = some (cHO c) := upd_same
        have e8 := k8 _ _ (by simp) e7
        generalize upd H7 u1 (.tup [.int c.1, .int c.2]) = H8 at k8 eu1 e8 ⊢
        have k58 := k7.trans k8
        walk_at "sts"
        refine r_dinT (f := V.str) ((k5.trans k58) _ _ (by simp) ed) eu1 ?_
        cases hM : hasA m c with
        | true =>
          walk_at "sts"
          refine ⟨_, _, cs, by first | exact rfl | trivial, e8, ?_, k58⟩
          rw [hcs2]; unfold Tab.stepC; rw [hM]; rfl
        | false =>
          walk_at "sts"
          intro u2 hu2
          have k9 : Keep [] H8 (upd H8 u2 (.tup [.int (c.1 + 1), .int c.2])) := Keep.new hu2
          have eu2 : upd H8 u2 (.tup [.int (c.1 + 1), .int c.2]) u2 = some (cHO (c.1 + 1, c.2)) := upd_same
          have e9 := k9 _ _ (by simp) e8
          generalize upd H8 u2 (.tup [.int (c.1 + 1), .int c.2]) = H9 at k9 eu2 e9 ⊢
          refine r_dputT e9 eu2 (lt_size (by unfold kvB; rw [List.length_map]; omega)) ?_
          rw [put_kvB]
          have k59 : Keep [] H5 (upd H9 a (.dT (kvB (Tab.addC cs (c.1 + 1, c.2))))) := (k58.trans k9).mut ha
          have e10 : upd H9 a (.dT (kvB (Tab.addC cs (c.1 + 1, c.2)))) a = some (.dT (kvB (Tab.addC cs (c.1 + 1, c.2)))) := upd_same
          generalize upd H9 a (.dT (kvB (Tab.addC cs (c.1 + 1, c.2)))) = H10 at k59 e10 ⊢
          walk_at "sts"
          intro u3 hu3
          have k11 : Keep [] H10 (upd H10 u3 (.tup [.int c.1, .int (c.2 + 1)])) := Keep.new hu3
          have eu3 : upd H10 u3 (.tup [.int c.1, .int (c.2 + 1)]) u3 = some (cHO (c.1, c.2 + 1)) := upd_same
          have e11 := k11 _ _ (by simp) e10
          generalize upd H10 u3 (.tup [.int c.1, .int (c.2 + 1)]) = H11 at k11 eu3 e11 ⊢
          have la1 : (Tab.addC cs (c.1 + 1, c.2)).length ≤ cs.length + 1 := by unfold Tab.addC; split <;> simp
          refine r_dputT e11 eu3 (lt_size (by unfold kvB; rw [List.length_map]; omega)) ?_
          rw [put_kvB]
          refine ⟨_, _, _, by first | exact rfl | trivial, upd_same, ?_, (k59.trans k11).mut ha⟩
          rw [hcs2]; unfold Tab.stepC; rw [hM]; rfl
      · rintro σ' H7 ⟨y1, y2, cs, rfl, e7, hcs, k7⟩
        rw [List.length_map, hla, List.take_length] at hcs
        have hcs' : cs = Tab.levC (hasA m) (i + 1) := hcs
        walk_at "sts"
        refine ⟨a, _, rfl, .inl e7, fun nq2 bs hnq2 hk => ?_⟩
        have hb7 := keys_kvB hk
        have k8 : Keep [] H7 (upd H7 nq2 (.lst (bs.map V.ref))) := Keep.new hnq2
        have e8 : upd H7 nq2 (.lst (bs.map V.ref)) nq2 = some (.lst (bs.map V.ref)) := upd_same
        have hb8 := hb7.keep0 k8
        generalize upd H7 nq2 (.lst (bs.map V.ref)) = H8 at k8 e8 hb8 ⊢
        have k58 := k7.trans k8
        have el8 := k58 _ _ (by simp) el5
        have ha8 := ha5.keep0 k58
        have nn2 : nq2 ≠ l := by rintro rfl; rw [k7 _ _ (by simp) el5] at hnq2; cases hnq2
        have l1 := ha5.len
        have l2 := metC_len (M := hasA m) (k := i)
        have l3 : 2 ^ (i + 1) ≤ 2 ^ 13 := Nat.pow_le_pow_right (by decide) (by omega)
        have l4 := hb8.len
        have l5 := levC_len (M := hasA m) (k := i + 1)
        rw [← hcs'] at l5
        walk_at "sts"
        refine ⟨l, nq2, _, _, rfl, rfl, el8, e8, le_size (by simp only [List.length_map]; omega), ?_⟩
        have nt : ∀ xs, H8 l ≠ some (.tup xs) := fun xs e => by rw [el8] at e; cases e
        refine ⟨nq2, fa ++ bs, bs, _, _, _, _, by first | exact rfl | trivial, by rw [upd_same, List.map_append], ?_, nn2, by rw [upd_ne nn2]; exact e8, ?_, (k5.trans k58).mut nlH⟩
        · exact cts_upd (ha8.app (by rw [← hcs']; exact hb8)) nt
        · rw [← hcs']; exact cts_upd hb8 nt
    · rintro σ' H5 ⟨nq, fa, na, x1, x2, x3, x4, rfl, el5, ha5, nne, en5, hn5, k5⟩
      have e : (n : Int).toNat = n := by omega
      rw [e] at ha5
      walk_at "sts"
      refine ⟨l, _, kOf H5, rfl, sqL_of el5, fun x hx => ?_, fun ys q hs hst hq => ?_⟩
      · obtain ⟨j, hj⟩ := List.getElem?_of_mem hx
        obtain ⟨b, hb, rfl⟩ := getRef hj
        obtain ⟨c, _, eb⟩ := ha5.get hb
        exact ⟨b, rfl, by rw [kOf_c eb]; exact eb⟩
      · have hp := hst.perm
        obtain ⟨bs, hbs, rfl⟩ := refs_perm hp
        obtain ⟨cs, hcs, hc⟩ := ha5.perm hbs.symm
        have k6 : Keep [] H5 (upd H5 q (.lst (bs.map V.ref))) := Keep.new hq
        exact qq q cs _ (k5.trans k6) (k5.free (by simp) hq) ⟨bs, upd_same, hc.keep0 k6⟩ hcs (lx_of hc (hcs.nodup_iff.mpr metC_nodup) hs)
end
/-! ### refuted, tries_to -/
abbrev wR : Str := Str.ofString "reached"
abbrev wM : Str := Str.ofString "missed"
abbrev wU : Str := Str.ofString "unsure"
/-- the word that the count's own tries refute -/
def truthW (c : Ct) (w : Str) (wr : Int) : Option Str := if w = wM ∧ c.2 ≤ wr then some wR else if w = wR ∧ c.1 ≤ wr then some wM else none
def oS : Option Str → V
  | some x => .str x
  | none => .non
def spRefuted : Sp := fun vs H Q _ => ∃ (r m wr : Int) (w : Str), vs = [.int r, .int m, .str w, .int wr] ∧ Q (oS (truthW (r, m) w wr)) H
def strL (s : List Nat) : Str := ⟨s.toArray⟩
theorem strL_len {s : List Nat} : (strL s).length = s.length := by show (strL s).cps.size = _; simp [strL]
theorem strL_app {s t : List Nat} : strL s ++ strL t = strL (s ++ t) := by
  show (⟨(strL s).cps ++ (strL t).cps⟩ : Str) = _
  simp [strL]
theorem str_r : Str.ofString "r" = strL [114] := rfl
theorem str_m : Str.ofString "m" = strL [109] := rfl
theorem str_0 : Str.ofString "" = strL [] := rfl
def cD (c : Ct) : PyData := .tuple [.int c.1, .int c.2]
theorem dp_c {K : PySem.W.Frag} {H : Hp} {a : Addr} {c : Ct} (h : H a = some (cHO c)) : Dp K H (.ref a) (cD c) := .tup (sqT_of h) (.cons (.int _) (.cons (.int _) .nil))
theorem dp_cs {K : PySem.W.Frag} {H : Hp} : ∀ {as : List Addr} {cs : List Ct}, AllAt cHO H as cs → DpAll K H (as.map V.ref) (cs.map cD)
  | [], [], _ => .nil
  | _ :: _, _ :: _, h => .cons (dp_c h.1) (dp_cs h.2)
  | [], _ :: _, h => h.elim
  | _ :: _, [], h => h.elim
theorem lay_cs : ∀ {cs : List Ct}, PyData.canLayAll0 (cs.map cD) = true ∧ PyData.depthAll (cs.map cD) ≤ 1
  | [] => by simp [PyData.canLayAll0, PyData.depthAll]
  | c :: cs => by
    have ih := lay_cs (cs := cs)
    refine ⟨by simp [cD, PyData.canLayAll0, PyData.canLay0, ih.1], ?_⟩
    have := ih.2
    simp [cD, PyData.depthAll, PyData.depth]
    omega
theorem shaped_cs {cs : List Ct} : SeqAt.shaped (.list (cs.map cD)) = true := by
  have := lay_cs (cs := cs)
  unfold SeqAt.shaped
  simp [PyData.canLay0, PyData.depth, this.1]
  omega
theorem shaped_c {c : Ct} : SeqAt.shaped (cD c) = true := by
  unfold SeqAt.shaped
  simp [cD, PyData.canLay0, PyData.canLayAll0, PyData.depth, PyData.depthAll]
theorem eqv_c {a b : Ct} : PyData.eqv (cD a) (cD b) = decide (a = b) := by
  unfold cD
  rw [eqvT]
  by_cases h : a = b
  · subst h; simp [PyData.eqvAll, PyData.eqv]
  · rw [decide_eq_false h]
    have : ¬ (a.1 = b.1 ∧ a.2 = b.2) := fun g => h (Prod.ext g.1 g.2)
    simp [PyData.eqvAll, PyData.eqv]
    intro g1 g2
    exact this ⟨g1, g2⟩
theorem any_cs {cs : List Ct} {c : Ct} : ((cs.map cD).any fun z => PyData.eqv z (cD c)) = decide (c ∈ cs) := by
  rw [List.any_map]
  rw [Bool.eq_iff_iff, List.any_eq_true]
  simp only [Function.comp, eqv_c, decide_eq_true_eq]
  exact ⟨fun ⟨x, h, e⟩ => e ▸ h, fun h => ⟨c, h, rfl⟩⟩
theorem r_inC {K : PySem.W.Frag} {H : Hp} {Q : VK} {a p : Addr} {c : Ct} {cs : List Ct} (h : H a = some (cHO c)) (hp : CtsAt H p cs) (k : Q (.bl (decide (c ∈ cs))) H) : rInD K (.ref a) (.ref p) H Q := by
  obtain ⟨as, e, g⟩ := hp
  exact ⟨_, _, dp_c h, .lst (sqL_of e) (dp_cs g), shaped_c, shaped_cs, by rw [any_cs]; exact k⟩
theorem r_ninC {K : PySem.W.Frag} {H : Hp} {Q : VK} {a p : Addr} {c : Ct} {cs : List Ct} (h : H a = some (cHO c)) (hp : CtsAt H p cs) (k : Q (.bl (!decide (c ∈ cs))) H) : rNotInD K (.ref a) (.ref p) H Q := by
  obtain ⟨as, e, g⟩ := hp
  exact ⟨_, _, dp_c h, .lst (sqL_of e) (dp_cs g), shaped_c, shaped_cs, by rw [any_cs]; exact k⟩
theorem CtsAt.keep0 {H H' : Hp} {p : Addr} {cs : List Ct} (h : CtsAt H p cs) (k : Keep [] H H') : CtsAt H' p cs := by
  obtain ⟨as, e, g⟩ := h; exact ⟨as, k _ _ (by simp) e, g.keep0 k⟩
def spTries : Sp := fun vs H Q _ => ∃ (p d q : Addr) (cs : List Ct) (n k : Nat) (m : Ends) (c : Ct), vs = [.ref p, .ref d, .ref q] ∧ CtsAt H p cs ∧ EndsAt H d m ∧ H q = some (cHO c) ∧ (∀ x, x ∈ cs ↔ ∃ j, j ≤ n ∧ Tab.Mt (hasA m) j x) ∧ k ≤ n ∧ n ≤ 12 ∧ Tab.Mt (hasA m) k c ∧
  ∀ (t : List Nat) (H' : Hp), Tab.Rn (hasA m) k t → Tab.cnt t = c → Keep [] H H' → Q (.str (strL t)) H'
theorem r_augC {i : Nat} {b : Int} {g : Int → Int → Int} {D : L2.Ends} {σ : L2.St} {H : Hp} {a : Int} (h : σ[i]? = some (some (.int a))) (k : D.nx (σ.set i (some (.int (g a b)))) H) : tAug i (tC (.int b)) (ipI g) D σ H :=
  ⟨.int a, h, ⟨a, b, rfl, rfl, k⟩⟩
section
variable {P : Program} {w : World} {K : PySem.W.Frag} {mg : Str → Option Value} {base : Heap}
theorem ok_refuted (T : Tx K mg) : FnOk P w K mg base CX0 1 T.f_refuted T.fd_refuted ["reached", "missed", "word", "wrong"] spRefuted := by
  refine T.F_refuted.ok sc_refuted (fun vs H Q E h => ?_) (fun cdv A outer s H vs Q E hr h => ?_)
  · obtain ⟨r, m, wr, w, rfl, _⟩ := h; rfl
  · obtain ⟨r, m, wr, wd, rfl, qq⟩ := h
    refine ⟨_, (pss_cons (ps_if (PW.pt (pw_and (pt_cmpR op_eq (pv 2) pe_str (nomark _)) (pw_and1 (pt_cmpR op_le (pv 1) (pv 3) (nomark _)))))
    (pss_one (ps_ret pe_str))
    pss_nil)
    (pss_one (ps_ret (pe_ifExp (PW.pt (pw_and (pt_cmpR op_eq (pv 2) pe_str (nomark _)) (pw_and1 (pt_cmpR op_le (pv 0) (pv 3) (nomark _))))) pe_str pe_non)))), ?_⟩
    unfold truthW at qq
    walk_at "start"
    walk_at "sts"
    refine r_ite (fun c1 => ?_) (fun c1 => ?_)
    · walk_at "sts"
      refine r_ite (fun c2 => ?_) (fun c2 => ?_)
      · rw [if_pos ⟨c1, c2⟩] at qq
        walk_at "sts"
        exact qq
      · rw [if_neg (fun e => c2 e.2)] at qq
        rw [if_neg (fun e => by have := e.1; rw [c1] at this; revert this; decide)] at qq
        walk_at "sts"
        refine r_iteF (fun e => by rw [c1] at e; revert e; decide) ?_
        walk_at "sts"
        exact qq
    · rw [if_neg (fun e => c1 e.1)] at qq
      walk_at "sts"
      refine r_ite (fun c2 => ?_) (fun c2 => ?_)
      · walk_at "sts"
        refine r_ite (fun c3 => ?_) (fun c3 => ?_)
        · rw [if_pos ⟨c2, c3⟩] at qq
          walk_at "sts"
          exact qq
        · rw [if_neg (fun e => c3 e.2)] at qq
          walk_at "sts"
          exact qq
      · rw [if_neg (fun e => c2 e.1)] at qq
        walk_at "sts"
        exact qq
theorem ok_tries (T : Tx K mg) : FnOk P w K mg base CX0 1 T.f_tries_to T.fd_tries_to ["met", "marks", "count"] spTries := by
  refine T.F_tries_to.ok sc_tries_to (fun vs H Q E h => ?_) (fun cdv A outer s H vs Q E hr h => ?_)
  · obtain ⟨p, d, q, cs, n, k, m, c, rfl, _⟩ := h; rfl
  · obtain ⟨p, d, q, cs, n, k, m, c, rfl, hp, ed, eq, hm, hk, hn, hc, qq⟩ := h
    obtain ⟨t, hb, rt, ct⟩ := Tab.back_ok (s := []) hm hk hc
    rw [List.append_nil] at hb
    have eqT : H q = some (.tup [.int c.1, .int c.2]) := eq
    refine ⟨_, (pss_cons (ps_set (i := 3) sc_tries_to.nd rfl (Or.inl rfl) pe_str)
    (pss_cons (ps_asg (pv 2) (pg_tup (n := 2) rfl (pgs_cons (pg_name (i := 4) sc_tries_to.nd rfl (Or.inl rfl)) (pgs_cons (pg_name (i := 5) sc_tries_to.nd rfl (Or.inl rfl)) pgs_nil))))
    (pss_cons (ps_while PassesOwn.never (pt_cmpR op_gt (pe_op op_add (pv 4) (pv 5)) pe_int (nomark _))
    (pss_cons (ps_set (i := 6) sc_tries_to.nd rfl (Or.inl rfl) (pe_tup (pa_cons (pe_op op_sub (pv 4) pe_int) (pa_cons (pv 5) pa_nil))))
    (pss_one (ps_if (PW.pt (pw_and (pt_cmpR (op_inD (Dt.inD_of hr)) (pv 6) (pv 0) (by rfl)) (pw_and1 (pt_cmp (pc_dnotin (hu_of hr) (pv 6) (pv 1))))))
    (pss_cons (ps_aug (i := 4) sc_tries_to.nd rfl (Or.inl rfl) pe_int ip_sub)
    (pss_one (ps_set (i := 3) sc_tries_to.nd rfl (Or.inl rfl) (pe_op op_addS pe_str (pv 3)))))
    (pss_cons (ps_aug (i := 5) sc_tries_to.nd rfl (Or.inl rfl) pe_int ip_sub)
    (pss_one (ps_set (i := 3) sc_tries_to.nd rfl (Or.inl rfl) (pe_op op_addS pe_str (pv 3)))))))))
    (pss_one (ps_ret (pv 3)))))), ?_⟩
    walk_at "start"
    walk_at "sts"
    rw [str_0]
    refine r_while (fun w' σ' H' => ∃ (c' : Ct) (s' : List Nat) (x6 : Option V), σ' = [some (.ref p), some (.ref d), some (.ref q), some (.str (strL s')), some (.int c'.1), some (.int c'.2), x6] ∧ Keep [] H H' ∧ Tab.Mt (hasA m) w' c' ∧ Tab.back (hasA m) cs w' c' s' = t ∧ s'.length + w' = k) (m0 := k) ⟨c, [], _, by first | exact rfl | trivial, Keep.refl _ _, hc, hb, by simp⟩ ?_
    rintro w' σ' H1 ⟨c', s', x6, rfl, k1, mt, bk, ls⟩
    have sm := mt.sum
    walk_at "sts"
    refine r_ite (fun c1 => ?_) (fun c1 => ?_)
    · obtain ⟨v, rfl⟩ : ∃ v, w' = v + 1 := ⟨w' - 1, by omega⟩
      refine r_turn ?_
      walk_at "sts"
      intro b hb0
      have k2 : Keep [] H1 (upd H1 b (.tup [.int (c'.1 - 1), .int c'.2])) := Keep.new hb0
      have eb : upd H1 b (.tup [.int (c'.1 - 1), .int c'.2]) b = some (cHO (c'.1 - 1, c'.2)) := upd_same
      generalize upd H1 b (.tup [.int (c'.1 - 1), .int c'.2]) = H2 at k2 eb ⊢
      have k12 := k1.trans k2
      walk_at "sts"
      refine r_inC eb (hp.keep0 k12) ?_
      unfold Tab.back at bk
      have left : (c'.1 - 1, c'.2) ∈ cs → Tab.Mt (hasA m) v (c'.1 - 1, c'.2) := fun h => by
        obtain ⟨j, hj, mj⟩ := (hm _).mp h
        have a := mj.sum.1
        simp only at a
        have e : j = v := by omega
        subst e; exact mj
      have right : ¬ ((c'.1 - 1, c'.2) ∈ cs ∧ hasA m (c'.1 - 1, c'.2) = false) → Tab.Mt (hasA m) v (c'.1, c'.2 - 1) := fun h => by
        rcases mt.pred with z | z
        · exact (h ⟨(hm _).mpr ⟨v, by omega, z.1⟩, z.2⟩).elim
        · exact z.1
      by_cases g1 : (c'.1 - 1, c'.2) ∈ cs
      · rw [decide_eq_true g1]
        walk_at "sts"
        refine r_dinT (f := V.str) (k12 _ _ (by simp) ed) eb ?_
        cases hM : hasA m (c'.1 - 1, c'.2) with
        | false =>
          rw [if_pos ⟨g1, hM⟩] at bk
          walk_at "sts"
          refine r_augC rfl ?_
          simp only [List.set_cons_zero, List.set_cons_succ]
          walk_at "sts"
          rw [str_r]
          refine r_addS (le_size (by rw [strL_len, strL_len]; simp only [List.length_singleton]; omega)) ?_
          rw [strL_app]
          walk_at "sts"
          refine ⟨v, by omega, (c'.1 - 1, c'.2), 114 :: s', _, by first | exact rfl | trivial, k12, left g1, bk, by simp only [List.length_cons]; omega⟩
        | true =>
          rw [if_neg (fun e => by rw [hM] at e; cases e.2)] at bk
          walk_at "sts"
          refine r_augC rfl ?_
          simp only [List.set_cons_zero, List.set_cons_succ]
          walk_at "sts"
          rw [str_m]
          refine r_addS (le_size (by rw [strL_len, strL_len]; simp only [List.length_singleton]; omega)) ?_
          rw [strL_app]
          walk_at "sts"
          refine ⟨v, by omega, (c'.1, c'.2 - 1), 109 :: s', _, by first | exact rfl | trivial, k12, right (fun e => by rw [hM] at e; cases e.2), bk, by simp only [List.length_cons]; omega⟩
      · rw [decide_eq_false g1]
        rw [if_neg (fun e => g1 e.1)] at bk
        walk_at "sts"
        refine r_augC rfl ?_
        simp only [List.set_cons_zero, List.set_cons_succ]
        walk_at "sts"
        rw [str_m]
        refine r_addS (le_size (by rw [strL_len, strL_len]; simp only [List.length_singleton]; omega)) ?_
        rw [strL_app]
        walk_at "sts"
        refine ⟨v, by omega, (c'.1, c'.2 - 1), 109 :: s', _, by first | exact rfl | trivial, k12, right (fun e => g1 e.1), bk, by simp only [List.length_cons]; omega⟩
    · have e0 : w' = 0 := by omega
      subst e0
      have e1 : s' = t := bk
      subst e1
      walk_at "sts"
      exact qq _ H1 rt ct k1
end
/-! ### the table -/
structure Valid (L : Nat) (m : Ends) : Prop where
  l1 : 1 ≤ L
  l2 : L ≤ 12
  nd : (m.map (·.1)).Nodup
  key : ∀ p ∈ m, 0 ≤ p.1.1 ∧ 0 ≤ p.1.2 ∧ 1 ≤ p.1.1 + p.1.2 ∧ p.1.1 + p.1.2 ≤ (L : Int)
  word : ∀ p ∈ m, p.2 = wR ∨ p.2 = wM ∨ p.2 = wU
  len : m.length ≤ 5000
  gap : ∀ c, Tab.Mt (hasA m) L c → hasA m c = true
def TableAt (C : Addr) (H : Hp) (x : Addr) (L : Nat) (m : Ends) : Prop := ∃ dx d, H x = some (.ins C dx [("limit", .int L), ("marks", .ref d)]) ∧ EndsAt H d m
def spInit (C : Addr) : Sp := fun vs H Q _ => ∃ (x dx d : Addr) (L : Nat) (m : Ends), vs = [.ref x, .int L, .ref d] ∧ H x = some (.ins C dx []) ∧ EndsAt H d m ∧ Valid L m ∧ ∀ H' D, Keep [x] H H' → H' x = some (.ins C dx [("limit", .int L), ("marks", .ref D)]) → EndsAt H' D m → H D = none → Q .non H'
def spEnds (C : Addr) : Sp := fun vs H Q _ => ∃ (x : Addr) (L : Nat) (m : Ends), vs = [.ref x] ∧ TableAt C H x L m ∧ Valid L m ∧ ∀ D H', Keep [] H H' → H D = none → EndsAt H' D m → Q (.ref D) H'
theorem nodup_kvG {α : Type} {f : α → V} {m : List (Ct × α)} (h : (m.map (·.1)).Nodup) : ((kvG f m).map (·.1)).Nodup := by
  unfold kvG
  rw [List.map_map]
  have e : m.map ((fun x : List Key × V => x.1) ∘ fun p => (ck p.1, f p.2)) = (m.map (·.1)).map ck := by rw [List.map_map]; rfl
  rw [e]
  exact List.Pairwise.map _ (fun (a b : Ct) (e : a ≠ b) (g : ck a = ck b) => e (ck_inj.mp g)) h
theorem get_kvG {α : Type} {f : α → V} {m : List (Ct × α)} {i : Nat} {k : List Key} {v : V} (h : (kvG f m)[i]? = some (k, v)) : ∃ p, m[i]? = some p ∧ k = ck p.1 ∧ v = f p.2 := by
  unfold kvG at h
  rw [List.getElem?_map] at h
  obtain ⟨p, hp, e⟩ := Option.map_eq_some_iff.mp h
  cases e
  exact ⟨p, hp, rfl, rfl⟩
theorem TableAt.keep0 {C : Addr} {H H' : Hp} {x : Addr} {L : Nat} {m : Ends} (h : TableAt C H x L m) (k : Keep [] H H') : TableAt C H' x L m := by
  obtain ⟨dx, d, e, g⟩ := h; exact ⟨dx, d, k _ _ (by simp) e, k _ _ (by simp) g⟩
theorem put2T {l : V} {d : V} : putF (Str.ofString "marks") d [(Str.ofString "limit", l)] = [(Str.ofString "limit", l), (Str.ofString "marks", d)] := rfl
theorem flat_ws : ([V.str wR, V.str wM, V.str wU] : List V).all L2.flatV = true := by decide +kernel
theorem word_flat {w : Str} (h : w = wR ∨ w = wM ∨ w = wU) : L2.flatV (V.str w) = true ∧ inV (V.str w) [V.str wR, V.str wM, V.str wU] = true := by
  rcases h with rfl | rfl | rfl <;> exact ⟨by decide +kernel, by decide +kernel⟩
section
variable {P : Program} {w : World} {K : PySem.W.Frag} {mg : Str → Option Value} {base : Heap}
theorem ok_init (T : Tx K mg) (G_counts_met : FnOk P w K mg base CX0 1 T.f_counts_met T.fd_counts_met ["limit", "marks"] spCounts) : FnOk P w K mg base CX0 2 T.f_Table___init T.fd_Table___init ["self", "limit", "ends"] (spInit T.C_Table) := by
  refine T.F_Table___init.ok sc_Table___init (fun vs H Q E h => ?_) (fun cdv A outer s H vs Q E hr h => ?_)
  · obtain ⟨x, dx, d, L, m, rfl, _⟩ := h; rfl
  · obtain ⟨x, dx, d, L, m, rfl, hx, ed, va, qq⟩ := h
    have oc := T.oc_Table
    have nl := T.na_Table_limit
    have nm := T.na_Table_marks
    have l1 := va.l1
    have l2 := va.l2
    refine ⟨_, PSs.nox (pss_cons (ps_if (pt_not (pt_chain op_le op_le pe_int (pv 1) (pe_glob (v := .int (12)) rfl T.c_MOST_TRIES.choose_spec ⟨_, rfl⟩)))
    (pss_one ps_never)
    pss_nil)
    (pss_cons (ps_lock (ps_for PassesOwn.never rfl (pi_keys (pv 2)) (pg_tup (n := 2) rfl (pgs_cons (pg_name (i := 3) sc_Table___init.nd rfl (Or.inl rfl)) (pgs_cons (pg_name (i := 4) sc_Table___init.nd rfl (Or.inl rfl)) pgs_nil)))
    (pss_one (ps_if (PW.pt (pw_or (pt_cmpR op_lt (pv 3) pe_int (nomark _)) (pw_or (pt_cmpR op_lt (pv 4) pe_int (nomark _)) (pw_or1 (pt_not (pt_chain op_le op_le pe_int (pe_op op_add (pv 3) (pv 4)) (pv 1)))))))
    (pss_one ps_never)
    pss_nil))))
    (pss_cons (ps_lock (ps_for PassesOwn.never rfl (Dt.pi_valuesT (pv 2)) (pg_name (i := 5) sc_Table___init.nd rfl (Or.inl rfl))
    (pss_one (ps_if (pt_cmpR op_notIn_seq (pv 5) (pe_glob (v := .ref T.a_WORDS) rfl T.c_WORDS rfl) (by rfl))
    (pss_one ps_never)
    pss_nil))))
    (pss_cons (ps_for PassesOwn.never rfl (pi_list (pe_call G_counts_met (hr.mono (by decide)) rfl T.g_counts_met T.F_counts_met.kp T.b_counts_met .nil pass0 (pa_cons (pv 1) (pa_cons (pv 2) pa_nil)))) (pg_tup (n := 2) rfl (pgs_cons (pg_name (i := 3) sc_Table___init.nd rfl (Or.inl rfl)) (pgs_cons (pg_name (i := 4) sc_Table___init.nd rfl (Or.inl rfl)) pgs_nil)))
    (pss_one (ps_if (PW.pt (pw_and (pt_cmpR op_eq (pe_op op_add (pv 3) (pv 4)) (pv 1) (nomark _)) (pw_and1 (pt_cmp (pc_dnotin (hu_of hr) (pe_tup (pa_cons (pv 3) (pa_cons (pv 4) pa_nil))) (pv 2))))))
    (pss_one ps_never)
    pss_nil)))
    (pss_cons (ps_fld (pv 0) (pv 1) rfl)
    (pss_one (ps_fld (pv 0) (pe_lock (Dt.pe_dcT (own := [("count", 6), ("word", 5)]) (g := gTup K 2 (gCons (gName 6) (gCons (gName 5) gNil))) (tt := tYes) hr.units0 rfl sc_Table___init.nd (Dt.pi_itemsT (pv 2)) (blkOk_by (own := [("count", 6), ("word", 5)]) (N := ["self", "limit", "ends", "reached", "missed", "word", "count"]) (sc := defScope s_Table___init) (by decide +kernel)) (fun _ _ _ _ _ => pg_tup (n := 2) rfl (pgs_cons (pg_name (i := 6) sc_Table___init.nd rfl (Or.inl rfl)) (pgs_cons (pg_name (i := 5) sc_Table___init.nd rfl (Or.inl rfl)) pgs_nil))) (fun _ _ _ _ _ => pts_nil) (fun _ _ _ _ _ => (pv 6)) (fun _ _ _ _ _ => (pv 5)))) rfl))))))), ?_⟩
    walk_at "start"
    walk_at "sts"
    have ndk : d ≠ x := by rintro rfl; cases (hx.symm.trans ed)
    refine forKT_go ed (fun od Q' hQ => r_var rfl hQ) (fun od i σ' H' => ∃ y1 y2 : Option V, σ' = [some (.ref x), some (.int L), some (.ref d), y1, y2, none, none] ∧ H' = upd H d (.frz od (.dT (kvG V.str m)))) (fun od => ⟨_, _, by first | exact rfl | trivial, rfl⟩) (fun od i σ' H' h => by obtain ⟨_, _, _, rfl⟩ := h; exact upd_same) ?_ ?_
    · rintro od i k v q σ' H' at1 tup ⟨y1, y2, rfl, rfl⟩
      obtain ⟨p, hp, rfl, rfl⟩ := get_kvG at1
      have key := va.key p (List.mem_of_getElem? hp)
      refine r_gTup2 (x := .int p.1.1) (y := .int p.1.2) (sqT_of tup) ?_
      simp only [List.set_cons_zero, List.set_cons_succ]
      walk_at "sts"
      exact ⟨_, _, by first | exact rfl | trivial, rfl⟩
    rintro od σ' H' ⟨y1, y2, rfl, rfl⟩
    rw [upd_back ed]
    walk_at "sts"
    refine forVT_go ed (fun od Q' hQ => r_var rfl hQ) (fun od i σ' H' => ∃ y3 : Option V, σ' = [some (.ref x), some (.int L), some (.ref d), y1, y2, y3, none] ∧ H' = upd H d (.frz od (.dT (kvG V.str m)))) (fun od => ⟨_, by first | exact rfl | trivial, rfl⟩) (fun od i σ' H' h => by obtain ⟨_, _, rfl⟩ := h; exact upd_same) ?_ ?_
    · rintro od i k v σ' H' at1 ⟨y3, rfl, rfl⟩
      obtain ⟨p, hp, rfl, rfl⟩ := get_kvG at1
      have wd := word_flat (va.word p (List.mem_of_getElem? hp))
      walk_at "sts"
      refine ⟨_, _, rfl, .inr T.t_WORDS.at, wd.1, flat_ws, ?_⟩
      have e2 : (if (true : Bool) = true then !inV (V.str p.2) [V.str "reached", V.str "missed", V.str "unsure"] else inV (V.str p.2) [V.str "reached", V.str "missed", V.str "unsure"]) = false := by
        rw [if_pos rfl]; have := wd.2; rw [this]; rfl
      rw [e2]
      walk_at "sts"
      exact ⟨_, by first | exact rfl | trivial, rfl⟩
    rintro od σ' H' ⟨y3, rfl, rfl⟩
    rw [upd_back ed]
    walk_at "sts"
    refine ⟨d, L, m, rfl, l2, ed, fun q cs H1 k1 nq ⟨as, eq, ca⟩ pm _ => ?_⟩
    refine forL_go (fun i σ' H' => ∃ y4 y5 : Option V, σ' = [some (.ref x), some (.int L), some (.ref d), y4, y5, y3, none] ∧ Keep [] H1 H') (sqL_of eq) ⟨_, _, by first | exact rfl | trivial, Keep.refl _ _⟩ (fun i σ' H' _ h => by obtain ⟨_, _, _, k⟩ := h; exact sqL_of (k _ _ (by simp) eq)) ?_ ?_
    · rintro i v σ' H2 hv ⟨y4, y5, rfl, k2⟩
      obtain ⟨b, hb, rfl⟩ := getRef hv
      obtain ⟨c, hc, eb⟩ := ca.get hb
      have mc := pm.mem_iff.mp (List.mem_of_getElem? hc)
      obtain ⟨j, hj, mt⟩ := Tab.mem_metC.mp mc
      refine r_gTup2 (x := .int c.1) (y := .int c.2) (sqT_of (k2 _ _ (by simp) eb)) ?_
      simp only [List.set_cons_zero, List.set_cons_succ]
      walk_at "sts"
      refine r_ite (fun c1 => ?_) (fun c1 => ?_)
      · have ej : j = L := by have := mt.sum.1; omega
        subst ej
        have hM := va.gap c mt
        walk_at "sts"
        intro u hu
        have k3 : Keep [] H2 (upd H2 u (.tup [.int c.1, .int c.2])) := Keep.new hu
        have eu : upd H2 u (.tup [.int c.1, .int c.2]) u = some (cHO c) := upd_same
        generalize upd H2 u (.tup [.int c.1, .int c.2]) = H3 at k3 eu ⊢
        walk_at "sts"
        refine r_dinT (f := V.str) ((k1.trans (k2.trans k3)) _ _ (by simp) ed) eu ?_
        rw [hM]
        walk_at "sts"
        exact ⟨_, _, by first | exact rfl | trivial, k2.trans k3⟩
      · walk_at "sts"
        exact ⟨_, _, by first | exact rfl | trivial, k2⟩
    rintro σ' H2 ⟨y4, y5, rfl, k2⟩
    have k12 := k1.trans k2
    have ex := k12 _ _ (by simp) hx
    have ed2 := k12 _ _ (by simp) ed
    walk_at "sts"
    rw [show putF (Str.ofString "limit") (V.int L) [] = [((Str.ofString "limit"), .int L)] from rfl]
    have kx : Keep [x] H2 (upd H2 x (.ins T.C_Table dx [((Str.ofString "limit"), .int L)])) := Keep.at (by simp)
    have ex3 : upd H2 x (.ins T.C_Table dx [((Str.ofString "limit"), .int L)]) x = some (.ins T.C_Table dx [((Str.ofString "limit"), .int L)]) := upd_same
    have ed3 := kx _ _ (by simpa using ndk) ed2
    generalize upd H2 x (.ins T.C_Table dx [((Str.ofString "limit"), .int L)]) = H3 at kx ex3 ed3 ⊢
    walk_at "sts"
    refine r_copyT ed3 (nodup_kvG va.nd) (by rw [len_kvG]; have := va.len; omega) (fun od Q' hQ => r_var rfl hQ) (fun _ _ => rfl) (fun _ _ => rfl) (fun _ _ => rfl) fun D H4 k4 nD eD => ?_
    have ex4 := k4 _ _ (by simp) ex3
    walk_at "sts"
    rw [put2T]
    have nDx : D ≠ x := by rintro rfl; rw [ex4] at eD; cases eD
    have k5 : Keep [x] H4 (upd H4 x (.ins T.C_Table dx [(Str.ofString "limit", .int L), (Str.ofString "marks", .ref D)])) := Keep.at (by simp)
    exact qq _ D ((k12.mono (by simp)).trans (kx.trans ((k4.mono (by simp)).trans k5))) upd_same (k5 _ _ (by simpa using nDx) eD) (((k12.mono (by simp)).trans kx).free (by simpa using nDx) nD)
theorem ok_ends (T : Tx K mg) : FnOk P w K mg base CX0 1 T.f_Table_ends T.fd_Table_ends ["self"] (spEnds T.C_Table) := by
  refine T.F_Table_ends.ok sc_Table_ends (fun vs H Q E h => ?_) (fun cdv A outer s H vs Q E hr h => ?_)
  · obtain ⟨x, L, m, rfl, _⟩ := h; rfl
  · obtain ⟨x, L, m, rfl, ⟨dx, d, ex, ed⟩, va, qq⟩ := h
    have oc := T.oc_Table
    have nl := T.na_Table_limit
    have nm := T.na_Table_marks
    refine ⟨_, PSs.nox (pss_one (ps_ret (pe_lock (Dt.pe_dcT (own := [("count", 1), ("word", 2)]) (g := gTup K 2 (gCons (gName 1) (gCons (gName 2) gNil))) (tt := tYes) hr.units0 rfl sc_Table_ends.nd (Dt.pi_itemsT (pe_fld (pv 0) rfl)) (blkOk_by (own := [("count", 1), ("word", 2)]) (N := ["self", "count", "word"]) (sc := defScope s_Table_ends) (by decide +kernel)) (fun _ _ _ _ _ => pg_tup (n := 2) rfl (pgs_cons (pg_name (i := 1) sc_Table_ends.nd rfl (Or.inl rfl)) (pgs_cons (pg_name (i := 2) sc_Table_ends.nd rfl (Or.inl rfl)) pgs_nil))) (fun _ _ _ _ _ => pts_nil) (fun _ _ _ _ _ => (pv 1)) (fun _ _ _ _ _ => (pv 2)))))), ?_⟩
    walk_at "start"
    walk_at "sts"
    have nxd : x ≠ d := by rintro rfl; cases (ex.symm.trans ed)
    refine r_copyT ed (nodup_kvG va.nd) (by rw [len_kvG]; have := va.len; omega) (fun od Q' hQ => ?_) (fun _ _ => rfl) (fun _ _ => rfl) (fun _ _ => rfl) fun D H4 k4 nD eD => ?_
    · have ex2 : upd H d (.frz od (.dT (kvG V.str m))) x = some (.ins T.C_Table dx [("limit", .int L), ("marks", .ref d)]) := by rw [upd_ne nxd]; exact ex
      walk_at "sts"
      exact hQ
    · exact qq D H4 k4 nD eD
end
/-! ### stops and sound -/
def sHO (p : Ct × Str) : HO := .tup [.int p.1.1, .int p.1.2, .str p.2]
def spStops (C : Addr) : Sp := fun vs H Q _ => ∃ (x : Addr) (L : Nat) (m : Ends), vs = [.ref x] ∧ TableAt C H x L m ∧ Valid L m ∧
  ∀ (q : Addr) (as : List Addr) (ps : List (Ct × Str)) (H' : Hp), Keep [] H H' → H q = none → H' q = some (.lst (as.map V.ref)) → AllAt sHO H' as ps → (∀ p, p ∈ ps ↔ (∃ j, j ≤ L ∧ Tab.Mt (hasA m) j p.1) ∧ getA m p.1 = some p.2) → ps.length ≤ 8192 → ps.Pairwise (fun a b => Lx a.1 b.1) → Q (.ref q) H'
def stopsOf (m : Ends) (cs : List Ct) : List (Ct × Str) := cs.filterMap fun c => (getA m c).map fun w => (c, w)
theorem mem_stops {m : Ends} {cs : List Ct} {p : Ct × Str} : p ∈ stopsOf m cs ↔ p.1 ∈ cs ∧ getA m p.1 = some p.2 := by
  unfold stopsOf
  rw [List.mem_filterMap]
  constructor
  · rintro ⟨c, hc, e⟩
    obtain ⟨w, hw, rfl⟩ := Option.map_eq_some_iff.mp e
    exact ⟨hc, hw⟩
  · rintro ⟨hc, e⟩
    exact ⟨p.1, hc, by rw [e]; rfl⟩
theorem stops_snoc {m : Ends} {cs : List Ct} {i : Nat} {c : Ct} (h : cs[i]? = some c) : stopsOf m (cs.take (i + 1)) = stopsOf m (cs.take i) ++ ((getA m c).map fun w => (c, w)).toList := by
  unfold stopsOf
  have one : [c].filterMap (fun c => (getA m c).map fun w => (c, w)) = ((getA m c).map fun w => (c, w)).toList := by cases e : getA m c <;> simp [e]
  rw [take_snoc h, List.filterMap_append, one]
theorem stops_len {m : Ends} {cs : List Ct} : (stopsOf m cs).length ≤ cs.length := List.length_filterMap_le _ _
theorem stops_lx {m : Ends} {cs : List Ct} (h : cs.Pairwise Lx) : (stopsOf m cs).Pairwise (fun a b => Lx a.1 b.1) := by
  unfold stopsOf
  refine List.Pairwise.filterMap _ (fun a b l x hx y hy => ?_) h
  obtain ⟨_, _, rfl⟩ := Option.map_eq_some_iff.mp hx
  obtain ⟨_, _, rfl⟩ := Option.map_eq_some_iff.mp hy
  exact l
theorem r_star {K : PySem.W.Frag} {te : TE} {t : TA} {σ : L2.St} {H : Hp} {Q : List V → Hp → Prop} (k : te σ H fun x H1 => ∃ p xs, x = V.ref p ∧ (SqT K H1 p xs ∨ SqL K H1 p xs) ∧ t σ H1 fun ys H2 => Q (xs ++ ys) H2) : tStar K te t σ H Q := k
theorem r_dgetT {td ty : TE} {σ : L2.St} {H : Hp} {Q : VK} (k : td σ H fun x H1 => ty σ H1 fun y H2 => ∃ a v, x = .ref a ∧ DGet H2 a y (some v) ∧ Q v H2) : tDGet td ty σ H Q := k
theorem dgetT {α : Type} {f : α → V} {m : List (Ct × α)} {H : Hp} {p q : Addr} {c : Ct} {x : α} (h : H p = some (.dT (kvG f m))) (hq : H q = some (cHO c)) (e : getA m c = some x) : DGet H p (.ref q) (some (f x)) := by
  have := DGet.t (k := ck c) h hq
  rw [val_kvG, e] at this
  exact this
section
variable {P : Program} {w : World} {K : PySem.W.Frag} {mg : Str → Option Value} {base : Heap}
theorem ok_stops (T : Tx K mg) (G_counts_met : FnOk P w K mg base CX0 1 T.f_counts_met T.fd_counts_met ["limit", "marks"] spCounts) : FnOk P w K mg base CX0 2 T.f_Table_stops T.fd_Table_stops ["self"] (spStops T.C_Table) := by
  refine T.F_Table_stops.ok sc_Table_stops (fun vs H Q E h => ?_) (fun cdv A outer s H vs Q E hr h => ?_)
  · obtain ⟨x, L, m, rfl, _⟩ := h; rfl
  · obtain ⟨x, L, m, rfl, ⟨dx, d, ex, ed⟩, va, qq⟩ := h
    have oc := T.oc_Table
    have nl := T.na_Table_limit
    have nm := T.na_Table_marks
    refine ⟨_, PSs.nox (pss_cons (ps_set (i := 1) sc_Table_stops.nd rfl (Or.inl rfl) (pe_call G_counts_met (hr.mono (by decide)) rfl T.g_counts_met T.F_counts_met.kp T.b_counts_met .nil pass0 (pa_cons (pe_fld (pv 0) rfl) (pa_cons (pe_fld (pv 0) rfl) pa_nil))))
    (pss_one (ps_ret (pe_lc (own := [("count", 2)]) (g := gName 2)  rfl sc_Table_stops.nd (pi_list (pv 1)) (blkOk_by (own := [("count", 2)]) (N := ["self", "met", "count"]) (sc := defScope s_Table_stops) (by decide +kernel)) (fun _ _ _ _ _ => pg_name (i := 2) sc_Table_stops.nd rfl (Or.inl rfl)) (fun _ _ _ _ _ => pts_one (pt_cmp (pc_din (hu_of hr) (pv 2) (Dt.pe_fldK (K := K) rfl (pv 0) rfl)))) (fun _ _ _ _ _ => (pe_tup (Dt.pa_starK (K := K) rfl (pv 2) (pa_cons (pe_dget (hu_of hr) (Dt.pe_fldK (K := K) rfl (pv 0) rfl) (pv 2) (fun _ _ => rfl)) pa_nil)))))))), ?_⟩
    walk_at "start"
    walk_at "sts"
    refine ⟨d, L, m, rfl, va.l2, ed, fun q cs H1 k1 nq ⟨as, eq, ca⟩ pm px => ?_⟩
    have ex1 := k1 _ _ (by simp) ex
    have ed1 := k1 _ _ (by simp) ed
    have lc := ca.len
    have lcs : cs.length < 2 ^ 13 := by
      have h1 := pm.length_eq
      have h2 := metC_len (M := hasA m) (k := L)
      have h3 : 2 ^ (L + 1) ≤ 2 ^ 13 := Nat.pow_le_pow_right (by decide) (by have := va.l2; omega)
      omega
    walk_at "sts"
    refine lcL_go (fun D i acc H' => ∃ bs : List Addr, acc = bs.map V.ref ∧ AllAt sHO H' bs (stopsOf m (cs.take i)) ∧ Keep [] H1 H' ∧ H1 D = none) (sqL_of eq) (fun D hD => ⟨[], rfl, by simp [stopsOf, AllAt], Keep.new hD, hD⟩) (fun D i acc H' _ h => by obtain ⟨_, _, _, k, _⟩ := h; exact sqL_of (k _ _ (by simp) eq)) ?_ ?_
    · rintro D i v acc H2 hv hD ⟨bs, rfl, hb, k2, nD⟩
      obtain ⟨b, hb0, rfl⟩ := getRef hv
      obtain ⟨c, hc, eb⟩ := ca.get hb0
      have eb2 := k2 _ _ (by simp) eb
      have ed2 := k2 _ _ (by simp) ed1
      have ex2 := k2 _ _ (by simp) ex1
      have hbl := hb.len
      have sl := stops_len (m := m) (cs := cs.take i)
      rw [List.length_take] at sl
      have sn := stops_snoc (m := m) hc
      walk_at "sts"
      refine r_dinT (f := V.str) (g := id) ed2 eb2 ?_
      cases hw : getA m c with
      | none =>
        rw [hw] at sn
        unfold hasA
        rw [hw]
        walk_at "sts"
        exact ⟨_, hD, bs, rfl, by rw [sn]; simpa using hb, k2, nD⟩
      | some wd =>
        rw [hw] at sn
        unfold hasA
        rw [hw]
        walk_at "sts"
        rw [if_pos (show id (some wd).isSome = true from rfl)]
        walk_at "sts"
        refine r_star ?_
        walk_at "sts"
        refine ⟨b, [.int c.1, .int c.2], rfl, .inl (sqT_of eb2), ?_⟩
        walk_at "sts"
        refine ⟨d, _, rfl, dgetT (f := V.str) ed2 eb2 hw, ?_⟩
        walk_at "sts"
        simp only [List.cons_append, List.nil_append]
        walk_at "sts"
        intro u hu
        have k3 : Keep [] H2 (upd H2 u (.tup [.int c.1, .int c.2, .str wd])) := Keep.new hu
        have eu : upd H2 u (.tup [.int c.1, .int c.2, .str wd]) u = some (sHO (c, wd)) := upd_same
        have hD3 := k3 _ _ (by simp) hD
        have hb3 := hb.keep0 k3
        generalize upd H2 u (.tup [.int c.1, .int c.2, .str wd]) = H3 at k3 eu hD3 hb3 ⊢
        refine lc_put (acc := bs.map V.ref) hD3 (by rw [List.length_map]; exact lt_size (by omega)) ⟨bs ++ [u], by rw [List.map_append]; rfl, ?_, (k2.trans k3).mut nD, nD⟩
        rw [sn]
        exact (hb3.app (bs := [u]) (ys := [(c, wd)]) ⟨eu, trivial⟩).keep (Keep.at (M := [D]) (by simp)) (fun a ha x e => by rw [List.mem_singleton.mp ha, hD3] at e; cases e)
    · rintro D acc H2 nD hD ⟨bs, rfl, hb, k2, _⟩
      rw [List.length_map, lc, List.take_length] at hb
      refine qq D bs _ H2 (k1.trans k2) (k1.free (by simp) nD) hD hb (fun p => ?_) (Nat.le_trans stops_len (by omega)) (stops_lx px)
      rw [mem_stops, pm.mem_iff, Tab.mem_metC]
end
/-! ### sound -/
def spSound (C : Addr) : Sp := fun vs H Q _ => ∃ (x : Addr) (L : Nat) (m : Ends) (wr : Int), vs = [.ref x, .int wr] ∧ TableAt C H x L m ∧ Valid L m ∧ 0 ≤ wr ∧
  (∀ H', Keep [] H H' → (∀ c wd, (∃ j, j ≤ L ∧ Tab.Mt (hasA m) j c) → getA m c = some wd → truthW c wd wr = none) → Q .non H') ∧
  (∀ (q : Addr) (c : Ct) (wd t : Str) (s : List Nat) (k : Nat) (H' : Hp), Keep [] H H' → H q = none → getA m c = some wd → truthW c wd wr = some t → Tab.Rn (hasA m) k s → Tab.cnt s = c → k ≤ L → H' q = some (.tup [.str (strL s), .str t]) → Q (.ref q) H')
theorem r_gTup3 {K : PySem.W.Frag} {σ : L2.St} {H : Hp} {p : Addr} {x y z : V} {i j l : Nat} {Q : L2.St → Hp → Prop} (h : SqT K H p [x, y, z]) (k : Q (((σ.set i (some x)).set j (some y)).set l (some z)) H) : gTup K 3 (gCons (gName i) (gCons (gName j) (gCons (gName l) gNil))) (.ref p) σ H Q :=
  ⟨p, [x, y, z], rfl, h, rfl, x, [y, z], rfl, y, [z], rfl, z, [], rfl, rfl, k⟩
section
variable {P : Program} {w : World} {K : PySem.W.Frag} {mg : Str → Option Value} {base : Heap}
theorem ok_sound (T : Tx K mg) (G_counts_met : FnOk P w K mg base CX0 1 T.f_counts_met T.fd_counts_met ["limit", "marks"] spCounts) (G_Table_stops : FnOk P w K mg base CX0 2 T.f_Table_stops T.fd_Table_stops ["self"] (spStops T.C_Table))
    (G_refuted : FnOk P w K mg base CX0 1 T.f_refuted T.fd_refuted ["reached", "missed", "word", "wrong"] spRefuted) (G_tries_to : FnOk P w K mg base CX0 1 T.f_tries_to T.fd_tries_to ["met", "marks", "count"] spTries) : FnOk P w K mg base CX0 3 T.f_Table_sound T.fd_Table_sound ["self", "wrong"] (spSound T.C_Table) := by
  refine T.F_Table_sound.ok sc_Table_sound (fun vs H Q E h => ?_) (fun cdv A outer s H vs Q E hr h => ?_)
  · obtain ⟨x, L, m, wr, rfl, _⟩ := h; rfl
  · obtain ⟨x, L, m, wr, rfl, tab, va, w0, qn, qt⟩ := h
    obtain ⟨dx, d, ex, ed⟩ := id tab
    have oc := T.oc_Table
    have nl := T.na_Table_limit
    have nm := T.na_Table_marks
    refine ⟨_, PSs.nox (pss_cons (ps_if (pt_cmpR op_lt (pv 1) pe_int (nomark _))
    (pss_one ps_never)
    pss_nil)
    (pss_cons (ps_set (i := 2) sc_Table_sound.nd rfl (Or.inl rfl) (pe_call G_counts_met (hr.mono (by decide)) rfl T.g_counts_met T.F_counts_met.kp T.b_counts_met .nil pass0 (pa_cons (pe_fld (pv 0) rfl) (pa_cons (pe_fld (pv 0) rfl) pa_nil))))
    (pss_cons (ps_for PassesOwn.never rfl (pi_list (pe_meth0 (pv 0) T.oc_Table.cl T.me_Table_stops G_Table_stops (hr.mono (by decide)) T.b_Table_stops .nil pass0)) (pg_tup (n := 3) rfl (pgs_cons (pg_name (i := 3) sc_Table_sound.nd rfl (Or.inl rfl)) (pgs_cons (pg_name (i := 4) sc_Table_sound.nd rfl (Or.inl rfl)) (pgs_cons (pg_name (i := 5) sc_Table_sound.nd rfl (Or.inl rfl)) pgs_nil))))
    (pss_cons (ps_set (i := 6) sc_Table_sound.nd rfl (Or.inl rfl) (pe_call G_refuted (hr.mono (by decide)) rfl T.g_refuted T.F_refuted.kp T.b_refuted .nil pass0 (pa_cons (pv 3) (pa_cons (pv 4) (pa_cons (pv 5) (pa_cons (pv 1) pa_nil))))))
    (pss_one (ps_if (pt_cmpR op_notNc (pv 6) pe_non (nomark _))
    (pss_one (ps_ret (pe_tup (pa_cons (pe_call G_tries_to (hr.mono (by decide)) rfl T.g_tries_to T.F_tries_to.kp T.b_tries_to .nil pass0 (pa_cons (pv 2) (pa_cons (pe_fld (pv 0) rfl) (pa_cons (pe_tup (pa_cons (pv 3) (pa_cons (pv 4) pa_nil))) pa_nil)))) (pa_cons (pv 6) pa_nil)))))
    pss_nil))))
    (pss_one (ps_ret pe_non))))), ?_⟩
    walk_at "start"
    walk_at "sts"
    refine ⟨d, L, m, rfl, va.l2, ed, fun p cs H1 k1 np hp pm _ => ?_⟩
    have ex1 := k1 _ _ (by simp) ex
    have mem : ∀ c, c ∈ cs ↔ ∃ j, j ≤ L ∧ Tab.Mt (hasA m) j c := fun c => by rw [pm.mem_iff, Tab.mem_metC]
    walk_at "sts"
    refine ⟨x, L, m, rfl, tab.keep0 k1, va, fun q as ps H2 k2 nq eq ha hps _ _ => ?_⟩
    have k12 := k1.trans k2
    walk_at "sts"
    refine forL_go (fun i σ' H' => ∃ y3 y4 y5 y6 : Option V, σ' = [some (.ref x), some (.int wr), some (.ref p), y3, y4, y5, y6] ∧ Keep [] H2 H' ∧ ∀ z ∈ ps.take i, truthW z.1 z.2 wr = none) (sqL_of eq) ⟨_, _, _, _, by first | exact rfl | trivial, Keep.refl _ _, by simp⟩ (fun i σ' H' _ h => by obtain ⟨_, _, _, _, _, k, _⟩ := h; exact sqL_of (k _ _ (by simp) eq)) ?_ ?_
    · rintro i v σ' H3 hv ⟨y3, y4, y5, y6, rfl, k3, hz⟩
      obtain ⟨b, hb, rfl⟩ := getRef hv
      obtain ⟨z, hzi, eb⟩ := ha.get hb
      have mz := (hps z).mp (List.mem_of_getElem? hzi)
      have eb3 := k3 _ _ (by simp) eb
      have k13 := k12.trans k3
      have ex3 := k13 _ _ (by simp) ex
      refine r_gTup3 (x := .int z.1.1) (y := .int z.1.2) (z := .str z.2) (sqT_of eb3) ?_
      simp only [List.set_cons_zero, List.set_cons_succ]
      walk_at "sts"
      refine ⟨z.1.1, z.1.2, wr, z.2, rfl, ?_⟩
      cases tw : truthW (z.1.1, z.1.2) z.2 wr with
      | none =>
        unfold oS
        walk_at "sts"
        refine ⟨_, _, _, _, by first | exact rfl | trivial, k3, fun y hy => ?_⟩
        rw [take_snoc hzi] at hy
        rcases List.mem_append.mp hy with hy | hy
        · exact hz y hy
        · rw [List.mem_singleton.mp hy]; exact tw
      | some t =>
        obtain ⟨⟨j, hj, mt⟩, gt⟩ := mz
        unfold oS
        walk_at "sts"
        intro u hu
        have k4 : Keep [] H3 (upd H3 u (.tup [.int z.1.1, .int z.1.2])) := Keep.new hu
        have eu : upd H3 u (.tup [.int z.1.1, .int z.1.2]) u = some (cHO z.1) := upd_same
        generalize upd H3 u (.tup [.int z.1.1, .int z.1.2]) = H4 at k4 eu ⊢
        have k14 := k13.trans k4
        walk_at "sts"
        refine ⟨p, d, u, cs, L, j, m, z.1, rfl, hp.keep0 (k2.trans (k3.trans k4)), k14 _ _ (by simp) ed, eu, mem, hj, va.l2, mt, fun s H5 rn cn k5 => ?_⟩
        walk_at "sts"
        intro r hr5
        have k15 := k14.trans k5
        exact qt r z.1 z.2 t s j _ (k15.trans (Keep.new hr5)) (k15.free (by simp) hr5) gt tw rn cn hj upd_same
    · rintro σ' H3 ⟨y3, y4, y5, y6, rfl, k3, hz⟩
      rw [List.length_map, ha.len, List.take_length] at hz
      walk_at "sts"
      exact qn H3 (k12.trans k3) fun c wd hj hg => hz (c, wd) ((hps (c, wd)).mpr ⟨hj, hg⟩)
end
/-! ### the box of draws -/
def BoxAt (a : Addr) (H : Hp) : Prop := ∃ x b c : Int, H a = some (.lst [.int x, .int b, .int c]) ∧ 0 ≤ x
def spDr : Sp := fun vs H Q _ => ∃ (a : Addr) (n : Int), vs = [.ref a, .int n] ∧ BoxAt a H ∧ 0 < n ∧ n < 2 ^ 200 ∧ ∀ (r : Int) (H' : Hp), 0 ≤ r → r < n → Keep [a] H H' → BoxAt a H' → Q (.int r) H'
theorem r_dr {Q : VK} {E : XK} {H : Hp} {a : Addr} {n : Int} (hp : BoxAt a H) (h0 : 0 < n) (h1 : n < 2 ^ 200) (k : ∀ (r : Int) (H' : Hp), 0 ≤ r → r < n → Keep [a] H H' → BoxAt a H' → Q (.int r) H') : spDr [.ref a, .int n] H Q E := ⟨a, n, rfl, hp, h0, h1, k⟩
def spBox (K : PySem.W.Frag) : Sp := fun vs H Q _ => ∃ (p : Addr) (ns : List Int) (pl : Nat), vs = [.ref p, .int pl] ∧ SqL K H p (ns.map V.int) ∧ ns.length ≤ 63 ∧ pl ≤ 1 ∧ ∀ a H', Keep [] H H' → H a = none → BoxAt a H' → Q (.ref a) H'
def spIsInt : Sp := fun vs H Q _ => ∃ i : Int, vs = [.int i] ∧ Q (.bl true) H
def spLimit : Sp := fun vs H Q _ => ∃ a : Addr, vs = [.ref a] ∧ BoxAt a H ∧ ∀ (L : Nat) H', 1 ≤ L → L ≤ 12 → Keep [a] H H' → BoxAt a H' → Q (.int L) H'
def IsW (w : Str) : Prop := w = wR ∨ w = wM ∨ w = wU
def spWord : Sp := fun vs H Q _ => ∃ a : Addr, vs = [.ref a] ∧ BoxAt a H ∧ ∀ w H', IsW w → Keep [a] H H' → BoxAt a H' → Q (.str w) H'
theorem BoxAt.lst {a : Addr} {H : Hp} (h : BoxAt a H) : ∀ m ∈ [a], ∃ xs, H m = some (.lst xs) := fun m hm => by
  obtain ⟨x, b, c, e, _⟩ := h; rw [List.mem_singleton.mp hm]; exact ⟨_, e⟩
theorem BoxAt.ne {a p : Addr} {H : Hp} (h : BoxAt a H) (n : H p = none) : p ≠ a := by
  rintro rfl; obtain ⟨x, b, c, e, _⟩ := h; rw [e] at n; cases n
theorem BoxAt.ned {a p : Addr} {H : Hp} {kvs : Dt.Tb} (h : BoxAt a H) (n : H p = some (.dT kvs)) : p ≠ a := by
  rintro rfl; obtain ⟨x, b, c, e, _⟩ := h; rw [e] at n; cases n
theorem BoxAt.keep0 {a : Addr} {H H' : Hp} (h : BoxAt a H) (k : Keep [] H H') : BoxAt a H' := by
  obtain ⟨x, b, c, e, g⟩ := h; exact ⟨x, b, c, k _ _ (by simp) e, g⟩
theorem BoxAt.put {a p : Addr} {o : HO} {H : Hp} (h : BoxAt a H) (n : p ≠ a) : BoxAt a (upd H p o) := by
  obtain ⟨x, b, c, e, g⟩ := h; exact ⟨x, b, c, by rw [upd_ne n.symm]; exact e, g⟩
theorem BoxAt.new {a p : Addr} {o : HO} {H : Hp} (h : BoxAt a H) (n : H p = none) : BoxAt a (upd H p o) := h.put (h.ne n)
section
variable {P : Program} {w : World} {K : PySem.W.Frag} {mg : Str → Option Value} {base : Heap}
theorem ok_take (T : Tx K mg) : FnOk P w K mg base CX0 1 T.f_w_take T.fd_w_take ["_law_box_here", "_law_size"] spDr := by
  refine T.F_w_take.ok sc_w_take (fun vs H Q E h => ?_) (fun cdv A outer s H vs Q E hr h => ?_)
  · obtain ⟨a, n, rfl, _⟩ := h; rfl
  · obtain ⟨a, n, rfl, ⟨x, b, c, ea, hx⟩, h0, h1, qq⟩ := h
    refine ⟨_, (pss_cons (ps_if (pt_cmpR op_gt (pe_ix ix_list (pv 0) pe_int (fun _ _ => rfl)) pe_int (nomark _))
    (pss_cons (ps_set (i := 2) sc_w_take.nd rfl (Or.inl rfl) (pe_op op_mod (pe_callTy call_int1 (by rfl) T.m_int (by decide +kernel) (pa_cons (pe_ix ix_list (pv 0) pe_int (fun _ _ => rfl)) pa_nil)) (pv 1)))
    (pss_cons (ps_asg (pe_op op_fdivWN (pe_callTy call_int1 (by rfl) T.m_int (by decide +kernel) (pa_cons (pe_ix ix_list (pv 0) pe_int (fun _ _ => rfl)) pa_nil)) (pv 1)) (pg_sub (pv 0) pe_int set_list))
    (pss_one (ps_ret (pv 2)))))
    pss_nil)
    (pss_cons (ps_asg (pe_op op_add (pe_ix ix_list (pv 0) pe_int (fun _ _ => rfl)) pe_int) (pg_sub (pv 0) pe_int set_list))
    (pss_cons (ps_set (i := 3) sc_w_take.nd rfl (Or.inl rfl) (pe_op op_mod (pe_callTy call_int1 (by rfl) T.m_int (by decide +kernel) (pa_cons (pe_op op_add (pe_op op_mul (pe_callTy call_int1 (by rfl) T.m_int (by decide +kernel) (pa_cons (pe_ix ix_list (pv 0) pe_int (fun _ _ => rfl)) pa_nil)) pe_int) (pe_op op_mul (pe_callTy call_int1 (by rfl) T.m_int (by decide +kernel) (pa_cons (pe_ix ix_list (pv 0) pe_int (fun _ _ => rfl)) pa_nil)) pe_int)) pa_nil)) pe_int))
    (pss_cons (ps_set (i := 4) sc_w_take.nd rfl (Or.inl rfl) (pe_op op_mod (pe_callTy call_int1 (by rfl) T.m_int (by decide +kernel) (pa_cons (pe_op op_mulG (pv 3) (pe_op op_add (pe_op op_add (pe_op op_fdiv (pv 3) pe_int) (pe_callTy call_int1 (by rfl) T.m_int (by decide +kernel) (pa_cons (pe_ix ix_list (pv 0) pe_int (fun _ _ => rfl)) pa_nil))) pe_int)) pa_nil)) pe_int))
    (pss_one (ps_ret (pe_op op_mod (pe_callTy call_int1 (by rfl) T.m_int (by decide +kernel) (pa_cons (pe_op op_fdiv (pv 4) pe_int) pa_nil)) (pv 1)))))))), ?_⟩
    walk_at "start"
    walk_at "sts"
    refine r_ite (fun c1 => ?_) (fun c1 => ?_)
    · walk_at "sts"
      refine r_I ⟨by omega, log_ok 200 (by omega)⟩ ?_
      walk_at "sts"
      exact qq _ _ (Int.emod_nonneg _ (by omega)) (Int.emod_lt_of_pos _ h0) (Keep.at (by simp)) ⟨_, _, _, upd_same, Int.fdiv_nonneg (by omega) (by omega)⟩
    · walk_at "sts"
      exact qq _ _ (Int.emod_nonneg _ (by omega)) (Int.emod_lt_of_pos _ h0) (Keep.at (by simp)) ⟨x, b, c + 1, upd_same, hx⟩
theorem ok_isInt (T : Tx K mg) : FnOk P w K mg base CX0 1 T.f_w_is_integer T.fd_w_is_integer ["_law_value"] spIsInt := by
  refine T.F_w_is_integer.ok sc_w_is_integer (fun vs H Q E h => ?_) (fun cdv A outer s H vs Q E hr h => ?_)
  · obtain ⟨i, rfl, _⟩ := h; rfl
  · obtain ⟨i, rfl, qq⟩ := h
    refine ⟨_, (pss_one (ps_ret (pe_and (pe_callB call_isi (by rfl) T.m_isinstance (by decide +kernel) (pa_cons (pv 0) (pa_cons (pe_bltn (v := .ty "int") (by rfl) T.m_int (by decide +kernel) rfl) pa_nil))) (pe_one (pe_not (pe_callB call_isi (by rfl) T.m_isinstance (by decide +kernel) (pa_cons (pv 0) (pa_cons (pe_bltn (v := .ty "bool") (by rfl) T.m_bool (by decide +kernel) rfl) pa_nil)))))))), ?_⟩
    walk_at "start"
    walk_at "sts"
    exact qq
theorem ok_box (T : Tx K mg) : FnOk P w K mg base CX0 1 T.f_w_box T.fd_w_box ["_law_script", "_law_place"] (spBox K) := by
  refine T.F_w_box.ok sc_w_box (fun vs H Q E h => ?_) (fun cdv A outer s H vs Q E hr h => ?_)
  · obtain ⟨p, ns, pl, rfl, _⟩ := h; rfl
  · obtain ⟨p, ns, pl, rfl, hp, hn, hpl, qq⟩ := h
    have fin : ∀ (x b c : Int) (a : Addr), 0 ≤ x → H a = none → Q (.ref a) (upd H a (.lst [.int x, .int b, .int c])) := fun x b c a hx ha => qq a _ (Keep.new ha) ha ⟨x, b, c, upd_same, hx⟩
    refine ⟨_, (pss_cons (ps_if (PW.pt (pw_and (pt_cmpR op_lt (pv 1) (pe_callB call_len_seq (by rfl) T.m_len PySem.boot_len (pa_cons (pv 0) pa_nil)) (nomark _)) (pw_and1 (pt_cmpR op_ge (pe_ix ix_list (pv 0) (pv 1) (fun _ _ => rfl)) (pe_op op_pow pe_int pe_int) (nomark _)))))
    (pss_one (ps_ret (pe_lst (pa_cons (pe_ix ix_list (pv 0) (pv 1) (fun _ _ => rfl)) (pa_cons (pe_ix ix_list (pv 0) (pv 1) (fun _ _ => rfl)) (pa_cons (pe_op op_mul pe_int (pv 1)) pa_nil))))))
    pss_nil)
    (pss_cons (ps_if (pt_cmpR op_lt (pv 1) (pe_callB call_len_seq (by rfl) T.m_len PySem.boot_len (pa_cons (pv 0) pa_nil)) (nomark _))
    (pss_one (ps_ret (pe_lst (pa_cons pe_int (pa_cons (pe_ix ix_list (pv 0) (pv 1) (fun _ _ => rfl)) (pa_cons (pe_op op_mul pe_int (pv 1)) pa_nil))))))
    pss_nil)
    (pss_one (ps_ret (pe_lst (pa_cons pe_int (pa_cons (pe_callB (cr_sum rfl) (by rfl) T.m_sum (by decide +kernel) (pa_cons (pv 0) pa_nil)) (pa_cons (pe_op op_mul pe_int (pv 1)) pa_nil)))))))), ?_⟩
    walk_at "start"
    walk_at "sts"
    simp only [List.length_map]
    refine r_ite (fun c1 => ?_) (fun c1 => ?_)
    · walk_at "sts"
      refine r_ite (fun c2 => ?_) (fun c2 => ?_)
      · walk_at "sts"
        intro a ha
        exact fin _ _ _ a (by omega) ha
      · walk_at "sts"
        intro a ha
        exact fin _ _ _ a (by omega) ha
    · walk_at "sts"
      refine r_sum hp ?_
      walk_at "sts"
      intro a ha
      exact fin _ _ _ a (by omega) ha
theorem ok_limit (T : Tx K mg) (G_w_take : FnOk P w K mg base CX0 1 T.f_w_take T.fd_w_take ["_law_box_here", "_law_size"] spDr) : FnOk P w K mg base CX0 2 T.f_w_limit T.fd_w_limit ["_law_box_here"] spLimit := by
  refine T.F_w_limit.ok sc_w_limit (fun vs H Q E h => ?_) (fun cdv A outer s H vs Q E hr h => ?_)
  · obtain ⟨a, rfl, _⟩ := h; rfl
  · obtain ⟨a, rfl, hb, qq⟩ := h
    refine ⟨_, (pss_cons (ps_if (pt_cmpR op_eq (pe_call G_w_take (hr.mono (by decide)) rfl T.g_w_take T.F_w_take.kp T.b_w_take .nil pass0 (pa_cons (pv 0) (pa_cons pe_int pa_nil))) pe_int (nomark _))
    (pss_one (ps_ret (pe_op op_add pe_int (pe_call G_w_take (hr.mono (by decide)) rfl T.g_w_take T.F_w_take.kp T.b_w_take .nil pass0 (pa_cons (pv 0) (pa_cons pe_int pa_nil))))))
    pss_nil)
    (pss_one (ps_ret (pe_ix ix_list (pe_lst (pa_cons pe_int (pa_cons pe_int (pa_cons pe_int (pa_cons pe_int (pa_cons pe_int (pa_cons pe_int (pa_cons pe_int (pa_cons pe_int (pa_cons pe_int pa_nil)))))))))) (pe_call G_w_take (hr.mono (by decide)) rfl T.g_w_take T.F_w_take.kp T.b_w_take .nil pass0 (pa_cons (pv 0) (pa_cons pe_int pa_nil))) (fun _ _ => rfl))))), ?_⟩
    walk_at "start"
    walk_at "sts"
    refine r_dr hb (by omega) (by omega) fun n H1 a1 b1 k1 p1 => ?_
    walk_at "sts"
    refine r_ite (fun c1 => ?_) (fun c1 => ?_)
    · walk_at "sts"
      refine r_dr p1 (by omega) (by omega) fun n2 H2 a2 b2 k2 p2 => ?_
      walk_at "sts"
      have := qq (6 + n2.toNat) H2 (by omega) (by omega) (k1.trans k2) p2
      rwa [show ((6 + n2.toNat : Nat) : Int) = 6 + n2 by omega] at this
    · walk_at "sts"
      intro l hl
      have hb2 := p1.new (o := .lst [.int 1, .int 2, .int 3, .int 2, .int 4, .int 3, .int 5, .int 4, .int 5]) hl
      have el : upd H1 l (.lst [.int 1, .int 2, .int 3, .int 2, .int 4, .int 3, .int 5, .int 4, .int 5]) l = some (.lst (([1, 2, 3, 2, 4, 3, 5, 4, 5] : List Int).map V.int)) := upd_same
      have k2 : Keep [] H1 (upd H1 l (.lst [.int 1, .int 2, .int 3, .int 2, .int 4, .int 3, .int 5, .int 4, .int 5])) := Keep.new hl
      have nla := p1.ne hl
      generalize upd H1 l (.lst [.int 1, .int 2, .int 3, .int 2, .int 4, .int 3, .int 5, .int 4, .int 5]) = H2 at hb2 el k2 ⊢
      walk_at "sts"
      refine r_dr hb2 (by omega) (by omega) fun n2 H3 a2 b2 k3 p3 => ?_
      have el3 := k3 _ _ (by simpa using nla) el
      obtain ⟨j, rfl⟩ : ∃ j : Nat, n2 = j := ⟨n2.toNat, by omega⟩
      refine r_ixL (sqL_of el3) (atI_map (by omega) (by simp; omega)) ?_
      have hall : ∀ j : Nat, j < 9 → 1 ≤ ([1, 2, 3, 2, 4, 3, 5, 4, 5] : List Int).getD j 0 ∧ ([1, 2, 3, 2, 4, 3, 5, 4, 5] : List Int).getD j 0 ≤ 12 := by decide
      obtain ⟨g1, g2⟩ := hall j (by omega)
      obtain ⟨L, eL, h1, h2⟩ : ∃ L : Nat, ([1, 2, 3, 2, 4, 3, 5, 4, 5] : List Int).getD j 0 = (L : Int) ∧ 1 ≤ L ∧ L ≤ 12 := ⟨(([1, 2, 3, 2, 4, 3, 5, 4, 5] : List Int).getD j 0).toNat, by omega, by omega, by omega⟩
      have := qq L H3 h1 h2 (k1.trans ((k2.mono (by simp)).trans k3)) p3
      rw [← eL] at this
      walk_at "sts"
      exact this
theorem ok_word (T : Tx K mg) (G_w_take : FnOk P w K mg base CX0 1 T.f_w_take T.fd_w_take ["_law_box_here", "_law_size"] spDr) : FnOk P w K mg base CX0 2 T.f_w_word T.fd_w_word ["_law_box_here"] spWord := by
  refine T.F_w_word.ok sc_w_word (fun vs H Q E h => ?_) (fun cdv A outer s H vs Q E hr h => ?_)
  · obtain ⟨a, rfl, _⟩ := h; rfl
  · obtain ⟨a, rfl, hb, qq⟩ := h
    refine ⟨_, (pss_one (ps_ret (pe_ix ix_list (pe_lst (pa_cons pe_str (pa_cons pe_str (pa_cons pe_str pa_nil)))) (pe_call G_w_take (hr.mono (by decide)) rfl T.g_w_take T.F_w_take.kp T.b_w_take .nil pass0 (pa_cons (pv 0) (pa_cons pe_int pa_nil))) (fun _ _ => rfl)))), ?_⟩
    walk_at "start"
    walk_at "sts"
    intro l hl
    have hb2 := hb.new (o := .lst [.str wR, .str wM, .str wU]) hl
    have el : upd H l (.lst [.str wR, .str wM, .str wU]) l = some (.lst [.str wR, .str wM, .str wU]) := upd_same
    have k2 : Keep [] H (upd H l (.lst [.str wR, .str wM, .str wU])) := Keep.new hl
    have nla := hb.ne hl
    generalize upd H l (.lst [.str wR, .str wM, .str wU]) = H2 at hb2 el k2 ⊢
    walk_at "sts"
    refine r_dr hb2 (by omega) (by omega) fun n2 H3 a2 b2 k3 p3 => ?_
    have el3 := k3 _ _ (by simpa using nla) el
    have kk : Keep [a] H H3 := (k2.mono (by simp)).trans k3
    have hn : n2 = 0 ∨ n2 = 1 ∨ n2 = 2 := by omega
    rcases hn with rfl | rfl | rfl
    · walk_at "sts"
      exact qq _ H3 (.inl rfl) kk p3
    · walk_at "sts"
      exact qq _ H3 (.inr (.inl rfl)) kk p3
    · walk_at "sts"
      exact qq _ H3 (.inr (.inr rfl)) kk p3
end
/-! ### copies, entries, the last level -/
theorem Keep.dropNew {H H1 H2 : Hp} {D : Addr} (k1 : Keep [] H H1) (k2 : Keep [D] H1 H2) (n : H D = none) : Keep [] H H2 := fun b o _ e => k2 b o (by rw [List.mem_singleton]; rintro rfl; rw [n] at e; cases e) (k1 b o (by simp) e)
theorem dgetTL {α : Type} {f : α → V} {m : List (Ct × α)} {H : Hp} {p q : Addr} {o : Obj} {c : Ct} {x : α} (h : H p = some (.frz o (.dT (kvG f m)))) (hq : H q = some (cHO c)) (e : getA m c = some x) : DGet H p (.ref q) (some (f x)) :=
  .inr ⟨_, ck c, q, .inr ⟨o, h⟩, rfl, hq, by rw [val_kvG, e]; rfl⟩
theorem putA_take {α : Type} {m : List (Ct × α)} {i : Nat} {p : Ct × α} (nd : (m.map (·.1)).Nodup) (h : m[i]? = some p) : putA (m.take i) p.1 p.2 = m.take (i + 1) := by
  have fresh : p.1 ∉ (m.take i).map (·.1) := fun hp => by
    obtain ⟨q, hq, e⟩ := List.mem_map.mp hp
    obtain ⟨z, hz⟩ := List.getElem?_of_mem hq
    rw [List.getElem?_take] at hz
    split at hz
    · rename_i lt
      have h1 : (m.map (·.1))[z]? = some p.1 := by rw [List.getElem?_map, hz]; exact congrArg some e
      have h2 : (m.map (·.1))[i]? = some p.1 := by rw [List.getElem?_map, h]; rfl
      have := (List.getElem?_inj (List.getElem?_eq_some_iff.mp h1).1 nd).mp (h1.trans h2.symm)
      omega
    · cases hz
  unfold putA
  rw [if_neg (fun e => fresh (any_iff.mp e)), take_snoc h]
structure Pre (L : Nat) (m : Ends) : Prop where
  nd : (m.map (·.1)).Nodup
  key : ∀ p ∈ m, 0 ≤ p.1.1 ∧ 0 ≤ p.1.2 ∧ 1 ≤ p.1.1 + p.1.2 ∧ p.1.1 + p.1.2 ≤ (L : Int)
  word : ∀ p ∈ m, IsW p.2
theorem putA_mem {α : Type} {m : List (Ct × α)} {c : Ct} {x : α} {p : Ct × α} (h : p ∈ putA m c x) : p ∈ m ∨ p = (c, x) := by
  unfold putA at h
  split at h
  · obtain ⟨q, hq, e⟩ := List.mem_map.mp h
    split at e
    · rename_i g; right; rw [← e, ← g]
    · left; rw [← e]; exact hq
  · rcases List.mem_append.mp h with h | h
    · exact .inl h
    · exact .inr (List.mem_singleton.mp h)
theorem Pre.put {L : Nat} {m : Ends} {c : Ct} {wd : Str} (h : Pre L m) (hc : 0 ≤ c.1 ∧ 0 ≤ c.2 ∧ 1 ≤ c.1 + c.2 ∧ c.1 + c.2 ≤ (L : Int)) (hw : IsW wd) : Pre L (putA m c wd) :=
  ⟨putA_nodup h.nd, fun p hp => (putA_mem hp).elim (h.key p) fun e => by rw [e]; exact hc, fun p hp => (putA_mem hp).elim (h.word p) fun e => by rw [e]; exact hw⟩
def spCopy : Sp := fun vs H Q _ => ∃ (d : Addr) (m : Ends), vs = [.ref d] ∧ EndsAt H d m ∧ (m.map (·.1)).Nodup ∧ m.length ≤ 5000 ∧ ∀ D H', Keep [] H H' → H D = none → EndsAt H' D m → Q (.ref D) H'
def spEntries : Sp := fun vs H Q _ => ∃ (a : Addr) (L : Nat), vs = [.ref a, .int L] ∧ BoxAt a H ∧ 1 ≤ L ∧ L ≤ 12 ∧ ∀ D m H', Keep [a] H H' → BoxAt a H' → H D = none → EndsAt H' D m → Pre L m → m.length ≤ 90 → Q (.ref D) H'
def spLast : Sp := fun vs H Q _ => ∃ (L : Nat) (d : Addr) (m : Ends), vs = [.int L, .ref d] ∧ EndsAt H d m ∧ L ≤ 12 ∧ ∀ (q : Addr) (cs : List Ct) (H' : Hp), Keep [] H H' → H q = none → CtsAt H' q cs → (∀ c, c ∈ cs ↔ Tab.Mt (hasA m) L c ∧ hasA m c = false) → cs.length ≤ 4096 → Q (.ref q) H'
def inC (M : Ct → Bool) (d : Ct) (cs : List Ct) (x : Ct) : List Ct := if M d then cs else Tab.addC cs x
theorem inC_step {M : Ct → Bool} {cs : List Ct} {c : Ct} : ([(c.1 + 1, c.2), (c.1, c.2 + 1)] : List Ct).foldl (inC M c) cs = Tab.stepC M cs c := by
  unfold Tab.stepC
  simp only [List.foldl_cons, List.foldl_nil, inC]
  cases M c <;> rfl
theorem inC_len {M : Ct → Bool} {c : Ct} : ∀ {xs cs : List Ct}, (xs.foldl (inC M c) cs).length ≤ cs.length + xs.length
  | [], cs => by simp
  | x :: xs, cs => by
    rw [List.foldl_cons]
    have h1 := inC_len (M := M) (c := c) (xs := xs) (cs := inC M c cs x)
    have h2 : (inC M c cs x).length ≤ cs.length + 1 := by
      unfold inC Tab.addC
      split
      · omega
      · split <;> simp
    simp only [List.length_cons]; omega
section
variable {P : Program} {w : World} {K : PySem.W.Frag} {mg : Str → Option Value} {base : Heap}
theorem ok_copy (T : Tx K mg) : FnOk P w K mg base CX0 1 T.f_w_copy T.fd_w_copy ["_law_ends"] spCopy := by
  refine T.F_w_copy.ok sc_w_copy (fun vs H Q E h => ?_) (fun cdv A outer s H vs Q E hr h => ?_)
  · obtain ⟨d, m, rfl, _⟩ := h; rfl
  · obtain ⟨d, m, rfl, ed, nd, len, qq⟩ := h
    refine ⟨_, (pss_cons (ps_set (i := 1) sc_w_copy.nd rfl (Or.inl rfl) pe_dnewT)
    (pss_cons (ps_lock (ps_for PassesOwn.never rfl (pi_keys (pv 0)) (pg_name (i := 2) sc_w_copy.nd rfl (Or.inl rfl))
    (pss_one (ps_dput (hu_of hr) (pv 1) (pv 2) (pe_dget (hu_of hr) (pv 0) (pv 2) (fun _ _ => rfl)) rfl))))
    (pss_one (ps_ret (pv 1))))), ?_⟩
    walk_at "start"
    walk_at "sts"
    refine r_dnewT fun D hD => ?_
    have k1 : Keep [] H (upd H D (.dT [])) := Keep.new hD
    have eD : upd H D (.dT []) D = some (.dT (kvG V.str (m.take 0))) := by rw [upd_same]; simp [kvG]
    have ed1 := k1 _ _ (by simp) ed
    have nDd : D ≠ d := by rintro rfl; cases (hD.symm.trans ed)
    generalize upd H D (.dT []) = H1 at k1 eD ed1 ⊢
    walk_at "sts"
    refine forKT_go ed1 (fun od Q' hQ => r_var rfl hQ) (fun od i σ' H' => ∃ y : Option V, σ' = [some (.ref d), some (.ref D), y] ∧ H' D = some (.dT (kvG V.str (m.take i))) ∧ H' d = some (.frz od (.dT (kvG V.str m))) ∧ Keep [D] (upd H1 d (.frz od (.dT (kvG V.str m)))) H') (fun od => ⟨_, by first | exact rfl | trivial, by rw [upd_ne nDd]; exact eD, upd_same, Keep.refl _ _⟩) (fun od i σ' H' h => by obtain ⟨_, _, _, e, _⟩ := h; exact e) ?_ ?_
    · rintro od i k v q σ' H2 at1 tup ⟨y, rfl, eD2, ed2, k2⟩
      obtain ⟨p, hp, rfl, rfl⟩ := get_kvG at1
      have gp := getA_mem nd (List.mem_of_getElem? hp)
      walk_at "sts"
      refine ⟨d, _, rfl, dgetTL (f := V.str) ed2 tup gp, ?_⟩
      walk_at "sts"
      refine r_dputT eD2 tup (lt_size (by rw [len_kvG, List.length_take]; omega)) ?_
      rw [put_kvG, putA_take nd hp]
      exact ⟨_, by first | exact rfl | trivial, upd_same, by rw [upd_ne (Ne.symm nDd)]; exact ed2, k2.trans (Keep.at (by simp))⟩
    · rintro od σ' H2 ⟨y, rfl, eD2, ed2, k2⟩
      rw [len_kvG, List.take_length] at eD2
      have k3 : Keep [D] H1 (upd H2 d (.dT (kvG V.str m))) := Keep.unlock ed1 k2
      have eD3 : upd H2 d (.dT (kvG V.str m)) D = some (.dT (kvG V.str m)) := by rw [upd_ne nDd]; exact eD2
      walk_at "sts"
      exact qq D _ (k1.dropNew k3 hD) hD eD3
theorem ok_entries (T : Tx K mg) (G_w_take : FnOk P w K mg base CX0 1 T.f_w_take T.fd_w_take ["_law_box_here", "_law_size"] spDr) (G_w_word : FnOk P w K mg base CX0 2 T.f_w_word T.fd_w_word ["_law_box_here"] spWord) : FnOk P w K mg base CX0 3 T.f_w_entries T.fd_w_entries ["_law_box_here", "_law_limit_here"] spEntries := by
  refine T.F_w_entries.ok sc_w_entries (fun vs H Q E h => ?_) (fun cdv A outer s H vs Q E hr h => ?_)
  · obtain ⟨a, L, rfl, _⟩ := h; rfl
  · obtain ⟨a, L, rfl, hb, l1, l2, qq⟩ := h
    have bnd : ((L : Int) * (L + 3)) / 2 ≤ 90 ∧ 0 ≤ ((L : Int) * (L + 3)) / 2 := by
      have hall : ∀ n : Nat, n ≤ 12 → ((n : Int) * (n + 3)) / 2 ≤ 90 ∧ 0 ≤ ((n : Int) * (n + 3)) / 2 := by decide
      exact hall L l2
    refine ⟨_, (pss_cons (ps_set (i := 2) sc_w_entries.nd rfl (Or.inl rfl) (pe_op op_fdiv (pe_op op_mulG (pv 1) (pe_op op_add (pv 1) pe_int)) pe_int))
    (pss_cons (ps_set (i := 3) sc_w_entries.nd rfl (Or.inl rfl) (pe_call G_w_take (hr.mono (by decide)) rfl T.g_w_take T.F_w_take.kp T.b_w_take .nil pass0 (pa_cons (pv 0) (pa_cons (pe_op op_add pe_int (pe_callB (call_min2 rfl) (by rfl) T.m_min (by decide +kernel) (pa_cons (pv 2) (pa_cons pe_int pa_nil)))) pa_nil))))
    (Evl.pss_cut (ps_if (pt_cmpR op_eq (pe_call G_w_take (hr.mono (by decide)) rfl T.g_w_take T.F_w_take.kp T.b_w_take .nil pass0 (pa_cons (pv 0) (pa_cons pe_int pa_nil))) pe_int (nomark _))
    (pss_one (ps_set (i := 3) sc_w_entries.nd rfl (Or.inl rfl) (pe_call G_w_take (hr.mono (by decide)) rfl T.g_w_take T.F_w_take.kp T.b_w_take .nil pass0 (pa_cons (pv 0) (pa_cons (pe_op op_add pe_int (pv 2)) pa_nil)))))
    pss_nil)
    (pss_cons (ps_set (i := 4) sc_w_entries.nd rfl (Or.inl rfl) pe_dnewT)
    (pss_cons (ps_for PassesOwn.never rfl (pi_range1 rfl T.m_range (pa_cons (pv 3) pa_nil)) (pg_name (i := 5) sc_w_entries.nd rfl (Or.inl rfl))
    (pss_cons (ps_set (i := 6) sc_w_entries.nd rfl (Or.inl rfl) (pe_call G_w_word (hr.mono (by decide)) rfl T.g_w_word T.F_w_word.kp T.b_w_word .nil pass0 (pa_cons (pv 0) pa_nil)))
    (pss_cons (ps_set (i := 7) sc_w_entries.nd rfl (Or.inl rfl) (pe_op op_add pe_int (pe_call G_w_take (hr.mono (by decide)) rfl T.g_w_take T.F_w_take.kp T.b_w_take .nil pass0 (pa_cons (pv 0) (pa_cons (pv 1) pa_nil)))))
    (pss_cons (ps_set (i := 8) sc_w_entries.nd rfl (Or.inl rfl) (pe_call G_w_take (hr.mono (by decide)) rfl T.g_w_take T.F_w_take.kp T.b_w_take .nil pass0 (pa_cons (pv 0) (pa_cons (pe_op op_add (pv 7) pe_int) pa_nil))))
    (pss_one (ps_dput (hu_of hr) (pv 4) (pe_tup (pa_cons (pv 8) (pa_cons (pe_op op_sub (pv 7) (pv 8)) pa_nil))) (pv 6) rfl))))))
    (pss_one (ps_ret (pv 4)))))))), ?_⟩
    walk_at "start"
    walk_at "sts"
    generalize ((L : Int) * (L + 3)) / 2 = B at bnd ⊢
    have sz : 1 ≤ 1 + (if 5 < B then 5 else B) ∧ 1 + (if 5 < B then 5 else B) ≤ 6 := by split <;> omega
    refine r_dr hb (by omega) (by omega) fun n H1 a1 b1 k1 p1 => ?_
    walk_at "sts"
    refine r_cut (fun σ' H' => ∃ n : Int, σ' = [some (.ref a), some (.int L), some (.int B), some (.int n), none, none, none, none, none] ∧ 0 ≤ n ∧ n ≤ 90 ∧ Keep [a] H H' ∧ BoxAt a H') ?_ ?_
    · walk_at "sts"
      refine r_dr p1 (by omega) (by omega) fun n2 H2 a2 b2 k2 p2 => ?_
      walk_at "sts"
      refine r_ite (fun c1 => ?_) (fun c1 => ?_)
      · walk_at "sts"
        refine r_dr p2 (by omega) (by omega) fun n3 H3 a3 b3 k3 p3 => ?_
        walk_at "sts"
        exact ⟨_, by first | exact rfl | trivial, a3, by omega, k1.trans (k2.trans k3), p3⟩
      · walk_at "sts"
        exact ⟨_, by first | exact rfl | trivial, a1, by omega, k1.trans k2, p2⟩
    rintro σ' H2 ⟨n, rfl, n0, n90, k2, p2⟩
    walk_at "sts"
    refine r_dnewT fun D hD => ?_
    have nDa := p2.ne hD
    have hD0 : H D = none := k2.free (by simpa using nDa) hD
    have k3 : Keep [a] H (upd H2 D (.dT [])) := k2.trans (Keep.new hD)
    have eD : EndsAt (upd H2 D (.dT [])) D [] := upd_same
    have p3 := p2.new (o := .dT []) hD
    generalize upd H2 D (.dT []) = H3 at k3 eD p3 ⊢
    walk_at "sts"
    refine forR1_go (fun i σ' H' => ∃ (m : Ends) (y5 y6 y7 y8 : Option V), σ' = [some (.ref a), some (.int L), some (.int B), some (.int n), some (.ref D), y5, y6, y7, y8] ∧ EndsAt H' D m ∧ Pre L m ∧ m.length ≤ i ∧ Keep [a] H H' ∧ BoxAt a H') (by omega) ⟨[], _, _, _, _, by first | exact rfl | trivial, eD, ⟨by simp, by simp, by simp⟩, by simp, k3, p3⟩ ?_ ?_
    · rintro i σ' H4 hi ⟨m, y5, y6, y7, y8, rfl, e4, pm, lm, k4, p4⟩
      walk_at "sts"
      refine ⟨a, rfl, p4, fun wd H5 hw k5 p5 => ?_⟩
      have e5 := k5 _ _ (by simpa using nDa) e4
      walk_at "sts"
      refine r_dr p5 (by omega) (by omega) fun t H6 a6 b6 k6 p6 => ?_
      have e6 := k6 _ _ (by simpa using nDa) e5
      walk_at "sts"
      refine r_dr p6 (by omega) (by omega) fun r H7 a7 b7 k7 p7 => ?_
      have e7 := k7 _ _ (by simpa using nDa) e6
      walk_at "sts"
      intro u hu
      have k8 : Keep [] H7 (upd H7 u (.tup [.int r, .int (1 + t - r)])) := Keep.new hu
      have eu : upd H7 u (.tup [.int r, .int (1 + t - r)]) u = some (cHO (r, 1 + t - r)) := upd_same
      have e8 := k8 _ _ (by simp) e7
      have p8 := p7.keep0 k8
      generalize upd H7 u (.tup [.int r, .int (1 + t - r)]) = H8 at k8 eu e8 p8 ⊢
      refine r_dputT e8 eu (lt_size (by rw [len_kvG]; omega)) ?_
      rw [put_kvG]
      have k48 : Keep [a] H H8 := k4.trans (k5.trans (k6.trans (k7.trans (k8.mono (by simp)))))
      refine ⟨_, _, _, _, _, by first | exact rfl | trivial, upd_same, pm.put ⟨by show 0 ≤ r; omega, by show 0 ≤ 1 + t - r; omega, by show 1 ≤ r + (1 + t - r); omega, by show r + (1 + t - r) ≤ _; omega⟩ hw, Nat.le_trans putA_len (by omega), k48.mut hD0, p8.put nDa⟩
    · rintro σ' H4 ⟨m, y5, y6, y7, y8, rfl, e4, pm, lm, k4, p4⟩
      walk_at "sts"
      exact qq D m H4 k4 p4 hD0 e4 pm (by omega)
theorem ok_last (T : Tx K mg) : FnOk P w K mg base CX0 1 T.f_w_last T.fd_w_last ["_law_limit_here", "_law_ends"] spLast := by
  refine T.F_w_last.ok sc_w_last (fun vs H Q E h => ?_) (fun cdv A outer s H vs Q E hr h => ?_)
  · obtain ⟨L, d, m, rfl, _⟩ := h; rfl
  · obtain ⟨L, d, m, rfl, ed, hL, qq⟩ := h
    refine ⟨_, (pss_cons (ps_set (i := 2) sc_w_last.nd rfl (Or.inl rfl) (pe_lst (pa_cons (pe_tup (pa_cons pe_int (pa_cons pe_int pa_nil))) pa_nil)))
    (pss_cons (ps_for PassesOwn.never rfl (pi_range1 rfl T.m_range (pa_cons (pv 0) pa_nil)) (pg_name (i := 3) sc_w_last.nd rfl (Or.inl rfl))
    (pss_cons (ps_set (i := 4) sc_w_last.nd rfl (Or.inl rfl) (pe_lst pa_nil))
    (pss_cons (ps_for PassesOwn.never rfl (pi_list (pv 2)) (pg_name (i := 5) sc_w_last.nd rfl (Or.inl rfl))
    (pss_one (ps_for PassesOwn.never rfl (pi_list (pe_lst (pa_cons (pe_tup (pa_cons (pe_op op_add (pe_ix ix_tup (pv 5) pe_int (fun _ _ => rfl)) pe_int) (pa_cons (pe_ix ix_tup (pv 5) pe_int (fun _ _ => rfl)) pa_nil))) (pa_cons (pe_tup (pa_cons (pe_ix ix_tup (pv 5) pe_int (fun _ _ => rfl)) (pa_cons (pe_op op_add (pe_ix ix_tup (pv 5) pe_int (fun _ _ => rfl)) pe_int) pa_nil))) pa_nil)))) (pg_name (i := 6) sc_w_last.nd rfl (Or.inl rfl))
    (pss_one (ps_if (PW.pt (pw_and (pt_cmp (pc_dnotin (hu_of hr) (pv 5) (pv 1))) (pw_and1 (pt_cmpR (op_notInD (Dt.inD_of hr)) (pv 6) (pv 4) (by rfl)))))
    (pss_one (ps_expr (pe_bm PySem.F.plainAttrs_list PySem.F.slot_list_append PySem.F.type_list_append mt_append (pv 4) (pa_cons (pv 6) pa_nil))))
    pss_nil)))))
    (pss_one (ps_set (i := 2) sc_w_last.nd rfl (Or.inl rfl) (pe_callTy call_list_of (by rfl) T.m_list (by decide +kernel) (pa_cons (pv 4) pa_nil)))))))
    (pss_one (ps_ret (pe_lc (own := [("_law_count", 5)]) (g := gName 5)  rfl sc_w_last.nd (pi_list (pv 2)) (blkOk_by (own := [("_law_count", 5)]) (N := ["_law_limit_here", "_law_ends", "_law_level", "_law_size", "_law_after", "_law_count", "_law_longer_here"]) (sc := defScope s_w_last) (by decide +kernel)) (fun _ _ _ _ _ => pg_name (i := 5) sc_w_last.nd rfl (Or.inl rfl)) (fun _ _ _ _ _ => pts_one (pt_cmp (pc_dnotin (hu_of hr) (pv 5) (pv 1)))) (fun _ _ _ _ _ => (pv 5))))))), ?_⟩
    walk_at "start"
    walk_at "sts"
    intro t0 ht0
    have k1 : Keep [] H (upd H t0 (.tup [.int 0, .int 0])) := Keep.new ht0
    have et0 : upd H t0 (.tup [.int 0, .int 0]) t0 = some (cHO (0, 0)) := upd_same
    generalize upd H t0 (.tup [.int 0, .int 0]) = H1 at k1 et0 ⊢
    walk_at "sts"
    intro l hl
    have k2 : Keep [] H1 (upd H1 l (.lst [.ref t0])) := Keep.new hl
    have el : CtsAt (upd H1 l (.lst [.ref t0])) l [(0, 0)] := ⟨[t0], upd_same, k2 _ _ (by simp) et0, trivial⟩
    have k12 := k1.trans k2
    generalize upd H1 l (.lst [.ref t0]) = H2 at k2 el k12 ⊢
    walk_at "sts"
    refine forR1_go (fun i σ' H' => ∃ (l' : Addr) (y3 y4 y5 y6 : Option V), σ' = [some (.int L), some (.ref d), some (.ref l'), y3, y4, y5, y6] ∧ CtsAt H' l' (Tab.levC (hasA m) i) ∧ Keep [] H H') (by omega) ⟨l, _, _, _, _, by first | exact rfl | trivial, el, k12⟩ ?_ ?_
    · rintro i σ' H3 hi ⟨l', y3, y4, y5, y6, rfl, ⟨na, el', hn'⟩, k3⟩
      walk_at "sts"
      intro la hla
      have k4 : Keep [] H3 (upd H3 la (.lst [])) := Keep.new hla
      have hla0 : H la = none := k3.free (by simp) hla
      have ela : upd H3 la (.lst []) la = some (.lst (([] : List Addr).map V.ref)) := upd_same
      generalize upd H3 la (.lst []) = H4 at k4 ela ⊢
      have el4 := k4 _ _ (by simp) el'
      have nl := hn'.len
      have lv := levC_len (M := hasA m) (k := i)
      have lv2 : 2 ^ i ≤ 2 ^ 12 := Nat.pow_le_pow_right (by decide) (by omega)
      walk_at "sts"
      refine forL_go (fun j σ' H' => ∃ (bs : List Addr) (cs : List Ct) (z5 z6 : Option V), σ' = [some (.int L), some (.ref d), some (.ref l'), some (.int i), some (.ref la), z5, z6] ∧ H' la = some (.lst (bs.map V.ref)) ∧ AllAt cHO H' bs cs ∧ cs = ((Tab.levC (hasA m) i).take j).foldl (Tab.stepC (hasA m)) [] ∧ Keep [] H3 H') (sqL_of el4) ⟨[], [], _, _, by first | exact rfl | trivial, ela, trivial, by simp, k4⟩ (fun j σ' H' _ h => by obtain ⟨_, _, _, _, _, _, _, _, k⟩ := h; exact sqL_of (k _ _ (by simp) el')) ?_ ?_
      · rintro j v σ' H5 hv ⟨bs, cs, z5, z6, rfl, e5, hb5, hcs, k5⟩
        obtain ⟨b, hb, rfl⟩ := getRef hv
        obtain ⟨c, hc, eb⟩ := hn'.get hb
        have eb5 : H5 b = some (.tup [.int c.1, .int c.2]) := k5 _ _ (by simp) eb
        have hcs2 : ((Tab.levC (hasA m) i).take (j + 1)).foldl (Tab.stepC (hasA m)) [] = Tab.stepC (hasA m) cs c := by rw [take_snoc hc, List.foldl_append, ← hcs]; rfl
        have lcs : cs.length ≤ 2 * 2 ^ 12 := by
          have := foldC_len (M := hasA m) (now := (Tab.levC (hasA m) i).take j) (cs := [])
          rw [← hcs, List.length_take] at this
          simp only [List.length_nil] at this
          omega
        walk_at "sts"
        intro u1 hu1
        have k6 : Keep [] H5 (upd H5 u1 (.tup [.int (c.1 + 1), .int c.2])) := Keep.new hu1
        have eu1 : upd H5 u1 (.tup [.int (c.1 + 1), .int c.2]) u1 = some (cHO (c.1 + 1, c.2)) := upd_same
        generalize upd H5 u1 (.tup [.int (c.1 + 1), .int c.2]) = H6 at k6 eu1 ⊢
        have eb6 := k6 _ _ (by simp) eb5
        walk_at "sts"
        intro u2 hu2
        have k7 : Keep [] H6 (upd H6 u2 (.tup [.int c.1, .int (c.2 + 1)])) := Keep.new hu2
        have eu2 : upd H6 u2 (.tup [.int c.1, .int (c.2 + 1)]) u2 = some (cHO (c.1, c.2 + 1)) := upd_same
        have eu12 := k7 _ _ (by simp) eu1
        generalize upd H6 u2 (.tup [.int c.1, .int (c.2 + 1)]) = H7 at k7 eu2 eu12 ⊢
        walk_at "sts"
        intro l3 hl3
        have k8 : Keep [] H7 (upd H7 l3 (.lst [.ref u1, .ref u2])) := Keep.new hl3
        have el3 : upd H7 l3 (.lst [.ref u1, .ref u2]) l3 = some (.lst (([u1, u2] : List Addr).map V.ref)) := upd_same
        have k58 := k6.trans (k7.trans k8)
        have eus : AllAt cHO (upd H7 l3 (.lst [.ref u1, .ref u2])) [u1, u2] [(c.1 + 1, c.2), (c.1, c.2 + 1)] := ⟨k8 _ _ (by simp) eu12, k8 _ _ (by simp) eu2, trivial⟩
        generalize upd H7 l3 (.lst [.ref u1, .ref u2]) = H8 at k8 el3 k58 eus ⊢
        have ela8 := k58 _ _ (by simp) e5
        have nl3 : l3 ≠ la := by rintro rfl; cases (hl3.symm.trans ((k6.trans k7) _ _ (by simp) e5))
        walk_at "sts"
        refine forL_go (fun g σ' H' => ∃ (bs' : List Addr) (z6 : Option V), σ' = [some (.int L), some (.ref d), some (.ref l'), some (.int i), some (.ref la), some (.ref b), z6] ∧ H' la = some (.lst (bs'.map V.ref)) ∧ AllAt cHO H' bs' ((([(c.1 + 1, c.2), (c.1, c.2 + 1)] : List Ct).take g).foldl (inC (hasA m) c) cs) ∧ Keep [la] H8 H') (sqL_of el3) ⟨bs, _, by first | exact rfl | trivial, ela8, hb5.keep0 k58, Keep.refl _ _⟩ (fun g σ' H' _ h => by obtain ⟨_, _, _, _, _, k⟩ := h; exact sqL_of (k _ _ (by simpa using nl3) el3)) ?_ ?_
        · rintro g v2 σ' H9 hv2 ⟨bs', z6, rfl, e9, hb9, k9⟩
          obtain ⟨u, hu, rfl⟩ := getRef hv2
          obtain ⟨x, hx, eux⟩ := eus.get hu
          have nta : ∀ ys : List V, H8 la ≠ some (.tup ys) := fun ys e => by rw [ela8] at e; cases e
          have neu : u ≠ la := by rintro rfl; exact nta _ eux
          have neb : b ≠ la := by rintro rfl; exact nta _ (k58 _ _ (by simp) eb5)
          have eu9 := k9 _ _ (by simpa using neu) eux
          have eb9 : H9 b = some (cHO c) := k9 _ _ (by simpa using neb) (k58 _ _ (by simp) eb5)
          have ned : d ≠ la := by rintro rfl; cases (hla0.symm.trans ed)
          have ed9 := k9 _ _ (by simpa using ned) ((k3.trans (k5.trans k58)) _ _ (by simp) ed)
          have sn : ([(c.1 + 1, c.2), (c.1, c.2 + 1)] : List Ct).take (g + 1) = ([(c.1 + 1, c.2), (c.1, c.2 + 1)] : List Ct).take g ++ [x] := take_snoc hx
          have ln := inC_len (M := hasA m) (c := c) (xs := ([(c.1 + 1, c.2), (c.1, c.2 + 1)] : List Ct).take g) (cs := cs)
          have lg : (([(c.1 + 1, c.2), (c.1, c.2 + 1)] : List Ct).take g).length ≤ 2 := by rw [List.length_take]; simp; omega
          have lb := hb9.len
          rw [sn, List.foldl_append]
          generalize (([(c.1 + 1, c.2), (c.1, c.2 + 1)] : List Ct).take g).foldl (inC (hasA m) c) cs = cs9 at hb9 ln lb ⊢
          simp only [List.foldl_cons, List.foldl_nil]
          walk_at "sts"
          refine r_dinT (f := V.str) ed9 eb9 ?_
          unfold inC
          cases hM : hasA m c with
          | true =>
            walk_at "sts"
            exact ⟨bs', _, by first | exact rfl | trivial, e9, hb9, k9⟩
          | false =>
            walk_at "sts"
            refine r_ninC eu9 ⟨bs', e9, hb9⟩ ?_
            walk_at "sts"
            unfold Tab.addC
            refine r_iteN (fun c1 => ?_) (fun c1 => ?_)
            · rw [if_neg (by simp), if_neg c1]
              walk_at "sts"
              refine ⟨bs' ++ [u], _, by first | exact rfl | trivial, by rw [upd_same, List.map_append]; rfl, ?_, k9.trans (Keep.at (by simp))⟩
              exact cts_upd (hb9.app (bs := [u]) (ys := [x]) ⟨eu9, trivial⟩) (fun ys e => by rw [e9] at e; cases e)
            · rw [if_neg (by simp), if_pos c1]
              walk_at "sts"
              exact ⟨bs', _, by first | exact rfl | trivial, e9, hb9, k9⟩
        · rintro σ' H9 ⟨bs', z6, rfl, e9, hb9, k9⟩
          rw [show (([u1, u2] : List Addr).map V.ref).length = 2 from rfl, show ([(c.1 + 1, c.2), (c.1, c.2 + 1)] : List Ct).take 2 = [(c.1 + 1, c.2), (c.1, c.2 + 1)] from rfl, inC_step] at hb9
          walk_at "sts"
          exact ⟨bs', _, _, _, by first | exact rfl | trivial, e9, hb9, hcs2.symm, Keep.dropNew (k5.trans k58) k9 hla⟩
      · rintro σ' H5 ⟨bs, cs, z5, z6, rfl, e5, hb5, hcs, k5⟩
        rw [List.length_map, nl, List.take_length] at hcs
        walk_at "sts"
        intro l2 hl2
        have e1 : cs = Tab.levC (hasA m) (i + 1) := hcs
        have k6 : Keep [] H5 (upd H5 l2 (.lst (bs.map V.ref))) := Keep.new hl2
        walk_at "sts"
        exact ⟨l2, _, _, _, _, by first | exact rfl | trivial, ⟨bs, upd_same, e1 ▸ hb5.keep0 k6⟩, (k3.trans k5).trans k6⟩
    · rintro σ' H3 ⟨l', y3, y4, y5, y6, rfl, ⟨na, el', hn'⟩, k3⟩
      have e : (L : Int).toNat = L := by omega
      rw [e] at hn'
      walk_at "sts"
      have nl := hn'.len
      have lv := levC_len (M := hasA m) (k := L)
      have lv2 : 2 ^ L ≤ 2 ^ 12 := Nat.pow_le_pow_right (by decide) (by omega)
      refine lcL_go (fun D i acc H' => ∃ bs : List Addr, acc = bs.map V.ref ∧ AllAt cHO H' bs (((Tab.levC (hasA m) L).take i).filter fun c => !hasA m c) ∧ Keep [] H3 H' ∧ H3 D = none) (sqL_of el') (fun D hD => ⟨[], rfl, by simp [AllAt], Keep.new hD, hD⟩) (fun D i acc H' _ h => by obtain ⟨_, _, _, k, _⟩ := h; exact sqL_of (k _ _ (by simp) el')) ?_ ?_
      · rintro D i v acc H4 hv hD ⟨bs, rfl, hb4, k4, nD⟩
        obtain ⟨b, hb, rfl⟩ := getRef hv
        obtain ⟨c, hc, eb⟩ := hn'.get hb
        have eb4 := k4 _ _ (by simp) eb
        have ed4 := (k3.trans k4) _ _ (by simp) ed
        have lb := hb4.len
        have lf : (((Tab.levC (hasA m) L).take i).filter fun c => !hasA m c).length ≤ 4096 := by
          have h1 := List.length_filter_le (fun c => !hasA m c) ((Tab.levC (hasA m) L).take i)
          rw [List.length_take] at h1
          omega
        rw [take_snoc hc, List.filter_append]
        walk_at "sts"
        refine r_dinT (f := V.str) ed4 eb4 ?_
        cases hM : hasA m c with
        | true =>
          walk_at "sts"
          exact ⟨_, hD, bs, rfl, by rw [List.filter_cons_of_neg (by simp [hM])]; simpa using hb4, k4, nD⟩
        | false =>
          walk_at "sts"
          refine lc_put (acc := bs.map V.ref) hD (by rw [List.length_map]; exact lt_size (by omega)) ⟨bs ++ [b], by rw [List.map_append]; rfl, ?_, k4.mut nD, nD⟩
          rw [List.filter_cons_of_pos (by simp [hM])]
          exact cts_upd (hb4.app (bs := [b]) (ys := [c]) ⟨eb4, trivial⟩) (fun ys e => by rw [hD] at e; cases e)
      · rintro D acc H4 nD hD ⟨bs, rfl, hb4, k4, _⟩
        rw [List.length_map, nl, List.take_length] at hb4
        walk_at "sts"
        refine qq D _ H4 (k3.trans k4) (k3.free (by simp) nD) ⟨bs, hD, hb4⟩ (fun c => ?_) ?_
        · rw [List.mem_filter, Tab.mem_levC]
          simp
        · exact Nat.le_trans (List.length_filter_le _ _) (by omega)
end
/-! ### filled, right, words -/
theorem mt_mono {M M' : Ct → Bool} (h : ∀ d, M' d = false → M d = false) : ∀ {k : Nat} {c : Ct}, Tab.Mt M' k c → Tab.Mt M k c
  | 0, _, e => e
  | _ + 1, _, ⟨d, hd, m, e⟩ => ⟨d, mt_mono h hd, h d m, e⟩
theorem hasA_put {α : Type} {m : List (Ct × α)} {c x : Ct} {y : α} : hasA (putA m c y) x = true ↔ x = c ∨ hasA m x = true := by
  unfold hasA
  rw [getA_putA]
  by_cases h : x = c
  · rw [if_pos h]; simp [h]
  · rw [if_neg h]; simp [h]
theorem hasA_keys {α : Type} {m m' : List (Ct × α)} (h : m'.map (·.1) = m.map (·.1)) : hasA m' = hasA m := by
  funext c
  rw [Bool.eq_iff_iff, hasA_iff, hasA_iff, h]
theorem Valid.words {L : Nat} {m m' : Ends} (h : Valid L m) (k : m'.map (·.1) = m.map (·.1)) (w : ∀ p ∈ m', IsW p.2) : Valid L m' := by
  refine ⟨h.l1, h.l2, by rw [k]; exact h.nd, fun p hp => ?_, w, ?_, ?_⟩
  · have : p.1 ∈ m.map (·.1) := by rw [← k]; exact List.mem_map_of_mem hp
    obtain ⟨q, hq, e⟩ := List.mem_map.mp this
    rw [← e]; exact h.key q hq
  · have := congrArg List.length k
    rw [List.length_map, List.length_map] at this
    have := h.len; omega
  · rw [hasA_keys k]; exact h.gap
theorem Valid.ne {L : Nat} {m : Ends} (h : Valid L m) : m ≠ [] := by
  rintro rfl
  have all : ∀ k : Nat, Tab.Mt (hasA ([] : Ends)) k ((k : Int), 0) := fun k => by
    induction k with
    | zero => rfl
    | succ k ih => exact ⟨_, ih, rfl, .inl (by simp)⟩
  have := h.gap _ (all L)
  cases this
theorem keys_kvG {α : Type} {f : α → V} {H : Hp} : ∀ {m : List (Ct × α)} {bs : List Addr}, IsKeys H (kvG f m) bs → AllAt cHO H bs (m.map (·.1))
  | [], bs, h => by cases h; trivial
  | c :: cs, bs, h => by
    cases h with
    | cons a b => exact ⟨a, keys_kvG b⟩
def spFilled : Sp := fun vs H Q _ => ∃ (a : Addr) (L : Nat) (d : Addr) (m : Ends), vs = [.ref a, .int L, .ref d] ∧ BoxAt a H ∧ EndsAt H d m ∧ Pre L m ∧ m.length ≤ 90 ∧ 1 ≤ L ∧ L ≤ 12 ∧ ∀ D m' H', Keep [a] H H' → BoxAt a H' → H D = none → EndsAt H' D m' → Valid L m' → Q (.ref D) H'
def spRight : Sp := fun vs H Q _ => ∃ (d : Addr) (wr : Int) (L : Nat) (m : Ends), vs = [.ref d, .int wr] ∧ EndsAt H d m ∧ Valid L m ∧ ∀ D m' H', Keep [] H H' → H D = none → EndsAt H' D m' → m'.map (·.1) = m.map (·.1) → (∀ p ∈ m', IsW p.2) → Q (.ref D) H'
def spWords : Sp := fun vs H Q _ => ∃ (a : Addr) (L : Nat) (d : Addr) (m : Ends), vs = [.ref a, .int L, .ref d] ∧ BoxAt a H ∧ EndsAt H d m ∧ Valid L m ∧ ∀ D m' H', Keep [a] H H' → BoxAt a H' → EndsAt H' D m' → Valid L m' → Q (.ref D) H'
section
variable {P : Program} {w : World} {K : PySem.W.Frag} {mg : Str → Option Value} {base : Heap}
theorem ok_filled (T : Tx K mg) (G_w_copy : FnOk P w K mg base CX0 1 T.f_w_copy T.fd_w_copy ["_law_ends"] spCopy) (G_w_last : FnOk P w K mg base CX0 1 T.f_w_last T.fd_w_last ["_law_limit_here", "_law_ends"] spLast)
    (G_w_word : FnOk P w K mg base CX0 2 T.f_w_word T.fd_w_word ["_law_box_here"] spWord) : FnOk P w K mg base CX0 3 T.f_w_filled T.fd_w_filled ["_law_box_here", "_law_limit_here", "_law_ends"] spFilled := by
  refine T.F_w_filled.ok sc_w_filled (fun vs H Q E h => ?_) (fun cdv A outer s H vs Q E hr h => ?_)
  · obtain ⟨a, L, d, m, rfl, _⟩ := h; rfl
  · obtain ⟨a, L, d, m, rfl, hb, ed, pm, lm, l1, l2, qq⟩ := h
    refine ⟨_, (pss_cons (ps_set (i := 3) sc_w_filled.nd rfl (Or.inl rfl) (pe_call G_w_copy (hr.mono (by decide)) rfl T.g_w_copy T.F_w_copy.kp T.b_w_copy .nil pass0 (pa_cons (pv 2) pa_nil)))
    (pss_cons (ps_for PassesOwn.never rfl (pi_list (pe_call G_w_last (hr.mono (by decide)) rfl T.g_w_last T.F_w_last.kp T.b_w_last .nil pass0 (pa_cons (pv 1) (pa_cons (pv 2) pa_nil)))) (pg_name (i := 4) sc_w_filled.nd rfl (Or.inl rfl))
    (pss_one (ps_dput (hu_of hr) (pv 3) (pv 4) (pe_call G_w_word (hr.mono (by decide)) rfl T.g_w_word T.F_w_word.kp T.b_w_word .nil pass0 (pa_cons (pv 0) pa_nil)) rfl)))
    (pss_one (ps_ret (pv 3))))), ?_⟩
    walk_at "start"
    walk_at "sts"
    refine ⟨d, m, rfl, ed, pm.nd, by omega, fun D H1 k1 nD eD => ?_⟩
    walk_at "sts"
    refine ⟨L, d, m, rfl, k1 _ _ (by simp) ed, l2, fun q cs H2 k2 nq ⟨as, eq, ca⟩ hcs lcs => ?_⟩
    have k12 := k1.trans k2
    have eD2 := k2 _ _ (by simp) eD
    have hb2 := hb.keep0 k12
    have nDa : D ≠ a := hb.ne nD
    have nqa : q ≠ a := (hb.keep0 k1).ne nq
    have nqD : q ≠ D := by rintro rfl; cases (nq.symm.trans eD)
    have lca := ca.len
    refine forL_go (fun i σ' H' => ∃ (m' : Ends) (y : Option V), σ' = [some (.ref a), some (.int L), some (.ref d), some (.ref D), y] ∧ EndsAt H' D m' ∧ Pre L m' ∧ (∀ c, hasA m' c = true ↔ hasA m c = true ∨ c ∈ cs.take i) ∧ m'.length ≤ m.length + i ∧ Keep [a, D] H2 H' ∧ Keep [a] H H' ∧ BoxAt a H') (sqL_of eq) ⟨m, _, by first | exact rfl | trivial, eD2, pm, by simp, by omega, Keep.refl _ _, k12.mono (by simp), hb2⟩ (fun i σ' H' _ h => by obtain ⟨_, _, _, _, _, _, _, k, _⟩ := h; exact sqL_of (k _ _ (by simp [nqa, nqD]) eq)) ?_ ?_
    · rintro i v σ' H3 hv ⟨m', y, rfl, e3, p3, h3, l3, k3, kH, b3⟩
      obtain ⟨b, hb0, rfl⟩ := getRef hv
      obtain ⟨c, hc, eb⟩ := ca.get hb0
      have hi := (List.getElem?_eq_some_iff.mp hc).1
      have nba : b ≠ a := by rintro rfl; obtain ⟨_, _, _, e, _⟩ := hb2; cases (e.symm.trans eb)
      have nbD : b ≠ D := by rintro rfl; cases (eD2.symm.trans eb)
      have mc := (hcs c).mp (List.mem_of_getElem? hc)
      have sm := mc.1.sum
      walk_at "sts"
      refine ⟨a, rfl, b3, fun wd H4 hw k4 b4 => ?_⟩
      have e4 := k4 _ _ (by simpa using nDa) e3
      have eb4 := k4 _ _ (by simpa using nba) (k3 _ _ (by simp [nba, nbD]) eb)
      walk_at "sts"
      refine r_dputT e4 eb4 (lt_size (by rw [len_kvG]; omega)) ?_
      rw [put_kvG]
      refine ⟨_, _, by first | exact rfl | trivial, upd_same, p3.put ⟨sm.2.1, sm.2.2, by omega, by omega⟩ hw, fun x => ?_, Nat.le_trans putA_len (by omega), (k3.trans (k4.mono (by simp))).trans (Keep.at (by simp)), (kH.trans k4).mut nD, b4.put nDa⟩
      rw [hasA_put, h3, take_snoc hc, List.mem_append, List.mem_singleton]
      constructor
      · rintro (e | e | e)
        · exact .inr (.inr e)
        · exact .inl e
        · exact .inr (.inl e)
      · rintro (e | e | e)
        · exact .inr (.inl e)
        · exact .inr (.inr e)
        · exact .inl e
    · rintro σ' H3 ⟨m', y, rfl, e3, p3, h3, l3, k3, kH, b3⟩
      rw [List.length_map, lca] at l3
      rw [List.length_map, lca, List.take_length] at h3
      walk_at "sts"
      refine qq D m' H3 kH b3 nD e3 ⟨l1, l2, p3.nd, p3.key, p3.word, by omega, fun c hc => ?_⟩
      have mt : Tab.Mt (hasA m) L c := mt_mono (fun x hx => by
        cases e : hasA m x with
        | false => rfl
        | true => have := (h3 x).mpr (.inl e); rw [hx] at this; cases this) hc
      rw [h3]
      cases e : hasA m c with
      | true => exact .inl rfl
      | false => exact .inr ((hcs c).mpr ⟨mt, e⟩)
theorem ok_right (T : Tx K mg) : FnOk P w K mg base CX0 1 T.f_w_right T.fd_w_right ["_law_ends", "_law_wrong_here"] spRight := by
  refine T.F_w_right.ok sc_w_right (fun vs H Q E h => ?_) (fun cdv A outer s H vs Q E hr h => ?_)
  · obtain ⟨d, wr, L, m, rfl, _⟩ := h; rfl
  · obtain ⟨d, wr, L, m, rfl, ed, va, qq⟩ := h
    have nd := va.nd
    have len := va.len
    refine ⟨_, (pss_cons (ps_set (i := 2) sc_w_right.nd rfl (Or.inl rfl) pe_dnewT)
    (pss_cons (ps_lock (ps_for PassesOwn.never rfl (pi_keys (pv 0)) (pg_name (i := 3) sc_w_right.nd rfl (Or.inl rfl))
    (pss_cons (ps_set (i := 4) sc_w_right.nd rfl (Or.inl rfl) (pe_dget (hu_of hr) (pv 0) (pv 3) (fun _ _ => rfl)))
    (Evl.pss_cut (ps_if (PW.pt (pw_and (pt_cmpR op_eq (pv 4) pe_str (nomark _)) (pw_and1 (pt_cmpR op_le (pe_ix ix_tup (pv 3) pe_int (fun _ _ => rfl)) (pv 1) (nomark _)))))
    (pss_cons (ps_set (i := 4) sc_w_right.nd rfl (Or.inl rfl) pe_str)
    (pss_one (ps_if (pt_cmpR op_gt (pe_ix ix_tup (pv 3) pe_int (fun _ _ => rfl)) (pv 1) (nomark _))
    (pss_one (ps_set (i := 4) sc_w_right.nd rfl (Or.inl rfl) pe_str))
    pss_nil)))
    (pss_one (ps_if (PW.pt (pw_and (pt_cmpR op_eq (pv 4) pe_str (nomark _)) (pw_and1 (pt_cmpR op_le (pe_ix ix_tup (pv 3) pe_int (fun _ _ => rfl)) (pv 1) (nomark _)))))
    (pss_cons (ps_set (i := 4) sc_w_right.nd rfl (Or.inl rfl) pe_str)
    (pss_one (ps_if (pt_cmpR op_gt (pe_ix ix_tup (pv 3) pe_int (fun _ _ => rfl)) (pv 1) (nomark _))
    (pss_one (ps_set (i := 4) sc_w_right.nd rfl (Or.inl rfl) pe_str))
    pss_nil)))
    pss_nil)))
    (pss_one (ps_dput (hu_of hr) (pv 2) (pv 3) (pv 4) rfl))))))
    (pss_one (ps_ret (pv 2))))), ?_⟩
    walk_at "start"
    walk_at "sts"
    refine r_dnewT fun D hD => ?_
    have k1 : Keep [] H (upd H D (.dT [])) := Keep.new hD
    have eD : upd H D (.dT []) D = some (.dT (kvG V.str [])) := upd_same
    have ed1 := k1 _ _ (by simp) ed
    have nDd : D ≠ d := by rintro rfl; cases (hD.symm.trans ed)
    generalize upd H D (.dT []) = H1 at k1 eD ed1 ⊢
    walk_at "sts"
    refine forKT_go ed1 (fun od Q' hQ => r_var rfl hQ) (fun od i σ' H' => ∃ (m' : Ends) (y3 y4 : Option V), σ' = [some (.ref d), some (.int wr), some (.ref D), y3, y4] ∧ H' D = some (.dT (kvG V.str m')) ∧ m'.map (·.1) = (m.take i).map (·.1) ∧ (∀ p ∈ m', IsW p.2) ∧ H' d = some (.frz od (.dT (kvG V.str m))) ∧ Keep [D] (upd H1 d (.frz od (.dT (kvG V.str m)))) H') (fun od => ⟨[], _, _, by first | exact rfl | trivial, by rw [upd_ne nDd]; exact eD, by simp, by simp, upd_same, Keep.refl _ _⟩) (fun od i σ' H' h => by obtain ⟨_, _, _, _, _, _, _, e, _⟩ := h; exact e) ?_ ?_
    · rintro od i k v q σ' H2 at1 tup ⟨m', y3, y4, rfl, eD2, hk, hw, ed2, k2⟩
      obtain ⟨p, hp, rfl, rfl⟩ := get_kvG at1
      have tup' : H2 q = some (.tup [.int p.1.1, .int p.1.2]) := tup
      have gp := getA_mem nd (List.mem_of_getElem? hp)
      have wp := va.word p (List.mem_of_getElem? hp)
      have lk : m'.length ≤ 5000 := by
        have := congrArg List.length hk
        rw [List.length_map, List.length_map, List.length_take] at this
        omega
      have fresh : p.1 ∉ m'.map (·.1) := fun hx => by
        rw [hk] at hx
        obtain ⟨q2, hq2, e⟩ := List.mem_map.mp hx
        obtain ⟨z, hz⟩ := List.getElem?_of_mem hq2
        rw [List.getElem?_take] at hz
        split at hz
        · rename_i lt
          have h1 : (m.map (·.1))[z]? = some p.1 := by rw [List.getElem?_map, hz]; exact congrArg some e
          have h2 : (m.map (·.1))[i]? = some p.1 := by rw [List.getElem?_map, hp]; rfl
          have := (List.getElem?_inj (List.getElem?_eq_some_iff.mp h1).1 nd).mp (h1.trans h2.symm)
          omega
        · cases hz
      walk_at "sts"
      refine ⟨d, _, rfl, dgetTL (f := V.str) ed2 tup gp, ?_⟩
      walk_at "sts"
      refine r_cut (fun σ' H' => ∃ wd : Str, σ' = [some (.ref d), some (.int wr), some (.ref D), some (.ref q), some (.str wd)] ∧ IsW wd ∧ H' = H2) ?_ ?_
      · walk_at "sts"
        refine r_ite (fun c1 => ?_) (fun c1 => ?_)
        · walk_at "sts"
          refine r_ite (fun c2 => ?_) (fun c2 => ?_)
          · walk_at "sts"
            refine r_ite (fun c3 => ?_) (fun c3 => ?_)
            · walk_at "sts"
              exact ⟨_, by first | exact rfl | trivial, .inr (.inl rfl), rfl⟩
            · walk_at "sts"
              exact ⟨_, by first | exact rfl | trivial, .inr (.inr rfl), rfl⟩
          · walk_at "sts"
            refine r_iteF (fun e => by rw [c1] at e; revert e; decide) ?_
            walk_at "sts"
            exact ⟨_, by first | exact rfl | trivial, wp, rfl⟩
        · walk_at "sts"
          refine r_ite (fun c2 => ?_) (fun c2 => ?_)
          · walk_at "sts"
            refine r_ite (fun c3 => ?_) (fun c3 => ?_)
            · walk_at "sts"
              refine r_ite (fun c4 => ?_) (fun c4 => ?_)
              · walk_at "sts"
                exact ⟨_, by first | exact rfl | trivial, .inl rfl, rfl⟩
              · walk_at "sts"
                exact ⟨_, by first | exact rfl | trivial, .inr (.inr rfl), rfl⟩
            · walk_at "sts"
              exact ⟨_, by first | exact rfl | trivial, wp, rfl⟩
          · walk_at "sts"
            exact ⟨_, by first | exact rfl | trivial, wp, rfl⟩
      · rintro σ' H3 ⟨wd, rfl, hwd, rfl⟩
        walk_at "sts"
        refine r_dputT eD2 tup (lt_size (by rw [len_kvG]; omega)) ?_
        rw [put_kvG]
        refine ⟨_, _, _, by first | exact rfl | trivial, upd_same, ?_, fun z hz => (putA_mem hz).elim (hw z) fun e => by rw [e]; exact hwd, by rw [upd_ne (Ne.symm nDd)]; exact ed2, k2.trans (Keep.at (by simp))⟩
        rw [putA_keys, if_neg fresh, hk, take_snoc hp, List.map_append]; rfl
    · rintro od σ' H2 ⟨m', y3, y4, rfl, eD2, hk, hw, ed2, k2⟩
      rw [len_kvG, List.take_length] at hk
      have k3 : Keep [D] H1 (upd H2 d (.dT (kvG V.str m))) := Keep.unlock ed1 k2
      have eD3 : upd H2 d (.dT (kvG V.str m)) D = some (.dT (kvG V.str m')) := by rw [upd_ne nDd]; exact eD2
      walk_at "sts"
      exact qq D m' _ (k1.dropNew k3 hD) hD eD3 hk hw
end
/-! ### false, truth, numbers -/
def falseB (c : Ct) (w : Str) (wr : Int) : Bool := (truthW c w wr).isSome
def spFalse : Sp := fun vs H Q _ => ∃ (q : Addr) (c : Ct) (wd : Str) (wr : Int), vs = [.str wd, .ref q, .int wr] ∧ H q = some (cHO c) ∧ Q (.bl (falseB c wd wr)) H
theorem false_m {c : Ct} {w : Str} {wr : Int} (h : w = wM) : falseB c w wr = decide (c.2 ≤ wr) := by
  subst h
  unfold falseB truthW
  by_cases e : c.2 ≤ wr
  · rw [if_pos ⟨rfl, e⟩]; simp [e]
  · rw [if_neg (by simp [e]), if_neg (by intro h; revert h; exact fun h => absurd h.1 (by decide))]; simp [e]
theorem false_r {c : Ct} {w : Str} {wr : Int} (n : ¬ w = wM) (h : w = wR) : falseB c w wr = decide (c.1 ≤ wr) := by
  subst h
  unfold falseB truthW
  rw [if_neg (fun h => n h.1)]
  by_cases e : c.1 ≤ wr
  · rw [if_pos ⟨rfl, e⟩]; simp [e]
  · rw [if_neg (by simp [e])]; simp [e]
theorem false_u {c : Ct} {w : Str} {wr : Int} (n : ¬ w = wM) (h : ¬ w = wR) : falseB c w wr = false := by
  unfold falseB truthW
  rw [if_neg (fun h => n h.1), if_neg (fun e => h e.1)]; rfl
theorem r_bm0 {K : PySem.W.Frag} {T : String} {r : V → List V → Hp → VK → Prop} {to : TE} {σ : L2.St} {H : Hp} {Q : VK} (k : to σ H fun x H1 => tyV K T x H1 ∧ r x [] H1 Q) : tBM0 K T r to σ H Q := k
section
variable {P : Program} {w : World} {K : PySem.W.Frag} {mg : Str → Option Value} {base : Heap}
theorem ok_false (T : Tx K mg) : FnOk P w K mg base CX0 1 T.f_w_false T.fd_w_false ["_law_word_here", "_law_count", "_law_wrong_here"] spFalse := by
  refine T.F_w_false.ok sc_w_false (fun vs H Q E h => ?_) (fun cdv A outer s H vs Q E hr h => ?_)
  · obtain ⟨q, c, wd, wr, rfl, _⟩ := h; rfl
  · obtain ⟨q, c, wd, wr, rfl, eq, qq⟩ := h
    have eq2 : H q = some (.tup [.int c.1, .int c.2]) := eq
    refine ⟨_, (pss_cons (ps_if (pt_cmpR op_eq (pv 0) pe_str (nomark _))
    (pss_one (ps_ret (pe_cmpR op_le (pe_ix ix_tup (pv 1) pe_int (fun _ _ => rfl)) (pv 2) (nomark _))))
    pss_nil)
    (pss_cons (ps_if (pt_cmpR op_eq (pv 0) pe_str (nomark _))
    (pss_one (ps_ret (pe_cmpR op_le (pe_ix ix_tup (pv 1) pe_int (fun _ _ => rfl)) (pv 2) (nomark _))))
    pss_nil)
    (pss_one (ps_ret pe_bl)))), ?_⟩
    walk_at "start"
    walk_at "sts"
    refine r_ite (fun c1 => ?_) (fun c1 => ?_)
    · walk_at "sts"
      rw [false_m c1] at qq; exact qq
    · walk_at "sts"
      refine r_ite (fun c2 => ?_) (fun c2 => ?_)
      · walk_at "sts"
        rw [false_r c1 c2] at qq; exact qq
      · walk_at "sts"
        rw [false_u c1 c2] at qq; exact qq
end
/-! ### softened words -/
open Tab (Rn cnt)
theorem false_U {c : Ct} {wr : Int} : falseB c wU wr = false := false_u (by decide) (by decide)
theorem putA_put {α : Type} {m : List (Ct × α)} {c : Ct} {x y : α} : putA (putA m c x) c y = putA m c y := by
  unfold putA
  by_cases h : (m.any fun p => decide (p.1 = c)) = true
  · rw [if_pos h]
    have h2 : ((m.map fun p => if p.1 = c then (p.1, x) else p).any fun p => decide (p.1 = c)) = true := by
      rw [any_iff] at h ⊢
      rw [List.map_map]
      obtain ⟨p, hp, e⟩ := List.mem_map.mp h
      exact List.mem_map.mpr ⟨p, hp, by simp [e]⟩
    rw [if_pos h2, if_pos h, List.map_map]
    apply List.map_congr_left
    intro p _
    simp only [Function.comp]
    by_cases e : p.1 = c
    · simp [e]
    · simp [e]
  · rw [if_neg h]
    have h2 : ((m ++ [(c, x)]).any fun p => decide (p.1 = c)) = true := by simp
    rw [if_pos h2, if_neg h, List.map_append]
    have h3 : ∀ p ∈ m, p.1 ≠ c := fun p hp e => h (any_iff.mpr (List.mem_map.mpr ⟨p, hp, e⟩))
    rw [List.map_congr_left (g := id) (fun p hp => by simp [h3 p hp])]
    simp
theorem putA_fresh {α : Type} {m : List (Ct × α)} {c : Ct} {y : α} (h : c ∉ m.map (·.1)) : putA m c y = m ++ [(c, y)] := by
  unfold putA
  rw [if_neg (fun e => h (any_iff.mp e))]
/-- the word of a count, whatever it is where it has none -/
def wordA (m : Ends) (c : Ct) : Str := (getA m c).getD wU
def softF (m : Ends) (F : List Ct) : Ends := m.map fun p => (p.1, if p.1 ∈ F then wU else p.2)
def falseC (m : Ends) (L : Nat) (wr : Int) : List Ct := (Tab.metC (hasA m) L).filter fun c => falseB c (wordA m c) wr
def softT (m : Ends) (L : Nat) (wr : Int) : Ends := softF m (falseC m L wr)
theorem softF_keys {m : Ends} {F : List Ct} : (softF m F).map (·.1) = m.map (·.1) := by
  unfold softF; rw [List.map_map]; rfl
theorem getA_softF {m : Ends} {F : List Ct} {c : Ct} : getA (softF m F) c = if c ∈ F then (getA m c).map (fun _ => wU) else getA m c := by
  unfold softF
  induction m with
  | nil => split <;> rfl
  | cons p m ih =>
    rw [List.map_cons, getA_cons, getA_cons, ih]
    by_cases e : p.1 = c
    · simp only [e, if_true]
      split <;> rfl
    · simp only [if_neg e]
theorem putA_softF {m : Ends} {F : List Ct} {c : Ct} (h : c ∈ m.map (·.1)) : putA (softF m F) c wU = softF m (F ++ [c]) := by
  unfold putA
  rw [if_pos (any_iff.mpr (by rw [softF_keys]; exact h))]
  unfold softF
  rw [List.map_map]
  apply List.map_congr_left
  intro p _
  simp only [Function.comp, List.mem_append, List.mem_singleton]
  by_cases e : p.1 = c
  · simp [e]
  · simp [e]
theorem softF_congr {m : Ends} {F G : List Ct} (h : ∀ p ∈ m, p.1 ∈ F ↔ p.1 ∈ G) : softF m F = softF m G := by
  unfold softF
  apply List.map_congr_left
  intro p hp
  simp only [h p hp]
theorem softF_snoc {m : Ends} {F : List Ct} {i : Nat} {p : Ct × Str} (h : m[i]? = some p) : softF (m.take (i + 1)) F = softF (m.take i) F ++ [(p.1, if p.1 ∈ F then wU else p.2)] := by
  unfold softF; rw [take_snoc h, List.map_append]; rfl
theorem softF_none {m : Ends} {F : List Ct} (h : ∀ p ∈ m, p.1 ∉ F) : softF m F = m := by
  unfold softF
  conv => rhs; rw [← List.map_id m]
  apply List.map_congr_left
  intro p hp
  simp [h p hp]
theorem false_has {m : Ends} {c : Ct} {wr : Int} (h : falseB c (wordA m c) wr = true) : hasA m c = true := by
  unfold wordA at h
  unfold hasA
  cases e : getA m c with
  | none => rw [e] at h; rw [show (Option.none : Option Str).getD wU = wU from rfl, false_U] at h; cases h
  | some _ => rfl
theorem falseC_iff {m : Ends} {L : Nat} {wr : Int} {c : Ct} : c ∈ falseC m L wr ↔ (∃ j, j ≤ L ∧ Tab.Mt (hasA m) j c) ∧ falseB c (wordA m c) wr = true := by
  unfold falseC; rw [List.mem_filter, Tab.mem_metC]
theorem softT_has {m : Ends} {L : Nat} {wr : Int} : hasA (softT m L wr) = hasA m := hasA_keys softF_keys
theorem softT_word {m : Ends} {L : Nat} (va : Valid L m) {wr : Int} : ∀ p ∈ softT m L wr, IsW p.2 := fun p hp => by
  obtain ⟨q, hq, rfl⟩ := List.mem_map.mp hp
  show IsW (if q.1 ∈ falseC m L wr then wU else q.2)
  split
  · exact .inr (.inr rfl)
  · exact va.word q hq
theorem Valid.soft {m : Ends} {L : Nat} (va : Valid L m) {wr : Int} : Valid L (softT m L wr) := va.words softF_keys (softT_word va)
theorem false_mono {c : Ct} {w : Str} {v wr : Int} (h : v ≤ wr) (f : falseB c w v = true) : falseB c w wr = true := by
  by_cases e1 : w = wM
  · rw [false_m e1] at f ⊢; simp only [decide_eq_true_eq] at f ⊢; omega
  · by_cases e2 : w = wR
    · rw [false_r e1 e2] at f ⊢; simp only [decide_eq_true_eq] at f ⊢; omega
    · rw [false_u e1 e2] at f; cases f
/-- nothing of a softened table is false -/
theorem soft_sound {m : Ends} {L : Nat} {wr v : Int} (hv : v ≤ wr) {c : Ct} {wd : Str} (hm : ∃ j, j ≤ L ∧ Tab.Mt (hasA (softT m L wr)) j c) (hg : getA (softT m L wr) c = some wd) : truthW c wd v = none := by
  rw [softT_has] at hm
  cases e : truthW c wd v with
  | none => rfl
  | some t =>
    exfalso
    have f : falseB c wd v = true := by unfold falseB; rw [e]; rfl
    have f2 := false_mono hv f
    unfold softT at hg
    rw [getA_softF] at hg
    split at hg
    · cases e2 : getA m c with
      | none => rw [e2] at hg; cases hg
      | some _ => rw [e2] at hg; cases hg; rw [false_U] at f2; cases f2
    · rename_i n
      exact n (falseC_iff.mpr ⟨hm, by unfold wordA; rw [hg]; exact f2⟩)
theorem softT_id {m : Ends} {L : Nat} {wr : Int} (h : ∀ c wd, (∃ j, j ≤ L ∧ Tab.Mt (hasA m) j c) → getA m c = some wd → truthW c wd wr = none) : softT m L wr = m := by
  refine softF_none fun p hp hf => ?_
  obtain ⟨hm, f⟩ := falseC_iff.mp hf
  have hh := false_has f
  unfold hasA at hh
  obtain ⟨wd, hw⟩ := Option.isSome_iff_exists.mp hh
  unfold wordA at f
  rw [hw] at f
  unfold falseB at f
  rw [show (some wd).getD wU = wd from rfl, h p.1 wd hm hw] at f
  cases f
theorem softT_ne {m : Ends} {L : Nat} {wr : Int} (h : softT m L wr = m) {c : Ct} {wd : Str} (hm : ∃ j, j ≤ L ∧ Tab.Mt (hasA m) j c) (hg : getA m c = some wd) : truthW c wd wr = none := by
  have := soft_sound (m := m) (L := L) (wr := wr) (v := wr) (Int.le_refl _) (c := c) (wd := wd)
  rw [h] at this
  exact this hm hg
theorem wordA_of {m : Ends} (nd : (m.map (·.1)).Nodup) {p : Ct × Str} (hp : p ∈ m) : wordA m p.1 = p.2 := by unfold wordA; rw [getA_mem nd hp]; rfl
/-! ### longest and softened -/
open Tab (Rn cnt)
def IsStop (m : Ends) (L : Nat) (c : Ct) : Prop := (∃ j, j ≤ L ∧ Tab.Mt (hasA m) j c) ∧ hasA m c = true
def Longest (m : Ends) (L : Nat) (wr n : Int) : Prop := (∃ c, IsStop m L c ∧ (c.1 ≤ wr ∨ c.2 ≤ wr) ∧ c.1 + c.2 = n) ∧ ∀ c, IsStop m L c → (c.1 ≤ wr ∨ c.2 ≤ wr) → c.1 + c.2 ≤ n
theorem Longest.eq {m : Ends} {L : Nat} {wr a b : Int} (x : Longest m L wr a) (y : Longest m L wr b) : a = b := by
  obtain ⟨⟨c, hc, h1, e1⟩, u⟩ := x
  obtain ⟨⟨d, hd, h2, e2⟩, v⟩ := y
  have p := u d hd h2
  have q := v c hc h1
  omega
theorem Valid.zero {L : Nat} {m : Ends} (h : Valid L m) : ∃ c, IsStop m L c ∧ c.2 = 0 := by
  have all : ∀ k : Nat, k ≤ L → Tab.Mt (hasA m) k ((k : Int), 0) ∨ ∃ c, IsStop m L c ∧ c.2 = 0 := fun k => by
    induction k with
    | zero => intro _; exact .inl rfl
    | succ k ih =>
      intro hk
      rcases ih (by omega) with h1 | h1
      · cases e : hasA m ((k : Int), 0) with
        | true => exact .inr ⟨_, ⟨⟨k, by omega, h1⟩, e⟩, rfl⟩
        | false => exact .inl ⟨_, h1, e, .inl (by simp)⟩
      · exact .inr h1
  rcases all L (Nat.le_refl _) with h1 | h1
  · exact ⟨_, ⟨⟨L, Nat.le_refl _, h1⟩, h.gap _ h1⟩, rfl⟩
  · exact h1
def spLongest (C : Addr) : Sp := fun vs H Q _ => ∃ (x : Addr) (L : Nat) (m : Ends) (wr : Int), vs = [.ref x, .int wr] ∧ TableAt C H x L m ∧ Valid L m ∧ 0 ≤ wr ∧ ∀ n H', Keep [] H H' → Longest m L wr n → Q (.int n) H'
def spSoftened (C : Addr) : Sp := fun vs H Q _ => ∃ (x : Addr) (L : Nat) (m : Ends) (wr : Int), vs = [.ref x, .int wr] ∧ TableAt C H x L m ∧ Valid L m ∧ 0 ≤ wr ∧ ∀ y H', Keep [] H H' → TableAt C H' y L (softT m L wr) → Q (.ref y) H'
def lonB (wr : Int) (p : Ct × Str) : Bool := decide (p.1.1 ≤ wr) || decide (p.1.2 ≤ wr)
def lonN (wr : Int) (ps : List (Ct × Str)) : List Int := (ps.filter (lonB wr)).map fun p => p.1.1 + p.1.2
theorem lonN_snoc {wr : Int} {ps : List (Ct × Str)} {i : Nat} {p : Ct × Str} (h : ps[i]? = some p) : lonN wr (ps.take (i + 1)) = lonN wr (ps.take i) ++ if lonB wr p = true then [p.1.1 + p.1.2] else [] := by
  unfold lonN
  rw [take_snoc h, List.filter_append, List.map_append]
  congr 1
  by_cases c : lonB wr p = true
  · simp [c]
  · simp [c]
theorem lonN_len {wr : Int} {ps : List (Ct × Str)} : (lonN wr ps).length ≤ ps.length := by unfold lonN; rw [List.length_map]; exact List.length_filter_le _ _
theorem r_newTable {C : Addr} {H : Hp} {d : Addr} {L : Nat} {m : Ends} {Q : Hp → Prop} {E : XK} {x dx : Addr} (hx : H x = none) (hdx : H dx = none) (ne : dx ≠ x) (ed : EndsAt H d m) (va : Valid L m) (k : ∀ H', Keep [] H H' → TableAt C H' x L m → Q H') :
    spInit C [.ref x, .int L, .ref d] (upd (upd H dx (.own x)) x (.ins C dx [])) (fun v H2 => v = .non ∧ Q H2) E := by
  have k1 : Keep [] H (upd (upd H dx (.own x)) x (.ins C dx [])) := (Keep.new hdx).trans (Keep.new (by rw [upd_ne (Ne.symm ne)]; exact hx))
  exact ⟨x, dx, d, L, m, rfl, upd_same, k1 _ _ (by simp) ed, va, fun H' d2 k2 e1 e2 _ => ⟨rfl, k H' (k1.dropNew k2 hx) ⟨dx, d2, e1, e2⟩⟩⟩
theorem r_max {K : PySem.W.Frag} {p : Addr} {ns : List Int} {H : Hp} {Q : VK} (h : SqL K H p (ns.map V.int)) (h0 : 0 < ns.length) (k : ∀ m, m ∈ ns → (∀ y, y ∈ ns → y ≤ m) → Q (.int m) H) : rMax K [.ref p] H Q := ⟨p, ns, rfl, h, h0, k⟩
section
variable {P : Program} {w : World} {K : PySem.W.Frag} {mg : Str → Option Value} {base : Heap}
theorem ok_longest (T : Tx K mg) (G_Table_stops : FnOk P w K mg base CX0 2 T.f_Table_stops T.fd_Table_stops ["self"] (spStops T.C_Table)) : FnOk P w K mg base CX0 3 T.f_Table_longest T.fd_Table_longest ["self", "wrong"] (spLongest T.C_Table) := by
  refine T.F_Table_longest.ok sc_Table_longest (fun vs H Q E h => ?_) (fun cdv A outer s H vs Q E hr h => ?_)
  · obtain ⟨x, L, m, wr, rfl, _⟩ := h; rfl
  · obtain ⟨x, L, m, wr, rfl, tab, va, w0, qq⟩ := h
    obtain ⟨dx, d, ex, ed⟩ := id tab
    have oc := T.oc_Table
    refine ⟨_, PSs.nox (pss_cons (ps_if (pt_cmpR op_lt (pv 1) pe_int (nomark _))
    (pss_one ps_never)
    pss_nil)
    (pss_one (ps_ret (pe_callB (cr_max rfl) (by rfl) T.m_max (by decide +kernel) (pa_cons (pe_lc (own := [("reached", 2), ("missed", 3), ("_", 4)]) (g := gTup K 3 (gCons (gName 2) (gCons (gName 3) (gCons (gName 4) gNil))))  rfl sc_Table_longest.nd (pi_list (pe_meth0 (pv 0) T.oc_Table.cl T.me_Table_stops G_Table_stops (hr.mono (by decide)) T.b_Table_stops .nil pass0)) (blkOk_by (own := [("reached", 2), ("missed", 3), ("_", 4)]) (N := ["self", "wrong", "reached", "missed", "_"]) (sc := defScope s_Table_longest) (by decide +kernel)) (fun _ _ _ _ _ => pg_tup (n := 3) rfl (pgs_cons (pg_name (i := 2) sc_Table_longest.nd rfl (Or.inl rfl)) (pgs_cons (pg_name (i := 3) sc_Table_longest.nd rfl (Or.inl rfl)) (pgs_cons (pg_name (i := 4) sc_Table_longest.nd rfl (Or.inl rfl)) pgs_nil)))) (fun _ _ _ _ _ => pts_one (PW.pt (pw_or (pt_cmpR op_le (pv 2) (pv 1) (nomark _)) (pw_or1 (pt_cmpR op_le (pv 3) (pv 1) (nomark _)))))) (fun _ _ _ _ _ => (pe_op op_add (pv 2) (pv 3)))) pa_nil))))), ?_⟩
    walk_at "start"
    walk_at "sts"
    refine ⟨x, L, m, rfl, tab, va, fun q as ps H1 k1 nq eq ha hps lps _ => ?_⟩
    have lap := ha.len
    walk_at "sts"
    refine lcL_go (fun D i acc H' => acc = (lonN wr (ps.take i)).map V.int ∧ Keep [] H1 H' ∧ H1 D = none) (sqL_of eq) (fun D hD => ⟨by simp [lonN], Keep.new hD, hD⟩) (fun D i acc H' _ h => by obtain ⟨_, k, _⟩ := h; exact sqL_of (k _ _ (by simp) eq)) ?_ ?_
    · rintro D i v acc H2 hv hD ⟨rfl, k2, nD⟩
      obtain ⟨b, hb0, rfl⟩ := getRef hv
      obtain ⟨z, hz, eb⟩ := ha.get hb0
      have eb2 := k2 _ _ (by simp) eb
      have sn := lonN_snoc (wr := wr) hz
      have ln := lonN_len (wr := wr) (ps := ps.take i)
      rw [List.length_take] at ln
      refine r_gTup3 (x := .int z.1.1) (y := .int z.1.2) (z := .str z.2) (sqT_of eb2) ?_
      simp only [L2.wipe, List.map_cons, List.map_nil, List.set_cons_zero, List.set_cons_succ]
      refine ⟨trivial, ?_⟩
      have fin : lonB wr z = true → (∃ ac : List V, H2 D = some (.lst ac) ∧ ac = (lonN wr (ps.take i)).map V.int) → ∃ acc, H2 D = some (HO.lst acc) ∧ acc.length < sizeLine ∧ ∃ ac, upd H2 D (HO.lst (acc ++ [V.int (z.1.1 + z.1.2)])) D = some (HO.lst ac) ∧ ac = List.map V.int (lonN wr (List.take (i + 1) ps)) ∧ Keep [] H1 (upd H2 D (HO.lst (acc ++ [V.int (z.1.1 + z.1.2)]))) ∧ H1 D = none := fun hb _ => by
        rw [if_pos hb] at sn
        exact ⟨_, hD, lt_size (by rw [List.length_map]; omega), _, upd_same, by rw [sn, List.map_append]; rfl, k2.mut nD, nD⟩
      walk_at "sts"
      refine r_ite (fun c1 => ?_) (fun c1 => ?_)
      · have hb : lonB wr z = true := by unfold lonB; rw [decide_eq_true c1]; rfl
        walk_at "sts"
        exact fin hb ⟨_, hD, rfl⟩
      · walk_at "sts"
        refine r_ite (fun c2 => ?_) (fun c2 => ?_)
        · have hb : lonB wr z = true := by unfold lonB; rw [decide_eq_true c2, Bool.or_true]
          walk_at "sts"
          exact fin hb ⟨_, hD, rfl⟩
        · have hb : lonB wr z = false := by unfold lonB; rw [decide_eq_false c1, decide_eq_false c2]; rfl
          rw [if_neg (by rw [hb]; decide), List.append_nil] at sn
          walk_at "sts"
          exact ⟨_, hD, by rw [sn], k2, nD⟩
    · rintro D acc H2 nD hD ⟨rfl, k2, _⟩
      rw [List.length_map, lap, List.take_length] at hD
      obtain ⟨c0, s0, z0⟩ := va.zero
      have mem : ∀ n : Int, n ∈ lonN wr ps ↔ ∃ c, IsStop m L c ∧ (c.1 ≤ wr ∨ c.2 ≤ wr) ∧ c.1 + c.2 = n := fun n => by
        unfold lonN
        rw [List.mem_map]
        constructor
        · rintro ⟨p, hp, rfl⟩
          obtain ⟨hp1, hp2⟩ := List.mem_filter.mp hp
          obtain ⟨mt, g⟩ := (hps p).mp hp1
          refine ⟨p.1, ⟨mt, by unfold hasA; rw [g]; rfl⟩, ?_, rfl⟩
          unfold lonB at hp2
          simpa using hp2
        · rintro ⟨c, ⟨mt, hh⟩, hc, rfl⟩
          unfold hasA at hh
          obtain ⟨wd, hw⟩ := Option.isSome_iff_exists.mp hh
          refine ⟨(c, wd), List.mem_filter.mpr ⟨(hps _).mpr ⟨mt, hw⟩, ?_⟩, rfl⟩
          unfold lonB
          simpa using hc
      refine r_max (sqL_of hD) (List.length_pos_of_mem ((mem _).mpr ⟨c0, s0, .inr (by omega), rfl⟩)) fun n hn hle => ?_
      exact qq n H2 (k1.trans k2) ⟨(mem n).mp hn, fun c hc h => hle _ ((mem _).mpr ⟨c, hc, h, rfl⟩)⟩
theorem ok_softened (T : Tx K mg) (G_Table_stops : FnOk P w K mg base CX0 2 T.f_Table_stops T.fd_Table_stops ["self"] (spStops T.C_Table)) (G_Table_ends : FnOk P w K mg base CX0 1 T.f_Table_ends T.fd_Table_ends ["self"] (spEnds T.C_Table))
    (G_refuted : FnOk P w K mg base CX0 1 T.f_refuted T.fd_refuted ["reached", "missed", "word", "wrong"] spRefuted) (G_Table___init : FnOk P w K mg base CX0 2 T.f_Table___init T.fd_Table___init ["self", "limit", "ends"] (spInit T.C_Table)) : FnOk P w K mg base CX0 4 T.f_Table_softened T.fd_Table_softened ["self", "wrong"] (spSoftened T.C_Table) := by
  refine T.F_Table_softened.ok sc_Table_softened (fun vs H Q E h => ?_) (fun cdv A outer s H vs Q E hr h => ?_)
  · obtain ⟨x, L, m, wr, rfl, _⟩ := h; rfl
  · obtain ⟨x, L, m, wr, rfl, tab, va, w0, qq⟩ := h
    obtain ⟨dx, d, ex, ed⟩ := id tab
    have oc := T.oc_Table
    have nl := T.na_Table_limit
    refine ⟨_, PSs.nox (pss_cons (ps_if (pt_cmpR op_lt (pv 1) pe_int (nomark _))
    (pss_one ps_never)
    pss_nil)
    (pss_cons (ps_set (i := 2) sc_Table_softened.nd rfl (Or.inl rfl) (pe_meth0 (pv 0) T.oc_Table.cl T.me_Table_ends G_Table_ends (hr.mono (by decide)) T.b_Table_ends .nil pass0))
    (pss_cons (ps_for PassesOwn.never rfl (pi_list (pe_meth0 (pv 0) T.oc_Table.cl T.me_Table_stops G_Table_stops (hr.mono (by decide)) T.b_Table_stops .nil pass0)) (pg_tup (n := 3) rfl (pgs_cons (pg_name (i := 3) sc_Table_softened.nd rfl (Or.inl rfl)) (pgs_cons (pg_name (i := 4) sc_Table_softened.nd rfl (Or.inl rfl)) (pgs_cons (pg_name (i := 5) sc_Table_softened.nd rfl (Or.inl rfl)) pgs_nil))))
    (pss_one (ps_if (pt_cmpR op_notNc (pe_call G_refuted (hr.mono (by decide)) rfl T.g_refuted T.F_refuted.kp T.b_refuted .nil pass0 (pa_cons (pv 3) (pa_cons (pv 4) (pa_cons (pv 5) (pa_cons (pv 1) pa_nil))))) pe_non (nomark _))
    (pss_one (ps_dput (hu_of hr) (pv 2) (pe_tup (pa_cons (pv 3) (pa_cons (pv 4) pa_nil))) pe_str rfl))
    pss_nil)))
    (pss_one (ps_ret (pe_make T.mk_Table G_Table___init (hr.mono (by decide)) rfl T.gC_Table T.b_Table___init .nil pass0 (pa_cons (pe_fld (pv 0) rfl) (pa_cons (pv 2) pa_nil)))))))), ?_⟩
    walk_at "start"
    walk_at "sts"
    refine ⟨x, L, m, rfl, tab, va, fun D H1 k1 nD eD => ?_⟩
    have ex1 := k1 _ _ (by simp) ex
    walk_at "sts"
    refine ⟨x, L, m, rfl, tab.keep0 k1, va, fun q as ps H2 k2 nq eq ha hps lps _ => ?_⟩
    have k12 := k1.trans k2
    have ex2 := k2 _ _ (by simp) ex1
    have eD2 : EndsAt H2 D m := k2 _ _ (by simp) eD
    have nxD : x ≠ D := by rintro rfl; cases (ex1.symm.trans eD)
    have nqD : q ≠ D := by rintro rfl; cases (nq.symm.trans eD)
    have lap := ha.len
    walk_at "sts"
    refine forL_go (fun i σ' H' => ∃ y3 y4 y5 : Option V, σ' = [some (.ref x), some (.int wr), some (.ref D), y3, y4, y5] ∧ EndsAt H' D (softF m (((ps.take i).filter fun p => falseB p.1 p.2 wr).map (·.1))) ∧ Keep [D] H2 H') (sqL_of eq) ⟨_, _, _, by first | exact rfl | trivial, by rw [softF_none (by simp)]; exact eD2, Keep.refl _ _⟩ (fun i σ' H' _ h => by obtain ⟨_, _, _, _, _, k⟩ := h; exact sqL_of (k _ _ (by simpa using nqD) eq)) ?_ ?_
    · rintro i v σ' H3 hv ⟨y3, y4, y5, rfl, e3, k3⟩
      obtain ⟨b, hb0, rfl⟩ := getRef hv
      obtain ⟨z, hz, eb⟩ := ha.get hb0
      have nbD : b ≠ D := by rintro rfl; cases (eb.symm.trans eD2)
      have eb3 := k3 _ _ (by simpa using nbD) eb
      have mz := (hps z).mp (List.mem_of_getElem? hz)
      have inK : z.1 ∈ m.map (·.1) := hasA_iff.mp (by unfold hasA; rw [mz.2]; rfl)
      have step : ((ps.take (i + 1)).filter fun p => falseB p.1 p.2 wr).map (·.1) = ((ps.take i).filter fun p => falseB p.1 p.2 wr).map (·.1) ++ if falseB z.1 z.2 wr = true then [z.1] else [] := by
        rw [take_snoc hz, List.filter_append, List.map_append]
        congr 1
        by_cases c : falseB z.1 z.2 wr = true
        · simp [c]
        · simp [c]
      generalize ((ps.take i).filter fun p => falseB p.1 p.2 wr).map (·.1) = F at e3 step
      rw [step]
      refine r_gTup3 (x := .int z.1.1) (y := .int z.1.2) (z := .str z.2) (sqT_of eb3) ?_
      simp only [List.set_cons_zero, List.set_cons_succ]
      walk_at "sts"
      refine ⟨z.1.1, z.1.2, wr, z.2, rfl, ?_⟩
      cases tw : truthW (z.1.1, z.1.2) z.2 wr with
      | none =>
        have hf : falseB z.1 z.2 wr = false := by unfold falseB; rw [show truthW z.1 z.2 wr = none from tw]; rfl
        rw [if_neg (by rw [hf]; decide), List.append_nil]
        unfold oS
        walk_at "sts"
        exact ⟨_, _, _, by first | exact rfl | trivial, e3, k3⟩
      | some t =>
        have hf : falseB z.1 z.2 wr = true := by unfold falseB; rw [show truthW z.1 z.2 wr = some t from tw]; rfl
        rw [if_pos hf]
        unfold oS
        walk_at "sts"
        intro u hu
        have k4 : Keep [] H3 (upd H3 u (.tup [.int z.1.1, .int z.1.2])) := Keep.new hu
        have eu : upd H3 u (.tup [.int z.1.1, .int z.1.2]) u = some (cHO z.1) := upd_same
        have e4 : EndsAt (upd H3 u (.tup [.int z.1.1, .int z.1.2])) D (softF m F) := k4 _ _ (by simp) e3
        generalize upd H3 u (.tup [.int z.1.1, .int z.1.2]) = H4 at k4 eu e4 ⊢
        refine r_dputT e4 eu (lt_size (by rw [len_kvG]; unfold softF; rw [List.length_map]; have := va.len; omega)) ?_
        rw [show (V.str (Str.ofString "unsure")) = V.str wU from rfl, put_kvG, putA_softF inK]
        exact ⟨_, _, _, by first | exact rfl | trivial, upd_same, (k3.trans (k4.mono (by simp))).trans (Keep.at (by simp))⟩
    · rintro σ' H3 ⟨y3, y4, y5, rfl, e3, k3⟩
      rw [List.length_map, lap, List.take_length] at e3
      have eF : softF m ((ps.filter fun p => falseB p.1 p.2 wr).map (·.1)) = softT m L wr := by
        unfold softT
        refine softF_congr fun p hp => ?_
        have gp := getA_mem va.nd hp
        rw [falseC_iff, wordA_of va.nd hp]
        constructor
        · intro h
          obtain ⟨z, hz, e⟩ := List.mem_map.mp h
          obtain ⟨hz1, hz2⟩ := List.mem_filter.mp hz
          obtain ⟨mt, g⟩ := (hps z).mp hz1
          rw [e] at mt g
          have ew : z.2 = p.2 := by rw [gp] at g; exact (Option.some.inj g).symm
          refine ⟨mt, ?_⟩
          rw [← ew, ← e]; exact hz2
        · rintro ⟨mt, f⟩
          exact List.mem_map.mpr ⟨p, List.mem_filter.mpr ⟨(hps p).mpr ⟨mt, gp⟩, f⟩, rfl⟩
      rw [eF] at e3
      have vs := va.soft (wr := wr)
      have k23 : Keep [] H H3 := k1.dropNew ((k2.mono (by simp)).trans k3) nD
      have ex3 := k3 _ _ (by simpa using nxD) ex2
      clear eF k3 hps ha eq ex2 eD2 k12
      walk_at "sts"
      intro y dy hy hdy ne
      refine r_newTable hy hdy ne e3 vs fun H4 k4 tb => ?_
      exact qq y H4 (k23.trans k4) tb
end
/-! ### word_after and == -/
open Tab (Rn cnt)
def sV (s : List Nat) : V := .str (strL s)
def ForS (G : TG) (ts : TS) (D : L2.Ends) (σ : L2.St) (v : V) (H : Hp) : Prop := ∃ z, v = .str z ∧ ∃ W : Nat → Nat → L2.St → Hp → Prop, (∃ m, W 0 m σ H) ∧ ∀ i m σ H, W i m σ H →
  ((Its z).stop i H ∧ D.nx σ H) ∨ ((Its z).go i H ∧ ∃ N : L2.St → Hp → Prop, (∀ σ' H', N σ' H' → ∃ m', m' < m ∧ W (i + 1) m' σ' H') ∧ ∀ x H', (Its z).yld i H x H' → G x σ H' fun σ2 H2 => ts { D with nx := N, ct := N, bk := D.nx } σ2 H2)
section
variable {G : TG} {ts : TS} {D : L2.Ends} {σ : L2.St} {H : Hp} {tl : TE}
theorem r_forS (k : tl σ H fun x H1 => ForS G ts D σ x H1) : tFor (iStr tl) G ts D σ H := k
theorem forS_go {s : List Nat} (Pv : Nat → L2.St → Hp → Prop) (h0 : Pv 0 σ H) (hs : ∀ (i : Nat) c σ' H', s[i]? = some c → Pv i σ' H' → G (.str (strL [c])) σ' H' fun σ2 H2 => ts { D with nx := Pv (i + 1), ct := Pv (i + 1), bk := D.nx } σ2 H2)
    (hd : ∀ σ' H', Pv s.length σ' H' → D.nx σ' H') : ForS G ts D σ (.str (strL s)) H :=
  ⟨strL s, rfl, for_it (walk_str (z := strL s)) Pv h0 (fun _ _ _ _ _ => True.intro) (fun i x σ' H1 H' hi p ⟨e, c, hc, hx⟩ => by
    subst e; subst hx
    exact hs i c σ' _ (by simpa [strL] using hc) p) fun σ' H' p => hd σ' H' (by simpa [strL] using p)⟩
end
theorem Rn.pre {M : Ct → Bool} : ∀ {k : Nat} {s : List Nat}, Rn M k s → ∀ (i x : Nat), s[i]? = some x → (x = 114 ∨ x = 109) ∧ M (cnt (s.take i)) = false
  | 0, s, h, i, x, e => by
    have e0 : s = [] := h
    subst e0; simp at e
  | k + 1, s, ⟨t, y, rn, m, hy, es⟩, i, x, e => by
    subst es
    rcases Nat.lt_trichotomy i t.length with lt | eq | gt
    · rw [List.getElem?_append_left lt] at e
      have := Rn.pre rn i x e
      rwa [List.take_append_of_le_length (by omega)]
    · subst eq
      have ex : y = x := by simpa using e
      subst ex
      refine ⟨hy, ?_⟩
      rw [List.take_left' rfl]; exact m
    · rw [List.getElem?_eq_none (by simp; omega)] at e; cases e
theorem cnt_take {s : List Nat} {i x : Nat} (h : s[i]? = some x) : cnt (s.take (i + 1)) = Tab.one (cnt (s.take i)) x := by rw [take_snoc h, Tab.cnt_snoc]
theorem dget1T {m : Ends} {H : Hp} {p q : Addr} {c : Ct} (h : H p = some (.dT (kvG V.str m))) (hq : H q = some (cHO c)) : DGet H p (.ref q) ((getA m c).map V.str) := by
  have := DGet.t (k := ck c) h hq
  rw [val_kvG] at this
  exact this
theorem r_dget1 {td ty : TE} {σ : L2.St} {H : Hp} {Q : VK} (k : td σ H fun x H1 => ∃ a, x = .ref a ∧ IsD H1 a ∧ ty σ H1 fun y H2 => ∃ o, DGet H2 a y o ∧ Q (o.getD .non) H2) : tDGet1 td ty σ H Q := k
theorem oS_map {o : Option Str} : (o.map V.str).getD .non = oS o := by cases o <;> rfl
theorem r_inA {K : PySem.W.Frag} {x : V} {p : Addr} {xs : List V} {H : Hp} {Q : VK} (hq : SqL K H p xs ∨ SqT K H p xs) (fx : L2.flatV x = true) (fs : xs.all L2.flatV = true) (k : Q (.bl (L2.inV x xs)) H) : rIn K false x (.ref p) H Q := ⟨p, xs, rfl, hq, fx, fs, k⟩
theorem strL_inj {s t : List Nat} (h : strL s = strL t) : s = t := by
  have := congrArg (fun x : Str => x.cps.toList) h
  simpa [strL] using this
theorem inV_s {s : List Nat} {us : List (List Nat)} : L2.inV (.str (strL s)) (us.map sV) = true ↔ s ∈ us := by
  unfold L2.inV
  rw [List.any_map, List.any_eq_true]
  constructor
  · rintro ⟨u, hu, e⟩
    have e2 : strL u = strL s := by simpa [sV, Function.comp, L2.eqV] using e
    rw [← strL_inj e2]; exact hu
  · intro h; exact ⟨s, h, by simp [sV, Function.comp, L2.eqV]⟩
def spWord1 (C : Addr) : Sp := fun vs H Q _ => ∃ (x : Addr) (L : Nat) (m : Ends) (s : List Nat) (k : Nat), vs = [.ref x, .str (strL s)] ∧ TableAt C H x L m ∧ Rn (hasA m) k s ∧ k ≤ 12 ∧ ∀ H', Keep [] H H' → Q (oS (getA m (cnt s))) H'
section
variable {P : Program} {w : World} {K : PySem.W.Frag} {mg : Str → Option Value} {base : Heap}
theorem ok_word_after (T : Tx K mg) : FnOk P w K mg base CX0 1 T.f_Table_word_after T.fd_Table_word_after ["self", "tries"] (spWord1 T.C_Table) := by
  refine T.F_Table_word_after.ok sc_Table_word_after (fun vs H Q E h => ?_) (fun cdv A outer s H vs Q E hr h => ?_)
  · obtain ⟨x, L, m, s, k, rfl, _⟩ := h; rfl
  · obtain ⟨x, L, m, s, k, rfl, tab, rn, k12, qq⟩ := h
    obtain ⟨dx, d, ex, ed⟩ := id tab
    have oc := T.oc_Table
    have nm := T.na_Table_marks
    have sl := rn.len
    refine ⟨_, PSs.nox (pss_cons (ps_asg (pe_tup (pa_cons pe_int (pa_cons pe_int pa_nil))) (pg_tup (n := 2) rfl (pgs_cons (pg_name (i := 2) sc_Table_word_after.nd rfl (Or.inl rfl)) (pgs_cons (pg_name (i := 3) sc_Table_word_after.nd rfl (Or.inl rfl)) pgs_nil))))
    (pss_cons (ps_for PassesOwn.never rfl (pi_str (pv 1)) (pg_name (i := 4) sc_Table_word_after.nd rfl (Or.inl rfl))
    (pss_cons (ps_if (PW.pt (pw_or (pt_cmpR op_notIn_seq (pv 4) (pe_tup (pa_cons pe_str (pa_cons pe_str pa_nil))) (by rfl)) (pw_or1 (pt_cmp (pc_din (hu_of hr) (pe_tup (pa_cons (pv 2) (pa_cons (pv 3) pa_nil))) (pe_fld (pv 0) rfl))))))
    (pss_one ps_never)
    pss_nil)
    (pss_one (ps_if (pt_cmpR op_eq (pv 4) pe_str (nomark _))
    (pss_one (ps_aug (i := 2) sc_Table_word_after.nd rfl (Or.inl rfl) pe_int ip_add))
    (pss_one (ps_aug (i := 3) sc_Table_word_after.nd rfl (Or.inl rfl) pe_int ip_add))))))
    (pss_one (ps_ret (pe_dget1 (hu_of hr) (pe_fld (pv 0) rfl) (pe_tup (pa_cons (pv 2) (pa_cons (pv 3) pa_nil))) ⟨rfl, rfl, rfl, rfl⟩))))), ?_⟩
    walk_at "start"
    walk_at "sts"
    intro t0 ht0
    have k0 : Keep [] H (upd H t0 (.tup [.int 0, .int 0])) := Keep.new ht0
    have et0 : upd H t0 (.tup [.int 0, .int 0]) t0 = some (.tup [.int 0, .int 0]) := upd_same
    generalize upd H t0 (.tup [.int 0, .int 0]) = H0 at k0 et0 ⊢
    refine r_gTup2 (sqT_of et0) ?_
    simp only [List.set_cons_zero, List.set_cons_succ]
    walk_at "sts"
    refine r_forS ?_
    walk_at "sts"
    refine forS_go (fun i σ' H' => ∃ y4 : Option V, σ' = [some (.ref x), some (.str (strL s)), some (.int (cnt (s.take i)).1), some (.int (cnt (s.take i)).2), y4] ∧ Keep [] H H') ⟨_, by first | exact rfl | trivial, k0⟩ ?_ ?_
    · rintro i c σ' H1 hc ⟨y4, rfl, k1⟩
      obtain ⟨hx, hm⟩ := Rn.pre rn i c hc
      rw [cnt_take hc]
      generalize cnt (s.take i) = n at hm ⊢
      have ex1 := k1 _ _ (by simp) ex
      walk_at "sts"
      intro p hp
      have k2 : Keep [] H1 (upd H1 p (.tup [.str (strL [114]), .str (strL [109])])) := Keep.new hp
      have ep : upd H1 p (.tup [.str (strL [114]), .str (strL [109])]) p = some (.tup [.str (strL [114]), .str (strL [109])]) := upd_same
      rw [str_r, str_m]
      generalize upd H1 p (.tup [.str (strL [114]), .str (strL [109])]) = H2 at k2 ep ⊢
      have hin : L2.inV (.str (strL [c])) [.str (strL [114]), .str (strL [109])] = true := by
        rcases hx with rfl | rfl
        · exact inV_s (us := [[114], [109]]).mpr (by simp)
        · exact inV_s (us := [[114], [109]]).mpr (by simp)
      refine ⟨p, _, rfl, .inr (sqT_of ep), rfl, rfl, ?_⟩
      rw [hin, show (if (true : Bool) = true then !true else true) = false from rfl]
      walk_at "sts"
      intro u hu
      have k3 : Keep [] H2 (upd H2 u (.tup [.int n.1, .int n.2])) := Keep.new hu
      have eu : upd H2 u (.tup [.int n.1, .int n.2]) u = some (cHO n) := upd_same
      generalize upd H2 u (.tup [.int n.1, .int n.2]) = H3 at k3 eu ⊢
      have k13 := k1.trans (k2.trans k3)
      have ex3 := k13 _ _ (by simp) ex
      have ed3 : EndsAt H3 d m := k13 _ _ (by simp) ed
      walk_at "sts"
      refine r_dinT (f := V.str) ed3 eu ?_
      rw [hm, show id false = false from rfl]
      walk_at "sts"
      rcases hx with rfl | rfl
      · refine r_ite (fun c1 => ?_) (fun c1 => (c1 rfl).elim)
        refine r_augC rfl ?_
        simp only [List.set_cons_zero, List.set_cons_succ]
        exact ⟨_, by first | exact rfl | trivial, k13⟩
      · refine r_ite (fun c1 => absurd (strL_inj c1) (show ¬ ([109] : List Nat) = [114] by decide)) (fun c1 => ?_)
        refine r_augC rfl ?_
        simp only [List.set_cons_zero, List.set_cons_succ]
        exact ⟨_, by first | exact rfl | trivial, k13⟩
    · rintro σ' H1 ⟨y4, rfl, k1⟩
      rw [List.take_length]
      have ex1 := k1 _ _ (by simp) ex
      have ed1 : EndsAt H1 d m := k1 _ _ (by simp) ed
      walk_at "sts"
      refine r_dget1 ?_
      walk_at "sts"
      refine ⟨d, rfl, .inr ⟨_, .inl ed1⟩, ?_⟩
      walk_at "sts"
      intro u hu
      have k3 : Keep [] H1 (upd H1 u (.tup [.int (cnt s).1, .int (cnt s).2])) := Keep.new hu
      have eu : upd H1 u (.tup [.int (cnt s).1, .int (cnt s).2]) u = some (cHO (cnt s)) := upd_same
      have ed3 : EndsAt (upd H1 u (.tup [.int (cnt s).1, .int (cnt s).2])) d m := k3 _ _ (by simp) ed1
      refine ⟨_, dget1T ed3 eu, ?_⟩
      rw [oS_map]
      exact qq _ (k1.trans k3)
end
/-! ### ==, and what the law says of a dict and of a table -/
open Tab (Rn cnt)
theorem ends_ext : ∀ {m n : Ends}, m.map (·.1) = n.map (·.1) → (∀ (i : Nat) p q, m[i]? = some p → n[i]? = some q → p.2 = q.2) → m = n
  | [], [], _, _ => rfl
  | [], _ :: _, h, _ => by cases h
  | _ :: _, [], h, _ => by cases h
  | p :: m, q :: n, h, w => by
    rw [List.map_cons, List.map_cons, List.cons.injEq] at h
    have e1 : p = q := Prod.ext h.1 (w 0 p q rfl rfl)
    have e2 : m = n := ends_ext h.2 fun i a b ha hb => w (i + 1) a b (by simpa using ha) (by simpa using hb)
    rw [e1, e2]
theorem eqV_str {a b : Str} : L2.eqV (.str a) (.str b) = true ↔ a = b := by
  show (a == b) = true ↔ a = b
  exact beq_iff_eq
theorem r_lenT2 {H : Hp} {p : Addr} {m : Ends} {Q : VK} (h : H p = some (.dT (kvG V.str m))) (k : Q (.int m.length) H) : rLenT [.ref p] H Q := ⟨p, _, rfl, h, by rw [len_kvG]; exact k⟩
theorem r_eqEnds {H : Hp} {p q : Addr} {m n : Ends} {Q : VK} (hp : H p = some (.dT (kvG V.str m))) (hq : H q = some (.dT (kvG V.str n))) (hk : m.map (·.1) = n.map (·.1)) (k : Q (.bl (decide (m = n))) H) : Dt.rEqFlatT (.ref p) (.ref q) H Q := by
  have fl : ∀ (m : Ends), ∀ z ∈ kvG V.str m, L2.flatV z.2 = true := fun m z hz => by
    obtain ⟨y, _, rfl⟩ := List.mem_map.mp hz
    rfl
  have kk : (kvG V.str m).map (·.1) = (kvG V.str n).map (·.1) := by
    have e : ∀ (l : Ends), (kvG V.str l).map (·.1) = (l.map (·.1)).map ck := fun l => by unfold kvG; rw [List.map_map, List.map_map]; rfl
    rw [e, e, hk]
  have at_ : ∀ (l : Ends) (i : Nat) z, l[i]? = some z → (kvG V.str l)[i]? = some (ck z.1, V.str z.2) := fun l i z h => by unfold kvG; rw [List.getElem?_map, h]; rfl
  refine ⟨p, q, _, _, rfl, rfl, hp, hq, kk, fl m, fl n, fun all => ?_, fun i x y hx hy ne => ?_⟩
  · have e : m = n := ends_ext hk fun i a b ha hb => eqV_str.mp (all i _ _ (at_ m i a ha) (at_ n i b hb))
    rwa [decide_eq_true e] at k
  · obtain ⟨a, ha, _, ea⟩ := get_kvG (show (kvG V.str m)[i]? = some (x.1, x.2) from hx)
    obtain ⟨b, hb, _, eb⟩ := get_kvG (show (kvG V.str n)[i]? = some (y.1, y.2) from hy)
    have e : ¬ m = n := fun e => by
      subst e
      rw [ha] at hb
      cases hb
      rw [ea, eb] at ne
      rw [eqV_str.mpr rfl] at ne
      cases ne
    rwa [decide_eq_false e] at k
theorem eqV_dec {a b : Str} : L2.eqV (.str a) (.str b) = decide (b = a) := by
  show (a == b) = _
  rw [Bool.eq_iff_iff, beq_iff_eq, decide_eq_true_eq]; exact eq_comm
theorem ct_nodup_len : ∀ {l xs : List Ct}, l.Nodup → (∀ x ∈ l, x ∈ xs) → l.length ≤ xs.length
  | [], _, _, _ => Nat.zero_le _
  | x :: l, xs, n, h => by
    have hx := h x (by simp)
    have := ct_nodup_len (l := l) (xs := xs.erase x) (List.nodup_cons.mp n).2 fun y hy => (List.mem_erase_of_ne (fun e => (List.nodup_cons.mp n).1 (by rw [← e]; exact hy))).mpr (h y (by simp [hy]))
    rw [List.length_erase_of_mem hx] at this
    have := List.length_pos_of_mem hx
    rw [List.length_cons]; omega
theorem ct_sup {l xs : List Ct} (n : l.Nodup) (h : ∀ x ∈ l, x ∈ xs) (le : xs.length ≤ l.length) : ∀ x ∈ xs, x ∈ l := fun x hx => by
  by_cases e : x ∈ l
  · exact e
  · have := ct_nodup_len (l := x :: l) (xs := xs) (List.nodup_cons.mpr ⟨e, n⟩) fun y hy => by
      rcases List.mem_cons.mp hy with rfl | hy
      · exact hx
      · exact h y hy
    rw [List.length_cons] at this; omega
def sameB (m n : Ends) : Bool := Dt.mapEq (kvG V.str m) (kvG V.str n)
theorem eqB_iff {n : Ends} {p : Ct × Str} : Dt.eqB (kvG V.str n) (ck p.1, V.str p.2) = true ↔ getA n p.1 = some p.2 := by
  unfold Dt.eqB
  rw [val_kvG]
  cases e : getA n p.1 with
  | none => simp
  | some w =>
    show L2.eqV (.str p.2) (.str w) = true ↔ _
    rw [eqV_dec]
    simp
theorem sameB_iff {m n : Ends} (nm : (m.map (·.1)).Nodup) (nn : (n.map (·.1)).Nodup) : sameB m n = true ↔ ∀ c, getA m c = getA n c := by
  have all : sameB m n = true ↔ m.length = n.length ∧ ∀ p ∈ m, getA n p.1 = some p.2 := by
    unfold sameB Dt.mapEq
    rw [Bool.and_eq_true, decide_eq_true_eq, List.all_eq_true, len_kvG, len_kvG]
    refine and_congr Iff.rfl ⟨fun h p hp => ?_, fun h z hz => ?_⟩
    · exact eqB_iff.mp (h (ck p.1, V.str p.2) (List.mem_map.mpr ⟨p, hp, rfl⟩))
    · obtain ⟨p, hp, rfl⟩ := List.mem_map.mp hz
      exact eqB_iff.mpr (h p hp)
  rw [all]
  constructor
  · rintro ⟨le, h⟩ c
    have sub : ∀ x ∈ m.map (·.1), x ∈ n.map (·.1) := fun x hx => by
      obtain ⟨p, hp, rfl⟩ := List.mem_map.mp hx
      exact List.mem_map.mpr ⟨(p.1, p.2), mem_getA (h p hp), rfl⟩
    have sup := ct_sup nm sub (by rw [List.length_map, List.length_map]; omega)
    cases e : getA m c with
    | some w => exact (h (c, w) (mem_getA e)).symm
    | none =>
      cases e2 : getA n c with
      | none => rfl
      | some w =>
        have := hasA_iff.mpr (sup c (List.mem_map.mpr ⟨(c, w), mem_getA e2, rfl⟩))
        unfold hasA at this
        rw [e] at this; cases this
  · intro h
    have kk : ∀ c, c ∈ m.map (·.1) ↔ c ∈ n.map (·.1) := fun c => by
      rw [← hasA_iff, ← hasA_iff]; unfold hasA; rw [h c]
    have l1 := ct_nodup_len nm fun x hx => (kk x).mp hx
    have l2 := ct_nodup_len nn fun x hx => (kk x).mpr hx
    rw [List.length_map, List.length_map] at l1 l2
    exact ⟨by omega, fun p hp => by rw [← h]; exact getA_mem nm hp⟩
theorem flat_kv {m : Ends} : ∀ z ∈ kvG V.str m, L2.flatV z.2 = true := fun z hz => by
  obtain ⟨y, _, rfl⟩ := List.mem_map.mp hz
  rfl
theorem r_eqM {H : Hp} {p q : Addr} {m n : Ends} {Q : VK} (hp : Rd H p (.dT (kvG V.str m))) (hq : Rd H q (.dT (kvG V.str n))) (k : Q (.bl (sameB m n)) H) : Dt.rCmpM false (.ref p) (.ref q) H Q := ⟨p, q, _, _, rfl, rfl, hp, hq, flat_kv, flat_kv, k⟩
theorem r_neM {H : Hp} {p q : Addr} {m n : Ends} {Q : VK} (hp : Rd H p (.dT (kvG V.str m))) (hq : Rd H q (.dT (kvG V.str n))) (k : Q (.bl (!sameB m n)) H) : Dt.rCmpM true (.ref p) (.ref q) H Q := ⟨p, q, _, _, rfl, rfl, hp, hq, flat_kv, flat_kv, k⟩
def spEq (C : Addr) : Sp := fun vs H Q _ => ∃ (x y : Addr) (L L2 : Nat) (m n : Ends), vs = [.ref x, .ref y] ∧ TableAt C H x L m ∧ TableAt C H y L2 n ∧ Q (.bl (decide (L = L2) && sameB m n)) H
section
variable {P : Program} {w : World} {K : PySem.W.Frag} {mg : Str → Option Value} {base : Heap}
theorem ok_eq (T : Tx K mg) : FnOk P w K mg base CX0 1 T.f_Table___eq T.fd_Table___eq ["self", "other"] (spEq T.C_Table) := by
  refine T.F_Table___eq.ok sc_Table___eq (fun vs H Q E h => ?_) (fun cdv A outer s H vs Q E hr h => ?_)
  · obtain ⟨x, y, L, L2, m, n, rfl, _⟩ := h; rfl
  · obtain ⟨x, y, L, L2, m, n, rfl, ⟨dx, d, ex, ed⟩, ⟨dy, e, ey, ee⟩, qq⟩ := h
    have oc := T.oc_Table
    have nl := T.na_Table_limit
    have nm := T.na_Table_marks
    refine ⟨_, PSs.nox (pss_one (ps_ret (pe_and (pe_callB call_isi (by rfl) T.m_isinstance (by decide +kernel) (pa_cons (pv 1) (pa_cons (pe_glob (v := .ref T.C_Table) rfl T.gC_Table rfl) pa_nil))) (pe_and (pe_cmpR op_eq (pe_fld (pv 0) rfl) (pe_fld (pv 1) rfl) (nomark _)) (pe_one (pe_cmpR (Dt.op_eqM (Nat.lt_of_le_of_lt (Nat.add_le_add_left (by decide : 1 ≤ 64) _) hr.units)) (pe_fld (pv 0) rfl) (pe_fld (pv 1) rfl) (nomark _))))))), ?_⟩
    walk_at "start"
    walk_at "sts"
    refine Ow.r_isiOwn oc ey ?_
    walk_at "sts"
    refine r_ite (fun c1 => ?_) (fun c1 => ?_)
    · rw [decide_eq_true (by omega), Bool.true_and] at qq
      walk_at "sts"
      exact r_eqM (.inl ed) (.inl ee) qq
    · rw [decide_eq_false (by omega), Bool.false_and] at qq
      walk_at "sts"
      exact qq
end
/-- the same map, whatever the order -/
def Same (m n : Ends) : Prop := m.length = n.length ∧ ∀ p ∈ m, getA n p.1 = some p.2
def spDictRight : Sp := fun vs H Q _ => ∃ (p q : Addr) (m n : Ends), vs = [.ref p, .ref q] ∧ EndsAt H p m ∧ EndsAt H q n ∧ (m.map (·.1)).Nodup ∧ Same m n ∧ p ≠ q ∧ ∀ H', Keep [] H H' → Q (.bl true) H'
def spIs (C : Addr) : Sp := fun vs H Q _ => ∃ (x d : Addr) (L : Nat) (m n : Ends), vs = [.ref x, .int L, .ref d] ∧ TableAt C H x L m ∧ EndsAt H d n ∧ Valid L m ∧ Same m n ∧ ∀ H', Keep [] H H' → Q (.bl true) H'
section
variable {P : Program} {w : World} {K : PySem.W.Frag} {mg : Str → Option Value} {base : Heap}
theorem ok_dict_right (T : Tx K mg) (G_w_is_integer : FnOk P w K mg base CX0 1 T.f_w_is_integer T.fd_w_is_integer ["_law_value"] spIsInt) : FnOk P w K mg base CX0 2 T.f_w_dict_right T.fd_w_dict_right ["_law_told", "_law_ends"] spDictRight := by
  refine T.F_w_dict_right.ok sc_w_dict_right (fun vs H Q E h => ?_) (fun cdv A outer s H vs Q E hr h => ?_)
  · obtain ⟨p, q, m, n, rfl, _⟩ := h; rfl
  · obtain ⟨p, q, m, n, rfl, ep, eq, nd, ⟨sl, sg⟩, npq, qq⟩ := h
    have epd : H p = some (.dT (kvG V.str m)) := ep
    have eqd : H q = some (.dT (kvG V.str n)) := eq
    refine ⟨_, (pss_cons (ps_if (PW.pt (pw_or (pt_not (pt_val (pe_callB call_isi (by rfl) T.m_isinstance (by decide +kernel) (pa_cons (pv 0) (pa_cons (pe_bltn (v := .ty "dict") (by rfl) T.m_dict (by decide +kernel) rfl) pa_nil))))) (pw_or1 (pt_cmpR op_ne (pe_callB call_len_dT (by rfl) T.m_len PySem.boot_len (pa_cons (pv 0) pa_nil)) (pe_callB call_len_dT (by rfl) T.m_len PySem.boot_len (pa_cons (pv 1) pa_nil)) (nomark _)))))
    (pss_one (ps_ret pe_bl))
    pss_nil)
    (pss_cons (ps_lock (ps_for PassesOwn.never rfl (pi_keys (pv 0)) (pg_name (i := 2) sc_w_dict_right.nd rfl (Or.inl rfl))
    (pss_cons (ps_if (PW.pt (pw_or (pt_not (pt_val (pe_callB call_isi (by rfl) T.m_isinstance (by decide +kernel) (pa_cons (pv 2) (pa_cons (pe_bltn (v := .ty "tuple") (by rfl) T.m_tuple (by decide +kernel) rfl) pa_nil))))) (pw_or1 (pt_cmpR op_ne (pe_callB call_len_seq (by rfl) T.m_len PySem.boot_len (pa_cons (pv 2) pa_nil)) pe_int (nomark _)))))
    (pss_one (ps_ret pe_bl))
    pss_nil)
    (pss_cons (ps_if (PW.pt (pw_or (pt_not (pt_val (pe_call G_w_is_integer (hr.mono (by decide)) rfl T.g_w_is_integer T.F_w_is_integer.kp T.b_w_is_integer .nil pass0 (pa_cons (pe_ix ix_tup (pv 2) pe_int (fun _ _ => rfl)) pa_nil)))) (pw_or1 (pt_not (pt_val (pe_call G_w_is_integer (hr.mono (by decide)) rfl T.g_w_is_integer T.F_w_is_integer.kp T.b_w_is_integer .nil pass0 (pa_cons (pe_ix ix_tup (pv 2) pe_int (fun _ _ => rfl)) pa_nil)))))))
    (pss_one (ps_ret pe_bl))
    pss_nil)
    (pss_one (ps_if (PW.pt (pw_or (pt_cmp (pc_dnotin (hu_of hr) (pv 2) (pv 1))) (pw_or1 (pt_cmpR op_ne (pe_dget (hu_of hr) (pv 0) (pv 2) (fun _ _ => rfl)) (pe_dget (hu_of hr) (pv 1) (pv 2) (fun _ _ => rfl)) (nomark _)))))
    (pss_one (ps_ret pe_bl))
    pss_nil))))))
    (pss_one (ps_ret pe_bl)))), ?_⟩
    walk_at "start"
    walk_at "sts"
    refine r_isi (.base (.dT epd)) kit_dd ?_
    walk_at "sts"
    refine r_lenT2 epd ?_
    walk_at "sts"
    refine r_lenT2 eqd ?_
    rw [sl]
    walk_at "sts"
    refine forKT_go epd (fun od Q' hQ => r_var rfl hQ) (fun od i σ' H' => ∃ y2 : Option V, σ' = [some (.ref p), some (.ref q), y2] ∧ H' = upd H p (.frz od (.dT (kvG V.str m)))) (fun od => ⟨_, by first | exact rfl | trivial, rfl⟩) (fun od i σ' H' h => by obtain ⟨_, _, rfl⟩ := h; exact upd_same) ?_ ?_
    · rintro od i k v u σ' H' at1 tup ⟨y2, rfl, rfl⟩
      obtain ⟨z, hz, rfl, rfl⟩ := get_kvG at1
      have mz := List.mem_of_getElem? hz
      have gz := getA_mem nd mz
      have gn := sg z mz
      have hz2 : hasA n z.1 = true := by unfold hasA; rw [gn]; rfl
      have ep1 : upd H p (.frz od (.dT (kvG V.str m))) p = some (.frz od (.dT (kvG V.str m))) := upd_same
      have eq1 : upd H p (.frz od (.dT (kvG V.str m))) q = some (.dT (kvG V.str n)) := by rw [upd_ne (Ne.symm npq)]; exact eq
      have tup2 : upd H p (.frz od (.dT (kvG V.str m))) u = some (cHO z.1) := tup
      have tup3 : upd H p (.frz od (.dT (kvG V.str m))) u = some (.tup [.int z.1.1, .int z.1.2]) := tup
      have back : upd (upd H p (.frz od (.dT (kvG V.str m)))) p (.dT (kvG V.str m)) = H := upd_back ep
      generalize hH : upd H p (.frz od (.dT (kvG V.str m))) = H1 at ep1 eq1 tup2 tup3 back ⊢
      walk_at "sts"
      refine ⟨_, rfl, ?_⟩
      walk_at "sts"
      refine ⟨_, rfl, ?_⟩
      walk_at "sts"
      refine r_dinT (f := V.str) (g := fun b => !b) eq1 tup2 ?_
      rw [hz2, Bool.not_true]
      walk_at "sts"
      refine ⟨p, _, rfl, dgetTL (f := V.str) ep1 tup2 gz, ?_⟩
      walk_at "sts"
      refine ⟨q, _, rfl, dgetT (f := V.str) eq1 tup2 gn, ?_⟩
      walk_at "sts"
      exact ⟨_, by first | exact rfl | trivial, rfl⟩
    · rintro od σ' H' ⟨y2, rfl, rfl⟩
      rw [upd_back ep]
      walk_at "sts"
      exact qq H (Keep.refl _ _)
theorem ok_is (T : Tx K mg) (G_w_is_integer : FnOk P w K mg base CX0 1 T.f_w_is_integer T.fd_w_is_integer ["_law_value"] spIsInt) (G_w_dict_right : FnOk P w K mg base CX0 2 T.f_w_dict_right T.fd_w_dict_right ["_law_told", "_law_ends"] spDictRight)
    (G_Table_ends : FnOk P w K mg base CX0 1 T.f_Table_ends T.fd_Table_ends ["self"] (spEnds T.C_Table)) : FnOk P w K mg base CX0 3 T.f_w_is T.fd_w_is ["_law_table", "_law_limit_here", "_law_ends"] (spIs T.C_Table) := by
  refine T.F_w_is.ok sc_w_is (fun vs H Q E h => ?_) (fun cdv A outer s H vs Q E hr h => ?_)
  · obtain ⟨x, d, L, m, n, rfl, _⟩ := h; rfl
  · obtain ⟨x, d, L, m, n, rfl, tab, ed, va, sm, qq⟩ := h
    obtain ⟨dx, d0, ex, ed0⟩ := id tab
    have oc := T.oc_Table
    have nl := T.na_Table_limit
    refine ⟨_, (pss_cons (ps_if (PW.pt (pw_or (pt_not (pt_val (pe_callB call_isi (by rfl) T.m_isinstance (by decide +kernel) (pa_cons (pv 0) (pa_cons (pe_glob (v := .ref T.C_Table) rfl T.gC_Table rfl) pa_nil))))) (pw_or (pt_not (pt_val (pe_call G_w_is_integer (hr.mono (by decide)) rfl T.g_w_is_integer T.F_w_is_integer.kp T.b_w_is_integer .nil pass0 (pa_cons (pe_fld (pv 0) rfl) pa_nil)))) (pw_or1 (pt_cmpR op_ne (pe_fld (pv 0) rfl) (pv 1) (nomark _))))))
    (pss_one (ps_ret pe_bl))
    pss_nil)
    (pss_cons (ps_set (i := 3) sc_w_is.nd rfl (Or.inl rfl) (pe_meth0 (pv 0) T.oc_Table.cl T.me_Table_ends G_Table_ends (hr.mono (by decide)) T.b_Table_ends .nil pass0))
    (pss_cons (ps_if (pt_not (pt_val (pe_call G_w_dict_right (hr.mono (by decide)) rfl T.g_w_dict_right T.F_w_dict_right.kp T.b_w_dict_right .nil pass0 (pa_cons (pv 3) (pa_cons (pv 2) pa_nil)))))
    (pss_one (ps_ret pe_bl))
    pss_nil)
    (pss_cons (ps_expr (Dt.pe_dclearT (pv 3)))
    (pss_one (ps_ret (pe_call G_w_dict_right (hr.mono (by decide)) rfl T.g_w_dict_right T.F_w_dict_right.kp T.b_w_dict_right .nil pass0 (pa_cons (pe_meth0 (pv 0) T.oc_Table.cl T.me_Table_ends G_Table_ends (hr.mono (by decide)) T.b_Table_ends .nil pass0) (pa_cons (pv 2) pa_nil))))))))), ?_⟩
    walk_at "start"
    walk_at "sts"
    refine Ow.r_isiOwn oc ex ?_
    walk_at "sts"
    refine ⟨_, rfl, ?_⟩
    walk_at "sts"
    refine ⟨x, L, m, rfl, tab, va, fun D H1 k1 nD eD => ?_⟩
    have ed1 : EndsAt H1 d n := k1 _ _ (by simp) ed
    have ex1 := k1 _ _ (by simp) ex
    have nDd : D ≠ d := by rintro rfl; cases (nD.symm.trans ed)
    walk_at "sts"
    refine ⟨D, d, m, n, rfl, eD, ed1, va.nd, sm, nDd, fun H2 k2 => ?_⟩
    have eD2 : H2 D = some (.dT (kvG V.str m)) := k2 _ _ (by simp) eD
    walk_at "sts"
    refine r_bm0 ?_
    walk_at "sts"
    have nDx : x ≠ D := by rintro rfl; cases (ex1.symm.trans eD)
    have tab2 : TableAt T.C_Table H2 x L m := (tab.keep0 k1).keep0 k2
    have k12 : Keep [] H H2 := k1.trans k2
    have k3 : Keep [] H (upd H2 D (.dT [])) := k12.mut nD
    have tab3 := tab.keep0 k3
    have ed3 : EndsAt (upd H2 D (.dT [])) d n := k3 _ _ (by simp) ed
    refine ⟨?ty, D, _, rfl, rfl, eD2, ?_⟩
    case ty => exact .inr (.inr (.inl ⟨rfl, .inr ⟨_, eD2⟩⟩))
    generalize upd H2 D (.dT []) = H3 at k3 tab3 ed3 ⊢
    clear tab2 k12 k1 k2 eD2 eD ed1 ex1
    obtain ⟨dx3, d3, ex3, ed03⟩ := id tab3
    walk_at "sts"
    refine ⟨x, L, m, rfl, tab3, va, fun D4 H4 k4 nD4 eD4 => ?_⟩
    have ed4 : EndsAt H4 d n := k4 _ _ (by simp) ed3
    have nDd4 : D4 ≠ d := by rintro rfl; cases (nD4.symm.trans ed3)
    walk_at "sts"
    exact ⟨D4, d, m, n, rfl, eD4, ed4, va.nd, sm, nDd4, fun H5 k5 => qq H5 (k3.trans (k4.trans k5))⟩
end
/-! ### the marks of the quickest table -/
open Tab (Rn cnt Mt)
section
variable {α : Type} (g : Ct → Option α)
def Suc (d x : Ct) : Prop := x = (d.1 + 1, d.2) ∨ x = (d.1, d.2 + 1)
def stG (st : List (Ct × α) × List Ct) (x : Ct) : List (Ct × α) × List Ct :=
  match g x with
  | some y => (putA st.1 x y, st.2)
  | none => (st.1, Tab.addC st.2 x)
def stD (st : List (Ct × α) × List Ct) (d : Ct) : List (Ct × α) × List Ct := stG g (stG g st (d.1 + 1, d.2)) (d.1, d.2 + 1)
def lvG : Nat → List (Ct × α) × List Ct
  | 0 => ([], [(0, 0)])
  | k + 1 => (lvG k).2.foldl (stD g) ((lvG k).1, [])
def Cons (st : List (Ct × α) × List Ct) : Prop := ∀ z y, getA st.1 z = some y → g z = some y
variable {g}
theorem stG_get {st : List (Ct × α) × List Ct} {x z : Ct} {y : α} (h : Cons g st) : getA (stG g st x).1 z = some y ↔ getA st.1 z = some y ∨ (z = x ∧ g z = some y) := by
  unfold stG
  cases e : g x with
  | none =>
    refine ⟨.inl, fun h => h.elim id fun ⟨a, b⟩ => ?_⟩
    subst a; rw [e] at b; cases b
  | some w =>
    show getA (putA st.1 x w) z = some y ↔ _
    rw [getA_putA]
    by_cases c : z = x
    · subst c
      rw [if_pos rfl, e]
      refine ⟨fun h => .inr ⟨rfl, h⟩, fun q => q.elim (fun a => ?_) (·.2)⟩
      rw [← e]; exact h _ _ a
    · rw [if_neg c]
      exact ⟨.inl, fun h => h.elim id fun ⟨a, _⟩ => (c a).elim⟩
theorem stG_cons {st : List (Ct × α) × List Ct} {x : Ct} (h : Cons g st) : Cons g (stG g st x) := fun z y e => ((stG_get h).mp e).elim (h z y) (·.2)
theorem stG_mem {st : List (Ct × α) × List Ct} {x z : Ct} : z ∈ (stG g st x).2 ↔ z ∈ st.2 ∨ (z = x ∧ g z = none) := by
  unfold stG
  cases e : g x with
  | none =>
    show z ∈ Tab.addC st.2 x ↔ _
    rw [Tab.mem_addC]
    refine or_congr Iff.rfl ⟨fun h => ⟨h, by rw [h]; exact e⟩, (·.1)⟩
  | some w =>
    refine ⟨.inl, fun h => h.elim id fun ⟨a, b⟩ => ?_⟩
    subst a; rw [e] at b; cases b
theorem stG_nd {st : List (Ct × α) × List Ct} {x : Ct} (h : (st.1.map (·.1)).Nodup) : ((stG g st x).1.map (·.1)).Nodup := by
  unfold stG
  split
  · exact putA_nodup h
  · exact h
theorem stG_len {st : List (Ct × α) × List Ct} {x : Ct} : (stG g st x).1.length ≤ st.1.length + 1 ∧ (stG g st x).2.length ≤ st.2.length + 1 := by
  unfold stG
  split
  · exact ⟨putA_len, by simp⟩
  · refine ⟨by simp, ?_⟩
    show (Tab.addC st.2 x).length ≤ _
    unfold Tab.addC
    split <;> simp
theorem fold_len : ∀ {xs : List Ct} {st : List (Ct × α) × List Ct}, (xs.foldl (stG g) st).1.length ≤ st.1.length + xs.length ∧ (xs.foldl (stG g) st).2.length ≤ st.2.length + xs.length
  | [], st => by simp
  | x :: xs, st => by
    rw [List.foldl_cons]
    have := fold_len (xs := xs) (st := stG g st x)
    have := stG_len (g := g) (st := st) (x := x)
    simp only [List.length_cons]; omega
theorem stD_fold {st : List (Ct × α) × List Ct} {d : Ct} : ([(d.1 + 1, d.2), (d.1, d.2 + 1)] : List Ct).foldl (stG g) st = stD g st d := rfl
theorem foldD_len : ∀ {xs : List Ct} {st : List (Ct × α) × List Ct}, (xs.foldl (stD g) st).1.length ≤ st.1.length + 2 * xs.length ∧ (xs.foldl (stD g) st).2.length ≤ st.2.length + 2 * xs.length
  | [], st => by simp
  | x :: xs, st => by
    rw [List.foldl_cons]
    have := foldD_len (xs := xs) (st := stD g st x)
    have := stG_len (g := g) (st := st) (x := (x.1 + 1, x.2))
    have := stG_len (g := g) (st := stG g st (x.1 + 1, x.2)) (x := (x.1, x.2 + 1))
    unfold stD at *
    simp only [List.length_cons]; omega
theorem lvG_len : ∀ {k : Nat}, (lvG g k).1.length ≤ 2 * 2 ^ k ∧ (lvG g k).2.length ≤ 2 ^ k
  | 0 => by simp [lvG]
  | k + 1 => by
    unfold lvG
    have h1 := foldD_len (g := g) (xs := (lvG g k).2) (st := ((lvG g k).1, []))
    have h2 := lvG_len (k := k)
    simp only [List.length_nil] at h1
    rw [Nat.pow_succ]; omega
theorem stD_cons {st : List (Ct × α) × List Ct} {d : Ct} (h : Cons g st) : Cons g (stD g st d) := stG_cons (stG_cons h)
theorem stD_nd {st : List (Ct × α) × List Ct} {d : Ct} (h : (st.1.map (·.1)).Nodup) : ((stD g st d).1.map (·.1)).Nodup := stG_nd (stG_nd h)
theorem lvG_cons0 {st : List (Ct × α)} {cs : List Ct} {ds : List Ct} (h : Cons g (st, cs)) : Cons g (st, ds) := h
theorem foldD_cons : ∀ {xs : List Ct} {st : List (Ct × α) × List Ct}, Cons g st → Cons g (xs.foldl (stD g) st)
  | [], _, h => h
  | _ :: xs, _, h => foldD_cons (xs := xs) (stD_cons h)
theorem foldD_nd : ∀ {xs : List Ct} {st : List (Ct × α) × List Ct}, (st.1.map (·.1)).Nodup → ((xs.foldl (stD g) st).1.map (·.1)).Nodup
  | [], _, h => h
  | _ :: xs, _, h => foldD_nd (xs := xs) (stD_nd h)
theorem foldD_get {z : Ct} {y : α} : ∀ {xs : List Ct} {st : List (Ct × α) × List Ct}, Cons g st → (getA (xs.foldl (stD g) st).1 z = some y ↔ getA st.1 z = some y ∨ (g z = some y ∧ ∃ d ∈ xs, Suc d z))
  | [], st, _ => by simp
  | d :: xs, st, h => by
    rw [List.foldl_cons, foldD_get (stD_cons h)]
    unfold stD
    rw [stG_get (stG_cons h), stG_get h]
    simp only [List.mem_cons, exists_eq_or_imp, Suc]
    constructor
    · rintro (((a | ⟨a, b⟩) | ⟨a, b⟩) | ⟨a, b⟩)
      · exact .inl a
      · exact .inr ⟨b, .inl (.inl a)⟩
      · exact .inr ⟨b, .inl (.inr a)⟩
      · exact .inr ⟨a, .inr b⟩
    · rintro (a | ⟨b, (a | a) | a⟩)
      · exact .inl (.inl (.inl a))
      · exact .inl (.inl (.inr ⟨a, b⟩))
      · exact .inl (.inr ⟨a, b⟩)
      · exact .inr ⟨b, a⟩
theorem foldD_mem {z : Ct} : ∀ {xs : List Ct} {st : List (Ct × α) × List Ct}, z ∈ (xs.foldl (stD g) st).2 ↔ z ∈ st.2 ∨ (g z = none ∧ ∃ d ∈ xs, Suc d z)
  | [], st => by simp
  | d :: xs, st => by
    rw [List.foldl_cons, foldD_mem]
    unfold stD
    rw [stG_mem, stG_mem]
    simp only [List.mem_cons, exists_eq_or_imp, Suc]
    constructor
    · rintro (((a | ⟨a, b⟩) | ⟨a, b⟩) | ⟨a, b⟩)
      · exact .inl a
      · exact .inr ⟨b, .inl (.inl a)⟩
      · exact .inr ⟨b, .inl (.inr a)⟩
      · exact .inr ⟨a, .inr b⟩
    · rintro (a | ⟨b, (a | a) | a⟩)
      · exact .inl (.inl (.inl a))
      · exact .inl (.inl (.inr ⟨a, b⟩))
      · exact .inl (.inr ⟨a, b⟩)
      · exact .inr ⟨b, a⟩
theorem lvG_cons : ∀ {k : Nat}, Cons g (lvG g k)
  | 0 => fun z y h => by cases h
  | k + 1 => by unfold lvG; exact foldD_cons (lvG_cons0 (cs := (lvG g k).2) lvG_cons)
theorem lvG_nd : ∀ {k : Nat}, ((lvG g k).1.map (·.1)).Nodup
  | 0 => by simp [lvG]
  | k + 1 => by unfold lvG; exact foldD_nd (st := ((lvG g k).1, [])) lvG_nd
theorem isSome_no {c : Ct} : (g c).isSome = false ↔ g c = none := by cases g c <;> simp
theorem lvG_mem (h0 : g (0, 0) = none) : ∀ {k : Nat} {x : Ct}, x ∈ (lvG g k).2 ↔ Mt (fun c => (g c).isSome) k x ∧ g x = none
  | 0, x => by
    unfold lvG Mt
    simp only [List.mem_singleton]
    exact ⟨fun h => ⟨h, by rw [h]; exact h0⟩, (·.1)⟩
  | k + 1, x => by
    unfold lvG
    rw [foldD_mem]
    simp only [List.not_mem_nil, false_or, Mt]
    constructor
    · rintro ⟨a, d, hd, s⟩
      have := (lvG_mem h0).mp hd
      exact ⟨⟨d, this.1, isSome_no.mpr this.2, s⟩, a⟩
    · rintro ⟨⟨d, m, n, s⟩, a⟩
      exact ⟨a, d, (lvG_mem h0).mpr ⟨m, isSome_no.mp n⟩, s⟩
theorem lvG_get (h0 : g (0, 0) = none) {y : α} : ∀ {k : Nat} {x : Ct}, getA (lvG g k).1 x = some y ↔ g x = some y ∧ ∃ j, j ≤ k ∧ Mt (fun c => (g c).isSome) j x
  | 0, x => by
    constructor
    · intro h; cases h
    · rintro ⟨a, j, hj, m⟩
      obtain rfl : j = 0 := by omega
      have e : x = (0, 0) := m
      subst e; rw [h0] at a; cases a
  | k + 1, x => by
    unfold lvG
    rw [foldD_get (st := ((lvG g k).1, [])) (lvG_cons0 (cs := (lvG g k).2) lvG_cons)]
    show getA (lvG g k).1 x = some y ∨ _ ↔ _
    rw [lvG_get h0]
    constructor
    · rintro (⟨a, j, hj, m⟩ | ⟨a, d, hd, s⟩)
      · exact ⟨a, j, by omega, m⟩
      · have := (lvG_mem h0).mp hd
        exact ⟨a, k + 1, Nat.le_refl _, d, this.1, isSome_no.mpr this.2, s⟩
    · rintro ⟨a, j, hj, m⟩
      by_cases e : j = k + 1
      · subst e
        obtain ⟨d, m, n, s⟩ := m
        exact .inr ⟨a, d, (lvG_mem h0).mpr ⟨m, isSome_no.mp n⟩, s⟩
      · exact .inl ⟨a, j, by omega, m⟩
end
def raceG (wr : Int) (L : Nat) (c : Ct) : Option Str := if wr < c.1 then some wR else if wr < c.2 then some wM else if c.1 + c.2 = (L : Int) then some wU else none
def Bx (wr : Int) (L : Nat) (c : Ct) : Prop := 0 ≤ c.1 ∧ 0 ≤ c.2 ∧ c.1 + c.2 ≤ (L : Int) ∧ ((c.1 ≤ wr ∧ c.2 ≤ wr) ∨ (c.1 = wr + 1 ∧ c.2 ≤ wr) ∨ (c.2 = wr + 1 ∧ c.1 ≤ wr))
def DueQ (wr : Int) (L : Nat) (c : Ct) (y : Str) : Prop := Bx wr L c ∧ raceG wr L c = some y
structure QT (wr : Int) (L : Nat) (m : Ends) : Prop where
  nd : (m.map (·.1)).Nodup
  get : ∀ c y, getA m c = some y ↔ DueQ wr L c y
theorem raceG_r {wr : Int} {L : Nat} {c : Ct} (h : wr < c.1) : raceG wr L c = some wR := if_pos h
theorem raceG_m {wr : Int} {L : Nat} {c : Ct} (h : ¬ wr < c.1) (h2 : wr < c.2) : raceG wr L c = some wM := by unfold raceG; rw [if_neg h, if_pos h2]
theorem raceG_u {wr : Int} {L : Nat} {c : Ct} (h : ¬ wr < c.1) (h2 : ¬ wr < c.2) (h3 : c.1 + c.2 = (L : Int)) : raceG wr L c = some wU := by unfold raceG; rw [if_neg h, if_neg h2, if_pos h3]
theorem raceG_n {wr : Int} {L : Nat} {c : Ct} (h : ¬ wr < c.1) (h2 : ¬ wr < c.2) (h3 : ¬ c.1 + c.2 = (L : Int)) : raceG wr L c = none := by unfold raceG; rw [if_neg h, if_neg h2, if_neg h3]
theorem raceG_none {wr : Int} {L : Nat} {c : Ct} : raceG wr L c = none ↔ c.1 ≤ wr ∧ c.2 ≤ wr ∧ c.1 + c.2 ≠ (L : Int) := by
  by_cases h : wr < c.1
  · rw [raceG_r h]; exact ⟨fun e => (by cases e), fun e => (by omega)⟩
  · by_cases h2 : wr < c.2
    · rw [raceG_m h h2]; exact ⟨fun e => (by cases e), fun e => (by omega)⟩
    · by_cases h3 : c.1 + c.2 = (L : Int)
      · rw [raceG_u h h2 h3]; exact ⟨fun e => (by cases e), fun e => (e.2.2 h3).elim⟩
      · rw [raceG_n h h2 h3]; exact ⟨fun _ => ⟨by omega, by omega, h3⟩, fun _ => rfl⟩
/-- M is as a quickest table has it, in the box -/
def BM (wr : Int) (L : Nat) (M : Ct → Bool) : Prop := ∀ c, Bx wr L c → (M c = false ↔ c.1 ≤ wr ∧ c.2 ≤ wr ∧ c.1 + c.2 ≠ (L : Int))
theorem bm_race {wr : Int} {L : Nat} : BM wr L (fun c => (raceG wr L c).isSome) := fun c _ => by
  show (raceG wr L c).isSome = false ↔ _
  rw [isSome_no, raceG_none]
theorem QT.bm {wr : Int} {L : Nat} {m : Ends} (h : QT wr L m) : BM wr L (hasA m) := fun c b => by
  rw [← raceG_none]
  unfold hasA
  cases e : getA m c with
  | none =>
    refine ⟨fun _ => ?_, fun _ => rfl⟩
    cases e2 : raceG wr L c with
    | none => rfl
    | some y => have := (h.get c y).mpr ⟨b, e2⟩; rw [e] at this; cases this
  | some y =>
    have := ((h.get c y).mp e).2
    rw [this]; simp
theorem BM.bx {wr : Int} {L : Nat} {M : Ct → Bool} (h : BM wr L M) (w0 : 0 ≤ wr) : ∀ {j : Nat} {c : Ct}, j ≤ L → Mt M j c → Bx wr L c
  | 0, c, _, m => by
    have e : c = (0, 0) := m
    subst e
    exact ⟨by decide, by decide, by show (0 : Int) + 0 ≤ L; omega, .inl ⟨w0, w0⟩⟩
  | j + 1, c, hj, m => by
    have sm := m.sum
    obtain ⟨d, md, n, s⟩ := m
    have b := h.bx w0 (by omega) md
    have b2 := (h d b).mp n
    unfold Bx
    rcases s with rfl | rfl
    · simp only at sm ⊢; omega
    · simp only at sm ⊢; omega
theorem BM.mt {wr : Int} {L : Nat} {M : Ct → Bool} (h : BM wr L M) : ∀ {j : Nat} {c : Ct}, Bx wr L c → c.1 + c.2 = (j : Int) → Mt M j c
  | 0, c, b, e => by
    unfold Bx at b
    show c = (0, 0)
    exact Prod.ext (by show c.1 = 0; omega) (by show c.2 = 0; omega)
  | j + 1, c, b, e => by
    unfold Bx at b
    have st : ∀ d : Ct, Bx wr L d → d.1 ≤ wr ∧ d.2 ≤ wr → d.1 + d.2 = (j : Int) → Suc d c → Mt M (j + 1) c := fun d bd h2 e2 s =>
      ⟨d, h.mt bd e2, (h d bd).mpr ⟨h2.1, h2.2, by omega⟩, s⟩
    by_cases c1 : c.1 = wr + 1 ∨ (c.2 ≤ wr ∧ 0 < c.1)
    · refine st (c.1 - 1, c.2) ?_ ?_ ?_ (.inl (Prod.ext (by simp) rfl))
      · unfold Bx; simp only; omega
      · simp only; omega
      · simp only; omega
    · refine st (c.1, c.2 - 1) ?_ ?_ ?_ (.inr (Prod.ext rfl (by simp)))
      · unfold Bx; simp only; omega
      · simp only; omega
      · simp only; omega
theorem race_qt {wr : Int} {L : Nat} (w0 : 0 ≤ wr) (L1 : 1 ≤ L) : QT wr L (lvG (raceG wr L) L).1 := by
  have h0 : raceG wr L (0, 0) = none := raceG_none.mpr ⟨w0, w0, by show (0 : Int) + 0 ≠ _; omega⟩
  refine ⟨lvG_nd, fun c y => ?_⟩
  rw [lvG_get h0]
  unfold DueQ
  constructor
  · rintro ⟨a, j, hj, m⟩; exact ⟨bm_race.bx w0 hj m, a⟩
  · rintro ⟨b, a⟩
    have b' := b
    unfold Bx at b'
    exact ⟨a, (c.1 + c.2).toNat, by omega, bm_race.mt b (by omega)⟩
theorem due_min {wr : Int} {L : Nat} {c : Ct} {y : Str} : DueQ (min wr (L : Int)) L c y ↔ DueQ wr L c y := by
  by_cases h : wr ≤ (L : Int)
  · rw [Int.min_eq_left h]
  · rw [Int.min_eq_right (by omega)]
    unfold DueQ
    constructor
    · rintro ⟨b, e⟩
      unfold Bx at b
      refine ⟨by unfold Bx; omega, ?_⟩
      rw [← e]
      unfold raceG
      repeat' split
      all_goals first | rfl | (exfalso; omega)
    · rintro ⟨b, e⟩
      unfold Bx at b
      refine ⟨by unfold Bx; omega, ?_⟩
      rw [← e]
      unfold raceG
      repeat' split
      all_goals first | rfl | (exfalso; omega)
/-! ### what the quickest table is -/
open Tab (Rn cnt Mt)
def gridC : List Ct := (List.range 13).flatMap fun (i : Nat) => (List.range 13).map fun (j : Nat) => ((i : Int), (j : Int))
theorem few_of {L : Nat} {m : Ends} (nd : (m.map (·.1)).Nodup) (l2 : L ≤ 12) (key : ∀ p ∈ m, 0 ≤ p.1.1 ∧ 0 ≤ p.1.2 ∧ 1 ≤ p.1.1 + p.1.2 ∧ p.1.1 + p.1.2 ≤ (L : Int)) : m.length ≤ 169 := by
  have h := ct_nodup_len (xs := gridC) nd fun x hx => by
    obtain ⟨p, hp, rfl⟩ := List.mem_map.mp hx
    obtain ⟨a, b, c, d⟩ := key p hp
    unfold gridC
    rw [List.mem_flatMap]
    refine ⟨p.1.1.toNat, List.mem_range.mpr (by omega), List.mem_map.mpr ⟨p.1.2.toNat, List.mem_range.mpr (by omega), ?_⟩⟩
    exact Prod.ext (by show ((p.1.1.toNat : Nat) : Int) = _; omega) (by show ((p.1.2.toNat : Nat) : Int) = _; omega)
  rw [List.length_map] at h
  exact Nat.le_trans h (by decide)
theorem Valid.few {L : Nat} {m : Ends} (h : Valid L m) : m.length ≤ 169 := few_of h.nd h.l2 h.key
section
variable {wr : Int} {L : Nat} {m n : Ends} {c : Ct} {y : Str}
theorem QT.due (h : QT wr L m) {p : Ct × Str} (hp : p ∈ m) : DueQ wr L p.1 p.2 := (h.get _ _).mp (getA_mem h.nd hp)
theorem DueQ.cases (h : DueQ wr L c y) : (c.1 = wr + 1 ∧ c.2 ≤ wr ∧ y = wR) ∨ (c.2 = wr + 1 ∧ c.1 ≤ wr ∧ y = wM) ∨ (c.1 ≤ wr ∧ c.2 ≤ wr ∧ c.1 + c.2 = (L : Int) ∧ y = wU) := by
  obtain ⟨b, e⟩ := h
  unfold Bx at b
  by_cases h1 : wr < c.1
  · rw [raceG_r h1] at e; cases e; exact .inl ⟨by omega, by omega, rfl⟩
  · by_cases h2 : wr < c.2
    · rw [raceG_m h1 h2] at e; cases e; exact .inr (.inl ⟨by omega, by omega, rfl⟩)
    · by_cases h3 : c.1 + c.2 = (L : Int)
      · rw [raceG_u h1 h2 h3] at e; cases e; exact .inr (.inr ⟨by omega, by omega, h3, rfl⟩)
      · rw [raceG_n h1 h2 h3] at e; cases e
theorem QT.key (h : QT wr L m) (w0 : 0 ≤ wr) (L1 : 1 ≤ L) {p : Ct × Str} (hp : p ∈ m) : 0 ≤ p.1.1 ∧ 0 ≤ p.1.2 ∧ 1 ≤ p.1.1 + p.1.2 ∧ p.1.1 + p.1.2 ≤ (L : Int) := by
  have d := h.due hp
  have cs := d.cases
  obtain ⟨b, _⟩ := d
  unfold Bx at b
  omega
theorem QT.valid (h : QT wr L m) (w0 : 0 ≤ wr) (L1 : 1 ≤ L) (L12 : L ≤ 12) : Valid L m := by
  have kk : ∀ p ∈ m, 0 ≤ p.1.1 ∧ 0 ≤ p.1.2 ∧ 1 ≤ p.1.1 + p.1.2 ∧ p.1.1 + p.1.2 ≤ (L : Int) := fun p hp => h.key w0 L1 hp
  refine ⟨L1, L12, h.nd, kk, fun p hp => ?_, by have := few_of h.nd L12 kk; omega, fun c mt => ?_⟩
  · rcases (h.due hp).cases with ⟨_, _, e⟩ | ⟨_, _, e⟩ | ⟨_, _, _, e⟩
    · exact .inl e
    · exact .inr (.inl e)
    · exact .inr (.inr e)
  · have b := h.bm.bx w0 (Nat.le_refl _) mt
    cases e : hasA m c with
    | true => rfl
    | false => exact (((h.bm c b).mp e).2.2 mt.sum.1).elim
theorem QT.due_of (h : QT wr L m) (hc : getA m c = some y) : DueQ wr L c y := (h.get c y).mp hc
theorem DueQ.met (h : QT wr L m) (d : DueQ wr L c y) : ∃ j, j ≤ L ∧ Mt (hasA m) j c := by
  have b := d.1
  have b' := b
  unfold Bx at b'
  exact ⟨(c.1 + c.2).toNat, by omega, h.bm.mt b (by omega)⟩
theorem wRM : wR ≠ wM := by decide
theorem wUM : wU ≠ wM := by decide
theorem wUR : wU ≠ wR := by decide
theorem DueQ.true (d : DueQ wr L c y) : truthW c y wr = none := by
  unfold truthW
  rcases d.cases with ⟨a, b, rfl⟩ | ⟨a, b, rfl⟩ | ⟨a, b, e, rfl⟩
  · rw [if_neg (fun z => wRM z.1), if_neg (fun z => by omega)]
  · rw [if_neg (fun z => by omega), if_neg (fun z => wRM z.1.symm)]
  · rw [if_neg (fun z => wUM z.1), if_neg (fun z => wUR z.1)]
theorem QT.eq (h : QT wr L m) (g : QT wr L n) (c : Ct) : getA m c = getA n c := by
  cases e : getA m c with
  | some y => exact ((g.get c y).mpr ((h.get c y).mp e)).symm
  | none =>
    cases e2 : getA n c with
    | none => rfl
    | some y => rw [(h.get c y).mpr ((g.get c y).mp e2)] at e; cases e
theorem same_of (nm : (m.map (·.1)).Nodup) (nn : (n.map (·.1)).Nodup) (h : ∀ c, getA m c = getA n c) : Same m n := by
  have kk : ∀ c, c ∈ m.map (·.1) ↔ c ∈ n.map (·.1) := fun c => by
    rw [← hasA_iff, ← hasA_iff]; unfold hasA; rw [h c]
  have l1 := ct_nodup_len nm fun x hx => (kk x).mp hx
  have l2 := ct_nodup_len nn fun x hx => (kk x).mpr hx
  rw [List.length_map, List.length_map] at l1 l2
  exact ⟨by omega, fun p hp => by rw [← h]; exact getA_mem nm hp⟩
theorem QT.same (h : QT wr L m) (g : QT wr L n) : Same m n := same_of h.nd g.nd (h.eq g)
theorem QT.sameB (h : QT wr L m) (g : QT wr L n) : sameB m n = true := (sameB_iff h.nd g.nd).mpr (h.eq g)
theorem QT.min (h : QT (min wr (L : Int)) L m) : QT wr L m := ⟨h.nd, fun c y => by rw [h.get, due_min]⟩
theorem QT.soft (h : QT wr L m) : softT m L wr = m := softT_id fun c wd _ hg => (h.due_of hg).true
/-- a race's table -/
theorem race_first (w0 : 0 ≤ wr) : DueQ wr (2 * wr.toNat + 1) (wr + 1, 0) wR := ⟨⟨by show 0 ≤ wr + 1; omega, Int.le_refl _, by show wr + 1 + 0 ≤ _; omega, .inr (.inl ⟨rfl, w0⟩)⟩, raceG_r (by show wr < wr + 1; omega)⟩
theorem race_long (w0 : 0 ≤ wr) (hL : (L : Int) = 2 * wr + 1) (h : QT wr L m) : Longest m L wr L := by
  have d : DueQ wr L (wr + 1, wr) wR := ⟨⟨by show 0 ≤ wr + 1; omega, w0, by show wr + 1 + wr ≤ _; omega, .inr (.inl ⟨rfl, Int.le_refl _⟩)⟩, raceG_r (by show wr < wr + 1; omega)⟩
  refine ⟨⟨(wr + 1, wr), ⟨d.met h, by unfold hasA; rw [(h.get _ _).mpr d]; rfl⟩, .inr (Int.le_refl _), by show wr + 1 + wr = _; omega⟩, ?_⟩
  rintro c ⟨⟨j, hj, mt⟩, _⟩ _
  have := (h.bm.bx w0 hj mt)
  unfold Bx at this
  omega
theorem race_long0 (w0 : 0 ≤ wr) (hL : (L : Int) = 2 * wr + 1) (h : QT wr L m) : Longest m L 0 (wr + 1) := by
  have d : DueQ wr L (wr + 1, 0) wR := ⟨⟨by show 0 ≤ wr + 1; omega, Int.le_refl _, by show wr + 1 + 0 ≤ _; omega, .inr (.inl ⟨rfl, w0⟩)⟩, raceG_r (by show wr < wr + 1; omega)⟩
  refine ⟨⟨(wr + 1, 0), ⟨d.met h, by unfold hasA; rw [(h.get _ _).mpr d]; rfl⟩, .inr (Int.le_refl _), by show wr + 1 + 0 = _; omega⟩, ?_⟩
  rintro c ⟨⟨j, hj, mt⟩, _⟩ _
  have := (h.bm.bx w0 hj mt)
  unfold Bx at this
  omega
theorem race_d (w0 : 0 ≤ wr) (hL : (L : Int) = 2 * wr + 1) (h : QT wr L m) : getA m (wr + 1, 0) = some wR ∧ ∃ j, j ≤ L ∧ Mt (hasA m) j (wr + 1, 0) := by
  have d : DueQ wr L (wr + 1, 0) wR := ⟨⟨by show 0 ≤ wr + 1; omega, Int.le_refl _, by show wr + 1 + 0 ≤ _; omega, .inr (.inl ⟨rfl, w0⟩)⟩, raceG_r (by show wr < wr + 1; omega)⟩
  exact ⟨(h.get _ _).mpr d, d.met h⟩
theorem race_false (w0 : 0 ≤ wr) : truthW (wr + 1, 0) wR (wr + 1) = some wM := by
  unfold truthW
  rw [if_neg (fun z => wRM z.1), if_pos ⟨rfl, Int.le_refl _⟩]
theorem race_softer (w0 : 0 ≤ wr) (hL : (L : Int) = 2 * wr + 1) (h : QT wr L m) : sameB (softT m L (wr + 1)) m = false := by
  cases e : sameB (softT m L (wr + 1)) m with
  | false => rfl
  | true =>
    exfalso
    have nd2 : ((softT m L (wr + 1)).map (·.1)).Nodup := by unfold softT; rw [softF_keys]; exact h.nd
    have e1 := (sameB_iff nd2 h.nd).mp e (wr + 1, 0)
    obtain ⟨g1, mt⟩ := race_d w0 hL h
    rw [g1] at e1
    have := soft_sound (Int.le_refl (wr + 1)) (c := (wr + 1, 0)) (wd := wR) (m := m) (L := L) (by rw [softT_has]; exact mt) e1
    rw [race_false w0] at this
    cases this
end
/-! ### strings that lead to a mark -/
theorem rn_of {M : Ct → Bool} : ∀ {k : Nat} {s : List Nat}, s.length = k → (∀ x ∈ s, x = 114 ∨ x = 109) → (∀ i, i < s.length → M (cnt (s.take i)) = false) → Rn M k s
  | 0, s, e, _, _ => List.length_eq_zero_iff.mp e
  | k + 1, s, e, hx, hm => by
    have ne : s ≠ [] := by rintro rfl; cases e
    have sp := List.dropLast_concat_getLast ne
    have ld : s.dropLast.length = k := by rw [List.length_dropLast]; omega
    refine ⟨s.dropLast, s.getLast ne, rn_of ld (fun x h => hx x ((List.dropLast_sublist s).subset h)) (fun i hi => ?_), ?_, hx _ (List.getLast_mem ne), sp.symm⟩
    · have := hm i (by omega)
      rwa [show s.take i = s.dropLast.take i by conv => lhs; rw [← sp]; rw [List.take_append_of_le_length (by omega)]] at this
    · have := hm k (by omega)
      rwa [show s.take k = s.dropLast by rw [List.dropLast_eq_take, e]; rfl] at this
theorem cnt_count : ∀ {s : List Nat}, cnt s = ((s.count 114 : Int), (s.length : Int) - (s.count 114 : Int)) := fun {s} => by
  have : ∀ (s : List Nat) (c : Ct), s.foldl Tab.one c = (c.1 + (s.count 114 : Int), c.2 + ((s.length : Int) - (s.count 114 : Int))) := fun s => by
    induction s with
    | nil => intro c; simp
    | cons x s ih =>
      intro c
      rw [List.foldl_cons, ih]
      unfold Tab.one
      by_cases e : x = 114
      · subst e
        rw [if_pos rfl, List.count_cons_self, List.length_cons]
        exact Prod.ext (by simp only; omega) (by simp only; omega)
      · rw [if_neg e, List.count_cons_of_ne (by simpa using e), List.length_cons]
        exact Prod.ext (by simp only) (by simp only; omega)
  have := this s (0, 0)
  unfold Tab.cnt
  rw [this]
  exact Prod.ext (by simp) (by simp)
def strMR (c : Ct) : List Nat := List.replicate c.2.toNat 109 ++ List.replicate c.1.toNat 114
def strRM (c : Ct) : List Nat := List.replicate c.1.toNat 114 ++ List.replicate c.2.toNat 109
theorem take_MR {c : Ct} {i : Nat} : (strMR c).take i = List.replicate (min i c.2.toNat) 109 ++ List.replicate (min (i - c.2.toNat) c.1.toNat) 114 := by
  unfold strMR; rw [List.take_append, List.take_replicate, List.take_replicate, List.length_replicate]
theorem take_RM {c : Ct} {i : Nat} : (strRM c).take i = List.replicate (min i c.1.toNat) 114 ++ List.replicate (min (i - c.1.toNat) c.2.toNat) 109 := by
  unfold strRM; rw [List.take_append, List.take_replicate, List.take_replicate, List.length_replicate]
theorem cnt_mr {a b : Nat} : Tab.cnt (List.replicate a 109 ++ List.replicate b 114) = ((b : Int), (a : Int)) := by
  rw [cnt_count]
  simp [List.count_append, List.count_replicate]
theorem cnt_rm {a b : Nat} : Tab.cnt (List.replicate a 114 ++ List.replicate b 109) = ((a : Int), (b : Int)) := by
  rw [cnt_count]
  simp [List.count_append, List.count_replicate]
  omega
section
variable {wr : Int} {L : Nat} {m : Ends} {c : Ct} {y : Str}
theorem QT.rnMR (h : QT wr L m) (d : DueQ wr L c y) (n : y ≠ wM) : Rn (hasA m) (c.1 + c.2).toNat (strMR c) ∧ cnt (strMR c) = c := by
  have b := d.1
  unfold Bx at b
  have cs := d.cases
  have ll : (strMR c).length = (c.1 + c.2).toNat := by unfold strMR; rw [List.length_append, List.length_replicate, List.length_replicate]; omega
  refine ⟨rn_of ll (fun x hx => ?_) fun i hi => ?_, ?_⟩
  · unfold strMR at hx
    rcases List.mem_append.mp hx with e | e
    · exact .inr (List.mem_replicate.mp e).2
    · exact .inl (List.mem_replicate.mp e).2
  · rw [take_MR, cnt_mr]
    have q : c.2 ≤ wr := by
      rcases cs with ⟨_, e, _⟩ | ⟨_, _, e⟩ | ⟨_, e, _, _⟩
      · exact e
      · exact (n e).elim
      · exact e
    refine (h.bm _ ?_).mpr ?_
    · unfold Bx; simp only; omega
    · simp only; omega
  · unfold strMR; rw [cnt_mr]; exact Prod.ext (by simp only; omega) (by simp only; omega)
theorem QT.rnRM (h : QT wr L m) (d : DueQ wr L c wM) : Rn (hasA m) (c.1 + c.2).toNat (strRM c) ∧ cnt (strRM c) = c := by
  have b := d.1
  unfold Bx at b
  have cs := d.cases
  have ll : (strRM c).length = (c.1 + c.2).toNat := by unfold strRM; rw [List.length_append, List.length_replicate, List.length_replicate]; omega
  refine ⟨rn_of ll (fun x hx => ?_) fun i hi => ?_, ?_⟩
  · unfold strRM at hx
    rcases List.mem_append.mp hx with e | e
    · exact .inl (List.mem_replicate.mp e).2
    · exact .inr (List.mem_replicate.mp e).2
  · rw [take_RM, cnt_rm]
    have q : c.1 ≤ wr := by
      rcases cs with ⟨_, _, e⟩ | ⟨_, e, _⟩ | ⟨e, _, _, _⟩
      · exact (wRM e.symm).elim
      · exact e
      · exact e
    refine (h.bm _ ?_).mpr ?_
    · unfold Bx; simp only; omega
    · simp only; omega
  · unfold strRM; rw [cnt_rm]; exact Prod.ext (by simp only; omega) (by simp only; omega)
end
/-- a string without its last letter is not yet marked -/
theorem Rn.before {M : Ct → Bool} {k : Nat} {s : List Nat} (h : Rn M (k + 1) s) : Rn M k s.dropLast ∧ M (cnt s.dropLast) = false := by
  obtain ⟨t, x, r, mm, _, rfl⟩ := h
  rw [List.dropLast_concat]; exact ⟨r, mm⟩
/-! ### quickest, and a race -/
open Tab (Rn cnt Mt)
def spQuick (C : Addr) : Sp := fun vs H Q _ => ∃ (wr : Int) (L : Nat), vs = [.int wr, .int L] ∧ 0 ≤ wr ∧ 1 ≤ L ∧ L ≤ 12 ∧ ∀ x m H', Keep [] H H' → TableAt C H' x L m → QT wr L m → Q (.ref x) H'
def spRace (C : Addr) : Sp := fun vs H Q _ => ∃ (wr : Nat), vs = [.ref C, .int wr] ∧ wr ≤ 5 ∧ ∀ x m H', Keep [] H H' → TableAt C H' x (2 * wr + 1) m → QT wr (2 * wr + 1) m → Q (.ref x) H'
/-- the marks at hand while the table is made -/
def Mk (m : Ends) (F : Ct → Str → Prop) : Prop := (m.map (·.1)).Nodup ∧ (∀ c y, getA m c = some y ↔ F c y)
theorem Mk.put {m : Ends} {F G : Ct → Str → Prop} {c : Ct} {y : Str} (h : Mk m F) (e : ∀ d z, G d z ↔ (d = c ∧ z = y) ∨ (d ≠ c ∧ F d z)) : Mk (putA m c y) G := by
  refine ⟨putA_nodup h.1, fun d z => ?_⟩
  rw [getA_putA, e]
  by_cases q : d = c
  · rw [if_pos q]
    constructor
    · intro h; cases h; exact .inl ⟨q, rfl⟩
    · rintro (⟨_, rfl⟩ | ⟨n, _⟩)
      · rfl
      · exact (n q).elim
  · rw [if_neg q, h.2]
    constructor
    · intro h; exact .inr ⟨q, h⟩
    · rintro (⟨n, _⟩ | ⟨_, h⟩)
      · exact (q n).elim
      · exact h
theorem Mk.iff {m : Ends} {F G : Ct → Str → Prop} (h : Mk m F) (e : ∀ d z, G d z ↔ F d z) : Mk m G := ⟨h.1, fun c y => by rw [h.2, e]⟩
/-- reached at few+1 for others below i, missed likewise below j, unsure at the limit below k -/
def Fq (few : Int) (L : Nat) (i j k : Int) (c : Ct) (y : Str) : Prop := (c.1 = few + 1 ∧ 0 ≤ c.2 ∧ c.2 < i ∧ y = wR) ∨ (c.2 = few + 1 ∧ 0 ≤ c.1 ∧ c.1 < j ∧ y = wM) ∨ (c.1 + c.2 = (L : Int) ∧ 0 ≤ c.1 ∧ c.1 < k ∧ c.1 ≤ few ∧ c.2 ≤ few ∧ y = wU)
theorem ct_eq {d : Ct} {a b : Int} : d = (a, b) ↔ d.1 = a ∧ d.2 = b := ⟨fun h => by rw [h]; exact ⟨rfl, rfl⟩, fun h => Prod.ext h.1 h.2⟩
theorem Fq.r {few : Int} {L : Nat} {i j k : Int} (i0 : 0 ≤ i) (h1 : i ≤ few) (h2 : j ≤ few + 1) (h3 : k ≤ few + 1 ∨ True) {d : Ct} {z : Str} : Fq few L (i + 1) j k d z ↔ (d = (few + 1, i) ∧ z = wR) ∨ (d ≠ (few + 1, i) ∧ Fq few L i j k d z) := by
  unfold Fq
  rw [ct_eq]
  constructor
  · rintro (⟨a, b, c, e⟩ | ⟨a, b, c, e⟩ | ⟨a, b, c, e, f, g⟩)
    · by_cases q : d.2 = i
      · exact .inl ⟨⟨a, q⟩, e⟩
      · exact .inr ⟨by rw [ne_eq, ct_eq]; omega, .inl ⟨a, b, by omega, e⟩⟩
    · exact .inr ⟨by rw [ne_eq, ct_eq]; omega, .inr (.inl ⟨a, b, c, e⟩)⟩
    · exact .inr ⟨by rw [ne_eq, ct_eq]; omega, .inr (.inr ⟨a, b, c, e, f, g⟩)⟩
  · rintro (⟨⟨a, b⟩, e⟩ | ⟨n, ⟨a, b, c, e⟩ | h⟩)
    · exact .inl ⟨a, by omega, by omega, e⟩
    · exact .inl ⟨a, b, by omega, e⟩
    · exact .inr h
theorem Fq.m {few : Int} {L : Nat} {i j k : Int} (j0 : 0 ≤ j) (h1 : j ≤ few) (h2 : i ≤ few + 1) {d : Ct} {z : Str} : Fq few L i (j + 1) k d z ↔ (d = (j, few + 1) ∧ z = wM) ∨ (d ≠ (j, few + 1) ∧ Fq few L i j k d z) := by
  unfold Fq
  rw [ct_eq]
  constructor
  · rintro (⟨a, b, c, e⟩ | ⟨a, b, c, e⟩ | ⟨a, b, c, e, f, g⟩)
    · exact .inr ⟨by rw [ne_eq, ct_eq]; omega, .inl ⟨a, b, c, e⟩⟩
    · by_cases q : d.1 = j
      · exact .inl ⟨⟨q, a⟩, e⟩
      · exact .inr ⟨by rw [ne_eq, ct_eq]; omega, .inr (.inl ⟨a, b, by omega, e⟩)⟩
    · exact .inr ⟨by rw [ne_eq, ct_eq]; omega, .inr (.inr ⟨a, b, c, e, f, g⟩)⟩
  · rintro (⟨⟨a, b⟩, e⟩ | ⟨n, h | ⟨a, b, c, e⟩ | h⟩)
    · exact .inr (.inl ⟨b, by omega, by omega, e⟩)
    · exact .inl h
    · exact .inr (.inl ⟨a, b, by omega, e⟩)
    · exact .inr (.inr h)
theorem Fq.u {few : Int} {L : Nat} {i j k : Int} (k0 : 0 ≤ k) (h1 : k ≤ few) (h2 : (L : Int) - k ≤ few) {d : Ct} {z : Str} : Fq few L i j (k + 1) d z ↔ (d = (k, (L : Int) - k) ∧ z = wU) ∨ (d ≠ (k, (L : Int) - k) ∧ Fq few L i j k d z) := by
  unfold Fq
  rw [ct_eq]
  constructor
  · rintro (⟨a, b, c, e⟩ | ⟨a, b, c, e⟩ | ⟨a, b, c, e, f, g⟩)
    · exact .inr ⟨by rw [ne_eq, ct_eq]; omega, .inl ⟨a, b, c, e⟩⟩
    · exact .inr ⟨by rw [ne_eq, ct_eq]; omega, .inr (.inl ⟨a, b, c, e⟩)⟩
    · by_cases q : d.1 = k
      · exact .inl ⟨⟨q, by omega⟩, g⟩
      · exact .inr ⟨by rw [ne_eq, ct_eq]; omega, .inr (.inr ⟨a, b, by omega, e, f, g⟩)⟩
  · rintro (⟨⟨a, b⟩, e⟩ | ⟨n, h | h | ⟨a, b, c, e, f, g⟩⟩)
    · exact .inr (.inr ⟨by omega, by omega, by omega, by omega, by omega, e⟩)
    · exact .inl h
    · exact .inr (.inl h)
    · exact .inr (.inr ⟨a, b, by omega, e, f, g⟩)
theorem Fq.u0 {few : Int} {L : Nat} {i j k : Int} (h : ¬ (k ≤ few ∧ (L : Int) - k ≤ few)) {d : Ct} {z : Str} : Fq few L i j (k + 1) d z ↔ Fq few L i j k d z := by
  unfold Fq
  constructor
  · rintro (h | h | ⟨a, b, c, e, f, g⟩)
    · exact .inl h
    · exact .inr (.inl h)
    · exact .inr (.inr ⟨a, b, by omega, e, f, g⟩)
  · rintro (h | h | ⟨a, b, c, e, f, g⟩)
    · exact .inl h
    · exact .inr (.inl h)
    · exact .inr (.inr ⟨a, b, by omega, e, f, g⟩)
theorem Fq.due {few : Int} {L : Nat} {b k : Int} (f0 : 0 ≤ few) (fL : few ≤ (L : Int)) (hb2 : (b = few + 1 ∧ few ≤ (L : Int) - few - 1) ∨ (b = (L : Int) - few ∧ (L : Int) - few - 1 ≤ few)) (hk : (L : Int) < k ∨ (L : Int) = 2 * few + 1) (c : Ct) (y : Str) : Fq few L b b k c y ↔ DueQ few L c y := by
  constructor
  · rintro (⟨a, b, d, rfl⟩ | ⟨a, b, d, rfl⟩ | ⟨a, b, d, e, f, rfl⟩)
    · exact ⟨by unfold Bx; omega, raceG_r (by omega)⟩
    · exact ⟨by unfold Bx; omega, raceG_m (by omega) (by omega)⟩
    · exact ⟨by unfold Bx; omega, raceG_u (by omega) (by omega) a⟩
  · intro d
    have cs := d.cases
    have bb := d.1
    unfold Bx at bb
    rcases cs with ⟨p, q, rfl⟩ | ⟨p, q, rfl⟩ | ⟨p, q, e, rfl⟩
    · exact .inl ⟨p, by omega, by omega, rfl⟩
    · exact .inr (.inl ⟨p, by omega, by omega, rfl⟩)
    · exact .inr (.inr ⟨e, by omega, by omega, p, q, rfl⟩)
theorem Mk.nil {few : Int} {L : Nat} : Mk [] (Fq few L ((0 : Nat) : Int) ((0 : Nat) : Int) 0) := ⟨by simp, fun c y => by
  refine ⟨fun h => (by cases h), fun h => ?_⟩
  unfold Fq at h
  omega⟩
theorem Mk.qt {m : Ends} {few : Int} {L : Nat} {b k : Int} (h : Mk m (Fq few L b b k)) (f0 : 0 ≤ few) (fL : few ≤ (L : Int)) (hb2 : (b = few + 1 ∧ few ≤ (L : Int) - few - 1) ∨ (b = (L : Int) - few ∧ (L : Int) - few - 1 ≤ few)) (hk : (L : Int) < k ∨ (L : Int) = 2 * few + 1) : QT few L m := ⟨h.1, fun c y => by rw [h.2, Fq.due f0 fL hb2 hk]⟩
section
variable {P : Program} {w : World} {K : PySem.W.Frag} {mg : Str → Option Value} {base : Heap}
theorem ok_quickest (T : Tx K mg) (G_Table___init : FnOk P w K mg base CX0 2 T.f_Table___init T.fd_Table___init ["self", "limit", "ends"] (spInit T.C_Table)) : FnOk P w K mg base CX0 4 T.f_quickest T.fd_quickest ["wrong", "limit"] (spQuick T.C_Table) := by
  refine T.F_quickest.ok sc_quickest (fun vs H Q E h => ?_) (fun cdv A outer s H vs Q E hr h => ?_)
  · obtain ⟨wr, L, rfl, _⟩ := h; rfl
  · obtain ⟨wr, L, rfl, w0, L1, L12, qq⟩ := h
    refine ⟨_, PSs.nox (pss_cons (ps_if (pt_cmpR op_lt (pv 0) pe_int (nomark _))
    (pss_one ps_never)
    pss_nil)
    (pss_cons (ps_if (pt_not (pt_chain op_le op_le pe_int (pv 1) (pe_glob (v := .int (12)) rfl T.c_MOST_TRIES.choose_spec ⟨_, rfl⟩)))
    (pss_one ps_never)
    pss_nil)
    (pss_cons (ps_set (i := 2) sc_quickest.nd rfl (Or.inl rfl) (pe_callB (call_min2 rfl) (by rfl) T.m_min (by decide +kernel) (pa_cons (pv 0) (pa_cons (pv 1) pa_nil))))
    (pss_cons (ps_set (i := 3) sc_quickest.nd rfl (Or.inl rfl) pe_dnewT)
    (pss_cons (ps_for PassesOwn.never rfl (pi_range1 rfl T.m_range (pa_cons (pe_op op_add (pe_callB (call_min2 rfl) (by rfl) T.m_min (by decide +kernel) (pa_cons (pv 2) (pa_cons (pe_op op_sub (pe_op op_sub (pv 1) (pv 2)) pe_int) pa_nil))) pe_int) pa_nil)) (pg_name (i := 4) sc_quickest.nd rfl (Or.inl rfl))
    (pss_cons (ps_dput (hu_of hr) (pv 3) (pe_tup (pa_cons (pe_op op_add (pv 2) pe_int) (pa_cons (pv 4) pa_nil))) pe_str rfl)
    (pss_one (ps_dput (hu_of hr) (pv 3) (pe_tup (pa_cons (pv 4) (pa_cons (pe_op op_add (pv 2) pe_int) pa_nil))) pe_str rfl))))
    (pss_cons (ps_for PassesOwn.never rfl (pi_range1 rfl T.m_range (pa_cons (pe_op op_add (pv 1) pe_int) pa_nil)) (pg_name (i := 5) sc_quickest.nd rfl (Or.inl rfl))
    (pss_one (ps_if (PW.pt (pw_and (pt_cmpR op_le (pv 5) (pv 2) (nomark _)) (pw_and1 (pt_cmpR op_le (pe_op op_sub (pv 1) (pv 5)) (pv 2) (nomark _)))))
    (pss_one (ps_dput (hu_of hr) (pv 3) (pe_tup (pa_cons (pv 5) (pa_cons (pe_op op_sub (pv 1) (pv 5)) pa_nil))) pe_str rfl))
    pss_nil)))
    (pss_one (ps_ret (pe_make T.mk_Table G_Table___init (hr.mono (by decide)) rfl T.gC_Table T.b_Table___init .nil pass0 (pa_cons (pv 1) (pa_cons (pv 3) pa_nil))))))))))), ?_⟩
    walk_at "start"
    walk_at "sts"
    generalize hf : (if (L : Int) < wr then (L : Int) else wr) = few
    have f0 : 0 ≤ few := by rw [← hf]; split <;> omega
    have fL : few ≤ (L : Int) := by rw [← hf]; split <;> omega
    have toW : ∀ m, QT few L m → QT wr L m := fun m h => by
      refine QT.min ?_
      have e : few = min wr (L : Int) := by rw [← hf]; split <;> omega
      rw [← e]; exact h
    clear hf
    refine r_dnewT fun D hD => ?_
    have k1 : Keep [] H (upd H D (.dT [])) := Keep.new hD
    have eD : EndsAt (upd H D (.dT [])) D [] := upd_same
    generalize upd H D (.dT []) = H1 at k1 eD ⊢
    walk_at "sts"
    generalize hb : (if (L : Int) - few - 1 < few then (L : Int) - few - 1 else few) + 1 = b
    have hb2 : (b = few + 1 ∧ few ≤ (L : Int) - few - 1) ∨ (b = (L : Int) - few ∧ (L : Int) - few - 1 ≤ few) := by rw [← hb]; split <;> omega
    have b0 : 0 ≤ b := by omega
    have b13 : b ≤ 13 := by omega
    clear hb
    walk_at "sts"
    refine forR1_go (fun i σ' H' => ∃ (m : Ends) (y4 y5 : Option V), σ' = [some (.int wr), some (.int L), some (.int few), some (.ref D), y4, y5] ∧ EndsAt H' D m ∧ m.length ≤ 2 * i ∧ Mk m (Fq few L i i 0) ∧ Keep [] H H') (by omega) ⟨[], _, _, by first | exact rfl | trivial, eD, by simp, Mk.nil, k1⟩ ?_ ?_
    · rintro i σ' H2 hi ⟨m, y4, y5, rfl, e2, l2, mk, k2⟩
      walk_at "sts"
      intro u hu
      have k3 : Keep [] H2 (upd H2 u (.tup [.int (few + 1), .int i])) := Keep.new hu
      have eu : upd H2 u (.tup [.int (few + 1), .int i]) u = some (cHO (few + 1, i)) := upd_same
      have e3 := k3 _ _ (by simp) e2
      generalize upd H2 u (.tup [.int (few + 1), .int i]) = H3 at k3 eu e3 ⊢
      refine r_dputT e3 eu (lt_size (by rw [len_kvG]; omega)) ?_
      rw [put_kvG]
      have mk1 := mk.put (fun d z => Fq.r (i := i) (j := i) (k := 0) (d := d) (z := z) (few := few) (L := L) (by omega) (by omega) (by omega) (.inr trivial))
      have l3 : (putA m (few + 1, (i : Int)) wR).length ≤ 2 * i + 1 := Nat.le_trans putA_len (by omega)
      have e4 : EndsAt (upd H3 D (.dT (kvG V.str (putA m (few + 1, (i : Int)) wR)))) D (putA m (few + 1, (i : Int)) wR) := upd_same
      have k4 : Keep [] H (upd H3 D (.dT (kvG V.str (putA m (few + 1, (i : Int)) wR)))) := (k2.trans k3).mut hD
      generalize upd H3 D (.dT (kvG V.str (putA m (few + 1, (i : Int)) wR))) = H4 at e4 k4 ⊢
      generalize putA m (few + 1, (i : Int)) wR = m1 at mk1 l3 e4 ⊢
      clear k3 k2 eu e3 e2 hu
      walk_at "sts"
      intro u hu
      have k3 : Keep [] H4 (upd H4 u (.tup [.int i, .int (few + 1)])) := Keep.new hu
      have eu : upd H4 u (.tup [.int i, .int (few + 1)]) u = some (cHO ((i : Int), few + 1)) := upd_same
      have e5 := k3 _ _ (by simp) e4
      generalize upd H4 u (.tup [.int i, .int (few + 1)]) = H5 at k3 eu e5 ⊢
      refine r_dputT e5 eu (lt_size (by rw [len_kvG]; omega)) ?_
      rw [put_kvG]
      have mk2 := mk1.put (fun d z => Fq.m (i := (i : Int) + 1) (j := i) (k := 0) (d := d) (z := z) (few := few) (L := L) (by omega) (by omega) (by omega))
      exact ⟨_, _, _, by first | exact rfl | trivial, upd_same, Nat.le_trans putA_len (by omega), mk2, (k4.trans k3).mut hD⟩
    · rintro σ' H2 ⟨m, y4, y5, rfl, e2, l2, mk, k2⟩
      rw [Int.toNat_of_nonneg b0] at mk
      walk_at "sts"
      refine forR1_go (fun i σ' H' => ∃ (m : Ends) (y4 y5 : Option V), σ' = [some (.int wr), some (.int L), some (.int few), some (.ref D), y4, y5] ∧ EndsAt H' D m ∧ m.length ≤ 26 + i ∧ Mk m (Fq few L b b i) ∧ Keep [] H H') (by omega) ⟨m, _, _, by first | exact rfl | trivial, e2, by omega, mk, k2⟩ ?_ ?_
      · clear mk l2 e2 k2
        rintro i σ' H3 hi ⟨m, y4, y5, rfl, e3, l3, mk, k3⟩
        walk_at "sts"
        have skip : ¬ ((i : Int) ≤ few ∧ (L : Int) - i ≤ few) → Mk m (Fq few L b b ((i + 1 : Nat) : Int)) := fun h => mk.iff fun d z => Fq.u0 (k := (i : Int)) h
        refine r_ite (fun c1 => ?_) (fun c1 => ?_)
        · walk_at "sts"
          refine r_ite (fun c2 => ?_) (fun c2 => ?_)
          · walk_at "sts"
            intro u hu
            have k4 : Keep [] H3 (upd H3 u (.tup [.int i, .int ((L : Int) - i)])) := Keep.new hu
            have eu : upd H3 u (.tup [.int i, .int ((L : Int) - i)]) u = some (cHO ((i : Int), (L : Int) - i)) := upd_same
            have e4 := k4 _ _ (by simp) e3
            generalize upd H3 u (.tup [.int i, .int ((L : Int) - i)]) = H4 at k4 eu e4 ⊢
            refine r_dputT e4 eu (lt_size (by rw [len_kvG]; omega)) ?_
            rw [put_kvG]
            have mk2 := mk.put (fun d z => Fq.u (i := b) (j := b) (k := i) (d := d) (z := z) (few := few) (L := L) (by omega) c1 c2)
            exact ⟨_, _, _, by first | exact rfl | trivial, upd_same, Nat.le_trans putA_len (by omega), mk2, (k3.trans k4).mut hD⟩
          · walk_at "sts"
            exact ⟨_, _, _, by first | exact rfl | trivial, e3, by omega, skip (fun h => c2 h.2), k3⟩
        · walk_at "sts"
          exact ⟨_, _, _, by first | exact rfl | trivial, e3, by omega, skip (fun h => c1 h.1), k3⟩
      · clear mk l2 e2 k2
        rintro σ' H3 ⟨m, y4, y5, rfl, e3, l3, mk, k3⟩
        have qf : QT few L m := mk.qt f0 fL hb2 (.inl (by omega))
        have va := qf.valid f0 L1 L12
        walk_at "sts"
        intro x dx hx hdx ne
        refine r_newTable hx hdx ne e3 va fun H4 k4 tab => qq _ m H4 (k3.trans k4) tab (toW m qf)
end
/-! ### a race -/
open Tab (Rn cnt Mt)
section
variable {P : Program} {w : World} {K : PySem.W.Frag} {mg : Str → Option Value} {base : Heap}
theorem ok_race (T : Tx K mg) (G_Table___init : FnOk P w K mg base CX0 2 T.f_Table___init T.fd_Table___init ["self", "limit", "ends"] (spInit T.C_Table)) : FnOk P w K mg base CX0 4 T.f_Table_race T.fd_Table_race ["cls", "wrong"] (spRace T.C_Table) := by
  refine T.F_Table_race.ok sc_Table_race (fun vs H Q E h => ?_) (fun cdv A outer s H vs Q E hr h => ?_)
  · obtain ⟨wr, rfl, _⟩ := h; rfl
  · obtain ⟨wr, rfl, w5, qq⟩ := h
    refine ⟨_, PSs.nox (pss_cons (ps_if (pt_not (pt_chain op_le op_le pe_int (pv 1) (pe_glob (v := .int (5)) rfl T.c_MOST_RACE.choose_spec ⟨_, rfl⟩)))
    (pss_one ps_never)
    pss_nil)
    (pss_cons (Dt.ps_setDcT (i := 2) (own := [("missed", 3)]) (g := gName 3) (tt := tYes) hr.units0 rfl sc_Table_race.nd rfl rfl (Dt.sw_dict rfl rfl rfl (by decide +kernel)) (pi_range1 rfl T.m_range (pa_cons (pe_op op_add (pv 1) pe_int) pa_nil)) (blkOk_by (own := [("missed", 3)]) (N := ["cls", "wrong", "ends", "missed", "reached"]) (sc := defScope s_Table_race) (by decide +kernel)) (fun _ _ _ _ _ => pg_name (i := 3) sc_Table_race.nd rfl (Or.inl rfl)) (fun _ _ _ _ _ => pts_nil) (fun _ _ _ _ _ => (pe_tup (pa_cons (pe_op op_add (pv 1) pe_int) (pa_cons (pv 3) pa_nil)))) (fun _ _ _ _ _ => pe_str))
    (pss_cons (ps_for PassesOwn.never rfl (pi_range1 rfl T.m_range (pa_cons (pe_op op_add (pv 1) pe_int) pa_nil)) (pg_name (i := 4) sc_Table_race.nd rfl (Or.inl rfl))
    (pss_one (ps_dput (hu_of hr) (pv 2) (pe_tup (pa_cons (pv 4) (pa_cons (pe_op op_add (pv 1) pe_int) pa_nil))) pe_str rfl)))
    (pss_one (ps_ret (Cm.pe_makeV (i := 0) T.mk_Table G_Table___init (hr.mono (by decide)) rfl (by first | exact Or.inl rfl | exact Or.inr (Or.inl rfl) | exact Or.inr (Or.inr rfl)) T.b_Table___init .nil pass0 (pa_cons (pe_op op_add (pe_op op_mul pe_int (pv 1)) pe_int) (pa_cons (pv 2) pa_nil)))))))), ?_⟩
    walk_at "start"
    walk_at "sts"
    refine Dt.r_dcR1 ?_
    walk_at "sts"
    refine Dt.dcR1_go (fun D i H' => ∃ m : Ends, EndsAt H' D m ∧ m.length ≤ i ∧ Mk m (Fq (wr : Int) (2 * wr + 1) i 0 0) ∧ Keep [] H H') (by omega) (fun D hD => ⟨[], upd_same, by simp, Mk.nil, Keep.new hD⟩) ?_ ?_
    · rintro D i H1 hD hi ⟨m, e1, l1, mk, k1⟩
      simp only [L2.wipe, List.map_cons, List.map_nil, List.set_cons_zero, List.set_cons_succ]
      refine r_gName ?_
      simp only [List.set_cons_zero, List.set_cons_succ]
      refine ⟨trivial, ?_⟩
      refine r_yes ?_
      rw [if_pos rfl]
      walk_at "sts"
      intro u hu
      have k2 : Keep [] H1 (upd H1 u (.tup [.int ((wr : Int) + 1), .int i])) := Keep.new hu
      have eu : upd H1 u (.tup [.int ((wr : Int) + 1), .int i]) u = some (cHO ((wr : Int) + 1, (i : Int))) := upd_same
      have e2 := k2 _ _ (by simp) e1
      generalize upd H1 u (.tup [.int ((wr : Int) + 1), .int i]) = H2 at k2 eu e2 ⊢
      walk_at "sts"
      refine ⟨kvG V.str m, ck ((wr : Int) + 1, (i : Int)), u, rfl, eu, e2, lt_size (by rw [len_kvG]; omega), ?_⟩
      show ∃ m' : Ends, EndsAt (upd H2 D (.dT (putK (kvG V.str m) (ck ((wr : Int) + 1, (i : Int))) (V.str wR)))) D m' ∧ _
      rw [put_kvG]
      have mk2 := mk.put (fun d z => Fq.r (i := i) (j := 0) (k := 0) (d := d) (z := z) (few := (wr : Int)) (L := 2 * wr + 1) (by omega) (by omega) (by omega) (.inr trivial))
      exact ⟨_, upd_same, Nat.le_trans putA_len (by omega), mk2, (k1.trans k2).mut hD⟩
    · rintro D H1 hD ⟨m, e1, l1, mk, k1⟩
      rw [show (((wr : Int) + 1).toNat : Int) = (wr : Int) + 1 by omega] at mk
      walk_at "sts"
      refine forR1_go (fun i σ' H' => ∃ (m : Ends) (y3 y4 : Option V), σ' = [some (.ref T.C_Table), some (.int wr), some (.ref D), y3, y4] ∧ EndsAt H' D m ∧ m.length ≤ 6 + i ∧ Mk m (Fq (wr : Int) (2 * wr + 1) ((wr : Int) + 1) i 0) ∧ Keep [] H H') (by omega) ⟨m, _, _, by first | exact rfl | trivial, e1, by omega, mk, k1⟩ ?_ ?_
      · clear mk l1 e1 k1
        rintro i σ' H2 hi ⟨m, y3, y4, rfl, e2, l2, mk, k2⟩
        walk_at "sts"
        intro u hu
        have k3 : Keep [] H2 (upd H2 u (.tup [.int i, .int ((wr : Int) + 1)])) := Keep.new hu
        have eu : upd H2 u (.tup [.int i, .int ((wr : Int) + 1)]) u = some (cHO ((i : Int), (wr : Int) + 1)) := upd_same
        have e3 := k3 _ _ (by simp) e2
        generalize upd H2 u (.tup [.int i, .int ((wr : Int) + 1)]) = H3 at k3 eu e3 ⊢
        refine r_dputT e3 eu (lt_size (by rw [len_kvG]; omega)) ?_
        rw [put_kvG]
        have mk2 := mk.put (fun d z => Fq.m (i := (wr : Int) + 1) (j := i) (k := 0) (d := d) (z := z) (few := (wr : Int)) (L := 2 * wr + 1) (by omega) (by omega) (by omega))
        exact ⟨_, _, _, by first | exact rfl | trivial, upd_same, Nat.le_trans putA_len (by omega), mk2, (k2.trans k3).mut hD⟩
      · clear mk l1 e1 k1
        rintro σ' H2 ⟨m, y3, y4, rfl, e2, l2, mk, k2⟩
        rw [show (((wr : Int) + 1).toNat : Int) = (wr : Int) + 1 by omega] at mk
        have qf : QT (wr : Int) (2 * wr + 1) m := mk.qt (by omega) (by omega) (by omega) (.inr (by omega))
        have va := qf.valid (by omega) (by omega) (by omega)
        walk_at "sts"
        refine ⟨rfl, ?_⟩
        walk_at "sts"
        intro x dx hx hdx ne
        have eL : (2 * (wr : Int) + 1) = ((2 * wr + 1 : Nat) : Int) := by omega
        rw [eL]
        exact r_newTable hx hdx ne e2 va fun H4 k4 tab => qq _ m H4 (k2.trans k4) tab qf
end
/-! ### the law's own stops -/
open Tab (Rn cnt Mt)
def stopG (m : Ends) (c : Ct) : Option Bool := if hasA m c = true then some true else none
def spLawStops : Sp := fun vs H Q _ => ∃ (L : Nat) (d : Addr) (m : Ends), vs = [.int L, .ref d] ∧ EndsAt H d m ∧ L ≤ 12 ∧ ∀ D H', Keep [] H H' → H D = none → H' D = some (.dT (kvG V.bl (lvG (stopG m) L).1)) → Q (.ref D) H'
theorem stG_some {α : Type} {g : Ct → Option α} {st : List (Ct × α) × List Ct} {x : Ct} {y : α} (h : g x = some y) : stG g st x = (putA st.1 x y, st.2) := by unfold stG; rw [h]
theorem stG_none {α : Type} {g : Ct → Option α} {st : List (Ct × α) × List Ct} {x : Ct} (h : g x = none) : stG g st x = (st.1, Tab.addC st.2 x) := by unfold stG; rw [h]
theorem lvG_size {α : Type} {g : Ct → Option α} {k : Nat} (h : k ≤ 12) : (lvG g k).1.length ≤ 8192 ∧ (lvG g k).2.length ≤ 4096 := by
  have := lvG_len (g := g) (k := k)
  have : 2 ^ k ≤ 2 ^ 12 := Nat.pow_le_pow_right (by decide) h
  omega
section
variable {P : Program} {w : World} {K : PySem.W.Frag} {mg : Str → Option Value} {base : Heap}
theorem ok_stops2 (T : Tx K mg) : FnOk P w K mg base CX0 1 T.f_w_stops T.fd_w_stops ["_law_limit_here", "_law_ends"] spLawStops := by
  refine T.F_w_stops.ok sc_w_stops (fun vs H Q E h => ?_) (fun cdv A outer s H vs Q E hr h => ?_)
  · obtain ⟨L, d, m, rfl, _⟩ := h; rfl
  · obtain ⟨L, d, m, rfl, ed, hL, qq⟩ := h
    refine ⟨_, (pss_cons (ps_set (i := 2) sc_w_stops.nd rfl (Or.inl rfl) pe_dnewT)
    (pss_cons (ps_set (i := 3) sc_w_stops.nd rfl (Or.inl rfl) (pe_lst (pa_cons (pe_tup (pa_cons pe_int (pa_cons pe_int pa_nil))) pa_nil)))
    (pss_cons (ps_for PassesOwn.never rfl (pi_range1 rfl T.m_range (pa_cons (pv 0) pa_nil)) (pg_name (i := 4) sc_w_stops.nd rfl (Or.inl rfl))
    (pss_cons (ps_set (i := 5) sc_w_stops.nd rfl (Or.inl rfl) (pe_lst pa_nil))
    (pss_cons (ps_for PassesOwn.never rfl (pi_list (pv 3)) (pg_name (i := 6) sc_w_stops.nd rfl (Or.inl rfl))
    (pss_one (ps_for PassesOwn.never rfl (pi_list (pe_lst (pa_cons (pe_tup (pa_cons (pe_op op_add (pe_ix ix_tup (pv 6) pe_int (fun _ _ => rfl)) pe_int) (pa_cons (pe_ix ix_tup (pv 6) pe_int (fun _ _ => rfl)) pa_nil))) (pa_cons (pe_tup (pa_cons (pe_ix ix_tup (pv 6) pe_int (fun _ _ => rfl)) (pa_cons (pe_op op_add (pe_ix ix_tup (pv 6) pe_int (fun _ _ => rfl)) pe_int) pa_nil))) pa_nil)))) (pg_name (i := 7) sc_w_stops.nd rfl (Or.inl rfl))
    (pss_one (ps_if (pt_cmp (pc_din (hu_of hr) (pv 7) (pv 1)))
    (pss_one (ps_dput (hu_of hr) (pv 2) (pv 7) pe_bl rfl))
    (pss_one (ps_if (pt_cmpR (op_notInD (Dt.inD_of hr)) (pv 7) (pv 5) (by rfl))
    (pss_one (ps_expr (pe_bm PySem.F.plainAttrs_list PySem.F.slot_list_append PySem.F.type_list_append mt_append (pv 5) (pa_cons (pv 7) pa_nil))))
    pss_nil)))))))
    (pss_one (ps_set (i := 3) sc_w_stops.nd rfl (Or.inl rfl) (pe_callTy call_list_of (by rfl) T.m_list (by decide +kernel) (pa_cons (pv 5) pa_nil)))))))
    (pss_one (ps_ret (pv 2)))))), ?_⟩
    walk_at "start"
    walk_at "sts"
    refine r_dnewT fun D hD => ?_
    have k0 : Keep [] H (upd H D (.dT [])) := Keep.new hD
    have eD : upd H D (.dT []) D = some (.dT (kvG V.bl (lvG (stopG m) 0).1)) := upd_same
    generalize upd H D (.dT []) = H0 at k0 eD ⊢
    walk_at "sts"
    intro t0 ht0
    have k1 : Keep [] H0 (upd H0 t0 (.tup [.int 0, .int 0])) := Keep.new ht0
    have et0 : upd H0 t0 (.tup [.int 0, .int 0]) t0 = some (cHO (0, 0)) := upd_same
    generalize upd H0 t0 (.tup [.int 0, .int 0]) = H1 at k1 et0 ⊢
    walk_at "sts"
    intro l hl
    have k2 : Keep [] H1 (upd H1 l (.lst [.ref t0])) := Keep.new hl
    have el : CtsAt (upd H1 l (.lst [.ref t0])) l (lvG (stopG m) 0).2 := ⟨[t0], upd_same, k2 _ _ (by simp) et0, trivial⟩
    have eD2 := (k1.trans k2) _ _ (by simp) eD
    have k12 := k0.trans (k1.trans k2)
    generalize upd H1 l (.lst [.ref t0]) = H2 at k2 el k12 eD2 ⊢
    walk_at "sts"
    refine forR1_go (fun i σ' H' => ∃ (l' : Addr) (y4 y5 y6 y7 : Option V), σ' = [some (.int L), some (.ref d), some (.ref D), some (.ref l'), y4, y5, y6, y7] ∧ CtsAt H' l' (lvG (stopG m) i).2 ∧ H' D = some (.dT (kvG V.bl (lvG (stopG m) i).1)) ∧ Keep [] H H') (by omega) ⟨l, _, _, _, _, by first | exact rfl | trivial, el, eD2, k12⟩ ?_ ?_
    · rintro i σ' H3 hi ⟨l', y4, y5, y6, y7, rfl, ⟨na, el', hn'⟩, eD3, k3⟩
      walk_at "sts"
      intro la hla
      have k4 : Keep [] H3 (upd H3 la (.lst [])) := Keep.new hla
      have hla0 : H la = none := k3.free (by simp) hla
      have ela : upd H3 la (.lst []) la = some (.lst (([] : List Addr).map V.ref)) := upd_same
      have eD4 := k4 _ _ (by simp) eD3
      have nlD : la ≠ D := by rintro rfl; cases (hla.symm.trans eD3)
      generalize upd H3 la (.lst []) = H4 at k4 ela eD4 ⊢
      have el4 := k4 _ _ (by simp) el'
      have nl := hn'.len
      have lv := lvG_size (g := stopG m) (k := i) (by omega)
      have nDl : l' ≠ D := by rintro rfl; cases (el'.symm.trans eD3)
      have nla : l' ≠ la := by rintro rfl; cases (hla.symm.trans el')
      walk_at "sts"
      refine forL_go (fun j σ' H' => ∃ (bs : List Addr) (z6 z7 : Option V), σ' = [some (.int L), some (.ref d), some (.ref D), some (.ref l'), some (.int i), some (.ref la), z6, z7] ∧ H' la = some (.lst (bs.map V.ref)) ∧ AllAt cHO H' bs (((lvG (stopG m) i).2.take j).foldl (stD (stopG m)) ((lvG (stopG m) i).1, [])).2 ∧ H' D = some (.dT (kvG V.bl (((lvG (stopG m) i).2.take j).foldl (stD (stopG m)) ((lvG (stopG m) i).1, [])).1)) ∧ Keep [D] H3 H') (sqL_of el4) ⟨[], _, _, by first | exact rfl | trivial, ela, trivial, eD4, k4.mono (by simp)⟩ (fun j σ' H' _ h => by obtain ⟨_, _, _, _, _, _, _, k⟩ := h; exact sqL_of (k _ _ (by simpa using nDl) el')) ?_ ?_
      · rintro j v σ' H5 hv ⟨bs, z6, z7, rfl, e5, hb5, eD5, k5⟩
        obtain ⟨b, hb, rfl⟩ := getRef hv
        obtain ⟨c, hc, eb⟩ := hn'.get hb
        have nbD : b ≠ D := by rintro rfl; cases (eb.symm.trans eD3)
        have eb5 : H5 b = some (.tup [.int c.1, .int c.2]) := k5 _ _ (by simpa using nbD) eb
        have hjl : j < (lvG (stopG m) i).2.length := (List.getElem?_eq_some_iff.mp hc).1
        have szs := foldD_len (g := stopG m) (xs := (lvG (stopG m) i).2.take j) (st := ((lvG (stopG m) i).1, []))
        rw [List.length_take] at szs
        simp only [List.length_nil] at szs
        rw [take_snoc hc, List.foldl_append, List.foldl_cons, List.foldl_nil]
        generalize ((lvG (stopG m) i).2.take j).foldl (stD (stopG m)) ((lvG (stopG m) i).1, []) = st at szs hb5 eD5 ⊢
        walk_at "sts"
        intro u1 hu1
        have k6 : Keep [] H5 (upd H5 u1 (.tup [.int (c.1 + 1), .int c.2])) := Keep.new hu1
        have eu1 : upd H5 u1 (.tup [.int (c.1 + 1), .int c.2]) u1 = some (cHO (c.1 + 1, c.2)) := upd_same
        generalize upd H5 u1 (.tup [.int (c.1 + 1), .int c.2]) = H6 at k6 eu1 ⊢
        have eb6 := k6 _ _ (by simp) eb5
        walk_at "sts"
        intro u2 hu2
        have k7 : Keep [] H6 (upd H6 u2 (.tup [.int c.1, .int (c.2 + 1)])) := Keep.new hu2
        have eu2 : upd H6 u2 (.tup [.int c.1, .int (c.2 + 1)]) u2 = some (cHO (c.1, c.2 + 1)) := upd_same
        have eu12 := k7 _ _ (by simp) eu1
        generalize upd H6 u2 (.tup [.int c.1, .int (c.2 + 1)]) = H7 at k7 eu2 eu12 ⊢
        walk_at "sts"
        intro l3 hl3
        have k8 : Keep [] H7 (upd H7 l3 (.lst [.ref u1, .ref u2])) := Keep.new hl3
        have el3 : upd H7 l3 (.lst [.ref u1, .ref u2]) l3 = some (.lst (([u1, u2] : List Addr).map V.ref)) := upd_same
        have k58 := k6.trans (k7.trans k8)
        have eus : AllAt cHO (upd H7 l3 (.lst [.ref u1, .ref u2])) [u1, u2] [(c.1 + 1, c.2), (c.1, c.2 + 1)] := ⟨k8 _ _ (by simp) eu12, k8 _ _ (by simp) eu2, trivial⟩
        have nl3 : l3 ≠ la := by rintro rfl; cases (hl3.symm.trans ((k6.trans k7) _ _ (by simp) e5))
        have nl3D : l3 ≠ D := by rintro rfl; cases (hl3.symm.trans ((k6.trans k7) _ _ (by simp) eD5))
        generalize upd H7 l3 (.lst [.ref u1, .ref u2]) = H8 at k8 el3 k58 eus ⊢
        have ela8 := k58 _ _ (by simp) e5
        have eD8 := k58 _ _ (by simp) eD5
        have edd : H8 d = some (.dT (kvG V.str m)) := by
          have := k3 _ _ (by simp) ed
          have ndD : d ≠ D := by rintro rfl; cases (hD.symm.trans ed)
          exact k58 _ _ (by simp) (k5 _ _ (by simpa using ndD) this)
        have ndD : d ≠ D := by rintro rfl; cases (hD.symm.trans ed)
        have ndl : d ≠ la := by rintro rfl; cases (edd.symm.trans ela8)
        clear k6 k7 k8 eu1 eu2 eu12 hl3 hu1 hu2 eb6 eb5
        walk_at "sts"
        refine forL_go (fun g σ' H' => ∃ (bs' : List Addr) (z7 : Option V), σ' = [some (.int L), some (.ref d), some (.ref D), some (.ref l'), some (.int i), some (.ref la), some (.ref b), z7] ∧ H' la = some (.lst (bs'.map V.ref)) ∧ AllAt cHO H' bs' ((([(c.1 + 1, c.2), (c.1, c.2 + 1)] : List Ct).take g).foldl (stG (stopG m)) st).2 ∧ H' D = some (.dT (kvG V.bl ((([(c.1 + 1, c.2), (c.1, c.2 + 1)] : List Ct).take g).foldl (stG (stopG m)) st).1)) ∧ Keep [la, D] H8 H') (sqL_of el3) ⟨bs, _, by first | exact rfl | trivial, ela8, hb5.keep0 k58, eD8, Keep.refl _ _⟩ (fun g σ' H' _ h => by obtain ⟨_, _, _, _, _, _, k⟩ := h; exact sqL_of (k _ _ (by simp [nl3, nl3D]) el3)) ?_ ?_
        · rintro g v2 σ' H9 hv2 ⟨bs', z7, rfl, e9, hb9, eD9, k9⟩
          obtain ⟨u, hu, rfl⟩ := getRef hv2
          obtain ⟨x, hx, eux⟩ := eus.get hu
          have neu : u ≠ la := by rintro rfl; cases (eux.symm.trans ela8)
          have neD : u ≠ D := by rintro rfl; cases (eux.symm.trans eD8)
          have eu9 := k9 _ _ (by simp [neu, neD]) eux
          have ed9 := k9 _ _ (by simp [ndl, ndD]) edd
          have sn : ([(c.1 + 1, c.2), (c.1, c.2 + 1)] : List Ct).take (g + 1) = ([(c.1 + 1, c.2), (c.1, c.2 + 1)] : List Ct).take g ++ [x] := take_snoc hx
          have ln := fold_len (g := stopG m) (xs := ([(c.1 + 1, c.2), (c.1, c.2 + 1)] : List Ct).take g) (st := st)
          have lg : (([(c.1 + 1, c.2), (c.1, c.2 + 1)] : List Ct).take g).length ≤ 2 := by rw [List.length_take]; simp; omega
          have lb := hb9.len
          rw [sn, List.foldl_append]
          generalize (([(c.1 + 1, c.2), (c.1, c.2 + 1)] : List Ct).take g).foldl (stG (stopG m)) st = s9 at hb9 ln lb eD9 ⊢
          simp only [List.foldl_cons, List.foldl_nil]
          walk_at "sts"
          refine r_dinT (f := V.str) ed9 eu9 ?_
          refine ⟨_, rfl, ?_⟩
          refine r_iteb (fun c0 => ?_) (fun c0 => ?_)
          · have hM : hasA m x = true := c0
            rw [stG_some (show stopG m x = some true by unfold stopG; rw [hM]; rfl)]
            walk_at "sts"
            refine r_dputT eD9 eu9 (lt_size (by rw [len_kvG]; omega)) ?_
            rw [put_kvG]
            exact ⟨bs', _, by first | exact rfl | trivial, by rw [upd_ne nlD]; exact e9, cts_upd hb9 (fun ys e => by rw [eD9] at e; cases e), upd_same, k9.trans (Keep.at (by simp))⟩
          · have hM : hasA m x = false := c0
            rw [stG_none (show stopG m x = none by unfold stopG; rw [hM]; rfl)]
            walk_at "sts"
            refine r_ninC eu9 ⟨bs', e9, hb9⟩ ?_
            walk_at "sts"
            unfold Tab.addC
            refine r_iteN (fun c1 => ?_) (fun c1 => ?_)
            · rw [if_neg c1]
              walk_at "sts"
              refine ⟨bs' ++ [u], _, by first | exact rfl | trivial, by rw [upd_same, List.map_append]; rfl, ?_, by rw [upd_ne nlD.symm]; exact eD9, k9.trans (Keep.at (by simp))⟩
              exact cts_upd (hb9.app (bs := [u]) (ys := [x]) ⟨eu9, trivial⟩) (fun ys e => by rw [e9] at e; cases e)
            · rw [if_pos c1]
              walk_at "sts"
              exact ⟨bs', _, by first | exact rfl | trivial, e9, hb9, eD9, k9⟩
        · rintro σ' H9 ⟨bs', z7, rfl, e9, hb9, eD9, k9⟩
          rw [show (([u1, u2] : List Addr).map V.ref).length = 2 from rfl, show ([(c.1 + 1, c.2), (c.1, c.2 + 1)] : List Ct).take 2 = [(c.1 + 1, c.2), (c.1, c.2 + 1)] from rfl, stD_fold] at hb9 eD9
          walk_at "sts"
          refine ⟨bs', _, _, by first | exact rfl | trivial, e9, hb9, eD9, ?_⟩
          intro a o ha e
          have ha' : a ≠ D := by simpa using ha
          have hal : a ≠ la := by rintro rfl; rw [hla] at e; cases e
          exact k9 a o (by simp [ha', hal]) ((k5.trans (k58.mono (by simp))) a o ha e)
      · rintro σ' H5 ⟨bs, z6, z7, rfl, e5, hb5, eD5, k5⟩
        rw [List.length_map, nl, List.take_length] at hb5 eD5
        walk_at "sts"
        intro l2 hl2
        have k6 : Keep [] H5 (upd H5 l2 (.lst (bs.map V.ref))) := Keep.new hl2
        have k35 : Keep [] H (upd H5 l2 (.lst (bs.map V.ref))) := Keep.dropNew k3 (k5.trans (k6.mono (by simp))) hD
        walk_at "sts"
        exact ⟨l2, _, _, _, _, by first | exact rfl | trivial, ⟨bs, upd_same, hb5.keep0 k6⟩, k6 _ _ (by simp) eD5, k35⟩
    · rintro σ' H3 ⟨l', y4, y5, y6, y7, rfl, _, eD3, k3⟩
      have e : (L : Int).toNat = L := by omega
      rw [e] at eD3
      walk_at "sts"
      exact qq D H3 k3 hD eD3
end
/-! ### the law's own race -/
open Tab (Rn cnt Mt)
def e0 : Str := Str.ofString ""
theorem raceG_ne {wr : Int} {L : Nat} {x : Ct} {y : Str} (h : raceG wr L x = some y) : ¬ (some y).getD e0 = Str.ofString "" := by
  show ¬ y = Str.ofString ""
  have e : y = wR ∨ y = wM ∨ y = wU := by
    unfold raceG at h
    split at h
    · cases h; exact .inl rfl
    · split at h
      · cases h; exact .inr (.inl rfl)
      · split at h
        · cases h; exact .inr (.inr rfl)
        · cases h
  rcases e with rfl | rfl | rfl <;> decide
def spRaceWord : Sp := fun vs H Q _ => ∃ (q : Addr) (c : Ct) (wr : Int) (L : Nat), vs = [.ref q, .int wr, .int L] ∧ H q = some (cHO c) ∧ Q (.str ((raceG wr L c).getD e0)) H
def spLawRace : Sp := fun vs H Q _ => ∃ (wr : Int) (L : Nat), vs = [.int wr, .int L] ∧ L ≤ 12 ∧ ∀ D H', Keep [] H H' → H D = none → EndsAt H' D (lvG (raceG wr L) L).1 → Q (.ref D) H'
section
variable {P : Program} {w : World} {K : PySem.W.Frag} {mg : Str → Option Value} {base : Heap}
theorem ok_race_word (T : Tx K mg) : FnOk P w K mg base CX0 1 T.f_w_race_word T.fd_w_race_word ["_law_count", "_law_wrong_here", "_law_limit_here"] spRaceWord := by
  refine T.F_w_race_word.ok sc_w_race_word (fun vs H Q E h => ?_) (fun cdv A outer s H vs Q E hr h => ?_)
  · obtain ⟨q, c, wr, L, rfl, _⟩ := h; rfl
  · obtain ⟨q, c, wr, L, rfl, eq, qq⟩ := h
    have eq2 : H q = some (.tup [.int c.1, .int c.2]) := eq
    refine ⟨_, (pss_cons (ps_if (pt_cmpR op_gt (pe_ix ix_tup (pv 0) pe_int (fun _ _ => rfl)) (pv 1) (nomark _))
    (pss_one (ps_ret pe_str))
    pss_nil)
    (pss_cons (ps_if (pt_cmpR op_gt (pe_ix ix_tup (pv 0) pe_int (fun _ _ => rfl)) (pv 1) (nomark _))
    (pss_one (ps_ret pe_str))
    pss_nil)
    (pss_cons (ps_if (pt_cmpR op_eq (pe_op op_add (pe_ix ix_tup (pv 0) pe_int (fun _ _ => rfl)) (pe_ix ix_tup (pv 0) pe_int (fun _ _ => rfl))) (pv 2) (nomark _))
    (pss_one (ps_ret pe_str))
    pss_nil)
    (pss_one (ps_ret pe_str))))), ?_⟩
    walk_at "start"
    walk_at "sts"
    refine r_ite (fun c1 => ?_) (fun c1 => ?_)
    · walk_at "sts"
      rw [raceG_r (by omega)] at qq; exact qq
    · walk_at "sts"
      refine r_ite (fun c2 => ?_) (fun c2 => ?_)
      · walk_at "sts"
        rw [raceG_m (by omega) (by omega)] at qq; exact qq
      · walk_at "sts"
        refine r_ite (fun c3 => ?_) (fun c3 => ?_)
        · walk_at "sts"
          rw [raceG_u (by omega) (by omega) c3] at qq; exact qq
        · walk_at "sts"
          rw [raceG_n (by omega) (by omega) c3] at qq; exact qq
theorem ok_law_race (T : Tx K mg) (G_w_race_word : FnOk P w K mg base CX0 1 T.f_w_race_word T.fd_w_race_word ["_law_count", "_law_wrong_here", "_law_limit_here"] spRaceWord) : FnOk P w K mg base CX0 2 T.f_w_race T.fd_w_race ["_law_wrong_here", "_law_limit_here"] spLawRace := by
  refine T.F_w_race.ok sc_w_race (fun vs H Q E h => ?_) (fun cdv A outer s H vs Q E hr h => ?_)
  · obtain ⟨wr, L, rfl, _⟩ := h; rfl
  · obtain ⟨wr, L, rfl, hL, qq⟩ := h
    refine ⟨_, (pss_cons (ps_set (i := 2) sc_w_race.nd rfl (Or.inl rfl) pe_dnewT)
    (pss_cons (ps_set (i := 3) sc_w_race.nd rfl (Or.inl rfl) (pe_lst (pa_cons (pe_tup (pa_cons pe_int (pa_cons pe_int pa_nil))) pa_nil)))
    (pss_cons (ps_for PassesOwn.never rfl (pi_range1 rfl T.m_range (pa_cons (pv 1) pa_nil)) (pg_name (i := 4) sc_w_race.nd rfl (Or.inl rfl))
    (pss_cons (ps_set (i := 5) sc_w_race.nd rfl (Or.inl rfl) (pe_lst pa_nil))
    (pss_cons (ps_for PassesOwn.never rfl (pi_list (pv 3)) (pg_name (i := 6) sc_w_race.nd rfl (Or.inl rfl))
    (pss_one (ps_for PassesOwn.never rfl (pi_list (pe_lst (pa_cons (pe_tup (pa_cons (pe_op op_add (pe_ix ix_tup (pv 6) pe_int (fun _ _ => rfl)) pe_int) (pa_cons (pe_ix ix_tup (pv 6) pe_int (fun _ _ => rfl)) pa_nil))) (pa_cons (pe_tup (pa_cons (pe_ix ix_tup (pv 6) pe_int (fun _ _ => rfl)) (pa_cons (pe_op op_add (pe_ix ix_tup (pv 6) pe_int (fun _ _ => rfl)) pe_int) pa_nil))) pa_nil)))) (pg_name (i := 7) sc_w_race.nd rfl (Or.inl rfl))
    (pss_cons (ps_set (i := 8) sc_w_race.nd rfl (Or.inl rfl) (pe_call G_w_race_word (hr.mono (by decide)) rfl T.g_w_race_word T.F_w_race_word.kp T.b_w_race_word .nil pass0 (pa_cons (pv 7) (pa_cons (pv 0) (pa_cons (pv 1) pa_nil)))))
    (pss_one (ps_if (pt_cmpR op_ne (pv 8) pe_str (nomark _))
    (pss_one (ps_dput (hu_of hr) (pv 2) (pv 7) (pv 8) rfl))
    (pss_one (ps_if (pt_cmpR (op_notInD (Dt.inD_of hr)) (pv 7) (pv 5) (by rfl))
    (pss_one (ps_expr (pe_bm PySem.F.plainAttrs_list PySem.F.slot_list_append PySem.F.type_list_append mt_append (pv 5) (pa_cons (pv 7) pa_nil))))
    pss_nil))))))))
    (pss_one (ps_set (i := 3) sc_w_race.nd rfl (Or.inl rfl) (pe_callTy call_list_of (by rfl) T.m_list (by decide +kernel) (pa_cons (pv 5) pa_nil)))))))
    (pss_one (ps_ret (pv 2)))))), ?_⟩
    walk_at "start"
    walk_at "sts"
    refine r_dnewT fun D hD => ?_
    have k0 : Keep [] H (upd H D (.dT [])) := Keep.new hD
    have eD : upd H D (.dT []) D = some (.dT (kvG V.str (lvG (raceG wr L) 0).1)) := upd_same
    generalize upd H D (.dT []) = H0 at k0 eD ⊢
    walk_at "sts"
    intro t0 ht0
    have k1 : Keep [] H0 (upd H0 t0 (.tup [.int 0, .int 0])) := Keep.new ht0
    have et0 : upd H0 t0 (.tup [.int 0, .int 0]) t0 = some (cHO (0, 0)) := upd_same
    generalize upd H0 t0 (.tup [.int 0, .int 0]) = H1 at k1 et0 ⊢
    walk_at "sts"
    intro l hl
    have k2 : Keep [] H1 (upd H1 l (.lst [.ref t0])) := Keep.new hl
    have el : CtsAt (upd H1 l (.lst [.ref t0])) l (lvG (raceG wr L) 0).2 := ⟨[t0], upd_same, k2 _ _ (by simp) et0, trivial⟩
    have eD2 := (k1.trans k2) _ _ (by simp) eD
    have k12 := k0.trans (k1.trans k2)
    generalize upd H1 l (.lst [.ref t0]) = H2 at k2 el k12 eD2 ⊢
    walk_at "sts"
    refine forR1_go (fun i σ' H' => ∃ (l' : Addr) (y4 y5 y6 y7 y8 : Option V), σ' = [some (.int wr), some (.int L), some (.ref D), some (.ref l'), y4, y5, y6, y7, y8] ∧ CtsAt H' l' (lvG (raceG wr L) i).2 ∧ H' D = some (.dT (kvG V.str (lvG (raceG wr L) i).1)) ∧ Keep [] H H') (by omega) ⟨l, _, _, _, _, _, by first | exact rfl | trivial, el, eD2, k12⟩ ?_ ?_
    · rintro i σ' H3 hi ⟨l', y4, y5, y6, y7, y8, rfl, ⟨na, el', hn'⟩, eD3, k3⟩
      walk_at "sts"
      intro la hla
      have k4 : Keep [] H3 (upd H3 la (.lst [])) := Keep.new hla
      have hla0 : H la = none := k3.free (by simp) hla
      have ela : upd H3 la (.lst []) la = some (.lst (([] : List Addr).map V.ref)) := upd_same
      have eD4 := k4 _ _ (by simp) eD3
      have nlD : la ≠ D := by rintro rfl; cases (hla.symm.trans eD3)
      generalize upd H3 la (.lst []) = H4 at k4 ela eD4 ⊢
      have el4 := k4 _ _ (by simp) el'
      have nl := hn'.len
      have lv := lvG_size (g := raceG wr L) (k := i) (by omega)
      have nDl : l' ≠ D := by rintro rfl; cases (el'.symm.trans eD3)
      have nla : l' ≠ la := by rintro rfl; cases (hla.symm.trans el')
      walk_at "sts"
      refine forL_go (fun j σ' H' => ∃ (bs : List Addr) (z6 z7 z8 : Option V), σ' = [some (.int wr), some (.int L), some (.ref D), some (.ref l'), some (.int i), some (.ref la), z6, z7, z8] ∧ H' la = some (.lst (bs.map V.ref)) ∧ AllAt cHO H' bs (((lvG (raceG wr L) i).2.take j).foldl (stD (raceG wr L)) ((lvG (raceG wr L) i).1, [])).2 ∧ H' D = some (.dT (kvG V.str (((lvG (raceG wr L) i).2.take j).foldl (stD (raceG wr L)) ((lvG (raceG wr L) i).1, [])).1)) ∧ Keep [D] H3 H') (sqL_of el4) ⟨[], _, _, _, by first | exact rfl | trivial, ela, trivial, eD4, k4.mono (by simp)⟩ (fun j σ' H' _ h => by obtain ⟨_, _, _, _, _, _, _, _, k⟩ := h; exact sqL_of (k _ _ (by simpa using nDl) el')) ?_ ?_
      · rintro j v σ' H5 hv ⟨bs, z6, z7, z8, rfl, e5, hb5, eD5, k5⟩
        obtain ⟨b, hb, rfl⟩ := getRef hv
        obtain ⟨c, hc, eb⟩ := hn'.get hb
        have nbD : b ≠ D := by rintro rfl; cases (eb.symm.trans eD3)
        have eb5 : H5 b = some (.tup [.int c.1, .int c.2]) := k5 _ _ (by simpa using nbD) eb
        have hjl : j < (lvG (raceG wr L) i).2.length := (List.getElem?_eq_some_iff.mp hc).1
        have szs := foldD_len (g := raceG wr L) (xs := (lvG (raceG wr L) i).2.take j) (st := ((lvG (raceG wr L) i).1, []))
        rw [List.length_take] at szs
        simp only [List.length_nil] at szs
        rw [take_snoc hc, List.foldl_append, List.foldl_cons, List.foldl_nil]
        generalize ((lvG (raceG wr L) i).2.take j).foldl (stD (raceG wr L)) ((lvG (raceG wr L) i).1, []) = st at szs hb5 eD5 ⊢
        walk_at "sts"
        intro u1 hu1
        have k6 : Keep [] H5 (upd H5 u1 (.tup [.int (c.1 + 1), .int c.2])) := Keep.new hu1
        have eu1 : upd H5 u1 (.tup [.int (c.1 + 1), .int c.2]) u1 = some (cHO (c.1 + 1, c.2)) := upd_same
        generalize upd H5 u1 (.tup [.int (c.1 + 1), .int c.2]) = H6 at k6 eu1 ⊢
        have eb6 := k6 _ _ (by simp) eb5
        walk_at "sts"
        intro u2 hu2
        have k7 : Keep [] H6 (upd H6 u2 (.tup [.int c.1, .int (c.2 + 1)])) := Keep.new hu2
        have eu2 : upd H6 u2 (.tup [.int c.1, .int (c.2 + 1)]) u2 = some (cHO (c.1, c.2 + 1)) := upd_same
        have eu12 := k7 _ _ (by simp) eu1
        generalize upd H6 u2 (.tup [.int c.1, .int (c.2 + 1)]) = H7 at k7 eu2 eu12 ⊢
        walk_at "sts"
        intro l3 hl3
        have k8 : Keep [] H7 (upd H7 l3 (.lst [.ref u1, .ref u2])) := Keep.new hl3
        have el3 : upd H7 l3 (.lst [.ref u1, .ref u2]) l3 = some (.lst (([u1, u2] : List Addr).map V.ref)) := upd_same
        have k58 := k6.trans (k7.trans k8)
        have eus : AllAt cHO (upd H7 l3 (.lst [.ref u1, .ref u2])) [u1, u2] [(c.1 + 1, c.2), (c.1, c.2 + 1)] := ⟨k8 _ _ (by simp) eu12, k8 _ _ (by simp) eu2, trivial⟩
        have nl3 : l3 ≠ la := by rintro rfl; cases (hl3.symm.trans ((k6.trans k7) _ _ (by simp) e5))
        have nl3D : l3 ≠ D := by rintro rfl; cases (hl3.symm.trans ((k6.trans k7) _ _ (by simp) eD5))
        generalize upd H7 l3 (.lst [.ref u1, .ref u2]) = H8 at k8 el3 k58 eus ⊢
        have ela8 := k58 _ _ (by simp) e5
        have eD8 := k58 _ _ (by simp) eD5
        clear k6 k7 k8 eu1 eu2 eu12 hl3 hu1 hu2 eb6 eb5
        walk_at "sts"
        refine forL_go (fun g σ' H' => ∃ (bs' : List Addr) (z7 z8 : Option V), σ' = [some (.int wr), some (.int L), some (.ref D), some (.ref l'), some (.int i), some (.ref la), some (.ref b), z7, z8] ∧ H' la = some (.lst (bs'.map V.ref)) ∧ AllAt cHO H' bs' ((([(c.1 + 1, c.2), (c.1, c.2 + 1)] : List Ct).take g).foldl (stG (raceG wr L)) st).2 ∧ H' D = some (.dT (kvG V.str ((([(c.1 + 1, c.2), (c.1, c.2 + 1)] : List Ct).take g).foldl (stG (raceG wr L)) st).1)) ∧ Keep [la, D] H8 H') (sqL_of el3) ⟨bs, _, _, by first | exact rfl | trivial, ela8, hb5.keep0 k58, eD8, Keep.refl _ _⟩ (fun g σ' H' _ h => by obtain ⟨_, _, _, _, _, _, _, k⟩ := h; exact sqL_of (k _ _ (by simp [nl3, nl3D]) el3)) ?_ ?_
        · rintro g v2 σ' H9 hv2 ⟨bs', z7, z8, rfl, e9, hb9, eD9, k9⟩
          obtain ⟨u, hu, rfl⟩ := getRef hv2
          obtain ⟨x, hx, eux⟩ := eus.get hu
          have neu : u ≠ la := by rintro rfl; cases (eux.symm.trans ela8)
          have neD : u ≠ D := by rintro rfl; cases (eux.symm.trans eD8)
          have eu9 := k9 _ _ (by simp [neu, neD]) eux
          have sn : ([(c.1 + 1, c.2), (c.1, c.2 + 1)] : List Ct).take (g + 1) = ([(c.1 + 1, c.2), (c.1, c.2 + 1)] : List Ct).take g ++ [x] := take_snoc hx
          have ln := fold_len (g := raceG wr L) (xs := ([(c.1 + 1, c.2), (c.1, c.2 + 1)] : List Ct).take g) (st := st)
          have lg : (([(c.1 + 1, c.2), (c.1, c.2 + 1)] : List Ct).take g).length ≤ 2 := by rw [List.length_take]; simp; omega
          have lb := hb9.len
          rw [sn, List.foldl_append]
          generalize (([(c.1 + 1, c.2), (c.1, c.2 + 1)] : List Ct).take g).foldl (stG (raceG wr L)) st = s9 at hb9 ln lb eD9 ⊢
          simp only [List.foldl_cons, List.foldl_nil]
          walk_at "sts"
          refine ⟨u, x, wr, L, rfl, eu9, ?_⟩
          cases hM : raceG wr L x with
          | some y =>
            rw [stG_some hM]
            walk_at "sts"
            refine r_iteNT (raceG_ne hM) ?_
            walk_at "sts"
            refine r_dputT eD9 eu9 (lt_size (by rw [len_kvG]; omega)) ?_
            rw [put_kvG]
            exact ⟨bs', _, _, by first | exact rfl | trivial, by rw [upd_ne nlD]; exact e9, cts_upd hb9 (fun ys e => by rw [eD9] at e; cases e), upd_same, k9.trans (Keep.at (by simp))⟩
          | none =>
            rw [stG_none hM]
            walk_at "sts"
            refine r_ninC eu9 ⟨bs', e9, hb9⟩ ?_
            walk_at "sts"
            unfold Tab.addC
            refine r_iteN (fun c1 => ?_) (fun c1 => ?_)
            · rw [if_neg c1]
              walk_at "sts"
              refine ⟨bs' ++ [u], _, _, by first | exact rfl | trivial, by rw [upd_same, List.map_append]; rfl, ?_, by rw [upd_ne nlD.symm]; exact eD9, k9.trans (Keep.at (by simp))⟩
              exact cts_upd (hb9.app (bs := [u]) (ys := [x]) ⟨eu9, trivial⟩) (fun ys e => by rw [e9] at e; cases e)
            · rw [if_pos c1]
              walk_at "sts"
              exact ⟨bs', _, _, by first | exact rfl | trivial, e9, hb9, eD9, k9⟩
        · rintro σ' H9 ⟨bs', z7, z8, rfl, e9, hb9, eD9, k9⟩
          rw [show (([u1, u2] : List Addr).map V.ref).length = 2 from rfl, show ([(c.1 + 1, c.2), (c.1, c.2 + 1)] : List Ct).take 2 = [(c.1 + 1, c.2), (c.1, c.2 + 1)] from rfl, stD_fold] at hb9 eD9
          walk_at "sts"
          refine ⟨bs', _, _, _, by first | exact rfl | trivial, e9, hb9, eD9, ?_⟩
          intro a o ha e
          have ha' : a ≠ D := by simpa using ha
          have hal : a ≠ la := by rintro rfl; rw [hla] at e; cases e
          exact k9 a o (by simp [ha', hal]) ((k5.trans (k58.mono (by simp))) a o ha e)
      · rintro σ' H5 ⟨bs, z6, z7, z8, rfl, e5, hb5, eD5, k5⟩
        rw [List.length_map, nl, List.take_length] at hb5 eD5
        walk_at "sts"
        intro l2 hl2
        have k6 : Keep [] H5 (upd H5 l2 (.lst (bs.map V.ref))) := Keep.new hl2
        have k35 : Keep [] H (upd H5 l2 (.lst (bs.map V.ref))) := Keep.dropNew k3 (k5.trans (k6.mono (by simp))) hD
        walk_at "sts"
        exact ⟨l2, _, _, _, _, _, by first | exact rfl | trivial, ⟨bs, upd_same, hb5.keep0 k6⟩, k6 _ _ (by simp) eD5, k35⟩
    · rintro σ' H3 ⟨l', y4, y5, y6, y7, y8, rfl, _, eD3, k3⟩
      have e : (L : Int).toNat = L := by omega
      rw [e] at eD3
      walk_at "sts"
      exact qq D H3 k3 hD eD3
end
/-! ### softened, as the law has it -/
open Tab (Rn cnt Mt)
theorem stopG_is {m : Ends} : (fun c => (stopG m c).isSome) = hasA m := by
  funext c; unfold stopG; cases hasA m c <;> rfl
theorem Valid.zero0 {L : Nat} {m : Ends} (va : Valid L m) : hasA m (0, 0) = false := by
  cases e : hasA m (0, 0) with
  | false => rfl
  | true =>
    obtain ⟨p, hp, e2⟩ := List.mem_map.mp (hasA_iff.mp e)
    have := va.key p hp
    rw [e2] at this
    simp at this
theorem stops_has {m : Ends} {L : Nat} (va : Valid L m) {c : Ct} : hasA (lvG (stopG m) L).1 c = true ↔ IsStop m L c := by
  have h0 : stopG m (0, 0) = none := by unfold stopG; rw [va.zero0]; rfl
  have g := fun y => lvG_get (g := stopG m) h0 (y := y) (k := L) (x := c)
  rw [stopG_is] at g
  unfold IsStop
  constructor
  · intro h
    unfold hasA at h
    obtain ⟨y, hy⟩ := Option.isSome_iff_exists.mp h
    obtain ⟨a, b⟩ := (g y).mp hy
    refine ⟨b, ?_⟩
    unfold stopG at a
    split at a
    · assumption
    · cases a
  · rintro ⟨b, a⟩
    have := (g true).mpr ⟨by unfold stopG; rw [a]; rfl, b⟩
    unfold hasA; rw [this]; rfl
def StopsAt (H : Hp) (r : Addr) (m : Ends) (L : Nat) : Prop := H r = some (.dT (kvG V.bl (lvG (stopG m) L).1))
theorem soft_false {m : Ends} {L : Nat} {wr : Int} (va : Valid L m) {p : Ct × Str} (hp : p ∈ m) : p.1 ∈ falseC m L wr ↔ hasA (lvG (stopG m) L).1 p.1 = true ∧ falseB p.1 p.2 wr = true := by
  rw [falseC_iff, stops_has va, wordA_of va.nd hp]
  unfold IsStop
  have : hasA m p.1 = true := hasA_iff.mpr (List.mem_map_of_mem hp)
  simp [this]
def spSoft : Sp := fun vs H Q _ => ∃ (d r : Addr) (wr : Int) (L : Nat) (m : Ends), vs = [.ref d, .ref r, .int wr] ∧ EndsAt H d m ∧ StopsAt H r m L ∧ Valid L m ∧
  ∀ D H', Keep [] H H' → H D = none → EndsAt H' D (softT m L wr) → Q (.ref D) H'
theorem stops_ne {H : Hp} {d r : Addr} {L : Nat} {m : Ends} (ed : EndsAt H d m) (er : StopsAt H r m L) (va : Valid L m) : r ≠ d := by
  rintro rfl
  have e := HO.dT.inj (Option.some.inj (er.symm.trans ed))
  generalize (lvG (stopG m) L).1 = R at e
  cases hm : m with
  | nil => exact va.ne hm
  | cons p m =>
    rw [hm] at e
    cases hR : R with
    | nil => rw [hR] at e; cases e
    | cons x R => rw [hR] at e; have := congrArg (fun l => (l.head?.map (·.2))) e; simp [kvG] at this
def spWrong : Sp := fun vs H Q _ => ∃ a : Addr, vs = [.ref a] ∧ BoxAt a H ∧ ∀ (wr : Int) H', 0 ≤ wr → wr ≤ 60 → Keep [a] H H' → BoxAt a H' → Q (.int wr) H'
section
variable {P : Program} {w : World} {K : PySem.W.Frag} {mg : Str → Option Value} {base : Heap}
theorem ok_soft (T : Tx K mg) (G_w_false : FnOk P w K mg base CX0 1 T.f_w_false T.fd_w_false ["_law_word_here", "_law_count", "_law_wrong_here"] spFalse) : FnOk P w K mg base CX0 2 T.f_w_soft T.fd_w_soft ["_law_ends", "_law_stops_here", "_law_wrong_here"] spSoft := by
  refine T.F_w_soft.ok sc_w_soft (fun vs H Q E h => ?_) (fun cdv A outer s H vs Q E hr h => ?_)
  · obtain ⟨d, r, wr, L, m, rfl, _⟩ := h; rfl
  · obtain ⟨d, r, wr, L, m, rfl, ed, er, va, qq⟩ := h
    have nd := va.nd
    have len := va.len
    have edr : H r = some (.dT (kvG V.bl (lvG (stopG m) L).1)) := er
    have nrd : r ≠ d := stops_ne ed er va
    have hF : ∀ p ∈ m, p.1 ∈ falseC m L wr ↔ hasA (lvG (stopG m) L).1 p.1 = true ∧ falseB p.1 p.2 wr = true := fun p hp => soft_false va hp
    unfold softT at qq
    generalize falseC m L wr = F at hF qq
    clear er
    generalize (lvG (stopG m) L).1 = R at hF edr
    refine ⟨_, (pss_cons (ps_set (i := 3) sc_w_soft.nd rfl (Or.inl rfl) pe_dnewT)
    (pss_cons (ps_lock (ps_for PassesOwn.never rfl (pi_keys (pv 0)) (pg_name (i := 4) sc_w_soft.nd rfl (Or.inl rfl))
    (pss_cons (ps_dput (hu_of hr) (pv 3) (pv 4) (pe_dget (hu_of hr) (pv 0) (pv 4) (fun _ _ => rfl)) rfl)
    (pss_one (ps_if (PW.pt (pw_and (pt_cmp (pc_din (hu_of hr) (pv 4) (pv 1))) (pw_and1 (pt_val (pe_call G_w_false (hr.mono (by decide)) rfl T.g_w_false T.F_w_false.kp T.b_w_false .nil pass0 (pa_cons (pe_dget (hu_of hr) (pv 0) (pv 4) (fun _ _ => rfl)) (pa_cons (pv 4) (pa_cons (pv 2) pa_nil))))))))
    (pss_one (ps_dput (hu_of hr) (pv 3) (pv 4) pe_str rfl))
    pss_nil)))))
    (pss_one (ps_ret (pv 3))))), ?_⟩
    walk_at "start"
    walk_at "sts"
    refine r_dnewT fun D hD => ?_
    have k1 : Keep [] H (upd H D (.dT [])) := Keep.new hD
    have eD : upd H D (.dT []) D = some (.dT (kvG V.str [])) := upd_same
    have ed1 := k1 _ _ (by simp) ed
    have er1 := k1 _ _ (by simp) edr
    have nDd : D ≠ d := by rintro rfl; cases (hD.symm.trans ed)
    have nDr : D ≠ r := by rintro rfl; cases (hD.symm.trans edr)
    generalize upd H D (.dT []) = H1 at k1 eD ed1 er1 ⊢
    walk_at "sts"
    refine forKT_go ed1 (fun od Q' hQ => r_var rfl hQ) (fun od i σ' H' => ∃ (y4 : Option V), σ' = [some (.ref d), some (.ref r), some (.int wr), some (.ref D), y4] ∧ H' D = some (.dT (kvG V.str (softF (m.take i) F))) ∧ H' d = some (.frz od (.dT (kvG V.str m))) ∧ H' r = some (.dT (kvG V.bl R)) ∧ Keep [D] (upd H1 d (.frz od (.dT (kvG V.str m)))) H') (fun od => ⟨_, by first | exact rfl | trivial, by rw [upd_ne nDd]; exact eD, upd_same, by rw [upd_ne nrd]; exact er1, Keep.refl _ _⟩) (fun od i σ' H' h => by obtain ⟨_, _, _, e, _⟩ := h; exact e) ?_ ?_
    · rintro od i k v q σ' H2 at1 tup ⟨y4, rfl, eD2, ed2, er2, k2⟩
      obtain ⟨p, hp, rfl, rfl⟩ := get_kvG at1
      have tup' : H2 q = some (.tup [.int p.1.1, .int p.1.2]) := tup
      have tup2 : H2 q = some (cHO p.1) := tup
      have mp := List.mem_of_getElem? hp
      have gp := getA_mem nd mp
      have lk : (softF (m.take i) F).length ≤ 5000 := by unfold softF; rw [List.length_map, List.length_take]; omega
      have fresh : p.1 ∉ (softF (m.take i) F).map (·.1) := fun hx => by
        rw [softF_keys] at hx
        obtain ⟨q2, hq2, e⟩ := List.mem_map.mp hx
        obtain ⟨z, hz⟩ := List.getElem?_of_mem hq2
        rw [List.getElem?_take] at hz
        split at hz
        · rename_i lt
          have h1 : (m.map (·.1))[z]? = some p.1 := by rw [List.getElem?_map, hz]; exact congrArg some e
          have h2 : (m.map (·.1))[i]? = some p.1 := by rw [List.getElem?_map, hp]; rfl
          have := (List.getElem?_inj (List.getElem?_eq_some_iff.mp h1).1 nd).mp (h1.trans h2.symm)
          omega
        · cases hz
      have nqD : q ≠ D := by rintro rfl; rw [tup'] at eD2; cases eD2
      have snoc := softF_snoc (F := F) hp
      generalize softF (m.take i) F = m' at eD2 lk fresh snoc
      have tail : ∀ (wd : Str), wd = (if p.1 ∈ F then wU else p.2) → ∃ (y4 : Option V), [some (V.ref d), some (.ref r), some (.int wr), some (.ref D), some (.ref q)] = [some (.ref d), some (.ref r), some (.int wr), some (.ref D), y4] ∧ (upd H2 D (.dT (kvG V.str (putA m' p.1 wd)))) D = some (.dT (kvG V.str (softF (m.take (i + 1)) F))) ∧ (upd H2 D (.dT (kvG V.str (putA m' p.1 wd)))) d = some (.frz od (.dT (kvG V.str m))) ∧ (upd H2 D (.dT (kvG V.str (putA m' p.1 wd)))) r = some (.dT (kvG V.bl R)) ∧ Keep [D] (upd H1 d (.frz od (.dT (kvG V.str m)))) (upd H2 D (.dT (kvG V.str (putA m' p.1 wd)))) := fun wd h1 => by
        refine ⟨_, by first | exact rfl | trivial, ?_, by rw [upd_ne (Ne.symm nDd)]; exact ed2, by rw [upd_ne (Ne.symm nDr)]; exact er2, k2.trans (Keep.at (by simp))⟩
        rw [upd_same, snoc, putA_fresh fresh, h1]
      walk_at "sts"
      refine ⟨d, _, rfl, dgetTL (f := V.str) ed2 tup gp, ?_⟩
      walk_at "sts"
      refine r_dputT eD2 tup (lt_size (by rw [len_kvG]; omega)) ?_
      rw [put_kvG]
      have l3 : (putA m' p.1 p.2).length ≤ 5001 := Nat.le_trans putA_len (by omega)
      have eD3 : upd H2 D (.dT (kvG V.str (putA m' p.1 p.2))) D = some (.dT (kvG V.str (putA m' p.1 p.2))) := upd_same
      have ed3 : upd H2 D (.dT (kvG V.str (putA m' p.1 p.2))) d = some (.frz od (.dT (kvG V.str m))) := by rw [upd_ne (Ne.symm nDd)]; exact ed2
      have er3 : upd H2 D (.dT (kvG V.str (putA m' p.1 p.2))) r = some (.dT (kvG V.bl R)) := by rw [upd_ne (Ne.symm nDr)]; exact er2
      have tup3 : upd H2 D (.dT (kvG V.str (putA m' p.1 p.2))) q = some (cHO p.1) := by rw [upd_ne nqD]; exact tup2
      have hU : upd (upd H2 D (.dT (kvG V.str (putA m' p.1 p.2)))) D (.dT (kvG V.str (putA m' p.1 wU))) = upd H2 D (.dT (kvG V.str (putA m' p.1 wU))) := upd_upd
      have t1 := tail p.2
      have t2 := tail wU
      clear tail
      rw [← hU] at t2
      generalize upd H2 D (.dT (kvG V.str (putA m' p.1 p.2))) = H3 at eD3 ed3 er3 tup3 t1 t2 ⊢
      have hFp := hF p mp
      walk_at "sts"
      refine r_dinT (f := V.bl) er3 tup3 ?_
      cases hR : hasA R p.1 with
      | false =>
        walk_at "sts"
        refine r_iteFF ?_
        walk_at "sts"
        exact t1 (by rw [if_neg (fun e => by have := (hFp.mp e).1; rw [hR] at this; cases this)])
      | true =>
        walk_at "sts"
        refine r_iteTT ?_
        walk_at "sts"
        refine ⟨d, _, rfl, dgetTL (f := V.str) ed3 tup3 gp, ?_⟩
        walk_at "sts"
        refine ⟨q, p.1, p.2, wr, rfl, tup3, ?_⟩
        walk_at "sts"
        cases hf : falseB p.1 p.2 wr with
        | true =>
          walk_at "sts"
          refine r_dputT eD3 tup3 (lt_size (by rw [len_kvG]; omega)) ?_
          rw [show (V.str (Str.ofString "unsure")) = V.str wU from rfl, put_kvG, putA_put]
          exact t2 (by rw [if_pos (hFp.mpr ⟨hR, hf⟩)])
        | false =>
          walk_at "sts"
          exact t1 (by rw [if_neg (fun e => by have := (hFp.mp e).2; rw [hf] at this; cases this)])
    · rintro od σ' H2 ⟨y4, rfl, eD2, ed2, er2, k2⟩
      rw [len_kvG, List.take_length] at eD2
      have k3 : Keep [D] H1 (upd H2 d (.dT (kvG V.str m))) := Keep.unlock ed1 k2
      have eD3 : upd H2 d (.dT (kvG V.str m)) D = some (.dT (kvG V.str (softF m F))) := by rw [upd_ne nDd]; exact eD2
      walk_at "sts"
      exact qq D _ (k1.dropNew k3 hD) hD eD3
theorem ok_wrong (T : Tx K mg) (G_w_take : FnOk P w K mg base CX0 1 T.f_w_take T.fd_w_take ["_law_box_here", "_law_size"] spDr) : FnOk P w K mg base CX0 2 T.f_w_wrong T.fd_w_wrong ["_law_box_here"] spWrong := by
  refine T.F_w_wrong.ok sc_w_wrong (fun vs H Q E h => ?_) (fun cdv A outer s H vs Q E hr h => ?_)
  · obtain ⟨a, rfl, _⟩ := h; rfl
  · obtain ⟨a, rfl, hb, qq⟩ := h
    refine ⟨_, (pss_cons (ps_if (pt_cmpR op_eq (pe_call G_w_take (hr.mono (by decide)) rfl T.g_w_take T.F_w_take.kp T.b_w_take .nil pass0 (pa_cons (pv 0) (pa_cons pe_int pa_nil))) pe_int (nomark _))
    (pss_one (ps_ret (pe_call G_w_take (hr.mono (by decide)) rfl T.g_w_take T.F_w_take.kp T.b_w_take .nil pass0 (pa_cons (pv 0) (pa_cons pe_int pa_nil)))))
    pss_nil)
    (pss_one (ps_ret (pe_ix ix_list (pe_lst (pa_cons pe_int (pa_cons pe_int (pa_cons pe_int (pa_cons pe_int (pa_cons pe_int (pa_cons pe_int (pa_cons pe_int (pa_cons pe_int pa_nil))))))))) (pe_call G_w_take (hr.mono (by decide)) rfl T.g_w_take T.F_w_take.kp T.b_w_take .nil pass0 (pa_cons (pv 0) (pa_cons pe_int pa_nil))) (fun _ _ => rfl))))), ?_⟩
    walk_at "start"
    walk_at "sts"
    refine r_dr hb (by omega) (by omega) fun n H1 a1 b1 k1 p1 => ?_
    walk_at "sts"
    refine r_ite (fun c1 => ?_) (fun c1 => ?_)
    · walk_at "sts"
      refine r_dr p1 (by omega) (by omega) fun n2 H2 a2 b2 k2 p2 => ?_
      walk_at "sts"
      exact qq n2 H2 (by omega) (by omega) (k1.trans k2) p2
    · walk_at "sts"
      intro l hl
      have hb2 := p1.new (o := .lst [.int 0, .int 1, .int 2, .int 3, .int 4, .int 5, .int 2, .int 1]) hl
      have el : upd H1 l (.lst [.int 0, .int 1, .int 2, .int 3, .int 4, .int 5, .int 2, .int 1]) l = some (.lst (([0, 1, 2, 3, 4, 5, 2, 1] : List Int).map V.int)) := upd_same
      have k2 : Keep [] H1 (upd H1 l (.lst [.int 0, .int 1, .int 2, .int 3, .int 4, .int 5, .int 2, .int 1])) := Keep.new hl
      have nla := p1.ne hl
      generalize upd H1 l (.lst [.int 0, .int 1, .int 2, .int 3, .int 4, .int 5, .int 2, .int 1]) = H2 at hb2 el k2 ⊢
      walk_at "sts"
      refine r_dr hb2 (by omega) (by omega) fun n2 H3 a2 b2 k3 p3 => ?_
      have el3 := k3 _ _ (by simpa using nla) el
      obtain ⟨j, rfl⟩ : ∃ j : Nat, n2 = j := ⟨n2.toNat, by omega⟩
      refine r_ixL (sqL_of el3) (atI_map (by omega) (by simp; omega)) ?_
      have hall : ∀ j : Nat, j < 8 → 0 ≤ ([0, 1, 2, 3, 4, 5, 2, 1] : List Int).getD j 0 ∧ ([0, 1, 2, 3, 4, 5, 2, 1] : List Int).getD j 0 ≤ 60 := by decide
      obtain ⟨g1, g2⟩ := hall j (by omega)
      walk_at "sts"
      exact qq _ H3 g1 g2 (k1.trans ((k2.mono (by simp)).trans k3)) p3
end
/-! ### a table speaks -/
open Tab (Rn cnt Mt)
theorem r_mulM {n : Int} {H : Hp} {Q : VK} (h0 : 0 ≤ n) (h1 : n ≤ 1000) (k : Q (.str (strL (List.replicate n.toNat 109))) H) : Cm.rMulS (.str (Str.ofString "m")) (.int n) H Q := Cm.r_mulS (c := 109) h0 h1 k
theorem r_mulR {n : Int} {H : Hp} {Q : VK} (h0 : 0 ≤ n) (h1 : n ≤ 1000) (k : Q (.str (strL (List.replicate n.toNat 114))) H) : Cm.rMulS (.str (Str.ofString "r")) (.int n) H Q := Cm.r_mulS (c := 114) h0 h1 k
theorem cut_last {s : List Nat} (h : 1 ≤ s.length) : cutS (strL s) none (some (-1)) = strL s.dropLast := by
  have e1 : HT.sIx (strL s).length 0 none = 0 := by simp [HT.sIx]
  have e2 : HT.sIx (strL s).length (strL s).length (some (-1)) = s.length - 1 := by
    rw [strL_len]
    simp [HT.sIx]
    omega
  unfold cutS
  rw [e1, e2]
  show (⟨_⟩ : Str) = ⟨_⟩
  rw [List.dropLast_eq_take]
  simp [strL]
def spSpeaks (C : Addr) : Sp := fun vs H Q _ => ∃ (x p dx dm : Addr) (wr : Int) (L : Nat) (m n : Ends), vs = [.ref x, .ref p] ∧ H x = some (.ins C dx [("limit", .int L), ("marks", .ref dm)]) ∧ EndsAt H dm m ∧ EndsAt H p n ∧ dm ≠ p ∧ QT wr L m ∧ QT wr L n ∧ L ≤ 12 ∧ 0 ≤ wr ∧ 1 ≤ L ∧ ∀ H', Keep [] H H' → Q (.bl true) H'
section
variable {P : Program} {w : World} {K : PySem.W.Frag} {mg : Str → Option Value} {base : Heap}
theorem ok_speaks (T : Tx K mg) (G_Table_word_after : FnOk P w K mg base CX0 1 T.f_Table_word_after T.fd_Table_word_after ["self", "tries"] (spWord1 T.C_Table)) : FnOk P w K mg base CX0 2 T.f_w_speaks T.fd_w_speaks ["_law_table", "_law_ends"] (spSpeaks T.C_Table) := by
  refine T.F_w_speaks.ok sc_w_speaks (fun vs H Q E h => ?_) (fun cdv A outer s H vs Q E hr h => ?_)
  · obtain ⟨x, p, dx, dm, wr, L, m, n, rfl, _⟩ := h; rfl
  · obtain ⟨x, p, dx, dm, wr, L, m, n, rfl, ex, em, en, ne, qm, qn, L12, w0, L1, qq⟩ := h
    have oc := T.oc_Table
    have nxp : x ≠ p := by rintro rfl; cases (ex.symm.trans en)
    refine ⟨_, (pss_cons (ps_lock (ps_for PassesOwn.never rfl (pi_keys (pv 1)) (pg_name (i := 2) sc_w_speaks.nd rfl (Or.inl rfl))
    (pss_cons (ps_set (i := 3) sc_w_speaks.nd rfl (Or.inl rfl) (pe_op op_addS (pe_op Cm.op_mulS pe_str (pe_ix ix_tup (pv 2) pe_int (fun _ _ => rfl))) (pe_op Cm.op_mulS pe_str (pe_ix ix_tup (pv 2) pe_int (fun _ _ => rfl)))))
    (pss_cons (ps_if (pt_cmpR op_eq (pe_dget (hu_of hr) (pv 1) (pv 2) (fun _ _ => rfl)) pe_str (nomark _))
    (pss_one (ps_set (i := 3) sc_w_speaks.nd rfl (Or.inl rfl) (pe_op op_addS (pe_op Cm.op_mulS pe_str (pe_ix ix_tup (pv 2) pe_int (fun _ _ => rfl))) (pe_op Cm.op_mulS pe_str (pe_ix ix_tup (pv 2) pe_int (fun _ _ => rfl))))))
    pss_nil)
    (pss_one (ps_if (PW.pt (pw_or (pt_cmpR op_ne (pe_meth (pv 0) T.oc_Table.cl T.me_Table_word_after G_Table_word_after (hr.mono (by decide)) T.b_Table_word_after .nil pass0 (pa_cons (pv 3) pa_nil)) (pe_dget (hu_of hr) (pv 1) (pv 2) (fun _ _ => rfl)) (nomark _)) (pw_or1 (pt_cmpR op_notNc (pe_meth (pv 0) T.oc_Table.cl T.me_Table_word_after G_Table_word_after (hr.mono (by decide)) T.b_Table_word_after .nil pass0 (pa_cons (pe_slice sl_str (pv 3) po_none (po_some (pe_un un_neg pe_int))) pa_nil)) pe_non (nomark _)))))
    (pss_one (ps_ret pe_bl))
    pss_nil))))))
    (pss_one (ps_ret pe_bl))), ?_⟩
    walk_at "start"
    walk_at "sts"
    refine forKT_go en (fun od Q' hQ => r_var rfl hQ) (fun od i σ' H' => ∃ y2 y3 : Option V, σ' = [some (.ref x), some (.ref p), y2, y3] ∧ Keep [] (upd H p (.frz od (.dT (kvG V.str n)))) H') (fun od => ⟨_, _, by first | exact rfl | trivial, Keep.refl _ _⟩) (fun od i σ' H' h => by obtain ⟨_, _, _, k⟩ := h; exact k _ _ (by simp) upd_same) ?_ ?_
    · rintro od i k v u σ' H1 at1 tup ⟨y2, y3, rfl, k1⟩
      obtain ⟨z, hz, rfl, rfl⟩ := get_kvG at1
      have mz := List.mem_of_getElem? hz
      have dz := qn.due mz
      have gn := getA_mem qn.nd mz
      have gm := (qm.get _ _).mpr dz
      have ep1 : H1 p = some (.frz od (.dT (kvG V.str n))) := k1 _ _ (by simp) upd_same
      have ex1 := k1 _ _ (by simp) (show upd H p (.frz od (.dT (kvG V.str n))) x = _ by rw [upd_ne nxp]; exact ex)
      have em1 : EndsAt H1 dm m := k1 _ _ (by simp) (show upd H p (.frz od (.dT (kvG V.str n))) dm = _ by rw [upd_ne ne]; exact em)
      have tab : TableAt T.C_Table H1 x L m := ⟨dx, dm, ex1, em1⟩
      have bz := dz.1
      unfold Bx at bz
      have tup2 : H1 u = some (.tup [.int z.1.1, .int z.1.2]) := tup
      have tup3 : H1 u = some (cHO z.1) := tup
      walk_at "sts"
      refine r_mulM (by omega) (by omega) ?_
      walk_at "sts"
      refine r_mulR (by omega) (by omega) ?_
      refine r_addS (le_size (by rw [strL_len, strL_len]; simp only [List.length_replicate]; omega)) ?_
      rw [strL_app, show List.replicate z.1.2.toNat 109 ++ List.replicate z.1.1.toNat 114 = strMR z.1 from rfl]
      have kz : 1 ≤ z.1.1 + z.1.2 := (qm.key w0 L1 (mem_getA gm)).2.2.1
      walk_at "sts"
      refine ⟨p, _, rfl, dgetTL (f := V.str) ep1 tup gn, ?_⟩
      walk_at "sts"
      refine r_ite (fun c1 => ?_) (fun c1 => ?_)
      · have dM : DueQ wr L z.1 wM := by rw [← show z.2 = wM from c1]; exact dz
        obtain ⟨rn, ec⟩ := qm.rnRM dM
        walk_at "sts"
        refine r_mulR (by omega) (by omega) ?_
        walk_at "sts"
        refine r_mulM (by omega) (by omega) ?_
        refine r_addS (le_size (by rw [strL_len, strL_len]; simp only [List.length_replicate]; omega)) ?_
        rw [strL_app, show List.replicate z.1.1.toNat 114 ++ List.replicate z.1.2.toNat 109 = strRM z.1 from rfl]
        walk_at "sts"
        generalize strRM z.1 = s at rn ec ⊢
        have sl := rn.len
        obtain ⟨k0, ek⟩ : ∃ k0, (z.1.1 + z.1.2).toNat = k0 + 1 := ⟨(z.1.1 + z.1.2).toNat - 1, by omega⟩
        have rn2 := rn
        rw [ek] at rn2
        obtain ⟨rb, hb⟩ := Rn.before rn2
        have gb : getA m (cnt s.dropLast) = none := by unfold hasA at hb; exact Option.isNone_iff_eq_none.mp (by simpa using hb)
        refine ⟨x, L, m, s, _, rfl, tab, rn, by omega, fun H2 k2 => ?_⟩
        rw [ec, gm]
        have ep2 := k2 _ _ (by simp) ep1
        have tup4 := k2 _ _ (by simp) tup2
        have ex2 := k2 _ _ (by simp) ex1
        have em2 : EndsAt H2 dm m := k2 _ _ (by simp) em1
        walk_at "sts"
        refine ⟨p, _, rfl, dgetTL (f := V.str) ep2 tup4 gn, ?_⟩
        show rNe (.str z.2) (.str z.2) H2 _
        walk_at "sts"
        refine r_slS (le_size (by rw [strL_len]; omega)) ?_
        rw [cut_last (by omega)]
        walk_at "sts"
        refine ⟨x, L, m, s.dropLast, _, rfl, ⟨dx, dm, ex2, em2⟩, rb, by omega, fun H3 k3 => ?_⟩
        rw [gb]
        walk_at "sts"
        refine ⟨rfl, _, rfl, ?_⟩
        rw [if_neg (by rw [decide_eq_true (show oS none = V.non from rfl)]; decide)]
        walk_at "sts"
        exact ⟨_, _, by first | exact rfl | trivial, k1.trans (k2.trans k3)⟩
      · obtain ⟨rn, ec⟩ := qm.rnMR dz c1
        walk_at "sts"
        generalize strMR z.1 = s at rn ec ⊢
        have sl := rn.len
        obtain ⟨k0, ek⟩ : ∃ k0, (z.1.1 + z.1.2).toNat = k0 + 1 := ⟨(z.1.1 + z.1.2).toNat - 1, by omega⟩
        have rn2 := rn
        rw [ek] at rn2
        obtain ⟨rb, hb⟩ := Rn.before rn2
        have gb : getA m (cnt s.dropLast) = none := by unfold hasA at hb; exact Option.isNone_iff_eq_none.mp (by simpa using hb)
        refine ⟨x, L, m, s, _, rfl, tab, rn, by omega, fun H2 k2 => ?_⟩
        rw [ec, gm]
        have ep2 := k2 _ _ (by simp) ep1
        have tup4 := k2 _ _ (by simp) tup2
        have ex2 := k2 _ _ (by simp) ex1
        have em2 : EndsAt H2 dm m := k2 _ _ (by simp) em1
        walk_at "sts"
        refine ⟨p, _, rfl, dgetTL (f := V.str) ep2 tup4 gn, ?_⟩
        show rNe (.str z.2) (.str z.2) H2 _
        walk_at "sts"
        refine r_slS (le_size (by rw [strL_len]; omega)) ?_
        rw [cut_last (by omega)]
        walk_at "sts"
        refine ⟨x, L, m, s.dropLast, _, rfl, ⟨dx, dm, ex2, em2⟩, rb, by omega, fun H3 k3 => ?_⟩
        rw [gb]
        walk_at "sts"
        refine ⟨rfl, _, rfl, ?_⟩
        rw [if_neg (by rw [decide_eq_true (show oS none = V.non from rfl)]; decide)]
        walk_at "sts"
        exact ⟨_, _, by first | exact rfl | trivial, k1.trans (k2.trans k3)⟩
    · rintro od σ' H' ⟨y2, y3, rfl, k1⟩
      walk_at "sts"
      exact qq _ (Keep.unlock en k1)
end
/-! ### a quickest table is right -/
open Tab (Rn cnt Mt)
def sD (p : Ct × Str) : PyData := .tuple [.int p.1.1, .int p.1.2, .str p.2]
theorem dp_s {K : PySem.W.Frag} {H : Hp} {a : Addr} {p : Ct × Str} (h : H a = some (sHO p)) : Dp K H (.ref a) (sD p) := .tup (sqT_of h) (.cons (.int _) (.cons (.int _) (.cons (.str _) .nil)))
theorem dp_ss {K : PySem.W.Frag} {H : Hp} : ∀ {as : List Addr} {ps : List (Ct × Str)}, AllAt sHO H as ps → DpAll K H (as.map V.ref) (ps.map sD)
  | [], [], _ => .nil
  | _ :: _, _ :: _, h => .cons (dp_s h.1) (dp_ss h.2)
  | [], _ :: _, h => h.elim
  | _ :: _, [], h => h.elim
theorem lay_w {w : Str} (h : IsW w) : PyData.canLay0 (.str w) = true := by
  rcases h with rfl | rfl | rfl <;> decide +kernel
theorem lay_ss : ∀ {ps : List (Ct × Str)}, (∀ p ∈ ps, IsW p.2) → PyData.canLayAll0 (ps.map sD) = true ∧ PyData.depthAll (ps.map sD) ≤ 1
  | [], _ => by simp [PyData.canLayAll0, PyData.depthAll]
  | c :: cs, h => by
    have ih := lay_ss (ps := cs) fun p hp => h p (List.mem_cons_of_mem _ hp)
    have w0 := lay_w (h c (List.mem_cons_self ..))
    refine ⟨?_, ?_⟩
    · have := ih.1
      simp only [List.map_cons, PyData.canLayAll0, sD, PyData.canLay0, Bool.and_true, Bool.and_eq_true, Bool.true_and] at w0 ⊢
      exact ⟨w0, this⟩
    · have := ih.2
      simp [sD, PyData.depthAll, PyData.depth]
      omega
theorem shaped_ss {ps : List (Ct × Str)} (h : ∀ p ∈ ps, IsW p.2) : SeqAt.shaped (.list (ps.map sD)) = true := by
  have := lay_ss h
  unfold SeqAt.shaped
  simp [PyData.canLay0, PyData.depth, this.1]
  omega
theorem eqv_ss : ∀ {ps : List (Ct × Str)}, PyData.eqvAll (ps.map sD) (ps.map sD) = true
  | [] => rfl
  | p :: ps => by
    have ih := eqv_ss (ps := ps)
    simp [sD, PyData.eqvAll, PyData.eqv] at ih ⊢
    exact ih
theorem r_eqSs {K : PySem.W.Frag} {H : Hp} {Q : VK} {q r : Addr} {as bs : List Addr} {ps : List (Ct × Str)} (hq : H q = some (.lst (as.map V.ref))) (ha : AllAt sHO H as ps) (hr : H r = some (.lst (bs.map V.ref))) (hb : AllAt sHO H bs ps) (h : ∀ p ∈ ps, IsW p.2) (k : Q (.bl true) H) : rEqD K (.ref q) (.ref r) H Q :=
  ⟨_, _, .lst (sqL_of hq) (dp_ss ha), .lst (sqL_of hr) (dp_ss hb), shaped_ss h, shaped_ss h, by rw [eqvL, eqv_ss]; exact k⟩
theorem kOf_s {H : Hp} {b : Addr} {c : Ct × Str} (h : H b = some (sHO c)) : kOf H (.ref b) = c.1 := by
  unfold kOf; simp only [h]; rfl
def gOf (H : Hp) : V → Str
  | .ref b => match H b with
    | some (.tup (.int _ :: .int _ :: .str z :: _)) => z
    | _ => wU
  | _ => wU
theorem gOf_s {H : Hp} {b : Addr} {c : Ct × Str} (h : H b = some (sHO c)) : gOf H (.ref b) = c.2 := by
  unfold gOf; simp only [h]; rfl
theorem lx_ofS {H : Hp} : ∀ {bs : List Addr} {cs : List (Ct × Str)}, AllAt sHO H bs cs → (cs.map (·.1)).Nodup → SrtO.Srtd (ltP (kOf H)) (bs.map V.ref) → cs.Pairwise (fun a b => Lx a.1 b.1)
  | [], [], _, _, _ => .nil
  | b :: bs, c :: cs, h, n, s => by
    have n2 := List.nodup_cons.mp n
    have s2 := List.pairwise_cons.mp s
    refine List.pairwise_cons.mpr ⟨fun d hd => ?_, lx_ofS h.2 n2.2 s2.2⟩
    obtain ⟨i, hi⟩ := List.getElem?_of_mem hd
    have le := h.2.len
    obtain ⟨e, he⟩ : ∃ e, bs[i]? = some e := ⟨_, List.getElem?_eq_getElem (by have := (List.getElem?_eq_some_iff.mp hi).1; omega)⟩
    obtain ⟨d', hd', ed⟩ := h.2.get he
    have ed2 : d' = d := by rw [hi] at hd'; exact (Option.some.inj hd').symm
    subst ed2
    have q := s2.1 (.ref e) (List.mem_map_of_mem (List.mem_of_getElem? he))
    have q2 : SrtO.lexB (kOf H (.ref e)) (kOf H (.ref b)) = false := q
    rw [kOf_s ed, kOf_s h.1] at q2
    have q3 := SrtO.lexB_no.mp q2
    have ne : ¬ (c.1.1 = d'.1.1 ∧ c.1.2 = d'.1.2) := fun z => n2.1 (List.mem_map.mpr ⟨d', hd, (show c.1 = d'.1 from Prod.ext z.1 z.2).symm⟩)
    unfold Lx
    omega
  | [], _ :: _, h, _, _ => h.elim
  | _ :: _, [], h, _, _ => h.elim
theorem r_sort3 {K : PySem.W.Frag} {H : Hp} {Q : VK} {p : Addr} {bs : List Addr} {n : Ends} (hp : H p = some (.lst (bs.map V.ref))) (hb : AllAt sHO H bs n) (nd : (n.map (·.1)).Nodup) (k : ∀ q cs ps, H q = none → upd H q (.lst (cs.map V.ref)) q = some (.lst (cs.map V.ref)) → AllAt sHO (upd H q (.lst (cs.map V.ref))) cs ps → ps.Perm n → ps.Pairwise (fun a b => Lx a.1 b.1) → Q (.ref q) (upd H q (.lst (cs.map V.ref)))) : rSorted3 K [.ref p] H Q := by
  have one : ∀ x ∈ bs.map V.ref, ∃ t c, x = .ref t ∧ c ∈ n ∧ H t = some (sHO c) := fun x hx => by
    obtain ⟨i, hi⟩ := List.getElem?_of_mem hx
    obtain ⟨t, ht, rfl⟩ := getRef hi
    obtain ⟨c, hc, e⟩ := hb.get ht
    exact ⟨t, c, rfl, List.mem_of_getElem? hc, e⟩
  refine ⟨p, bs.map V.ref, kOf H, gOf H, rfl, sqL_of hp, fun x hx => ?_, fun x hx y hy e => ?_, fun ys q s pm nq => ?_⟩
  · obtain ⟨t, c, rfl, _, e⟩ := one x hx
    exact ⟨t, rfl, by rw [kOf_s e, gOf_s e]; exact e⟩
  · obtain ⟨t, c, rfl, hc, e1⟩ := one x hx
    obtain ⟨u, d, rfl, hd, e2⟩ := one y hy
    rw [kOf_s e1, kOf_s e2] at e
    rw [gOf_s e1, gOf_s e2]
    have a := getA_mem nd hc
    have b := getA_mem nd hd
    rw [e, b] at a
    exact (Option.some.inj a).symm
  · obtain ⟨cs, pc, rfl⟩ := refs_perm pm
    obtain ⟨ps, pp, ha⟩ := hb.perm pc.symm
    have nd2 : (ps.map (·.1)).Nodup := (pp.map (·.1)).nodup_iff.mpr nd
    exact k q cs ps nq upd_same (ha.keep0 (Keep.new nq)) pp (lx_ofS ha nd2 s)
def spQuickRight (C : Addr) : Sp := fun vs H Q _ => ∃ (x : Addr) (wr : Int) (L : Nat) (m : Ends), vs = [.int wr, .int L, .ref x] ∧ TableAt C H x L m ∧ QT wr L m ∧ 0 ≤ wr ∧ 1 ≤ L ∧ L ≤ 12 ∧ ∀ H', Keep [] H H' → Q (.bl true) H'
section
variable {P : Program} {w : World} {K : PySem.W.Frag} {mg : Str → Option Value} {base : Heap}
theorem ok_quick_right (T : Tx K mg) (G_w_race : FnOk P w K mg base CX0 2 T.f_w_race T.fd_w_race ["_law_wrong_here", "_law_limit_here"] spLawRace) (G_w_is : FnOk P w K mg base CX0 3 T.f_w_is T.fd_w_is ["_law_table", "_law_limit_here", "_law_ends"] (spIs T.C_Table))
    (G_w_speaks : FnOk P w K mg base CX0 2 T.f_w_speaks T.fd_w_speaks ["_law_table", "_law_ends"] (spSpeaks T.C_Table)) (G_Table_sound : FnOk P w K mg base CX0 3 T.f_Table_sound T.fd_Table_sound ["self", "wrong"] (spSound T.C_Table)) (G_Table_stops : FnOk P w K mg base CX0 2 T.f_Table_stops T.fd_Table_stops ["self"] (spStops T.C_Table)) :
    FnOk P w K mg base CX0 4 T.f_w_quick_right T.fd_w_quick_right ["_law_wrong_here", "_law_limit_here", "_law_quick"] (spQuickRight T.C_Table) := by
  refine T.F_w_quick_right.ok sc_w_quick_right (fun vs H Q E h => ?_) (fun cdv A outer s H vs Q E hr h => ?_)
  · obtain ⟨x, wr, L, m, rfl, _⟩ := h; rfl
  · obtain ⟨x, wr, L, m, rfl, tab, qm, w0, L1, L12, qq⟩ := h
    have va := qm.valid w0 L1 L12
    obtain ⟨dx, dm, ex, em⟩ := id tab
    have oc := T.oc_Table
    refine ⟨_, (pss_cons (ps_set (i := 3) sc_w_quick_right.nd rfl (Or.inr rfl) (pe_call G_w_race (hr.mono (by decide)) rfl T.g_w_race T.F_w_race.kp T.b_w_race .nil pass0 (pa_cons (pv 0) (pa_cons (pv 1) pa_nil))))
    (pss_cons (ps_if (PW.pt (pw_or (pt_not (pt_val (pe_call G_w_is (hr.mono (by decide)) rfl T.g_w_is T.F_w_is.kp T.b_w_is .nil pass0 (pa_cons (pv 2) (pa_cons (pv 1) (pa_cons (pv 3) pa_nil)))))) (pw_or1 (pt_not (pt_val (pe_call G_w_speaks (hr.mono (by decide)) rfl T.g_w_speaks T.F_w_speaks.kp T.b_w_speaks .nil pass0 (pa_cons (pv 2) (pa_cons (pv 3) pa_nil))))))))
    (pss_one (ps_ret pe_bl))
    pss_nil)
    (pss_cons (ps_if (pt_cmpR op_notNc (pe_meth (pv 2) T.oc_Table.cl T.me_Table_sound G_Table_sound (hr.mono (by decide)) T.b_Table_sound .nil pass0 (pa_cons (pv 0) pa_nil)) pe_non (nomark _))
    (pss_one (ps_ret pe_bl))
    pss_nil)
    (pss_one (ps_ret (pe_cmpR (op_eqD hr.units) (pe_callB (cr_sorted3 rfl) (by rfl) T.m_sorted (by decide +kernel) (pa_cons (pe_lock (pe_lc (own := [("_law_count", 4)]) (g := gName 4) (tt := tYes) rfl sc_w_quick_right.nd (pi_keys (pv 3)) (blkOk_by (own := [("_law_count", 4)]) (N := ["_law_wrong_here", "_law_limit_here", "_law_quick", "_law_due", "_law_count"]) (sc := defScope s_w_quick_right) (by decide +kernel)) (fun _ _ _ _ _ => pg_name (i := 4) sc_w_quick_right.nd rfl (Or.inl rfl)) (fun _ _ _ _ _ => pts_nil) (fun _ _ _ _ _ => (pe_tup (pa_cons (pe_ix (ix_tupK (K := K) rfl) (pv 4) pe_int (fun _ _ => rfl)) (pa_cons (pe_ix (ix_tupK (K := K) rfl) (pv 4) pe_int (fun _ _ => rfl)) (pa_cons (pe_dget (hu_of hr) (pv 3) (pv 4) (fun _ _ => rfl)) pa_nil))))))) pa_nil)) (pe_meth0 (pv 2) T.oc_Table.cl T.me_Table_stops G_Table_stops (hr.mono (by decide)) T.b_Table_stops .nil pass0) (nomark _))))))), ?_⟩
    walk_at "start"
    walk_at "sts"
    refine ⟨wr, L, rfl, L12, fun D H1 k1 nD eD => ?_⟩
    have qn := race_qt (L := L) w0 L1
    generalize (lvG (raceG wr L) L).1 = n at eD qn
    have vn := qn.valid w0 L1 L12
    have nmD : dm ≠ D := by rintro rfl; cases (nD.symm.trans em)
    walk_at "sts"
    refine ⟨x, D, L, m, n, rfl, tab.keep0 k1, eD, va, qm.same qn, fun H2 k2 => ?_⟩
    have k12 := k1.trans k2
    have eD2 : EndsAt H2 D n := k2 _ _ (by simp) eD
    walk_at "sts"
    refine ⟨x, D, dx, dm, wr, L, m, n, rfl, k12 _ _ (by simp) ex, k12 _ _ (by simp) em, eD2, nmD, qm, qn, L12, w0, L1, fun H3 k3 => ?_⟩
    have k13 := k12.trans k3
    have eD3 : EndsAt H3 D n := k3 _ _ (by simp) eD2
    walk_at "sts"
    refine ⟨x, L, m, wr, rfl, tab.keep0 k13, va, w0, fun H4 k4 _ => ?_, fun q c wd t s k H4 k4 nq gc tr rn ec hk eq => ?_⟩
    · have k14 := k13.trans k4
      have eD4 : EndsAt H4 D n := k4 _ _ (by simp) eD3
      walk_at "sts"
      have few := vn.few
      have nD4 : H D = none := nD
      refine ⟨D, _, eD4, trivial, fun od => ?_⟩
      have eDz : upd H4 D (.frz od (.dT (kvG V.str n))) D = some (.frz od (.dT (kvG V.str n))) := upd_same
      refine lcKT_go eDz (fun Q' hQ => r_var rfl hQ) (fun l i acc H' => ∃ bs : List Addr, acc = bs.map V.ref ∧ AllAt sHO H' bs (n.take i) ∧ H' D = some (.frz od (.dT (kvG V.str n))) ∧ Keep [] (upd H4 D (.frz od (.dT (kvG V.str n)))) H') (fun l hl => ⟨[], rfl, by simp [AllAt], by rw [upd_ne (by rintro rfl; rw [eDz] at hl; cases hl)]; exact eDz, Keep.new hl⟩) (fun l i acc H' _ h => by obtain ⟨_, _, _, e, _⟩ := h; exact e) ?_ ?_
      · rintro l i k v q acc H5 at1 tup hl el ⟨bs, rfl, hb, eD5, k5⟩
        obtain ⟨z, hz, rfl, rfl⟩ := get_kvG at1
        have gn := getA_mem qn.nd (List.mem_of_getElem? hz)
        have tup2 : H5 q = some (.tup [.int z.1.1, .int z.1.2]) := tup
        have tup3 : H5 q = some (cHO z.1) := tup
        have lb := hb.len
        rw [List.length_take] at lb
        have hi := (List.getElem?_eq_some_iff.mp hz).1
        walk_at "sts"
        refine ⟨D, _, rfl, dgetTL (f := V.str) eD5 tup3 gn, ?_⟩
        walk_at "sts"
        intro u hu
        have nul : u ≠ l := by rintro rfl; rw [el] at hu; cases hu
        have nDl : D ≠ l := by rintro rfl; rw [el] at eD5; cases eD5
        have k6 : Keep [] H5 (upd H5 u (.tup [.int z.1.1, .int z.1.2, .str z.2])) := Keep.new hu
        have eu : upd H5 u (.tup [.int z.1.1, .int z.1.2, .str z.2]) u = some (sHO z) := upd_same
        have el6 := k6 _ _ (by simp) el
        have eD6 := k6 _ _ (by simp) eD5
        have hb6 := hb.keep0 k6
        refine ⟨_, el6, lt_size (by rw [List.length_map]; omega), _, upd_same, bs ++ [u], by simp, ?_, by rw [upd_ne nDl]; exact eD6, (k5.trans k6).mut hl⟩
        rw [take_snoc hz]
        refine AllAt.app ?_ ⟨by rw [upd_ne nul]; exact eu, trivial⟩
        exact hb6.mono fun a c _ _ e => by rw [upd_ne (by rintro rfl; rw [el6] at e; cases e)]; exact e
      · rintro l acc H5 hl el ⟨bs, rfl, hb, eD5, k5⟩
        rw [len_kvG, List.take_length] at hb
        refine ⟨eD5, ?_⟩
        have nDl : l ≠ D := by rintro rfl; rw [el] at eD5; cases eD5
        have el6 : upd H5 D (.dT (kvG V.str n)) l = some (.lst (bs.map V.ref)) := by rw [upd_ne nDl]; exact el
        have hb6 : AllAt sHO (upd H5 D (.dT (kvG V.str n))) bs n := hb.mono fun a c _ _ e => by rw [upd_ne (by rintro rfl; rw [eD5] at e; cases e)]; exact e
        have k6 : Keep [] H4 (upd H5 D (.dT (kvG V.str n))) := Keep.unlock eD4 k5
        generalize upd H5 D (.dT (kvG V.str n)) = H6 at el6 hb6 k6 ⊢
        walk_at "sts"
        refine r_sort3 el6 hb6 qn.nd fun q cs ps nq eq hq pp px => ?_
        have k7 : Keep [] H6 (upd H6 q (.lst (cs.map V.ref))) := Keep.new nq
        generalize upd H6 q (.lst (cs.map V.ref)) = H7 at eq hq k7 ⊢
        have k17 := k14.trans (k6.trans k7)
        walk_at "sts"
        refine ⟨x, L, m, rfl, tab.keep0 k17, va, fun q2 cs2 ps2 H8 k8 nq2 eq2 hq2 hps2 _ px2 => ?_⟩
        have eps : ps = ps2 := lx_ext (f := fun p => p.1) px px2 fun p => by
          rw [hps2, pp.mem_iff]
          constructor
          · intro hp
            have d := qn.due hp
            exact ⟨d.met qm, (qm.get _ _).mpr d⟩
          · rintro ⟨_, g⟩
            exact mem_getA ((qn.get _ _).mpr (qm.due_of g))
        subst eps
        refine r_eqSs (k8 _ _ (by simp) eq) (hq.keep0 k8) eq2 hq2 (fun p hp => vn.word p (pp.mem_iff.mp hp)) ?_
        walk_at "sts"
        exact qq H8 (k17.trans k8)
    · rw [(qm.due_of gc).true] at tr; cases tr
end
/-! ### a race is right -/
open Tab (Rn cnt Mt)
def spRaceRight : Sp := fun vs H Q _ => ∃ wr : Nat, vs = [.int wr] ∧ wr ≤ 5 ∧ ∀ H', Keep [] H H' → Q (.bl true) H'
section
variable {P : Program} {w : World} {K : PySem.W.Frag} {mg : Str → Option Value} {base : Heap}
theorem ok_race_right (T : Tx K mg) (G_Table_race : FnOk P w K mg base CX0 4 T.f_Table_race T.fd_Table_race ["cls", "wrong"] (spRace T.C_Table)) (G_w_quick_right : FnOk P w K mg base CX0 4 T.f_w_quick_right T.fd_w_quick_right ["_law_wrong_here", "_law_limit_here", "_law_quick"] (spQuickRight T.C_Table))
    (G_Table_sound : FnOk P w K mg base CX0 3 T.f_Table_sound T.fd_Table_sound ["self", "wrong"] (spSound T.C_Table)) (G_Table_longest : FnOk P w K mg base CX0 3 T.f_Table_longest T.fd_Table_longest ["self", "wrong"] (spLongest T.C_Table)) (G_Table_softened : FnOk P w K mg base CX0 4 T.f_Table_softened T.fd_Table_softened ["self", "wrong"] (spSoftened T.C_Table))
    (G_Table___eq : FnOk P w K mg base CX0 1 T.f_Table___eq T.fd_Table___eq ["self", "other"] (spEq T.C_Table)) (G_quickest : FnOk P w K mg base CX0 4 T.f_quickest T.fd_quickest ["wrong", "limit"] (spQuick T.C_Table)) :
    FnOk P w K mg base CX0 6 T.f_w_race_right T.fd_w_race_right ["_law_wrong_here"] spRaceRight := by
  refine T.F_w_race_right.ok sc_w_race_right (fun vs H Q E h => ?_) (fun cdv A outer s H vs Q E hr h => ?_)
  · obtain ⟨wr, rfl, _⟩ := h; rfl
  · obtain ⟨wr, rfl, w5, qq⟩ := h
    have oc := T.oc_Table
    refine ⟨_, (pss_cons (ps_set (i := 1) sc_w_race_right.nd rfl (Or.inl rfl) (ClX.pe_cmeth (pe_glob (v := .ref T.C_Table) rfl T.gC_Table rfl) T.cr_Table T.cm_Table_race (G_Table_race.raw T.b_Table_race .nil) (hr.mono (by decide)) pass0 (pa_cons (pv 0) pa_nil)))
    (pss_cons (ps_set (i := 2) sc_w_race_right.nd rfl (Or.inl rfl) (pe_op op_add (pe_op op_mul pe_int (pv 0)) pe_int))
    (pss_cons (ps_if (pt_not (pt_val (pe_call G_w_quick_right (hr.mono (by decide)) rfl T.g_w_quick_right T.F_w_quick_right.kp T.b_w_quick_right .nil pass0 (pa_cons (pv 0) (pa_cons (pv 2) (pa_cons (pv 1) pa_nil))))))
    (pss_one (ps_ret pe_bl))
    pss_nil)
    (pss_cons (ps_if (PW.pt (pw_or (pt_cmpR op_isNc (pe_meth (pv 1) T.oc_Table.cl T.me_Table_sound G_Table_sound (hr.mono (by decide)) T.b_Table_sound .nil pass0 (pa_cons (pe_op op_add (pv 0) pe_int) pa_nil)) pe_non (nomark _)) (pw_or (pt_cmpR op_ne (pe_meth (pv 1) T.oc_Table.cl T.me_Table_longest G_Table_longest (hr.mono (by decide)) T.b_Table_longest .nil pass0 (pa_cons (pv 0) pa_nil)) (pv 2) (nomark _)) (pw_or1 (pt_cmpR op_ne (pe_meth (pv 1) T.oc_Table.cl T.me_Table_longest G_Table_longest (hr.mono (by decide)) T.b_Table_longest .nil pass0 (pa_cons pe_int pa_nil)) (pe_op op_add (pv 0) pe_int) (nomark _))))))
    (pss_one (ps_ret pe_bl))
    pss_nil)
    (pss_cons (ps_if (PW.pt (pw_or (pt_cmpR (Ow.op_ownNe T.me_Table___eq T.ne_Table T.oc_Table.cm (G_Table___eq.raw T.b_Table___eq .nil) (hr.mono (by decide)) pass0 hr.units0) (pe_meth (pv 1) T.oc_Table.cl T.me_Table_softened G_Table_softened (hr.mono (by decide)) T.b_Table_softened .nil pass0 (pa_cons (pv 0) pa_nil)) (pv 1) (nomark _)) (pw_or1 (pt_cmpR (Ow.op_ownEq T.me_Table___eq (G_Table___eq.raw T.b_Table___eq .nil) (hr.mono (by decide)) pass0 hr.units0) (pe_meth (pv 1) T.oc_Table.cl T.me_Table_softened G_Table_softened (hr.mono (by decide)) T.b_Table_softened .nil pass0 (pa_cons (pe_op op_add (pv 0) pe_int) pa_nil)) (pv 1) (nomark _)))))
    (pss_one (ps_ret pe_bl))
    pss_nil)
    (pss_one (ps_ret (pe_and (pe_cmpR (Ow.op_ownEq T.me_Table___eq (G_Table___eq.raw T.b_Table___eq .nil) (hr.mono (by decide)) pass0 hr.units0) (pv 1) (pe_call G_quickest (hr.mono (by decide)) rfl T.g_quickest T.F_quickest.kp T.b_quickest .nil pass0 (pa_cons (pv 0) (pa_cons (pv 2) pa_nil))) (nomark _)) (pe_one (pe_cmpR (Ow.op_ownEq T.me_Table___eq (G_Table___eq.raw T.b_Table___eq .nil) (hr.mono (by decide)) pass0 hr.units0) (pv 1) (ClX.pe_cmeth (pe_glob (v := .ref T.C_Table) rfl T.gC_Table rfl) T.cr_Table T.cm_Table_race (G_Table_race.raw T.b_Table_race .nil) (hr.mono (by decide)) pass0 (pa_cons (pv 0) pa_nil)) (nomark _))))))))))), ?_⟩
    walk_at "start"
    walk_at "sts"
    refine ⟨rfl, ?_⟩
    walk_at "sts"
    refine ⟨wr, rfl, w5, fun x m H1 k1 tab qm => ?_⟩
    have w0 : (0 : Int) ≤ (wr : Int) := by omega
    have va := qm.valid w0 (by omega) (by omega)
    obtain ⟨dx, dm, ex, em⟩ := id tab
    have eL : 2 * (wr : Int) + 1 = ((2 * wr + 1 : Nat) : Int) := by omega
    walk_at "sts"
    rw [eL]
    refine ⟨x, wr, 2 * wr + 1, m, rfl, tab, qm, w0, by omega, by omega, fun H2 k2 => ?_⟩
    have ex2 := k2 _ _ (by simp) ex
    obtain ⟨g1, mt1⟩ := race_d w0 (by omega) qm
    walk_at "sts"
    refine ⟨x, 2 * wr + 1, m, (wr : Int) + 1, rfl, tab.keep0 k2, va, by omega, fun H3 k3 all => ?_, fun q c wd t s k H3 k3 nq gc tr rn ec hk eq => ?_⟩
    · have := all _ _ mt1 g1
      rw [race_false w0] at this
      cases this
    have k13 := k1.trans (k2.trans k3)
    have ex3 := (k2.trans k3) _ _ (by simp) ex
    have tab3 := tab.keep0 (k2.trans k3)
    clear eq rn ec hk gc tr nq
    walk_at "sts"
    refine ⟨x, 2 * wr + 1, m, wr, rfl, tab3, va, w0, fun v H4 k4 lg => ?_⟩
    have ev : v = ((2 * wr + 1 : Nat) : Int) := lg.eq (race_long w0 (by omega) qm)
    subst ev
    have k14 := k13.trans k4
    have ex4 := k4 _ _ (by simp) ex3
    have tab4 := tab3.keep0 k4
    walk_at "sts"
    refine ⟨x, 2 * wr + 1, m, 0, rfl, tab4, va, Int.le_refl _, fun v H5 k5 lg => ?_⟩
    have ev : v = (wr : Int) + 1 := lg.eq (race_long0 w0 (by omega) qm)
    subst ev
    have k15 := k14.trans k5
    have ex5 := k5 _ _ (by simp) ex4
    have tab5 := tab4.keep0 k5
    have smm : sameB m m = true := qm.sameB qm
    have tru : (decide (2 * wr + 1 = 2 * wr + 1) && true) = true := by simp
    have fls : (decide (2 * wr + 1 = 2 * wr + 1) && false) = false := by simp
    clear k2 k3 k4 k5 k13 k14 ex2 ex3 ex4 tab4 tab3 ex
    walk_at "sts"
    refine ⟨x, 2 * wr + 1, m, wr, rfl, tab5, va, w0, fun y H6 k6 tay => ?_⟩
    rw [qm.soft] at tay
    obtain ⟨dy, ddy, ey, _⟩ := id tay
    have ex6 := k6 _ _ (by simp) ex5
    have tab6 := tab5.keep0 k6
    have k16 := k15.trans k6
    walk_at "sts"
    refine Ow.r_ownNe ey ex6 ⟨y, x, _, _, m, m, rfl, tay, tab6, ?_⟩
    rw [smm, tru]
    refine ⟨true, rfl, ?_⟩
    walk_at "sts"
    refine ⟨x, 2 * wr + 1, m, (wr : Int) + 1, rfl, tab6, va, by omega, fun z H7 k7 taz => ?_⟩
    obtain ⟨dz, ddz, ez, _⟩ := id taz
    have ex7 := k7 _ _ (by simp) ex6
    have tab7 := tab6.keep0 k7
    have k17 := k16.trans k7
    clear k6 k7 k15 k16 ey tay ex5 ex6 tab5 tab6
    walk_at "sts"
    refine Ow.r_own2 ez ex7 ⟨z, x, _, _, softT m (2 * wr + 1) ((wr : Int) + 1), m, rfl, taz, tab7, ?_⟩
    rw [race_softer w0 (by omega) qm, fls]
    walk_at "sts"
    refine ⟨(wr : Int), 2 * wr + 1, rfl, w0, by omega, by omega, fun u n H8 k8 tau qn => ?_⟩
    obtain ⟨du, ddu, eu, _⟩ := id tau
    have ex8 := k8 _ _ (by simp) ex7
    have tab8 := tab7.keep0 k8
    have k18 := k17.trans k8
    walk_at "sts"
    refine Ow.r_own2 ex8 eu ⟨x, u, _, _, m, n, rfl, tab8, tau, ?_⟩
    rw [qm.sameB qn, tru]
    walk_at "sts"
    refine ⟨rfl, ?_⟩
    walk_at "sts"
    refine ⟨wr, rfl, w5, fun r l H9 k9 tar ql => ?_⟩
    obtain ⟨dr, ddr, er, _⟩ := id tar
    have ex9 := k9 _ _ (by simp) ex8
    have tab9 := tab8.keep0 k9
    walk_at "sts"
    refine Ow.r_own2 ex9 er ⟨x, r, _, _, m, l, rfl, tab9, tar, ?_⟩
    rw [qm.sameB ql, tru]
    walk_at "sts"
    exact qq H9 (k18.trans k9)
end
/-! ### one try more -/
open Tab (Rn cnt Mt)
section
variable {wr : Int} {L k : Nat} {mq mt : Ends} {s : List Nat} {said : Str}
def SaidB (wr : Int) (L : Nat) (mq : Ends) (k : Nat) (s : List Nat) (said : Str) : Prop := (said = e0 ∧ Rn (hasA mq) k s) ∨ (said ≠ e0 ∧ ∃ d : Ct, d.1 ≤ (cnt s).1 ∧ d.2 ≤ (cnt s).2 ∧ DueQ wr L d said)
def SaidA (wr : Int) (L : Nat) (mq : Ends) (k : Nat) (s : List Nat) (said : Str) : Prop := (said = e0 ∧ Rn (hasA mq) k s ∧ hasA mq (cnt s) = false) ∨ (said ≠ e0 ∧ ∃ d : Ct, d.1 ≤ (cnt s).1 ∧ d.2 ≤ (cnt s).2 ∧ DueQ wr L d said)
def saidN (mq : Ends) (c : Ct) (said : Str) : Str := if said = e0 then (getA mq c).getD e0 else said
theorem raceG_e0 {x : Ct} {y : Str} (h : raceG wr L x = some y) : y ≠ e0 := raceG_ne h
theorem SaidB.after (qm : QT wr L mq) (h : SaidB wr L mq k s said) : SaidA wr L mq k s (saidN mq (cnt s) said) := by
  unfold saidN
  rcases h with ⟨e, rn⟩ | ⟨n, h⟩
  · rw [if_pos e]
    cases g : getA mq (cnt s) with
    | none => exact .inl ⟨rfl, rn, by unfold hasA; rw [g]; rfl⟩
    | some y =>
      have d := qm.due_of g
      exact .inr ⟨raceG_e0 d.2, cnt s, Int.le_refl _, Int.le_refl _, d⟩
  · rw [if_neg n]; exact .inr ⟨n, h⟩
theorem SaidA.step (h : SaidA wr L mq k s said) {x : Nat} (hx : x = 114 ∨ x = 109) : SaidB wr L mq (k + 1) (s ++ [x]) said := by
  rcases h with ⟨e, rn, n⟩ | ⟨n, d, h1, h2, h3⟩
  · exact .inl ⟨e, s, x, rn, n, hx, rfl⟩
  · refine .inr ⟨n, d, ?_, ?_, h3⟩
    · rw [Tab.cnt_snoc]; unfold Tab.one; split <;> simp only <;> omega
    · rw [Tab.cnt_snoc]; unfold Tab.one; split <;> simp only <;> omega
/-- where a sound table speaks with certainty, the quickest has said the same -/
theorem SaidB.told (qm : QT wr L mq) (w0 : 0 ≤ wr) (kL : k ≤ L) (h : SaidB wr L mq k s said) (cs : (cnt s).1 + (cnt s).2 = (k : Int)) {wd : Str} (ww : IsW wd) (nu : ¬ wd = wU) (few : min (cnt s).1 (cnt s).2 ≤ wr) (tr : truthW (cnt s) wd wr = none) : saidN mq (cnt s) said = wd := by
  have tr2 : (wd = wR ∧ wr < (cnt s).1 ∧ (cnt s).2 ≤ wr) ∨ (wd = wM ∧ wr < (cnt s).2 ∧ (cnt s).1 ≤ wr) := by
    have hm : (cnt s).1 ≤ wr ∨ (cnt s).2 ≤ wr := by omega
    unfold truthW at tr
    rcases ww with rfl | rfl | rfl
    · rw [if_neg (fun z => wRM z.1)] at tr
      by_cases q : (cnt s).1 ≤ wr
      · rw [if_pos ⟨rfl, q⟩] at tr; cases tr
      · exact .inl ⟨rfl, by omega, by omega⟩
    · by_cases q : (cnt s).2 ≤ wr
      · rw [if_pos ⟨rfl, q⟩] at tr; cases tr
      · exact .inr ⟨rfl, by omega, by omega⟩
    · exact (nu rfl).elim
  unfold saidN
  rcases h with ⟨e, rn⟩ | ⟨n, d, h1, h2, h3⟩
  · rw [if_pos e]
    have b := qm.bm.bx w0 kL rn.met
    have dd : DueQ wr L (cnt s) wd := by
      refine ⟨b, ?_⟩
      unfold Bx at b
      rcases tr2 with ⟨rfl, a1, a2⟩ | ⟨rfl, a1, a2⟩
      · exact raceG_r a1
      · exact raceG_m (by omega) a1
    rw [(qm.get _ _).mpr dd]; rfl
  · rw [if_neg n]
    rcases h3.cases with ⟨p, q, e⟩ | ⟨p, q, e⟩ | ⟨p, q, r, e⟩
    · rcases tr2 with ⟨f, a1, a2⟩ | ⟨f, a1, a2⟩
      · rw [e, f]
      · omega
    · rcases tr2 with ⟨f, a1, a2⟩ | ⟨f, a1, a2⟩
      · omega
      · rw [e, f]
    · omega
end
def RunAt (H : Hp) (r : Addr) (s : List Nat) (said : Str) : Prop := ∃ pc, H r = some (.lst [.str (strL s), .ref pc, .str said]) ∧ H pc = some (cHO (cnt s))
def Sound (mt : Ends) (L : Nat) (wr : Int) : Prop := ∀ c wd, (∃ j, j ≤ L ∧ Mt (hasA mt) j c) → getA mt c = some wd → truthW c wd wr = none
def spLonger (C : Addr) : Sp := fun vs H Q _ => ∃ (x y r : Addr) (wr : Int) (L k : Nat) (mt mq : Ends) (s : List Nat) (said : Str), vs = [.ref x, .ref y, .ref r, .int wr] ∧ TableAt C H x L mt ∧ TableAt C H y L mq ∧ RunAt H r s said ∧ Valid L mt ∧ Sound mt L wr ∧ QT wr L mq ∧ 0 ≤ wr ∧ k ≤ L ∧ L ≤ 12 ∧ Rn (hasA mt) k s ∧ SaidB wr L mq k s said ∧
  ∀ q q2 H', Keep [] H H' → H q = none → H q2 = none → H' q = some (.lst [.bl true, .ref q2]) → ((hasA mt (cnt s) = true ∧ H' q2 = some (.lst [])) ∨ (hasA mt (cnt s) = false ∧ RunAt H' q2 s (saidN mq (cnt s) said))) → Q (.ref q) H'
section
variable {P : Program} {w : World} {K : PySem.W.Frag} {mg : Str → Option Value} {base : Heap}
theorem ok_longer (T : Tx K mg) (G_Table_word_after : FnOk P w K mg base CX0 1 T.f_Table_word_after T.fd_Table_word_after ["self", "tries"] (spWord1 T.C_Table)) : FnOk P w K mg base CX0 2 T.f_w_longer T.fd_w_longer ["_law_table", "_law_quick", "_law_run", "_law_wrong_here"] (spLonger T.C_Table) := by
  refine T.F_w_longer.ok sc_w_longer (fun vs H Q E h => ?_) (fun cdv A outer s H vs Q E hr h => ?_)
  · obtain ⟨x, y, r, wr, L, k, mt, mq, s, said, rfl, _⟩ := h; rfl
  · obtain ⟨x, y, r, wr, L, k, mt, mq, t, said, rfl, tx, ty, ⟨pc, er, ep⟩, va, sd, qm, w0, kL, L12, rn, sb, qq⟩ := h
    have oc := T.oc_Table
    obtain ⟨dx, dmx, ex, emx⟩ := id tx
    obtain ⟨dy, dmy, ey, emy⟩ := id ty
    have ep2 : H pc = some (.tup [.int (cnt t).1, .int (cnt t).2]) := ep
    have sum := rn.met.sum
    refine ⟨_, (pss_cons (ps_set (i := 4) sc_w_longer.nd rfl (Or.inl rfl) (pe_meth (pv 0) T.oc_Table.cl T.me_Table_word_after G_Table_word_after (hr.mono (by decide)) T.b_Table_word_after .nil pass0 (pa_cons (pe_ix ix_list (pv 2) pe_int (fun _ _ => rfl)) pa_nil)))
    (pss_cons (ps_set (i := 5) sc_w_longer.nd rfl (Or.inl rfl) (pe_ix ix_list (pv 2) pe_int (fun _ _ => rfl)))
    (Evl.pss_cut (ps_if (pt_cmpR op_eq (pv 5) pe_str (nomark _))
    (pss_cons (ps_set (i := 6) sc_w_longer.nd rfl (Or.inl rfl) (pe_meth (pv 1) T.oc_Table.cl T.me_Table_word_after G_Table_word_after (hr.mono (by decide)) T.b_Table_word_after .nil pass0 (pa_cons (pe_ix ix_list (pv 2) pe_int (fun _ _ => rfl)) pa_nil)))
    (pss_one (ps_if (pt_cmpR op_notNc (pv 6) pe_non (nomark _))
    (pss_one (ps_set (i := 5) sc_w_longer.nd rfl (Or.inl rfl) (pv 6)))
    pss_nil)))
    pss_nil)
    (pss_cons (ps_if (pt_cmpR op_isNc (pv 4) pe_non (nomark _))
    (pss_one (ps_ret (pe_lst (pa_cons pe_bl (pa_cons (pe_lst (pa_cons (pe_ix ix_list (pv 2) pe_int (fun _ _ => rfl)) (pa_cons (pe_ix ix_list (pv 2) pe_int (fun _ _ => rfl)) (pa_cons (pv 5) pa_nil)))) pa_nil)))))
    pss_nil)
    (pss_cons (ps_if (PW.pt (pw_and (pt_cmpR op_ne (pv 4) pe_str (nomark _)) (pw_and (pt_cmpR op_le (pe_callB (call_min2 rfl) (by rfl) T.m_min (by decide +kernel) (pa_cons (pe_ix ix_tup (pe_ix ix_list (pv 2) pe_int (fun _ _ => rfl)) pe_int (fun _ _ => rfl)) (pa_cons (pe_ix ix_tup (pe_ix ix_list (pv 2) pe_int (fun _ _ => rfl)) pe_int (fun _ _ => rfl)) pa_nil))) (pv 3) (nomark _)) (pw_and1 (pt_cmpR op_ne (pv 4) (pv 5) (nomark _))))))
    (pss_one (ps_ret (pe_lst (pa_cons pe_bl (pa_cons (pe_lst pa_nil) pa_nil)))))
    pss_nil)
    (pss_one (ps_ret (pe_lst (pa_cons pe_bl (pa_cons (pe_lst pa_nil) pa_nil)))))))))), ?_⟩
    walk_at "start"
    walk_at "sts"
    refine ⟨x, L, mt, t, k, rfl, tx, rn, by omega, fun H1 k1 => ?_⟩
    have er1 := k1 _ _ (by simp) er
    have ep1 := k1 _ _ (by simp) ep2
    have ty1 := ty.keep0 k1
    have ey1 := k1 _ _ (by simp) ey
    walk_at "sts"
    refine r_cut (fun σ' H' => ∃ y6 : Option V, σ' = [some (.ref x), some (.ref y), some (.ref r), some (.int wr), some (oS (getA mt (cnt t))), some (.str (saidN mq (cnt t) said)), y6] ∧ Keep [] H H') ?_ ?_
    · walk_at "sts"
      refine r_ite (fun c1 => ?_) (fun c1 => ?_)
      · have rq : Rn (hasA mq) k t := by
          rcases sb with ⟨_, h⟩ | ⟨h, _⟩
          · exact h
          · exact (h c1).elim
        have eN : saidN mq (cnt t) said = (getA mq (cnt t)).getD e0 := if_pos c1
        walk_at "sts"
        refine ⟨y, L, mq, t, k, rfl, ty1, rq, by omega, fun H2 k2 => ?_⟩
        walk_at "sts"
        cases g : getA mq (cnt t) with
        | none =>
          rw [g] at eN
          refine ⟨rfl, _, rfl, ?_⟩
          rw [if_neg (by rw [decide_eq_true (show oS none = V.non from rfl)]; decide)]
          walk_at "sts"
          exact ⟨_, by rw [eN, ← show said = e0 from c1]; rfl, k1.trans k2⟩
        | some u =>
          rw [g] at eN
          refine ⟨rfl, _, rfl, ?_⟩
          rw [if_pos (by rw [decide_eq_false (show ¬ oS (some u) = V.non from fun h => by cases h)]; rfl)]
          walk_at "sts"
          exact ⟨_, by rw [eN]; rfl, k1.trans k2⟩
      · have eN : saidN mq (cnt t) said = said := if_neg c1
        walk_at "sts"
        exact ⟨_, by rw [eN], k1⟩
    rintro σ' H2 ⟨y6, rfl, k2⟩
    have er2 := k2 _ _ (by simp) er
    have ep3 := k2 _ _ (by simp) ep2
    have fin := fun {wd : Str} => sb.told (wd := wd) qm w0 kL sum.1
    generalize saidN mq (cnt t) said = sN at fin qq ⊢
    clear k1 er1 ep1 ty1 ey1
    cases g : getA mt (cnt t) with
    | none =>
      have hn : hasA mt (cnt t) = false := by unfold hasA; rw [g]; rfl
      rw [show oS none = V.non from rfl]
      walk_at "sts"
      intro l2 hl2
      have k3 : Keep [] H2 (upd H2 l2 (.lst [.str (strL t), .ref pc, .str sN])) := Keep.new hl2
      have el2 : upd H2 l2 (.lst [.str (strL t), .ref pc, .str sN]) l2 = some (.lst [.str (strL t), .ref pc, .str sN]) := upd_same
      have hl2' : H l2 = none := k2.free (by simp) hl2
      generalize upd H2 l2 (.lst [.str (strL t), .ref pc, .str sN]) = H3 at k3 el2 ⊢
      walk_at "sts"
      intro l hl
      have hl' : H l = none := (k2.trans k3).free (by simp) hl
      have k4 : Keep [] H3 (upd H3 l (.lst [.bl true, .ref l2])) := Keep.new hl
      exact qq l l2 _ (k2.trans (k3.trans k4)) hl' hl2' upd_same (.inr ⟨hn, pc, k4 _ _ (by simp) el2, (k2.trans (k3.trans k4)) _ _ (by simp) ep⟩)
    | some wd =>
      have hn : hasA mt (cnt t) = true := by unfold hasA; rw [g]; rfl
      have fin2 := fun nu few => fin (wd := wd) (va.word _ (mem_getA g)) nu few (sd _ _ ⟨k, kL, rn.met⟩ g)
      rw [show oS (some wd) = V.str wd from rfl]
      have tail : ∀ l2, H2 l2 = none → ∀ l, upd H2 l2 (.lst []) l = none → Q (.ref l) (upd (upd H2 l2 (.lst [])) l (.lst [.bl true, .ref l2])) := fun l2 hl2 l hl => by
        have k3 : Keep [] H2 (upd H2 l2 (.lst [])) := Keep.new hl2
        have k4 : Keep [] (upd H2 l2 (.lst [])) (upd (upd H2 l2 (.lst [])) l (.lst [.bl true, .ref l2])) := Keep.new hl
        exact qq l l2 _ (k2.trans (k3.trans k4)) ((k2.trans k3).free (by simp) hl) (k2.free (by simp) hl2) upd_same (.inl ⟨hn, k4 _ _ (by simp) upd_same⟩)
      walk_at "sts"
      refine r_iteN (fun c1 => ?_) (fun c1 => ?_)
      · walk_at "sts"
        refine r_ite (fun c2 => ?_) (fun c2 => ?_)
        · have e2 : sN = wd := fin2 c1 (by split at c2 <;> omega)
          walk_at "sts"
          refine r_iteNF e2.symm ?_
          walk_at "sts"
          intro l2 hl2
          walk_at "sts"
          intro l hl
          exact tail l2 hl2 l hl
        · walk_at "sts"
          intro l2 hl2
          walk_at "sts"
          intro l hl
          exact tail l2 hl2 l hl
      · walk_at "sts"
        intro l2 hl2
        walk_at "sts"
        intro l hl
        exact tail l2 hl2 l hl
end
/-! ### none is quicker -/
open Tab (Rn cnt Mt)
def RunOk (wr : Int) (L : Nat) (mt mq : Ends) (H : Hp) (r : Addr) (k : Nat) : Prop := ∃ s said, RunAt H r s said ∧ Rn (hasA mt) k s ∧ hasA mt (cnt s) = false ∧ SaidA wr L mq k s said
section
variable {wr : Int} {L k : Nat} {mt mq : Ends} {H H' : Hp} {r a : Addr}
theorem RunAt.keep0 {s : List Nat} {said : Str} (h : RunAt H r s said) (kp : Keep [] H H') : RunAt H' r s said := by
  obtain ⟨pc, a, b⟩ := h; exact ⟨pc, kp _ _ (by simp) a, kp _ _ (by simp) b⟩
theorem RunOk.keep0 (h : RunOk wr L mt mq H r k) (kp : Keep [] H H') : RunOk wr L mt mq H' r k := by
  obtain ⟨s, said, ra, x⟩ := h; exact ⟨s, said, ra.keep0 kp, x⟩
theorem RunOk.upd {o : HO} (h : RunOk wr L mt mq H r k) (n1 : ∀ s pc said, H a ≠ some (.lst [.str s, .ref pc, .str said])) (n2 : ∀ ys, H a ≠ some (.tup ys)) : RunOk wr L mt mq (upd H a o) r k := by
  obtain ⟨s, said, ⟨pc, e1, e2⟩, x⟩ := h
  refine ⟨s, said, ⟨pc, ?_, ?_⟩, x⟩
  · rw [upd_ne (by rintro rfl; exact n1 _ _ _ e1)]; exact e1
  · rw [upd_ne (by rintro rfl; exact n2 _ e2)]; exact e2
end
theorem r_dputN {P : Program} {w : World} {td ty tv : TE} {D : L2.Ends} {σ : L2.St} {H : Hp} (k : tv σ H fun v H1 => td σ H1 fun x H2 => ty σ H2 fun y H3 => ∃ d q k n, x = .ref d ∧ y = .ref q ∧ Nk.KeyN H3 q k ∧ Nk.SeenAt P w H3 d n ∧ n < sizeLine ∧ ∀ ob, Nk.SeenAt P w (upd H3 d ob) d (n + 1) → D.nx σ (upd H3 d ob)) : Nk.sDPutN P w td ty tv D σ H := k
def spNoneQuicker (C : Addr) : Sp := fun vs H Q _ => ∃ (x y : Addr) (wr : Int) (L : Nat) (mt mq : Ends), vs = [.ref x, .ref y, .int L, .int wr] ∧ TableAt C H x L mt ∧ TableAt C H y L mq ∧ Valid L mt ∧ Sound mt L wr ∧ QT wr L mq ∧ 0 ≤ wr ∧ ∀ H', Keep [] H H' → Q (.bl true) H'
section
variable {P : Program} {w : World} {K : PySem.W.Frag} {mg : Str → Option Value} {base : Heap}
theorem ok_none_quicker (T : Tx K mg) (G_w_longer : FnOk P w K mg base CX0 2 T.f_w_longer T.fd_w_longer ["_law_table", "_law_quick", "_law_run", "_law_wrong_here"] (spLonger T.C_Table)) : FnOk P w K mg base CX0 3 T.f_w_none_quicker T.fd_w_none_quicker ["_law_table", "_law_quick", "_law_limit_here", "_law_wrong_here"] (spNoneQuicker T.C_Table) := by
  refine T.F_w_none_quicker.ok sc_w_none_quicker (fun vs H Q E h => ?_) (fun cdv A outer s H vs Q E hr h => ?_)
  · obtain ⟨x, y, wr, L, mt, mq, rfl, _⟩ := h; rfl
  · obtain ⟨x, y, wr, L, mt, mq, rfl, tx, ty, va, sd, qm, w0, qq⟩ := h
    have L12 := va.l2
    have L1 := va.l1
    obtain ⟨dx, dmx, ex, emx⟩ := id tx
    obtain ⟨dy, dmy, ey, emy⟩ := id ty
    refine ⟨_, (pss_cons (ps_set (i := 4) sc_w_none_quicker.nd rfl (Or.inl rfl) (pe_lst (pa_cons (pe_lst (pa_cons pe_str (pa_cons (pe_tup (pa_cons pe_int (pa_cons pe_int pa_nil))) (pa_cons pe_str pa_nil)))) pa_nil)))
    (pss_cons (ps_for PassesOwn.never rfl (pi_range1 rfl T.m_range (pa_cons (pv 2) pa_nil)) (pg_name (i := 5) sc_w_none_quicker.nd rfl (Or.inl rfl))
    (pss_cons (ps_set (i := 6) sc_w_none_quicker.nd rfl (Or.inl rfl) (pe_lst pa_nil))
    (pss_cons (ps_set (i := 7) sc_w_none_quicker.nd rfl (Or.inl rfl) Nk.pe_dnewN)
    (pss_cons (ps_for PassesOwn.never rfl (pi_list (pv 4)) (pg_name (i := 8) sc_w_none_quicker.nd rfl (Or.inl rfl))
    (pss_one (ps_for PassesOwn.never rfl (pi_list (pe_lst (pa_cons pe_str (pa_cons pe_str pa_nil)))) (pg_name (i := 9) sc_w_none_quicker.nd rfl (Or.inl rfl))
    (pss_cons (ps_set (i := 10) sc_w_none_quicker.nd rfl (Or.inl rfl) (pe_tup (pa_cons (pe_op op_add (pe_ix ix_tup (pe_ix ix_list (pv 8) pe_int (fun _ _ => rfl)) pe_int (fun _ _ => rfl)) pe_int) (pa_cons (pe_ix ix_tup (pe_ix ix_list (pv 8) pe_int (fun _ _ => rfl)) pe_int (fun _ _ => rfl)) pa_nil))))
    (Evl.pss_cut (ps_if (pt_cmpR op_eq (pv 9) pe_str (nomark _))
    (pss_one (ps_set (i := 10) sc_w_none_quicker.nd rfl (Or.inl rfl) (pe_tup (pa_cons (pe_ix ix_tup (pe_ix ix_list (pv 8) pe_int (fun _ _ => rfl)) pe_int (fun _ _ => rfl)) (pa_cons (pe_op op_add (pe_ix ix_tup (pe_ix ix_list (pv 8) pe_int (fun _ _ => rfl)) pe_int (fun _ _ => rfl)) pe_int) pa_nil)))))
    pss_nil)
    (pss_cons (ps_set (i := 11) sc_w_none_quicker.nd rfl (Or.inl rfl) (pe_call G_w_longer (hr.mono (by decide)) rfl T.g_w_longer T.F_w_longer.kp T.b_w_longer .nil pass0 (pa_cons (pv 0) (pa_cons (pv 1) (pa_cons (pe_lst (pa_cons (pe_op op_addS (pe_ix ix_list (pv 8) pe_int (fun _ _ => rfl)) (pv 9)) (pa_cons (pv 10) (pa_cons (pe_ix ix_list (pv 8) pe_int (fun _ _ => rfl)) pa_nil)))) (pa_cons (pv 3) pa_nil))))))
    (pss_cons (ps_if (pt_not (pt_val (pe_ix ix_list (pv 11) pe_int (fun _ _ => rfl))))
    (pss_one (ps_ret pe_bl))
    pss_nil)
    (pss_one (ps_if (PW.pt (pw_and (pt_truth (pe_ix ix_list (pv 11) pe_int (fun _ _ => rfl)) (by intro _; rfl)) (pw_and1 (PW.pt (pw_or (pt_cmpR op_le (pv 2) pe_int (nomark _)) (pw_or1 (pt_cmpR (Nk.op_notInN hr.units) (pe_tup (pa_cons (pv 10) (pa_cons (pe_ix ix_list (pe_ix ix_list (pv 11) pe_int (fun _ _ => rfl)) pe_int (fun _ _ => rfl)) pa_nil))) (pv 7) (by rfl))))))))
    (pss_cons (Nk.ps_dputN hr.units (pv 7) (pe_tup (pa_cons (pv 10) (pa_cons (pe_ix ix_list (pe_ix ix_list (pv 11) pe_int (fun _ _ => rfl)) pe_int (fun _ _ => rfl)) pa_nil))) pe_bl rfl)
    (pss_one (ps_expr (pe_bm PySem.F.plainAttrs_list PySem.F.slot_list_append PySem.F.type_list_append mt_append (pv 6) (pa_cons (pe_ix ix_list (pv 11) pe_int (fun _ _ => rfl)) pa_nil)))))
    pss_nil)))))))))
    (pss_one (ps_set (i := 4) sc_w_none_quicker.nd rfl (Or.inl rfl) (pe_callTy call_list_of (by rfl) T.m_list (by decide +kernel) (pa_cons (pv 6) pa_nil))))))))
    (pss_one (ps_ret (pe_cmpR (op_eqD hr.units) (pv 4) (pe_lst pa_nil) (nomark _)))))), ?_⟩
    walk_at "start"
    walk_at "sts"
    intro t0 ht0
    have k1 : Keep [] H (upd H t0 (.tup [.int 0, .int 0])) := Keep.new ht0
    have et0 : upd H t0 (.tup [.int 0, .int 0]) t0 = some (cHO (0, 0)) := upd_same
    generalize upd H t0 (.tup [.int 0, .int 0]) = H1 at k1 et0 ⊢
    walk_at "sts"
    intro r0 hr0
    have k2 : Keep [] H1 (upd H1 r0 (.lst [.str (strL []), .ref t0, .str e0])) := Keep.new hr0
    have er0 : upd H1 r0 (.lst [.str (strL []), .ref t0, .str e0]) r0 = some (.lst [.str (strL []), .ref t0, .str e0]) := upd_same
    have et1 := k2 _ _ (by simp) et0
    rw [show (Str.ofString "") = strL [] from rfl]
    rw [show (V.str (strL []) :: V.ref t0 :: V.str (strL []) :: []) = [.str (strL []), .ref t0, .str e0] from rfl]
    generalize upd H1 r0 (.lst [.str (strL []), .ref t0, .str e0]) = H2 at k2 er0 et1 ⊢
    walk_at "sts"
    intro l hl
    have k3 : Keep [] H2 (upd H2 l (.lst [.ref r0])) := Keep.new hl
    have el : upd H2 l (.lst [.ref r0]) l = some (.lst (([r0] : List Addr).map V.ref)) := upd_same
    have h0t : hasA mt (0, 0) = false := va.zero0
    have vq := qm.valid w0 L1 L12
    have ok0 : RunOk wr L mt mq (upd H2 l (.lst [.ref r0])) r0 0 := ⟨[], e0, ⟨t0, k3 _ _ (by simp) er0, k3 _ _ (by simp) et1⟩, rfl, h0t, .inl ⟨rfl, rfl, vq.zero0⟩⟩
    have k13 := k1.trans (k2.trans k3)
    generalize upd H2 l (.lst [.ref r0]) = H3 at k3 el ok0 k13 ⊢
    clear k1 k2 k3 er0 et1 et0 hl hr0 ht0
    walk_at "sts"
    refine forR1_go (fun i σ' H' => ∃ (l' : Addr) (rs : List Addr) (y5 y6 y7 y8 y9 y10 y11 : Option V), σ' = [some (.ref x), some (.ref y), some (.int L), some (.int wr), some (.ref l'), y5, y6, y7, y8, y9, y10, y11] ∧ H' l' = some (.lst (rs.map V.ref)) ∧ (∀ r ∈ rs, RunOk wr L mt mq H' r i) ∧ rs.length ≤ 2 ^ i ∧ Keep [] H H') (by omega) ⟨l, [r0], _, _, _, _, _, _, _, by first | exact rfl | trivial, el, by simpa using ok0, by simp, k13⟩ ?_ ?_
    · rintro i σ' H4 hi ⟨l', rs, y5, y6, y7, y8, y9, y10, y11, rfl, el', hrs, lrs, k4⟩
      have lv2 : 2 ^ i ≤ 2 ^ 12 := Nat.pow_le_pow_right (by decide) (by omega)
      walk_at "sts"
      intro la hla
      have k5 : Keep [] H4 (upd H4 la (.lst [])) := Keep.new hla
      have ela : upd H4 la (.lst []) la = some (.lst (([] : List Addr).map V.ref)) := upd_same
      have hla0 : H4 la = none := hla
      generalize upd H4 la (.lst []) = H5 at k5 ela ⊢
      walk_at "sts"
      intro D hD seenD
      have hD4 : H4 D = none := k5.free (by simp) hD
      have nDla : D ≠ la := by rintro rfl; cases (hD.symm.trans ela)
      have seenD' : Nk.SeenAt P w (upd H5 D (.ext (Nk.SeenR P w D []))) D 0 := seenD
      clear seenD
      have k6 : Keep [] H5 (upd H5 D (.ext (Nk.SeenR P w D []))) := Keep.new hD
      have ela6 := k6 _ _ (by simp) ela
      have k56 := k5.trans k6
      show gName 7 (V.ref D) _ (upd H5 D (.ext (Nk.SeenR P w D []))) _
      generalize upd H5 D (.ext (Nk.SeenR P w D [])) = H6 at k6 ela6 k56 seenD' ⊢
      clear k5 k6 ela hD hla
      walk_at "sts"
      have nll : l' ≠ la := by rintro rfl; cases (hla0.symm.trans el')
      have k46 : Keep [] H4 H6 := k56
      refine forL_go (fun j σ' H' => ∃ (bs : List Addr) (n : Nat) (z8 z9 z10 z11 : Option V), σ' = [some (.ref x), some (.ref y), some (.int L), some (.int wr), some (.ref l'), some (.int i), some (.ref la), some (.ref D), z8, z9, z10, z11] ∧ H' la = some (.lst (bs.map V.ref)) ∧ (∀ r ∈ bs, RunOk wr L mt mq H' r (i + 1)) ∧ bs.length ≤ 2 * j ∧ Nk.SeenAt P w H' D n ∧ n ≤ 2 * j ∧ Keep [] H4 H') (sqL_of (k46 _ _ (by simp) el')) ⟨[], 0, _, _, _, _, by first | exact rfl | trivial, ela6, by simp, by simp, seenD', by simp, k46⟩ (fun j σ' H' _ h => by obtain ⟨_, _, _, _, _, _, _, _, _, _, _, _, k⟩ := h; exact sqL_of (k _ _ (by simp) el')) ?_ ?_
      · clear seenD' ela6 k56 k46
        rintro j v σ' H7 hv ⟨bs, n, z8, z9, z10, z11, rfl, e7, hbs, lbs, s7, ln, k7⟩
        obtain ⟨r, hr2, rfl⟩ := getRef hv
        obtain ⟨s, said, ⟨pc, er, ep⟩, rns, hns, sa⟩ := hrs r (List.mem_of_getElem? hr2)
        have hj : j < rs.length := (List.getElem?_eq_some_iff.mp hr2).1
        walk_at "sts"
        intro l3 hl3
        have k8 : Keep [] H7 (upd H7 l3 (.lst [.str (strL [114]), .str (strL [109])])) := Keep.new hl3
        have el3 : upd H7 l3 (.lst [.str (strL [114]), .str (strL [109])]) l3 = some (.lst [.str (strL [114]), .str (strL [109])]) := upd_same
        have n3a : l3 ≠ la := by rintro rfl; cases (hl3.symm.trans e7)
        have n3D : l3 ≠ D := by rintro rfl; obtain ⟨_, e, _⟩ := s7; cases (hl3.symm.trans e)
        have e8 := k8 _ _ (by simp) e7
        have s8 := s7.keepK k8 (by simp) (by simp)
        have hbs8 : ∀ r ∈ bs, RunOk wr L mt mq (upd H7 l3 (.lst [.str (strL [114]), .str (strL [109])])) r (i + 1) := fun r hr => (hbs r hr).keep0 k8
        have k48 := k7.trans k8
        rw [str_r, str_m]
        generalize upd H7 l3 (.lst [.str (strL [114]), .str (strL [109])]) = H8 at k8 el3 e8 s8 hbs8 k48 ⊢
        clear k8 hbs s7 e7 k7 hl3
        walk_at "sts"
        refine forL_go (fun g σ' H' => ∃ (bs : List Addr) (n : Nat) (z9 z10 z11 : Option V), σ' = [some (.ref x), some (.ref y), some (.int L), some (.int wr), some (.ref l'), some (.int i), some (.ref la), some (.ref D), some (.ref r), z9, z10, z11] ∧ H' la = some (.lst (bs.map V.ref)) ∧ (∀ r ∈ bs, RunOk wr L mt mq H' r (i + 1)) ∧ bs.length ≤ 2 * j + g ∧ Nk.SeenAt P w H' D n ∧ n ≤ 2 * j + g ∧ Keep [] H4 H' ∧ H' l3 = some (.lst [.str (strL [114]), .str (strL [109])])) (sqL_of el3) ⟨bs, n, _, _, _, by first | exact rfl | trivial, e8, hbs8, by omega, s8, by omega, k48, el3⟩ (fun g σ' H' _ h => by obtain ⟨_, _, _, _, _, _, _, _, _, _, _, _, k⟩ := h; exact sqL_of k) ?_ ?_
        · clear el3 e8 s8 hbs8 k48 lbs ln
          rintro g v σ' H9 hg ⟨bs, n, z9, z10, z11, rfl, e9, hbs, lbs, s9, ln, k9, el3⟩
          have hgl : g < 2 := (List.getElem?_eq_some_iff.mp hg).1
          obtain ⟨c0, rfl, hc0⟩ : ∃ c0, v = .str (strL [c0]) ∧ (c0 = 114 ∨ c0 = 109) := by
            match g, hg with
            | 0, h => exact ⟨114, (Option.some.inj h).symm, .inl rfl⟩
            | 1, h => exact ⟨109, (Option.some.inj h).symm, .inr rfl⟩
            | g + 2, h => cases h
          have er9 := k9 _ _ (by simp) er
          have ep9 : H9 pc = some (.tup [.int (cnt s).1, .int (cnt s).2]) := k9 _ _ (by simp) ep
          walk_at "sts"
          intro u1 hu1
          have k10 : Keep [] H9 (upd H9 u1 (.tup [.int ((cnt s).1 + 1), .int (cnt s).2])) := Keep.new hu1
          have eu1 : upd H9 u1 (.tup [.int ((cnt s).1 + 1), .int (cnt s).2]) u1 = some (cHO ((cnt s).1 + 1, (cnt s).2)) := upd_same
          generalize upd H9 u1 (.tup [.int ((cnt s).1 + 1), .int (cnt s).2]) = H10 at k10 eu1 ⊢
          have er10 := k10 _ _ (by simp) er9
          have ep10 := k10 _ _ (by simp) ep9
          walk_at "sts"
          refine r_cut (fun σ' H' => ∃ u : Addr, σ' = [some (.ref x), some (.ref y), some (.int L), some (.int wr), some (.ref l'), some (.int i), some (.ref la), some (.ref D), some (.ref r), some (.str (strL [c0])), some (.ref u), z11] ∧ H' u = some (cHO (cnt (s ++ [c0]))) ∧ Keep [] H9 H') ?_ ?_
          · walk_at "sts"
            rcases hc0 with rfl | rfl
            · refine r_ite (fun c1 => absurd (strL_inj c1) (show ¬ ([114] : List Nat) = [109] by decide)) (fun c1 => ?_)
              walk_at "sts"
              exact ⟨u1, by first | exact rfl | trivial, by rw [Tab.cnt_snoc]; exact eu1, k10⟩
            · refine r_ite (fun c1 => ?_) (fun c1 => (c1 rfl).elim)
              walk_at "sts"
              intro u2 hu2
              have k11 : Keep [] H10 (upd H10 u2 (.tup [.int (cnt s).1, .int ((cnt s).2 + 1)])) := Keep.new hu2
              walk_at "sts"
              exact ⟨u2, by first | exact rfl | trivial, by rw [Tab.cnt_snoc]; exact upd_same, k10.trans k11⟩
          clear er10 ep10 eu1 k10 hu1
          rintro σ' H11 ⟨u, rfl, eu, k11⟩
          have er11 := k11 _ _ (by simp) er9
          have rn2 : Rn (hasA mt) (i + 1) (s ++ [c0]) := ⟨s, c0, rns, hns, hc0, rfl⟩
          have sl := rn2.len
          have sb := sa.step hc0
          walk_at "sts"
          refine r_addS (le_size (by rw [strL_len, strL_len]; simp only [List.length_append, List.length_singleton] at sl ⊢; omega)) ?_
          rw [strL_app]
          generalize s ++ [c0] = s2 at eu rn2 sl sb ⊢
          walk_at "sts"
          intro r2 hr2'
          have k12 : Keep [] H11 (upd H11 r2 (.lst [.str (strL s2), .ref u, .str said])) := Keep.new hr2'
          have er2 : upd H11 r2 (.lst [.str (strL s2), .ref u, .str said]) r2 = some (.lst [.str (strL s2), .ref u, .str said]) := upd_same
          have eu12 := k12 _ _ (by simp) eu
          generalize upd H11 r2 (.lst [.str (strL s2), .ref u, .str said]) = H12 at k12 er2 eu12 ⊢
          have k912 := k11.trans k12
          have tabs := k4.trans (k9.trans k912)
          clear k11 k12 er11 eu hr2'
          walk_at "sts"
          refine ⟨x, y, r2, wr, L, i + 1, mt, mq, s2, said, rfl, tx.keep0 tabs, ty.keep0 tabs, ⟨u, er2, eu12⟩, va, sd, qm, w0, by omega, L12, rn2, sb, fun q q2 H13 k13 nq nq2 eq dec => ?_⟩
          clear tabs
          have e12 := k912 _ _ (by simp) e9
          have s12 := s9.keepK k912 (by simp) (by simp)
          have e13 := k13 _ _ (by simp) e12
          have s13 := s12.keepK k13 (by simp) (by simp)
          have k913 := k912.trans k13
          have hbs13 : ∀ r ∈ bs, RunOk wr L mt mq H13 r (i + 1) := fun r hr => (hbs r hr).keep0 k913
          have el13 := k913 _ _ (by simp) el3
          have k413 := k9.trans k913
          have eu13 := k13 _ _ (by simp) eu12
          have sa2 := sb.after qm
          generalize saidN mq (cnt s2) said = sN at dec sa2 ⊢
          clear s12 e12 s9 e9 hbs el3 er2 eu12 k912 k13 k913 er9 ep9 k9 sb nq nq2
          walk_at "sts"
          rcases dec with ⟨hm, e2⟩ | ⟨hm, ra⟩
          · refine ⟨false, .inl ⟨[], sqL_of e2, rfl⟩, ?_⟩
            walk_at "sts"
            exact ⟨bs, n, _, _, _, by first | exact rfl | trivial, e13, hbs13, by omega, s13, by omega, k413, el13⟩
          · obtain ⟨pc2, e2, ep2⟩ := id ra
            refine ⟨true, .inl ⟨_, sqL_of e2, rfl⟩, ?_⟩
            have rk13 : RunOk wr L mt mq H13 q2 (i + 1) := ⟨s2, sN, ra, rn2, hm, sa2⟩
            walk_at "sts"
            refine r_ite (fun c1 => ?_) (fun c1 => ?_)
            · walk_at "sts"
              refine r_dputN ?_
              walk_at "sts"
              intro q4 hq4
              have k14 : Keep [] H13 (upd H13 q4 (.tup [.ref u, .str sN])) := Keep.new hq4
              have eq4 : upd H13 q4 (.tup [.ref u, .str sN]) q4 = some (.tup [.ref u, .str sN]) := upd_same
              have eu14 := k14 _ _ (by simp) eu13
              have e14 := k14 _ _ (by simp) e13
              have s14 := s13.keepK k14 (by simp) (by simp)
              have el14 := k14 _ _ (by simp) el13
              have k414 := k413.trans k14
              have hbs14 : ∀ r ∈ bs, RunOk wr L mt mq (upd H13 q4 (.tup [.ref u, .str sN])) r (i + 1) := fun r hr => (hbs13 r hr).keep0 k14
              have rk14 : RunOk wr L mt mq (upd H13 q4 (.tup [.ref u, .str sN])) q2 (i + 1) := rk13.keep0 k14
              have eq14 : upd H13 q4 (.tup [.ref u, .str sN]) q2 = some (.lst [.str (strL s2), .ref pc2, .str sN]) := k14 _ _ (by simp) e2
              have eq15 := k14 _ _ (by simp) eq
              generalize upd H13 q4 (.tup [.ref u, .str sN]) = H14 at k14 eq4 eu14 e14 s14 el14 k414 hbs14 rk14 eq14 eq15 ⊢
              obtain ⟨xsD, eDD, _⟩ := id s14
              refine ⟨D, q4, (ck (cnt s2), sN), n, rfl, rfl, ⟨u, eq4, eu14⟩, s14, lt_size (by omega), fun ob sZ => ?_⟩
              have nq2D : q2 ≠ D := by rintro rfl; rw [eq14] at eDD; cases eDD
              have nqD : q ≠ D := by rintro rfl; rw [eq15] at eDD; cases eDD
              have n1 : ∀ s pc said, H14 D ≠ some (.lst [.str s, .ref pc, .str said]) := fun _ _ _ z => by rw [eDD] at z; cases z
              have n2 : ∀ ys, H14 D ≠ some (.tup ys) := fun _ z => by rw [eDD] at z; cases z
              have e15 : upd H14 D ob la = some (.lst (bs.map V.ref)) := by rw [upd_ne (Ne.symm nDla)]; exact e14
              have el15 : upd H14 D ob l3 = some (.lst [.str (strL [114]), .str (strL [109])]) := by rw [upd_ne n3D]; exact el14
              have eqq : upd H14 D ob q = some (.lst [.bl true, .ref q2]) := by rw [upd_ne nqD]; exact eq15
              have k415 : Keep [] H4 (upd H14 D ob) := k414.mut hD4
              have hbs15 : ∀ r ∈ bs ++ [q2], RunOk wr L mt mq (upd H14 D ob) r (i + 1) := fun r hr => (List.mem_append.mp hr).elim (fun h => (hbs14 r h).upd n1 n2) fun h => by rw [List.mem_singleton.mp h]; exact rk14.upd n1 n2
              have sZ' : Nk.SeenAt P w (upd H14 D ob) D (n + 1) := sZ
              clear sZ
              generalize upd H14 D ob = H15 at e15 el15 eqq k415 hbs15 sZ' ⊢
              walk_at "sts"
              refine ⟨bs ++ [q2], n + 1, _, _, _, by first | exact rfl | trivial, by rw [upd_same, List.map_append]; rfl, fun r hr => (hbs15 r hr).upd (fun s pc said z => ?_) (fun ys z => by rw [e15] at z; cases z), by rw [List.length_append, List.length_singleton]; omega, sZ'.keep (upd_ne nDla) (fun b ys hb => by rw [upd_ne (by rintro rfl; rw [e15] at hb; cases hb)]; exact hb), by omega, k415.mut hla0, by rw [upd_ne n3a]; exact el15⟩
              rw [e15] at z
              cases bs with
              | nil => cases z
              | cons b bs => cases z
            · walk_at "sts"
              intro q3 hq3
              have k16 : Keep [] H13 (upd H13 q3 (.tup [.ref u, .str sN])) := Keep.new hq3
              have eq3 : upd H13 q3 (.tup [.ref u, .str sN]) q3 = some (.tup [.ref u, .str sN]) := upd_same
              have eu16 := k16 _ _ (by simp) eu13
              have e16 := k16 _ _ (by simp) e13
              have s16 := s13.keepK k16 (by simp) (by simp)
              have el16 := k16 _ _ (by simp) el13
              have k416 := k413.trans k16
              have hbs16 : ∀ r ∈ bs, RunOk wr L mt mq (upd H13 q3 (.tup [.ref u, .str sN])) r (i + 1) := fun r hr => (hbs13 r hr).keep0 k16
              have rk16 := rk13.keep0 k16
              have e2 := k16 _ _ (by simp) e2
              have eq := k16 _ _ (by simp) eq
              generalize upd H13 q3 (.tup [.ref u, .str sN]) = H16 at k16 eq3 eu16 e16 s16 el16 k416 hbs16 rk16 e2 eq ⊢
              walk_at "sts"
              refine ⟨D, q3, (ck (cnt s2), sN), n, rfl, rfl, ⟨u, eq3, eu16⟩, s16, fun b => ?_⟩
              clear k16 eq3 hbs13 el13 k413 s13 e13 eu13
              cases b with
              | true =>
                walk_at "sts"
                exact ⟨bs, n, _, _, _, by first | exact rfl | trivial, e16, hbs16, by omega, s16, by omega, k416, el16⟩
              | false =>
                walk_at "sts"
                refine r_dputN ?_
                walk_at "sts"
                intro q4 hq4
                have k14 : Keep [] H16 (upd H16 q4 (.tup [.ref u, .str sN])) := Keep.new hq4
                have eq4 : upd H16 q4 (.tup [.ref u, .str sN]) q4 = some (.tup [.ref u, .str sN]) := upd_same
                have eu14 := k14 _ _ (by simp) eu16
                have e14 := k14 _ _ (by simp) e16
                have s14 := s16.keepK k14 (by simp) (by simp)
                have el14 := k14 _ _ (by simp) el16
                have k414 := k416.trans k14
                have hbs14 : ∀ r ∈ bs, RunOk wr L mt mq (upd H16 q4 (.tup [.ref u, .str sN])) r (i + 1) := fun r hr => (hbs16 r hr).keep0 k14
                have rk14 : RunOk wr L mt mq (upd H16 q4 (.tup [.ref u, .str sN])) q2 (i + 1) := rk16.keep0 k14
                have eq14 : upd H16 q4 (.tup [.ref u, .str sN]) q2 = some (.lst [.str (strL s2), .ref pc2, .str sN]) := k14 _ _ (by simp) e2
                have eq15 := k14 _ _ (by simp) eq
                generalize upd H16 q4 (.tup [.ref u, .str sN]) = H14 at k14 eq4 eu14 e14 s14 el14 k414 hbs14 rk14 eq14 eq15 ⊢
                obtain ⟨xsD, eDD, _⟩ := id s14
                refine ⟨D, q4, (ck (cnt s2), sN), n, rfl, rfl, ⟨u, eq4, eu14⟩, s14, lt_size (by omega), fun ob sZ => ?_⟩
                have nq2D : q2 ≠ D := by rintro rfl; rw [eq14] at eDD; cases eDD
                have nqD : q ≠ D := by rintro rfl; rw [eq15] at eDD; cases eDD
                have n1 : ∀ s pc said, H14 D ≠ some (.lst [.str s, .ref pc, .str said]) := fun _ _ _ z => by rw [eDD] at z; cases z
                have n2 : ∀ ys, H14 D ≠ some (.tup ys) := fun _ z => by rw [eDD] at z; cases z
                have e15 : upd H14 D ob la = some (.lst (bs.map V.ref)) := by rw [upd_ne (Ne.symm nDla)]; exact e14
                have el15 : upd H14 D ob l3 = some (.lst [.str (strL [114]), .str (strL [109])]) := by rw [upd_ne n3D]; exact el14
                have eqq : upd H14 D ob q = some (.lst [.bl true, .ref q2]) := by rw [upd_ne nqD]; exact eq15
                have k415 : Keep [] H4 (upd H14 D ob) := k414.mut hD4
                have hbs15 : ∀ r ∈ bs ++ [q2], RunOk wr L mt mq (upd H14 D ob) r (i + 1) := fun r hr => (List.mem_append.mp hr).elim (fun h => (hbs14 r h).upd n1 n2) fun h => by rw [List.mem_singleton.mp h]; exact rk14.upd n1 n2
                have sZ' : Nk.SeenAt P w (upd H14 D ob) D (n + 1) := sZ
                clear sZ
                generalize upd H14 D ob = H15 at e15 el15 eqq k415 hbs15 sZ' ⊢
                walk_at "sts"
                refine ⟨bs ++ [q2], n + 1, _, _, _, by first | exact rfl | trivial, by rw [upd_same, List.map_append]; rfl, fun r hr => (hbs15 r hr).upd (fun s pc said z => ?_) (fun ys z => by rw [e15] at z; cases z), by rw [List.length_append, List.length_singleton]; omega, sZ'.keep (upd_ne nDla) (fun b ys hb => by rw [upd_ne (by rintro rfl; rw [e15] at hb; cases hb)]; exact hb), by omega, k415.mut hla0, by rw [upd_ne n3a]; exact el15⟩
                rw [e15] at z
                cases bs with
                | nil => cases z
                | cons b bs => cases z
        · rintro σ' H9 ⟨bs, n, z9, z10, z11, rfl, e9, hbs, lbs, s9, ln, k9, el3⟩
          exact ⟨bs, n, _, _, _, _, by first | exact rfl | trivial, e9, hbs, by simp at lbs ⊢; omega, s9, by simp at ln ⊢; omega, k9⟩
      · rintro σ' H7 ⟨bs, n, z8, z9, z10, z11, rfl, e7, hbs, lbs, s7, ln, k7⟩
        rw [List.length_map] at lbs
        walk_at "sts"
        intro l2 hl2
        have k8 : Keep [] H7 (upd H7 l2 (.lst (bs.map V.ref))) := Keep.new hl2
        walk_at "sts"
        exact ⟨l2, bs, _, _, _, _, _, _, _, by first | exact rfl | trivial, upd_same, fun r hr => (hbs r hr).keep0 k8, by rw [Nat.pow_succ]; omega, k4.trans (k7.trans k8)⟩
    · rintro σ' H4 ⟨l', rs, y5, y6, y7, y8, y9, y10, y11, rfl, el', hrs, lrs, k4⟩
      have e0 : rs = [] := by
        cases rs with
        | nil => rfl
        | cons r rs =>
          obtain ⟨s, said, _, rns, hns, _⟩ := hrs r (by simp)
          have e : (L : Int).toNat = L := by omega
          rw [e] at rns
          have := va.gap _ rns.met
          rw [hns] at this; cases this
      subst e0
      walk_at "sts"
      intro p hp
      have k5 : Keep [] H4 (upd H4 p (.lst [])) := Keep.new hp
      have ep : upd H4 p (.lst []) p = some (.lst []) := upd_same
      refine r_eqL (sqL_of (k5 _ _ (by simp) el')) (sqL_of ep) rfl rfl (b := true) rfl ?_
      walk_at "sts"
      exact qq _ (k4.trans k5)
end
/-! ### compared -/
open Tab (Rn cnt Mt)
def badC (m : Ends) (L : Nat) (wr : Int) : List Ct := ((lvG (stopG m) L).1.map (·.1)).filter (fun c => falseB c (wordA m c) wr)
theorem badC_nil {m : Ends} {L : Nat} {wr : Int} (va : Valid L m) : badC m L wr = [] ↔ Sound m L wr := by
  unfold badC
  rw [List.filter_eq_nil_iff]
  constructor
  · intro h c wd mt g
    have st : IsStop m L c := ⟨mt, by unfold hasA; rw [g]; rfl⟩
    have := h c (hasA_iff.mp ((stops_has va).mpr st))
    unfold wordA at this
    rw [g] at this
    unfold falseB at this
    cases e : truthW c wd wr with
    | none => rfl
    | some t => exact (this (by show (truthW c wd wr).isSome = true; rw [e]; rfl)).elim
  · intro h c hc
    obtain ⟨mt, hh⟩ := (stops_has va).mp (hasA_iff.mpr hc)
    unfold hasA at hh
    obtain ⟨wd, g⟩ := Option.isSome_iff_exists.mp hh
    unfold falseB wordA
    rw [g, show (some wd).getD wU = wd from rfl, h c wd mt g]; simp
theorem r_eqNil {K : PySem.W.Frag} {H : Hp} {Q : VK} {p q : Addr} {as : List Addr} {cs : List Ct} (hp : H p = some (.lst (as.map V.ref))) (ha : AllAt cHO H as cs) (hq : H q = some (.lst [])) (k : Q (.bl (decide (cs = []))) H) : rEqD K (.ref p) (.ref q) H Q := by
  refine ⟨_, _, .lst (sqL_of hp) (dp_cs ha), .lst (sqL_of hq) .nil, shaped_cs, by decide, ?_⟩
  rw [eqvL]
  cases cs with
  | nil => exact k
  | cons c cs => exact k
def spCompared (C : Addr) : Sp := fun vs H Q _ => ∃ (d y : Addr) (wr : Int) (L : Nat) (m mq : Ends), vs = [.int L, .ref d, .int wr, .ref y] ∧ EndsAt H d m ∧ Valid L m ∧ TableAt C H y L mq ∧ QT wr L mq ∧ 0 ≤ wr ∧ ∀ H', Keep [] H H' → Q (.bl true) H'
section
variable {P : Program} {w : World} {K : PySem.W.Frag} {mg : Str → Option Value} {base : Heap}
theorem ok_compared (T : Tx K mg) (G_w_stops : FnOk P w K mg base CX0 1 T.f_w_stops T.fd_w_stops ["_law_limit_here", "_law_ends"] spLawStops) (G_w_copy : FnOk P w K mg base CX0 1 T.f_w_copy T.fd_w_copy ["_law_ends"] spCopy) (G_Table___init : FnOk P w K mg base CX0 2 T.f_Table___init T.fd_Table___init ["self", "limit", "ends"] (spInit T.C_Table))
    (G_w_false : FnOk P w K mg base CX0 1 T.f_w_false T.fd_w_false ["_law_word_here", "_law_count", "_law_wrong_here"] spFalse) (G_Table_sound : FnOk P w K mg base CX0 3 T.f_Table_sound T.fd_Table_sound ["self", "wrong"] (spSound T.C_Table))
    (G_w_none_quicker : FnOk P w K mg base CX0 3 T.f_w_none_quicker T.fd_w_none_quicker ["_law_table", "_law_quick", "_law_limit_here", "_law_wrong_here"] (spNoneQuicker T.C_Table)) (G_Table_softened : FnOk P w K mg base CX0 4 T.f_Table_softened T.fd_Table_softened ["self", "wrong"] (spSoftened T.C_Table))
    (G_w_is : FnOk P w K mg base CX0 3 T.f_w_is T.fd_w_is ["_law_table", "_law_limit_here", "_law_ends"] (spIs T.C_Table)) (G_w_soft : FnOk P w K mg base CX0 2 T.f_w_soft T.fd_w_soft ["_law_ends", "_law_stops_here", "_law_wrong_here"] spSoft) :
    FnOk P w K mg base CX0 6 T.f_w_compared T.fd_w_compared ["_law_limit_here", "_law_ends", "_law_wrong_here", "_law_quick"] (spCompared T.C_Table) := by
  refine T.F_w_compared.ok sc_w_compared (fun vs H Q E h => ?_) (fun cdv A outer s H vs Q E hr h => ?_)
  · obtain ⟨d, y, wr, L, m, mq, rfl, _⟩ := h; rfl
  · obtain ⟨d, y, wr, L, m, mq, rfl, ed, va, ty, qm, w0, qq⟩ := h
    have oc := T.oc_Table
    refine ⟨_, (pss_cons (ps_set (i := 4) sc_w_compared.nd rfl (Or.inl rfl) (pe_call G_w_stops (hr.mono (by decide)) rfl T.g_w_stops T.F_w_stops.kp T.b_w_stops .nil pass0 (pa_cons (pv 0) (pa_cons (pv 1) pa_nil))))
    (pss_cons (ps_set (i := 5) sc_w_compared.nd rfl (Or.inl rfl) (pe_make T.mk_Table G_Table___init (hr.mono (by decide)) rfl T.gC_Table T.b_Table___init .nil pass0 (pa_cons (pv 0) (pa_cons (pe_call G_w_copy (hr.mono (by decide)) rfl T.g_w_copy T.F_w_copy.kp T.b_w_copy .nil pass0 (pa_cons (pv 1) pa_nil)) pa_nil))))
    (Evl.pss_cut (ps_set (i := 6) sc_w_compared.nd rfl (Or.inl rfl) (pe_cmpR (op_eqD hr.units) (pe_lock (pe_lc (own := [("_law_count", 7)]) (g := gName 7)  rfl sc_w_compared.nd (pi_keys (pv 4)) (blkOk_by (own := [("_law_count", 7)]) (N := ["_law_limit_here", "_law_ends", "_law_wrong_here", "_law_quick", "_law_stops_here", "_law_table", "_law_sure", "_law_count", "_law_soft_here"]) (sc := defScope s_w_compared) (by decide +kernel)) (fun _ _ _ _ _ => pg_name (i := 7) sc_w_compared.nd rfl (Or.inl rfl)) (fun _ _ _ _ _ => pts_one (pt_val (pe_call G_w_false (hr.mono (by decide)) rfl T.g_w_false T.F_w_false.kp T.b_w_false .nil pass0 (pa_cons (pe_dget (hu_of hr) (pv 1) (pv 7) (fun _ _ => rfl)) (pa_cons (pv 7) (pa_cons (pv 2) pa_nil)))))) (fun _ _ _ _ _ => (pv 7)))) (pe_lst pa_nil) (nomark _)))
    (Evl.pss_cut (ps_if (pt_cmpR op_ne (pe_cmpR op_isNc (pe_meth (pv 5) T.oc_Table.cl T.me_Table_sound G_Table_sound (hr.mono (by decide)) T.b_Table_sound .nil pass0 (pa_cons (pv 2) pa_nil)) pe_non (nomark _)) (pv 6) (nomark _))
    (pss_one (ps_ret pe_bl))
    pss_nil)
    (Evl.pss_cut (ps_if (PW.pt (pw_and (pt_val (pv 6)) (pw_and1 (pt_not (pt_val (pe_call G_w_none_quicker (hr.mono (by decide)) rfl T.g_w_none_quicker T.F_w_none_quicker.kp T.b_w_none_quicker .nil pass0 (pa_cons (pv 5) (pa_cons (pv 3) (pa_cons (pv 0) (pa_cons (pv 2) pa_nil))))))))))
    (pss_one (ps_ret pe_bl))
    pss_nil)
    (pss_cons (ps_set (i := 8) sc_w_compared.nd rfl (Or.inl rfl) (pe_meth (pv 5) T.oc_Table.cl T.me_Table_softened G_Table_softened (hr.mono (by decide)) T.b_Table_softened .nil pass0 (pa_cons (pv 2) pa_nil)))
    (pss_cons (ps_if (PW.pt (pw_or (pt_not (pt_val (pe_call G_w_is (hr.mono (by decide)) rfl T.g_w_is T.F_w_is.kp T.b_w_is .nil pass0 (pa_cons (pv 8) (pa_cons (pv 0) (pa_cons (pe_call G_w_soft (hr.mono (by decide)) rfl T.g_w_soft T.F_w_soft.kp T.b_w_soft .nil pass0 (pa_cons (pv 1) (pa_cons (pv 4) (pa_cons (pv 2) pa_nil)))) pa_nil)))))) (pw_or1 (pt_cmpR op_notNc (pe_meth (pv 8) T.oc_Table.cl T.me_Table_sound G_Table_sound (hr.mono (by decide)) T.b_Table_sound .nil pass0 (pa_cons (pv 2) pa_nil)) pe_non (nomark _)))))
    (pss_one (ps_ret pe_bl))
    pss_nil)
    (pss_one (ps_ret (pe_or (pv 6) (pe_one (pe_call G_w_none_quicker (hr.mono (by decide)) rfl T.g_w_none_quicker T.F_w_none_quicker.kp T.b_w_none_quicker .nil pass0 (pa_cons (pv 8) (pa_cons (pv 3) (pa_cons (pv 0) (pa_cons (pv 2) pa_nil)))))))))))))))), ?_⟩
    walk_at "start"
    walk_at "sts"
    refine ⟨L, d, m, rfl, ed, va.l2, fun r H1 k1 nr er => ?_⟩
    have ed1 : EndsAt H1 d m := k1 _ _ (by simp) ed
    walk_at "sts"
    refine ⟨d, m, rfl, ed1, va.nd, va.len, fun D H2 k2 nD eD => ?_⟩
    have er2 : StopsAt H2 r m L := k2 _ _ (by simp) er
    have k12 := k1.trans k2
    walk_at "sts"
    intro x dx hx hdx ne
    refine r_newTable hx hdx ne eD va fun H3 k3 tab => ?_
    have k13 := k12.trans k3
    have ed3 : EndsAt H3 d m := k13 _ _ (by simp) ed
    have er3 : StopsAt H3 r m L := k3 _ _ (by simp) er2
    have ty3 := ty.keep0 k13
    have nrd := stops_ne ed3 er3 va
    have hF : ∀ p ∈ m, p.1 ∈ falseC m L wr ↔ hasA (lvG (stopG m) L).1 p.1 = true ∧ falseB p.1 p.2 wr = true := fun p hp => soft_false va hp
    clear k1 k2 k3 k12 nD eD er2 er nr ed1 hx hdx ne
    walk_at "sts"
    refine r_cut (fun σ' H' => ∃ (sure : Bool) (y7 : Option V), σ' = [some (.int L), some (.ref d), some (.int wr), some (.ref y), some (.ref r), some (.ref x), some (.bl sure), y7, none] ∧ (sure = true ↔ Sound m L wr) ∧ Keep [] H3 H') ?_ ?_
    · have sz := lvG_size (g := stopG m) (k := L) va.l2
      have hR : ∀ e ∈ (lvG (stopG m) L).1, ∃ wd, getA m e.1 = some wd := fun e he => by
        have := ((stops_has va).mp (hasA_iff.mpr (List.mem_map_of_mem he))).2
        unfold hasA at this
        exact Option.isSome_iff_exists.mp this
      have hbad : badC m L wr = ((lvG (stopG m) L).1.map (·.1)).filter (fun c => falseB c (wordA m c) wr) := rfl
      have er3' : H3 r = some (.dT (kvG V.bl (lvG (stopG m) L).1)) := er3
      generalize (lvG (stopG m) L).1 = R at hR hbad er3' sz
      walk_at "sts"
      refine ⟨r, _, er3', trivial, fun od => ?_⟩
      have erz : upd H3 r (.frz od (.dT (kvG V.bl R))) r = some (.frz od (.dT (kvG V.bl R))) := upd_same
      have edz : upd H3 r (.frz od (.dT (kvG V.bl R))) d = some (.dT (kvG V.str m)) := by rw [upd_ne (Ne.symm nrd)]; exact ed3
      walk_at "sts"
      refine lcKT_go erz (fun Q' hQ => r_var rfl hQ) (fun D i acc H' => ∃ (bs : List Addr) (cs : List Ct), acc = bs.map V.ref ∧ AllAt cHO H' bs cs ∧ cs = ((R.take i).map (·.1)).filter (fun c => falseB c (wordA m c) wr) ∧ H' r = some (.frz od (.dT (kvG V.bl R))) ∧ Keep [] (upd H3 r (.frz od (.dT (kvG V.bl R)))) H') (fun D hD => ⟨[], [], rfl, trivial, by simp, by rw [upd_ne (by rintro rfl; rw [erz] at hD; cases hD)]; exact erz, Keep.new hD⟩) (fun D i acc H' _ h => by obtain ⟨_, _, _, _, _, e, _⟩ := h; exact e) ?_ ?_
      · rintro D i k v2 q acc H4 at1 tup hD eD ⟨bs, cs, rfl, hb, hcs, er4, k4⟩
        obtain ⟨e, he, rfl, rfl⟩ := get_kvG at1
        have tup2 : H4 q = some (cHO e.1) := tup
        have me := List.mem_of_getElem? he
        obtain ⟨wd, gw⟩ := hR e me
        have ww : wordA m e.1 = wd := by unfold wordA; rw [gw]; rfl
        have lacc : bs.length ≤ 8192 := by
          have h1 := hb.len
          have h2 := List.length_filter_le (fun c => falseB c (wordA m c) wr) ((R.take i).map (·.1))
          rw [← hcs, List.length_map] at h2
          have h3 := List.length_take_le' i R
          omega
        have step : ((R.take (i + 1)).map (·.1)).filter (fun c => falseB c (wordA m c) wr) = cs ++ if falseB e.1 wd wr = true then [e.1] else [] := by
          rw [take_snoc he, List.map_append, List.filter_append, ← hcs, List.map_singleton]
          congr 1
          rw [← ww]
          by_cases c : falseB e.1 (wordA m e.1) wr = true
          · simp [c]
          · simp [c]
        have ed4 := k4 _ _ (by simp) edz
        have nDr : D ≠ r := by rintro rfl; rw [eD] at er4; cases er4
        have nDq : q ≠ D := by rintro rfl; rw [eD] at tup2; cases tup2
        walk_at "sts"
        refine ⟨d, _, rfl, dgetT (f := V.str) ed4 tup2 gw, ?_⟩
        walk_at "sts"
        refine ⟨q, e.1, wd, wr, rfl, tup2, ?_⟩
        walk_at "sts"
        cases hf : falseB e.1 wd wr with
        | true =>
          rw [hf, if_pos rfl] at step
          walk_at "sts"
          refine ⟨bs.map V.ref, eD, lt_size (by rw [List.length_map]; omega), _, upd_same, bs ++ [q], cs ++ [e.1], by simp, ?_, step.symm, by rw [upd_ne (Ne.symm nDr)]; exact er4, k4.mut hD⟩
          refine AllAt.app ?_ ⟨by rw [upd_ne nDq]; exact tup2, trivial⟩
          exact cts_upd hb (fun xs e2 => by rw [eD] at e2; cases e2)
        | false =>
          rw [hf, if_neg (by decide), List.append_nil] at step
          walk_at "sts"
          exact ⟨bs.map V.ref, eD, bs, cs, rfl, hb, step.symm, er4, k4⟩
      · rintro D acc H4 hD eD ⟨bs, cs, rfl, hb, hcs, er4, k4⟩
        rw [len_kvG, List.take_length] at hcs
        refine ⟨er4, ?_⟩
        have nDr : D ≠ r := by rintro rfl; rw [eD] at er4; cases er4
        have k5 : Keep [] H3 (upd H4 r (.dT (kvG V.bl R))) := Keep.unlock er3' k4
        have hb5 : AllAt cHO (upd H4 r (.dT (kvG V.bl R))) bs cs := cts_upd hb (fun xs e2 => by rw [er4] at e2; cases e2)
        have eD5 : upd H4 r (.dT (kvG V.bl R)) D = some (.lst (bs.map V.ref)) := by rw [upd_ne nDr]; exact eD
        have hc2 : cs = badC m L wr := hcs.trans hbad.symm
        generalize upd H4 r (.dT (kvG V.bl R)) = H5 at k5 hb5 eD5 ⊢
        clear hb eD er4 k4 edz erz hcs hbad er3'
        walk_at "sts"
        intro p hp
        have k6 : Keep [] H5 (upd H5 p (.lst [])) := Keep.new hp
        refine r_eqNil (k6 _ _ (by simp) eD5) (hb5.keep0 k6) upd_same ?_
        walk_at "sts"
        exact ⟨_, _, by first | exact rfl | trivial, by rw [decide_eq_true_eq, hc2]; exact badC_nil va, k5.trans k6⟩
    rintro σ' H4 ⟨sure, y7, rfl, hsure, k4⟩
    have tab4 := tab.keep0 k4
    have ty4 := ty3.keep0 k4
    obtain ⟨dx2, dm2, ex4, _⟩ := id tab4
    walk_at "sts"
    refine r_cut (fun σ' H' => σ' = [some (.int L), some (.ref d), some (.int wr), some (.ref y), some (.ref r), some (.ref x), some (.bl sure), y7, none] ∧ Keep [] H4 H') ?_ ?_
    · walk_at "sts"
      refine ⟨x, L, m, wr, rfl, tab4, va, w0, fun H5 k5 all => ?_, fun q c wd t s k H5 k5 nq gc tr rn ec hk eq => ?_⟩
      · have es : sure = true := hsure.mpr fun c wd mt g => all c wd mt g
        subst es
        walk_at "sts"
        first | exact ⟨by first | exact rfl | trivial, k5⟩ | skip
      · have es : sure = false := by
          cases sure with
          | false => rfl
          | true =>
            have := (hsure.mp rfl) c wd ⟨k, hk, by rw [← ec]; exact rn.met⟩ gc
            rw [tr] at this; cases this
        subst es
        walk_at "sts"
        first | exact ⟨by first | exact rfl | trivial, k5⟩ | skip
    rintro σ' H5 ⟨rfl, k5⟩
    have tab5 := tab4.keep0 k5
    have ty5 := ty4.keep0 k5
    have k15 := k13.trans (k4.trans k5)
    have er5 : StopsAt H5 r m L := (k4.trans k5) _ _ (by simp) er3
    clear k5 k4 k13 er3 ed3 ty3 ty4 tab4 tab ex4
    refine r_cut (fun σ' H' => σ' = [some (.int L), some (.ref d), some (.int wr), some (.ref y), some (.ref r), some (.ref x), some (.bl sure), y7, none] ∧ Keep [] H5 H') ?_ ?_
    · walk_at "sts"
      cases sure with
      | false =>
        walk_at "sts"
        first | exact ⟨by first | exact rfl | trivial, Keep.refl _ _⟩ | skip
      | true =>
        walk_at "sts"
        refine ⟨x, y, wr, L, m, mq, rfl, tab5, ty5, va, hsure.mp rfl, qm, w0, fun H6 k6 => ?_⟩
        walk_at "sts"
        first | exact ⟨by first | exact rfl | trivial, k6⟩ | skip
    rintro σ' H6 ⟨rfl, k6⟩
    have tab6 := tab5.keep0 k6
    have ty6 := ty5.keep0 k6
    have k16 := k15.trans k6
    have ed6 : EndsAt H6 d m := k16 _ _ (by simp) ed
    have er6 : StopsAt H6 r m L := k6 _ _ (by simp) er5
    obtain ⟨dx3, dm3, ex6, _⟩ := id tab6
    clear k6 k15 er5 ty5 tab5
    walk_at "sts"
    refine ⟨x, L, m, wr, rfl, tab6, va, w0, fun z H7 k7 taz => ?_⟩
    have k17 := k16.trans k7
    have vs := va.soft (wr := wr)
    obtain ⟨dz, dmz, ez, _⟩ := id taz
    walk_at "sts"
    refine ⟨d, r, wr, L, m, rfl, k17 _ _ (by simp) ed, k7 _ _ (by simp) er6, va, fun D H8 k8 nD eD => ?_⟩
    have k18 := k17.trans k8
    walk_at "sts"
    refine ⟨z, D, L, softT m L wr, softT m L wr, rfl, taz.keep0 k8, eD, vs, same_of vs.nd vs.nd (fun _ => rfl), fun H9 k9 => ?_⟩
    have k79 := k8.trans k9
    have k19 := k17.trans k79
    have taz9 := taz.keep0 k79
    have ez9 := k79 _ _ (by simp) ez
    walk_at "sts"
    refine ⟨z, L, softT m L wr, wr, rfl, taz9, vs, w0, fun H10 k10 all => ?_, fun q c wd t s k H10 k10 nq gc tr rn ec hk eq => ?_⟩
    · walk_at "sts"
      cases sure with
      | true =>
        walk_at "sts"
        first | exact qq _ (k19.trans k10) | skip
      | false =>
        walk_at "sts"
        refine ⟨z, y, wr, L, softT m L wr, mq, rfl, taz9.keep0 k10, ty.keep0 (k19.trans k10), vs, fun c wd mt g => all c wd mt g, qm, w0, fun H11 k11 => ?_⟩
        walk_at "sts"
        exact qq _ (k19.trans (k10.trans k11))
    · have := soft_sound (Int.le_refl wr) (c := c) (wd := wd) (m := m) (L := L) ⟨k, hk, by rw [← ec]; exact rn.met⟩ gc
      rw [tr] at this; cases this
end
/-! ### quickest and a race where they refuse -/
open Tab (Rn cnt Mt)
abbrev fL : Str := Str.ofString "limit"
def spQuickX (CN CB : Addr) : Sp := fun vs H Q E => ∃ wr l : Int, vs = [.int wr, .int l] ∧ wr.natAbs < 2 ^ 1000 ∧ (wr < 0 → ∀ e, H e = none → E (.ref CN) (some e) (upd H e (.xd [("number", .int wr)]))) ∧
  (0 ≤ wr → ¬ (1 ≤ l ∧ l ≤ 12) → ∀ e, H e = none → E (.ref CB) (some e) (upd H e (.xd [("fault", .str fL)]))) ∧ (0 ≤ wr → 1 ≤ l → l ≤ 12 → ∀ x H', Keep [] H H' → Q (.ref x) H')
def spRaceX (C CN : Addr) : Sp := fun vs H Q E => ∃ wr : Int, vs = [.ref C, .int wr] ∧ wr.natAbs < 2 ^ 1000 ∧ ¬ (0 ≤ wr ∧ wr ≤ 5) ∧ ∀ e, H e = none → E (.ref CN) (some e) (upd H e (.xd [("number", .int wr)]))
section
variable {w : World} {K : PySem.W.Frag} {mg : Str → Option Value} {base : Heap}
theorem ok_raceX (T : Tx K mg) (G_Table___init : FnOk PG w K mg base CX0 2 T.f_Table___init T.fd_Table___init ["self", "limit", "ends"] (spInit T.C_Table)) : FnOk PG w K mg base (L2.CX PG w) 4 T.f_Table_race T.fd_Table_race ["cls", "wrong"] (spRaceX T.C_Table T.C_BadNumber) := by
  refine T.F_Table_race.okX sc_Table_race (fun vs H Q E h => ?_) (fun cdv A outer s H vs Q E hr h => ?_)
  · obtain ⟨wr, rfl, _⟩ := h; rfl
  · obtain ⟨wr, rfl, wb, no, qe⟩ := h
    have oc := T.oc_Table
    have tk0 : Takes (cxOf (L2.CX PG w) PG w K mg base ["cls", "wrong", "ends", "missed", "reached"] "Table.race" (defScope s_Table_race) T.f_Table_race cdv A outer s H E) (fun cls d _ H => E cls d H) := takes_of rfl rfl rfl rfl
    refine ⟨_, (pss_cons (ps_if (pt_not (pt_chain op_le op_le pe_int (pv 1) (pe_glob (v := .int (5)) rfl T.c_MOST_RACE.choose_spec ⟨_, rfl⟩)))
    (pss_one (Er.ps_raise1 rfl (T.Z_BadNumber w) hr tk0 (pa_cons (pv 1) pa_nil)))
    pss_nil)
    (pss_cons (Dt.ps_setDcT (i := 2) (own := [("missed", 3)]) (g := gName 3) (tt := tYes) hr.units0 rfl sc_Table_race.nd rfl rfl (Dt.sw_dict rfl rfl rfl (by decide +kernel)) (pi_range1 rfl T.m_range (pa_cons (pe_op op_add (pv 1) pe_int) pa_nil)) (blkOk_by (own := [("missed", 3)]) (N := ["cls", "wrong", "ends", "missed", "reached"]) (sc := defScope s_Table_race) (by decide +kernel)) (fun _ _ _ _ _ => pg_name (i := 3) sc_Table_race.nd rfl (Or.inl rfl)) (fun _ _ _ _ _ => pts_nil) (fun _ _ _ _ _ => (pe_tup (pa_cons (pe_op op_add (pv 1) pe_int) (pa_cons (pv 3) pa_nil)))) (fun _ _ _ _ _ => pe_str))
    (pss_cons (ps_for (passes_of rfl) rfl (pi_range1 rfl T.m_range (pa_cons (pe_op op_add (pv 1) pe_int) pa_nil)) (pg_name (i := 4) sc_Table_race.nd rfl (Or.inl rfl))
    (pss_one (ps_dput (hu_of hr) (pv 2) (pe_tup (pa_cons (pv 4) (pa_cons (pe_op op_add (pv 1) pe_int) pa_nil))) pe_str rfl)))
    (pss_one (ps_ret (Cm.pe_makeV (i := 0) T.mk_Table G_Table___init (hr.mono (by decide)) rfl (by first | exact Or.inl rfl | exact Or.inr (Or.inl rfl) | exact Or.inr (Or.inr rfl)) T.b_Table___init .nil pass0 (pa_cons (pe_op op_add (pe_op op_mul pe_int (pv 1)) pe_int) (pa_cons (pv 2) pa_nil)))))))), ?_⟩
    walk_at "start"
    walk_at "sts"
    refine r_ite (fun c1 => ?_) (fun c1 => ?_)
    case refine_2 =>
      walk_at "sts"
      exact Er.r_msgI wb fun e he => qe e he
    walk_at "sts"
    exact Er.r_msgI wb fun e he => qe e he
theorem ok_quickestX (T : Tx K mg) (G_Table___init : FnOk PG w K mg base CX0 2 T.f_Table___init T.fd_Table___init ["self", "limit", "ends"] (spInit T.C_Table)) : FnOk PG w K mg base (L2.CX PG w) 4 T.f_quickest T.fd_quickest ["wrong", "limit"] (spQuickX T.C_BadNumber T.C_BadTable) := by
  refine T.F_quickest.okX sc_quickest (fun vs H Q E h => ?_) (fun cdv A outer s H vs Q E hr h => ?_)
  · obtain ⟨wr, l, rfl, _⟩ := h; rfl
  · obtain ⟨wr, l, rfl, wb, qn, qt, qq⟩ := h
    have oc := T.oc_Table
    have tk0 : Takes (cxOf (L2.CX PG w) PG w K mg base ["wrong", "limit", "few", "ends", "other", "reached"] "quickest" (defScope s_quickest) T.f_quickest cdv A outer s H E) (fun cls d _ H => E cls d H) := takes_of rfl rfl rfl rfl
    refine ⟨_, (pss_cons (ps_if (pt_cmpR op_lt (pv 0) pe_int (nomark _))
    (pss_one (Er.ps_raise1 rfl (T.Z_BadNumber w) hr tk0 (pa_cons (pv 0) pa_nil)))
    pss_nil)
    (pss_cons (ps_if (pt_not (pt_chain op_le op_le pe_int (pv 1) (pe_glob (v := .int (12)) rfl T.c_MOST_TRIES.choose_spec ⟨_, rfl⟩)))
    (pss_one (Er.ps_raise1 rfl (T.Z_BadTable w) hr tk0 (pa_cons pe_str pa_nil)))
    pss_nil)
    (pss_cons (ps_set (i := 2) sc_quickest.nd rfl (Or.inl rfl) (pe_callB (call_min2 rfl) (by rfl) T.m_min (by decide +kernel) (pa_cons (pv 0) (pa_cons (pv 1) pa_nil))))
    (pss_cons (ps_set (i := 3) sc_quickest.nd rfl (Or.inl rfl) pe_dnewT)
    (pss_cons (ps_for (passes_of rfl) rfl (pi_range1 rfl T.m_range (pa_cons (pe_op op_add (pe_callB (call_min2 rfl) (by rfl) T.m_min (by decide +kernel) (pa_cons (pv 2) (pa_cons (pe_op op_sub (pe_op op_sub (pv 1) (pv 2)) pe_int) pa_nil))) pe_int) pa_nil)) (pg_name (i := 4) sc_quickest.nd rfl (Or.inl rfl))
    (pss_cons (ps_dput (hu_of hr) (pv 3) (pe_tup (pa_cons (pe_op op_add (pv 2) pe_int) (pa_cons (pv 4) pa_nil))) pe_str rfl)
    (pss_one (ps_dput (hu_of hr) (pv 3) (pe_tup (pa_cons (pv 4) (pa_cons (pe_op op_add (pv 2) pe_int) pa_nil))) pe_str rfl))))
    (pss_cons (ps_for (passes_of rfl) rfl (pi_range1 rfl T.m_range (pa_cons (pe_op op_add (pv 1) pe_int) pa_nil)) (pg_name (i := 5) sc_quickest.nd rfl (Or.inl rfl))
    (pss_one (ps_if (PW.pt (pw_and (pt_cmpR op_le (pv 5) (pv 2) (nomark _)) (pw_and1 (pt_cmpR op_le (pe_op op_sub (pv 1) (pv 5)) (pv 2) (nomark _)))))
    (pss_one (ps_dput (hu_of hr) (pv 3) (pe_tup (pa_cons (pv 5) (pa_cons (pe_op op_sub (pv 1) (pv 5)) pa_nil))) pe_str rfl))
    pss_nil)))
    (pss_one (ps_ret (pe_make T.mk_Table G_Table___init (hr.mono (by decide)) rfl T.gC_Table T.b_Table___init .nil pass0 (pa_cons (pv 1) (pa_cons (pv 3) pa_nil))))))))))), ?_⟩
    walk_at "start"
    walk_at "sts"
    refine r_ite (fun c1 => ?_) (fun c1 => ?_)
    · walk_at "sts"
      exact Er.r_msgI wb fun e he => qn c1 e he
    have w0 : 0 ≤ wr := by omega
    walk_at "sts"
    refine r_ite (fun c2 => ?_) (fun c2 => ?_)
    case refine_2 =>
      walk_at "sts"
      exact Er.r_msgS (by decide +kernel) (by decide +kernel) fun e he => qt w0 (by omega) e he
    walk_at "sts"
    refine r_iteN (fun c3 => ?_) (fun c3 => ?_)
    case refine_1 =>
      walk_at "sts"
      exact Er.r_msgS (by decide +kernel) (by decide +kernel) fun e he => qt w0 (by omega) e he
    obtain ⟨L, rfl⟩ : ∃ L : Nat, l = (L : Int) := ⟨l.toNat, by omega⟩
    have L1 : 1 ≤ L := by omega
    have L12 : L ≤ 12 := by omega
    walk_at "sts"
    generalize hf : (if (L : Int) < wr then (L : Int) else wr) = few
    have f0 : 0 ≤ few := by rw [← hf]; split <;> omega
    have fL : few ≤ (L : Int) := by rw [← hf]; split <;> omega
    clear hf
    refine r_dnewT fun D hD => ?_
    have k1 : Keep [] H (upd H D (.dT [])) := Keep.new hD
    have eD : EndsAt (upd H D (.dT [])) D [] := upd_same
    generalize upd H D (.dT []) = H1 at k1 eD ⊢
    walk_at "sts"
    generalize hb : (if (L : Int) - few - 1 < few then (L : Int) - few - 1 else few) + 1 = b
    have hb2 : (b = few + 1 ∧ few ≤ (L : Int) - few - 1) ∨ (b = (L : Int) - few ∧ (L : Int) - few - 1 ≤ few) := by rw [← hb]; split <;> omega
    have b0 : 0 ≤ b := by omega
    have b13 : b ≤ 13 := by omega
    clear hb
    walk_at "sts"
    refine forR1_go (fun i σ' H' => ∃ (m : Ends) (y4 y5 : Option V), σ' = [some (.int wr), some (.int L), some (.int few), some (.ref D), y4, y5] ∧ EndsAt H' D m ∧ m.length ≤ 2 * i ∧ Mk m (Fq few L i i 0) ∧ Keep [] H H') (by omega) ⟨[], _, _, by first | exact rfl | trivial, eD, by simp, Mk.nil, k1⟩ ?_ ?_
    · rintro i σ' H2 hi ⟨m, y4, y5, rfl, e2, l2, mk, k2⟩
      walk_at "sts"
      intro u hu
      have k3 : Keep [] H2 (upd H2 u (.tup [.int (few + 1), .int i])) := Keep.new hu
      have eu : upd H2 u (.tup [.int (few + 1), .int i]) u = some (cHO (few + 1, i)) := upd_same
      have e3 := k3 _ _ (by simp) e2
      generalize upd H2 u (.tup [.int (few + 1), .int i]) = H3 at k3 eu e3 ⊢
      refine r_dputT e3 eu (lt_size (by rw [len_kvG]; omega)) ?_
      rw [put_kvG]
      have mk1 := mk.put (fun d z => Fq.r (i := i) (j := i) (k := 0) (d := d) (z := z) (few := few) (L := L) (by omega) (by omega) (by omega) (.inr trivial))
      have l3 : (putA m (few + 1, (i : Int)) wR).length ≤ 2 * i + 1 := Nat.le_trans putA_len (by omega)
      have e4 : EndsAt (upd H3 D (.dT (kvG V.str (putA m (few + 1, (i : Int)) wR)))) D (putA m (few + 1, (i : Int)) wR) := upd_same
      have k4 : Keep [] H (upd H3 D (.dT (kvG V.str (putA m (few + 1, (i : Int)) wR)))) := (k2.trans k3).mut hD
      generalize upd H3 D (.dT (kvG V.str (putA m (few + 1, (i : Int)) wR))) = H4 at e4 k4 ⊢
      generalize putA m (few + 1, (i : Int)) wR = m1 at mk1 l3 e4 ⊢
      clear k3 k2 eu e3 e2 hu
      walk_at "sts"
      intro u hu
      have k3 : Keep [] H4 (upd H4 u (.tup [.int i, .int (few + 1)])) := Keep.new hu
      have eu : upd H4 u (.tup [.int i, .int (few + 1)]) u = some (cHO ((i : Int), few + 1)) := upd_same
      have e5 := k3 _ _ (by simp) e4
      generalize upd H4 u (.tup [.int i, .int (few + 1)]) = H5 at k3 eu e5 ⊢
      refine r_dputT e5 eu (lt_size (by rw [len_kvG]; omega)) ?_
      rw [put_kvG]
      have mk2 := mk1.put (fun d z => Fq.m (i := (i : Int) + 1) (j := i) (k := 0) (d := d) (z := z) (few := few) (L := L) (by omega) (by omega) (by omega))
      exact ⟨_, _, _, by first | exact rfl | trivial, upd_same, Nat.le_trans putA_len (by omega), mk2, (k4.trans k3).mut hD⟩
    · rintro σ' H2 ⟨m, y4, y5, rfl, e2, l2, mk, k2⟩
      rw [Int.toNat_of_nonneg b0] at mk
      walk_at "sts"
      refine forR1_go (fun i σ' H' => ∃ (m : Ends) (y4 y5 : Option V), σ' = [some (.int wr), some (.int L), some (.int few), some (.ref D), y4, y5] ∧ EndsAt H' D m ∧ m.length ≤ 26 + i ∧ Mk m (Fq few L b b i) ∧ Keep [] H H') (by omega) ⟨m, _, _, by first | exact rfl | trivial, e2, by omega, mk, k2⟩ ?_ ?_
      · clear mk l2 e2 k2
        rintro i σ' H3 hi ⟨m, y4, y5, rfl, e3, l3, mk, k3⟩
        walk_at "sts"
        have skip : ¬ ((i : Int) ≤ few ∧ (L : Int) - i ≤ few) → Mk m (Fq few L b b ((i + 1 : Nat) : Int)) := fun h => mk.iff fun d z => Fq.u0 (k := (i : Int)) h
        refine r_ite (fun c1 => ?_) (fun c1 => ?_)
        · walk_at "sts"
          refine r_ite (fun c2 => ?_) (fun c2 => ?_)
          · walk_at "sts"
            intro u hu
            have k4 : Keep [] H3 (upd H3 u (.tup [.int i, .int ((L : Int) - i)])) := Keep.new hu
            have eu : upd H3 u (.tup [.int i, .int ((L : Int) - i)]) u = some (cHO ((i : Int), (L : Int) - i)) := upd_same
            have e4 := k4 _ _ (by simp) e3
            generalize upd H3 u (.tup [.int i, .int ((L : Int) - i)]) = H4 at k4 eu e4 ⊢
            refine r_dputT e4 eu (lt_size (by rw [len_kvG]; omega)) ?_
            rw [put_kvG]
            have mk2 := mk.put (fun d z => Fq.u (i := b) (j := b) (k := i) (d := d) (z := z) (few := few) (L := L) (by omega) c1 c2)
            exact ⟨_, _, _, by first | exact rfl | trivial, upd_same, Nat.le_trans putA_len (by omega), mk2, (k3.trans k4).mut hD⟩
          · walk_at "sts"
            exact ⟨_, _, _, by first | exact rfl | trivial, e3, by omega, skip (fun h => c2 h.2), k3⟩
        · walk_at "sts"
          exact ⟨_, _, _, by first | exact rfl | trivial, e3, by omega, skip (fun h => c1 h.1), k3⟩
      · clear mk l2 e2 k2
        rintro σ' H3 ⟨m, y4, y5, rfl, e3, l3, mk, k3⟩
        have qf : QT few L m := mk.qt f0 fL hb2 (.inl (by omega))
        have va := qf.valid f0 L1 L12
        walk_at "sts"
        intro x dx hx hdx ne
        refine r_newTable hx hdx ne e3 va fun H4 k4 tab => qq w0 (by omega) (by omega) _ H4 (k3.trans k4)
end
/-! ### what is refused -/
open Tab (Rn cnt Mt)
theorem r_cmethSD {C : Addr} {sp : Sp} {E : L2.St → XK} {ta : TE} {tas : TA} {σ : L2.St} {H : Hp} {Q : VK} (k : ta σ H fun x H1 => x = .ref C ∧ tas σ H1 fun vs H2 => sp (.ref C :: vs) H2 Q (E σ)) : Cm.tCMethSD C sp E ta tas σ H Q := k
def dueR (way wr l : Int) : List V := if way = 0 ∨ wr < 0 then [.str (Str.ofString "number"), .int wr] else if ¬ (1 ≤ l ∧ l ≤ 12) then [.str (Str.ofString "table"), .str fL] else [.str (Str.ofString "made"), .int 0]
def spRefusal : Sp := fun vs H Q _ => ∃ (way wr l : Int), vs = [.int way, .int wr, .int l] ∧ wr.natAbs < 2 ^ 1000 ∧ (way = 0 → ¬ (0 ≤ wr ∧ wr ≤ 5)) ∧ ∀ t H', Keep [] H H' → H' t = some (.tup (dueR way wr l)) → Q (.ref t) H'
section
variable {w : World} {K : PySem.W.Frag} {mg : Str → Option Value} {base : Heap}
theorem ok_refusal (T : Tx K mg) (G_Table_raceX : FnOk PG w K mg base (L2.CX PG w) 4 T.f_Table_race T.fd_Table_race ["cls", "wrong"] (spRaceX T.C_Table T.C_BadNumber)) (G_quickestX : FnOk PG w K mg base (L2.CX PG w) 4 T.f_quickest T.fd_quickest ["wrong", "limit"] (spQuickX T.C_BadNumber T.C_BadTable)) :
    FnOk PG w K mg base CX0 6 T.f_w_refusal T.fd_w_refusal ["_law_way", "_law_wrong_here", "_law_limit_here"] spRefusal := by
  refine T.F_w_refusal.ok sc_w_refusal (fun vs H Q E h => ?_) (fun cdv A outer s H vs Q E hr h => ?_)
  · obtain ⟨way, wr, l, rfl, _⟩ := h; rfl
  · obtain ⟨way, wr, l, rfl, wb, no, qq⟩ := h
    have oc := T.oc_Table
    refine ⟨_, (pss_cons (Cm.ps_try_manyA (Wout := fun _ _ _ _ => False) rfl rfl sc_w_refusal.nd takes0 (fun W pn xe tk _ => (pss_one (ps_if (pt_cmpR op_eq (pv 0) pe_int (nomark _))
    (pss_one (ps_expr (Cm.pe_cmethSD (pe_glob (v := .ref T.C_Table) rfl T.gC_Table rfl) T.cr_Table T.cm_Table_race (G_Table_raceX.raw T.b_Table_race .nil) (hr.mono (by decide)) (fun σ => passAt tk σ) (pa_cons (pv 1) pa_nil))))
    (pss_one (ps_expr (pe_callSD G_quickestX (hr.mono (by decide)) rfl T.g_quickest T.F_quickest.kp T.b_quickest .nil (fun σ => passAt tk σ) (pa_cons (pv 1) (pa_cons (pv 2) pa_nil)))))))) (.cons (i := 3) rfl rfl ⟨rfl, by decide, Or.inl T.gC_BadNumber⟩ (fun a oe cls d pn hz hf => (pss_cons (ps_if (PW.pt (pw_or (pt_val (pe_callB (Er.call_isD hz hf) (by rfl) T.m_isinstance (by decide +kernel) (pa_cons (pv 3) (pa_cons (pe_glob (v := .ref T.C_BadTable) rfl T.gC_BadTable rfl) pa_nil)))) (pw_or (pt_not (pt_val (pe_callB (Er.call_isD hz hf) (by rfl) T.m_isinstance (by decide +kernel) (pa_cons (pv 3) (pa_cons (pe_glob (v := .ref T.C_MeteError) rfl T.gC_MeteError rfl) pa_nil))))) (pw_or1 (pt_not (pt_val (pe_callB (Er.call_isD hz hf) (by rfl) T.m_isinstance (by decide +kernel) (pa_cons (pv 3) (pa_cons (pe_bltn (v := .ty "ValueError") (by rfl) T.m_ValueError boot_ValueError rfl) pa_nil)))))))))
    (pss_one (ps_ret (pe_tup (pa_cons pe_str (pa_cons pe_int pa_nil)))))
    pss_nil)
    (pss_one (ps_ret (pe_tup (pa_cons pe_str (pa_cons (pe_xf T.xf_BadNumber (T.Z_BadNumber w).noN hz hf (pv 3)) pa_nil))))))) (.cons (i := 3) rfl rfl ⟨rfl, by decide, Or.inl T.gC_BadTable⟩ (fun a oe cls d pn hz hf => (pss_cons (ps_if (PW.pt (pw_or (pt_not (pt_val (pe_callB (Er.call_isD hz hf) (by rfl) T.m_isinstance (by decide +kernel) (pa_cons (pv 3) (pa_cons (pe_glob (v := .ref T.C_MeteError) rfl T.gC_MeteError rfl) pa_nil))))) (pw_or1 (pt_not (pt_val (pe_callB (Er.call_isD hz hf) (by rfl) T.m_isinstance (by decide +kernel) (pa_cons (pv 3) (pa_cons (pe_bltn (v := .ty "ValueError") (by rfl) T.m_ValueError boot_ValueError rfl) pa_nil))))))))
    (pss_one (ps_ret (pe_tup (pa_cons pe_str (pa_cons pe_int pa_nil)))))
    pss_nil)
    (pss_one (ps_ret (pe_tup (pa_cons pe_str (pa_cons (pe_xf T.xf_BadTable (T.Z_BadTable w).noN hz hf (pv 3)) pa_nil))))))) .nil)))
    (pss_one (ps_ret (pe_tup (pa_cons pe_str (pa_cons pe_int pa_nil)))))), ?_⟩
    walk_at "start"
    walk_at "sts"
    refine r_ite (fun c1 => ?_) (fun c1 => ?_)
    · walk_at "sts"
      refine r_cmethSD ?_
      walk_at "sts"
      refine ⟨rfl, ?_⟩
      walk_at "sts"
      refine ⟨wr, rfl, wb, no c1, fun e he => ?_⟩
      refine ⟨true, T.exm_BadNumber_BadNumber, fun _ a ha => ?_, fun z => nomatch z⟩
      have he' : upd H e (.xd [("number", .int wr)]) e = some (.xd [("number", .int wr)]) := upd_same
      have k4 : Keep [] H (upd H e (.xd [("number", .int wr)])) := Keep.new he
      generalize upd H e (.xd [("number", .int wr)]) = H5 at he' k4 ha ⊢
      simp only [List.set_cons_succ, List.set_cons_zero]
      walk_at "sts"
      refine Er.r_isD T.X_BadNumber he' (fun u r => r) T.kit_BadNumber_BadTable ?_
      walk_at "sts"
      refine Er.r_isD T.X_BadNumber he' (fun u r => r) T.kit_BadNumber_MeteError ?_
      walk_at "sts"
      refine Er.r_isD T.X_BadNumber he' (fun u r => r) T.kit_BadNumber_ValueError ?_
      walk_at "sts"
      refine Er.r_xfE he' rfl ?_
      walk_at "sts"
      intro t ht
      have k5 : Keep [] H5 (upd H5 t (.tup [.str (Str.ofString "number"), .int wr])) := Keep.new ht
      refine qq t _ (k4.trans k5) ?_
      rw [upd_same]; unfold dueR; rw [if_pos (.inl c1)]
    · walk_at "sts"
      refine ⟨wr, l, rfl, wb, fun neg e he => ?_, fun w0 no2 e he => ?_, fun w0 l1 l2 x H2 k2 => ?_⟩
      · refine ⟨true, T.exm_BadNumber_BadNumber, fun _ a ha => ?_, fun z => nomatch z⟩
        have he' : upd H e (.xd [("number", .int wr)]) e = some (.xd [("number", .int wr)]) := upd_same
        have k4 : Keep [] H (upd H e (.xd [("number", .int wr)])) := Keep.new he
        generalize upd H e (.xd [("number", .int wr)]) = H5 at he' k4 ha ⊢
        simp only [List.set_cons_succ, List.set_cons_zero]
        walk_at "sts"
        refine Er.r_isD T.X_BadNumber he' (fun u r => r) T.kit_BadNumber_BadTable ?_
        walk_at "sts"
        refine Er.r_isD T.X_BadNumber he' (fun u r => r) T.kit_BadNumber_MeteError ?_
        walk_at "sts"
        refine Er.r_isD T.X_BadNumber he' (fun u r => r) T.kit_BadNumber_ValueError ?_
        walk_at "sts"
        refine Er.r_xfE he' rfl ?_
        walk_at "sts"
        intro t ht
        have k5 : Keep [] H5 (upd H5 t (.tup [.str (Str.ofString "number"), .int wr])) := Keep.new ht
        refine qq t _ (k4.trans k5) ?_
        rw [upd_same]; unfold dueR; rw [if_pos (.inr neg)]
      · refine ⟨false, T.exm_BadTable_BadNumber, (fun z => nomatch z), fun _ => ⟨true, T.exm_BadTable_BadTable, fun _ a ha => ?_, fun z => nomatch z⟩⟩
        have he' : upd H e (.xd [("fault", .str fL)]) e = some (.xd [("fault", .str fL)]) := upd_same
        have k4 : Keep [] H (upd H e (.xd [("fault", .str fL)])) := Keep.new he
        generalize upd H e (.xd [("fault", .str fL)]) = H5 at he' k4 ha ⊢
        simp only [List.set_cons_succ, List.set_cons_zero]
        walk_at "sts"
        refine Er.r_isD T.X_BadTable he' (fun u r => r) T.kit_BadTable_MeteError ?_
        walk_at "sts"
        refine Er.r_isD T.X_BadTable he' (fun u r => r) T.kit_BadTable_ValueError ?_
        walk_at "sts"
        refine Er.r_xfE he' rfl ?_
        walk_at "sts"
        intro t ht
        have k5 : Keep [] H5 (upd H5 t (.tup [.str (Str.ofString "table"), .str fL])) := Keep.new ht
        refine qq t _ (k4.trans k5) ?_
        rw [upd_same]; unfold dueR; rw [if_neg (by omega), if_pos no2]
      · walk_at "sts"
        intro t ht
        have k5 : Keep [] H2 (upd H2 t (.tup [.str (Str.ofString "made"), .int 0])) := Keep.new ht
        refine qq t _ (k2.trans k5) ?_
        rw [upd_same]; unfold dueR; rw [if_neg (by omega), if_neg (by omega)]
end
/-! ### all refusals -/
open Tab (Rn cnt Mt)
theorem r_neSame {K : PySem.W.Frag} {H : Hp} {Q : VK} {p q : Addr} {xs : List V} (hp : H p = some (.tup xs)) (hq : H q = some (.tup xs)) (fx : xs.all flatV = true) (k : Q (.bl false) H) : rNeD K (.ref p) (.ref q) H Q :=
  r_neT (sqT_of hp) (sqT_of hq) fx fx (b := true) (eqv_flats fx) k
theorem r_eqSame {K : PySem.W.Frag} {H : Hp} {Q : VK} {p q : Addr} {xs : List V} (hp : H p = some (.tup xs)) (hq : H q = some (.tup xs)) (fx : xs.all flatV = true) (k : Q (.bl true) H) : rEqD K (.ref p) (.ref q) H Q :=
  r_eqT (sqT_of hp) (sqT_of hq) fx fx (b := true) (eqv_flats fx) k
theorem flat_num {z : Int} : ([.str (Str.ofString "number"), .int z] : List V).all flatV = true := by
  show (flatV (V.str (Str.ofString "number")) && (flatV (V.int z) && true)) = true
  rw [show flatV (V.int z) = true from rfl]; decide +kernel
theorem flat_tab : ([.str (Str.ofString "table"), .str fL] : List V).all flatV = true := by decide +kernel
theorem flat_made : ([.str (Str.ofString "made"), .int 0] : List V).all flatV = true := by decide +kernel
theorem dueR_n {way wr l : Int} (h : way = 0 ∨ wr < 0) : dueR way wr l = [.str (Str.ofString "number"), .int wr] := if_pos h
theorem dueR_t {wr l : Int} (h : 0 ≤ wr) (n : ¬ (1 ≤ l ∧ l ≤ 12)) : dueR 1 wr l = [.str (Str.ofString "table"), .str fL] := by unfold dueR; rw [if_neg (by omega), if_pos n]
theorem dueR_m {wr l : Int} (h : 0 ≤ wr) (n : 1 ≤ l ∧ l ≤ 12) : dueR 1 wr l = [.str (Str.ofString "made"), .int 0] := by unfold dueR; rw [if_neg (by omega), if_neg (fun k => k n)]
def spRefused : Sp := fun vs H Q _ => ∃ (a : Addr) (wr : Int) (L : Nat), vs = [.ref a, .int wr, .int L] ∧ BoxAt a H ∧ 0 ≤ wr ∧ wr.natAbs < 2 ^ 1000 ∧ 1 ≤ L ∧ L ≤ 12 ∧ ∀ H', Keep [a] H H' → Q (.bl true) H'
section
variable {P : Program} {w : World} {K : PySem.W.Frag} {mg : Str → Option Value} {base : Heap}
theorem ok_refused (T : Tx K mg) (G_w_take : FnOk P w K mg base CX0 1 T.f_w_take T.fd_w_take ["_law_box_here", "_law_size"] spDr) (G_w_refusal : FnOk P w K mg base CX0 6 T.f_w_refusal T.fd_w_refusal ["_law_way", "_law_wrong_here", "_law_limit_here"] spRefusal) :
    FnOk P w K mg base CX0 7 T.f_w_refused T.fd_w_refused ["_law_box_here", "_law_wrong_here", "_law_limit_here"] spRefused := by
  refine T.F_w_refused.ok sc_w_refused (fun vs H Q E h => ?_) (fun cdv A outer s H vs Q E hr h => ?_)
  · obtain ⟨a, wr, L, rfl, _⟩ := h; rfl
  · obtain ⟨a, wr, L, rfl, hb, w0, wb, L1, L12, qq⟩ := h
    refine ⟨_, (pss_cons (ps_set (i := 3) sc_w_refused.nd rfl (Or.inl rfl) (pe_op op_sub (pe_un un_neg pe_int) (pe_call G_w_take (hr.mono (by decide)) rfl T.g_w_take T.F_w_take.kp T.b_w_take .nil pass0 (pa_cons (pv 0) (pa_cons (pe_op op_pow pe_int pe_int) pa_nil)))))
    (pss_cons (ps_set (i := 4) sc_w_refused.nd rfl (Or.inl rfl) (pe_op op_add pe_int (pe_call G_w_take (hr.mono (by decide)) rfl T.g_w_take T.F_w_take.kp T.b_w_take .nil pass0 (pa_cons (pv 0) (pa_cons (pe_op op_pow pe_int pe_int) pa_nil)))))
    (pss_cons (ps_set (i := 5) sc_w_refused.nd rfl (Or.inl rfl) (pe_ix ix_list (pe_lst (pa_cons pe_int (pa_cons (pe_un un_neg pe_int) (pa_cons (pe_op op_sub (pe_un un_neg pe_int) (pe_call G_w_take (hr.mono (by decide)) rfl T.g_w_take T.F_w_take.kp T.b_w_take .nil pass0 (pa_cons (pv 0) (pa_cons (pe_op op_pow pe_int pe_int) pa_nil)))) (pa_cons pe_int (pa_cons pe_int (pa_cons pe_int pa_nil))))))) (pe_call G_w_take (hr.mono (by decide)) rfl T.g_w_take T.F_w_take.kp T.b_w_take .nil pass0 (pa_cons (pv 0) (pa_cons pe_int pa_nil))) (fun _ _ => rfl)))
    (pss_cons (ps_for PassesOwn.never rfl (pi_list (pe_lst (pa_cons (pe_un un_neg pe_int) (pa_cons (pv 3) (pa_cons pe_int (pa_cons (pv 4) pa_nil)))))) (pg_name (i := 6) sc_w_refused.nd rfl (Or.inl rfl))
    (pss_one (ps_if (pt_cmpR (op_neD hr.units) (pe_call G_w_refusal (hr.mono (by decide)) rfl T.g_w_refusal T.F_w_refusal.kp T.b_w_refusal .nil pass0 (pa_cons pe_int (pa_cons (pv 6) (pa_cons pe_int pa_nil)))) (pe_tup (pa_cons pe_str (pa_cons (pv 6) pa_nil))) (nomark _))
    (pss_one (ps_ret pe_bl))
    pss_nil)))
    (pss_cons (ps_for PassesOwn.never rfl (pi_list (pe_lst (pa_cons (pe_un un_neg pe_int) (pa_cons (pv 3) pa_nil)))) (pg_name (i := 6) sc_w_refused.nd rfl (Or.inl rfl))
    (pss_one (ps_if (PW.pt (pw_or (pt_cmpR (op_neD hr.units) (pe_call G_w_refusal (hr.mono (by decide)) rfl T.g_w_refusal T.F_w_refusal.kp T.b_w_refusal .nil pass0 (pa_cons pe_int (pa_cons (pv 6) (pa_cons (pv 2) pa_nil)))) (pe_tup (pa_cons pe_str (pa_cons (pv 6) pa_nil))) (nomark _)) (pw_or1 (pt_cmpR (op_neD hr.units) (pe_call G_w_refusal (hr.mono (by decide)) rfl T.g_w_refusal T.F_w_refusal.kp T.b_w_refusal .nil pass0 (pa_cons pe_int (pa_cons (pv 6) (pa_cons (pv 5) pa_nil)))) (pe_tup (pa_cons pe_str (pa_cons (pv 6) pa_nil))) (nomark _)))))
    (pss_one (ps_ret pe_bl))
    pss_nil)))
    (pss_cons (ps_for PassesOwn.never rfl (pi_list (pe_lst (pa_cons pe_int (pa_cons pe_int (pa_cons (pv 5) pa_nil))))) (pg_name (i := 7) sc_w_refused.nd rfl (Or.inl rfl))
    (pss_one (ps_if (pt_cmpR (op_neD hr.units) (pe_call G_w_refusal (hr.mono (by decide)) rfl T.g_w_refusal T.F_w_refusal.kp T.b_w_refusal .nil pass0 (pa_cons pe_int (pa_cons (pv 1) (pa_cons (pv 7) pa_nil)))) (pe_tup (pa_cons pe_str (pa_cons pe_str pa_nil))) (nomark _))
    (pss_one (ps_ret pe_bl))
    pss_nil)))
    (pss_one (ps_ret (pe_and (pe_cmpR (op_eqD hr.units) (pe_call G_w_refusal (hr.mono (by decide)) rfl T.g_w_refusal T.F_w_refusal.kp T.b_w_refusal .nil pass0 (pa_cons pe_int (pa_cons (pv 1) (pa_cons pe_int pa_nil)))) (pe_tup (pa_cons pe_str (pa_cons pe_int pa_nil))) (nomark _)) (pe_one (pe_cmpR (op_eqD hr.units) (pe_call G_w_refusal (hr.mono (by decide)) rfl T.g_w_refusal T.F_w_refusal.kp T.b_w_refusal .nil pass0 (pa_cons pe_int (pa_cons (pv 1) (pa_cons pe_int pa_nil)))) (pe_tup (pa_cons pe_str (pa_cons pe_int pa_nil))) (nomark _)))))))))))), ?_⟩
    walk_at "start"
    walk_at "sts"
    refine r_dr hb (by omega) (by omega) fun d1 H1 a1 b1 k1 p1 => ?_
    walk_at "sts"
    refine r_dr p1 (by omega) (by omega) fun d2 H2 a2 b2 k2 p2 => ?_
    walk_at "sts"
    refine r_dr p2 (by omega) (by omega) fun d3 H3 a3 b3 k3 p3 => ?_
    have k13 := k1.trans (k2.trans k3)
    walk_at "sts"
    intro l hl
    have hb2 := p3.new (o := .lst [.int 0, .int (-1), .int (-1 - d3), .int 13, .int 14, .int 15]) hl
    have el : upd H3 l (.lst [.int 0, .int (-1), .int (-1 - d3), .int 13, .int 14, .int 15]) l = some (.lst (([0, -1, -1 - d3, 13, 14, 15] : List Int).map V.int)) := upd_same
    have k4 : Keep [] H3 (upd H3 l (.lst [.int 0, .int (-1), .int (-1 - d3), .int 13, .int 14, .int 15])) := Keep.new hl
    have nla := p3.ne hl
    generalize upd H3 l (.lst [.int 0, .int (-1), .int (-1 - d3), .int 13, .int 14, .int 15]) = H4 at hb2 el k4 ⊢
    walk_at "sts"
    refine r_dr hb2 (by omega) (by omega) fun n2 H5 a5 b5 k5 p5 => ?_
    have el3 := k5 _ _ (by simpa using nla) el
    have k15 : Keep [a] H H5 := k13.trans ((k4.mono (by simp)).trans k5)
    obtain ⟨j, rfl⟩ : ∃ j : Nat, n2 = j := ⟨n2.toNat, by omega⟩
    refine r_ixL (sqL_of el3) (atI_map (by omega) (by simp; omega)) ?_
    rw [Int.toNat_natCast]
    generalize hbad : ([0, -1, -1 - d3, 13, 14, 15] : List Int).getD j 0 = bad
    have bd : (bad < 1 ∨ 12 < bad) := by
      match j, b5, hbad with
      | 0, _, h => have h : (0 : Int) = bad := h; omega
      | 1, _, h => have h : (-1 : Int) = bad := h; omega
      | 2, _, h => have h : -1 - d3 = bad := h; omega
      | 3, _, h => have h : (13 : Int) = bad := h; omega
      | 4, _, h => have h : (14 : Int) = bad := h; omega
      | 5, _, h => have h : (15 : Int) = bad := h; omega
      | j + 6, b, _ => omega
    clear hbad el3 el k4 k5 nla hb2 p3 p2 p1 k1 k2 k3 k13 hl
    walk_at "sts"
    intro l1 hl1
    have k6 : Keep [] H5 (upd H5 l1 (.lst [.int (-1), .int (-1 - d1), .int 6, .int (6 + d2)])) := Keep.new hl1
    have el1 : upd H5 l1 (.lst [.int (-1), .int (-1 - d1), .int 6, .int (6 + d2)]) l1 = some (.lst (([-1, -1 - d1, 6, 6 + d2] : List Int).map V.int)) := upd_same
    generalize upd H5 l1 (.lst [.int (-1), .int (-1 - d1), .int 6, .int (6 + d2)]) = H6 at k6 el1 ⊢
    have k16 : Keep [a] H H6 := k15.trans (k6.mono (by simp))
    refine forL_go (fun i σ' H' => ∃ (y6 : Option V), σ' = [some (.ref a), some (.int wr), some (.int L), some (.int (-1 - d1)), some (.int (6 + d2)), some (.int bad), y6, none] ∧ Keep [] H6 H') (sqL_of el1) ⟨_, by first | exact rfl | trivial, Keep.refl _ _⟩ (fun i σ' H' _ h => by obtain ⟨_, _, k⟩ := h; exact sqL_of (k _ _ (by simp) el1)) ?_ ?_
    · rintro i v σ' H7 hv ⟨y6, rfl, k7⟩
      rw [List.getElem?_map] at hv
      obtain ⟨z, hz, rfl⟩ := Option.map_eq_some_iff.mp hv
      have hz2 : ¬ (0 ≤ z ∧ z ≤ 5) ∧ z.natAbs < 2 ^ 1000 := by
        have hm := List.mem_of_getElem? hz
        simp only [List.mem_cons, List.not_mem_nil, or_false] at hm
        have : (10 : Int) ^ 20 < 2 ^ 1000 := by decide +kernel
        have : (2 : Nat) ^ 1000 > 10 ^ 21 := by decide +kernel
        generalize (2 : Nat) ^ 1000 = big at *
        rcases hm with rfl | rfl | rfl | rfl <;> omega
      walk_at "sts"
      refine ⟨0, z, 0, rfl, hz2.2, fun _ => hz2.1, fun t H8 k8 et => ?_⟩
      rw [dueR_n (.inl rfl)] at et
      walk_at "sts"
      intro u hu
      have k9 : Keep [] H8 (upd H8 u (.tup [.str (Str.ofString "number"), .int z])) := Keep.new hu
      refine r_neSame (k9 _ _ (by simp) et) upd_same flat_num ?_
      walk_at "sts"
      exact ⟨_, by first | exact rfl | trivial, k7.trans (k8.trans k9)⟩
    rintro σ' H7 ⟨y6, rfl, k7⟩
    have k17 := k16.trans (k7.mono (by simp))
    clear k16 k7 el1 k6 k15
    walk_at "sts"
    intro l2 hl2
    have k6 : Keep [] H7 (upd H7 l2 (.lst [.int (-1), .int (-1 - d1)])) := Keep.new hl2
    have el2 : upd H7 l2 (.lst [.int (-1), .int (-1 - d1)]) l2 = some (.lst (([-1, -1 - d1] : List Int).map V.int)) := upd_same
    generalize upd H7 l2 (.lst [.int (-1), .int (-1 - d1)]) = H8 at k6 el2 ⊢
    have k18 : Keep [a] H H8 := k17.trans (k6.mono (by simp))
    walk_at "sts"
    refine forL_go (fun i σ' H' => ∃ (y6 : Option V), σ' = [some (.ref a), some (.int wr), some (.int L), some (.int (-1 - d1)), some (.int (6 + d2)), some (.int bad), y6, none] ∧ Keep [] H8 H') (sqL_of el2) ⟨_, by first | exact rfl | trivial, Keep.refl _ _⟩ (fun i σ' H' _ h => by obtain ⟨_, _, k⟩ := h; exact sqL_of (k _ _ (by simp) el2)) ?_ ?_
    · rintro i v σ' H9 hv ⟨y6, rfl, k9⟩
      rw [List.getElem?_map] at hv
      obtain ⟨z, hz, rfl⟩ := Option.map_eq_some_iff.mp hv
      have hz2 : z < 0 ∧ z.natAbs < 2 ^ 1000 := by
        have hm := List.mem_of_getElem? hz
        simp only [List.mem_cons, List.not_mem_nil, or_false] at hm
        have : (2 : Nat) ^ 1000 > 10 ^ 21 := by decide +kernel
        generalize (2 : Nat) ^ 1000 = big at *
        rcases hm with rfl | rfl <;> omega
      walk_at "sts"
      refine ⟨1, z, L, rfl, hz2.2, (fun h => by omega), fun t H10 k10 et => ?_⟩
      rw [dueR_n (.inr hz2.1)] at et
      walk_at "sts"
      intro u hu
      have k11 : Keep [] H10 (upd H10 u (.tup [.str (Str.ofString "number"), .int z])) := Keep.new hu
      refine r_neSame (k11 _ _ (by simp) et) upd_same flat_num ?_
      generalize upd H10 u (.tup [.str (Str.ofString "number"), .int z]) = H11 at k11 ⊢
      walk_at "sts"
      refine ⟨1, z, bad, rfl, hz2.2, (fun h => by omega), fun t2 H12 k12 et2 => ?_⟩
      rw [dueR_n (.inr hz2.1)] at et2
      walk_at "sts"
      intro u2 hu2
      have k13 : Keep [] H12 (upd H12 u2 (.tup [.str (Str.ofString "number"), .int z])) := Keep.new hu2
      refine r_neSame (k13 _ _ (by simp) et2) upd_same flat_num ?_
      walk_at "sts"
      exact ⟨_, by first | exact rfl | trivial, k9.trans (k10.trans (k11.trans (k12.trans k13)))⟩
    rintro σ' H9 ⟨z6, rfl, k9⟩
    have k19 := k18.trans (k9.mono (by simp))
    clear k17 k18 k9 el2 k6
    walk_at "sts"
    intro l3 hl3
    have k6 : Keep [] H9 (upd H9 l3 (.lst [.int 0, .int 13, .int bad])) := Keep.new hl3
    have el3 : upd H9 l3 (.lst [.int 0, .int 13, .int bad]) l3 = some (.lst (([0, 13, bad] : List Int).map V.int)) := upd_same
    generalize upd H9 l3 (.lst [.int 0, .int 13, .int bad]) = H10 at k6 el3 ⊢
    have k110 : Keep [a] H H10 := k19.trans (k6.mono (by simp))
    walk_at "sts"
    refine forL_go (fun i σ' H' => ∃ (y7 : Option V), σ' = [some (.ref a), some (.int wr), some (.int L), some (.int (-1 - d1)), some (.int (6 + d2)), some (.int bad), z6, y7] ∧ Keep [] H10 H') (sqL_of el3) ⟨_, by first | exact rfl | trivial, Keep.refl _ _⟩ (fun i σ' H' _ h => by obtain ⟨_, _, k⟩ := h; exact sqL_of (k _ _ (by simp) el3)) ?_ ?_
    · rintro i v σ' H11 hv ⟨y7, rfl, k11⟩
      rw [List.getElem?_map] at hv
      obtain ⟨z, hz, rfl⟩ := Option.map_eq_some_iff.mp hv
      have hz2 : ¬ (1 ≤ z ∧ z ≤ 12) := by
        have hm := List.mem_of_getElem? hz
        simp only [List.mem_cons, List.not_mem_nil, or_false] at hm
        rcases hm with rfl | rfl | rfl <;> omega
      walk_at "sts"
      refine ⟨1, wr, z, rfl, wb, (fun h => by omega), fun t H12 k12 et => ?_⟩
      rw [dueR_t w0 hz2] at et
      walk_at "sts"
      intro u hu
      have k13 : Keep [] H12 (upd H12 u (.tup [.str (Str.ofString "table"), .str fL])) := Keep.new hu
      refine r_neSame (k13 _ _ (by simp) et) upd_same flat_tab ?_
      walk_at "sts"
      exact ⟨_, by first | exact rfl | trivial, k11.trans (k12.trans k13)⟩
    rintro σ' H11 ⟨z7, rfl, k11⟩
    have k111 := k110.trans (k11.mono (by simp))
    clear k19 k110 k11 el3 k6
    walk_at "sts"
    refine ⟨1, wr, 1, rfl, wb, (fun h => by omega), fun t H12 k12 et => ?_⟩
    rw [dueR_m w0 (by omega)] at et
    walk_at "sts"
    intro u hu
    have k13 : Keep [] H12 (upd H12 u (.tup [.str (Str.ofString "made"), .int 0])) := Keep.new hu
    refine r_eqSame (k13 _ _ (by simp) et) upd_same flat_made ?_
    generalize upd H12 u (.tup [.str (Str.ofString "made"), .int 0]) = H13 at k13 ⊢
    walk_at "sts"
    refine ⟨1, wr, 12, rfl, wb, (fun h => by omega), fun t2 H14 k14 et2 => ?_⟩
    rw [dueR_m w0 (by omega)] at et2
    walk_at "sts"
    intro u2 hu2
    have k15 : Keep [] H14 (upd H14 u2 (.tup [.str (Str.ofString "made"), .int 0])) := Keep.new hu2
    refine r_eqSame (k15 _ _ (by simp) et2) upd_same flat_made ?_
    walk_at "sts"
    exact qq _ (k111.trans ((k12.trans (k13.trans (k14.trans k15))).mono (by simp)))
end
/-! ### the law -/
open Tab (Rn cnt Mt)
def spLaw (K : PySem.W.Frag) : Sp := fun vs H Q _ => ∃ (p : Addr) (ns : List Int), vs = [.ref p] ∧ SqL K H p (ns.map V.int) ∧ ns.length ≤ 63 ∧ ∀ H', Q (.bl true) H'
section
variable {P : Program} {w : World} {K : PySem.W.Frag} {mg : Str → Option Value} {base : Heap}
theorem ok_law (T : Tx K mg) (G_w_box : FnOk P w K mg base CX0 1 T.f_w_box T.fd_w_box ["_law_script", "_law_place"] (spBox K)) (G_w_wrong : FnOk P w K mg base CX0 2 T.f_w_wrong T.fd_w_wrong ["_law_box_here"] spWrong) (G_w_limit : FnOk P w K mg base CX0 2 T.f_w_limit T.fd_w_limit ["_law_box_here"] spLimit)
    (G_quickest : FnOk P w K mg base CX0 4 T.f_quickest T.fd_quickest ["wrong", "limit"] (spQuick T.C_Table)) (G_w_quick_right : FnOk P w K mg base CX0 4 T.f_w_quick_right T.fd_w_quick_right ["_law_wrong_here", "_law_limit_here", "_law_quick"] (spQuickRight T.C_Table))
    (G_w_entries : FnOk P w K mg base CX0 3 T.f_w_entries T.fd_w_entries ["_law_box_here", "_law_limit_here"] spEntries) (G_w_filled : FnOk P w K mg base CX0 3 T.f_w_filled T.fd_w_filled ["_law_box_here", "_law_limit_here", "_law_ends"] spFilled)
    (G_w_compared : FnOk P w K mg base CX0 6 T.f_w_compared T.fd_w_compared ["_law_limit_here", "_law_ends", "_law_wrong_here", "_law_quick"] (spCompared T.C_Table)) (G_w_right : FnOk P w K mg base CX0 1 T.f_w_right T.fd_w_right ["_law_ends", "_law_wrong_here"] spRight)
    (G_w_refused : FnOk P w K mg base CX0 7 T.f_w_refused T.fd_w_refused ["_law_box_here", "_law_wrong_here", "_law_limit_here"] spRefused) (G_w_race_right : FnOk P w K mg base CX0 6 T.f_w_race_right T.fd_w_race_right ["_law_wrong_here"] spRaceRight)
    (G_Table___eq : FnOk P w K mg base CX0 1 T.f_Table___eq T.fd_Table___eq ["self", "other"] (spEq T.C_Table)) :
    FnOk P w K mg base CX0 8 T.f_law T.fd_law ["_law_script"] (spLaw K) := by
  refine T.F_law.ok sc_law (fun vs H Q E h => ?_) (fun cdv A outer s H vs Q E hr h => ?_)
  · obtain ⟨p, ns, rfl, _⟩ := h; rfl
  · obtain ⟨p, ns, rfl, hp, hn, qq⟩ := h
    have oc := T.oc_Table
    refine ⟨_, (pss_cons (ps_set (i := 1) sc_law.nd rfl (Or.inl rfl) (pe_call G_w_box (hr.mono (by decide)) rfl T.g_w_box T.F_w_box.kp T.b_w_box .nil pass0 (pa_cons (pv 0) (pa_cons pe_int pa_nil))))
    (pss_cons (ps_set (i := 2) sc_law.nd rfl (Or.inl rfl) (pe_call G_w_wrong (hr.mono (by decide)) rfl T.g_w_wrong T.F_w_wrong.kp T.b_w_wrong .nil pass0 (pa_cons (pv 1) pa_nil)))
    (pss_cons (ps_set (i := 3) sc_law.nd rfl (Or.inl rfl) (pe_call G_w_limit (hr.mono (by decide)) rfl T.g_w_limit T.F_w_limit.kp T.b_w_limit .nil pass0 (pa_cons (pv 1) pa_nil)))
    (pss_cons (ps_set (i := 4) sc_law.nd rfl (Or.inl rfl) (pe_call G_quickest (hr.mono (by decide)) rfl T.g_quickest T.F_quickest.kp T.b_quickest .nil pass0 (pa_cons (pv 2) (pa_cons (pv 3) pa_nil))))
    (pss_cons (ps_if (pt_not (pt_val (pe_call G_w_quick_right (hr.mono (by decide)) rfl T.g_w_quick_right T.F_w_quick_right.kp T.b_w_quick_right .nil pass0 (pa_cons (pv 2) (pa_cons (pv 3) (pa_cons (pv 4) pa_nil))))))
    (pss_one (ps_ret pe_bl))
    pss_nil)
    (pss_cons (ps_set (i := 5) sc_law.nd rfl (Or.inl rfl) (pe_call G_w_filled (hr.mono (by decide)) rfl T.g_w_filled T.F_w_filled.kp T.b_w_filled .nil pass0 (pa_cons (pv 1) (pa_cons (pv 3) (pa_cons (pe_call G_w_entries (hr.mono (by decide)) rfl T.g_w_entries T.F_w_entries.kp T.b_w_entries .nil pass0 (pa_cons (pv 1) (pa_cons (pv 3) pa_nil))) pa_nil)))))
    (pss_cons (ps_if (pt_not (pt_val (pe_call G_w_compared (hr.mono (by decide)) rfl T.g_w_compared T.F_w_compared.kp T.b_w_compared .nil pass0 (pa_cons (pv 3) (pa_cons (pv 5) (pa_cons (pv 2) (pa_cons (pv 4) pa_nil)))))))
    (pss_one (ps_ret pe_bl))
    pss_nil)
    (pss_cons (ps_if (pt_not (pt_val (pe_call G_w_compared (hr.mono (by decide)) rfl T.g_w_compared T.F_w_compared.kp T.b_w_compared .nil pass0 (pa_cons (pv 3) (pa_cons (pe_call G_w_right (hr.mono (by decide)) rfl T.g_w_right T.F_w_right.kp T.b_w_right .nil pass0 (pa_cons (pv 5) (pa_cons (pv 2) pa_nil))) (pa_cons (pv 2) (pa_cons (pv 4) pa_nil)))))))
    (pss_one (ps_ret pe_bl))
    pss_nil)
    (pss_cons (ps_if (pt_not (pt_val (pe_call G_w_refused (hr.mono (by decide)) rfl T.g_w_refused T.F_w_refused.kp T.b_w_refused .nil pass0 (pa_cons (pe_call G_w_box (hr.mono (by decide)) rfl T.g_w_box T.F_w_box.kp T.b_w_box .nil pass0 (pa_cons (pv 0) (pa_cons pe_int pa_nil))) (pa_cons (pv 2) (pa_cons (pv 3) pa_nil))))))
    (pss_one (ps_ret pe_bl))
    pss_nil)
    (pss_cons (ps_if (pt_not (pt_val (pe_call G_w_race_right (hr.mono (by decide)) rfl T.g_w_race_right T.F_w_race_right.kp T.b_w_race_right .nil pass0 (pa_cons (pe_callB (call_min2 rfl) (by rfl) T.m_min (by decide +kernel) (pa_cons (pv 2) (pa_cons pe_int pa_nil))) pa_nil))))
    (pss_one (ps_ret pe_bl))
    pss_nil)
    (pss_cons (ps_set (i := 6) sc_law.nd rfl (Or.inl rfl) (pe_op op_add (pv 2) (pe_op op_pow pe_int pe_int)))
    (pss_cons (ps_if (pt_not (pt_val (pe_call G_w_quick_right (hr.mono (by decide)) rfl T.g_w_quick_right T.F_w_quick_right.kp T.b_w_quick_right .nil pass0 (pa_cons (pv 6) (pa_cons (pv 3) (pa_cons (pe_call G_quickest (hr.mono (by decide)) rfl T.g_quickest T.F_quickest.kp T.b_quickest .nil pass0 (pa_cons (pv 6) (pa_cons (pv 3) pa_nil))) pa_nil))))))
    (pss_one (ps_ret pe_bl))
    pss_nil)
    (pss_one (ps_ret (pe_and (pe_call G_w_quick_right (hr.mono (by decide)) rfl T.g_w_quick_right T.F_w_quick_right.kp T.b_w_quick_right .nil pass0 (pa_cons (pv 2) (pa_cons (pv 3) (pa_cons (pv 4) pa_nil)))) (pe_one (pe_cmpR (Ow.op_ownEq T.me_Table___eq (G_Table___eq.raw T.b_Table___eq .nil) (hr.mono (by decide)) pass0 hr.units0) (pv 4) (pe_call G_quickest (hr.mono (by decide)) rfl T.g_quickest T.F_quickest.kp T.b_quickest .nil pass0 (pa_cons (pv 2) (pa_cons (pv 3) pa_nil))) (nomark _)))))))))))))))))), ?_⟩
    walk_at "start"
    walk_at "sts"
    refine ⟨p, ns, 0, rfl, hp, hn, by omega, fun a H1 k1 na b1 => ?_⟩
    walk_at "sts"
    refine ⟨a, rfl, b1, fun wr H2 w0 w60 k2 b2 => ?_⟩
    walk_at "sts"
    refine ⟨a, rfl, b2, fun L H3 L1 L12 k3 b3 => ?_⟩
    walk_at "sts"
    refine ⟨wr, L, rfl, w0, L1, L12, fun x mq H4 k4 tx qm => ?_⟩
    have b4 := b3.keep0 k4
    obtain ⟨dx, dmx, ex, emx⟩ := id tx
    have k14 := k2.trans (k3.trans (k4.mono (by simp)))
    have kH4 : Keep [] H H4 := k1.dropNew k14 na
    clear k1 k2 k3 k4 k14 b1 b2 b3
    walk_at "sts"
    refine ⟨x, wr, L, mq, rfl, tx, qm, w0, L1, L12, fun H5 k5 => ?_⟩
    have b5 := b4.keep0 k5
    walk_at "sts"
    refine ⟨a, L, rfl, b5, L1, L12, fun D1 m1 H6 k6 b6 nD1 e1 pm1 lm1 => ?_⟩
    walk_at "sts"
    refine ⟨a, L, D1, m1, rfl, b6, e1, pm1, lm1, L1, L12, fun D m H7 k7 b7 nD e va => ?_⟩
    have k47 := (k5.mono (by simp)).trans (k6.trans k7)
    have nxa : x ≠ a := by rintro rfl; obtain ⟨_, _, _, z, _⟩ := b4; cases (z.symm.trans ex)
    have nma : dmx ≠ a := b4.ned emx
    have tx7 : TableAt T.C_Table H7 x L mq := ⟨dx, dmx, k47 _ _ (by simpa using nxa) ex, k47 _ _ (by simpa using nma) emx⟩
    have kH7 : Keep [] H H7 := by
      have naH : ∀ b o, H b = some o → b ≠ a := fun b o h z => by subst z; cases (na.symm.trans h)
      exact fun b o _ h => k47 b o (by simpa using naH b o h) (kH4 b o (by simp) h)
    clear k47 nxa nma b4 b5 b6 b7 e1 pm1 lm1 nD1 ex emx tx k5 k6 k7 nD
    walk_at "sts"
    refine ⟨D, x, wr, L, m, mq, rfl, e, va, tx7, qm, w0, fun H8 k8 => ?_⟩
    have tx8 := tx7.keep0 k8
    have e8 : EndsAt H8 D m := k8 _ _ (by simp) e
    have kH8 := kH7.trans k8
    clear tx7 e kH7 k8
    walk_at "sts"
    refine ⟨D, wr, L, m, rfl, e8, va, fun D2 m2 H9 k9 nD2 e2 hk2 hw2 => ?_⟩
    have tx9 := tx8.keep0 k9
    have kH9 := kH8.trans k9
    walk_at "sts"
    refine ⟨D2, x, wr, L, m2, mq, rfl, e2, va.words hk2 hw2, tx9, qm, w0, fun H10 k10 => ?_⟩
    have tx10 := tx9.keep0 k10
    have kH10 := kH9.trans k10
    clear tx8 e8 kH8 kH9 tx9 k9 k10 e2 nD2
    walk_at "sts"
    refine ⟨p, ns, 1, rfl, Keep.l kH10 (by simp) hp, hn, by omega, fun a2 H11 k11 na2 b11 => ?_⟩
    walk_at "sts"
    refine ⟨a2, wr, L, rfl, b11, w0, ?_, L1, L12, fun H12 k12 => ?_⟩
    · have : (2 : Nat) ^ 1000 > 61 := by decide +kernel
      generalize (2 : Nat) ^ 1000 = big at *
      omega
    have k1012 : Keep [] H10 H12 := k11.dropNew k12 na2
    have tx12 := tx10.keep0 k1012
    clear k1012 k11 k12 tx10 b11 na2 kH10
    walk_at "sts"
    obtain ⟨wn, hwn⟩ : ∃ wn : Nat, (if (5 : Int) < wr then 5 else wr) = (wn : Int) := ⟨(if (5 : Int) < wr then 5 else wr).toNat, by split <;> omega⟩
    have wn5 : wn ≤ 5 := by split at hwn <;> omega
    rw [hwn]
    refine ⟨wn, rfl, wn5, fun H13 k13 => ?_⟩
    have tx13 := tx12.keep0 k13
    walk_at "sts"
    generalize hfar : wr + 100000000000000000000000000000 = far
    have far0 : 0 ≤ far := by omega
    refine ⟨far, L, rfl, far0, L1, L12, fun z mz H14 k14 tz qz => ?_⟩
    have tx14 := tx13.keep0 k14
    walk_at "sts"
    refine ⟨z, far, L, mz, rfl, tz, qz, far0, L1, L12, fun H15 k15 => ?_⟩
    have tx15 := tx14.keep0 k15
    walk_at "sts"
    refine ⟨x, wr, L, mq, rfl, tx15, qm, w0, L1, L12, fun H16 k16 => ?_⟩
    have tx16 := tx15.keep0 k16
    walk_at "sts"
    refine ⟨wr, L, rfl, w0, L1, L12, fun y my H17 k17 ty qy => ?_⟩
    have tx17 := tx16.keep0 k17
    obtain ⟨dx, dmx, ex, _⟩ := id tx17
    obtain ⟨dy, dmy, ey, _⟩ := id ty
    walk_at "sts"
    refine Ow.r_own2 ex ey ⟨x, y, _, _, mq, my, rfl, tx17, ty, ?_⟩
    rw [qm.sameB qy]
    rw [show (decide (L = L) && true) = true by simp]
    walk_at "sts"
    exact qq H17
end
/-! ### the end -/
theorem law_of {w : World} {K : PySem.W.Frag} {mg : Str → Option Value} {base : Heap} (T : Tx K mg) : FnOk PG w K mg base CX0 8 T.f_law T.fd_law ["_law_script"] (spLaw K) := by
  have gcm := ok_counts (w := w) (base := base) (P := PG) T
  have grf := ok_refuted (w := w) (base := base) (P := PG) T
  have gtr := ok_tries (w := w) (base := base) (P := PG) T
  have gin := ok_init T gcm
  have gen := ok_ends (w := w) (base := base) (P := PG) T
  have gst := ok_stops T gcm
  have gso := ok_sound T gcm gst grf gtr
  have glo := ok_longest T gst
  have gsf := ok_softened T gst gen grf gin
  have gwa := ok_word_after (w := w) (base := base) (P := PG) T
  have geq := ok_eq (w := w) (base := base) (P := PG) T
  have gqu := ok_quickest T gin
  have gra := ok_race T gin
  have gqx := ok_quickestX T gin
  have grx := ok_raceX T gin
  have gt := ok_take (w := w) (base := base) (P := PG) T
  have gii := ok_isInt (w := w) (base := base) (P := PG) T
  have gwo := ok_word T gt
  have gco := ok_copy (w := w) (base := base) (P := PG) T
  have gfa := ok_false (w := w) (base := base) (P := PG) T
  have gls := ok_stops2 (w := w) (base := base) (P := PG) T
  have glr := ok_law_race T (ok_race_word (w := w) (base := base) (P := PG) T)
  have gdr := ok_dict_right T gii
  have gis := ok_is T gii gdr gen
  have gsp := ok_speaks T gwa
  have gqr := ok_quick_right T glr gis gsp gso gst
  have grr := ok_race_right T gra gqr gso glo gsf geq gqu
  have gnq := ok_none_quicker T (ok_longer T gwa)
  have gcp := ok_compared T gls gco gin gfa gso gnq gsf gis (ok_soft T gfa)
  have gre := ok_refused T gt (ok_refusal T grx gqx)
  exact ok_law T (ok_box (w := w) (base := base) (P := PG) T) (ok_wrong T gt) (ok_limit T gt) gqu gqr (ok_entries T gt gwo) (ok_filled T gco (ok_last (w := w) (base := base) (P := PG) T) gwo) gcp (ok_right (w := w) (base := base) (P := PG) T) gre grr geq
theorem all_mk {w : World} {K : PySem.W.Frag} {h : Heap} {mg : Str → Option Value} {fa : Addr} (X : K.In h) (G : h.Ns mainGlobals mg) (hfa : mg "law" = some (.ref fa))
    {C_Table : Addr} {f0 : Addr} {od0 an0 : Option Addr} {sl0 : Array (Option Value)} {oc0 kV0 dc0 pm0 cd0 ct0 : Value} {f1 : Addr} {od1 an1 : Option Addr} {sl1 : Array (Option Value)} {oc1 kV1 dc1 pm1 cd1 ct1 : Value} {f2 : Addr} {od2 an2 : Option Addr} {sl2 : Array (Option Value)} {oc2 kV2 dc2 pm2 cd2 ct2 : Value} {f3 : Addr} {od3 an3 : Option Addr} {sl3 : Array (Option Value)} {oc3 kV3 dc3 pm3 cd3 ct3 : Value} {f4 : Addr} {od4 an4 : Option Addr} {sl4 : Array (Option Value)} {oc4 kV4 dc4 pm4 cd4 ct4 : Value} {ps4 : Addr} {rs4 : List Value} {f5 : Addr} {od5 an5 : Option Addr} {sl5 : Array (Option Value)} {oc5 kV5 dc5 pm5 cd5 ct5 : Value} {f6 : Addr} {od6 an6 : Option Addr} {sl6 : Array (Option Value)} {oc6 kV6 dc6 pm6 cd6 ct6 : Value} {f7 : Addr} {od7 an7 : Option Addr} {sl7 : Array (Option Value)} {oc7 kV7 dc7 pm7 cd7 ct7 : Value} {f8 : Addr} {od8 an8 : Option Addr} {sl8 : Array (Option Value)} {oc8 kV8 dc8 pm8 cd8 ct8 : Value} {f9 : Addr} {od9 an9 : Option Addr} {sl9 : Array (Option Value)} {oc9 kV9 dc9 pm9 cd9 ct9 : Value} {f10 : Addr} {od10 an10 : Option Addr} {sl10 : Array (Option Value)} {oc10 kV10 dc10 pm10 cd10 ct10 : Value} {f11 : Addr} {od11 an11 : Option Addr} {sl11 : Array (Option Value)} {oc11 kV11 dc11 pm11 cd11 ct11 : Value} {f12 : Addr} {od12 an12 : Option Addr} {sl12 : Array (Option Value)} {oc12 kV12 dc12 pm12 cd12 ct12 : Value} {f13 : Addr} {od13 an13 : Option Addr} {sl13 : Array (Option Value)} {oc13 kV13 dc13 pm13 cd13 ct13 : Value} {f14 : Addr} {od14 an14 : Option Addr} {sl14 : Array (Option Value)} {oc14 kV14 dc14 pm14 cd14 ct14 : Value} {f15 : Addr} {od15 an15 : Option Addr} {sl15 : Array (Option Value)} {oc15 kV15 dc15 pm15 cd15 ct15 : Value} {f16 : Addr} {od16 an16 : Option Addr} {sl16 : Array (Option Value)} {oc16 kV16 dc16 pm16 cd16 ct16 : Value} {f17 : Addr} {od17 an17 : Option Addr} {sl17 : Array (Option Value)} {oc17 kV17 dc17 pm17 cd17 ct17 : Value} {f18 : Addr} {od18 an18 : Option Addr} {sl18 : Array (Option Value)} {oc18 kV18 dc18 pm18 cd18 ct18 : Value} {f19 : Addr} {od19 an19 : Option Addr} {sl19 : Array (Option Value)} {oc19 kV19 dc19 pm19 cd19 ct19 : Value} {f20 : Addr} {od20 an20 : Option Addr} {sl20 : Array (Option Value)} {oc20 kV20 dc20 pm20 cd20 ct20 : Value} {f21 : Addr} {od21 an21 : Option Addr} {sl21 : Array (Option Value)} {oc21 kV21 dc21 pm21 cd21 ct21 : Value} {f22 : Addr} {od22 an22 : Option Addr} {sl22 : Array (Option Value)} {oc22 kV22 dc22 pm22 cd22 ct22 : Value} {f23 : Addr} {od23 an23 : Option Addr} {sl23 : Array (Option Value)} {oc23 kV23 dc23 pm23 cd23 ct23 : Value} {f24 : Addr} {od24 an24 : Option Addr} {sl24 : Array (Option Value)} {oc24 kV24 dc24 pm24 cd24 ct24 : Value} {f25 : Addr} {od25 an25 : Option Addr} {sl25 : Array (Option Value)} {oc25 kV25 dc25 pm25 cd25 ct25 : Value} {f26 : Addr} {od26 an26 : Option Addr} {sl26 : Array (Option Value)} {oc26 kV26 dc26 pm26 cd26 ct26 : Value} {f27 : Addr} {od27 an27 : Option Addr} {sl27 : Array (Option Value)} {oc27 kV27 dc27 pm27 cd27 ct27 : Value} {f28 : Addr} {od28 an28 : Option Addr} {sl28 : Array (Option Value)} {oc28 kV28 dc28 pm28 cd28 ct28 : Value} {f29 : Addr} {od29 an29 : Option Addr} {sl29 : Array (Option Value)} {oc29 kV29 dc29 pm29 cd29 ct29 : Value} {f30 : Addr} {od30 an30 : Option Addr} {sl30 : Array (Option Value)} {oc30 kV30 dc30 pm30 cd30 ct30 : Value} {f31 : Addr} {od31 an31 : Option Addr} {sl31 : Array (Option Value)} {oc31 kV31 dc31 pm31 cd31 ct31 : Value} {f32 : Addr} {od32 an32 : Option Addr} {sl32 : Array (Option Value)} {oc32 kV32 dc32 pm32 cd32 ct32 : Value} {f33 : Addr} {od33 an33 : Option Addr} {sl33 : Array (Option Value)} {oc33 kV33 dc33 pm33 cd33 ct33 : Value} {f34 : Addr} {od34 an34 : Option Addr} {sl34 : Array (Option Value)} {oc34 kV34 dc34 pm34 cd34 ct34 : Value} {f35 : Addr} {od35 an35 : Option Addr} {sl35 : Array (Option Value)} {oc35 kV35 dc35 pm35 cd35 ct35 : Value} {f36 : Addr} {od36 an36 : Option Addr} {sl36 : Array (Option Value)} {oc36 kV36 dc36 pm36 cd36 ct36 : Value} {f37 : Addr} {od37 an37 : Option Addr} {sl37 : Array (Option Value)} {oc37 kV37 dc37 pm37 cd37 ct37 : Value} {f38 : Addr} {od38 an38 : Option Addr} {sl38 : Array (Option Value)} {oc38 kV38 dc38 pm38 cd38 ct38 : Value} {f39 : Addr} {od39 an39 : Option Addr} {sl39 : Array (Option Value)} {oc39 kV39 dc39 pm39 cd39 ct39 : Value} {tc13 : Tok} {tc14 : Tok} {at15 : Addr} {oat15 : Option Addr} {nat15 : Nat} {sat15 : Array (Option Value)} {tt15_0 : Tok} {tt15_1 : Tok} {tt15_2 : Tok} {C_BadNumber : Addr} {C_BadTable : Addr} {C_MeteError : Addr} {fE0 NE0 ccE0 cdaE0 : Addr} {nmE0 qE0 : Str} {bsE0 bmE0 : List Value} {snE0 : List Str} {subE0 : List Value} {abE0 : Bool} {colE0 : Option Bool} {ddE0 : Option Addr} {m0E0 m1E0 m2E0 m3E0 m5E0 : Option Value} {ocE0 docE0 pmE0 ctE0 clE0 cclE0 : Value} {odE0 anE0 cldE0 cddE0 : Option Addr} {oslE0 cslE0 ccsE0 : Array (Option Value)} {vsE0 : Array Value} {tfE0 : Tok} {fE1 NE1 ccE1 cdaE1 : Addr} {nmE1 qE1 : Str} {bsE1 bmE1 : List Value} {snE1 : List Str} {subE1 : List Value} {abE1 : Bool} {colE1 : Option Bool} {ddE1 : Option Addr} {m0E1 m1E1 m2E1 m3E1 m5E1 : Option Value} {ocE1 docE1 pmE1 ctE1 clE1 cclE1 : Value} {odE1 anE1 cldE1 cddE1 : Option Addr} {oslE1 cslE1 ccsE1 : Array (Option Value)} {vsE1 : Array Value} {tfE1 : Tok}
    (o0g : PySem.W.nsIn K mainGlobals "Table" = some (some (.ref C_Table)))
    (a0 : PySem.W.nsIn K mainGlobals "counts_met" = some (some (.ref f0)))
    (l0 : K.lookup f0 = some ⟨oc0, od0, .func (PySem.W.fnOf "counts_met" "counts_met" (defArgs s_counts_met) (defBody s_counts_met) (defScope s_counts_met) .none kV0 dc0 pm0 an0 cd0 ct0), sl0⟩)
    (c0 : PySem.W.codeIn K cd0 "counts_met" = true)
    (k0 : PySem.W.keepIn K (.ref f0) = true)
    (a1 : PySem.W.nsIn K mainGlobals "tries_to" = some (some (.ref f1)))
    (l1 : K.lookup f1 = some ⟨oc1, od1, .func (PySem.W.fnOf "tries_to" "tries_to" (defArgs s_tries_to) (defBody s_tries_to) (defScope s_tries_to) .none kV1 dc1 pm1 an1 cd1 ct1), sl1⟩)
    (c1 : PySem.W.codeIn K cd1 "tries_to" = true)
    (k1 : PySem.W.keepIn K (.ref f1) = true)
    (a2 : PySem.W.nsIn K mainGlobals "refuted" = some (some (.ref f2)))
    (l2 : K.lookup f2 = some ⟨oc2, od2, .func (PySem.W.fnOf "refuted" "refuted" (defArgs s_refuted) (defBody s_refuted) (defScope s_refuted) .none kV2 dc2 pm2 an2 cd2 ct2), sl2⟩)
    (c2 : PySem.W.codeIn K cd2 "refuted" = true)
    (k2 : PySem.W.keepIn K (.ref f2) = true)
    (a3 : PySem.W.findIn K (.ref C_Table) "__init__" = some (some (.ref f3)))
    (l3 : K.lookup f3 = some ⟨oc3, od3, .func (PySem.W.fnOf "__init__" "Table.__init__" (defArgs s_Table___init) (defBody s_Table___init) (defScope s_Table___init) .none kV3 dc3 pm3 an3 cd3 ct3), sl3⟩)
    (c3 : PySem.W.codeIn K cd3 "Table.__init__" = true)
    (k3 : PySem.W.keepIn K (.ref f3) = true)
    (a4 : PySem.W.findCls K (.ref C_Table) (.type "type") "race" = some (.get (.builtin "classmethod.__get__") (.ref ps4) .none (.ref C_Table)))
    (as4 : PySem.W.recIn K ps4 "classmethod" = some (.ref f4 :: rs4))
    (l4 : K.lookup f4 = some ⟨oc4, od4, .func (PySem.W.fnOf "race" "Table.race" (defArgs s_Table_race) (defBody s_Table_race) (defScope s_Table_race) .none kV4 dc4 pm4 an4 cd4 ct4), sl4⟩)
    (c4 : PySem.W.codeIn K cd4 "Table.race" = true)
    (k4 : PySem.W.keepIn K (.ref f4) = true)
    (a5 : PySem.W.findIn K (.ref C_Table) "ends" = some (some (.ref f5)))
    (l5 : K.lookup f5 = some ⟨oc5, od5, .func (PySem.W.fnOf "ends" "Table.ends" (defArgs s_Table_ends) (defBody s_Table_ends) (defScope s_Table_ends) .none kV5 dc5 pm5 an5 cd5 ct5), sl5⟩)
    (c5 : PySem.W.codeIn K cd5 "Table.ends" = true)
    (k5 : PySem.W.keepIn K (.ref f5) = true)
    (a6 : PySem.W.findIn K (.ref C_Table) "word_after" = some (some (.ref f6)))
    (l6 : K.lookup f6 = some ⟨oc6, od6, .func (PySem.W.fnOf "word_after" "Table.word_after" (defArgs s_Table_word_after) (defBody s_Table_word_after) (defScope s_Table_word_after) .none kV6 dc6 pm6 an6 cd6 ct6), sl6⟩)
    (c6 : PySem.W.codeIn K cd6 "Table.word_after" = true)
    (k6 : PySem.W.keepIn K (.ref f6) = true)
    (a7 : PySem.W.findIn K (.ref C_Table) "stops" = some (some (.ref f7)))
    (l7 : K.lookup f7 = some ⟨oc7, od7, .func (PySem.W.fnOf "stops" "Table.stops" (defArgs s_Table_stops) (defBody s_Table_stops) (defScope s_Table_stops) .none kV7 dc7 pm7 an7 cd7 ct7), sl7⟩)
    (c7 : PySem.W.codeIn K cd7 "Table.stops" = true)
    (k7 : PySem.W.keepIn K (.ref f7) = true)
    (a8 : PySem.W.findIn K (.ref C_Table) "sound" = some (some (.ref f8)))
    (l8 : K.lookup f8 = some ⟨oc8, od8, .func (PySem.W.fnOf "sound" "Table.sound" (defArgs s_Table_sound) (defBody s_Table_sound) (defScope s_Table_sound) .none kV8 dc8 pm8 an8 cd8 ct8), sl8⟩)
    (c8 : PySem.W.codeIn K cd8 "Table.sound" = true)
    (k8 : PySem.W.keepIn K (.ref f8) = true)
    (a9 : PySem.W.findIn K (.ref C_Table) "longest" = some (some (.ref f9)))
    (l9 : K.lookup f9 = some ⟨oc9, od9, .func (PySem.W.fnOf "longest" "Table.longest" (defArgs s_Table_longest) (defBody s_Table_longest) (defScope s_Table_longest) .none kV9 dc9 pm9 an9 cd9 ct9), sl9⟩)
    (c9 : PySem.W.codeIn K cd9 "Table.longest" = true)
    (k9 : PySem.W.keepIn K (.ref f9) = true)
    (a10 : PySem.W.findIn K (.ref C_Table) "softened" = some (some (.ref f10)))
    (l10 : K.lookup f10 = some ⟨oc10, od10, .func (PySem.W.fnOf "softened" "Table.softened" (defArgs s_Table_softened) (defBody s_Table_softened) (defScope s_Table_softened) .none kV10 dc10 pm10 an10 cd10 ct10), sl10⟩)
    (c10 : PySem.W.codeIn K cd10 "Table.softened" = true)
    (k10 : PySem.W.keepIn K (.ref f10) = true)
    (a11 : PySem.W.findIn K (.ref C_Table) "__eq__" = some (some (.ref f11)))
    (l11 : K.lookup f11 = some ⟨oc11, od11, .func (PySem.W.fnOf "__eq__" "Table.__eq__" (defArgs s_Table___eq) (defBody s_Table___eq) (defScope s_Table___eq) .none kV11 dc11 pm11 an11 cd11 ct11), sl11⟩)
    (c11 : PySem.W.codeIn K cd11 "Table.__eq__" = true)
    (k11 : PySem.W.keepIn K (.ref f11) = true)
    (a12 : PySem.W.nsIn K mainGlobals "quickest" = some (some (.ref f12)))
    (l12 : K.lookup f12 = some ⟨oc12, od12, .func (PySem.W.fnOf "quickest" "quickest" (defArgs s_quickest) (defBody s_quickest) (defScope s_quickest) .none kV12 dc12 pm12 an12 cd12 ct12), sl12⟩)
    (c12 : PySem.W.codeIn K cd12 "quickest" = true)
    (k12 : PySem.W.keepIn K (.ref f12) = true)
    (a13 : PySem.W.nsIn K mainGlobals "_law_box" = some (some (.ref f13)))
    (l13 : K.lookup f13 = some ⟨oc13, od13, .func (PySem.W.fnOf "_law_box" "_law_box" (defArgs s_w_box) (defBody s_w_box) (defScope s_w_box) .none kV13 dc13 pm13 an13 cd13 ct13), sl13⟩)
    (c13 : PySem.W.codeIn K cd13 "_law_box" = true)
    (k13 : PySem.W.keepIn K (.ref f13) = true)
    (a14 : PySem.W.nsIn K mainGlobals "_law_take" = some (some (.ref f14)))
    (l14 : K.lookup f14 = some ⟨oc14, od14, .func (PySem.W.fnOf "_law_take" "_law_take" (defArgs s_w_take) (defBody s_w_take) (defScope s_w_take) .none kV14 dc14 pm14 an14 cd14 ct14), sl14⟩)
    (c14 : PySem.W.codeIn K cd14 "_law_take" = true)
    (k14 : PySem.W.keepIn K (.ref f14) = true)
    (a15 : PySem.W.nsIn K mainGlobals "_law_is_integer" = some (some (.ref f15)))
    (l15 : K.lookup f15 = some ⟨oc15, od15, .func (PySem.W.fnOf "_law_is_integer" "_law_is_integer" (defArgs s_w_is_integer) (defBody s_w_is_integer) (defScope s_w_is_integer) .none kV15 dc15 pm15 an15 cd15 ct15), sl15⟩)
    (c15 : PySem.W.codeIn K cd15 "_law_is_integer" = true)
    (k15 : PySem.W.keepIn K (.ref f15) = true)
    (a16 : PySem.W.nsIn K mainGlobals "_law_copy" = some (some (.ref f16)))
    (l16 : K.lookup f16 = some ⟨oc16, od16, .func (PySem.W.fnOf "_law_copy" "_law_copy" (defArgs s_w_copy) (defBody s_w_copy) (defScope s_w_copy) .none kV16 dc16 pm16 an16 cd16 ct16), sl16⟩)
    (c16 : PySem.W.codeIn K cd16 "_law_copy" = true)
    (k16 : PySem.W.keepIn K (.ref f16) = true)
    (a17 : PySem.W.nsIn K mainGlobals "_law_limit" = some (some (.ref f17)))
    (l17 : K.lookup f17 = some ⟨oc17, od17, .func (PySem.W.fnOf "_law_limit" "_law_limit" (defArgs s_w_limit) (defBody s_w_limit) (defScope s_w_limit) .none kV17 dc17 pm17 an17 cd17 ct17), sl17⟩)
    (c17 : PySem.W.codeIn K cd17 "_law_limit" = true)
    (k17 : PySem.W.keepIn K (.ref f17) = true)
    (a18 : PySem.W.nsIn K mainGlobals "_law_word" = some (some (.ref f18)))
    (l18 : K.lookup f18 = some ⟨oc18, od18, .func (PySem.W.fnOf "_law_word" "_law_word" (defArgs s_w_word) (defBody s_w_word) (defScope s_w_word) .none kV18 dc18 pm18 an18 cd18 ct18), sl18⟩)
    (c18 : PySem.W.codeIn K cd18 "_law_word" = true)
    (k18 : PySem.W.keepIn K (.ref f18) = true)
    (a19 : PySem.W.nsIn K mainGlobals "_law_entries" = some (some (.ref f19)))
    (l19 : K.lookup f19 = some ⟨oc19, od19, .func (PySem.W.fnOf "_law_entries" "_law_entries" (defArgs s_w_entries) (defBody s_w_entries) (defScope s_w_entries) .none kV19 dc19 pm19 an19 cd19 ct19), sl19⟩)
    (c19 : PySem.W.codeIn K cd19 "_law_entries" = true)
    (k19 : PySem.W.keepIn K (.ref f19) = true)
    (a20 : PySem.W.nsIn K mainGlobals "_law_last" = some (some (.ref f20)))
    (l20 : K.lookup f20 = some ⟨oc20, od20, .func (PySem.W.fnOf "_law_last" "_law_last" (defArgs s_w_last) (defBody s_w_last) (defScope s_w_last) .none kV20 dc20 pm20 an20 cd20 ct20), sl20⟩)
    (c20 : PySem.W.codeIn K cd20 "_law_last" = true)
    (k20 : PySem.W.keepIn K (.ref f20) = true)
    (a21 : PySem.W.nsIn K mainGlobals "_law_filled" = some (some (.ref f21)))
    (l21 : K.lookup f21 = some ⟨oc21, od21, .func (PySem.W.fnOf "_law_filled" "_law_filled" (defArgs s_w_filled) (defBody s_w_filled) (defScope s_w_filled) .none kV21 dc21 pm21 an21 cd21 ct21), sl21⟩)
    (c21 : PySem.W.codeIn K cd21 "_law_filled" = true)
    (k21 : PySem.W.keepIn K (.ref f21) = true)
    (a22 : PySem.W.nsIn K mainGlobals "_law_right" = some (some (.ref f22)))
    (l22 : K.lookup f22 = some ⟨oc22, od22, .func (PySem.W.fnOf "_law_right" "_law_right" (defArgs s_w_right) (defBody s_w_right) (defScope s_w_right) .none kV22 dc22 pm22 an22 cd22 ct22), sl22⟩)
    (c22 : PySem.W.codeIn K cd22 "_law_right" = true)
    (k22 : PySem.W.keepIn K (.ref f22) = true)
    (a23 : PySem.W.nsIn K mainGlobals "_law_stops" = some (some (.ref f23)))
    (l23 : K.lookup f23 = some ⟨oc23, od23, .func (PySem.W.fnOf "_law_stops" "_law_stops" (defArgs s_w_stops) (defBody s_w_stops) (defScope s_w_stops) .none kV23 dc23 pm23 an23 cd23 ct23), sl23⟩)
    (c23 : PySem.W.codeIn K cd23 "_law_stops" = true)
    (k23 : PySem.W.keepIn K (.ref f23) = true)
    (a24 : PySem.W.nsIn K mainGlobals "_law_false" = some (some (.ref f24)))
    (l24 : K.lookup f24 = some ⟨oc24, od24, .func (PySem.W.fnOf "_law_false" "_law_false" (defArgs s_w_false) (defBody s_w_false) (defScope s_w_false) .none kV24 dc24 pm24 an24 cd24 ct24), sl24⟩)
    (c24 : PySem.W.codeIn K cd24 "_law_false" = true)
    (k24 : PySem.W.keepIn K (.ref f24) = true)
    (a25 : PySem.W.nsIn K mainGlobals "_law_soft" = some (some (.ref f25)))
    (l25 : K.lookup f25 = some ⟨oc25, od25, .func (PySem.W.fnOf "_law_soft" "_law_soft" (defArgs s_w_soft) (defBody s_w_soft) (defScope s_w_soft) .none kV25 dc25 pm25 an25 cd25 ct25), sl25⟩)
    (c25 : PySem.W.codeIn K cd25 "_law_soft" = true)
    (k25 : PySem.W.keepIn K (.ref f25) = true)
    (a26 : PySem.W.nsIn K mainGlobals "_law_dict_right" = some (some (.ref f26)))
    (l26 : K.lookup f26 = some ⟨oc26, od26, .func (PySem.W.fnOf "_law_dict_right" "_law_dict_right" (defArgs s_w_dict_right) (defBody s_w_dict_right) (defScope s_w_dict_right) .none kV26 dc26 pm26 an26 cd26 ct26), sl26⟩)
    (c26 : PySem.W.codeIn K cd26 "_law_dict_right" = true)
    (k26 : PySem.W.keepIn K (.ref f26) = true)
    (a27 : PySem.W.nsIn K mainGlobals "_law_is" = some (some (.ref f27)))
    (l27 : K.lookup f27 = some ⟨oc27, od27, .func (PySem.W.fnOf "_law_is" "_law_is" (defArgs s_w_is) (defBody s_w_is) (defScope s_w_is) .none kV27 dc27 pm27 an27 cd27 ct27), sl27⟩)
    (c27 : PySem.W.codeIn K cd27 "_law_is" = true)
    (k27 : PySem.W.keepIn K (.ref f27) = true)
    (a28 : PySem.W.nsIn K mainGlobals "_law_wrong" = some (some (.ref f28)))
    (l28 : K.lookup f28 = some ⟨oc28, od28, .func (PySem.W.fnOf "_law_wrong" "_law_wrong" (defArgs s_w_wrong) (defBody s_w_wrong) (defScope s_w_wrong) .none kV28 dc28 pm28 an28 cd28 ct28), sl28⟩)
    (c28 : PySem.W.codeIn K cd28 "_law_wrong" = true)
    (k28 : PySem.W.keepIn K (.ref f28) = true)
    (a29 : PySem.W.nsIn K mainGlobals "_law_race_word" = some (some (.ref f29)))
    (l29 : K.lookup f29 = some ⟨oc29, od29, .func (PySem.W.fnOf "_law_race_word" "_law_race_word" (defArgs s_w_race_word) (defBody s_w_race_word) (defScope s_w_race_word) .none kV29 dc29 pm29 an29 cd29 ct29), sl29⟩)
    (c29 : PySem.W.codeIn K cd29 "_law_race_word" = true)
    (k29 : PySem.W.keepIn K (.ref f29) = true)
    (a30 : PySem.W.nsIn K mainGlobals "_law_race" = some (some (.ref f30)))
    (l30 : K.lookup f30 = some ⟨oc30, od30, .func (PySem.W.fnOf "_law_race" "_law_race" (defArgs s_w_race) (defBody s_w_race) (defScope s_w_race) .none kV30 dc30 pm30 an30 cd30 ct30), sl30⟩)
    (c30 : PySem.W.codeIn K cd30 "_law_race" = true)
    (k30 : PySem.W.keepIn K (.ref f30) = true)
    (a31 : PySem.W.nsIn K mainGlobals "_law_speaks" = some (some (.ref f31)))
    (l31 : K.lookup f31 = some ⟨oc31, od31, .func (PySem.W.fnOf "_law_speaks" "_law_speaks" (defArgs s_w_speaks) (defBody s_w_speaks) (defScope s_w_speaks) .none kV31 dc31 pm31 an31 cd31 ct31), sl31⟩)
    (c31 : PySem.W.codeIn K cd31 "_law_speaks" = true)
    (k31 : PySem.W.keepIn K (.ref f31) = true)
    (a32 : PySem.W.nsIn K mainGlobals "_law_quick_right" = some (some (.ref f32)))
    (l32 : K.lookup f32 = some ⟨oc32, od32, .func (PySem.W.fnOf "_law_quick_right" "_law_quick_right" (defArgs s_w_quick_right) (defBody s_w_quick_right) (defScope s_w_quick_right) .none kV32 dc32 pm32 an32 cd32 ct32), sl32⟩)
    (c32 : PySem.W.codeIn K cd32 "_law_quick_right" = true)
    (k32 : PySem.W.keepIn K (.ref f32) = true)
    (a33 : PySem.W.nsIn K mainGlobals "_law_race_right" = some (some (.ref f33)))
    (l33 : K.lookup f33 = some ⟨oc33, od33, .func (PySem.W.fnOf "_law_race_right" "_law_race_right" (defArgs s_w_race_right) (defBody s_w_race_right) (defScope s_w_race_right) .none kV33 dc33 pm33 an33 cd33 ct33), sl33⟩)
    (c33 : PySem.W.codeIn K cd33 "_law_race_right" = true)
    (k33 : PySem.W.keepIn K (.ref f33) = true)
    (a34 : PySem.W.nsIn K mainGlobals "_law_longer" = some (some (.ref f34)))
    (l34 : K.lookup f34 = some ⟨oc34, od34, .func (PySem.W.fnOf "_law_longer" "_law_longer" (defArgs s_w_longer) (defBody s_w_longer) (defScope s_w_longer) .none kV34 dc34 pm34 an34 cd34 ct34), sl34⟩)
    (c34 : PySem.W.codeIn K cd34 "_law_longer" = true)
    (k34 : PySem.W.keepIn K (.ref f34) = true)
    (a35 : PySem.W.nsIn K mainGlobals "_law_none_quicker" = some (some (.ref f35)))
    (l35 : K.lookup f35 = some ⟨oc35, od35, .func (PySem.W.fnOf "_law_none_quicker" "_law_none_quicker" (defArgs s_w_none_quicker) (defBody s_w_none_quicker) (defScope s_w_none_quicker) .none kV35 dc35 pm35 an35 cd35 ct35), sl35⟩)
    (c35 : PySem.W.codeIn K cd35 "_law_none_quicker" = true)
    (k35 : PySem.W.keepIn K (.ref f35) = true)
    (a36 : PySem.W.nsIn K mainGlobals "_law_compared" = some (some (.ref f36)))
    (l36 : K.lookup f36 = some ⟨oc36, od36, .func (PySem.W.fnOf "_law_compared" "_law_compared" (defArgs s_w_compared) (defBody s_w_compared) (defScope s_w_compared) .none kV36 dc36 pm36 an36 cd36 ct36), sl36⟩)
    (c36 : PySem.W.codeIn K cd36 "_law_compared" = true)
    (k36 : PySem.W.keepIn K (.ref f36) = true)
    (a37 : PySem.W.nsIn K mainGlobals "_law_refusal" = some (some (.ref f37)))
    (l37 : K.lookup f37 = some ⟨oc37, od37, .func (PySem.W.fnOf "_law_refusal" "_law_refusal" (defArgs s_w_refusal) (defBody s_w_refusal) (defScope s_w_refusal) .none kV37 dc37 pm37 an37 cd37 ct37), sl37⟩)
    (c37 : PySem.W.codeIn K cd37 "_law_refusal" = true)
    (k37 : PySem.W.keepIn K (.ref f37) = true)
    (a38 : PySem.W.nsIn K mainGlobals "_law_refused" = some (some (.ref f38)))
    (l38 : K.lookup f38 = some ⟨oc38, od38, .func (PySem.W.fnOf "_law_refused" "_law_refused" (defArgs s_w_refused) (defBody s_w_refused) (defScope s_w_refused) .none kV38 dc38 pm38 an38 cd38 ct38), sl38⟩)
    (c38 : PySem.W.codeIn K cd38 "_law_refused" = true)
    (k38 : PySem.W.keepIn K (.ref f38) = true)
    (a39 : PySem.W.nsIn K mainGlobals "law" = some (some (.ref f39)))
    (l39 : K.lookup f39 = some ⟨oc39, od39, .func (PySem.W.fnOf "law" "law" (defArgs s_law) (defBody s_law) (defScope s_law) .none kV39 dc39 pm39 an39 cd39 ct39), sl39⟩)
    (c39 : PySem.W.codeIn K cd39 "law" = true)
    (k39 : PySem.W.keepIn K (.ref f39) = true)
    (z0 : PySem.W.nsIn K mainGlobals "len" = some none)
    (z1 : PySem.W.nsIn K mainGlobals "range" = some none)
    (z2 : PySem.W.nsIn K mainGlobals "isinstance" = some none)
    (z3 : PySem.W.nsIn K mainGlobals "int" = some none)
    (z4 : PySem.W.nsIn K mainGlobals "bool" = some none)
    (z5 : PySem.W.nsIn K mainGlobals "list" = some none)
    (z6 : PySem.W.nsIn K mainGlobals "tuple" = some none)
    (z7 : PySem.W.nsIn K mainGlobals "dict" = some none)
    (z8 : PySem.W.nsIn K mainGlobals "max" = some none)
    (z9 : PySem.W.nsIn K mainGlobals "min" = some none)
    (z10 : PySem.W.nsIn K mainGlobals "sum" = some none)
    (z11 : PySem.W.nsIn K mainGlobals "sorted" = some none)
    (z12 : PySem.W.nsIn K mainGlobals "ValueError" = some none)
    (o0a : PySem.W.plainGet K C_Table Str.empty = true)
    (o0b : PySem.W.hasDictIn K C_Table = true)
    (o0c : PySem.W.plainOver K C_Table = true)
    (o0d : PySem.W.findIn K (.ref C_Table) "__setattr__" = some (some (.builtin "object.__setattr__")))
    (o0e : PySem.W.selfFirst K C_Table = true)
    (o0f : PySem.W.findIn K (.ref C_Table) "__class__" = some (some (.builtin "object.__class__")))
    (o0h : PySem.W.specialIn K (.builtin "object.__class__") "__get__" = some (some (.builtin "getset_descriptor.__get__")))
    (o0i : PySem.W.takesIn K (.builtin "object.__class__") = some true)
    (o0j : PySem.W.mroIn K C_Table (.type "object") = some true)
    (o0q : PySem.W.findIn K (.ref C_Table) "__ne__" = some (some (.builtin "object.__ne__")))
    (o0n0 : PySem.W.findIn K (.ref C_Table) "limit" = some none)
    (o0n1 : PySem.W.findIn K (.ref C_Table) "marks" = some none)
    (o0k : PySem.W.makesIn K C_Table = true)
    (o0l : PySem.W.keepIn K (.ref C_Table) = true)
    (fn3 : PySem.W.isFn K (.ref f3) = true)
    (fi4 : PySem.W.fnIn K f4 = true)
    (fn5 : PySem.W.isFn K (.ref f5) = true)
    (fn6 : PySem.W.isFn K (.ref f6) = true)
    (fn7 : PySem.W.isFn K (.ref f7) = true)
    (fn8 : PySem.W.isFn K (.ref f8) = true)
    (fn9 : PySem.W.isFn K (.ref f9) = true)
    (fn10 : PySem.W.isFn K (.ref f10) = true)
    (fn11 : PySem.W.isFn K (.ref f11) = true)
    (o0x : PySem.W.readsIn K C_Table (.type "type") = true)
    (o0y : PySem.W.specialIn K (.ref C_Table) "__getattribute__" = some (some (.builtin "type.__getattribute__")))
    (o0s : PySem.W.subIn K (.ref C_Table) (.type "int") = some false)
    (o0t : PySem.W.subIn K (.type "int") (.ref C_Table) = some false)
    (z13 : PySem.W.nsIn K mainGlobals "MOST_TRIES" = some (some (.int (12) tc13)))
    (z14 : PySem.W.nsIn K mainGlobals "MOST_RACE" = some (some (.int (5) tc14)))
    (z15 : PySem.W.nsIn K mainGlobals "WORDS" = some (some (.ref at15)))
    (y15 : K.lookup at15 = some ⟨.type "tuple", oat15, .seq #[.str "reached" tt15_0, .str "missed" tt15_1, .str "unsure" tt15_2] nat15, sat15⟩)
    (es0 : PySem.W.specialIn K (.builtin "object.__class__") "__get__" = some (some (.builtin "getset_descriptor.__get__")))
    (es1 : PySem.W.takesIn K (.builtin "object.__class__") = some true)
    (es2 : PySem.W.nsIn K cStatics "thirdparty.any" = some none)
    (es3 : PySem.W.nsIn K mainGlobals "super" = some none)
    (eC0 : PySem.W.nsIn K mainGlobals "BadNumber" = some (some (.ref C_BadNumber)))
    (eB0 : PySem.W.subIn K (.ref C_BadNumber) (.type "BaseException") = some true)
    (eH0 : PySem.W.hasDictIn K C_BadNumber = true)
    (eT0 : PySem.W.typeIn K (.ref C_BadNumber) = some (.type "type"))
    (eC1 : PySem.W.nsIn K mainGlobals "BadTable" = some (some (.ref C_BadTable)))
    (eB1 : PySem.W.subIn K (.ref C_BadTable) (.type "BaseException") = some true)
    (eH1 : PySem.W.hasDictIn K C_BadTable = true)
    (eT1 : PySem.W.typeIn K (.ref C_BadTable) = some (.type "type"))
    (eC2 : PySem.W.nsIn K mainGlobals "MeteError" = some (some (.ref C_MeteError)))
    (eB2 : PySem.W.subIn K (.ref C_MeteError) (.type "BaseException") = some true)
    (eH2 : PySem.W.hasDictIn K C_MeteError = true)
    (eT2 : PySem.W.typeIn K (.ref C_MeteError) = some (.type "type"))
    (eL0 : K.lookup C_BadNumber = some (PySem.excClassObj nmE0 qE0 C_BadNumber NE0 bsE0 bmE0 true snE0 subE0 abE0 colE0 ddE0 m0E0 m1E0 m2E0 m3E0 m5E0 "ValueError.__new__"))
    (eR0 : PySem.HandSPX.refsVE bmE0 = true)
    (eS0 : PySem.W.findIn K (.ref C_BadNumber) "__setattr__" = some (some (.builtin "object.__setattr__")))
    (eG0 : PySem.W.findIn K (.ref C_BadNumber) "__getattribute__" = some (some (.builtin "BaseException.__getattribute__")))
    (eg0 : PySem.W.findIn K (.ref C_BadNumber) "__getattr__" = some none)
    (en0 : PySem.W.findIn K (.ref C_BadNumber) "number" = some none)
    (eI0 : PySem.W.findIn K (.ref C_BadNumber) "__init__" = some (some (.ref fE0)))
    (et0 : PySem.W.typeIn K (.ref fE0) = some (.type "function"))
    (ef0 : K.lookup fE0 = some ⟨ocE0, odE0, .func (PySem.W.ksFn "__init__" "BadNumber.__init__" (defArgs s_BadNumber_init) (defBody s_BadNumber_init) (defScope s_BadNumber_init) .none .none docE0 pmE0 anE0 (.ref cdaE0) ctE0 ccE0), oslE0⟩)
    (ec0 : PySem.W.codeIn K (.ref cdaE0) "BadNumber.__init__" = true)
    (eo0 : K.lookup ccE0 = some ⟨clE0, cldE0, .cell (some (.ref C_BadNumber)), cslE0⟩)
    (ed0 : K.lookup cdaE0 = some ⟨cclE0, cddE0, .fields vsE0, ccsE0⟩)
    (eq0 : vsE0[2]? = some (.str PG.main.file tfE0))
    (ep0 : PySem.W.ks_superIn K C_BadNumber C_BadNumber "__init__" = some (some (.builtin "ValueError.__init__")))
    (ev0 : PySem.W.subIn K (.ref C_BadNumber) (.type "ValueError") = some true)
    (em0 : PySem.W.mroIn K C_BadNumber (.ref C_BadNumber) = some true)
    (ek0 : PySem.W.keepIn K (.ref C_BadNumber) = true)
    (ea0 : PySem.W.findIn K (.ref C_BadNumber) "__class__" = some (some (.builtin "object.__class__")))
    (eb0 : PySem.W.mroIn K C_BadNumber (.type "object") = some true)
    (eL1 : K.lookup C_BadTable = some (PySem.excClassObj nmE1 qE1 C_BadTable NE1 bsE1 bmE1 true snE1 subE1 abE1 colE1 ddE1 m0E1 m1E1 m2E1 m3E1 m5E1 "ValueError.__new__"))
    (eR1 : PySem.HandSPX.refsVE bmE1 = true)
    (eS1 : PySem.W.findIn K (.ref C_BadTable) "__setattr__" = some (some (.builtin "object.__setattr__")))
    (eG1 : PySem.W.findIn K (.ref C_BadTable) "__getattribute__" = some (some (.builtin "BaseException.__getattribute__")))
    (eg1 : PySem.W.findIn K (.ref C_BadTable) "__getattr__" = some none)
    (en1 : PySem.W.findIn K (.ref C_BadTable) "fault" = some none)
    (eI1 : PySem.W.findIn K (.ref C_BadTable) "__init__" = some (some (.ref fE1)))
    (et1 : PySem.W.typeIn K (.ref fE1) = some (.type "function"))
    (ef1 : K.lookup fE1 = some ⟨ocE1, odE1, .func (PySem.W.ksFn "__init__" "BadTable.__init__" (defArgs s_BadTable_init) (defBody s_BadTable_init) (defScope s_BadTable_init) .none .none docE1 pmE1 anE1 (.ref cdaE1) ctE1 ccE1), oslE1⟩)
    (ec1 : PySem.W.codeIn K (.ref cdaE1) "BadTable.__init__" = true)
    (eo1 : K.lookup ccE1 = some ⟨clE1, cldE1, .cell (some (.ref C_BadTable)), cslE1⟩)
    (ed1 : K.lookup cdaE1 = some ⟨cclE1, cddE1, .fields vsE1, ccsE1⟩)
    (eq1 : vsE1[2]? = some (.str PG.main.file tfE1))
    (ep1 : PySem.W.ks_superIn K C_BadTable C_BadTable "__init__" = some (some (.builtin "ValueError.__init__")))
    (ev1 : PySem.W.subIn K (.ref C_BadTable) (.type "ValueError") = some true)
    (em1 : PySem.W.mroIn K C_BadTable (.ref C_BadTable) = some true)
    (ek1 : PySem.W.keepIn K (.ref C_BadTable) = true)
    (ea1 : PySem.W.findIn K (.ref C_BadTable) "__class__" = some (some (.builtin "object.__class__")))
    (eb1 : PySem.W.mroIn K C_BadTable (.type "object") = some true)
    (ez0_1 : PySem.W.subIn K (.ref C_BadNumber) (.ref C_BadTable) = some false)
    (ez0_1n : (Value.ref C_BadNumber == Value.ref C_BadTable) = false)
    (ez0_2 : PySem.W.subIn K (.ref C_BadNumber) (.ref C_MeteError) = some true)
    (ez0_2n : (Value.ref C_BadNumber == Value.ref C_MeteError) = false)
    (ey0_ValueError : PySem.W.subIn K (.ref C_BadNumber) (.type "ValueError") = some true)
    (ez1_2 : PySem.W.subIn K (.ref C_BadTable) (.ref C_MeteError) = some true)
    (ez1_2n : (Value.ref C_BadTable == Value.ref C_MeteError) = false)
    (ey1_ValueError : PySem.W.subIn K (.ref C_BadTable) (.type "ValueError") = some true)
    (ex0_0 : PySem.W.subIn K (.ref C_BadNumber) (.ref C_BadNumber) = some true)
    (ex1_0 : PySem.W.subIn K (.ref C_BadTable) (.ref C_BadNumber) = some false)
    (ex1_1 : PySem.W.subIn K (.ref C_BadTable) (.ref C_BadTable) = some true) :
    ∃ fd : FuncData, (∀ (s : Shared) (v : Value), BindsTo s fd ⟨[v], []⟩ [("_law_script", v)]) ∧ ∀ base : Heap, K.In base → base.Ns mainGlobals mg → FnOk PG w K mg base CX0 8 fa fd ["_law_script"] (spLaw K) := by
  have F0 := fun_mk (st := s_counts_met) l0 c0 k0
  have F1 := fun_mk (st := s_tries_to) l1 c1 k1
  have F2 := fun_mk (st := s_refuted) l2 c2 k2
  have F3 := fun_mk (st := s_Table___init) l3 c3 k3
  have F4 := fun_mk (st := s_Table_race) l4 c4 k4
  have F5 := fun_mk (st := s_Table_ends) l5 c5 k5
  have F6 := fun_mk (st := s_Table_word_after) l6 c6 k6
  have F7 := fun_mk (st := s_Table_stops) l7 c7 k7
  have F8 := fun_mk (st := s_Table_sound) l8 c8 k8
  have F9 := fun_mk (st := s_Table_longest) l9 c9 k9
  have F10 := fun_mk (st := s_Table_softened) l10 c10 k10
  have F11 := fun_mk (st := s_Table___eq) l11 c11 k11
  have F12 := fun_mk (st := s_quickest) l12 c12 k12
  have F13 := fun_mk (st := s_w_box) l13 c13 k13
  have F14 := fun_mk (st := s_w_take) l14 c14 k14
  have F15 := fun_mk (st := s_w_is_integer) l15 c15 k15
  have F16 := fun_mk (st := s_w_copy) l16 c16 k16
  have F17 := fun_mk (st := s_w_limit) l17 c17 k17
  have F18 := fun_mk (st := s_w_word) l18 c18 k18
  have F19 := fun_mk (st := s_w_entries) l19 c19 k19
  have F20 := fun_mk (st := s_w_last) l20 c20 k20
  have F21 := fun_mk (st := s_w_filled) l21 c21 k21
  have F22 := fun_mk (st := s_w_right) l22 c22 k22
  have F23 := fun_mk (st := s_w_stops) l23 c23 k23
  have F24 := fun_mk (st := s_w_false) l24 c24 k24
  have F25 := fun_mk (st := s_w_soft) l25 c25 k25
  have F26 := fun_mk (st := s_w_dict_right) l26 c26 k26
  have F27 := fun_mk (st := s_w_is) l27 c27 k27
  have F28 := fun_mk (st := s_w_wrong) l28 c28 k28
  have F29 := fun_mk (st := s_w_race_word) l29 c29 k29
  have F30 := fun_mk (st := s_w_race) l30 c30 k30
  have F31 := fun_mk (st := s_w_speaks) l31 c31 k31
  have F32 := fun_mk (st := s_w_quick_right) l32 c32 k32
  have F33 := fun_mk (st := s_w_race_right) l33 c33 k33
  have F34 := fun_mk (st := s_w_longer) l34 c34 k34
  have F35 := fun_mk (st := s_w_none_quicker) l35 c35 k35
  have F36 := fun_mk (st := s_w_compared) l36 c36 k36
  have F37 := fun_mk (st := s_w_refusal) l37 c37 k37
  have F38 := fun_mk (st := s_w_refused) l38 c38 k38
  have F39 := fun_mk (st := s_law) l39 c39 k39
  have e := hfa.symm.trans (PySem.W.mg_of X G a39)
  cases e
  let T : Tx K mg := {
    f_counts_met := f0, fd_counts_met := _, F_counts_met := F0,
    g_counts_met := PySem.W.mg_of X G a0,
    b_counts_met := F0.binds (ps := ["limit", "marks"]) fun _ _ _ _ _ _ us hl => match us, hl with | [_, _], _ => rfl,
    f_tries_to := f1, fd_tries_to := _, F_tries_to := F1,
    g_tries_to := PySem.W.mg_of X G a1,
    b_tries_to := F1.binds (ps := ["met", "marks", "count"]) fun _ _ _ _ _ _ us hl => match us, hl with | [_, _, _], _ => rfl,
    f_refuted := f2, fd_refuted := _, F_refuted := F2,
    g_refuted := PySem.W.mg_of X G a2,
    b_refuted := F2.binds (ps := ["reached", "missed", "word", "wrong"]) fun _ _ _ _ _ _ us hl => match us, hl with | [_, _, _, _], _ => rfl,
    f_Table___init := f3, fd_Table___init := _, F_Table___init := F3,
    b_Table___init := F3.binds (ps := ["self", "limit", "ends"]) fun _ _ _ _ _ _ us hl => match us, hl with | [_, _, _], _ => rfl,
    f_Table_race := f4, fd_Table_race := _, F_Table_race := F4,
    b_Table_race := F4.binds (ps := ["cls", "wrong"]) fun _ _ _ _ _ _ us hl => match us, hl with | [_, _], _ => rfl,
    f_Table_ends := f5, fd_Table_ends := _, F_Table_ends := F5,
    b_Table_ends := F5.binds (ps := ["self"]) fun _ _ _ _ _ _ us hl => match us, hl with | [_], _ => rfl,
    f_Table_word_after := f6, fd_Table_word_after := _, F_Table_word_after := F6,
    b_Table_word_after := F6.binds (ps := ["self", "tries"]) fun _ _ _ _ _ _ us hl => match us, hl with | [_, _], _ => rfl,
    f_Table_stops := f7, fd_Table_stops := _, F_Table_stops := F7,
    b_Table_stops := F7.binds (ps := ["self"]) fun _ _ _ _ _ _ us hl => match us, hl with | [_], _ => rfl,
    f_Table_sound := f8, fd_Table_sound := _, F_Table_sound := F8,
    b_Table_sound := F8.binds (ps := ["self", "wrong"]) fun _ _ _ _ _ _ us hl => match us, hl with | [_, _], _ => rfl,
    f_Table_longest := f9, fd_Table_longest := _, F_Table_longest := F9,
    b_Table_longest := F9.binds (ps := ["self", "wrong"]) fun _ _ _ _ _ _ us hl => match us, hl with | [_, _], _ => rfl,
    f_Table_softened := f10, fd_Table_softened := _, F_Table_softened := F10,
    b_Table_softened := F10.binds (ps := ["self", "wrong"]) fun _ _ _ _ _ _ us hl => match us, hl with | [_, _], _ => rfl,
    f_Table___eq := f11, fd_Table___eq := _, F_Table___eq := F11,
    b_Table___eq := F11.binds (ps := ["self", "other"]) fun _ _ _ _ _ _ us hl => match us, hl with | [_, _], _ => rfl,
    f_quickest := f12, fd_quickest := _, F_quickest := F12,
    g_quickest := PySem.W.mg_of X G a12,
    b_quickest := F12.binds (ps := ["wrong", "limit"]) fun _ _ _ _ _ _ us hl => match us, hl with | [_, _], _ => rfl,
    f_w_box := f13, fd_w_box := _, F_w_box := F13,
    g_w_box := PySem.W.mg_of X G a13,
    b_w_box := F13.binds (ps := ["_law_script", "_law_place"]) fun _ _ _ _ _ _ us hl => match us, hl with | [_, _], _ => rfl,
    f_w_take := f14, fd_w_take := _, F_w_take := F14,
    g_w_take := PySem.W.mg_of X G a14,
    b_w_take := F14.binds (ps := ["_law_box_here", "_law_size"]) fun _ _ _ _ _ _ us hl => match us, hl with | [_, _], _ => rfl,
    f_w_is_integer := f15, fd_w_is_integer := _, F_w_is_integer := F15,
    g_w_is_integer := PySem.W.mg_of X G a15,
    b_w_is_integer := F15.binds (ps := ["_law_value"]) fun _ _ _ _ _ _ us hl => match us, hl with | [_], _ => rfl,
    f_w_copy := f16, fd_w_copy := _, F_w_copy := F16,
    g_w_copy := PySem.W.mg_of X G a16,
    b_w_copy := F16.binds (ps := ["_law_ends"]) fun _ _ _ _ _ _ us hl => match us, hl with | [_], _ => rfl,
    f_w_limit := f17, fd_w_limit := _, F_w_limit := F17,
    g_w_limit := PySem.W.mg_of X G a17,
    b_w_limit := F17.binds (ps := ["_law_box_here"]) fun _ _ _ _ _ _ us hl => match us, hl with | [_], _ => rfl,
    f_w_word := f18, fd_w_word := _, F_w_word := F18,
    g_w_word := PySem.W.mg_of X G a18,
    b_w_word := F18.binds (ps := ["_law_box_here"]) fun _ _ _ _ _ _ us hl => match us, hl with | [_], _ => rfl,
    f_w_entries := f19, fd_w_entries := _, F_w_entries := F19,
    g_w_entries := PySem.W.mg_of X G a19,
    b_w_entries := F19.binds (ps := ["_law_box_here", "_law_limit_here"]) fun _ _ _ _ _ _ us hl => match us, hl with | [_, _], _ => rfl,
    f_w_last := f20, fd_w_last := _, F_w_last := F20,
    g_w_last := PySem.W.mg_of X G a20,
    b_w_last := F20.binds (ps := ["_law_limit_here", "_law_ends"]) fun _ _ _ _ _ _ us hl => match us, hl with | [_, _], _ => rfl,
    f_w_filled := f21, fd_w_filled := _, F_w_filled := F21,
    g_w_filled := PySem.W.mg_of X G a21,
    b_w_filled := F21.binds (ps := ["_law_box_here", "_law_limit_here", "_law_ends"]) fun _ _ _ _ _ _ us hl => match us, hl with | [_, _, _], _ => rfl,
    f_w_right := f22, fd_w_right := _, F_w_right := F22,
    g_w_right := PySem.W.mg_of X G a22,
    b_w_right := F22.binds (ps := ["_law_ends", "_law_wrong_here"]) fun _ _ _ _ _ _ us hl => match us, hl with | [_, _], _ => rfl,
    f_w_stops := f23, fd_w_stops := _, F_w_stops := F23,
    g_w_stops := PySem.W.mg_of X G a23,
    b_w_stops := F23.binds (ps := ["_law_limit_here", "_law_ends"]) fun _ _ _ _ _ _ us hl => match us, hl with | [_, _], _ => rfl,
    f_w_false := f24, fd_w_false := _, F_w_false := F24,
    g_w_false := PySem.W.mg_of X G a24,
    b_w_false := F24.binds (ps := ["_law_word_here", "_law_count", "_law_wrong_here"]) fun _ _ _ _ _ _ us hl => match us, hl with | [_, _, _], _ => rfl,
    f_w_soft := f25, fd_w_soft := _, F_w_soft := F25,
    g_w_soft := PySem.W.mg_of X G a25,
    b_w_soft := F25.binds (ps := ["_law_ends", "_law_stops_here", "_law_wrong_here"]) fun _ _ _ _ _ _ us hl => match us, hl with | [_, _, _], _ => rfl,
    f_w_dict_right := f26, fd_w_dict_right := _, F_w_dict_right := F26,
    g_w_dict_right := PySem.W.mg_of X G a26,
    b_w_dict_right := F26.binds (ps := ["_law_told", "_law_ends"]) fun _ _ _ _ _ _ us hl => match us, hl with | [_, _], _ => rfl,
    f_w_is := f27, fd_w_is := _, F_w_is := F27,
    g_w_is := PySem.W.mg_of X G a27,
    b_w_is := F27.binds (ps := ["_law_table", "_law_limit_here", "_law_ends"]) fun _ _ _ _ _ _ us hl => match us, hl with | [_, _, _], _ => rfl,
    f_w_wrong := f28, fd_w_wrong := _, F_w_wrong := F28,
    g_w_wrong := PySem.W.mg_of X G a28,
    b_w_wrong := F28.binds (ps := ["_law_box_here"]) fun _ _ _ _ _ _ us hl => match us, hl with | [_], _ => rfl,
    f_w_race_word := f29, fd_w_race_word := _, F_w_race_word := F29,
    g_w_race_word := PySem.W.mg_of X G a29,
    b_w_race_word := F29.binds (ps := ["_law_count", "_law_wrong_here", "_law_limit_here"]) fun _ _ _ _ _ _ us hl => match us, hl with | [_, _, _], _ => rfl,
    f_w_race := f30, fd_w_race := _, F_w_race := F30,
    g_w_race := PySem.W.mg_of X G a30,
    b_w_race := F30.binds (ps := ["_law_wrong_here", "_law_limit_here"]) fun _ _ _ _ _ _ us hl => match us, hl with | [_, _], _ => rfl,
    f_w_speaks := f31, fd_w_speaks := _, F_w_speaks := F31,
    g_w_speaks := PySem.W.mg_of X G a31,
    b_w_speaks := F31.binds (ps := ["_law_table", "_law_ends"]) fun _ _ _ _ _ _ us hl => match us, hl with | [_, _], _ => rfl,
    f_w_quick_right := f32, fd_w_quick_right := _, F_w_quick_right := F32,
    g_w_quick_right := PySem.W.mg_of X G a32,
    b_w_quick_right := F32.binds (ps := ["_law_wrong_here", "_law_limit_here", "_law_quick"]) fun _ _ _ _ _ _ us hl => match us, hl with | [_, _, _], _ => rfl,
    f_w_race_right := f33, fd_w_race_right := _, F_w_race_right := F33,
    g_w_race_right := PySem.W.mg_of X G a33,
    b_w_race_right := F33.binds (ps := ["_law_wrong_here"]) fun _ _ _ _ _ _ us hl => match us, hl with | [_], _ => rfl,
    f_w_longer := f34, fd_w_longer := _, F_w_longer := F34,
    g_w_longer := PySem.W.mg_of X G a34,
    b_w_longer := F34.binds (ps := ["_law_table", "_law_quick", "_law_run", "_law_wrong_here"]) fun _ _ _ _ _ _ us hl => match us, hl with | [_, _, _, _], _ => rfl,
    f_w_none_quicker := f35, fd_w_none_quicker := _, F_w_none_quicker := F35,
    g_w_none_quicker := PySem.W.mg_of X G a35,
    b_w_none_quicker := F35.binds (ps := ["_law_table", "_law_quick", "_law_limit_here", "_law_wrong_here"]) fun _ _ _ _ _ _ us hl => match us, hl with | [_, _, _, _], _ => rfl,
    f_w_compared := f36, fd_w_compared := _, F_w_compared := F36,
    g_w_compared := PySem.W.mg_of X G a36,
    b_w_compared := F36.binds (ps := ["_law_limit_here", "_law_ends", "_law_wrong_here", "_law_quick"]) fun _ _ _ _ _ _ us hl => match us, hl with | [_, _, _, _], _ => rfl,
    f_w_refusal := f37, fd_w_refusal := _, F_w_refusal := F37,
    g_w_refusal := PySem.W.mg_of X G a37,
    b_w_refusal := F37.binds (ps := ["_law_way", "_law_wrong_here", "_law_limit_here"]) fun _ _ _ _ _ _ us hl => match us, hl with | [_, _, _], _ => rfl,
    f_w_refused := f38, fd_w_refused := _, F_w_refused := F38,
    g_w_refused := PySem.W.mg_of X G a38,
    b_w_refused := F38.binds (ps := ["_law_box_here", "_law_wrong_here", "_law_limit_here"]) fun _ _ _ _ _ _ us hl => match us, hl with | [_, _, _], _ => rfl,
    f_law := fa, fd_law := _, F_law := F39,
    g_law := PySem.W.mg_of X G a39,
    b_law := F39.binds (ps := ["_law_script"]) fun _ _ _ _ _ _ us hl => match us, hl with | [_], _ => rfl,
    m_len := PySem.W.mg_none_of X G z0,
    m_range := PySem.W.mg_none_of X G z1,
    m_isinstance := PySem.W.mg_none_of X G z2,
    m_int := PySem.W.mg_none_of X G z3,
    m_bool := PySem.W.mg_none_of X G z4,
    m_list := PySem.W.mg_none_of X G z5,
    m_tuple := PySem.W.mg_none_of X G z6,
    m_dict := PySem.W.mg_none_of X G z7,
    m_max := PySem.W.mg_none_of X G z8,
    m_min := PySem.W.mg_none_of X G z9,
    m_sum := PySem.W.mg_none_of X G z10,
    m_sorted := PySem.W.mg_none_of X G z11,
    m_ValueError := PySem.W.mg_none_of X G z12,
    C_Table := C_Table, gC_Table := PySem.W.mg_of X G o0g, oc_Table := ⟨⟨o0a, o0b, o0c, o0d⟩, o0e, o0f, o0h, o0i, o0j⟩,
    ne_Table := o0q,
    na_Table_limit := o0n0,
    na_Table_marks := o0n1,
    mk_Table := ⟨o0k, a3, fn3, o0l⟩,
    cp_Table_race := ps4, cm_Table_race := ⟨a4, ⟨_, as4⟩, fi4⟩,
    me_Table_ends := ⟨a5, fn5, k5⟩,
    me_Table_word_after := ⟨a6, fn6, k6⟩,
    me_Table_stops := ⟨a7, fn7, k7⟩,
    me_Table_sound := ⟨a8, fn8, k8⟩,
    me_Table_longest := ⟨a9, fn9, k9⟩,
    me_Table_softened := ⟨a10, fn10, k10⟩,
    me_Table___eq := ⟨a11, fn11, k11⟩,
    cr_Table := ⟨o0x, o0y⟩,
    si_Table := o0s, is_Table := o0t,
    c_MOST_TRIES := ⟨_, PySem.W.mg_of X G z13⟩,
    c_MOST_RACE := ⟨_, PySem.W.mg_of X G z14⟩,
    a_WORDS := at15, c_WORDS := PySem.W.mg_of X G z15, t_WORDS := ⟨_, _, _, y15, rfl, rfl, (le_size (by simp)), by repeat constructor⟩,
    C_BadNumber := C_BadNumber, gC_BadNumber := PySem.W.mg_of X G eC0,
    C_BadTable := C_BadTable, gC_BadTable := PySem.W.mg_of X G eC1,
    C_MeteError := C_MeteError, gC_MeteError := PySem.W.mg_of X G eC2,
    Z_BadNumber := fun w => ⟨⟨fE0, ccE0, cdaE0, _, _, _, _, _, _, _, _, _, sh_BadNumber, ⟨⟨_, _, _, _, _, _, _, _, _, _, _, _, _, _, _, eL0, eR0⟩, eS0, eI0, et0, ⟨_, _, _, eo0⟩, ⟨_, _, _, _, _, ed0, eq0⟩, ep0, ev0, em0, es2, PySem.W.mg_none_of X G es3, rfl⟩, ef0, ec0⟩, PySem.W.mg_of X G eC0, ek0, en0, eB0, eT0⟩,
    X_BadNumber := ⟨eG0, eg0, eB0, eH0, ea0, es0, es1, eb0⟩,
    xf_BadNumber := ⟨eG0, eg0, eB0, eH0⟩,
    Z_BadTable := fun w => ⟨⟨fE1, ccE1, cdaE1, _, _, _, _, _, _, _, _, _, sh_BadTable, ⟨⟨_, _, _, _, _, _, _, _, _, _, _, _, _, _, _, eL1, eR1⟩, eS1, eI1, et1, ⟨_, _, _, eo1⟩, ⟨_, _, _, _, _, ed1, eq1⟩, ep1, ev1, em1, es2, PySem.W.mg_none_of X G es3, rfl⟩, ef1, ec1⟩, PySem.W.mg_of X G eC1, ek1, en1, eB1, eT1⟩,
    X_BadTable := ⟨eG1, eg1, eB1, eH1, ea1, es0, es1, eb1⟩,
    xf_BadTable := ⟨eG1, eg1, eB1, eH1⟩,
    kit_BadNumber_BadTable := Er.kit_refs eH1 eT1 ez0_1 ez0_1n,
    kit_BadNumber_MeteError := Er.kit_refs eH2 eT2 ez0_2 ez0_2n,
    kit_BadNumber_ValueError := Er.kit_typ (by decide +kernel) ey0_ValueError,
    kit_BadTable_MeteError := Er.kit_refs eH2 eT2 ez1_2 ez1_2n,
    kit_BadTable_ValueError := Er.kit_typ (by decide +kernel) ey1_ValueError,
    exm_BadNumber_BadNumber := PySem.W.exm_ref eB0 eH0 eT0 ex0_0,
    exm_BadTable_BadNumber := PySem.W.exm_ref eB0 eH0 eT0 ex1_0,
    exm_BadTable_BadTable := PySem.W.exm_ref eB1 eH1 eT1 ex1_1 }
  refine ⟨T.fd_law, fun s v => .of_eq rfl, fun base _ _ => ?_⟩
  exact law_of T
end My
open PySem PySem.W PyProof.Rows
set_option maxHeartbeats 0 in
theorem PySem.Challenge.cw_metehouse_k42_whole_quickest_races_holds : PySem.Challenge.rw_metehouse_k42_whole_quickest_races.Holds := by
  w_on; o_law; k_head; (case hw => w_witness2)
  k_fill
  refine L2.walk_of (l := PySem.Challenge.rw_metehouse_k42_whole_quickest_races) (n := 63) (k := 8) (x := "_law_script") (CX := fun _ => L2.CX0) (sp := fun w => My.spLaw _) rfl (by decide) rfl ⟨rfl, by decide, by decide⟩ (fun w h Y => PySem.W.kIn_of Y) ?F (fun _ _ a ns hl _ hS => ⟨a, ns, rfl, hS, hl, fun _ => rfl⟩) (fun _ _ _ _ _ h => h)
  case F =>
    intro w mg fa h KX G hmg
    refine' My.all_mk KX G hmg ?o0g ?a0 ?l0 ?c0 ?k0 ?a1 ?l1 ?c1 ?k1 ?a2 ?l2 ?c2 ?k2 ?a3 ?l3 ?c3 ?k3 ?a4 ?as4 ?l4 ?c4 ?k4 ?a5 ?l5 ?c5 ?k5 ?a6 ?l6 ?c6 ?k6 ?a7 ?l7 ?c7 ?k7 ?a8 ?l8 ?c8 ?k8 ?a9 ?l9 ?c9 ?k9 ?a10 ?l10 ?c10 ?k10 ?a11 ?l11 ?c11 ?k11 ?a12 ?l12 ?c12 ?k12 ?a13 ?l13 ?c13 ?k13 ?a14 ?l14 ?c14 ?k14 ?a15 ?l15 ?c15 ?k15 ?a16 ?l16 ?c16 ?k16 ?a17 ?l17 ?c17 ?k17 ?a18 ?l18 ?c18 ?k18 ?a19 ?l19 ?c19 ?k19 ?a20 ?l20 ?c20 ?k20 ?a21 ?l21 ?c21 ?k21 ?a22 ?l22 ?c22 ?k22 ?a23 ?l23 ?c23 ?k23 ?a24 ?l24 ?c24 ?k24 ?a25 ?l25 ?c25 ?k25 ?a26 ?l26 ?c26 ?k26 ?a27 ?l27 ?c27 ?k27 ?a28 ?l28 ?c28 ?k28 ?a29 ?l29 ?c29 ?k29 ?a30 ?l30 ?c30 ?k30 ?a31 ?l31 ?c31 ?k31 ?a32 ?l32 ?c32 ?k32 ?a33 ?l33 ?c33 ?k33 ?a34 ?l34 ?c34 ?k34 ?a35 ?l35 ?c35 ?k35 ?a36 ?l36 ?c36 ?k36 ?a37 ?l37 ?c37 ?k37 ?a38 ?l38 ?c38 ?k38 ?a39 ?l39 ?c39 ?k39 ?z0 ?z1 ?z2 ?z3 ?z4 ?z5 ?z6 ?z7 ?z8 ?z9 ?z10 ?z11 ?z12 ?o0a ?o0b ?o0c ?o0d ?o0e ?o0f ?o0h ?o0i ?o0j ?o0q ?o0n0 ?o0n1 ?o0k ?o0l ?fn3 ?fi4 ?fn5 ?fn6 ?fn7 ?fn8 ?fn9 ?fn10 ?fn11 ?o0x ?o0y ?o0s ?o0t ?z13 ?z14 ?z15 ?y15 ?es0 ?es1 ?es2 ?es3 ?eC0 ?eB0 ?eH0 ?eT0 ?eC1 ?eB1 ?eH1 ?eT1 ?eC2 ?eB2 ?eH2 ?eT2 ?eL0 ?eR0 ?eS0 ?eG0 ?eg0 ?en0 ?eI0 ?et0 ?ef0 ?ec0 ?eo0 ?ed0 ?eq0 ?ep0 ?ev0 ?em0 ?ek0 ?ea0 ?eb0 ?eL1 ?eR1 ?eS1 ?eG1 ?eg1 ?en1 ?eI1 ?et1 ?ef1 ?ec1 ?eo1 ?ed1 ?eq1 ?ep1 ?ev1 ?em1 ?ek1 ?ea1 ?eb1 ?ez0_1 ?ez0_1n ?ez0_2 ?ez0_2n ?ey0_ValueError ?ez1_2 ?ez1_2n ?ey1_ValueError ?ex0_0 ?ex1_0 ?ex1_1
    (case o0g => k_is)
    (case a0 => k_is)
    (case l0 => k_is)
    (case c0 => k_is)
    (case k0 => k_is)
    (case a1 => k_is)
    (case l1 => k_is)
    (case c1 => k_is)
    (case k1 => k_is)
    (case a2 => k_is)
    (case l2 => k_is)
    (case c2 => k_is)
    (case k2 => k_is)
    (case a3 => k_is)
    (case l3 => k_is)
    (case c3 => k_is)
    (case k3 => k_is)
    (case a4 => k_is)
    (case as4 => k_is)
    (case l4 => k_is)
    (case c4 => k_is)
    (case k4 => k_is)
    (case a5 => k_is)
    (case l5 => k_is)
    (case c5 => k_is)
    (case k5 => k_is)
    (case a6 => k_is)
    (case l6 => k_is)
    (case c6 => k_is)
    (case k6 => k_is)
    (case a7 => k_is)
    (case l7 => k_is)
    (case c7 => k_is)
    (case k7 => k_is)
    (case a8 => k_is)
    (case l8 => k_is)
    (case c8 => k_is)
    (case k8 => k_is)
    (case a9 => k_is)
    (case l9 => k_is)
    (case c9 => k_is)
    (case k9 => k_is)
    (case a10 => k_is)
    (case l10 => k_is)
    (case c10 => k_is)
    (case k10 => k_is)
    (case a11 => k_is)
    (case l11 => k_is)
    (case c11 => k_is)
    (case k11 => k_is)
    (case a12 => k_is)
    (case l12 => k_is)
    (case c12 => k_is)
    (case k12 => k_is)
    (case a13 => k_is)
    (case l13 => k_is)
    (case c13 => k_is)
    (case k13 => k_is)
    (case a14 => k_is)
    (case l14 => k_is)
    (case c14 => k_is)
    (case k14 => k_is)
    (case a15 => k_is)
    (case l15 => k_is)
    (case c15 => k_is)
    (case k15 => k_is)
    (case a16 => k_is)
    (case l16 => k_is)
    (case c16 => k_is)
    (case k16 => k_is)
    (case a17 => k_is)
    (case l17 => k_is)
    (case c17 => k_is)
    (case k17 => k_is)
    (case a18 => k_is)
    (case l18 => k_is)
    (case c18 => k_is)
    (case k18 => k_is)
    (case a19 => k_is)
    (case l19 => k_is)
    (case c19 => k_is)
    (case k19 => k_is)
    (case a20 => k_is)
    (case l20 => k_is)
    (case c20 => k_is)
    (case k20 => k_is)
    (case a21 => k_is)
    (case l21 => k_is)
    (case c21 => k_is)
    (case k21 => k_is)
    (case a22 => k_is)
    (case l22 => k_is)
    (case c22 => k_is)
    (case k22 => k_is)
    (case a23 => k_is)
    (case l23 => k_is)
    (case c23 => k_is)
    (case k23 => k_is)
    (case a24 => k_is)
    (case l24 => k_is)
    (case c24 => k_is)
    (case k24 => k_is)
    (case a25 => k_is)
    (case l25 => k_is)
    (case c25 => k_is)
    (case k25 => k_is)
    (case a26 => k_is)
    (case l26 => k_is)
    (case c26 => k_is)
    (case k26 => k_is)
    (case a27 => k_is)
    (case l27 => k_is)
    (case c27 => k_is)
    (case k27 => k_is)
    (case a28 => k_is)
    (case l28 => k_is)
    (case c28 => k_is)
    (case k28 => k_is)
    (case a29 => k_is)
    (case l29 => k_is)
    (case c29 => k_is)
    (case k29 => k_is)
    (case a30 => k_is)
    (case l30 => k_is)
    (case c30 => k_is)
    (case k30 => k_is)
    (case a31 => k_is)
    (case l31 => k_is)
    (case c31 => k_is)
    (case k31 => k_is)
    (case a32 => k_is)
    (case l32 => k_is)
    (case c32 => k_is)
    (case k32 => k_is)
    (case a33 => k_is)
    (case l33 => k_is)
    (case c33 => k_is)
    (case k33 => k_is)
    (case a34 => k_is)
    (case l34 => k_is)
    (case c34 => k_is)
    (case k34 => k_is)
    (case a35 => k_is)
    (case l35 => k_is)
    (case c35 => k_is)
    (case k35 => k_is)
    (case a36 => k_is)
    (case l36 => k_is)
    (case c36 => k_is)
    (case k36 => k_is)
    (case a37 => k_is)
    (case l37 => k_is)
    (case c37 => k_is)
    (case k37 => k_is)
    (case a38 => k_is)
    (case l38 => k_is)
    (case c38 => k_is)
    (case k38 => k_is)
    (case a39 => k_is)
    (case l39 => k_is)
    (case c39 => k_is)
    (case k39 => k_is)
    (case z0 => k_is)
    (case z1 => k_is)
    (case z2 => k_is)
    (case z3 => k_is)
    (case z4 => k_is)
    (case z5 => k_is)
    (case z6 => k_is)
    (case z7 => k_is)
    (case z8 => k_is)
    (case z9 => k_is)
    (case z10 => k_is)
    (case z11 => k_is)
    (case z12 => k_is)
    (case o0a => k_is)
    (case o0b => k_is)
    (case o0c => k_is)
    (case o0d => k_is)
    (case o0e => k_is)
    (case o0f => k_is)
    (case o0h => k_is)
    (case o0i => k_is)
    (case o0j => k_is)
    (case o0q => k_is)
    (case o0n0 => k_is)
    (case o0n1 => k_is)
    (case o0k => k_is)
    (case o0l => k_is)
    (case fn3 => k_is)
    (case fi4 => k_is)
    (case fn5 => k_is)
    (case fn6 => k_is)
    (case fn7 => k_is)
    (case fn8 => k_is)
    (case fn9 => k_is)
    (case fn10 => k_is)
    (case fn11 => k_is)
    (case o0x => k_is)
    (case o0y => k_is)
    (case o0s => k_is)
    (case o0t => k_is)
    (case z13 => k_is)
    (case z14 => k_is)
    (case z15 => k_is)
    (case y15 => k_is)
    (case es0 => k_is)
    (case es1 => k_is)
    (case es2 => k_is)
    (case es3 => k_is)
    (case eC0 => k_is)
    (case eB0 => k_is)
    (case eH0 => k_is)
    (case eT0 => k_is)
    (case eC1 => k_is)
    (case eB1 => k_is)
    (case eH1 => k_is)
    (case eT1 => k_is)
    (case eC2 => k_is)
    (case eB2 => k_is)
    (case eH2 => k_is)
    (case eT2 => k_is)
    (case eL0 => k_is)
    (case eR0 => decide +kernel)
    (case eS0 => k_is)
    (case eG0 => k_is)
    (case eg0 => k_is)
    (case en0 => k_is)
    (case eI0 => k_is)
    (case et0 => k_is)
    (case ef0 => k_is)
    (case ec0 => k_is)
    (case eo0 => k_is)
    (case ed0 => k_is)
    (case eq0 => rfl)
    (case ep0 => ks_is)
    (case ev0 => k_is)
    (case em0 => k_is)
    (case ek0 => k_is)
    (case ea0 => k_is)
    (case eb0 => k_is)
    (case eL1 => k_is)
    (case eR1 => decide +kernel)
    (case eS1 => k_is)
    (case eG1 => k_is)
    (case eg1 => k_is)
    (case en1 => k_is)
    (case eI1 => k_is)
    (case et1 => k_is)
    (case ef1 => k_is)
    (case ec1 => k_is)
    (case eo1 => k_is)
    (case ed1 => k_is)
    (case eq1 => rfl)
    (case ep1 => ks_is)
    (case ev1 => k_is)
    (case em1 => k_is)
    (case ek1 => k_is)
    (case ea1 => k_is)
    (case eb1 => k_is)
    (case ez0_1 => k_is)
    (case ez0_1n => rfl)
    (case ez0_2 => k_is)
    (case ez0_2n => rfl)
    (case ey0_ValueError => k_is)
    (case ez1_2 => k_is)
    (case ez1_2n => rfl)
    (case ey1_ValueError => k_is)
    (case ex0_0 => k_is)
    (case ex1_0 => k_is)
    (case ex1_1 => k_is)
